import PyProof.Rows.All
import Wide.All
import OpenK.AllK
import Wide.FinOn
import PyProof.EqAt
import PyProof.EqKinds
import PyProof.TupleCall
import KE.BitLaws
import Open.SpecLaws
import KE.OsHead
import KE.OsGo
import PySem.Challenge.RW_roughways_s01_answers
import KE.KLam
import KE.KMinKey
import KE.KSortKeyAny
import KE.KNestM
import PyProof.ZipIter
import PyProof.TupleIter
import KE.KRevIter
import PyProof.ListRange
set_option Elab.async false
set_option linter.all false
set_option compiler.extract_closed false
set_option maxRecDepth 100000
set_option maxHeartbeats 4000000
open Array renaming getElem?_eq_getElem->Sz,getElem?_eq_none->XF,getElem?_toList->XE,length_toList->JE
open Bool renaming and_eq_true->DN,and_false->PZ,eq_false_iff->JD,eq_iff_iff->DQ,false->AF,false_and->Hq,false_eq_true->B4,false_ne_true->Dl,false_or->NJ,not_eq_false->XD,not_eq_false'->PY,not_eq_true->Sy,not_eq_true'->Gq,not_false->DD,not_true->DC,or_eq_true->Lh,true->AC,true_and->Fu
open Classical renaming byContradiction->NI,choose_spec->XC
open False renaming elim->GA
open ForInStep renaming yield->PX
open Int renaming toNat->FL,toNat_natCast->Ep
open Lean.Parser.Tactic renaming simpLemma->As
open Lean renaming TSyntax->DB,mkIdent->AR
open List.Nodup renaming mem_erase_iff->Sx
open List.Pairwise renaming map->XB
open List renaming all_cons->IY,all_eq_true->FR,all_map->PV,any_cons->IX,any_eq_false->Sw,any_eq_true->Eo,any_map->Gp,any_toArray->XA,append_assoc->Jq,append_nil->BF,cons_append->Ak,contains_iff_mem->Ft,dropLast_concat->Sv,drop_drop->NH,drop_eq_getElem_cons->Go,drop_eq_nil_iff->PU,drop_eq_nil_of_le->Lg,drop_succ_cons->W9,drop_zero->Su,eq_of_mem_replicate->W8,ext_getElem->Ss,ext_getElem?->Sr,filter->Sq,filterMap_append->So,filterMap_cons->Ho,filter_append->Hn,filter_congr->PR,filter_cons->Ec,filter_eq_self->PQ,filter_filter->W7,filter_map->NG,filter_sublist->W6,find?_append->Sn,find?_cons->Gn,find?_eq_none->Lf,find?_eq_some_iff_getElem->Sm,find?_some->NF,flatten_cons->NE,foldl->PP,foldl_cons->PN,forIn_cons->Sl,forIn_nil->PM,getD_eq_getElem?_getD->DA,getElem?_append_left->F9,getElem?_append_right->F8,getElem?_cons_succ->Ba,getElem?_cons_zero->Bo,getElem?_drop->PJ,getElem?_eq_getElem->AX,getElem?_eq_none->HD,getElem?_eq_some_iff->AY,getElem?_map->BC,getElem?_of_mem->DP,getElem?_range->Kn,getElem?_replicate->ND,getElem?_reverse->Wz,getElem?_set_ne->Km,getElem?_set_self->Le,getElem?_take->NC,getElem?_zipWith->PH,getElem?_zip_eq_some->JC,getElem_inj->Sk,getElem_mem->Wy,getElem_of_mem->Wx,getElem_range->JB,getLast?_append->Ww,getLast?_eq_getElem?->PD,getLast?_map->Kl,length_append->BZ,length_cons->AS,length_drop->Fs,length_eq_zero_iff->Wv,length_eraseIdx->PB,length_filterMap_le->Wu,length_filter_le->Fq,length_map->AL,length_nil->Am,length_pos_iff->Fb,length_pos_of_mem->Ws,length_range->DS,length_replicate->NB,length_reverse->NA,length_set->F7,length_take->FQ,lookup->Jp,lookup_cons->ED,map->Ld,map_append->Dd,map_congr_left->Kk,map_cons->Ax,map_drop->O9,map_eq_nil_iff->Wq,map_id->O8,map_map->Dc,map_nil->BS,map_reverse->Wp,map_set->JA,mem_append->Az,mem_append_left->FP,mem_append_right->Jo,mem_cons->Aj,mem_cons_of_mem->Eb,mem_cons_self->FK,mem_filter->EJ,mem_filterMap->M9,mem_iff_getElem->Wo,mem_map->Du,mem_of_find?_eq_some->Wn,mem_of_getElem?->Ar,mem_of_mem_erase->Lc,mem_of_mem_eraseIdx->Sj,mem_of_mem_take->HC,mem_or_eq_of_mem_set->Lb,mem_range->EC,mem_singleton->Av,mem_take_iff_getElem->Wm,nil_append->Ah,nodup_append->I0,nodup_cons->Gm,nodup_nil->M8,nodup_range->Si,not_mem_nil->BW,of_mem_zip->M7,range->Ai,range_succ->Jn,range_succ_eq_map->Sh,replicate->Ay,replicate_succ->Kj,reverse_append->Sg,reverse_cons->Wl,set_cons_succ->Bn,set_cons_zero->Bm,size_toArray->Dk,sum_cons->Sf,take_add_one->Iz,take_length->EI,take_of_length_le->La,take_succ_cons->M6,take_zero->Se,zipIdx_cons->Sd,zipWith->O7,zip_cons_cons->O6
open List.cons renaming injEq->B3
open Nat renaming add_assoc->LZ,add_sub_cancel->Wk,add_sub_cancel_left->O1,add_zero->Hm,eq_zero_or_pos->Sc,le_add_right->Iy,le_antisymm->M5,le_of_eq->LY,le_of_lt->O0,le_of_not_lt->Oz,le_of_succ_le->Oy,le_refl->Au,le_succ->Ox,le_trans->Dj,lt_irrefl->F6,lt_of_le_of_lt->Wj,lt_of_lt_of_le->E5,lt_of_succ_lt->Wi,lt_or_ge->Ow,lt_succ_of_lt->Sb,lt_succ_self->M4,lt_trans->Ki,min_eq_left->Ix,min_eq_right->Ov,min_self->M3,mod_eq_of_lt->Ou,ne_of_gt->IW,ne_of_lt->DU,reduceAdd->Aq,reduceSub->C9,strongRecOn->Kh,sub_self->IV,zero_add->Gk,zero_le->DR,zero_min->M0
open Ne renaming symm->Fp
open Option renaming any_some->Wh,getD_none->Sa,isSome_iff_exists->HB,isSome_map->SY,isSome_none->Wg,isSome_some->SX,map_eq_none_iff->Wf,map_eq_some_iff->Hl,map_some->EH,none->AB,some->AA
open Option.some renaming inj->Ap,injEq->Cq
open Or renaming inl->Dr,inr->F5
open Prod renaming ext->Mz,mk->AE
open Prod.mk renaming inj->My
open PyFlat renaming call->SW,calls->LX,rows->Ot
open PyProof.Rows renaming AllBare->Kg,IntsAre->LV,Subscript_->Oq,boot_range->Op,callWith_type1->Hk,envOfC->Hj,iadd_int->We,subscriptTail->SV,subscriptTail_builtinR->Wd
open PyProof renaming noPylong_small->Wc
open PySem renaming Addr->AD,Around->Fa,DictEntry->Ka,Expr->EU,FuncData->IU,Heap->BI,IsPair->Ea,IsRangeIter->Oc,IsZip->Fn,NameKind->GZ,Paired->Hi,Program->ET,PyData->Iv,Scope->Fz,Shared->AO,Stmt->Af,Value->AI,Within->R1,World->Do,ZipApart->LR,assign->KR,assignEach->LQ,attributeBase->KQ,backTo->EG,backToKw->Jj,behindInMarks->IT,binaryOp->Ji,bindArgs->LP,bootBuiltins->Fm,boot_len->EB,builtinLookup_eq_fast->V0,builtinsNs->Mt,cLine->ES,callType_codes->R0,callWith->Jh,call_meets->LO,call_meetsIn->OV,cellsFrom->En,closureFor->Ms,codeAny->IS,codeAny_builtin->OU,codeAny_mono->OT,compEnvC->Gj,compareOp->Em,eval->E3,evalArgs_none->Vz,foldedSetIterable->OS,getItem->LN,getMethod->KP,holding->GY,keywordEach->Jg,letOwnedTupleGo->OR,mainGlobals->DG,mem_of_lookup->Fy,model->AU,notedBy->LM,nums_intItems->Rz,plainId_quiet->KO,pushCells->Jf,pushCells_keeps->OQ,pyNext->Hd,rawInt->GX,recursionLimit->Mr,sizeLine->Ae,sizeLine_eq->IR,sliceBounds->KN,standAt->IQ,starEach->BE,storedH->Je,subscripted->OP,swapsWith->Jd,sysModules->E2,tupleKind->Ez,tupleKind_room_in1->LL,typeIs_none->OO,typeLookup->Mq,valueAt->Ir,wpAny->AM,wpAny_Call_Name_kw->G8,wpAny_Call_method->ON,wpAny_Name->Mp,wpAny_bind->AT,wpAny_callSpecial?_slot->OM,wpAny_call_entry->Mo,wpAny_execs_nil->OL,wpAny_field->G7,wpAny_holding->Jc,wpAny_isTrue_Compare1->Vy,wpAny_ite_split->OK,wpAny_letOwnedTupleGo_zip->Vx,wpAny_loadName_local->Ry,wpAny_mono->Gi,wpAny_newObj_type->Rx,wpAny_notOrdered_dict->Vw,wpAny_onRaise->Rw,wpAny_passesOwn->KL,wpAny_pure->BM,wpAny_pyIter_list->Mn,wpAny_pyIter_rangeiter->Vv,wpAny_pyIter_zip->OJ,wpAny_pyNext_list_end->Rv,wpAny_pyNext_list_item->Ru,wpAny_pyNext_range_end->Vu,wpAny_rule->Mm,wpAny_seqItems->IP,wpAny_setField_rec->Ml,wpAny_specialOf->Mj,wpAny_standAt->Mi,wpAny_truthy_bool->Iq,wpAny_typeOf->Mh
open PySem.Around renaming under->SU,under_plainId->Oo
open PySem.Builtin.Dict renaming addKeywords->Wb,pairItems->Wa,selfAndRest->WZ,updateFrom->On
open PySem.Builtin.List renaming listExtendWith->Om,listItems->WY,listLengthHint->WX,listSameRef->WW,listTooLong->Ol
open PySem.Builtin.Range renaming rangeSize->SS
open PySem.Builtin.SmallTypes renaming nextOf->Ke,ownedTupleHandOut->WV,ownedTupleIsFree->Oj
open PySem.Calls renaming Name_function_global->WU,callWith_builtin->SR,evalArgs_plain->SQ,spliced_cons->Kc,spliced_nil->Kb
open PySem.Challenge renaming rw_roughways_s01_answers->Iw
open PySem.Code renaming isFrame->SO
open PySem.Expr renaming Call->Oi
open PySem.F renaming args_dict_get_2->WT,args_dict_init_2->WS,args_tuple_iterator_next_1->WR,entry_dict_get->WQ,entry_dict_init->WP,entry_tuple_iterator_next->WO,kt_called_dict->WN,kt_typeCall_dict_1->WM,plainAttrs_dict->Oh,plainAttrs_list->FJ,slot_NoneType_hash->Og,slot_dict_delitem->WL,slot_dict_get->SN,slot_dict_getitem->WK,slot_dict_pop->WJ,slot_list_append->Fo,slot_list_extend->Of,slot_list_getattribute->SM,slot_list_remove->WI,slot_tuple_iterator_next->Oe,slot_zip_next->Od,type_list_append->F0,type_list_extend->SK
open PySem.Heap.DictOf renaming new->WH
open PySem.Heap renaming SameBut->Mx,get?_push_of_some->BQ,get?_push_size->Dq,get?_update_other->SJ,get?_update_self->SI,lt_size->BG,size_push->FI
open PySem.Heap.SameBut renaming update->WG
open PySem.IsRange renaming new->SH
open PySem.NameKind renaming cell->SG,free->LU
open PySem.Obj renaming data_mapFields->WF,mapSeq->KZ
open PySem.Paired renaming length->Hh
open PySem.PassesOwn renaming never->D0
open PySem.PyData renaming canLayAll0->SF,depthAll->SE,eqv->KY,eqvAll->Mw
open PySem.SeqAt renaming EqAt->Ob,in_listAt->V6,shaped->Oa
open PySem.SeqAt.EqAt renaming int_none->WE,int_str->WD,none_int->WC,none_str->WB,same->V9,str_int->V8,str_none->V7
open PySem.Str renaming ofString->KW
open PySem.Value renaming bool->Hg,int->E4,none->Hf,ref->Bf,str->Mv,type->KU
open PySem.W renaming Frag->Ao,callWith_K->OZ,callWith_K0->V5,cellsFrom_some->V4,codeHdIn->LS,codeHd_of_K->SD,codeIn->OY,emptyDict->Iu,findIn->HA,fnOf->Jm,handedIn->V3,hasDictIn->R9,instObj->Jl,isFn->Mu,keepIn->G9,kla_fn->R8,kla_obj->KS,ktu_apart->V2,lookIn->OX,makesIn->R7,methodCall_KW->R6,methodObj->R5,mg_none_of->C8,mg_of->He,nsIn->Dz,plainGet->OW,plainGet_of->R4,plainOver->V1,tabObj->Jk,takerIn->R3
open PyVbwsal renaming answers->OI,answers_asked->Rt,shape->IN,whole->Rs
open Sum renaming inl->AW,inr->DL
open Sum.inl renaming inj->G6
open True renaming intro->G5
open Vbwsal renaming Dist->DJ,Door->IM,Field->Ey,Ground->Aw,Layer->D6,St->Eg,Walker->DI,alwaysOpen->Gh,around->BK,backFrom->Fx,cellAt->A7,cellIn->Dy,cellIn'->LK,costOf->Fl,costsFrom->A0,costsTo->EF,crosses->EA,doorCells->GW,earliest->IL,field->KJ,follows->GV,high->G4,inR->KI,isOpen->GU,later->GS,layerOn->ER,layers->Ip,leftAt->FZ,leftFrom->Ex,listed->Jb,mayBe->EZ,mayRest->Gg,mended->IK,nextOf->EQ,onGround->Ja,onWalker->Mg,othersOf->Ac,passes->D9,planned->IJ,plus->Cp,proves->Mf,ranged->II,readRow->FO,readRows->Me,relax->KH,rests->Hc,setWalker->G3,settleFrom->Ew,size->AG,stands->An,start->GQ,stepCost->Ab,traced->Gf,walkerAt->FN,wrongFrom->G2,wrongPlan->LJ
open VbwsalNeutral renaming step->Rr
abbrev C7 := @and_assoc
abbrev B2 := @and_true
abbrev JZ := @beq_eq_false_iff_ne
abbrev Hb := @beq_iff_eq
abbrev Rq := @beq_self_eq_true
abbrev Md := @bne_iff_ne
abbrev HZ := @decide_eq_decide
abbrev DH := @decide_eq_false
abbrev BH := @decide_eq_true
abbrev Db := @decide_eq_true_eq
abbrev C1 := @decide_false
abbrev Cz := @decide_true
abbrev C6 := @exists_and_left
abbrev C5 := @exists_eq_left
abbrev C4 := @exists_eq_left'
abbrev BY := @if_false
abbrev AK := @if_neg
abbrev AJ := @if_pos
abbrev BP := @if_true
abbrev A5 := @not_or
abbrev DT := @of_decide_eq_true
abbrev BV := @or_false
abbrev C3 := @true_and
noncomputable section
namespace L3
end L3
local macro_rules|`(def $i:declId $b* : $t $v:declVal)=>`(noncomputable def $i $b* : $t $v:declVal)|`(abbrev $i:declId $b* : $t $v:declVal)=>`(@[reducible]noncomputable def $i $b* : $t $v:declVal)
section
namespace L2
open PySem PySem.Spec PyProof.Rows
abbrev Key:=Sum Int Str
def Fh:Key->AI->Bool
 | .inl k,v=>Value.isInt k v
 | .inr x,v=>Value.isStrOf x v
def Qb(w:Do):Key->Int
 | .inl k=>hashInt k
 | .inr x=>hashStr w x
theorem eB:∀{k:Key} {v:AI},Fh k v=AC->(∃i t,k=AW i/\v=E4 i t)\/(∃x t,k=DL x/\v=Mv x t)
 | .inl i,v,h=>by
  obtain⟨t,e⟩:=Value.isInt_shape (k:=i) (v:=v) h
  exact .inl ⟨i,t,rfl,e⟩
 | .inr x,v,h=>by
  obtain⟨t,e⟩:=Value.isStrOf_shape (x:=x) (v:=v) h
  exact .inr ⟨x,t,rfl,e⟩
theorem xO(a b:Int):decide ((AW a:Key)=AW b)=(a==b):=by
 by_cases e:a=b
 ·subst e;simp
 ·have h: ¬(AW a:Key)=AW b:=λq=>e (G6 q)
  rw[DH h]
  exact(JZ.mpr e).symm
theorem xL(a b:Str):decide ((DL a:Key)=DL b)=decide (a=b):=by
 by_cases e:a=b
 ·subst e;simp
 ·have h: ¬(DL a:Key)=DL b:=λq=>e (Sum.inr.inj q)
  rw[DH h,DH e]
theorem xN(a:Int)(b:Str):decide ((AW a:Key)=DL b)=AF:=DH (λq=>nomatch q)
theorem xM(a:Str)(b:Int):decide ((DL a:Key)=AW b)=AF:=DH (λq=>nomatch q)
def BJ(prog:ET)(w:Do):PySem.KeyKind prog w Key where
 is:=Fh
 hash:=Qb w
 inj:=λv a b l f=>by
  rcases eB l with⟨i,t,rfl,rfl⟩ | ⟨x,t,rfl,rfl⟩
  ·rcases eB f with⟨j,u,rfl,e⟩ | ⟨y,u,rfl,e⟩
   ·injection e with c _;rw[c]
   ·exact nomatch e
  ·rcases eB f with⟨j,u,rfl,e⟩ | ⟨y,u,rfl,e⟩
   ·exact nomatch e
   ·injection e with c _;rw[c]
 byValue:=λk v h=>by
  rcases eB h with⟨i,t,rfl,rfl⟩ | ⟨x,t,rfl,rfl⟩<;>rfl
 pyHash:=λd h=>by
  rcases eB d with⟨i,t,rfl,rfl⟩ | ⟨x,t,rfl,rfl⟩
  ·exact wpAny_pyHash_int h
  ·exact wpAny_pyHash_str h
 eqBool:=λg d h=>by
  rcases eB g with⟨i,t,rfl,rfl⟩ | ⟨x,t,rfl,rfl⟩
  ·rcases eB d with⟨j,u,rfl,rfl⟩ | ⟨y,u,rfl,rfl⟩
   ·rw[xO]at h;exact wpAny_eqBool_int h
   ·rw[xN]at h;exact WD i t y u _ _ _ _ h
  ·rcases eB d with⟨j,u,rfl,rfl⟩ | ⟨y,u,rfl,rfl⟩
   ·rw[xM]at h;exact V8 x t j u _ _ _ _ h
   ·rw[xL]at h;exact wpAny_eqBool_str h
 «strs»:=λk x t v h=>by
  rcases eB h with⟨i,u,rfl,e⟩ | ⟨y,u,rfl,e⟩
  ·exact nomatch e
  ·injection e with c _
   subst c
   cases v<;>rfl
inductive V where
 |Al|bl (b:Bool) |int (i:Int) |str (x:Str) |GH (b:Array UInt8) |Ny (b:UInt64) |ref (a:AD) |ty (n:String)
 deriving DecidableEq
def RelV:V->AI->Prop
 | .Al,u=>u=Hf
 | .bl b,u=>u=Hg b
 | .int i,u=>∃t,u=E4 i t
 | .str x,u=>∃t,u=Mv x t
 | .GH b,u=>∃t,u=Value.bytes b t
 | .Ny b,u=>∃t,u=Value.float b t
 | .ref a,u=>u=Bf a
 | .ty n,u=>u=KU n
abbrev Vals:List V->List AI->Prop:=Hi RelV
def KV:List (κ×V)->List (κ×AI)->Prop:=Hi λ(p:κ×V) (q:κ×AI)=>p.1=q.1/\RelV p.2 q.2
def kV:Key->V
 | .inl i=> .int i
 | .inr x=> .str x
inductive HO where
 |lst (xs:List V)
 |tup (xs:List V)
 |dK (kvs:List (Key×V)) |dT (kvs:List (List Key×V))
 |set (S:Int→Bool) (n:Nat)
 |ins (C dx:AD) (fs:List (Str×V))
 |own (x:AD)
 |xd (fs:List (Str×V))
 |met (f x:AD)
 |Nj (lo hi:Int)
 |BA (o:Obj) (u:HO)
 |aY (ps:Array AI)
 |ext (φ:BI→Prop)
abbrev Hp:=AD->Option HO
def Rd(H:Hp)(a:AD)(u:HO):Prop:=H a=AA u\/∃o,H a=AA (.BA o u)
abbrev XK:=AI->Option AD->Hp->Prop
abbrev St:=List (Option V)
abbrev VK:=V->Hp->Prop
abbrev TT:=St->Hp->(Bool->Hp->Prop)->Prop
structure Ends where
 nx:St→Hp→Prop
 rt:VK
 bk:St→Hp→Prop:=λ_ _=>False
 ct:St→Hp→Prop:=λ_ _=>False
abbrev TS:=Ends->St->Hp->Prop
def BB(b:Ao)(H:Hp)(a:AD)(xs:List V):Prop:=
 Rd H a (.tup xs)\/
  ∃(o:Obj) (its:Array AI) (n:Nat),b.lookup a=AA o/\o.cls=.type "tuple"/\o.data=.seq its n/\its.size<=Ae/\Vals xs its.toList
def Bq(t u:TS):TS:=λD a H=>t {D with nx:=u D} a H
structure EO(K:Ao)(C:AD):Prop where
 pg:OW K C Str.empty=AC
 hd:R9 K C=AC
 po:V1 K C=AC
 sa:HA K (.ref C) "__setattr__"=AA (AA (.builtin "object.__setattr__"))
def BO(a:Ao)(C:AD)(f:Str):Prop:=HA a (.ref C) f=AA AB
section
variable {κ:Type} [DecidableEq κ]
def A9(a:List (κ×V))(k:κ):Option V:=(a.find? λb=>decide (b.1=k)).map (·.2)
end
def inClass(s:Af)(j:Nat):Af:=match s with
 | .ClassDef _ _ _ body _ _ _ _ _ _ _=>body.getD j (.Pass ⟨0,0,0,0⟩)
 | _=> .Pass ⟨0,0,0,0⟩
def K3(s:Af):Arguments:=match s with
 | .FunctionDef _ a _ _ _ _ _ _ _ _=>a
 | _=>{posonlyargs:=[],args:=[],vararg:=AB,kwonlyargs:=[],kw_defaults:=[],kwarg:=AB,defaults:=[]}
def Ig(s:Af):List Af:=match s with
 | .FunctionDef _ _ b _ _ _ _ _ _ _=>b
 | _=>[]
def FW(s:Af):Fz:=match s with
 | .FunctionDef _ _ _ _ _ _ a _ _ _=>a
 | _=>{kind:=.function,names:=[],isGenerator:=AF,isCoroutine:=AF}
abbrev E0:XK:=λ_ _ _=>False
structure Ag(K:Ao)(x qual:Str)(st:Af)(f:AD)(fd:IU):Prop where
 ex:∃(oc:AI) (od:Option AD) (kV doc pm:AI) (an:Option AD) (cdv ct:AI) (osl:Array (Option AI)),
  fd=Jm x qual (K3 st) (Ig st) (FW st) .none kV doc pm an cdv ct∧K.lookup f=AA ⟨oc,od,.func fd,osl⟩∧OY K cdv qual=AC
 kp:G9 K (.ref f)=AC
theorem pi(l:e.lookup f=AA ⟨m,j,.func (Jm x b (K3 a) (Ig a) (FW a) .none g doc pm h d ct),i⟩)(c:OY e d b=AC)(k:G9 e (.ref f)=AC):Ag e x b a f (Jm x b (K3 a) (Ig a) (FW a) .none g doc pm h d ct):=⟨⟨m,j,g,doc,pm,h,d,ct,i,rfl,l,c⟩,k⟩
end L2
end
section
namespace RW
open PySem PySem.Spec PyProof.Rows L2 L3 Vbwsal
def top(i:Nat):Af:=PySem.Challenge.pw_roughways_s01_answers.main.body.getD i (.Pass ⟨0,0,0,0⟩)
theorem seq{u:TS}(h:t {D with nx:=u D} σ H):Bq t u D σ H:=h
abbrev UY:Af:=inClass (top 41) 1
abbrev UP:Af:=inClass (top 41) 2
abbrev Uf:Af:=inClass (top 41) 3
abbrev T0:Af:=inClass (top 41) 4
abbrev Tx:Af:=inClass (top 41) 5
abbrev Ub:Af:=top 52
abbrev U0:Af:=top 53
abbrev Uc:Af:=top 54
abbrev Ux:Af:=top 55
abbrev Ue:Af:=top 56
abbrev TX:Af:=top 57
abbrev TU:Af:=top 58
abbrev Up:Af:=top 59
abbrev Uk:Af:=top 60
abbrev UF:Af:=top 61
structure G0(K:Ao)(x qual:Str)(st:Af)(f:AD)(fd:IU)(c0 P:AD):Prop where
 ex:∃(oc:AI) (od:Option AD) (kV doc pm:AI) (an:Option AD) (ct:AI) (osl:Array (Option AI)),
  fd=Jm x qual (K3 st) (Ig st) (FW st) .none kV doc pm an (.ref c0) ct∧K.lookup f=AA ⟨oc,od,.func fd,osl⟩∧OY K (.ref c0) qual=AC
 kp:G9 K (.ref f)=AC
 hd:LS K c0 P=AC
end RW
end
section
namespace RW
open Vbwsal
def alive(s:St):List (Nat×DI):=((s.walkers.zipIdx).filter λx=>x.1.here).map λx=>(AE (x.2+1) x.1)
inductive Kd
 |text|door|period|Ia|shift|cell|bound|prices|field|cost|height|walker|ticks|trial|tick|row
 deriving DecidableEq
def Kd.Ck:Kd->Bool
 | .text| .prices| .trial| .row=>AC
 | _=>AF
def Kd.lo:Kd->Int
 | .period| .walker| .ticks=>1
 | .prices=> -100000
 | _=>0
def Kd.hi:Kd->Int
 | .text=>255
 | .door=>5
 | .period| .Ia=>20
 | .shift=>19
 | .cell| .trial| .row=>119
 | .bound| .prices=>100000
 | .field=>2
 | .cost| .height=>9
 | .walker=>6
 | .ticks=>1000
 | .tick=>2000000
def Kd.least:Kd->Int
 | .trial| .row=>1
 | _=>0
def Kd.most:Kd->Int
 | .text=>300
 | .prices=>120
 | .trial=>101
 | .row=>200
 | _=>0
def HM:List (List Kd):=[[.text],[.door,.period,.Ia,.shift],[.cell,.cell],[.cell,.cell],[.cell,.cell,.bound,.prices],[.cell,.bound],[.cell],[.field,.cell],[.cell,.cost,.height],[.cell],[.walker,.cell],[.walker],[.ticks],[.walker],[.walker],[.walker],[.walker,.trial],[.cell,.tick],[.cell],[.row]]
def Aa(n:Nat):List Kd:=HM.getD n []
end RW
end
section
namespace RW
open PySem PySem.Spec PyProof.Rows L2 L3 Vbwsal
def Bh:Kd->Str
 | .text=>"text" | .door=>"door" | .period=>"period" | .Ia=>"lasting" | .shift=>"shift" | .cell=>"cell" | .bound=>"bound" | .prices=>"prices" | .field=>"field" | .cost=>"cost" | .height=>"height" | .walker=>"walker" | .ticks=>"ticks" | .trial=>"trial" | .tick=>"tick" | .row=>"row"
abbrev UX:Af:=top 10
abbrev Ua:Af:=top 11
abbrev U3:Af:=top 12
abbrev Uw:Af:=top 13
abbrev Tf:Af:=top 14
abbrev T6:Af:=top 9
abbrev QS:Af:=top 63
abbrev Uy:Af:=top 64
abbrev Td:Af:=top 65
abbrev UG:Af:=top 67
abbrev UH:Af:=top 68
abbrev Ut:Af:=top 69
abbrev UB:Af:=top 1
abbrev UO:Af:=inClass (top 2) 1
abbrev Ui:Af:=inClass (top 2) 0
abbrev T8:Af:=inClass (top 2) 3
abbrev QT:Af:=inClass (top 2) 2
abbrev UV:Af:=inClass (top 41) 0
abbrev Uq:Af:=inClass (top 41) 6
abbrev UW:Af:=inClass (top 41) 7
abbrev Um:Af:=inClass (top 18) 0
abbrev UZ:Af:=inClass (top 18) 1
abbrev Uo:Af:=inClass (top 18) 2
abbrev Tj:Af:=top 19
abbrev Tg:Af:=inClass (top 20) 0
abbrev Uz:Af:=inClass (top 20) 1
abbrev Ud:Af:=inClass (top 20) 2
abbrev Uh:Af:=inClass (top 20) 3
abbrev Tb:Af:=inClass (top 72) 0
abbrev U1:Af:=inClass (top 72) 1
abbrev Ul:Af:=inClass (top 72) 2
abbrev UM:Af:=inClass (top 72) 3
abbrev U6:Af:=inClass (top 72) 4
abbrev Ug:Af:=inClass (top 72) 5
abbrev U7:Af:=inClass (top 72) 6
abbrev UD:Af:=inClass (top 72) 7
abbrev UK:Af:=inClass (top 72) 8
structure Cs where
 W:AD
 L:AD
 D:AD
 F:AD
 K:AD
 T:AD
structure Ef(c:Cs):Prop where
 nd:[c.W,c.L,c.D,c.F,c.K,c.T].Nodup
abbrev Te:Af:=top 66
abbrev Ti:Af:=inClass (top 16) 0
abbrev Uv:Af:=inClass (top 16) 1
abbrev Uu:Af:=inClass (top 16) 2
abbrev Tz:Af:=inClass (top 16) 3
abbrev UQ:Af:=inClass (top 16) 4
def others(s:Eg)(n:Nat):List (Nat×DI):=(alive s).filter λy=>y.1 !=n
abbrev UJ:Af:=top 30
abbrev U2:Af:=top 31
abbrev UN:Af:=top 32
abbrev Tk:Af:=top 33
abbrev UI:Af:=top 34
abbrev Uj:Af:=top 35
abbrev TZ:Af:=top 36
abbrev TV:Af:=top 37
abbrev TY:Af:=top 38
abbrev Tc:Af:=top 78
abbrev U5:Af:=top 79
abbrev Tq:Af:=top 82
abbrev Tr:Af:=top 83
abbrev Ur:Af:=top 84
abbrev Tl:Af:=top 85
abbrev Tu:Af:=top 100
abbrev Tv:Af:=top 99
abbrev UT:Af:=top 87
abbrev Ts:Af:=top 92
abbrev To:Af:=top 94
abbrev UR:Af:=top 89
abbrev UL:Af:=top 93
abbrev UE:Af:=top 95
abbrev US:Af:=top 86
abbrev UU:Af:=top 80
abbrev T7:Af:=top 102
abbrev U4:Af:=top 103
abbrev QV:Af:=top 104
abbrev Tn:Af:=top 98
abbrev Tw:Af:=top 90
abbrev UA:Af:=top 91
abbrev UC:Af:=top 96
abbrev Th:Af:=top 97
abbrev T9:Af:=top 81
abbrev Us:Af:=top 88
def BD(a:Ao)(x:Str)(b:Af):Prop:=∃f fd,Dz a DG x=AA (AA (.ref f))/\Ag a x x b f fd
def RI(a:Ao)(x:Str)(b:Af)(d:AD):Prop:=∃f fd c,Dz a DG x=AA (AA (.ref f))/\G0 a x x b f fd c d
def DK(a:Ao)(C:AD)(m q:Str)(b:Af):Prop:=∃f fd,HA a (.ref C) m=AA (AA (.ref f))/\Mu a (.ref f)=AC/\Ag a m q b f fd
def RD(a:Ao)(C:AD)(m q:Str)(b:Af)(d:AD):Prop:=∃f fd c,HA a (.ref C) m=AA (AA (.ref f))/\Mu a (.ref f)=AC/\G0 a m q b f fd c d
structure Io(K:Ao)(x:Str)(C:AD):Prop where
 ns:Dz K DG x=AA (AA (.ref C))
 cl:EO K C
 makes:R7 K C=AC
 keep:G9 K (.ref C)=AC
def Bl(a:Ao)(x:Str)(n:Int):Prop:=∃t,Dz a DG x=AA (AA (.int n t))
structure TopK(P:ET)(w:Do)(K:Ao)(c:Cs)(PL PF:AD)(kF kR kL:List (Key×V))(lc ca:AD)(fs:List AD):Prop where
 cs:Ef c
 Ii:Io K "Land" c.L
 N0:Io K "Door" c.D
 MM:Io K "Field" c.F
 ML:Io K "Walker" c.K
 IE:Io K "World" c.W
 K5:Io K "Traffic" c.T
 Q3:Dz K DG "abs"=AA AB
 N5:Dz K DG "all"=AA AB
 HR:Dz K DG "any"=AA AB
 Q0:Dz K DG "dict"=AA AB
 Gy:Dz K DG "enumerate"=AA AB
 C2:Dz K DG "len"=AA AB
 Gx:Dz K DG "list"=AA AB
 IG:Dz K DG "max"=AA AB
 GJ:Dz K DG "min"=AA AB
 Df:Dz K DG "range"=AA AB
 K6:Dz K DG "reversed"=AA AB
 Qz:Dz K DG "sorted"=AA AB
 Qy:Dz K DG "sum"=AA AB
 JO:Dz K DG "zip"=AA AB
 Qw:Bl K "CROSSED" 6
 Qv:Bl K "DOOR" 1
 Qu:Bl K "DOORS" 6
 MG:Bl K "FIRST_DOOR" 97
 Qt:Bl K "GROUND" 0
 Qs:Bl K "LAST_DOOR" 102
 Qr:Bl K "LAST_TICK" 1000000
 Qq:Bl K "LATEST_REST" 100
 Qp:Bl K "MOST_FIELDS" 3
 Qo:Bl K "MOST_HIGH" 10
 Qn:Bl K "MOST_WALKERS" 6
 Qm:Bl K "MOST_WIDE" 12
 MF:Bl K "NINE" 57
 Ql:Bl K "NOT_WHERE_IT_IS" 1
 Qk:Bl K "NO_REST" 7
 Qj:Bl K "NO_STEP" 2
 Qi:Bl K "ONE" 49
 Nw:Bl K "ROW_END" 10
 Qh:Bl K "STEEPEST_STEP" 2
 Qg:Bl K "TAKEN" 5
 Qe:Bl K "TOO_SOON" 3
 Nv:Bl K "WALL" 35
 Qc:Bl K "WALL_OR_SHUT" 4
 ME:Bl K "ZERO" 48
 Yo:BO K c.L "costs"
 Yn:BO K c.L "doors"
 Ym:BO K c.L "heights"
 Yl:BO K c.L "high"
 Yk:BO K c.L "size"
 Yj:BO K c.L "steps"
 Yi:BO K c.L "wide"
 Yq:BO K c.F "costs"
 Yp:BO K c.F "goal"
 Yt:BO K c.D "lasting"
 Ys:BO K c.D "period"
 Yr:BO K c.D "shift"
 Yf:BO K c.K "plan"
 Ye:BO K c.K "time_left"
 Yd:BO K c.W "doors"
 Yc:BO K c.W "fields"
 Yb:BO K c.W "land"
 Ya:BO K c.W "tick"
 YZ:BO K c.W "walkers"
 YY:BO K c.W "walkers_made"
 Yh:BO K c.T "others"
 Yg:BO K c.T "world"
 MZ:BD K "is_within" UX
 Rb:BD K "is_in_range" Ua
 Rn:BD K "are_in_range" U3
 Rk:BD K "cells_named" Uw
 RR:BD K "walkers_named" Tf
 RT:BD K "shared_refusal" T7
 za:DK K c.W "__init__" "World.__init__" Tb
 RS:BD K "split_calls" T6
 zf:DK K c.D "__init__" "Door.__init__" Um
 zW:DK K c.D "is_open_at" "Door.is_open_at" UZ
 zX:DK K c.D "is_always_open" "Door.is_always_open" Uo
 Zw:DK K c.L "step_cost" "Land.step_cost" T0
 KC:BD K "time_left_after" Tj
 zb:DK K c.K "__init__" "Walker.__init__" Tg
 Zp:DK K c.K "cell_after" "Walker.cell_after" Uz
 Zn:DK K c.K "is_at_from" "Walker.is_at_from" Ud
 Zo:DK K c.K "go_on" "Walker.go_on" Uh
 OE:BD K "costs_after_round" UB
 Z9:DK K c.F "next_cell" "Field.next_cell" UO
 Zy:DK K c.L "is_wall" "Land.is_wall" UY
 Z4:DK K c.F "settle" "Field.settle" T8
 ze:DK K c.F "__init__" "Field.__init__" Ui
 zV:RD K c.F "forget" "Field.forget" QT PF
 Im:BD K "with_count" Tc
 LH:BD K "and_one" U5
 KD:RI K "least_costs" QS PL
 Zx:DK K c.L "neighbours" "Land.neighbours" UP
 Zz:DK K c.L "has_step" "Land.has_step" Uf
 Rl:BD K "cell_before" Uy
 RO:BD K "way_told" Td
 Vc:BD K "tell_way" Tq
 RV:BD K "prices_told" UG
 Vd:BD K "tell_prices" Tr
 RX:BD K "prices_prove" UH
 Vq:BD K "check_prices" Ur
 Rj:BD K "cells_within" Ut
 VZ:BD K "tell_within" Tl
 Z0:DK K c.L "cost_between" "Land.cost_between" Uq
 RQ:BD K "way_cost" Te
 Vf:BD K "tell_cost" Tu
 Zk:DK K c.W "door_of" "World.door_of" Ul
 Zh:DK K c.W "is_open_after" "World.is_open_after" UM
 Vg:BD K "tell_cell" Tv
 Vo:BD K "look_at_field" UT
 Ve:BD K "tell_plan" Ts
 Zf:DK K c.W "rest_tick" "World.rest_tick" UD
 Vb:BD K "tell_where" To
 Va:BD K "tell_who" Tn
 Zi:DK K c.W "is_always_open" "World.is_always_open" U6
 Zj:DK K c.W "has_plan_at" "World.has_plan_at" Ug
 Zm:DK K c.W "add_walker" "World.add_walker" U7
 Vm:BD K "make_walker" UR
 Zg:DK K c.W "pass_ticks" "World.pass_ticks" UK
 Vl:BD K "pass_on" UL
 Vk:BD K "remove_walker" UE
 Vn:BD K "make_field" US
 zc:DK K c.T "__init__" "Traffic.__init__" Ti
 Zr:DK K c.T "may_rest" "Traffic.may_rest" UQ
 Rm:BD K "cell_a_tick_ago" Tk
 Zq:DK K c.T "steps_crossed" "Traffic.steps_crossed" Tz
 RY:BD K "plan_back" UI
 OG:BD K "as_keys" U2
 RZ:BD K "places_after" UJ
 Zu:DK K c.T "cells_shut" "Traffic.cells_shut" Uv
 Zs:DK K c.T "cells_taken" "Traffic.cells_taken" Uu
 Ra:BD K "next_places" UN
 Rg:BD K "earliest_plan" Uj
 MY:BD K "take_earliest_plan" Tw
 Vi:BD K "send_walker" UA
 Vj:BD K "rest_walker" UC
 RK:BD K "wrong_in_step" TV
 RN:BD K "wrong_at_cell" TZ
 RM:BD K "wrong_in_plan" TY
 VY:BD K "try_plan" Th
 Vh:BD K "set_door" T9
 Zv:DK K c.L "steps_from" "Land.steps_from" Tx
 Z3:DK K c.L "change_cell" "Land.change_cell" UW
 OF:BD K "change_cell" Us
 Mb:BD K "begins_cell" U0
 Ma:BD K "is_height" Ub
 Rc:BD K "is_cell" Uc
 KG:BD K "cells_from" Ux
 Rf:BD K "has_wrong_height" Ue
 RL:BD K "wrong_in_row" TX
 RJ:BD K "wrong_place" TU
 Ri:BD K "cost_told" Up
 Rh:BD K "door_told" Uk
 zd:DK K c.L "__init__" "Land.__init__" UV
 RU:BD K "read_land" UF
 Zl:DK K c.W "begin" "World.begin" U1
 Vp:BD K "lay_ground" UU
 Ro:BD K "answer_to" U4
 zk:BD K "answers" QV
 Jx:∃a vs,Dz K DG "FORMS"=AA (AA (.ref a))∧(a==E2)=AF∧KV kF vs∧∀h:BI,K.In h→h.DictOf (BJ P w) a vs
 MJ:∃a vs,Dz K DG "RANGES"=AA (AA (.ref a))∧(a==E2)=AF∧KV kR vs∧∀h:BI,K.In h→h.DictOf (BJ P w) a vs
 K4:∃a vs,Dz K DG "LENGTHS"=AA (AA (.ref a))∧(a==E2)=AF∧KV kL vs∧∀h:BI,K.In h→h.DictOf (BJ P w) a vs
 TC:∀n:Nat,n<20→∃a,A9 kF (AW (n:Int))=AA (.ref a)∧∀H,BB K H a ((Aa n).map λk=>V.str (Bh k))
 S0:∀k:Kd,∃a,A9 kR (DL (Bh k))=AA (.ref a)∧∀H,BB K H a [V.int k.lo,V.int k.hi]
 TB:∀k:Kd,k.Ck=AC→∃a,A9 kL (DL (Bh k))=AA (.ref a)∧∀H,BB K H a [V.int k.least,V.int k.most]
 S6:∀k:Kd,k.Ck=AF→A9 kL (DL (Bh k))=AB
 XJ:Dz K DG "LISTS_OF_CELLS"=AA (AA (.ref lc))
 S9:∀H,BB K H lc [V.str "trial",V.str "row"]
 Pa:Dz K DG "CALLS"=AA (AA (.ref ca))
 TD:∀H,BB K H ca (fs.map V.ref)
 Qx:fs=[("lay_ground":Str),("set_door":Str),("tell_way":Str),("tell_prices":Str),("check_prices":Str),("tell_within":Str),("make_field":Str),("look_at_field":Str),("change_cell":Str),("make_walker":Str),("send_walker":Str),("tell_plan":Str),("pass_on":Str),("tell_where":Str),("remove_walker":Str),("rest_walker":Str),("try_plan":Str),("tell_who":Str),("tell_cell":Str),("tell_cost":Str)].map λx=>match Dz K DG x with
  |some (AA (.ref f))=>f
  | _=>0
end RW
end
section
namespace RW
open PySem PySem.Spec PyProof.Rows L2 L3
def TupIn(b:Ao)(a:AD)(xs:List V):Prop:=∃(o:Obj) (its:Array AI) (n:Nat),b.lookup a=AA o/\o.cls=.type "tuple"/\o.data=.seq its n/\its.size<=Ae/\Vals xs its.toList
inductive JW(w:Do):List Ka→List (Key×AD)→Prop
 |nil:JW w [] []
 |cons {e:Ka} {q:Key×AD} {es:List Ka} {qs:List (Key×AD)}:Fh q.1 e.key=AC→e.hash=Qb w q.1→e.val=.ref q.2→JW w es qs→JW w (e::es) (q::qs)
def Gu(a:List (Key×AD)):List (Key×V):=a.map λq=>(AE q.1 (V.ref q.2))
def Nu(a:List (Key×AD)):List (Key×AI):=a.map λq=>(AE q.1 (Bf q.2))
theorem pM:∀a:List (Key×AD),KV (Gu a) (Nu a)
 | []=> .nil
 |q::a=> .cons ⟨rfl,rfl⟩ (pM a)
theorem JW.pairs(h:JW w e a):Pairs (BJ g w) e (Nu a):=by
 induction h with
 |nil=>exact .nil
 |cons d f c _ b=>exact .cons d c b
theorem JW.keys(h:JW w f i):∀e∈f,∃k,(BJ g w).is k e.key=AC/\e.hash=(BJ g w).hash k:=by
 induction h with
 |nil=>intro e a;simp at a
 |cons d c j _ b=>
  intro e a
  rcases Aj.mp a with rfl|a
  ·exact⟨_,d,c⟩
  ·exact b e a
def JY(w:Do)(c:Ao)(x:Str)(d:List (Key×AD)):Prop:=∃(a:AD) (b:Array Ka) (n:Nat),Dz c DG x=AA (AA (.ref a))/\(a==E2)=AF/\c.lookup a=AA ⟨.type "dict",AB,.dict b n,#[]⟩/\JW w b.toList d
theorem JY.fd(D:JY w c x b)(d:(b.map (·.1)).Nodup):∃a vs,Dz c DG x=AA (AA (.ref a))/\(a==E2)=AF/\KV (Gu b) vs/\∀h:BI,c.In h->h.DictOf (BJ l w) a vs:=by
 obtain⟨a,g,n,k,j,i,E⟩:=D
 refine⟨a,Nu b,k,j,pM b,λh X=>⟨_,g,n,X _ _ i,⟨rfl,rfl,rfl⟩,rfl,λe f=>E.keys e (by simpa using f),E.pairs,?_⟩⟩
 unfold Nu
 rw[Dc]
 exact d
def Nn:List (Key×AD):=[(AE (AW 0) 63),(AE (AW 1) 64),(AE (AW 2) 65),(AE (AW 3) 66),(AE (AW 4) 67),(AE (AW 5) 68),(AE (AW 6) 69),(AE (AW 7) 70),(AE (AW 8) 71),(AE (AW 9) 72),(AE (AW 10) 73),(AE (AW 11) 74),(AE (AW 12) 75),(AE (AW 13) 76),(AE (AW 14) 77),(AE (AW 15) 78),(AE (AW 16) 79),(AE (AW 17) 81),(AE (AW 18) 82),(AE (AW 19) 83)]
def Nm:List (Key×AD):=[(AE (DL "text") 85),(AE (DL "door") 86),(AE (DL "period") 87),(AE (DL "lasting") 88),(AE (DL "shift") 89),(AE (DL "cell") 90),(AE (DL "bound") 91),(AE (DL "prices") 92),(AE (DL "field") 93),(AE (DL "cost") 94),(AE (DL "height") 95),(AE (DL "walker") 96),(AE (DL "ticks") 97),(AE (DL "trial") 98),(AE (DL "tick") 99),(AE (DL "row") 100)]
def Lv:List (Key×AD):=[(AE (DL "text") 102),(AE (DL "prices") 103),(AE (DL "trial") 104),(AE (DL "row") 105)]
structure Jz(K:Ao):Prop where
 YB:TupIn K 63 [V.str "text"]
 YA:TupIn K 64 [V.str "door",V.str "period",V.str "lasting",V.str "shift"]
 X9:TupIn K 65 [V.str "cell",V.str "cell"]
 X8:TupIn K 66 [V.str "cell",V.str "cell"]
 X7:TupIn K 67 [V.str "cell",V.str "cell",V.str "bound",V.str "prices"]
 X6:TupIn K 68 [V.str "cell",V.str "bound"]
 X5:TupIn K 69 [V.str "cell"]
 X4:TupIn K 70 [V.str "field",V.str "cell"]
 X3:TupIn K 71 [V.str "cell",V.str "cost",V.str "height"]
 X2:TupIn K 72 [V.str "cell"]
 X1:TupIn K 73 [V.str "walker",V.str "cell"]
 Xz:TupIn K 74 [V.str "walker"]
 Xy:TupIn K 75 [V.str "ticks"]
 Xx:TupIn K 76 [V.str "walker"]
 Xw:TupIn K 77 [V.str "walker"]
 Xv:TupIn K 78 [V.str "walker"]
 Xu:TupIn K 79 [V.str "walker",V.str "trial"]
 Xt:TupIn K 81 [V.str "cell",V.str "tick"]
 Xs:TupIn K 82 [V.str "cell"]
 Xr:TupIn K 83 [V.str "row"]
 Xq:TupIn K 85 [V.int (0),V.int (255)]
 Xp:TupIn K 86 [V.int (0),V.int (5)]
 Xo:TupIn K 87 [V.int (1),V.int (20)]
 Xn:TupIn K 88 [V.int (0),V.int (20)]
 Xm:TupIn K 89 [V.int (0),V.int (19)]
 Xl:TupIn K 90 [V.int (0),V.int (119)]
 Xk:TupIn K 91 [V.int (0),V.int (100000)]
 Xj:TupIn K 92 [V.int (-100000),V.int (100000)]
 Xi:TupIn K 93 [V.int (0),V.int (2)]
 Xh:TupIn K 94 [V.int (0),V.int (9)]
 Xg:TupIn K 95 [V.int (0),V.int (9)]
 Xf:TupIn K 96 [V.int (1),V.int (6)]
 Xe:TupIn K 97 [V.int (1),V.int (1000)]
 Xd:TupIn K 98 [V.int (0),V.int (119)]
 Xc:TupIn K 99 [V.int (0),V.int (2000000)]
 YH:TupIn K 100 [V.int (0),V.int (119)]
 YG:TupIn K 102 [V.int (0),V.int (300)]
 YF:TupIn K 103 [V.int (0),V.int (120)]
 YE:TupIn K 104 [V.int (1),V.int (101)]
 YD:TupIn K 105 [V.int (1),V.int (200)]
 YC:TupIn K 106 [V.str "trial",V.str "row"]
 X0:TupIn K 732 [V.ref 595,V.ref 600,V.ref 607,V.ref 614,V.ref 621,V.ref 628,V.ref 635,V.ref 642,V.ref 647,V.ref 654,V.ref 668,V.ref 675,V.ref 682,V.ref 689,V.ref 696,V.ref 703,V.ref 710,V.ref 717,V.ref 724,V.ref 731]
theorem Jz.Aa(T:Jz c):∀n:Nat,n<20->∃a,A9 (Gu Nn) (AW (n:Int))=AA (.ref a)/\∀H,BB c H a ((Aa n).map λk=>V.str (Bh k)):=by
 intro n b
 match n,b with
 | 0,_=>exact⟨63,by rfl,λH=> .inr T.YB⟩
 | 1,_=>exact⟨64,by rfl,λH=> .inr T.YA⟩
 | 2,_=>exact⟨65,by rfl,λH=> .inr T.X9⟩
 | 3,_=>exact⟨66,by rfl,λH=> .inr T.X8⟩
 | 4,_=>exact⟨67,by rfl,λH=> .inr T.X7⟩
 | 5,_=>exact⟨68,by rfl,λH=> .inr T.X6⟩
 | 6,_=>exact⟨69,by rfl,λH=> .inr T.X5⟩
 | 7,_=>exact⟨70,by rfl,λH=> .inr T.X4⟩
 | 8,_=>exact⟨71,by rfl,λH=> .inr T.X3⟩
 | 9,_=>exact⟨72,by rfl,λH=> .inr T.X2⟩
 | 10,_=>exact⟨73,by rfl,λH=> .inr T.X1⟩
 | 11,_=>exact⟨74,by rfl,λH=> .inr T.Xz⟩
 | 12,_=>exact⟨75,by rfl,λH=> .inr T.Xy⟩
 | 13,_=>exact⟨76,by rfl,λH=> .inr T.Xx⟩
 | 14,_=>exact⟨77,by rfl,λH=> .inr T.Xw⟩
 | 15,_=>exact⟨78,by rfl,λH=> .inr T.Xv⟩
 | 16,_=>exact⟨79,by rfl,λH=> .inr T.Xu⟩
 | 17,_=>exact⟨81,by rfl,λH=> .inr T.Xt⟩
 | 18,_=>exact⟨82,by rfl,λH=> .inr T.Xs⟩
 | 19,_=>exact⟨83,by rfl,λH=> .inr T.Xr⟩
 |n+20,h=>exact absurd h (by omega)
theorem Jz.ranges(T:Jz b):∀k:Kd,∃a,A9 (Gu Nm) (DL (Bh k))=AA (.ref a)/\∀H,BB b H a [V.int k.lo,V.int k.hi]:=by
 intro k
 cases k with
 |text=>exact⟨85,by rfl,λH=> .inr T.Xq⟩
 |door=>exact⟨86,by rfl,λH=> .inr T.Xp⟩
 |period=>exact⟨87,by rfl,λH=> .inr T.Xo⟩
 |Ia=>exact⟨88,by rfl,λH=> .inr T.Xn⟩
 |shift=>exact⟨89,by rfl,λH=> .inr T.Xm⟩
 |cell=>exact⟨90,by rfl,λH=> .inr T.Xl⟩
 |bound=>exact⟨91,by rfl,λH=> .inr T.Xk⟩
 |prices=>exact⟨92,by rfl,λH=> .inr T.Xj⟩
 |field=>exact⟨93,by rfl,λH=> .inr T.Xi⟩
 |cost=>exact⟨94,by rfl,λH=> .inr T.Xh⟩
 |height=>exact⟨95,by rfl,λH=> .inr T.Xg⟩
 |walker=>exact⟨96,by rfl,λH=> .inr T.Xf⟩
 |ticks=>exact⟨97,by rfl,λH=> .inr T.Xe⟩
 |trial=>exact⟨98,by rfl,λH=> .inr T.Xd⟩
 |tick=>exact⟨99,by rfl,λH=> .inr T.Xc⟩
 |row=>exact⟨100,by rfl,λH=> .inr T.YH⟩
theorem Jz.jY(T:Jz c):∀k:Kd,k.Ck=AC->∃a,A9 (Gu Lv) (DL (Bh k))=AA (.ref a)/\∀H,BB c H a [V.int k.least,V.int k.most]:=by
 intro k b
 cases k with
 |text=>exact⟨102,by rfl,λH=> .inr T.YG⟩
 |door=>cases b
 |period=>cases b
 |Ia=>cases b
 |shift=>cases b
 |cell=>cases b
 |bound=>cases b
 |prices=>exact⟨103,by rfl,λH=> .inr T.YF⟩
 |field=>cases b
 |cost=>cases b
 |height=>cases b
 |walker=>cases b
 |ticks=>cases b
 |trial=>exact⟨104,by rfl,λH=> .inr T.YE⟩
 |tick=>cases b
 |row=>exact⟨105,by rfl,λH=> .inr T.YD⟩
theorem jU:∀k:Kd,k.Ck=AF->A9 (Gu Lv) (DL (Bh k))=AB:=by
 intro k a
 cases k with
 |text=>cases a
 |door=>rfl
 |period=>rfl
 |Ia=>rfl
 |shift=>rfl
 |cell=>rfl
 |bound=>rfl
 |prices=>cases a
 |field=>rfl
 |cost=>rfl
 |height=>rfl
 |walker=>rfl
 |ticks=>rfl
 |trial=>cases a
 |tick=>rfl
 |row=>cases a
end RW
end
end
section
local macro_rules|`(#check $s:str)=>do
 let mut n:=1
 let mut A:=#[]
 for c in s.getString.toList do
  n:=n*91+c.toNat-(if c.toNat<92 then 35 else 36)
  if n>=91^10 then
   A:=A.push (← `(theorem $(Lean.mkIdent (.str `PySem.W.Fast s!"tw{n-91^10}")):ident:True:=trivial)).raw
   n:=1
 return Lean.mkNullNode A
#check "MqssfxWAkzJ7_E5GPR+H&$kXzx)Oe/IXu&ZCUE8xED3p.jJtH453SZ}d-M1J5H#-CX52A^DUR]ZxD@+d?U$xc)M&0cH~k3_$nhmb/*9^iLdp.q%j@ag'7RqaEsI0h>tC{1Hc)f=,]J%CH#O]4j$hoA9)L8GBnBqR(].qC5{a8H=TDWPew@to6#:*<M=[%40-VIv-Ej55Bu;$^rc4gdB3f5:ew.L%6de+Qvh_;[/PA).8AvFO<JGV5*{DC{<h[uDEF($}Ga;#bdclFx=a$e)zgNi+M5lCHxyL(Z-Yr(f4zZKhGiH3l$y(<pG,wEl6(d<tIdW|x*Rdhv@}qN.2rTAeK<6xtmie+u$8cfDNh,Tv:*+bU@>x@V2)cZl.WxDp>ot9EOiEC1.18AxK&kX*=Q$;g.e|eCN&K*8~PO;J?51sLcs[hPM9HA::|B/9JQZdj>KOc$KoCQ`t9ayUBQ@UiC$tXQ9o0:++U)q-A[Tt=9dV.H3:P*rhJn67;.-O_r5+5u9/_s,m8GQ8I^47mJQl&WHt3*iHIh?7)jN@A(sSCY6H)5@`%'<m>CrLe9ff-@EN|`d}2VgKM^yS&(H?ah,f=X)ql9}XIRKD0~jbAE1GVHV=~J.<;BoYlOeUC?BJg7noI8F*8xpH,ie>A}8w%XfB,.3WM4U@Bxyx?M35M2qw9k{PI:SYupXFX['fmovUxlwX%eO=,mDA%U@+bKS-k]0T+.}wBs{q<0AUbqE5QmU]=F~.l*FtOX;Qhv-Xjm~v/e8]+T-4=6+m1>xuqB;F-G_]gcqZyX?SB8iqq]|aI5G}&[dhAX&n)2}w-s,,Alx5N>iCO-3-e<3GWt|X-WGB_|Hv*<KyUq5@w4mX5x0m55PFc9N)y*?98d9~(tq|@6BC(<GRGh,YMI}kE3=+VOyjRc/bVS^YBFQ5-{4ULeF_Ty%PB)]mLvc=@GbBcqK|?t$'(7f3=OdLKC=runr$V=Gd[G%ZLr=?<;e<iXrwi>,%gTPnTKXt6;mor1F'6$I]N[BK::Lc+[:NuH/&ZE4OGw~/O|5Y'i+#qt][X}A4f'z^5z<<K='dCs;+4t,yR9%QP*W-6FPNF:EN''>h`C%(R*DvH5S9VZ/q'c/WvBxCPZ#i9(>j}~m5OZCZ5{e@wH0**asR5[aqeS35]?>Q.>byJmHH{z~*IX)56qP`<p`vB]FU{5d*5h;;|91<3-6v'QC8P'HIPI+~T9g8*Ok18`Q3HR1d*h2xuS>ZP@D(FjbJ$kYz6e28|J@io(O5@hL)*[cU-?<<5Crh?-nK,^qWCGv?|G<cs.jJ._q2AQ~,uW<^YW'r|BRf^UajJaXpMU@T/2DKn=a2'EX1K:ixN{v_,3&Y${i0yD&`7WXgIgs,18LP:/i>k*X+7F//,ZA_fW4]>][^4F%C#s8D/loMj$Ev;lJSvOu|(,[6H`5KT#G5iped)Iei7n=3.x``{_F2gRztirW&)n)A^(V&vhA%Gij:g#+XBC`KgEv'H&=4`;'Snqe'Af;sV)i##v?NRRP7lJGO14f@Ej/3h|9cv8k6F+<+IR($Qon]/x*=_G(f]~++8SL27{lZ>W0sNP@f{koV<5$s=0bfnAA9;Q%bd*8v&5otNy`DL[(0NA{C9~D}L~jWDzZ?iS/D/{Ei?h:IF.&k0l;46a$~msM[jt,%<GtpzAytTyF*mBk<|e:%:AVZt.H9n)B*Lp<(u[TQ'@(X7P/}msJRqn5,#9mT$hHh=exs_z%vGoUX:]'G2x}ZGjDy#6#'ssc~nx0_:F<%MHB:WN4SZ#]fPlbNF0'%eB(7n==Ppri;5z0H$7C:ph4?F&BPpP~.X4+(1<6hRGS.ow7~9EgT;i3V<K]ArmK>dDK#uY>pBDj(<6krXHw%rG&|^lJAsl4cAt$eI<CubT:gmy+WR(M}'a^}F)O7d`B)l$2T_).?7n2]Zm,Q}HI>ZU4)}t_vMR:IS6Z)]O=uFJ(39d.K-cZG)ut,gW'Ci-[u*;mRBO$eLa3_Sl:)FgMsS:n)9C#~kfQ0wiAJ}~t?.W&H?nD&?MK<h.(%*+12c$j:2tEF:QR[UeHo%)]4/oXpM-)z5q|{%w+TzC9ScM|0#z2L0<hMUy@=:|~-,+5r>wHQ>-x]W0C.K*[H1Zbm8uTEmG|WeI0b)6a6fB(v;E>_R1xTH(2e47)1oS4'IYK'2{r8jD+06ZS}L{O:-7q*XaO6;9#m0B76p)Tp?yF<SqU|tu5VSfuViT2a&|a2T.j'{$6%8MG3r1f/%yNPUzhf`_@.pFGM:7|M>r3VadMXY{;C:GdBN6G*,S'@7t,=ML7v.JK}5|jLK.Xt6:3Q6Z7N,(U$I56;#]?16$b/ijL^BPi03VB<I&YBQ}2ZBC=K9;u/d:,+(>qZSY3ow3)`%+K:j8[$=oK4~RjBn6)a6&38oT)7#SI.vjPc{SK&6j7}3^vw4/]qTR1~bAK{<${+s?3-:&x)bS'Vu'Ihd:[f<DIo7u=aBY0YgKAB7G&@vQXe/BVsr6%<#i(d|80?X^U%1(y[jRr7C<FfD5GhKbbjM)rp$*aD|O,'5M.%zw-p,fEO~/fT8B'WY8mb?'2]M?mb}*_Aa6&=QI.QY6{FM<+7<L?oxT97ZVWLuO&xH|SHZF`V(20U.(:{G)tI:?UGdRp-S@..dmh7x^2y*OQDv&*kss&md'r+&?qr#5<M$A2L8@GMUDJ-<KZ70x;T#m1M(kKBFrAb<gKYAS`,Mv52SB>>2'&{;eBz=|0FEhf+&K;v&MzQ)i]g;eYXRFN6q(=l_?Q%a-r4)t85(Td*$t6`jR1}sWi40DTLO|e8S'>eu>_pq9=44TL>Qq9Z=7Fz}w=eq1-<+clZkqz^oV@%'rI__#[p-T|=kp5hdQ20Hv,P.,}Z.()=%eK>Pn(|F;ZTXP9~(Ly&8k11$kM)UN7S>tdCJaH3}3YxSg)1aY$'(UC:$Gi}VW<H6`=fER(zh5z`$Z[iJ7;DB%KW+991NBD-#d7dNpWbqO-DKNz[cn:3*PWP[>Kah6L/,XUhE8dV"
open PySem PySem.W PyProof.Rows
structure RW.Wr (p : Prop) : Prop where
  h : p
local macro_rules | `(tactic| o_headS (kHook $k $a $e)) => `(tactic| o_headS (kmHook $k $a $e [44, 458]))
local macro_rules | `(tactic| refine $f:ident $a*) => match a.back? with
 | some x => if x.raw.isOfKind ``Lean.Parser.Term.syntheticHole && x.raw[1].getId.eraseMacroScopes == `hc then `(tactic| refine $f $(a.pop)* (by exact $(Lean.mkIdent `H.h))) else Lean.Macro.throwUnsupported
 | _ => Lean.Macro.throwUnsupported
set_option maxHeartbeats 0 in
theorem RW.hd:∃G:Prop,(G→Iw.Holds)∧∃q loose XP YP d,∃K:Params→Ao,G=PySem.W.WalkOS q loose XP YP Iw d [] (λf vs=>PySem.call f vs)∧d.params.defaults=[]∧d.name="answers"∧
  (∀(w:World) (h:Heap),YP w h→(K w.params).In h∧h.get? 458=AA (Jk #[])∧h.get? 44=AA (Jk #[]))∧
  (∀w:World,(K w.params).lookup 458=AB∧(K w.params).lookup 44=AB∧(∃c0,LS (K w.params) c0 458=AC)∧∃c0,LS (K w.params) c0 44=AC)∧
  ∀w:World,RW.TopK PySem.Challenge.pw_roughways_s01_answers w (K w.params) ⟨570,384,212,57,261,177⟩ 458 44 (RW.Gu RW.Nn) (RW.Gu RW.Nm) (RW.Gu RW.Lv) 106 732 [595,600,607,614,621,628,635,642,647,654,668,675,682,689,696,703,710,717,724,731] := by
 apply Exists.intro
 constructor
 ·intro h
  have H:RW.Wr _:=⟨h⟩
  clear h
  w_on;k_headS;(case hw=>exact⟨[.list [.int 11,.int 1]],by decide +kernel,by decide +kernel⟩)
 ·k_fillS
  refine⟨_,_,_,_,_,RW.hd.heap_1,rfl,rfl,rfl,λw h Y=>⟨km_in_of Y,km_tabs_of Y 458 (by simp),km_tabs_of Y 44 (by simp)⟩,λw=>⟨by kernel_rfl,by kernel_rfl,⟨462,by kernel_rfl⟩,46,by kernel_rfl⟩,λw=>?_⟩
  have TT:RW.Jz (RW.hd.heap_1 w.params):=by constructor<;>exact⟨_,_,_,by k_is,rfl,rfl,by decide,by repeat first|exact .nil|refine .cons (by first|rfl|exact⟨_,rfl⟩) ?_⟩
  have D1:RW.JY w (RW.hd.heap_1 w.params) "FORMS" RW.Nn:=⟨_,_,_,by k_is,by decide,by k_is,by repeat first|exact .nil|refine .cons rfl rfl rfl ?_⟩
  have D2:RW.JY w (RW.hd.heap_1 w.params) "RANGES" RW.Nm:=⟨_,_,_,by k_is,by decide,by k_is,by repeat first|exact .nil|refine .cons rfl rfl rfl ?_⟩
  have D3:RW.JY w (RW.hd.heap_1 w.params) "LENGTHS" RW.Lv:=⟨_,_,_,by k_is,by decide,by k_is,by repeat first|exact .nil|refine .cons rfl rfl rfl ?_⟩
  have E0:∀(x:Str) (f:Addr),Dz (RW.hd.heap_1 w.params) mainGlobals x=AA (AA (.ref f))→(match Dz (RW.hd.heap_1 w.params) mainGlobals x with |some (AA (.ref f))=>f| _=>0)=f:=λx f e=>by rw[e]
  have E1:([595,600,607,614,621,628,635,642,647,654,668,675,682,689,696,703,710,717,724,731]:List Addr)=[("lay_ground":Str),("set_door":Str),("tell_way":Str),("tell_prices":Str),("check_prices":Str),("tell_within":Str),("make_field":Str),("look_at_field":Str),("change_cell":Str),("make_walker":Str),("send_walker":Str),("tell_plan":Str),("pass_on":Str),("tell_where":Str),("remove_walker":Str),("rest_walker":Str),("try_plan":Str),("tell_who":Str),("tell_cell":Str),("tell_cost":Str)].map λx=>match Dz (RW.hd.heap_1 w.params) mainGlobals x with
   |some (AA (.ref f))=>f
   | _=>0:=by
   simp only[Ax,BS]
   rw[E0 "lay_ground" 595 (by k_is),E0 "set_door" 600 (by k_is),E0 "tell_way" 607 (by k_is),E0 "tell_prices" 614 (by k_is),E0 "check_prices" 621 (by k_is),E0 "tell_within" 628 (by k_is),E0 "make_field" 635 (by k_is),E0 "look_at_field" 642 (by k_is),E0 "change_cell" 647 (by k_is),E0 "make_walker" 654 (by k_is),E0 "send_walker" 668 (by k_is),E0 "tell_plan" 675 (by k_is),E0 "pass_on" 682 (by k_is),E0 "tell_where" 689 (by k_is),E0 "remove_walker" 696 (by k_is),E0 "rest_walker" 703 (by k_is),E0 "try_plan" 710 (by k_is),E0 "tell_who" 717 (by k_is),E0 "tell_cell" 724 (by k_is),E0 "tell_cost" 731 (by k_is)]
  have TK:RW.TopK PySem.Challenge.pw_roughways_s01_answers w (RW.hd.heap_1 w.params) ⟨570,384,212,57,261,177⟩ 458 44 (RW.Gu RW.Nn) (RW.Gu RW.Nm) (RW.Gu RW.Lv) 106 732 [595,600,607,614,621,628,635,642,647,654,668,675,682,689,696,703,710,717,724,731]:=by
   constructor
   case Jx=>exact RW.JY.fd D1 (by decide +kernel)
   case MJ=>exact RW.JY.fd D2 (by decide +kernel)
   case K4=>exact RW.JY.fd D3 (by decide +kernel)
   case TC=>exact TT.Aa
   case S0=>exact TT.ranges
   case TB=>exact TT.jY
   case S6=>exact RW.jU
   case S9=>exact λH=> .inr TT.YC
   case TD=>exact λH=> .inr TT.X0
   case cs=>exact⟨by decide⟩
   case Qx=>exact E1
   all_goals first
    |k_is
    |exact⟨_,_,by k_is,L2.pi (by k_is) (by k_is) (by k_is)⟩
    |exact⟨_,_,by k_is,by k_is,L2.pi (by k_is) (by k_is) (by k_is)⟩
    | (show HA _ _ _=_;k_is)
    |exact⟨_,by k_is⟩
    |exact⟨by k_is,⟨by k_is,by k_is,by k_is,by k_is⟩,by k_is,by k_is⟩
    |exact⟨_,_,_,by k_is,⟨⟨_,_,_,_,_,_,_,_,rfl,by k_is,by k_is⟩,by k_is,by kernel_rfl⟩⟩
    |exact⟨_,_,_,by k_is,by k_is,⟨⟨_,_,_,_,_,_,_,_,rfl,by k_is,by k_is⟩,by k_is,by kernel_rfl⟩⟩
  exact TK
end
@[elab_as_elim]theorem rwG{a:Sort u}{b c:a}{P:a->Prop}(h:b=c)(x:P c):P b:=h▸x
@[elab_as_elim]theorem rwB{a:Sort u}{b c:a}{P:a->Prop}(h:c=b)(x:P c):P b:=h▸x
theorem xE4{a:Sort _}{b:Sort _}{c:Sort _}{d:Sort _}{p:a->b->c->d->Prop}{G:Prop}(h:∃x y z w,p x y z w)(k:∀x y z w,p x y z w->G):G:=h.elim fun _ h=>h.elim fun _ h=>h.elim fun _ h=>h.elim fun _ h=>k _ _ _ _ h
theorem xE2{a:Sort _}{b:Sort _}{p:a->b->Prop}{G:Prop}(h:∃x y,p x y)(k:∀x y,p x y->G):G:=h.elim fun _ h=>h.elim fun _ h=>k _ _ h
theorem xA4{a b c d e G:Prop}(h:a/\b/\c/\d/\e)(k:a->b->c->d->e->G):G:=k h.1 h.2.1 h.2.2.1 h.2.2.2.1 h.2.2.2.2
theorem yE4{a:Sort _}{b:Sort _}{c:Sort _}{d:Sort _}{p:a->b->c->d->Prop}(x y z w)(h:p x y z w):∃x y z w,p x y z w:=⟨x,y,z,w,h⟩
theorem yE2{a:Sort _}{b:Sort _}{p:a->b->Prop}(x y)(h:p x y):∃x y,p x y:=⟨x,y,h⟩
theorem xS{a:Sort _}{b:Sort _}{N u:a->b->Prop}{s:a}{t:b}(l:N=u)(h:u s t):N s t:=l▸h
theorem xA1{a b G:Prop}(h:a/\b)(k:a->b->G):G:=k h.1 h.2
theorem xA2{a b c G:Prop}(h:a/\b/\c)(k:a->b->c->G):G:=k h.1 h.2.1 h.2.2
section
open Lean
def CvP:Nat->Term->MacroM (TSyntax `rcasesPat)
|n+1,t=>match t with
 |`(($x,$y,*))=>do `(rcasesPat|⟨$(←(#[x]++y.getElems).mapM fun z=>do `(Parser.Tactic.rcasesPatLo|$(←CvP n z):rcasesPat)),*⟩)
 |`($i:ident)=>`(rcasesPat|$i:ident)
 |`(_)=>`(rcasesPat|_)
 |_=>Macro.throwUnsupported
|_,_=>Macro.throwUnsupported
def ObP(e:Term)(q:Array (TSyntax `Lean.Parser.Tactic.rcasesPatLo)):MacroM (TSyntax `tactic):=do
 let mut A:=#[]
 for (k,f) in [(4,`xE4),(4,`xA4),(2,`xE2),(1,`Exists.elim),(2,`xA2),(1,`xA1)] do
  if q.size<=k then continue
  let mut t:Array Term:=#[]
  let mut u:Array (TSyntax `tactic):=#[← `(tactic|skip)]
  let mut w:=true
  let l:=q.size==k+1
  for p in (if l then q else q[0:k]) do match p with
   |`(Parser.Tactic.rcasesPatLo|rfl)=>
    let x:=mkIdent (← Macro.addMacroScope (.mkSimple s!"e{t.size}"))
    t:=t.push x;u:=u.push (← `(tactic|subst $x:ident))
   |`(Parser.Tactic.rcasesPatLo|-)=>
    let x:=mkIdent (← Macro.addMacroScope (.mkSimple s!"e{t.size}"))
    t:=t.push x;u:=u.push (← `(tactic|try clear $x:ident))
   |`(Parser.Tactic.rcasesPatLo|⟨$z,*⟩)=>
    let x:=mkIdent (← Macro.addMacroScope (.mkSimple s!"e{t.size}"))
    t:=t.push x;u:=u.push (← `(tactic|rcases $x:ident with ⟨$z,*⟩))
   |`(Parser.Tactic.rcasesPatLo|$i:ident)=>t:=t.push i
   |`(Parser.Tactic.rcasesPatLo|_)=>t:=t.push (← `(_))
   |_=>if l && t.size==k then t:=t.push (← `(h));u:=u.push (← `(tactic|rcases h with $p)) else w:=false
  if !w then continue
  if !l then t:=t.push (← `(h));let r:=q[k:q.size].toArray;u:=u.push (← `(tactic|rcases h with ⟨$r,*⟩))
  let n:=e.raw.getId
  let v ← if e.raw.isIdent && t.any (·.raw.getId == n) then `(tactic|((revert $(⟨e.raw⟩):ident);refine fun z=>$(mkIdent f) z fun $t*=>?_;clear z)) else if e.raw.isIdent then `(tactic|(refine $(mkIdent f) $e fun $t*=>?_;try clear $(⟨e.raw⟩):ident)) else `(tactic|refine $(mkIdent f) $e fun $t*=>?_)
  A:=A.push (← `(tactic|($v:tactic;$[$u:tactic];*)))
 `(tactic|first $[|$A:tactic]*|obtain ⟨$q,*⟩ : _ := $e)
def InP(q:Array Term):MacroM (TSyntax `tactic):=do
 let T:=fun (l:Array Term)=>do if l.size==1 then pure l[0]! else `(⟨$l,*⟩)
 let R:=fun (n:Nat)=>do let l:=q[n:q.size].toArray;let r:=l[1:l.size].toArray;if l.size==1 then `(tactic|refine $(l[0]!)) else `(tactic|refine ($(l[0]!),$r,*))
 let I:=fun (n:Nat)=>q.size>n && (q[n]!).raw.getId==`rfl
 let mut A:Array Term:=#[]
 for (n,m) in [(4,4),(4,2),(4,0),(2,0)] do
  if q.size<=n+m || q.size<6 then continue
  let mut r ← T q[n+m:q.size]
  if m==4 then r ← `(yE4 $(q[n]!) $(q[n+1]!) $(q[n+2]!) $(q[n+3]!) $r)
  if m==2 then r ← `(yE2 $(q[n]!) $(q[n+1]!) $r)
  if n==4 then r ← `(yE4 $(q[0]!) $(q[1]!) $(q[2]!) $(q[3]!) $r)
  if n==2 then r ← `(yE2 $(q[0]!) $(q[1]!) $r)
  A:=A.push r
 A:=A.push (← T q)
 let C ← A.mapM fun t=>`(tactic|refine $t:term)
 let mut B:Array (TSyntax `tactic):=#[]
 if q.size>5 && I 1 then
  let S ← [`RW.cw,`RW.bW,`RW.cY,`RW.bN,`RW.bI,`RW.cZ,`RW.cU,`RW.cb,`RW.cf,`RW.bd,`RW.bv,`RW.bu,`RW.cC,`RW.cB,`RW.cN,`RW.bi,`RW.bJ,`RW.bq,`RW.be,`RW.bH].toArray.mapM fun x=>`(tactic|refine $(mkIdent x) ?_)
  B:=B.push (← `(tactic|((repeat with_reducible first $[|$S:tactic]*);with_reducible (apply $(mkIdent `RW.bF);with_unfolding_all exact rfl);$(← R 2):tactic)))
  B:=B.push (← `(tactic|(refine $(mkIdent `RW.bF) (by exact rfl) ?_;$(← R 2):tactic)))
 if I 5 && q.size>10 then B:=B.push (← `(tactic|(with_reducible (apply $(mkIdent `RW.bO);with_unfolding_all (exact $(q[6]!);exact $(q[7]!);exact $(q[8]!);exact $(q[9]!)));$(← R 10):tactic)))
 if I 2 && I 3 && q.size>4 then B:=B.push (← `(tactic|((with_reducible refine $(mkIdent `RW.bS) ?_);$(← R 4):tactic)))
 B:=B++C
 `(tactic|first $[|$B:tactic]*)
end
noncomputable section
local macro_rules | `(($a,$b,*)) => `(⟨$a,$b,*⟩)
local macro_rules
|`(())=>`(by lia)
local macro_rules|`(tactic|cases $x:ident)=>`(tactic|first|((fail_if_success (fail_if_success have:=Eq.symm $x));(first|subst ($x)|(with_reducible replace $x:ident:=Option.some.inj $x;cases $x:ident)|contradiction|(injection $x with a b c;cases a;cases b;cases c)|(injection $x with a b;cases a;cases b)|(injection $x with a;cases a)))|cases ($x))
local macro_rules|`(nomatch $x:ident)=>`(by cases $x:ident)
local macro_rules|`(tactic|lia)=>do
 let s ← `(by assumption)
 let q ← `(Eq.symm (by assumption))
 let P:=fun n=>Lean.mkIdent (.str `Nat n)
 let A ← #["le_of_lt","le_of_eq","le_of_not_lt","lt_of_not_le","le_of_lt_succ","succ_le_of_lt","lt_of_succ_le"].mapM fun n=>`(tactic|exact $(P n) $s)
 let B ← #[`Nat.lt_of_lt_of_le,`Nat.lt_of_le_of_lt,`Nat.le_trans,`lt_of_lt_of_eq,`lt_of_eq_of_lt,`le_of_le_of_eq,`le_of_eq_of_le].mapM fun n=>`(tactic|exact $(Lean.mkIdent n) $s $s)
 let C ← #[`lt_of_lt_of_eq,`le_of_le_of_eq].mapM fun n=>`(tactic|exact $(Lean.mkIdent n) $s $q)
 let D ← #["le_refl","lt_succ_self","zero_le","succ_pos","le_succ"].mapM fun n=>`(tactic|exact $(P n) _)
 `(tactic|first|with_reducible first|assumption $[|$(A++B++C++D):tactic]*|exact Nat.le_of_eq $q|decide|lia (config:={})|omega)
local macro_rules
|`(tactic|erw[$r,*])=>do
 let a ← r.getElems.mapM fun x=>do
  let y ← `(tactic|rewrite[$x])
  let e:Lean.Term:=⟨x.raw[1]⟩
  if (e.raw.find? fun s=>s.isOfKind ``Lean.Parser.Term.byTactic||s.isOfKind ``Lean.Parser.Term.tuple).isSome then pure y
  else `(tactic|first|with_reducible refine $(Lean.mkIdent (if x.raw[0].isNone then `rwG else `rwB)) ($e ..) ?_|$y:tactic)
 `(tactic|(($[$a:tactic];*);with_reducible (try rfl)))
local macro_rules
|`($x⁻¹)=>`(($x).heap.objs.size)
local macro_rules
|`(∅)=>`(by first|exact $(Lean.mkIdent `RW.kne) rfl|simp [$(Lean.mkIdent `RW.kindOf):term])
local macro_rules
|`(def $i:declId $b* : $t $v:declVal)=>match i.raw[0].getId with
 |.str _ s=>if s.front.isLower then `(theorem $i $b* : $t $v:declVal) else `(noncomputable def $i $b* : $t $v:declVal)
 |_=>Lean.Macro.throwUnsupported
local macro_rules
|`(tactic|obtain ⟨$p,*⟩ := $e)=>if p.getElems.size<2 then Lean.Macro.throwUnsupported else if p.getElems.size<3 then ObP e p.getElems else do `(tactic|first|(refine Classical.byContradiction fun k=>?_;$(←ObP e p.getElems):tactic<;>(refine k ?_;clear k))|obtain ⟨$p,*⟩ : _ := $e)
|`(tactic|rcases $e:term with ⟨$p,*⟩)=>if p.getElems.size<2 then Lean.Macro.throwUnsupported else ObP e p.getElems
|`(tactic|have ($a,$b,*) := $e)=>do
 let p ← (#[a]++b.getElems).mapM fun z=>do `(Lean.Parser.Tactic.rcasesPatLo|$(←CvP 9 z):rcasesPat)
 `(tactic|obtain ⟨$p,*⟩ := $e)
|`(tactic|rintro $q*)=>do
 unless q.any (·.raw[0].isOfKind `Lean.Parser.Tactic.rcasesPat.tuple) do Lean.Macro.throwUnsupported
 let u:Array (Lean.TSyntax `tactic) ← q.raw.mapM fun p=>match (⟨p⟩:Lean.TSyntax `rintroPat) with
  |`(rintroPat|⟨$z,*⟩)=>`(tactic|(intro h;obtain ⟨$z,*⟩ := h))
  |p=>`(tactic|rintro $p:rintroPat)
 `(tactic|($[$u:tactic];*))
|`(tactic|subst $x:ident)=>`(tactic|first|(with_reducible refine xS $x ?_;clear $x)|((fail_if_success (fail_if_success (with_reducible have:@Eq ($(Lean.mkIdent `L2.St)->$(Lean.mkIdent `L2.Hp)->Prop) _ _:=$x)));simp! [];with_reducible refine xS $x ?_;clear $x)|(refine xS $x ?_;clear $x)|subst ($x))
|`(tactic|exists $a:ident,$b:ident)=>`(tactic|refine $(Lean.mkIdent `RW.sq) fun $a $b=>?_)
|`(tactic|exists $t,$a:ident,$b:ident,$c:ident)=>do
 let v:=#[a]++#[`A,`outer,`s,`H,`vs,`Q,`E].map Lean.mkIdent++#[b,c,Lean.mkIdent `h]
 `(tactic|refine $t fun $v*=>?_)
|`(tactic|refine ($a,$b,*))=>if b.getElems.size<3 then Lean.Macro.throwUnsupported else InP (#[a]++b.getElems)
|`(tactic|intro $t:term*)=>do if t.any (·.raw.isOfKind `Lean.Parser.Term.tuple) then `(tactic|rintro $(←t.mapM fun x=>do `(rintroPat|$(←CvP 9 x):rcasesPat))*) else Lean.Macro.throwUnsupported
section
namespace L2
open PySem PySem.Spec PyProof.Rows
def xQ(i:Int)(t:Tok):Fh (.inl i) (.int i t)=AC:=by simp[Fh,Value.isInt]
def xP(x:Str)(t:Tok):Fh (.inr x) (.str x t)=AC:=by simp[Fh,Value.isStrOf]
def wT(prog:ET)(w:Do)(i:Int)(t:Tok):(BJ prog w).is (.inl i) (.int i t)=AC:=xQ i t
def wS(prog:ET)(w:Do)(x:Str)(t:Tok):(BJ prog w).is (.inr x) (.str x t)=AC:=xP x t
def Vals.length(r:Vals xs us):xs.length=us.length:=Hh r
def Vals.get:∀{xs:List V} {us:List AI} {i:Nat} {x:V},Vals xs us->xs[i]? =AA x->∃u,us[i]? =AA u/\RelV x u
 | _,_,_,_,.nil,e=>by simp at e
 | _,_,0,_,.cons r _,e=>by simp at e;subst e;exact(_,rfl,r)
 | _,_,i+1,x,.cons _ t,e=>by
  have(u,b,a):=Vals.get (i:=i) (x:=x) t (by simpa using e);exact(u,by simpa using b,a)
def Vals.set(r:RelV x u):∀{xs:List V} {us:List AI} (i:Nat),Vals xs us->Vals (xs.set i x) (us.set i u)
 | _,_,_,.nil=> .nil
 | _,_,0,.cons _ t=> .cons r t
 | _,_,i+1,.cons q t=> .cons q (Vals.set r i t)
def Vals.append:∀{xs ys:List V} {us a:List AI},Vals xs us->Vals ys a->Vals (xs ++ ys) (us ++ a)
 | _,_,_,_,.nil,s=>s
 | _,_,_,_,.cons r t,s=> .cons r (Vals.append t s)
def Vals.take:∀{xs:List V} {us:List AI} (n:Nat),Vals xs us->Vals (xs.take n) (us.take n)
 | _,_,0,_=> .nil
 | _,_,_+1,.nil=> .nil
 | _,_,n+1,.cons r t=> .cons r (Vals.take n t)
def Vals.drop:∀{xs:List V} {us:List AI} (n:Nat),Vals xs us->Vals (xs.drop n) (us.drop n)
 | _,_,0,r=>r
 | _,_,_+1,.nil=> .nil
 | _,_,n+1,.cons _ t=>Vals.drop n t
def Ev:Option V->Option AI->Prop
 |some v,AA u=>RelV v u
 |none,AB=>True
 | _,_=>False
@[inline]def upd(H:Hp)(a:AD)(o:HO):Hp:=λb=>if b=a then AA o else H b
def aB:upd H a o a=AA o:=by unfold upd;erw[AJ rfl]
def aC(h:b≠a):upd H a o b=H b:=by unfold upd;erw[AK h]
def ah:upd (upd H a o) a u=upd H a u:=by
 funext b;unfold upd;split<;>rfl
def wN{H:Hp}(h:H a=AA o)(h':H b=AA u)(d:o≠u):a≠b:=by
 intro e;subst e;rw[h]at h';exact d (Ap h')
def aT{H:Hp}(h:H a=AA o)(h':H b=AB):a≠b:=by
 intro e;subst e;rw[h]at h';cases h'
section
variable (P:ET) (w:Do)
def Dg(H:Hp)(h:BI)(a:AD):HO->Prop
 | .lst xs=>xs.length<=Ae/\∃(its:List AI) (n:Nat),Vals xs its/\h.get? a=AA {cls:=.type "list",data:=.seq its.toArray n}
 | .tup xs=>xs.length<=Ae/\∃its:List AI,Vals xs its/\IsTup h a its.toArray
 | .dK c=>c.length<=Ae/\(a==E2)=AF/\∃vs,KV c vs/\h.DictOf (BJ P w) a vs
 | .dT c=>c.length<=Ae/\(a==E2)=AF/\∃xs:List (List Key×AD×AI),
   Hi (λ(p:List Key×V) (q:List Key×AD×AI)=>p.1=q.1/\H q.2.1=AA (.tup (p.1.map kV))/\RelV p.2 q.2.2) c xs/\
   ∃o j l,h.get? a=AA o/\o.ExactDict/\o.data=.dict j l/\j.toList=xs.map (entryOfKey (Ez (BJ P w)))/\(xs.map (·.1)).Nodup
 | .set S n=>h.SetOf (intKind P w) a S n
 | .ins C d fs=>H d=AA (.own a)/\fs.length<=1000/\d≠a/\h.get? a=AA (Jl C d)/\
   ∃b,h.Ns1 d b/\(∀f,Ev (fs.lookup f) (b f))/\R1 b (fs.map (·.1))
 | .own _=>∃o,h.get? a=AA o
 | .xd fs=>∃b,h.Ns1 a b/\∀f,Ev (fs.lookup f) (b f)
 | .Nj lo k=>∃t u v,h.get? a=AA {cls:=.type "range",data:=.fields #[.int lo t,.int k u,.int 1 v]}
 | .BA o u=>h.get? a=AA o/\Dg H h a u
 | .aY ps=>h.get? a=AA {cls:=.none,data:=.fields ps}
 | .met f x=>h.get? a=AA (R5 (.ref f) (.ref x))
 | .ext e=>e h/\(∃o,h.get? a=AA o)/\∀i g:BI,e i->(∀o,i.get? a=AA o->g.get? a=AA o)->e g
def Di(H:Hp)(h:BI):Prop:=∀a o,H a=AA o->Dg P w H h a o
end
def Dg.lt(x:Dg j w H h a o):a<h.objs.size:=by
 cases o with
 |lst xs=>have(_,_,_,_,e):=x;exact BG e
 |tup xs=>have(_,_,_,p):=x;exact p.lt
 |dK b=>have(_,_,_,_,o,_,_,e,_):=x;exact BG e
 |dT b=>have(_,_,_,_,o,_,_,e,_):=x;exact BG e
 |set S n=>have(o,_,_,_,e,_):=x;exact BG e
 |ins C i fs=>have(_,_,_,e,_):=x;exact BG e
 |own y=>have(_,e):=x;exact BG e
 |xd fs=>have(_,(_,_,_,e,_),_):=x;exact BG e
 |Nj lo g=>have(_,_,_,e):=x;exact BG e
 |BA d u=>have(e,_):=x;exact BG e
 |aY ps=>exact BG (show h.get? a=AA _ from x)
 |met f y=>exact BG (show h.get? a=AA _ from x)
 |ext c=>have(_,(_,e),_):=x;exact BG e
def Paired.lC{G:g->e->Prop}:∀{d:List g} {c:List e},Hi h d c->(∀a b,h a b->G a b)->Hi G d c
 | _,_,.nil,_=> .nil
 | _,_,.cons r t,f=> .cons (f _ _ r) (Paired.lC t f)
def Dg.stay{s:Hp}(x:Dg I w H h a o)(k:∀b u,(b=a\/H b=AA (.own a))->h.get? b=AA u->h'.get? b=AA u)(E:∀b,H b=AA (.own a)->s b=AA (.own a))(D:∀b xs,H b=AA (.tup xs)->s b=AA (.tup xs)):Dg I w s h' a o:=by
 induction o with
 |lst xs=>have(z,its,n,r,e):=x;exact(z,its,n,r,k _ _ (.inl rfl) e)
 |tup xs=>have(z,its,r,g,e,c):=x;exact(z,its,r,g,k _ _ (.inl rfl) e,c)
 |dK A=>have(z,y,vs,r,g,i,j,e,c):=x;exact(z,y,vs,r,g,i,j,k _ _ (.inl rfl) e,c)
 |dT A=>
  have(z,y,xs,r,g,i,j,e,c):=x;exact(z,y,xs,Paired.lC r λp q z=>(z.1,D _ _ z.2.1,z.2.2),g,i,j,k _ _ (.inl rfl) e,c)
 |set S n=>have(g,i,j,t,e,c):=x;exact(g,i,j,t,k _ _ (.inl rfl) e,c)
 |ins C M fs=>
  have(d,z,ne,e,m,(l,i,j,G,c),r):=x;exact(E _ d,z,ne,k _ _ (.inl rfl) e,m,(l,i,j,k _ _ (.inr d) G,c),r)
 |own y=>have(g,e):=x;exact(g,k _ _ (.inl rfl) e)
 |xd fs=>have(m,(l,i,j,e,c),r):=x;exact(m,(l,i,j,k _ _ (.inl rfl) e,c),r)
 |Nj lo L=>have(t,u,v,e):=x;exact(t,u,v,k _ _ (.inl rfl) e)
 |BA g u B=>have(e,q):=x;exact(k _ _ (.inl rfl) e,B q)
 |aY ps=>
  have e:h.get? a=AA {cls:=.none,data:=.fields ps}:=x;show h'.get? a=AA {cls:=.none,data:=.fields ps};exact k a _ (.inl rfl) e
 |met f y=>
  have e:h.get? a=AA (R5 (.ref f) (.ref y)):=x;show h'.get? a=AA (R5 (.ref f) (.ref y));exact k a _ (.inl rfl) e
 |ext J=>have(p,(o,e),st):=x;exact(st _ _ p λo q=>k _ _ (.inl rfl) q,(o,k _ _ (.inl rfl) e),st)
def Di.lt(x:Di b w H h)(e:H a=AA o):a<h.objs.size:=(x a o e).lt
def Di.fresh(x:Di b w H h)(e:h.objs.size<=a):H a=AB:=by
 cases q:H a with
 |none=>rfl
 |some u=>exact absurd (E5 (x.lt q) e) (F6 _)
def Di.kept(x:Di c w H h)(k:∀b u,h.get? b=AA u->h'.get? b=AA u):Di c w H h':=λa o e=>
 (x a o e).stay (λb u _ q=>k b u q) (λ_ q=>q) λ_ _ q=>q
def Di.laid(x:Di g w H h)(k:∀b u,h.get? b=AA u->h'.get? b=AA u)(i:h.objs.size<=a)(new:Dg g w (upd H a o) h' a o):Di g w (upd H a o) h':=λb u e=>by
 have d:=x.fresh i;by_cases f:b=a;subst f;rw[aB]at e;cases e;exact new;rw[aC f]at e;exact(x b u e).stay (λc v _ q=>k c v q) (λc q=>by erw[aC (aT q d)];exact q) λc xs q=>by erw[aC (aT q d)];exact q
def Rd.ok(r:Rd H a u)(x:Di b w H h):Dg b w H h a u:=by
 rcases r with r| ⟨o,r⟩;exact x a u r;have(_,q):=x a _ r;exact q
def Ik:Option HO->Prop
 |some (.lst _)=>True
 |some (.dK _)=>True
 |some (.dT _)=>True
 |some (.set _ _)=>True
 |some (.ins _ _ _)=>True
 |some (.ext _)=>True
 | _=>False
def Di.write(ok:Di n w H h)(a:Ik (H x))(m:e=x\/H e=AA (.own x))(k:∀b u,b≠e->h.get? b=AA u->h'.get? b=AA u)(s:∃u,h'.get? e=AA u)(new:Dg n w (upd H x j) h' x j):Di n w (upd H x j) h':=λb u q=>by
 have l:∀c y,H c=AA (.own y)->c≠x:=λc y r z=>by subst z;rw[r]at a;exact a
 have o:∀c xs,H c=AA (.tup xs)->c≠x:=λc xs r z=>by subst z;rw[r]at a;exact a
 by_cases g:b=x;subst g;rw[aB]at q;cases q;exact new;rw[aC g]at q;by_cases f:b=e;have i:H b=AA (.own x):=by
  rcases m with z|z;exact absurd (f.trans z) g;erw[f];exact z
 rw[q]at i;cases i;have(v,p):=s;exact(v,by erw[f];exact p);refine(ok b u q).stay (λc v d r=>k c v ?_ r) (λc r=>by erw[aC (l c b r)];exact r) λc xs r=>by erw[aC (o c xs r)];exact r
 rcases d with rfl|d;exact f;rintro rfl;rcases m with z|z;exact l c b d z;rw[d]at z;cases z;exact g rfl
structure Un(fs ex:List AD)(H H':Hp)(h h':BI):Prop where
 keep:∀b o,h.get? b=AA o->H b=AB->b∉fs->b∉ex->h'.get? b=AA o
 slot:∀b o,h.get? b=AA o->H b=AB->b∈fs->b∉ex->∃sl,h'.get? b=AA {o with slots:=sl}
 free:∀b o,h.get? b=AA o->H b=AB->b∉ex->H' b=AB
 there:∀b o,h.get? b=AA o->b∉ex->∃o',h'.get? b=AA o'
 tups:∀b xs,H b=AA (.tup xs)->H' b=AA (.tup xs)
 HL:∀b o u,H b=AA (.BA o u)->H' b=AA (.BA o u)
 Hr:∀b ps,H b=AA (.aY ps)->∃more,H' b=AA (.aY (ps ++ more))
def Un.any(u:Un fs ex H g h f)(q:h.get? b=AA a)(n:H b=AB)(c:b∉ex):∃e,f.get? b=AA {a with slots:=e}:=by
 by_cases d:b∈fs;exact u.slot b a q n d c;exact(a.slots,u.keep b a q n d c)
def Un.kept(k:∀b u,h.get? b=AA u->h'.get? b=AA u):Un fs ex H H h h':=
 (λb a q _ _ _=>k b a q,λb a q _ _ _=>(a.slots,k b a q),λ_ _ _ n _=>n,λb a q _=>(a,k b a q),λ_ _ q=>q,λ_ _ _ q=>q,λ_ ps q=>(#[],by erw[q];simp))
def Un.refl:Un fs ex H H h h:=Un.kept λ_ _ q=>q
def Un.laid{H:Hp}(k:∀b u,h.get? b=AA u->h'.get? b=AA u)(d:h.objs.size<=a)(c:H a=AB):Un fs ex H (upd H a o) h h' where
 keep:=λb u q _ _ _=>k b u q
 slot:=λb u q _ _ _=>(u.slots,k b u q)
 free:=λb u q n _=>by erw[aC (DU (E5 (BG q) d))];exact n
 there:=λb u q _=>(u,k b u q)
 tups:=λb xs q=>by erw[aC (aT q c)];exact q
 HL:=λb u xs q=>by erw[aC (aT q c)];exact q
 Hr:=λb ps q=>(#[],by erw[aC (aT q c),q];simp)
def Un.write{H:Hp}(a:Ik (H x))(l:e=x\/H e=AA (.own x))(k:∀b u,b≠e->h.get? b=AA u->h'.get? b=AA u)(j:∃u,h'.get? e=AA u):Un fs ex H (upd H x o) h h':=by
 have d:∀b,H b=AB->b≠x:=λb n z=>by subst z;rw[n]at a;exact a
 have g:∀b,H b=AB->b≠e:=λb n z=>by
  subst z;rcases l with r|r;exact d b n r;rw[n]at r;cases r
 have c:∀b u,H b=AA u->¬Ik (AA u)->b≠x:=λb u q i z=>by subst z;rw[q]at a;exact i a
 refine(λb u q n _ _=>k b u (g b n) q,λb u q n _ _=>(u.slots,k b u (g b n) q),λb u q n _=>by erw[aC (d b n)];exact n,λb u q _=>?_,
  λb xs q=>by erw[aC (c b _ q λz=>z)];exact q,λb u xs q=>by erw[aC (c b _ q λz=>z)];exact q,λb ps q=>(#[],by erw[aC (c b _ q λz=>z),q];simp));by_cases f:b=e;subst f;exact j;exact(u,k b u f q)
def NQ(h:BI)(H:Hp):List AD:=(Ai h.objs.size).filter λa=>(H a).isSome
def IA(h:BI)(H:Hp):BI:=PySem.W.hideAll h (NQ h H)
def xZ(h:BI)(H:Hp):(IA h H).objs.size=h.objs.size:=PySem.W.hideAll_size _ _
def xa{H:Hp}(e:h.get? b=AA o)(n:H b=AB):(IA h H).get? b=AA o:=
 PySem.W.hideAll_get _ e λa=>by
  have q:(H b).isSome=AC:=(EJ.mp a).2;rw[n]at q;simp at q
def wB(e:(IA h H).get? b=AA o):h.get? b=AA o/\H b=AB:=by
 have a:h.get? b=AA o:=PySem.W.of_hideAll (NQ h H) e;refine(a,?_);cases q:H b with
 |none=>rfl
 |some x=>
  have c:b∈NQ h H:=EJ.mpr (EC.mpr (BG a),by simp[q]);have z:(IA h H).get? b=AB:=PySem.W.hideAll_none (NQ h H) c;rw[z]at e;cases e
def JP(g h:BI)(L:AD):List (AD×Obj):=(Ai h.objs.size).filterMap λa=>if a=L\/(g.get? a).isSome=AC then AB else(h.get? a).map λo=>(AE a o)
def oy(d:a≠L)(c:g.get? a=AB)(b:h.get? a=AA o):(AE a o)∈JP g h L:=
 M9.mpr (a,EC.mpr (BG b),by simp[d,c,b])
def wA(c:p∈JP g h L):p.1≠L/\g.get? p.1=AB/\h.get? p.1=AA p.2:=by
 have(b,_,e):=M9.mp c;split at e;cases e;rename_i a;cases q:h.get? b with
 |none=>rw[q]at e;simp at e
 |some u=>
  rw[q]at e;simp only[EH,Cq]at e;subst e;refine(λz=>a (.inl z),?_,q);show g.get? b=AB;cases r:g.get? b with
  |none=>rfl
  |some v=>exact(a (.inr (by simp[r]))).elim
@[inline]def rest(g h:BI)(L d:AD):List (AD×Obj):=(JP g h L).filter λp=>decide (p.1≠d)
def on:News g L h (JP g h L):=λp d=>let(a,b,c):=wA d;(c,a,b)
structure Mod(K:Ao)(mg:Str->Option AI)(base:BI):Prop where
 Kz:K.In base
 glob:base.Ns DG mg
 blt:∃mb,base.Ns Mt mb/\∀x:Str,x≠"__name__"->mb x=Fm x
 nolimit:base.NoLimit
structure Cx where
 prog:ET
 w:Do
 K:Ao
 mg:Str->Option AI
 base:BI
 A:Fa
 N:List Str
 Es:AO
 J6:Hp
 env:Env
 outer:List Env
 stack:List Env
 ex:List AD
 fn:Str->Bool
 calm:Bool
 pn:List (AD×Obj)
 xe:AI->AO->Prop
@[inline]def frs(l:List Env):List AD:=l.filterMap (·.frame)
abbrev Cx.fs(a:Cx):List AD:=frs a.outer
class Gz (X:Cx) (K:outParam Ao):Prop where
 eq:X.K=K
instance (priority:=low) A0D (X:Cx):Gz X X.K:=⟨rfl⟩
def K7(a:Fz)(x:Str):Prop:=a.names.lookup x=AA .local\/a.names.lookup x=AA .cell\/a.names.lookup x=AA .free
def Loc(a:Fz)(x:Str):Prop:=a.names.lookup x=AA .local\/a.names.lookup x=AA .cell
def Look(env:Env)(h:BI)(m:Str->Option AI)(x:Str)(u:AI):Prop:=
 (env.kindOf x=AA .local/\m x=AA u)\/((env.kindOf x=AA .cell\/env.kindOf x=AA .free)/\∃c,env.cells.lookup x=AA c/\h.IsCell c (AA u))
structure Cx.Ok(X:Cx):Prop where
 mod:Mod X.K X.mg X.base
 kind:X.env.scope.kind=.function
 glob:X.env.globals=DG
 blt:X.env.builtins=Mt
 above:X.Es⁻¹<=X.env.locals
 inj:∀x y c,X.env.cells.lookup x=AA c->X.env.cells.lookup y=AA c->x=y
 has:∀x,(X.env.kindOf x=AA .cell\/X.env.kindOf x=AA .free)->∃c,X.env.cells.lookup x=AA c
 MK:∀x c,X.fn x=AC->X.env.cells.lookup x=AA c->X.Es⁻¹<=c
 hd:X.calm=AC->X.A.handled=AB
 frames:X.A.frames=AA X.stack
 stk:X.stack=X.outer\/(X.stack=X.env::X.outer/\X.env.frame=AA X.env.locals)
 Nz:∀b∈X.ex,b≠X.env.locals/\∀x c,X.env.cells.lookup x=AA c->c≠b
 bs:∀b o,X.base.get? b=AA o->X.Es.heap.get? b=AA o/\X.J6 b=AB
 IF:X.base.objs.size<=X.Es⁻¹
 Ly:∀b o,X.base.get? b=AA o->b∉X.ex
 MH:∀b∈X.ex,b∉X.fs
 fF:X.Es.heap.FunFrames X.base X.outer
 Jw:∀b∈X.fs,X.J6 b=AB
structure Inv(X:Cx)(pins:List (AD×Obj))(σ:List (Option V))(H:Hp)(s:AO):Prop where
 ok:X.Ok
 os:s.os=X.Es.os
 bare:Kg s.gens
 base:Un X.fs X.ex X.J6 H X.Es.heap s.heap
 loc:∃m,s.heap.Ns X.env.locals m/\∀(i:Nat) (x:Str) (v:V),X.N[i]? =AA x->σ[i]? =AA (AA v)->K7 X.env.scope x->∃u,RelV v u/\Look X.env s.heap m x u
 cell:∀x c,X.env.cells.lookup x=AA c->∃v,s.heap.IsCell c v
 free:H X.env.locals=AB
 Gc:∀x c,X.env.cells.lookup x=AA c->H c=AB
 pin:∀p∈X.pn ++ pins,s.heap.get? p.1=AA p.2/\H p.1=AB/\p.1≠X.env.locals/\p.1∉X.fs/\∀v,p.2.data≠.cell v
 hok:Di X.prog X.w H s.heap
 len:σ.length=X.N.length
def Cx.Ok.wF{X:Cx}(ok:X.Ok)(e:X.base.get? b=AA o):b∉X.fs:=λa=>by
 have:=(ok.fF.mem a).1;rw[e]at this;cases this
def Inv.bs(I:Inv a pins c H s):∀b o,a.base.get? b=AA o->s.heap.get? b=AA o/\H b=AB:=λb o e=>
 (I.base.keep b o (I.ok.bs b o e).1 (I.ok.bs b o e).2 (I.ok.wF e) (I.ok.Ly b o e),I.base.free b o (I.ok.bs b o e).1 (I.ok.bs b o e).2 (I.ok.Ly b o e))
def Inv.bk(I:Inv a pins c H s):∀b o,a.base.get? b=AA o->s.heap.get? b=AA o:=λb o e=>(I.bs b o e).1
def Inv.mod(I:Inv a pins b H s):Mod a.K a.mg a.base:=I.ok.mod
def Inv.du(I:Inv a pins b H s):a.K.In s.heap:=I.ok.mod.Kz.keeps I.bk
def Inv.fr(I:Inv a pins c H s):∃m,Fr a.base a.env.locals s.heap m:=
 let(m,b,_):=I.loc
 (m,b,I.bk,Dj I.ok.IF I.ok.above)
def Inv.lt(I:Inv b pins c H s):b.env.locals<s⁻¹:=let(_,a,_):=I.loc;a.lt
def Inv.sz(I:Inv a pins b H s):a.Es⁻¹<=s⁻¹:=Dj I.ok.above (O0 I.lt)
def Inv.wE(I:Inv d pins e H s)(h:s⁻¹<=a):a∉d.fs:=λc=>by
 have(_,o,b,_):=I.ok.fF.mem c;exact absurd (E5 (BG b) (Dj I.sz h)) (F6 _)
def Inv.fm(I:Inv b pins g H s):∀x c,b.env.cells.lookup x=AA c->c≠b.env.locals:=λx c e z=>by
 have(v,o,a,hd):=I.cell x c e;have(m,(h,i,j,d,f,_),_):=I.loc;rw[z,d]at a;cases a;rw[f]at hd;cases hd
def Inv.fF(I:Inv a pins n H s):s.heap.FunFrames a.base a.outer:=by
 have all:∀(l:List Env),(∀b∈frs l,b∈a.fs)->a.Es.heap.FunFrames a.base l->s.heap.FunFrames a.base l:=by
  intro l;induction l with
  |nil=>intro _ _;trivial
  |cons env r g=>
   intro f k;have(m,(L,o,c,j,i,hd),h):=k;have hL:L∈a.fs:=f L (by unfold frs;erw[Ho,c];exact FK);have(p,e):=I.base.slot L o i (I.ok.Jw L hL) hL λz=>I.ok.MH L z hL;exact(m,(L,_,c,j,e,hd),g (λb d=>f b (by unfold frs;erw[Ho,c];exact Eb _ d)) h)
 exact all a.outer (λ_ d=>d) I.ok.fF
def Inv.stack(I:Inv a pins d H s):s.heap.FunFrames a.base a.stack:=by
 rcases I.ok.stk with e| ⟨e,c⟩;erw[e];exact I.fF;erw[e];have(m,b,_):=I.loc;refine .cons (by erw[I.ok.kind];decide) c b ?_ I.fF;exact Heap.get?_none_of_le (Dj I.ok.IF I.ok.above)
def Inv.j9(I:Inv c pins f H s):∀b∈frs c.stack,b∈c.env.locals::c.fs:=λb a=>by
 rcases I.ok.stk with e| ⟨e,d⟩;rw[e]at a;exact Eb _ a;rw[e]at a;unfold frs at a;rw[Ho,d]at a;exact a
def Inv.nI(I:Inv d pins f H s):∀b∈frs d.stack,H b=AB:=λb a=>by
 rcases Aj.mp (I.j9 b a)with e|a;erw[e];exact I.free;have(_,o,c,_):=I.ok.fF.mem a;exact I.base.free b o c (I.ok.Jw b a) λz=>I.ok.MH b z a
def Inv.step{X:Cx}{pins:List (AD×Obj)}{E:List (Option V)}{H:Hp}{j:Hp}{s:AO}{h':BI}{g':Array GenState}{t':Nat}{d':Drawn}{ch:List AD}(I:Inv X pins E H s)
  (A:∀b∈ch,(b∈X.ex\/X.Es⁻¹<=b)/\b≠X.env.locals/\(∀x c,X.env.cells.lookup x=AA c->c≠b)/\∀p∈X.pn ++ pins,p.1≠b)
  (keep:∀b o,b≠X.env.locals->b∉X.fs->b∉ch->s.heap.get? b=AA o->H b=AB->h'.get? b=AA o)
  (slot:∀b o,b≠X.env.locals->b∈X.fs->b∉ch->s.heap.get? b=AA o->H b=AB->∃D,h'.get? b=AA {o with slots:=D})(free:∀b o,b∉ch->s.heap.get? b=AA o->H b=AB->j b=AB)
  (there:∀b o,b∉ch->s.heap.get? b=AA o->∃t,h'.get? b=AA t)
  (tups:∀b xs,H b=AA (.tup xs)->j b=AA (.tup xs))(HL:∀b o u,H b=AA (.BA o u)->j b=AA (.BA o u))(Hr:∀b ps,H b=AA (.aY ps)->∃more,j b=AA (.aY (ps ++ more)))
  (ns:∀m,s.heap.Ns X.env.locals m->h'.Ns X.env.locals m)(T:Di X.prog X.w j h')(ab:Kg g'):
  Inv X pins E j {s with heap:=h',gens:=g',drawn:=d',toks:=t'}:=by
 have J:∀b o,X.Es.heap.get? b=AA o->b≠X.env.locals:=λb o e=>DU (E5 (BG e) I.ok.above);have C:∀b o,X.Es.heap.get? b=AA o->b∉X.ex->b∉ch:=λb o e a g=>by
  rcases (A b g).1 with z|z;exact a z;exact absurd (E5 (BG e) z) (F6 _)
 have N:∀x c,X.env.cells.lookup x=AA c->∀v,s.heap.IsCell c v->h'.IsCell c v:=λx c e v (o,h,hd)=>by
  have y:c∉ch:=λz=>(A c z).2.2.1 x c e rfl;by_cases M:c∈X.fs;have(D,q):=slot c o (I.fm x c e) M y h (I.Gc x c e);exact(_,q,hd);exact(o,keep c o (I.fm x c e) M y h (I.Gc x c e),hd)
 refine(I.ok,I.os,ab,(λb o e n g a=>?_,λb o e n g a=>?_,λb o e n a=>?_,λb o e a=>?_,λb xs e=>tups b xs (I.base.tups b xs e),λb o xs e=>HL b o xs (I.base.HL b o xs e),λb ps e=>?_),?_,λx c e=>?_,?_,λx c e=>?_,λp L=>?_,T,I.len);exact keep b o (J b o e) g (C b o e a) (I.base.keep b o e n g a) (I.base.free b o e n a);have(D,f):=I.base.slot b o e n g a;have(O,B):=slot b _ (J b o e) g (C b o e a) f (I.base.free b o e n a);exact(O,B);have(t,f):=I.base.there b o e a;exact free b t (C b o e a) f (I.base.free b o e n a);have(t,f):=I.base.there b o e a;exact there b t (C b o e a) f;have(m1,f):=I.base.Hr b ps e;have(Q,B):=Hr b _ f;exact(m1 ++ Q,by erw[B,Array.append_assoc]);have(m,U,Y):=I.loc;refine(m,ns m U,λi x v f B aj=>?_);have(u,r,l):=Y i x v f B aj;refine(u,r,?_);rcases l with l| ⟨k,c,e,z⟩;exact .inl l;exact .inr (k,c,e,N x c e _ z);have(v,z):=I.cell x c e;exact(v,N x c e v z);have(m,(o,_,_,h,_),_):=I.loc;exact free _ o (λz=>(A _ z).2.1 rfl) h I.free;have(v,o,h,hd):=I.cell x c e;exact free c o (λz=>(A c z).2.2.1 x c e rfl) h (I.Gc x c e);have(e,n,ne,G,d):=I.pin p L;have y:p.1∉ch:=λz=>(A p.1 z).2.2.2 p L rfl;exact(keep p.1 p.2 ne G y e n,free p.1 p.2 y e n,ne,G,d)
def Inv.un(I:Inv a pins h H s)(u:Un a.fs [] H g s.heap h')(i:Di a.prog a.w g h'):Inv a pins h g {s with heap:=h',toks:=t'}:=by
 have(m,(o,t,v,f,r),_):=id I.loc;have(p,hL):=u.any f I.free (by simp);exact I.step (g':=s.gens) (d':=s.drawn) (ch:=[]) (λ_ z=>nomatch z) (λb o _ c _ e n=>u.keep b o e n c (by simp)) (λb o _ c _ e n=>u.slot b o e n c (by simp)) (λb o _ e n=>u.free b o e n (by simp)) (λb o _ e=>u.there b o e (by simp)) u.tups u.HL u.Hr (λm' j=>by
  have(q,k,l,d,r'):=j;rw[f]at d;cases d;exact(_,k,l,hL,r')) i I.bare
def Inv.call(I:Inv a pins j H s)(u:Un (frs a.stack) ch H i s.heap h')(k:Di a.prog a.w i h')(q:Kg g')(h:∀b∈ch,(b∈a.ex\/a.Es⁻¹<=b)/\b≠a.env.locals/\(∀x c,a.env.cells.lookup x=AA c->c≠b)/\∀p∈a.pn ++ pins,p.1≠b):
  Inv a pins j i {s with heap:=h',gens:=g',drawn:=d',toks:=t'}:=by
 have(m,(o,C,D,g,r),_):=id I.loc;have(A,hL):=u.any g I.free λz=>(h _ z).2.1 rfl;exact I.step (ch:=ch) h (λb o hL t d e n=>u.keep b o e n (λz=>(Aj.mp (I.j9 b z)).elim hL t) d) (λb o _ _ d e n=>u.any e n d) (λb o d e n=>u.free b o e n d) (λb o d e=>u.there b o e d) u.tups u.HL u.Hr (λm' l=>by
  have(B,v,y,f,r'):=l;rw[g]at f;cases f;exact(_,v,y,hL,r')) k q
def Inv.turned(I:Inv d pins g H s)(k:∀b o,b≠it->s.heap.get? b=AA o->h'.get? b=AA o)(i:H it=AB)(hL:it≠d.env.locals)(A:it∈d.ex\/d.Es⁻¹<=it)(y:∀x c,d.env.cells.lookup x=AA c->c≠it)(t:∀p∈d.pn ++ pins,p.1≠it):Inv d pins g H {s with heap:=h',toks:=t'}:=by
 have f:∀b u,H b=AA u->b≠it:=λb u e z=>by rw[z,i]at e;cases e
 refine I.step (g':=s.gens) (d':=s.drawn) (ch:=[it]) (λb l=>?_) (λb o _ _ a e _=>k b o (λz=>a (by simp[z])) e) (λb o _ _ a e _=>(o.slots,k b o (λz=>a (by simp[z])) e)) (λ_ _ _ _ n=>n)
  (λb o a e=>(o,k b o (λz=>a (by simp[z])) e)) (λ_ _ e=>e) (λ_ _ _ e=>e) (λb ps e=>(#[],by erw[e];simp)) (λm j=>?_) (λb u e=>?_) I.bare;have e:b=it:=by simpa using l
 subst e;exact(A,hL,y,t);have(o,B,C,h,r):=j;exact(o,B,C,k _ o (Fp hL) h,r);refine(I.hok b u e).stay (λc v a q=>k c v ?_ q) (λ_ q=>q) λ_ _ q=>q;rcases a with z|z;erw[z];exact f b u e;exact f c _ z
def Inv.tok(I:Inv b pins a H s)(t:Nat):Inv b pins a H {s with toks:=t}:=I.un (h':=s.heap) (t':=t) Un.refl I.hok
def Inv.kept(I:Inv c pins a H s)(k:∀b u,s.heap.get? b=AA u->h'.get? b=AA u):Inv c pins a H {s with heap:=h',toks:=t'}:=I.un (Un.kept k) (I.hok.kept k)
def Inv.laid(I:Inv d pins e H s)(k:∀b u,s.heap.get? b=AA u->h'.get? b=AA u)(c:s⁻¹<=a)(new:Dg d.prog d.w (upd H a o) h' a o):
  Inv d pins e (upd H a o) {s with heap:=h',toks:=t'}:=I.un (Un.laid k c (I.hok.fresh c)) (I.hok.laid k c new)
def Inv.write(I:Inv a pins g H s)(c:Ik (H x))(f:e=x\/H e=AA (.own x))(k:∀b u,b≠e->s.heap.get? b=AA u->h'.get? b=AA u)(d:∃u,h'.get? e=AA u)(new:Dg a.prog a.w (upd H x o) h' x o):Inv a pins g (upd H x o) {s with heap:=h',toks:=t'}:=I.un (Un.write c f k d) (I.hok.write c f k d new)
def Inv.weak(I:Inv j pins b H s)(e:a.length=b.length)(w:∀(i:Nat) v,a[i]? =AA (AA v)->b[i]? =AA (AA v)):Inv j pins a H s:=
 (I.ok,I.os,I.bare,I.base,let(m,c,d):=I.loc;(m,c,λi x v h g f=>d i x v h (w i v g) f),I.cell,I.free,I.Gc,I.pin,I.hok,e.trans I.len)
def Inv.oF(I:Inv a pins b H s)(h:∀p∈c,s.heap.get? p.1=AA p.2/\H p.1=AB/\p.1≠a.env.locals/\p.1∉a.fs/\∀v,p.2.data≠.cell v):Inv a c b H s:=
 (I.ok,I.os,I.bare,I.base,I.loc,I.cell,I.free,I.Gc,λp d=>(Az.mp d).elim (λz=>I.pin p (FP _ z)) (h p),I.hok,I.len)
def ko{N:List Str}(c:N.Nodup){i j:Nat}{x:Str}(a:N[i]? =AA x)(b:N[j]? =AA x):i=j:=by
 have(g,e):=AY.mp a;have(f,d):=AY.mp b;exact(Sk c).mp (e.trans d.symm)
def nH{Q:Unit->AO->Prop}(I:Inv l pins a4 H s)(b3:l.N.Nodup)(L:l.N[i]? =AA x)(B:Loc l.env.scope x)(r:RelV v u)(h:∀ab,Inv l pins (a4.set i (AA v)) H ab->(∃a,Mx a s.heap ab.heap/\(a=l.env.locals\/l.env.cells.lookup x=AA a))->Q ⟨⟩ ab)(ck:l.fn x=AC\/l.env.scope.names.lookup x=AA .local:=by first|exact .inl rfl|exact .inr rfl|assumption):AM M A (storeName l.env x u) Q E s:=by
 have(m,a0,bm):=id I.loc;have cm:(l.env.scope.kind==.class || (l.env.scope.kind==.module && l.env.locals !=l.env.globals))=AF:=by erw[I.ok.kind];rfl
 have bs:i<a4.length:=by erw[I.len];exact(AY.mp L).1
 have a3:=I.fm;have a5:∀{a:AD} {h':BI},(∃o,s.heap.get? a=AA o/\H a=AB)->Mx a s.heap h'->Di l.prog l.w H h':=λ{a h'} co f b ca e=>by
  have(_,_,b0):=co;refine(I.hok b ca e).stay (λc N t q=>(f.2 c ?_).trans q) (λ_ q=>q) λ_ _ q=>q;rintro rfl;rcases t with rfl|t;rw[b0]at e;cases e;rw[b0]at t;cases t
 rcases B with D|D;refine wpAny_storeName_local D a0 (λh' ci f=>?_) cm;have(cd,_,_,cg,_):=id a0;refine h _ (I.ok,I.os,I.bare,(λb o e n J B=>?_,λb o e n J B=>?_,I.base.free,λb o e B=>?_,I.base.tups,I.base.HL,I.base.Hr),(_,ci,λj y T g C a2=>?_),λy c e=>?_,I.free,I.Gc,λp av=>?_,a5 (cd,cg,I.free) f,by simpa using I.len) (_,f,.inl rfl);exact(f.2 b (DU (E5 (BG e) I.ok.above))).trans (I.base.keep b o e n J B);have(Y,g):=I.base.slot b o e n J B;exact(Y,(f.2 b (DU (E5 (BG e) I.ok.above))).trans g);have(aj,g):=I.base.there b o e B;exact(aj,(f.2 b (DU (E5 (BG e) I.ok.above))).trans g);by_cases G:j=i;subst G;rw[L]at g;cases g;rw[Le bs]at C;cases C;exact(u,r,.inl (D,by simp));rw[Km (Fp G)]at C;have(U,r',q):=bm j y T g C a2;refine(U,r',?_);rcases q with⟨k,e⟩ | ⟨k,c,e,z⟩;refine .inl (k,?_);have:y≠x:=λe=>G (ko b3 g (e▸L));simp[this,e];exact .inr (k,c,e,z.sameBut f (a3 y c e));have(N,z):=I.cell y c e;exact(N,z.sameBut f (a3 y c e));have(e,n,ne,an,d):=I.pin p av;exact((f.2 p.1 ne).trans e,n,ne,an,d);have a1:l.fn x=AC:=by
  rcases ck with z|z;exact z;rw[z]at D;cases D
 have(c,t):=I.ok.has x (.inl D);have(N,z):=I.cell x c t;refine wpAny_storeName_cell I.ok.kind D t z (λh' b2 f=>?_);have(a6,bl,ce):=id z;refine h {s with heap:=h'} (I.ok,I.os,I.bare,(λb o e n J B=>?_,λb o e n J B=>?_,I.base.free,λb o e B=>?_,I.base.tups,I.base.HL,I.base.Hr),(m,a0.sameBut f (Fp (a3 x c t)),λj y T g C a2=>?_),λy O e=>?_,I.free,I.Gc,λp av=>?_,a5 (a6,bl,I.Gc x c t) f,by simpa using I.len) (c,f,.inr t);exact(f.2 b (DU (E5 (BG e) (I.ok.MK x c a1 t)))).trans (I.base.keep b o e n J B);have(Y,g):=I.base.slot b o e n J B;exact(Y,(f.2 b (DU (E5 (BG e) (I.ok.MK x c a1 t)))).trans g);have(aj,g):=I.base.there b o e B;exact(aj,(f.2 b (DU (E5 (BG e) (I.ok.MK x c a1 t)))).trans g);by_cases G:j=i;subst G;rw[L]at g;cases g;rw[Le bs]at C;cases C;exact(u,r,.inr (.inl D,c,t,b2));rw[Km (Fp G)]at C;have(U,r',q):=bm j y T g C a2;refine(U,r',?_);rcases q with q| ⟨k,O,e,b5⟩;exact .inl q;refine .inr (k,O,e,b5.sameBut f ?_);rintro rfl;exact G (ko b3 g (I.ok.inj _ _ _ e t▸L));by_cases b1:O=c;subst b1;exact(_,b2);have(b6,b4):=I.cell y O e;exact(b6,b4.sameBut f b1);have(e,n,ne,an,d):=I.pin p av;refine((f.2 p.1 ?_).trans e,n,ne,an,d);intro q;rw[q,bl]at e;have b7:a6=p.2:=Ap e;exact d N (by erw[<-b7];exact ce)
def j8{Q:Unit->AO->Prop}(I:Inv a pins c H s)(g:a.N.Nodup)(e:a.N[i]? =AA x)(d:Loc a.env.scope x)(r:RelV v u)(h:∀b,Inv a pins (c.set i (AA v)) H b->Q ⟨⟩ b)(f:a.fn x=AC\/a.env.scope.names.lookup x=AA .local:=by first|exact .inl rfl|exact .inr rfl|assumption):AM M A (storeName a.env x u) Q E s:=
 nH I g e d r (λb j _=>h b j) f
def Inv.yx(I:Inv a pins g H s)(j:d.os=s.os)(u:Un (frs a.stack) ch H f s.heap d.heap)(i:Di a.prog a.w f d.heap)(k:Kg d.gens)(l:∀b∈ch,(b∈a.ex\/a.Es⁻¹<=b)/\b≠a.env.locals/\(∀x c,a.env.cells.lookup x=AA c->c≠b)/\∀p∈a.pn ++ pins,p.1≠b):Inv a pins g f d:=by
 have(h',g',d',t',h):=d;have e:h=s.os:=j;subst e;exact I.call (g':=g') (t':=t') (d':=d') u i k l
abbrev TE:=St->Hp->VK->Prop
abbrev TA:=St->Hp->(List V->Hp->Prop)->Prop
inductive EP(X:Cx)(pins:List (AD×Obj))(σ:St)(Q:VK)(u:AI)(s':AO):Prop
 |mk (v:V) (H':Hp):Inv X pins σ H' s'->RelV v u->Q v H'->EP X pins σ Q u s'
inductive TP(X:Cx)(pins:List (AD×Obj))(σ:St)(Q:Bool->Hp->Prop)(b:Bool)(s':AO):Prop
 |mk (H':Hp):Inv X pins σ H' s'->Q b H'->TP X pins σ Q b s'
inductive AP(X:Cx)(pins:List (AD×Obj))(σ:St)(Q:List V->Hp->Prop)(us:List AI)(s':AO):Prop
 |mk (vs:List V) (H':Hp):Inv X pins σ H' s'->Vals vs us->Q vs H'->AP X pins σ Q us s'
inductive HP(X:Cx)(pins:List (AD×Obj))(σ:St)(Q:Hp->Prop)(s':AO):Prop
 |mk (H':Hp):Inv X pins σ H' s'->Q H'->HP X pins σ Q s'
inductive NP(X:Cx)(pins:List (AD×Obj))(N:St->Hp->Prop)(s':AO):Prop
 |mk (σ':St) (H':Hp):Inv X pins σ' H' s'->N σ' H'->NP X pins N s'
inductive RP(X:Cx)(pins:List (AD×Obj))(Q:VK)(u:AI)(s':AO):Prop
 |mk (v:V) (σ':St) (H':Hp):Inv X pins σ' H' s'->RelV v u->Q v H'->RP X pins Q u s'
def SP(b:Cx)(pins:List (AD×Obj))(D:Ends)(f:Flow)(a:AO):Prop:=
 match f with
 | .next=>NP b pins D.nx a
 | .brk=>NP b pins D.bk a
 | .cont=>NP b pins D.ct a
 | .ret u=>RP b pins D.rt u a
def PE(a:Cx)(e:EU)(t:TE):Prop:=
 ∀(pins:List (AD×Obj)) (s:AO) (b:St) (H:Hp) (Q:VK),Inv a pins b H s->t b H Q->AM (AU a.prog a.w) a.A (eval e a.env) (EP a pins b Q) a.xe s
def PT(a:Cx)(e:EU)(t:TT):Prop:=
 ∀(pins:List (AD×Obj)) (s:AO) (b:St) (H:Hp) (Q:Bool->Hp->Prop),Inv a pins b H s->t b H Q->AM (AU a.prog a.w) a.A (isTrue e a.env (eval e a.env)) (TP a pins b Q) a.xe s
def PW(a:Cx)(e:EU)(t:TT):Prop:=
 ∀(whole:Sem AI) (pins:List (AD×Obj)) (s:AO) (b:St) (H:Hp) (Q:Bool->Hp->Prop),Inv a pins b H s->t b H Q->AM (AU a.prog a.w) a.A (isTrue e a.env whole) (TP a pins b Q) a.xe s
def PW.pt(h:PW a e t):PT a e t:=h _
def PA(a:Cx)(c:List EU)(t:TA):Prop:=
 ∀(pos:Pos) (pins:List (AD×Obj)) (s:AO) (b:St) (H:Hp) (Q:List V->Hp->Prop),Inv a pins b H s->t b H Q->AM (AU a.prog a.w) a.A (spliced (EG pos (BE c a.env))) (AP a pins b Q) a.xe s
def PS(a:Cx)(c:Af)(t:TS):Prop:=
 ∀(pins:List (AD×Obj)) (s:AO) (b:St) (H:Hp) (D:Ends),Inv a pins b H s->t D b H->AM (AU a.prog a.w) a.A (exec c a.env) (SP a pins D) a.xe s
def Fw(a:Cx)(c:List Af)(t:TS):Prop:=
 ∀(pins:List (AD×Obj)) (s:AO) (b:St) (H:Hp) (D:Ends),Inv a pins b H s->t D b H->AM (AU a.prog a.w) a.A (execs c a.env) (SP a pins D) a.xe s
def aK{b:Type}{t:Sem b}{Q c:b->AO->Prop}{M:Model}{A:Fa}{E:AI->AO->Prop}{s:AO}(h:AM M A t Q E s)(d:∀a s,Q a s->c a s):AM M A t c E s:=Gi h d λ_ _ x=>x
def bin{X:Cx}{a b:EU}{l k:TE}(B:PE X a l)(A:PE X b k){pins:List (AD×Obj)}{s:AO}{c:St}{H:Hp}{R:V->V->Hp->Prop}(I:Inv X pins c H s)(h:l c H λx i=>k c i λy d=>R x y d)
  {j:Type}{Q:j->AO->Prop}{f:AI->AI->Sem j}
  (z:∀v u e x y d,Inv X pins c d e->RelV x v->RelV y u->R x y d->AM (AU X.prog X.w) X.A (f v u) Q X.xe e):
  AM (AU X.prog X.w) X.A (eval a X.env) (λv n=>AM (AU X.prog X.w) X.A (eval b X.env) (λu m=>AM (AU X.prog X.w) X.A (f v u) Q X.xe m) X.xe n) X.xe s:=by
 refine aK (B pins s c H _ I h) λv o g=>?_;have(x,i,D,q,t):=g;refine aK (A pins o c i _ D t) λu e g=>?_;have(y,d,C,p,r):=g;exact z v u e x y d C q p r
inductive Lj(i:Nat)(σ:St)(H:Hp)(Q:VK):Prop
 |mk:∀v,(σ[i]? =AA (AA v))->(Q v H)->Lj i σ H Q
@[inline]def tC(v:V):TE:=λ_ H Q=>Q v H
def tP(t:d.N[i]? =AA x)(k:K7 d.env.scope x)(b:(x==("__debug__":Str))=AF:=by decide)(q:(x==("__classdict__":Str))=AF:=by decide):PE d (.Name x pos) (Lj i):=by
 intro pins s j H Q I h;have(v,e,h):=h;have(m,n,p):=I.loc;have(u,r,l):=p i x v t e k;have fin:EP d pins j Q u s:=(v,H,I,r,h);rcases l with⟨a,o⟩ | ⟨a,c,g,f⟩;exact Mp (Ry I.ok.kind a n o fin) b;rcases a with a|a;exact Mp (wpAny_loadName_cell I.ok.kind a g f fin) b;exact Mp (wpAny_loadName_free I.ok.kind a g f fin q) b
def aG{i j pos}:PE a (.Constant (.int i) j pos) (tC (.int i)):=λ_ _ _ H _ I h=>wpAny_Constant_int (.int i,H,I.tok _,(_,rfl),h)
def f7{b j pos}:PE a (.Constant (.bool b) j pos) (tC (.bl b)):=λ_ _ _ H _ I h=>Constant_bool (.bl b,H,I,rfl,h)
def ai{j pos}:PE a (.Constant .none j pos) (tC .Al):=λ_ _ _ H _ I h=>Constant_none (.Al,H,I,rfl,h)
def oH{x j pos}:PE a (.Constant (.str x) j pos) (tC (.str x)):=λ_ _ _ H _ I h=>Calls.Constant_str (.str x,H,I.tok _,(_,rfl),h)
def Gl(a:Cx)(x:Str):Prop:=a.env.kindOf x=AA .globalImplicit
def gT{Q:AI->AO->Prop}(I:Inv a pins e H s)(c:Gl a x)(b:a.mg x=AA u)(h:Q u s)(d:(x==("__debug__":Str))=AF:=by decide):AM (AU a.prog a.w) a.A (eval (.Name x pos) a.env) Q E s:=
 WU I.ok.kind c (Calls.loadGlobal_global (by erw[I.ok.glob];exact I.mod.glob.keeps I.bk) b h) d
def eK{Q:AI->AO->Prop}(I:Inv a pins j H s)(e:Gl a x)(d:a.mg x=AB)(b:Fm x=AA u)(h:Q u s)(c:x≠"__name__":=by decide)(f:(x==("__debug__":Str))=AF:=by decide):AM (AU a.prog a.w) a.A (eval (.Name x pos) a.env) Q E s:=by
 have(mb,i,g):=I.mod.blt;exact WU I.ok.kind e (Calls.loadGlobal_builtin (by erw[I.ok.glob];exact I.mod.glob.keeps I.bk) d (by erw[I.ok.blt];exact i.keeps I.bk) ((g x c).trans b) h) f
def oP(c:Gl a x)(b:a.mg x=AA u)(r:RelV v u)(d:(x==("__debug__":Str))=AF:=by decide):PE a (.Name x pos) (tC v):=
 λ_ _ _ H _ I h=>gT I c b (v,H,I,r,h) d
def PC(c:Cx)(op:CmpOp)(a b:EU)(t:TE):Prop:=
 ∀(pins:List (AD×Obj)) (s:AO) (d:St) (H:Hp) (Q:VK),Inv c pins d H s->t d H Q->
  AM (AU c.prog c.w) c.A (eval a c.env) (λv f=>AM (AU c.prog c.w) c.A (eval b c.env) (λu e=>AM (AU c.prog c.w) c.A (Em op v u) (EP c pins d Q) c.xe e) c.xe f) c.xe s
def oh(b:EU)(h:op≠.In)(a:op≠.NotIn):IT op b=AF:=by
 have d:(op==CmpOp.In)=AF:=by cases op<;>first|rfl|exact absurd rfl h
 have c:(op==CmpOp.NotIn)=AF:=by cases op<;>first|rfl|exact absurd rfl a
 cases b<;>simp[IT,d,c]
@[inline]def tB(t:TE):TT:=λa H Q=>t a H λx b=>∃c,x=.bl c/\Q c b
def tz(h:PC e op a b t)(d:IT op b=AF:=by first|exact oh _ (by decide) (by decide) |rfl):PE e (.Compare a [op] [b] pos) t:=λpins s c H Q I hw=>wpAny_Compare1 (h pins s c H Q I hw) d
def fK(h:PC l op a b t)(e:IT op b=AF:=by first|exact oh _ (by decide) (by decide) |rfl):PT l (.Compare a [op] [b] pos) (tB t):=by
 intro pins s f H Q I hw;refine Vy (aK (h pins s f H _ I hw) λv r e=>aK e λu p k=>aK k λc o g=>?_) e;have(x,n,m,i,j):=g;obtain⟨d,rfl,q⟩:=j;cases i;exact Iq (n,m,q)
def dU(h:PE a e t)(i:∀whole,isTrue e a.env whole=(do let v <-whole;IQ e.pos;GY [v] (truthy v)):=by intro _;rfl):PT a e (tB t):=by
 intro pins s b H Q I hw;refine isTrue_plain (aK (h pins s b H _ I hw) λv l c=>?_) (i _);have(x,k,j,f,g):=c;obtain⟨d,rfl,q⟩:=g;cases f;exact Iq (k,j,q)
def CJ(t u:TT):TT:=λa H Q=>t a H λc b=>if c=AC then u a b Q else Q AF b
def B9(t u:TT):TT:=λa H Q=>t a H λc b=>if c=AC then Q AC b else u a b Q
def CA(t:TT):TT:=λa H Q=>t a H λc b=>Q (!c) b
def fX(f:PT g a d):PW g (.BoolOp .And [a] pos) d:=by
 intro i pins s b H Q I h;refine isTrue_and (aK (f pins s b H Q I h) λc j e=>?_);cases c with
 |true=>exact isTrue_and_nil e
 |false=>exact e
def fI(f:PT g a d):PW g (.BoolOp .Or [a] pos) d:=by
 intro i pins s b H Q I h;refine isTrue_or (aK (f pins s b H Q I h) λc j e=>?_);cases c with
 |false=>exact isTrue_or_nil e
 |true=>exact e
def fY(q:PT f a m)(p:PW f (.BoolOp .And (b::o) pos) l):PW f (.BoolOp .And (a::b::o) pos) (CJ m l):=by
 intro k pins s d H Q I h;refine isTrue_and (aK (q pins s d H _ I h) λc n j=>?_);have(i,g,e):=j;cases c with
 |true=>exact p k pins n d i Q g e
 |false=>exact(i,g,e)
def eh(q:PT f a m)(p:PW f (.BoolOp .Or (b::o) pos) l):PW f (.BoolOp .Or (a::b::o) pos) (B9 m l):=by
 intro k pins s d H Q I h;refine isTrue_or (aK (q pins s d H _ I h) λc n j=>?_);have(i,g,e):=j;cases c with
 |true=>exact(i,g,e)
 |false=>exact p k pins n d i Q g e
def fw(e:PT f a d):PT f (.UnaryOp .Not a pos) (CA d):=by
 intro pins s b H Q I h;exact isTrue_not (aK (e pins s b H (λc i=>Q (!c) i) I h) λc k (j,g,q)=>(j,g,q))
def CI(e d:TE):TE:=λa H Q=>e a H λx b=>∃c,x=.bl c/\if c=AC then d a b Q else Q (.bl AF) b
def B8(e d:TE):TE:=λa H Q=>e a H λx b=>∃c,x=.bl c/\if c=AC then Q (.bl AC) b else d a b Q
def Ct(b:TE):TE:=λa H Q=>b a H λx d=>∃c,x=.bl c/\Q (.bl (!c)) d
def gO{op}(h:PE c a t):PE c (.BoolOp op [a] pos) t:=λpins s b H Q I hw=>BoolOp_one (h pins s b H Q I hw)
def iK(q:PE f a l)(p:PE f (.BoolOp .And (b::n) pos) k):PE f (.BoolOp .And (a::b::n) pos) (CI l k):=by
 intro pins s e H Q I h;refine BoolOp_and (aK (q pins s e H _ I h) λv m j=>?_);have(x,i,g,o,d):=j;obtain⟨c,rfl,d⟩:=d;cases o;refine Iq ?_;cases c with
 |true=>exact p pins m e i Q g d
 |false=>exact(.bl AF,i,g,rfl,d)
def iJ(q:PE f a l)(p:PE f (.BoolOp .Or (b::n) pos) k):PE f (.BoolOp .Or (a::b::n) pos) (B8 l k):=by
 intro pins s e H Q I h;refine BoolOp_or (aK (q pins s e H _ I h) λv m j=>?_);have(x,i,g,o,d):=j;obtain⟨c,rfl,d⟩:=d;cases o;refine Iq ?_;cases c with
 |false=>exact p pins m e i Q g d
 |true=>exact(.bl AC,i,g,rfl,d)
def oJ(i:PE j a f):PE j (.UnaryOp .Not a pos) (Ct f):=by
 intro pins s d H Q I h;refine UnaryOp_ (aK (i pins s d H _ I h) λv m e=>?_);have(x,l,k,g,b):=e;obtain⟨c,rfl,b⟩:=b;cases g;exact not_of (Iq (.bl (!c),l,k,rfl,b))
def CD(t:TT)(e d:TE):TE:=λa H Q=>t a H λc b=>if c=AC then e a b Q else d a b Q
def fc(p:PT f c o)(r:PE f a n)(q:PE f b m):PE f (.IfExp c a b pos) (CD o n m):=by
 intro pins s e H Q I h;refine wpAny_IfExp (aK (p pins s e H _ I h) λd g l=>?_);have(k,j,i):=l;cases d with
 |true=>exact r pins g e k Q j i
 |false=>exact q pins g e k Q j i
def AN(b:Ao)(H:Hp)(a:AD)(xs:List V):Prop:=
 Rd H a (.lst xs)\/
  ∃(o:Obj) (its:Array AI) (n:Nat),b.lookup a=AA o/\o.cls=.type "list"/\o.dict=AB/\o.data=.seq its n/\its.size<=Ae/\Vals xs its.toList
def Y7:AI->Option V
 | .none=>AA .Al
 | .bool b=>AA (.bl b)
 | .int i _=>AA (.int i)
 | .str x _=>AA (.str x)
 | .bytes b _=>AA (.GH b)
 | .float b _=>AA (.Ny b)
 | .ref a=>AA (.ref a)
 | .type n=>AA (.ty n)
 | _=>AB
def RelV.abs(r:RelV x u):Y7 u=AA x:=by
 cases x with
 |Al=>cases r;rfl
 |bl _=>cases r;rfl
 |int _=>obtain⟨t,rfl⟩:=r;rfl
 |str _=>obtain⟨t,rfl⟩:=r;rfl
 |GH _=>obtain⟨t,rfl⟩:=r;rfl
 |Ny _=>obtain⟨t,rfl⟩:=r;rfl
 |ref _=>cases r;rfl
 |ty _=>cases r;rfl
def RelV.inj(r:RelV x u)(q:RelV y u):x=y:=Ap (r.abs.symm.trans q.abs)
def Vals.inj:∀{xs ys:List V} {us:List AI},Vals xs us->Vals ys us->xs=ys
 | _,_,_,.nil,.nil=>rfl
 | _,_,_,.cons r t,.cons r' t'=>by erw[r.inj r',Vals.inj t t']
def AN.of{H:Hp}{K:Ao}(h:H a=AA (.lst xs)):AN K H a xs:=.inl (.inl h)
def BB.of{H:Hp}{K:Ao}(h:H a=AA (.tup xs)):BB K H a xs:=.inl (.inl h)
def Inv.list(I:Inv f pins g H s)(h:AN f.K H a xs):∃its:List AI,Vals xs its/\PlainL s.heap a its.toArray/\xs.length<=Ae:=by
 rcases h with h| ⟨o,its,n,c,d,hd,b,i,r⟩;have(z,its,n,r,e):=h.ok I.hok;exact(its,r,(_,n,e,rfl,rfl,rfl),z);refine(its.toList,r,(o,n,I.du a o c,d,hd,by simpa using b),?_);have e:=r.length;simp only[JE]at e;lia
def Inv.tuple(I:Inv f pins g H s)(h:BB f.K H a xs):∃its:List AI,Vals xs its/\IsTup s.heap a its.toArray/\xs.length<=Ae:=by
 rcases h with h| ⟨o,its,n,c,d,b,i,r⟩;have(z,its,r,p):=h.ok I.hok;exact(its,r,p,z);refine(its.toList,r,(o,I.du a o c,d,n,by simpa using b),?_);have e:=r.length;simp only[JE]at e;lia
def Inv.iQ(I:Inv c pins g H s)(h:AN c.K H a xs)(h':AN c.K H a ys):xs=ys:=by
 have(its,r,(o,n,e,_,_,d),_):=I.list h;have(its',r',(i,j,b,_,_,d'),_):=I.list h';rw[e]at b;cases b;rw[d]at d';injection d' with f _;have:its=its':=by simpa using congrArg Array.toList f
 subst this;exact r.inj r'
def Inv.mn(I:Inv c pins g H s)(h:BB c.K H a xs)(h':BB c.K H a ys):xs=ys:=by
 have(its,r,(o,e,_,n,d),_):=I.tuple h;have(its',r',(i,b,_,j,d'),_):=I.tuple h';rw[e]at b;cases b;rw[d]at d';injection d' with f _;have:its=its':=by simpa using congrArg Array.toList f
 subst this;exact r.inj r'
abbrev Cx.HF(a:Cx)(E:AI->AO->Prop):Cx:={a with xe:=E}
abbrev Cx.Ju(a:Cx):Cx:=a.HF λ_ _=>False
instance A0E {X:Cx} {K:Ao} {f:AI->AO->Prop} [h:Gz X K]:Gz (X.HF f) K:=⟨h.eq⟩
def Cx.Ok.HF{X:Cx}(ok:X.Ok)(E:AI->AO->Prop):(X.HF E).Ok:=
 (ok.mod,ok.kind,ok.glob,ok.blt,ok.above,ok.inj,ok.has,ok.MK,ok.hd,ok.frames,ok.stk,ok.Nz,ok.bs,ok.IF,ok.Ly,ok.MH,ok.fF,ok.Jw)
def Cx.Ok.ft{X:Cx}(ok:(X.HF E).Ok):X.Ok:=
 (ok.mod,ok.kind,ok.glob,ok.blt,ok.above,ok.inj,ok.has,ok.MK,ok.hd,ok.frames,ok.stk,ok.Nz,ok.bs,ok.IF,ok.Ly,ok.MH,ok.fF,ok.Jw)
def Inv.HF(I:Inv b pins a H s)(E:AI->AO->Prop):Inv (b.HF E) pins a H s:=(I.ok.HF E,I.os,I.bare,I.base,I.loc,I.cell,I.free,I.Gc,I.pin,I.hok,I.len)
def Inv.ft(I:Inv (b.HF E) pins a H s):Inv b pins a H s:=(I.ok.ft,I.os,I.bare,I.base,I.loc,I.cell,I.free,I.Gc,I.pin,I.hok,I.len)
def SP.ft(h:SP (d.HF E) pins D f c):SP d pins D f c:=by
 cases f with
 |next=>have(a,b,I,q):=h;exact(a,b,I.ft,q)
 |brk=>have(a,b,I,q):=h;exact(a,b,I.ft,q)
 |cont=>have(a,b,I,q):=h;exact(a,b,I.ft,q)
 |ret u=>have(v,a,b,I,r,q):=h;exact(v,a,b,I.ft,r,q)
def Fw.Ju(h:Fw c.Ju b t):Fw c b t:=λpins s a H D I hw=>
 Gi (h pins s a H D (I.HF _) hw) (λ_ _ q=>q.ft) λ_ _ z=>GA z
def CB:TS:=λD a H=>D.nx a H
def aZ:Fw b [] CB:=λ_ _ a H _ I h=>OL (a,H,I,h)
def aE(j:PS a d t)(i:Fw a g u):Fw a (d::g) (Bq t u):=by
 intro pins s c H D I h;refine wpAny_execs_cons (aK (j pins s c H {D with nx:=u D} I h) λf e q=>?_);cases f with
 |next=>
  have(b,l,k,q):=q;exact i pins e b l D k q
 |ret v=>exact q
 |brk=>exact q
 |cont=>exact q
def aF(c:PS d b t):Fw d [b] t:=by
 intro pins s a H D I h;refine wpAny_execs_cons (aK (c pins s a H D I h) λf e q=>?_);cases f with
 |next=>exact OL q
 |ret v=>exact q
 |brk=>exact q
 |cont=>exact q
def Xa:TS:=λD a H=>D.ct a H
def oC:PS b (.Continue pos) Xa:=λ_ _ a H _ I h=>wpAny_Continue (a,H,I,h)
def Inv.quiet(I:Inv a pins b H s):interactive a.env=AF:=by simp[interactive,I.ok.kind]
def CF(b:TE):TS:=λD a H=>b a H λ_ c=>D.nx a c
def dW(g:PE b e c)(f:Jd e AB pos.line b.env=pure AF:=by rfl):PS b (.Expr e pos) (CF c):=by
 intro pins s a H D I h;exact wpAny_Expr_any (aK (g pins s a H _ I h) λv k (x,j,i,l,d)=>(a,j,i,d)) I.quiet f
def B7(b:TE):TS:=λD a H=>b a H D.rt
def aI(f:PE g e b):PS g (.Return (AA e) pos) (B7 b):=by
 intro pins s a H D I h;exact wpAny_Return_some (aK (f pins s a H _ I h) λv k (x,j,i,c,d)=>(x,a,j,i,c,d))
def Cr:TS:=λD _ H=>D.rt .Al H
def CC(c:TT)(t u:TS):TS:=λD a H=>c a H λb d=>if b=AC then t D a d else u D a d
def aX(n:PT f c m)(p:Fw f a t)(o:Fw f b u):PS f (.If c a b pos) (CC m t u):=by
 intro pins s e H D I h;refine wpAny_If (aK (n pins s e H _ I h) λd g l=>?_);have(k,j,i):=l;cases d with
 |true=>exact p pins g e k D j i
 |false=>exact o pins g e k D j i
abbrev TG:=V->St->Hp->(St->Hp->Prop)->Prop
abbrev MR:=List V->St->Hp->(St->Hp->Prop)->Prop
def PG(a:Cx)(target:EU)(t:TG):Prop:=
 ∀(pins:List (AD×Obj)) (s:AO) (b:St) (H:Hp) (v:V) (u:AI) (Q:St->Hp->Prop),Inv a pins b H s->RelV v u->t v b H Q->
  AM (AU a.prog a.w) a.A (KR target a.env u) (λ_ c=>NP a pins Q c) a.xe s
def OB(a:Cx)(c:List EU)(t:MR):Prop:=
 ∀(pins:List (AD×Obj)) (s:AO) (b:St) (H:Hp) (vs:List V) (us:List AI) (Q:St->Hp->Prop),Inv a pins b H s->Vals vs us->t vs b H Q->
  AM (AU a.prog a.w) a.A (assignInOrder ((LQ c a.env).map (·.2)) us) (λ_ d=>NP a pins Q d) a.xe s
abbrev MP:=V->V->V->Hp->(Hp->Prop)->Prop
def VR(a:Cx)(t:MP):Prop:=
 ∀(pins:List (AD×Obj)) (s:AO) (b:St) (H:Hp) (o i v:V) (c d u:AI) (Q:Hp->Prop),Inv a pins b H s->RelV o c->RelV i d->RelV v u->t o i v H Q->
  AM (AU a.prog a.w) a.A (setItem c d u) (λ_ e=>HP a pins b Q e) a.xe s
abbrev MQ:=V->V->Hp->VK->Prop
def VS(a:Cx)(op:Operator)(t:MQ):Prop:=
 ∀(pins:List (AD×Obj)) (s:AO) (b:St) (H:Hp) (x y:V) (v u:AI) (Q:VK),Inv a pins b H s->RelV x v->RelV y u->t x y H Q->
  AM (AU a.prog a.w) a.A (inplaceOp op v u) (EP a pins b Q) a.xe s
def BL(i:Nat):TG:=λv a H Q=>Q (a.set i (AA v)) H
def kX(e:a.N.Nodup)(c:a.N[i]? =AA x)(b:Loc a.env.scope x)(d:a.fn x=AC\/a.env.scope.names.lookup x=AA .local:=by first|exact .inl rfl|exact .inr rfl|assumption):PG a (.Name x pos) (BL i):=by
 intro pins s g H v u Q I r h;exact wpAny_assign_Name (j8 I e c b r (λj f=>(_,H,f,h)) d)
def aa {a:Cx} {pos:Pos} (i:Nat) {x:Str} (e:a.N.Nodup:=by assumption) (c:a.N[i]? =AA x:=by rfl) (b:Loc a.env.scope x:=by first|exact .inl rfl|exact .inr rfl) (d:a.fn x=AC\/a.env.scope.names.lookup x=AA .local:=by first|exact .inl rfl|exact .inr rfl|assumption):PG a (.Name x pos) (BL i):=kX e c b d
def Co:MR:=λvs a H Q=>vs=[]/\Q a H
def B1(t:TG)(u:MR):MR:=λvs b H Q=>∃v r,vs=v::r/\t v b H λa c=>u r a c Q
def eO:OB b [] Co:=by
 intro pins s a H vs us Q I r h;obtain⟨e,h⟩:=h;subst e;cases r;exact assignInOrder_nil (a,H,I,h)
def dX(m:PG a e t)(l:OB a b u)(k:(LQ (e::b) a.env).map (·.2)=KR e a.env::(LQ b a.env).map (·.2):=by rfl):OB a (e::b) (B1 t u):=by
 intro pins s d H vs us Q I r h;obtain⟨v,q,n,h⟩:=h;subst n;cases r with
 |cons r i=>
  erw[k];refine assignInOrder_cons (aK (m pins s d H _ _ _ I r h) λ_ g f=>?_);obtain⟨c,p,o,j⟩:=f;exact l pins g c p _ _ Q o i j
def B0(c:Ao)(n:Nat)(t:MR):TG:=λv b H Q=>∃a xs,v=.ref a/\BB c H a xs/\xs.length=n/\t xs b H Q
def eP[y:Gz c A](x:c.calm=AC)(h:OB c d t)(p:(LQ d c.env).length=n:=by rfl)(l:(LQ d c.env).findIdx? (·.1)=AB:=by rfl):PG c (.Tuple d k pos) (B0 A n t):=by
 have e:=y.eq;subst e;intro pins s f H v u Q I r hw;obtain⟨a,xs,z,m,q,hw⟩:=hw;subst z;cases r;obtain⟨its,g,j,C⟩:=I.tuple m;refine assign_Tuple_tuple (I.ok.hd x) j (by simp[p,<-q,g.length]) l λh' i=>?_;have B:Inv c pins f H {s with heap:=h'}:=I.kept (t':=s.toks) λb o e=>i b o (DU (BG e)) e;exact h pins _ f H xs _ Q B (by simpa using g) hw
def Cn(b c:TE)(t:MP):TG:=λv a H Q=>b a H λo f=>c a f λi e=>t o i v e λd=>Q a d
def fQ(A:PE b o f)(B:PE b i g)(z:VR b t)(C:∀v,KR (.Subscript o i pos) b.env v=(do
   let a <-GY [v] (eval o b.env);let d <-GY [v,a] (eval i b.env)
   IQ pos
   GY [v,a,d] (setItem a d v)
   release [v,a,d] []):=by intro _;rfl):PG b (.Subscript o i pos) (Cn f g t):=by
 intro pins s e H v u Q I r h;erw[C];refine AT (Jc (aK (A pins s e H _ I h) λa k c=>?_));have(x,M,G,m,q):=c;refine AT (Jc (aK (B pins k e M _ G q) λd j c=>?_));have(y,L,E,l,p):=c;refine AT (Mi (AT (Jc (aK (z pins j e L x y v a d u _ E m l r p) λ_ N c=>?_))));have(J,D,n):=c;exact wpAny_release (e,J,D,n)
def Be(b:TE)(g:TG):TS:=λD a H=>b a H λx c=>g x a c D.nx
def fO(n:PE a e f)(m:PG a b g)(l:swapsWithSole [b] e pos.line a.env=pure AF:=by rfl)(hw:swappedStores [b] e a.env=pure AB:=by rfl)(o:(LQ [b] a.env).map (·.2)=[KR b a.env]:=by rfl):PS a (.Assign [b] e pos) (Be f g):=by
 intro pins s c H D I h;refine wpAny_Assign_stores (aK (n pins s c H _ I h) λv i d=>?_) l hw;have(x,r,p,j,k):=d;erw[o];exact aK (m pins i c r x v _ p j k) λ_ t q=>q
def sy(l:a.N.Nodup)(g:a.N[i]? =AA x)(d:Loc a.env.scope x)(k:PE a e b)(f:Jd e (AA (.Name x c)) pos.line a.env=pure AF:=by rfl)(j:a.fn x=AC\/a.env.scope.names.lookup x=AA .local:=by first|exact .inl rfl|exact .inr rfl|assumption):
  PS a (.Assign [.Name x c] e pos) (Be b (BL i)):=by
 intro pins s m H D I h;refine wpAny_Assign_Name (aK (k pins s m H _ I h) λv z n=>?_) f;have(y,t,r,o,p):=n;exact j8 r l g d o (λu q=>(_,t,q,p)) j
def aS {a:Cx} {pos:Pos} (i:Nat) {x:Str} {e:EU} {b:TE} {c:Pos} (k:PE a e b) (l:a.N.Nodup:=by assumption) (g:a.N[i]? =AA x:=by rfl) (d:Loc a.env.scope x:=by first|exact .inl rfl|exact .inr rfl) (f:Jd e (AA (.Name x c)) pos.line a.env=pure AF:=by rfl) (j:a.fn x=AC\/a.env.scope.names.lookup x=AA .local:=by first|exact .inl rfl|exact .inr rfl|assumption):
  PS a (.Assign [.Name x c] e pos) (Be b (BL i)):=sy l g d k f j
def CH(i:Nat)(c:TE)(b:MQ):TS:=λD a H=>∃x,a[i]? =AA (AA x)/\c a H λy e=>b x y e λz d=>D.nx (a.set i (AA z)) d
def iI(Y:a.N.Nodup)(j:a.N[i]? =AA x)(f:Loc a.env.scope x)(Q:PE a e p)(J:VS a op o)(O:a.fn x=AC\/a.env.scope.names.lookup x=AA .local:=by first|exact .inl rfl|exact .inr rfl|assumption):
  PS a (.AugAssign (.Name x a5) op e pos) (CH i p o):=by
 intro pins s g H D I h;have(v,ab,h):=h;have(m,L,N):=I.loc;have n:K7 a.env.scope x:=by rcases f with k|k;exact .inl k;exact .inr (.inl k)
 have(u,r,l):=N i x v j ab n;refine wpAny_AugAssign_Name ?_;have go:AM (AU a.prog a.w) a.A (eval e a.env) (λw t=>AM (AU a.prog a.w) a.A (inplaceOp op u w) (λr q=>AM (AU a.prog a.w) a.A (storeName a.env x r) (λ_=>SP a pins D .next) a.xe q) a.xe t) a.xe s:=by
  refine aK (Q pins s g H _ I h) λw A d=>?_;have(y,a1,av,C,G):=d;refine aK (J pins A g a1 v y u w _ av r C G) λz a4 d=>?_;have(a2,a0,an,B,E):=d;exact j8 an Y j f B (λa3 aj=>(_,a0,aj,E)) O
 rcases l with⟨b,M⟩ | ⟨b,c,U,T⟩;exact Ry I.ok.kind b L M go;rcases b with b|b;exact wpAny_loadName_cell I.ok.kind b U T go;rcases f with k|k;have:a.env.scope.names.lookup x=AA .free:=b;rw[k]at this;cases this;have:a.env.scope.names.lookup x=AA .free:=b;rw[k]at this;cases this
def Cm(f:Int->Int->Int):MQ:=λx y H Q=>∃i j,x=.int i/\y=.int j/\Q (.int (f i j)) H
def ic:VS f .Add (Cm λi j=>i+j):=by
 intro pins s e H x y v u Q I b a h;have(i,j,d,c,q):=h;subst d;subst c;obtain⟨t,rfl⟩:=b;obtain⟨t',rfl⟩:=a;exact We (.int _,H,I.tok _,(_,rfl),q)
def TJ(c:TT)(g:TS):TS:=λD a H=>∃W:Nat->St->Hp->Prop,(∃m,W m a H)/\∀m a H,W m a H->
 c a H λb e=>if b=AC then ∃N:St->Hp->Prop,(∀d f,N d f->∃m',m'<m/\W m' d f)/\g {D with nx:=N,ct:=N,bk:=D.nx} a e else D.nx a e
def iH(q:PassesOwn (AU a.prog a.w) a.A a.env a.xe)(Q:PT a c E)(T:Fw a body G):PS a (.While c body [] pos) (TJ E G):=by
 intro pins s z H D I h;have(W,(O,C),turn):=h;refine wpAny_While (codeAny_whileLoop (λn M=>∃p y,Inv a pins p y M/\W n p y) ?_ O (z,H,I,C));intro n L (g,x,U,B);refine KL q (aK (Q pins L g x _ U (turn n g x B)) λb J A=>?_);have(u,t,j):=A;cases b with
 |true=>
  have(N,r,j):=j;erw[AJ rfl];refine KL q (aK (T pins J g u _ t j) λf Y i=>?_);cases f with
  |next=>
   have(d,e,o,l):=i;have(m',m,k):=r d e l;exact(m',m,d,e,o,k)
  |cont=>
   have(d,e,o,l):=i;have(m',m,k):=r d e l;exact(m',m,d,e,o,k)
  |brk=>exact i
  |ret v=>exact i
 |false=>
  erw[AK Dl];exact OL (g,u,t,j)
structure It where
 go:Nat->Hp->Prop
 EK:Nat->Hp->V->Hp->Prop
 stop:Nat->Hp->Prop
def G1(a:Cx)(pins:List (AD×Obj))(H:Hp)(b:AD):Prop:=
 H b=AB/\b≠a.env.locals/\b∉a.fs/\(b∈a.ex\/a.Es⁻¹<=b)/\(∀x c,a.env.cells.lookup x=AA c->c≠b)/\∀p∈a.pn ++ pins,p.1≠b
def Inv.gF{d:Hp}(I:Inv h pins i H s)(a:s⁻¹<=b)(g:d b=AB):G1 h pins d b:=by
 refine(g,IW (E5 I.lt a),I.wE a,.inr (Dj I.sz a),λx c e z=>?_,λp f z=>?_);have(v,q):=I.cell x c e;exact absurd (E5 q.lt (by erw[z];exact a)) (F6 _);exact absurd (E5 (BG (I.pin p f).1) (by erw[z];exact a)) (F6 _)
structure Turn(P:ET)(w:Do)(K:Ao)(tg:EU)(J:It)(fp:List AD)(it:AD)(tn:Nat->BI->Prop):Prop where
 mem:it∈fp
 obj:∀i h,tn i h->∀b∈fp,∃o,h.get? b=AA o/\∀v,o.data≠.cell v
 keep:∀i h h',tn i h->(∀b∈fp,∀o,h.get? b=AA o->h'.get? b=AA o)->tn i h'
 item:∀(X:Cx),X.prog=P->X.w=w->X.K=K->X.calm=AC->∀(i:Nat) (pins:List (AD×Obj)) (s:AO) (σ:St) (H:Hp) (E:AI->AO->Prop),Inv X pins σ H s->(∀b∈fp,G1 X pins H b)->tn i s.heap->J.go i H->
  AM (AU P w) X.A (Hd (.ref it)) (λr s1=>∃u,r=AA u/\
   AM (AU P w) X.A (OR tg (.ref it) u) (λ_ s2=>∃x H',Inv X pins σ H' s2/\RelV x u/\J.EK i H x H'/\tn (i+1) s2.heap/\∀b∈fp,H' b=AB) E s1) E s
 done:∀(X:Cx),X.prog=P->X.w=w->X.K=K->X.calm=AC->∀(i:Nat) (pins:List (AD×Obj)) (s:AO) (σ:St) (H:Hp) (E:AI->AO->Prop),Inv X pins σ H s->(∀b∈fp,G1 X pins H b)->tn i s.heap->J.stop i H->
  AM (AU P w) X.A (Hd (.ref it)) (λr s1=>r=AB/\Inv X pins σ H s1) E s
 self:∀(A:Fa) (i:Nat) (s:AO) (Q:AI->AO->Prop) (E:AI->AO->Prop),tn i s.heap->Q (.ref it) s->AM (AU P w) A (pyIter (.ref it)) Q E s
abbrev TI:=St->Hp->(It->Hp->Prop)->Prop
def MU(a:Cx)(pins:List (AD×Obj))(g:St)(h:EU)(j:It->Hp->Prop)(i:AI)(e:AO):Prop:=
 ∃(it:AD) (fp:List AD) (d:Nat->BI->Prop) (f:It) (c:Hp),i=.ref it/\Inv a pins g c e/\Turn a.prog a.w a.K h f fp it d/\d 0 e.heap/\(∀b∈fp,G1 a pins c b)/\j f c
def PI(a:Cx)(d f:EU)(c:TI):Prop:=
 ∀(pins:List (AD×Obj)) (s:AO) (b:St) (H:Hp) (R:It->Hp->Prop),Inv a pins b H s->c b H R->
  AM (AU a.prog a.w) a.A (eval f a.env) (λv e=>AM (AU a.prog a.w) a.A (pyIter v) (MU a pins b d R) a.xe e) a.xe s
def ii{Q:Unit->AO->Prop}(c:s.heap.get? it=AA o)(f:o.cls=.type n)(e:o.data=.fields vs)(d:["enumerate","zip","dict_itemiterator","dict_reverseitemiterator","odict_iterator","itertools.zip_longest","itertools.pairwise"].contains n=AF)(a:Q ⟨⟩ s):AM M A (OR b (.ref it) u) Q E s:=by
 unfold OR;cases b<;>first
  |exact BM a
  | (cases u<;>first
    |exact BM a
    | (refine AT (wpAny_load c ?_);erw[f,e];show AM M A (if (["enumerate","zip","dict_itemiterator","dict_reverseitemiterator","odict_iterator","itertools.zip_longest","itertools.pairwise"].contains n && vs[0]? ==AA (GX _))=AC then _ else _) Q E s;erw[AK (by intro h;rw[d,Hq]at h;cases h)];exact BM a))
def HW(b:Ao)(a:AD):It:=
 (λi H=>∃xs x,AN b H a xs/\xs[i]? =AA x,λi H x c=>c=H/\∀xs,AN b H a xs->xs[i]? =AA x,λi H=>∃xs,AN b H a xs/\xs.length<=i)
def MW(b:Ao)(a:AD):It:=
 (λi H=>∃xs x,BB b H a xs/\xs[i]? =AA x,λi H x c=>c=H/\∀xs,BB b H a xs->xs[i]? =AA x,λi H=>∃xs,BB b H a xs/\xs.length<=i)
def Ge(a:Int)(n:Nat):It:=(λi _=>i<n,λi H x b=>b=H/\x=.int (a+i),λi _=>n<=i)
def rf(a it:AD):Turn aj w T Y (HW T a) [it] it (λi h=>h.IsListIter it a i) where
 mem:=by simp
 obj:=λi h st b f=>by
  have e:b=it:=by simpa using f
  subst e;have(o,e,c,d):=st;exact(o,e,λv z=>by rw[d]at z;cases z)
 keep:=λi h h' st k=>st.at λo e=>k it (by simp) o e
 item:=by
  intro X q hw r G i pins s C H E I j st n;subst q hw r;have(xs,x,g,m):=n;have(its,l,p,M):=I.list g;have(u,O,L):=l.get m;have(B,f1,f2,A,y,t):=j it (by simp);refine Ru st p.isList (x:=u) (by simpa using O) λh' D J=>?_;have U:Inv X pins C H {s with heap:=h'}:=I.turned (t':=s.toks) (λb o f e=>(J.2 b f).trans e) B f1 A y t;have(o,e,c,d):=id D;exact(u,rfl,ii (s:={s with heap:=h'}) e c d (by decide) (x,H,U,L,(rfl,λys N=>by erw[I.iQ N g];exact m),D,λb f=>(j b f).1))
 done:=by
  intro X q hw r G i pins s C H E I j st n;subst q hw r;have(xs,g,m):=n;have(its,l,p,M):=I.list g;have(B,f1,f2,A,y,t):=j it (by simp);have ab:=l.length;exact Rv (I.ok.hd G) st p.isList (by simp;lia) λh' Q=>(rfl,I.turned (t':=s.toks) (λb o f e=>Q b o f e) B f1 A y t)
 self:=λ_ _ _ _ _ st h=>wpAny_pyIter_listiter st h
def rb(a it:AD):Turn aj w T Y (MW T a) [it] it (λi h=>h.IsTupleIter it a i) where
 mem:=by simp
 obj:=λi h st b f=>by
  have e:b=it:=by simpa using f
  subst e;have(o,e,c,d):=st;exact(o,e,λv z=>by rw[d]at z;cases z)
 keep:=λi h h' st k=>st.at λo e=>k it (by simp) o e
 item:=by
  intro X q hw r G i pins s C H E I j st n;subst q hw r;have(xs,x,g,m):=n;have(its,l,p,M):=I.tuple g;have(u,O,L):=l.get m;have(B,f1,f2,A,y,t):=j it (by simp);refine wpAny_pyNext_tuple_item st (show s.heap.IsTuple a its.toArray from p) (x:=u) (by simpa using O) λh' D J=>?_;have U:Inv X pins C H {s with heap:=h'}:=I.turned (t':=s.toks) (λb o f e=>(J.2 b f).trans e) B f1 A y t;have(o,e,c,d):=id D;exact(u,rfl,ii (s:={s with heap:=h'}) e c d (by decide) (x,H,U,L,(rfl,λys N=>by erw[I.mn N g];exact m),D,λb f=>(j b f).1))
 done:=by
  intro X q hw r G i pins s C H E I j st n;subst q hw r;have(xs,g,m):=n;have(its,l,p,M):=I.tuple g;have(B,f1,f2,A,y,t):=j it (by simp);have ab:=l.length;exact wpAny_pyNext_tuple_end (I.ok.hd G) st (show s.heap.IsTuple a its.toArray from p) (by simp;lia) λh' Q=>(rfl,I.turned (t':=s.toks) (λb o f e=>Q b o f e) B f1 A y t)
 self:=λ_ _ _ _ _ st h=>wpAny_pyIter_tupleiter st h
def re(it:AD)(c:Int)(n:Nat):Turn J w L G (Ge c n) [it] it (λi h=>Oc h it (c+ (i:Nat) * 1) ((n:Int) - (i:Nat)) 1) where
 mem:=by simp
 obj:=λi h st b a=>by
  have e:b=it:=by simpa using a
  subst e;exact(_,st,λv z=>by
   have y:Data.fields _=Data.cell v:=z;cases y)
 keep:=λi h h' st k=>k it (by simp) _ st
 item:=by
  intro X j hw l g i pins s u H E I d st f;subst j hw l;have(r,f1,f2,q,p,m):=d it (by simp);have W:=Walks.range (prog:=X.prog) (w:=X.w) (I.ok.hd g) it c 1 n;refine W.item i s _ _ f st λv h' tk B x A=>?_;obtain⟨t,rfl⟩:=B;have D:Inv X pins u H {s with heap:=h',toks:=tk}:=I.turned (λb o a e=>A b o (by simpa using a) e) r f1 q p m;refine(_,rfl,ii (s:={s with heap:=h',toks:=tk}) (n:="range_iterator") x rfl rfl (by decide) (.int (c+i),H,D,(t,?_),(rfl,rfl),x,λb a=>(d b a).1));erw[Int.mul_one]
 done:=by
  intro X j hw l g i pins s u H E I d st f;subst j hw l;have(r,f1,f2,q,p,m):=d it (by simp);exact Vu (I.ok.hd g) st (by have:n<=i:=f;lia) λh' C=>(rfl,I.turned (t':=s.toks) (λb o a e=>C b o a e) r f1 q p m)
 self:=λ_ _ _ _ _ st h=>Vv st h
def Y3(b:Ao)(e:TE):TI:=λd H R=>e d H λx c=>∃a,x=.ref a/\(∃xs,AN b c a xs)/\R (HW b a) c
def Yz(b:Ao)(e:TE):TI:=λd H R=>e d H λx c=>∃a,x=.ref a/\(∃xs,BB b c a xs)/\R (MW b a) c
def dP[u:Gz f y](r:PE f l j):PI f A l (Y3 y j):=by
 have e:=u.eq;subst e;intro pins s g H R I h;refine aK (r pins s g H _ I h) λv c i=>?_;have(x,z,d,k,m):=i;have(a,e,(xs,n),q):=m;subst e;cases k;have(its,B,p,C):=d.list n;refine Mn p.isList ?_;refine(c⁻¹,[c⁻¹],_,_,z,rfl,d.kept (t':=c.toks) λb o e=>BQ _ e,rf a _,(_,Dq _ rfl,rfl,rfl),λb t=>?_,q);have e:b=c⁻¹:=by simpa using t
 subst e;exact d.gF (Au _) (d.hok.fresh (Au _))
def tM[u:Gz f y](r:PE f l j):PI f A l (Yz y j):=by
 have e:=u.eq;subst e;intro pins s g H R I h;refine aK (r pins s g H _ I h) λv c i=>?_;have(x,z,d,k,m):=i;have(a,e,(xs,n),q):=m;subst e;cases k;have(its,B,p,C):=d.tuple n;refine wpAny_pyIter_tuple (show c.heap.IsTuple a its.toArray from p) ?_;refine(c⁻¹,[c⁻¹],_,_,z,rfl,d.kept (t':=c.toks) λb o e=>BQ _ e,rb a _,(_,Dq _ rfl,rfl,rfl),λb t=>?_,q);have e:b=c⁻¹:=by simpa using t
 subst e;exact d.gF (Au _) (d.hok.fresh (Au _))
def nz{R:It->Hp->Prop}(I:Inv d pins g H s)(l: -(2 ^ 62)<=a)(k:a<2 ^ 62)(j: -(2 ^ 62)<=c)(i:c<2 ^ 62)(q:R (Ge a (c - a).toNat) H):AM (AU d.prog d.w) d.A (pyIter (.ref s⁻¹)) (MU d pins g p R) E {s with heap:=s.heap.push {cls:=.type "range",data:=.fields #[.int a t,.int c u,.int 1 v]},toks:=tk}:=by
 refine wpAny_pyIter_range (SH ..) (small_one l k j i) ?_;have f:Inv d pins g H {s with heap:=s.heap.push {cls:=.type "range",data:=.fields #[.int a t,.int c u,.int 1 v]},toks:=tk}:=I.kept λb o e=>BQ _ e;refine((s.heap.push {cls:=.type "range",data:=.fields #[.int a t,.int c u,.int 1 v]}).objs.size,[(s.heap.push {cls:=.type "range",data:=.fields #[.int a t,.int c u,.int 1 v]}).objs.size],_,_,H,rfl,
  f.kept (t':=tk) λb o e=>BQ _ e,re _ a (c - a).toNat,?_,λb h=>?_,q);have n:a+ ((0:Nat):Int) * 1=a:=by simp
 have m:(((c - a).toNat:Nat):Int) - ((0:Nat):Int)=SS a c 1:=by erw[rangeSize_one];split<;>lia
 show Oc _ _ (a+ ((0:Nat):Int) * 1) ((((c - a).toNat:Nat):Int) - ((0:Nat):Int)) 1;erw[n,m];exact Dq _ rfl;have e:b=(s.heap.push {cls:=.type "range",data:=.fields #[.int a t,.int c u,.int 1 v]}).objs.size:=by simpa using h
 subst e;exact f.gF (Au _) (f.hok.fresh (Au _))
def Y2(b:TA):TI:=λa H R=>b a H λvs c=>∃j:Int,vs=[.int j]/\ -(2 ^ 62)<=j/\j<2 ^ 62/\R (Ge 0 j.toNat) c
def Y1(b:TA):TI:=λa H R=>b a H λvs c=>∃i j:Int,vs=[.int i,.int j]/\(-(2 ^ 62)<=i/\i<2 ^ 62/\ -(2 ^ 62)<=j/\j<2 ^ 62)/\R (Ge i (j - i).toNat) c
def fP(o:Gl b "range")(n:b.mg "range"=AB)(u:PA b [a] g)(m:BE [a] b.env=[(AE AF (eval a b.env))]:=by rfl):PI b x (.Call (.Name "range" p) [a] [] pos) (Y2 g):=by
 intro pins s d H R I h;refine Call_ (eK I o n Op (Hk (aK (u pos pins s d H _ I h) λus y f=>?_) m rfl));obtain⟨vs,z,v,k,c⟩:=f;obtain⟨j,e,c,l,q⟩:=c;subst e;cases k with
 |cons r i=>
  cases i;obtain⟨t,rfl⟩:=r;exact call_range_1 (nz v () () c l (by simpa using q))
def tO(y:Gl c "range")(x:c.mg "range"=AB)(z:PA c [a,b] l)(v:BE [a,b] c.env=[(AE AF (eval a c.env)),(AE AF (eval b c.env))]:=by rfl)(g:BE [b] c.env=[(AE AF (eval b c.env))]:=by rfl):
  PI c B (.Call (.Name "range" p) [a,b] [] pos) (Y1 l):=by
 intro pins s k H R I h;refine Call_ (eK I y x Op (Hk (aK (z pos pins s k H _ I h) λus C (vs,D,A,m,f)=>?_) (by erw[v,g]) (by erw[g];rfl)));obtain⟨i,j,e,⟨f,u,o,n⟩,q⟩:=f;subst e;cases m with
 |cons r d=>
  cases d with
  |cons r' d=>
   cases d;obtain⟨t,rfl⟩:=r;obtain⟨t',rfl⟩:=r';exact call_range_2 (nz A f u o n q)
@[inline]def kFor(g:TG)(f:TS)(D:Ends)(a:St):It->Hp->Prop:=λc j=>∃W:Nat->Nat->St->Hp->Prop,(∃m,W 0 m a j)/\∀i m a H,W i m a H->
 (c.stop i H/\D.nx a H)\/(c.go i H/\∃N:St->Hp->Prop,(∀d b,N d b->∃m',m'<m/\W (i+1) m' d b)/\∀x b,c.EK i H x b->g x a b λe h=>f {D with nx:=N,ct:=N,bk:=D.nx} e h)
def XS(b:TI)(g:TG)(c:TS):TS:=λD a H=>b a H (kFor g c D a)
def Lx(fp:List AD)(h:BI):List (AD×Obj):=fp.filterMap λb=>(h.get? b).map λo=>(AE b o)
def k7(a:b∈fp)(e:h.get? b=AA o):(AE b o)∈Lx fp h:=M9.mpr (b,a,by erw[e];rfl)
def v9(a:p∈Lx fp h):p.1∈fp/\h.get? p.1=AA p.2:=by
 have(b,c,e):=M9.mp a;cases q:h.get? b with
 |none=>rw[q]at e;cases e
 |some o=>
  rw[q]at e;have d:(AE b o)=p:=Ap e;subst d;exact(c,q)
def Inv.pinned(I:Inv f pins g H s)(j:∀b∈fp,G1 f pins H b)(i:∀b∈fp,∃o,s.heap.get? b=AA o/\∀v,o.data≠.cell v):Inv f (pins ++ Lx fp s.heap) g H s:=
 I.oF λp h=>(Az.mp h).elim (λz=>I.pin p (Jo _ z)) λz=>by
  have(a,e):=v9 z;have(k,f1,f2,_):=j p.1 a;have(o,c,d):=i p.1 a;rw[e]at c;cases c;exact(e,k,f1,f2,d)
def Inv.i9(I:Inv c (pins ++ pl) a H s):Inv c pins a H s:=I.oF λp b=>I.pin p (Jo _ (FP _ b))
def dg(B:PassesOwn (AU a.prog a.w) a.A a.env a.xe)(av:a.calm=AC)(ci:PI a Q an a6)(ck:PG a Q g)(j:Fw a body b0)(cd:∀x,OS an a.env x=pure x:=by intro _;rfl):PS a (.For Q an body [] pos) (XS a6 g b0):=by
 intro pins s M H D I h;refine wpAny_For (aK (ci pins s M H _ I h) λv c9 cr=>aK cr λdd c8 cp=>?_) cd;have(it,fp,O,dm,c7,e,c5,T,b1,f2,W,(ca,bs),turn):=cp;subst e;have E:∀{p:Hp},(∀b∈fp,p b=AB)->∀b∈fp,G1 a pins p b:=λce b j=>(ce b j,(f2 b j).2);refine codeAny_forLoop_any (λn aj=>∃i z p,Inv a pins z p aj/\O i aj.heap/\(∀b∈fp,p b=AB)/\W i n z p) ?_ ca (0,M,c7,c5,b1,λb j=>(f2 b j).1,bs);intro n ab (i,y,C,a1,U,a0,bm);rcases turn i n y C bm with⟨stop,b6⟩ | ⟨go,N,cm,step⟩
 ·refine KL B (aK (T.done a rfl rfl rfl av i pins ab y C a.xe a1 (E a0) U stop) λr b3 t=>?_);have(L,c4):=t;subst L;exact OL (y,C,c4,b6)
 ·refine KL B (aK (T.item a rfl rfl rfl av i pins ab y C a.xe a1 (E a0) U go) λr b3 t=>?_);have(u,L,co):=t;subst L;refine KL B (aK co λ_ Y t=>?_);have(x,a2,c3,b5,a4,G,c0):=t;have c2:=c3.pinned (E c0) (T.obj _ _ G);refine KL B (aK (ck _ Y y a2 x u _ c2 b5 (step x a2 a4)) λ_ b2 t=>?_);have(a3,c6,c1,b7):=t;refine KL B (aK (j _ b2 a3 c6 _ c1 b7) λf J q=>?_);have again:∀{c:St} {l:Hp},Inv a (pins ++ Lx fp Y.heap) c l J->N c l->∃m,m<n/\∃i z p,Inv a pins z p J/\O i J.heap/\(∀b∈fp,p b=AB)/\W i m z p:=λ{c l} k A=>by
   have(m',cg,bl):=cm c l A;refine(m',cg,i+1,c,l,k.i9,T.keep _ _ _ G λb j o e=>(k.pin (AE b o) (Jo _ (Jo _ (k7 j e)))).1,λb j=>?_,bl);have(o,e,d):=T.obj _ _ G b j;exact(k.pin (AE b o) (Jo _ (Jo _ (k7 j e)))).2.1
  cases f with
  |next=>have(c,l,k,A):=q;exact again k A
  |cont=>have(c,l,k,A):=q;exact again k A
  |brk=>have(c,l,k,q):=q;exact(c,l,k.i9,q)
  |ret v=>have(a5,c,l,k,b4,q):=q;exact(a5,c,l,k.i9,b4,q)
def fS{K:Ao}{a:AD}{xs:List V}{g:TG}{j:TS}{D:Ends}{b:St}{H:Hp}(Pv:Nat->St->Hp->Prop)(s:Pv 0 b H)(o:∀i b H,i<=xs.length->Pv i b H->AN K H a xs)
  (n:∀i x b H,xs[i]? =AA x->Pv i b H->g x b H λd h=>j {D with nx:=Pv (i+1),ct:=Pv (i+1),bk:=D.nx} d h)(hd:∀b H,Pv xs.length b H->D.nx b H):
  ∃W:Nat->Nat->St->Hp->Prop,(∃m,W 0 m b H)/\∀i m b H,W i m b H->
   ((HW K a).stop i H/\D.nx b H)\/((HW K a).go i H/\∃N:St->Hp->Prop,(∀f c,N f c->∃m',m'<m/\W (i+1) m' f c)/\∀x c,(HW K a).EK i H x c->g x b c λd h=>j {D with nx:=N,ct:=N,bk:=D.nx} d h):=by
 refine(λi m b H=>m=xs.length - i/\i<=xs.length/\Pv i b H,(xs.length,by simp,DR _,s),?_);rintro i m b H ⟨rfl,r,p⟩;have q:=o i b H r p;by_cases k:i<xs.length;refine .inr ((xs,xs[i],q,by simp[k]),Pv (i+1),λf c l=>(xs.length - (i+1),by lia,rfl,k,l),λx c y=>?_);have(e,y):=y;subst e;exact n i x b _ (y xs q) p;have e:i=xs.length:=by lia
 subst e;exact .inl ((xs,q,Au _),hd b H p)
def xl{K:Ao}{a:AD}{xs:List V}{g:TG}{j:TS}{D:Ends}{b:St}{H:Hp}(Pv:Nat->St->Hp->Prop)(s:Pv 0 b H)(o:∀i b H,i<=xs.length->Pv i b H->BB K H a xs)
  (n:∀i x b H,xs[i]? =AA x->Pv i b H->g x b H λd h=>j {D with nx:=Pv (i+1),ct:=Pv (i+1),bk:=D.nx} d h)(hd:∀b H,Pv xs.length b H->D.nx b H):
  ∃W:Nat->Nat->St->Hp->Prop,(∃m,W 0 m b H)/\∀i m b H,W i m b H->
   ((MW K a).stop i H/\D.nx b H)\/((MW K a).go i H/\∃N:St->Hp->Prop,(∀f c,N f c->∃m',m'<m/\W (i+1) m' f c)/\∀x c,(MW K a).EK i H x c->g x b c λd h=>j {D with nx:=N,ct:=N,bk:=D.nx} d h):=by
 refine(λi m b H=>m=xs.length - i/\i<=xs.length/\Pv i b H,(xs.length,by simp,DR _,s),?_);rintro i m b H ⟨rfl,r,p⟩;have q:=o i b H r p;by_cases k:i<xs.length;refine .inr ((xs,xs[i],q,by simp[k]),Pv (i+1),λf c l=>(xs.length - (i+1),by lia,rfl,k,l),λx c y=>?_);have(e,y):=y;subst e;exact n i x b _ (y xs q) p;have e:i=xs.length:=by lia
 subst e;exact .inl ((xs,q,Au _),hd b H p)
def hO{lo:Int}{n:Nat}{g:TG}{j:TS}{D:Ends}{a:St}{H:Hp}(Pv:Nat->St->Hp->Prop)(o:Pv 0 a H)
  (l:∀i a H,i<n->Pv i a H->g (.int (lo+i)) a H λc h=>j {D with nx:=Pv (i+1),ct:=Pv (i+1),bk:=D.nx} c h)(hd:∀a H,Pv n a H->D.nx a H):
  ∃W:Nat->Nat->St->Hp->Prop,(∃m,W 0 m a H)/\∀i m a H,W i m a H->
   ((Ge lo n).stop i H/\D.nx a H)\/((Ge lo n).go i H/\∃N:St->Hp->Prop,(∀d b,N d b->∃m',m'<m/\W (i+1) m' d b)/\∀x b,(Ge lo n).EK i H x b->g x a b λc h=>j {D with nx:=N,ct:=N,bk:=D.nx} c h):=by
 refine(λi m a H=>m=n - i/\i<=n/\Pv i a H,(n,by simp,DR _,o),?_);rintro i m a H ⟨rfl,q,p⟩;by_cases f:i<n;refine .inr (f,Pv (i+1),λd b k=>(n - (i+1),by lia,rfl,f,k),λx b y=>?_);obtain⟨e,y⟩:=y;subst e y;exact l i a _ f p;have e:i=n:=by lia
 subst e;exact .inl (Au _,hd a H p)
def rM{c:TT}(h:St->Hp->Prop)(g:St->Hp->Nat)(o:h a H)(n:∀a H,h a H->c a H λb e=>if b=AC then j {D with nx:=λd f=>h d f/\g d f<g a H,ct:=λd f=>h d f/\g d f<g a H,bk:=D.nx} a e else D.nx a e)(mono:∀a H Q i,(∀b e,Q b e->i b e)->c a H Q->c a H i):TJ c j D a H:=by
 refine(λm a H=>m=g a H/\h a H,(_,rfl,o),?_);rintro m a H ⟨rfl,p⟩;refine mono a H _ _ (λb e q=>?_) (n a H p);cases b with
 |true=>exact(_,λd f (k,l)=>(_,l,rfl,k),q)
 |false=>exact q
abbrev R2:=V->V->Hp->VK->Prop
def D5(a:Cx)(f:AI->AI->Sem AI)(r:R2):Prop:=
 ∀(pins:List (AD×Obj)) (s:AO) (b:St) (H:Hp) (x y:V) (v u:AI) (Q:VK),Inv a pins b H s->RelV x v->RelV y u->r x y H Q->
  AM (AU a.prog a.w) a.A (f v u) (EP a pins b Q) a.xe s
def Q4(a:Cx)(f:AI->Sem AI)(r:V->Hp->VK->Prop):Prop:=
 ∀(pins:List (AD×Obj)) (s:AO) (b:St) (H:Hp) (x:V) (v:AI) (Q:VK),Inv a pins b H s->RelV x v->r x H Q->
  AM (AU a.prog a.w) a.A (f v) (EP a pins b Q) a.xe s
def Fk(a:Cx)(f:AI)(r:List V->Hp->VK->Prop):Prop:=
 ∀(pins:List (AD×Obj)) (s:AO) (b:St) (H:Hp) (xs:List V) (us:List AI) (Q:VK),Inv a pins b H s->Vals xs us->r xs H Q->
  AM (AU a.prog a.w) a.A (call f us) (EP a pins b Q) a.xe s
def ZC(a:Cx)(r:V->Hp->(Bool->Hp->Prop)->Prop):Prop:=
 ∀(pins:List (AD×Obj)) (s:AO) (b:St) (H:Hp) (x:V) (v:AI) (Q:Bool->Hp->Prop),Inv a pins b H s->RelV x v->r x H Q->
  AM (AU a.prog a.w) a.A (truthy v) (TP a pins b Q) a.xe s
def BU(r:R2)(c b:TE):TE:=λa H Q=>c a H λx e=>b a e λy d=>r x y d Q
def B5(r:V->Hp->VK->Prop)(b:TE):TE:=λa H Q=>b a H λx c=>r x c Q
@[inline]def rI(C:Int->Int->Prop)(g:Int->Int->V):R2:=λx y H Q=>∃i j,x=.int i/\y=.int j/\C i j/\Q (g i j) H
inductive HJ(g:Int->Int->V)(x:V)(y:V)(H:Hp)(Q:VK):Prop
 |mk:∀i j,(x=.int i)->(y=.int j)->(Q (g i j) H)->HJ g x y H Q
inductive rU(g:Int->V)(x:V)(H:Hp)(Q:VK):Prop
 |mk:∀i,(x=.int i)->(Q (g i) H)->rU g x H Q
def mE(B:PE c a l)(A:PE c b k){R:V->V->Hp->Prop}(I:Inv c pins e H s)(h:l e H λx j=>k e j λy d=>R x y d){f:AI->AI->Sem AI}(z:∀v u g x y d,Inv c pins e d g->RelV x v->RelV y u->R x y d->AM (AU c.prog c.w) c.A (f v u) Q c.xe g):
  AM (AU c.prog c.w) c.A (eval a c.env) (λv n=>AM (AU c.prog c.w) c.A (eval b c.env) (λu m=>AM (AU c.prog c.w) c.A (f v u) Q c.xe m) c.xe n) c.xe s:=by
 refine aK (B pins s e H _ I h) λv o i=>?_;have(x,j,D,q,t):=i;refine aK (A pins o e j _ D t) λu g i=>?_;have(y,d,C,p,r):=i;exact z v u g x y d C q p r
def aV(k:D5 c (Ji op) r)(m:PE c a f)(l:PE c b e):PE c (.BinOp a op b pos) (BU r f e):=by
 intro pins s d H Q I h;exact wpAny_BinOp (mE m l I h λv u g x y o n j i q=>k pins g d o x y v u Q n j i q)
def db(i:Q4 c (unaryOp op) r)(j:PE c a d):PE c (.UnaryOp op a pos) (B5 r d):=by
 intro pins s b H Q I h;exact UnaryOp_ (aK (j pins s b H _ I h) λv e (x,l,k,f,g)=>i pins e b l x v Q k f g)
def kh{f:AI->AI->Sem AI}{C:Int->Int->Prop}{g:Int->Int->Int}(d:∀(i j:Int) (t u:Tok) (s:AO) (Q:AI->AO->Prop) (E:AI->AO->Prop),C i j->Q (.int (g i j) s.toks) {s with toks:=s.toks+1}->AM (AU a.prog a.w) a.A (f (.int i t) (.int j u)) Q E s):
  D5 a f (rI C λi j=> .int (g i j)):=by
 intro pins s k H x y v u Q I c b h;obtain⟨i,j,rfl,rfl,e,q⟩:=h;obtain⟨t,rfl⟩:=c;obtain⟨t',rfl⟩:=b;exact d i j t t' s _ _ e (.int (g i j),H,I.tok _,(_,rfl),q)
def oX{f:AI->AI->Sem AI}{g:Int->Int->Int}(d:∀(i j:Int) (t u:Tok) (s:AO) (Q:AI->AO->Prop) (E:AI->AO->Prop),Q (.int (g i j) s.toks) {s with toks:=s.toks+1}->AM (AU a.prog a.w) a.A (f (.int i t) (.int j u)) Q E s):
  D5 a f (HJ λi j=> .int (g i j)):=by
 intro pins s e H x y v u Q I c b h;obtain⟨i,j,rfl,rfl,q⟩:=h;obtain⟨t,rfl⟩:=c;obtain⟨t',rfl⟩:=b;exact d i j t t' s _ _ (.int (g i j),H,I.tok _,(_,rfl),q)
def jS{f:AI->AI->Sem AI}{g:Int->Int->Bool}(d:∀(i j:Int) (t u:Tok) (s:AO) (Q:AI->AO->Prop) (E:AI->AO->Prop),Q (.bool (g i j)) s->AM (AU a.prog a.w) a.A (f (.int i t) (.int j u)) Q E s):
  D5 a f (HJ λi j=> .bl (g i j)):=by
 intro pins s e H x y v u Q I c b h;obtain⟨i,j,rfl,rfl,q⟩:=h;obtain⟨t,rfl⟩:=c;obtain⟨t',rfl⟩:=b;exact d i j t t' s _ _ (.bl (g i j),H,I,rfl,q)
def A0C(i j:Int):Prop:=0<j/\j<1073741824
def Rp(i j:Int):Prop:=(-(2 ^ 64)<i/\i<2 ^ 64)\/(-(2 ^ 64)<j/\j<2 ^ 64)
def Rp.ok(h:Rp i j):IntMulOk i j:=by
 rcases h with⟨b,a⟩ | ⟨b,a⟩;exact .of_left (intBits_le_64 b a);exact .of_right (intBits_le_64 b a)
def dG:D5 a (Ji .Add) (HJ λi j=> .int (i+j)):=oX λ_ _ _ _ _ _ _ q=>add_int q
def dQ:D5 a (Ji .Sub) (HJ λi j=> .int (i - j)):=oX λ_ _ _ _ _ _ _ q=>sub_int q
def iM:D5 b (Ji .Mult) (rI Rp λi j=> .int (i * j)):=kh λ_ _ _ _ _ _ _ a q=>mul_int q a.ok
def uN:D5 d (Ji .FloorDiv) (rI A0C λi j=> .int (i / j)):=kh λi j _ _ _ _ _ a q=>by
 have c:(0:Int)<j:=a.1;have b:j<1073741824:=a.2;exact floordiv_int () (by erw[Int.fdiv_eq_ediv_of_nonneg i ()];exact q) (.inl (Wc ()))
def jQ:D5 c (Ji .Mod) (rI (λ_ j=>0<j) λi j=> .int (i % j)):=kh λi j _ _ _ _ _ a q=>by
 have b:(0:Int)<j:=a;exact mod_int' () (by erw[Int.fmod_eq_emod_of_nonneg i ()];exact q)
def rV{f:AI->Sem AI}{g:Int->Int}(c:∀(i:Int) (t:Tok) (s:AO) (Q:AI->AO->Prop) (E:AI->AO->Prop),Q (.int (g i) s.toks) {s with toks:=s.toks+1}->AM (AU a.prog a.w) a.A (f (.int i t)) Q E s):
  Q4 a f (rU λi=> .int (g i)):=by
 intro pins s d H x v Q I b h;obtain⟨i,rfl,q⟩:=h;obtain⟨t,rfl⟩:=b;exact c i t s _ _ (.int (g i),H,I.tok _,(_,rfl),q)
def dZ:Q4 a (unaryOp .USub) (rU λi=> .int (-i)):=rV λ_ _ _ _ _ q=>neg_int q
def Ht:V->V->Bool
 | .Al,.Al=>AC| .Al,.int _=>AC| .int _,.Al=>AC| .Al,.bl _=>AC| .bl _,.Al=>AC| .Al,.str _=>AC| .str _,.Al=>AC
 | .int _,.int _=>AC| .bl _,.bl _=>AC| .str _,.str _=>AC| .GH _,.GH _=>AC
 | .int _,.str _=>AC| .str _,.int _=>AC| .bl _,.str _=>AC| .str _,.bl _=>AC
 | _,_=>AF
def CN:R2:=λx y H Q=>Ht x y=AC/\Q (.bl (decide (x=y))) H
def CM:R2:=λx y H Q=>Ht x y=AC/\Q (.bl (!decide (x=y))) H
def qQ:decide (V.int i=V.int j)=(i==j):=by
 erw[DQ];simp
def qT:decide (V.bl i=V.bl j)=(i==j):=by
 erw[DQ];simp
def qP:decide (V.str i=V.str j)=(i==j):=by
 erw[DQ];simp
def qR:decide (V.GH i=V.GH j)=(i.toList==j.toList):=by
 erw[DQ];cases i;cases j;simp
def dJ{Q:VK}(I:Inv c pins a H s)(q:Q (.bl k) H)(e:k=b):EP c pins a Q (.bool b) s:=by
 subst e;exact(.bl k,H,I,rfl,q)
def dh:D5 e (Em .Eq) CN:=by
 intro pins s d H x y v u Q I c a h;have(b,q):=h;cases x with
 |Al=>
  cases c;cases y with
  |Al=>cases a;exact PySem.EqNone.eq_none_none (dJ I q (by simp))
  |bl j=>cases a;exact PySem.EqNone.eq_none_bool (dJ I q (by simp))
  |int j=>obtain⟨t',rfl⟩:=a;exact PySem.EqNone.eq_none_int (dJ I q (by simp))
  |str j=>obtain⟨t',rfl⟩:=a;exact PySem.EqNone.eq_none_str (dJ I q (by simp))
  | _=>exact absurd (show AF=AC from b) Dl
 |bl i=>
  cases c;cases y with
  |Al=>cases a;exact PySem.EqNone.eq_bool_none (dJ I q (by simp))
  |bl j=>cases a;exact eq_bool (dJ I q qT)
  |str j=>obtain⟨t',rfl⟩:=a;exact PySem.EqMixed.eq_bool_str (dJ I q (by simp))
  | _=>exact absurd (show AF=AC from b) Dl
 |int i=>
  obtain⟨t,rfl⟩:=c;cases y with
  |Al=>cases a;exact PySem.EqNone.eq_int_none (dJ I q (by simp))
  |int j=>obtain⟨t',rfl⟩:=a;exact eq_int (dJ I q qQ)
  |str j=>obtain⟨t',rfl⟩:=a;exact PySem.EqMixed.eq_int_str (dJ I q (by simp))
  | _=>exact absurd (show AF=AC from b) Dl
 |str i=>
  obtain⟨t,rfl⟩:=c;cases y with
  |Al=>cases a;exact PySem.EqNone.eq_str_none (dJ I q (by simp))
  |bl j=>cases a;exact PySem.EqMixed.eq_str_bool (dJ I q (by simp))
  |int j=>obtain⟨t',rfl⟩:=a;exact PySem.EqMixed.eq_str_int (dJ I q (by simp))
  |str j=>obtain⟨t',rfl⟩:=a;exact eq_str (dJ I q qP)
  | _=>exact absurd (show AF=AC from b) Dl
 |GH i=>
  obtain⟨t,rfl⟩:=c;cases y with
  |GH j=>obtain⟨t',rfl⟩:=a;exact PySem.W.eq_bytes (dJ I q qR)
  | _=>exact absurd (show AF=AC from b) Dl
 | _=>cases y<;>exact absurd (show AF=AC from b) Dl
def gR:D5 e (Em .NotEq) CM:=by
 intro pins s d H x y v u Q I c a h;have(b,q):=h;cases x with
 |Al=>
  cases c;cases y with
  |Al=>cases a;exact PySem.EqNone.ne_none_none (dJ I q (by simp))
  |bl j=>cases a;exact PySem.EqNone.ne_none_bool (dJ I q (by simp))
  |int j=>obtain⟨t',rfl⟩:=a;exact PySem.EqNone.ne_none_int (dJ I q (by simp))
  |str j=>obtain⟨t',rfl⟩:=a;exact PySem.EqNone.ne_none_str (dJ I q (by simp))
  | _=>exact absurd (show AF=AC from b) Dl
 |bl i=>
  cases c;cases y with
  |Al=>cases a;exact PySem.EqNone.ne_bool_none (dJ I q (by simp))
  |bl j=>cases a;exact ne_bool (dJ I q (congrArg not qT))
  |str j=>obtain⟨t',rfl⟩:=a;exact PySem.EqMixed.ne_bool_str (dJ I q (by simp))
  | _=>exact absurd (show AF=AC from b) Dl
 |int i=>
  obtain⟨t,rfl⟩:=c;cases y with
  |Al=>cases a;exact PySem.EqNone.ne_int_none (dJ I q (by simp))
  |int j=>obtain⟨t',rfl⟩:=a;exact ne_int (dJ I q (congrArg not qQ))
  |str j=>obtain⟨t',rfl⟩:=a;exact PySem.EqMixed.ne_int_str (dJ I q (by simp))
  | _=>exact absurd (show AF=AC from b) Dl
 |str i=>
  obtain⟨t,rfl⟩:=c;cases y with
  |Al=>cases a;exact PySem.EqNone.ne_str_none (dJ I q (by simp))
  |bl j=>cases a;exact PySem.EqMixed.ne_str_bool (dJ I q (by simp))
  |int j=>obtain⟨t',rfl⟩:=a;exact PySem.EqMixed.ne_str_int (dJ I q (by simp))
  |str j=>obtain⟨t',rfl⟩:=a;exact ne_str (dJ I q (congrArg not qP))
  | _=>exact absurd (show AF=AC from b) Dl
 |GH i=>
  obtain⟨t,rfl⟩:=c;cases y with
  |GH j=>obtain⟨t',rfl⟩:=a;exact PySem.W.ne_bytes (dJ I q (congrArg not qR))
  | _=>exact absurd (show AF=AC from b) Dl
 | _=>cases y<;>exact absurd (show AF=AC from b) Dl
def eS:D5 a (Em .Lt) (HJ λi j=> .bl (decide (i<j))):=jS λ_ _ _ _ _ _ _ q=>lt_int q
def fD:D5 a (Em .LtE) (HJ λi j=> .bl (decide (i<=j))):=jS λ_ _ _ _ _ _ _ q=>le_int q
def f9:D5 a (Em .Gt) (HJ λi j=> .bl (decide (j<i))):=jS λ_ _ _ _ _ _ _ q=>gt_int q
def jR:D5 a (Em .GtE) (HJ λi j=> .bl (decide (j<=i))):=jS λ_ _ _ _ _ _ _ q=>ge_int q
def dz:D5 d (Em .Is) (λx y H Q=>y=.Al/\Q (.bl (decide (x=.Al))) H):=by
 intro pins s c H x y v u Q I a b h;obtain⟨rfl,q⟩:=h;cases b;refine is_none_gen (dJ I q ?_);cases x<;>first
  | (cases a;rfl)
  | (obtain⟨t,rfl⟩:=a;rfl)
def ff:D5 d (Em .IsNot) (λx y H Q=>y=.Al/\Q (.bl (!decide (x=.Al))) H):=by
 intro pins s c H x y v u Q I a b h;obtain⟨rfl,q⟩:=h;cases b;refine isnot_none_gen (dJ I q ?_);cases x<;>first
  | (cases a;rfl)
  | (obtain⟨t,rfl⟩:=a;rfl)
@[inline]def isObj:HO->Bool
 | .lst _=>AC
 | .ins _ _ _=>AC
 | _=>AF
def oZ(I:Inv f pins c H s)(h:H a=AA o)(p:isObj o=AC):∃b,s.heap.get? a=AA b/\b.cls≠.type "tuple":=by
 cases o with
 |lst xs=>
  obtain⟨_,its,n,_,e⟩:xs.length<=Ae/\∃(its:List AI) (n:Nat),Vals xs its/\s.heap.get? a=AA {cls:=.type "list",data:=.seq its.toArray n}:=I.hok a _ h;exact(_,e,(by show KU "list"≠.type "tuple";decide +kernel))
 |ins C d fs=>
  have x:=I.hok a _ h;have(_,_,_,e,_):=x;exact(_,e,(by show Bf C≠.type "tuple";exact λz=>by cases z))
 | _=>exact absurd (show AF=AC from p) Dl
def aU(b:EU)(h:op≠.In:=by decide)(a:op≠.NotIn:=by decide):IT op b=AF:=by
 have d:(op==CmpOp.In)=AF:=by cases op<;>first|rfl|exact absurd rfl h
 have c:(op==CmpOp.NotIn)=AF:=by cases op<;>first|rfl|exact absurd rfl a
 cases b<;>simp[IT,d,c]
def eQ(k:D5 c (Em op) r)(n:PE c a f)(m:PE c b e)(l:IT op b=AF):PE c (.Compare a [op] [b] pos) (BU r f e):=by
 intro pins s d H Q I h;exact wpAny_Compare1 (mE n m I h λv u g x y p o j i q=>k pins g d p x y v u Q o j i q) l
def Bp(t:TE):TT:=λa H Q=>t a H λx b=>∃k,x=.bl k/\Q k b
def aW(A:D5 f (Em op) r)(D:PE f a i)(C:PE f b g)(B:IT op b=AF):PT f (.Compare a [op] [b] pos) (Bp (BU r i g)):=by
 intro pins s d H Q I h;refine Vy (aK (D pins s d H _ I h) λv l (x,N,J,o,t)=>aK (C pins l d N _ J t) λu j (y,M,G,n,q)=>
  aK (A pins j d M x y v u _ G o n q) λc O (z,L,E,m,k,e,p)=>?_) B;subst e;cases m;exact Iq (L,E,p)
def Cu(r r':R2)(f e d:TE):TE:=λa H Q=>f a H λx i=>e a i λy h=>r x y h λz b=>∃k,z=.bl k/\
 (if k=AC then d a b λc g=>r' y c g Q else Q (.bl AF) b)
def jN(T:D5 g (Em op) r)(O:D5 g (Em l) r')(aj:PE g a A)(ab:PE g b t)(Y:PE g c q)(U:lastMarks [op,l] [b,c]=AF:=by with_unfolding_all rfl):PE g (.Compare a [op,l] [b,c] pos) (Cu r r' A t q):=by
 intro pins s f H Q I h;refine Compare_chain (aK (aj pins s f H _ I h) λv E (x,a3,a0,J,N)=>chain_link (aK (ab pins E f a3 _ a0 N) λu D (y,a2,av,i,M)=>
  aK (T pins D f a2 x y v u _ av J i M) λd C (z,n,m,G,k,e,j)=>?_)) U;subst e;cases G;refine Iq ?_;cases k with
 |false=>exact ite_ff (.bl AF,n,m,rfl,j)
 |true=>exact ite_tt (chain_last (aK (Y pins C f n _ m j) λp B (o,a1,an,r4,L)=>O pins B f a1 y o u p Q an i r4 L))
def VI(c:Ao)(x:V)(H:Hp)(k:Bool):Prop:=
 match x with
 | .Al=>k=AF
 | .bl b=>k=b
 | .int i=>k=(i !=0)
 | .str y=>y.length<=Ae/\k=((y.length:Int) !=0)
 | .GH y=>y.size<=Ae/\k=((y.size:Int) !=0)
 | .ref p=>(∃xs,AN c H p xs/\k= !xs.isEmpty)\/(∃xs,BB c H p xs/\k= !xs.isEmpty)\/∃a,H p=AA (.dK a)/\k= !a.isEmpty
 | _=>False
def xV{κ:Type}{a:List (κ×V)}{vs:List (κ×AI)}(r:KV a vs):(!vs.isEmpty)= !a.isEmpty:=by
 cases r<;>rfl
def pU(r:Vals xs its):(!its.toArray.isEmpty)= !xs.isEmpty:=by
 cases r<;>simp
def iR:(Ae:Nat)<2 ^ 63:=by erw[IR];decide
def rj:ZC g (λx H Q=>∃k,VI g.K x H k/\Q k H):=by
 intro pins s u H x v Q I c h;have(k,e,q):=h;have A:=iR;have z:Ae=16777216:=IR;cases x with
 |Al=>
  cases c;have a:k=AF:=e;subst a;exact truthy_none (H,I,q)
 |bl b=>
  cases c;have a:k=b:=e;subst a;exact Iq (H,I,q)
 |int i=>
  obtain⟨t,rfl⟩:=c;have a:k=(i !=0):=e;subst a;exact PySem.P.truthy_int (H,I,q)
 |str y=>
  obtain⟨t,rfl⟩:=c;obtain⟨n,a⟩:y.length<=Ae/\k=((y.length:Int) !=0):=e;subst a;exact PySem.P.truthy_str () (H,I.tok _,q)
 |GH y=>
  obtain⟨t,rfl⟩:=c;obtain⟨n,a⟩:y.size<=Ae/\k=((y.size:Int) !=0):=e;subst a;exact PySem.W.truthy_bytes () (H,I.tok _,q)
 |ref p=>
  cases c;have a:(∃xs,AN g.K H p xs/\k= !xs.isEmpty)\/(∃xs,BB g.K H p xs/\k= !xs.isEmpty)\/∃d,H p=AA (.dK d)/\k= !d.isEmpty:=e;rcases a with⟨xs,f,a⟩ | ⟨xs,f,a⟩ | ⟨d,f,a⟩;subst a;have(its,r,pl,j):=I.list f;have l:=r.length;exact wpAny_truthy_list pl.isList (by simp only[Dk];lia) (H,I.tok _,by erw[pU r];exact q);subst a;have(its,r,pl,j):=I.tuple f;have l:=r.length;exact truthy_tuple pl (by simp only[Dk];lia) (H,I.tok _,by erw[pU r];exact q);subst a;obtain⟨j,o,vs,r,m⟩:d.length<=Ae/\(p==E2)=AF/\∃vs,KV d vs/\s.heap.DictOf (BJ g.prog g.w) p vs:=I.hok p _ f;have l:d.length=vs.length:=Hh r;exact wpAny_truthy_dict o m () (H,I.tok _,by erw[xV r];exact q)
 | _=>exact(show False from e).elim
def n0(l:PE c a e)(j:∀whole,isTrue a c.env whole=(do let v <-whole;IQ a.pos;GY [v] (truthy v))):
  PT c a (λb H Q=>e b H λx d=>∃k,VI c.K x d k/\Q k d):=by
 intro pins s b H Q I h;exact isTrue_plain (aK (l pins s b H _ I h) λv f (x,n,m,g,i)=>rj pins f b n x v Q m g i) (j _)
def vals1(r:Vals [x] us):∃u,us=[u]/\RelV x u:=by
 cases r with
 |cons b a=>cases a;exact(_,rfl,b)
def vals2(r:Vals [x,y] us):∃u a,us=[u,a]/\RelV x u/\RelV y a:=by
 cases r with
 |cons d c=>
  cases c with
  |cons b r4=>cases r4;exact(_,_,rfl,d,b)
def yt:Fk b (.builtin "abs") (λxs H Q=>∃i,xs=[.int i]/\Q (.int (if i<0 then -i else i)) H):=by
 intro pins s a H xs us Q I r h;obtain⟨i,rfl,q⟩:=h;obtain⟨u,rfl,t,rfl⟩:=vals1 r;exact call_abs_int λu tk=>(.int (if i<0 then -i else i),H,I.tok _,(_,rfl),q)
def jq(b:c.calm=AC):Fk c (.builtin "max") (λxs H Q=>∃i j,xs=[.int i,.int j]/\Q (.int (if j>i then j else i)) H):=by
 intro pins s d H xs us Q I r h;obtain⟨i,j,rfl,q⟩:=h;obtain⟨u,e,rfl,⟨t,rfl⟩,⟨t',rfl⟩⟩:=vals2 r;refine max_two_ints (I.ok.hd b) λh' tk k=>(_,H,I.kept k,?_,q);by_cases a:j>i;erw[AJ a,AJ a];exact(_,rfl);erw[AK a,AK a];exact(_,rfl)
def iw(b:c.calm=AC):Fk c (.builtin "min") (λxs H Q=>∃i j,xs=[.int i,.int j]/\Q (.int (if j<i then j else i)) H):=by
 intro pins s d H xs us Q I r h;obtain⟨i,j,rfl,q⟩:=h;obtain⟨u,e,rfl,⟨t,rfl⟩,⟨t',rfl⟩⟩:=vals2 r;refine min_two_ints (I.ok.hd b) λh' tk k=>(_,H,I.kept k,?_,q);by_cases a:j<i;erw[AJ a,AJ a];exact(_,rfl);erw[AK a,AK a];exact(_,rfl)
structure J4(h:BI)(x dx C:AD)(mA:Str->Option AI):Prop where
 obj:h.get? x=AA (Jl C dx)
 ns:h.Ns1 dx mA
 ne:dx≠x
def wu{h:BI}(n:h.Ns1 l d):∃b,h.get? l=AA b/\∀name,OX name b=AA (d name):=by
 have(o,c,p,g,hd,k,_,i):=n;refine(o,g,λname=>?_);have e:=i name;unfold nsFind findBy at e;rw[<-Array.find?_toList]at e;unfold OX;erw[hd];dsimp only;split;rename_i y q;rw[q]at e;exact congrArg AA e;rename_i q;rw[q]at e;have a:c.toList.any (·.refKey)=AF:=by
  erw[Sw];intro y f;have(z,t,j):=k y (Array.mem_toList_iff.mp f);simp[DictEntry.refKey,j]
 have m: ¬c.toList.any (·.refKey)=AC:=by erw[a];exact Dl
 erw[AK m];exact congrArg AA e
def J4.look(I:J4 h x e C b):∃a,PySem.W.InstAt h x (Jl C e) C (AA a)/\∀name,OX name a=AA (b name):=
 let(a,c,d):=wu I.ns
 (a,(I.obj,rfl,rfl,c),d)
def get_map{Q:AI->AO->Prop}(k:b.In s.heap)(I:J4 s.heap x n C c)(i:OW b C a=AC)(g:R9 b C=AC)(j:HA b (.ref C) a=AA AB)(e:c a=AA v)(d:V3 v=AC)(h:Q v {s with toks:=s.toks+1}):
  AM (AU prog w) A (getAttr (.ref x) a expr) Q E s:=by
 have(m,l,f):=I.look;exact PySem.W.get_value k l (R4 i).1 (PySem.W.findObj_own g j rfl (by erw[f,e])) d h
def xf{Q:AI×List AI->AO->Prop}(l:b.In s.heap)(I:J4 s.heap x n C e)(c:OW b C a=AC)(k:HA b (.ref C) a=AA (AA (.ref f)))(i:Mu b (.ref f)=AC)(g:e a=AB)(h:Q (AE (.ref f) [.ref x]) s):
  AM (AU prog w) A (KP (.ref x) a pl) Q E s:=by
 have(d,m,j):=I.look;exact PySem.W.method_fn l m (R4 c).1 (R4 c).2 k (Hb.mp i) (by show (OX a d).map (·.isSome)=AA AF;erw[j,g];rfl) h
def sV{Q:Unit->AO->Prop}(f:d.In s.heap)(I:J4 s.heap x c C g)(n:HA d (.ref C) "__setattr__"=AA (AA (.builtin "object.__setattr__")))(o:V1 d C=AC)(m:R3 d C e=AA AB)(q:R9 d C=AC)(hw:R1 g ns)(hsz:ns.length<=Ae)(h:∀h',J4 h' x c C (λy=>if y=e then AA v else g y)->Mx c s.heap h'->Q ⟨⟩ {s with heap:=h',toks:=s.toks+2}):
  AM (AU prog w) A (setAttr (.ref x) e v) Q E s:=by
 have(D,k,H):=I.look;refine PySem.W.set_plain f k n (PySem.W.osa_open (s:={s with toks:=s.toks+1}) (r:=AB) f k o m λb=>?_);have(M,B,u):=PySem.W.any_some q;have l:s.heap.get? x=AA (.ref C,AA c,.plain,#[]):=I.obj;refine AT (BM (AT (AT (wpAny_loadPart l (AT (PySem.W.Looks.here (s:={s with toks:=s.toks+1}) (PySem.W.looks_clsIn f B) ?_))))));erw[u];refine BM (a:=AA c) (AT (BM (AT ?_)));refine wpAny_nsSet1 (s:={s with toks:=s.toks+1}) I.ns λh' j i=>?_;have(G,J,L,p,t,z):=j.count (PySem.Within.cons e v hw);refine AT (wpAny_lookBehind p (by erw[t];exact pastItsLine_dict (Dj z (by erw[AS];lia))) ?_);exact BM (h _ ((i.2 _ (Fp I.ne)).trans I.obj,j,I.ne) i)
def wj(a:b.In s.heap)(e:R7 b C=AC)(i:HA b (.ref C) "__init__"=AA (AA (.ref f)))(j:PySem.W.typeIn b (.ref f)=AA (.type "function"))(h:IS (AU prog w) (A.under (.builtin "type.__call__" (.ref C::vs,c))) (.call (.ref f) (.ref (s⁻¹+1)::vs,c)) (PySem.W.InitBack (s⁻¹+1) k)
   {s with heap:=(s.heap.push Iu).push (Jl C s⁻¹)}):
  IS (AU prog w) A (.call (.ref C) (vs,c)) k s:=by
 have(l,g,d,t,os):=s;exact PySem.W.make_core (PySem.W.makes_of a e) (PySem.W.looks_findIn a i) (λself=>PySem.W.bind_fn a self j) (.inl rfl) h
def De(f:Str)(v:V):List (Str×V)->List (Str×V)
 | []=>[(AE f v)]
 | (g,x)::r=>if g=f then(AE g v)::r else(AE g x)::De f v r
def o0(f g:Str)(v:V):∀fs:List (Str×V),(De f v fs).lookup g=if g=f then AA v else fs.lookup g
 | []=>by
  show Jp g [(AE f v)]=_;by_cases h:g=f;have a:(g==f)=AC:=Hb.mpr h;simp only[Jp,a,AJ h];have a:(g==f)=AF:=JZ.mpr h;simp only[Jp,a,AK h]
 | (k,x)::r=>by
  have c:=o0 f g v r;erw[show De f v ((AE k x)::r)=(if k=f then(AE k v)::r else(AE k x)::De f v r) from rfl];by_cases b:k=f;erw[AJ b];by_cases h:g=k;have a:(g==k)=AC:=Hb.mpr h;simp only[Jp,a,AJ (h.trans b)];have a:(g==k)=AF:=JZ.mpr h;simp only[Jp,a,AK (λe:g=f=>h (e.trans b.symm))];erw[AK b];by_cases h:g=k;have a:(g==k)=AC:=Hb.mpr h;simp only[Jp,a,AK (λe:g=f=>b (h.symm.trans e))];have a:(g==k)=AF:=JZ.mpr h;simp only[Jp,a];exact c
def lN(f:Str)(v:V):∀fs:List (Str×V),f∈(De f v fs).map (·.1)/\∀g,g∈fs.map (·.1)->g∈(De f v fs).map (·.1)
 | []=>(by simp[De],λg h=>by simp at h)
 | (k,x)::r=>by
  have(c,b):=lN f v r;erw[show De f v ((AE k x)::r)=(if k=f then(AE k v)::r else(AE k x)::De f v r) from rfl];by_cases a:k=f;erw[AJ a];subst a;exact(by simp,λg h=>by simpa using h);erw[AK a];refine(?_,λg h=>?_);erw[Ax];exact Eb _ c;rw[Ax]at h|-;rcases Aj.mp h with e|e;exact Aj.mpr (.inl e);exact Eb _ (b g e)
def o5(f:Str)(v:V):∀fs:List (Str×V),(De f v fs).length<=fs.length+1
 | []=>by simp[De]
 | (k,x)::r=>by
  have b:=o5 f v r;erw[show De f v ((AE k x)::r)=(if k=f then(AE k v)::r else(AE k x)::De f v r) from rfl];by_cases a:k=f;erw[AJ a,AS,AS];lia;erw[AK a,AS,AS];lia
def Ev.some_of(r:Ev (AA v) o):∃u,o=AA u/\RelV v u:=by
 cases o with
 |none=>exact(show False from r).elim
 |some u=>exact(u,rfl,r)
def Ev.none_of(r:Ev AB o):o=AB:=by
 cases o with
 |none=>rfl
 |some u=>exact(show False from r).elim
def xc(r:RelV v u):V3 u=AC:=by
 cases v with
 |Al=>cases (show u=Hf from r);rfl
 |bl b=>cases (show u=Hg b from r);rfl
 |int i=>have(t,e):=(show ∃t,u=E4 i t from r);cases e;rfl
 |str x=>have(t,e):=(show ∃t,u=Mv x t from r);cases e;rfl
 |GH b=>have(t,e):=(show ∃t,u=Value.bytes b t from r);cases e;rfl
 |Ny b=>have(t,e):=(show ∃t,u=Value.float b t from r);cases e;rfl
 |ref a=>cases (show u=Bf a from r);rfl
 |ty n=>cases (show u=KU n from r);rfl
def lV(i:Di j w H h)(e:H a=AA (.ins C c fs)):∃b,J4 h a c C b/\(∀f,Ev (fs.lookup f) (b f))/\R1 b (fs.map (·.1))/\fs.length<=1000/\H c=AA (.own a):=by
 have(d,z,ne,g,b,n,r,q):=(show Dg j w H h a (.ins C c fs) from i a _ e);exact(b,(g,n,ne),r,q,z,d)
def EO.get(c:EO a C)(f:Str):OW a C f=AC:=c.pg
def BO.rm(n:BO a C f):R3 a C f=AA AB:=by
 unfold R3;erw[show HA a (.ref C) f=AA AB from n];rfl
structure OH(K:Ao)(C:AD)(f:Str)(v:V)(u:AI):Prop where
 at_:HA K (.ref C) f=AA (AA u)
 rel:RelV v u
 get:PySem.W.specialIn K u "__get__"=AA AB
 cp:PySem.W.copiedNames.contains f=AF
structure Meth(K:Ao)(C:AD)(m:Str)(f:AD):Prop where
 at_:HA K (.ref C) m=AA (AA (.ref f))
 fn:Mu K (.ref f)=AC
 kp:G9 K (.ref f)=AC
def pZ{Q:AI->AO->Prop}(I:Inv d pins j H s)(e:H a=AA (.ins C p fs))(c:EO d.K C)(n:BO d.K C f)(l:fs.lookup f=AA v)(h:∀u g,Inv d pins j H g->RelV v u->Q u g):AM (AU d.prog d.w) A (getAttr (.ref a) f b) Q E s:=by
 have(k,O,r,_,_,_):=lV I.hok e;have(u,m,i):=Ev.some_of (v:=v) (o:=k f) (by erw[<-l];exact r f);exact get_map I.du O (c.get f) c.hd n m (xc i) (h u _ (I.tok _) i)
def lX{Q:AI×List AI->AO->Prop}(I:Inv b pins i H s)(e:H a=AA (.ins C j fs))(c:EO b.K C)(k:Meth b.K C m g)(l:fs.lookup m=AB)(h:Q (AE (.ref g) [.ref a]) s):AM (AU b.prog b.w) A (KP (.ref a) m pl) Q E s:=by
 have(d,O,r,_,_,_):=lV I.hok e;have f:d m=AB:=Ev.none_of (by erw[<-l];exact r m);exact xf I.du O (c.get m) k.at_ k.fn f h
def nQ{Q:Unit->AO->Prop}(I:Inv d pins t H s)(e:H a=AA (.ins C i fs))(c:EO d.K C)(n:BO d.K C f)(M:fs.length<1000)(B:RelV y u)(h:∀l,Inv d pins t (upd H a (.ins C i (De f y fs))) l->Q ⟨⟩ l):AM (AU d.prog d.w) A (setAttr (.ref a) f u) Q E s:=by
 have(m,O,r,k,_,p):=lV I.hok e;have D:(fs.map (·.1)).length<=Ae:=by erw[AL,IR];lia
 refine sV I.du O c.sa c.po n.rm c.hd k D λh' j v=>h _ ?_;have hd:∃o,h'.get? i=AA o:=let(o,_,_,L,_):=j.ns;(o,L);refine I.write (x:=a) (e:=i) (by erw[e];exact G5) (.inr p) (λb q J z=>(v.2 b J).trans z) hd ?_;refine(by erw[aC O.ne];exact p,?_,O.ne,j.obj,_,j.ns,λg=>?_,λg G=>?_);have:=o5 f y fs;lia;show Ev ((De f y fs).lookup g) (if g=f then AA u else m g);erw[o0];by_cases q:g=f;erw[AJ q,AJ q];exact B;erw[AK q,AK q];exact r g;by_cases q:g=f;erw[q];exact(lN f y fs).1;refine(lN f y fs).2 g (k g λz=>G ?_);show (if g=f then AA u else m g)=AB;erw[AK q];exact z
def Inv.made(I:Inv j pins d H s):Inv j pins d (upd (upd H s⁻¹ (.own (s⁻¹+1))) (s⁻¹+1) (.ins C s⁻¹ []))
  {s with heap:=(s.heap.push Iu).push (Jl C s⁻¹)}:=by
 have c:(s.heap.push Iu).get? s⁻¹=AA Iu:=Dq s.heap rfl;have i:((s.heap.push Iu).push (Jl C s⁻¹)).get? (s⁻¹+1)=AA (Jl C s⁻¹):=by
  have:=Dq (s.heap.push Iu) (o:=Jl C s⁻¹) rfl;rwa [FI]at this
 have h:(s.heap.push Iu).Ns s⁻¹ (λ_=>AB):=(Iu,#[],_,c,rfl,(λe g=>absurd g (by simp)),λ_=>rfl);have k:=I.laid (a:=s⁻¹) (o:=.own (s⁻¹+1)) (h':=s.heap.push Iu) (t':=s.toks) (λb u q=>BQ _ q) (Au _) (_,c);refine k.laid (a:=s⁻¹+1) (o:=.ins C s⁻¹ []) (t':=s.toks) (λb u q=>BQ _ q) (LY (FI _ _)) ?_;have ne:s⁻¹≠s⁻¹+1:=DU (M4 _);refine(by erw[aC ne,aB],DR _,ne,i,λ_=>AB,(Heap.Ns1.of_empty h).at λo q=>BQ _ q,λ_=>G5,λy f=>absurd rfl f)
def zG(b:KQ e f env (eval e env)=eval e env)(h:AM (AU prog w) A (eval e env) (λo a=>AM (AU prog w) A (getAttr o f AC) Q E a) E s):AM (AU prog w) A (eval (.Attribute e f pos) env) Q E s:=
 Attribute_any_ h (by erw[arm_eval_Attribute,b])
inductive MC(K:Ao)(f:Str)(Q:VK)(x:V)(H1:Hp):Prop
 |mk:∀a C dx fs v,(x=.ref a)->(H1 a=AA (.ins C dx fs))->(EO K C)->(BO K C f)->(fs.lookup f=AA v)->(Q v H1)->MC K f Q x H1
def Bs(c:Ao)(b:TE)(f:Str):TE:=λa H Q=>b a H (MC c f Q)
def CK(d:Ao)(h g:TE)(f:Str):TS:=λD b H=>g b H λy i=>h b i λx e=>∃a C c fs,x=.ref a/\e a=AA (.ins C c fs)/\EO d C/\BO d C f/\fs.length<1000/\
 D.nx b (upd e a (.ins C c (De f y fs)))
def VU(a:Cx)(op:Operator)(c:V->V->Hp->VK->Prop):Prop:=
 ∀(pins:List (AD×Obj)) (s:AO) (b:St) (H:Hp) (x y:V) (u v:AI) (Q:VK),Inv a pins b H s->RelV x u->RelV y v->c x y H Q->AM (AU a.prog a.w) a.A (inplaceOp op u v) (EP a pins b Q) a.xe s
def YI(e:Ao)(j i:TE)(k:V->V->Hp->VK->Prop)(f:Str):TS:=λD b H=>j b H λx h=>∃a C l fs v,x=.ref a/\h a=AA (.ins C l fs)/\EO e C/\BO e C f/\fs.lookup f=AA v/\
 i b h λy m=>k v y m λz g=>∃d c,g a=AA (.ins C d c)/\c.length<1000/\D.nx b (upd g a (.ins C d (De f z c)))
def aH[p:Gz b t](m:PE b e i)(o:KQ e f b.env (eval e b.env)=eval e b.env:=by rfl):PE b (.Attribute e f pos) (Bs t i f):=by
 have e:=p.eq;subst e;intro pins s d H Q I h;refine zG o (aK (m pins s d H _ I h) λu E g=>?_);have(x,A,z,j,a,C,G,fs,v,ex,r,c,n,l,q):=g;subst ex;obtain rfl:u=Bf a:=j;exact pZ z r c n l λB D y k=>(v,A,y,k,q)
def dH[E:Gz b J](B:PE b o j)(z:PE b value i)(A:Jd value (AA (.Attribute o f t)) pos.line b.env=pure AF):PS b (.Assign [.Attribute o f t] value pos) (CK J j i f):=by
 have e:=E.eq;subst e;intro pins s d H D I h;refine plainObj_wpAny_Assign_Attribute (aK (z pins s d H _ I h) λu k (y,O,N,m,q)=>aK (B pins k d O _ N q) λv T g=>?_) A;have(x,Y,M,p,a,C,U,fs,ex,G,c,n,l,r):=g;subst ex;obtain rfl:v=Bf a:=p;exact nQ M G c n l m λQ L=>(d,_,L,r)
def oB[T:Gz d ab](Q:PE d o k)(N:PE d value j)(O:VU d op E):PS d (.AugAssign (.Attribute o f a5) op value pos) (YI ab k j E f):=by
 have e:=T.eq;subst e;intro pins s b H D I h;refine wpAny_AugAssign_AttributeAny (aK (Q pins s b H _ I h) λL bm g=>?_);have(x,a3,a1,A,a,C,b1,fs,v,ex,Y,c,n,l,q):=g;subst ex;obtain rfl:L=Bf a:=A;refine pZ a1 Y c n l λu p a0 B=>aK (N pins p b a3 _ a0 q) λi m (y,a2,av,t,J)=>aK (O pins m b a2 v y u i _ av B t J) λa4 bl g=>?_;have(z,b2,an,r,b0,bs,U,M,G):=g;exact nQ an U c n M r λa6 aj=>(b,_,aj,G)
def YU:V->V->Hp->VK->Prop:=λx y H Q=>∃i j,x=.int i/\y=.int j/\Q (.int (i+j)) H
def pX:VU d .Add YU:=by
 rintro pins s c H x y u v Q I b a ⟨i,j,rfl,rfl,q⟩;obtain⟨t,rfl⟩:=(show ∃t,u=E4 i t from b);obtain⟨t',rfl⟩:=(show ∃t',v=E4 j t' from a);exact We (.int (i+j),H,I.tok _,(_,rfl),q)
def z8(A:PE b e v)(I:Inv b pins i H s)(h:v i H λx n=>∃a C p fs g,x=.ref a/\n a=AA (.ins C p fs)/\EO b.K C/\Meth b.K C m g/\fs.lookup m=AB/\
   ∀d,Inv b pins i n d->AM (AU b.prog b.w) b.A (Jh pos (.ref g) [.ref a] (EG pos (BE j b.env)) (Jj pos (Jg [] b.env))) Q b.xe d)(z:eval (.Call (.Attribute e m apos) j [] pos) b.env=(do
   let o <-eval e b.env
   IQ apos.atName
   let (f,first) <-GY [o] (KP o m pl)
   Jh pos f first (EG pos (BE j b.env)) (Jj pos (Jg [] b.env)))):
  AM (AU b.prog b.w) b.A (eval (.Call (.Attribute e m apos) j [] pos) b.env) Q b.xe s:=by
 refine R6 (pl:=pl) (aK (A pins s i H _ I h) λu d t=>?_) z;have(x,n,r,y,a,C,p,fs,g,ex,B,c,k,l,q):=t;subst ex;obtain rfl:u=Bf a:=y;exact lX r B c k l (q d r)
structure DX(k:Nat)(A:Fa):Prop where
 hd:A.handled=AB
 dp:A.depth+3 * k+5<Mr
 un:A.units+16 * k+200<ES
def DX.mono(r:DX k A)(h:j<=k):DX j A:=(r.hd,by have:=r.dp;lia,by have:=r.un;lia)
def DX.deeper(r:DX (k+1) A)(env:Env):DX k (A.deeper env):=
 (r.hd,by have:=r.dp;show A.depth+1+3 * k+5<_;lia,by have:=r.un;show A.units+3+16 * k+200<_;lia)
def wl{A:Fa}:(A.under (.builtin "type.__call__" (.ref C::us,a))).depth=A.depth+1:=by
 first|rfl|simp[SU,Code.weight,Code.isCreation,Code.isGuard,Code.isCaller,Code.frames,SO,guardIds]
def wg{A:Fa}:(A.under (.builtin "type.__call__" (.ref C::us,a))).units=A.units+1:=by
 first|rfl|simp[SU,Code.cUnits,Code.frames,SO]
def DX.make(r:DX (k+1) A)(C:AD)(us:List AI)(a:List (Str×AI)):DX k (A.under (.builtin "type.__call__" (.ref C::us,a))):=
 (r.hd,by have:=r.dp;erw[wl];lia,by have:=r.un;erw[wg];lia)
def DX.depth(r:DX k A):A.depth<Mr:=by have:=r.dp;lia
def DX.units(r:DX k A):A.units+64<ES:=by have:=r.un;lia
def BR:TA:=λ_ H Q=>Q [] H
def Bd(c:TE)(b:TA):TA:=λa H Q=>c a H λx e=>b a e λxs d=>Q (x::xs) d
def aD:PA a [] BR:=λ_ _ _ _ H Q I h=>Kb ([],H,I,.nil,h)
def aA(o:PE a e f)(n:PA a b t)(m:BE (e::b) a.env=(AE AF (eval e a.env))::BE b a.env:=by rfl):PA a (e::b) (Bd f t):=by
 intro pos pins s c H Q I h;erw[m];show AM _ _ (spliced ((AE AF (eval e a.env))::EG pos (BE b a.env))) _ _ s;refine Kc (aK (o pins s c H _ I h) λu g d=>?_);have(x,v,q,j,l):=d;exact aK (n pos pins g c v _ q l) λus y (xs,r,p,i,k)=>(x::xs,r,p,.cons j i,k)
def B6(t:TA):TE:=λb H Q=>t b H λxs a=>xs.length<=Ae/\∀p,a p=AB->Q (.ref p) (upd a p (.tup xs))
def Br(t:TA):TE:=λb H Q=>t b H λxs a=>xs.length<=Ae/\∀p,a p=AB->Q (.ref p) (upd a p (.lst xs))
def fB{g}(h:PA l k t):PE l (.Tuple k g pos) (B6 t):=by
 intro pins s f H Q I i;refine wpAny_Tuple_spliced (aK (h pos pins s f H _ I i) λus a (xs,d,c,r,z,q)=>(by erw[<-r.length];exact z,?_));have j:d a⁻¹=AB:=c.hok.fresh (Au _);refine(.ref a⁻¹,upd d a⁻¹ (.tup xs),c.laid (t':=a.toks) (λb u e=>BQ _ e) (Au _) ?_,rfl,q _ j);exact(z,us,r,(_,Dq _ rfl,rfl,_,rfl))
def af(h:PA k j t):PE k (.List j pos) (Br t):=by
 intro pins s f H Q I g;refine wpAny_List_spliced (aK (h pos pins s f H _ I g) λus a (xs,d,c,r,z,q)=>(by erw[<-r.length];exact z,?_));have i:d a⁻¹=AB:=c.hok.fresh (Au _);refine(.ref a⁻¹,upd d a⁻¹ (.lst xs),c.laid (t':=a.toks) (λb u e=>BQ _ e) (Au _) ?_,rfl,q _ i);exact(z,us,0,r,Dq _ rfl)
abbrev Sp:=List V->Hp->VK->XK->Prop
abbrev LI:=List Env->Hp->AO->XK->AI->AO->Prop
structure J8(P:ET)(w:Do)(K:Ao)(mg:Str->Option AI)(base:BI)(A:Fa)(outer:List Env)(s:AO)(H:Hp):Prop where
 frames:A.frames=AA outer
 mod:Mod K mg base
 bs:∀b o,base.get? b=AA o->s.heap.get? b=AA o/\H b=AB
 IF:base.objs.size<=s⁻¹
 fF:s.heap.FunFrames base outer
 Jw:∀b∈frs outer,H b=AB
 hok:Di P w H s.heap
 bare:Kg s.gens
def CE(outer:List Env)(c:ET)(w:Do)(H:Hp)(s:AO)(Q:VK)(u:AI)(a:AO):Prop:=
 ∃v b,a.os=s.os/\Kg a.gens/\Un (frs outer) [] H b s.heap a.heap/\Di c w b a.heap/\RelV v u/\Q v b
def CR(c:LI)(outer:List Env)(b:ET)(w:Do)(H:Hp)(s:AO)(Q:VK)(E:XK)(r:Result)(a:AO):Prop:=
 match r with
 | .ok (.ret u)=>CE outer b w H s Q u a
 | .ok _=>False
 | .error e=>c outer H s E e a
structure AV(P:ET)(w:Do)(K:Ao)(mg:Str->Option AI)(base:BI)(CX:LI)(k:Nat)(f:AD)(fd:IU)(ps:List Str)(sp:Sp):Prop where
 len:∀vs H Q E,sp vs H Q E->vs.length=ps.length
 run:∀(A:Fa) (outer:List Env) (s:AO) (H:Hp) (args:Args) (us:List AI) (vs:List V) (Q:VK) (E:XK),DX k A->J8 P w K mg base A outer s H->BindsTo s fd args (ps.zip us)->Vals vs us->sp vs H Q E->
  IS (AU P w) A (.call (.ref f) args) (CR CX outer P w H s Q E) s
def AV.mono(a:AV c w d mg base e j f fd ps sp)(h:j<=k):
  AV c w d mg base e k f fd ps sp:=(a.len,λA outer s H args us vs Q E b=>a.run A outer s H args us vs Q E (b.mono h))
def AV.imp{a:Sp}(b:AV j w l mg base m k f fd ps sp)(h:∀vs H Q E,a vs H Q E->sp vs H Q E):AV j w l mg base m k f fd ps a:=
 (λvs H Q E q=>b.len vs H Q E (h _ _ _ _ q),λA outer s H args us vs Q E e g i c d=>b.run A outer s H args us vs Q E e g i c (h _ _ _ _ d))
def J8.make(e:J8 b w c mg base A outer s H)(C:AD)(us:List AI)(a:List (Str×AI)):
  J8 b w c mg base (A.under (.builtin "type.__call__" (.ref C::us,a))) outer s H:=(by first|exact e.frames| (simpa[SU,Code.envs,SO,pushEnvs]using e.frames),e.mod,e.bs,e.IF,e.fF,e.Jw,e.hok,e.bare)
def Inv.qB(I:Inv a pins b H s):J8 a.prog a.w a.K a.mg a.base a.A a.stack s H:=
 (I.ok.frames,I.ok.mod,I.bs,Dj I.ok.IF I.sz,I.stack,I.nI,I.hok,I.bare)
def Inv.after(I:Inv a pins e H s)(h:CE a.stack a.prog a.w H s Q u c):EP a pins e Q u c:=by
 have(v,k,os,bare,un,i,r,q):=h;have(j,g,d,t,f):=c;obtain rfl:f=s.os:=os;exact(v,k,I.call (h':=j) (g':=g) (d':=d) (t':=t) (ch:=[]) un i bare (λb z=>absurd z (by simp)),r,q)
def BX(sp:Sp)(b:List V)(E:XK)(t:TA):TE:=λa H Q=>t a H λvs c=>sp (vs ++ b) c Q E
inductive MB(C:AD)(m:Str)(sp:Sp)(dvs:List V)(E:XK)(t:TA)(σ:St)(Q:VK)(x:V)(H1:Hp):Prop
 |mk:∀a dx fs,(x=.ref a)->(H1 a=AA (.ins C dx fs))->(fs.lookup m=AB)->(t σ H1 λvs H2=>sp (x::(vs ++ dvs)) H2 Q E)->MB C m sp dvs E t σ Q x H1
def Bc(C:AD)(m:Str)(sp:Sp)(c:List V)(E:XK)(b:TE)(t:TA):TE:=λa H Q=>b a H (MB C m sp c E t a Q)
def Bg(C:AD)(sp:Sp)(d:List V)(E:XK)(t:TA):TE:=λc H Q=>t c H λvs b=>∀x a,b x=AB->b a=AB->a≠x->
 sp (.ref x::(vs ++ d)) (upd (upd b a (.own x)) x (.ins C a [])) (λv e=>v=.Al/\Q (.ref x) e) E
def Binds(b:Ao)(fd:IU)(ps:List Str)(a:List AI):Prop:=
 ∀(s:AO) (us:List AI),b.In s.heap->(us ++ a).length=ps.length->BindsTo s fd (us,[]) (ps.zip (us ++ a))
def Binds.all(h:∀us:List AI,us.length=ps.length->LP fd (us,[])=pure (ps.zip us)):Binds b fd ps []:=λs us _ a=>by
 rw[BF]at a|-;exact .of_eq (h us a)
def Passes(d:LI)(a:Cx)(E:XK):Prop:=∀(pins:List (AD×Obj)) (c:St) (H:Hp) (s:AO) (e:AI) (b:AO),Inv a pins c H s->d a.stack H s E e b->a.xe e b
def jD(j:AV a.prog a.w a.K a.mg a.base t k f fd ps sp)(n:DX k a.A)(q:Binds a.K fd ps c)(p:Vals d c)(m:Passes t a E)(I:Inv a pins g H s)(r:Vals vs us)(h:sp (vs ++ d) H Q E):AM (AU a.prog a.w) a.A (call (.ref f) us) (EP a pins g Q) a.xe s:=by
 have i:Vals (vs ++ d) (us ++ c):=r.append p;have o:(us ++ c).length=ps.length:=by erw[<-i.length];exact j.len _ _ _ _ h
 refine wpAny_call (OT (j.run a.A a.stack s H (us,[]) (us ++ c) (vs ++ d) Q E n I.qB (q s us I.du o) i h) λr l b=>?_);cases r with
 |error e=>exact m pins g H s e l I b
 |ok fl=>
  cases fl with
  |ret u=>exact I.after b
  |next=>exact GA b
  |brk=>exact GA b
  |cont=>exact GA b
def t5(C:AV a.prog a.w a.K a.mg a.base D k f fd ps sp)(i:DX k a.A)(n:Gl a x)(l:a.mg x=AA (.ref f))(m:G9 a.K (.ref f)=AC)(y:Binds a.K fd ps B)(v:Vals A B)(g:Passes D a E)(z:PA a (e::b) t)(u:(x==("__debug__":Str))=AF:=by decide)(o:BE (e::b) a.env=(AE AF (eval e a.env))::BE b a.env:=by rfl)(j:(EG pos (BE b a.env)).any (·.1)=AF:=by rfl):
  PE a (.Call (.Name x p) (e::b) [] pos) (BX sp A E t):=by
 intro pins s d H Q I h;refine G8 (gT I n l ?_ u);refine OZ (h₀:=a.base) I.ok.mod.Kz m (aK (z pos pins s d H _ I h) λus G (vs,J,c,r,q)=>(c.du,?_)) o j;exact jD C i y v g c r q
def tU(N:PE b o y)(c:EO b.K C)(j:Meth b.K C m f)(av:AV b.prog b.w b.K b.mg b.base a0 k f fd ps sp)(L:DX k b.A)(T:Binds b.K fd ps aj)(O:Vals ab aj)(D:Passes a0 b E)(U:PA b (e::d) t)(J:BE (e::d) b.env=(AE AF (eval e b.env))::BE d b.env:=by rfl)(M:(EG pos (BE d b.env)).any (·.1)=AF:=by rfl)(G:eval (.Call (.Attribute o m apos) (e::d) [] pos) b.env=(do
   let i <-eval o b.env
   IQ apos.atName
   let (f,first) <-GY [i] (KP i m pl)
   Jh pos f first (EG pos (BE (e::d) b.env)) (Jj pos (Jg [] b.env))):=by rfl):
  PE b (.Call (.Attribute o m apos) (e::d) [] pos) (Bc C m sp ab E y t):=by
 intro pins s g H Q I h;refine R6 (pl:=pl) (aK (N pins s g H _ I h) λu z v=>?_) G;have(x,an,p,A,a,a2,fs,ex,Y,l,q):=v;subst ex;obtain rfl:u=Bf a:=A;refine lX p Y c j l ?_;refine OZ (first:=[.ref a]) (h₀:=b.base) I.ok.mod.Kz j.kp (aK (U pos pins z g an _ p q) λus a1 (vs,a3,n,r,B)=>(n.du,?_)) J M;exact jD (us:=.ref a::us) (vs:=.ref a::vs) av L T O D n (.cons rfl r) B
def tT(y:PE b o n)(c:EO b.K C)(g:Meth b.K C m f)(J:AV b.prog b.w b.K b.mg b.base L k f fd ps sp)(v:DX k b.A)(A:Binds b.K fd ps G)(z:Vals D G)(r:Passes L b E)(t:eval (.Call (.Attribute o m apos) [] [] pos) b.env=(do
   let e <-eval o b.env
   IQ apos.atName
   let (f,first) <-GY [e] (KP e m pl)
   Jh pos f first (EG pos (BE [] b.env)) (Jj pos (Jg [] b.env))):=by rfl):
  PE b (.Call (.Attribute o m apos) [] [] pos) (Bc C m sp D E n BR):=by
 intro pins s i H Q I h;refine R6 (pl:=pl) (aK (y pins s i H _ I h) λu M j=>?_) t;have(x,O,d,p,a,N,fs,ex,B,l,q):=j;subst ex;obtain rfl:u=Bf a:=p;refine lX d B c g l ?_;exact V5 (first:=[.ref a]) d.du g.kp (jD (us:=[.ref a]) (vs:=[.ref a]) J v A z r d (.cons rfl .nil) q)
structure Mk(K:Ao)(C f:AD):Prop where
 makes:R7 K C=AC
 init:HA K (.ref C) "__init__"=AA (AA (.ref f))
 fn:Mu K (.ref f)=AC
 kp:G9 K (.ref C)=AC
def nU{Q:VK}(M:Mk a.K C f)(n:AV a.prog a.w a.K a.mg a.base N k f fd ps sp)(y:DX (k+1) a.A)(B:Binds a.K fd ps d)(A:Vals m d)(t:Passes N a E)(I:Inv a pins i H s)(r:Vals vs us)(h:∀x c,H x=AB->H c=AB->c≠x->sp (.ref x::(vs ++ m)) (upd (upd H c (.own x)) x (.ins C c [])) (λv J=>v=.Al/\Q (.ref x) J) E):
  AM (AU a.prog a.w) a.A (call (.ref C) us) (EP a pins i Q) a.xe s:=by
 have l:=h (s⁻¹+1) s⁻¹ (I.hok.fresh (Ox _)) (I.hok.fresh (Au _)) (DU (M4 _));have g:=Inv.made (C:=C) I;have j:Vals (V.ref (s⁻¹+1)::(vs ++ m)) (Bf (s⁻¹+1)::(us ++ d)):=.cons rfl (r.append A);have z:(Bf (s⁻¹+1)::us ++ d).length=ps.length:=by
  have e:=j.length;rw[n.len _ _ _ _ l]at e;exact e.symm
 refine wpAny_call (wj (f:=f) I.du M.makes M.init (Hb.mp M.fn) (OT (n.run _ a.stack _ _ (Bf (s⁻¹+1)::us,[]) (Bf (s⁻¹+1)::(us ++ d)) _ _ E (y.make C us [])
  (g.qB.make C us []) (B _ (Bf (s⁻¹+1)::us) g.du z) j l) λr o b=>?_));cases r with
 |error e=>exact t pins i _ _ e o g b
 |ok fl=>
  cases fl with
  |ret u=>
   have(v,L,G,p,D,q):=g.after b;subst D;exact(p,(V.ref (s⁻¹+1),L,G,rfl,q))
  |next=>exact GA b
  |brk=>exact GA b
  |cont=>exact GA b
def tX(M:Mk a.K C f)(B:AV a.prog a.w a.K a.mg a.base D k f fd ps sp)(i:DX (k+1) a.A)(m:Gl a x)(l:a.mg x=AA (.ref C))(v:Binds a.K fd ps A)(u:Vals z A)(g:Passes D a E)(y:PA a (e::b) t)(o:(x==("__debug__":Str))=AF:=by decide)(n:BE (e::b) a.env=(AE AF (eval e a.env))::BE b a.env:=by rfl)(j:(EG pos (BE b a.env)).any (·.1)=AF:=by rfl):
  PE a (.Call (.Name x p) (e::b) [] pos) (Bg C sp z E t):=by
 intro pins s d H Q I h;refine G8 (gT I m l ?_ o);refine OZ (h₀:=a.base) I.ok.mod.Kz M.kp (aK (y pos pins s d H _ I h) λus G (vs,J,c,r,q)=>(c.du,?_)) n j;exact nU M B i v u g c r q
def tW(M:Mk a.K C f)(n:AV a.prog a.w a.K a.mg a.base o k f fd ps sp)(c:DX (k+1) a.A)(e:Gl a x)(d:a.mg x=AA (.ref C))(j:Binds a.K fd ps m)(i:Vals l m)(b:Passes o a E)(g:(x==("__debug__":Str))=AF:=by decide):PE a (.Call (.Name x p) [] [] pos) (Bg C sp l E BR):=by
 intro pins s q H Q I h;refine G8 (gT I e d ?_ g);exact V5 I.du M.kp (nU (us:=[]) M n c j i b I .nil h)
structure J7(N P:List Str)(sc:Fz):Prop where
 kind:sc.kind=.function
 co:sc.isCoroutine=AF
 gen:sc.isGenerator=AF
 nd:N.Nodup
 pre:N.take P.length=P
 par:∀x∈P,sc.names.lookup x=AA .local\/sc.names.lookup x=AA .cell
 YW:∀y∈sc.names,y.2≠.free
def qo:∀{binds:List (Str×AI)} {m:Str->Option AI},(∀v,(AE x v)∉binds)->bindL a binds m x=m x
 | [],_,_=>rfl
 | (n,v)::r,m,h=>by
  unfold bindL;erw[qo λw hw=>h w (Eb _ hw)];split;have:x≠n:=by rintro rfl;exact h v FK
  simp[this];rfl
def qr:∀{binds:List (Str×AI)} {m:Str->Option AI},(∀v,(AE x v)∉binds)->bindC a binds m x=m x
 | [],_,_=>rfl
 | (n,v)::r,m,h=>by
  unfold bindC;erw[qr λw hw=>h w (Eb _ hw)];split;rfl;have:x≠n:=by rintro rfl;exact h v FK
  simp[this]
def qp{kindOf:Str->Option GZ}:∀{P:List Str} {vs:List AI} {i:Nat} {m:Str->Option AI},P.Nodup->P[i]? =AA x->vs[i]? =AA v->kindOf x=AA .local->
  bindL kindOf (P.zip vs) m x=AA v
 | [],_,_,_,_,h,_,_=>by simp at h
 | _::_,[],_,_,_,_,h,_=>by simp at h
 |p::P,w::vs,0,m,c,b,a,d=>by
  simp at b a;subst b;subst a;show bindL kindOf ((AE p w)::P.zip vs) m p=_;unfold bindL;erw[qo λv e=>(Gm.mp c).1 (M7 e).1,AJ d];simp
 |p::P,w::vs,i+1,m,c,b,a,d=>by
  show bindL kindOf ((AE p w)::P.zip vs) m x=_;unfold bindL;exact qp (i:=i) (Gm.mp c).2 (by simpa using b) (by simpa using a) d
def qt{kindOf:Str->Option GZ}:∀{P:List Str} {vs:List AI} {i:Nat} {m:Str->Option AI},P.Nodup->P[i]? =AA x->vs[i]? =AA v->kindOf x≠AA .local->
  bindC kindOf (P.zip vs) m x=AA v
 | [],_,_,_,_,h,_,_=>by simp at h
 | _::_,[],_,_,_,_,h,_=>by simp at h
 |p::P,w::vs,0,m,c,b,a,d=>by
  simp at b a;subst b;subst a;show bindC kindOf ((AE p w)::P.zip vs) m p=_;unfold bindC;erw[qr λv e=>(Gm.mp c).1 (M7 e).1,AK d];simp
 |p::P,w::vs,i+1,m,c,b,a,d=>by
  show bindC kindOf ((AE p w)::P.zip vs) m x=_;unfold bindC;exact qt (i:=i) (Gm.mp c).2 (by simpa using b) (by simpa using a) d
@[inline]def start(N:List Str)(vs:List V):St:=vs.map AA ++ Ay (N.length - vs.length) AB
def IC(g:LI)(P:ET)(w:Do)(K:Ao)(mg:Str->Option AI)(base:BI)(N:List Str)(b:Str)(a:Fz)(f:AD)(c:AI)(A:Fa)(outer:List Env)(s:AO)(H:Hp)(E:XK):Cx where
 prog:=P
 w:=w
 K:=K
 mg:=mg
 base:=base
 A:=A.deeper (Hj b a s⁻¹ f c)
 N:=N
 Es:=s
 J6:=H
 env:=Hj b a s⁻¹ f c
 outer:=outer
 stack:=Hj b a s⁻¹ f c::outer
 ex:=[]
 calm:=AC
 fn:=λ_=>AC
 pn:=[]
 xe:=λe h=>AM (AU P w) (A.deeper (Hj b a s⁻¹ f c)) (leaving (Hj b a s⁻¹ f c) e) (λ_ d=>g outer H s E e d) (λi d=>g outer H s E i d) h
instance A0F {c:LI} {P:ET} {w:Do} {K:Ao} {mg:Str->Option AI} {base:BI} {N:List Str} {q:Str} {a:Fz} {f:AD} {b:AI} {A:Fa} {o:List Env} {s:AO} {H:Hp} {E:XK}:Gz (IC c P w K mg base N q a f b A o s H E) K:=⟨rfl⟩
def qf{a:Fz}(h:a.names.lookup x=AA .cell):∃c,(En n a.names []).lookup x=AA c:=by
 have q:=V4 a.names n [] (.inl h);exact HB.mp q
def xW(m:J7 N ps j)(U:A.handled=AB)(g:J8 M w O mg base A outer s H)(an:vs.length=ps.length)(r:Vals vs us)(x:InCallC s s⁻¹ (bindL (Hj C j s⁻¹ f G).kindOf (ps.zip us) λ_=>AB) (En (s⁻¹+1) j.names []) (bindC (Hj C j s⁻¹ f G).kindOf (ps.zip us) λ_=>AB) Q):
  Inv (IC ab M w O mg base N C j f G A outer s H E) [] (start N vs) H Q:=by
 have aj:ps.length<=N.length:=by have:=congrArg List.length m.pre;rw[FQ]at this;lia
 obtain⟨B,tk,rfl,L⟩:=x.done;have D:∀b:AD,b∉(IC ab M w O mg base N C j f G A outer s H E).ex:=λb z=>absurd (show b∈([]:List AD) from z) (by simp);refine((g.mod,m.kind,rfl,rfl,Au _,λy z c B d=>?_,λy l=>?_,λy c _ h=>?_,λ_=>U,Around.frames_deeper g.frames,.inr (rfl,rfl),λb z=>absurd z (D b),g.bs,g.IF,λb _ _=>D b,λb z=>absurd z (D b),g.fF,g.Jw),
  rfl,g.bare,Un.kept L,(_,x.toInCall.ns,λi y v B d av=>?_),λy c h=>(_,x.cell y c h),g.hok.fresh (Au _),λy c h=>?_,λp o=>absurd (show p∈([]:List (AD×Obj)) from o) (by simp),g.hok.kept L,?_);exact name_of_addr x.apart (Fy B) (Fy d);have l:j.names.lookup y=AA .cell\/j.names.lookup y=AA .free:=l;rcases l with l|l;exact qf l;exact absurd rfl (m.YW _ (Fy l));exact O0 (x.above y c (Fy h));have t:i<vs.length:=by
  unfold start at d;by_cases t:i<vs.length;exact t;rw[F8 (by simpa using t)]at d;rw[ND]at d;split at d<;>cases d
 have Y:vs[i]? =AA v:=by
  unfold start at d;rw[F9 (by simpa using t),BC]at d;cases e:vs[i]? with
  |none=>rw[e]at d;cases d
  |some a=>rw[e]at d;cases d;rfl
 have(u,J,T):=r.get Y;have o:ps[i]? =AA y:=by
  erw[<-m.pre,List.getElem?_take_of_lt ()];exact B
 have I:ps.Nodup:=by erw[<-m.pre];exact m.nd.sublist (List.take_sublist _ _)
 refine(u,T,?_);rcases m.par y (Ar o)with k|k;exact .inl (k,qp I o J k);have(c,e):=qf (n:=s⁻¹+1) k;refine .inr (.inl k,c,e,?_);have q:=x.cell y c e;rw[qt I o J (by show j.names.lookup y≠_;erw[k];decide)]at q;exact q;exact g.hok.fresh (O0 (x.above y c (Fy h)));unfold start;show _=N.length;erw[BZ,AL,NB];lia
def pz{sp:Sp}(Y:j.lookup f=AA (b2,b1,.func (Jm U g T body a bm aj doc pm bs i ct),b0))(a5:OY j i g=AC)(m:J7 N ps a)(L:∀vs H Q E,sp vs H Q E->vs.length=ps.length)(a6:∀(A:Fa) (outer:List Env) (s:AO) (H:Hp) (vs:List V) (Q:VK) (E:XK),DX k (A.deeper (Hj g a s⁻¹ f i))->sp vs H Q E->
   ∃t,Fw (IC G z w j mg base N g a f i A outer s H E) body t/\t {nx:=λ_ d=>Q .Al d,rt:=Q} (start N vs) H):
  AV z w j mg base G (k+1) f (Jm U g T body a bm aj doc pm bs i ct) ps sp:=by
 refine(L,λA outer s H args us vs Q E D l bl r M=>?_);have a2:=L _ _ _ _ M;have O:j.In s.heap:=l.mod.Kz.keeps λb o e=>(l.bs b o e).1;have ab:s.heap.NoLimit:=l.mod.nolimit.keeps λb o e=>(l.bs b o e).1;have a3:∀y∈ps.zip us,a.names.lookup y.1=AA .local\/(a.names.lookup y.1=AA .cell/\((En (s⁻¹+1) a.names []).lookup y.1).isSome=AC):=λ(n,v) av=>by
  rcases m.par n (M7 av).1 with q|q;exact .inl q;exact .inr (q,V4 _ _ _ (.inl q))
 refine codeAny_call_function D.depth (O _ _ Y) rfl m.co m.gen rfl (PySem.W.codeRec_of O a5) (bl _ _ _ _ ?_);refine wpAny_newFunctionEnv_cells m.kind a3 λenv a4 J x=>?_;subst a4;refine(ab.keeps x.toInCall.keep,codeAny_func ?_);have(t,a0,a1):=a6 A outer s H vs Q E (D.deeper _) M;have I:Inv (IC G z w j mg base N g a f i A outer s H E) [] (start N vs) H J:=xW m D.hd l a2 r x;refine Gi (a0 [] J (start N vs) H _ I a1) (λfl B h=>?_) λe B h=>h;have fin:∀{p:St} {d:Hp} {v:V} {u:AI},Inv (IC G z w j mg base N g a f i A outer s H E) [] p d B->RelV v u->Q v d->CE outer z w H s Q u B:=
  λ{p d v u} c C q=>(v,d,c.os,c.bare,c.base,c.hok,C,q);cases fl with
 |ret u=>
  have(v,p,d,c,C,q):=h;exact fin c C q
 |next=>
  have(p,d,c,q):=h;exact fin (v:=V.Al) (u:=Hf) c rfl q
 |brk=>
  have(_,_,_,q):=h;exact GA q
 |cont=>
  have(_,_,_,q):=h;exact GA q
def Bt(r:List V->Hp->VK->Prop)(t:TA):TE:=λa H Q=>t a H λvs b=>r vs b Q
def bD(u:Fk a (.builtin i) r)(n:Gl a x)(m:a.mg x=AB)(j:Fm x=AA (.builtin i))(v:PA a (e::b) t)(l:x≠"__name__":=by decide)(q:(x==("__debug__":Str))=AF:=by decide)(o:BE (e::b) a.env=(AE AF (eval e a.env))::BE b a.env:=by rfl)(k:(EG pos (BE b a.env)).any (·.1)=AF:=by rfl):PE a (.Call (.Name x p) (e::b) [] pos) (Bt r t):=by
 intro pins s c H Q I h;refine G8 (eK I n m j ?_ l q);exact PyProof.Rows.callWith_builtin1 (aK (v pos pins s c H _ I h) λus d (vs,z,y,f,g)=>u pins d c z vs us Q y f g) o k
def oQ(q:Fk a (.type T) r)(m:Gl a x)(l:a.mg x=AB)(i:Fm x=AA (.type T))(u:PA a (e::b) t)(k:x≠"__name__":=by decide)(o:(x==("__debug__":Str))=AF:=by decide)(n:BE (e::b) a.env=(AE AF (eval e a.env))::BE b a.env:=by rfl)(j:(EG pos (BE b a.env)).any (·.1)=AF:=by rfl):PE a (.Call (.Name x p) (e::b) [] pos) (Bt r t):=by
 intro pins s c H Q I h;refine G8 (eK I m l i ?_ k o);exact Hk (aK (u pos pins s c H _ I h) λus d (vs,y,v,f,g)=>q pins d c y vs us Q v f g) n j
end L2
namespace HT
open PySem PyProof.Rows
def EV(n d:Nat):Option Int->Nat
 |none=>d
 |some v=>if v<0 then(v+ (n:Int)).toNat else min v.toNat n
end HT
namespace L2
open PySem PySem.Spec PyProof.Rows
abbrev TO:=St->Hp->(Option Int->Hp->Prop)->Prop
def PO(a:Cx)(e:Option EU)(t:TO):Prop:=
 ∀(pins:List (AD×Obj)) (s:AO) (b:St) (H:Hp) (Q:Option Int->Hp->Prop),Inv a pins b H s->t b H Q->
  AM (AU a.prog a.w) a.A (evalPart e a.env) (λu d=>∃o c,Inv a pins b c d/\IsPart u o/\Q o c) a.xe s
def Pe:TO:=λ_ H Q=>Q AB H
def Pc(t:TE):TO:=λa H Q=>t a H λx b=>∃i,x=.int i/\Q (AA i) b
def oE:PO b AB Pe:=by
 intro pins s a H Q I h;erw[evalPart_none];exact BM (AB,H,I,.none,h)
def jK(h:PE g e c):PO g (AA e) (Pc c):=by
 intro pins s a H Q I hw;erw[evalPart_some];refine aK (h pins s a H _ I hw) λu l b=>?_;have(x,k,j,d,f):=b;obtain⟨i,rfl,q⟩:=f;obtain⟨t,rfl⟩:=d;exact(AA i,k,j,.int i t,q)
def VN(a:Cx)(r:V->Option Int->Option Int->Hp->VK->Prop):Prop:=
 ∀(pins:List (AD×Obj)) (s:AO) (b:St) (H:Hp) (x:V) (v d c:AI) (lo f:Option Int) (e:AD) (Q:VK),Inv a pins b H s->RelV x v->s.heap.IsSliceOf e d c .none->IsPart d lo->IsPart c f->r x lo f H Q->
  ∃T id,Mq (.type T) "__getitem__"=pure (AA (.builtin id))/\s.TypeIs v T/\AM (AU a.prog a.w) a.A (LN v (.ref e)) (EP a pins b Q) a.xe s
def Pb(r:V->Option Int->Option Int->Hp->VK->Prop)(d:TE)(b c:TO):TE:=λa H Q=>d a H λx g=>b a g λl f=>c a f λu e=>r x l u e Q
def kY(L:VN c r)(O:PE c e p)(M:PO c j n)(G:PO c k o):PE c (.Subscript e (.Slice j k AB E) pos) (Pb r p n o):=by
 intro pins s d H Q I h;refine Oq (aK (O pins s d H _ I h) λv y i=>?_);have(x,a0,an,z,C):=i;refine wpAny_Slice (aK (M pins y d a0 _ an C) λg t (l,av,aj,pl,B)=>aK (G pins t d av _ aj B) λf a i=>?_);have(u,m,ab,D,A):=i;erw[evalPart_none];refine BM ?_;have Y:Inv c pins d m {a with heap:=a.heap.push {cls:=.type "slice",data:=.fields #[g,f,.none]}}:=ab.kept (t':=a.toks) λb a1 q=>BQ _ q;have(T,id,U,J,N):=L pins {a with heap:=a.heap.push {cls:=.type "slice",data:=.fields #[g,f,.none]}} d m x v g f l u a⁻¹ Q Y z (Heap.IsSliceOf.new ..) pl D A;show AM (AU c.prog c.w) c.A (SV e (.Slice j k AB E) v (.ref a⁻¹)) (EP c pins d Q) c.xe {a with heap:=a.heap.push {cls:=.type "slice",data:=.fields #[g,f,.none]}};exact tail_any (ops:=[.ref a⁻¹,v]) J U N (by with_unfolding_all rfl)
def Ih(xs:List V)(lo a:Option Int):List V:=(xs.drop (HT.EV xs.length 0 lo)).take (HT.EV xs.length xs.length a - HT.EV xs.length 0 lo)
def yY(xs:List V)(lo a:Option Int):(Ih xs lo a).length<=xs.length:=by
 unfold Ih;erw[FQ,Fs];lia
def Gb(n:Nat)(i:Int):Option Nat:=if 0<=i then(if i<n then AA i.toNat else AB)else if -(n:Int)<=i then AA (i+n).toNat else AB
def FE{a:Type}(xs:List a)(i:Int):Option a:=(Gb xs.length i).bind λj=>xs[j]?
def pR(h:Gb n i=AA j):seqIndex? i n=AA j/\j<n/\ -(n:Int)<=i/\i<n:=by
 unfold Gb at h;by_cases b:0<=i;rw[AJ b]at h;by_cases a:i<n;rw[AJ a]at h;have e:i.toNat=j:=Ap h;exact(by erw[seqIndex_of b a,e],by lia,by lia,a);rw[AK a]at h;cases h;rw[AK b]at h;by_cases a: -(n:Int)<=i;rw[AJ a]at h;have e:(i+n).toNat=j:=Ap h;exact(by erw[seqIndex_neg () a,e],by lia,a,by lia);rw[AK a]at h;cases h
def qy{a:Type}{xs:List a}{i:Int}{v:a}(h:FE xs i=AA v):∃j,seqIndex? i xs.length=AA j/\xs[j]? =AA v/\j<xs.length/\ -(xs.length:Int)<=i/\i<xs.length:=by
 unfold FE at h;cases e:Gb xs.length i with
 |none=>rw[e]at h;cases h
 |some j=>
  rw[e]at h;have(f,d,c,b):=pR e;exact(j,f,h,d,c,b)
def zI{a:Type}{xs:List a}{j:Nat}{v:a}(h:xs[j]? =AA v):FE xs (j:Int)=AA v:=by
 have b:j<xs.length:=(AY.mp h).1;have e:Gb xs.length (j:Int)=AA j:=by
  unfold Gb;erw[AJ (),AJ ()];simp
 unfold FE;erw[e];exact h
def gJ{a:Type}(xs:List a)(v:a):FE (xs ++ [v]) (-1)=AA v:=by
 have b:(xs ++ [v]).length=xs.length+1:=by simp
 have e:Gb (xs ++ [v]).length (-1)=AA xs.length:=by
  unfold Gb;erw[b,AK (by decide),AJ ()]
  congr 1
  lia
 unfold FE;erw[e];show (xs ++ [v])[xs.length]? =AA v;simp
def ZW(b:EU):Prop:=∀o i,OP b AF o i=operate [o,i] (LN o i)
def OC(a:Cx)(r:R2):Prop:=
 ∀(value slice:EU) (pins:List (AD×Obj)) (s:AO) (b:St) (H:Hp) (x y:V) (v u:AI) (Q:VK),Inv a pins b H s->RelV x v->RelV y u->r x y H Q->
  OP slice AF v u=operate [v,u] (LN v u)->AM (AU a.prog a.w) a.A (SV value slice v u) (EP a pins b Q) a.xe s
def Ze(a:Cx)(c:String)(r:V->List V->Hp->VK->Prop):Prop:=
 ∀(pins:List (AD×Obj)) (s:AO) (b:St) (H:Hp) (x:V) (xs:List V) (v:AI) (us:List AI) (Q:VK),Inv a pins b H s->RelV x v->Vals xs us->r x xs H Q->
  AM (AU a.prog a.w) a.A (call (.builtin c) (v::us)) (EP a pins b Q) a.xe s
def aJ(l:OC c r)(n:PE c a f)(m:PE c b e)(k:ZW b:=by exact λ_ _=>rfl):PE c (.Subscript a b pos) (BU r f e):=by
 intro pins s d H Q I h;exact Oq (mE n m I h λv u g x y p o j i q=>l a b pins g d p x y v u Q o j i q (k _ _))
def YQ(a:Ao):R2:=λx y H Q=>∃p xs i v,x=.ref p/\y=.int i/\AN a H p xs/\FE xs i=AA v/\Q v H
def YO(a:Ao):R2:=λx y H Q=>∃p xs i v,x=.ref p/\y=.int i/\BB a H p xs/\FE xs i=AA v/\Q v H
def je:OC c (YQ c.K):=by
 intro value slice pins s d H x y v u Q I m l h e;obtain⟨p,xs,i,z,rfl,rfl,o,B,q⟩:=h;cases m;obtain⟨t,rfl⟩:=l;have(its,r,pl,G):=I.list o;have(j,a,E,L,D,C):=qy B;have(w,g,n):=r.get E;have A:=r.length;have J:=iR;have fin:EP c pins d Q w s:=(z,H,I,n,q);by_cases f:0<=i;have b:i.toNat=j:=by
  rw[seqIndex_of f C]at a;exact Ap a
 exact item_listR pl.isList f () (by erw[b];simpa using g) fin e;have b:(i+ (its.toArray.size:Int)).toNat=j:=by
  rw[seqIndex_neg () D]at a;erw[Dk,<-A];exact Ap a
 exact Wd (x:=w) pl.isList.typeIs slot_list_getitem.lookup
  (wpAny_getItem_list_neg (Q:=λr k=>r=w/\EP c pins d Q r k) pl.isList () (by erw[Dk]<;>lia) () (by erw[b];simpa using g) (rfl,fin)) e
def gU:OC a (YO a.K):=by
 intro value slice pins s b H x y v u Q I e d h g;obtain⟨p,xs,i,z,rfl,rfl,k,m,q⟩:=h;cases e;obtain⟨t,rfl⟩:=d;have(its,r,pl,B):=I.tuple k;have(j,o,n,G,E,D):=qy m;have(w,A,f):=r.get n;have l:=r.length;have C:=iR;have fin:EP a pins b Q w s:=(z,H,I,f,q);exact Wd (x:=w) pl.typeIs slot_tuple_getitem.lookup
  (getItem_tuple (j:=j) (Q:=λr c=>r=w/\EP a pins b Q r c) pl () () (by erw[Dk,<-l];exact o) (by simpa using A) (rfl,fin)) g
def wf(its:List AI)(n j:Nat)(u:AI):KZ (·.setIfInBounds j u) {cls:=.type "list",data:=.seq its.toArray n}={cls:=.type "list",data:=.seq (its.set j u).toArray n}:=by
 simp[KZ]
def Inv.lst(I:Inv b pins a H s)(h:H p=AA (.lst xs)):
  ∃(its:List AI) (n:Nat),Vals xs its/\s.heap.get? p=AA {cls:=.type "list",data:=.seq its.toArray n}/\xs.length<=Ae:=by
 have(z,its,n,r,e):=I.hok p _ h;exact(its,n,r,e,z)
def Inv.wm{its:List AI}(I:Inv k pins d H s)(h:H p=AA (.lst xs))(i:s.heap.get? p=AA {cls:=.type "list",data:=.seq its.toArray n})(c:f {cls:=.type "list",data:=.seq its.toArray n}={cls:=.type "list",data:=.seq its'.toArray a})(r:Vals ys its')(g:ys.length<=Ae)(t:Nat):
  Inv k pins d (upd H p (.lst ys)) {s with heap:=s.heap.update p f,toks:=t}:=by
 have e:(s.heap.update p f).get? p=AA {cls:=.type "list",data:=.seq its'.toArray a}:=by
  erw[SI f i (by erw[c]<;>rfl),c]
 refine I.write (x:=p) (e:=p) (by erw[h];trivial) (.inl rfl) (λb u j q=>(SJ _ _ (Fp j)).trans q) (_,e) ?_;exact(g,its',a,r,e)
def Cv:V->V->V->Hp->(Hp->Prop)->Prop:=λo i v H Q=>∃p xs k j,o=.ref p/\i=.int k/\H p=AA (.lst xs)/\Gb xs.length k=AA j/\Q (upd H p (.lst (xs.set j v)))
def set_list:VR D Cv:=by
 intro pins s x H o i v E G u Q I z A y h;obtain⟨p,xs,k,j,rfl,rfl,e,C,q⟩:=h;cases z;obtain⟨t,rfl⟩:=A;have(its,n,r,b,B):=I.lst e;have(a,L,g,f):=pR C;have c:=r.length;have J:=iR;have m:Inv D pins x (upd H p (.lst (xs.set j v))) {s with heap:=s.heap.update p (KZ (·.setIfInBounds j u))}:=
  I.wm e b (wf its n j u) (r.set y j) (by erw[F7];exact B) s.toks;by_cases l:0<=k;have d:k.toNat=j:=by
  rw[seqIndex_of l f]at a;exact Ap a
 exact PySem.W.ki_setAt b l () (by erw[Dk,<-c];exact f) (by erw[d];exact(_,m,q));have d:(k+ (its.toArray.size:Int)).toNat=j:=by
  rw[seqIndex_neg () g]at a;erw[Dk,<-c];exact Ap a
 exact PySem.W.ki_setBack b () (by erw[Dk,<-c];exact g) () (by erw[d];exact(_,m,q))
def sO(lo a:Option Int)(n:Nat):(KN lo a AB n).1=((HT.EV n 0 lo:Nat):Int)/\(KN lo a AB n).2.1=((HT.EV n n a:Nat):Int)/\(KN lo a AB n).2.2=1:=by
 refine(?_,?_,rfl);cases lo with
 |none=>simp[KN,HT.EV]
 |some i=>
  simp only[KN,HT.EV,Sa,show (1:Int)>0 by decide,BP];by_cases h:i<0;simp only[h,BP]<;>lia;simp only[h,BY]<;>lia
 cases a with
 |none=>simp[KN,HT.EV]
 |some i=>
  simp only[KN,HT.EV,Sa,show (1:Int)>0 by decide,BP];by_cases h:i<0;simp only[h,BP]<;>lia;simp only[h,BY]<;>lia
def sP(its:List AI)(lo a:Option Int):slicePick its.toArray lo a AB=((its.drop (HT.EV its.length 0 lo)).take (HT.EV its.length its.length a - HT.EV its.length 0 lo)).toArray:=by
 have(d,c,b):=sO lo a its.toArray.size;unfold slicePick;erw[d,c,b];simp only[sliceRange_one,pick_run,Dk]<;>rfl
def QW(c:Ao):V->Option Int->Option Int->Hp->VK->Prop:=λx lo b H Q=>∃a xs,x=.ref a/\AN c H a xs/\∀p,H p=AB->Q (.ref p) (upd H p (.lst (Ih xs lo b)))
def kA:VN l (QW l.K):=by
 intro pins s m H x v p n lo c t Q I e j pl f h;obtain⟨a,xs,rfl,i,q⟩:=h;cases e;have(its,r,d,g):=I.list i;have k:=r.length;refine("list",_,slot_list_getitem.lookup,d.isList.typeIs,?_);refine wpAny_getItem_list_slice d.isList j pl f .none (by simp) ?_ (by erw[Dk]<;>lia);erw[sP,<-k];refine(.ref s⁻¹,_,I.laid (t':=s.toks) (o:=.lst (Ih xs lo c)) (λb u q=>BQ _ q) (Au _) ?_,rfl,q _ (I.hok.fresh (Au _)));exact(Dj (yY xs lo c) g,_,0,(r.drop (HT.EV xs.length 0 lo)).take (HT.EV xs.length xs.length c - HT.EV xs.length 0 lo),Dq _ rfl)
def Ic:V->Bool
 | .Al=>AC
 | .bl _=>AC
 | .int _=>AC
 | .str _=>AC
 | _=>AF
def JM:V->V->Bool
 | .Al,.Al=>AC
 | .bl a,.bl b=>a==b
 | .bl a,.int b=>(if a then 1 else 0)==b
 | .int a,.bl b=>a==(if b then 1 else 0)
 | .int a,.int b=>a==b
 | .str a,.str b=>a==b
 | _,_=>AF
def xy(d:RelV y u)(c:RelV x v)(f:Ic y=AC)(e:Ic x=AC):Ob A s u v (JM y x):=by
 cases y with
 |Al=>
  cases d;cases x with
  |Al=>cases c;exact V9 _
  |bl b=>cases c;exact SeqAt.EqAt.none_bool b
  |int b=>obtain⟨t,rfl⟩:=c;exact WC b t
  |str b=>obtain⟨t,rfl⟩:=c;exact WB b t
  | _=>exact absurd (show AF=AC from e) Dl
 |bl a=>
  cases d;cases x with
  |Al=>cases c;exact SeqAt.EqAt.bool_none a
  |bl b=>cases c;exact SeqAt.EqAt.bool_bool a b
  |int b=>obtain⟨t,rfl⟩:=c;exact SeqAt.EqAt.bool_int a b t
  |str b=>obtain⟨t,rfl⟩:=c;exact SeqAt.EqAt.bool_str a b t
  | _=>exact absurd (show AF=AC from e) Dl
 |int a=>
  obtain⟨t',rfl⟩:=d;cases x with
  |Al=>cases c;exact WE a t'
  |bl b=>cases c;exact SeqAt.EqAt.int_bool a t' b
  |int b=>obtain⟨t,rfl⟩:=c;exact SeqAt.EqAt.int_int a t' b t
  |str b=>obtain⟨t,rfl⟩:=c;exact WD a t' b t
  | _=>exact absurd (show AF=AC from e) Dl
 |str a=>
  obtain⟨t',rfl⟩:=d;cases x with
  |Al=>cases c;exact V7 a t'
  |bl b=>cases c;exact SeqAt.EqAt.str_bool a t' b
  |int b=>obtain⟨t,rfl⟩:=c;exact V8 a t' b t
  |str b=>obtain⟨t,rfl⟩:=c;exact SeqAt.EqAt.str_str a t' b t
  | _=>exact absurd (show AF=AC from e) Dl
 | _=>exact absurd (show AF=AC from f) Dl
def Ie(x:V)(u:AI):Bool:=match u with
 | .none=>JM .Al x
 | .bool b=>JM (.bl b) x
 | .int i _=>JM (.int i) x
 | .str z _=>JM (.str z) x
 | _=>AF
def qA(r:RelV y u)(f:Ic y=AC):Ie x u=JM y x:=by
 cases y with
 |Al=>cases r;rfl
 |bl b=>cases r;rfl
 |int i=>obtain⟨t,rfl⟩:=r;rfl
 |str z=>obtain⟨t,rfl⟩:=r;rfl
 | _=>exact absurd (show AF=AC from f) Dl
def mJ:∀{xs:List V} {us:List AI},Vals xs us->xs.all Ic=AC->us.any (Ie x)=xs.any λy=>JM y x
 | _,_,.nil,_=>rfl
 |y::xs,u::us,.cons r t,f=>by
  rw[IY,DN]at f;erw[IX,IX,qA r f.1,mJ t f.2]
def k8(b:RelV x v)(c:Ic x=AC):∀{xs:List V} {us:List AI},Vals xs us->xs.all Ic=AC->∀u∈us,Ob A s u v (Ie x u)
 | _,_,.nil,_=>λu a=>by cases a
 |y::xs,u::us,.cons r t,f=>λd a=>by
  rw[IY,DN]at f;rcases Aj.mp a with rfl|a;erw[qA r f.1];exact xy r b f.1 c;exact k8 b c t f.2 d a
def Hz(x:V)(xs:List V):Bool:=xs.any λy=>JM y x
def QX(a:Ao)(neg:Bool):R2:=λx y H Q=>∃p xs,y=.ref p/\(AN a H p xs\/BB a H p xs)/\Ic x=AC/\xs.all Ic=AC/\Q (.bl (if neg then !Hz x xs else Hz x xs)) H
def oW:D5 f (Em .In) (QX f.K AF):=by
 intro pins s g H x y v u Q I b d h;obtain⟨p,xs,rfl,a,c,fs,q⟩:=h;cases d;rcases a with a|a;have(its,r,pl,e):=I.list a;refine V6 (Ie x) pl.isList (λw hw=>k8 b c r fs w (by simpa using hw)) (.bl _,H,I,rfl,?_);erw[show its.toArray.any (Ie x)=its.any (Ie x) by simp,mJ r fs];exact q;have(its,r,pl,e):=I.tuple a;refine SeqAt.in_tupleAt (Ie x) pl (λw hw=>k8 b c r fs w (by simpa using hw)) (.bl _,H,I,rfl,?_);erw[show its.toArray.any (Ie x)=its.any (Ie x) by simp,mJ r fs];exact q
def qi:Fk c (.builtin "len") (λxs H Q=>∃p ys,xs=[.ref p]/\(AN c.K H p ys\/BB c.K H p ys)/\Q (.int ys.length) H):=by
 intro pins s f H xs us Q I r h;obtain⟨p,ys,rfl,a,q⟩:=h;obtain⟨u,rfl,d⟩:=vals1 r;cases d;have g:=iR;rcases a with a|a;have(its,r',pl,e):=I.list a;have b:=r'.length;exact Calls.call_len_list pl.isList (by simp only[Dk]<;>lia) (.int ys.length,H,I.tok _,(s.toks+1,by erw[Dk,b]),q);have(its,r',pl,e):=I.tuple a;have b:=r'.length;exact len_tuple pl (by simp only[Dk]<;>lia) (.int ys.length,H,I.tok _,(s.toks+1,by erw[Dk,b]),q)
def ym:Fk f (.type "list") (λxs H Q=>∃p ys,xs=[.ref p]/\(AN f.K H p ys\/BB f.K H p ys)/\∀l,H l=AB->Q (.ref l) (upd H l (.lst ys))):=by
 intro pins s k H xs us Q I r h;obtain⟨p,ys,rfl,d,q⟩:=h;obtain⟨u,rfl,m⟩:=vals1 r;cases m;have fin:∀(its:List AI),Vals ys its->ys.length<=Ae->∀(h':BI) (a:Nat),(∀b j,s.heap.get? b=AA j->h'.get? b=AA j)->
   h'.get? s⁻¹=AA {cls:=.type "list",dict:=AB,data:=.seq its.toArray a,slots:= #[]}->EP f pins k Q (.ref s⁻¹) {s with heap:=h'}:=λits r' c h' a kp e=>
  (.ref s⁻¹,_,I.laid (t':=s.toks) kp (Au _) (show Dg f.prog f.w _ h' _ (.lst ys) from(c,its,a,r',e)),rfl,q _ (I.hok.fresh (Au _)));rcases d with d|d;have(its,r',pl,c):=I.list d;have t:=r'.length;have(o,g,i,n,hd):=pl.isList;exact call_list_seq p (.inl rfl) g i hd (λh' a kp e=>fin its r' c h' a kp e) (by simp only[Dk]<;>lia);have(its,r',pl,c):=I.tuple d;have t:=r'.length;have(o,g,i,n,hd):=pl;exact call_list_seq p (.inr rfl) g i hd (λh' a kp e=>fin its r' c h' a kp e) (by simp only[Dk]<;>lia)
def Kp(b:Ao)(T:String)(x:V)(H:Hp):Prop:=match x with
 | .str _=>T="str"
 | .int _=>T="int"
 | .ref p=>(T="list"/\∃xs,AN b H p xs)\/(T="tuple"/\∃o,b.lookup p=AA o/\o.cls=.type "tuple"/\o.dict=AB)\/
   (T="dict"/\((∃a,H p=AA (.dK a))\/∃a,H p=AA (.dT a)))\/(T="set"/\∃S n,H p=AA (.set S n))
 | _=>False
def rW(I:Inv k pins l H s)(r:RelV x v)(ty:Kp k.K T x H):
  s.TypeIs v T/\∀a,v=.ref a->∃f,s.heap.get? a=AA f/\f.dict=AB:=by
 cases x with
 |str z=>
  obtain⟨t,rfl⟩:=r;cases (show T="str" from ty);exact(typeIs_str s z t,λ_ e=>nomatch e)
 |int i=>
  obtain⟨t,rfl⟩:=r;cases (show T="int" from ty);exact(typeIs_int s i t,λ_ e=>nomatch e)
 |ref p=>
  cases r;rcases ty with⟨rfl,xs,h⟩ | ⟨rfl,o,b,j,hd⟩ | ⟨rfl,b⟩ | ⟨rfl,S,n,b⟩;have(its,_,pl,_):=I.list h;refine(pl.isList.typeIs,λa e=>?_);cases e;have(o,n,e,c,hd,_):=pl;exact(o,e,hd);refine((o,I.du p o b,j),λa e=>?_);cases e;exact(o,I.du _ o b,hd);have z:∃o,s.heap.get? p=AA o/\o.ExactDict:=by
   rcases b with⟨g,b⟩ | ⟨g,b⟩;have(_,_,_,_,o,_,_,e,ex,_):=I.hok p _ b;exact(o,e,ex);have(_,_,_,_,o,_,_,e,ex,_):=I.hok p _ b;exact(o,e,ex)
  have(o,e,ex):=z;refine((o,e,ex.1),λa d=>?_);cases d;exact(o,e,ex.2.1);have(o,_,_,_,e,ex,_):=I.hok p _ b;refine((o,e,ex.1),λa d=>?_);cases d;exact(o,e,ex.2.1)
 | _=>exact GA ty
def CG(d:Ao)(T:String)(r:V->List V->Hp->VK->Prop)(c:TE)(t:TA):TE:=λa H Q=>c a H λx b=>Kp d T x b/\t a b λxs e=>r x xs e Q
def dw[N:Gz a Y](z:PlainAttrs T)(slot:Slot T i f)(A:typeOf (.builtin f)=pure (.type "method_descriptor"))(E:Ze a f r)(D:PE a o m)(M:PA a (e::b) t)(L:KQ o i a.env (eval o a.env)=eval o a.env:=by rfl)(J:((EG c (BE (e::b) a.env)).all (λx=> !x.1) && (Jj c (Jg [] a.env)).all (λx=>x.1.isSome)
   && decide ((e::b).length+ ([]:List Keyword).length+ (if ([]:List Keyword).isEmpty then 0 else 1)<30))=AC:=by rfl)(G:(apos.endLine==c.line)=AC:=by rfl)(B:BE (e::b) a.env=(AE AF (eval e a.env))::BE b a.env:=by rfl)(C:(EG c (BE b a.env)).any (·.1)=AF:=by rfl):
  PE a (.Call (.Attribute o i apos) (e::b) [] c) (CG Y T r m t):=by
 have e:=N.eq;subst e;intro pins s d H Q I h;refine wpAny_Call_method_late L J G rfl (aK (D pins s d H _ I h) λv p l=>?_);have(x,an,k,g,ty,y):=l;have(U,O):=rW k g ty;refine(T,f,z,slot,A,U,O,?_);have j:=M c pins p d an _ k y;rw[B]at j|-;refine SR (by show (AF || (EG c (BE b a.env)).any (·.1))=AF;erw[C]<;>rfl) (SQ ?_);exact aK j λus n (vs,aj,ab,q,u)=>E pins n d aj x vs v us Q ab g q u
def RB(a:Cx)(c:String)(r:V->List V->Hp->VK->Prop):Prop:=
 ∀(pins:List (AD×Obj)) (s:AO) (b:St) (H:Hp) (x:V) (xs:List V) (v:AI) (us:List AI) (Q:VK),Inv a pins b H s->RelV x v->Vals xs us->r x xs H Q->
  AM (AU a.prog a.w) a.A (call (.builtin c) (v::us)) (EP a pins b Q) a.xe s
def Vals.one:∀{x:V} {us:List AI},Vals [x] us->∃u,us=[u]/\RelV x u
 | _,_,.cons r .nil=>(_,rfl,r)
def Vals.rep(h:Vals xs us):∀k:Nat,Vals (Ay k xs).flatten (Ay k us).flatten
 | 0=> .nil
 |k+1=>by
  erw[Kj,Kj,NE,NE];exact Vals.append h (Vals.rep h k)
def o6{a:Type}:∀(l:List a) (i:Nat),(l.eraseIdx i).length<=l.length
 | [],_=>Au _
 | _::_,0=>Ox _
 | _::r,i+1=>Nat.succ_le_succ (o6 r i)
def foldl_rep(its:List AI):∀(k:Nat) (acc:List AI),
  PP (λb a=>b ++ a) acc.toArray (Ay k its.toArray)=(acc ++ (Ay k its).flatten).toArray
 | 0,acc=>by simp
 |k+1,acc=>by
  have e:acc.toArray ++ its.toArray=(acc ++ its).toArray:=by simp
  have c:(acc ++ its) ++ (Ay k its).flatten=acc ++ (Ay (k+1) its).flatten:=by
   erw[Kj,NE,Jq]
  erw[<-c,<-foldl_rep its k (acc ++ its),<-e,Kj,PN]
def Inv.lD{its:List AI}{f:Array AI->Array AI}(I:Inv j pins a H s)(i:H l=AA (.lst xs))(e:s.heap.get? l=AA {cls:=.type "list",data:=.seq its.toArray n})(g:f its.toArray=its'.toArray)(c:Vals ys its')(b:ys.length<=Ae):
  Inv j pins a (upd H l (.lst ys)) {s with heap:=s.heap.update l (KZ f),toks:=t'}:=by
 have q:=PySem.IsL.update e f;rw[g]at q;refine I.write (x:=l) (e:=l) (by erw[i];exact trivial) (.inl rfl) (λk u h d=>(SJ s.heap (KZ f) (Fp h)).trans d) (_,q) ?_;exact(b,its',_,c,q)
def Inv.o4(I:Inv d pins a H s)(c:Vals ys its)(b:ys.length<=Ae):
  Inv d pins a (upd H s⁻¹ (.lst ys)) {s with heap:=s.heap.push {cls:=.type "list",data:=.seq its.toArray},toks:=t'}:=
 I.laid (λ_ _ q=>BQ _ q) (Au _) (b,its,0,c,Dq _ rfl)
def Inv.fresh(I:Inv b pins a H s):H s⁻¹=AB:=I.hok.fresh (Au _)
def Inv.gS(I:Inv c pins b H s)(a:H l=AA (.lst xs)):xs.length<=Ae/\∃(its:List AI) (n:Nat),Vals xs its/\xs.length=its.length/\s.heap.get? l=AA {cls:=.type "list",data:=.seq its.toArray n}:=by
 have(z,its,n,r,e):=I.hok l _ a;exact(z,its,n,r,r.length,e)
def og(h:n<=Ae):Ol n=AF:=by
 unfold Ol;exact DH ()
inductive Lu(x:V)(vs:List V)(H:Hp)(Q:VK):Prop
 |mk:∀l xs y,(x=.ref l)->(vs=[y])->(H l=AA (.lst xs))->(xs.length<Ae)->(Q .Al (upd H l (.lst (xs ++ [y]))))->Lu x vs H Q
def eA:RB j "list.append" Lu:=by
 intro pins s f H x vs v us Q I b c h;obtain⟨l,xs,y,rfl,rfl,a,g,q⟩:=h;cases b;obtain⟨u,rfl,d⟩:=c.one;have(z,its,n,r,i,e):=I.gS a;refine LO Fo (_,e,rfl) F.entry_list_append (F.args_list_append_2 _ _) (PySem.list_append l its.toArray n u (by erw[Dk];lia)) (e,?_);refine(.Al,_,I.lD (its':=its ++ [u]) a e (by simp) (r.append (.cons d .nil)) ?_,rfl,q);erw[BZ,List.length_singleton];lia
def YR:V->List V->Hp->VK->Prop:=λx vs H Q=>∃l b xs a,x=.ref l/\vs=[.ref b]/\H l=AA (.lst xs)/\H b=AA (.lst a)/\xs.length+a.length<=Ae/\Q .Al (upd H l (.lst (xs ++ a)))
def ku:RB D "list.extend" YR:=by
 intro pins s p H x vs v us Q I d f h;obtain⟨l,b,xs,t,rfl,rfl,c,m,A,q⟩:=h;cases d;obtain⟨u,rfl,g⟩:=f.one;cases g;have(z,its,n,r,C,e):=I.gS c;have(y,a,j,i,B,o):=I.gS m;have hsz:its.toArray.size+a.toArray.size<=Ae:=by erw[Dk,Dk];lia
 have k: ¬(!its.toArray.isEmpty && Ol (its.toArray.size+a.toArray.size))=AC:=by
  erw[og hsz,PZ];exact Dl
 refine LO Of (_,e,rfl) F.entry_list_extend (F.args_list_extend_2 _ _)
  (AutoSeq1.list_extend_list_list_0 l its.toArray n b a.toArray j k (by erw[Dk];lia) ()) (e,o,?_);refine(.Al,_,I.lD (its':=its ++ a) c e (by simp) (r.append i) ?_,rfl,q);erw[BZ];lia
def Cy:R2:=λx y H Q=>∃l b xs a,x=.ref l/\y=.ref b/\H l=AA (.lst xs)/\H b=AA (.lst a)/\xs.length+a.length<=Ae/\∀p,H p=AB->Q (.ref p) (upd H p (.lst (xs ++ a)))
def gp:D5 D (Ji .Add) Cy:=by
 intro pins s m H x y v u Q I d c h;obtain⟨l,b,xs,o,rfl,rfl,g,i,A,q⟩:=h;cases d;cases c;have(z,its,n,r,C,e):=I.gS g;have(p,a,t,f,B,k):=I.gS i;refine PySem.P.add_list e k ?_ (by erw[Dk,Dk];lia);have j:its.toArray ++ a.toArray=(its ++ a).toArray:=by simp
 erw[j];exact(.ref _,_,I.o4 (t':=s.toks) (r.append f) (by erw[BZ];lia),rfl,q _ I.fresh)
def Cw:R2:=λx y H Q=>∃l k xs,x=.ref l/\y=.int k/\H l=AA (.lst xs)/\ -(2 ^ 63)<=k/\k<2 ^ 63/\xs.length * k.toNat<=Ae/\
 ∀p,H p=AB->Q (.ref p) (upd H p (.lst (Ay k.toNat xs).flatten))
def len_rep{a:Type}(xs:List a)(k:Nat):(Ay k xs).flatten.length=k * xs.length:=by
 induction k with
 |zero=>simp
 |succ k b=>erw[Kj,NE,BZ,b,Nat.succ_mul,Nat.add_comm]
def oU:D5 M (Ji .Mult) Cw:=by
 intro pins s L H x y v u Q I i g h;obtain⟨l,k,xs,rfl,rfl,D,G,E,d,q⟩:=h;cases i;obtain⟨t,rfl⟩:=g;have(z,its,n,r,A,e):=I.gS D;have p:its.toArray.size * k.toNat<=Ae:=by erw[Dk,<-A];exact d
 have C: ¬its.toArray.size * k.toNat>(2 ^ 63 - 1) / 8:=by
  have:(Ae:Nat)<=(2 ^ 63 - 1) / 8:=by decide
  lia
 have B: ¬(!Builtin.List.listFitsIndex k)=AC:=by
  erw[fitsIndex_both G E];exact Dl
 have o: ¬Ol (its.toArray.size * k.toNat)=AC:=by
  erw[og p];exact Dl
 have j:PP (λc b=>c ++ b) #[] (Ay (if its.toArray.isEmpty=AC then 0 else k.toNat) its.toArray)=(Ay k.toNat its).flatten.toArray:=by
  have J:∀m:Nat,PP (λc b=>c ++ b) #[] (Ay m its.toArray)=(Ay m its).flatten.toArray:=λm=>by
   have:=foldl_rep its m [];rw[Ah]at this;exact this
  erw[J];cases its with
  |nil=>simp
  |cons a r'=>erw[AK (by simp)]
 refine wpAny_binaryOp_repeat_ref (T:="list") (U:="int") (by decide) (_,e,rfl) (λf=>typeIs_int f k t) noFill_list_mul F.fills_int_mul F.slot_int_rmul repeat_list F.slot_int_index.lookup
  (LO F.slot_int_rmul (typeIs_int s k t) F.entry_int_rmul (F.args_int_rmul_2 _ _) (int___rmul___int_list k t l its.toArray n)
   (e,rfl,(_,e,rfl),LO F.slot_list_mul (_,e,rfl) F.entry_list_mul (F.args_list_mul_2 _ _) (AutoListH.list___mul___list_int_3 l its.toArray n k t B C o) (e,?_)));erw[j];exact(.ref _,_,I.o4 (t':=s.toks) (r.rep k.toNat) (by erw[len_rep,Nat.mul_comm];exact d),rfl,q _ I.fresh)
def Vals.ints:∀{ns:List Int} {us:List AI},Vals (ns.map V.int) us->LV us ns
 | [],us,h=>by
  rw[BS]at h;cases h;exact IntsAre.nil
 |n::ns,us,h=>by
  rw[Ax]at h;cases h with
  |cons r t=>
   obtain⟨k,rfl⟩:=r;exact IntsAre.cons n k (Vals.ints t)
def mU:∀{us:List AI} {ns:List Int},LV us ns->Vals (ns.map V.int) us
 | _,_,.nil=>by erw[BS];exact Paired.nil
 | _,_,.cons n t h=>by erw[Ax];exact Paired.cons (show RelV (V.int n) (E4 n t) from(t,rfl)) (mU h)
def Vals.mD:∀{a:List Bool} {us:List AI},Vals (a.map V.bl) us->us=a.map Hg
 | [],us,h=>by
  rw[BS]at h;cases h;rfl
 |b::a,us,h=>by
  rw[Ax]at h;cases h with
  |cons r t=>
   cases r;erw[Vals.mD t,Ax]
def Vals.jH(r:Vals [V.ref a] us):us=[Bf a]:=by
 cases r with
 |cons r t=>
  cases t;cases r;rfl
def rn{Q:AI->AO->Prop}(g:A.handled=AB)(c:s.heap.IsList l its.toArray)(d:LV its ns)(h:∀h' tk t',(∀b o,s.heap.get? b=AA o->h'.get? b=AA o)->Q (.int ns.sum t') {s with heap:=h',toks:=tk}):AM (AU prog w) A (call (.builtin "sum") [.ref l]) Q E s:=by
 have(xs,e):=d.allInts.items;have a:numsOf (intItems xs).toList=ns:=by erw[<-e];exact d.numsOf
 rw[Rz]at a;rw[e]at c;refine PySem.sum_intListG g c λh' tk t' f=>?_;have:=h h' tk t' f;erw[preSum_eq,La (by simp),a];exact this
def z9{Q:AI->AO->Prop}(n:A.handled=AB)(d:s.heap.IsList l its.toArray)(f:LV its ns)(i:0<ns.length)(h:∀h' tk M t',(∀b o,s.heap.get? b=AA o->h'.get? b=AA o)->M∈ns->(∀a,a∈ns->a<=M)->Q (.int M t') {s with heap:=h',toks:=tk}):AM (AU prog w) A (call (.builtin "max") [.ref l]) Q E s:=by
 have(xs,e):=f.allInts.items;have c:numsOf (intItems xs).toList=ns:=by erw[<-e];exact f.numsOf
 rw[Rz]at c;subst c;rw[e]at d;have hsz:0<xs.size:=by simpa using i
 refine PySem.max_intList n d hsz λv h' tk g k=>?_;obtain⟨t,rfl⟩:=intItems_at g;have(r,q):=argBest_gt (numAt xs) (xs.size - 1);refine h h' tk _ t k ?_ λa p=>?_;erw[numAt_eq];exact PySem.getD_mem (by erw[AL,JE];lia);obtain⟨j,m,rfl⟩:=mem_getD p;rw[AL,JE]at m;erw[<-numAt_eq];exact q j ()
def wU{Q:AI->AO->Prop}(n:A.handled=AB)(d:s.heap.IsList l its.toArray)(f:LV its ns)(i:0<ns.length)(h:∀h' tk M t',(∀b o,s.heap.get? b=AA o->h'.get? b=AA o)->M∈ns->(∀a,a∈ns->M<=a)->Q (.int M t') {s with heap:=h',toks:=tk}):AM (AU prog w) A (call (.builtin "min") [.ref l]) Q E s:=by
 have(xs,e):=f.allInts.items;have c:numsOf (intItems xs).toList=ns:=by erw[<-e];exact f.numsOf
 rw[Rz]at c;subst c;rw[e]at d;have hsz:0<xs.size:=by simpa using i
 refine PySem.min_intList n d hsz λv h' tk g k=>?_;obtain⟨t,rfl⟩:=intItems_at g;have(r,q):=argBest_lt (numAt xs) (xs.size - 1);refine h h' tk _ t k ?_ λa p=>?_;erw[numAt_eq];exact PySem.getD_mem (by erw[AL,JE];lia);obtain⟨j,m,rfl⟩:=mem_getD p;rw[AL,JE]at m;erw[<-numAt_eq];exact q j ()
def YK(b:Ao):List V->Hp->VK->Prop:=λvs H Q=>∃(a:AD) (ns:List Int),vs=[V.ref a]/\AN b H a (ns.map V.int)/\Q (.int ns.sum) H
def YN(b:Ao):List V->Hp->VK->Prop:=λvs H Q=>∃(a:AD) (ns:List Int),vs=[V.ref a]/\AN b H a (ns.map V.int)/\0<ns.length/\∀m,m∈ns->(∀y,y∈ns->m<=y)->Q (.int m) H
def yZ(g:b.calm=AC):Fk b (.builtin "sum") (YK b.K):=by
 intro pins s i H vs us Q I r h;obtain⟨a,ns,rfl,d,q⟩:=h;have(its,c,e,_):=I.list d;erw[Vals.jH r];exact rn (I.ok.hd g) e.isList c.ints λh' tk t' f=>(.int _,H,I.kept f,(_,rfl),q)
def qW(i:b.calm=AC):Fk b (.builtin "min") (YN b.K):=by
 intro pins s l H vs us Q I r h;obtain⟨a,ns,rfl,d,e,q⟩:=h;have(its,c,f,_):=I.list d;erw[Vals.jH r];exact wU (I.ok.hd i) f.isList c.ints e λh' tk m t' g k j=>(.int _,H,I.kept g,(_,rfl),q m k j)
def pS{Q:AI->AO->Prop}(b:s.heap.IsList l items)(h:∀a:AO,a={s with heap:=s.heap.push {cls:=.type "list_iterator",data:=.fields #[.ref l,.int 0 0]}}->
   (a.heap.IsListIter s⁻¹ l 0/\a.heap.IsList l items)->l≠s⁻¹->Q (.ref s⁻¹) a):AM (AU prog w) A (pyIter (.ref l)) Q E s:=by
 have c:l<s⁻¹:=by have(_,e,_):=b;exact BG e
 exact Mn b (h _ rfl ((_,Dq _ rfl,rfl,rfl),b.push _) (DU c))
def mq{a:List Bool}(e:its=a.map Hg):
  TruthOf prog w A (λi v=>its.toArray[i]? =AA v) (λi=>a.getD i AF):=λi v s Q E f g=>by
 have c:its[i]? =AA v:=by simpa using f
 rw[e,BC]at c;obtain⟨b,j,rfl⟩:=Hl.mp c;have h:a.getD i AF=b:=by erw[DA,j]<;>rfl
 have d:Q (a.getD i AF) s:=g;rw[h]at d;exact Iq d
def any_range:∀a:List Bool,(Ai a.length).any (λi=>a.getD i AF)=a.any id
 | []=>rfl
 |b::a=>by
  erw[AS,Sh,IX,Gp,IX,<-any_range a]
  all_goals rfl
def all_range:∀a:List Bool,(Ai a.length).all (λi=>a.getD i AF)=a.all id
 | []=>rfl
 |b::a=>by
  erw[AS,Sh,IY,PV,IY,<-all_range a]
  all_goals rfl
def YS(c:Ao):List V->Hp->VK->Prop:=λvs H Q=>∃(a:AD) (b:List Bool),vs=[V.ref a]/\AN c H a (b.map V.bl)/\Q (.bl (b.any id)) H
def YT(c:Ao):List V->Hp->VK->Prop:=λvs H Q=>∃(a:AD) (b:List Bool),vs=[V.ref a]/\AN c H a (b.map V.bl)/\Q (.bl (b.all id)) H
def io(m:d.calm=AC):Fk d (.builtin "any") (YS d.K):=by
 intro pins s t H vs us Q I r h;obtain⟨a,v,rfl,i,q⟩:=h;have(its,g,k,_):=I.list i;erw[Vals.jH r];have e:=g.mD;refine call_any_walk (pS k.isList λu n st j=>?_);subst n;refine(_,_,_,_,_,_,_,rfl,Walks.list (A:=d.A.in1) (I.ok.hd m) _ a j its.toArray,st,mq e,λh' tk l=>?_);refine(.bl _,H,I.kept λb o f=>l b o (λc=>?_) (BQ _ f),?_,q);rcases Aj.mp c with p|c;exact absurd (p▸BG f) (F6 _);cases c;show Hg _=Hg _;erw[<-any_range,e,Dk,AL]
def qX(m:d.calm=AC):Fk d (.builtin "all") (YT d.K):=by
 intro pins s t H vs us Q I r h;obtain⟨a,v,rfl,i,q⟩:=h;have(its,g,k,_):=I.list i;erw[Vals.jH r];have e:=g.mD;refine call_all_walk (pS k.isList λu n st j=>?_);subst n;refine(_,_,_,_,_,_,_,rfl,Walks.list (A:=d.A.in1) (I.ok.hd m) _ a j its.toArray,st,mq e,λh' tk l=>?_);refine(.bl _,H,I.kept λb o f=>l b o (λc=>?_) (BQ _ f),?_,q);rcases Aj.mp c with p|c;exact absurd (p▸BG f) (F6 _);cases c;show Hg _=Hg _;erw[<-all_range,e,Dk,AL]
mutual
inductive Dp(K:Ao)(H:Hp):V->Iv->Prop
 |Al:Dp K H .Al .none
 |bl (b:Bool):Dp K H (.bl b) (.bool b)
 |int (i:Int):Dp K H (.int i) (.int i)
 |str (x:Str):Dp K H (.str x) (.str x)
 |lst {a:AD} {xs:List V} {ds:List Iv}:AN K H a xs->J9 K H xs ds->Dp K H (.ref a) (.list ds)
 |tup {a:AD} {xs:List V} {ds:List Iv}:BB K H a xs->J9 K H xs ds->Dp K H (.ref a) (.tuple ds)
inductive J9(K:Ao)(H:Hp):List V->List Iv->Prop
 |nil:J9 K H [] []
 |cons {v:V} {vs:List V} {d:Iv} {ds:List Iv}:Dp K H v d->J9 K H vs ds->J9 K H (v::vs) (d::ds)
end
mutual
theorem Dp.reads{X:Cx}{pins:List (AD×Obj)}{l:St}{H:Hp}{s:AO}(I:Inv X pins l H s):∀(d:Iv) (v:V) (u:AI),Dp X.K H v d->RelV v u->∃as,Reads s.heap u d as
 | .none,_,_,h,r=>by
  cases h;cases r;exact(_,Reads.none)
 | .bool b,_,_,h,r=>by
  cases h;cases r;exact(_,Reads.bool b)
 | .int i,_,_,h,r=>by
  cases h;obtain⟨t,rfl⟩:=r;exact(_,Reads.int i t)
 | .str x,_,_,h,r=>by
  cases h;obtain⟨t,rfl⟩:=r;exact(_,Reads.str x t)
 | .list k,_,_,h,r=>by
  cases h with
  |lst c j=>
   cases r;have(its,a,(o,n,f,g,_,hd),_):=I.list c;have(as,e):=Dp.readsAll I k _ its j a;exact(_,Reads.list f g hd e)
 | .tuple k,_,_,h,r=>by
  cases h with
  |tup c j=>
   cases r;have(its,a,(o,f,g,n,hd),_):=I.tuple c;have(as,e):=Dp.readsAll I k _ its j a;exact(_,Reads.tuple f g hd e)
 | .dict _,_,_,h,_=>by cases h
theorem Dp.readsAll{X:Cx}{pins:List (AD×Obj)}{b:St}{H:Hp}{s:AO}(I:Inv X pins b H s):∀(a:List Iv) (vs:List V) (us:List AI),J9 X.K H vs a->Vals vs us->∃as,ReadsAll s.heap us a as
 | [],_,_,h,r=>by
  cases h;cases r;exact(_,ReadsAll.nil)
 |d::a,_,_,h,r=>by
  cases h with
  |cons j i=>
   cases r with
   |cons e c=>
    have(as,g):=Dp.reads I d _ _ j e;have(k,f):=Dp.readsAll I a _ _ i c;exact(_,ReadsAll.cons g f)
end
def YM(a:Ao):R2:=λx y H Q=>∃d e,Dp a H x d/\Dp a H y e/\Oa d=AC/\Oa e=AC/\Q (.bl (!KY d e)) H
def uL(k:a.A.units+64<ES):D5 a (Em .NotEq) (YM a.K):=by
 intro pins s m H x y v u Q I g f h;have(d,e,hd,l,c,b,q):=h;have(as,j):=Dp.reads I d x v hd g;have(n,i):=Dp.reads I e y u l f;exact SeqAt.compareNe_shaped j i c b k (.bl _,H,I,rfl,q)
abbrev Vs(h:BI)(c:AD)(v:Option AI):Prop:=h.IsCell c v
def YJ(a b:Fz):Fz:=
 {a with names:=a.names.map λ(n,k)=>if (k==.free && b.kind==.function && b.names.lookup n==AA .cell)then(AE n (.cell))else(AE n k)}
def Ek(cells:List (Str×AD)):List (Str×GZ)->List (Str×AD)->List (Str×AD)
 | [],acc=>acc
 | (n,k)::r,acc=>if k==.free then Ek cells r ((AE n ((cells.lookup n).getD 0))::acc)else Ek cells r acc
def qd(env:Env)(f:Str×GZ->List (Str×AD)->Sem (ForInStep (List (Str×AD))))(g:∀n k c,f (AE n k) c=if k==.free then(do let a <-cellOf env n;pure (.yield ((AE n a)::c)))else pure (.yield c)):
  ∀(names:List (Str×GZ)) (acc:List (Str×AD)),(∀y∈names,y.2=.free->∃c,env.cells.lookup y.1=AA c)->forIn names acc f=pure (Ek env.cells names acc)
 | [],acc,_=>by erw[PM];rfl
 | (n,k)::r,acc,h=>by
  erw[Sl,g];have d:=λacc=>qd env f g r acc λy j=>h y (Eb _ j);unfold Ek;by_cases b:(k==LU)=AC;erw[AJ b,AJ b];have(c,i):=h (AE n k) FK (by simpa using b);have e:cellOf env n=pure c:=by unfold cellOf;erw[i]
  erw[e];have l:(env.cells.lookup n).getD 0=c:=by erw[i];rfl
  erw[l];exact d _;erw[AK b,AK b];exact d _
def lu(h:∀y∈a.names,y.2=.free->∃c,env.cells.lookup y.1=AA c):Ms a env=pure (Ek env.cells a.names []):=by
 simp only[Ms];erw[qd env _ (λn k c=>rfl) a.names [] h];rfl
def mem_lookup{a:Type}:∀{l:List (Str×a)} {n:Str} {c:a},(AE n c)∈l->∃d,l.lookup n=AA d
 | (k,v)::r,n,c,h=>by
  erw[ED];cases b:n==k with
  |true=>exact(_,rfl)
  |false=>
   rcases Aj.mp h with e|h;cases e;simp at b;exact mem_lookup h
def jm:∀{names:List (Str×GZ)} {acc:List (Str×AD)} {n:Str} {c:AD},(AE n c)∈Ek cells names acc->(AE n c)∈acc\/((AE n (.free))∈names/\c=(cells.lookup n).getD 0)
 | [],_,_,_,h=> .inl h
 | (m,k)::r,acc,n,c,h=>by
  unfold Ek at h;split at h;rename_i a;have a:k=.free:=by simpa using a
  rcases jm h with h| ⟨d,b⟩;rcases Aj.mp h with e|h;cases e;exact .inr (a▸FK,rfl);exact .inl h;exact .inr (Eb _ d,b);rcases jm h with h| ⟨d,b⟩;exact .inl h;exact .inr (Eb _ d,b)
def lz:∀{names:List (Str×GZ)} {acc:List (Str×AD)} {p:Str×AD},p∈acc->p∈Ek cells names acc
 | [],_,_,h=>h
 | (m,k)::r,acc,p,h=>by
  unfold Ek;split;exact lz (Eb _ h);exact lz h
def lw:∀{names:List (Str×GZ)} {acc:List (Str×AD)} {n:Str},(AE n (.free))∈names->(AE n ((cells.lookup n).getD 0))∈Ek cells names acc
 | (m,k)::r,acc,n,h=>by
  unfold Ek;rcases Aj.mp h with e|h;cases e;exact lz FK;split;exact lw h;exact lw h
def iu:∀{names:List (Str×GZ)} {h:BI} {acc:List (Str×AD)} {x:Str} {c:AD},(AE x c)∈En h.objs.size names acc->
  (AE x c)∈acc\/((AE x (.cell))∈names/\h.objs.size<=c/\Vs (Jf h names) c AB)
 | [],_,_,_,_,h=> .inl h
 | (n,k)::r,h,acc,x,c,a=>by
  unfold En at a;unfold Jf;split at a;rename_i b;erw[AJ b];have b:k=.cell:=by simpa using b
  rw[<-FI h {cls:=.type "cell",data:=.cell AB}]at a;rcases iu a with a| ⟨g,d,f⟩;rcases Aj.mp a with e|a;cases e;exact .inr (b▸FK,Au _,_,OQ r _ _ _ (Dq _ rfl),rfl);exact .inl a;rw[FI]at d;exact .inr (Eb _ g,Oy d,f);rename_i b;erw[AK b];rcases iu a with a| ⟨g,d,f⟩;exact .inl a;exact .inr (Eb _ g,d,f)
def jo:∀{names:List (Str×GZ)} {n:Nat} {acc:List (Str×AD)} {p:Str×AD},p∈acc->p∈En n names acc
 | [],_,_,_,h=>h
 | (m,k)::r,n,acc,p,h=>by
  unfold En;split;exact jo (Eb _ h);exact jo h
def l9:∀{names:List (Str×GZ)} {n:Nat} {acc:List (Str×AD)} {x:Str},(AE x (.cell))∈names->∃c,(AE x c)∈En n names acc
 | (m,k)::r,n,acc,x,h=>by
  unfold En;rcases Aj.mp h with e|h;cases e;exact(n,jo FK);split;exact l9 h;exact l9 h
def l8:∀{names:List (Str×GZ)} {h:BI} {acc:List (Str×AD)} {x y:Str} {c:AD},(∀p∈acc,p.2<h.objs.size)->(∀x y c,(AE x c)∈acc->(AE y c)∈acc->x=y)->
  (AE x c)∈En h.objs.size names acc->(AE y c)∈En h.objs.size names acc->x=y
 | [],_,_,_,_,_,_,i,f,d=>i _ _ _ f d
 | (n,k)::r,h,acc,x,y,c,g,i,f,d=>by
  unfold En at f d;split at f;rename_i l;rw[AJ l]at d;rw[<-FI h {cls:=.type "cell",data:=.cell AB}]at f d;refine l8 (h:=h.push _) (λp j=>?_) (λx y c a b=>?_) f d;erw[FI];rcases Aj.mp j with rfl|j;exact M4 _;exact Sb (g p j);rcases Aj.mp a with e|a<;>rcases Aj.mp b with m|b;cases (e);cases (m);rfl;cases (e);exact absurd (g _ b) (F6 _);cases (m);exact absurd (g _ a) (F6 _);exact i _ _ _ a b;rename_i l;rw[AK l]at d;exact l8 g i f d
def wM{Q:Env->AO->Prop}(h:Q (newEnv a s⁻¹ e (En (s⁻¹+1) a.names b) d func f (AA around) g)
   {s with heap:=Jf (s.heap.push {cls:=.type "dict",data:=.dict #[]}) a.names}):
  AM M A (newFunctionEnv a e b [] d func f (AA around) g) Q E s:=by
 simp only[newFunctionEnv,SX,BP];refine AT (wpAny_alloc ?_);refine AT (wpAny_layCells _ (λn k c=>rfl) a.names b _ _ ?_);erw[show ({s with heap:=s.heap.push {cls:=.type "dict",data:=.dict #[]}}:AO)⁻¹=s⁻¹+1 from FI ..];erw[PM];exact AT (BM (BM h))
def lE{a:Fz}:∀{names:List (Str×GZ)} {x:Str} {k:GZ},
  (names.map λ(n,k)=>if (k==LU && a.kind==.function && a.names.lookup n==AA .cell)then(AE n SG)else(AE n k)).lookup x=AA k->
  ∃e,names.lookup x=AA e/\(k=e\/(e=.free/\k=.cell))
 | [],_,_,h=>by simp at h
 | (n,d)::r,x,k,h=>by
  have f:= @lE a r x k;have h':Jp x ((if (d==LU && a.kind==.function && a.names.lookup n==AA .cell)=AC then(AE n SG)else(AE n d))::(r.map _))=AA k:=h;cases c:x==n with
  |true=>
   simp only[ED,c];by_cases b:(d==LU && a.kind==.function && a.names.lookup n==AA .cell)=AC;rw[AJ b]at h';simp only[ED,c]at h';cases h';simp only[DN,Hb]at b;exact(d,rfl,.inr (b.1.1,rfl));rw[AK b]at h';simp only[ED,c]at h';cases h';exact(_,rfl,.inl rfl)
  |false=>
   simp only[ED,c];by_cases b:(d==LU && a.kind==.function && a.names.lookup n==AA .cell)=AC;rw[AJ b]at h';simp only[ED,c]at h';exact f h';rw[AK b]at h';simp only[ED,c]at h';exact f h'
structure Mc(N:List Str)(sc scope:Fz)(own:List (Str×Nat)):Prop where
 kind:scope.kind=.function
 uniq:∀y∈scope.names,scope.names.lookup y.1=AA y.2
 ix:∀p∈own,N[p.2]? =AA p.1
 free:∀y∈scope.names,y.2=.free->sc.names.lookup y.1=AA .cell\/sc.names.lookup y.1=AA .free
 own:∀y∈scope.names,y.2=.local\/y.2=.cell->y.1∈own.map (·.1)\/y.1∉N
@[inline]def wipe(a:St):List Nat->St
 | []=>a
 |v::vs=>(wipe a vs).set v AB
def jz(a:St):∀vs:List Nat,(wipe a vs).length=a.length
 | []=>rfl
 |v::vs=>by unfold wipe;erw[F7,jz a vs]
def jy:∀{vs:List Nat},(wipe b vs)[i]? =AA (AA x)->b[i]? =AA (AA x)/\i∉vs
 | [],h=>(h,by simp)
 |v::vs,h=>by
  unfold wipe at h;by_cases a:v=i;subst a;by_cases c:v<(wipe b vs).length;rw[Le c]at h;cases h;rw[HD (by simpa using c)]at h;cases h;rw[Km a]at h;have(f,d):=jy h;exact(f,by simp only[Aj,A5];exact(λe=>a e.symm,d))
abbrev Cx.E9(a:Cx)(s:AO)(H:Hp)(b:Fz)(c:Env)(fp:List AD):Cx:={a with Es:=s,J6:=H,env:=c,outer:=a.stack,ex:=fp,fn:=λx=>b.names.lookup x==AA .cell,pn:=[],xe:=λ_ _=>False}
def yz(I:Inv g pins aj H s)(ok:Mc g.N g.env.scope f own)(a5:g.N.Nodup)(J:∀b∈fp,G1 g pins H b/\b<s⁻¹):
  Inv (g.E9 s H f (Gj f (En (s⁻¹+1) f.names (Ek g.env.cells f.names [])) s⁻¹ g.env) fp) [] (wipe aj (own.map (·.2))) H {s with heap:=Jf (s.heap.push {cls:=.type "dict",data:=.dict #[]}) f.names}:=by
 have a4:∀y∈f.names,y.2=.free->∃c,g.env.cells.lookup y.1=AA c:=λy u e=>by
  rcases ok.free y u e with k|k;exact I.ok.has _ (.inl k);exact I.ok.has _ (.inr k)
 generalize L:Gj f (En (s⁻¹+1) f.names (Ek g.env.cells f.names [])) s⁻¹ g.env=d;have kp:∀b o,s.heap.get? b=AA o->(Jf (s.heap.push {cls:=.type "dict",data:=.dict #[]}) f.names).get? b=AA o:=λb o e=>OQ _ _ _ _ (BQ _ e);have hL:d.locals=s⁻¹:=by erw[<-L];rfl
 have E:d.cells=En (s⁻¹+1) f.names (Ek g.env.cells f.names []):=by erw[<-L];rfl
 have T:d.scope=YJ f g.env.scope:=by erw[<-L];rfl
 rw[<-FI s.heap {cls:=.type "dict",data:=.dict #[]}]at E;have M:∀{y c},(AE y c)∈Ek g.env.cells f.names []->g.env.cells.lookup y=AA c/\c<s⁻¹:=λ{y c} j=>by
  rcases jm j with j| ⟨h,rfl⟩;cases j;have(c,ab):=a4 _ h rfl;erw[ab];have(w,z):=I.cell _ _ ab;exact(rfl,z.lt)
 have mem:∀{y c},d.cells.lookup y=AA c->(g.env.cells.lookup y=AA c/\c<s⁻¹)\/(s⁻¹+1<=c/\Vs (Jf (s.heap.push {cls:=.type "dict",data:=.dict #[]}) f.names) c AB):=λ{y c} e=>by
  rw[E]at e;rcases iu (Fy e)with j| ⟨_,v,a6⟩;exact .inl (M j);rw[FI]at v;exact .inr (v,a6)
 have look:∀{y},f.names.lookup y=AA .free->∃c,d.cells.lookup y=AA c/\g.env.cells.lookup y=AA c:=λ{y} N=>by
  have u:(AE y LU)∈f.names:=Fy N;have(Q,l):=mem_lookup (jo (names:=f.names) (n:=(s.heap.push {cls:=.type "dict",data:=.dict #[]}).objs.size) (lw (cells:=g.env.cells) (acc:=[]) u));rw[<-E]at l;refine(Q,l,?_);rw[E]at l;rcases iu (Fy l)with j| ⟨h,_,_⟩;exact(M j).1;have:=ok.uniq _ h;rw[N]at this;cases this
 have an:(g.E9 s H f d fp).Ok:=by
  refine(I.ok.mod,by show d.scope.kind=_;erw[T];exact ok.kind,by show d.globals=_;erw[<-L];exact I.ok.glob,by show d.builtins=_;erw[<-L];exact I.ok.blt,by show s⁻¹<=d.locals;erw[hL];exact Au _,
   λy z c C B=>?_,λy u=>?_,λy c z e=>?_,I.ok.hd,I.ok.frames,.inl rfl,λb A=>(?_,λy c e z=>?_),I.bs,Dj I.ok.IF I.sz,λb o e A=>?_,λb A z=>?_,I.stack,I.nI);have C:d.cells.lookup y=AA c:=C;have B:d.cells.lookup z=AA c:=B;rw[E]at C B;refine l8 (λp G=>?_) (λy z c a b=>I.ok.inj y z c (M a).1 (M b).1) (Fy C) (Fy B);erw[FI];exact Sb (M (y:=p.1) (c:=p.2) G).2;show ∃c,d.cells.lookup y=AA c;have key:∀k,d.kindOf y=AA k->(k=.cell\/k=.free)->∃c,d.cells.lookup y=AA c:=λk D U=>by
   unfold Env.kindOf at D;rw[T]at D;have(x,e,r):=lE D;have:x=.cell\/x=.free:=by
    rcases r with rfl| ⟨rfl,_⟩;exact U;exact .inr rfl
   rcases this with rfl|rfl;have(c,j):=l9 (n:=(s.heap.push {cls:=.type "dict",data:=.dict #[]}).objs.size) (acc:=Ek g.env.cells f.names []) (Fy e);have(Q,l):=mem_lookup j;exact(Q,by erw[E];exact l);have(c,h,_):=look e;exact(c,h)
  rcases u with u|u;exact key _ u (.inl rfl);exact key _ u (.inr rfl);have z:(f.names.lookup y==AA SG)=AC:=z;have z:f.names.lookup y=AA .cell:=by simpa using z
  have e:d.cells.lookup y=AA c:=e;rw[E]at e;rcases iu (Fy e)with j| ⟨_,v,_⟩;rcases jm j with j| ⟨h,_⟩;cases j;have q:=ok.uniq _ h;rw[z]at q;cases q;rw[FI]at v;exact Oy v;show b≠d.locals;erw[hL];exact DU (J b A).2;have e:d.cells.lookup y=AA c:=e;rcases mem e with⟨h,_⟩ | ⟨h,_⟩;exact(J b A).1.2.2.2.2.1 y c h z;have v:s⁻¹+1<=b:=by erw[<-z];exact h
  exact absurd (E5 (J b A).2 (Oy v)) (F6 _);rcases (J b A).1.2.2.2.1 with z|z;exact I.ok.Ly b o e z;exact absurd (E5 (BG e) (Dj I.ok.IF z)) (F6 _);rcases Aj.mp (I.j9 b z)with z|z;exact(J b A).1.2.1 z;exact(J b A).1.2.2.1 z
 refine(an,rfl,I.bare,Un.kept kp,(λ_=>AB,?_,λi y bl C B t=>?_),λy c e=>?_,?_,λy c e=>?_,λp G=>?_,I.hok.kept kp,by erw[jz];exact I.len);show Heap.Ns _ d.locals _;erw[hL];exact Heap.Ns.keeps (Heap.Ns.new ..) λb o e=>OQ _ _ _ _ e;have(B,a2):=jy B;have O:f.names.lookup y=AA .free/\(d.kindOf y=AA .cell\/d.kindOf y=AA .free):=by
  have key:∀k,d.scope.names.lookup y=AA k->k=.local\/k=.cell\/k=.free->f.names.lookup y=AA .free/\(d.kindOf y=AA .cell\/d.kindOf y=AA .free):=λk D U=>by
   have Y:=D;rw[T]at D;have(x,e,r):=lE D;have no: ¬(x=.local\/x=.cell):=λa3=>by
    rcases ok.own _ (Fy e) a3 with l|l;have(p,G,a1):=Du.mp l;have t:=ok.ix p G;have:p.1=y:=a1;rw[this]at t;exact a2 (Du.mpr (p,G,ko a5 t C));exact l (Ar C)
   rcases r with rfl| ⟨rfl,rfl⟩;rcases U with rfl|rfl|rfl;exact absurd (.inl rfl) no;exact absurd (.inr rfl) no;exact(e,.inr Y);exact(e,.inl Y)
  have t:K7 d.scope y:=t;rcases t with t|t|t;exact key _ t (.inl rfl);exact key _ t (.inr (.inl rfl));exact key _ t (.inr (.inr rfl))
 have(m,bm,N):=I.loc;have a0:K7 g.env.scope y:=(ok.free _ (Fy O.1) rfl).elim (λk=> .inr (.inl k)) (λk=> .inr (.inr k));have(w,r,q):=N i y bl C B a0;refine(w,r,.inr (O.2,?_));have(c,h,v):=look O.1;rcases q with⟨k,_⟩ | ⟨_,Q,l,z⟩;have k:g.env.scope.names.lookup y=AA .local:=k;rcases ok.free _ (Fy O.1) rfl with x|x<;>rw[show g.env.scope.names.lookup y=_ from x]at k<;>cases k;rw[v]at l;cases l;exact(c,h,z.keeps kp);have e:d.cells.lookup y=AA c:=e;rcases mem e with⟨h,_⟩ | ⟨_,z⟩;have(w,z):=I.cell y c h;exact(w,z.keeps kp);exact(_,z);show H d.locals=AB;erw[hL];exact I.hok.fresh (Au _);have e:d.cells.lookup y=AA c:=e;rcases mem e with⟨h,_⟩ | ⟨h,_⟩;exact I.Gc y c h;exact I.hok.fresh (Oy h);exact absurd (show p∈([]:List (AD×Obj)) ++ [] from G) (by simp)
def zM{X:Cx}{Q:AI->AO->Prop}(I:Inv X pins g H s)(f:H D=AA (.lst xs))(j:xs.length<Ae)(r:RelV y v)(h:∀a,Inv X pins g (upd H D (.lst (xs ++ [y]))) a->Q .none a):AM (AU X.prog X.w) X.A (call (.builtin "list.append") [.ref D,v]) Q E s:=by
 have(l,its,n,c,e):=I.hok D _ f;have m:=c.length;refine append_at (hsz:=by erw[Dk];lia) e λh' i d=>?_;refine h {s with heap:=h'} (I.write (t':=s.toks) (by erw[f];trivial) (.inl rfl) (λb u k q=>(i.2 b k).trans q) (_,d) (by erw[BZ];exact j,its ++ [v],n+1,c.append (.cons r .nil),?_));erw[d];simp
def MT(a:Cx)(d:List EU)(t:TT):Prop:=
 ∀(pins:List (AD×Obj)) (s:AO) (b:St) (H:Hp) (Q:Bool->Hp->Prop),Inv a pins b H s->t b H Q->
  AM (AU a.prog a.w) a.A (forIn d AC λc r=>if r=AC then do let ok <-isTrue c a.env (eval c a.env);pure (PX ok)else pure (PX r)) (TP a pins b Q) a.xe s
def Er:TT:=λ_ H Q=>Q AC H
def dv:MT a [] Er:=λ_ _ _ H _ I h=>wpAny_tests_nil (H,I,h)
def fJ(h:PT b c t):MT b [c] t:=λpins s a H Q I hw=>wpAny_tests_one (h pins s a H Q I hw)
def gd{b:Type}{t:Sem b}{Q c:b->AO->Prop}{M:Model}{A:Fa}{E:AI->AO->Prop}{s:AO}(h:AM M A t Q (λ_ _=>False) s)(d:∀a s,Q a s->c a s):AM M A t c E s:=Gi h d λ_ _ z=>GA z
def yd{R:Result->AO->Prop}(I:Nat->AO->Prop)(turn:∀n s,I n s->AM (AU prog w) A (Hd it) (λr d=>match r with
   |none=>R (.ok .next) d
   |some v=>AM (AU prog w) A (OR target it v) (λ_ j=>AM (AU prog w) A (KR target env v) (λ_ i=>
     AM (AU prog w) A (forIn k AC λc r=>if r=AC then do let ok <-isTrue c env (eval c env);pure (PX ok)else pure (PX r)) (λok b=>
      if ok=AC then AM (AU prog w) A (eval p env) (λx g=>
       AM (AU prog w) A (call (.builtin "list.append") [acc,x]) (λ_ f=>∃m,m<n/\I m f) (LM (AU prog w) A env λe a=>R (.error e) a) g) (LM (AU prog w) A env λe a=>R (.error e) a) b
      else ∃m,m<n/\I m b) (LM (AU prog w) A env λe a=>R (.error e) a) i) (LM (AU prog w) A env λe a=>R (.error e) a) j) (LM (AU prog w) A env λe a=>R (.error e) a) d) (LM (AU prog w) A env λe a=>R (.error e) a) s)(n:Nat)(h:I n s):
  IS (AU prog w) A (.compLoop (.ListComp p [(target,t,k,0)] q pos) 0 it acc env) R s:=by
 refine codeAny_loop rfl I (λn s C=>?_) n h;show AM _ A ((compTurn (.ListComp p [(target,t,k,0)] q pos) 0 it acc env).onRaise (λx=>do noteFrame x env;theTreesLotGoes x)) _ _ s;refine wpAny_noted ?_;erw[compTurn_list];refine AT (Mi (AT (Gi (turn n s C) (λr d o=>?_) λ_ _ h'=>h')));cases r with
 |none=>exact BM o
 |some v=>
  refine AT (Gi o (λ_ j B=>?_) λ_ _ h'=>h');refine AT (Gi B (λ_ i z=>AT (Gi z (λok b l=>?_) λ_ _ h'=>h')) λ_ _ h'=>h');cases ok with
  |false=>exact BM (rfl,l)
  |true=>
   exact AT (AT (Gi l (λx g y=>AT (Gi y (λ_ f u=>BM (BM (rfl,u))) λ_ _ h'=>h')) λ_ _ h'=>h'))
def Yv(g:TG)(l:TT)(n:TE)(vs:List Nat)(f:St)(Q:VK):It->Hp->Prop:=λe k=>∀D,k D=AB->∃W:Nat->Nat->Hp->Prop,(∃m,W 0 m (upd k D (.lst [])))/\∀i m H,W i m H->
 (e.stop i H/\Q (.ref D) H)\/(e.go i H/\∃d:Hp->Prop,(∀a,d a->∃m',m'<m/\W (i+1) m' a)/\∀x a,e.EK i H x a->g x (wipe f vs) a λc o=>wipe c vs=wipe f vs/\l c o λb j=>
  if b=AC then n c j λy h=>∃acc,h D=AA (.lst acc)/\acc.length<Ae/\d (upd h D (.lst (acc ++ [y])))else d j)
def NR(b:TI)(g:TG)(c:TT)(d:TE)(vs:List Nat):TE:=λa H Q=>b a H (Yv g c d vs a Q)
def pA(c4:a.calm=AC)(e2:a.N.Nodup)(I:Inv a pins G H s)(eu:PI a a0 ab dm)(ok:Mc a.N a.env.scope f own)(ev:∀(s:AO) (H:Hp) (C:AD) (cl:List (Str×AD)) (fp:List AD),PG (a.E9 s H f (Gj f cl C a.env) fp) a0 g)(eo:∀(s:AO) (H:Hp) (C:AD) (cl:List (Str×AD)) (fp:List AD),MT (a.E9 s H f (Gj f cl C a.env) fp) b4 ds)(ey:∀(s:AO) (H:Hp) (C:AD) (cl:List (Str×AD)) (fp:List AD),PE (a.E9 s H f (Gj f cl C a.env) fp) b7 d1)(eq:∀x,OS ab a.env x=pure x)(h:NR dm g ds d1 (own.map (·.2)) G H Q)(e0:∀D C A m t,Inv a pins G t A->Q (.ref D) t->A.heap.Ns C m->G1 a pins t C->compPost (AU a.prog a.w) a.A a.xe an Qf (.ref D) C (.ok .next) A):
  AM (AU a.prog a.w) a.A (comprehension (.ListComp b7 [(a0,ab,b4,0)] f pos) f a.env f0 (newList []) AF (eval ab a.env) an) Qf a.xe s:=by
 have ew:∀y∈f.names,y.2=.free->∃c,a.env.cells.lookup y.1=AA c:=λy b5 e=>by
  rcases ok.free y b5 e with k|k;exact I.ok.has _ (.inl k);exact I.ok.has _ (.inr k)
 refine wpAny_comprehension_free (use:=an) rfl eq (lu ew) ok.kind (λy b5 e=>by erw[ok.uniq y b5,e])
  (aK (eu pins s G H _ I h) λfr fz en=>aK en λf1 N e6=>?_);have(it,fp,av,f5,J,e,c8,T,ck,f2,q):=e6;subst e;refine Rx (wM ?_) (by show 0<=Ae;decide);generalize a3:N⁻¹=D;have e3:J D=AB:=c8.hok.fresh (LY a3);have(W,(ek,cd),turn):=q D e3;generalize c2:({N with heap:=N.heap.push {cls:=.type "list",data:=.seq ([]:List AI).toArray}}:AO)=d;have bl:Inv a pins G (upd J D (.lst [])) d:=by
  erw[<-c2];refine c8.laid (t':=N.toks) (λb o e=>BQ _ e) (LY a3) (DR _,[],0,.nil,?_);erw[<-a3];exact Dq _ rfl
 have c5:d.heap=N.heap.push {cls:=.type "list",data:=.seq ([]:List AI).toArray}:=by erw[<-c2]
 have d3:∀b∈fp,b<N⁻¹:=λb l=>by
  have(o,e,_):=T.obj _ _ ck b l;exact BG e
 have L:∀b∈fp,G1 a pins (upd J D (.lst [])) b/\b<d⁻¹:=λb l=>by
  have c3:=d3 b l;refine((?_,(f2 b l).2),by erw[c5,FI];exact Sb c3);erw[aC (by erw[<-a3];exact DU c3)];exact(f2 b l).1
 have d4:av 0 d.heap:=T.keep _ _ _ ck λb _ o e=>by erw[c5];exact BQ _ e
 have a6:=yz bl ok e2 L;have b2:=ev d (upd J D (.lst [])) d⁻¹ (En (d⁻¹+1) f.names (Ek a.env.cells f.names [])) fp;have b1:=eo d (upd J D (.lst [])) d⁻¹ (En (d⁻¹+1) f.names (Ek a.env.cells f.names [])) fp;have b3:=ey d (upd J D (.lst [])) d⁻¹ (En (d⁻¹+1) f.names (Ek a.env.cells f.names [])) fp;show IS _ _ (.compStart (.ListComp b7 [(a0,ab,b4,0)] f pos) 0 (.ref it) (.ref D) (Gj f (En (d⁻¹+1) f.names (Ek a.env.cells f.names [])) d⁻¹ a.env)) (compPost (AU a.prog a.w) a.A a.xe an Qf (.ref D) d⁻¹) {d with heap:=Jf (d.heap.push {cls:=.type "dict",data:=.dict #[]}) f.names};have cr:∀b∈fp,(upd J D (.lst [])) b=AB:=λb l=>(L b l).1.1;generalize ez:Gj f (En (d⁻¹+1) f.names (Ek a.env.cells f.names [])) d⁻¹ a.env=ce at a6 b2 b1 b3|-;have c6:ce.locals=d⁻¹:=by subst ez;rfl
 generalize f4:upd J D (.lst [])=E at bl a6 b2 b1 b3 cd cr L;generalize ep:({d with heap:=Jf (d.heap.push {cls:=.type "dict",data:=.dict #[]}) f.names}:AO)=co at a6|-;have ci:av 0 co.heap:=T.keep _ _ _ d4 λb _ o e=>by erw[<-ep];exact OQ _ _ _ _ (BQ _ e)
 have bm:∀{ca:St} {t:Hp} {A:AO},Inv (a.E9 d E f ce fp) [] ca t A->(∀b∈fp,t b=AB)->∀b∈fp,G1 (a.E9 d E f ce fp) [] t b:=λ{ca t A} Y O b l=>
  (O b l,(Y.ok.Nz b l).1,Y.ok.MH b l,.inl l,λx c e=>(Y.ok.Nz b l).2 x c e,λp er=>absurd (show p∈([]:List (AD×Obj)) ++ [] from er) (by simp));have loop:IS (AU a.prog a.w) a.A (.compLoop (.ListComp b7 [(a0,ab,b4,0)] f pos) 0 (.ref it) (.ref D) ce) (compPost (AU a.prog a.w) a.A a.xe an Qf (.ref D) d⁻¹) co:=by
  refine yd (λn A=>∃i t,Inv (a.E9 d E f ce fp) [] (wipe G (own.map (·.2))) t A/\av i A.heap/\(∀b∈fp,t b=AB)/\W i n t) ?_ ek (0,E,a6,ci,cr,cd);intro n cm (i,M,a5,cg,c0,dn);rcases turn i n M dn with⟨stop,ec⟩ | ⟨go,e7,e1,step⟩
  ·have d2:=T.done (a.E9 d E f ce fp) rfl rfl rfl c4 i [] cm _ M (λ_ _=>False) a5 (bm a5 c0) cg stop;refine gd d2 λr a1 B=>?_;have(b6,U):=B;subst b6;have a4:Inv a pins G M a1:=bl.yx (ch:=fp) U.os U.base U.hok U.bare λb l=>((L b l).1.2.2.2.1,(L b l).1.2.1,(L b l).1.2.2.2.2.1,(L b l).1.2.2.2.2.2);have ei:M d⁻¹=AB:=by
    have z:M ce.locals=AB:=U.free;rw[c6]at z;exact z
   have(m,O,_):=U.loc;have O:a1.heap.Ns ce.locals m:=O;rw[c6]at O;exact e0 D d⁻¹ a1 m M a4 ec O (bl.gF (Au _) ei)
  have dx:=T.item (a.E9 d E f ce fp) rfl rfl rfl c4 i [] cm _ M (λ_ _=>False) a5 (bm a5 c0) cg go;refine gd dx λr a1 B=>?_;have(u,b6,e5):=B;subst b6;refine gd e5 λ_ b0 B=>?_;have(x,c9,a4,ea,dd,bs,ej):=B;have e9:=a4.pinned (bm a4 ej) (T.obj _ _ bs);refine gd (b2 _ b0 _ c9 x u _ e9 ea (step x c9 dd)) λ_ d6 B=>?_;have(aj,fj,e8,c1,ef):=B;refine gd (b1 _ d6 aj fj _ e8 ef) λb d5 B=>?_;have(fe,c7,a2):=B;have fin:∀{A:AO} {t:Hp},Inv (a.E9 d E f ce fp) ([] ++ Lx fp b0.heap) aj t A->e7 t->∃m,m<n/\∃i t,Inv (a.E9 d E f ce fp) [] (wipe G (own.map (·.2))) t A/\av i A.heap/\(∀b∈fp,t b=AB)/\W i m t:=λ{A t} Y nx=>by
   have(m',es,dp):=e1 t nx;have cp:∀b∈fp,∀o,b0.heap.get? b=AA o->A.heap.get? b=AA o/\t b=AB:=λb l o e=>
    let z:=Y.pin (AE b o) (Jo _ (Jo _ (k7 l e)))
    (z.1,z.2.1)
   have et:(wipe G (own.map (·.2))).length=aj.length:=by erw[<-c1,jz]
   refine(m',es,i+1,t,(Y.i9 (pins:=[])).weak et (λj v e=>?_),T.keep _ _ _ bs λb l o e=>(cp b l o e).1,λb l=>?_,dp);rw[<-c1]at e;exact(jy e).1;have(o,e,_):=T.obj _ _ bs b l;exact(cp b l o e).2
  cases b with
  |false=>
   simp only[B4,BY]at a2|-;exact fin c7 a2
  |true=>
   simp only[BP]at a2|-;refine gd (b3 _ d5 aj fe _ c7 a2) λz fy B=>?_;have(fq,f6,fd,eb,acc,e4,el,nx):=B;exact zM (X:=a.E9 d E f ce fp) fd e4 el eb λfx fb=>fin fb nx
 exact codeAny_compStart_list loop (T.self a.A 0 _ _ _ ci loop)
def dk(B:a.calm=AC)(G:a.N.Nodup)(y:PI a d i j)(ok:Mc a.N a.env.scope c own)(z:∀(s:AO) (H:Hp) (C:AD) (cl:List (Str×AD)) (fp:List AD),PG (a.E9 s H c (Gj c cl C a.env) fp) d g)(t:∀(s:AO) (H:Hp) (C:AD) (cl:List (Str×AD)) (fp:List AD),MT (a.E9 s H c (Gj c cl C a.env) fp) r k)(A:∀(s:AO) (H:Hp) (C:AD) (cl:List (Str×AD)) (fp:List AD),PE (a.E9 s H c (Gj c cl C a.env) fp) O l)(u:∀x,OS i a.env x=pure x:=by intro _;rfl):
  PE a (.ListComp O [(d,i,r,0)] c pos) (NR j g k l (own.map (·.2))):=by
 intro pins s Y H Q I h;erw[eval_ListComp];refine pA B G I y ok z t A u h λD C p m U T q v f=>(m,v,λab n=>?_);have(N,f1,f2,M,L,J):=f;exact(.ref D,U,T.turned (t':=p.toks) (λb o E e=>(n.2 b E).trans e) N f1 M L J,rfl,q)
def fZ(a2:c.calm=AC)(E:c.N.Nodup)(T:c.N[i]? =AA y)(B:c.env.scope.names.lookup y=AA .local)(Y:Jd (.ListComp p [(k,j,l,0)] d pos) (AA (.Name y py)) M.line c.env=pure AC)(av:PI c k j t)(ok:Mc c.N c.env.scope d own)(a0:∀(s:AO) (H:Hp) (C:AD) (cl:List (Str×AD)) (fp:List AD),PG (c.E9 s H d (Gj d cl C c.env) fp) k g)(U:∀(s:AO) (H:Hp) (C:AD) (cl:List (Str×AD)) (fp:List AD),MT (c.E9 s H d (Gj d cl C c.env) fp) l u)(a1:∀(s:AO) (H:Hp) (C:AD) (cl:List (Str×AD)) (fp:List AD),PE (c.E9 s H d (Gj d cl C c.env) fp) p A)(ab:∀x,OS j c.env x=pure x:=by intro _;rfl):
  PS c (.Assign [.Name y py] (.ListComp p [(k,j,l,0)] d pos) M) (Be (NR t g u A (own.map (·.2))) (BL i)):=by
 intro pins s r H D I h;erw[exec_Assign_Name_used _ _ _ _ Y];refine AT (Mi (AT ?_));show AM _ c.A (do let _ <-comprehension (.ListComp p [(k,j,l,0)] d pos) d c.env (firstIterPos [(k,j,l,0)] pos) (newList []) AF (eval j c.env) (AA (KR (.Name y py) c.env))) _ _ s;have h:NR t g u A (own.map (·.2)) r H (λx b1=>BL i x r b1 D.nx):=h;refine AT (aK (pA (Qf:=λ_ n=>SP c pins D .next n) a2 E I av ok a0 U a1 ab h λL C n m b2 b0 q an f=>?_) λ_ n aj=>BM (BM aj));show AM _ _ (KR (.Name y py) c.env (.ref L)) _ _ _;refine wpAny_assign_Name (nH (v:=V.ref L) b0 E T (.inl B) rfl (λQ bs J=>?_) (.inr B));have(a,O,a5):=J;have(bm,f1,f2,bl,G,a6):=f;have a4:C≠a:=by
  rcases a5 with z|z;erw[z];exact f1;exact λe=>G y a z e.symm
 refine(m,an.sameBut O a4,λb3 N=>?_);exact(_,b2,bs.turned (t':=Q.toks) (λb o a3 e=>(N.2 b a3).trans e) bm f1 bl G a6,q)
def fW(e:env.scope.kind=.function)(c:env.scope.names.lookup y=AA .local)(d:(py.line==pos.line)=AC)(g:(a.names.any λ(n,k)=>n==y && (k==.local ||k==.cell))=AF):Jd (.ListComp i h a pos) (AA (.Name y py)) l env=pure AC:=by
 have b:env.kindOf y=AA .local:=c;have f:env.blockKind=.function:=by unfold Env.blockKind;erw[e];rfl
 unfold Jd;simp only[f,b,g,Expr.pos,d];rfl
def lI{lo:Int}{g:TG}{q:TT}{r:TE}{s:Hp->Prop}(c:Nat->Hp->Prop)(z:c 0 (upd A D (.lst [])))(u:∀i H,i<n->c i H->g (.int (lo+i)) (wipe j vs) H λa o=>wipe a vs=wipe j vs/\q a o λb h=>
   if b=AC then r a h λy f=>∃acc,f D=AA (.lst acc)/\acc.length<Ae/\c (i+1) (upd f D (.lst (acc ++ [y])))else c (i+1) h)(v:∀H,c n H->s H):
  ∃W:Nat->Nat->Hp->Prop,(∃m,W 0 m (upd A D (.lst [])))/\∀i m H,W i m H->
   ((Ge lo n).stop i H/\s H)\/((Ge lo n).go i H/\∃l:Hp->Prop,(∀d,l d->∃m',m'<m/\W (i+1) m' d)/\∀x d,(Ge lo n).EK i H x d->g x (wipe j vs) d λa o=>wipe a vs=wipe j vs/\q a o λb h=>
    if b=AC then r a h λy f=>∃acc,f D=AA (.lst acc)/\acc.length<Ae/\l (upd f D (.lst (acc ++ [y])))else l h):=by
 refine(λi m H=>m=n - i/\i<=n/\c i H,(n,by simp,DR _,z),?_);rintro i m H ⟨rfl,B,p⟩;by_cases k:i<n;refine .inr (k,c (i+1),λd t=>(n - (i+1),by lia,rfl,k,t),λx d y=>?_);obtain⟨e,y⟩:=y;subst e y;exact u i _ k p;have e:i=n:=by lia
 subst e;exact .inl (Au _,v H p)
def ja{K:Ao}{g:TG}{o:TT}{r:TE}{t:Hp->Prop}(c:Nat->Hp->Prop)(C:c 0 (upd E D (.lst [])))(z:∀i H,i<=xs.length->c i H->AN K H a xs)(v:∀i x H,xs[i]? =AA x->c i H->g x (wipe k vs) H λd n=>wipe d vs=wipe k vs/\o d n λb j=>
   if b=AC then r d j λy h=>∃acc,h D=AA (.lst acc)/\acc.length<Ae/\c (i+1) (upd h D (.lst (acc ++ [y])))else c (i+1) j)(B:∀H,c xs.length H->t H):
  ∃W:Nat->Nat->Hp->Prop,(∃m,W 0 m (upd E D (.lst [])))/\∀i m H,W i m H->
   ((HW K a).stop i H/\t H)\/((HW K a).go i H/\∃l:Hp->Prop,(∀f,l f->∃m',m'<m/\W (i+1) m' f)/\∀x f,(HW K a).EK i H x f->g x (wipe k vs) f λd n=>wipe d vs=wipe k vs/\o d n λb j=>
    if b=AC then r d j λy h=>∃acc,h D=AA (.lst acc)/\acc.length<Ae/\l (upd h D (.lst (acc ++ [y])))else l j):=by
 refine(λi m H=>m=xs.length - i/\i<=xs.length/\c i H,(xs.length,by simp,DR _,C),?_);rintro i m H ⟨rfl,A,p⟩;have q:=z i H A p;by_cases s:i<xs.length;refine .inr ((xs,xs[i],q,by simp[s]),c (i+1),λf u=>(xs.length - (i+1),by lia,rfl,s,u),λx f y=>?_);have(e,y):=y;subst e;exact v i x _ (y xs q) p;have e:i=xs.length:=by lia
 subst e;exact .inl ((xs,q,Au _),B H p)
def VG(N:List Str)(b a:Fz)(own:List (Str×Nat)):Bool:=
 (match a.kind with | .function=>AC| _=>AF) && (a.names.all λy=>decide (a.names.lookup y.1=AA y.2)) && (own.all λp=>decide (N[p.2]? =AA p.1)) &&
  (a.names.all λy=>match y.2 with
   | .free=>(match b.names.lookup y.1 with |some .cell=>AC|some .free=>AC| _=>AF)
   | .local=>decide (y.1∈own.map (·.1)) ||decide (y.1∉N)
   | .cell=>decide (y.1∈own.map (·.1)) ||decide (y.1∉N)
   | _=>AC)
def dO(h:VG N f d own=AC):Mc N f d own:=by
 unfold VG at h;simp only[DN,FR,Db]at h;have(((c,i),g),b):=h;refine(?_,i,g,λy a e=>?_,λy a e=>?_);split at c;assumption;cases c;have q:=b y a;simp only[e]at q;split at q<;>first|exact .inl (by assumption) |exact .inr (by assumption) |cases q
 have q:=b y a;rcases e with e|e<;>(simp only[e,Lh,Db]at q;exact q)
section
variable {κ:Type} [DecidableEq κ]
@[inline]def putK(b:List (κ×V))(k:κ)(v:V):List (κ×V):=
 if (b.any λa=>decide (a.1=k))=AC then b.map (λa=>if a.1=k then(AE a.1 v)else a)else b ++ [(AE k v)]
def JN(a:List (κ×V))(k:κ):List (κ×V):=a.filter λb=>decide (b.1≠k)
def md:A9 ([]:List (κ×V)) k=AB:=rfl
def ed{p:κ×V}{r:List (κ×V)}{k:κ}(e:p.1=k):A9 (p::r) k=AA p.2:=by simp[A9,Gn,e]
def ee{p:κ×V}{r:List (κ×V)}{k:κ}(e: ¬p.1=k):A9 (p::r) k=A9 r k:=by simp[A9,Gn,e]
def gb(k:κ):∀a:List (κ×V),(a.any λb=>decide (b.1=k))=(A9 a k).isSome
 | []=>rfl
 |p::r=>by
  erw[IX];by_cases e:p.1=k;simp only[ed e,BH e,Bool.true_or,SX];erw[ee e,DH e,NJ];exact gb k r
def me(k j:κ)(y:V):∀b:List (κ×V),A9 (b.map λa=>if a.1=k then(AE a.1 y)else a) j=(A9 b j).map λx=>if j=k then y else x
 | []=>rfl
 |p::r=>by
  have c:=me k j y r;erw[Ax];by_cases h:p.1=k;erw[AJ h];by_cases e:p.1=j;erw[ed (p:=(AE p.1 y)) e,ed e,EH,AJ (e.symm.trans h)];erw[ee (p:=(AE p.1 y)) e,ee e,c];erw[AK h];by_cases e:p.1=j;erw[ed (p:=p) e,ed e,EH,AK (λz=>h (e.trans z))];erw[ee (p:=p) e,ee e,c]
def mZ(k j:κ)(y:V):∀b:List (κ×V),A9 b k=AB->A9 (b ++ [(AE k y)]) j=if j=k then AA y else A9 b j
 | [],_=>by
  by_cases e:k=j;erw[AJ e.symm];exact ed (p:=(AE k y)) e;erw[AK (λz=>e z.symm)];exact ee (p:=(AE k y)) e
 |p::r,a=>by
  erw[Ak];have c: ¬p.1=k:=λz=>by rw[ed z]at a;cases a
  rw[ee c]at a;have d:=mZ k j y r a;by_cases e:p.1=j;erw[ed e,ed e,AK (λz=>c (e.trans z))];erw[ee e,ee e,d]
def ma(b:List (κ×V))(k j:κ)(y:V):A9 (putK b k y) j=if j=k then AA y else A9 b j:=by
 unfold putK;by_cases a:(b.any λc=>decide (c.1=k))=AC;erw[AJ a,me];rw[gb]at a;by_cases e:j=k;have(x,d):=HB.mp a;erw[AJ e,e,d,EH,AJ rfl];erw[AK e];cases A9 b j with
 |none=>rfl
 |some x=>erw[EH,AK e]
 erw[AK a];refine mZ k j y b ?_;rw[gb]at a;cases q:A9 b k with
 |none=>rfl
 |some x=>rw[q]at a;exact(a rfl).elim
def jZ(a:List (κ×V))(k:κ)(v:V):(putK a k v).length<=a.length+1:=by
 unfold putK;split;erw[AL];lia;erw[BZ,AS,Am];lia
def kK{a:List (κ×V)}{k:κ}(v:V)(h:A9 a k=AB):putK a k v=a ++ [(AE k v)]:=by
 unfold putK;erw[gb,h];exact AK (by decide)
def Ev.gB(r:Ev o u):o.isSome=u.isSome:=by
 cases o with
 |none=>cases u with
  |none=>rfl
  |some _=>exact(show False from r).elim
 |some _=>cases u with
  |none=>exact(show False from r).elim
  |some _=>rfl
def Ev.getD(r:Ev o u)(a:RelV d d'):RelV (o.getD d) (u.getD d'):=by
 cases o with
 |none=>cases u with
  |none=>exact a
  |some _=>exact(show False from r).elim
 |some _=>cases u with
  |none=>exact(show False from r).elim
  |some _=>exact r
def KV.val(r:KV f vs)(k:κ):Ev (A9 f k) (Ir vs k):=by
 unfold KV at r;induction r with
 |nil=>exact G5
 | @cons p q ps a h t g=>
  have(d,i):=h;by_cases e:p.1=k;have c:q.1=k:=d.symm.trans e;have b:Ir (q::a) k=AA q.2:=by simp[Ir,Gn,c]
  erw[ed e,b];exact i;have c: ¬q.1=k:=λz=>e (d.trans z);have b:Ir (q::a) k=Ir a k:=by simp[Ir,Gn,c]
  erw[ee e,b];exact g
def KV.any(r:KV b vs)(k:κ):(b.any λa=>decide (a.1=k))=vs.any λa=>decide (a.1=k):=by
 unfold KV at r;induction r with
 |nil=>rfl
 |cons h t c=>erw[IX,IX,c,h.1]
def KV.repl(r:KV d vs)(k:κ)(c:RelV y u):
  KV (d.map λa=>if a.1=k then(AE a.1 y)else a) (vs.map λa=>if a.1=k then(AE a.1 u)else a):=by
 unfold KV at r|-;induction r with
 |nil=>exact .nil
 | @cons p q ps i h t f=>
  erw[Ax,Ax];refine .cons ?_ f;have(b,g):=h;by_cases e:p.1=k;erw[AJ e,AJ (b.symm.trans e)];exact(b,c);erw[AK e,AK (λz=>e (b.trans z))];exact(b,g)
def KV.put(r:KV b vs)(k:κ)(a:RelV y u):KV (putK b k y) (stored vs k u):=by
 unfold putK stored;erw[r.any k];by_cases e:(vs.any λc=>decide (c.1=k))=AC;erw[AJ e,AJ e];exact r.repl k a;erw[AK e,AK e];exact Paired.snoc r (rfl,a)
def KV.drop(r:KV f vs)(k:κ):KV (JN f k) (without vs k):=by
 unfold KV at r|-;unfold JN without;induction r with
 |nil=>exact .nil
 | @cons p q ps j h t d=>
  have(c,g):=h;erw[Ec,Ec];by_cases e:p.1=k;have a: ¬decide (p.1≠k)=AC:=by simp[e]
  have b: ¬decide (q.1≠k)=AC:=by simp[c.symm.trans e]
  erw[AK a,AK b];exact d;have i: ¬q.1=k:=λz=>e (c.trans z);have a:decide (p.1≠k)=AC:=by simp[e]
  have b:decide (q.1≠k)=AC:=by simp[i]
  erw[AJ a,AJ b];exact .cons (c,g) d
def KV.length{a:List (κ×V)}{vs:List (κ×AI)}(r:KV a vs):a.length=vs.length:=Hh r
def qD(a:List (κ×V))(k:κ):(JN a k).length<=a.length:=Fq _ _
end
def eV{P:ET}(r:RelV (kV k) u):(BJ P w).is k u=AC:=by
 cases k with
 |inl i=>have(t,e):=(show ∃t,u=E4 i t from r);subst e;exact wT P w i t
 |inr x=>have(t,e):=(show ∃t,u=Mv x t from r);subst e;exact wS P w x t
def pT:∀{ks:List Key} {us:List AI},Vals (ks.map kV) us->ItemsAre (BJ a w) ks us
 | [],_,r=>by rw[BS]at r;cases r;exact .nil
 |k::ks,_,r=>by
  rw[Ax]at r;cases r with
  |cons h t=>exact .cons (eV h) (pT t)
abbrev KT(H:Hp):List (List Key×V)->List (List Key×AD×AI)->Prop:=Hi λp q=>p.1=q.1/\H q.2.1=AA (.tup (p.1.map kV))/\RelV p.2 q.2.2
def KT.val(r:KT H f xs)(k:List Key):Ev (A9 f k) ((atKey xs k).map (·.2)):=by
 induction r with
 |nil=>exact G5
 | @cons p q ps a h t g=>
  have(d,_,i):=h;by_cases e:p.1=k;have c:q.1=k:=d.symm.trans e;have b:atKey (q::a) k=AA q.2:=by simp[atKey,Gn,c]
  erw[ed e,b];exact i;have c: ¬q.1=k:=λz=>e (d.trans z);have b:atKey (q::a) k=atKey a k:=by simp[atKey,Gn,c]
  erw[ee e,b];exact g
def KT.repl(r:KT H f xs)(k:List Key)(d:RelV y u):
  KT H (f.map λb=>if b.1=k then(AE b.1 y)else b) (xs.map (putAt k u)):=by
 induction r with
 |nil=>exact .nil
 | @cons p q ps j h t g=>
  erw[Ax,Ax];refine .cons ?_ g;have(a,c,i):=h;unfold putAt;by_cases e:p.1=k;erw[AJ e,AJ (a.symm.trans e)];exact(a,c,d);erw[AK e,AK (λz=>e (a.trans z))];exact(a,c,i)
def KT.put(r:KT H c xs)(k:List Key)(f:H b=AA (.tup (k.map kV)))(a:RelV y u):
  KT H (putK c k y) (Je xs k b u):=by
 have e:(c.any λd=>decide (d.1=k))=(atKey xs k).isSome:=by
  erw[gb,(r.val k).gB,SY]
 unfold putK Je;erw[e];by_cases q:(atKey xs k).isSome=AC;erw[AJ q,AJ q];exact r.repl k a;erw[AK q,AK q];exact Paired.snoc r (rfl,f,a)
def KT.keeps{a:Hp}(r:KT H c xs)(d:∀b ys,H b=AA (.tup ys)->a b=AA (.tup ys)):KT a c xs:=
 Paired.lC r λ_ _ z=>(z.1,d _ _ z.2.1,z.2.2)
def nv(ok:Di b w H h)(e:Rd H a u):Dg b w H h a u:=e.ok ok
def gI(ok:Di c w H h)(e:Rd H a (.dK b)):b.length<=Ae/\(a==E2)=AF/\∃vs,KV b vs/\h.DictOf (BJ c w) a vs:=
 show Dg c w H h a (.dK b) from nv ok e
def il(ok:Di c w H h)(e:H a=AA (.dK b)):b.length<=Ae/\(a==E2)=AF/\∃vs,KV b vs/\h.DictOf (BJ c w) a vs:=gI ok (.inl e)
def fg(ok:Di b w H h)(e:H a=AA (.tup (ks.map kV))):(Ez (BJ b w)).is h ks a:=by
 have(_,its,r,o,f,d,n,c):=(show Dg b w H h a (.tup (ks.map kV)) from ok a _ e);exact(o,its.toArray,n,f,d,c,by simpa using pT r)
def gV(ok:Di d w H h)(e:Rd H a (.dT c)):c.length<=Ae/\(a==E2)=AF/\
  ∃xs,KT H c xs/\h.DictOfH (Ez (BJ d w)) a xs:=by
 have(z,y,xs,r,o,u,v,s,n,k,j,i):=(show Dg d w H h a (.dT c) from nv ok e);refine(z,y,xs,r,o,u,v,s,n,k,j,λx b=>?_,i);have all:∀{l:List (List Key×V)} {m:List (List Key×AD×AI)},KT H l m->∀x∈m,(Ez (BJ d w)).is h x.1 x.2.1:=by
  intro l m q;induction q with
  |nil=>intro x b;exact nomatch b
  | @cons p q ps A f t g=>
   intro x b;rcases Aj.mp b with e|b;subst e;exact fg ok (by erw[<-f.1];exact f.2.1);exact g x b
 exact all r x b
def yC(ok:Di c w H h)(e:H a=AA (.dT b)):b.length<=Ae/\(a==E2)=AF/\
  ∃xs,KT H b xs/\h.DictOfH (Ez (BJ c w)) a xs:=gV ok (.inl e)
def DV(H:Hp)(a:AD)(y:V)(r:Option V):Prop:=
 (∃c k,Rd H a (.dK c)/\y=kV k/\r=A9 c k)\/∃c k b,Rd H a (.dT c)/\y=.ref b/\H b=AA (.tup (k.map kV))/\r=A9 c k
def HY(H:Hp)(a:AD)(y v:V)(d:Hp):Prop:=
 (∃c k,H a=AA (.dK c)/\y=kV k/\c.length<Ae/\d=upd H a (.dK (putK c k v)))\/
 ∃c k b,H a=AA (.dT c)/\y=.ref b/\H b=AA (.tup (k.map kV))/\c.length<Ae/\d=upd H a (.dT (putK c k v))
def DV.k{H:Hp}{a:AD}{b:List (Key×V)}{k:Key}(e:H a=AA (.dK b)):DV H a (kV k) (A9 b k):=.inl (b,k,.inl e,rfl,rfl)
def DV.t{H:Hp}{a b:AD}{c:List (List Key×V)}{k:List Key}(e:H a=AA (.dT c))(d:H b=AA (.tup (k.map kV))):DV H a (.ref b) (A9 c k):=.inr (c,k,b,.inl e,rfl,d,rfl)
def HY.k{H:Hp}{a:AD}{b:List (Key×V)}{k:Key}{v:V}(e:H a=AA (.dK b))(c:b.length<Ae):HY H a (kV k) v (upd H a (.dK (putK b k v))):=.inl (b,k,e,rfl,c,rfl)
def Inv.big(I:Inv b pins a H s):E2<s⁻¹:=by
 have h:DG<s⁻¹:=(I.mod.glob.keeps I.bk).lt;exact Ki (by decide) h
def yU{Q:AI->AO->Prop}(t:A.units+1<ES)(I:Inv j pins q H s)(g:DV H a y (AA v))(n:RelV y u)(h:∀c m,Inv j pins q H m->RelV v c->Q c m):
  AM (AU j.prog j.w) A (LN (.ref a) u) Q E s:=by
 rcases g with⟨r,k,e,f,l⟩ | ⟨r,k,b,e,f,C,l⟩;subst f;have(z,hd,vs,rel,i):=gI I.hok e;have(c,hw,d):=Ev.some_of (v:=v) (o:=Ir vs k) (by erw[l];exact rel.val k);exact wpAny_getItem_of (eV n) i.mapOf hw (h c _ (I.tok _) d);subst f;cases (show u=Bf b from n);have(z,hd,xs,rel,i):=gV I.hok e;have(c,hw,d):=Ev.some_of (v:=v) (o:=(atKey xs k).map (·.2)) (by erw[l];exact rel.val k);have(p,B,x):=Hl.mp hw;refine wpAny_getItem_heap (LL t) (fg I.hok C) i B ?_;erw[x];exact h c _ (I.tok _) d
def qU{Q:AI->AO->Prop}(p:A.units+1<ES)(I:Inv f pins m H s)(g:DV H a y o)(j:RelV y u)(h:∀i,Inv f pins m H i->Q (.bool o.isSome) i):
  AM (AU f.prog f.w) A (Em .In u (.ref a)) Q E s:=by
 rcases g with⟨n,k,e,c,l⟩ | ⟨n,k,b,e,c,r,l⟩;subst c;have(z,hd,vs,rel,d):=gI I.hok e;refine wpAny_in_of (eV j) hd d.mapOf ?_;erw[<-(rel.val k).gB,<-l];exact h _ (I.tok _);subst c;cases (show u=Bf b from j);have(z,hd,xs,rel,d):=gV I.hok e;refine wpAny_in_heap (LL p) (fg I.hok r) hd d ?_;have q:=(rel.val k).gB;rw[SY]at q;erw[<-q,<-l];exact h _ (I.tok _)
def yS{Q:AI->AO->Prop}(p:A.units+1<ES)(I:Inv f pins m H s)(g:DV H a y o)(j:RelV y u)(h:∀i,Inv f pins m H i->Q (.bool (!o.isSome)) i):
  AM (AU f.prog f.w) A (Em .NotIn u (.ref a)) Q E s:=by
 rcases g with⟨n,k,e,c,l⟩ | ⟨n,k,b,e,c,r,l⟩;subst c;have(z,hd,vs,rel,d):=gI I.hok e;refine wpAny_notIn_of (eV j) hd d.mapOf ?_;erw[<-(rel.val k).gB,<-l];exact h _ (I.tok _);subst c;cases (show u=Bf b from j);have(z,hd,xs,rel,d):=gV I.hok e;refine wpAny_notIn_heap (LL p) (fg I.hok r) hd d ?_;have q:=(rel.val k).gB;rw[SY]at q;erw[<-q,<-l];exact h _ (I.tok _)
def im(I:Inv c pins f H s)(g:Ik (H a))(h:Mx a s.heap h')(i:∃q,h'.get? a=AA q)(new:Dg c.prog c.w (upd H a d) h' a d):
  Inv c pins f (upd H a d) {s with heap:=h',toks:=t'}:=
 I.write (x:=a) (e:=a) g (.inl rfl) (λb q j z=>(h.2 b j).trans z) i new
def jf(z:b.length<=Ae)(c:(a==E2)=AF)(rel:KV b vs)(d:h'.DictOf (BJ e w) a vs):
  Dg e w f h' a (.dK b):=(z,c,vs,rel,d)
def yQ{Q:Unit->AO->Prop}(M:A.units+1<ES)(I:Inv x pins L H s)(g:HY H a y v an)(C:RelV y u)(D:RelV v r)(h:∀B,Inv x pins L an B->Q ⟨⟩ B):
  AM (AU x.prog x.w) A (setItem (.ref a) u r) Q E s:=by
 rcases g with⟨d,k,e,o,l,p⟩ | ⟨d,k,b,e,o,J,l,p⟩;subst o p;have(z,hd,vs,rel,t):=il I.hok e;have j:vs.length<=Ae:=by erw[<-rel.length];exact z
 have n:(putK d k v).length<=Ae:=by have:=jZ d k v;lia
 refine wpAny_setItem_pairs (hsz:=j) (eV C) t λh' i m=>h _ ?_;have N:∃q,h'.get? a=AA q:=let(q,_,_,f,_):=i;(q,f);exact im I (by erw[e];exact G5) m N (jf n hd (rel.put k D) i);subst o p;cases (show u=Bf b from C);have(z,hd,xs,rel,t):=yC I.hok e;have j:xs.length<=Ae:=by erw[<-Hh rel];exact z
 have n:(putK d k v).length<=Ae:=by have:=jZ d k v;lia
 refine wpAny_setItem_heap (hsz:=j) (LL M) (fg I.hok J) t λh' i m=>h _ ?_;have(q,ab,aj,f,Y,U,T,_,O):=i;refine im I (by erw[e];exact G5) m (q,f) (n,hd,_,(rel.put k J D).keeps λc ys G=>?_,q,ab,aj,f,Y,U,T,O);erw[aC (wN G e (λz=>nomatch z))];exact G
def a0B{Q:Unit->AO->Prop}(I:Inv b pins i H s)(e:H a=AA (.dK c))(j:RelV (kV k) u)(l:(A9 c k).isSome=AC)(h:∀f,Inv b pins i (upd H a (.dK (JN c k))) f->Q ⟨⟩ f):
  AM (AU b.prog b.w) A (delItem (.ref a) u) Q E s:=by
 have(z,hd,vs,rel,d):=il I.hok e;refine wpAny_delItem_slot d.typeIs (by decide) WL
  (OV WL d.typeIs PySem.F.entry_dict_delitem (PySem.F.args_dict_delitem_2 _ _) (meets_dict_delitem_pairs (BJ b.prog b.w) a (eV j)) (vs,d,by erw[<-rel.length];exact z,by erw[<-(rel.val k).gB];exact l,λh' g m=>h _ ?_));have o:∃q,h'.get? a=AA q:=let(q,_,_,n,_):=g;(q,n);exact im I (by erw[e];exact G5) m o (jf (Dj (qD c k) z) hd (rel.drop k) g)
def yR{Q:AI->AO->Prop}(I:Inv c pins p H s)(e:H a=AA (.dK f))(d:RelV (kV k) u)(l:A9 f k=AA v)(j:more=[]\/∃x,more=[x])(h:∀b g,Inv c pins p (upd H a (.dK (JN f k))) g->RelV v b->Q b g):AM (AU c.prog c.w) A (call (.builtin "dict.pop") (.ref a::u::more)) Q E s:=by
 have(z,hd,vs,rel,n):=il I.hok e;have(b,hw,r):=Ev.some_of (v:=v) (o:=Ir vs k) (by erw[<-l];exact rel.val k);have C:(keyPart u).isSome=AC:=by
  cases k with
  |inl i=>have(t,q):=(show ∃t,u=E4 i t from d);subst q;rfl
  |inr x=>have(t,q):=(show ∃t,u=Mv x t from d);subst q;rfl
 have G:argsOk "dict.pop" (.ref a::u::more,[]):=by
  rcases j with q| ⟨x,q⟩;subst q;exact PySem.F.args_dict_pop_2 _ _;subst q;exact PySem.F.args_dict_pop_3 _ _ _
 refine OV WJ n.typeIs PySem.F.entry_dict_pop G (meets_dict_pop_there (BJ c.prog c.w) a (eV d) more j C)
  (vs,b,n,by erw[<-rel.length];exact z,hw,λh' m y=>h b _ ?_ r);have D:∃q,h'.get? a=AA q:=let(q,_,_,B,_):=m;(q,B);exact im I (by erw[e];exact G5) y D (jf (Dj (qD f k) z) hd (rel.drop k) m)
def yT{Q:AI->AO->Prop}(I:Inv b pins d H s)(e:Rd H a (.dK f))(h:∀t c,Inv b pins d H c->Q (.int f.length t) c):AM (AU b.prog b.w) A (call (.builtin "len") [.ref a]) Q E s:=by
 have(z,hd,vs,rel,g):=gI I.hok e;refine call_len_dict hd g (by erw[<-rel.length];rw[IR]at z;lia) ?_;erw[<-rel.length];exact h _ _ (I.tok _)
def RA(i:EU):Prop:=∀a b,OP i AF a b=operate [a,b] (LN a b)
def nG(k:Mq (.type T) "__getitem__"=pure (AA (.builtin l)))(j:RA slice)(h:AM (AU prog w) A (eval value env) (λo d=>AM (AU prog w) A (eval slice env) (λi a=>a.TypeIs o T/\AM (AU prog w) A (LN o i) Q E a) E d) E s):
  AM (AU prog w) A (eval (.Subscript value slice pos) env) Q E s:=by
 refine Oq (Gi h (λo d g=>Gi g (λi a b=>?_) λ_ _ x=>x) λ_ _ x=>x);have(e,b):=b;unfold SV;refine AT ?_;erw[getitemInPython_of_ne e.not_modules];refine AT (Mj e k ?_);have fin:AM (AU prog w) A (OP slice AF o i) (λr c=>AM (AU prog w) A (letTemporaryGo value o r>>=λ_=>pure r) Q E c) E a:=by
  erw[j o i];exact wpAny_operating (Gi b (λr c f=>AT (wpAny_letTemporaryGo (BM f))) λ_ _ x=>x)
 first
  |exact BM (AT fin)
  |exact AT (BM (AT fin))
  |exact AT fin
def yP(I:Inv h pins f H s)(g:DV H a y o):s.TypeIs (.ref a) "dict":=by
 rcases g with⟨d,k,e,_,_⟩ | ⟨d,k,b,e,_,_,_⟩;have(_,_,vs,_,c):=gI I.hok e;exact c.typeIs;have(_,_,xs,_,c):=gV I.hok e;exact c.typeIs
def XZ(d ty:TE):TE:=λb H Q=>d b H λx e=>ty b e λy c=>∃a v,x=.ref a/\DV c a y (AA v)/\Q v c
def XX(ty d:TE):TE:=λb H Q=>ty b H λy e=>d b e λx c=>∃a o,x=.ref a/\DV c a y o/\Q (.bl o.isSome) c
def XV(ty d:TE):TE:=λb H Q=>ty b H λy e=>d b e λx c=>∃a o,x=.ref a/\DV c a y o/\Q (.bl (!o.isSome)) c
def QU(e ty d:TE):TS:=λD b H=>d b H λv h=>e b h λx g=>ty b g λy f=>∃a c,x=.ref a/\HY f a y v c/\D.nx b c
def fC(q:b.A.units+1<ES)(t:PE b o f)(z:PE b i ty)(r:RA i):PE b (.Subscript o i pos) (XZ f ty):=by
 intro pins s c H Q I h;refine nG WK.lookup r (aK (t pins s c H _ I h) λu j (x,D,B,l,p)=>aK (z pins j c D _ B p) λL J e=>?_);have(y,C,d,k,a,v,ex,g,n):=e;subst ex;obtain rfl:u=Bf a:=l;exact(yP d g,yU q d g k λE G A m=>(v,C,A,m,n))
def iL(p:b.A.units+1<ES)(r:PE b i ty)(q:PE b o e):PC b .In i o (XX ty e):=by
 intro pins s c H Q I h;refine aK (r pins s c H _ I h) λE f (y,B,z,j,m)=>aK (q pins f c B _ z m) λu D d=>?_;have(x,A,v,k,a,n,ex,g,l):=d;subst ex;obtain rfl:u=Bf a:=k;exact qU p v g j λC t=>(.bl n.isSome,A,t,rfl,l)
def jO(p:b.A.units+1<ES)(r:PE b i ty)(q:PE b o e):PC b .NotIn i o (XV ty e):=by
 intro pins s c H Q I h;refine aK (r pins s c H _ I h) λE f (y,B,z,j,m)=>aK (q pins f c B _ z m) λu D d=>?_;have(x,A,v,k,a,n,ex,g,l):=d;subst ex;obtain rfl:u=Bf a:=k;exact yS p v g j λC t=>(.bl (!n.isSome),A,t,rfl,l)
def jJ(B:b.A.units+1<ES)(E:PE b o f)(G:PE b i ty)(A:PE b value e)(C:Jd value (AA (.Subscript o i z)) pos.line b.env=pure AF):
  PS b (.Assign [.Subscript o i z] value pos) (QU f ty e):=by
 intro pins s c H D I h;refine wpAny_Assign_Subscript (aK (A pins s c H _ I h) λr k (v,T,N,n,t)=>aK (E pins k c T _ N t) λu j (x,Q,M,m,q)=>aK (G pins j c Q _ M q) λab Y d=>?_) C;have(y,aj,L,l,a,O,ex,g,p):=d;subst ex;obtain rfl:u=Bf a:=m;exact yQ B L g l n λU J=>(c,O,J,p)
def qM(h:BI)(a:E2<h.objs.size):Dg b w H (h.push {cls:=.type "dict",data:=.dict #[]}) h.objs.size (.dK []):=
 (DR _,JZ.mpr (Fp (DU a)),[],.nil,WH h)
def XW:TE:=λ_ H Q=>∀p,H p=AB->Q (.ref p) (upd H p (.dK []))
def jM:PE c (.Dict [] [] pos) XW:=λpins s b H Q I h=>
 wpAny_Dict_empty (.ref s⁻¹,_,I.laid (a:=s⁻¹) (o:=.dK []) (t':=s.toks) (λ_ _ q=>BQ _ q) (Au _) (qM s.heap I.big),rfl,h _ (I.hok.fresh (Au _)))
def Pd:List (TE×TE)->St->Hp->(List (V×V)->Hp->Prop)->Prop
 | [],_,H,Q=>Q [] H
 | (tk,b)::r,a,H,Q=>tk a H λx e=>b a e λy d=>Pd r a d λps c=>Q ((AE x y)::ps) c
abbrev VV:List (V×V)->List (AI×AI)->Prop:=Hi λp q=>RelV p.1 q.1/\RelV p.2 q.2
def OA(a:Cx)(pos:Pos)(keys:List (Option EU))(values:List EU)(d:List (TE×TE)):Prop:=
 ∀(pins:List (AD×Obj)) (s:AO) (b:St) (H:Hp) (Q:List (V×V)->Hp->Prop),Inv a pins b H s->Pd d b H Q->
  AM (AU a.prog a.w) a.A (evalPairs (pairTrees keys values a.env pos)) (λvs e=>∃ps c,Inv a pins b c e/\VV ps vs/\Q ps c) a.xe s
def tE:OA b pos [] [] []:=λpins s a H Q I h=>pairTrees_nil_walk ([],H,I,.nil,h)
def tG(p:PE b k tk)(n:PE b v c)(o:OA b pos ks vs d):
  OA b pos (AA k::ks) (v::vs) ((AE tk c)::d):=λpins s a H Q I h=>
 pairTrees_cons_walk (aK (p pins s a H _ I h) λu f (x,B,t,i,m)=>aK (n pins f a B _ t m) λD e (y,A,r,g,l)=>
  aK (o pins e a A _ r l) λC E (ps,z,q,rel,j)=>((AE x y)::ps,z,q,.cons (i,g) rel,j))
def GD(b more:List (Key×V)):List (Key×V):=more.foldl (λacc a=>putK acc a.1 a.2) b
def KV.merge:∀{more:List (Key×V)} {b:List (Key×AI)} {a:List (Key×V)} {vs:List (Key×AI)},KV more b->KV a vs->KV (GD a more) (merged vs b):=by
 intro more b a vs r;unfold KV at r;induction r generalizing a vs with
 |nil=>intro q;exact q
 | @cons p q ps f h t d=>
  intro c;have e:KV (putK a p.1 p.2) (stored vs q.1 q.2):=by
   have:=c.put p.1 h.2;erw[<-h.1];exact this
  exact d e
def lF:∀(more a:List (Key×V)),(GD a more).length<=a.length+more.length
 | [],a=>by show a.length<=a.length+0;lia
 |p::r,a=>by
  have c:=lF r (putK a p.1 p.2);have b:=jZ a p.1 p.2;show (GD (putK a p.1 p.2) r).length<=_;erw[AS];lia
def qg{P:ET}:∀{e:List (Key×V)} {f:List (AI×AI)},VV (e.map λg=>(AE (kV g.1) g.2)) f->∃d,Carries (BJ P w) f d/\KV e d
 | [],_,r=>by rw[BS]at r;cases r;exact([],G5,.nil)
 |p::e,_,r=>by
  rw[Ax]at r;cases r with
  | @cons a b as j h t=>
   have(d,c,q):=qg (P:=P) (w:=w) t;have(k,i):=b;exact((AE p.1 i)::d,(eV h.1,rfl,c),.cons (rfl,h.2) q)
def TQ(e:List (TE×TE)):TE:=λd H Q=>∀p,H p=AB->Pd e d (upd H p (.dK [])) λps c=>c p=AA (.dK [])/\∃a:List (Key×V),ps=a.map (λb=>(AE (kV b.1) b.2))/\a.length<=15/\Q (.ref p) (upd c p (.dK (GD [] a)))
def tu(h:OA b pos keys values k)(A:keys.all (·.isSome)=AC)(x:keys.length=values.length)(D:keys≠[])(B:keys.length<=15):PE b (.Dict keys values pos) (TQ k):=by
 intro pins s i H Q I q;have v:=I.hok.fresh (Au s⁻¹);have J:=I.laid (a:=s⁻¹) (o:=.dK []) (h':=s.heap.push {cls:=.type "dict",data:=.dict #[]}) (t':=s.toks) (λ_ _ q=>BQ _ q) (Au _) (qM s.heap I.big);refine wpAny_Dict_walk (knd:=BJ b.prog b.w) A x D B (aK (h pins _ i _ _ J (q _ v)) λL N j=>?_);have(ps,O,g,rel,e,d,E,lk,p):=j;subst E;have(l,c,m):=qg (P:=b.prog) (w:=b.w) rel;have(z,hd,M,n,G):=il g.hok e;cases n;refine(l,c,G,λh' f t=>(.ref s⁻¹,_,?_,rfl,p));have r:(GD [] d).length<=Ae:=by
  have C:=lF d [];rw[Am]at C;erw[IR];lia
 have y:∃q,h'.get? s⁻¹=AA q:=let(q,_,_,u,_):=f;(q,u);exact im g (by erw[e];exact G5) t y (jf r hd (m.merge .nil) f)
structure M1(X:Cx)(o:EU)(m:Str)(apos:Pos)(e:EU)(cpos:Pos):Prop where
 base:KQ o m X.env (eval o X.env)=eval o X.env
 few:((EG cpos (BE [e] X.env)).all (λx=> !x.1) && (Jj cpos (Jg [] X.env)).all (λx=>x.1.isSome)
  && decide (([e]:List EU).length+ ([]:List Keyword).length+ (if ([]:List Keyword).isEmpty then 0 else 1)<30))=AC
 line:(apos.endLine==cpos.line)=AC
 trees:EG cpos (BE [e] X.env)=[(AE AF (eval e X.env))]
def RG(H:Hp)(a:AD):Prop:=(∃b,Rd H a (.dK b))\/∃b,Rd H a (.dT b)
def pV(I:Inv k pins j H s)(d:RG H a):
  s.TypeIs (.ref a) "dict"/\(∀b,Bf a=.ref b->∃c,s.heap.get? b=AA c/\c.dict=AB)/\(a==E2)=AF:=by
 rcases d with⟨i,e⟩ | ⟨i,e⟩;have(_,hd,vs,_,f):=gI I.hok e;refine(f.typeIs,λb q=>?_,hd);cases q;have(c,_,_,h,g,_):=f;exact(c,h,g.2.1);have(_,hd,xs,_,f):=gV I.hok e;refine(f.typeIs,λb q=>?_,hd);cases q;have(c,_,_,h,g,_):=f;exact(c,h,g.2.1)
def yV{Q:AI->AO->Prop}(q:A.units+1<ES)(I:Inv c pins n H s)(g:DV H a y o)(m:RelV y u)(h:∀i j,Inv c pins n H j->RelV (o.getD .Al) i->Q i j):
  AM (AU c.prog c.w) A (call (.builtin "dict.get") [.ref a,u]) Q E s:=by
 rcases g with⟨p,k,e,f,l⟩ | ⟨p,k,b,e,f,r,l⟩;subst f;have(z,hd,vs,rel,d):=gI I.hok e;refine OV SN d.typeIs WQ (WT _ _) (meets_dict_get (BJ c.prog c.w) a (eV m) hd) (_,d.mapOf,h _ _ (I.tok _) ?_);erw[l];exact(rel.val k).getD rfl;subst f;cases (show u=Bf b from m);have(z,hd,xs,rel,d):=gV I.hok e;refine OV SN d.typeIs WQ (WT _ _) (meetsH_dict_get (Ez (BJ c.prog c.w)) a b hd) (LL q,k,xs,fg I.hok r,d,h _ _ (I.tok _) ?_);erw[l];exact(rel.val k).getD rfl
def XY(e ty:TE):TE:=λb H Q=>e b H λx d=>∃a,x=.ref a/\RG d a/\ty b d λy c=>∃o,DV c a y o/\Q (o.getD .Al) c
def XU(f ty:TE):TE:=λc H Q=>f c H λx e=>∃a,x=.ref a/\RG e a/\ty c e λy d=>∃b k v,d a=AA (.dK b)/\y=kV k/\A9 b k=AA v/\Q v (upd d a (.dK (JN b k)))
def tw(z:b.A.units+1<ES)(A:PE b o j)(B:PE b e ty)(m:M1 b o "get" apos e C):PE b (.Call (.Attribute o "get" apos) [e] [] C) (XY j ty):=by
 intro pins s c H Q I h;refine ON m.base m.few m.line Oh SN PySem.F.type_dict_get (aK (A pins s c H _ I h) λu n i=>?_);have(x,J,f,q,a,ex,d,v):=i;subst ex;obtain rfl:u=Bf a:=q;have(l,k,_):=pV f d;refine(l,k,?_);erw[m.trees];refine SR rfl (SQ (Kc (aK (B pins n c J _ f v) λT N (y,G,E,p,O,g,t)=>Kb ?_)));exact yV z E g p λL M D r=>(_,G,D,r,t)
def tj(B:PE b o i)(C:PE b e ty)(m:M1 b o "pop" apos e G):PE b (.Call (.Attribute o "pop" apos) [e] [] G) (XU i ty):=by
 intro pins s c H Q I h;refine ON m.base m.few m.line Oh WJ PySem.F.type_dict_pop (aK (B pins s c H _ I h) λu p g=>?_);have(x,M,f,r,a,ex,d,A):=g;subst ex;obtain rfl:u=Bf a:=r;have(n,j,_):=pV f d;refine(n,j,?_);erw[m.trees];refine SR rfl (SQ (Kc (aK (C pins p c M _ f A) λY T (y,ab,L,q,U,k,v,E,D,l,z)=>Kb ?_)));subst D;exact yR L E q l (.inl rfl) λN O J t=>(v,_,J,t,z)
def ww:Mq (.type "list") "keys"=pure AB:=am_miss_of_fast (by first|decide +kernel|rfl)
def jA:entryFor table "dict.update.loop"=AA Builtin.«dict.update.loop»:=entryFor_of_tree (by kernel_rfl)
def fM:plainId "dict.update.loop"=AC:=by decide +kernel
def oo{Q:Option AI->AO->Prop}(l:s.heap.get? a=AA o)(p:o.cls=.type "list")(m:o.data=.seq xs k)(n:o.dict=AB)(x:A.handled=AB)(h:∀h' tk,(∀b j,s.heap.get? b=AA j->h'.get? b=AA j)->Q AB {s with heap:=h',toks:=tk}):AM (AU prog w) A (getAttr? (.ref a) "keys") Q E s:=by
 have(c,G,H,r):=o;simp only at p m n;subst p m n;have(t,g,d,tk,os):=s;have q:∀i,((t,g,d,i,os):AO).TypeIs (.ref a) "list":=λ_=>(_,l,rfl);have v:=ww;have u:(["__module__","__name__","__qualname__","__doc__","__annotations__"]:List Str).contains "keys"=AF:=by decide +kernel
 have hsz:("keys":Str).length+100<=Ae:=by first|size_fits|decide +kernel
 have f1:=sub_AttributeError;have D:=SM.lookup;have C:=SM.bind (.ref a);have B:=am_list_getattr_none;unfold getAttr? getAttrBy? getAttrBy
 repeat (any_goals (first|assumption|exact q _| ((with_reducible show AM _ _ (call (Value.builtin "list.__getattribute__") _ _) _ _ _);refine LO SM (q _) am_entry_list_getattribute (PySem.F.args_list_getattribute_2 _ _) (meets_getattribute_miss_list a xs k r "keys" _ v u hsz) (l,x,λh' i e f=>?_)) |wp_step))
 have(t',y,z):=f.there;show AM _ _ (getattributeRaised _ _ _ _ _ _ _) _ _ _;unfold getattributeRaised
 repeat (any_goals (first|assumption|wp_step))
 all_goals first|exact h _ _ f.keeps| (dsimp only;repeat (any_goals (first|assumption|exact h _ _ f.keeps|wp_step)))
def mf{R:Result->AO->Prop}{S:AD}(G:A.handled=AB)(E:l≠I)(h:S≠I)(M:S≠l):
  ∀(rest:List (Key×AI)) (i:Nat) (acc:List (Key×AI)) (d:Int) (t:Tok) (s:AO),items.size=i+rest.length->acc.length+rest.length<=Ae->
   (∀(j:Nat) (q:Key×AI),rest[j]? =AA q->∃(b:AD) (u:AI),items[i+j]? =AA (.ref b)/\b≠S/\b≠I/\IsTup s.heap b #[u,q.2]/\Fh q.1 u=AC)->
   s.heap.IsListIter I l i->s.heap.IsList l items->s.heap.DictOf (BJ prog w) S acc->
   (∀h' tk,h'.DictOf (BJ prog w) S (merged acc rest)->(∀b o,b≠S->b≠I->s.heap.get? b=AA o->h'.get? b=AA o)->R (.ok (.ret res)) {s with heap:=h',toks:=tk})->
   IS (AU prog w) A (.builtin "dict.update.loop" ([.ref S,.ref I,.int d t,res],[])) R s
 | [],i,acc,d,t,s,hsz,D,p,hit,g,r,y=>by
  refine OU jA ?_;erw[Oo fM _];show AM _ A.in1 (Hd (.ref I)>>=_) _ _ s;refine AT (Rv (A:=A.in1) G hit g (by first|exact XF (LY hsz) | (simp at hsz;simp;lia)) λh' H=>?_);show AM _ A.in1 (Wb S []>>=_) _ _ _;refine AT (BM (BM ?_));exact y h' s.toks (r.extBut H h) λb o _ v e=>H b o v e
 |q::rest,i,acc,d,t,s,hsz,D,p,hit,g,r,y=>by
  have(b,u,v,b0,bl,aj,a3):=p 0 q rfl;rw[AS]at hsz D;refine OU jA ?_;erw[Oo fM _];show AM _ A.in1 (Hd (.ref I)>>=_) _ _ s;refine AT (Ru (x:=.ref b) hit g (by simpa using v) λB a4 a=>?_);have an:IsTup B b #[u,q.2]:=aj.extBut a.extBut bl;have a1:B.IsList l items:=g.extBut a.extBut E;have a0:B.DictOf (BJ prog w) S acc:=r.extBut a.extBut h;have(o,C,a6,n,hd):=id an;show AM _ A.in1 (GY [Bf b] _>>=_) _ _ _;refine AT (Jc ?_);refine AT (wpAny_tryCatch ?_);unfold Wa;refine AT (Mh (T:="tuple") (o,C,a6) ?_);erw[AJ (by first|decide|rfl|simp)];refine AT (IP C hd (BM ?_));show AM _ A.in1 (GY [u,q.2] (dictSet S u q.2)) _ _ _;refine Jc (wpAny_dictSet_pairs (knd:=BJ prog w) (k:=q.1) a3 a0 (λb1 av f=>?_) ());refine BM (KO fM _,mf (items:=items) G E h M rest (i+1) (stored acc q.1 q.2) (d+1) 0 _ (show items.size=i+1+rest.length by lia) ?_ (λj U e=>?_) ?_ ?_ av λh' tk a5 k=>?_);have z:=stored_length_le acc q.1 q.2;lia;have(bs,Q,bm,J,L,ab,a2):=p (j+1) U (by simpa using e);refine(bs,Q,?_,J,L,(ab.extBut a.extBut L).extBut f.extBut J,a2);erw[show i+1+j=i+ (j+1) by lia];exact bm;exact a4.at λY e=>f.extBut I Y (Fp h) e;exact a1.extBut f.extBut (Fp M);exact y h' tk a5 λc m O N e=>k c m O N (f.extBut c m O (a.extBut c m N e))
def yn{Q:AI->AO->Prop}(x:A.handled=AB)(f:s.heap.get? l=AA ol)(m:ol.cls=.type "list")(L:ol.dict=AB)(y:ol.data=.seq items n)(hsz:items.size=prs.length)(J:prs.length<=Ae)(H:∀(j:Nat) (q:Key×AI),prs[j]? =AA q->∃(b:AD) (u:AI),items[j]? =AA (.ref b)/\IsTup s.heap b #[u,q.2]/\Fh q.1 u=AC)(h:∀h' tk,h'.DictOf (BJ prog w) s⁻¹ (merged [] prs)->(∀b o,s.heap.get? b=AA o->h'.get? b=AA o)->Q (.ref s⁻¹) {s with heap:=h',toks:=tk}):
  AM (AU prog w) A (call (.type "dict") [.ref l]) Q E s:=by
 refine R0 (Q₁:=λobj p=>obj=.ref s⁻¹/\p={s with heap:=s.heap.push {cls:=.type "dict",data:=.dict #[]}}) WN (WM _) WP (kt_code_dict_new _ (rfl,rfl)) ?_;rintro obj p ⟨rfl,rfl⟩;have i:(s.heap.push {cls:=.type "dict",data:=.dict #[]}).DictOf (BJ prog w) s⁻¹ []:=WH s.heap;have k0:∀b o,s.heap.get? b=AA o->(s.heap.push {cls:=.type "dict",data:=.dict #[]}).get? b=AA o:=λb o e=>BQ _ e;refine(i.typeIs,WS _ _,?_);unfold Builtin.«dict.__init__»;refine AT ?_;unfold WZ;refine AT (Vw i.typeIs ?_);show AM _ _ (pure (AE s⁻¹ [Bf l])) _ _ _;refine BM ?_;show AM _ _ (On "dict.__init__" s⁻¹ (.ref l) [] .none) _ _ _;unfold On;refine AT (Mh (T:="list") (ol,k0 _ _ f,m) ?_);erw[AJ (by first|decide|rfl|simp)];refine AT (oo (k0 _ _ f) m y L x λa D d=>?_);erw[AJ (show (AB:Option AI).isNone=AC from rfl)];refine AT (Mm ?_);have v:a.IsList l items:=(ol,d _ _ (k0 _ _ f),m,n,y);have g:s⁻¹<a.objs.size:=by
  have e:(s.heap.push {cls:=.type "dict",data:=.dict #[]}).get? s⁻¹=AA {cls:=.type "dict",data:=.dict #[]}:=Dq _ rfl;exact BG (d _ _ e)
 refine AT (Mn v ?_);have k2:∀b o,a.get? b=AA o->(a.push {cls:=.type "list_iterator",data:=.fields #[.ref l,.int 0 0]}).get? b=AA o:=λb o e=>BQ _ e;have t:l<s⁻¹:=BG f;have key:=mf (prog:=prog) (w:=w) (A:=A.in1) (R:=wants (λr G=>r=.none/\Q (.ref s⁻¹) G) E) (S:=s⁻¹) (I:=a.objs.size) (l:=l) (items:=items) (res:=Hf) x
  (DU (Ki t g)) (DU g) (IW t) prs 0 [] 0 0
  {s with heap:=a.push {cls:=.type "list_iterator",data:=.fields #[.ref l,.int 0 0]},toks:=D} (by erw[hsz,Gk]) (by erw[Am,Gk];exact J)
  (λj q e=>by
   have(b,u,O,C,N):=H j q e;have B:b<s⁻¹:=C.lt;exact(b,u,by erw[Gk];exact O,DU B,DU (Ki B g),C.keeps λc o z=>k2 _ _ (d _ _ (k0 _ _ z)),N))
  (_,Dq _ rfl,rfl,rfl) (v.at λo e=>k2 _ _ e) ((i.at λo e=>d _ _ e).at λo e=>k2 _ _ e)
  (λh' tk M k=>(rfl,h h' tk M λb o e=>k b o (DU (BG e)) (DU (Ki (BG e) g)) (k2 _ _ (d _ _ (k0 _ _ e)))))
 first
  |exact BM (KO fM _,key)
  |exact AT (BM (BM (KO fM _,key)))
def oR(I:Inv d pins C H s):∀{ps:List AD} {f:List (Key×V)},Hi (λp c=>BB d.K H p [kV c.1,c.2]) ps f->
  ∃prs:List (Key×AI),KV f prs/\prs.length=ps.length/\∀(j:Nat) (q:Key×AI),prs[j]? =AA q->∃(b:AD) (u:AI),ps[j]? =AA b/\IsTup s.heap b #[u,q.2]/\Fh q.1 u=AC
 | _,_,.nil=>([],.nil,rfl,λj q e=>by simp at e)
 | _,_,.cons (a:=p) (b:=c) h t=>by
  have(prs,r,o,n):=oR I t;have(its,k,m,_):=I.tuple h;have(u,y,v,l,i):=vals2 k;subst v;refine((AE c.1 y)::prs,.cons (rfl,i) r,by erw[AS,AS,o],λj q e=>?_);cases j with
  |zero=>
   have B:(AE c.1 y)=q:=Ap e;subst B;exact(p,u,rfl,m,eV (P:=d.prog) (w:=d.w) l)
  |succ j=>
   have(b,g,A,z,x):=n j q (by simpa using e);exact(b,g,by simpa using A,z,x)
def iF:∀{ps:List AD} {us:List AI},Vals (ps.map V.ref) us->us=ps.map Bf
 | [],us,r=>by
  rw[BS]at r;cases r;rfl
 |p::ps,us,r=>by
  rw[Ax]at r;cases r with
  |cons h t=>
   cases h;erw[Ax,<-iF t]
def yq(D:d.calm=AC):Fk d (.type "dict") (λxs H Q=>∃(a:AD) (ps:List AD) (c:List (Key×V)),xs=[.ref a]/\AN d.K H a (ps.map V.ref)/\Hi (λp h=>BB d.K H p [kV h.1,h.2]) ps c/\
  ∀p,H p=AB->Q (.ref p) (upd H p (.dK (GD [] c)))):=by
 intro pins s O H xs us Q I r q;obtain⟨a,ps,c,ex,t,x,q⟩:=q;subst ex;obtain⟨u,G,i⟩:=vals1 r;subst G;cases i;obtain⟨its,l,pl,f⟩:=I.list t;have J:=iF l;subst J;rw[AL]at f;obtain⟨prs,rel,g,v⟩:=oR I x;obtain⟨o,n,y,E,hd,B⟩:=pl;refine yn (prs:=prs) (I.ok.hd D) y E hd B (by simp[g]) (by erw[g];exact f) (λj m e=>?_) λh' tk C k=>?_;obtain⟨b,u,N,M,L⟩:=v j m e;exact(b,u,by simp[N],M,L);have z:(s⁻¹==E2)=AF:=JZ.mpr (IW I.big);have A:(GD [] c).length<=Ae:=by
  refine Dj (lF c []) ?_;erw[Am,Gk,rel.length,g];exact f
 exact(.ref s⁻¹,upd H s⁻¹ (.dK (GD [] c)),I.laid (t':=tk) k (Au _) (show Dg d.prog d.w _ _ _ (.dK (GD [] c)) from(A,z,merged [] prs,KV.merge rel .nil,C)),rfl,q _ (I.hok.fresh (Au _)))
def yy:Fm "reversed"=AA (.type "reversed"):=by decide +kernel
def Inv.mh{X:Cx}{pins:List (AD×Obj)}{g:St}{H:Hp}{s:AO}{h':BI}{t':Nat}{ch:List AD}(I:Inv X pins g H s)(k:∀b o,b∉ch->s.heap.get? b=AA o->h'.get? b=AA o)(d:∀b∈ch,G1 X pins H b):Inv X pins g H {s with heap:=h',toks:=t'}:=by
 have h:∀b u,H b=AA u->b∉ch:=λb u e z=>by
  have q:=(d b z).1;rw[q]at e;cases e
 refine I.step (g':=s.gens) (d':=s.drawn) (ch:=ch) (λb f=>((d b f).2.2.2.1,(d b f).2.1,(d b f).2.2.2.2.1,(d b f).2.2.2.2.2)) (λb o _ _ a e _=>k b o a e) (λb o _ _ a e _=>(o.slots,k b o a e))
  (λ_ _ _ _ n=>n) (λb o a e=>(o,k b o a e)) (λ_ _ e=>e) (λ_ _ _ e=>e) (λb ps e=>(#[],by erw[e];simp)) (λm j=>?_) (λb u e=>?_) I.bare;have(o,l,p,i,r):=j;exact(o,l,p,k _ o (λz=>(d _ z).2.1 rfl) i,r);refine(I.hok b u e).stay (λc v a q=>k c v ?_ q) (λ_ q=>q) λ_ _ q=>q;rcases a with z|z;erw[z];exact h b u e;exact h c _ z
def Inv.jB{X:Cx}{pins:List (AD×Obj)}{i:St}{H:Hp}{s:AO}{h':BI}{t':Nat}{ch:List AD}{T:AD}{h:HO}(I:Inv X pins i H s)(k:∀b o,b∉ch->s.heap.get? b=AA o->h'.get? b=AA o)(f:∀b∈ch,G1 X pins H b)(l:s⁻¹<=T)
  (new:Dg X.prog X.w (upd H T h) h' T h):Inv X pins i (upd H T h) {s with heap:=h',toks:=t'}:=by
 have g:H T=AB:=I.hok.fresh l;have j:∀b u,H b=AA u->b∉ch:=λb u e z=>by
  have q:=(f b z).1;rw[q]at e;cases e
 refine I.step (g':=s.gens) (d':=s.drawn) (ch:=ch) (λb d=>((f b d).2.2.2.1,(f b d).2.1,(f b d).2.2.2.2.1,(f b d).2.2.2.2.2)) (λb o _ _ a e _=>k b o a e) (λb o _ _ a e _=>(o.slots,k b o a e))
  (λb o _ e n=>?_) (λb o a e=>(o,k b o a e)) (λb xs e=>?_) (λb o u e=>?_) (λb ps e=>(#[],?_)) (λm t=>?_) (λb u e=>?_) I.bare;erw[aC (DU (E5 (BG e) l))];exact n;erw[aC (aT e g)];exact e;erw[aC (aT e g)];exact e;erw[aC (aT e g),e];simp;have(o,x,y,p,r):=t;exact(o,x,y,k _ o (λz=>(f _ z).2.1 rfl) p,r);by_cases d:b=T;subst d;rw[aB]at e;cases e;exact new;rw[aC d]at e;refine(I.hok b u e).stay (λc v a q=>k c v ?_ q) (λc q=>by erw[aC (aT q g)];exact q) λc xs q=>by erw[aC (aT q g)];exact q
 rcases a with z|z;erw[z];exact j b u e;exact j c _ z
def Inv.lock(I:Inv f pins g H s)(h:H d=AA u)(c:Ik (AA u)):∃a,Inv f pins g (upd H d (.BA a u)) s:=by
 have x:=I.hok d u h;have ex:∃a,s.heap.get? d=AA a:=by
  cases u with
  |lst xs=>have(_,_,_,_,e):=x;exact(_,e)
  |dK i=>have(_,_,_,_,o,_,_,e,_):=x;exact(o,e)
  |dT i=>have(_,_,_,_,o,_,_,e,_):=x;exact(o,e)
  |set S n=>have(o,_,_,_,e,_):=x;exact(o,e)
  |ins C k fs=>have(_,_,_,e,_):=x;exact(_,e)
  |ext j=>have(_,(_,e),_):=x;exact(_,e)
  | _=>exact GA c
 have(a,e):=ex;have new:Dg f.prog f.w (upd H d (.BA a u)) s.heap d (.BA a u):=by
  refine(e,x.stay (λb v _ q=>q) (λb q=>?_) λb xs q=>?_);erw[aC (λz=>by rw[z,h]at q;cases q;exact c)];exact q;erw[aC (λz=>by rw[z,h]at q;cases q;exact c)];exact q
 exact(a,I.write (x:=d) (e:=d) (t':=s.toks) (h':=s.heap) (by erw[h];exact c) (.inl rfl) (λb v _ q=>q) (a,e) new)
def Inv.iN(I:Inv f pins g H s)(h:H d=AA u)(c:Ik (AA u)):∀b a,f.J6 d≠AA (.BA b a):=λb a e=>by
 have q:=I.base.HL d b a e;rw[h]at q;cases q;exact c
def Inv.unlock(I:Inv k pins l H s)(h:H d=AA (.BA B u))(A:∀g f,k.J6 d≠AA (.BA g f)):Inv k pins l (upd H d u) s:=by
 have a:∀b o,H b=AA o->(∀g f,o≠.BA g f)->b≠d:=λb o e y z=>by
  rw[z,h]at e;cases e;exact y _ _ rfl
 have neN:∀b,H b=AB->b≠d:=λb e z=>by rw[z,h]at e;cases e
 refine(I.ok,I.os,I.bare,(I.base.keep,I.base.slot,λb o e n j=>?_,I.base.there,λb xs e=>?_,λb o x e=>?_,λb ps e=>?_),I.loc,I.cell,?_,λx c e=>?_,λp t=>?_,λb o e=>?_,I.len);erw[aC (neN b (I.base.free b o e n j))];exact I.base.free b o e n j;have q:=I.base.tups b xs e;erw[aC (a b _ q (λ_ _ z=>nomatch z))];exact q;have q:=I.base.HL b o x e;erw[aC (λz=>by rw[z]at e;exact A _ _ e)];exact q;have(m,q):=I.base.Hr b ps e;exact(m,by erw[aC (a b _ q (λ_ _ z=>nomatch z))];exact q);erw[aC (neN _ I.free)];exact I.free;erw[aC (neN c (I.Gc x c e))];exact I.Gc x c e;have(e,n,r):=I.pin p t;exact(e,by erw[aC (neN _ n)];exact n,r);by_cases i:b=d;rw[i,aB]at e;cases e;erw[i];have(_,x):=I.hok d _ h;exact x.stay (λc v _ q=>q) (λc q=>by erw[aC (a c _ q (λ_ _ z=>nomatch z))];exact q) λc xs q=>by erw[aC (a c _ q (λ_ _ z=>nomatch z))];exact q
 rw[aC i]at e;exact(I.hok b o e).stay (λc v _ q=>q) (λc q=>by erw[aC (a c _ q (λ_ _ z=>nomatch z))];exact q) λc xs q=>by erw[aC (a c _ q (λ_ _ z=>nomatch z))];exact q
def XR(t:TS):TS:=λD e H=>∃d u,H d=AA u/\Ik (AA u)/\∀c,t (λb a=>a d=AA (.BA c u)/\D.nx b (upd a d u),λv a=>a d=AA (.BA c u)/\D.rt v (upd a d u),λb a=>a d=AA (.BA c u)/\D.bk b (upd a d u),λb a=>a d=AA (.BA c u)/\D.ct b (upd a d u)) e (upd H d (.BA c u))
def XQ(t:TE):TE:=λc H Q=>∃d u,H d=AA u/\Ik (AA u)/\∀a,t c (upd H d (.BA a u)) λv b=>b d=AA (.BA a u)/\Q v (upd b d u)
def kM(h:PS l j t):PS l j (XR t):=by
 intro pins s i H D I hw;have(d,u,hd,c,hw):=hw;have(k,m):=I.lock hd c;refine aK (h pins s i _ _ m (hw k)) λf n q=>?_;cases f with
 |next=>have(a,g,b,e,q):=q;exact(a,_,b.unlock e (I.iN hd c),q)
 |brk=>have(a,g,b,e,q):=q;exact(a,_,b.unlock e (I.iN hd c),q)
 |cont=>have(a,g,b,e,q):=q;exact(a,_,b.unlock e (I.iN hd c),q)
 |ret v=>have(x,a,g,b,r,e,q):=q;exact(x,a,_,b.unlock e (I.iN hd c),r,q)
def oK(h:PE i e t):PE i e (XQ t):=by
 intro pins s b H Q I hw;have(d,u,hd,a,hw):=hw;have(f,k):=I.lock hd a;refine aK (h pins s b _ _ k (hw f)) λv l c=>?_;have(x,m,j,r,g,q):=c;exact(x,_,j.unlock g (I.iN hd a),r,q)
def kU{R:It->Hp->Prop}(I:Inv a pins f H s)(o:Obj)(T:Turn a.prog a.w a.K g d [s⁻¹] s⁻¹ c)(h:c 0 (s.heap.push o))(q:R d H):MU a pins f g R (.ref s⁻¹) {s with heap:=s.heap.push o,toks:=tk}:=by
 refine(s⁻¹,[s⁻¹],c,d,H,rfl,I.kept λb j e=>BQ _ e,T,h,λb i=>?_,q);have e:b=s⁻¹:=by simpa using i
 subst e;exact I.gF (Au _) (I.hok.fresh (Au _))
def MX(lo c:Int)(n:Nat):It:=(λi _=>i<n,λi H x a=>a=H/\x=.int (lo+ (i:Nat) * c),λi _=>n<=i)
def rc(it:AD)(lo c:Int)(n:Nat):Turn J w L G (MX lo c n) [it] it (λi h=>Oc h it (lo+ (i:Nat) * c) ((n:Int) - (i:Nat)) c) where
 mem:=by simp
 obj:=λi h st b a=>by
  have e:b=it:=by simpa using a
  subst e;exact(_,st,λv z=>nomatch z)
 keep:=λi h h' st k=>k it (by simp) _ st
 item:=by
  intro X j hw l g i pins s u H E I d st f;subst j hw l;have(r,f1,f2,q,p,m):=d it (by simp);have W:=Walks.range (prog:=X.prog) (w:=X.w) (I.ok.hd g) it lo c n;refine W.item i s _ _ f st λv h' tk B x y=>?_;obtain⟨t,rfl⟩:=B;have D:Inv X pins u H {s with heap:=h',toks:=tk}:=I.turned (λb o a e=>y b o (by simpa using a) e) r f1 q p m;exact(_,rfl,ii (s:={s with heap:=h',toks:=tk}) (n:="range_iterator") x rfl rfl (by decide) (.int (lo+ (i:Nat) * c),H,D,(t,rfl),(rfl,rfl),x,λb a=>(d b a).1))
 done:=by
  intro X j hw l g i pins s u H E I d st f;subst j hw l;have(r,f1,f2,q,p,m):=d it (by simp);exact Vu (I.ok.hd g) st (by have:n<=i:=f;lia) λh' C=>(rfl,I.turned (t':=s.toks) (λb o a e=>C b o a e) r f1 q p m)
 self:=λA i s Q E st h=>Vv st h
def N9(i j c:Int)(n:Nat):Prop:=c≠0/\c.natAbs<1073741824/\Builtin.Range.small i j c=AC/\SS i j c=n
def N9.neg(d: -(2 ^ 62)<=i)(c:i<2 ^ 62)(b: -(2 ^ 62)<=j)(a:j<2 ^ 62):N9 i j (-1) (i - j).toNat:=
 (by decide,by decide,PySem.W.small_down d c b a,PySem.W.rangeSize_downNat i j)
def Y0(b:TA):TI:=λa H R=>b a H λvs d=>∃(i j c:Int) (n:Nat),vs=[.int i,.int j,.int c]/\N9 i j c n/\R (MX i c n) d
def tN(D:Gl d "range")(C:d.mg "range"=AB)(E:PA d [a,b,c] u)(A:BE [a,b,c] d.env=(AE AF (eval a d.env))::BE [b,c] d.env:=by rfl)(B:(EG pos (BE [b,c] d.env)).any (·.1)=AF:=by rfl):
  PI d Y (.Call (.Name "range" p) [a,b,c] [] pos) (Y0 u):=by
 intro pins s l H R I h;refine Call_ (eK I D C Op (Hk (aK (E pos pins s l H _ I h) λus g m=>?_) A B));have(vs,U,T,x,z):=m;have(i,j,k,n,e,(O,N,M,L),q):=z;subst e;cases x with
 |cons r f=>
  cases f with
  |cons r' f=>
   cases f with
   |cons y f=>
    cases f;obtain⟨t,rfl⟩:=r;obtain⟨t',rfl⟩:=r';obtain⟨v,rfl⟩:=y;refine call_range_3 O ?_ (.inl (Wc N));refine wpAny_pyIter_range (SH ..) M ?_;have Q:Inv d pins l U {g with heap:=g.heap.push {cls:=.type "range",data:=.fields #[.int i t,.int j t',.int k v]}}:=T.kept (t':=g.toks) λb o e=>BQ _ e;refine kU (tk:=g.toks) Q _ (rc _ i k n) ?_ q;have J:i+ ((0:Nat):Int) * k=i:=by simp
    have G:(n:Int) - ((0:Nat):Int)=SS i j k:=by erw[L];simp
    show Oc _ _ (i+ ((0:Nat):Int) * k) ((n:Int) - ((0:Nat):Int)) k;erw[J,G];exact Dq _ rfl
def xm{lo c:Int}{n:Nat}{g:TG}{k:TS}{D:Ends}{a:St}{H:Hp}(Pv:Nat->St->Hp->Prop)(q:Pv 0 a H)
  (o:∀i a H,i<n->Pv i a H->g (.int (lo+ (i:Nat) * c)) a H λd j=>k {D with nx:=Pv (i+1),ct:=Pv (i+1),bk:=D.nx} d j)(hd:∀a H,Pv n a H->D.nx a H):
  ∃W:Nat->Nat->St->Hp->Prop,(∃m,W 0 m a H)/\∀i m a H,W i m a H->
   ((MX lo c n).stop i H/\D.nx a H)\/((MX lo c n).go i H/\∃N:St->Hp->Prop,(∀f b,N f b->∃m',m'<m/\W (i+1) m' f b)/\∀x b,(MX lo c n).EK i H x b->g x a b λd j=>k {D with nx:=N,ct:=N,bk:=D.nx} d j):=by
 refine(λi m a H=>m=n - i/\i<=n/\Pv i a H,(n,by simp,DR _,q),?_);rintro i m a H ⟨rfl,r,p⟩;by_cases h:i<n;refine .inr (h,Pv (i+1),λf b l=>(n - (i+1),by lia,rfl,h,l),λx b y=>?_);obtain⟨e,y⟩:=y;subst e y;exact o i a _ h p;have e:i=n:=by lia
 subst e;exact .inl (Au _,hd a H p)
def pN{κ:Type}{c:List (κ×V)}{vs:List (κ×AI)}(h:KV c vs):∀{i:Nat} {k:κ} {v:V},c[i]? =AA (AE k v)->∃u,vs[i]? =AA (AE k u)/\RelV v u:=by
 unfold KV at h;induction h with
 |nil=>intro i k v e;simp at e
 | @cons a b g f r t d=>
  intro i k v e;cases i with
  |zero=>
   simp only[Bo,Cq]at e;subst e;refine(b.2,?_,r.2);simp only[Bo];exact congrArg AA (Mz r.1.symm rfl)
  |succ j=>
   simp only[Ba]at e|-;exact d e
def sr(h:Fh k u=AC):RelV (kV k) u:=by
 rcases eB h with⟨i,t,rfl,rfl⟩ | ⟨x,t,rfl,rfl⟩;exact(t,rfl);exact(t,rfl)
def Inv.hJ(I:Inv j pins m H s)(h:H d=AA (.BA o (.dK c))):
  (d==E2)=AF/\s.heap.get? d=AA o/\o.ExactDict/\∃(a:Array Ka) (b:Nat) (vs:List (Key×AI)),o.data=.dict a b/\a.size=c.length/\KV c vs/\s.heap.DictAt (BJ j.prog j.w) d vs b:=by
 have(hd,z,l,vs,e,n,a,b,g,f,i,r):=I.hok d _ h;rw[hd]at g;cases g;refine(l,hd,f,a,b,vs,i,?_,e,o,a,hd,f,i,r);have k:=r.2.1.length;have p:c.length=vs.length:=Hh e;rw[JE]at k;lia
def JU(d:AD)(o:Obj)(a:List (Key×V)):It:=
 (λi H=>H d=AA (.BA o (.dK a))/\i<a.length,λi H x b=>b=H/\∃k,a[i]? =AA (AE k x),λi H=>H d=AA (.BA o (.dK a))/\a.length<=i)
def JT(d:AD)(o:Obj)(a:List (Key×V)):It:=
 (λi H=>H d=AA (.BA o (.dK a))/\i<a.length,λi H x b=>∃T k v,a[i]? =AA (AE k v)/\x=.ref T/\H T=AB/\b=upd H T (.tup [kV k,v]),λi H=>H d=AA (.BA o (.dK a))/\a.length<=i)
def jh{o:Obj}(h:o.data=.dict b d)(h':o.data=.dict a c):a=b/\c=d:=by
 rw[h]at h';cases h';exact(rfl,rfl)
def rZ(it:AD)(N:o.data=.dict bl a3):Turn bm w bs a6 (JU d o f) [it] it (λi h=>h.IsValIter it d i f.length a3) where
 mem:=by simp
 obj:=λi h st b a=>by
  have e:b=it:=by simpa using a
  subst e;have(g,e,c,G):=st;exact(g,e,λv z=>by rw[G]at z;cases z)
 keep:=λi h h' st k=>st.at λg e=>k it (by simp) g e
 item:=by
  intro X t hw x U i pins s J H E I m st q;subst t hw x;have(hd,T):=q;have(D,f1,f2,C,B,y):=m it (by simp);have(av,a0,aj,a1,a2,vs,r,hsz,j,n):=I.hJ hd;obtain⟨rfl,rfl⟩:=jh N r;obtain⟨⟨k,v⟩,O⟩:∃p,f[i]? =AA p:=(f[i],AX T);have(u,an,ab):=pN j O;have l:f.length=vs.length:=Hh j;rw[l]at st;refine wpAny_pyNext_values_item st n an λh' L Y=>?_;have a5:Inv X pins J H {s with heap:=h'}:=I.turned (t':=s.toks) (λb M a e=>(Y.2 b a).trans e) D f1 C B y;have(g,e,c,G):=id L;refine(u,rfl,ii (s:={s with heap:=h'}) e c G (by decide) (v,H,a5,ab,(rfl,k,O),?_,λb a=>(m b a).1));show h'.IsValIter it d (i+1) f.length _;erw[l];exact L
 done:=by
  intro X t hw x U i pins s J H E I m st q;subst t hw x;have(hd,T):=q;have(D,f1,f2,C,B,y):=m it (by simp);have(av,a0,aj,a1,a2,vs,r,hsz,j,n):=I.hJ hd;obtain⟨rfl,rfl⟩:=jh N r;have l:f.length=vs.length:=Hh j;rw[l]at st;exact wpAny_pyNext_values_end (I.ok.hd U) st n (HD ()) λh' a4=>(rfl,I.turned (t':=s.toks) (λb M a e=>a4 b M a e) D f1 C B y)
 self:=λA i s Q E st h=>wpAny_pyIter_valiter st h
def rg(it:AD)(G:o.data=.dict b5 bs):
  Turn b7 w ca (.Tuple b6 b3 b2) (JT d o g) [it] it (λi h=>∃ok c,IsItemIter h it d i g.length bs ok c) where
 mem:=by simp
 obj:=λi h st b a=>by
  have e:b=it:=by simpa using a
  subst e;have(ok,c,e):=st;exact(_,e,λv z=>nomatch z)
 keep:=λi h h' st k=>let(ok,c,e):=st;(ok,c,k it (by simp) _ e)
 item:=by
  intro X x hw y N i pins s C H E I m st r;subst x hw y;have(hd,M):=r;have(Y,av,T,bl,bm,vs,t,hsz,j,q):=I.hJ hd;obtain⟨rfl,rfl⟩:=jh G t;obtain⟨⟨k,v⟩,L⟩:∃p,g[i]? =AA p:=(g[i],AX M);have(u,U,O):=pN j L;have l:g.length=vs.length:=Hh j;have(ok,c,f):=st;rw[l]at f;have J:it<s⁻¹:=BG f;refine wpAny_pyNext_items_item f q U λkey h' aj ab a2 b4 an=>?_;refine(_,rfl,wpAny_letOwnedTupleGo_items (s:={s with heap:=h'}) ab λB a0 D=>?_);have a1:B.get? s⁻¹=AA {cls:=.type "tuple",data:=.seq #[key,u]}:=(D.2 _ (IW J)).trans a2;have new:Dg X.prog X.w (upd H s⁻¹ (.tup [kV k,v])) B s⁻¹ (.tup [kV k,v]):=
   (by show 2<=Ae;decide,[key,u],.cons (sr (show Fh k key=AC from aj)) (.cons O .nil),(_,a1,rfl,_,rfl));have b1:Inv X pins C (upd H s⁻¹ (.tup [kV k,v])) {s with heap:=B}:=
   I.jB (t':=s.toks) (ch:=[it]) (λb n a e=>(D.2 b (by simpa using a)).trans (an b n (by simpa using a) e)) m (Au _) new;refine(.ref s⁻¹,_,b1,rfl,(_,k,v,L,rfl,I.hok.fresh (Au _),rfl),(key,u,?_),λb a=>?_);erw[l];exact a0;have e:b=it:=by simpa using a
  erw[e,aC (DU J)];exact(m it (by simp)).1
 done:=by
  intro X x hw y N i pins s C H E I m st r;subst x hw y;have(hd,M):=r;have(a6,f1,f2,a5,a4,a3):=m it (by simp);have(Y,av,T,bl,bm,vs,t,hsz,j,q):=I.hJ hd;obtain⟨rfl,rfl⟩:=jh G t;have l:g.length=vs.length:=Hh j;have(ok,c,f):=st;rw[l]at f;exact wpAny_pyNext_items_end (I.ok.hd N) f q (HD ()) λh' b0=>(rfl,I.turned (t':=s.toks) (λb n a e=>b0 b n a e) a6 f1 a5 a4 a3)
 self:=λA i s Q E st h=>let(_,_,e):=st;PySem.W.kcp_self e h
def Yy(e:TE):TI:=λc H R=>e c H λx b=>∃d o a,x=.ref d/\b d=AA (.BA o (.dK a))/\R (JU d o a) b
def Y4(e:TE):TI:=λc H R=>e c H λx b=>∃d o a,x=.ref d/\b d=AA (.BA o (.dK a))/\R (JT d o a) b
def oG(z:PE a e m)(B:KQ e "values" a.env (eval e a.env)=eval e a.env:=by rfl)(v:(apos.endLine==i.line)=AC:=by rfl):PI a l (.Call (.Attribute e "values" apos) [] [] i) (Yy m):=by
 intro pins s g H R I h;refine ON (T:="dict") (id:="dict.values") B rfl v Oh F.slot_dict_values F.type_dict_values (aK (z pins s g H _ I h) λu c k=>?_);have(x,D,j,n,d,o,p,ex,hd,q):=k;subst ex;obtain rfl:u=Bf d:=n;have(t,J,G,L,M,vs,A,hsz,r,f):=j.hJ hd;have y:p.length=vs.length:=Hh r;refine(f.dictOf.typeIs,f.dictOf.mapOf.noDict,?_);have C:Inv a pins g D {c with heap:=c.heap.push {cls:=.type "dict_values",data:=.fields #[.ref d]}}:=j.kept (t':=c.toks) λb E q=>BQ _ q;have fin:AM (AU a.prog a.w) a.A (pyIter (.ref c⁻¹)) (MU a pins g l R) a.xe {c with heap:=c.heap.push {cls:=.type "dict_values",data:=.fields #[.ref d]}}:=by
  refine wpAny_pyIter_values (d:=d) (knd:=BJ a.prog a.w) (_,Dq _ rfl,rfl,rfl) (f.push _) (kU (tk:=c.toks) C _ (rZ _ A) (_,Dq _ rfl,rfl,?_) q);erw[y]<;>rfl
 show AM _ _ (Jh i (.builtin "dict.values") [.ref d] [] []) _ a.xe c;exact method_meetsIn F.slot_dict_values F.entry_dict_values rfl (Vz (rfl,f.dictOf.typeIs,F.args_dict_values_1 _,_,meets_dict_values (BJ a.prog a.w) d t,(vs,f.dictOf),fin))
def kW(A:PE a e m)(C:KQ e "items" a.env (eval e a.env)=eval e a.env:=by rfl)(y:(apos.endLine==i.line)=AC:=by rfl):
  PI a (.Tuple D t l) (.Call (.Attribute e "items" apos) [] [] i) (Y4 m):=by
 intro pins s g H R I h;refine ON (T:="dict") (id:="dict.items") C rfl y Oh F.slot_dict_items F.type_dict_items (aK (A pins s g H _ I h) λu c k=>?_);have(x,G,j,n,d,o,p,ex,hd,q):=k;subst ex;obtain rfl:u=Bf d:=n;have(v,M,L,N,O,vs,B,hsz,r,f):=j.hJ hd;have z:p.length=vs.length:=Hh r;refine(f.dictOf.typeIs,f.dictOf.mapOf.noDict,?_);have E:Inv a pins g G {c with heap:=c.heap.push {cls:=.type "dict_items",data:=.fields #[.ref d]}}:=j.kept (t':=c.toks) λb J q=>BQ _ q;have fin:AM (AU a.prog a.w) a.A (pyIter (.ref c⁻¹)) (MU a pins g (.Tuple D t l) R) a.xe {c with heap:=c.heap.push {cls:=.type "dict_items",data:=.fields #[.ref d]}}:=by
  refine wpAny_pyIter_items (d:=d) (knd:=BJ a.prog a.w) (_,Dq _ rfl,rfl,rfl) (f.push _) (kU (tk:=c.toks) E _ (rg _ B) (.none,.none,?_) q);erw[z];exact Dq _ rfl
 show AM _ _ (Jh i (.builtin "dict.items") [.ref d] [] []) _ a.xe c;exact method_meetsIn F.slot_dict_items F.entry_dict_items rfl (Vz (rfl,f.dictOf.typeIs,F.args_dict_items_1 _,_,meets_dict_items (BJ a.prog a.w) d v,(vs,f.dictOf),fin))
def HX(b:Ao)(a:AD):It:=
 (λi H=>∃(xs:List V) (x:V),AN b H a xs/\xs[i]? =AA x,λi H v c=>∃T x,v=.ref T/\H T=AB/\c=upd H T (.tup [.int (i:Nat),x])/\∀xs,AN b H a xs->xs[i]? =AA x,λi H=>∃xs:List V,AN b H a xs/\xs.length<=i)
def rh(a e it:AD):
  Turn b5 w bs (.Tuple b4 b2 b1) (HX bs a) [e,it] e (λi h=>(∃old,IsEnum h e it ((i:Nat):Int) old)/\h.IsListIter it a i/\e≠it) where
 mem:=by simp
 obj:=λi h st b d=>by
  have((old,c),(o,r,y,hd),_):=st;have G:b=e\/b=it:=by simpa using d
  rcases G with z|z;erw[z];exact(_,c,λv q=>nomatch q);erw[z];exact(o,r,λv q=>by rw[hd]at q;cases q)
 keep:=λi h h' st k=>let((old,c),an,f):=st;((old,k e (by simp) _ c),an.at λo q=>k it (by simp) o q,f)
 item:=by
  intro X B hw C y i pins s J H E I j st t;subst B hw C;have((old,c),hit,f):=st;have(xs,x,g,n):=t;have(its,m,p,O):=I.list g;have(u,U,M):=m.get n;have L:e<s⁻¹:=BG c;have aj:it<s⁻¹:=by have(_,q,_):=hit;exact BG q
  refine wpAny_pyNext_enum_item c hit p.isList (x:=u) (by simpa using U) f λh' r ab a2 hsz Y=>?_;refine(_,rfl,wpAny_letOwnedTupleGo_enum (s:={s with heap:=h',toks:=s.toks+1}) r λD av l=>?_);have a1:D.get? s⁻¹=AA {cls:=.type "tuple",data:=.seq #[.int i s.toks,u]}:=(l.2 _ (IW L)).trans a2;have new:Dg X.prog X.w (upd H s⁻¹ (.tup [.int (i:Nat),x])) D s⁻¹ (.tup [.int (i:Nat),x]):=
   (by show 2<=Ae;decide,[.int i s.toks,u],.cons (_,rfl) (.cons M .nil),(_,a1,rfl,_,rfl));have b0:Inv X pins J (upd H s⁻¹ (.tup [.int (i:Nat),x])) {s with heap:=D,toks:=s.toks+1}:=
   I.jB (ch:=[e,it]) (λb N d q=>(l.2 b (λz=>d (by simp[z]))).trans (Y b N (λz=>d (by simp[z])) (λz=>d (by simp[z])) q)) j (Au _) new;refine(.ref s⁻¹,_,b0,rfl,(_,x,rfl,I.hok.fresh (Au _),rfl,λys T=>by erw[I.iQ T g];exact n),((u,?_),ab.at λo q=>(l.2 it (Fp f)).trans q,f),λb d=>?_);have bm:((i+1:Nat):Int)=(i:Int) + 1:=by lia
  erw[bm];exact av;have a0:b<s⁻¹:=by
   have G:b=e\/b=it:=by simpa using d
   rcases G with z|z;erw[z];exact L;erw[z];exact aj
  erw[aC (DU a0)];exact(j b d).1
 done:=by
  intro X B hw C y i pins s J H E I j st t;subst B hw C;have((old,c),hit,f):=st;have(xs,g,n):=t;have(its,m,p,O):=I.list g;have(a6,f1,f2,a5,a4,a3):=j it (by simp);have b3:=m.length;exact wpAny_pyNext_enum_end (I.ok.hd y) c hit p.isList (by simp;lia) λh' bl=>(rfl,I.turned (t':=s.toks) (λb o d q=>bl b o d q) a6 f1 a5 a4 a3)
 self:=λA i s Q E st h=>let((_,c),_):=st;wpAny_pyIter_enum c h
def Y5(b:Ao)(e:TA):TI:=λd H R=>e d H λvs c=>∃a xs,vs=[.ref a]/\AN b c a xs/\R (HX b a) c
def jL[E:Gz d J](B:Gl d "enumerate")(y:d.mg "enumerate"=AB)(D:PA d [e] m)(v:BE [e] d.env=[(AE AF (eval e d.env))]:=by rfl):
  PI d (.Tuple T O M) (.Call (.Name "enumerate" p) [e] [] pos) (Y5 J m):=by
 have e:=E.eq;subst e;intro pins s g H R I h;refine Call_ (eK I B y boot_enumerate (Hk (aK (D pos pins s g H _ I h) λus c l=>?_) v rfl));have(vs,k,f,o,t):=l;have(a,xs,ex,x,q):=t;subst ex;cases o with
 |cons r n=>
  cases n;cases r;have(its,N,u,Q):=f.list x;refine call_enumerate_list u.isList λh' j hit hsz A=>wpAny_pyIter_enum j ?_;have L:Inv d pins g k {c with heap:=h'}:=f.kept (t':=c.toks) A;refine(c⁻¹+1,[c⁻¹+1,c⁻¹],_,_,k,rfl,L,rh a (c⁻¹+1) c⁻¹,((.none,j),hit,Nat.succ_ne_self _),λb C=>?_,q);have G:b=c⁻¹+1\/b=c⁻¹:=by simpa using C
  have i:c⁻¹<=b:=by
   rcases G with z|z;erw[z];exact Iy _ _;erw[z];exact Au _
  exact f.gF i (f.hok.fresh i)
def qm:Fm "zip"=AA (.type "zip"):=by decide +kernel
def JS(c:Ao)(a b:AD):It:=
 (λi H=>∃(xs ys:List V) (x y:V),AN c H a xs/\AN c H b ys/\xs[i]? =AA x/\ys[i]? =AA y,
  λi H v d=>∃T x y,v=.ref T/\H T=AB/\d=upd H T (.tup [x,y])/\(∀xs,AN c H a xs->xs[i]? =AA x)/\∀ys,AN c H b ys->ys[i]? =AA y,
  λi H=>∃xs ys:List V,AN c H a xs/\AN c H b ys/\(xs.length<=i\/ys.length<=i))
def rY(D:LR z t r j g a b):
  Turn dd w c3 (.Tuple c9 c8 c5) (JS c3 a b) [z,t,r,j,g] z (λi h=>Fn h z t r .none/\Ea h t (.ref j) (.ref g)/\(∃x y,Ea h r x y)/\h.IsListIter j a i/\h.IsListIter g b i) where
 mem:=by simp
 obj:=λi h st c T=>by
  have(m,f,(x,y,n),(ca,a3,_,c1),(b7,a2,_,c0)):=st;have a4:c=z\/c=t\/c=r\/c=j\/c=g:=by simpa using T
  rcases a4 with q|q|q|q|q;erw[q];exact(_,m,λv q=>nomatch q);erw[q];exact(_,f,λv q=>nomatch q);erw[q];exact(_,n,λv q=>nomatch q);erw[q];exact(ca,a3,λv q=>by rw[c1]at q;cases q);erw[q];exact(b7,a2,λv q=>by rw[c0]at q;cases q)
 keep:=λi h h' st k=>by
  have(m,f,(x,y,n),G,C):=st;exact(k z (by simp) _ m,k t (by simp) _ f,(x,y,k r (by simp) _ n),G.at λo q=>k j (by simp) o q,C.at λo q=>k g (by simp) o q)
 item:=by
  intro X av hw a0 T i pins s a5 H E I O st an;subst av hw a0;have(m,f,(b4,b3,n),G,C):=st;have(xs,ys,x,y,M,L,bs,bm):=an;have(its,Y,p,_):=I.list M;have(a6,U,ab,_):=I.list L;have(u,ce,b6):=Y.get bs;have(J,cd,b5):=U.get bm;have bl:z<s⁻¹:=BG m;refine wpAny_pyNext_zip_item D m f n G C p.isList ab.isList (x:=u) (y:=J) (by simpa using ce) (by simpa using cd) λh' b2 c2 cr cp co hsz N=>?_;refine(_,rfl,Vx (s:={s with heap:=h'}) b2 λa1 b1 B=>?_);have cm:a1.get? s⁻¹=AA {cls:=.type "tuple",data:=.seq #[u,J]}:=(B.2 _ (IW bl)).trans co;have new:Dg X.prog X.w (upd H s⁻¹ (.tup [x,y])) a1 s⁻¹ (.tup [x,y]):=
   (by show 2<=Ae;decide,[u,J],.cons b6 (.cons b5 .nil),(_,cm,rfl,_,rfl));have c4:Inv X pins a5 (upd H s⁻¹ (.tup [x,y])) {s with heap:=a1}:=
   I.jB (t':=s.toks) (ch:=[z,t,r,j,g]) (λc o e q=>(B.2 c (λd=>e (by simp[d]))).trans (N c o (λd=>e (by simp[d])) (λd=>e (by simp[d])) (λd=>e (by simp[d])) (λd=>e (by simp[d])) q)) O (Au _) new;refine(.ref s⁻¹,_,c4,rfl,(_,x,y,rfl,I.hok.fresh (Au _),rfl,λl aj=>by erw[I.iQ aj M];exact bs,λl aj=>by erw[I.iQ aj L];exact bm),(b1,?_,(u,J,?_),?_,?_),λc b0=>?_);exact(B.2 _ D.TIz).trans (N _ _ D.TIz D.TITO D.TIi1 D.TIi2 f);exact(B.2 _ D.TOz).trans c2;exact cr.at λo q=>(B.2 _ D.i1z).trans q;exact cp.at λo q=>(B.2 _ D.i2z).trans q;have cg:c<s⁻¹:=by
   have a4:c=z\/c=t\/c=r\/c=j\/c=g:=by simpa using b0
   rcases a4 with q|q|q|q|q;erw[q];exact bl;erw[q];exact BG f;erw[q];exact BG n;erw[q];have(_,a3,_):=G;exact BG a3;erw[q];have(_,a2,_):=C;exact BG a2
  erw[aC (DU cg)];exact(O c b0).1
 done:=by
  intro X av hw a0 T i pins s a5 H E I O st an;subst av hw a0;have(m,f,(b4,b3,n),G,C):=st;have(xs,ys,M,L,ci):=an;have(its,Y,p,_):=I.list M;have(a6,U,ab,_):=I.list L;have c7:=Y.length;have c6:=U.length;have ck:its.toArray[i]? =AB\/a6.toArray[i]? =AB:=by
   rcases ci with q|q;exact .inl (by simp;lia);exact .inr (by simp;lia)
  exact wpAny_pyNext_zip_end (I.ok.hd T) D m f n G C p.isList ab.isList ck λh' N=>(rfl,I.mh (t':=s.toks) (ch:=[z,t,r,j,g]) (λc o e q=>
   N c o (λd=>e (by simp[d])) (λd=>e (by simp[d])) (λd=>e (by simp[d])) (λd=>e (by simp[d])) q) O)
 self:=λA i s Q E st h=>OJ st.1 h
def Yx(c:Ao)(f:TA):TI:=λe H R=>f e H λvs d=>∃a b xs ys,vs=[.ref a,.ref b]/\AN c d a xs/\AN c d b ys/\R (JS c a b) d
def tK(L:Gl f "zip")(G:f.mg "zip"=AB)(N:PA f [e,i] v)(B:BE [e,i] f.env=(AE AF (eval e f.env))::BE [i] f.env:=by rfl)(E:(EG pos (BE [i] f.env)).any (·.1)=AF:=by rfl):
  PI f (.Tuple a2 a0 aj) (.Call (.Name "zip" p) [e,i] [] pos) (Yx f.K v):=by
 intro pins s k H R I h;refine Call_ (eK I L G qm (Hk (aK (N pos pins s k H _ I h) λus d u=>?_) B E));have(vs,t,g,x,y):=u;have(a,b,xs,ys,ex,D,C,q):=y;subst ex;cases x with
 |cons r j=>
  cases j with
  |cons r' j=>
   cases j;cases r;cases r';have(its,av,m,_):=g.list D;have(a1,an,l,_):=g.list C;have la:a<d⁻¹:=m.lt;have A:b<d⁻¹:=l.lt;refine call_zip_2 m.isList l.isList λh' n Q O U T hsz J=>OJ n ?_;have ab:Inv f pins k t {d with heap:=h'}:=g.kept (t':=d.toks) J;refine(d⁻¹+4,[d⁻¹+4,d⁻¹+2,d⁻¹+3,d⁻¹,d⁻¹+1],_,_,t,rfl,ab,rY (V2 d⁻¹ a b la A),(n,Q,(_,_,O),U,T),λc M=>?_,q);have Y:c=d⁻¹+4\/c=d⁻¹+2\/c=d⁻¹+3\/c=d⁻¹\/c=d⁻¹+1:=by simpa using M
   have o:d⁻¹<=c:=by
    rcases Y with z|z|z|z|z;erw[z];exact Iy _ _;erw[z];exact Iy _ _;erw[z];exact Iy _ _;erw[z];exact Au _;erw[z];exact Iy _ _
   exact g.gF o (g.hok.fresh o)
abbrev AZ:LI:=λ_ _ _ _ _ _=>False
def gn:Passes AZ a E0:=λ_ _ _ _ _ _ _ h=>h.elim
def Ag.ok{sp:Sp}(m:Ag d x c a f fd)(e:J7 N ps (FW a))(i:∀vs H Q E,sp vs H Q E->vs.length=ps.length)(j:∀(b:AI) (A:Fa) (outer:List Env) (s:AO) (H:Hp) (vs:List V) (Q:VK) (E:XK),DX k (A.deeper (Hj c (FW a) s⁻¹ f b))->sp vs H Q E->
   ∃t,Fw (IC AZ g w d mg base N c (FW a) f b A outer s H E).Ju (Ig a) t/\t {nx:=λ_ l=>Q .Al l,rt:=Q} (start N vs) H):AV g w d mg base AZ (k+1) f fd ps sp:=by
 obtain⟨v,u,kV,doc,pm,y,b,ct,r,rfl,lk,p⟩:=m.ex;refine pz lk p e i λA outer s H vs Q E o n=>?_;have(t,h,q):=j b A outer s H vs Q E o n;exact(t,h.Ju,q)
def Ag.go {g:ET} {w:Do} {d:Ao} {mg:Str->Option AI} {base:BI} {x c:Str} {a:Af} {f:AD} {fd:IU} {ps:List Str} {k:Nat} {sp:Sp} (m:Ag d x c a f fd) (N:List Str)
  (j:∀(b:AI) (A:Fa) (outer:List Env) (s:AO) (H:Hp) (vs:List V) (Q:VK) (E:XK),N.Nodup->DX k (A.deeper (Hj c (FW a) s⁻¹ f b))->sp vs H Q E->
   ∃t,Fw (IC AZ g w d mg base N c (FW a) f b A outer s H E).Ju (Ig a) t/\t {nx:=λ_ l=>Q .Al l,rt:=Q} (start N vs) H)
  (e:J7 N ps (FW a):=by exact(rfl,rfl,rfl,by decide +kernel,rfl,by decide +kernel,by decide +kernel))
  (i:∀vs H Q E,sp vs H Q E->vs.length=ps.length:=by intro vs H Q E h;first| (cases h;subst_vars;rfl) |repeat first| (obtain⟨rfl,_⟩:=h;rfl) |refine xE4 h λ_ _ _ _ h=>?_| (refine Or.elim h ?_ ?_<;>intro h) | (have(_,h):=h)):AV g w d mg base AZ (k+1) f fd ps sp:=
 m.ok e i λb A outer s H vs Q E=>j b A outer s H vs Q E e.nd
def Ag.binds(g:Ag e x d a f fd)(h:∀(kV doc pm:AI) (c:Option AD) (b ct:AI) (us:List AI),us.length=ps.length->LP (Jm x d (K3 a) (Ig a) (FW a) .none kV doc pm c b ct) (us,[])=pure (ps.zip us)):Binds e fd ps []:=by
 obtain⟨k,j,kV,doc,pm,c,b,ct,i,rfl,lk,l⟩:=g.ex;exact .all (h kV doc pm c b ct)
def eC(a:DX k A):A.units+1<ES:=Wj (Nat.add_le_add_left (by decide:1<=64) _) a.units
def pv(i:Nat)(e:a.N[i]? =AA x:=by rfl)(b:K7 a.env.scope x:=by first|exact Dr rfl|exact F5 (Dr rfl) |exact F5 (F5 rfl))(c:(x==("__debug__":Str))=AF:=by decide)(d:(x==("__classdict__":Str))=AF:=by decide):PE a (.Name x pos) (Lj i):=tP e b c d
def qk:Fk i (.builtin "len") (λxs H Q=>∃a b,xs=[V.ref a]/\H a=AA (.dK b)/\Q (.int b.length) H):=by
 intro pins s f H xs us Q I r h;obtain⟨a,b,rfl,d,q⟩:=h;obtain⟨u,rfl,c⟩:=vals1 r;cases c;exact yT I (.inl d) λt g e=>(.int b.length,H,e,(t,rfl),q)
def lQ{A B:Prop}(h:B):if AF=AC then A else B:=by
 erw[AK Dl];exact h
def lP{A B:Prop}(h:A):if AC=AC then A else B:=by
 erw[AJ rfl];exact h
def ak{c A B:Prop}[Decidable c](b:c->A)(a: ¬c->B):if c then A else B:=by
 by_cases h:c;erw[AJ h];exact b h;erw[AK h];exact a h
def AH(H a:Hp):Prop:=∀b o,H b=AA o->a b=AA o
def AH.trans(a:AH H e)(b:AH e d):AH H d:=λc o h=>b c o (a c o h)
def AH.free(e:AH H a)(h:a l=Option.none):H l=Option.none:=by
 cases q:H l with
 |none=>rfl
 |some o=>
  rw[e l o q]at h;cases h
def AH.seq(e:AH H c)(h:AN b H a xs):AN b c a xs:=by
 rcases h with (h| ⟨o,h⟩) |h;exact .inl (.inl (e _ _ h));exact .inl (.inr (o,e _ _ h));exact .inr h
def fE{c:Type}{l:List c}(d:l.Nodup){i j:Nat}{x:c}(a:l[i]? =AA x)(b:l[j]? =AA x):i=j:=by
 have(h,f):=AY.mp a;have(g,e):=AY.mp b;exact(Sk d).mp (f.trans e.symm)
def AH.made{H c:Hp}(nx:H x=Option.none)(d:H a=Option.none)(k:∀b o,(upd (upd H a (.own x)) x (.ins C a [])) b=AA o->b≠x->c b=AA o):AH H c:=λb o e=>
 k b o (by erw[aC (aT e nx),aC (aT e d)];exact e) (aT e nx)
end L2
end
section
namespace L2
open PySem PySem.Spec PyProof.Rows
open PySem.W (WData Codec OpenSpec Well WellAll ReadsW ReadsAllW)
def Dw(b:Ao)(H:Hp)(v:V)(d:WData):Prop:=∃(a:AD) (ns:List Int),v=.ref a/\d=.list (ns.map WData.int)/\AN b H a (ns.map V.int)
def Zc(H:Hp):Prop:=∀b,H b=AB\/∃o u,H b=AA (.BA o u)
def pW(ns:List Int):∀us:List AI,Vals (ns.map V.int) us->∃as,ReadsAllW R cl h us (ns.map WData.int) as:=by
 induction ns with
 |nil=>intro us r;cases r;exact(_,ReadsAllW.nil)
 |cons n ns c=>
  intro us r;cases r with
  |cons b a=>
   obtain⟨t,rfl⟩:=b;have(d,q):=c _ a;exact(_,ReadsAllW.cons (ReadsW.int n t) q)
def Dw.reads(f:Di i w H h)(j:k.In h)(d:WData)(v:V)(u:AI)(x:Dw k H v d)(r:RelV v u):∃as,ReadsW R cl h u d as:=by
 obtain⟨a,ns,rfl,rfl,q⟩:=x;cases r;rcases q with q| ⟨o,its,n,e,g,_,hd,_,b⟩;obtain⟨_,its,n,b,e⟩:=(show Dg i w H h a (.lst (ns.map V.int)) from q.ok f);obtain⟨as,c⟩:=pW (h:=h) (R:=R) (cl:=cl) ns its b;exact(_,ReadsW.list e rfl rfl c);obtain⟨as,c⟩:=pW (h:=h) (R:=R) (cl:=cl) ns its.toList b;exact(_,ReadsW.list (j _ _ e) g (show o.data=.seq its.toList.toArray n by simp[hd]) c)
def xX(ns:List Int):∀us:List AI,WellAll d h us (ns.map WData.int)->Vals (ns.map V.int) us:=by
 induction ns with
 |nil=>intro us x;cases x;exact .nil
 |cons n ns c=>
  intro us x;cases x with
  |cons a b=>cases a;exact .cons (_,rfl) (c _ b)
def zL{P:ET}{l:List Int}(r:j.In h)(hw:WellAll s h p [.list (l.map WData.int)])(k:l.length<=Ae):
  ∃(a:AD) (c:Hp),Zc c/\Di P w c h/\AN j c a (l.map V.int)/\p=[.ref a]/\(∀b u,c b=AA u->j.lookup b=AB)/\∀b u,c b=AA u->∃o vs n,h.get? b=AA o/\o.data=.seq vs n:=by
 cases hw with
 |cons x y=>
  cases y;cases x with
  |list d q=>
   rename_i a vs;have f:=xX l _ q;cases g:j.lookup a with
   |none=>
    have i:∀b u,(if b=a then AA (HO.BA {cls:=.type "list",data:=.seq vs.toArray} (.lst (l.map V.int)))else AB)=AA u->b=a/\u=.BA {cls:=.type "list",data:=.seq vs.toArray} (.lst (l.map V.int)):=λb u e=>by
     by_cases z:b=a;rw[AJ z]at e;exact(z,(Ap e).symm);rw[AK z]at e;cases e
    refine(a,λb=>if b=a then AA (.BA {cls:=.type "list",data:=.seq vs.toArray} (.lst (l.map V.int)))else AB,λb=>?_,λb u e=>?_,.inl (.inr (_,AJ rfl)),rfl,λb u e=>?_,λb u e=>?_);by_cases z:b=a;exact .inr (_,_,AJ z);exact .inl (AK z);obtain⟨rfl,rfl⟩:=i b u e;exact(d,by erw[AL];exact k,vs,_,f,d);erw[(i b u e).1];exact g;erw[(i b u e).1];exact(_,_,_,d,rfl)
   |some o=>
    have m:=r a o g;rw[d]at m;obtain rfl:=Ap m;refine(a,λ_=>AB,λb=> .inl rfl,λb u e=>(by cases e),.inr (_,vs.toArray,_,g,rfl,rfl,rfl,?_,by simpa using f),rfl,λb u e=>(by cases e),λb u e=>(by cases e));erw[Dk,<-f.length,AL];exact k
end L2
end
section
namespace RW
open Vbwsal
abbrev Wt:=Nat->Nat->Option Nat
def Dt(a b:Option Nat):Prop:=∀y,b=AA y->∃x,a=AA x/\x<=y
def Dt.rfl'(a:Option Nat):Dt a a:=λy h=>(y,h,Au _)
def Dt.trans(h:Dt a b)(k:Dt b c):Dt a c:=λy e=>by
 have(x,i,f):=k y e;have(z,g,d):=h x i;exact(z,g,Dj d f)
def Dt.anti(h:Dt a b)(k:Dt b a):a=b:=by
 cases b with
 |none=>
  cases a with
  |none=>rfl
  |some x=>have(y,e,_):=k x rfl;cases e
 |some y=>
  obtain⟨x,rfl,l⟩:=h y rfl;have(z,e,c):=k x rfl;cases e;erw[M5 l c]
def Dt.none:Dt a Option.none:=λy h=>by cases h
structure Tight(n:Nat)(W:Wt)(ok:Bool)(s:Nat)(d:DJ):Prop where
 len:d.length=n
 src:ok=AC->at_ d s=AA 0
 closed:∀u v x w,at_ d u=AA x->W u v=AA w->∃y,at_ d v=AA y/\y<=x+w
 HG:∀v y,at_ d v=AA y->(v=s/\y=0/\ok=AC)\/∃u x w,at_ d u=AA x/\W u v=AA w/\y=x+w
def dY(h:at_ d c=AA y):c<d.length:=by
 unfold at_ at h;rw[DA]at h;cases e:d[c]? with
 |none=>rw[e]at h;cases h
 |some o=>exact(AY.mp e).1
def fk(a:d.length=e.length)(h:∀c,at_ d c=at_ e c):d=e:=by
 refine Ss a λi f b=>?_;have:=h i;unfold at_ at this;rw[DA,DA,AX f,AX b]at this;exact this
def iC(d:DJ)(i c:Nat)(o:Option Nat)(h:i<d.length):at_ (d.set i o) c=if c=i then o else at_ d c:=by
 unfold at_;erw[DA,DA,List.getElem?_set];by_cases e:i=c;subst e;erw[AJ rfl,AJ h,AJ rfl];rfl;erw[AK e,AK (λq=>e q.symm)]
def eY(h:d.length<=c):at_ d c=AB:=by
 cases e:at_ d c with
 |none=>rfl
 |some y=>have:=dY e;lia
def Tight.le{W:Wt}(c:∀u v w,W u v=AA w->0<w)(T:Tight n W ok s d)(U:Tight n W ok s e):∀y v,at_ d v=AA y->∃z,at_ e v=AA z/\z<=y:=by
 intro y;induction y using Kh with
 |ind y b=>
  intro v h;rcases T.HG v y h with⟨rfl,rfl,f⟩ | ⟨u,x,w,g,a,rfl⟩;exact(0,U.src f,Au _);have:=c u v w a;have(z,j,l):=b x () u g;have(q,i,k):=U.closed u v z w j a;exact(q,i,by lia)
def Tight.uniq{W:Wt}(a:∀u v w,W u v=AA w->0<w)(T:Tight n W ok s d)(U:Tight n W ok s e):d=e:=
 fk (T.len.trans U.len.symm) λv=>Dt.anti (λy h=>U.le a T y v h) (λy h=>T.le a U y v h)
inductive Reach(W:Wt)(ok:Bool)(s:Nat):Nat->Nat->Prop
 |base:ok=AC->Reach W ok s s 0
 |step {u x v w:Nat}:Reach W ok s u x->W u v=AA w->Reach W ok s v (x+w)
def o8{P:Nat->Prop}:∀y,P y->∃z,P z/\∀q,P q->z<=q:=by
 intro y;induction y using Kh with
 |ind y b=>
  intro h;by_cases k:∃q,q<y/\P q;have(q,l,a):=k;exact b q l a;exact(y,h,λq a=>Oz λl=>k (q,l,a))
open Classical in
noncomputable def bestOf(P:Nat->Prop):Option Nat:=if h:∃z,P z/\∀q,P q->z<=q then AA (Classical.choose h)else AB
def iA:bestOf P=AA y↔P y/\∀q,P q->y<=q:=by
 unfold bestOf;constructor;intro h;by_cases k:∃z,P z/\∀q,P q->z<=q;rw[dif_pos k]at h;have:=XC k;rw[Ap h]at this;exact this;rw[dif_neg k]at h;cases h;intro h;have k:∃z,P z/\∀q,P q->z<=q:=(y,h);erw[dif_pos k];have:=XC k;exact congrArg AA (M5 (this.2 _ h.1) (h.2 _ this.1))
def xu{W:Wt}(i:ok=AC->s<n)(l:∀u v w,W u v=AA w->v<n):∃e,Tight n W ok s e:=by
 have lt:∀v y,Reach W ok s v y->v<n:=λv y h=>by
  cases h with
  |base h=>exact i h
  |step _ h=>exact l _ _ _ h
 let E:DJ:=(Ai n).map λv=>bestOf (Reach W ok s v);have a:∀v,at_ E v=bestOf (Reach W ok s v):=λv=>by
  show (Ld _ (Ai n)).getD v AB=_;erw[DA,BC];by_cases h:v<n;erw[Kn h];rfl;erw[HD (by erw[DS];lia)];show AB=_;cases e:bestOf (Reach W ok s v)with
  |none=>rfl
  |some y=>exact absurd (lt v y (iA.mp e).1) h
 refine(E,by show ((Ai n).map _).length=n;erw[AL,DS],λf=>?_,λu v x w d c=>?_,λv y h=>?_);erw[a,iA];exact(.base f,λq _=>DR _);rw[a,iA]at d;have r:Reach W ok s v (x+w):=.step d.1 c;have(z,g,b):=o8 (x+w) r;exact(z,by erw[a,iA];exact(g,b),b _ r);rw[a,iA]at h;have(j,b):=h;cases j with
 |base f=>exact .inl (rfl,rfl,f)
 |step d c=>
  rename_i u x w;refine .inr (u,x,w,?_,c,rfl);erw[a,iA];refine(d,λq k=>?_);have:=b (q+w) (.step k c);lia
def gW(h:(A7 g c).cost≠0):c<AG g:=by
 unfold AG;by_cases k:c<g.cells.length;exact k;exfalso;apply h;unfold A7;erw[DA,HD ()];rfl
def dq(h:Ab g u v=AA w):(A7 g u).cost≠0/\(A7 g v).cost≠0/\v∈BK g u/\(A7 g v).height<=(A7 g u).height+2/\(A7 g u).height<=(A7 g v).height+2/\w=(A7 g v).cost+ ((A7 g v).height - (A7 g u).height):=by
 unfold Ab at h;have d:CLIFF=2:=rfl;dsimp only at h;split at h;cases h;rename_i k;rw[A5,A5,A5,A5]at k;have(b,k2,k3,k4,c):=k;have a:v∈BK g u:=by
  rw[XD,Ft]at k3;exact k3
 exact(b,k2,a,by lia,by lia,(Ap h).symm)
def step_mk(a:(A7 g u).cost≠0)(k2:(A7 g v).cost≠0)(k3:v∈BK g u)(k4:(A7 g v).height<=(A7 g u).height+2)(b:(A7 g u).height<=(A7 g v).height+2):
  Ab g u v=AA ((A7 g v).cost+ ((A7 g v).height - (A7 g u).height)):=by
 unfold Ab;have c:CLIFF=2:=rfl;dsimp only;erw[AK];erw[A5,A5,A5,A5];refine(a,k2,?_,by lia,by lia);erw[XD,Ft];exact k3
def step_pos(h:Ab g u v=AA w):0<w:=by
 have(_,a,_,_,_,e):=dq h;lia
def eI(h:Ab g u v=AA w):u<AG g/\v<AG g:=by
 have(b,a,_):=dq h;exact(gW b,gW a)
def lA:v∈BK g u↔(g.wide<=u/\v=u - g.wide)\/((u+1) % g.wide≠0/\v=u+1)\/(u+g.wide<AG g/\v=u+g.wide)\/(u % g.wide≠0/\v=u - 1):=by
 unfold BK;erw[Az,Az,Az];constructor;rintro(h|h|h|h)<;>split at h<;>simp at h;exact .inl (by assumption,h);exact .inr (.inl (by assumption,h));exact .inr (.inr (.inl (by assumption,h)));exact .inr (.inr (.inr (by assumption,h)));rintro(⟨h,rfl⟩ | ⟨h,rfl⟩ | ⟨h,rfl⟩ | ⟨h,rfl⟩);exact .inl (by erw[AJ h];simp);exact .inr (.inl (by erw[AJ h];simp));exact .inr (.inr (.inl (by erw[AJ h];simp)));exact .inr (.inr (.inr (by erw[AJ h];simp)))
def gX(hw:0<g.wide)(b:u<AG g)(a:v<AG g)(h:v∈BK g u):u∈BK g v:=by
 rw[lA]at h|-;rcases h with⟨h,rfl⟩ | ⟨h,rfl⟩ | ⟨h,rfl⟩ | ⟨h,rfl⟩;exact .inr (.inr (.inl (by lia,by lia)));exact .inr (.inr (.inr (h,by lia)));exact .inl (by lia,by lia);refine .inr (.inl (?_,?_));have:u≠0:=by intro e;subst e;simp at h
 have e:u - 1+1=u:=by lia
 erw[e];exact h;have:u≠0:=by intro e;subst e;simp at h
 lia
def nJ(hw:0<g.wide)(h:Ab g u v=AA w):∃x,Ab g v u=AA x:=by
 have(b,a,e,d,c,_):=dq h;exact(_,step_mk a b (gX hw (gW b) (gW a) e) c d)
def sA(hw:0<g.wide)(h:Ab g u v=AA w):u≠v:=by
 have(b,c,a,_):=dq h;intro e;subst e;rw[lA]at a;rcases a with⟨_,h⟩ | ⟨_,h⟩ | ⟨_,h⟩ | ⟨h',h⟩;have:=gW b;lia;lia;lia;have:u≠0:=by intro e;subst e;simp at h'
 lia
@[inline]def wt(g:Aw)(to_:Bool):Wt:=λu v=>if to_=AC then Ab g v u else Ab g u v
def mP:∀u v w,wt g to_ u v=AA w->0<w:=λu v w h=>by
 unfold wt at h;split at h<;>exact step_pos h
def mQ:∀u v w,wt g to_ u v=AA w->v<AG g:=λu v w h=>by
 unfold wt at h;split at h;exact(eI h).1;exact(eI h).2
def rG(hw:0<g.wide)(h:wt g to_ u v=AA w):u∈BK g v:=by
 unfold wt at h;split at h;exact(dq h).2.2.1;exact gX hw (eI h).1 (eI h).2 (dq h).2.2.1
def w8(a b:Option Nat):Dt (least a b) a:=by
 unfold least;split;rename_i h;intro y e;subst e;cases b with
 |none=>simp[less]at h
 |some x=>exact(x,rfl,by simp[less]at h;lia)
 exact Dt.rfl' a
def wz(a b:Option Nat):Dt (least a b) b:=by
 unfold least;split;exact Dt.rfl' b;rename_i h;intro y e;subst e;cases a with
 |none=>simp[less]at h
 |some x=>exact(x,rfl,by simp[less]at h;lia)
def wy(a b:Option Nat):least a b=a\/least a b=b:=by
 unfold least;split;exact .inr rfl;exact .inl rfl
def ik{F:Nat->Option Nat}:∀(l:List Nat) (m:Option Nat),Dt (l.foldl (λm v=>least m (F v)) m) m/\(∀v∈l,Dt (l.foldl (λm v=>least m (F v)) m) (F v))/\
  (l.foldl (λm v=>least m (F v)) m=m\/∃v∈l,l.foldl (λm v=>least m (F v)) m=F v)
 | [],m=>(Dt.rfl' m,λv h=>by simp at h,.inl rfl)
 |a::l,m=>by
  have(d,f,b):=ik (F:=F) l (least m (F a));erw[PN];refine(d.trans (w8 _ _),λv c=>?_,?_);rcases Aj.mp c with rfl|c;exact d.trans (wz _ _);exact f v c;rcases b with b| ⟨v,c,b⟩;rcases wy m (F a)with e|e;exact .inl (b.trans e);exact .inr (a,FK,b.trans e);exact .inr (v,Eb _ c,b)
def gj:(relax g to_ d).length=AG g:=by
 unfold relax;erw[AL,DS]
def js(a:c<AG g):
  at_ (relax g to_ d) c=(BK g c).foldl (λm v=>least m (Cp (at_ d v) (wt g to_ v c))) (at_ d c):=by
 unfold at_ relax;erw[DA,BC,Kn a];rfl
def kD(b:d.length=AG g)(c:Nat):Dt (at_ (relax g to_ d) c) (at_ d c):=by
 by_cases a:c<AG g;erw[js a];exact(ik _ _).1;erw[eY (d:=d) ()];exact Dt.none
def sk(hw:0<g.wide)(h:at_ d u=AA x)(k:wt g to_ u v=AA w):∃y,at_ (relax g to_ d) v=AA y/\y<=x+w:=by
 erw[js (mQ u v w k)];exact(ik (F:=λa=>Cp (at_ d a) (wt g to_ a v)) (BK g v) (at_ d v)).2.1 u (rG hw k) (x+w) (by show Cp (at_ d u) (wt g to_ u v)=_;erw[h,k];rfl)
def sn(h:at_ (relax g to_ d) v=AA y):at_ d v=AA y\/∃u x w,at_ d u=AA x/\wt g to_ u v=AA w/\y=x+w:=by
 have i:v<AG g:=by have:=dY h;rw[gj]at this;exact this
 rw[js i]at h;rcases (ik (F:=λf=>Cp (at_ d f) (wt g to_ f v)) (BK g v) (at_ d v)).2.2 with e| ⟨u,_,e⟩;exact .inl (e.symm.trans h);right;have a:Cp (at_ d u) (wt g to_ u v)=AA y:=e.symm.trans h;cases b:at_ d u with
 |none=>rw[b]at a;simp[Cp]at a
 |some x=>
  cases c:wt g to_ u v with
  |none=>rw[b,c]at a;simp[Cp]at a
  |some w=>
   rw[b,c]at a;exact(u,x,w,b,c,by simp[Cp]at a;lia)
structure Above(g:Aw)(ok:Bool)(s:Nat)(e d:DJ):Prop where
 len:d.length=AG g
 src:ok=AC->at_ d s=AA 0
 ge:∀v,Dt (at_ e v) (at_ d v)
def Gr(n:Nat)(e d:DJ):Nat:=((Ai n).filter λc=>decide (at_ d c≠at_ e c)).length
def filter_lt{l:List Nat}{p q:Nat->Bool}(h:∀c∈l,q c=AC->p c=AC):(l.filter q).length<=(l.filter p).length/\∀c∈l,p c=AC->q c=AF->(l.filter q).length<(l.filter p).length:=by
 induction l with
 |nil=>exact(Au _,λc b=>by simp at b)
 |cons a l i=>
  have(k,j):=i λc b=>h c (Eb _ b);have g:=h a FK;erw[Ec,Ec];refine(?_,λc b f d=>?_);cases e:q a with
  |true=>erw[g e];simpa using k
  |false=>cases p a<;>simp<;>lia
  rcases Aj.mp b with rfl|b;erw[f,d];simp;lia;have:=j c b f d;cases e:q a with
  |true=>erw[g e];simpa using this
  |false=>cases p a<;>simp<;>lia
def Above.relax(hw:0<g.wide)(T:Tight (AG g) (wt g to_) ok s e)(A:Above g ok s e d):Above g ok s e (KH g to_ d):=by
 refine(gj,λc=>?_,λv y h=>?_);have(x,a,l):=kD (to_:=to_) A.len s 0 (A.src c);erw[a];congr 1;lia;rcases sn h with k| ⟨u,x,w,b,k2,rfl⟩;exact A.ge v y k;have(z,a,j):=A.ge u x b;have(q,f,i):=T.closed u v z w a k2;exact(q,f,by lia)
def Tight.above(T:Tight (AG g) (wt g to_) ok s e):Above g ok s e e:=(T.len,T.src,λv=>Dt.rfl' _)
def Tight.nZ(hw:0<g.wide)(T:Tight (AG g) (wt g to_) ok s e):KH g to_ e=e:=
 fk (gj.trans T.len.symm) λv=>Dt.anti (kD T.len v) ((T.above.relax hw T).ge v)
def rH(h:Gr (AG g) e d=0)(f:d.length=AG g)(b:e.length=AG g):d=e:=by
 refine fk (f.trans b.symm) λc=>?_;by_cases a:c<AG g;unfold Gr at h;rw[Wv,List.filter_eq_nil_iff]at h;have:=h c (EC.mpr a);by_cases q:at_ d c=at_ e c;exact q;exact absurd (BH q) this;erw[eY (),eY ()]
def Above.lm(hw:0<g.wide)(T:Tight (AG g) (wt g to_) ok s e)(A:Above g ok s e d)(t:d≠e):Gr (AG g) e (KH g to_ d)<Gr (AG g) e d:=by
 have k:=A.relax hw T;have mono:∀c∈Ai (AG g),(decide (at_ (KH g to_ d) c≠at_ e c))=AC->(decide (at_ d c≠at_ e c))=AC:=λc _ h=>by
  refine BH λq=>(DT h) ?_;exact Dt.anti (by erw[<-q];exact kD A.len c) (k.ge c)
 have ex:∃y,∃v,at_ e v=AA y/\at_ d v≠at_ e v:=by
  refine NI λno=>t (fk (A.len.trans T.len.symm) λv=>?_);cases q:at_ e v with
  |none=>
   cases m:at_ d v with
   |none=>rfl
   |some z=>
    have(x,b,_):=A.ge v z m;rw[q]at b;cases b
  |some y=>
   refine NI λz=>no (y,v,q,?_);erw[q];exact z
 have(l,C):=ex;have(y,(v,a,hd),B):=o8 (P:=λy=>∃v,at_ e v=AA y/\at_ d v≠at_ e v) l C;have o:v<AG g:=by have:=dY a;rw[T.len]at this;exact this
 refine(filter_lt mono).2 v (EC.mpr o) (BH hd) (DH (Classical.not_not.mpr ?_));rcases T.HG v y a with⟨rfl,rfl,r⟩ | ⟨u,x,w,j,i,rfl⟩;exact absurd ((A.src r).trans a.symm) hd;have p:at_ d u=AA x:=by
  refine NI λz=>?_;have:=B x (u,j,by erw[j];exact z);have:=mP u v w i;lia
 have(z,b,n):=sk hw p i;refine Dt.anti (λq f=>?_) (k.ge v);rw[a]at f;cases f;exact(z,b,n)
def kB(hw:0<g.wide)(T:Tight (AG g) (wt g to_) ok s e):∀(n:Nat) (d:DJ),Above g ok s e d->Gr (AG g) e d<=n->(Ew g to_ n d).1=e
 | 0,d,A,h=>by
  show d=e;exact rH (Nat.le_zero.mp h) A.len T.len
 |n+1,d,A,h=>by
  show (if KH g to_ d=d then(AE d 0)else(AE ((Ew g to_ n (KH g to_ d)).1) ((Ew g to_ n (KH g to_ d)).2+1))).1=e;by_cases q:d=e;erw[AJ (by erw[q];exact T.nZ hw)];exact q;have:=A.lm hw T q;erw[AK (λz=>by rw[z]at this;lia)];exact kB hw T n _ (A.relax hw T) ()
def jw:Gr n e d<=n:=by
 unfold Gr;exact Dj (Fq _ _) (by erw[DS];exact Au _)
def mH:at_ (only g s) c=if c=s/\An g c=AC then AA 0 else AB:=by
 unfold only at_;erw[DA,BC];by_cases a:c<AG g;erw[Kn a];rfl;erw[HD (by erw[DS];lia)];erw[AK];rfl;intro(_,h);exact a (gW (by simpa[An]using h))
def oY(T:Tight (AG g) (wt g to_) (An g s) s e):Above g (An g s) s e (only g s):=by
 refine(by unfold only;erw[AL,DS],λh=>by erw[mH,AJ (rfl,h)],λv y h=>?_);rw[mH]at h;split at h;rename_i k;obtain⟨rfl,k2⟩:=k;cases h;exact(0,T.src k2,Au _);cases h
def gh(h:An g s=AC):s<AG g:=gW (by simpa[An]using h)
def nN(hw:0<g.wide):Tight (AG g) (wt g to_) (An g s) s (Ew g to_ (AG g) (only g s)).1:=by
 have(e,T):=xu (n:=AG g) (W:=wt g to_) (ok:=An g s) (s:=s) gh mQ;erw[kB hw T (AG g) _ (oY T) jw];exact T
def fG(hw:0<g.wide):Tight (AG g) (Ab g) (An g s) s (A0 g s):=nN (to_:=AF) hw
def ip(hw:0<g.wide):Tight (AG g) (wt g AC) (An g s) s (EF g s):=nN (to_:=AC) hw
@[inline]def val(d:DJ)(c:Nat):Nat:=(at_ d c).getD 0
structure LG(n:Nat)(W:Wt)(s:Nat)(d:DJ)(wt:List Nat):Prop where
 len:d.length=n
 nd:wt.Nodup
 fin:∀c∈wt,∃y,at_ d c=AA y
 src:at_ d s=AA 0
 HG:∀v y,at_ d v=AA y->(v=s/\y=0)\/∃u x w,u∉wt/\at_ d u=AA x/\W u v=AA w/\y=x+w
 closed:∀u v x w,u∉wt->at_ d u=AA x->W u v=AA w->∃y,at_ d v=AA y/\y<=x+w
 ord:∀u v x y,u∉wt->v∈wt->at_ d u=AA x->at_ d v=AA y->x<=y
def yJ(f:s<n):LG n W s ((Ay n AB).set s (AA 0)) [s]:=by
 have e:(Ay n (AB:Option Nat)).length=n:=NB;have b:∀c,at_ ((Ay n AB).set s (AA 0)) c=if c=s then AA 0 else AB:=λc=>by
  erw[iC _ _ _ _ (by erw[e];exact f)]
  congr 1
  unfold at_;erw[DA,ND];split<;>rfl
 refine(by erw[F7];exact e,by simp,λc g=>?_,by erw[b,AJ rfl],λv y h=>?_,λu v x w d a _=>?_,λu v x y d i a j=>?_);erw[Av.mp g,b,AJ rfl];exact(0,rfl);rw[b]at h;split at h;cases h;exact .inl (by assumption,rfl);cases h;rw[b]at a;split at a;rename_i k;exact absurd (Av.mpr k) d;cases a;rw[b]at a;split at a;rename_i k;exact absurd (Av.mpr k) d;cases a
structure JX(n x:Nat)(d0:DJ)(w0:List Nat)(pre:List (Nat×Nat))(d:DJ)(wt:List Nat):Prop where
 len:d.length=n
 nd:wt.Nodup
 same:∀c,at_ d c=at_ d0 c\/∃k,(AE c k)∈pre/\at_ d c=AA (x+k)/\∀y,at_ d0 c=AA y->x+k<y
 le:∀c,Dt (at_ d c) (at_ d0 c)
 got:∀c k,(AE c k)∈pre->∃y,at_ d c=AA y/\y<=x+k
 mem:∀c,c∈wt↔c∈w0\/(at_ d0 c=AB/\at_ d c≠AB)
def yM(d:d0.length=n)(b:a.Nodup):JX n x d0 a [] d0 a:=
 (d,b,λc=> .inl rfl,λc=>Dt.rfl' _,λc k h=>by simp at h,λc=>(λh=> .inl h,λh=>h.elim id λh=>absurd h.1 h.2))
def yO(I:JX n x d0 o s d m)(w:∀c∈o,at_ d0 c≠AB)(t:v<n)(h:at_ d v=AB):
  JX n x d0 o (s ++ [(AE v k)]) (d.set v (AA (x+k))) (m ++ [v]):=by
 have l:at_ d0 v=AB:=by
  cases e:at_ d0 v with
  |none=>rfl
  |some y=>have(z,g,_):=I.le v y e;rw[h]at g;cases g
 have u:v∉m:=λq=>by
  rcases (I.mem v).mp q with q|q;exact w v q l;exact q.2 h
 have j:∀c,at_ (d.set v (AA (x+k))) c=if c=v then AA (x+k)else at_ d c:=λc=>iC _ _ _ _ (by erw[I.len];exact t);refine(by erw[F7];exact I.len,?_,λc=>?_,λc=>?_,λc i f=>?_,λc=>?_);erw[I0];exact(I.nd,by simp,λa B b A=>by erw[Av.mp A];intro e;exact u (e▸B));erw[j];by_cases e:c=v;subst e;erw[AJ rfl];exact .inr (k,by simp,rfl,λy q=>by rw[l]at q;cases q);erw[AK e];rcases I.same c with q| ⟨i,r,p⟩;exact .inl q;exact .inr (i,FP _ r,p);erw[j];by_cases e:c=v;subst e;erw[l];exact Dt.none;erw[AK e];exact I.le c;erw[j];by_cases e:c=v;erw[AJ e];rcases Az.mp f with f|f;have(y,g,_):=I.got c i f;rw[e,h]at g;cases g;have(_,C):=My (Av.mp f);exact(x+k,rfl,by lia);erw[AK e];rcases Az.mp f with f|f;exact I.got c i f;exact absurd (My (Av.mp f)).1 e;erw[j,Az,I.mem c];by_cases e:c=v;subst e;erw[AJ rfl];exact(λ_=> .inr (l,by simp),λ_=> .inr (Av.mpr rfl));erw[AK e];exact(λq=>q.elim id λq=>absurd (Av.mp q) e,.inl)
def yN(I:JX n x d0 r s d p)(h:at_ d v=AA y):
  JX n x d0 r (s ++ [(AE v k)]) (d.set v (AA (min y (x+k)))) p:=by
 have t:v<d.length:=dY h;have i:∀c,at_ (d.set v (AA (min y (x+k)))) c=if c=v then AA (min y (x+k))else at_ d c:=λc=>iC _ _ _ _ t;refine(by erw[F7];exact I.len,I.nd,λc=>?_,λc=>?_,λc f a=>?_,λc=>?_);erw[i];by_cases e:c=v;subst e;erw[AJ rfl];by_cases l:x+k<y;erw[Ov ()];refine .inr (k,by simp,rfl,λz q=>?_);have(o,b,m):=I.le c z q;rw[h]at b;cases b;lia;erw[Ix ()];rcases I.same c with q| ⟨f,j,g⟩;exact .inl (h.symm.trans q);exact .inr (f,FP _ j,by erw[<-h];exact g.1,g.2);erw[AK e];rcases I.same c with q| ⟨f,j,g⟩;exact .inl q;exact .inr (f,FP _ j,g);erw[i];by_cases e:c=v;subst e;erw[AJ rfl];intro z q;have(o,b,m):=I.le c z q;rw[h]at b;cases b;exact(_,rfl,by lia);erw[AK e];exact I.le c;erw[i];by_cases e:c=v;erw[AJ e];refine(_,rfl,?_);rcases Az.mp a with a|a;have(z,b,m):=I.got c f a;rw[e,h]at b;cases b;lia;have(_,u):=My (Av.mp a);lia;erw[AK e];rcases Az.mp a with a|a;exact I.got c f a;exact absurd (My (Av.mp a)).1 e;erw[i,I.mem c];by_cases e:c=v;subst e;erw[AJ rfl,h];simp;erw[AK e]
def yI(D:LG n W s d0 j)(J:m∈j)(B:at_ d0 m=AA x)(O:∀c∈j,∀y,at_ d0 c=AA y->x<=y)(X:∀u v w,W u v=AA w->0<w)(N:∀w,W m m≠AA w)(F:∀v k,(AE v k)∈S↔W m v=AA k)(I:JX n x d0 (j.erase m) S d A):LG n W s d A:=by
 have H:at_ d m=AA x:=by
  rcases I.same m with q| ⟨k,C,_⟩;erw[q];exact B;exact absurd ((F m k).mp C) (N k)
 have old:∀u,u∉j->∀y,at_ d0 u=AA y->at_ d u=AA y/\u∉A:=λu a y f=>by
  have q:at_ d u=at_ d0 u:=by
   rcases I.same u with q| ⟨k,_,_,r⟩;exact q;have:=r y f;have:=D.ord u m y x a J f B;lia
  refine(q.trans f,λh=>?_);rcases (I.mem u).mp h with h|h;exact a (Lc h);rw[f]at h;cases h.1
 have M:m∉A:=λh=>by
  rcases (I.mem m).mp h with h|h;exact(Sx D.nd).mp h |>.1 rfl;rw[B]at h;cases h.1
 have done:∀u,u∉A->∀y,at_ d u=AA y->u=m\/(u∉j/\at_ d0 u=AA y):=λu a y f=>by
  by_cases e:u=m;exact .inl e;right;have p:u∉j:=λh=>a ((I.mem u).mpr (.inl ((List.mem_erase_of_ne e).mpr h)));refine(p,?_);cases q:at_ d0 u with
  |none=>exact absurd ((I.mem u).mpr (.inr (q,by erw[f];simp))) a
  |some z=>erw[<-(old u p z q).1];exact f
 refine(I.len,I.nd,λc t=>?_,?_,λv y h=>?_,λu v b w a i g=>?_,λu v b y a o i g=>?_);rcases (I.mem c).mp t with t|t;have(y,f):=D.fin c (Lc t);have(z,E,_):=I.le c y f;exact(z,E);cases q:at_ d c with
 |none=>exact absurd q t.2
 |some z=>exact(z,rfl)
 have(z,E,l):=I.le s 0 D.src;erw[E];congr 1;lia;rcases I.same v with q| ⟨k,C,r,_⟩;rcases D.HG v y (q.symm.trans h)with q| ⟨u,b,w,a,i,g,P⟩;exact .inl q;have(L,K):=old u a b i;exact .inr (u,b,w,K,L,g,P);rw[r]at h;cases h;exact .inr (m,x,k,M,H,(F v k).mp C,rfl)
 ·rcases done u a b i with rfl| ⟨p,G⟩;rw[H]at i;cases i;exact I.got v w ((F v w).mpr g);have(y,R,U):=D.closed u v b w p G g;have(z,Q,T):=I.le v y R;exact(z,Q,by lia)
 ·have V:b<=x:=by
   rcases done u a b i with rfl| ⟨p,G⟩;rw[H]at i;cases i;exact Au _;exact D.ord u m b x p J G B
  have:x<=y:=by
   rcases I.same v with q| ⟨k,_,r,_⟩;rcases (I.mem v).mp o with o|o;exact O v (Lc o) y (q.symm.trans g);rw[<-q,g]at o;cases o.1;rw[r]at g;cases g;lia
  lia
@[inline]def todo(n:Nat)(d:DJ)(a:List Nat):Nat:=((Ai n).filter λc=>decide (at_ d c=AB\/c∈a)).length
def yK(D:LG n W s d0 a)(i:m∈a)(b:at_ d0 m=AA x)(l:∀w,W m m≠AA w)(o:∀v k,(AE v k)∈j↔W m v=AA k)(I:JX n x d0 (a.erase m) j d f):todo n d f<todo n d0 a:=by
 have g:m<n:=by have:=dY b;rw[D.len]at this;exact this
 refine(filter_lt λc _ h=>?_).2 m (EC.mpr g) (BH (.inr i)) (DH ?_);refine BH ?_;rcases DT h with h|h;left;cases q:at_ d0 c with
 |none=>rfl
 |some y=>have(z,e,_):=I.le c y q;rw[h]at e;cases e
 rcases (I.mem c).mp h with h|h;exact .inr (Lc h);exact .inl h.1;rintro(h|h);have(z,e,_):=I.le m x b;rw[h]at e;cases e;rcases (I.mem m).mp h with h|h;exact(Sx D.nd).mp h |>.1 rfl;rw[b]at h;cases h.1
def yL(hw:0<g.wide)(c:An g s=AC)(D:LG (AG g) (Ab g) s d []):d=A0 g s:=by
 have T:Tight (AG g) (Ab g) (An g s) s d:=(D.len,λ_=>D.src,λu v x w b a=>D.closed u v x w (by simp) b a,λv y h=>by
  rcases D.HG v y h with⟨b,a⟩ | ⟨u,x,w,_,b,a,e⟩;exact .inl (b,a,c);exact .inr (u,x,w,b,a,e))
 exact T.uniq (λu v w h=>step_pos h) (fG hw)
def qY(hw:0<g.wide)(b:An g s=AF):A0 g s=Ay (AG g) AB:=by
 refine Tight.uniq (λu v w h=>step_pos h) (fG hw) (NB,λh=>(by rw[b]at h;cases h),λu v x w a=>?_,λv y a=>?_)
 all_goals
  exfalso;unfold at_ at a;rw[DA,ND]at a;split at a<;>cases a
def DE(g:Aw)(c:Nat):List (Nat×Nat):=(BK g c).filterMap λv=>(Ab g c v).map λk=>(AE v k)
def eJ:(AE v k)∈DE g c↔Ab g c v=AA k:=by
 unfold DE;erw[M9];constructor;intro(u,a,h);cases e:Ab g c u with
 |none=>rw[e]at h;cases h
 |some w=>
  rw[e]at h;obtain⟨rfl,rfl⟩:=My (Ap h);exact e
 intro h;exact(v,(dq h).2.2.1,by erw[h];rfl)
structure J3(g:Aw)(ok:Bool)(s:Nat)(e:DJ)(fuel:Nat)(d0:DJ)(i:Nat)(d:DJ):Prop where
 ab:Above g ok s e d
 few:Gr (AG g) e d+i<=AG g
 eq:Ew g AC fuel d0=(AE ((Ew g AC (fuel - i) d).1) ((Ew g AC (fuel - i) d).2+i))
def sU(A:Above g ok s e d0):J3 g ok s e a d0 0 d0:=(A,by have:=jw (n:=AG g) (e:=e) (d:=d0);lia,rfl)
def J3.turn(hw:0<g.wide)(T:Tight (AG g) (wt g AC) ok s e)(c:AG g<a)(S:J3 g ok s e a d0 i d)(h:relax g AC d≠d):
  J3 g ok s e a d0 (i+1) (relax g AC d)/\Gr (AG g) e (relax g AC d)<Gr (AG g) e d:=by
 have ne:d≠e:=λq=>h (by erw[q];exact T.nZ hw);have lt:=S.ab.lm hw T ne;refine((S.ab.relax hw T,by have:=S.few;lia,?_),lt);have f:=S.few;have b:a - i=(a - (i+1)) + 1:=by lia
 erw[S.eq,b];show (AE ((if relax g AC d=d then(AE d 0)else(AE ((Ew g AC (a - (i+1)) (relax g AC d)).1) ((Ew g AC (a - (i+1)) (relax g AC d)).2+1))).1) ((if relax g AC d=d then(AE d 0)else(AE ((Ew g AC (a - (i+1)) (relax g AC d)).1) ((Ew g AC (a - (i+1)) (relax g AC d)).2+1))).2+i))=_;erw[AK h];show (AE _ (_+1+i))=(AE _ (_+ (i+1)));erw[LZ,Nat.add_comm 1 i]
def J3.done(hw:0<g.wide)(T:Tight (AG g) (wt g AC) ok s e)(c:AG g<a)(S:J3 g ok s e a d0 i d)(h:relax g AC d=d):Ew g AC a d0=(AE d i)/\d=e:=by
 have f:=S.few;have b:a - i=(a - (i+1)) + 1:=by lia
 constructor;erw[S.eq,b];show (AE ((if relax g AC d=d then(AE d 0)else _).1) ((if relax g AC d=d then(AE d 0)else _).2+i))=_;erw[AJ h];show (AE d (0+i))=_;erw[Gk];refine NI λne=>?_;have:=S.ab.lm hw T ne;rw[h]at this;lia
def tH(h:Cp a b=AA x):∃y w,a=AA y/\b=AA w/\x=y+w:=by
 cases a with
 |none=>simp[Cp]at h
 |some y=>
  cases b with
  |none=>simp[Cp]at h
  |some w=>exact(y,w,rfl,rfl,by simp[Cp]at h;lia)
def iO(h:EQ g f u=AA v):u≠f.goal/\∃x y w,at_ f.costs u=AA x/\at_ f.costs v=AA y/\Ab g u v=AA w/\x=y+w:=by
 unfold EQ at h;split at h;cases h;rename_i ne;refine(ne,?_);cases e:at_ f.costs u with
 |none=>rw[e]at h;cases h
 |some x=>
  rw[e]at h;have:=NF h;have(y,w,c,b,a):=tH (eq_of_beq this);exact(x,y,w,rfl,c,b,a)
def om(T:Tight (AG g) (wt g AC) (An g f.goal) f.goal f.costs)(h:EQ g f u=AB):u=f.goal\/at_ f.costs u=AB:=by
 unfold EQ at h;split at h;exact .inl (by assumption);rename_i ne;right;cases e:at_ f.costs u with
 |none=>rfl
 |some x=>
  rw[e]at h;rcases T.HG u x e with⟨q,_⟩ | ⟨v,y,w,d,c,b⟩;exact absurd q ne;have a:Ab g u v=AA w:=c;have:=Lf.mp h v (dq a).2.2.1;exact absurd (by erw[d,a];show (AA (y+w)==AA x)=AC;erw[b];exact Rq _) this
@[inline]def rank(n:Nat)(d:DJ)(x:Nat):Nat:=((Ai n).filter λc=>match at_ d c with
 |none=>AF
 |some y=>decide (y<x)).length
def iG(a:d.length=n)(h:at_ d v=AA y)(l:y<x):rank n d y<rank n d x:=by
 refine(filter_lt λc _ q=>?_).2 v (EC.mpr (by have:=dY h;lia)) ?_ ?_;revert q;cases at_ d c with
 |none=>exact id
 |some z=>intro q;exact BH (Ki (DT q) l)
 show (match at_ d v with |none=>AF|some y=>decide (y<x))=AC;erw[h];exact BH l;show (match at_ d v with |none=>AF|some z=>decide (z<y))=AF;erw[h];exact DH (F6 _)
def kJ(a:d.length=n)(h:at_ d v=AA x):rank n d x<n:=by
 have:=(filter_lt (l:=Ai n) (p:=λ_=>AC) (q:=λc=>match at_ d c with
  |none=>AF
  |some y=>decide (y<x)) λ_ _ _=>rfl).2 v (EC.mpr (by have:=dY h;lia)) rfl (by
   show (match at_ d v with |none=>AF|some z=>decide (z<x))=AF;erw[h];exact DH (F6 _))
 have e:((Ai n).filter λ_=>AC).length=n:=by erw[PQ.mpr (λ_ _=>rfl),DS]
 rw[e]at this;exact this
def lg(h:EQ g f u=AB):∀n,GV g f n u=[u]
 | 0=>rfl
 |n+1=>by show (match EQ g f u with |none=>[u] |some v=>u::GV g f n v)=[u];erw[h]
def lf(h:EQ g f u=AA v)(n:Nat):GV g f (n+1) u=u::GV g f n v:=by
 show (match EQ g f u with |none=>[u] |some v=>u::GV g f n v)=_;erw[h]
def xo(j:f.costs.length=N):∀(x u n m:Nat),at_ f.costs u=AA x->rank N f.costs x<=n->rank N f.costs x<=m->GV g f n u=GV g f m u:=by
 intro x;induction x using Kh with
 |ind x h=>
  intro u n m i a b;cases e:EQ g f u with
  |none=>erw[lg e,lg e]
  |some v=>
   have(_,o,y,w,d,c,k,p):=iO e;rw[i]at d;cases d;have l:y<x:=by have:=step_pos k;lia
   have r:=iG j c l
   match n,m,a,b with
   | 0,_,a,_=>lia
   | _+1,0,_,b=>lia
   |n+1,m+1,a,b=>
    erw[lf e,lf e,h y l v n m c () ()]
@[inline]def comes(g:Aw)(f:Ey)(c u:Nat):Bool:=(GV g f (AG g) u).contains c
def iq(a:f.costs.length=AG g):comes g f c u=AC↔u=c\/∃v,EQ g f u=AA v/\comes g f c v=AC:=by
 unfold comes;cases e:EQ g f u with
 |none=>
  erw[lg e,Ft,Av];exact(λh=> .inl h.symm,λh=>h.elim Eq.symm λ(v,h,_)=>by cases h)
 |some v=>
  have(_,x,y,w,j,d,i,o):=iO e;have l:y<x:=by have:=step_pos i;lia
  have r:=iG a d l;have n:=kJ a j;have b:AG g=(AG g - 1) + 1:=by lia
  erw[Ft];erw[show GV g f (AG g) u=u::GV g f (AG g) v from by
   erw[b,lf e,<-b,xo a y v (AG g - 1) (AG g) d () ()]]
  erw[Aj];constructor;rintro(h|h);exact .inl h.symm;exact .inr (v,rfl,Ft.mpr h);rintro(h| ⟨m,h,k⟩);exact .inl h.symm;cases h;exact .inr (Ft.mp k)
def ye(T:Tight (AG g) (wt g AC) (An g f.goal) f.goal f.costs):∀(x u:Nat),at_ f.costs u=AA x->comes g f f.goal u=AC:=by
 intro x;induction x using Kh with
 |ind x c=>
  intro u a;erw[iq T.len];cases e:EQ g f u with
  |none=>
   rcases om T e with h|h;exact .inl h;rw[a]at h;cases h
  |some v=>
   have(_,j,y,w,b,i,d,k):=iO e;rw[a]at b;cases b;exact .inr (v,rfl,c y (by have:=step_pos d;lia) v i)
@[inline]def changed(g:Aw)(c:Nat)(x:Cell):Aw:={g with cells:=g.cells.set c x}
def de:AG (changed g c x)=AG g:=by unfold changed AG;exact F7
def yf:(changed g c x).wide=g.wide:=rfl
def l6(u:Nat)(h:u≠c):A7 (changed g c x) u=A7 g u:=by
 unfold A7 changed;show (g.cells.set c x).getD u wall=g.cells.getD u wall;erw[DA,DA,Km (λq=>h q.symm)]
def l7(u:Nat):BK (changed g c x) u=BK g u:=by
 unfold BK;erw[de];rfl
def jn(u:Nat)(h:u≠c):An (changed g c x) u=An g u:=by unfold An;erw[l6 u h]
def l5(u v:Nat)(b:u≠c)(a:v≠c):Ab (changed g c x) u v=Ab g u v:=by
 unfold Ab;erw[l6 u b,l6 v a,l7]
def xg{a:Type}{n c:Nat}{F:Nat->a}{z:a}(h:c<n):((Ai n).map F).getD c z=F c:=by
 erw[DA,BC,Kn h];rfl
def fL(h:c<n):at_ ((Ai n).map F) c=F c:=xg h
def zH(h:n<=c):at_ ((Ai n).map F) c=AB:=eY (by erw[AL,DS];exact h)
def nA(T:Tight (AG g) (wt g AC) (An g s) s d)(h:An g s=AF):∀x u,at_ d u≠AA x:=by
 intro x;induction x using Kh with
 |ind x a=>
  intro u e;rcases T.HG u x e with⟨_,_,q⟩ | ⟨v,y,w,c,b,f⟩;rw[h]at q;cases q;exact a y (by have:=mP _ _ _ b;lia) v c
def Hw(g new:Aw)(f:Ey)(c:Nat):DJ:=
 let d:=(Ai (AG g)).map λu=>if ((at_ f.costs u).isSome && comes g f c u)=AC then AB else at_ f.costs u
 if An new f.goal=AC then d.set f.goal (AA 0)else d
def rP{f:Ey}(T:Tight (AG g) (wt g AC) (An g f.goal) f.goal f.costs)(h:An g u=AF):at_ f.costs u=AB:=by
 cases e:at_ f.costs u with
 |none=>rfl
 |some y=>
  exfalso;rcases T.HG u y e with⟨q,_,a⟩ | ⟨v,d,w,j,c,i⟩;rw[<-q,h]at a;cases a;have b:Ab g u v=AA w:=c;have:=(dq b).1;unfold An at h;simp at h;exact this h
def jV:(Hw g (changed g c x) f c).length=AG g:=by
 unfold Hw;dsimp only;split;erw[F7,AL,DS];erw[AL,DS]
def mI(b:f.goal<AG g)(a:u<AG g):at_ (Hw g (changed g c x) f c) u=
  if u=f.goal/\An (changed g c x) f.goal=AC then AA 0 else if ((at_ f.costs u).isSome && comes g f c u)=AC then AB else at_ f.costs u:=by
 unfold Hw;dsimp only;split;rename_i h;erw[iC _ _ _ _ (by erw[AL,DS];exact b),fL a];by_cases e:u=f.goal;erw[AJ e,AJ (show u=f.goal/\An (changed g c x) f.goal=AC from(e,h))];erw[AK e,AK (show ¬(u=f.goal/\An (changed g c x) f.goal=AC) from λq=>e q.1)];rename_i h;erw[fL a,AK (show ¬(u=f.goal/\An (changed g c x) f.goal=AC) from λq=>h q.2)]
def wX(T:Tight (AG g) (wt g AC) (An g f.goal) f.goal f.costs)(j:f.goal<AG g)(k:c<AG g):
  (let new:=changed g c x
   let i (u:Nat):Bool:=(at_ f.costs u).isSome && (GV g f (AG g) u).contains c;let d:DJ:=(Ai (AG new)).map λu=>if u=f.goal then(if An new u=AC then AA 0 else AB)else if i u=AC\/An new u=AF then AB else at_ f.costs u
   (if An new f.goal=AC then d else d.map λ_=>AB))=Hw g (changed g c x) f c:=by
 dsimp only;refine fk ?_ λu=>?_;rw[jV];split;rw[AL,DS,de];rw[AL,AL,DS,de];by_cases b:u<AG g;rw[mI j b];split;rename_i h;rw[fL (by rw[de];exact b)];by_cases e:u=f.goal;subst e;rw[AJ rfl,AJ h,AJ (show f.goal=f.goal/\An (changed g c x) f.goal=AC from(rfl,h))];rw[AK e,AK (show ¬(u=f.goal/\An (changed g c x) f.goal=AC) from λq=>e q.1)];by_cases l:((at_ f.costs u).isSome && comes g f c u)=AC;rw[AJ (show ((at_ f.costs u).isSome && (GV g f (AG g) u).contains c)=AC\/An (changed g c x) u=AF from .inl l),AJ l];rw[AK l];by_cases st:An (changed g c x) u=AF;rw[AJ (show ((at_ f.costs u).isSome && (GV g f (AG g) u).contains c)=AC\/An (changed g c x) u=AF from .inr st)];by_cases a:u=c;cases q:at_ f.costs u with
 |none=>rfl
 |some y=>
  exfalso;apply l;rw[q];show (AC && comes g f c u)=AC;rw[Fu,iq T.len];exact .inl a
 rw[jn u a]at st;exact(rP T st).symm;rw[AK (show ¬(((at_ f.costs u).isSome && (GV g f (AG g) u).contains c)=AC\/An (changed g c x) u=AF) from λq=>q.elim l st)];rename_i h;rw[Dc,fL (by rw[de];exact b)];show AB=_;rw[AK (show ¬(u=f.goal/\An (changed g c x) f.goal=AC) from λq=>h q.2)];by_cases l:((at_ f.costs u).isSome && comes g f c u)=AC;rw[AJ l];rw[AK l];cases q:at_ f.costs u with
 |none=>rfl
 |some y=>
  exfalso;by_cases a:f.goal=c;apply l;rw[q];show (AC && comes g f c u)=AC;rw[Fu,<-a];exact ye T y u q;rw[jn _ a]at h;exact nA T (by simpa using h) y u q
 rw[eY (d:=Hw g (changed g c x) f c) (by rw[jV];lia)];refine eY ?_;split;rw[AL,DS,de];lia;rw[AL,AL,DS,de];lia
def ow(hw:0<g.wide)(T:Tight (AG g) (wt g AC) (An g f.goal) f.goal f.costs)(j:f.goal<AG g)(U:Tight (AG (changed g c x)) (wt (changed g c x) AC) (An (changed g c x) f.goal) f.goal e):
  Above (changed g c x) (An (changed g c x) f.goal) f.goal e (Hw g (changed g c x) f c):=by
 have p:∀y u,at_ f.costs u=AA y->comes g f c u=AF->Dt (at_ e u) (AA y):=by
  intro y;induction y using Kh with
  |ind y s=>
   intro u b d;have i: ¬(u=c\/∃v,EQ g f u=AA v/\comes g f c v=AC):=λq=>by
    rw[(iq T.len).mpr q]at d;cases d
   cases m:EQ g f u with
   |none=>
    rcases om T m with h|h;have C:f.goal≠c:=λq=>i (.inl (h.trans q));have st:An g f.goal=AC:=by
     cases q:An g f.goal with
     |true=>rfl
     |false=>exact absurd b (nA T q y u)
    erw[h,U.src (by erw[jn _ C];exact st)];intro z A;cases A;exact(0,rfl,DR _);rw[b]at h;cases h
   |some v=>
    have(_,I,z,w,o,E,n,L):=iO m;rw[b]at o;cases o;have l:comes g f c v=AF:=by
     cases q:comes g f c v with
     |false=>rfl
     |true=>exact absurd (.inr (v,m,q)) i
    have B:v≠c:=λq=>by
     rw[(iq T.len).mpr (.inl q)]at l;cases l
    have(q,G,K):=s z (by have:=step_pos n;lia) v E l z rfl;have D:wt (changed g c x) AC v u=AA w:=by
     show Ab (changed g c x) u v=AA w;erw[l5 u v (λq=>i (.inl q)) B];exact n
    have(r,F,J):=U.closed v u q w G D;intro H t;cases t;exact(r,F,by lia)
 refine(by erw[jV,de],λh=>by erw[mI j j,AJ (rfl,h)],λu y a=>?_);have b:u<AG g:=by have:=dY a;rw[jV]at this;exact this
 rw[mI j b]at a;split at a;rename_i k;cases a;erw[k.1];exact(0,U.src k.2,Au _);split at a;cases a;rename_i k;rw[a]at k;have d:comes g f c u=AF:=by
  cases q:comes g f c u with
  |false=>rfl
  |true=>rw[q]at k;exact absurd rfl k
 exact p y u a d y rfl
def IH(g:Aw)(f:Ey):Prop:=f.goal<AG g/\f.costs=EF g f.goal
def IH.gc(hw:0<g.wide)(h:IH g f):Tight (AG g) (wt g AC) (An g f.goal) f.goal f.costs:=by erw[h.2];exact ip hw
def xh(hw:0<g.wide)(h:at_ (A0 g s) u=AA 0):u=s:=by
 rcases (fG (g:=g) (s:=s) hw).HG u 0 h with⟨q,_⟩ | ⟨v,y,w,_,a,b⟩;exact q;have:=step_pos a;lia
@[inline]def before(g:Aw)(d:DJ)(c:Nat):Option Nat:=(Ai (AG g)).find? λu=>(Ab g u c).isSome && (at_ d u).isSome && Cp (at_ d u) (Ab g u c)==at_ d c
def p6{p:Nat->Bool}(a:u<n)(h:p u=AC)(b:∀v,v<u->p v=AF):(Ai n).find? p=AA u:=by
 erw[Sm];refine(h,u,by erw[DS];exact a,JB _,λj c=>?_);erw[JB,b j c];rfl
def iB:((Ab g u c).isSome && (at_ d u).isSome && Cp (at_ d u) (Ab g u c)==at_ d c)=AC↔∃x w,at_ d u=AA x/\Ab g u c=AA w/\at_ d c=AA (x+w):=by
 cases k:at_ d u with
 |none=>
  constructor;intro h;simp at h;intro(x,w,h,_);cases h
 |some x=>
  cases j:Ab g u c with
  |none=>
   constructor;intro h;simp at h;intro(x,w,_,h,_);cases h
  |some w=>
   constructor;intro h;refine(x,w,rfl,rfl,?_);have:(AA (x+w)==at_ d c)=AC:=by simpa[Cp]using h
   exact(eq_of_beq this).symm;intro(f,i,e,b,a);cases e;cases b;erw[a];simp[Cp]
def mF(h:at_ d c=AA 0):∀n,Fx g d n c=[c]
 | 0=>rfl
 |n+1=>by
  show (if at_ d c=AA 0 then [c]else _)=[c];erw[AJ h]
def mG(h:at_ d c≠AA 0)(a:before g d c=AA u):Fx g d (n+1) c=c::Fx g d n u:=by
 show (if at_ d c=AA 0 then [c]else match before g d c with
  |none=>[c]
  |some u=>c::Fx g d n u)=_
 erw[AK h,a]
def last_eq{cs:List Nat}{c:Nat}(h:cs.getLast? =AA c):cs=cs.dropLast ++ [c]:=by
 have(ys,e):=List.getLast?_eq_some_iff.mp h;subst e;erw[Sv]
structure Back(g:Aw)(s t:Nat)(cs:List Nat)(c y:Nat):Prop where
 lst:cs.getLast? =AA c
 val:at_ (A0 g s) c=AA y
 eq:Fx g (A0 g s) (AG g) t=cs.dropLast ++ Fx g (A0 g s) (rank (AG g) (A0 g s) y) c
def qv(hw:0<g.wide):∀(x u n m:Nat),at_ (A0 g s) u=AA x->rank (AG g) (A0 g s) x<=n->rank (AG g) (A0 g s) x<=m->Fx g (A0 g s) n u=Fx g (A0 g s) m u:=by
 have T:=fG (g:=g) (s:=s) hw;intro x;induction x using Kh with
 |ind x z=>
  intro u n m a j k;by_cases o:x=0;subst o;erw[mF a,mF a];have t:at_ (A0 g s) u≠AA 0:=by erw[a];intro q;exact o (Ap q)
  cases e:before g (A0 g s) u with
  |none=>
   exfalso;rcases T.HG u x a with⟨_,q,_⟩ | ⟨v,y,w,i,h,f⟩;exact o q;exact absurd (iB.mpr (y,w,i,h,by erw[a,f])) (Lf.mp e v (EC.mpr (eI h).1))
  |some v=>
   have(y,w,i,h,f):=(iB (g:=g) (d:=A0 g s) (c:=u) (u:=v)).mp (NF (p:=λb=>(Ab g b u).isSome && (at_ (A0 g s) b).isSome && Cp (at_ (A0 g s) b) (Ab g b u)==at_ (A0 g s) u) e);rw[a]at f;cases f;have l:y<y+w:=by have:=step_pos h;lia
   have r:=iG T.len i l
   match n,m,j,k with
   | 0,_,j,_=>lia
   | _+1,0,_,k=>lia
   |n+1,m+1,j,k=>erw[mG t e,mG t e,z y l v n m i () ()]
def zE(hw:0<g.wide)(h:at_ (A0 g s) t=AA y):Back g s t [t] t y:=
 (rfl,h,qv hw y t _ _ h (O0 (kJ (fG hw).len h)) (Au _))
def zD(hw:0<g.wide)(B:Back g s t cs c y)(d:c≠s)(f:before g (A0 g s) c=AA u)(a:at_ (A0 g s) u=AA x)(h:Ab g u c=AA w)(j:y=x+w):
  Back g s t (cs ++ [u]) u x:=by
 have T:=fG (g:=g) (s:=s) hw;have l:x<y:=by have:=step_pos h;lia
 have r:=iG T.len a l;have b:at_ (A0 g s) c≠AA 0:=λq=>d (xh hw q);refine(by erw[Ww];rfl,a,?_);have i:rank (AG g) (A0 g s) y=(rank (AG g) (A0 g s) y - 1) + 1:=by lia
 erw[B.eq,i,mG b f,Sv,qv hw x u _ _ a () (Au (rank (AG g) (A0 g s) x))];have e:cs=cs.dropLast ++ [c]:=last_eq B.lst
 conv=>rhs;erw[e]
 erw[Jq];rfl
def zF(hw:0<g.wide)(B:Back g s t cs s y):Fx g (A0 g s) (AG g) t=cs:=by
 have T:=fG (g:=g) (s:=s) hw;have a:y=0:=by
  have st:An g s=AC:=by
   rcases h:An g s with _| _;have:=B.val;rw[qY hw h]at this;unfold at_ at this;rw[DA,ND]at this;split at this<;>cases this;rfl
  have:=T.src st;rw[B.val]at this;exact Ap this
 subst a;have e:cs=cs.dropLast ++ [s]:=last_eq B.lst;erw[B.eq,mF B.val];exact e.symm
def GF(b:Nat):Bool:=decide (48<=b/\b<=57)
def FC(b:Nat):Bool:=decide (b=35\/(49<=b/\b<=57)\/(97<=b/\b<=102))
@[inline]def isCell(t:List Nat)(p:Nat):Bool:=decide (p+1<t.length) && FC (t.getD p 0) && GF (t.getD (p+1) 0)
def FM(t:List Nat)(p:Nat):Bool:=decide (p+1<t.length) && FC (t.getD p 0) && !GF (t.getD (p+1) 0)
@[inline]def cnt:List Nat->Nat
 |a::b::r=>if FC a && GF b then cnt r+1 else 0
 | _=>0
@[inline]def cellOf(a h:Nat):Cell:={cost:=if a=35 then 0 else if a<=57 then a - 48 else 1,height:=h - 48,door:=if 97<=a then AA (a - 97)else AB}
def Dm:List Nat->List Cell
 |a::b::r=>if FC a && GF b then cellOf a b::Dm r else []
 | _=>[]
def hZ:∀t:List Nat,(Dm t).length=cnt t
 | []=>rfl
 | [_]=>rfl
 |a::b::r=>by
  unfold Dm cnt;split;erw[AS,hZ r];rfl
def qu(h:FC a=AC):firstOf a=AA (AE (if a=35 then 0 else if a<=57 then a - 48 else 1) (if 97<=a then AA (a - 97)else AB)):=by
 have h:=DT h;unfold firstOf;rcases h with h|h|h;subst h;rfl;erw[AJ h,AK (),AJ (),AK ()];erw[AK (),AK (),AJ h,AK (),AK (),AJ ()]
def zA(h:FC a=AF):firstOf a=AB:=by
 have h:=of_decide_eq_false h;unfold firstOf;erw[AK (),AK (),AK ()]
def gE{a:Type}(t:List a)(p q:Nat)(z:a):(t.drop p).getD q z=t.getD (p+q) z:=by
 erw[DA,DA,PJ]
def nj:∀(i:Nat) (t:List Nat),(FO i t).1=Dm t/\(FO i t).2=if FM t (2 * cnt t)then(AE (i+2 * cnt t+1) (0::t.drop (2 * cnt t+2)))else(AE (i+2 * cnt t) (t.drop (2 * cnt t)))
 |i,[]=>(rfl,rfl)
 |i,[a]=>(rfl,rfl)
 |i,a::b::r=>by
  cases c:FC a with
  |false=>
   have e:FO i (a::b::r)=(AE [] (AE i (a::b::r))):=by
    unfold FO;erw[zA c]
   have j:cnt (a::b::r)=0:=by unfold cnt;erw[c];rfl
   have ci:Dm (a::b::r)=[]:=by unfold Dm;erw[c];rfl
   have f:FM (a::b::r) 0=AF:=by
    unfold FM;show (_ && FC a && _)=AF;erw[c];simp
   erw[e,j,ci,f];exact(rfl,rfl)
  |true=>
   cases d:GF b with
   |false=>
    have k:=of_decide_eq_false d;have e:FO i (a::b::r)=(AE [] (AE (i+1) (0::r))):=by
     unfold FO;erw[qu c];dsimp only;erw[AK k]
    have j:cnt (a::b::r)=0:=by unfold cnt;erw[c,d];rfl
    have ci:Dm (a::b::r)=[]:=by unfold Dm;erw[c,d];rfl
    have f:FM (a::b::r) 0=AC:=by
     unfold FM;show (decide (0+1<r.length+1+1) && FC a && !GF b)=AC;erw[c,d];simp
    erw[e,j,ci,f];exact(rfl,rfl)
   |true=>
    have k:=DT d;have(m,l):=nj (i+2) r;have e:FO i (a::b::r)=(AE (cellOf a b::(FO (i+2) r).1) ((FO (i+2) r).2)):=by
     erw[FO,qu c];dsimp only;erw[AJ k];rfl
    have j:cnt (a::b::r)=cnt r+1:=by erw[cnt,c,d];rfl
    have ci:Dm (a::b::r)=cellOf a b::Dm r:=by erw[Dm,c,d];rfl
    have f:FM (a::b::r) (2 * (cnt r+1))=FM r (2 * cnt r):=by
     unfold FM;have h:2 * (cnt r+1)=(2 * cnt r) + 1+1:=by lia
     erw[h];have g:decide (2 * cnt r+1+1+1<(a::b::r).length)=decide (2 * cnt r+1<r.length):=by
      erw[AS,AS];exact HZ.mpr ()
     erw[g];rfl
    erw[e,j,ci,f];refine(by erw[m],?_);show (FO (i+2) r).2=_;erw[l];split;have h:i+2 * (cnt r+1) + 1=i+2+2 * cnt r+1:=by lia
    have g:2 * (cnt r+1) + 2=(2 * cnt r+2) + 1+1:=by lia
    erw[h,g];rfl;have h:i+2 * (cnt r+1)=i+2+2 * cnt r:=by lia
    have g:2 * (cnt r+1)=(2 * cnt r) + 1+1:=by lia
    erw[h,g];rfl
def qc:∀t:List Nat,2 * cnt t<=t.length
 | []=>by simp[cnt]
 | [a]=>by simp[cnt]
 |a::b::r=>by
  have:=qc r;unfold cnt;split;simp only[AS];lia;lia
def jl:∀(t:List Nat) (k:Nat),k<cnt t->isCell t (2 * k)=AC
 | [],k,h=>by simp[cnt]at h
 | [a],k,h=>by simp[cnt]at h
 |a::b::r,k,h=>by
  unfold cnt at h;split at h;rename_i q;rw[DN]at q
  match k with
  | 0=>
   unfold isCell;show (decide (0+1<r.length+1+1) && FC a && GF b)=AC;erw[q.1,q.2];simp
  |k+1=>
   have:=jl r k ();unfold isCell at this|-;have d:2 * (k+1)=2 * k+1+1:=by lia
   erw[d];have c:decide (2 * k+1+1+1<(a::b::r).length)=decide (2 * k+1<r.length):=by
    erw[AS,AS];exact HZ.mpr ()
   erw[c];exact this
  lia
def qb:∀(t:List Nat),isCell t (2 * cnt t)=AF
 | []=>by simp[isCell]
 | [a]=>by simp[isCell]
 |a::b::r=>by
  by_cases q:(FC a && GF b)=AC;have c:cnt (a::b::r)=cnt r+1:=by erw[cnt,AJ q]
  have:=qb r;erw[c];unfold isCell at this|-;have e:2 * (cnt r+1)=2 * cnt r+1+1:=by lia
  erw[e];have d:decide (2 * cnt r+1+1+1<(a::b::r).length)=decide (2 * cnt r+1<r.length):=by
   erw[AS,AS];exact HZ.mpr ()
  erw[d];exact this;have c:cnt (a::b::r)=0:=by erw[cnt,AK q]
  erw[c];unfold isCell;show (_ && FC a && GF b)=AF;erw[Bool.and_assoc,Sy _ |>.mp q];simp
def lT:isCell (t.drop s) p=isCell t (s+p):=by
 unfold isCell;erw[gE,gE,Fs];have:decide (p+1<t.length - s)=decide (s+p+1<t.length):=HZ.mpr ();erw[this];rfl
def zC:FM (t.drop s) p=FM t (s+p):=by
 unfold FM;erw[gE,gE,Fs];have:decide (p+1<t.length - s)=decide (s+p+1<t.length):=HZ.mpr ();erw[this];rfl
def Jr(t:List Nat)(start a most:Nat):Option Nat:=
 let k:=cnt (t.drop start)
 if most<k then AA (start+2 * most)
 else if FM t (start+2 * k)=AC then AA (start+2 * k+1)
 else if k<a\/(start+2 * k<t.length/\t.getD (start+2 * k) 0≠10)then AA (start+2 * k)
 else AB
def HE(t:List Nat):Nat->Nat->Nat->Nat->Option Nat
 | 0,start,_,_=>AA (start - 1)
 |n+1,start,a,most=>match Jr t start a most with
  |some p=>AA p
  |none=>
   let k:=cnt (t.drop start)
   if start+2 * k=t.length then AB else HE t n (start+2 * k+1) k k
def Li(t:List Nat):Option Nat:=HE t 10 0 1 12
inductive Rows(k:Nat):List Nat->List Cell->Prop
 |last {t:List Nat}:cnt t=k->t.length=2 * k->Rows k t (Dm t)
 |more {t:List Nat} {cs:List Cell}:cnt t=k->t[2 * k]? =AA 10->Rows k (t.drop (2 * k+1)) cs->Rows k t (Dm t ++ cs)
def TH(w:Option Nat)(k:Nat):Bool:=match w with
 |none=>decide (WIDE<k)
 |some m=>decide (m<k)
def rl(w:Option Nat)(k:Nat):TH w k=decide (w.getD WIDE<k):=by cases w<;>rfl
def ni(t:List Nat):∀(n r:Nat) (w:Option Nat) (acc:List Cell) (start a most:Nat),r+n=10->0<n->((w=AB/\a=1/\most=12)\/∃m,0<m/\w=AA m/\a=m/\most=m)->start<=t.length->
  match HE t n start a most with
  |some p=>Me (n+1) r w acc start (t.drop start)=.error p
  |none=>∃k cs,a<=k/\k<=most/\Rows k (t.drop start) cs/\Me (n+1) r w acc start (t.drop start)=.ok {wide:=k,cells:=acc ++ cs}
 | 0,r,w,acc,start,a,most,_,C,_,_=>absurd C ()
 |n+1,r,w,acc,start,a,most,K,_,hw,J=>by
  have(u,f):=nj start (t.drop start);have H:(FO start (t.drop start)).1.length=cnt (t.drop start):=by erw[u,hZ]
  have D:=qc (t.drop start);rw[Fs]at D;have L:0<a:=by rcases hw with⟨_,h,_⟩ | ⟨m,G,_,h,_⟩<;>lia
  have wd:w.getD WIDE=most:=by rcases hw with⟨rfl,_,rfl⟩ | ⟨m,_,rfl,_,rfl⟩<;>rfl
  have short:0<cnt (t.drop start)->((w.any λm=>decide (cnt (t.drop start)<m))=AC↔cnt (t.drop start)<a):=λN=>by
   rcases hw with⟨rfl,rfl,rfl⟩ | ⟨m,_,rfl,rfl,rfl⟩;simp;lia;simp
  rw[zC,NH,NH]at f;have B:Me (n+1+1) r w acc start (t.drop start)=(
    if cnt (t.drop start)=0 then .error (FO start (t.drop start)).2.1
    else if decide (most<cnt (t.drop start))=AC then .error (start+2 * most)
    else if (w.any λm=>decide (cnt (t.drop start)<m))=AC then .error (FO start (t.drop start)).2.1
    else match (FO start (t.drop start)).2.2 with
    | []=> .ok {wide:=cnt (t.drop start),cells:=acc ++ Dm (t.drop start)}
    | 10::r'=>if HIGH<=r+1 then .error (FO start (t.drop start)).2.1 else Me (n+1) (r+1) (AA (cnt (t.drop start))) (acc ++ Dm (t.drop start)) ((FO start (t.drop start)).2.1+1) r'
    | _=> .error (FO start (t.drop start)).2.1):=by
   conv=>lhs;unfold Me
   dsimp only;erw[H,wd,u];erw[show decide (most<cnt (t.drop start))=TH w (cnt (t.drop start)) from by erw[rl,wd]];rfl
  erw[B];generalize g:cnt (t.drop start)=k at *;have A:HE t (n+1) start a most=match Jr t start a most with
   |some p=>AA p
   |none=>if start+2 * k=t.length then AB else HE t n (start+2 * k+1) k k:=by
   erw[HE,g]
  have z:Jr t start a most=if most<k then AA (start+2 * most)
   else if FM t (start+2 * k)=AC then AA (start+2 * k+1)
   else if k<a\/(start+2 * k<t.length/\t.getD (start+2 * k) 0≠10)then AA (start+2 * k)
   else AB:=by erw[Jr,g]
  erw[A,z];by_cases c:most<k;erw[AJ c];dsimp only;erw[AK (),AJ (BH c)];erw[AK c];by_cases j:FM t (start+2 * k)=AC;erw[AJ j];dsimp only;rw[AJ j]at f;erw[f];by_cases k0:k=0;erw[AJ k0];erw[AK k0,AK (by simpa using c)];split<;>rfl;erw[AK j];rw[AK j]at f;erw[f];dsimp only;by_cases b:k<a\/(start+2 * k<t.length/\t.getD (start+2 * k) 0≠10);erw[AJ b];dsimp only;by_cases k0:k=0;erw[AJ k0];erw[AK k0,AK (by simpa using c)];by_cases d:k<a;erw[AJ ((short ()).mpr d)];erw[AK (λq=>d ((short ()).mp q))];rcases b with b| ⟨b,y⟩;exact absurd b d;erw[Go b];have:t[start+2 * k]≠10:=by
   rw[DA,AX b]at y;exact y
  split;rename_i q;cases q;rename_i q;exact absurd (List.cons.inj q).1 this;rfl;erw[AK b];rw[A5]at b;dsimp only;have k0: ¬k=0:=by lia
  have d: ¬(w.any λm=>decide (k<m))=AC:=λq=>b.1 ((short ()).mp q);by_cases x:start+2 * k=t.length;erw[AJ x];dsimp only;erw[AK k0,AK (by simpa using c),AK d,Lg (show t.length<=start+2 * k by lia)];dsimp only;refine(k,Dm (t.drop start),by lia,by lia,.last g (by erw[Fs];lia),rfl);erw[AK x];have i:start+2 * k<t.length:=by lia
  have v:t[start+2 * k]=10:=by
   have:=b.2;rw[DA,AX i]at this;exact NI λq=>this (i,q)
  have dr:t.drop (start+2 * k)=10::t.drop (start+2 * k+1):=by
   erw[Go i,v]
  erw[AK k0,AK (by simpa using c),AK d,dr]
  match n with
  | 0=>
   erw[HE];show (if HIGH<=r+1 then _ else _)=_;erw[AJ (show HIGH<=r+1 from by unfold HIGH;lia)];rfl
  |n+1=>
   have s: ¬HIGH<=r+1:=by unfold HIGH;lia
   have e:=ni t (n+1) (r+1) (AA k) (acc ++ Dm (t.drop start)) (start+2 * k+1) k k () () (.inr (k,by lia,rfl,rfl,rfl)) ();cases o:HE t (n+1) (start+2 * k+1) k k with
   |some p=>
    rw[o]at e;show (if HIGH<=r+1 then _ else _)=_;erw[AK s];exact e
   |none=>
    rw[o]at e;dsimp only at e;have(l,cs,G,M,F,E):=e;have I:l=k:=by lia
    subst I;refine(l,Dm (t.drop start) ++ cs,by lia,by lia,.more g ?_ ?_,?_);erw[PJ,AX i,v];erw[NH];exact F;show (if HIGH<=r+1 then _ else _)=_;erw[AK s];erw[E,Jq]
def ss(t:List Nat):match Li t with
  |some p=>readGround t=.error p
  |none=>∃k cs,1<=k/\k<=12/\Rows k t cs/\readGround t=.ok {wide:=k,cells:=cs}:=by
 have:=ni t 10 0 AB [] 0 1 12 rfl () (.inl (rfl,rfl,rfl)) (DR _);unfold Li;cases e:HE t 10 0 1 12 with
 |some p=>rw[e]at this;exact this
 |none=>rw[e]at this;exact this
@[inline]def places(t:List Nat)(k:Nat):List Nat:=(Ai t.length).filter λp=>decide (p % (2 * k+1) % 2=0) && decide (t.getD p 0≠10)
def zB(h:FC a=AC):a≠10:=by have:=DT h;lia
def kC:∀(t:List Nat),((Ai (2 * cnt t)).filter λp=>decide (p % 2=0) && decide (t.getD p 0≠10)).map (λp=>cellOf (t.getD p 0) (t.getD (p+1) 0))=Dm t
 | []=>by simp[cnt,Dm]
 | [a]=>by simp[cnt,Dm]
 |a::b::r=>by
  by_cases q:(FC a && GF b)=AC;have c:cnt (a::b::r)=cnt r+1:=by erw[cnt,AJ q]
  have ci:Dm (a::b::r)=cellOf a b::Dm r:=by erw[Dm,AJ q]
  erw[c,ci];have h:2 * (cnt r+1)=2+2 * cnt r:=by lia
  erw[h,List.range_add];have ne:a≠10:=zB (by rw[DN]at q;exact q.1);have g:(Ai 2).filter (λp=>decide (p % 2=0) && decide ((a::b::r).getD p 0≠10))=[0]:=by
   show Sq _ [0,1]=[0];erw[Ec,AJ (by show (decide (0 % 2=0) && decide (a≠10))=AC;erw[BH ne];rfl),Ec,AK (by show ¬(decide (1 % 2=0) && _)=AC;simp)];rfl
  erw[Hn,g,NG,Dd,Dc];show cellOf a b::_=_
  congr 1
  erw[<-kC r];have f:((λp=>decide (p % 2=0) && decide ((a::b::r).getD p 0≠10))∘λx=>2+x)=λp=>decide (p % 2=0) && decide (r.getD p 0≠10):=by
   funext p;show (decide ((2+p) % 2=0) && decide ((a::b::r).getD (2+p) 0≠10))=_;have:2+p=p+1+1:=by lia
   erw[this];have d:decide ((p+1+1) % 2=0)=decide (p % 2=0):=HZ.mpr ();erw[d];rfl
  erw[f];have e:((λp=>cellOf ((a::b::r).getD p 0) ((a::b::r).getD (p+1) 0))∘λx=>2+x)=λp=>cellOf (r.getD p 0) (r.getD (p+1) 0):=by
   funext p;show cellOf ((a::b::r).getD (2+p) 0) ((a::b::r).getD (2+p+1) 0)=_;have:2+p=p+1+1:=by lia
   erw[this];rfl
  erw[e];rfl;have c:cnt (a::b::r)=0:=by erw[cnt,AK q]
  have ci:Dm (a::b::r)=[]:=by erw[Dm,AK q]
  erw[c,ci];rfl
def nX{t:List Nat}:(Ai (2 * k)).filter (λp=>decide (p % (2 * k+1) % 2=0) && decide (t.getD p 0≠10))=(Ai (2 * k)).filter λp=>decide (p % 2=0) && decide (t.getD p 0≠10):=by
 refine PR λp a=>?_;erw[Ou (by have:=EC.mp a;lia:p<2 * k+1)]
def places_eq:∀{t:List Nat} {cs:List Cell},Rows k t cs->(places t k).map (λp=>cellOf (t.getD p 0) (t.getD (p+1) 0))=cs:=by
 intro t cs h;induction h with
 |last b a=>
  unfold places;erw[a,nX,<-b];exact kC _
 |more b a i c=>
  rename_i t cs;have(g,j):=AY.mp a;have d:t.length=(2 * k+1) + (t.drop (2 * k+1)).length:=by erw[Fs];lia
  unfold places at c|-;erw[show (Ai t.length)=Ai ((2 * k+1) + (t.drop (2 * k+1)).length) by erw[<-d],List.range_add,Hn,Dd]
  congr 1
  erw[Jn,Hn,Ec,AK,List.filter_nil,BF,nX]
  conv=>lhs;erw[<-b]
  exact kC t;erw[DA,a];simp;erw[NG,Dc,<-c];have f:((λp=>decide (p % (2 * k+1) % 2=0) && decide (t.getD p 0≠10))∘λx=>2 * k+1+x)=λp=>decide (p % (2 * k+1) % 2=0) && decide ((t.drop (2 * k+1)).getD p 0≠10):=by
   funext p;show (decide ((2 * k+1+p) % (2 * k+1) % 2=0) && decide (t.getD (2 * k+1+p) 0≠10))=_;erw[Nat.add_mod_left,gE]
  have e:((λp=>cellOf (t.getD p 0) (t.getD (p+1) 0))∘λx=>2 * k+1+x)=λp=>cellOf ((t.drop (2 * k+1)).getD p 0) ((t.drop (2 * k+1)).getD (p+1) 0):=by
   funext p;show cellOf (t.getD (2 * k+1+p) 0) (t.getD (2 * k+1+p+1) 0)=_;erw[gE,gE];rfl
  erw[f,e]
def sZ(h:Rows k t cs):cnt t=k:=by cases h<;>assumption
def sX:∀{t:List Nat} {cs:List Cell},Rows k t cs->∃n,cs.length=n * k/\0<n:=by
 intro t cs h;induction h with
 |last a c=>exact(1,by erw[hZ,a];lia,by lia)
 |more a c d b=>
  have(n,e,_):=b;exact(n+1,by erw[BZ,e,hZ,a,Nat.add_mul];lia,by lia)
end RW
end
section
namespace L3
open PySem PySem.Spec PyProof.Rows L2
def GI(mg:Str->Option AI)(x:Str)(n:Int):Prop:=∃t,mg x=AA (.int n t)
section
variable (P:ET) (w:Do) (K:Ao) (mg:Str→Option AI) (base:BI) (k:Nat)
def A8(x:Str)(ps:List Str)(sp:Sp):Prop:=∃(f:AD) (fd:IU),AV P w K mg base AZ k f fd ps sp/\mg x=AA (.ref f)/\G9 K (.ref f)=AC/\Binds K fd ps []
def A6(C:AD)(m:Str)(ps:List Str)(sp:Sp):Prop:=EO K C/\∃(f:AD) (fd:IU),AV P w K mg base AZ k f fd ps sp/\Meth K C m f/\Binds K fd ps []
def FX(x:Str)(C:AD)(ps:List Str)(sp:Sp):Prop:=∃(f:AD) (fd:IU),AV P w K mg base AZ k f fd ps sp/\Mk K C f/\mg x=AA (.ref C)/\Binds K fd ps []
end
def A8.mono(h:j<=k)(D:A8 c w d mg base j x ps sp):A8 c w d mg base k x ps sp:=
 let(f,fd,a,b):=D;(f,fd,a.mono h,b)
def A6.mono(h:j<=k)(D:A6 d w e mg base j C x ps sp):A6 d w e mg base k C x ps sp:=
 let(c,f,fd,a,b):=D;(c,f,fd,a.mono h,b)
def FX.mono(h:j<=k)(D:FX c w d mg base j x C ps sp):FX c w d mg base k x C ps sp:=
 let(f,fd,a,b):=D;(f,fd,a.mono h,b)
def dI(h:GI X.mg x n)(a:Gl X x:=by rfl)(b:(x==("__debug__":Str))=AF:=by decide):PE X (.Name x pos) (tC (.int n)):=by
 have(t,h):=h;exact oP a h (t,rfl) b
def ag(D:A8 X.prog X.w X.K X.mg X.base k x ps sp)(b:DX k X.A)(h:Gl X x)(m:PA X (e::a) t)(j:(x==("__debug__":Str))=AF:=by decide)(i:BE (e::a) X.env=(AE AF (E3 e X.env))::BE a X.env:=by rfl)(c:(EG pos (BE a X.env)).any (·.1)=AF:=by rfl):PE X (.Call (.Name x p) (e::a) [] pos) (BX sp [] E0 t):=by
 have(f,fd,F,d,g,l):=D;exact t5 F b h d g l .nil gn m j i c
def ae(n:PE X o d)(D:A6 X.prog X.w X.K X.mg X.base k C m ps sp)(i:DX k X.A)(q:PA X (e::a) t)(h:BE (e::a) X.env=(AE AF (E3 e X.env))::BE a X.env:=by rfl)(j:(EG pos (BE a X.env)).any (·.1)=AF:=by rfl)(g:E3 (.Call (.Attribute o m apos) (e::a) [] pos) X.env=(do
   let b <-E3 o X.env
   IQ apos.atName
   let (f,first) <-GY [b] (KP b m pl)
   Jh pos f first (EG pos (BE (e::a) X.env)) (Jj pos (Jg [] X.env))):=by rfl):PE X (.Call (.Attribute o m apos) (e::a) [] pos) (Bc C m sp [] E0 d t):=by
 have(c,f,fd,F,l,p):=D;exact tU (pl:=pl) n c l F i p .nil gn q h j g
def tS(h:PE X o b)(D:A6 X.prog X.w X.K X.mg X.base k C m ps sp)(e:DX k X.A)(d:E3 (.Call (.Attribute o m apos) [] [] pos) X.env=(do
   let a <-E3 o X.env
   IQ apos.atName
   let (f,first) <-GY [a] (KP a m pl)
   Jh pos f first (EG pos (BE [] X.env)) (Jj pos (Jg [] X.env))):=by rfl):PE X (.Call (.Attribute o m apos) [] [] pos) (Bc C m sp [] E0 b BR):=by
 have(c,f,fd,F,g,i):=D;exact tT (pl:=pl) h c g F e i .nil gn d
def gP(D:FX X.prog X.w X.K X.mg X.base k x C ps sp)(b:DX (k+1) X.A)(g:Gl X x)(l:PA X (e::a) t)(i:(x==("__debug__":Str))=AF:=by decide)(h:BE (e::a) X.env=(AE AF (E3 e X.env))::BE a X.env:=by rfl)(c:(EG pos (BE a X.env)).any (·.1)=AF:=by rfl):PE X (.Call (.Name x p) (e::a) [] pos) (Bg C sp [] E0 t):=by
 have(f,fd,F,M,d,j):=D;exact tX M F b g d j .nil gn l i h c
def tV(D:FX X.prog X.w X.K X.mg X.base k x C ps sp)(a:DX (k+1) X.A)(c:Gl X x)(d:(x==("__debug__":Str))=AF:=by decide):PE X (.Call (.Name x p) [] [] pos) (Bg C sp [] E0 BR):=by
 have(f,fd,F,M,b,e):=D;exact tW M F a c b e .nil gn d
end L3
end
section
namespace RW
open PySem PySem.Spec PyProof.Rows L2 L3 Vbwsal
abbrev nV(n:Nat):V:=.int n
@[inline]def oV:Option Nat->V
 |none=> .Al
 |some n=> .int n
def aM{a:Type}(xs:List a)(j:Nat):FE xs (j:Int)=xs[j]? :=by
 cases e:xs[j]? with
 |some v=>exact zI e
 |none=>
  unfold FE Gb;have:=List.getElem?_eq_none_iff.mp e;erw[AJ (),AK ()];rfl
def am(n j:Nat):Gb n (j:Int)=if j<n then AA j else AB:=by
 unfold Gb;erw[AJ ()];by_cases h:j<n;erw[AJ (),AJ h];rfl;erw[AK (),AK h]
def aO{a:Type}(xs:List a):FE xs 0=xs[0]? :=aM xs 0
def aR{a:Type}(xs:List a):FE xs 1=xs[1]? :=aM xs 1
def aP{a:Type}(xs:List a):FE xs 2=xs[2]? :=aM xs 2
def aQ{a:Type}(xs:List a):FE xs 3=xs[3]? :=aM xs 3
inductive Nl(x:V)(y:V)(H:Hp)(Q:VK):Prop
 |mk:∀p xs i v,(x=.ref p)->(y=.int i)->(H p=AA (.lst xs))->(FE xs i=AA v)->(Q v H)->Nl x y H Q
def aL:OC X Nl:=λb c pins s σ H x y v u Q I e d (p,xs,i,z,g,f,h,a,q)=>je b c pins s σ H x y v u Q I e d (p,xs,i,z,g,f,AN.of h,a,q)
inductive Nk(vs:List V)(H:Hp)(Q:VK):Prop
 |mk:∀p xs,(vs=[.ref p])->(H p=AA (.lst xs))->(Q (.int xs.length) H)->Nk vs H Q
def dj:Fk X (.builtin "len") Nk:=λpins s σ H vs us Q I r (p,xs,e,h,q)=>qi pins s σ H vs us Q I r (p,xs,e,.inl (AN.of h),q)
def bE:(IC e d w a mg base N q b f c A o s H E).K=a:=rfl
def bC:Ht (.int i) (.int j)=AC:=rfl
def bB:Ht .Al (.int i)=AC:=rfl
def bA:Ht (.int i) .Al=AC:=rfl
def a9:Ht (.str i) (.str j)=AC:=rfl
def a8:Ht (.bl i) (.bl j)=AC:=rfl
def a7:Ht .Al .Al=AC:=rfl
def boot_abs:Fm "abs"=AA (.builtin "abs"):=by decide +kernel
def boot_min:Fm "min"=AA (.builtin "min"):=by decide +kernel
def boot_max:Fm "max"=AA (.builtin "max"):=by decide +kernel
def boot_any:Fm "any"=AA (.builtin "any"):=by decide +kernel
def boot_all:Fm "all"=AA (.builtin "all"):=by decide +kernel
def boot_sorted:Fm "sorted"=AA (.builtin "sorted"):=by decide +kernel
def AQ(S:List AD)(H a:Hp):Prop:=∀b o,H b=AA o->b∉S->a b=AA o
def AH.but(s:AH H a):AQ S H a:=λb o h _=>s b o h
def AQ.trans(a:AQ S H e)(b:AQ S e d):AQ S H d:=λc o h n=>b c o (a c o h n) n
def AQ.mono(a:AQ S H f)(h:∀b∈S,b∈d):AQ d H f:=λc o e n=>a c o e λm=>n (h c m)
def AH.upd{H:Hp}(h:H p=AB):AH H (upd H p o):=λb u e=>by erw[aC (aT e h)];exact e
def AQ.upd(h:p∈S):AQ S H (L2.upd H p o):=λb u e n=>by erw[aC (λq=>n (by erw[q];exact h))];exact e
def ah:L2.upd (L2.upd H p x) p y=L2.upd H p y:=by
 funext b;unfold L2.upd;split<;>rfl
def az:Kp a "list" (V.ref p) (L2.upd H p (.lst xs))=True:=eq_true (.inl (rfl,xs,AN.of aB))
def iD{H:Hp}(h:H p=AA (.lst xs)):Kp a "list" (V.ref p) H=True:=eq_true (.inl (rfl,xs,AN.of h))
def sq{u:TS}(h:∀N,N=u D->t {D with nx:=N} σ H):Bq t u D σ H:=h _ rfl
def aN(h:n<=100000):n<=Ae:=by erw[IR];lia
def dS(h:n<=100000):n<Ae:=by erw[IR];lia
section
variable (K:Ao) (D:Ends) (σ:L2.St) (Q:VK)
def Ch(g:TG):VK:=λx H=>g x σ H D.nx
def Cb:VK:=λ_ H=>D.nx σ H
def Bu(Q:Bool->Hp->Prop):VK:=λx H=>∃k,x=.bl k/\Q k H
def Bj(t u:TS):Bool->Hp->Prop:=λb H=>if b=AC then t D σ H else u D σ H
def Ca(t u:TE):Bool->Hp->Prop:=λb H=>if b=AC then t σ H Q else u σ H Q
def Cj(u:TT)(Q:Bool->Hp->Prop):Bool->Hp->Prop:=λc H=>if c=AC then u σ H Q else Q AF H
def CU(u:TT)(Q:Bool->Hp->Prop):Bool->Hp->Prop:=λc H=>if c=AC then Q AC H else u σ H Q
def CW(Q:Bool->Hp->Prop):Bool->Hp->Prop:=λc H=>Q (!c) H
def Bw(r:R2)(x:V):VK:=λy H=>r x y H Q
def CV(r:R2)(u:TE):VK:=λx H=>u σ H (Bw Q r x)
def CO(r:V->Hp->VK->Prop):VK:=λx H=>r x H Q
def Bx(x:V)(Q:List V->Hp->Prop):List V->Hp->Prop:=λxs H=>Q (x::xs) H
def Cc(t:TA)(Q:List V->Hp->Prop):VK:=λx H=>t σ H (Bx x Q)
def Ce(sp:Sp)(a:List V)(E:XK):List V->Hp->Prop:=λvs H=>sp (vs ++ a) H Q E
def Cd(sp:Sp)(E:XK):List V->Hp->Prop:=λvs H=>sp vs H Q E
def CY(sp:Sp)(a:AD)(E:XK):List V->Hp->Prop:=λvs H=>sp (.ref a::vs) H Q E
def Cf(r:List V->Hp->VK->Prop):List V->Hp->Prop:=λvs H=>r vs H Q
def CZ:List V->Hp->Prop:=λxs H=>xs.length<=Ae/\∀p,H p=AB->Q (.ref p) (L2.upd H p (.lst xs))
def CP:List V->Hp->Prop:=λxs H=>xs.length<=Ae/\∀p,H p=AB->Q (.ref p) (L2.upd H p (.tup xs))
def Ci(u:TE):VK:=λx H=>∃c,x=.bl c/\if c=AC then u σ H Q else Q (.bl AF) H
def CT(u:TE):VK:=λx H=>∃c,x=.bl c/\if c=AC then Q (.bl AC) H else u σ H Q
def Bk(r:V->List V->Hp->VK->Prop)(x:V):List V->Hp->Prop:=λxs H=>r x xs H Q
def By(T:String)(r:V->List V->Hp->VK->Prop)(t:TA):VK:=λx H=>Kp K T x H/\t σ H (Bk Q r x)
def Bi(f:Str)(y:V):VK:=λx H=>∃a C b fs,x=.ref a/\H a=AA (.ins C b fs)/\EO K C/\BO K C f/\fs.length<1000/\D.nx σ (L2.upd H a (.ins C b (De f y fs)))
def CS(u:TE)(f:Str):VK:=λy H=>u σ H (Bi K D σ f y)
def Bv(t:MP)(o v:V)(Q:L2.St->Hp->Prop):VK:=λi H=>t o i v H λH=>Q σ H
def CQ(u:TE)(t:MP)(v:V)(Q:L2.St->Hp->Prop):VK:=λo H=>u σ H (Bv σ t o v Q)
def Bz(i:Nat):VK:=λz H=>D.nx (σ.set i (AA z)) H
def Cg(i:Nat)(t:MQ)(x:V):VK:=λy H=>t x y H (Bz D σ i)
end
def ao:Lj i σ H Q=∃v,σ[i]? =AA (AA v)/\Q v H:=propext (λ(v,e,h)=>(v,e,h),λ(v,e,h)=>(v,e,h))
def ay:MC j f Q x H=∃a C b fs v,x=.ref a/\H a=AA (.ins C b fs)/\EO j C/\BO j C f/\fs.lookup f=AA v/\Q v H:=propext (λ(a,C,b,fs,v,i,g,e,d,c,h)=>(a,C,b,fs,v,i,g,e,d,c,h),λ(a,C,b,fs,v,i,g,e,d,c,h)=>(a,C,b,fs,v,i,g,e,d,c,h))
def ax:MB C m sp f E t σ Q x H=∃a b fs,x=.ref a/\H a=AA (.ins C b fs)/\fs.lookup m=AB/\t σ H λvs g=>sp (x::(vs ++ f)) g Q E:=propext (λ(a,b,fs,e,d,c,h)=>(a,b,fs,e,d,c,h),λ(a,b,fs,e,d,c,h)=>(a,b,fs,e,d,c,h))
def au:HJ g x y H Q=∃i j,x=.int i/\y=.int j/\Q (g i j) H:=propext (λ(i,j,b,a,h)=>(i,j,b,a,h),λ(i,j,b,a,h)=>(i,j,b,a,h))
def ap:rU g x H Q=∃i,x=.int i/\Q (g i) H:=propext (λ(i,a,h)=>(i,a,h),λ(i,a,h)=>(i,a,h))
def ar:Nl x y H Q=∃p xs i v,x=.ref p/\y=.int i/\H p=AA (.lst xs)/\FE xs i=AA v/\Q v H:=propext (λ(p,xs,i,v,d,c,b,a,h)=>(p,xs,i,v,d,c,b,a,h),λ(p,xs,i,v,d,c,b,a,h)=>(p,xs,i,v,d,c,b,a,h))
def aq:Nk vs H Q=∃p xs,vs=[.ref p]/\H p=AA (.lst xs)/\Q (.int xs.length) H:=propext (λ(p,xs,b,a,h)=>(p,xs,b,a,h),λ(p,xs,b,a,h)=>(p,xs,b,a,h))
def aw:Lu x vs H Q=∃l xs y,x=.ref l/\vs=[y]/\H l=AA (.lst xs)/\xs.length<Ae/\Q .Al (L2.upd H l (.lst (xs ++ [y]))):=propext (λ(l,xs,y,d,c,b,a,h)=>(l,xs,y,d,c,b,a,h),λ(l,xs,y,d,c,b,a,h)=>(l,xs,y,d,c,b,a,h))
def cw{a:TE}(h:a σ H (Ch D σ g)):Be a g D σ H:=h
def cN{g:TG}(h:g x σ H D.nx):Ch D σ g x H:=h
def bb{Q:L2.St->Hp->Prop}(h:Q (σ.set i (AA v)) H):BL i v σ H Q:=h
def bN{a:TE}(h:a σ H D.rt):B7 a D σ H:=h
def cU{c:TT}(h:c σ H (Bj D σ t u)):CC c t u D σ H:=h
def b8{t u:TS}(h:if c=AC then t D σ H else u D σ H):Bj D σ t u c H:=h
def bI{t:TE}(h:t σ H (Bu Q)):Bp t σ H Q:=h
def dC{t:TE}(h:t σ H (Bu Q)):tB t σ H Q:=h
def bi{Q:Bool->Hp->Prop}(h:Q k H):Bu Q (.bl k) H:=(k,rfl,h)
def bW{a:TE}(h:a σ H (CV σ Q r b)):BU r a b σ H Q:=h
def bv{a:TE}(h:a σ H (Bw Q r x)):CV σ Q r a x H:=h
def bu{r:R2}(h:r x y H Q):Bw Q r x y H:=h
def bG{a:TE}(h:a σ H (CO Q r)):B5 r a σ H Q:=h
def bg{r:V->Hp->VK->Prop}(h:r x H Q):CO Q r x H:=h
def cZ{a:TE}(h:a σ H (Cb D σ)):CF a D σ H:=h
def cA(h:D.nx σ H):Cb D σ x H:=h
def bF{Q:VK}(e:σ[i]? =AA (AA v))(h:Q v H):Lj i σ H Q:=(v,e,h)
def cn{Q:VK}(h:Q v H):tC v σ H Q:=h
def cb{a:TE}(h:a σ H (Cc σ t Q)):Bd a t σ H Q:=h
def cC{t:TA}(h:t σ H (Bx x Q)):Cc σ t Q x H:=h
def cB{Q:List V->Hp->Prop}(h:Q (x::xs) H):Bx x Q xs H:=h
def bZ{Q:List V->Hp->Prop}(h:Q [] H):BR σ H Q:=h
def cf{t:TA}(h:t σ H (Cd Q sp E)):BX sp [] E t σ H Q:=by
 unfold BX;simp only[BF];exact h
def cD{sp:Sp}(h:sp vs H Q E):Cd Q sp E vs H:=h
def cj{t:TA}(h:t σ H (Ce Q sp a E)):BX sp a E t σ H Q:=h
def cE{sp:Sp}(e:vs ++ a=us)(h:sp us H Q E):Ce Q sp a E vs H:=by subst e;exact h
def cc{t:TA}(h:t σ H (Cf Q r)):Bt r t σ H Q:=h
def cG{r:List V->Hp->VK->Prop}(h:r vs H Q):Cf Q r vs H:=h
def be{t:TA}(h:t σ H (CZ Q)):Br t σ H Q:=h
def bz{H:Hp}{Q:VK}(e:xs.length=n)(h:n<=Ae/\∀p,H p=AB->Q (.ref p) (L2.upd H p (.lst xs))):CZ Q xs H:=by subst e;exact h
def bH{t:TA}(h:t σ H (CP Q)):B6 t σ H Q:=h
def bh{H:Hp}{Q:VK}(e:xs.length=n)(h:n<=Ae/\∀p,H p=AB->Q (.ref p) (L2.upd H p (.tup xs))):CP Q xs H:=by subst e;exact h
def cz{a:TE}(h:a σ H (Ci σ Q b)):CI a b σ H Q:=h
def cO{a:TE}(h:if c=AC then a σ H Q else Q (.bl AF) H):Ci σ Q a (.bl c) H:=(c,rfl,h)
def bU{a:TE}(h:a σ H (CT σ Q b)):B8 a b σ H Q:=h
def br{Q:VK}{a:TE}(h:if c=AC then Q (.bl AC) H else a σ H Q):CT σ Q a (.bl c) H:=(c,rfl,h)
def cq{u:TE}(h:u σ H (By a σ Q T r t)):CG a T r u t σ H Q:=h
def cJ{H:Hp}{t:TA}(e:H p=AA (.lst xs))(h:t σ H (Bk Q r (.ref p))):By a σ Q "list" r t (.ref p) H:=(.inl (rfl,xs,AN.of e),h)
def cH{t:TA}(e:Kp a T x H=True)(h:t σ H (Bk Q r x)):By a σ Q T r t x H:=(of_eq_true e,h)
def cI{r:V->List V->Hp->VK->Prop}(h:r x xs H Q):Bk Q r x xs H:=h
def cx{Q:VK}(h:xs.length<Ae/\Q .Al (L2.upd H p (.lst (xs ++ [y])))):Lu (.ref p) [y] (L2.upd H p (.lst xs)) Q:=(p,xs,y,rfl,rfl,aB,h.1,by erw[ah];exact h.2)
def cy{H:Hp}{Q:VK}(e:H p=AA (.lst xs))(h:xs.length<Ae/\Q .Al (L2.upd H p (.lst (xs ++ [y])))):Lu (.ref p) [y] H Q:=(p,xs,y,rfl,rfl,e,h.1,h.2)
def bJ{a:TE}(h:a σ H (CS c D σ b f)):CK c b a f D σ H:=h
def bq{a:TE}(h:a σ H (Bi b D σ f y)):CS b D σ a f y H:=h
def bo{b fs c}(i:EO d C)(g:BO d C f)(e:De f y fs=c)(h:fs.length<1000/\D.nx σ (L2.upd H a (.ins C b c))):Bi d D σ f y (.ref a) (L2.upd H a (.ins C b fs)):=(a,C,b,fs,rfl,aB,i,g,h.1,by erw[ah,e];exact h.2)
def bp{H:Hp}{b fs c}(j:H a=AA (.ins C b fs))(i:EO d C)(g:BO d C f)(e:De f y fs=c)(h:fs.length<1000/\D.nx σ (L2.upd H a (.ins C b c))):Bi d D σ f y (.ref a) H:=(a,C,b,fs,rfl,j,i,g,h.1,by erw[e];exact h.2)
def bS{Q:VK}{g:Int->Int->V}(h:Q (g i j) H):HJ g (.int i) (.int j) H Q:=(i,j,rfl,rfl,h)
def bQ{Q:VK}{g:Int->V}(h:Q (g i) H):rU g (.int i) H Q:=(i,rfl,h)
def cY{a:TE}(h:a σ H (MC b f Q)):Bs b a f σ H Q:=h
def bO{H:Hp}{Q:VK}{b fs v}(i:H a=AA (.ins C b fs))(g:EO c C)(e:BO c C f)(d:fs.lookup f=AA v)(h:Q v H):MC c f Q (.ref a) H:=(a,C,b,fs,v,rfl,i,g,e,d,h)
def dB{t:TT}(h:t σ H (Cj σ u Q)):CJ t u σ H Q:=h
def cP{u:TT}(h:if c=AC then u σ H Q else Q AF H):Cj σ u Q c H:=h
def bV{t:TT}(h:t σ H (CU σ u Q)):B9 t u σ H Q:=h
def bt{u:TT}{Q:Bool->Hp->Prop}(h:if c=AC then Q AC H else u σ H Q):CU σ u Q c H:=h
def bY{t:TT}(h:t σ H (CW Q)):CA t σ H Q:=h
def bw{Q:Bool->Hp->Prop}(h:Q (!c) H):CW Q c H:=h
def bT{Q:VK}(e:Ht x y=AC)(h:Q (.bl (decide (x=y))) H):CN x y H Q:=(e,h)
def bR{Q:VK}(e:Ht x y=AC)(h:Q (.bl (!decide (x=y))) H):CM x y H Q:=(e,h)
def bf{H:Hp}{Q:VK}(e:H p=AA (.lst xs))(a:xs.length=n)(h:Q (.int n) H):Nk [.ref p] H Q:=(p,xs,rfl,e,by erw[a];exact h)
def bd{a:TE}(h:a σ H (MB C m sp b E t σ Q)):Bc C m sp b E a t σ H Q:=h
def bc{H:Hp}{b fs}{t:TA}(d:H a=AA (.ins C b fs))(c:fs.lookup m=AB)(h:t σ H (CY Q sp a E)):MB C m sp [] E t σ Q (.ref a) H:=(a,b,fs,rfl,d,c,by simp only[BF];exact h)
def bx{sp:Sp}(h:sp (.ref a::vs) H Q E):CY Q sp a E vs H:=h
def cQ{H:Hp}{Q:VK}(e:H p=AA (.lst xs))(a:FE xs i=AA v)(h:Q v H):Nl (.ref p) (.int i) H Q:=(p,xs,i,v,rfl,rfl,e,a,h)
def cW{t:TT}(h:t σ H (Ca σ Q b a)):CD t b a σ H Q:=h
def b9{b a:TE}(h:if c=AC then b σ H Q else a σ H Q):Ca σ Q b a c H:=h
def cu{a:TE}(e:σ[i]? =AA (AA x))(h:a σ H (Cg D σ i b x)):CH i a b D σ H:=(x,e,h)
def cK{a:MQ}(h:a x y H (Bz D σ i)):Cg D σ i a x y H:=h
def cM(h:D.nx (σ.set i (AA z)) H):Bz D σ i z H:=h
def cS{Q:VK}{f:Int->Int->Int}(h:Q (.int (f i j)) H):Cm f (.int i) (.int j) H Q:=(i,j,rfl,rfl,h)
def cX{a:TE}(h:a σ H (CQ σ b t v Q)):Cn a b t v σ H Q:=h
def bn{a:TE}(h:a σ H (Bv σ t o v Q)):CQ σ a t v Q o H:=h
def bj{t:MP}{Q:L2.St->Hp->Prop}(h:t o i v H λH=>Q σ H):Bv σ t o v Q i H:=h
def bX{n:L2.St->Hp->Prop}(h:n σ H):Ends.nx (n,r,b,c) σ H:=h
def bK{r:VK}(h:r v H):Ends.rt (n,r,b,c) v H:=h
def ba(h:D.nx σ H):CB D σ H:=h
def bM(h:D.rt .Al H):Cr D σ H:=h
def dA(e:A)(h:B):A/\B:=(e,h)
def cR{c d:Bool}{A B:Prop}(e:c=d)(h:if d=AC then A else B):if c=AC then A else B:=by subst e;exact h
def cT{c:Bool}{A B:Prop}(e:c=AC)(h:A):if c=AC then A else B:=by erw[AJ e];exact h
def cV{c:Bool}{A B:Prop}(e:c=AF)(h:B):if c=AC then A else B:=by erw[AK (by erw[e];exact Dl)];exact h
end RW
end
section
namespace RW
open PySem PySem.Spec PyProof.Rows L2 L3
def xA{K:Ao}{g:TG}{o:TT}{r:TE}{t:Hp->Prop}(c:Nat->Hp->Prop)(E:c 0 (L2.upd G D (.lst [])))(z:∀i H,i<=xs.length->c i H->AN K H a xs)(w:∀i x T H,xs[i]? =AA x->c i H->H T=AB->g (.ref T) (wipe k vs) (L2.upd H T (.tup [.int (i:Nat),x])) λd n=>wipe d vs=wipe k vs/\o d n λb j=>
   if b=AC then r d j λy h=>∃acc,h D=AA (.lst acc)/\acc.length<Ae/\c (i+1) (L2.upd h D (.lst (acc ++ [y])))else c (i+1) j)(B:∀H,c xs.length H->t H):
  ∃W:Nat->Nat->Hp->Prop,(∃m,W 0 m (L2.upd G D (.lst [])))/\∀i m H,W i m H->
   ((HX K a).stop i H/\t H)\/((HX K a).go i H/\∃l:Hp->Prop,(∀f,l f->∃m',m'<m/\W (i+1) m' f)/\∀x f,(HX K a).EK i H x f->g x (wipe k vs) f λd n=>wipe d vs=wipe k vs/\o d n λb j=>
    if b=AC then r d j λy h=>∃acc,h D=AA (.lst acc)/\acc.length<Ae/\l (L2.upd h D (.lst (acc ++ [y])))else l j):=by
 refine(λi m H=>m=xs.length - i/\i<=xs.length/\c i H,(xs.length,by simp,DR _,E),?_);rintro i m H ⟨rfl,A,p⟩;have q:=z i H A p;by_cases s:i<xs.length;refine .inr ((xs,xs[i],q,by simp[s]),c (i+1),λf u=>(xs.length - (i+1),by lia,rfl,s,u),?_);rintro v f ⟨T,x,rfl,C,rfl,y⟩;exact w i x T H (y xs q) p C;have e:i=xs.length:=by lia
 subst e;exact .inl ((xs,q,Au _),B H p)
def a0A{g:TG}{t:TT}{u:TE}{w:Hp->Prop}(B:xs.length=ys.length)(c:Nat->Hp->Prop)(M:c 0 (L2.upd N D (.lst [])))(C:∀i H,i<=xs.length->c i H->AN k H a xs/\AN k H b ys)(A:∀i x y T H,xs[i]? =AA x->ys[i]? =AA y->c i H->H T=AB->g (.ref T) (wipe l vs) (L2.upd H T (.tup [x,y])) λd s=>wipe d vs=wipe l vs/\t d s λb j=>
   if b=AC then u d j λy h=>∃acc,h D=AA (.lst acc)/\acc.length<Ae/\c (i+1) (L2.upd h D (.lst (acc ++ [y])))else c (i+1) j)(G:∀H,c xs.length H->w H):
  ∃W:Nat->Nat->Hp->Prop,(∃m,W 0 m (L2.upd N D (.lst [])))/\∀i m H,W i m H->
   ((JS k a b).stop i H/\w H)\/((JS k a b).go i H/\∃o:Hp->Prop,(∀f,o f->∃m',m'<m/\W (i+1) m' f)/\∀x f,(JS k a b).EK i H x f->g x (wipe l vs) f λd s=>wipe d vs=wipe l vs/\t d s λb j=>
    if b=AC then u d j λy h=>∃acc,h D=AA (.lst acc)/\acc.length<Ae/\o (L2.upd h D (.lst (acc ++ [y])))else o j):=by
 refine(λi m H=>m=xs.length - i/\i<=xs.length/\c i H,(xs.length,by simp,DR _,M),?_);rintro i m H ⟨rfl,E,p⟩;have(q,r):=C i H E p;by_cases n:i<xs.length;refine .inr ((xs,ys,xs[i],ys[i]'(),q,r,by simp[n],by simp[B▸n]),c (i+1),λf z=>(xs.length - (i+1),by lia,rfl,n,z),?_);rintro v f ⟨T,x,y,rfl,I,rfl,L,J⟩;exact A i x y T H (L xs q) (J ys r) p I;have e:i=xs.length:=by lia
 subst e;exact .inl ((xs,ys,q,r,.inl (Au _)),G H p)
def xj{K:Ao}{a b:AD}{xs ys:List V}{g:TG}{l:TS}{D:Ends}{c:L2.St}{H:Hp}(s:xs.length=ys.length)(Pv:Nat->L2.St->Hp->Prop)(B:Pv 0 c H)(t:∀i c H,i<=xs.length->Pv i c H->AN K H a xs/\AN K H b ys)
  (o:∀i x y T c H,xs[i]? =AA x->ys[i]? =AA y->Pv i c H->H T=AB->g (.ref T) c (L2.upd H T (.tup [x,y])) λf k=>l {D with nx:=Pv (i+1),ct:=Pv (i+1),bk:=D.nx} f k)(hd:∀c H,Pv xs.length c H->D.nx c H):
  ∃W:Nat->Nat->L2.St->Hp->Prop,(∃m,W 0 m c H)/\∀i m c H,W i m c H->
   ((JS K a b).stop i H/\D.nx c H)\/((JS K a b).go i H/\∃N:L2.St->Hp->Prop,(∀h d,N h d->∃m',m'<m/\W (i+1) m' h d)/\∀x d,(JS K a b).EK i H x d->g x c d λf k=>l {D with nx:=N,ct:=N,bk:=D.nx} f k):=by
 refine(λi m c H=>m=xs.length - i/\i<=xs.length/\Pv i c H,(xs.length,by simp,DR _,B),?_);rintro i m c H ⟨rfl,u,p⟩;have(q,r):=t i c H u p;by_cases j:i<xs.length;refine .inr ((xs,ys,xs[i],ys[i]'(),q,r,by simp[j],by simp[s▸j]),Pv (i+1),λh d n=>(xs.length - (i+1),by lia,rfl,j,n),?_);rintro v d ⟨T,x,y,rfl,w,rfl,A,z⟩;exact o i x y T c H (A xs q) (z ys r) p w;have e:i=xs.length:=by lia
 subst e;exact .inl ((xs,ys,q,r,.inl (Au _)),hd c H p)
def xn{K:Ao}{a:AD}{xs:List V}{g:TG}{j:TS}{D:Ends}{b:L2.St}{H:Hp}(Pv:Nat->L2.St->Hp->Prop)(t:Pv 0 b H)(o:∀i b H,i<=xs.length->Pv i b H->AN K H a xs)
  (n:∀i x T b H,xs[i]? =AA x->Pv i b H->H T=AB->g (.ref T) b (L2.upd H T (.tup [.int (i:Nat),x])) λd h=>j {D with nx:=Pv (i+1),ct:=Pv (i+1),bk:=D.nx} d h)(hd:∀b H,Pv xs.length b H->D.nx b H):
  ∃W:Nat->Nat->L2.St->Hp->Prop,(∃m,W 0 m b H)/\∀i m b H,W i m b H->
   ((HX K a).stop i H/\D.nx b H)\/((HX K a).go i H/\∃N:L2.St->Hp->Prop,(∀f c,N f c->∃m',m'<m/\W (i+1) m' f c)/\∀x c,(HX K a).EK i H x c->g x b c λd h=>j {D with nx:=N,ct:=N,bk:=D.nx} d h):=by
 refine(λi m b H=>m=xs.length - i/\i<=xs.length/\Pv i b H,(xs.length,by simp,DR _,t),?_);rintro i m b H ⟨rfl,r,p⟩;have q:=o i b H r p;by_cases k:i<xs.length;refine .inr ((xs,xs[i],q,by simp[k]),Pv (i+1),λf c l=>(xs.length - (i+1),by lia,rfl,k,l),?_);rintro v c ⟨T,x,rfl,s,rfl,y⟩;exact n i x T b H (y xs q) p s;have e:i=xs.length:=by lia
 subst e;exact .inl ((xs,q,Au _),hd b H p)
def VE(z:Int):AI->Bool
 | .int i _=>i==z
 | _=>AF
def U8:V->List V->Hp->VK->Prop:=λx vs H Q=>∃(l:AD) (ns:List Int) (j:Nat) (z:Int),x=.ref l/\vs=[.int z]/\H l=AA (.lst (ns.map V.int))/\ns[j]? =AA z/\(∀m,m<j->ns[m]?≠AA z)/\Q .Al (L2.upd H l (.lst ((ns.eraseIdx j).map V.int)))
def mW:∀{xs:List V} {us:List AI} (j:Nat),Vals xs us->Vals (xs.eraseIdx j) (us.eraseIdx j)
 | _,_,_,.nil=> .nil
 | _,_,0,.cons _ t=>t
 | _,_,j+1,.cons r t=> .cons r (mW j t)
def jW{b c:Type}{f:b->c}:∀(l:List b) (j:Nat),(l.eraseIdx j).map f=(l.map f).eraseIdx j
 | [],_=>rfl
 | _::_,0=>rfl
 |a::l,j+1=>congrArg (f a:: ·) (jW l j)
def wR:RB X "list.remove" U8:=by
 intro pins s L H x vs v us Q I w A h;obtain⟨l,ns,j,z,rfl,rfl,p,o,E,q⟩:=h;cases w;obtain⟨u,rfl,d⟩:=A.one;obtain⟨t,rfl⟩:=d;have(M,its,n,r,N,e):=I.gS p;have g:its.length=ns.length:=by erw[<-r.length,AL]
 have at_:∀m y,ns[m]? =AA y->∃t':Tok,its[m]? =AA (E4 y t'):=λm y f=>by
  have(u,D,d):=r.get (i:=m) (x:=V.int y) (by erw[BC,f];rfl);obtain⟨t',rfl⟩:=d;exact(t',D)
 have all:∀y,y∈its.toArray->MeetsSeq.EqGives y (.int z t) (VE z y):=λy f=>by
  have C:y∈its:=by simpa using f
  have(m,c):=DP C;have b:m<ns.length:=by erw[<-g];exact(AY.mp c).1
  have(t',a):=at_ m ns[m] (AX b);rw[c]at a;cases a;exact MeetsSeq.EqGives.int _ _ _ _
 have J:j<its.toArray.size:=by
  erw[Dk,g];exact(AY.mp o).1
 refine LO WI (_,e,rfl) F.entry_list_remove (F.args_list_remove_2 _ _) (MeetsSeq.list_remove l its.toArray n (.int z t) (VE z) all j J ?_ ?_ (by erw[Dk];lia)) (e,?_);have(t',a):=at_ j z o;have k:its.toArray[j]=E4 z t':=by
  have:=(AY.mp a).2;simpa using this
 erw[k];exact Rq z;intro m c G;have b:m<ns.length:=by erw[<-g];simpa using c
 have(t',a):=at_ m ns[m] (AX b);have k:its.toArray[m]=E4 ns[m] t':=by
  have:=(AY.mp a).2;simpa using this
 erw[k];refine JZ.mpr λB=>E m G ?_;erw[AX b,B];refine(.Al,_,I.lD (its':=its.eraseIdx j) p e ?_ (mW j r) ?_,rfl,?_);show its.toArray.eraseIdxIfInBounds j=(its.eraseIdx j).toArray;erw[List.eraseIdxIfInBounds_toArray];exact Dj (o6 _ _) ();rw[jW]at q;exact q
def sh{H:Hp}{Q:VK}{a:List Nat}(h:H l=AA (.lst (a.map nV)))(f:m∈a)(k:Q .Al (L2.upd H l (.lst ((a.erase m).map nV)))):U8 (.ref l) [nV m] H Q:=by
 have b:a.idxOf m<a.length:=List.idxOf_lt_length_of_mem f;refine(l,a.map (λn:Nat=>(n:Int)),a.idxOf m,(m:Int),rfl,rfl,by erw[Dc];exact h,?_,λj d=>?_,?_);erw[BC,AX b,List.getElem_idxOf b];rfl;erw[BC];intro q;have g:j<a.length:=Ki d b;rw[AX g]at q;have i:((a[j]:Nat):Int)=(m:Int):=Ap q;have e:a[j]=m:=by lia
 have c:=List.not_of_lt_findIdx (p:=(· ==m)) d;rw[e]at c;simp at c;rw[List.erase_eq_eraseIdx_of_idxOf rfl]at k;erw[jW,Dc];rw[jW]at k;exact k
end RW
end
section
namespace RW
open PySem PySem.Spec PySem.Calls PyProof.Rows L2 L3
structure RE(params:Arguments)(scope:Fz)(x y:Str):Prop where
 kind:scope.kind=.function
 co:scope.isCoroutine=AF
 gen:scope.isGenerator=AF
 YX:∀z∈scope.names,z.2≠.cell
 lx:scope.names.lookup x=AA .local
 ly:scope.names.lookup y=AA .free
 nx:(x==("__debug__":Str))=AF
 ny:(y==("__debug__":Str))=AF
 nc:(y==("__classdict__":Str))=AF
def pJ{prog:ET}{w:Do}{A:Fa}{E:AI->AO->Prop}{s:AO}{q c k l:AD}{d:Str}{f:Arguments}{a:Fz}{x y:Str}{p n m:Pos}{pm D:AI}{its:List AI}{i:Int}{u:Tok}{v:AI}{Q:AI->AO->Prop}
  (S:RE f a x y)(H:A.depth<Mr)(L:s.heap.NoLimit)
  (I:s.heap.get? q=AA (KS "<lambda>" d f (.Subscript (.Name y p) (.Name x n) m) a [(AE y c)] pm k D))(O:s.heap.CodeRec (.ref k) d)
  (T:∀v,LP (R8 "<lambda>" d f (.Subscript (.Name y p) (.Name x n) m) a [(AE y c)] pm (.ref k) D) ([v],[])=pure [(AE x v)])
  (R:s.heap.IsCell c (AA (.ref l)))(N:s.heap.IsList l its.toArray)(U:0<=i)(X:i<its.length)(B:its.length<=Ae)(G:its[i.toNat]? =AA v)
  (h:∀h' tk,(∀b o,s.heap.get? b=AA o->h'.get? b=AA o)->Q v {s with heap:=h',toks:=tk}):
  AM (AU prog w) A (call (.ref q) [.int i u]) Q E s:=by
 refine wpAny_call (PySem.W.kla_callFunE H I rfl S.co S.gen rfl O ?_);erw[T];refine BM (wpAny_newFunctionEnv S.YX (λz B=>by erw[Av.mp B];exact S.lx) (λt J C=>(L.fresh _ C,?_)) S.kind);have j:∀b o,s.heap.get? b=AA o->t.get? b=AA o:=λb o e=>C.extBut b o (DU (BG e)) (BQ _ e);refine PySem.W.kla_codeExpr ?_;refine Oq ?_;refine Mp (wpAny_loadName_free S.kind S.ly (c:=c) (v:=.ref l) ?_ ?_ ?_ S.nc) S.ny;show ([(AE y c)]:List (Str×AD)).lookup y=AA c;simp;have(o,g,hd):=R;exact(o,j _ _ g,hd);refine Mp (Ry S.kind S.lx J (v:=.int i u) ?_ ?_) S.nx;show ([(AE x (E4 i u))]:List (Str×AI)).reverse.lookup x=_;simp;have M:t.IsList l its.toArray:=by
  have(o,g,r):=N;exact(o,j _ _ g,r)
 exact item_listR M U (by have:=IR;lia) (by simpa using G) (h _ _ j) rfl
def BMain(mg:Str->Option AI)(base:BI):Prop:=∃b a,mg "__builtins__"=AA (.ref b)/\b≠Mt/\base.get? b=AA a/\a.cls=.type "module"/\a.dict=AA Mt/\a.data=.plain
def TabAt(H:Hp)(b:AD)(pos:Pos)(c:Str):Prop:=H b=AA (.aY #[])\/∃a,H b=AA (.aY #[GX pos.line,GX pos.col,.ref a])/\H a=AA (.ext λh=>h.CodeRec (.ref a) c)
def ir:∀d b:BI,d.CodeRec (.ref a) g->(∀o,d.get? a=AA o->b.get? a=AA o)->b.CodeRec (.ref a) g:=λd b (c,f,vs,t,e,h,r) k=>by
 cases e;exact(a,f,vs,t,rfl,k f h,r)
def pI{Q:AI->AO->Prop}(I:Inv X pins cd H s)(cr:defaultsOf j X.env=(AE [] []))(a1:X.env.code=.ref c3)(c1:LS X.K c3 f=AC)(B:BMain X.mg X.base)(a2:Ms i X.env=pure [(AE y c)])(T:TabAt H f pos (X.env.qual ++ "<lambda>"))(h:∀q a g A O,Inv X pins cd O A->TabAt O f pos (X.env.qual ++ "<lambda>")->(∀b o,H b=AA o->b≠f->O b=AA o)->(∀b,O b=AB->H b=AB)->
   A.heap.get? q=AA (KS "<lambda>" (X.env.qual ++ "<lambda>") j body i [(AE y c)] ((X.mg "__name__").getD .none) a g)->A.heap.CodeRec (.ref a) (X.env.qual ++ "<lambda>")->Q (.ref q) A):
  AM (AU X.prog X.w) X.A (E3 (.Lambda j body i pos) X.env) Q E s:=by
 refine PySem.W.kla_eval cr ?_;have L:s.heap.Ns DG X.mg:=I.mod.glob.keeps I.bk;have C:=SD I.du c1;have(x,D,ca,b7,N,b0,bs,M):=B;have bl:∀{ps:Array AI},H f=AA (.aY ps)->s.heap.get? f=AA (Jk ps)/\DG≠f/\x≠f:=λ{ps} e=>by
  have a6:s.heap.get? f=AA (Jk ps):=I.hok f _ e;refine(a6,λz=>?_,λz=>?_);have(o,ab,aj,w,hd,_):=L;rw[z,a6]at w;cases w;cases hd;have:=(I.bs x D N).2;rw[z,e]at this;cases this
 have a3:x≠DG:=λz=>by
  have(o,ab,aj,w,hd,_):=L;have:=I.bk x D N;rw[z,w]at this;cases this;rw[hd]at M;cases M
 rcases T with e| ⟨a,e,a5⟩;have(Z,a0,U):=bl e;refine PySem.W.kla_makeFunction (mg:=X.mg) a2 I.ok.glob L a1 C Z G5 rfl a0 (x,D,ca,b7,a3,U,I.bk _ _ N,b0,bs,M) λa g h' tk ci av c4 S ck=>?_;have G:∀b o,s.heap.get? b=AA o->H b=AB->b≠f:=λb o _ n z=>by rw[z,e]at n;cases n
 have cg:∀b o,s.heap.get? b=AA o->b≠a:=λb o q=>DU (E5 (BG q) av);have k:∀b u,H b=AA u->b≠a:=λb u q=>DU (E5 (I.hok.lt q) av);have a4:f≠a:=k f _ e;have kp:∀b o,b≠f->s.heap.get? b=AA o->(h'.push (KS "<lambda>" (X.env.qual ++ "<lambda>") j body i [(AE y c)] ((X.mg "__name__").getD .none) a g)).get? b=AA o:=λb o Y q=>BQ _ (ci b o Y q);have an:(h'.push (KS "<lambda>" (X.env.qual ++ "<lambda>") j body i [(AE y c)] ((X.mg "__name__").getD .none) a g)).get? f=AA (Jk #[GX pos.line,GX pos.col,.ref a]):=BQ _ ck;have R:(h'.push (KS "<lambda>" (X.env.qual ++ "<lambda>") j body i [(AE y c)] ((X.mg "__name__").getD .none) a g)).CodeRec (.ref a) (X.env.qual ++ "<lambda>"):=ir _ _ S λo q=>BQ _ q;have cm:∃o,(h'.push (KS "<lambda>" (X.env.qual ++ "<lambda>") j body i [(AE y c)] ((X.mg "__name__").getD .none) a g)).get? a=AA o:=by
  have(c5,ce,vs,t,w,J,_):=R;cases w;exact(ce,J)
 refine h _ a g _ (L2.upd (L2.upd H f (.aY #[GX pos.line,GX pos.col,.ref a])) a (.ext λh=>h.CodeRec (.ref a) (X.env.qual ++ "<lambda>"))) ?_ (.inr (a,?_,aB)) (λb o q Y=>?_) (λb q=>?_) (Dq _ rfl) R;refine I.step (g':=s.gens) (d':=s.drawn) (ch:=[]) (λ_ z=>nomatch z) (λb o _ _ _ q n=>kp b o (G b o q n) q) (λb o _ _ _ q n=>(o.slots,kp b o (G b o q n) q)) (λb o _ q n=>?_) (λb o _ q=>?_) (λb xs q=>?_) (λb o u q=>?_) (λb ps q=>?_) (λm co=>?_) (λb u q=>?_) I.bare;erw[aC (cg b o q),aC (G b o q n)];exact n;by_cases z:b=f;erw[z];exact(_,an);exact(o,kp b o z q);erw[aC (k b _ q),aC (λz=>by rw[z,e]at q;cases q)];exact q;erw[aC (k b _ q),aC (λz=>by rw[z,e]at q;cases q)];exact q;by_cases z:b=f;subst z;rw[e]at q;cases q;exact(#[GX pos.line,GX pos.col,.ref a],by erw[aC a4,aB];simp);exact(#[],by erw[aC (k b _ q),aC z,q];simp);have(o,ab,aj,J,r):=co;exact(o,ab,aj,kp _ _ (G _ _ J I.free) J,r);by_cases z:b=a;subst z;rw[aB]at q;cases q;exact(R,cm,ir);rw[aC z]at q;by_cases p:b=f;subst p;rw[aB]at q;cases q;exact an;rw[aC p]at q;refine(I.hok b u q).stay (λd v hd r=>kp d v (λl=>?_) r) (λd r=>?_) (λd xs r=>?_);rcases hd with hd|hd;exact p (hd.symm.trans l);rw[l,e]at hd;cases hd;erw[aC (k d _ r),aC (λl=>by rw[l,e]at r;cases r)];exact r;erw[aC (k d _ r),aC (λl=>by rw[l,e]at r;cases r)];exact r;erw[aC a4,aB];erw[aC (k b _ q),aC Y];exact q;by_cases z:b=a;subst z;rw[aB]at q;cases q;rw[aC z]at q;by_cases p:b=f;subst p;rw[aB]at q;cases q;rw[aC p]at q;exact q;have(Z,a0,U):=bl e;have S:s.heap.CodeRec (.ref a) (X.env.qual ++ "<lambda>"):=(I.hok a _ a5).1;refine PySem.W.kla_makeFunctionHit (mg:=X.mg) a2 I.ok.glob L a1 C Z G5 (cv:=.ref a) ?_ (x,D,ca,b7,a3,U,I.bk _ _ N,b0,bs,M) λg h' tk cp hsz=>?_;show (if ((pos.line:Int)==(pos.line:Int) && (pos.col:Int)==(pos.col:Int))=AC then AA (Bf a)else _)=_;simp;have kp:∀b o,s.heap.get? b=AA o->(h'.push (KS "<lambda>" (X.env.qual ++ "<lambda>") j body i [(AE y c)] ((X.mg "__name__").getD .none) a g)).get? b=AA o:=λb o q=>BQ _ (cp b o q);exact h _ a g _ H (I.kept (t':=tk) kp) (.inr (a,e,a5)) (λb o q _=>q) (λb q=>q) (Dq _ rfl) (ir _ _ S λo q=>kp _ _ q)
def Gw(ys:List V)(w:Nat):Int:=match ys[w]? with
 |some (.int k)=>k
 | _=>0
def RC(i:Nat)(c:AD)(f:Pos)(e:Str)(j:L2.St)(Q:VK)(v:V)(b:Hp):Prop:=∃(l:AD) (a:List Nat) (g:AD) (ys:List V),v=.ref l/\b l=AA (.lst (a.map nV))/\0<a.length/\j[i]? =AA (AA (.ref g))/\b g=AA (.lst ys)/\
 (∀w∈a,∃k:Nat,ys[w]? =AA (nV k))/\TabAt b c f e/\∀m d,m∈a->(∀w∈a,∀k h:Nat,ys[w]? =AA (nV k)->ys[m]? =AA (nV h)->h<=k)->AQ [c] b d->TabAt d c f e->Q (nV m) d
@[inline]def one(R:V->Hp->Prop):List V->Hp->Prop:=λvs a=>match vs with
 | [v]=>R v a
 | _=>False
def oa{h:BI}(a:h.Ns L m)(b:h.Ns L m'):m=m':=by
 have(o,l,p,i,g,_,f):=a;have(j,k,n,d,c,_,e):=b;rw[i]at d;cases d;rw[g]at c;cases c;funext x;erw[<-f x,<-e x]
def jp{X:Cx}{pins:List (AD×Obj)}{b:L2.St}{H:Hp}{s:AO}{i:Nat}{y:Str}{a:AD}(I:L2.Inv X pins b H s)(j:X.N[i]? =AA y)(d:X.env.scope.names.lookup y=AA .cell)(g:b[i]? =AA (AA (.ref a))):
  ∃c,X.env.cells.lookup y=AA c/\s.heap.IsCell c (AA (.ref a)):=by
 have(n,o,h):=I.loc;have(m,e,lk):=h i y (.ref a) j g (.inr (.inl d));cases e;have f:X.env.kindOf y=AA .cell:=d;rcases lk with⟨z,_⟩ | ⟨_,c,l,k⟩;rw[f]at z;cases z;exact(c,l,k)
def XO(i:Nat)(e:AD)(d:Pos)(c:Str)(b:TE):TE:=λa H Q=>b a H (RC i e d c a Q)
def iz(k:∀b o,base.get? b=AA o->h.get? b=AA o)(c:Fr base L h' m)(N:News base L h' (JP base h L ++ own)):∀b o,b≠L->h.get? b=AA o->h'.get? b=AA o:=λb o a q=>by
 cases z:base.get? b with
 |some u=>
  have:=k b u z;rw[q]at this;cases this;exact c.keep b _ z
 |none=>exact(N (AE b o) (FP _ (oy a z q))).1
def tR(S:RE ab J x y)(d1:X.N[i]? =AA y)(c1:X.env.scope.names.lookup y=AA .cell)(c7:J.names=[(AE x (.local)),(AE y (.free))])(e6:X.calm=AC)(el:DX 0 X.A)(ev:defaultsOf ab X.env=(AE [] []))(ey:X.env.code=.ref fj)(e5:LS X.K fj av=AC)(B:BMain X.mg X.base)(er:Gl X "min")(b0:X.mg "min"=AB)(D:∀(ec:Str) (c:AD) (pm fe d3 v:AI),LP (R8 "<lambda>" ec ab (.Subscript (.Name y ci) (.Name x cg) ce) J [(AE y c)] pm fe d3) ([v],[])=pure [(AE x v)])(eu:PE X e b7)(bm:BE [e] X.env=[(AE AF (E3 e X.env))]:=by rfl):
  PE X (.Call (.Name "min" p) [e] [(AA "key",.Lambda ab (.Subscript (.Name y ci) (.Name x cg) ce) J aj,f2)] pos) (XO i av aj (X.env.qual ++ "<lambda>") b7):=by
 intro pins s G H Q I h;refine G8 (eK I er b0 boot_min ?_ (by decide) (by decide));have h:Bd b7 BR G H (one (RC i av aj (X.env.qual ++ "<lambda>") G Q)):=h;refine callWith_kw (aK ((aA eu aD bm) pos pins s G H _ I h) λus eb (vs,d5,d4,a1,a2)=>?_) (by erw[bm];rfl) (by erw[bm];rfl) rfl rfl
 match vs,a1,a2 with
 | [v],a1,a2=>
 obtain⟨l,a,a3,ys,rfl,dm,f5,cr,c9,eq,T,q⟩:=(show RC i av aj (X.env.qual ++ "<lambda>") G Q v d5 from a2);obtain⟨u,rfl,M⟩:=a1.one;cases M;have(c,an,f6):=jp d4 d1 c1 cr;have ez:Ms J X.env=pure [(AE y c)]:=by
  erw[lu (by
   intro z N et;rw[c7]at N;rcases Aj.mp N with rfl|N;cases et;erw[Av.mp N];exact(c,an)),c7]
  show pure [(AE y ((X.env.cells.lookup y).getD 0))]=_;erw[an];rfl
 show AM _ _ (evalAll [do let v <-E3 (.Lambda ab (.Subscript (.Name y ci) (.Name x cg) ce) J aj) X.env;IQ pos;pure v]) _ _ eb;refine wpAny_evalAll_cons (AT (pI d4 ev ey e5 B ez T λd2 gi d3 A a0 f fy k2 f1 c6 c5=>AT (Mi (BM ?_))));refine wpAny_evalAll_nil ?_;show AM _ _ (call (.builtin "min") [.ref l] [(AE (KW "key") (.ref d2))]) _ _ A;have cm:∀b xs,d5 b=AA (.lst xs)->b≠av:=λb xs e z=>by
  rcases T with t| ⟨_,t,_⟩<;>(rw[z,t]at e;cases e)
 have dd:=k2 l _ dm (cm _ _ dm);have c8:=k2 a3 _ c9 (cm _ _ c9);have(gg,dx,e0):=jp f d1 c1 cr;rw[an]at dx;cases dx;have(its,cd,pl,N):=f.list (AN.of (K:=X.K) dd);have(a6,ca,ef,ej):=f.list (AN.of (K:=X.K) c8);have(m,F):=f.fr;have Y:∀b u,a0 b=AA u->b≠X.env.locals:=λb u e z=>by rw[z,f.free]at e;cases e
 have eo:=F.ns;have co:∀b o,A.heap.get? b=AA o->(∀b4 b5,o.data≠.dict b4 b5)->b≠X.env.locals:=λb o e hd z=>by
  have(ck,b4,b5,bs,ew,_):=eo;rw[z,bs]at e;cases e;exact hd b4 b5 ew
 have en:d2≠X.env.locals:=co _ _ c6 λ_ _ z=>by cases z
 have b3:its.length=a.length:=by erw[<-cd.length,AL]
 have cp:∀(j w:Nat),a[j]? =AA w->∃t,its[j]? =AA (E4 (w:Int) t):=λj w hw=>by
  have(u,bl,M):=cd.get (i:=j) (x:=nV w) (by erw[BC,hw];rfl);obtain⟨t,rfl⟩:=M;exact(t,bl)
 have ei:∀(w k:Nat),ys[w]? =AA (nV k)->∃t,a6[w]? =AA (E4 (k:Int) t):=λw k hw=>by
  have(u,bl,M):=ca.get hw;obtain⟨t,rfl⟩:=M;exact(t,bl)
 have a4:∀(w k:Nat),ys[w]? =AA (nV k)->Gw ys w=k:=λw k e=>by unfold Gw;erw[e]
 refine kmk_min (h₀:=X.base) (L:=X.env.locals) (m:=m) (news:=JP X.base A.heap X.env.locals) (vs:=its) (λj=>Gw ys (a.getD j 0)) (f.ok.hd e6) F on (λh g E=>?_) () (λj v O h tk own g E=>?_) λj v h' ea O e7 g E=>?_;have(o,C,r):=pl.isList;exact(o,iz (own:=[]) f.bk g (by erw[BF];exact E) l o (Y l _ dd) C,r);have kp:=iz f.bk g E;have U:j<a.length:=by erw[<-b3];exact(AY.mp O).1
 have hw:a[j]? =AA a[j]:=AX U;have(t,R):=cp j _ hw;rw[O]at R;cases R;have(k,dp):=eq a[j] (Wy U);have(Z,c4):=ei _ _ dp;have f4:a[j]<a6.length:=(AY.mp c4).1;refine pJ (s:={A with heap:=h,toks:=tk}) S (show X.A.depth<Mr from el.depth) (f.mod.nolimit.keeps g.keep) (kp _ _ en c6) (ir _ _ c5 λo e=>kp _ _ ?_ e) (D _ _ _ _ _) ?_ ?_ (i:=(a[j]:Int)) () () (by erw[<-ca.length];exact ej) (v:=.int (k:Int) Z) (by simpa using c4) (λh' d6 dn=>?_) (its:=a6) (l:=a3);have(ge,f0,vs,t',b6,C,hd,_):=c5;cases b6;exact co _ _ C λ_ _ z=>by rw[hd]at z;cases z
 have(o,C,hd):=e0;exact(o,kp _ _ (f.fm _ _ an) C,hd);have(o,C,r):=ef.isList;exact(o,kp _ _ (Y a3 _ c8) C,r);refine(h',d6,Z,rfl,?_,g.kept dn,E.grown dn);erw[DA,hw];show E4 (k:Int) Z=E4 (Gw ys a[j]) Z;erw[a4 _ _ dp];have kp:=iz (own:=[]) f.bk g (by erw[BF];exact E);have U:j<a.length:=by erw[<-b3];exact(AY.mp O).1
 have hw:a[j]? =AA a[j]:=AX U;have(t,R):=cp j _ hw;rw[O]at R;cases R;have fz:L2.Inv X pins G a0 {A with heap:=h',toks:=ea}:=by
  refine f.step (g':=A.gens) (d':=A.drawn) (ch:=[]) (λ_ z=>nomatch z) (λb o D _ _ e _=>kp b o D e) (λb o D _ _ e _=>(o.slots,kp b o D e)) (λb o _ _ n=>n) (λb o _ e=>?_) (λ_ _ e=>e) (λ_ _ _ e=>e) (λb ps e=>(#[],by erw[e];simp)) (λm' b0=>?_) (λb u e=>?_) f.bare;by_cases z:b=X.env.locals;have(ck,_,_,bs,_):=g.ns;erw[z];exact(ck,bs);exact(o,kp b o z e);have:m'=m:=oa b0 F.ns;erw[this];exact g.ns;refine(f.hok b u e).stay (λd v hd r=>kp d v ?_ r) (λ_ r=>r) (λ_ _ r=>r);rcases hd with hd|hd;erw[hd];exact Y b u e;exact Y d _ hd
 refine(nV a[j],a0,fz,(t,rfl),q a[j] a0 (Wy U) (λw ek k f3 fd fb=>?_) (λb o e D=>k2 b o e (by simpa using D)) fy);have(a5,ds,e8):=Wx ek;have fx:=(e7 a5 (by erw[b3];exact ds)).1;have b6:a.getD j 0=a[j]:=by erw[DA,hw];rfl
 have e9:a.getD a5 0=w:=by erw[DA,AX ds,e8];rfl
 have fr:Gw ys (a.getD j 0)<=Gw ys (a.getD a5 0):=fx;rw[b6,e9,a4 _ _ fd,a4 _ _ fb]at fr;lia
def oZ(x:Dg j w H h a o):∃b,h.get? a=AA b:=by
 cases o with
 |lst xs=>have(_,_,_,_,e):=x;exact(_,e)
 |tup xs=>have(_,_,_,b,e,_):=x;exact(_,e)
 |dK c=>have(_,_,_,_,o,_,_,e,_):=x;exact(_,e)
 |dT c=>have(_,_,_,_,o,_,_,e,_):=x;exact(_,e)
 |set S n=>have(o,_,_,_,e,_):=x;exact(_,e)
 |ins C i fs=>have(_,_,_,e,_):=x;exact(_,e)
 |own y=>have(_,e):=x;exact(_,e)
 |xd fs=>have(_,(_,_,_,e,_),_):=x;exact(_,e)
 |Nj lo g=>have(_,_,_,e):=x;exact(_,e)
 |BA b u=>have(e,_):=x;exact(_,e)
 |aY ps=>exact(_,(show h.get? a=AA _ from x))
 |met f y=>exact(_,(show h.get? a=AA _ from x))
 |ext d=>have(_,e,_):=x;exact e
def Q5(i:Nat)(g:AD)(j:Pos)(h:Str)(o:L2.St)(Q:VK)(v:V)(c:Hp):Prop:=∃(l:AD) (f:List Nat) (m:AD) (ys:List V),v=.ref l/\c l=AA (.lst (f.map nV))/\o[i]? =AA (AA (.ref m))/\c m=AA (.lst ys)/\
 (∀w∈f,∃k:Nat,ys[w]? =AA (nV k))/\TabAt c g j h/\∀(e:List Nat) (D:AD) (d:Hp),e.Perm f->e.Pairwise (λa b=>∀n k2:Nat,ys[a]? =AA (nV n)->ys[b]? =AA (nV k2)->n<=k2)->c D=AB->d D=AA (.lst (e.map nV))->AQ [g] c d->TabAt d g j h->Q (.ref D) d
def XM(i:Nat)(e:AD)(d:Pos)(c:Str)(b:TE):TE:=λa H Q=>b a H (Q5 i e d c a Q)
def tQ(S:RE a0 Y x y)(d3:X.N[i]? =AA y)(c1:X.env.scope.names.lookup y=AA .cell)(c8:Y.names=[(AE x (.local)),(AE y (.free))])(g2:X.calm=AC)(et:DX 0 X.A)(e9:defaultsOf a0 X.env=(AE [] []))(fd:X.env.code=.ref f5)(fr:LS X.K f5 aj=AC)(B:BMain X.mg X.base)(e6:Gl X "sorted")(b3:X.mg "sorted"=AB)(J:∀(ej:Str) (c:AD) (pm f3 d6 v:AI),LP (R8 "<lambda>" ej a0 (.Subscript (.Name y ci) (.Name x cg) ce) Y [(AE y c)] pm f3 d6) ([v],[])=pure [(AE x v)])(e8:PE X e b7)(b1:BE [e] X.env=[(AE AF (E3 e X.env))]:=by rfl):
  PE X (.Call (.Name "sorted" p) [e] [(AA "key",.Lambda a0 (.Subscript (.Name y ci) (.Name x cg) ce) Y a1,go)] pos) (XM i aj a1 (X.env.qual ++ "<lambda>") b7):=by
 intro pins s O H Q I h;refine G8 (eK I e6 b3 boot_sorted ?_ (by decide) (by decide));have h:Bd b7 BR O H (one (Q5 i aj a1 (X.env.qual ++ "<lambda>") O Q)):=h;refine callWith_kw (aK ((aA e8 aD b1) pos pins s O H _ I h) λus ei (vs,eb,ea,a5,a6)=>?_) (by erw[b1];rfl) (by erw[b1];rfl) rfl rfl
 match vs,a5,a6 with
 | [v],a5,a6=>
 obtain⟨l,U,bl,ys,rfl,dp,cr,dn,e0,T,q⟩:=(show Q5 i aj a1 (X.env.qual ++ "<lambda>") O Q v eb from a6);obtain⟨u,rfl,ab⟩:=a5.one;cases ab;have(c,a3,g1):=jp ea d3 c1 cr;have fe:Ms Y X.env=pure [(AE y c)]:=by
  erw[lu (by
   intro z G e7;rw[c8]at G;rcases Aj.mp G with rfl|G;cases e7;erw[Av.mp G];exact(c,a3)),c8]
  show pure [(AE y ((X.env.cells.lookup y).getD 0))]=_;erw[a3];rfl
 show AM _ _ (evalAll [do let v <-E3 (.Lambda a0 (.Subscript (.Name y ci) (.Name x cg) ce) Y a1) X.env;IQ pos;pure v]) _ _ ei;refine wpAny_evalAll_cons (AT (pI ea e9 fd fr B fe T λb4 g7 d6 g av f f6 k2 en c6 c5=>AT (Mi (BM ?_))));refine wpAny_evalAll_nil ?_;show AM _ _ (call (.builtin "sorted") [.ref l] [(AE (KW "key") (.ref b4))]) _ _ g;have co:∀b xs,eb b=AA (.lst xs)->b≠aj:=λb xs e z=>by
  rcases T with t| ⟨_,t,_⟩<;>(rw[z,t]at e;cases e)
 have ez:=k2 l _ dp (co _ _ dp);have dm:=k2 bl _ dn (co _ _ dn);have(g6,d1,fj):=jp f d3 c1 cr;rw[a3]at d1;cases d1;have(its,Z,pl,G):=f.list (AN.of (K:=X.K) ez);have(bs,cd,ek,eq):=f.list (AN.of (K:=X.K) dm);have(m,F):=f.fr;have a4:∀b u,av b=AA u->b≠X.env.locals:=λb u e z=>by rw[z,f.free]at e;cases e
 have ew:=F.ns;have cp:∀b o,g.heap.get? b=AA o->(∀b5 N,o.data≠.dict b5 N)->b≠X.env.locals:=λb o e hd z=>by
  have(ck,b5,N,b2,fb,_):=ew;rw[z,b2]at e;cases e;exact hd b5 N fb
 have eu:b4≠X.env.locals:=cp _ _ c6 λ_ _ z=>by cases z
 have dd:its.length=U.length:=by erw[<-Z.length,AL]
 have gv:∀(j w:Nat),U[j]? =AA w->∃t,its[j]? =AA (E4 (w:Int) t):=λj w hw=>by
  have(u,b0,ab):=Z.get (i:=j) (x:=nV w) (by erw[BC,hw];rfl);obtain⟨t,rfl⟩:=ab;exact(t,b0)
 have eo:∀(w k:Nat),ys[w]? =AA (nV k)->∃t,bs[w]? =AA (E4 (k:Int) t):=λw k hw=>by
  have(u,b0,ab):=cd.get hw;obtain⟨t,rfl⟩:=ab;exact(t,b0)
 have bm:∀(w k:Nat),ys[w]? =AA (nV k)->Gw ys w=k:=λw k e=>by unfold Gw;erw[e]
 have e5:LV its (U.map λn:Nat=>(n:Int)):=Vals.ints (by erw[Dc];exact Z);refine ksk_letterAny (b:=AF) (h₀:=X.base) (L:=X.env.locals) (m:=m) (news:=JP X.base g.heap X.env.locals) (ns:=U.map λn:Nat=>(n:Int)) (λz=>Gw ys z.toNat) F on pl.isList e5 (by erw[AL,<-dd,<-Z.length];exact G) (ksk_s1 _ _) (λ_=>ksk_l1 _ _) (ksk_t1 b4)
  (λn t h tk own ey M an=>?_) λD b6 cm N h' ef M an fy e4 g0 c7 ev _=>?_;have kp:=iz f.bk M an;obtain⟨w,hw,rfl⟩:=Du.mp ey;have(k,dx):=e0 w hw;have(E,c4):=eo _ _ dx;have gw:w<bs.length:=(AY.mp c4).1;refine pJ (s:={g with heap:=h,toks:=tk}) S (show X.A.depth<Mr from et.depth) (f.mod.nolimit.keeps M.keep) (kp _ _ eu c6) (ir _ _ c5 λo e=>kp _ _ ?_ e) (J _ _ _ _ _) ?_ ?_ (i:=(w:Int)) () () (by erw[<-cd.length];exact eq) (v:=.int (k:Int) E) (by simpa using c4) (λh' ec ds=>?_) (its:=bs) (l:=bl);have(g5,gi,vs,t',f0,C,hd,_):=c5;cases f0;exact cp _ _ C λ_ _ z=>by rw[hd]at z;cases z
 have(o,C,hd):=fj;exact(o,kp _ _ (f.fm _ _ a3) C,hd);have(o,C,r):=ek.isList;exact(o,kp _ _ (a4 bl _ dm) C,r);refine(h',ec,E,rfl,?_,M.kept ds,an.grown ds);show E4 (k:Int) E=E4 (Gw ys w) E;erw[bm _ _ dx];have ge:News X.base X.env.locals h' (JP X.base g.heap X.env.locals ++ []):=by
  erw[BF];exact λp a2=>an p (Eb _ a2)
 have kp:=iz (own:=[]) f.bk M ge;have nD:=an (AE D (PySem.W.listOf b6.toArray N)) FK;have d5:g.heap.get? D=AB:=by
  cases e:g.heap.get? D with
  |none=>rfl
  |some o=>exact absurd (fy (AE D o) (oy nD.2.1 nD.2.2 e)) (F6 _)
 have d4:av D=AB:=by
  cases e:av D with
  |none=>rfl
  |some u=>
   have:=f.hok.lt e;obtain⟨o,C⟩:∃o,g.heap.get? D=AA o:=oZ (f.hok D u e);rw[d5]at C;cases C
 obtain⟨R,rfl⟩:∃R:List Nat,cm=R.map λn:Nat=>(n:Int):=by
  refine(cm.map FL,?_);erw[Dc];refine(O8 _).symm.trans (Kk λz er=>?_);obtain⟨w,_,rfl⟩:=Du.mp (c7.mem_iff.mp er);show (w:Int)=(((w:Int).toNat:Nat):Int);lia
 have a2:R.Perm U:=by
  have:=c7.map FL;rw[Dc,Dc]at this;have e:(FL∘λn:Nat=>(n:Int))=id:=by funext n;simp
  rw[e,O8,O8]at this;exact this
 have el:∀b o,g.heap.get? b=AA o->b≠D:=λb o e z=>by rw[z,d5]at e;cases e
 have A:∀b u,av b=AA u->b≠D:=λb u e z=>by rw[z,d4]at e;cases e
 have gg:L2.Inv X pins O (L2.upd av D (.lst (R.map nV))) {g with heap:=h',toks:=ef}:=by
  refine f.step (g':=g.gens) (d':=g.drawn) (ch:=[]) (λ_ z=>nomatch z) (λb o J _ _ e _=>kp b o J e) (λb o J _ _ e _=>(o.slots,kp b o J e)) (λb o _ e n=>by erw[aC (el b o e)];exact n) (λb o _ e=>?_) (λb _ e=>by erw[aC (A b _ e)];exact e) (λb _ _ e=>by erw[aC (A b _ e)];exact e)
   (λb ps e=>(#[],by erw[aC (A b _ e),e];simp)) (λm' b3=>?_) (λb u e=>?_) f.bare;by_cases z:b=X.env.locals;have(ck,_,_,b2,_):=M.ns;erw[z];exact(ck,b2);exact(o,kp b o z e);have:m'=m:=oa b3 F.ns;erw[this];exact M.ns;by_cases z:b=D;subst z;rw[aB]at e;cases e;refine(?_,b6,N,?_,nD.1);erw[AL,a2.length_eq,<-dd,<-Z.length];exact G;have:=mU e4;rw[Dc]at this;exact this;rw[aC z]at e;refine(f.hok b u e).stay (λd v hd r=>kp d v ?_ r) (λd r=>by erw[aC (A d _ r)];exact r) (λd _ r=>by erw[aC (A d _ r)];exact r);rcases hd with hd|hd;erw[hd];exact a4 b u e;exact a4 d _ hd
 refine(.ref D,_,gg,rfl,q R D _ a2 ?_ (en D d4) aB (λb o e J=>?_) ?_);refine List.Pairwise.imp_of_mem (λ{a b} g4 g3 fx gs gr f2 f1=>?_) (List.pairwise_map.mp ev);have fz:Gw ys ((a:Int).toNat)<=Gw ys ((b:Int).toNat):=by simpa using fx
 rw[Ep,Ep,bm _ _ f2,bm _ _ f1]at fz;lia;have d2:b≠aj:=by simpa using J
 erw[aC (A b _ (k2 b o e d2))];exact k2 b o e d2;rcases f6 with t| ⟨f4,ca,E⟩;exact .inl (by erw[aC (A _ _ t)];exact t);exact .inr (f4,by erw[aC (A _ _ ca)];exact ca,by erw[aC (A _ _ E)];exact E)
end RW
end
local macro_rules | `(tactic| simp![$ls,*])=>do
 let ts:Array (DB `term):=ls.getElems.filterMap λs=>match s with
  | `(As| $t:term)=>AA t
  | _=>AB
 let f ← `(tactic| first | assumption $[| exact $ts]* $[| exact $ts _]*)
 let R ← #[`RW.bv, `RW.bu, `RW.cC, `RW.cB, `RW.cw, `RW.cN, `RW.bW, `RW.cn, `RW.cY, `RW.bS, `RW.bN, `RW.cU, `RW.b8, `RW.bI, `RW.bi, `RW.cb, `RW.bZ, `RW.cf, `RW.cD, `RW.cj, `RW.cc, `RW.cG, `RW.bb, `RW.cZ, `RW.cA, `RW.dC, `RW.bG, `RW.bg, `RW.bQ, `RW.cW, `RW.b9, `RW.cX, `RW.bn, `RW.bj, `RW.cS, `RW.cK, `RW.cM, `RW.dB, `RW.cP, `RW.bV, `RW.bt, `RW.bY, `RW.bw, `RW.cz, `RW.cO, `RW.bU, `RW.br, `RW.bd, `RW.be, `RW.bH, `RW.bJ, `RW.bq, `RW.cq, `RW.cI, `RW.bx, `RW.cx, `RW.ba, `RW.bM].mapM λx=> `(tactic| refine $(AR x) ?_)
 let r ← `(tactic| exact rfl)
 let l ← `(tactic| (simp only[Ak,Ah,AS,Am,Aq];exact rfl))
 let x ← `(tactic| first | exact rfl | $f:tactic)
 let g ← `(tactic| first | $f:tactic | exact rfl)
 let m ← `(tactic| ((try simp only[$ls,*]);exact rfl))
 let u ← `(tactic| first | exact L2.aB | $f:tactic)
 let S ←(#[`RW.cu, `RW.bT, `RW.bR, `RW.bf, `RW.bc, `RW.bO, `RW.cT, `RW.cV, `RW.bo, `RW.bp, `RW.cy, `RW.cJ, `RW.cE, `RW.bz, `RW.bh, `RW.cH, `RW.dA].zip #["r","r","r","fm","ff","ffff","x","x","ffg","fffg","f","u","l","l","l","f","x"]).mapM λp=>do
  let a ←p.2.toList.toArray.mapM λk=>do
   let t:=if k=='r' then r else if k=='f' then f else if k=='x' then x else if k=='g' then g else if k=='u' then u else if k=='m' then m else l
   `(tactic| with_unfolding_all $t:tactic)
  `(tactic| (apply $(AR p.1); $[$a:tactic];*))
 let L ← #[`RW.ao, `RW.ay, `RW.ax, `RW.au, `RW.ap, `RW.ar, `RW.aq, `RW.aw, `L2.B7, `L2.Cr, `L2.CB, `L2.CC, `L2.Bp, `L2.BU, `L2.B5, `L2.Bs, `L2.tC, `L2.CJ, `L2.B9, `L2.CA, `L2.tB, `L2.CI, `L2.B8, `L2.Ct, `L2.CD, `L2.Be, `L2.BL, `L2.Cn, `L2.B0, `L2.B1, `L2.Co, `L2.Cv, `L2.CF, `L2.Bd, `L2.BR, `L2.Br, `L2.B6, `L2.BX, `L2.Bc, `L2.Bg, `L2.Bt, `L2.CG, `L2.CK, `L2.Cu, `L2.CH, `L2.Cm, `RW.Ch, `RW.Cb, `RW.Bu, `RW.Bj, `RW.Ca, `RW.Cj, `RW.CU, `RW.CW, `RW.Bw, `RW.CV, `RW.CO, `RW.Bx, `RW.Cc, `RW.Ce, `RW.Cd, `RW.CY, `RW.Cf, `RW.CZ, `RW.CP, `RW.Ci, `RW.CT, `RW.Bk, `RW.By, `RW.Bi, `RW.CS, `RW.Bv, `RW.CQ, `RW.Bz, `RW.Cg, `L2.aB, `RW.ah, `RW.az, `L2.rI, `L2.CN, `L2.CM, `RW.bC, `RW.bB, `RW.bA, `RW.a9, `RW.a8, `RW.a7, `L2.Cy, `L2.Cw, `RW.bE, `RW.aM, `RW.aO, `RW.aR, `RW.aP, `RW.aQ, `RW.am, `L2.start, `Ax, `BS, `Ak, `Ah, `BF, `AS, `Am, `Ay, `Aq, `C9, `Bo, `Ba, `Bm, `Bn, `Cq, `C4, `C5, `C6, `B3, `L2.V.ref.injEq, `L2.V.int.injEq, `L2.V.bl.injEq, `L2.HO.ins.injEq, `L2.HO.lst.injEq, `L2.HO.tup.injEq, `BP, `BY, `B4, `reduceCtorEq, `Cz, `C1, `DC, `DD, `C7, `B2, `C3].mapM λn=> `(As| $(AR n):term)
 `(tactic| ((repeat with_reducible first
  | (apply RW.bF;with_unfolding_all exact rfl)
  $[| $R:tactic]*
  | (refine(?_:L2.Ends.nx _ _ _);refine RW.bX ?_)
  | (refine(?_:L2.Ends.rt _ _ _);refine RW.bK ?_)
  | (apply RW.cQ;with_unfolding_all $f:tactic;with_unfolding_all ((try simp only[RW.aM,RW.aO,RW.aR,RW.aP,RW.aQ, $ls,*]);exact rfl))
  $[| $S:tactic]*);first | with_reducible refine(?_:(_:L2.Sp) _ _ _ _) | with_reducible (apply RW.cR;with_unfolding_all ((try simp only[$L,*, $ls,*]);exact rfl)) | with_reducible refine(?_:L2.Bq _ _ _ _ _) | with_reducible refine(?_:_∧_) | try simp only[$L,*, $ls,*]))
section
namespace RW
open PySem PySem.Spec PyProof.Rows L2 L3 Vbwsal
structure FG(C:AD)(H:Hp)(a:AD)(g:Aw)(pc ph:AD):Prop where
 ins:∃dx fs,H a=AA (.ins C dx fs)/\fs.lookup ("wide":Str)=AA (.int g.wide)/\fs.lookup ("size":Str)=AA (.int (AG g))/\fs.lookup ("costs":Str)=AA (.ref pc)/\fs.lookup ("heights":Str)=AA (.ref ph)/\
  fs.lookup ("is_wall":Str)=AB/\fs.lookup ("neighbours":Str)=AB/\fs.lookup ("has_step":Str)=AB/\fs.lookup ("step_cost":Str)=AB/\fs.lookup ("steps_from":Str)=AB
 costs:H pc=AA (.lst (g.cells.map λc=>nV c.cost))
 Ei:H ph=AA (.lst (g.cells.map λc=>nV c.height))
 wide:0<g.wide
 few:AG g<=150
 rows:∃n,AG g=n * g.wide
def FG.same(L:FG C H a g pc ph)(s:AH H c):FG C c a g pc ph:=
 (let(b,fs,h,r):=L.ins;(b,fs,s _ _ h,r),s _ _ L.costs,s _ _ L.Ei,L.wide,L.few,L.rows)
def lr(h:c<AG g):(g.cells.map λc=>nV c.cost)[c]? =AA (nV (A7 g c).cost):=by
 unfold AG at h;erw[BC,AX h];unfold A7;erw[DA,AX h];rfl
def ig(h:c<AG g):(g.cells.map λc=>nV c.height)[c]? =AA (nV (A7 g c).height):=by
 unfold AG at h;erw[BC,AX h];unfold A7;erw[DA,AX h];rfl
structure Dx(K:Ao)(mg:Str->Option AI)(C:AD):Prop where
 cl:EO K C
 HK:BO K C "wide"
 EX:BO K C "size"
 VD:BO K C "high"
 FU:BO K C "costs"
 Lz:BO K C "heights"
 Hv:BO K C "doors"
 JK:BO K C "steps"
 Qh:GI mg "STEEPEST_STEP" 2
 Q3:mg "abs"=AB
 IG:mg "max"=AB
 C2:mg "len"=AB
 Df:mg "range"=AB
def sE:(!An g c)=decide (((A7 g c).cost:Int)=0):=by
 unfold An;erw[DQ];simp
def mod_succ(hw:0<w):(c+1) % w≠0↔c % w+1<w:=by
 have h:=Nat.mod_lt c hw;have e:(c+1) % w=(c % w+1) % w:=by simp[Nat.add_mod]
 erw[e];by_cases k:c % w+1<w;erw[Ou k];lia;have:c % w+1=w:=by lia
 erw[this,Nat.mod_self];lia
def zJ(hw:0<g.wide):(BK g c).map nV=(if (g.wide:Int)<=c then [V.int (c - g.wide)]else []) ++ ((if (c:Int) % g.wide+1<g.wide then [V.int (c+1)]else []) ++
  ((if (c:Int) + g.wide<AG g then [V.int (c+g.wide)]else []) ++ (if (0:Int)<(c:Int) % g.wide then [V.int (c - 1)]else []))):=by
 unfold BK;erw[Dd,Dd,Dd];have m:((c % g.wide:Nat):Int)=(c:Int) % g.wide:=by rfl
 congr 1
 by_cases h:g.wide<=c;erw[AJ h,AJ ()];show [V.int ((c - g.wide:Nat):Int)]=_;erw[Int.ofNat_sub h];erw[AK h,AK ()];rfl
 congr 1
 by_cases h:c % g.wide+1<g.wide;erw[AJ ((mod_succ hw).mpr h),AJ (by erw[<-m];lia)];rfl;erw[AK (λq=>h ((mod_succ hw).mp q)),AK (by erw[<-m];lia)];rfl
 congr 1
 by_cases h:c+g.wide<AG g;erw[AJ h,AJ ()];rfl;erw[AK h,AK ()];rfl;by_cases h:c % g.wide≠0;have:1<=c:=by
  rcases Sc c with z|z;subst z;simp at h;exact z
 erw[AJ h,AJ (by erw[<-m];lia)];show [V.int ((c - 1:Nat):Int)]=_;erw[Int.ofNat_sub this];rfl;erw[AK h,AK (by erw[<-m];lia)];rfl
inductive JG(C:AD)(vs:List V)(H:Hp)(Q:VK)(E:XK):Prop
 |mk:∀a g pc ph c,vs=[.ref a,nV c]->FG C H a g pc ph->c<AG g->Q (.bl (!An g c)) H->JG C vs H Q E
inductive Kr(C:AD)(vs:List V)(H:Hp)(Q:VK)(E:XK):Prop
 |mk:∀a g pc ph c,vs=[.ref a,nV c]->FG C H a g pc ph->c<AG g->(∀p H',H p=AB->AH H H'->H' p=AA (.lst ((BK g c).map nV))->Q (.ref p) H')->Kr C vs H Q E
@[inline]def stepOk(g:Aw)(c d:Nat):Bool:=decide ((A7 g c).cost≠0/\(A7 g d).cost≠0/\(A7 g d).height<=(A7 g c).height+2/\(A7 g c).height<=(A7 g d).height+2)
def E6(g:Aw)(c d:Nat):Nat:=(A7 g d).cost+ ((A7 g d).height - (A7 g c).height)
def gf(h:d∈BK g c):Ab g c d=if stepOk g c d=AC then AA (E6 g c d)else AB:=by
 by_cases k:stepOk g c d=AC;erw[AJ k];have(a,k2,k3,k4):=DT k;exact step_mk a k2 h k3 k4;erw[AK k];cases e:Ab g c d with
 |none=>rfl
 |some w=>
  have(a,k2,_,k3,k4,_):=dq e;exact absurd (BH (a,k2,k3,k4)) k
inductive NZ(C:AD)(vs:List V)(H:Hp)(Q:VK)(E:XK):Prop
 |mk:∀a g pc ph c d,vs=[.ref a,nV c,nV d]->FG C H a g pc ph->c<AG g->d<AG g->Q (.bl (stepOk g c d)) H->NZ C vs H Q E
inductive Lm(C:AD)(vs:List V)(H:Hp)(Q:VK)(E:XK):Prop
 |mk:∀a g pc ph c d,vs=[.ref a,nV c,nV d]->FG C H a g pc ph->c<AG g->d<AG g->Q (nV (E6 g c d)) H->Lm C vs H Q E
def vQ(j:Ag b "is_wall" "Land.is_wall" UY f fd)(T:Dx b mg C):AV t w b mg base AZ 1 f fd ["self","cell"] (JG C):=by
 exists j.go ["self","cell"],r,l,p;obtain⟨a,g,pc,ph,c,rfl,L,i,k⟩:=h;refine(_,(aF (aI (eQ dh (aJ aL (aH (pv 0)) (pv 1)) aG (aU _)))),?_);have(q,fs,e,o,n,d,m,_):=L.ins;simp![e,T.cl,T.FU,d,L.costs,lr i];rw[sE]at k;exact k
def vG(D:Ag z "neighbours" "Land.neighbours" UP f fd)(T:Dx z mg C):AV R w z mg base AZ 1 f fd ["self","cell"] (Kr C):=by
 exists D.go ["self","cell","column","found"],O,G,M;obtain⟨a,g,pc,ph,c,rfl,L,N,k⟩:=h;refine(_,(aE (aS 2 (aV jQ (pv 1) (aH (pv 0)))) (aE (aS 3 (af aD)) (aE (aX (aW jR (pv 1) (aH (pv 0)) (aU _)) (aF (dW (dw FJ Fo F0 eA (pv 3) (aA (aV dQ (pv 1) (aH (pv 0))) aD)))) aZ) (aE (aX (aW eS (aV dG (pv 2) aG) (aH (pv 0)) (aU _)) (aF (dW (dw FJ Fo F0 eA (pv 3) (aA (aV dG (pv 1) aG) aD)))) aZ) (aE (aX (aW eS (aV dG (pv 1) (aH (pv 0))) (aH (pv 0)) (aU _)) (aF (dW (dw FJ Fo F0 eA (pv 3) (aA (aV dG (pv 1) (aH (pv 0))) aD)))) aZ) (aE (aX (aW f9 (pv 2) aG (aU _)) (aF (dW (dw FJ Fo F0 eA (pv 3) (aA (aV dQ (pv 1) aG) aD)))) aZ) (aF (aI (pv 3))))))))),?_);have(B,fs,o,d,b,J,I,_):=L.ins;refine seq ?_;simp![o,T.cl,T.HK,T.EX,d,b];refine(by have:=L.wide;lia,?_);simp![];refine seq ?_;simp![o];refine(aN (),λp r=>?_);simp![];refine seq ?_;have n:∀x,L2.upd H p x a=AA (.ins C B fs):=λx=>by rw[aC (aT o r)];exact o
 have m:0<Ae:=dS ();have l:1<Ae:=dS ();have j:2<Ae:=dS ();have i:3<Ae:=dS ();have fin:∀q,q=(BK g c).map nV->Q (.ref p) (L2.upd H p (.lst q)):=λq e=>k p _ r (AH.upd r) (by rw[aB,e]);simp![n,T.cl,T.HK,T.EX,d,b,m,l,j,i];refine ak (λy=>?_) (λy=>?_)<;>
 simp![n,T.cl,T.HK,T.EX,d,b,m,l,j,i]<;>
 refine seq ?_<;>
 simp![n,T.cl,T.HK,T.EX,d,b,m,l,j,i]<;>
 refine ak (λv=>?_) (λv=>?_)<;>
 simp![n,T.cl,T.HK,T.EX,d,b,m,l,j,i]<;>
 refine seq ?_<;>
 simp![n,T.cl,T.HK,T.EX,d,b,m,l,j,i]<;>
 refine ak (λu=>?_) (λu=>?_)<;>
 simp![n,T.cl,T.HK,T.EX,d,b,m,l,j,i]<;>
 refine seq ?_<;>
 simp![n,T.cl,T.HK,T.EX,d,b,m,l,j,i]<;>
 refine ak (λt=>?_) (λt=>?_)<;>
 simp![n,T.cl,T.HK,T.EX,d,b,m,l,j,i]<;>
 (refine fin _ ?_
  rw[zJ L.wide];simp only[Db]at y v u t;simp only[y,v,u,t,BP,BY,Ah,BF,Ak])
def vX(t:Ag l "has_step" "Land.has_step" Uf f fd)(T:Dx l mg C)(p:A6 r w l mg base 1 C "is_wall" ["self","cell"] (JG C)):
  AV r w l mg base AZ 2 f fd ["self","cell","near"] (NZ C):=by
 exists t.go ["self","cell","near"],B,u,m;obtain⟨a,g,pc,ph,c,d,rfl,L,n,hd,k⟩:=h;refine(_,(aE (aX (PW.pt (eh (dU (ae (pv 0) p m (aA (pv 1) aD))) (fI (dU (ae (pv 0) p m (aA (pv 2) aD)))))) (aF (aI f7)) aZ) (aF (aI (eQ fD (bD yt (by rfl) T.Q3 boot_abs (aA (aV dQ (aJ aL (aH (pv 0)) (pv 1)) (aJ aL (aH (pv 0)) (pv 2))) aD)) (dI T.Qh) (aU _))))),?_);have(z,fs,j,y,x,v,q,m1,_):=L.ins;refine seq ?_;simp![j,m1];refine(a,g,pc,ph,c,rfl,L,n,_,rfl,ak (λi=>?_) (λi=>?_));simp[An]at i;have e:stepOk g c d=AF:=by unfold stepOk;simp[i]
 rw[e]at k;exact k;simp![j,m1];refine(a,g,pc,ph,d,rfl,L,hd,_,rfl,ak (λb=>?_) (λb=>?_));simp[An]at b;have e:stepOk g c d=AF:=by unfold stepOk;simp[b]
 rw[e]at k;exact k;simp![j,T.cl,T.Lz,q,L.Ei,ig n,ig hd];simp[An]at i b;have e:stepOk g c d=decide ((if ((A7 g c).height:Int) - ((A7 g d).height:Int)<0 then -(((A7 g c).height:Int) - ((A7 g d).height:Int))else((A7 g c).height:Int) - ((A7 g d).height:Int))<=2):=by
  unfold stepOk;rw[DQ];simp only[Db];constructor;intro(_,_,o,D);split<;>lia;intro o;refine(i,b,?_,?_)<;>(split at o<;>lia)
 rw[e]at k;exact k
def uq(n:Ag b "step_cost" "Land.step_cost" T0 f fd)(T:Dx b mg C):AV v w b mg base AZ 1 f fd ["self","cell","near"] (Lm C):=by
 exists n.go ["self","cell","near"],u,o,r;obtain⟨a,g,pc,ph,c,d,rfl,L,m,hd,k⟩:=h;refine(_,(aF (aI (aV dG (aJ aL (aH (pv 0)) (pv 2)) (bD (jq rfl) (by rfl) T.IG boot_max (aA aG (aA (aV dQ (aJ aL (aH (pv 0)) (pv 2)) (aJ aL (aH (pv 0)) (pv 1))) aD)))))),?_);have(t,fs,l,q,p,j,i,m1,_):=L.ins;simp![l,T.cl,T.Lz,T.FU,j,i,L.costs,L.Ei,lr hd,ig m,ig hd];have e:(E6 g c d:Int)=((A7 g d).cost:Int) + (if ((A7 g d).height:Int) - ((A7 g c).height:Int)>0 then((A7 g d).height:Int) - ((A7 g c).height:Int)else 0):=by
  unfold E6;split<;>lia
 rw[nV,e]at k;exact k
def FF(H:Hp)(b:List AD)(l:List (Nat×Nat)):Prop:=b.length=l.length/\∀(i:Nat) (t:AD) (a:Nat×Nat),b[i]? =AA t->l[i]? =AA a->H t=AA (.tup [nV a.1,nV a.2])
def FF.keep{a:Hp}(h:FF H d l)(k:∀b xs,H b=AA (.tup xs)->a b=AA (.tup xs)):FF a d l:=(h.1,λi t c f e=>k _ _ (h.2 i t c f e))
def FF.snoc(h:FF H c l)(e:H t=AA (.tup [nV d.1,nV d.2])):FF H (c ++ [t]) (l ++ [d]):=by
 refine(by erw[BZ,BZ,h.1];rfl,λi t' j a b=>?_);by_cases g:i<c.length;rw[F9 g]at a;rw[F9 (by erw[<-h.1];exact g)]at b;exact h.2 i t' j a b;have f:c.length<=i:=by lia
 rw[F8 f]at a;rw[F8 (by erw[<-h.1];exact f),<-h.1]at b;have z:i - c.length=0:=by
  have:=(AY.mp a).1;simp at this;lia
 rw[z]at a b;cases a;cases b;exact e
def FG.near(L:FG C H a g pc ph)(e:c<AG g)(h:d∈BK g c):d<AG g:=by
 rw[lA]at h;rcases h with⟨h,rfl⟩ | ⟨h,rfl⟩ | ⟨h,rfl⟩ | ⟨h,rfl⟩;lia;have(n,b):=L.rows;have hw:=L.wide;rw[mod_succ hw]at h;have j:=Nat.div_add_mod c g.wide;have i:c / g.wide<n:=by
  erw[Nat.div_lt_iff_lt_mul hw,<-b];exact e
 have f:g.wide * (c / g.wide+1)<=g.wide * n:=Nat.mul_le_mul_left _ i;rw[Nat.mul_add,Nat.mul_one]at f;erw[b,Nat.mul_comm n];lia;exact h;lia
inductive NU(C:AD)(vs:List V)(H:Hp)(Q:VK)(E:XK):Prop
 |mk:∀a g pc ph c,vs=[.ref a,nV c]->FG C H a g pc ph->c<AG g->(∀p ts H',H p=AB->AH H H'->H' p=AA (.lst (ts.map V.ref))->FF H' ts (DE g c)->Q (.ref p) H')->NU C vs H Q E
def iy(g:Aw)(c:Nat):(BK g c).length<=4:=by
 unfold BK;erw[BZ,BZ,BZ];split<;>split<;>split<;>split<;>simp
def take_snoc{a:Type}{l:List a}{i:Nat}{x:a}(h:l[i]? =AA x):l.take (i+1)=l.take i ++ [x]:=by
 erw[Iz,h];rfl
structure ZD(g:Aw)(c:Nat)(H1:Hp)(D:AD)(i:Nat)(H2:Hp):Prop where
 ex:∃ts:List AD,AH H1 H2/\H2 D=AA (.lst (ts.map V.ref))/\ts.length<=i/\FF H2 ts (((BK g c).take i).filterMap λv=>(Ab g c v).map λk=>(AE v k))
def um(a6:Ag n "steps_from" "Land.steps_from" Tx f fd)(T:Dx n mg C)(bm:A6 R w n mg base 2 C "neighbours" ["self","cell"] (Kr C))(bs:A6 R w n mg base 2 C "has_step" ["self","cell","near"] (NZ C))(bl:A6 R w n mg base 2 C "step_cost" ["self","cell","near"] (Lm C)):
  AV R w n mg base AZ 3 f fd ["self","cell"] (NU C):=by
 exists a6.go ["self","cell","near"],b7,a0,I;obtain⟨a,g,pc,ph,c,rfl,L,z,k⟩:=h;refine(_,(aF (aI (dk rfl a0 (dP (ae (pv 0) bm I (aA (pv 1) aD))) (own:=[(AE ("near") 2)]) (dO (by kernel_rfl)) (λ_ _ _ _ _=>(aa 2)) (λ_ _ _ _ _=>(fJ (dU (ae (pv 0) bs I (aA (pv 1) (aA (pv 2) aD)))))) (λ_ _ _ _ _=>(fB (aA (pv 2) (aA (ae (pv 0) bl I (aA (pv 1) (aA (pv 2) aD))) aD))))))),?_);have(a5,fs,aj,b5,b4,b3,b2,m1,a3,a2,a1,b1):=L.ins;refine(.ref a,rfl,a,a5,fs,rfl,aj,a3,nV c,rfl,a,g,pc,ph,c,rfl,L,z,λp S b6 G an=>(p,rfl,(_,AN.of an),λD N=>?_));have av:AH S (L2.upd S D (.lst [])):=AH.upd N;refine ja (K:=n) (a:=p) (xs:=(BK g c).map nV) (ZD g c S D)
  ([],av,aB,Au _,rfl,λi t b0 h=>by simp at h) (λi d _ (l,j,_)=>AN.of (j _ _ an)) ?_ ?_;intro i x d r (l,j,m,a4,u);obtain⟨v,y,rfl⟩:∃v,(BK g c)[i]? =AA v/\x=nV v:=by
  rw[BC]at r;cases q:(BK g c)[i]? with
  |none=>rw[q]at r;cases r
  |some v=>rw[q]at r;exact(v,rfl,(Ap r).symm)
 have J:=Ar y;have Y:=L.near z J;have B:AH H d:=G.trans j;have ab:=B _ _ aj;simp![wipe,ab,a2];refine(a,g,pc,ph,c,v,rfl,L.same B,z,Y,_,rfl,ak (λO=>?_) (λO=>?_));simp![ab,a1];refine(a,g,pc,ph,c,v,rfl,L.same B,z,Y,?_);simp![];refine(aN (),λt Z=>?_);have X:D≠t:=aT m Z;have U:AH d (L2.upd d t (.tup [nV v,nV (E6 g c v)])):=AH.upd Z;refine(_,by rw[aC X];exact m,by rw[AL];exact dS (by have:=iy g c;have:=(AY.mp y).1;lia),l ++ [t],?_,?_,?_,?_);exact λb o e=>by
  rw[aC (aT e N)];exact U b o (j b o e)
 rw[aB,Dd];rfl;rw[BZ];simp;lia;rw[take_snoc y,So];have e:(List.filterMap (λv=>(Ab g c v).map λk=>(AE v k)) [v])=[(AE v (E6 g c v))]:=by
  simp[Ho,gf J,O]
 rw[e];have kp:∀b xs,d b=AA (.tup xs)->L2.upd (L2.upd d t (.tup [nV v,nV (E6 g c v)])) D (.lst (Ld V.ref l ++ [V.ref t])) b=AA (.tup xs):=λb xs M=>by
  rw[aC (λq=>by rw[q,m]at M;cases M)];exact U _ _ M
 exact(u.keep kp).snoc (by rw[aC X.symm,aB]);refine(l,j,m,by lia,?_);rw[take_snoc y,So];have e:(List.filterMap (λv=>(Ab g c v).map λk=>(AE v k)) [v])=[]:=by
  simp[Ho,gf J,O]
 rw[e,BF];exact u;intro d (l,j,m,a4,u);rw[AL,EI]at u;exact k D l d (G.free N) (G.trans j) m u
structure HU(mg:Str->Option AI):Prop where
 Qm:GI mg "MOST_WIDE" 12
 Qo:GI mg "MOST_HIGH" 10
 Nw:GI mg "ROW_END" 10
 Nv:GI mg "WALL" 35
 ME:GI mg "ZERO" 48
 Qi:GI mg "ONE" 49
 MF:GI mg "NINE" 57
 MG:GI mg "FIRST_DOOR" 97
 Qs:GI mg "LAST_DOOR" 102
 C2:mg "len"=AB
 Df:mg "range"=AB
abbrev J5(H:Hp)(t:AD)(b:List Nat):Prop:=H t=AA (.lst (b.map nV))
inductive NY(vs:List V)(H:Hp)(Q:VK)(E:XK):Prop
 |mk:∀b:Nat,vs=[nV b]->Q (.bl (GF b)) H->NY vs H Q E
inductive Nf(vs:List V)(H:Hp)(Q:VK)(E:XK):Prop
 |mk:∀b:Nat,vs=[nV b]->Q (.bl (FC b)) H->Nf vs H Q E
inductive QC(vs:List V)(H:Hp)(Q:VK)(E:XK):Prop
 |mk:∀t b p,vs=[.ref t,nV p]->J5 H t b->Q (.bl (isCell b p)) H->QC vs H Q E
inductive QP(vs:List V)(H:Hp)(Q:VK)(E:XK):Prop
 |mk:∀t b p,vs=[.ref t,nV p]->J5 H t b->Q (.bl (FM b p)) H->QP vs H Q E
inductive Lr(vs:List V)(H:Hp)(Q:VK)(E:XK):Prop
 |mk:∀t b p,vs=[.ref t,nV p]->J5 H t b->Q (nV (cnt (b.drop p))) H->Lr vs H Q E
inductive Pk(vs:List V)(H:Hp)(Q:VK)(E:XK):Prop
 |mk:∀t b s f m,vs=[.ref t,nV s,nV f,nV m]->J5 H t b->Q (oV (Jr b s f m)) H->Pk vs H Q E
inductive Ph(vs:List V)(H:Hp)(Q:VK)(E:XK):Prop
 |mk:∀t b,vs=[.ref t]->J5 H t b->Q (oV (Li b)) H->Ph vs H Q E
def iP{b:List Nat}(h:p<b.length):(b.map nV)[p]? =AA (nV (b.getD p 0)):=by
 erw[BC,AX h,DA,AX h];rfl
def vT(c:Ag a "is_height" "is_height" Ub f fd)(T:HU mg):AV j w a mg base AZ 1 f fd ["byte"] NY:=by
 exists c.go ["byte"],i,d,g;obtain⟨b,rfl,k⟩:=h;refine(_,(aF (aI (jN fD fD (dI T.ME) (pv 0) (dI T.MF)))),?_);simp![];have e:GF b=(if decide ((48:Int)<=b)=AC then decide ((b:Int)<=57)else AF):=by
  unfold GF;rw[DQ];simp;lia
 rw[e]at k;by_cases h:(48:Int)<=b;simp only[h,Cz,BP]at k|-;exact k;simp only[h,C1,BY,B4]at k|-;exact k
def vy(g:Ag d "begins_cell" "begins_cell" U0 f fd)(T:HU mg):AV m w d mg base AZ 1 f fd ["byte"] Nf:=by
 exists g.go ["byte"],l,i,j;obtain⟨b,rfl,k⟩:=h;refine(_,(aF (aI (iJ (eQ dh (pv 0) (dI T.Nv) (aU _)) (iJ (jN fD fD (dI T.Qi) (pv 0) (dI T.MF)) (gO (jN fD fD (dI T.MG) (pv 0) (dI T.Qs))))))),?_);simp![];have e:∀c:Bool,(c=AC↔(b=35\/(49<=b/\b<=57)\/(97<=b/\b<=102)))->Q (.bl c) H:=λc a=>by
  have:FC b=c:=by unfold FC;rw[DQ,a];simp
  rw[<-this];exact k
 split
 all_goals simp![]
 all_goals repeat' split
 all_goals simp![]
 all_goals repeat' split
 all_goals simp![]
 all_goals (refine e _ ?_;simp_all;try lia)
def vU(m:Ag g "is_cell" "is_cell" Uc f fd)(T:HU mg)(o:A8 j w g mg base 1 "begins_cell" ["byte"] Nf)(n:A8 j w g mg base 1 "is_height" ["byte"] NY):
  AV j w g mg base AZ 2 f fd ["text","place"] QC:=by
 exists m.go ["text","place"],r,q,i;obtain⟨t,b,p,rfl,c,k⟩:=h;refine(_,(aF (aI (iK (eQ eS (aV dG (pv 1) aG) (bD dj (by rfl) T.C2 EB (aA (pv 0) aD)) (aU _)) (iK (ag o i rfl (aA (aJ aL (pv 0) (pv 1)) aD)) (gO (ag n i rfl (aA (aJ aL (pv 0) (aV dG (pv 1) aG)) aD))))))),?_);simp![c,AL];refine ak (λe=>?_) (λe=>?_);simp only[Db]at e;have d:p+1<b.length:=by lia
 simp![c,iP (Wi d)];refine(_,rfl,_,rfl,ak (λa=>?_) (λa=>?_));have l:((p:Int) + 1)=((p+1:Nat):Int):=by lia
 simp![c,l,iP d];refine(_,rfl,?_);unfold isCell at k;rw[a,BH d,Fu,Fu]at k;exact k;unfold isCell at k;rw[Sy]at a;rw[a,PZ,Hq]at k;exact k;simp only[Db]at e;unfold isCell at k;rw[DH (),Hq,Hq]at k;exact k
def vW(m:Ag g "has_wrong_height" "has_wrong_height" Ue f fd)(T:HU mg)(o:A8 j w g mg base 1 "begins_cell" ["byte"] Nf)(n:A8 j w g mg base 1 "is_height" ["byte"] NY):
  AV j w g mg base AZ 2 f fd ["text","place"] QP:=by
 exists m.go ["text","place"],r,q,i;obtain⟨t,b,p,rfl,c,k⟩:=h;refine(_,(aF (aI (iK (eQ eS (aV dG (pv 1) aG) (bD dj (by rfl) T.C2 EB (aA (pv 0) aD)) (aU _)) (iK (ag o i rfl (aA (aJ aL (pv 0) (pv 1)) aD)) (gO (oJ (ag n i rfl (aA (aJ aL (pv 0) (aV dG (pv 1) aG)) aD)))))))),?_);simp![c,AL];refine ak (λe=>?_) (λe=>?_);simp only[Db]at e;have d:p+1<b.length:=by lia
 simp![c,iP (Wi d)];refine(_,rfl,_,rfl,ak (λa=>?_) (λa=>?_));have l:((p:Int) + 1)=((p+1:Nat):Int):=by lia
 simp![c,l,iP d];refine(_,rfl,_,rfl,?_);unfold FM at k;rw[a,BH d,Fu,Fu]at k;exact k;unfold FM at k;rw[Sy]at a;rw[a,PZ,Hq]at k;exact k;simp only[Db]at e;unfold FM at k;rw[DH (),Hq,Hq]at k;exact k
def vv(C:Ag l "cells_from" "cells_from" Ux f fd)(T:HU mg)(D:A8 B w l mg base 2 "is_cell" ["text","place"] QC):
  AV B w l mg base AZ 3 f fd ["text","place"] Lr:=by
 exists C.go ["text","place","count"],G,o,u;obtain⟨t,b,p,rfl,r,k⟩:=h;refine(_,(aE (aS 2 aG) (aE (iH D0 (dU (ag D u rfl (aA (pv 0) (aA (aV dG (pv 1) (aV iM aG (pv 2))) aD)))) (aF (iI (i:=2) o rfl (Dr rfl) aG ic))) (aF (aI (pv 2))))),?_);exists N,x;subst x;refine(λm g a=>∃n:Nat,n<=cnt (b.drop p)/\m=cnt (b.drop p) - n/\g=[AA (.ref t),AA (nV p),AA (nV n)]/\H=a,(_,0,DR _,rfl,rfl,rfl),?_);rintro m g a ⟨n,j,rfl,rfl,rfl⟩;simp![];refine(.inl (by decide,by decide),t,b,p+2 * n,?_,r,_,rfl,ak (λc=>?_) (λc=>?_));have:(p:Int) + 2 * (n:Int)=((p+2 * n:Nat):Int):=by lia
 rw[this];have v:n<cnt (b.drop p):=by
  rcases Ow n (cnt (b.drop p))with q|q;exact q;have e:n=cnt (b.drop p):=M5 j q;rw[e,<-lT,qb]at c;cases c
 refine(λd a=>d=[AA (.ref t),AA (nV p),AA (nV (n+1))]/\H=a,λd a (z,y)=>(_,by lia,n+1,v,rfl,z,y),?_);simp![];have e:n=cnt (b.drop p):=by
  rcases Ow n (cnt (b.drop p))with q|q;exact absurd (by rw[<-lT];exact jl _ _ q) c;exact M5 j q
 rw[e];exact k
def uR(B:Ag o "wrong_in_row" "wrong_in_row" TX f fd)(T:HU mg)(D:A8 v w o mg base 3 "cells_from" ["text","place"] Lr)(C:A8 v w o mg base 3 "has_wrong_height" ["text","place"] QP):AV v w o mg base AZ 4 f fd ["text","start","fewest","most"] Pk:=by
 exists B.go ["text","start","fewest","most","count","end"],J,G,r;obtain⟨t,b,p,I,i,rfl,d,k⟩:=h;refine(_,(aE (aS 4 (ag D r rfl (aA (pv 0) (aA (pv 1) aD)))) (aE (aX (aW f9 (pv 4) (pv 3) (aU _)) (aF (aI (aV dG (pv 1) (aV iM aG (pv 3))))) aZ) (aE (aS 5 (aV dG (pv 1) (aV iM aG (pv 4)))) (aE (aX (dU (ag C r rfl (aA (pv 0) (aA (pv 5) aD)))) (aF (aI (aV dG (pv 5) aG))) aZ) (aE (aX (PW.pt (eh (aW eS (pv 4) (pv 2) (aU _)) (fI (PW.pt (fY (aW eS (pv 5) (bD dj (by rfl) T.C2 EB (aA (pv 0) aD)) (aU _)) (fX (aW gR (aJ aL (pv 0) (pv 5)) (dI T.Nw) (aU _)))))))) (aF (aI (pv 5))) aZ) (aF (aI ai))))))),?_);unfold Jr at k;dsimp only at k;generalize y:cnt (b.drop p)=c at k;exists N,a;simp![];refine(t,b,p,rfl,d,?_);rw[y];subst a;exists N,a;simp![];refine ak (λn=>?_) (λn=>?_);simp only[Db]at n;rw[AJ ()]at k;simp![];refine(.inl (by decide,by decide),?_);have e:((p+2 * i:Nat):Int)=(p:Int) + 2 * (i:Int):=by lia
 show Q (V.int ((p:Int) + 2 * (i:Int))) H;rw[<-e];exact k;simp only[Db]at n;rw[AK ()]at k;subst a;exists N,a;simp![];refine(.inl (by decide,by decide),?_);have e:(p:Int) + 2 * (c:Int)=((p+2 * c:Nat):Int):=by lia
 rw[e];subst a;exists N,a;simp![];refine(t,b,p+2 * c,rfl,d,_,rfl,ak (λm=>?_) (λm=>?_));rw[AJ m]at k;simp![];exact k;rw[AK m]at k;subst a;exists N,a;simp![d,AL];refine ak (λl=>?_) (λl=>?_);simp only[Db]at l;rw[AJ (.inl ())]at k;simp![];exact k;simp only[Db]at l;simp![d,AL];refine ak (λj=>?_) (λj=>?_);simp only[Db]at j;have u:p+2 * c<b.length:=by lia
 simp![d,iP u];generalize b.getD (p+2 * c) 0=x at k;refine ak (λg=>?_) (λg=>?_);rw[AJ (.inr (u,λq=>by rw[q]at g;simp at g))]at k;simp![];exact k;have z:x=10:=by simp at g;lia
 rw[AK (by
  rintro(q| ⟨_,q⟩);lia;exact q z)]at k
 subst a;exact k;simp only[Db]at j;rw[AK (by
  rintro(q| ⟨q,_⟩)<;>lia)]at k
 subst a;exact k
structure ZT(b:List Nat)(t:AD)(H:Hp)(i:Nat)(σ:L2.St)(H':Hp):Prop where
 heap:H=H'
 ex:∃st fe mo x y z,σ=[AA (.ref t),AA (nV st),AA (nV fe),AA (nV mo),x,y,z]/\(0<i->0<st)/\Li b=HE b (10 - i) st fe mo
def uP(D:Ag m "wrong_place" "wrong_place" TU f fd)(T:HU mg)(I:A8 u w m mg base 4 "cells_from" ["text","place"] Lr)(G:A8 u w m mg base 4 "wrong_in_row" ["text","start","fewest","most"] Pk):AV u w m mg base AZ 5 f fd ["text"] Ph:=by
 exists D.go ["text","start","fewest","most","row","wrong","end"],O,J,r;obtain⟨t,b,rfl,e,k⟩:=h;refine(_,(aE (aS 1 aG) (aE (aS 2 aG) (aE (aS 3 (dI T.Qm)) (aE (dg D0 rfl (fP rfl T.Df (aA (dI T.Qo) aD)) (aa 4) (aE (aS 5 (ag G r rfl (aA (pv 0) (aA (pv 1) (aA (pv 2) (aA (pv 3) aD)))))) (aE (aX (aW ff (pv 5) ai (aU _)) (aF (aI (pv 5))) aZ) (aE (aS 2 (ag I r rfl (aA (pv 0) (aA (pv 1) aD)))) (aE (aS 3 (pv 2)) (aE (aS 6 (aV dG (pv 1) (aV iM aG (pv 2)))) (aE (aX (aW dh (pv 6) (bD dj (by rfl) T.C2 EB (aA (pv 0) aD)) (aU _)) (aF (aI ai)) aZ) (aF (aS 1 (aV dG (pv 6) aG)))))))))) (aF (aI (aV dQ (pv 1) aG))))))),?_);exists N,a;subst a;exists N,a;subst a;exists N,a;subst a;exists N,a;refine(10,rfl,by decide,by decide,hO (n:=10) (ZT b t H) (rfl,0,1,12,AB,AB,AB,rfl,by lia,rfl) ?_ ?_);rintro i v C L ⟨rfl,st,j,d,x,y,z,rfl,o,hw⟩;exists N,a;simp![];refine(t,b,st,j,d,rfl,e,?_);subst a;have B:10 - i=(10 - (i+1)) + 1:=by lia
 rw[B,HE]at hw;exists N,a;cases q:Jr b st j d with
 |some p=>
  rw[q]at hw;dsimp only at hw;rw[hw]at k;simp![oV];exact k
 |none=>
  rw[q]at hw;dsimp only at hw;simp![oV];subst a;exists N,a;simp![];refine(t,b,st,rfl,e,?_);generalize M:cnt (b.drop st)=c at hw;subst a;exists N,a;subst a;exists N,a;simp![];refine(.inl (by decide,by decide),?_);subst a;exists N,a;simp![e,AL];refine ak (λg=>?_) (λg=>?_);simp only[Db]at g;rw[AJ ()]at hw;rw[hw]at k;exact k;simp only[Db]at g;rw[AK ()]at hw;subst a;simp![];have l:(st:Int) + 2 * (c:Int) + 1=((st+2 * c+1:Nat):Int):=by lia
  rw[l];exact(rfl,st+2 * c+1,c,c,_,_,_,rfl,by lia,hw)
 rintro v C ⟨rfl,st,j,d,x,y,z,rfl,o,hw⟩;subst a;simp![];rw[hw]at k;have:0<st:=o ();have l:(st:Int) - 1=((st - 1:Nat):Int):=by lia
 rw[l];exact k
def G0.ok{sp:Sp}(n:G0 d x b a f fd c v)(S:J7 N ps (FW a))(len:∀vs H Q E,sp vs H Q E->vs.length=ps.length)(j:∀(A:Fa) (outer:List Env) (s:AO) (H:Hp) (vs:List V) (Q:VK) (E:XK),DX k (A.deeper (Hj b (FW a) s⁻¹ f (.ref c)))->sp vs H Q E->
   ∃t,Fw (IC AZ l w d mg base N b (FW a) f (.ref c) A outer s H E).Ju (Ig a) t/\t {nx:=λ_ m=>Q .Al m,rt:=Q} (L2.start N vs) H):AV l w d mg base AZ (k+1) f fd ps sp:=by
 obtain⟨r,p,kV,doc,pm,u,ct,o,rfl,lk,i⟩:=n.ex;refine pz lk i S len λA outer s H vs Q E g e=>?_;have(t,h,q):=j A outer s H vs Q E g e;exact(t,h.Ju,q)
structure El(C:AD)(H:Hp)(a:AD)(g:Aw)(pc ph ps:AD)(sa:List AD):Prop where
 b:FG C H a g pc ph
 fld:∀dx fs,H a=AA (.ins C dx fs)->fs.lookup ("steps":Str)=AA (.ref ps)
 steps:H ps=AA (.lst (sa.map V.ref))
 len:sa.length=AG g
 each:∀(i:Nat) (b:AD),sa[i]? =AA b->∃ts:List AD,H b=AA (.lst (ts.map V.ref))/\FF H ts (DE g i)
def El.keep{C:AD}{H h:Hp}{a:AD}{g:Aw}{pc ph ps P:AD}{sa:List AD}(L:El C H a g pc ph ps sa)(s:AQ [P] H h)(f:∃x,H P=AA (.aY x)):El C h a g pc ph ps sa:=by
 have(x,f):=f;have k:∀b o,H b=AA o->(∀x,o≠.aY x)->h b=AA o:=λb o e n=>s b o e λz=>by
  rw[Av.mp z,f]at e;exact n x (Ap e).symm
 have(p,fs,c,r):=L.b.ins;refine(((p,fs,k _ _ c (λ_ z=>by cases z),r),k _ _ L.b.costs (λ_ z=>by cases z),k _ _ L.b.Ei (λ_ z=>by cases z),L.b.wide,L.b.few,L.b.rows),λt q e=>?_,k _ _ L.steps (λ_ z=>by cases z),L.len,λi b e=>?_);have:=k _ _ c (λ_ z=>by cases z);rw[e]at this;cases this;exact L.fld _ _ c;have(j,m,l):=L.each i b e;exact(j,k _ _ m (λ_ z=>by cases z),l.keep λd xs hd=>k _ _ hd (λ_ z=>by cases z))
def TabAt.aY(T:TabAt H a pos q):∃x,H a=AA (.aY x):=by
 rcases T with t| ⟨_,t,_⟩<;>exact(_,t)
end RW
end
section
namespace RW
open PySem PySem.Spec PyProof.Rows L2 L3
def sv{Q:Int->AO->Prop}(h:Q 0xFCA86420 {s with toks:=s.toks+1}):AM (AU prog w) A (pyHash .none) Q E s:=by
 unfold pyHash;have a:[Hf].any Value.onHeap=AF:=rfl;refine AT ?_;erw[cRoomFor,AK (by erw[a];exact Dl)];refine BM ?_;refine AT (Mj (OO s) Og.lookup ?_);show AM _ _ (if (AA (Value.builtin "NoneType.__hash__")==AA Hf)=AC then _ else _) Q E s;erw[AK (by erw[beq_builtin_none];exact Dl)];refine AT (Mj (OO s) Og.lookup ?_);show AM _ _ (callSpecialIfBoundUnlessNone? .none "__hash__" _>>=_) Q E s;refine AT (wpAny_callSpecialIfBoundUnlessNone?_slot (OO s) Og
  (Mo Og (OO s) F.entry_NoneType_hash
   (show AM _ _ (do ret (<-mkInt 0xFCA86420)) _ _ s from wpAny_ret_mkInt ?_) (F.args_NoneType_hash_1 _)));show AM _ _ (if (decide (-(2:Int) ^ 63<=0xFCA86420) && decide ((0xFCA86420:Int)<2 ^ 63))=AC then _ else _) Q E _;erw[AJ (by decide)];exact BM h
def Ib:Option Key->AI->Bool
 |none,.none=>AC
 |none,_=>AF
 |some k,v=>Fh k v
def gD(h:Ib AB v=AC):v=.none:=by
 cases v<;>first|rfl| (exact absurd (show AF=AC from h) Dl)
def lO(h:Fh k .none=AC):False:=by
 rcases eB h with⟨_,_,_,e⟩ | ⟨_,_,_,e⟩<;>cases e
def Y6(w:Do):Option Key->Int
 |none=>0xFCA86420
 |some k=>Qb w k
def xx{Q:Bool->AO->Prop}(f:Ib a u=AC)(c:Ib b v=AC)(h:Q (decide (a=b)) s):AM (AU prog w) A (PySem.eqBool u v) Q E s:=by
 cases a with
 |none=>
  obtain rfl:=gD f;cases b with
  |none=>
   obtain rfl:=gD c;have e:decide ((AB:Option Key)=AB)=AC:=by simp
   rw[e]at h;exact V9 _ _ _ _ _ h
  |some k=>
   have e:decide ((AB:Option Key)=AA k)=AF:=by simp
   rw[e]at h;rcases eB c with⟨i,t,_,rfl⟩ | ⟨x,t,_,rfl⟩;exact WC i t _ _ _ _ h;exact WB x t _ _ _ _ h
 |some k=>
  cases b with
  |none=>
   obtain rfl:=gD c;have e:decide (AA k=(AB:Option Key))=AF:=by simp
   rw[e]at h;rcases eB f with⟨i,t,_,rfl⟩ | ⟨x,t,_,rfl⟩;exact WE i t _ _ _ _ h;exact V7 x t _ _ _ _ h
  |some d=>
   refine(BJ prog w).eqBool (a:=k) (b:=d) f c ?_;have e:decide (k=d)=decide (AA k=AA d):=by erw[DQ];simp
   erw[e];exact h
def xY(v:AI)(a b:Option Key)(d:Ib a v=AC)(c:Ib b v=AC):a=b:=by
 cases a with
 |none=>
  obtain rfl:=gD d;cases b with
  |none=>rfl
  |some k=>exact(lO c).elim
 |some k=>
  cases b with
  |none=>obtain rfl:=gD c;exact(lO d).elim
  |some l=>
   rcases eB (show Fh k v=AC from d)with⟨i,t,h,g⟩ | ⟨x,t,h,g⟩<;>rcases eB (show Fh l v=AC from c)with⟨j,u,f,e⟩ | ⟨y,u,f,e⟩<;>rw[g]at e<;>cases e<;>erw[h,f]
def Yu(prog:ET)(w:Do):PySem.KeyKind prog w (Option Key) where
 is:=Ib
 hash:=Y6 w
 inj:=xY
 byValue:=λk v h=>by
  cases k with
  |none=>obtain rfl:=gD h;rfl
  |some k=>exact(BJ prog w).byValue k v h
 pyHash:=λ{A E s k v Q} a h=>by
  cases k with
  |none=>obtain rfl:=gD a;exact sv h
  |some k=>exact(BJ prog w).pyHash (k:=k) a h
 eqBool:=xx
 «strs»:=λk x t v h=>by
  cases k with
  |none=>exact absurd (show AF=AC from h) Dl
  |some k=>exact(BJ prog w).strs k x t v h
def wD{Q:AI->AO->Prop}(I:L2.Inv X pins j H s)(e:H a=AA (.dK u))(h:∀g,L2.Inv X pins j H g->Q (.bool AF) g):
  AM (AU X.prog X.w) X.A (Em .In .none (.ref a)) Q E s:=by
 have(z,hd,vs,rel,o,b,q,p,n,m,i,v):=il I.hok e;refine wpAny_in_of (knd:=Yu X.prog X.w) (k:=AB) (f:=λk=>findBy Ib b k) rfl hd (o,b,q,p,n,m,λd c=>?_,λ_=>rfl) ?_;have(k,g1,g2):=i d c;exact(AA k,g1,g2);have t:findBy Ib b AB=AB:=by
  unfold findBy;erw[Wf,Array.find?_eq_none];intro d c l;have(k,g1,_):=i d c;have r:=gD l;rw[r]at g1;exact lO g1
 show Q (.bool (findBy Ib b AB).isSome) _;erw[t];exact h _ (I.tok _)
def Pf(ty d:TE):TE:=λc H Q=>ty c H λy f=>d c f λx b=>∃a,x=.ref a/\((y=.Al/\(∃e,b a=AA (.dK e))/\Q (.bl AF) b)\/∃o,DV b a y o/\Q (.bl o.isSome) b)
def uA(z:X.A.units+1<ES)(B:PE X i ty)(A:PE X o l):PC X .In i o (Pf ty l):=by
 intro pins s c H Q I h;refine aK (B pins s c H _ I h) λw n (y,D,C,d,t)=>aK (A pins n c D _ C t) λu E k=>?_;have(x,j,f,p,a,ex,g):=k;subst ex;obtain rfl:u=Bf a:=p;rcases g with⟨rfl,⟨G,e⟩,q⟩ | ⟨v,g,r⟩;obtain rfl:w=Hf:=d;exact wD f e λm b=>(.bl AF,j,b,rfl,q);exact qU z f g d λm b=>(.bl v.isSome,j,b,rfl,r)
def gl{K:Ao}(g:X.K=K)(f:X.calm=AC)(a:X.N.Nodup)(e:X.N[i]? =AA x)(d:X.N[j]? =AA y)(c:Loc X.env.scope x)(b:Loc X.env.scope y)(l:X.fn x=AC\/X.env.scope.names.lookup x=AA .local)(h:X.fn y=AC\/X.env.scope.names.lookup y=AA .local):PG X (.Tuple [.Name x m,.Name y py] k pos) (B0 K 2 (B1 (BL i) (B1 (BL j) Co))):=by
 subst g;exact eP (n:=2) f (dX (kX a e c l) (dX (kX a d b h) eO))
end RW
end
section
namespace PySem
open _root_.PySem.Sem (wp)
def yE{Q:AI->AO->Prop}(d:s.heap.IsTupleIter j t n)(T:s.heap.IsTuple t vs)(f:vs[n]? =AA v)(k:∀c,c.IsTupleIter j t (n+1)->Mx j s.heap c->Q v {s with heap:=c}):AM (AU prog w) A (Ke (.ref j)) Q E s:=by
 have(m,b,i,a):=id d;have(l,h,_,o,g):=T;unfold Ke;refine AT (OM (name:=KW "__next__") d.typeIs Oe (Mo Oe d.typeIs WO ?_ (WR _)));show AM _ _ (field (.ref j) 0>>=_) _ _ s;refine AT (G7 b a (x:=.ref t) rfl ?_);have e: ¬((Bf t==Hf)=AC):=Dl;show AM _ _ (if (Bf t==.none)=AC then _ else _) _ _ s;erw[AK e];show AM _ _ (field (.ref j) 1>>=_) _ _ s;refine AT (G7 b a (x:=.int n 0) rfl ?_);show AM _ _ (seqItems? (Bf t)>>=_) _ _ s;refine AT (IP h g ?_);simp only[Ep,f];refine AT (wpAny_setField b a (by simp) (BM (v,rfl,BM (k _ (_,SI _ b (Obj.isFreed_of_fields (WF a _)),(Obj.cls_mapFields ..).trans i,?_) (WG ..)))));erw[WF a];simp[GX]
def yD{E:AI->AO->Prop}(g:A.handled=AB)(f:s.heap.IsTupleIter j t n)(T:s.heap.IsTuple t vs)(i:vs[n]? =AB)(k:∀b e,Heap.ExtBut j s.heap b->(∃o,b.get? e=AA o/\o.cls=.type "StopIteration")->E (.ref e) {s with heap:=b}):AM (AU prog w) A (Ke (.ref j)) Q E s:=by
 have(r,d,v,c):=id f;have(q,p,_,u,l):=T;unfold Ke;refine AT (OM (name:=KW "__next__") f.typeIs Oe (Mo Oe f.typeIs WO ?_ (WR _)));show AM _ _ (field (.ref j) 0>>=_) _ _ s;refine AT (G7 d c (x:=.ref t) rfl ?_);have h: ¬((Bf t==Hf)=AC):=Dl;show AM _ _ (if (Bf t==.none)=AC then _ else _) _ _ s;erw[AK h];show AM _ _ (field (.ref j) 1>>=_) _ _ s;refine AT (G7 d c (x:=.int n 0) rfl ?_);show AM _ _ (seqItems? (Bf t)>>=_) _ _ s;refine AT (IP p l ?_);simp only[Ep,i];refine AT (Mm (AT (wpAny_setField d c (by simp) ?_)));show AM _ _ (newExc (.type "StopIteration") []>>=_) _ _ _;refine AT ?_;simp only[newExc,newTuple];refine AT (Rx ?_ (by size_fits));refine AT (m:=firstArgMember _ _) (wpAny_of_eq (a:=Hf) (by first|rfl| (simp only[firstArgMember];rfl)) ?_);refine Rx ?_ (by size_fits);simp only[raiseNew];refine AT (wpAny_handled ?_)
 first|erw[show A.in1.handled=AB from g] |erw[g]
 refine AT (BM (wpAny_throw (k _ _ (((WG ..).extBut.push _).push _) (_,Dq _ rfl,rfl))))
def rE{Q:AI->AO->Prop}(D:LR z g d j i t l)(Z:Fn s.heap z g d .none)(I:Ea s.heap g (.ref j) (.ref i))(O:Ea s.heap d a b)(b5:s.heap.IsTupleIter j t n)(b4:s.heap.IsListIter i l n)(T:s.heap.IsTuple t vs)(L:s.heap.IsList l us)(a4:vs[n]? =AA v)(a5:us[n]? =AA u)(k:∀h',Fn h' z g d (GX s⁻¹)->Ea h' d v u->h'.IsTupleIter j t (n+1)->h'.IsListIter i l (n+1)->Ea h' s⁻¹ v u->h'.objs.size=s⁻¹+1->
   (∀c o,c≠z->c≠d->c≠j->c≠i->s.heap.get? c=AA o->h'.get? c=AA o)->Q (.ref s⁻¹) {s with heap:=h'}):
  AM (AU prog w) A (Builtin.«zip.__next__» ([.ref z],[])) (λfin a2=>∃x,fin=.done (.ret x)/\Q x a2) E s:=by
 show AM _ _ (field (.ref z) 2>>=_) _ _ _;refine AT (G7 Z rfl (x:=.bool AF) rfl ?_);show AM _ _ (field (.ref z) 3>>=_) _ _ _;refine AT (G7 Z rfl (x:=.ref g) rfl ?_);refine AT (IP I rfl ?_);show AM _ _ (Oj (.ref z)>>=_) _ _ _;refine AT ?_;unfold Oj;refine AT (G7 Z rfl (x:=.none) rfl (BM ?_));simp only[BP];refine AT (Mm (AT (G7 Z rfl (x:=.ref d) rfl ?_)));refine AT (Ml Z (by simp) λg1 N m=>?_);replace N:Fn g1 z g d .ellipsis:=N;refine AT ?_;simp only[Sd,List.zipIdx_nil,Sl,PM];refine AT (AT (Rw ?_));show AM _ _ (Ke (.ref j)>>=_) _ _ _;refine AT (yE (b5.extBut m.extBut D.i1z) (T.extBut m.extBut D.l1z) a4 λg2 b2 q=>BM ?_);have a0:Ea g2 d a b:=q.extBut _ _ D.TOi1 (m.extBut _ _ D.TOz O);refine AT (IP a0 rfl (AT (wpAny_updateSeq_pair a0 λg3 U p=>?_)));replace U:Ea g3 d v b:=U;refine AT (wpAny_letGo (BM (AT (AT (Rw ?_)))));show AM _ _ (Ke (.ref i)>>=_) _ _ _;have b3:=((b4.extBut m.extBut D.i2z).extBut q.extBut D.i12.symm).extBut p.extBut D.TOi2.symm;refine AT (wpAny_nextOf_list_item b3 (((L.extBut m.extBut D.l2z).extBut q.extBut D.l2i1).extBut p.extBut D.l2TO) a5 λbl b0 B=>BM ?_);have av:Ea bl d v b:=B.extBut _ _ D.TOi2 U;refine AT (IP av rfl (AT (wpAny_updateSeq_pair av λf H y=>?_)));replace H:Ea f d v u:=H;refine AT (wpAny_letGo (BM (BM (AT (IP H rfl (AT (wpAny_newTuple ?_)))))));have Y:f.objs.size=s⁻¹:=by erw[y.1,B.1,p.1,q.1,m.1]
 have aj:Fn f z g d .ellipsis:=y.extBut _ _ D.TOz.symm (B.extBut _ _ D.i2z.symm (p.extBut _ _ D.TOz.symm (q.extBut _ _ D.i1z.symm N)));have kp:∀c o,c≠z->c≠d->c≠j->c≠i->s.heap.get? c=AA o->f.get? c=AA o:=λc o h C K J e=>y.extBut _ _ C (B.extBut _ _ J (p.extBut _ _ C (q.extBut _ _ K (m.extBut _ _ h e))));have b1:f.IsTupleIter j t (n+1):=((b2.extBut p.extBut D.TOi1.symm).extBut B.extBut D.i12).extBut y.extBut D.TOi1.symm;have bs:f.IsListIter i l (n+1):=b0.extBut y.extBut D.TOi2.symm;have V:z<f.objs.size:=BG aj;show AM _ _ (WV (.ref z) (.ref f.objs.size)>>=_) _ _ _;refine AT ?_;unfold WV;have bm:Fn (f.push {cls:=.type "tuple",data:=.seq #[v,u]}) z g d .ellipsis:=BQ _ aj;refine AT (Ml bm (by simp) λa6 M S=>?_);replace M:Fn a6 z g d (GX f.objs.size):=M;refine Ml M (by simp) λr G R=>?_;replace G:Fn r z g d (GX f.objs.size):=G;have up:∀c o,c≠z->f.get? c=AA o->r.get? c=AA o:=λc o h e=>R.extBut _ _ h (S.extBut _ _ h (BQ _ e));have an:Ea r f.objs.size v u:=R.extBut _ _ (IW V) (S.extBut _ _ (IW V) (Dq _ rfl));have X:r.objs.size=f.objs.size+1:=by erw[R.1,S.1,FI]
 rw[Y]at G an X;refine BM (_,rfl,?_);show Q (.ref f.objs.size) _;erw[Y];have(ab,a1,a3):=b1;exact k r G (up _ _ D.TOz H) (ab,up _ ab D.i1z a1,a3) (bs.at λo e=>up _ o D.i2z e) an X λc o h C K J e=>up c o h (kp c o h C K J e)
def rF{E:AI->AO->Prop}(J:A.handled=AB)(D:LR z f d g p t l)(Z:Fn s.heap z f d .none)(I:Ea s.heap f (.ref g) (.ref p))(O:Ea s.heap d a b)(L:s.heap.IsTupleIter g t n)(T:s.heap.IsTuple t vs)(G:vs[n]? =AB)(k:∀h' e,(∀c o,c≠z->c≠d->c≠g->c≠p->s.heap.get? c=AA o->h'.get? c=AA o)->(∃o,h'.get? e=AA o/\o.cls=.type "StopIteration")->E (.ref e) {s with heap:=h'}):
  AM (AU prog w) A (Builtin.«zip.__next__» ([.ref z],[])) Q E s:=by
 show AM _ _ (field (.ref z) 2>>=_) _ _ _;refine AT (G7 Z rfl (x:=.bool AF) rfl ?_);show AM _ _ (field (.ref z) 3>>=_) _ _ _;refine AT (G7 Z rfl (x:=.ref f) rfl ?_);refine AT (IP I rfl ?_);show AM _ _ (Oj (.ref z)>>=_) _ _ _;refine AT ?_;unfold Oj;refine AT (G7 Z rfl (x:=.none) rfl (BM ?_));simp only[BP];refine AT (Mm (AT (G7 Z rfl (x:=.ref d) rfl ?_)));refine AT (Ml Z (by simp) λg1 i j=>?_);replace i:Fn g1 z f d .ellipsis:=i;refine AT ?_;simp only[Sd,List.zipIdx_nil,Sl,PM];refine AT (AT (Rw ?_));show AM _ _ (Ke (.ref g)>>=_) _ _ _;refine AT (yD J (L.extBut j.extBut D.i1z) (T.extBut j.extBut D.l1z) G λg2 e y H=>?_);have(B,h,r):=H;have u:Fn g2 z f d .ellipsis:=y _ _ D.i1z.symm i;have K:e≠z:=λq=>by rw[q,u]at h;cases h;simp at r
 exact Ml u (by simp) λg3 _ v=>k g3 e (λc o m _ C _ q=>v.extBut _ _ m (y _ _ C (j.extBut _ _ m q))) (B,v.extBut _ _ K h,r)
def wK{Q:Option AI->AO->Prop}(D:LR z g d f e t l)(Z:Fn s.heap z g d .none)(I:Ea s.heap g (.ref f) (.ref e))(O:Ea s.heap d a b)(G:s.heap.IsTupleIter f t n)(C:s.heap.IsListIter e l n)(T:s.heap.IsTuple t vs)(L:s.heap.IsList l us)(y:vs[n]? =AA v)(B:us[n]? =AA u)(k:∀h',Fn h' z g d (GX s⁻¹)->Ea h' d v u->h'.IsTupleIter f t (n+1)->h'.IsListIter e l (n+1)->Ea h' s⁻¹ v u->h'.objs.size=s⁻¹+1->
   (∀c o,c≠z->c≠d->c≠f->c≠e->s.heap.get? c=AA o->h'.get? c=AA o)->Q (AA (.ref s⁻¹)) {s with heap:=h'}):AM (AU prog w) A (Hd (.ref z)) Q E s:=by
 have h:s.TypeIs (.ref z) "zip":=(_,Z,rfl);unfold Hd;refine AT (wpAny_attempt (OM (name:=KW "__next__") h Od (Mo Od h F.entry_zip_next ?_ (F.args_zip_next_1 _))));exact rE D Z I O G C T L y B λh' x r q p m j i=>BM (k h' x r q p m j i)
def wJ{Q:Option AI->AO->Prop}(q:A.handled=AB)(D:LR z h d f i t l)(Z:Fn s.heap z h d .none)(I:Ea s.heap h (.ref f) (.ref i))(O:Ea s.heap d a b)(v:s.heap.IsTupleIter f t n)(T:s.heap.IsTuple t vs)(m:vs[n]? =AB)(k:∀h',(∀c o,c≠z->c≠d->c≠f->c≠i->s.heap.get? c=AA o->h'.get? c=AA o)->Q AB {s with heap:=h'}):AM (AU prog w) A (Hd (.ref z)) Q E s:=by
 have g:s.TypeIs (.ref z) "zip":=(_,Z,rfl);unfold Hd;refine AT (wpAny_attempt (OM (name:=KW "__next__") g Od (Mo Od g F.entry_zip_next (rF q D Z I O v T m λh' e kp p=>?_) (F.args_zip_next_1 _))));have(j,u,r):=p;exact AT (wpAny_isInstance (T:="StopIteration") (b:=AC) (j,u,r) isSubtype_stop (BM (k _ kp)))
abbrev NO(h:BI)(t:AD):BI:=h.push {cls:=.type "tuple_iterator",data:=.fields #[.ref t,.int 0 0]}
abbrev NN(h:BI)(t l:AD):BI:=(NO h t).push {cls:=.type "list_iterator",data:=.fields #[.ref l,.int 0 0]}
abbrev NM(h:BI)(t l:AD):BI:=(NN h t l).push {cls:=.type "tuple",data:=.seq #[.ref h.objs.size,.ref (NO h t).objs.size]}
abbrev NK(h:BI)(t l:AD):BI:=(NM h t l).push {cls:=.type "tuple",data:=.seq #[.none,.none]}
abbrev Ko(h:BI)(t l:AD):BI:=(NK h t l).push {cls:=.type "zip",data:=.fields #[.none,.bool AF,.bool AF,.ref (NN h t l).objs.size,.ref (NM h t l).objs.size]}
def rD(t l:AD)(vs us:Array AI):Meets (Builtin.«zip.__new__» ([.type "zip",.ref t,.ref l],[])) (λ_ R s=>s.heap.IsTuple t vs/\s.heap.IsList l us/\R (.ok (.ret (.ref (NK s.heap t l).objs.size))) {s with heap:=Ko s.heap t l}):=
 .of_wp λprog w A R s h=>by
  have(a,b,c,tk,os):=s;have(d,hL,h):=h;have g:=sub_zip;have f:Heap.IsTuple (Shared.heap (a,b,c,tk,os)) t vs:=d;have e:Heap.IsList (Shared.heap (a.push {cls:=.type "tuple_iterator",data:=.fields #[.ref t,.int 0 0]},b,c,tk,os)) l us:=Heap.IsList.push hL _
  wp_walk using wpAny_pyIter_tuple f,Mn e
  exact(_,rfl,h)
def yu{Q:AI->AO->Prop}(m:s.heap.IsTuple t vs)(hL:s.heap.IsList l us)(k:∀h',Fn h' (s⁻¹+4) (s⁻¹+2) (s⁻¹+3) .none->Ea h' (s⁻¹+2) (.ref s⁻¹) (.ref (s⁻¹+1))->Ea h' (s⁻¹+3) .none .none->
   h'.IsTupleIter s⁻¹ t 0->h'.IsListIter (s⁻¹+1) l 0->(∀c o,s.heap.get? c=AA o->h'.get? c=AA o)->Q (.ref (s⁻¹+4)) {s with heap:=h'}):
  AM (AU prog w) A (call (.type "zip") [.ref t,.ref l]) Q E s:=by
 have d:(NO s.heap t).objs.size=s⁻¹+1:=FI ..;have b:(NN s.heap t l).objs.size=s⁻¹+2:=by erw[FI,d]
 have a:(NM s.heap t l).objs.size=s⁻¹+3:=by erw[FI,b]
 have f:(NK s.heap t l).objs.size=s⁻¹+4:=by erw[FI,a]
 have e:(Ko s.heap t l).get? (NK s.heap t l).objs.size=AA _:=Dq _ rfl;have g:(Ko s.heap t l).get? (NM s.heap t l).objs.size=AA _:=BQ _ (Dq _ rfl);have h:(Ko s.heap t l).get? (NN s.heap t l).objs.size=AA _:=BQ _ (BQ _ (Dq _ rfl));have i:(Ko s.heap t l).get? (NO s.heap t).objs.size=AA _:=BQ _ (BQ _ (BQ _ (Dq _ rfl)));have j:(Ko s.heap t l).get? s⁻¹=AA _:=BQ _ (BQ _ (BQ _ (BQ _ (Dq _ rfl))));refine callType_new F.called_zip (by decide) (F.typeCall_zip_2 _ _) (F.newCall_zip_2 _ _) (λobj=>F.args_object_init_3 obj _ _) F.entry_zip_new (rD t l vs us) (m,hL,?_);show _/\_;rw[b,a,f]at e;rw[d,b]at h;rw[a]at g;rw[d]at i;erw[f];exact((_,e,rfl),k _ e h g (_,j,rfl,rfl) (_,i,rfl,rfl) λc o q=>BQ _ (BQ _ (BQ _ (BQ _ (BQ _ q)))))
end PySem
end
section
namespace RW
open PySem PySem.Spec PyProof.Rows L2 L3
def oN{K:Ao}(h:X.K=K)(g:PE X a d)(f:PE X b c)(e:IT .In b=AF:=by with_unfolding_all rfl):PE X (.Compare a [.In] [b] pos) (BU (QX K AF) d c):=by
 subst h;exact eQ oW g f e
def oA{K:Ao}(h:X.K=K)(g:PE X a d)(f:PE X b c)(e:IT .In b=AF:=by with_unfolding_all rfl):PT X (.Compare a [.In] [b] pos) (Bp (BU (QX K AF) d c)):=by
 subst h;exact aW oW g f e
def jI{f:Nat->Option V}{i:Nat}:(Ai (i+1)).filterMap f=(Ai i).filterMap f ++ (match f i with |some y=>[y] |none=>[]):=by
 erw[Jn,So];cases e:f i<;>simp[Ho,e]
def xp{f:Nat->Option V}{i:Nat}:((Ai i).filterMap f).length<=i:=by
 have:=Wu f (Ai i);rw[DS]at this;exact this
def Jy(g:TG)(j:TT)(k:TE)(vs:List Nat)(e:L2.St)(x:V)(d:Hp)(o:Option V):Prop:=
 ∀(f:V->Hp->Prop) (h:Hp->Prop),(∀y i,o=AA y->AH d i->f y i)->(∀a,o=AB->AH d a->h a)->
  g x (wipe e vs) d λc l=>wipe c vs=wipe e vs/\j c l λb a=>if b=AC then k c a f else h a
def gz{T:It}{c:Hp}{w:Hp->Prop}(f:Nat->Option V)(v:c D=AB)(J:n<=Ae)(L:∀i H,AH c H->i<n->T.go i H)(G:∀H,AH c H->T.stop n H)(I:∀i H x a,AH c H->i<n->T.EK i H x a->AH H a/\Jy g z A vs s x a (f i))(M:∀H,AH c H->H D=AA (.lst ((Ai n).filterMap f))->w H):
  ∃W:Nat->Nat->Hp->Prop,(∃m,W 0 m (L2.upd c D (.lst [])))/\∀i m H,W i m H->
   (T.stop i H/\w H)\/(T.go i H/\∃p:Hp->Prop,(∀a,p a->∃m',m'<m/\W (i+1) m' a)/\∀x a,T.EK i H x a->g x (wipe s vs) a λk Q=>wipe k vs=wipe s vs/\z k Q λb r=>
    if b=AC then A k r λy q=>∃acc,q D=AA (.lst acc)/\acc.length<Ae/\p (L2.upd q D (.lst (acc ++ [y])))else p r):=by
 refine(λi m H=>m=n - i/\i<=n/\AH c H/\H D=AA (.lst ((Ai i).filterMap f)),(n,by simp,DR _,AH.upd v,aB),?_);rintro i m H ⟨rfl,R,d,l⟩;by_cases j:i<n;refine .inr (L i H d j,λa=>AH c a/\a D=AA (.lst ((Ai (i+1)).filterMap f)),λa B=>(n - (i+1),by lia,rfl,j,B),λx a C=>?_);have(h,E):=I i H x a d j C;refine E _ _ (λy q N t=>(_,t _ _ (h _ _ l),Wj xp (E5 j J),λb o e=>?_,?_)) (λr O u=>(d.trans (h.trans u),?_));erw[aC (aT e v)];exact t _ _ (h _ _ (d _ _ e));erw[aB,jI,N];erw[u _ _ (h _ _ l),jI,O,BF];have e:i=n:=by lia
 subst e;exact .inl (G H d,M H d l)
def eM{d:Hp}{q:Hp->Prop}{K:Ao}(f:Nat->Option V)(B:d D=AB)(k:d a=AA (.lst xs))(z:xs.length<=Ae)(w:∀i x H,xs[i]? =AA x->AH d H->Jy g u v vs n x H (f i))(A:∀H,AH d H->H D=AA (.lst ((Ai xs.length).filterMap f))->q H):
  ∃W:Nat->Nat->Hp->Prop,(∃m,W 0 m (L2.upd d D (.lst [])))/\∀i m H,W i m H->
   ((HW K a).stop i H/\q H)\/((HW K a).go i H/\∃l:Hp->Prop,(∀c,l c->∃m',m'<m/\W (i+1) m' c)/\∀x c,(HW K a).EK i H x c->g x (wipe n vs) c λh C=>wipe h vs=wipe n vs/\u h C λb t=>
    if b=AC then v h t λy r=>∃acc,r D=AA (.lst acc)/\acc.length<Ae/\l (L2.upd r D (.lst (acc ++ [y])))else l t):=by
 refine gz f B z (λi H s p=>(xs,xs[i],AN.of (s _ _ k),by simp[p])) (λH s=>(xs,AN.of (s _ _ k),Au _)) (λi H x c s p j=>?_) A;obtain⟨rfl,j⟩:=j;exact(λb o e=>e,w i x c (j xs (AN.of (s _ _ k))) s)
def pC{c:Hp}{l:Hp->Prop}(f:Nat->Option V)(A:c D=AB)(w:n<=Ae)(v:∀i H,i<n->AH c H->Jy g r t vs k (nV i) H (f i))(z:∀H,AH c H->H D=AA (.lst ((Ai n).filterMap f))->l H):
  ∃W:Nat->Nat->Hp->Prop,(∃m,W 0 m (L2.upd c D (.lst [])))/\∀i m H,W i m H->
   ((Ge 0 n).stop i H/\l H)\/((Ge 0 n).go i H/\∃j:Hp->Prop,(∀a,j a->∃m',m'<m/\W (i+1) m' a)/\∀x a,(Ge 0 n).EK i H x a->g x (wipe k vs) a λd E=>wipe d vs=wipe k vs/\r d E λb q=>
    if b=AC then t d q λy p=>∃acc,p D=AA (.lst acc)/\acc.length<Ae/\j (L2.upd p D (.lst (acc ++ [y])))else j q):=by
 refine gz f A w (λi H s h=>h) (λH s=>Au _) (λi H x a s h u=>?_) z;have(C,B):=u;subst C B;refine(λb o e=>e,?_);have:=v i _ h s;erw[show ((0:Int) + (i:Int))=(i:Int) by lia];exact this
def pD{d:Hp}{o:Hp->Prop}(f:Nat->Option V)(C:d D=AB)(h:d a=AA (.lst xs))(z:xs.length<=Ae)(w:∀i x T H,xs[i]? =AA x->AH d H->H T=AA (.tup [nV i,x])->Jy g t u vs k (.ref T) H (f i))(A:∀H,AH d H->H D=AA (.lst ((Ai xs.length).filterMap f))->o H):
  ∃W:Nat->Nat->Hp->Prop,(∃m,W 0 m (L2.upd d D (.lst [])))/\∀i m H,W i m H->
   ((HX p a).stop i H/\o H)\/((HX p a).go i H/\∃j:Hp->Prop,(∀c,j c->∃m',m'<m/\W (i+1) m' c)/\∀x c,(HX p a).EK i H x c->g x (wipe k vs) c λe E=>wipe e vs=wipe k vs/\t e E λb r=>
    if b=AC then u e r λy q=>∃acc,q D=AA (.lst acc)/\acc.length<Ae/\j (L2.upd q D (.lst (acc ++ [y])))else j r):=by
 refine gz f C z (λi H s n=>(xs,xs[i],AN.of (s _ _ h),by simp[n])) (λH s=>(xs,AN.of (s _ _ h),Au _)) (λi H x c s n v=>?_) A;obtain⟨T,x,rfl,B,rfl,y⟩:=v;have l:AH H (L2.upd H T (.tup [.int (i:Nat),x])):=AH.upd B;exact(l,w i x T _ (y xs (AN.of (s _ _ h))) (s.trans l) aB)
def xB{h:Hp}{u:Hp->Prop}(f:Nat->Option V)(G:h D=AB)(r:h d=AA (.BA l (.dK c)))(C:c.length<=Ae)(B:∀i k x H,c[i]? =AA (AE k x)->AH h H->Jy g z A vs q x H (f i))(E:∀H,AH h H->H D=AA (.lst ((Ai c.length).filterMap f))->u H):
  ∃W:Nat->Nat->Hp->Prop,(∃m,W 0 m (L2.upd h D (.lst [])))/\∀i m H,W i m H->
   ((JU d l c).stop i H/\u H)\/((JU d l c).go i H/\∃p:Hp->Prop,(∀a,p a->∃m',m'<m/\W (i+1) m' a)/\∀x a,(JU d l c).EK i H x a->g x (wipe q vs) a λj I=>wipe j vs=wipe q vs/\z j I λb w=>
    if b=AC then A j w λy v=>∃acc,v D=AA (.lst acc)/\acc.length<Ae/\p (L2.upd v D (.lst (acc ++ [y])))else p w):=by
 refine gz f G C (λi H s t=>(s _ _ r,t)) (λH s=>(s _ _ r,Au _)) (λi H x a s t n=>?_) E;obtain⟨rfl,k,n⟩:=n;exact(λb o e=>e,B i k x a n s)
def xC{e:Hp}{t:Hp->Prop}(f:Nat->Option V)(I:e D=AB)(q:e d=AA (.BA j (.dK a)))(C:a.length<=Ae)(B:∀i k x T H,a[i]? =AA (AE k x)->AH e H->H T=AA (.tup [kV k,x])->Jy g z A vs o (.ref T) H (f i))(E:∀H,AH e H->H D=AA (.lst ((Ai a.length).filterMap f))->t H):
  ∃W:Nat->Nat->Hp->Prop,(∃m,W 0 m (L2.upd e D (.lst [])))/\∀i m H,W i m H->
   ((JT d j a).stop i H/\t H)\/((JT d j a).go i H/\∃n:Hp->Prop,(∀c,n c->∃m',m'<m/\W (i+1) m' c)/\∀x c,(JT d j a).EK i H x c->g x (wipe o vs) c λh J=>wipe h vs=wipe o vs/\z h J λb w=>
    if b=AC then A h w λy u=>∃acc,u D=AA (.lst acc)/\acc.length<Ae/\n (L2.upd u D (.lst (acc ++ [y])))else n w):=by
 refine gz f I C (λi H s r=>(s _ _ q,r)) (λH s=>(s _ _ q,Au _)) (λi H x c s r l=>?_) E;obtain⟨T,k,v,l,rfl,G,rfl⟩:=l;have p:AH H (L2.upd H T (.tup [kV k,v])):=AH.upd G;exact(p,B i k v T _ l (s.trans p) aB)
def pq{d:AD}{f:Obj}{b:List (Key×V)}{g:TG}{n:TS}{D:Ends}{a:L2.St}{H:Hp}(Pv:Nat->L2.St->Hp->Prop)(y:Pv 0 a H)(u:∀i a H,Pv i a H->H d=AA (.BA f (.dK b)))
  (t:∀i k x T a H,b[i]? =AA (AE k x)->Pv i a H->H T=AB->g (.ref T) a (L2.upd H T (.tup [kV k,x])) λh l=>n {D with nx:=Pv (i+1),ct:=Pv (i+1),bk:=D.nx} h l)(hd:∀a H,Pv b.length a H->D.nx a H):
  ∃W:Nat->Nat->L2.St->Hp->Prop,(∃m,W 0 m a H)/\∀i m a H,W i m a H->
   ((JT d f b).stop i H/\D.nx a H)\/((JT d f b).go i H/\∃N:L2.St->Hp->Prop,(∀j c,N j c->∃m',m'<m/\W (i+1) m' j c)/\∀x c,(JT d f b).EK i H x c->g x a c λh l=>n {D with nx:=N,ct:=N,bk:=D.nx} h l):=by
 refine(λi m a H=>m=b.length - i/\i<=b.length/\Pv i a H,(b.length,by simp,DR _,y),?_);rintro i m a H ⟨rfl,z,p⟩;have q:=u i a H p;by_cases o:i<b.length;refine .inr ((q,o),Pv (i+1),λj c r=>(b.length - (i+1),by lia,rfl,o,r),?_);rintro v c ⟨T,k,x,s,rfl,w,rfl⟩;exact t i k x T a H s p w;have e:i=b.length:=by lia
 subst e;exact .inl ((q,Au _),hd a H p)
def xk{d:AD}{f:Obj}{b:List (Key×V)}{g:TG}{n:TS}{D:Ends}{a:L2.St}{H:Hp}(Pv:Nat->L2.St->Hp->Prop)(v:Pv 0 a H)(u:∀i a H,Pv i a H->H d=AA (.BA f (.dK b)))
  (t:∀i k x a H,b[i]? =AA (AE k x)->Pv i a H->g x a H λh l=>n {D with nx:=Pv (i+1),ct:=Pv (i+1),bk:=D.nx} h l)(hd:∀a H,Pv b.length a H->D.nx a H):
  ∃W:Nat->Nat->L2.St->Hp->Prop,(∃m,W 0 m a H)/\∀i m a H,W i m a H->
   ((JU d f b).stop i H/\D.nx a H)\/((JU d f b).go i H/\∃N:L2.St->Hp->Prop,(∀j c,N j c->∃m',m'<m/\W (i+1) m' j c)/\∀x c,(JU d f b).EK i H x c->g x a c λh l=>n {D with nx:=N,ct:=N,bk:=D.nx} h l):=by
 refine(λi m a H=>m=b.length - i/\i<=b.length/\Pv i a H,(b.length,by simp,DR _,v),?_);rintro i m a H ⟨rfl,w,p⟩;have q:=u i a H p;by_cases o:i<b.length;refine .inr ((q,o),Pv (i+1),λj c r=>(b.length - (i+1),by lia,rfl,o,r),?_);rintro x c ⟨rfl,k,s⟩;exact t i k x a _ s p;have e:i=b.length:=by lia
 subst e;exact .inl ((q,Au _),hd a H p)
def eX{a:Type}{xs:List a}{f:Nat->Option V}{F:a->V}(h:∀i x,xs[i]? =AA x->f i=AA (F x)):(Ai xs.length).filterMap f=xs.map F:=by
 have:∀n,n<=xs.length->(Ai n).filterMap f=(xs.take n).map F:=by
  intro n;induction n with
  |zero=>intro _;simp
  |succ n b=>
   intro c;have e:xs[n]? =AA xs[n]:=AX c;erw[jI,b (),h n _ e,Iz,e,Dd];rfl
 erw[this _ (Au _),EI]
def gG{a:Type}{xs:List a}{f:Nat->Option V}{p:a->Bool}{F:a->V}(h:∀i x,xs[i]? =AA x->f i=if p x=AC then AA (F x)else AB):(Ai xs.length).filterMap f=(xs.filter p).map F:=by
 have:∀n,n<=xs.length->(Ai n).filterMap f=((xs.take n).filter p).map F:=by
  intro n;induction n with
  |zero=>intro _;simp
  |succ n b=>
   intro c;have e:xs[n]? =AA xs[n]:=AX c;erw[jI,b (),h n _ e,Iz,e,Hn,Dd]
   congr 1
   show _=((([xs[n]]:List a).filter p).map F);by_cases q:p xs[n]=AC;erw[AJ q,Ec,AJ q];rfl;erw[AK q,Ec,AK q];rfl
 erw[this _ (Au _),EI]
end RW
end
section
namespace PySem
open _root_.PySem.Sem (wp)
def wn:Mq (.type "list_reverseiterator") "__len__"=pure AB:=by erw[typeLookup_type,V0];kernel_rfl
def wo:Mq (.type "list_reverseiterator") "__length_hint__"=pure (AA (.builtin "list_reverseiterator.__length_hint__")):=by erw[typeLookup_type,V0];kernel_rfl
def rJ{Q:Bool->AO->Prop}(hit:s.heap.IsRevIter it l i)(h:Q AF s):AM (AU prog w) A (WX (.ref it)) Q E s:=by
 unfold WX;refine AT (Mj hit.typeIs wn ?_);show AM _ _ (specialOf (Bf it) (KW "__length_hint__")>>=_) _ _ _;refine AT (Mj hit.typeIs wo ?_);generalize c:("list_reverseiterator.__length_hint__":String)=d
 wp_delta
 erw[show splitId d=AA (AE ("list_reverseiterator") ("__length_hint__")) from by subst c;decide +kernel];subst c;refine AT (wpAny_isInstance (T:="list_reverseiterator") (b:=AC) hit.typeIs (by erw[isSubtype_type];kernel_rfl) ?_);refine OK (λa=>absurd a (by decide)) (λ_=>?_);refine OK (λ_=>?_) (λa=>absurd (by decide +kernel) a);exact OK (λa=>absurd a (by decide +kernel)) (λ_=>BM h)
def rK{R:Result->AO->Prop}(q:A.handled=AB)(hit:s.heap.IsRevIter it l ((items.size:Int) - 1))(p:s.heap.IsList l items)(m:l≠it)(n:items.size<=Ae)(S:AD)(res:AI)(k:Nat)(C:s.heap.get? S=AA {cls:=.type "list",data:=.seq #[] k})(j:S≠it)(y:S≠l)(D:∀h' tk g d,(∀b o,b≠S->b≠it->s.heap.get? b=AA o->h'.get? b=AA o)->h'.get? S=AA {cls:=.type "list",dict:=AB,data:=.seq g d,slots:= #[]}->
   ItemsOf (λi v=>items[items.size - 1 - i]? =AA v) g items.size->R (.ok (.ret res)) {s with heap:=h',toks:=tk}):
  AM (AU prog w) A.in1 (Om (.ref S) (.ref it) res)
   (λfin a=>match fin with | .done f=>R (.ok f) a| .again d=>d.quiet=AC/\IS (AU prog w) A d R a) (λe a=>R (.error e) a) s:=by
 have z:S∉[it,l]:=λc=>by
  rcases Aj.mp c with e|c;exact j e;exact y (Av.mp c)
 have W:=(Walks.listRev (prog:=prog) (w:=w) (A:=A.in1) q it l m items).toS;unfold Om;refine AT (Mh (T:="list_reverseiterator") hit.typeIs ?_);have H:WW (.ref S) (.ref it)=AF:=by simp[WW,j]
 have G:(KU "list_reverseiterator"==KU "list")=AF:=by decide
 have E:(KU "list_reverseiterator"==KU "tuple")=AF:=by decide
 simp only[H,G,E,Bool.or_false,B4,BY];refine AT (wpAny_pyIter_revIter hit ?_);refine AT (Jc (rJ hit ?_));refine OK (λx=>absurd x (by decide)) (λ_=>?_);refine BM (KO F.plain_extend_loop _,codeAny_extend_loopS W n S z res items.size 0 _ #[] k rfl (DR _) (DR _,?_,p) C (ItemsOf.nil _) λa g d c B u=>?_);have e:(items.size:Int) - 1 - ((0:Nat):Int)=(items.size:Int) - 1:=by lia
 erw[e];exact hit;erw[Moved.eq_with c];refine D a.heap a.toks g d (λb o t r e=>c.heap b o (λh=>?_) e) B u;rcases Aj.mp h with I|h;exact t I;exact r (Av.mp h)
def yl{Q:AI->AO->Prop}(t:A.handled=AB)(hit:s.heap.IsRevIter it l ((items.size:Int) - 1))(j:s.heap.IsList l items)(m:l≠it)(p:items.size<=Ae)(B:∀h' tk c g,(∀b o,b≠it->s.heap.get? b=AA o->h'.get? b=AA o)->
   h'.get? s⁻¹=AA {cls:=.type "list",dict:=AB,data:=.seq c g,slots:= #[]}->ItemsOf (λi v=>items[items.size - 1 - i]? =AA v) c items.size->Q (.ref s⁻¹) {s with heap:=h',toks:=tk}):
  AM (AU prog w) A (call (.type "list") [.ref it]) Q E s:=by
 refine R0 (Q₁:=λobj h=>obj=.ref s⁻¹/\h={s with heap:=s.heap.push {cls:=.type "list",data:=.seq #[]}}) F.called_list (F.typeCall_list_1 _) F.entry_list_init
  (code_list_new _ (rfl,rfl)) λobj h k=>?_;obtain⟨rfl,rfl⟩:=k;have a:(s.heap.push {cls:=.type "list",data:=.seq #[]}).get? s⁻¹=AA {cls:=.type "list",data:=.seq #[]}:=Dq _ rfl;have r:it<s⁻¹:=by have(o,f,_):=hit;exact BG f
 have n:l<s⁻¹:=by have(o,f,_):=j;exact BG f
 refine((_,a,rfl),F.args_list_init_2 _ _,?_);show AM _ _ (do let old <-WY (.ref s⁻¹);Builtin.List.listUpdate (.ref s⁻¹) (λ_=> #[]);letGo old.toList.reverse;Om (.ref s⁻¹) (.ref it) .none) _ _ _;refine AT ?_;unfold WY;refine AT (IP a rfl (BM ?_));show AM _ _ (updateSeq s⁻¹ (λ_=> #[])>>=λ_=>letGo (#[]:Array AI).toList.reverse>>=λ_=>Om (.ref s⁻¹) (.ref it) .none) _ _ _;refine AT (wpAny_updateSeq a rfl ?_);have y:=SI (KZ (λ_=>(#[]:Array AI))) a rfl;have d:∀b o,s.heap.get? b=AA o->((s.heap.push {cls:=.type "list",data:=.seq #[]}).update s⁻¹ (KZ (λ_=>(#[]:Array AI)))).get? b=AA o:=
  λb o e=>(SJ _ _ (Fp (DU (BG e)))).trans (BQ _ e);refine AT (wpAny_letGo ?_);refine rK (A:=A.in1) t (hit.at λo e=>d _ _ e) (j.at λo e=>d _ _ e) m p _ .none _ y (Fp (DU r)) (Fp (DU n)) λh' tk c g q z x=>?_;exact(rfl,B h' tk c g (λb o u e=>q b o (DU (BG e)) u (d b o e)) z x)
end PySem
namespace RW
open PySem PySem.Spec PyProof.Rows L2 L3
def dN{b a:Type}{xs:List b}{F:b->a}{i:Nat}{v:a}(h:(xs.map F)[i]? =AA v):∃x,xs[i]? =AA x/\v=F x:=by
 rw[BC]at h;cases q:xs[i]? with
 |none=>rw[q]at h;cases h
 |some x=>rw[q]at h;exact(x,rfl,(Ap h).symm)
def gJ{a:Type}(xs:List a):FE xs (-1)=xs.getLast? :=by
 unfold FE Gb;erw[AK ()];by_cases h:xs.length=0;have:xs=[]:=Wv.mp h;subst this;rfl;erw[AJ (),PD];show xs[((-1:Int) + (xs.length:Int)).toNat]? =_
 congr 1
 lia
def mT:∀{xs:List V} {us:List AI},Vals xs us->Vals xs.reverse us.reverse
 | _,_,.nil=> .nil
 | _,_,.cons r t=>by
  erw[Wl,Wl];exact Vals.append (mT t) (.cons r .nil)
def rT(r:Vals xs its)(h:ItemsOf (λi v=>its.toArray[its.toArray.size - 1 - i]? =AA v) acc its.toArray.size):Vals xs.reverse acc.toList:=by
 have e:acc.toList=its.reverse:=by
  have(f,b):=h;have g:acc.size=its.length:=by erw[f];exact Dk
  rw[show its.toArray.size=its.length from Dk]at b;apply Sr;intro j;by_cases d:j<its.length;have c:j<acc.size:=by lia
  have a:acc[j]? =AA acc[j]:=Sz c;have:its.toArray[its.length - 1 - j]? =AA acc[j]:=b j _ a;rw[List.getElem?_toArray]at this;erw[Wz d,this,XE,a];erw[HD (by erw[JE];lia),HD (by erw[NA];lia)]
 erw[e];exact mT r
def XN(c:TE):TE:=λb H Q=>c b H λv a=>∃p xs,v=.ref p/\a p=AA (.lst xs)/\∀l,a l=AB->Q (.ref l) (L2.upd a l (.lst xs.reverse))
def oM(B:X.mg "list"=AB)(A:X.mg "reversed"=AB)(J:PE X e t)(L:X.calm=AC:=by rfl)(G:Gl X "list":=by rfl)(E:Gl X "reversed":=by rfl)(k:BE [Oi (.Name "reversed" i) [e] [] g] X.env=[(AE AF (E3 (Oi (.Name "reversed" i) [e] [] g) X.env))]:=by rfl)(j:BE [e] X.env=[(AE AF (E3 e X.env))]:=by rfl):
  PE X (.Call (.Name "list" p) [.Call (.Name "reversed" i) [e] [] g] [] pos) (XN t):=by
 intro pins s n H Q I h;refine G8 (eK I G B boot_list ?_);refine Hk ?_ k rfl;erw[k];refine Kc ?_;refine G8 (eK I E A yy ?_);refine Hk ?_ j rfl;erw[j];refine Kc (aK (J pins s n H _ I h) λu a r=>?_);have(x,T,d,v,c,xs,ex,y,q):=r;subst ex;obtain rfl:u=Bf c:=v;refine Kb ?_;have(its,f,pl,w):=d.list (AN.of y);have S:=f.length;refine call_reversed_list pl.isList ?_;refine Kb ?_;have C:c<a⁻¹:=by have(o,z,_):=pl.isList;exact BG z
 refine yl (it:=a⁻¹) (l:=c) (items:=its.toArray) (d.ok.hd L) (_,Dq _ rfl,rfl,rfl) (pl.isList.at λo e=>BQ _ e) (DU C) (by simp only[Dk];lia) λh' tk R O D N M=>?_;have hsz:(a.heap.push (revObj c ((its.toArray.size:Int) - 1))).objs.size=a⁻¹+1:=FI ..;have kp:∀b u,a.heap.get? b=AA u->h'.get? b=AA u:=λb u e=>D b u (DU (BG e)) (BQ _ e);have m:a⁻¹<=(a.heap.push (revObj c ((its.toArray.size:Int) - 1))).objs.size:=by erw[hsz];exact Ox _
 refine(.ref (a.heap.push (revObj c ((its.toArray.size:Int) - 1))).objs.size,_,d.laid (t':=tk) kp m (show Dg X.prog X.w _ h' _ (.lst xs.reverse) from(by erw[NA];exact w,R.toList,O,rT f M,N)),rfl,q _ (d.hok.fresh m))
def TM(c:TE):TE:=λb H Q=>c b H λv a=>∃n:Nat,v=nV n/\n<=100000/\∀l,a l=AB->Q (.ref l) (L2.upd a l (.lst ((Ai n).map nV)))
end RW
end
section
namespace RW
open PySem PySem.Spec PyProof.Rows L2 L3
structure FD(P:ET)(w:Do)(K:Ao)(mg:Str->Option AI)(x:Str)(kvs:List (Key×V)):Prop where
 ex:∃a vs,mg x=AA (.ref a)/\(a==E2)=AF/\KV kvs vs/\∀h:BI,K.In h->h.DictOf (BJ P w) a vs
def XT(b:List (Key×V))(ty:TE):TE:=λa H Q=>ty a H λy c=>∃k v,y=kV k/\A9 b k=AA v/\Q v c
def TN(a:List (Key×V))(neg:Bool)(ty:TE):TE:=λb H Q=>ty b H λy c=>∃k,y=kV k/\Q (.bl (if neg then !(A9 a k).isSome else(A9 a k).isSome)) c
def gQ(D:FD X.prog X.w X.K X.mg x m)(t:PE X i ty)(q:RA i:=by exact λ_ _=>rfl)(u:Gl X x:=by rfl)(w:(x==("__debug__":Str))=AF:=by decide):PE X (.Subscript (.Name x p) i pos) (XT m ty):=by
 have(a,vs,r,G,rel,A):=D.ex;intro pins s d H Q I h;refine nG WK.lookup q (gT I u r ?_ w);refine aK (t pins s d H _ I h) λE f e=>?_;have(y,B,c,g,k,v,z,n,l):=e;subst z;have b:=A f.heap c.du;have(C,hw,j):=Ev.some_of (v:=v) (o:=Ir vs k) (by erw[<-n];exact rel.val k);exact(b.typeIs,wpAny_getItem_of (eV g) b.mapOf hw (v,B,c.tok _,j,l))
def t8(D:FD X.prog X.w X.K X.mg x c)(n:PE X i ty)(o:Gl X x:=by rfl)(q:(x==("__debug__":Str))=AF:=by decide):PC X .In i (.Name x p) (TN c AF ty):=by
 have(a,vs,m,l,rel,t):=D.ex;intro pins s d H Q I h;refine aK (n pins s d H _ I h) λw f e=>?_;have(y,v,b,g,k,r,j):=e;subst r;refine gT b o m ?_ q;have u:=t f.heap b.du;refine wpAny_in_of (eV g) l u.mapOf ?_;erw[<-(rel.val k).gB];exact(.bl (A9 c k).isSome,v,b.tok _,rfl,j)
def t6(D:FD X.prog X.w X.K X.mg x c)(n:PE X i ty)(o:Gl X x:=by rfl)(q:(x==("__debug__":Str))=AF:=by decide):PC X .NotIn i (.Name x p) (TN c AC ty):=by
 have(a,vs,m,l,rel,t):=D.ex;intro pins s d H Q I h;refine aK (n pins s d H _ I h) λw f e=>?_;have(y,v,b,g,k,r,j):=e;subst r;refine gT b o m ?_ q;have u:=t f.heap b.du;refine wpAny_notIn_of (eV g) l u.mapOf ?_;erw[<-(rel.val k).gB];exact(.bl (!(A9 c k).isSome),v,b.tok _,rfl,j)
def Xb(X:Cx)(k:Nat)(b:TE)(t:TA):TE:=λa H Q=>b a H λv c=>∃f fd ps sp,v=.ref f/\AV X.prog X.w X.K X.mg X.base AZ k f fd ps sp/\G9 X.K (.ref f)=AC/\Binds X.K fd ps []/\BX sp [] E0 t a c Q
def t4(n:PE X (.Name x p) i)(o:DX k X.A)(B:PA X (e::a) t)(z:BE (e::a) X.env=(AE AF (E3 e X.env))::BE a X.env:=by rfl)(w:(EG pos (BE a X.env)).any (·.1)=AF:=by rfl):
  PE X (.Call (.Name x p) (e::a) [] pos) (Xb X k i t):=by
 intro pins s b H Q I h;refine G8 (aK (n pins s b H _ I h) λu j g=>?_);have(v,D,d,l,f,fd,ps,sp,C,F,y,A,q):=g;subst C;obtain rfl:u=Bf f:=l;refine OZ (h₀:=X.base) d.ok.mod.Kz y (aK (B pos pins j b D _ d q) λus E (vs,G,c,r,m)=>(c.du,?_)) z w;exact jD F o A .nil gn c r m
def gm{K:Ao}(d:X.K=K)(b:PE X e a)(c:KQ e f X.env (E3 e X.env)=E3 e X.env):PE X (.Attribute e f pos) (Bs K a f):=by
 subst d;exact aH b c
def Qa(acc a:List (List Key×AD×AI)):List (List Key×AD×AI):=a.foldl (λacc q=>Je acc q.1 q.2.1 q.2.2) acc
def r8(acc:List (List Key×AD×AI))(k:List Key)(a:AD)(v:AI):(Je acc k a v).length<=acc.length+1:=by
 unfold Je;split;erw[AL];lia;simp
def r6{acc:List (List Key×AD×AI)}{k:List Key}{a:AD}{v:AI}{x:List Key×AD×AI}(h:x∈Je acc k a v):x.2.1=a\/∃y∈acc,y.2.1=x.2.1:=by
 unfold Je at h;split at h;have(y,b,e):=Du.mp h;refine .inr (y,b,?_);erw[<-e];unfold putAt;split<;>rfl;rcases Az.mp h with h|h;exact .inr (x,h,rfl);erw[Av.mp h];exact .inl rfl
def ia(x:(Ez (BJ prog w)).is h k a)(kp:∀o,h.get? a=AA o->h'.get? a=AA o):(Ez (BJ prog w)).is h' k a:=by
 have(o,its,n,e,r):=x;exact(o,its,n,kp o e,r)
def ji{h h':BI}(D:h.DictOfH (Ez (BJ prog w)) d xs)(c:∀o,h.get? d=AA o->h'.get? d=AA o)(b:∀x∈xs,∀o,h.get? x.2.1=AA o->h'.get? x.2.1=AA o):h'.DictOfH (Ez (BJ prog w)) d xs:=by
 have(o,e,f,m,l,k,j,i,g):=D;exact(o,e,f,c o m,l,k,j,λx a=>ia (i x a) (b x a),g)
def oz{R:Result->AO->Prop}(N:A.handled=AB)(G:A.units+1<ES)(L:l≠I)(p:S≠I)(M:S≠l):
  ∀(rest:List (List Key×AD×AI)) (i:Nat) (acc:List (List Key×AD×AI)) (g:Int) (t:Tok) (s:AO),items.size=i+rest.length->acc.length+rest.length<=Ae->(∀x∈acc,x.2.1≠I/\x.2.1≠S)->
   (∀(j:Nat) (q:List Key×AD×AI),rest[j]? =AA q->q.2.1≠S/\q.2.1≠I/\(Ez (BJ prog w)).is s.heap q.1 q.2.1/\∃b:AD,items[i+j]? =AA (.ref b)/\b≠S/\b≠I/\IsTup s.heap b #[.ref q.2.1,q.2.2])->
   s.heap.IsListIter I l i->s.heap.IsList l items->s.heap.DictOfH (Ez (BJ prog w)) S acc->
   (∀h' tk,h'.DictOfH (Ez (BJ prog w)) S (Qa acc rest)->(∀b o,b≠S->b≠I->s.heap.get? b=AA o->h'.get? b=AA o)->R (.ok (.ret res)) {s with heap:=h',toks:=tk})->
   IS (AU prog w) A (.builtin "dict.update.loop" ([.ref S,.ref I,.int g t,res],[])) R s
 | [],i,acc,g,t,s,hsz,J,m,u,hit,h,v,D=>by
  refine OU jA ?_;erw[Oo fM _];show AM _ A.in1 (Hd (.ref I)>>=_) _ _ s;refine AT (Rv (A:=A.in1) N hit h (XF (LY hsz)) λh' B=>?_);show AM _ A.in1 (Wb S []>>=_) _ _ _;refine AT (BM (BM (D h' s.toks (ji v (λo e=>B _ o p e) λx d o e=>B _ o (m x d).1 e) λb o _ C e=>B b o C e)))
 |q::rest,i,acc,g,t,s,hsz,J,m,u,hit,h,v,D=>by
  have(aj,E,av,b,C,b6,b1,a3):=u 0 q rfl;rw[AS]at hsz J;refine OU jA ?_;erw[Oo fM _];show AM _ A.in1 (Hd (.ref I)>>=_) _ _ s;refine AT (Ru (x:=.ref b) hit h (by simpa using C) λU bm a=>?_);have a4:IsTup U b #[.ref q.2.1,q.2.2]:=a3.extBut a.extBut b1;have bl:U.IsList l items:=h.extBut a.extBut L;have a6:=ji v (λo e=>a.extBut _ o p e) λx d o e=>a.extBut _ o (m x d).1 e;have an:=ia av λo e=>a.extBut _ o E e;have(o,H,b0,n,hd):=id a4;show AM _ A.in1 (GY [Bf b] _>>=_) _ _ _;refine AT (Jc (AT (wpAny_tryCatch ?_)));unfold Wa;refine AT (Mh (T:="tuple") (o,H,b0) ?_);erw[AJ (by first|decide|rfl|simp)];refine AT (IP H hd (BM ?_));show AM _ A.in1 (GY [.ref q.2.1,q.2.2] (dictSet S (.ref q.2.1) q.2.2)) _ _ _;refine Jc (wpAny_dictSet_heap (knd:=Ez (BJ prog w)) (k:=q.1) (LL G) an a6 (λb7 a5 f=>?_) ());refine BM (KO fM _,oz (items:=items) N G L p M rest (i+1) (Je acc q.1 q.2.1 q.2.2) (g+1) 0 _ (show items.size=i+1+rest.length by lia) ?_ (λx d=>?_) (λj a0 e=>?_) ?_ ?_ a5 λh' tk bs k=>?_);have z:=r8 acc q.1 q.2.1 q.2.2;lia;rcases r6 d with e| ⟨y,a2,e⟩;erw[e];exact(E,aj);erw[<-e];exact m y a2;have(ab,Z,b4,b5,b3,Y,X,b2):=u (j+1) a0 (by simpa using e);refine(ab,Z,ia (ia b4 λo z=>a.extBut _ o Z z) λo z=>f.extBut _ o ab z,b5,?_,Y,X,(b2.extBut a.extBut X).extBut f.extBut Y);erw[show i+1+j=i+ (j+1) by lia];exact b3;exact bm.at λa1 e=>f.extBut I a1 (Fp p) e;exact bl.extBut f.extBut (Fp M);exact D h' tk bs λc r Q O e=>k c r Q O (f.extBut c r Q (a.extBut c r O e))
def yo{Q:AI->AO->Prop}(G:A.handled=AB)(N:A.units+2<ES)(g:s.heap.get? l=AA ol)(i:ol.cls=.type "list")(Y:ol.dict=AB)(B:ol.data=.seq items n)(hsz:items.size=prs.length)(X:prs.length<=Ae)(O:∀(j:Nat) (q:List Key×AD×AI),prs[j]? =AA q->(Ez (BJ prog w)).is s.heap q.1 q.2.1/\∃b:AD,items[j]? =AA (.ref b)/\IsTup s.heap b #[.ref q.2.1,q.2.2])(k:∀h' tk,h'.DictOfH (Ez (BJ prog w)) s⁻¹ (Qa [] prs)->(∀b o,s.heap.get? b=AA o->h'.get? b=AA o)->Q (.ref s⁻¹) {s with heap:=h',toks:=tk}):
  AM (AU prog w) A (call (.type "dict") [.ref l]) Q E s:=by
 refine R0 (Q₁:=λobj m=>obj=.ref s⁻¹/\m={s with heap:=s.heap.push {cls:=.type "dict",data:=.dict #[]}}) WN (WM _) WP (kt_code_dict_new _ (rfl,rfl)) ?_;rintro obj m ⟨rfl,rfl⟩;have new:(s.heap.push {cls:=.type "dict",data:=.dict #[]}).DictOfH (Ez (BJ prog w)) s⁻¹ []:=Heap.DictOfH.new s.heap;have k0:∀b o,s.heap.get? b=AA o->(s.heap.push {cls:=.type "dict",data:=.dict #[]}).get? b=AA o:=λb o e=>BQ _ e;have C:Shared.TypeIs {s with heap:=s.heap.push {cls:=.type "dict",data:=.dict #[]}} (.ref s⁻¹) "dict":=Heap.DictOfH.typeIs (s:={s with heap:=s.heap.push {cls:=.type "dict",data:=.dict #[]}}) new;refine(C,WS _ _,?_);unfold Builtin.«dict.__init__»;refine AT ?_;unfold WZ;refine AT (Vw C ?_);show AM _ _ (pure (AE s⁻¹ [Bf l])) _ _ _;refine BM ?_;show AM _ _ (On "dict.__init__" s⁻¹ (.ref l) [] .none) _ _ _;unfold On;refine AT (Mh (T:="list") (ol,k0 _ _ g,i) ?_);erw[AJ (by first|decide|rfl|simp)];refine AT (oo (k0 _ _ g) i B Y G λd H h=>?_);erw[AJ (show (AB:Option AI).isNone=AC from rfl)];refine AT (Mm ?_);have y:d.IsList l items:=(ol,h _ _ (k0 _ _ g),i,n,B);have D:s⁻¹<d.objs.size:=by
  have(ab,_,_,U,_):=new;exact BG (h _ _ U)
 refine AT (Mn y ?_);have k2:∀b o,s.heap.get? b=AA o->(d.push {cls:=.type "list_iterator",data:=.fields #[.ref l,.int 0 0]}).get? b=AA o:=λb o e=>BQ _ (h _ _ (k0 _ _ e));have a:∀b o,s.heap.get? b=AA o->b≠s⁻¹/\b≠d.objs.size:=λb o e=>(DU (BG e),DU (Ki (BG e) D));have key:=oz (prog:=prog) (w:=w) (A:=A.in1) (R:=wants (λr J=>r=.none/\Q (.ref s⁻¹) J) E) (S:=s⁻¹) (I:=d.objs.size) (l:=l) (items:=items) (res:=Hf) G N (a _ _ g).2 (DU D) (a _ _ g).1.symm
  prs 0 [] 0 0 {s with heap:=d.push {cls:=.type "list_iterator",data:=.fields #[.ref l,.int 0 0]},toks:=H} (by erw[hsz,Gk]) (by erw[Am,Gk];exact X) (λx f=>by simp at f)
  (λj q e=>by
   have(t,b,L,p):=O j q e;have(aj,v,_):=id p;have(ok,its,an,u,_):=id t;exact((a _ _ u).1,(a _ _ u).2,ia t λo z=>k2 _ _ z,b,by erw[Gk];exact L,(a _ _ v).1,(a _ _ v).2,p.keeps λc o z=>k2 _ _ z))
  (_,Dq _ rfl,rfl,rfl) (y.at λo e=>BQ _ e) (ji (ji new (λo e=>h _ _ e) λx f=>by simp at f) (λo e=>BQ _ e) λx f=>by simp at f)
  (λh' tk Z M=>(rfl,k h' tk Z λb o e=>M b o (a _ _ e).1 (a _ _ e).2 (k2 _ _ e)))
 first
  |exact BM (KO fM _,key)
  |exact AT (BM (BM (KO fM _,key)))
def Gv(b:List (List Key×V))(a:List (List Key×AD)):List (List Key×V):=a.foldl (λacc q=>putK acc q.1 (.bl AC)) b
def KT.Gv{H:Hp}:∀(a:List (List Key×AD)) {b:List (List Key×V)} {xs:List (List Key×AD×AI)},(∀q∈a,H q.2=AA (.tup (q.1.map kV)))->KT H b xs->KT H (RW.Gv b a) (Qa xs (a.map λq=>(AE q.1 (AE q.2 (Hg AC)))))
 | [],_,_,_,r=>r
 |q::a,_,_,h,r=>KT.Gv a (λc d=>h c (Eb _ d)) (r.put q.1 (h q FK) (show RelV (.bl AC) (.bool AC) from rfl))
def oq:∀(b:List (List Key×AD)) (a:List (List Key×V)),(Gv a b).length<=a.length+b.length
 | [],a=>Au _
 |q::b,a=>by
  have d:=oq b (putK a q.1 (.bl AC));have c:=jZ a q.1 (.bl AC);show (Gv (putK a q.1 (.bl AC)) b).length<=a.length+ (b.length+1);lia
def VA:List V->Hp->VK->Prop:=λvs H Q=>∃(a:AD) (ps:List AD) (b:List (List Key×AD)),vs=[.ref a]/\H a=AA (.lst (ps.map V.ref))/\ps.length=b.length/\
 (∀(j:Nat) (p:AD) (q:List Key×AD),ps[j]? =AA p->b[j]? =AA q->H p=AA (.tup [.ref q.2,.bl AC])/\H q.2=AA (.tup (q.1.map kV)))/\∀d,H d=AB->Q (.ref d) (L2.upd H d (.dT (Gv [] b)))
def yp(Y:X.calm=AC)(bm:X.A.units+64<ES):Fk X (.type "dict") VA:=by
 intro pins s a6 H xs us Q I r q;obtain⟨a,ps,c,ex,N,f,t,q⟩:=q;subst ex;obtain⟨u,an,A⟩:=vals1 r;subst an;cases A;obtain⟨its,C,pl,l⟩:=I.list (AN.of N);have a1:=iF C;subst a1;rw[AL]at l;obtain⟨o,n,O,Z,hd,T⟩:=pl;have L:∀q∈c,H q.2=AA (.tup (q.1.map kV)):=λi M=>by
  obtain⟨j,v⟩:=DP M;obtain⟨p,d⟩:∃p,ps[j]? =AA p:=(_,AX (by erw[f];exact(AY.mp v).1));exact(t j p i d v).2
 refine yo (prs:=c.map λq=>(AE q.1 (AE q.2 (Hg AC)))) (I.ok.hd Y) () O Z hd T (by simp[f]) (by erw[AL,<-f];exact l) (λj i e=>?_) λh' tk U k=>?_;obtain⟨g,m,rfl⟩:=dN e;obtain⟨p,d⟩:∃p,ps[j]? =AA p:=(_,AX (by erw[f];exact(AY.mp m).1));obtain⟨aj,ab⟩:=t j p g d m;refine(fg I.hok ab,p,by simp[d],?_);obtain⟨_,bl,B,G⟩:=(show Dg X.prog X.w H s.heap p (.tup [.ref g.2,.bl AC]) from I.hok p _ aj);obtain⟨z,y,h,E,D⟩:=vals2 B;subst h;obtain rfl:z=Bf g.2:=E;obtain rfl:y=Hg AC:=D;exact G;have R:(s⁻¹==E2)=AF:=JZ.mpr (IW I.big);have S:(Gv [] c).length<=Ae:=by have:=oq c [];simp at this;lia
 have w:=I.hok.fresh (Au s⁻¹);refine(.ref s⁻¹,L2.upd H s⁻¹ (.dT (Gv [] c)),I.laid (t':=tk) k (Au _) ?_,rfl,q _ w);obtain⟨J,av,a0,h,a5,a4,a3,_,a2⟩:=U;exact(S,R,_,(KT.Gv c L .nil).keeps λb ys x=>by erw[aC (aT x w)];exact x,J,av,a0,h,a5,a4,a3,a2)
def VB(d:Ao):List V->Hp->VK->Prop:=λvs H Q=>(∃(a:AD) (ps:List AD) (b:List (Key×V)),vs=[.ref a]/\AN d H a (ps.map V.ref)/\Hi (λp c=>BB d H p [kV c.1,c.2]) ps b/\∀p,H p=AB->Q (.ref p) (L2.upd H p (.dK (GD [] b))))\/VA vs H Q
def yr(b:X.calm=AC)(c:X.A.units+64<ES):Fk X (.type "dict") (VB X.K):=by
 intro pins s a H xs us Q I r q;rcases q with q|q;exact yq b pins s a H xs us Q I r q;exact yp b c pins s a H xs us Q I r q
def mY:∀(more a:List (Key×V)) (k:Key),(A9 (GD a more) k).isSome=((A9 a k).isSome ||more.any λb=>decide (b.1=k))
 | [],a,k=>by simp[GD]
 |p::r,a,k=>by
  have:=mY r (putK a p.1 p.2) k;show (A9 (GD (putK a p.1 p.2) r) k).isSome=_;erw[this,ma,IX];by_cases e:k=p.1;subst e;simp;erw[AK e,DH (λz=>e z.symm),NJ]
def mX:∀(b:List (List Key×AD)) (a:List (List Key×V)) (k:List Key),(A9 (Gv a b) k).isSome=((A9 a k).isSome ||b.any λq=>decide (q.1=k))
 | [],a,k=>by simp[Gv]
 |p::r,a,k=>by
  have:=mX r (putK a p.1 (.bl AC)) k;show (A9 (Gv (putK a p.1 (.bl AC)) r) k).isSome=_;erw[this,ma,IX];by_cases e:k=p.1;subst e;simp;erw[AK e,DH (λz=>e z.symm),NJ]
def boot_dict:Fm "dict"=AA (.type "dict"):=by decide +kernel
def boot_sum:Fm "sum"=AA (.builtin "sum"):=by decide +kernel
def IZ(z:Nat×Nat):List Key:=[AW (z.1:Int),AW (z.2:Int)]
def uH(h:IZ x=IZ y):x=y:=by
 unfold IZ at h;simp only[B3,B2]at h;have b:=G6 h.1;have a:=G6 h.2;exact Mz () ()
def MD(a:List AD)(l:List (Nat×Nat))(z:Nat×Nat):AI->Bool
 | .ref t=>(a.zip l).any λq=>decide (q.1=t) && decide (q.2=z)
 | _=>AF
def xw{X:Cx}{pins:List (AD×Obj)}{c:L2.St}{H:Hp}{s:AO}{A:Fa}{t b:AD}{x z:Nat×Nat}(I:L2.Inv X pins c H s)(n:A.units<ES)(p:H t=AA (.tup [nV x.1,nV x.2]))(o:H b=AA (.tup [nV z.1,nV z.2])):Ob A s (.ref t) (.ref b) (decide (x=z)):=by
 intro prog w E Q q;have j:(Ez (BJ X.prog X.w)).is s.heap (IZ x) t:=fg I.hok p;have k2:(Ez (BJ X.prog X.w)).is s.heap (IZ z) b:=fg I.hok o;have(f,m,i,L,J,G,D):=j;have(d,l,g,C,B,v,u):=k2;have a:∀{ks:List Key} {vs:List AI},ItemsAre (BJ X.prog X.w) ks vs->ItemsAre (BJ prog w) ks vs:=by
  intro ks vs r;induction r with
  |nil=>exact .nil
  |cons h _ k=>exact .cons h k
 refine(Ez (BJ prog w)).eqBool (x:=IZ x) (y:=IZ z) n (f,m,i,L,J,G,a D) (d,l,g,C,B,v,a u) ?_;have e:decide (IZ x=IZ z)=decide (x=z):=HZ.mpr (uH,λh=>by erw[h]);erw[e];exact q
def mj(T:FF H a l):(a.map Bf).any (MD a l z)=l.contains z:=by
 erw[DQ,Eo,Ft];constructor;intro(y,g,e);obtain⟨t,k,rfl⟩:=Du.mp g;have f:((a.zip l).any λq=>decide (q.1=t) && decide (q.2=z))=AC:=e;rw[Eo]at f;have(q,i,d):=f;rw[DN]at d;have:=DT d.2;erw[<-this];exact(M7 i).2;intro h;have(j,c):=DP h;obtain⟨t,b⟩:∃t,a[j]? =AA t:=(_,AX (by erw[T.1];exact(AY.mp c).1));refine(.ref t,Du.mpr (t,Ar b,rfl),?_);show ((a.zip l).any λq=>decide (q.1=t) && decide (q.2=z))=AC;erw[Eo];exact((AE t z),Ar (JC.mpr (b,c)),by simp)
def mi(I:L2.Inv X pins C H s)(o:A.units<ES)(T:FF H a l)(u:H b=AA (.tup [nV z.1,nV z.2])):∀y,y∈(a.map Bf).toArray->Ob A s y (.ref b) (MD a l z y):=by
 intro y c;have c:y∈a.map Bf:=by simpa using c
 obtain⟨t,p,rfl⟩:=Du.mp c;have(j,d):=DP p;obtain⟨x,k⟩:∃x,l[j]? =AA x:=(_,AX (by erw[<-T.1];exact(AY.mp d).1));have n:=T.2 j t x d k;have e:MD a l z (.ref t)=decide (x=z):=by
  show ((a.zip l).any λq=>decide (q.1=t) && decide (q.2=z))=_;erw[DQ,Eo,decide_eq_true_iff];constructor;intro(q,r,h);rw[DN]at h;have B:=DT h.1;have w:=DT h.2;have(i,f):=DP r;rw[JC]at f;have m:=T.2 i q.1 q.2 f.1 f.2;rw[B,n]at m;have v:=Ap m;injection v with g;simp only[B3,B2]at g;injection g.1 with E;injection g.2 with D;erw[<-w];exact Mz () ();rintro rfl;exact((AE t x),Ar (JC.mpr (d,k)),by simp)
 erw[e];exact xw I o n u
def U9(neg:Bool):R2:=λx y H Q=>∃p a l b z,y=.ref p/\H p=AA (.lst (a.map V.ref))/\FF H a l/\x=.ref b/\H b=AA (.tup [nV z.1,nV z.2])/\Q (.bl (if neg then !l.contains z else l.contains z)) H
def uM(e:X.A.units+1<ES):D5 X (Em .In) (U9 AF):=by
 intro pins s j H x y v u Q I d c h;obtain⟨p,a,l,b,z,rfl,f,T,rfl,g,q⟩:=h;cases c;cases d;have(its,r,pl,k):=I.list (AN.of f);have i:=iF r;subst i;refine V6 (MD a l z) pl.isList (mi I e T g) (.bl _,H,I,rfl,?_);erw[XA,mj T];exact q
def uJ(e:X.A.units+1<ES):D5 X (Em .NotIn) (U9 AC):=by
 intro pins s j H x y v u Q I d c h;obtain⟨p,a,l,b,z,rfl,f,T,rfl,g,q⟩:=h;cases c;cases d;have(its,r,pl,k):=I.list (AN.of f);have i:=iF r;subst i;refine SeqAt.notIn_listAt (MD a l z) pl.isList (mi I e T g) (.bl _,H,I,rfl,?_);erw[XA,mj T];exact q
def tm(c:PE X k tk)(b:PE X v a):PE X (.Dict [AA k] [v] pos) (TQ [(AE tk a)]):=tu (tG c b tE) rfl rfl (by simp) (by simp)
def tY(h:PE X (.Dict ks vs p) t):PE X (.List [.Dict ks vs p] pos) (Br (Bd t BR)):=af (aA h aD)
def cont{N:L2.St->Hp->Prop}(a:Hp->Prop)(h:a c)(k:∀b,a b->N d b):N d c:=k c h
def AQ.new(b:AQ S H a)(h:a p=AB):AQ S H (L2.upd a p o):=λc u e n=>by
 have:=b c u e n;erw[aC (aT this h)];exact this
def AQ.put(b:AQ S H a)(h:p∈S):AQ S H (L2.upd a p o):=b.trans (AQ.upd h)
def AQ.free(s:AQ S H a)(d:∀b∈S,∃o,a b=AA o)(h:a q=AB):H q=AB:=by
 cases e:H q with
 |none=>rfl
 |some o=>
  by_cases m:q∈S;have(u,c):=d q m;rw[c]at h;cases h;rw[s q o e m]at h;cases h
def AQ.eN(s:AQ [a] H c)(e:c a=AA u)(h:c q=AB):H q=AB:=s.free (λb d=>by erw[Av.mp d];exact(u,e)) h
def EM(H a:Hp):Prop:=∀b,a b=AB->H b=AB
def _root_.L2.AH.grow(s:AH H a):EM H a:=λb h=>s.free h
def EM.trans(a:EM H e)(b:EM e d):EM H d:=λc h=>a c (b c h)
def EM.upd(a:EM H c):EM H (L2.upd c p o):=λb h=>a b (by
 by_cases z:b=p;rw[z,aB]at h;cases h;rw[aC z]at h;exact h)
def AQ.grow(s:AQ S H a)(c:∀b∈S,∃o,a b=AA o):EM H a:=λb h=>s.free c h
def AQ.pY(s:AQ [a] H c)(d:c a=AA u):EM H c:=λb h=>s.eN d h
def mV:∀(l:List Nat) (vs:List AI),vs.length=l.length->(∀(i n:Nat),l[i]? =AA n->∃t,vs[i]? =AA (.int n t))->Vals (l.map nV) vs
 | [],[],_,_=> .nil
 | [],_::_,h,_=>by simp at h
 | _::_,[],h,_=>by simp at h
 |a::l,v::vs,h,k=>by
  have(t,e):=k 0 a rfl;cases e;exact .cons (t,rfl) (mV l vs (by simpa using h) λi n e=>by simpa using k (i+1) n (by simpa using e))
def xU(h:ItemsOf (λi v=>∃t,v=.int ((0:Int) + i * 1) t) acc n):Vals ((Ai n).map nV) acc.toList:=by
 have(d,c):=h;refine mV _ _ (by erw[JE,d,DS]) λi m e=>?_;have a:=(AY.mp e).1;rw[DS]at a;rw[Kn a]at e;cases e;have(t,b):=c i acc[i] (Sz ());refine(t,?_);erw[XE,Sz (),b]
 congr 2
 lia
def tZ(y:X.mg "list"=AB)(w:X.mg "range"=AB)(C:PE X e m)(D:X.calm=AC:=by rfl)(B:Gl X "list":=by rfl)(A:Gl X "range":=by rfl)(i:BE [Oi (.Name "range" f) [e] [] d] X.env=[(AE AF (E3 (Oi (.Name "range" f) [e] [] d) X.env))]:=by rfl)(g:BE [e] X.env=[(AE AF (E3 e X.env))]:=by rfl):
  PE X (.Call (.Name "list" p) [.Call (.Name "range" f) [e] [] d] [] pos) (TM m):=by
 intro pins s k H Q I h;refine G8 (eK I B y boot_list ?_);refine Hk ?_ i rfl;erw[i];refine Kc ?_;refine G8 (eK I A w Op ?_);refine Hk ?_ g rfl;erw[g];refine Kc (aK (C pins s k H _ I h) λu a l=>?_);have(x,M,c,o,n,ex,v,q):=l;subst ex;obtain⟨t,rfl⟩:=o;refine Kb ?_;refine call_range_1 ?_;refine Kb ?_;refine call_list_range (r:=a⁻¹) (n:=n) (c.ok.hd D) (SH ..) (small_one () () () ()) (by erw[rangeSize_one];split<;>lia) () λh' tk L J z G E=>?_;have hsz:(a.heap.push {cls:=.type "range",data:=.fields #[.int 0 a.toks,.int (n:Int) t,.int 1 (a.toks+1)]}).objs.size=a⁻¹+1:=FI ..;have kp:∀b u,a.heap.get? b=AA u->h'.get? b=AA u:=λb u e=>z b u (BQ _ e);have j:a⁻¹<=(a.heap.push {cls:=.type "range",data:=.fields #[.int 0 a.toks,.int (n:Int) t,.int 1 (a.toks+1)]}).objs.size:=by erw[hsz];exact Ox _
 refine(.ref (a.heap.push {cls:=.type "range",data:=.fields #[.int 0 a.toks,.int (n:Int) t,.int 1 (a.toks+1)]}).objs.size,_,c.laid (t':=tk) kp j (show Dg X.prog X.w _ h' _ (.lst ((Ai n).map nV)) from(by erw[AL,DS];exact aN v,L.toList,J,xU E,G)),rfl,q _ (c.hok.fresh j))
def JR(c:Ao)(a b:AD):It:=
 (λi H=>∃(xs ys:List V) (x y:V),BB c H a xs/\AN c H b ys/\xs[i]? =AA x/\ys[i]? =AA y,
  λi H v d=>∃T x y,v=.ref T/\H T=AB/\d=L2.upd H T (.tup [x,y])/\(∀xs,BB c H a xs->xs[i]? =AA x)/\∀ys,AN c H b ys->ys[i]? =AA y,
  λi H=>∃xs:List V,BB c H a xs/\xs.length<=i)
def rX(D:LR z t r j g a b):
  Turn c5 w co (.Tuple c4 c1 cr) (JR co a b) [z,t,r,j,g] z (λi h=>Fn h z t r .none/\Ea h t (.ref j) (.ref g)/\(∃x y,Ea h r x y)/\h.IsTupleIter j a i/\h.IsListIter g b i) where
 mem:=by simp
 obj:=λi h st c O=>by
  have(m,f,(x,y,n),(b4,aj,_,ck),(b3,ab,_,ci)):=st;have an:c=z\/c=t\/c=r\/c=j\/c=g:=by simpa using O
  rcases an with q|q|q|q|q;erw[q];exact(_,m,λv q=>nomatch q);erw[q];exact(_,f,λv q=>nomatch q);erw[q];exact(_,n,λv q=>nomatch q);erw[q];exact(b4,aj,λv q=>by rw[ck]at q;cases q);erw[q];exact(b3,ab,λv q=>by rw[ci]at q;cases q)
 keep:=λi h h' st k=>by
  have(m,f,(x,y,n),C,G):=st;exact(k z (by simp) _ m,k t (by simp) _ f,(x,y,k r (by simp) _ n),C.at λo q=>k j (by simp) o q,G.at λo q=>k g (by simp) o q)
 item:=by
  intro X U hw Y O i pins s av H E I N st T;subst U hw Y;have(m,f,(bm,bl,n),C,G):=st;have(xs,ys,x,y,L,a3,a2,a1):=T;have(its,R,p,_):=I.tuple L;have(c2,bs,b2,_):=I.list a3;have(u,b6,b1):=R.get a2;have(J,b5,b0):=bs.get a1;have a0:z<s⁻¹:=BG m;refine wK D m f n C G (show s.heap.IsTuple a its.toArray from p) b2.isList (v:=u) (u:=J) (by simpa using b6) (by simpa using b5) λh' a6 cm cg ce cd hsz M=>?_;refine(_,rfl,Vx (s:={s with heap:=h'}) a6 λZ a5 B=>?_);have ca:Z.get? s⁻¹=AA {cls:=.type "tuple",data:=.seq #[u,J]}:=(B.2 _ (IW a0)).trans cd;have new:Dg X.prog X.w (L2.upd H s⁻¹ (.tup [x,y])) Z s⁻¹ (.tup [x,y]):=
   (by show 2<=Ae;decide,[u,J],.cons b1 (.cons b0 .nil),(_,ca,rfl,_,rfl));have cp:Inv X pins av (L2.upd H s⁻¹ (.tup [x,y])) {s with heap:=Z}:=
   I.jB (t':=s.toks) (ch:=[z,t,r,j,g]) (λc o e q=>(B.2 c (λd=>e (by simp[d]))).trans (M c o (λd=>e (by simp[d])) (λd=>e (by simp[d])) (λd=>e (by simp[d])) (λd=>e (by simp[d])) q)) N (Au _) new;refine(.ref s⁻¹,_,cp,rfl,(_,x,y,rfl,I.hok.fresh (Au _),rfl,λl S=>by erw[I.mn S L];exact a2,λl S=>by erw[I.iQ S a3];exact a1),(a5,?_,(u,J,?_),?_,?_),λc a4=>?_);exact(B.2 _ D.TIz).trans (M _ _ D.TIz D.TITO D.TIi1 D.TIi2 f);exact(B.2 _ D.TOz).trans cm;exact cg.at λo q=>(B.2 _ D.i1z).trans q;exact ce.at λo q=>(B.2 _ D.i2z).trans q;have b7:c<s⁻¹:=by
   have an:c=z\/c=t\/c=r\/c=j\/c=g:=by simpa using a4
   rcases an with q|q|q|q|q;erw[q];exact a0;erw[q];exact BG f;erw[q];exact BG n;erw[q];have(_,aj,_):=C;exact BG aj;erw[q];have(_,ab,_):=G;exact BG ab
  erw[aC (DU b7)];exact(N c a4).1
 done:=by
  intro X U hw Y O i pins s av H E I N st T;subst U hw Y;have(m,f,(bm,bl,n),C,G):=st;have(xs,L,c3):=T;have(its,R,p,_):=I.tuple L;have c0:=R.length;exact wJ (I.ok.hd O) D m f n C (show s.heap.IsTuple a its.toArray from p) (by simp;lia) λh' M=>(rfl,I.mh (t':=s.toks) (ch:=[z,t,r,j,g]) (λc o e q=>
   M c o (λd=>e (by simp[d])) (λd=>e (by simp[d])) (λd=>e (by simp[d])) (λd=>e (by simp[d])) q) N)
 self:=λA i s Q E st h=>OJ st.1 h
def Yw(c:Ao)(f:TA):TI:=λe H R=>f e H λvs d=>∃a b xs ys,vs=[.ref a,.ref b]/\BB c d a xs/\AN c d b ys/\R (JR c a b) d
def kQ(L:Gl X "zip")(G:X.mg "zip"=AB)(N:PA X [e,g] v)(A:BE [e,g] X.env=(AE AF (E3 e X.env))::BE [g] X.env:=by rfl)(D:(EG pos (BE [g] X.env)).any (·.1)=AF:=by rfl):
  PI X (.Tuple a0 an Z) (.Call (.Name "zip" p) [e,g] [] pos) (Yw X.K v):=by
 intro pins s j H R I h;refine Call_ (eK I L G qm (Hk (aK (N pos pins s j H _ I h) λus d u=>?_) A D));have(vs,t,f,w,x):=u;have(a,b,xs,ys,ex,C,B,q):=x;subst ex;cases w with
 |cons r i=>
  cases i with
  |cons r' i=>
   cases i;cases r;cases r';have(its,aj,l,_):=f.tuple C;have(av,ab,k,_):=f.list B;have la:a<d⁻¹:=by have(o,E,_):=l;exact BG E
   have y:b<d⁻¹:=k.lt;refine yu (show d.heap.IsTuple a its.toArray from l) k.isList λh' m Q O T S J=>OJ m ?_;have Y:Inv X pins j t {d with heap:=h'}:=f.kept (t':=d.toks) J;refine(d⁻¹+4,[d⁻¹+4,d⁻¹+2,d⁻¹+3,d⁻¹,d⁻¹+1],_,_,t,rfl,Y,rX (V2 d⁻¹ a b la y),(m,Q,(_,_,O),T,S),λc M=>?_,q);have U:c=d⁻¹+4\/c=d⁻¹+2\/c=d⁻¹+3\/c=d⁻¹\/c=d⁻¹+1:=by simpa using M
   have n:d⁻¹<=c:=by
    rcases U with z|z|z|z|z;erw[z];exact Iy _ _;erw[z];exact Iy _ _;erw[z];exact Iy _ _;erw[z];exact Au _;erw[z];exact Iy _ _
   exact f.gF n (f.hok.fresh n)
def pB{K:Ao}{c:Hp}{p:Hp->Prop}(f:Nat->Option V)(E:c D=AB)(A:xs.length=ys.length)(h:∀H,AH c H->BB K H a xs)(o:c b=AA (.lst ys))(z:xs.length<=Ae)(w:∀i x y T H,xs[i]? =AA x->ys[i]? =AA y->AH c H->H T=AA (.tup [x,y])->Jy g t u vs l (.ref T) H (f i))(B:∀H,AH c H->H D=AA (.lst ((Ai xs.length).filterMap f))->p H):
  ∃W:Nat->Nat->Hp->Prop,(∃m,W 0 m (L2.upd c D (.lst [])))/\∀i m H,W i m H->
   ((JR K a b).stop i H/\p H)\/((JR K a b).go i H/\∃k:Hp->Prop,(∀d,k d->∃m',m'<m/\W (i+1) m' d)/\∀x d,(JR K a b).EK i H x d->g x (wipe l vs) d λe J=>wipe e vs=wipe l vs/\t e J λb r=>
    if b=AC then u e r λy q=>∃acc,q D=AA (.lst acc)/\acc.length<Ae/\k (L2.upd q D (.lst (acc ++ [y])))else k r):=by
 refine gz f E z (λi H s j=>(xs,ys,xs[i],ys[i]'(),h H s,AN.of (s _ _ o),by simp[j],by simp[A▸j])) (λH s=>(xs,h H s,Au _)) (λi H x d s j v=>?_) B;obtain⟨T,x,y,rfl,C,rfl,I,G⟩:=v;have n:AH H (L2.upd H T (.tup [x,y])):=AH.upd C;exact(n,w i x y T _ (I xs (h H s)) (G ys (AN.of (s _ _ o))) (s.trans n) aB)
def xi{K:Ao}{a b:AD}{xs ys:List V}{g:TG}{l:TS}{D:Ends}{c:L2.St}{H:Hp}(s:xs.length=ys.length)(Pv:Nat->L2.St->Hp->Prop)(B:Pv 0 c H)(t:∀i c H,i<=xs.length->Pv i c H->BB K H a xs/\AN K H b ys)
  (o:∀i x y T c H,xs[i]? =AA x->ys[i]? =AA y->Pv i c H->H T=AB->g (.ref T) c (L2.upd H T (.tup [x,y])) λf k=>l {D with nx:=Pv (i+1),ct:=Pv (i+1),bk:=D.nx} f k)(hd:∀c H,Pv xs.length c H->D.nx c H):
  ∃W:Nat->Nat->L2.St->Hp->Prop,(∃m,W 0 m c H)/\∀i m c H,W i m c H->
   ((JR K a b).stop i H/\D.nx c H)\/((JR K a b).go i H/\∃N:L2.St->Hp->Prop,(∀h d,N h d->∃m',m'<m/\W (i+1) m' h d)/\∀x d,(JR K a b).EK i H x d->g x c d λf k=>l {D with nx:=N,ct:=N,bk:=D.nx} f k):=by
 refine(λi m c H=>m=xs.length - i/\i<=xs.length/\Pv i c H,(xs.length,by simp,DR _,B),?_);rintro i m c H ⟨rfl,u,p⟩;have(q,r):=t i c H u p;by_cases j:i<xs.length;refine .inr ((xs,ys,xs[i],ys[i]'(),q,r,by simp[j],by simp[s▸j]),Pv (i+1),λh d n=>(xs.length - (i+1),by lia,rfl,j,n),?_);rintro v d ⟨T,x,y,rfl,w,rfl,A,z⟩;exact o i x y T c H (A xs q) (z ys r) p w;have e:i=xs.length:=by lia
 subst e;exact .inl ((xs,q,Au _),hd c H p)
end RW
end
section
namespace RW
open Vbwsal
def DY(cs:List Nat)(i:Nat):Nat:=cs.getD (min i (cs.length - 1)) 0
def lZ{c:Type}{l:List c}{i:Nat}(h:i<l.length)(a b:c):l.getD i a=l.getD i b:=by
 erw[DA,DA,AX h];rfl
def lY(h:cs≠[]):cs.getLastD 0=cs.getD (cs.length - 1) 0:=by
 have a:=Fb.mpr h;erw[List.getLastD_eq_getLast?,PD,DA]
def eG(h:p.cells≠[])(i:Nat):Dy p (p.begun+i)=DY p.cells i:=by
 have b:=Fb.mpr h;unfold Dy DY;erw[O1];by_cases a:i<p.cells.length;erw[Ix ()];exact lZ a _ _;erw[Ov (),<-lY h,DA,HD ()];rfl
def fH(h:cs≠[])(i:Nat):cs[min i (cs.length - 1)]? =AA (DY cs i):=by
 have a:=Fb.mpr h;have:min i (cs.length - 1)<cs.length:=by lia
 unfold DY;erw[DA,AX this];rfl
def lK(h:p.cells≠[]):last p=DY p.cells (p.cells.length - 1):=by
 unfold last DY;erw[lY h,M3]
def wb(h:cs≠[]):c∈cs↔∃i,i<cs.length/\DY cs i=c:=by
 constructor;intro b;have(i,a,e):=Wo.mp b;refine(i,a,?_);have:=fH h i;rw[Ix (),AX a,e]at this;exact(Ap this).symm;rintro⟨i,a,rfl⟩;exact Ar (fH h i)
def jE(h:p.cells≠[]):Hc p+1=p.begun+p.cells.length:=by
 have a:=Fb.mpr h;unfold Hc;lia
def kZ(h:p.cells≠[])(c:Nat):D9 p.begun c p=p.cells.contains c:=by
 have b:=Fb.mpr h;unfold D9;erw[jE h,O1,DQ,Lh,Eo,Ft,wb h];constructor;rintro(⟨i,a,e⟩ |e);rw[eG h]at e;exact(i,EC.mp a,by simpa using e);rw[lK h]at e;exact(p.cells.length - 1,by lia,by simpa using e);intro(i,a,e);exact .inl (i,EC.mpr a,by erw[eG h,e];simp)
def sg(h:p.cells≠[])(c a:Nat):(last p !=c && (Ai (Hc p+1 - (p.begun+a))).all λi=>Dy p (p.begun+a+i) !=c)= !(p.cells.drop (min a (p.cells.length - 1))).contains c:=by
 have l:=Fb.mpr h;have key:(p.cells.drop (min a (p.cells.length - 1))).contains c=AC↔∃i,min a (p.cells.length - 1)<=i/\i<p.cells.length/\DY p.cells i=c:=by
  erw[Ft];constructor;intro j;have(i,b,e):=Wo.mp j;rw[Fs]at b;rw[List.getElem_drop]at e;refine(min a (p.cells.length - 1) + i,by lia,by lia,?_);have:=fH h (min a (p.cells.length - 1) + i);rw[Ix (by lia:min a (p.cells.length - 1) + i<=p.cells.length - 1),AX (),e]at this;exact(Ap this).symm;rintro⟨i,d,g,rfl⟩;have:=fH h i;rw[Ix ()]at this;refine Ar (i:=i - min a (p.cells.length - 1)) ?_;erw[PJ,<-this]
  congr 1;lia
 erw[DQ,DN,Gq,JD,Ne,key,jE h,FR,lK h];constructor;intro(d,g) (i,k,k2,k3);by_cases q:a<=i;have:=g (i - a) (EC.mpr ());rw[LZ,eG h,show a+ (i - a)=i by lia,k3]at this;simp at this;have e:i=p.cells.length - 1:=by lia
 rw[<-e,k3]at d;simp at d;intro f;refine(?_,λi b=>?_);simp only[Md,ne_eq];intro e;exact f (p.cells.length - 1,by lia,by lia,e);have b:=EC.mp b;erw[LZ,eG h];simp only[Md,ne_eq];intro e;exact f (a+i,by lia,by lia,e)
structure Min(S:Nat->Prop)(o:Option Nat):Prop where
 le:∀k,S k->∃x,o=AA x/\x<=k
 mem:∀x,o=AA x->S x
def Min.uniq(a:Min S o)(b:Min S c):o=c:=by
 cases o with
 |none=>
  cases c with
  |none=>rfl
  |some y=>have(x,e,_):=a.le y (b.mem y rfl);cases e
 |some x=>
  have(y,e,f):=b.le x (a.mem x rfl);subst e;have(z,e,d):=a.le y (b.mem y rfl);cases e;erw[M5 d f]
def Min.congr{T:Nat->Prop}(a:Min S o)(h:∀k,S k↔T k):Min T o:=(λk b=>a.le k ((h k).mpr b),λx e=>(h x).mp (a.mem x e))
def Min.none{S:Nat->Prop}(h:∀k,¬S k):Min S AB:=(λk a=>absurd a (h k),λx e=>by cases e)
def Min.put(a:Min S o)(h:∀x,o=AA x->y<=x):Min (λk=>S k\/k=y) (AA y):=
 (λk b=>by
  rcases b with b|rfl;have(x,e,l):=a.le k b;exact(y,rfl,Dj (h x e) l);exact(k,rfl,Au _),λx e=> .inr (Ap e).symm)
def Min.stay(a:Min S (AA x))(h:x<=y):Min (λk=>S k\/k=y) (AA x):=
 (λk b=>by
  rcases b with b|rfl;exact a.le k b;exact(x,rfl,h),λx e=> .inl (a.mem x e))
def OH(g:Aw)(ps:List Plan)(t:Nat)(l:D6)(v k:Nat):Prop:=
 EZ g ps v (t+1)=AC/\((∃x,at_ l v=AA x/\k=x - 1)\/∃u w,at_ l u=AA 0/\Ab g u v=AA w/\EA ps u v t=AF/\k=w - 1)
def iZ:(ER g ps t l).length=AG g:=by
 unfold ER;erw[AL,DS]
def o9(m:Option Nat):least m AB=m:=by
 unfold least less;simp
def lJ(hw:0<g.wide)(j:v<AG g):Min (OH g ps t l v) (at_ (ER g ps t l) v):=by
 unfold ER;erw[fL j];cases n:EZ g ps v (t+1)with
 |false=>
  erw[AJ rfl];exact Min.none λk i=>by have d:=i.1;rw[n]at d;cases d
 |true=>
  erw[AK (by simp)];have e:(λm u=>match l.getD u AB,Ab g u v with
   |some 0,AA w=>if EA ps u v t=AC then m else least m (AA (w - 1))
   | _,_=>m)=λm u=>least m (match l.getD u AB,Ab g u v with
   |some 0,AA w=>if EA ps u v t=AC then AB else AA (w - 1)
   | _,_=>AB):=by
   funext m u;split;split;erw[o9];rfl;erw[o9]
  show Min _ (PP (λm u=>match l.getD u AB,Ab g u v with
   |some 0,AA w=>if EA ps u v t=AC then m else least m (AA (w - 1))
   | _,_=>m) _ _)
  erw[e];have(d,s,b):=ik (F:=λu=>match l.getD u AB,Ab g u v with
   |some 0,AA w=>if EA ps u v t=AC then AB else AA (w - 1)
   | _,_=>AB) (BK g v) ((l.getD v AB).map λk=>k - 1)
  refine(λk i=>?_,λx a=>(n,?_));rcases i.2 with⟨x,a,rfl⟩ | ⟨u,w,p,h,r,rfl⟩;exact d (x - 1) (by show (at_ l v).map _=_;erw[a];rfl);have q:u∈BK g v:=gX hw (eI h).1 j (dq h).2.2.1;refine s u q (w - 1) ?_;have o:l.getD u AB=AA 0:=p;simp only[o,h,r];simp;rcases b with b| ⟨u,_,b⟩;rw[b]at a;have c:(at_ l v).map (λk=>k - 1)=AA x:=a;cases f:at_ l v with
  |none=>rw[f]at c;cases c
  |some y=>rw[f]at c;exact .inl (y,rfl,(Ap c).symm)
  rw[b]at a;right;split at a;rename_i A f;split at a;cases a;rename_i z;exact(u,_,A,f,by simpa using z,(Ap a).symm);cases a
structure HV(g:Aw)(l:D6):Prop where
 len:l.length=AG g
 st:∀v x,at_ l v=AA x->An g v=AC
def xD(hw:0<g.wide):HV g (ER g ps t l):=
 (iZ,λv x h=>by
  have a:v<AG g:=by have:=dY h;rw[iZ]at this;exact this
  have:=((lJ hw a).mem x h).1;unfold EZ at this;rw[DN]at this;exact this.1)
@[inline]def lay0(g:Aw)(c a:Nat):D6:=(Ai (AG g)).map λu=>if u=c then AA a else AB
def qx(d:c<AG g):at_ (lay0 g c a) v=if v=c then AA a else AB:=by
 unfold lay0;by_cases b:v<AG g;erw[fL b];erw[zH (),AK ()]
def xF(h:An g c=AC):HV g (lay0 g c a):=
 (by unfold lay0;erw[AL,DS],λv x e=>by
  rw[qx (gh h)]at e;by_cases q:v=c;erw[q];exact h;rw[AK q]at e;cases e)
@[inline]def lay(g:Aw)(ps:List Plan)(t:Nat)(l0:D6):Nat->D6
 | 0=>l0
 |a+1=>ER g ps (t+a) (lay g ps t l0 a)
def pG(hw:0<g.wide)(h:HV g l0):∀a,HV g (lay g ps t l0 a)
 | 0=>h
 |a+1=>xD hw
@[inline]def hits(g:Aw)(goal:Nat->Nat->Bool)(l:D6)(t:Nat):Bool:=(Ai (AG g)).any λc=>(l.getD c AB).isSome && goal c t
def MI(L:Nat->D6):Nat->Nat->List D6->List D6
 |a,0,acc=>L a::acc
 |a,m+1,acc=>MI L (a+1) m (L a::acc)
def pF:∀(n a:Nat) (acc:List D6),(∀b,a<=b->b<=a+n->hits g goal (lay g ps t l0 b) (t+b)=AF)->Ip g ps goal n (t+a) (lay g ps t l0 a) acc=AB
 | 0,a,acc,h=>by
  have:=h a (Au _) (Au _);unfold hits at this;erw[Ip,this];rfl
 |n+1,a,acc,h=>by
  have c:=h a (Au _) ();unfold hits at c;erw[Ip,c,AK (by simp)];exact pF n (a+1) _ λb e d=>h b () ()
def pE:∀(n m a:Nat) (acc:List D6),m<=n->(∀b,a<=b->b<a+m->hits g goal (lay g ps t l0 b) (t+b)=AF)->hits g goal (lay g ps t l0 (a+m)) (t+ (a+m))=AC->
  Ip g ps goal n (t+a) (lay g ps t l0 a) acc=AA (MI (lay g ps t l0) a m acc)
 | 0,0,a,acc,_,_,h=>by
  unfold hits at h;rw[Hm]at h;erw[Ip,AJ h];rfl
 |n+1,0,a,acc,_,_,h=>by
  unfold hits at h;rw[Hm]at h;erw[Ip,AJ h];rfl
 |n+1,m+1,a,acc,i,c,e=>by
  have d:=c a (Au _) ();unfold hits at d;erw[Ip,d,AK (by simp)];refine pE n m (a+1) _ () (λb f k2=>c b () ()) ?_;erw[show a+1+m=a+ (m+1) by lia];exact e
def qG(L:Nat->D6):∀(m a:Nat),MI L a m (((Ai a).map L).reverse)=((Ai (a+m+1)).map L).reverse
 | 0,a=>by
  erw[MI,Hm,Jn,Dd,Sg];rfl
 |m+1,a=>by
  erw[MI];have:=qG L m (a+1);rw[Jn,Dd,Sg]at this;erw[show a+ (m+1) + 1=a+1+m+1 by lia,<-this];rfl
@[inline]def downs(L:Nat->D6):Nat->List D6
 | 0=>[L 0]
 |a+1=>L (a+1)::downs L a
def qF(L:Nat->D6):∀a,((Ai (a+1)).map L).reverse=downs L a
 | 0=>rfl
 |a+1=>by erw[Jn,Dd,Sg,qF L a];rfl
def yF(L:Nat->D6)(a:Nat):(downs L a).headD []=L a:=by cases a<;>rfl
def qE(L:Nat->D6):∀a,(downs L a).length=a+1
 | 0=>rfl
 |a+1=>by erw[downs,AS,qE L a]
@[inline]def prev(g:Aw)(ps:List Plan)(t:Nat)(l m:D6)(c:Nat):Nat:=
 if (((m.getD c AB).map λx=>x - 1)==l.getD c AB)=AC then c else((Ai (AG g)).find? λu=>m.getD u AB==AA 0 && ((Ab g u c).map λw=>w - 1)==l.getD c AB && !EA ps u c t).getD c
def mw:Gf g ps (t+ (a+1)) c (downs L (a+1))=c::Gf g ps (t+a) (prev g ps (t+a) (L (a+1)) (L a) c) (downs L a):=by
 cases a with
 |zero=>rfl
 |succ a=>rfl
def mr:Gf g ps t c (downs L 0)=[c]:=rfl
def kO(hw:0<g.wide)(h:at_ (ER g ps t m) c=AA a):
  ((∃x,at_ m c=AA x/\x - 1=a)/\prev g ps t (ER g ps t m) m c=c)\/
  ((∀x,at_ m c=AA x->x - 1≠a)/\at_ m (prev g ps t (ER g ps t m) m c)=AA 0/\Ab g (prev g ps t (ER g ps t m) m c) c=AA (a+1)/\EA ps (prev g ps t (ER g ps t m) m c) c t=AF/\
   ∀u,at_ m u=AA 0->Ab g u c=AA (a+1)->EA ps u c t=AF->prev g ps t (ER g ps t m) m c<=u):=by
 have D:c<AG g:=by have:=dY h;rw[iZ]at this;exact this
 by_cases q:∃x,at_ m c=AA x/\x - 1=a;refine .inl (q,?_);have(x,f,d):=q;unfold prev;have E:m.getD c AB=AA x:=f;have h':(ER g ps t m).getD c AB=AA a:=h;erw[AJ (by erw[E,h',<-d];simp)];right;have l:∀x,at_ m c=AA x->x - 1≠a:=λx f d=>q (x,f,d);have h':(ER g ps t m).getD c AB=AA a:=h;have A: ¬(((m.getD c AB).map λx=>x - 1)==(ER g ps t m).getD c AB)=AC:=by
  erw[h'];cases e:m.getD c AB with
  |none=>simp
  |some x=>have:=l x e;simpa using this
 have z:prev g ps t (ER g ps t m) m c=((Ai (AG g)).find? λu=>m.getD u AB==AA 0 && ((Ab g u c).map λw=>w - 1)==(ER g ps t m).getD c AB && !EA ps u c t).getD c:=by
  unfold prev;erw[AK A]
 have test:∀u,(m.getD u AB==AA 0 && ((Ab g u c).map λw=>w - 1)==(ER g ps t m).getD c AB && !EA ps u c t)=AC↔at_ m u=AA 0/\Ab g u c=AA (a+1)/\EA ps u c t=AF:=λu=>by
  erw[h',DN,DN,Hb,Hb,Gq];constructor;intro((b,k2),k3);refine(b,?_,k3);cases e:Ab g u c with
  |none=>rw[e]at k2;cases k2
  |some w=>
   rw[e]at k2;have:=step_pos e;have k2:=Ap k2;simp only at k2;erw[show w=a+1 by lia]
  intro(b,k2,k3);exact((b,by erw[k2];rfl),k3)
 have(_,C):=(lJ hw D).mem a h;rcases C with⟨x,f,d⟩ | ⟨u,w,b,k2,k3,k4⟩;exact absurd d.symm (l x f);have F:=step_pos k2;have r:Ab g u c=AA (a+1):=by erw[k2,k4];congr 1;lia
 have y:((Ai (AG g)).find? λu=>m.getD u AB==AA 0 && ((Ab g u c).map λw=>w - 1)==(ER g ps t m).getD c AB && !EA ps u c t).isSome=AC:=by
  erw[List.find?_isSome];exact(u,EC.mpr (eI k2).1,(test u).mpr (b,r,k3))
 have(v,i):=HB.mp y;erw[z,i];have s:=NF i;have k:=(test v).mp s;refine(l,k.1,k.2.1,k.2.2,λj p o n=>?_);show v<=j;refine Oz λB=>?_;rw[List.find?_range_eq_some]at i;have:=i.2.2 j B;rw[Gq,JD]at this;exact this ((test j).mpr (p,o,n))
def HH(l:D6):Nat:=(l.filter λx=>x.isSome).length
@[inline]def looked(L:Nat->D6):Nat->Nat
 | 0=>HH (L 0)
 |m+1=>looked L m+HH (L (m+1))
def foldl_plus:∀(l:List Nat) (a:Nat),l.foldl (λa b=>a+b) a=a+l.sum
 | [],a=>rfl
 |x::l,a=>by erw[PN,foldl_plus l,Sf];lia
def wq(L:Nat->D6):∀m,((downs L m).map λl=>(l.filter λx=>x.isSome).length).foldl (λa b=>a+b) 0=looked L m:=by
 intro m;erw[foldl_plus,Gk];induction m with
 |zero=>simp[downs,looked,HH]
 |succ m c=>erw[downs,Ax,Sf,c,looked];unfold HH;lia
def yB(h:∀b,b<=100->hits g goal (lay g ps t (lay0 g c a) b) (t+b)=AF):IL g ps t c a goal=AB:=by
 have:=pF (g:=g) (ps:=ps) (goal:=goal) (t:=t) (l0:=lay0 g c a) 100 0 [] λb _ e=>h b ();unfold IL;show (match Ip g ps goal 100 (t+0) (lay g ps t (lay0 g c a) 0) []with
  |none=>AB
  |some d=>_)=AB
 erw[this]
def yA{left:Nat}(i:m<=100)(h:∀b,b<m->hits g goal (lay g ps t (lay0 g c left) b) (t+b)=AF)(e:((Ai (AG g)).find? λu=>((lay g ps t (lay0 g c left) m).getD u AB).isSome && goal u (t+m))=AA u):
  IL g ps t c left goal=AA (AE ({begun:=t,cells:=(Gf g ps (t+m) u (downs (lay g ps t (lay0 g c left)) m)).reverse}) (looked (lay g ps t (lay0 g c left)) m)):=by
 have hit:hits g goal (lay g ps t (lay0 g c left) (0+m)) (t+ (0+m))=AC:=by
  erw[Gk];unfold hits;erw[Eo];have j:=NF e;exact(u,Wn e,j)
 have:=pE (g:=g) (ps:=ps) (goal:=goal) (t:=t) (l0:=lay0 g c left) 100 m 0 [] i (λb _ k=>h b ()) hit;have f:=qG (lay g ps t (lay0 g c left)) m 0;rw[show ((Ai 0).map (lay g ps t (lay0 g c left))).reverse=[] from rfl,Gk,qF]at f;rw[f]at this;unfold IL;show (match Ip g ps goal 100 (t+0) (lay g ps t (lay0 g c left) 0) []with
  |none=>AB
  |some d=>match (Ai (AG g)).find? λu=>((d.headD []).getD u AB).isSome && goal u (t+ (d.length - 1))with
   |none=>AB
   |some u=>AA (AE (({begun:=t,cells:=(Gf g ps (t+ (d.length - 1)) u d).reverse}:Plan)) ((Ld (λl:D6=>(Sq (λx:Option Nat=>x.isSome) l).length) d).foldl (λa b=>a+b) 0)))=_
 erw[this];show (match (Ai (AG g)).find? λu=>(((downs (lay g ps t (lay0 g c left)) m).headD []).getD u AB).isSome && goal u (t+ ((downs (lay g ps t (lay0 g c left)) m).length - 1))with
   |none=>AB
   |some u=>AA (AE (({begun:=t,cells:=(Gf g ps (t+ ((downs (lay g ps t (lay0 g c left)) m).length - 1)) u (downs (lay g ps t (lay0 g c left)) m)).reverse}:Plan)) (((downs (lay g ps t (lay0 g c left)) m).map λl:D6=>(Sq (λx:Option Nat=>x.isSome) l).length).foldl (λa b=>a+b) 0)))=_
 erw[wq,yF,qE,Wk,e]
structure Path(g:Aw)(cs:List Nat):Prop where
 ne:cs≠[]
 st:∀c∈cs,An g c=AC
 step:∀i u v,cs[i]? =AA u->cs[i+1]? =AA v->u=v\/∃w,Ab g u v=AA w
structure RH(g:Aw)(cs:List Nat):Prop where
 ne:cs≠[]
 st:∀c∈cs,An g c=AC
 step:∀i u v,cs[i]? =AA v->cs[i+1]? =AA u->u=v\/∃w,Ab g u v=AA w
def RH.rev(h:RH g cs):Path g cs.reverse:=by
 refine(by simpa using h.ne,λc d=>h.st c (List.mem_reverse.mp d),λi u v b a=>?_);have e:i+1<cs.length:=by have:=(AY.mp a).1;rwa [NA]at this
 rw[Wz ()]at b a;refine h.step (cs.length - 1 - (i+1)) u v a ?_;erw[<-b];congr 1;lia
def mv(hw:0<g.wide)(f:HV g l0):∀(a c x:Nat),at_ (lay g ps t l0 a) c=AA x->
  RH g (Gf g ps (t+a) c (downs (lay g ps t l0) a))/\(Gf g ps (t+a) c (downs (lay g ps t l0) a)).length=a+1/\(Gf g ps (t+a) c (downs (lay g ps t l0) a))[0]? =AA c/\∃z,(Gf g ps (t+a) c (downs (lay g ps t l0) a))[a]? =AA z/\(at_ l0 z).isSome
 | 0,c,x,h=>by
  erw[Hm,mr];refine((by simp,λk e=>?_,λi u v d b=>by simp at b),rfl,rfl,c,rfl,?_);erw[Av.mp e];exact f.st c x h;have h':at_ l0 c=AA x:=h;erw[h'];rfl
 |a+1,c,x,h=>by
  erw[mw];have r:=kO hw h;have s:∃y,at_ (lay g ps t l0 a) (prev g ps (t+a) (lay g ps t l0 (a+1)) (lay g ps t l0 a) c)=AA y/\(prev g ps (t+a) (lay g ps t l0 (a+1)) (lay g ps t l0 a) c=c\/∃w,Ab g (prev g ps (t+a) (lay g ps t l0 (a+1)) (lay g ps t l0 a) c) c=AA w):=by
   rcases r with⟨⟨y,d,_⟩,b⟩ | ⟨_,d,b,_⟩;refine(y,?_,.inl b);have A:prev g ps (t+a) (lay g ps t l0 (a+1)) (lay g ps t l0 a) c=c:=b;erw[A];exact d;exact(0,d,.inr (_,b))
  have(y,p,q):=s;have(j,o,n,z,m,l):=mv hw f a _ y p;refine((by simp,λk e=>?_,λi u v d b=>?_),by erw[AS,o],rfl,z,by erw[Ba];exact m,l);rcases Aj.mp e with rfl|e;exact(pG hw f (a+1)).st _ _ h;exact j.st k e;cases i with
  |zero=>
   rw[Bo]at d;rw[Ba,n]at b;cases d;cases b;exact q
  |succ i=>exact j.step i u v (by rw[Ba]at d;exact d) (by rw[Ba]at b;exact b)
def MN(g:Aw)(ps:List Plan)(c t:Nat):Nat:=if An g c=AC/\GU g c t=AC then 5 else 4
def MO(g:Aw)(ps:List Plan)(i t a:Nat):List Nat->Option (Nat×Nat)
 |u::v::r=>if u=v then G2 g ps (i+1) (t+1) (a - 1) (v::r)
  else match Ab g u v with
  |none=>AA (AE (i+1) 2)
  |some w=>if 0<a then AA (AE (i+1) 3)else if EA ps u v t=AC then AA (AE (i+1) 6)else G2 g ps (i+1) (t+1) (w - 1) (v::r)
 | [u]=>if Gg g ps u t=AF then AA (AE i 7)else AB
 | []=>AA (AE i 1)
def jx:G2 g ps i t a (u::r)=if EZ g ps u t=AF then AA (AE i (MN g ps u t))else MO g ps i t a (u::r):=by
 cases r with
 |nil=>rfl
 |cons v r=>rfl
def JI(g:Aw)(u v k:Nat):Nat:=if u=v then k - 1 else(Ab g u v).getD 1 - 1
def gx:Ex g k (u::v::r)=Ex g (JI g u v k) (v::r):=by
 erw[Ex];unfold JI;split<;>rfl
def gy:Ex g k [u]=k:=by erw[Ex];simp
def o7:∀(l:List Nat) (k:Nat),Ex g k (l ++ [u,v])=JI g u v (Ex g k (l ++ [u]))
 | [],k=>by erw[Ah,Ah,gx,gy,gy]
 | [a],k=>by
  show Ex g k (a::u::[v])=JI g u v (Ex g k (a::u::[]));erw[gx,gx,gx,gy,gy]
 |a::b::l,k=>by
  show Ex g k (a::b::(l ++ [u,v]))=JI g u v (Ex g k (a::b::(l ++ [u])));erw[gx,gx];exact o7 (b::l) _
def nB{cs:List Nat}{i u v:Nat}(a:cs[i]? =AA u)(b:cs[i+1]? =AA v):cs.take (i+2)=cs.take i ++ [u,v]/\cs.take (i+1)=cs.take i ++ [u]:=by
 constructor;erw[Iz,b,Iz,a];simp;erw[Iz,a];rfl
def wx{g:Aw}{cs:List Nat}{k i u v:Nat}(b:cs[i]? =AA u)(a:cs[i+1]? =AA v):Ex g k (cs.take (i+2))=JI g u v (Ex g k (cs.take (i+1))):=by
 erw[(nB b a).1,(nB b a).2,o7]
def pH(h:x.plan.cells≠[]):GS g (x.plan.begun+n) x={x with
  left:=Ex g x.left (x.plan.cells.take (min n (x.plan.cells.length - 1) + 1)) - (n - min n (x.plan.cells.length - 1)),
  plan:={begun:=x.plan.begun+n,cells:=x.plan.cells.drop (min n (x.plan.cells.length - 1))}}:=by
 have a:=Fb.mpr h;unfold GS FZ;simp only[O1]
 congr 1
 congr 1
 by_cases q:n<x.plan.cells.length;erw[Ix ()];have:(x.plan.cells.drop n).isEmpty=AF:=by erw[List.isEmpty_eq_false_iff,Ne,PU];lia
 erw[this];rfl;erw[Ov ()];have:(x.plan.cells.drop n).isEmpty=AC:=by erw[List.isEmpty_iff,PU];lia
 erw[this,AJ rfl];have e:=Go (l:=x.plan.cells) (i:=x.plan.cells.length - 1) ();erw[e,Lg ()];unfold last;erw[lY h,DA,AX ()];rfl;by_cases q:n<x.plan.cells.length;erw[Ix ()];erw[FQ,Ix ()];lia;erw[Ov (),La (),La ()];lia
def lG(h:x.plan.cells≠[]):FZ g x x.plan.begun=x.left:=by
 have a:=Fb.mpr h;unfold FZ;simp only[IV,Gk];have:x.plan.cells.take 1=[DY x.plan.cells 0]:=by
  have:=fH h 0;rw[M0]at this;erw[Iz,this];rfl
 erw[this,gy];rfl
def Path.drop(h:Path g cs)(e:n<cs.length):Path g (cs.drop n):=by
 refine(by erw[Ne,PU];lia,λc d=>h.st c (List.mem_of_mem_drop d),λi u v b a=>?_);rw[PJ]at b a;exact h.step (n+i) u v b (by erw[<-a];congr 1)
def qZ:∀{cs:List Nat} {i u v:Nat},cs[i]? =AA u->cs[i+1]? =AA v->Ab g u v=AB->Fl g cs=AB
 | [],i,u,v,h,_,_=>by simp at h
 | [a],i,u,v,_,h,_=>by simp at h
 |a::b::r,0,u,v,d,c,e=>by
  cases d;cases c;erw[Fl,e];rfl
 |a::b::r,i+1,u,v,d,c,e=>by
  rw[Ba]at d c;erw[Fl,qZ d c e];cases Ab g a b<;>rfl
def yb:∀{cs:List Nat} {u:Nat},cs[0]? =AA u->An g u=AF->Fl g cs=AB
 | [],u,h,_=>by simp at h
 | [a],u,h,k=>by
  cases h;erw[Fl,k];rfl
 |a::b::r,u,h,k=>by
  cases h;erw[Fl];have:Ab g a b=AB:=by
   cases e:Ab g a b with
   |none=>rfl
   |some w=>
    have:=(dq e).1;unfold An at k;simp at k;exact absurd k this
  erw[this];rfl
structure Il(g:Aw)(cs:List Nat)(i n:Nat):Prop where
 lt:i<cs.length
 eq:Fl g cs=Cp (AA n) (Fl g (cs.drop i))
 st:∀u,cs[i]? =AA u->An g u=AC
def Il.start(h:cs[0]? =AA u)(k:An g u=AC):Il g cs 0 0:=by
 refine((AY.mp h).1,?_,λv e=>by rw[h]at e;cases e;exact k);erw[Su];cases Fl g cs with
 |none=>rfl
 |some x=>simp[Cp]
def Il.turn(h:Il g cs i n)(d:cs[i]? =AA u)(a:cs[i+1]? =AA v)(c:Ab g u v=AA w):Il g cs (i+1) (n+w):=by
 have b:=(AY.mp a).1;refine(b,?_,λx e=>?_);erw[h.eq,Go h.lt,Go b];have j:cs[i]=u:=(AY.mp d).2;have f:cs[i+1]=v:=(AY.mp a).2;erw[j,f,Fl,c];cases Fl g (v::cs.drop (i+1+1))with
 |none=>rfl
 |some y=>simp[Cp];lia
 rw[a]at e;cases e;have:=(dq c).2.1;unfold An;simpa using this
def Il.done(h:Il g cs (cs.length - 1) n):Fl g cs=AA n:=by
 have a:=h.lt;erw[h.eq,Go a,Lg (),Fl,h.st _ (AX a)];simp[Cp]
def oT:Ac s w=((alive s).filter λy=>y.1 !=w).map λy=>y.2.plan:=by
 unfold Ac alive;erw[NG,Dc,W7]
 congr 1
 refine PR λx _=>?_;simp[Bool.and_comm]
def jP:Ac s 0=(alive s).map λy=>y.2.plan:=by
 erw[oT]
 congr 1
 erw[PQ];intro y a;unfold alive at a;obtain⟨x,_,rfl⟩:=Du.mp a;simp
def gu:(AE k x)∈alive s↔k≠0/\s.walkers[k - 1]? =AA x/\x.here=AC:=by
 unfold alive;erw[Du];constructor;intro((y,i),b,e);cases e;have:=EJ.mp b;have a:=List.mem_zipIdx this.1;refine(by lia,?_,this.2);simp only[Wk];erw[a.2.2];simp;intro(d,a,c);refine((AE x (k - 1)),EJ.mpr (?_,c),?_);erw[List.mem_zipIdx_iff_getElem?];exact a;simp only;erw[show k - 1+1=k by lia]
def fU:FN s w=AA x↔(AE w x)∈alive s:=by
 erw[gu];unfold FN;cases e:s.walkers[w - 1]? with
 |none=>simp
 |some y=>
  simp only;constructor;intro h;split at h;rename_i q;cases h;exact(q.1,rfl,q.2);cases h;intro(c,b,a);cases b;erw[AJ (c,a)]
def jt:((alive s).map λy=>y.1).Nodup:=by
 unfold alive;erw[Dc];have h:((s.walkers.zipIdx).map λx=>x.2+1).Nodup:=by
  have:((s.walkers.zipIdx).map λx=>x.2+1)=(Ai s.walkers.length).map λi=>i+1:=by
   apply Ss;simp;intro i d c;simp
  erw[this];exact XB _ (λa b h e=>h (by simpa using e)) Si
 exact h.sublist ((W6).map _)
@[inline]def Kd.all:List Kd:=[.text,.door,.period,.Ia,.shift,.cell,.bound,.prices,.field,.cost,.height,.walker,.ticks,.trial,.tick,.row]
def Kd.mem(k:Kd):k∈Kd.all:=by cases k<;>decide
inductive Arg
 |num (x:Int)
 |row (l:List Int)
def EW:List Kd->List Int->Option (List Arg×List Int)
 | [],l=>AA (AE [] l)
 | _::_,[]=>AB
 |k::ks,x::l=>if k.Ck=AC then(if 0<=x/\x.toNat<=l.length then(EW ks (l.drop x.toNat)).map λy=>(AE (.row (l.take x.toNat)::y.1) y.2)else AB)
  else(EW ks l).map λy=>(AE (.num x::y.1) y.2)
inductive Fits:List Kd->List Arg->Prop
 |nil:Fits [] []
 |num {k:Kd} {ks:List Kd} {as:List Arg} (x:Int):k.Ck=AF->Fits ks as->Fits (k::ks) (.num x::as)
 |row {k:Kd} {ks:List Kd} {as:List Arg} (l:List Int):k.Ck=AC->Fits ks as->Fits (k::ks) (.row l::as)
def kG:∀{ks:List Kd} {l:List Int} {as:List Arg} {t:List Int},EW ks l=AA (AE as t)->Fits ks as
 | [],l,as,t,h=>by cases h;exact .nil
 | _::_,[],as,t,h=>by cases h
 |k::ks,x::l,as,t,h=>by
  rw[EW]at h;by_cases q:k.Ck=AC;rw[AJ q]at h;split at h;have((b,u),e,a):=Hl.mp h;cases a;exact .row _ q (kG e);cases h;rw[AK q]at h;have((b,u),e,a):=Hl.mp h;cases a;exact .num _ (by simpa using q) (kG e)
@[inline]def numsOf:List Arg->List Int
 | []=>[]
 | .num x::r=>x::numsOf r
 | .row _::r=>numsOf r
@[inline]def rowsOf:List Arg->List (List Int)
 | []=>[]
 | .num _::r=>rowsOf r
 | .row l::r=>l::rowsOf r
def nn:∀{ks:List Kd} {r:List Int} {xs:List (List Int)} {t:List Int},(∀k∈ks,k.Ck=AC)->Ot ks.length r=AA (AE xs t)->EW ks r=AA (AE (xs.map .row) t)
 | [],r,xs,t,_,h=>by cases h;rfl
 |k::ks,r,xs,t,a,h=>by
  rw[AS,Ot]at h;cases r with
  |nil=>rw[PyFlat.row]at h;cases h
  |cons x l=>
   rw[PyFlat.row]at h;erw[EW,AJ (a k FK)];by_cases q:0<=x/\x.toNat<=l.length;rw[AJ q]at h|-;simp only at h;cases e:Ot ks.length (l.drop x.toNat)with
   |none=>rw[e]at h;cases h
   |some y=>
    have(ys,u):=y;rw[e]at h;cases h;erw[nn (λk b=>a k (Eb _ b)) e];rfl
   rw[AK q]at h;cases h
def nu:∀{ks k2:List Kd} {r:List Int} {as:List Arg} {t:List Int},(∀k∈ks,k.Ck=AF)->ks.length<=r.length->EW k2 (r.drop ks.length)=AA (AE as t)->EW (ks ++ k2) r=AA (AE ((r.take ks.length).map .num ++ as) t)
 | [],k2,r,as,t,_,_,h=>by simpa using h
 |k::ks,k2,[],as,t,_,a,_=>by simp at a
 |k::ks,k2,x::r,as,t,b,a,h=>by
  erw[Ak,EW,AK (by erw[b k FK];simp)];erw[nu (ks:=ks) (λk c=>b k (Eb _ c)) (by simpa using a) (by simpa using h)];rfl
def wC{a:List (List Int)}:numsOf (xs.map .num ++ a.map .row)=xs:=by
 induction xs with
 |nil=>
  erw[BS,Ah];induction a with
  |nil=>rfl
  |cons l a b=>exact b
 |cons x xs b=>exact congrArg (x:: ·) b
def sf{xs:List Int}:rowsOf (xs.map .num ++ a.map .row)=a:=by
 induction xs with
 |nil=>
  erw[BS,Ah];induction a with
  |nil=>rfl
  |cons l a b=>show l::_=_;erw[b]
 |cons x xs b=>exact b
def sS(h:IN p=AA a):∃n:Nat,p=n/\n<20/\∃ks k2,Aa n=ks ++ k2/\ks.length=a.1/\k2.length=a.2/\(∀k∈ks,k.Ck=AF)/\∀k∈k2,k.Ck=AC:=by
 have e:∃n:Nat,p=n/\n<20:=by
  by_cases q:0<=p/\p<20;exact(p.toNat,by lia,by lia)
  ·unfold IN at h
   iterate 20 rw[AK ()]at h
   cases h
 obtain⟨n,rfl,c⟩:=e;refine(n,rfl,c,?_);revert a;have key:∀n:Fin 20,∀a,IN ((n.val:Nat):Int)=AA a->∃ks k2,Aa n.val=ks ++ k2/\ks.length=a.1/\k2.length=a.2/\(∀k∈ks,k.Ck=AF)/\∀k∈k2,k.Ck=AC:=by
  have d:∀n:Fin 20,IN ((n.val:Nat):Int)=AA (AE (((Aa n.val).filter λk=> !k.Ck).length) (((Aa n.val).filter λk=>k.Ck).length))/\Aa n.val=((Aa n.val).filter λk=> !k.Ck) ++ ((Aa n.val).filter λk=>k.Ck):=by decide
  intro n a h;have(g,f):=d n;rw[g]at h;cases h;exact(_,_,f,rfl,rfl,λk b=>by simpa using (EJ.mp b).2,λk b=>(EJ.mp b).2)
 intro a h;exact key (n,c) a h
def yk(h:SW IN (p::r)=AA (AE c t)):∃(n:Nat) (as:List Arg),p=n/\n<20/\EW (Aa n) r=AA (AE as t)/\c=((n:Int)::numsOf as)::rowsOf as:=by
 rw[SW]at h;cases e:IN p with
 |none=>rw[e]at h;cases h
 |some g=>
  have(a,i):=g;rw[e]at h;simp only at h;by_cases q:r.length<a;rw[AJ q]at h;cases h;rw[AK q]at h;obtain⟨n,rfl,j,ks,k2,m,d,f,l,k⟩:=sS e;simp only at d f;cases b:Ot i (r.drop a)with
  |none=>rw[b]at h;cases h
  |some y=>
   have(xs,u):=y;rw[b]at h;cases h;refine(n,(r.take a).map .num ++ xs.map .row,rfl,j,?_,?_);erw[m];have:=nu (ks:=ks) (k2:=k2) (r:=r) l () (nn k (by erw[f,d];exact b));erw[this,d];erw[wC,sf]
def kH:∀{ks:List Kd} {l:List Int} {as:List Arg} {t:List Int},EW ks l=AA (AE as t)->∃m,t=l.drop m/\m<=l.length
 | [],l,as,t,h=>by cases h;exact(0,rfl,DR _)
 | _::_,[],as,t,h=>by cases h
 |k::ks,x::l,as,t,h=>by
  rw[EW]at h;by_cases q:k.Ck=AC;rw[AJ q]at h;split at h;rename_i f;have((d,u),e,b):=Hl.mp h;cases b;have(m,a,c):=kH e;rw[NH]at a;rw[Fs]at c;refine(x.toNat+m+1,by erw[W9];exact a,by erw[AS];lia);cases h;rw[AK q]at h;have((d,u),e,b):=Hl.mp h;cases b;have(m,a,c):=kH e;exact(m+1,by erw[W9];exact a,by erw[AS];lia)
structure Cl where
 n:Nat
 as:List Arg
@[inline]def Cl.raw(c:Cl):List (List Int):=((c.n:Int)::numsOf c.as)::rowsOf c.as
inductive Calls:List Int->List Cl->Prop
 |nil:Calls [] []
 |cons {n:Nat} {r:List Int} {as:List Arg} {t:List Int} {cs:List Cl}:n<20->EW (Aa n) r=AA (AE as t)->Calls t cs->Calls ((n:Int)::r) (⟨n,as⟩::cs)
def qh:∀(f:Nat) (l:List Int) (raw:List (List (List Int))),LX IN f l=AA raw->∃cs,Calls l cs/\raw=cs.map Cl.raw
 | _,[],raw,h=>by
  have:raw=[]:=by
   cases ‹Nat›<;>(rw[LX]at h;cases h;rfl)
  exact([],.nil,this)
 | 0,_::_,raw,h=>by rw[LX]at h;cases h
 |f+1,p::r,raw,h=>by
  rw[LX]at h;cases e:SW IN (p::r)with
  |none=>rw[e]at h;cases h
  |some y=>
   have(c,t):=y;rw[e]at h;simp only at h;cases a:LX IN f t with
   |none=>rw[a]at h;cases h
   |some cs=>
    rw[a]at h;cases h;obtain⟨n,as,rfl,d,b,rfl⟩:=yk e;obtain⟨g,hd,rfl⟩:=qh f t cs a;exact((n,as)::g,.cons d b hd,rfl)
def jj(t:List Int):cut ((t.length:Int)::t)=AA (AE t []):=by
 unfold cut;simp
def MA:Nat->List Arg->Option Call
 | 0,[.row t]=>AA (.ground t)
 | 1,[.num a,.num b,.num c,.num d]=>AA (.door a b c d)
 | 2,[.num a,.num b]=>AA (.way a b)
 | 3,[.num a,.num b]=>AA (.prices a b)
 | 4,[.num a,.num b,.num c,.row l]=>AA (.proves a b c l)
 | 5,[.num a,.num b]=>AA (.within a b)
 | 6,[.num a]=>AA (.field a)
 | 7,[.num a,.num b]=>AA (.at_ a b)
 | 8,[.num a,.num b,.num c]=>AA (.change a b c)
 | 9,[.num a]=>AA (.walker a)
 | 10,[.num a,.num b]=>AA (.go a b)
 | 11,[.num a]=>AA (.plan a)
 | 12,[.num a]=>AA (.pass a)
 | 13,[.num a]=>AA (.where_ a)
 | 14,[.num a]=>AA (.remove a)
 | 15,[.num a]=>AA (.rest a)
 | 16,[.num a,.row l]=>AA (.try_ a l)
 | 17,[.num a,.num b]=>AA (.who a b)
 | 18,[.num a]=>AA (.cell a)
 | 19,[.row l]=>AA (.costOf l)
 | _,_=>AB
def EE(k:Kd):Arg->Bool
 | .num x=>inR x k.lo k.hi
 | .row l=>inR (l.length:Int) k.least k.most && l.all λx=>inR x k.lo k.hi
def VF:List Arg->Bool
 | _:: .num p:: .num o::_=>decide (o<=p)
 | _=>AC
def Eu(n:Nat)(as:List Arg):Bool:=((Aa n).zip as).all (λy=>EE y.1 y.2) && (!(n==1) ||VF as)
def BN:List Kd->List Arg->List Int
 |k::ks,.num x::as=>if k=.cell then x::BN ks as else BN ks as
 |k::ks,.row l::as=>if k=.trial\/k=.row then l ++ BN ks as else BN ks as
 | _,_=>[]
def Eh:List Kd->List Arg->List Int
 |k::ks,.num x::as=>if k=.walker then x::Eh ks as else Eh ks as
 |k::ks,.row l::as=>Eh ks as
 | _,_=>[]
@[inline]def refusal(s:St)(n:Nat)(as:List Arg):Option Int:=
 if Eu n as=AF then AA (-1)
 else if n=0 then AB
 else match s.ground with
 |none=>AA (-2)
 |some g=>if (BN (Aa n) as).any (λc=>decide ((AG g:Int)<=c))=AC then AA (-3)
  else if (Eh (Aa n) as).any (λw=>(FN s w.toNat).isNone)=AC then AA (-4)else AB
def Fits.n(h:Fits (k::ks) as)(e:k.Ck=AF):∃x r,as=.num x::r/\Fits ks r:=by
 cases h with
 |num x _ h=>exact(x,_,rfl,h)
 |row l q _=>rw[e]at q;cases q
def Fits.r(h:Fits (k::ks) as)(e:k.Ck=AC):∃x r,as=.row x::r/\Fits ks r:=by
 cases h with
 |num x q _=>rw[e]at q;cases q
 |row l _ h=>exact(l,_,rfl,h)
def Fits.e(h:Fits [] as):as=[]:=by cases h;rfl
def xq(i:n<20)(h:Fits (Aa n) as):∃x,MA n as=AA x/\Rs (Cl.raw (n,as))=Cl.raw (n,as)/\decode (VbwsalNeutral.row (Cl.raw (n,as)))=AA x/\II x=Eu n as:=by
 have key:∀(x lo j:Int),inR x lo j=AC↔lo<=x/\x<=j:=λx lo j=>by unfold inR;simp
 match n,i with
 | 0,_=>
  obtain⟨l,_,rfl,e⟩:=h.r rfl;cases e.e;refine(.ground l,rfl,rfl,?_,?_);show (match cut ((l.length:Int)::l)with |some (t,[])=>AA (Call.ground t) | _=>AB)=_;erw[jj];erw[DQ];simp[II,Eu,Aa,HM,EE,key,Kd.lo,Kd.hi,Kd.least,Kd.most];lia
 | 1,_=>
  obtain⟨a,_,rfl,e⟩:=h.n rfl;obtain⟨b,_,rfl,f⟩:=e.n rfl;obtain⟨c,_,rfl,g⟩:=f.n rfl;obtain⟨d,_,rfl,k⟩:=g.n rfl;cases k.e;refine(.door a b c d,rfl,rfl,rfl,?_);erw[DQ];simp[II,Eu,Aa,HM,EE,key,Kd.lo,Kd.hi,VF];lia
 | 2,_| 3,_| 5,_| 7,_| 10,_| 17,_=>
  obtain⟨a,_,rfl,e⟩:=h.n rfl;obtain⟨b,_,rfl,f⟩:=e.n rfl;cases f.e;refine(_,rfl,rfl,rfl,?_);erw[DQ];simp[II,Eu,Aa,HM,EE,key,Kd.lo,Kd.hi,LK]
 | 4,_=>
  obtain⟨a,_,rfl,e⟩:=h.n rfl;obtain⟨b,_,rfl,f⟩:=e.n rfl;obtain⟨c,_,rfl,g⟩:=f.n rfl;obtain⟨d,_,rfl,k⟩:=g.r rfl;cases k.e;refine(.proves a b c d,rfl,rfl,?_,?_);show (match cut ((d.length:Int)::d)with |some (p,[])=>AA (Call.proves a b c p) | _=>AB)=_;erw[jj];erw[DQ];simp[II,Eu,Aa,HM,EE,key,Kd.lo,Kd.hi,Kd.least,Kd.most,LK];lia
 | 6,_| 9,_| 11,_| 12,_| 13,_| 14,_| 15,_| 18,_=>
  obtain⟨a,_,rfl,e⟩:=h.n rfl;cases e.e;refine(_,rfl,rfl,rfl,?_);erw[DQ];simp[II,Eu,Aa,HM,EE,key,Kd.lo,Kd.hi,LK]
 | 8,_=>
  obtain⟨a,_,rfl,e⟩:=h.n rfl;obtain⟨b,_,rfl,f⟩:=e.n rfl;obtain⟨c,_,rfl,g⟩:=f.n rfl;cases g.e;refine(_,rfl,rfl,rfl,?_);erw[DQ];simp[II,Eu,Aa,HM,EE,key,Kd.lo,Kd.hi,LK]
 | 16,_=>
  obtain⟨a,_,rfl,e⟩:=h.n rfl;obtain⟨b,_,rfl,f⟩:=e.r rfl;cases f.e;refine(.try_ a b,rfl,rfl,?_,?_);show (match cut ((b.length:Int)::b)with |some (t,[])=>AA (Call.try_ a t) | _=>AB)=_;erw[jj];erw[DQ];simp[II,Eu,Aa,HM,EE,key,Kd.lo,Kd.hi,Kd.least,Kd.most,LK];lia
 | 19,_=>
  obtain⟨b,_,rfl,e⟩:=h.r rfl;cases e.e;refine(.costOf b,rfl,rfl,?_,?_);show (match cut ((b.length:Int)::b)with |some (t,[])=>AA (Call.costOf t) | _=>AB)=_;erw[jj];erw[DQ];simp[II,Eu,Aa,HM,EE,key,Kd.lo,Kd.hi,Kd.least,Kd.most,LK];lia
 |n+20,i=>exact absurd i ()
def gk(s:St)(cs:List Int)(k:Aw->St×List Int):Ja s cs k=match (match s.ground with
  |none=>AA (-2)
  |some g=>if cs.any (λc=>decide ((AG g:Int)<=c))=AC then AA (-3)
   else if ([]:List Int).any (λw=>(FN s w.toNat).isNone)=AC then AA (-4)else AB:Option Int)with
  |some z=>(AE s [z])
  |none=>Ja s cs k:=by
 unfold Ja;cases s.ground with
 |none=>rfl
 |some g=>dsimp only;split<;>rfl
def kE(s:St)(cs:List Int)(w:Int)(k:Aw->DI->St×List Int):Ja s cs (λg=>Mg s w (k g))=match (match s.ground with
  |none=>AA (-2)
  |some g=>if cs.any (λc=>decide ((AG g:Int)<=c))=AC then AA (-3)
   else if [w].any (λw=>(FN s w.toNat).isNone)=AC then AA (-4)else AB:Option Int)with
  |some z=>(AE s [z])
  |none=>Ja s cs (λg=>Mg s w (k g)):=by
 unfold Ja Mg;cases s.ground with
 |none=>rfl
 |some g=>
  erw[IX,List.any_nil,Bool.or_false];dsimp only;cases FN s w.toNat<;>split<;>rfl
def refused(j:n<20)(h:Fits (Aa n) as)(g:MA n as=AA x)(l:II x=Eu n as):Vbwsal.step s x=match refusal s n as with
  |some z=>(AE s [z])
  |none=>act s x:=by
 unfold Vbwsal.step refusal;erw[l];by_cases q:Eu n as=AF;erw[AJ q,AJ q];erw[AK q,AK q];clear l q
 match n,j with
 | 0,_=>rfl
 | 1,_=>
  obtain⟨a,_,rfl,e⟩:=h.n rfl;obtain⟨b,_,rfl,f⟩:=e.n rfl;obtain⟨c,_,rfl,i⟩:=f.n rfl;obtain⟨d,_,rfl,k⟩:=i.n rfl;cases k.e;cases g;exact gk _ _ _
 | 2,_| 3,_| 5,_| 7,_| 17,_=>
  obtain⟨a,_,rfl,e⟩:=h.n rfl;obtain⟨b,_,rfl,f⟩:=e.n rfl;cases f.e;cases g;exact gk _ _ _
 | 10,_=>
  obtain⟨a,_,rfl,e⟩:=h.n rfl;obtain⟨b,_,rfl,f⟩:=e.n rfl;cases f.e;cases g;exact kE s [b] a _
 | 4,_=>
  obtain⟨a,_,rfl,e⟩:=h.n rfl;obtain⟨b,_,rfl,f⟩:=e.n rfl;obtain⟨c,_,rfl,i⟩:=f.n rfl;obtain⟨d,_,rfl,k⟩:=i.r rfl;cases k.e;cases g;exact gk _ _ _
 | 6,_| 9,_| 18,_| 12,_=>
  obtain⟨a,_,rfl,e⟩:=h.n rfl;cases e.e;cases g;exact gk _ _ _
 | 11,_| 13,_| 14,_| 15,_=>
  obtain⟨a,_,rfl,e⟩:=h.n rfl;cases e.e;cases g;exact kE s [] a _
 | 8,_=>
  obtain⟨a,_,rfl,e⟩:=h.n rfl;obtain⟨b,_,rfl,f⟩:=e.n rfl;obtain⟨c,_,rfl,i⟩:=f.n rfl;cases i.e;cases g;exact gk _ _ _
 | 16,_=>
  obtain⟨a,_,rfl,e⟩:=h.n rfl;obtain⟨b,_,rfl,f⟩:=e.r rfl;cases f.e;cases g;erw[show BN (Aa 16) [Arg.num a,Arg.row b]=b from BF b];exact kE s b a _
 | 19,_=>
  obtain⟨b,_,rfl,e⟩:=h.r rfl;cases e.e;cases g;erw[show BN (Aa 19) [Arg.row b]=b from BF b];exact gk _ _ _
 |n+20,j=>exact absurd j ()
def Ff(s:St)(c:Cl):St×List Int:=Rr s (Rs c.raw)
def sC(a:n<20)(h:Fits (Aa n) as):∃x,MA n as=AA x/\Ff s (n,as)=match refusal s n as with
  |some z=>(AE s [z])
  |none=>act s x:=by
 have(x,b,e,d,c):=xq a h;refine(x,b,?_);unfold Ff Rr Vbwsal.does;erw[e,d];exact refused a h b c
def Ed:St->List Cl->List Int
 | _,[]=>[]
 |s,c::r=>((Ff s c).2.length:Int)::((Ff s c).2 ++ Ed (Ff s c).1 r)
def Ga:St->List Cl->St
 |s,[]=>s
 |s,c::r=>Ga (Ff s c).1 r
def mx:∀(cs:List Cl) (s:St),PyFlat.told (PyFlat.played Rr s ((cs.map Cl.raw).map Rs))=Ed s cs
 | [],s=>rfl
 |c::r,s=>by
  erw[Ax,Ax,PyFlat.played,Ed,<-mx r];rfl
def nM:∀(cs:List Cl) (s:St) (c:Cl),Ga s (cs ++ [c])=(Ff (Ga s cs) c).1
 | [],s,c=>rfl
 |d::cs,s,c=>nM cs _ c
def mz:∀(cs:List Cl) (s:St) (c:Cl),Ed s (cs ++ [c])=Ed s cs ++ (((Ff (Ga s cs) c).2.length:Int)::(Ff (Ga s cs) c).2)
 | [],s,c=>by simp[Ed,Ga]
 |d::cs,s,c=>by
  show Ed s (d::(cs ++ [c]))=_;erw[Ed,mz cs,Ed,Ga];simp
def zN(h:Rt l=AC):∃cs,Calls l cs/\0<cs.length/\cs.length<=100/\OI l=Ed start cs/\(Ed start cs).length<=10000000/\∀c∈cs,PyInside.call PyVbwsal.bound c.raw=AC:=by
 unfold Rt at h;cases e:LX IN l.length l with
 |none=>rw[e]at h;cases h
 |some raw=>
  rw[e]at h;simp only[DN]at h;have((((i,f),b),j),d):=h;obtain⟨cs,a,rfl⟩:=qh _ _ _ e;have g:OI l=Ed start cs:=by
   unfold OI PyVbwsal.calls;erw[e];exact mx cs start
  refine(cs,a,?_,?_,g,?_,λc a=>?_);cases cs with
  |nil=>simp at i
  |cons=>simp
  unfold PyFlat.atMost at f;simpa using f;unfold PyFlat.short at d;erw[<-g];exact DT d;unfold PyInside.calls at b;rw[FR]at b;exact b _ (Du.mpr (c,a,rfl))
structure JV(g:Aw):Prop where
 wide:0<g.wide
 few:AG g<=150
 rows:∃n,AG g=n * g.wide
 doors:g.doors.length=6
 which:∀c∈g.cells,∀d,c.door=AA d->d<6
 per:∀d∈g.doors,0<d.period
structure HS(g:Aw)(now:Nat)(x:DI):Prop where
 begun:x.plan.begun=now
 path:Path g x.plan.cells
 len:x.plan.cells.length<=101
structure Dn(s:St):Prop where
 AB:s.ground=AB->s=start
 Ej:∀g,s.ground=AA g->JV g
 fields:∀g,s.ground=AA g->∀f∈s.fields,IH g f
 Et:s.fields.length<=3
 FS:∀g,s.ground=AA g->∀y∈alive s,HS g s.now y.2
 GB:s.walkers.length<=6
 now:s.now<=1000000
def Dh:List DI->Nat->List (Nat×DI)
 | [],_=>[]
 |x::a,k=>if x.here=AC then(AE (k+1) x)::Dh a (k+1)else Dh a (k+1)
def mM:∀(a:List DI) (k:Nat),((a.zipIdx k).filter λx=>x.1.here).map (λx=>(AE (x.2+1) x.1))=Dh a k
 | [],k=>rfl
 |x::a,k=>by
  erw[Sd,Ec,Dh];by_cases q:x.here=AC;erw[AJ q,AJ q,Ax,mM a (k+1)];erw[AK q,AK q,mM a (k+1)]
def fT(s:St):alive s=Dh s.walkers 0:=mM s.walkers 0
def ju:∀(a:List DI) (k:Nat),∀y∈Dh a k,k<y.1
 | [],k,y,h=>by simp[Dh]at h
 |x::a,k,y,h=>by
  rw[Dh]at h;split at h;rcases Aj.mp h with rfl|h;exact M4 _;have:=ju a (k+1) y h;lia;have:=ju a (k+1) y h;lia
def rA:∀(a:List DI) (k i:Nat) (y:DI),y.here=AC->(∃x,a[i]? =AA x/\x.here=AC)->Dh (a.set i y) k=(Dh a k).map λz=>if z.1=k+i+1 then(AE z.1 y)else z
 | [],k,i,y,_,(x,h,_)=>by simp at h
 |x::a,k,0,y,c,(f,h,d)=>by
  cases h;erw[Bm,Dh,Dh,AJ c,AJ d,Ax,AJ (by simp)]
  congr 1
  erw[Kk (g:=id),O8];intro z j;have:=ju a (k+1) z j;erw[AK ()];rfl
 |x::a,k,i+1,y,c,(f,h,d)=>by
  have b:=rA a (k+1) i y c (f,h,d);erw[Bn,Dh,Dh];have e:k+1+i+1=k+ (i+1) + 1:=by lia
  rw[e]at b;by_cases q:x.here=AC;erw[AJ q,AJ q,Ax,AK (by simp),b];erw[AK q,AK q,b]
def rB:∀(a:List DI) (k i:Nat) (y:DI),y.here=AF->(∃x,a[i]? =AA x/\x.here=AC)->Dh (a.set i y) k=(Dh a k).filter λz=>z.1 !=k+i+1
 | [],k,i,y,_,(x,h,_)=>by simp at h
 |x::a,k,0,y,c,(f,h,d)=>by
  cases h;erw[Bm,Dh,Dh,AK (by simp[c]),AJ d,Ec,AK (by simp)];symm;erw[PQ];intro z g;have:=ju a (k+1) z g;simp;lia
 |x::a,k,i+1,y,c,(f,h,d)=>by
  have b:=rB a (k+1) i y c (f,h,d);erw[Bn,Dh,Dh];have e:k+1+i+1=k+ (i+1) + 1:=by lia
  rw[e]at b;by_cases q:x.here=AC;erw[AJ q,AJ q,Ec,AJ (by simp),b];erw[AK q,AK q,b]
def mN:∀(a:List DI) (k:Nat) (y:DI),y.here=AC->Dh (a ++ [y]) k=Dh a k ++ [(AE (k+a.length+1) y)]
 | [],k,y,b=>by
  show Dh (y::[]) k=[(AE (k+1) y)];erw[Dh,AJ b];rfl
 |x::a,k,y,b=>by
  have c:=mN a (k+1) y b;erw[Ak,Dh,Dh,c,AS];have e:k+1+a.length+1=k+ (a.length+1) + 1:=by lia
  erw[e];split<;>rfl
def rC(f:DI->DI)(b:∀x,(f x).here=x.here):∀(a:List DI) (k:Nat),Dh (a.map f) k=(Dh a k).map λz=>(AE z.1 (f z.2))
 | [],k=>rfl
 |x::a,k=>by
  erw[Ax,Dh,Dh,b,rC f b a];split<;>rfl
def mL(h:(AE w x)∈alive s)(a:y.here=AC):alive (G3 s w y)=(alive s).map λz=>if z.1=w then(AE z.1 y)else z:=by
 have(d,c,b):=gu.mp h;erw[fT,fT];have:=rA s.walkers 0 (w - 1) y a (x,c,b);rw[show 0+ (w - 1) + 1=w by lia]at this;exact this
def qz(h:(AE w x)∈alive s)(a:y.here=AF):alive (G3 s w y)=(alive s).filter λz=>z.1 !=w:=by
 have(d,c,b):=gu.mp h;erw[fT,fT];have:=rB s.walkers 0 (w - 1) y a (x,c,b);rw[show 0+ (w - 1) + 1=w by lia]at this;exact this
def zR(h:y∈alive s):0<y.1/\y.1<=s.walkers.length:=by
 have(k,x):=y;have(b,a,_):=gu.mp h;have:=(AY.mp a).1;simp only;lia
def gY:(alive s).length<=s.walkers.length:=by
 unfold alive;erw[AL];exact Dj (Fq _ _) (by simp)
def qe:∀c∈Dm t,∀d,c.door=AA d->d<6:=by
 intro c e d hd;induction t using Dm.induct with
 |case1 a b r q f=>
  rw[Dm,AJ q]at e;rcases Aj.mp e with rfl|e;unfold cellOf at hd;simp only at hd;rw[DN]at q;have:=DT q.1;split at hd;cases hd;lia;cases hd;exact f e
 |case2 a b r q=>rw[Dm,AK q]at e;simp at e
 |case3 t h=>
  rw[Dm]at e;simp at e;exact h
def nW:∀{t:List Nat} {cs:List Cell},Rows k t cs->2 * cs.length<=t.length:=by
 intro t cs h;induction h with
 |last b a=>erw[hZ,b,a];lia
 |more b a e c=>
  have d:=(AY.mp a).1;erw[BZ,hZ,b];rw[Fs]at c;lia
def sY:∀{t:List Nat} {cs:List Cell},Rows k t cs->∀c∈cs,∀d,c.door=AA d->d<6:=by
 intro t cs h;induction h with
 |last f e=>exact qe
 |more f e g b=>
  intro c a;rcases Az.mp a with a|a;exact qe c a;exact b c a
def nh(a:1<=k)(h:Rows k t cs)(b:t.length<=300):JV {wide:=k,cells:=cs}:=by
 have(n,e,_):=sX h;refine(a,?_,(n,e),by simp,sY h,λd hd=>?_);have:=nW h;show cs.length<=150;lia;have:=W8 hd;erw[this];decide
def yg(G:JV g):JV (changed g c {cost:=k,height:=h}):=by
 refine(G.wide,by erw[de];exact G.few,by erw[de];exact G.rows,G.doors,λx a d hd=>?_,G.per);rcases Lb a with a|rfl;exact G.which x a d hd;cases hd
def Path.changed(h:Path g cs)(f:c∉cs):Path (changed g c x) cs:=by
 have ne:∀u∈cs,u≠c:=λu a e=>f (by erw[<-e];exact a);refine(h.ne,λu a=>by erw[jn u (ne u a)];exact h.st u a,λi u v d b=>?_);erw[l5 u v (ne u (Ar d)) (ne v (Ar b))];exact h.step i u v d b
def Path.doors(h:Path g cs):Path {g with doors:=a} cs:=(h.ne,h.st,h.step)
def tJ:∀{t:List Nat} {cs:List Cell},Rows k t cs->∀p∈places t k,isCell t p=AC:=by
 intro t cs h;induction h with
 |last j i=>
  intro p a;unfold places at a;have(d,c):=EJ.mp a;have d:=EC.mp d;rw[DN]at c;have b:=DT c.1;rw[i]at d;rw[Ou (show p<2 * k+1 by lia)]at b;have:=jl _ (p / 2) (by erw[j];lia);rw[show 2 * (p / 2)=p by lia]at this;exact this
 |more j i d l=>
  rename_i t cs;intro p a;unfold places at a;have(c,b):=EJ.mp a;have c:=EC.mp c;rw[DN]at b;have g:=DT b.1;have f:=DT b.2;by_cases q:p<2 * k+1;rw[Ou q]at g;have n:p≠2 * k:=λz=>f (by erw[z,DA,i];rfl);have:=jl _ (p / 2) (by erw[j];lia);rw[show 2 * (p / 2)=p by lia]at this;exact this;have e:p=(2 * k+1) + (p - (2 * k+1)):=by lia
  have m:p - (2 * k+1)∈places (t.drop (2 * k+1)) k:=by
   unfold places;refine EJ.mpr (EC.mpr (by erw[Fs];lia),?_);erw[DN];rw[e,Nat.add_mod_left]at g;rw[e]at f;exact(BH g,BH (by erw[gE];exact f))
  have:=l _ m;rw[lT,<-e]at this;exact this
def jG(h:refusal s n as=AB):Eu n as=AC/\(n≠0->∃g,s.ground=AA g/\(∀c∈BN (Aa n) as,c<(AG g:Int))/\∀w∈Eh (Aa n) as,∃x,FN s w.toNat=AA x):=by
 unfold refusal at h;by_cases q:Eu n as=AF;rw[AJ q]at h;cases h;rw[AK q]at h;refine(by simpa using q,λd=>?_);rw[AK d]at h;cases e:s.ground with
 |none=>rw[e]at h;cases h
 |some g=>
  rw[e]at h;simp only at h;by_cases a:((BN (Aa n) as).any λc=>decide ((AG g:Int)<=c))=AC;rw[AJ a]at h;cases h;rw[AK a]at h;by_cases b:((Eh (Aa n) as).any λw=>(FN s w.toNat).isNone)=AC;rw[AJ b]at h;cases h;refine(g,rfl,λc f=>?_,λw hw=>?_);have:=a;rw[Eo]at this;refine Int.lt_of_not_ge λz=>this (c,f,BH z);have:=b;rw[Eo]at this;cases i:FN s w.toNat with
  |none=>exact absurd (w,hw,by erw[i];rfl) this
  |some x=>exact(x,rfl)
def ie:inR x lo a=AC↔lo<=x/\x<=a:=by unfold inR;simp
def dy(a:s.ground=AA g)(h:∀c∈cs,c<(AG g:Int)):Ja s cs k=k g:=by
 unfold Ja;erw[a];simp only;erw[AK];intro z;have(c,b,e):=Eo.mp z;have:=h c b;have:=DT e;lia
def gq(h:FN s w.toNat=AA x):Mg s w k=k x:=by
 unfold Mg;erw[h]
def sK(G:JV g):Dn {ground:=AA g}:=
 (λh=>(by cases h),λg' h=>by cases h;exact G,λg' h f b=>(by cases b),DR _,λg' h y a=>(by simp[alive]at a),DR _,DR _)
def so:relax {g with doors:=a} b d=relax g b d:=rfl
def nO:∀(n:Nat) (d:DJ),Ew {g with doors:=a} b n d=Ew g b n d
 | 0,d=>rfl
 |n+1,d=>by
  erw[Ew,Ew,so];simp only[nO n]
def ya:EF {g with doors:=a} t=EF g t:=by
 unfold EF;erw[nO];rfl
def sM(O:Dn s)(b:s.ground=AA g)(c:0<x.period):Dn {s with ground:=AA {g with doors:=g.doors.set d x}}:=by
 have G:=O.Ej g b;refine(λh=>(by cases h),λg' h=>?_,λg' h f e=>?_,O.Et,λg' h y a=>?_,O.GB,O.now);cases h;exact(G.wide,G.few,G.rows,by show (g.doors.set d x).length=6;erw[F7];exact G.doors,G.which,λy a=>by
  rcases Lb a with a|rfl;exact G.per y a;exact c)
 cases h;have(j,i):=O.fields g b f e;exact(j,by erw[ya];exact i);cases h;have:=O.FS g b y a;exact(this.begun,this.path.doors,this.len)
def sL(O:Dn s)(b:s.ground=AA g)(d:t<AG g)(i:s.fields.length<3):Dn {s with fields:=s.fields ++ [KJ g t]}:=by
 refine(λh=>(by rw[show s.ground=AB from h]at b;cases b),λg' h=>O.Ej g' h,λg' h f a=>?_,?_,λg' h y c=>O.FS g' h y c,O.GB,O.now);have e:g'=g:=Ap ((show s.ground=AA g' from h).symm.trans b);subst e;rcases Az.mp a with a|a;exact O.fields g' h f a;erw[Av.mp a];exact(d,rfl);show (s.fields ++ [KJ g t]).length<=3;erw[BZ];simp;lia
def sF(O:Dn s)(b:s.ground=AA g)(j:An g c=AC)(l:s.walkers.length<6):Dn {s with walkers:=s.walkers ++ [{plan:={begun:=s.now,cells:=[c]},left:=0}]}:=by
 refine(λh=>(by rw[show s.ground=AB from h]at b;cases b),λg' h=>O.Ej g' h,λg' h=>O.fields g' h,O.Et,λg' h y d=>?_,?_,O.now);have e:g'=g:=Ap ((show s.ground=AA g' from h).symm.trans b);subst e;rw[fT]at d;have a:y∈Dh (s.walkers ++ [{plan:={begun:=s.now,cells:=[c]},left:=0}]) 0:=d;rw[mN _ _ _ rfl,<-fT]at a;rcases Az.mp a with a|a;exact O.FS g' h y a;erw[Av.mp a];refine(rfl,(by simp,λu f=>by erw[Av.mp f];exact j,λi u v m k=>?_),by simp);simp at k;show (s.walkers ++ _).length<=6;erw[BZ];simp;lia
def zQ(a:y.here=AC):alive {s with walkers:=s.walkers ++ [y]}=alive s ++ [(AE (s.walkers.length+1) y)]:=by
 erw[fT,fT];show Dh (s.walkers ++ [y]) 0=_;erw[mN _ _ _ a,Gk]
def jC:(G3 s w y).walkers.length=s.walkers.length:=by
 unfold G3;exact F7
def sG(O:Dn s)(a:s.ground=AA g)(d:(AE w x)∈alive s)(c:y.here=AC)(h:HS g s.now y):Dn (G3 s w y):=by
 refine(λh=>(by rw[show s.ground=AB from h]at a;cases a),λg' h=>O.Ej g' h,λg' h=>O.fields g' h,O.Et,λg' h' z b=>?_,by erw[jC];exact O.GB,O.now);have e:g'=g:=Ap ((show s.ground=AA g' from h').symm.trans a);subst e;rw[mL d c]at b;obtain⟨u,f,rfl⟩:=Du.mp b;split;exact h;exact O.FS g' a u f
def sI(O:Dn s)(a:s.ground=AA g)(d:(AE w x)∈alive s)(c:y.here=AF):Dn (G3 s w y):=by
 refine(λh=>(by rw[show s.ground=AB from h]at a;cases a),λg' h=>O.Ej g' h,λg' h=>O.fields g' h,O.Et,λg' h' z b=>?_,by erw[jC];exact O.GB,O.now);have e:g'=g:=Ap ((show s.ground=AA g' from h').symm.trans a);subst e;rw[qz d c]at b;exact O.FS g' a z (EJ.mp b).1
def i0:alive {s with now:=s.now+n,walkers:=s.walkers.map (GS g (s.now+n))}=(alive s).map λz=>(AE z.1 (GS g (s.now+n) z.2)):=by
 erw[fT,fT];exact rC (GS g (s.now+n)) (λx=>rfl) _ _
def sJ(O:Dn s)(a:s.ground=AA g)(d:s.now+n<=1000000):Dn {s with now:=s.now+n,walkers:=s.walkers.map (GS g (s.now+n))}:=by
 refine(λh=>(by rw[show s.ground=AB from h]at a;cases a),λg' h=>O.Ej g' h,λg' h=>O.fields g' h,O.Et,λg' h' z b=>?_,by show (s.walkers.map _).length<=6;erw[AL];exact O.GB,d);have e:g'=g:=Ap ((show s.ground=AA g' from h').symm.trans a);subst e;rw[i0]at b;obtain⟨u,c,rfl⟩:=Du.mp b;have W:=O.FS g' a u c;have i:=Fb.mpr W.path.ne;have f:=W.len;show HS g' (s.now+n) (GS g' (s.now+n) u.2);erw[<-W.begun,pH W.path.ne];exact(rfl,W.path.drop (),by show (u.2.plan.cells.drop _).length<=101;erw[Fs];lia)
def xG{s:St}(W:HS g s.now x):(GS g (s.now+n) x).plan.cells=x.plan.cells.drop (min n (x.plan.cells.length - 1))/\(GS g (s.now+n) x).left=Ex g x.left (x.plan.cells.take (min n (x.plan.cells.length - 1) + 1)) - (n - min n (x.plan.cells.length - 1)):=by
 erw[<-W.begun,pH W.path.ne];exact(rfl,rfl)
def ou(hw:0<g.wide)(h:IH g f)(b:c<AG g)(S:Ew (changed g c x) AC (AG (changed g c x) * 2) (Hw g (changed g c x) f c)=(AE (EF (changed g c x) f.goal) n)):
  IK g (changed g c x) f c=(AE ({goal:=f.goal,costs:=EF (changed g c x) f.goal}) (AE (((Ai (AG g)).filter λu=>(at_ f.costs u).isSome && comes g f c u).length) n)):=by
 have a:=wX (x:=x) (h.gc hw) h.1 b;dsimp only at a;unfold IK;dsimp only;erw[a,S];rfl
def uB(O:Dn s)(b:s.ground=AA g)(h:(Ac s 0).any (D9 s.now c)=AF):∀y∈alive s,c∉y.2.plan.cells:=by
 intro y a d;have W:=O.FS g b y a;have:(Ac s 0).any (D9 s.now c)=AC:=by
  erw[jP,Gp,Eo];refine(y,a,?_);show D9 s.now c y.2.plan=AC;erw[<-W.begun,kZ W.path.ne];simpa using d
 rw[h]at this;cases this
def sN(O:Dn s)(a:s.ground=AA g)(d:(Ac s 0).any (D9 s.now c)=AF)(i:fs.length=s.fields.length)(j:∀f∈fs,IH (changed g c {cost:=k,height:=h}) f):
  Dn {s with ground:=AA (changed g c {cost:=k,height:=h}),fields:=fs}:=by
 refine(λh=>(by cases h),λg' h=>by cases h;exact yg (O.Ej g a),λg' h f e=>by cases h;exact j f e,by show fs.length<=3;erw[i];exact O.Et,λg' h y b=>?_,O.GB,O.now);cases h;have W:=O.FS g a y b;exact(W.begun,W.path.changed (uB O a d y b),W.len)
def r9(hw:0<g.wide)(f:u<AG g)(i:c<AG g)(h:u≠c)(j:u∉BK g c):DE (changed g c x) u=DE g u:=by
 unfold DE;erw[l7];have key:∀l:List Nat,(∀v∈l,v≠c)->l.filterMap (λv=>(Ab (changed g c x) u v).map λk=>(AE v k))=l.filterMap λv=>(Ab g u v).map λk=>(AE v k):=by
  intro l;induction l with
  |nil=>intro _;rfl
  |cons a l e=>
   intro d;erw[Ho,Ho,l5 u a h (d a FK),e λv b=>d v (Eb _ b)]
 exact key _ λv b z=>j (gX hw f i (by erw[<-z];exact b))
def zP{F:Nat->Nat->Bool}:((BK g u).all λv=>match Ab g u v with
  |none=>AC
  |some w=>F v w)=(DE g u).all λa=>F a.1 a.2:=by
 erw[DQ,FR,FR];constructor;intro h (v,k) b;have e:=eJ.mp b;have:=h v (dq e).2.2.1;rw[e]at this;exact this;intro h v c;cases e:Ab g u v with
 |none=>rfl
 |some w=>exact h (AE v w) (eJ.mpr e)
def tD(e:s<AG g)(d:t<AG g):Mf g s t n p=(decide (p.length=AG g) && (decide (p.getD s 0<=0) && (decide ((n:Int)<=p.getD t 0) && (Ai (AG g)).all λu=>(DE g u).all λa=>decide (p.getD a.1 0<=p.getD u 0+ (a.2:Int))))):=by
 unfold Mf;by_cases h:p.length=AG g;have c:p.getD s 1=p.getD s 0:=lZ () _ _;have b:p.getD t (-1)=p.getD t 0:=lZ () _ _;erw[c,b,BH h];have:(p.length==AG g)=AC:=by simpa using h
 erw[this]
 congr 4
 funext u;exact zP (F:=λv w=>decide (p.getD v 0<=p.getD u 0+ (w:Int)));erw[DH h];have:(p.length==AG g)=AF:=by simpa using h
 erw[this];rfl
def drop_cons{a:Type}{l:List a}{i:Nat}{x:a}{r:List a}(h:l.drop i=x::r):l[i]? =AA x/\r=l.drop (i+1)/\i<l.length:=by
 have b:i<l.length:=by
  refine Nat.lt_of_not_le λz=>?_;rw[Lg z]at h;cases h
 rw[Go b]at h;cases h;exact(AX b,rfl,b)
def su{l:List Int}(h:EW (k::ks) (l.drop pl)=AA (AE rest t)):
  ∃x,l[pl]? =AA x/\pl<l.length/\((k.Ck=AC/\0<=x/\pl+1+x.toNat<=l.length/\∃a,rest=.row ((l.drop (pl+1)).take x.toNat)::a/\EW ks (l.drop (pl+1+x.toNat))=AA (AE a t))\/
   (k.Ck=AF/\∃a,rest=.num x::a/\EW ks (l.drop (pl+1))=AA (AE a t))):=by
 cases e:l.drop pl with
 |nil=>rw[e,EW]at h;cases h
 |cons x r=>
  obtain⟨i,rfl,g⟩:=drop_cons e;rw[e,EW]at h;refine(x,i,g,?_);by_cases q:k.Ck=AC;rw[AJ q]at h;by_cases b:0<=x/\x.toNat<=(l.drop (pl+1)).length;rw[AJ b]at h;have((f,u),c,d):=Hl.mp h;cases d;rw[Fs]at b;refine .inl (q,b.1,by lia,f,rfl,?_);rw[NH]at c;exact c;rw[AK b]at h;cases h;rw[AK q]at h;have((f,u),c,d):=Hl.mp h;cases d;exact .inr (by simpa using q,f,rfl,c)
def Calls.next{l:List Int}(h:Calls (l.drop i) cs)(j:i<l.length):∃(n:Nat) (as:List Arg) (a:List Cl) (t:List Int),cs=(n,as)::a/\l[i]? =AA (n:Int)/\n<20/\EW (Aa n) (l.drop (i+1))=AA (AE as t)/\Calls t a:=by
 cases e:l.drop i with
 |nil=>
  have:=congrArg List.length e;rw[Fs]at this;simp at this;lia
 |cons x r=>
  obtain⟨f,rfl,g⟩:=drop_cons e;rw[e]at h;cases h with
  |cons c b d=>exact(_,_,_,_,rfl,f,c,b,d)
def Calls.stop(h:Calls [] cs):cs=[]:=by
 cases h;rfl
def Calls.len(h:Calls l cs):cs.length<=l.length:=by
 induction h with
 |nil=>exact Au _
 |cons c b f a=>
  have(m,e,d):=kH b;rw[e,Fs]at a;erw[AS,AS];lia
def Calls.fits(h:Calls l cs):∀c∈cs,c.n<20/\Fits (Aa c.n) c.as:=by
 induction h with
 |nil=>intro c b;simp at b
 |cons f e b d=>
  intro c a;rcases Aj.mp a with rfl|a;exact(f,kG e);exact d c a
def Fits.len(h:Fits ks as):as.length=ks.length:=by
 induction h with
 |nil=>rfl
 |num x q h a=>erw[AS,AS,a]
 |row l q h a=>erw[AS,AS,a]
def Fits.at_(h:Fits ks as):∀(i:Nat) (k:Kd) (a:Arg),ks[i]? =AA k->as[i]? =AA a->(k.Ck=AF/\∃x,a=.num x)\/(k.Ck=AC/\∃l,a=.row l):=by
 induction h with
 |nil=>intro i k a h;simp at h
 |num x q h d=>
  intro i k a c b;cases i with
  |zero=>cases c;cases b;exact .inl (q,x,rfl)
  |succ i=>exact d i k a (by simpa using c) (by simpa using b)
 |row l q h d=>
  intro i k a c b;cases i with
  |zero=>cases c;cases b;exact .inr (q,l,rfl)
  |succ i=>exact d i k a (by simpa using c) (by simpa using b)
def mC:∀{ks:List Kd} {as:List Arg} {k:Kd} {a:Arg},ks.length=as.length->BN (ks ++ [k]) (as ++ [a])=BN ks as ++ BN [k] [a]
 | [],[],k,a,_=>by erw[Ah,Ah];cases a<;>rfl
 | [],_::_,k,a,h=>by simp at h
 | _::_,[],k,a,h=>by simp at h
 |k0::ks,.num x::as,k,a,h=>by
  have b:=mC (ks:=ks) (as:=as) (k:=k) (a:=a) (by simpa using h);show BN (k0::(ks ++ [k])) (.num x::(as ++ [a]))=_;erw[BN,BN,b];split<;>rfl
 |k0::ks,.row l::as,k,a,h=>by
  have b:=mC (ks:=ks) (as:=as) (k:=k) (a:=a) (by simpa using h);show BN (k0::(ks ++ [k])) (.row l::(as ++ [a]))=_;erw[BN,BN,b];split;erw[Jq];rfl
def JF(k:Kd):Arg->Option Int
 | .num x=>if k=.walker then AA x else AB
 | .row _=>AB
def j0:∀{ks:List Kd} {as:List Arg},ks.length=as.length->Eh ks as=(Ai ks.length).filterMap λi=>(ks[i]?).bind λk=>(as[i]?).bind λa=>JF k a
 | [],[],_=>rfl
 | [],_::_,h=>by simp at h
 | _::_,[],h=>by simp at h
 |k0::ks,a::as,h=>by
  have b:=j0 (ks:=ks) (as:=as) (by simpa using h);erw[AS,Sh,Ho,List.filterMap_map];have e:((λi=>((k0::ks)[i]?).bind λk=>((a::as)[i]?).bind λa=>JF k a)∘Nat.succ)=λi=>(ks[i]?).bind λk=>(as[i]?).bind λa=>JF k a:=by
   funext i;simp
  erw[e,<-b];simp only[Bo,Option.bind_some];cases a with
  |num x=>
   erw[Eh];unfold JF;split<;>rfl
  |row l=>rfl
def zK(h:Fits (Aa n) as):((Aa n).zip as).all (λy=>EE y.1 y.2)=((Ai (Aa n).length).map λi=>((Aa n)[i]?).any λk=>(as[i]?).any λa=>EE k a).all id:=by
 have f:=h.len;erw[PV,DQ,FR,FR];constructor;intro q i b;have b:=EC.mp b;have c:(Aa n)[i]? =AA (Aa n)[i]:=AX b;have d:as[i]? =AA (as[i]'()):=AX ();have:=q (AE ((Aa n)[i]) (as[i]'())) (Ar (i:=i) (JC.mpr (c,d)));show (((Aa n)[i]?).any λk=>(as[i]?).any λa=>EE k a)=AC;erw[c,d];exact this;intro q (k,a) e;have(i,b):=DP e;have(c,d):=JC.mp b;have:=q i (EC.mpr (AY.mp c).1);have this:(((Aa n)[i]?).any λk=>(as[i]?).any λa=>EE k a)=AC:=this;rw[c,d]at this;exact this
end RW
end
section
namespace RW
open PySem PySem.Spec PyProof.Rows L2 L3 Vbwsal
def GR(mg:Str->Option AI)(x:Str)(a:AD):Prop:=mg x=AA (.ref a)
def oO(h:GR X.mg x a)(b:Gl X x:=by rfl)(c:(x==("__debug__":Str))=AF:=by decide):PE X (.Name x pos) (tC (.ref a)):=oP b h rfl c
def pQ:∀j k:Kd,Bh j=Bh k->j=k:=by
 have:∀j∈Kd.all,∀k∈Kd.all,Bh j=Bh k->j=k:=by decide +kernel
 exact λj k h=>this j j.mem k k.mem h
structure K8(P:ET)(w:Do)(K:Ao)(mg:Str->Option AI)(kF kR kL:List (Key×V))(lc:AD):Prop where
 Jx:FD P w K mg "FORMS" kF
 MJ:FD P w K mg "RANGES" kR
 K4:FD P w K mg "LENGTHS" kL
 Aa:∀n:Nat,n<20->∃a,A9 kF (AW (n:Int))=AA (.ref a)/\∀H,BB K H a ((Aa n).map λk=>V.str (Bh k))
 ranges:∀k:Kd,∃a,A9 kR (DL (Bh k))=AA (.ref a)/\∀H,BB K H a [V.int k.lo,V.int k.hi]
 jY:∀k:Kd,k.Ck=AC->∃a,A9 kL (DL (Bh k))=AA (.ref a)/\∀H,BB K H a [V.int k.least,V.int k.most]
 jU:∀k:Kd,k.Ck=AF->A9 kL (DL (Bh k))=AB
 XI:GR mg "LISTS_OF_CELLS" lc
 lists:∀H,BB K H lc [V.str "trial",V.str "row"]
 Qv:GI mg "DOOR" 1
 JO:mg "zip"=AB
 N5:mg "all"=AB
 C2:mg "len"=AB
inductive DW(H:Hp):List Arg->List V->Prop
 |nil:DW H [] []
 |num {as:List Arg} {vs:List V} (x:Int):DW H as vs->DW H (.num x::as) (.int x::vs)
 |row {as:List Arg} {vs:List V} (l:List Int) (p:AD):H p=AA (.lst (l.map V.int))->DW H as vs->DW H (.row l::as) (.ref p::vs)
def DW.keep{b:Hp}(h:DW H as vs)(k:∀p xs,V.ref p∈vs->H p=AA (.lst xs)->b p=AA (.lst xs)):DW b as vs:=by
 induction h with
 |nil=>exact .nil
 |num x h a=>exact .num x (a λp xs d=>k p xs (Eb _ d))
 |row l p e h a=>exact .row l p (k p _ FK e) (a λq xs c=>k q xs (Eb _ c))
def DW.same(h:DW H as vs)(s:AH H a):DW a as vs:=h.keep λp xs _ e=>s _ _ e
def DW.len(h:DW H as vs):vs.length=as.length:=by
 induction h with
 |nil=>rfl
 |num x h a=>erw[AS,AS,a]
 |row l p e h a=>erw[AS,AS,a]
def DW.snoc(h:DW H as vs)(k:DW H b us):DW H (as ++ b) (vs ++ us):=by
 induction h with
 |nil=>exact k
 |num x h a=>exact .num x a
 |row l p e h a=>exact .row l p e a
def DW.at_(h:DW H as vs):∀(i:Nat) (a:Arg) (v:V),as[i]? =AA a->vs[i]? =AA v->(∃x,a=.num x/\v=.int x)\/∃l p,a=.row l/\v=.ref p/\H p=AA (.lst (l.map V.int)):=by
 induction h with
 |nil=>intro i a v h;simp at h
 |num x h d=>
  intro i a v c b;cases i with
  |zero=>cases c;cases b;exact .inl (x,rfl,rfl)
  |succ i=>exact d i a v (by simpa using c) (by simpa using b)
 |row l p e h d=>
  intro i a v c b;cases i with
  |zero=>cases c;cases b;exact .inr (l,p,rfl,rfl,e)
  |succ i=>exact d i a v (by simpa using c) (by simpa using b)
inductive P9(K:Ao)(vs:List V)(H:Hp)(Q:VK)(E:XK):Prop
 |mk:∀x a lo hi,vs=[.int x,.ref a]->BB K H a [V.int lo,V.int hi]->Q (.bl (KI x lo hi)) H->P9 K vs H Q E
inductive QB(vs:List V)(H:Hp)(Q:VK)(E:XK):Prop
 |mk:∀k a v,vs=[.str (Bh k),v]->DW H [a] [v]->Fits [k] [a]->(∀H',AH H H'->Q (.bl (EE k a)) H')->QB vs H Q E
inductive QQ(vs:List V)(H:Hp)(Q:VK)(E:XK):Prop
 |mk:∀n gv as us,vs=[nV n,.ref gv]->n<20->H gv=AA (.lst us)->DW H as us->Fits (Aa n) as->(∀H',AH H H'->Q (.bl (Eu n as)) H')->QQ vs H Q E
inductive QM(vs:List V)(H:Hp)(Q:VK)(E:XK):Prop
 |mk:∀n gv as us,vs=[nV n,.ref gv]->n<20->H gv=AA (.lst us)->DW H as us->Fits (Aa n) as->(BN (Aa n) as).length<=50000->(∀q H',H q=AB->AH H H'->H' q=AA (.lst ((BN (Aa n) as).map V.int))->Q (.ref q) H')->QM vs H Q E
inductive Pq(vs:List V)(H:Hp)(Q:VK)(E:XK):Prop
 |mk:∀n gv as us,vs=[nV n,.ref gv]->n<20->H gv=AA (.lst us)->DW H as us->Fits (Aa n) as->(∀q H',H q=AB->AH H H'->H' q=AA (.lst ((Eh (Aa n) as).map V.int))->Q (.ref q) H')->Pq vs H Q E
def xT(k:Kd):k.most<=300:=by cases k<;>decide
def ij(n:Nat):(Aa n).length<=4:=by
 have z:∀x∈HM,x.length<=4:=by decide
 unfold Aa;erw[DA];cases e:HM[n]? with
 |none=>exact DR _
 |some x=>exact z x (Ar e)
def vP(g:Ag e "is_within" "is_within" UX f fd):AV m w e mg base AZ 1 f fd ["number","ends"] (P9 e):=by
 exists g.go ["number","ends"],l,i,j;obtain⟨x,a,lo,c,rfl,d,k⟩:=h;refine(_,(aF (aI (jN fD fD (aJ gU (pv 1) aG) (pv 0) (aJ gU (pv 1) aG)))),?_);refine(.ref a,rfl,a,_,_,V.int lo,rfl,rfl,d,rfl,.int x,rfl,lo,x,rfl,rfl,_,rfl,?_);unfold KI at k;by_cases b:lo<=x;rw[BH b,Fu]at k;rw[AJ (BH b)];exact(.ref a,rfl,a,_,_,V.int c,rfl,rfl,d,rfl,x,c,rfl,rfl,k);rw[DH b,Hq]at k;rw[AK (by rw[DH b];decide)];exact k
def vS(Y:Ag c "is_in_range" "is_in_range" Ua f fd)(T:K8 C w c mg av aj an Z)(q:A8 C w c mg base 1 "is_within" ["number","ends"] (P9 c)):AV C w c mg base AZ 2 f fd ["kind","value"] QB:=by
 exists Y.go ["kind","value","number"],a2,G,j;obtain⟨b,a,v,rfl,d,O,k⟩:=h;refine(_,(aE (aX (fK (t6 T.K4 (pv 0))) (aF (aI (ag q j rfl (aA (pv 1) (aA (gQ T.MJ (pv 0)) aD))))) aZ) (aF (aI (iK (ag q j rfl (aA (bD dj (by rfl) T.C2 EB (aA (pv 1) aD)) (aA (gQ T.K4 (pv 0)) aD))) (gO (bD (qX rfl) (by rfl) T.N5 boot_all (aA (dk rfl G (dP (pv 1)) (own:=[(AE ("number") 2)]) (dO (by kernel_rfl)) (λ_ _ _ _ _=>(aa 2)) (λ_ _ _ _ _=>dv) (λ_ _ _ _ _=>(ag q j rfl (aA (pv 2) (aA (gQ T.MJ (pv 0)) aD))))) aD))))))),?_);have(t,z,u):=T.ranges b;exists N,M;refine(.str (Bh b),rfl,DL (Bh b),rfl,_,rfl,?_);rcases O.at_ 0 b a rfl rfl with⟨n,x,rfl⟩ | ⟨n,l,rfl⟩;rw[T.jU b n];cases d with
 |num _ d=>
  refine(.int x,rfl,.str (Bh b),rfl,DL (Bh b),_,rfl,z,x,t,b.lo,b.hi,rfl,u H,?_);exact k H λ_ _ e=>e
 have(la,B,L):=T.jY b n;rw[B];subst M;cases d with
 |row _ p m d=>
  refine(.ref p,rfl,p,_,rfl,m,.str (Bh b),rfl,DL (Bh b),_,rfl,B,_,la,b.least,b.most,rfl,L H,_,rfl,?_);rw[AL];have S:EE b (.row l)=(KI (l.length:Int) b.least b.most && l.all λx=>KI x b.lo b.hi):=rfl;rw[S]at k;cases o:KI (l.length:Int) b.least b.most with
  |false=>
   rw[o]at k;exact k H λ_ _ e=>e
  |true=>
   rw[o,Fu]at k;rw[AJ rfl];refine(.ref p,rfl,p,rfl,(_,AN.of m),λD R=>?_);refine eM (K:=c) (a:=p) (xs:=l.map V.int) (λi=>(l[i]?).map λx=>V.bl (KI x b.lo b.hi)) R m (by rw[AL];exact aN (by have a1:=(ie.mp o).2;have a0:=xT b;lia)) (λi x X J r=>?_) (λX r U=>?_);intro a3 a4 I ab;obtain⟨y,g,rfl⟩:=dN J;refine(rfl,?_);unfold Er;dsimp only;rw[AJ rfl];refine(.int y,rfl,.str (Bh b),rfl,DL (Bh b),_,rfl,z,y,t,b.lo,b.hi,rfl,u _,?_);exact I _ _ (by rw[g];rfl) (λ_ _ e=>e);refine(D,l.map (λx=>KI x b.lo b.hi),rfl,AN.of ?_,?_);rw[U,Dc,AL]
   congr 2
   exact eX λi y g=>by rw[g];rfl
   rw[PV];exact k _ r
structure JQ(mg:Str->Option AI):Prop where
 GJ:mg "min"=AB
 C2:mg "len"=AB
 Df:mg "range"=AB
 Gx:mg "list"=AB
 Gy:mg "enumerate"=AB
def Hy:Pos:=(351,32,351,58)
def Hx:Str:=("least_costs":Str) ++ ".<locals>." ++ "<lambda>"
inductive Ks(C P:AD)(vs:List V)(H:Hp)(Q:VK)(E:XK):Prop
 |mk:∀a g pc ph ps sa s,vs=[.ref a,nV s]->El C H a g pc ph ps sa->s<AG g->TabAt H P Hy Hx->(∀p H',H p=AB->AQ [P] H H'->TabAt H' P Hy Hx->H' p=AA (.lst ((A0 g s).map oV))->Q (.ref p) H')->Ks C P vs H Q E
def dM(h:c<d.length):(d.map oV)[c]? =AA (oV (at_ d c)):=by
 erw[BC,AX h];unfold at_;erw[DA,AX h];rfl
def nY(n:Nat):(Ay n [V.Al]).flatten=(Ay n (AB:Option Nat)).map oV:=by
 erw[List.map_replicate];induction n with
 |zero=>rfl
 |succ n a=>erw[Kj,NE,a,Kj];rfl
def TabAt.same(T:TabAt H d pos q)(s:AH H e):TabAt e d pos q:=by
 rcases T with t| ⟨c,b,a⟩;exact .inl (s _ _ t);exact .inr (c,s _ _ b,s _ _ a)
def TabAt.upd(T:TabAt H g pos q)(h:∀u,H p=AA u->∃xs,u=.lst xs):TabAt (L2.upd H p o) g pos q:=by
 have n:∀b u,H b=AA u->(∀xs,u≠.lst xs)->b≠p:=λb u e f z=>by
  rw[z]at e;obtain⟨xs,rfl⟩:=h u e;exact f xs rfl
 rcases T with t| ⟨c,d,a⟩;exact .inl (by erw[aC (n _ _ t λ_ z=>by cases z)];exact t);exact .inr (c,by erw[aC (n _ _ d λ_ z=>by cases z)];exact d,by erw[aC (n _ _ a λ_ z=>by cases z)];exact a)
def kj:∀(n:Nat) (l:List Nat),l.Nodup->(∀c∈l,c<n)->l.length<=n
 | 0,[],_,_=>Au _
 | 0,a::_,_,h=>absurd (h a FK) ()
 |n+1,l,b,h=>by
  have f:=kj n (l.erase n) (b.erase n) λc e=>by
   have d:=(Sx b).mp e;have i:=h c d.2;have g:=d.1;lia
  have:=List.length_erase (a:=n) (l:=l);split at this<;>lia
structure VT(C:AD)(H:Hp)(a:AD)(g:Aw)(pc ph ps:AD)(sa:List AD)(PT:AD)(st:Nat)(pk pw:AD)(m:Nat)(σ:L2.St)(H':Hp):Prop where
 ex:∃(d:DJ) (ws:List Nat) (x y z:Option V),m=todo (AG g) d ws/\σ=[AA (.ref a),AA (nV st),AA (.ref pk),AA (.ref pw),x,y,z]/\LG (AG g) (Ab g) st d ws/\H' pk=AA (.lst (d.map oV))/\H' pw=AA (.lst (ws.map nV))/\AQ [PT] H H'/\TabAt H' PT Hy Hx
structure zh(H:Hp)(a:AD)(g:Aw)(PT:AD)(st m0 x:Nat)(d:DJ)(w0:List Nat)(pk pw:AD)(i:Nat)(σ:L2.St)(H':Hp):Prop where
 ex:∃(d':DJ) (wt:List Nat) (y z:Option V),σ=[AA (.ref a),AA (nV st),AA (.ref pk),AA (.ref pw),AA (nV m0),y,z]/\JX (AG g) x d w0 ((DE g m0).take i) d' wt/\H' pk=AA (.lst (d'.map oV))/\H' pw=AA (.lst (wt.map nV))/\AQ [PT] H H'/\TabAt H' PT Hy Hx
def nS:J7 ["land","start","costs","waiting","cell","near","step"] ["land","start"] (FW QS):=(rfl,rfl,rfl,by decide +kernel,rfl,by decide +kernel,by decide +kernel)
def vL(eo:G0 ce "least_costs" "least_costs" QS f fd he M)(T:JQ mg)(a0:Dx ce mg C)(B:BMain mg base)(gv:A6 gr w ce mg base 1 C "is_wall" ["self","cell"] (JG C)):
  AV gr w ce mg base AZ 2 f fd ["land","start"] (Ks C M):=by
 refine eo.ok nS (λvs H Q E h=>?_) (λA outer s H vs Q E d3 h=>?_);obtain⟨a,g,pc,ph,ps,sa,st,rfl,_⟩:=h;rfl;obtain⟨a,g,pc,ph,ps,sa,st,rfl,L,cp,bm,k⟩:=h;have g5:=nS.nd;refine(_,(aE (aS 2 (aV oU (af (aA ai aD)) (aH (pv 0)))) (aE (aX (dU (ae (pv 0) gv d3 (aA (pv 1) aD))) (aF (aI (pv 2))) aZ) (aE (fO aG (fQ (pv 2) (pv 1) set_list)) (aE (aS 3 (af (aA (pv 1) aD))) (aE (iH D0 (n0 (pv 3) (by intro _;rfl)) (aE (aS 4 (tR (x:="place") (y:="costs") (i:=2) (rfl,rfl,rfl,by decide +kernel,rfl,rfl,by decide,by decide,by decide) rfl rfl rfl rfl (d3.mono (DR _)) rfl rfl eo.hd B rfl T.GJ (λ_ _ _ _ _ _=>rfl) (pv 3))) (aE (dW (dw FJ WI PySem.F.type_list_remove wR (pv 3) (aA (pv 4) aD))) (aF (dg D0 rfl (dP (aJ aL (aH (pv 0)) (pv 4))) (eP rfl (dX (aa 5) (dX (aa 6) eO))) (aF (aX (aW dz (aJ aL (pv 2) (pv 5)) ai (aU _)) (aE (dW (dw FJ Fo F0 eA (pv 3) (aA (pv 5) aD))) (aF (fO (aV dG (aJ aL (pv 2) (pv 4)) (pv 6)) (fQ (pv 2) (pv 5) set_list)))) (aF (fO (bD (iw rfl) (by rfl) T.GJ boot_min (aA (aJ aL (pv 2) (pv 5)) (aA (aV dG (aJ aL (pv 2) (pv 4)) (pv 6)) aD))) (fQ (pv 2) (pv 5) set_list)))))))))) (aF (aI (pv 2)))))))),?_);have(go,fs,b5,g8,ds,g7,g6,m1,_):=L.b.ins;exists N,S;simp![b5,a0.cl,a0.EX,ds];have ha:=L.b.few;refine(aN (),λp d6=>?_);have fq:L2.upd H p (.lst [V.Al]) a=AA (.ins C go fs):=by rw[aC (aT b5 d6)];exact b5
 simp![fq,a0.cl,a0.EX,ds];refine(by lia,by lia,aN (),λl d4=>?_);have dp:AH H (L2.upd H p (.lst [V.Al])):=AH.upd d6;have a6:H l=AB:=dp.free d4;rw[Ep,nY];have U:AH H (L2.upd (L2.upd H p (.lst [V.Al])) l (.lst ((Ay (AG g) AB).map oV))):=dp.trans (AH.upd d4);generalize f0:L2.upd (L2.upd H p (.lst [V.Al])) l (.lst ((Ay (AG g) AB).map oV))=b0 at U;have c6:b0 l=AA (.lst ((Ay (AG g) AB).map oV)):=by rw[<-f0,aB]
 subst S;exists N,S;simp![U _ _ b5,m1];refine(a,g,pc,ph,st,rfl,L.b.same U,cp,_,rfl,ak (λhw=>?_) (λhw=>?_));simp at hw;simp![];refine k l b0 a6 (AH.but U) (bm.same U) ?_;rw[qY L.b.wide hw];exact c6;simp at hw;subst S;exists N,S;simp![c6,AL,NB,cp,JA];have hf:AQ [l,M] b0 (L2.upd b0 l (.lst (((Ay (AG g) AB).set st (AA 0)).map oV))):=AQ.upd (by simp);have gg:(Ld oV (Ay (AG g) AB)).set st (V.int 0)=((Ay (AG g) AB).set st (AA 0)).map oV:=by rw[JA];rfl
 rw[gg];subst S;exists N,S;simp![];refine(aN (),λn a5=>?_);subst S;have Y:l≠n:=λz=>by rw[z,aB]at a5;cases a5
 have e6:b0 n=AB:=by rw[aC Y.symm]at a5;exact a5
 have c2:H n=AB:=U.free e6;exists N,S;refine(λm a1 dd=>VT C H a g pc ph ps sa M st l n m a1 dd,(_,(_,[st],_,_,_,rfl,rfl,yJ cp,?_,?_,?_,?_)),?_);rw[aC Y,aB];rw[aB];rfl;intro b o e an;have ew:b≠l:=aT e a6;have ev:b≠n:=aT e c2;rw[aC ev,aC ew];exact U b o e;refine TabAt.upd (TabAt.upd (bm.same U) ?_) ?_;intro u e;rw[c6]at e;cases e;exact(_,rfl);intro u e;rw[a5]at e;cases e;rintro m a1 dd ⟨d,D,x,y,z,rfl,rfl,O,cd,ca,ej,b7⟩;refine(.ref n,rfl,!(D.map nV).isEmpty,.inl (_,AN.of ca,rfl),?_);have ci:∀(X:Hp) (b:AD) (xs:List V),TabAt X M Hy Hx->X b=AA (.lst xs)->b≠M:=λX b xs eu e z=>by
  have(q,c1):=eu.aY;rw[z,c1]at e;cases e
 cases b2:D with
 |nil=>
  subst b2;refine lQ ?_;subst S;refine(.ref l,rfl,k l dd a6 ej b7 ?_);rw[cd,yL L.b.wide hw O]
 |cons g4 g0=>
  rw[<-b2];have e7:0<D.length:=by rw[b2];simp
  have fj:(!(D.map nV).isEmpty)=AC:=by rw[b2];rfl
  rw[fj];refine lP (λdn en=>∃m',m'<todo (AG g) d D/\VT C H a g pc ph ps sa M st l n m' dn en,λdn en h=>h,?_);exists gs,c3;refine(.ref n,rfl,n,D,l,d.map oV,rfl,ca,e7,rfl,cd,λw e3=>?_,b7,λj cg b4 fb c5 fy=>?_);have(G,ec):=O.fin w e3;exact(G,by rw[dM (dY ec),ec];rfl);have(R,aj):=O.fin j b4;have e8:j<AG g:=by have:=dY aj;rw[O.len]at this;exact this
  have f1:=c5 _ _ cd (by simpa using ci _ _ _ b7 cd);have f2:=c5 _ _ ca (by simpa using ci _ _ _ b7 ca);have f3:AQ [M] H cg:=ej.trans c5;subst c3;exists gs,c3;simp![iD f2];refine sh f2 b4 ?_;subst c3;have f6:L2.upd cg n (.lst ((D.erase j).map nV)) l=AA (.lst (d.map oV)):=by rw[aC Y];exact f1
  have c4:AQ [M] H (L2.upd cg n (.lst ((D.erase j).map nV))):=λb o e an=>by
   rw[aC (aT e c2)];exact f3 b o e an
  have fx:TabAt (L2.upd cg n (.lst ((D.erase j).map nV))) M Hy Hx:=TabAt.upd fy λu e=>by rw[f2]at e;cases e;exact(_,rfl)
  have c8:=L.keep c4 bm.aY;obtain⟨ab,ei⟩:∃ab,sa[j]? =AA ab:=(_,AX (by rw[L.len];exact e8));have(b1,d1,co):=L.each j ab ei;have(gi,f5,ef,_):=c8.b.ins;have er:∀c∈D,∀r,at_ d c=AA r->R<=r:=λc bl r e=>fb c bl r R (by rw[dM (dY e),e];rfl) (by rw[dM (dY aj),aj];rfl);have cr:∀v,Ab g j j≠AA v:=λv e=>sA L.b.wide e rfl;have el:∀(X:Hp),AQ [M] H X->X ab=AA (.lst (b1.map V.ref)):=λX fr=>fr _ _ d1 (by simpa using ci _ _ _ bm d1);refine(.ref a,rfl,a,C,gi,f5,.ref ps,rfl,ef,a0.cl,a0.JK,c8.fld _ _ ef,nV j,rfl,ps,sa.map V.ref,(j:Int),.ref ab,rfl,rfl,c8.steps,by rw[aM,BC,ei];rfl,ab,rfl,(_,AN.of (el _ c4)),?_);refine fS (K:=ce) (a:=ab) (xs:=b1.map V.ref) (zh H a g M st j R d (D.erase j) l n) (d,D.erase j,_,_,rfl,yM O.len (O.nd.erase j),f6,aB,c4,fx) (λi a1 c9 _ (_,_,_,_,_,_,_,_,Z,_)=>AN.of (el _ Z)) ?_ ?_;rintro i v0 a1 c9 a4 ⟨J,a2,eq,ep,rfl,I,g1,g2,Z,b6⟩;obtain⟨t,d2,rfl⟩:∃t,b1[i]? =AA t/\v0=V.ref t:=by
   rw[BC]at a4;cases q:b1[i]? with
   |none=>rw[q]at a4;cases a4
   |some t=>rw[q]at a4;exact(t,rfl,(Ap a4).symm)
  have fe:i<(DE g j).length:=by rw[<-co.1];exact(AY.mp d2).1
  obtain⟨⟨v,G⟩,b3⟩:∃et,(DE g j)[i]? =AA et:=(_,AX fe);have cm:=co.2 i t _ d2 b3;have e4:=Z _ _ cm (by
   have(q,c1):=bm.aY;intro z;rw[Av.mp z,c1]at cm;cases cm)
  have e5:Ab g j v=AA G:=eJ.mp (Ar b3);have a3:v<J.length:=by rw[I.len];exact(eI e5).2
  have c7:at_ J j=AA R:=by
   rcases I.same j with q| ⟨ey,q,_⟩;rw[q];exact aj;exact absurd (eJ.mp (HC q)) (cr ey)
  have ea:j<J.length:=dY c7;have es:∀c∈D.erase j,at_ d c≠AB:=λc bl=>by
   have(r,ck):=O.fin c (Lc bl);rw[ck];simp
  have g3:a2.length<=AG g:=kj _ _ I.nd λc bl=>by
   have:at_ J c≠AB:=by
    rcases (I.mem c).mp bl with h|h;have(r,ck):=O.fin c (Lc h);have(gw,ez,_):=I.le c r ck;rw[ez];simp;exact h.2
   cases q:at_ J c with
   |none=>exact absurd q this
   |some r=>have:=dY q;rw[I.len]at this;exact this
  refine(t,[nV v,nV G],rfl,BB.of e4,rfl,nV v,[nV G],rfl,nV G,[],rfl,rfl,?_);simp![g1,dM a3];cases e:at_ J v with
  |none=>
   simp![oV];exists hg,fz;simp![iD g2,g2,AL];refine(dS (by rw[AL];lia),?_);subst fz;have f4:∀o,L2.upd c9 n o l=AA (.lst (J.map oV)):=λo=>by rw[aC Y];exact g1
   simp![f4,dM ea,c7,oV,AL,a3];refine(J.set v (AA (R+G)),a2 ++ [v],_,_,rfl,?_,?_,?_,?_,?_);rw[take_snoc b3];exact yO I es (by rw[<-I.len];exact a3) e;rw[aB,JA];rfl;rw[aC Y.symm,aB,Dd];rfl;intro b o av an;rw[aC (aT av a6),aC (aT av c2)];exact Z b o av an;refine TabAt.upd (TabAt.upd b6 ?_) ?_;intro u e;rw[g2]at e;cases e;exact(_,rfl);intro u e;rw[aC Y,g1]at e;cases e;exact(_,rfl)
  |some r=>
   simp![oV];simp![g1,dM ea,dM a3,e,c7,oV,AL,a3];refine(J.set v (AA (min r (R+G))),a2,_,_,rfl,?_,?_,?_,?_,?_);rw[take_snoc b3];exact yN I e;rw[aB,JA];have ge:(V.int (if (R:Int) + (G:Int)<(r:Int)then(R:Int) + (G:Int)else(r:Int)))=oV (AA (min r (R+G))):=by
    show V.int _=V.int _
    congr 1
    split<;>lia
   rw[<-ge];rw[aC Y.symm];exact g2;intro b o av an;rw[aC (aT av a6)];exact Z b o av an;refine TabAt.upd b6 ?_;intro u e;rw[g1]at e;cases e;exact(_,rfl)
  rintro a1 c9 ⟨J,a2,eq,ep,rfl,I,g1,g2,Z,b6⟩;rw[AL,co.1,EI]at I;exact(_,yK O b4 aj cr (λv G=>eJ) I,J,a2,_,_,_,rfl,rfl,yI O b4 aj er (λ_ _ _ e=>step_pos e) cr (λv G=>eJ) I,g1,g2,Z,b6)
abbrev Ee(H:Hp)(p:AD)(d:DJ):Prop:=H p=AA (.lst (d.map oV))
inductive QN(C:AD)(vs:List V)(H:Hp)(Q:VK)(E:XK):Prop
 |mk:∀a g pc ph p s c y,vs=[.ref a,.ref p,nV c]->FG C H a g pc ph->Ee H p (A0 g s)->at_ (A0 g s) c=AA y->c≠s->(∀u x w H',before g (A0 g s) c=AA u->at_ (A0 g s) u=AA x->Ab g u c=AA w->y=x+w->AH H H'->Q (nV u) H')->QN C vs H Q E
structure zr(H:Hp)(a:AD)(g:Aw)(p:AD)(s c:Nat)(q:AD)(ns:List Nat)(i:Nat)(σ:L2.St)(H':Hp):Prop where
 ex:∃z:Option V,σ=[AA (.ref a),AA (.ref p),AA (nV c),AA (.ref q),z]/\AH H H'/\H' q=AA (.lst (((ns.take i).filter λu=>(Ab g u c).isSome && (at_ (A0 g s) u).isSome && Cp (at_ (A0 g s) u) (Ab g u c)==at_ (A0 g s) c).map nV))
def vw(c6:Ag G "cell_before" "cell_before" Uy f fd)(T:JQ mg)(d3:Dx G mg C)(c8:A6 an w G mg base 2 C "neighbours" ["self","cell"] (Kr C))(c9:A6 an w G mg base 2 C "has_step" ["self","cell","near"] (NZ C))(c7:A6 an w G mg base 2 C "step_cost" ["self","cell","near"] (Lm C)):
  AV an w G mg base AZ 3 f fd ["land","costs","cell"] (QN C):=by
 exists c6.go ["land","costs","cell","found","near"],d2,dd,Z;obtain⟨a,g,pc,ph,p,st,c,y,rfl,L,a4,l,c1,k⟩:=h;have TT:=fG (g:=g) (s:=st) L.wide;have t:c<AG g:=by have:=dY l;rw[TT.len]at this;exact this
 refine(_,(aE (aS 3 (af aD)) (aE (dg D0 rfl (dP (ae (pv 0) c8 Z (aA (pv 2) aD))) (aa 4) (aF (aX (PW.pt (fY (dU (ae (pv 0) c9 Z (aA (pv 4) (aA (pv 2) aD)))) (fX (aW dh (aV dG (aJ aL (pv 1) (pv 4)) (ae (pv 0) c7 Z (aA (pv 4) (aA (pv 2) aD)))) (aJ aL (pv 1) (pv 2)) (aU _))))) (aF (dW (dw FJ Fo F0 eA (pv 3) (aA (pv 4) aD)))) aZ))) (aF (aI (bD (qW rfl) (by rfl) T.GJ boot_min (aA (pv 3) aD)))))),?_);have(c4,fs,ab,d1,ds,dp,dn,m1,cg,ce,cd,dm):=L.ins;exists N,aj;simp![];refine(aN (),λq a3=>?_);subst aj;have X:AH H (L2.upd H q (.lst [])):=AH.upd a3;exists N,aj;refine(.ref a,rfl,a,c4,fs,rfl,X _ _ ab,cg,nV c,rfl,a,g,pc,ph,c,rfl,L.same X,t,λn c5 a5 a0 b0=>(n,rfl,(_,AN.of b0),?_));have b7:=X.trans a0;have bs:c5 q=AA (.lst []):=a0 _ _ aB;have ca:q≠n:=λz=>by rw[z]at bs;rw[<-z,aB]at a5;cases a5
 refine fS (K:=G) (a:=n) (xs:=(BK g c).map nV) (λi J I=>zr H a g p st c q (BK g c) i J I/\I n=AA (.lst ((BK g c).map nV))) ((AB,rfl,b7,bs),b0) (λi J I _ h=>AN.of h.2) ?_ ?_;rintro i v0 J I D ⟨⟨z,rfl,d,eq⟩,U⟩;obtain⟨v,O,rfl⟩:∃v,(BK g c)[i]? =AA v/\v0=nV v:=by
  rw[BC]at D;cases q:(BK g c)[i]? with
  |none=>rw[q]at D;cases D
  |some v=>rw[q]at D;exact(v,rfl,(Ap D).symm)
 have S:=Ar O;have M:=L.near t S;have a6:c∈BK g v:=gX L.wide t M S;simp![d _ _ ab,ce];refine(a,g,pc,ph,v,c,rfl,L.same d,M,t,_,rfl,ak (λr=>?_) (λr=>?_));have R:Ab g v c=AA (E6 g v c):=by rw[gf a6,AJ r]
 have(bk,c2):=nJ L.wide R;have(b1,a1,_):=TT.closed c v y bk l c2;have ck:v<(A0 g st).length:=by rw[TT.len];exact M
 have bm:c<(A0 g st).length:=by rw[TT.len];exact t
 simp![d _ _ a4,d _ _ ab,dM ck,dM bm,a1,l,oV,cd];refine(a,g,pc,ph,v,c,rfl,L.same d,M,t,?_);simp![d _ _ a4,dM bm,l,oV];have bl:((Ab g v c).isSome && (at_ (A0 g st) v).isSome && Cp (at_ (A0 g st) v) (Ab g v c)==at_ (A0 g st) c)=decide (b1+E6 g v c=y):=by
  rw[R,a1,l,DQ];simp[Cp]
 refine ak (λj=>?_) (λj=>?_);simp only[Db]at j;simp![eq];refine(by rw[AL];exact dS (Dj (Fq _ _) (by rw[FQ];have:=iy g c;lia)),((_,rfl,?_,?_),?_));intro b o e;rw[aC (aT e a3)];exact d b o e;rw[aB,take_snoc O,Hn,Ec,bl,BH (),Dd];rfl;rw[aC ca.symm];exact U;simp only[Db]at j;refine((_,rfl,d,?_),U);rw[take_snoc O,Hn,Ec,bl,DH ()];simp[eq];refine((_,rfl,d,?_),U);have R:Ab g v c=AB:=by rw[gf a6,AK r]
 rw[take_snoc O,Hn,Ec,R];simp[eq];rintro J I ⟨⟨z,rfl,d,eq⟩,U⟩;rw[AL,EI]at eq;subst aj;obtain⟨b6,b2,b4,cm,cp,ci⟩:∃u x w,at_ (A0 g st) u=AA x/\Ab g u c=AA w/\y=x+w:=by
  rcases TT.HG c y l with⟨z,_⟩ |h;exact absurd z c1;exact h
 have Y:∀u x w,at_ (A0 g st) u=AA x->Ab g u c=AA w->y=x+w->u∈(BK g c).filter λu=>(Ab g u c).isSome && (at_ (A0 g st) u).isSome && Cp (at_ (A0 g st) u) (Ab g u c)==at_ (A0 g st) c:=λu x w r j B=>
  EJ.mpr (gX L.wide (eI j).1 t (dq j).2.2.1,iB.mpr (x,w,r,j,by rw[l,B]));generalize cr:(BK g c).filter (λu=>(Ab g u c).isSome && (at_ (A0 g st) u).isSome && Cp (at_ (A0 g st) u) (Ab g u c)==at_ (A0 g st) c)=ns at Y eq;refine(.ref q,rfl,q,ns.map (λn:Nat=>(n:Int)),rfl,AN.of (by rw[Dc];exact eq),?_,λm S c0=>?_);rw[AL];exact Ws (Y b6 b2 b4 cm cp ci);obtain⟨u,co,rfl⟩:=Du.mp S;have a2:=co;rw[<-cr]at a2;have(x,av,r,j,B):=iB.mp (EJ.mp a2).2;rw[l]at B;have B:=Ap B;refine k u x av I ?_ r j B d;unfold before;refine p6 (eI j).1 (iB.mpr (x,av,r,j,by rw[l,B])) λv D=>?_;rw[JD];intro c3;have(b3,b5,g1,g2,g3):=iB.mp c3;rw[l]at g3;have:=c0 (v:Int) (Du.mpr (v,Y v b3 b5 g1 g2 (Ap g3),rfl));lia
inductive Po(C:AD)(vs:List V)(H:Hp)(Q:VK)(E:XK):Prop
 |mk:∀a g pc ph p s t y,vs=[.ref a,.ref p,nV s,nV t]->FG C H a g pc ph->Ee H p (A0 g s)->at_ (A0 g s) t=AA y->(∀q H',H q=AB->AH H H'->H' q=AA (.lst ((Fx g (A0 g s) (AG g) t).reverse.map nV))->Q (.ref q) H')->Po C vs H Q E
def boot_list:Fm "list"=AA (.type "list"):=by decide +kernel
def pr:∀(l:List Nat) (m:Option Nat),l.foldl (λm v=>least m (Cp (at_ d v) (Ab g c v))) m=(l.filterMap λv=>(Ab g c v).map λk=>(AE v k)).foldl (λm a=>least m (Cp (at_ d a.1) (AA a.2))) m
 | [],m=>rfl
 |v::l,m=>by
  erw[PN,pr l,Ho];cases e:Ab g c v with
  |none=>
   have:least m (Cp (at_ d v) AB)=m:=by
    have:Cp (at_ d v) AB=AB:=by cases at_ d v<;>rfl
    erw[this];unfold least less;rfl
   erw[this];rfl
  |some k=>rfl
def sj(b:c<AG g):at_ (relax g AC d) c=(DE g c).foldl (λm a=>least m (Cp (at_ d a.1) (AA a.2))) (at_ d c):=by
 erw[js b];exact pr (BK g c) (at_ d c)
@[inline]def part(g:Aw)(d:DJ)(i:Nat)(m:Option Nat):DJ:=(Ai (AG g)).map λc=>if c<i then at_ (relax g AC d) c else if c=i then m else at_ d c
def eR:(part g d i m).length=AG g:=by unfold part;erw[AL,DS]
def ke(h:i<AG g):at_ (part g d i m) i=m:=by
 unfold part;erw[fL h,AK (F6 _),AJ rfl]
def uE(h:i<AG g):(part g d i m).set i m'=part g d i m':=by
 refine fk (by erw[F7,eR,eR]) λc=>?_;erw[iC _ _ _ _ (by erw[eR];exact h)];by_cases e:c=i;subst e;erw[AJ rfl,ke h];erw[AK e];by_cases a:c<AG g;unfold part;erw[fL a,fL a,AK e,AK e];erw[eY (by erw[eR];lia),eY (by erw[eR];lia)]
def uD(h:d.length=AG g):part g d 0 (at_ d 0)=d:=by
 refine fk (by erw[eR,h]) λc=>?_;by_cases a:c<AG g;unfold part;erw[fL a,AK ()];split;rename_i e;erw[e];rfl;erw[eY (by erw[eR];lia),eY ()]
def uF:part g d i (at_ (relax g AC d) i)=part g d (i+1) (at_ d (i+1)):=by
 unfold part;refine Kk λc _=>?_;by_cases a:c<i;erw[AJ a,AJ ()];by_cases b:c=i;subst b;erw[AK a,AJ rfl,AJ ()];erw[AK a,AK b,AK ()];split;rename_i e;erw[e];rfl
def uG:part g d (AG g) m=relax g AC d:=by
 refine fk (by erw[eR,gj]) λc=>?_;by_cases a:c<AG g;unfold part;erw[fL a,AJ a];erw[eY (by erw[eR];lia),eY (by erw[gj];lia)]
inductive Pw(C:AD)(vs:List V)(H:Hp)(Q:VK)(E:XK):Prop
 |mk:∀a g pc ph ps sa p d,vs=[.ref a,.ref p]->El C H a g pc ph ps sa->Ee H p d->d.length=AG g->(∀q H',H q=AB->AH H H'->Ee H' q (relax g AC d)->Q (.ref q) H')->Pw C vs H Q E
structure ZU(H:Hp)(a:AD)(g:Aw)(p:AD)(d:DJ)(q:AD)(i:Nat)(σ:L2.St)(H':Hp):Prop where
 ex:∃x y z:Option V,σ=[AA (.ref a),AA (.ref p),AA (.ref q),x,y,z]/\AH H H'/\Ee H' q (part g d i (at_ d i))
structure Q8(H:Hp)(a:AD)(g:Aw)(p:AD)(d:DJ)(q:AD)(i j:Nat)(σ:L2.St)(H':Hp):Prop where
 ex:∃y z:Option V,σ=[AA (.ref a),AA (.ref p),AA (.ref q),AA (nV i),y,z]/\AH H H'/\Ee H' q (part g d i (((DE g i).take j).foldl (λm vk=>least m (Cp (at_ d vk.1) (AA vk.2))) (at_ d i)))
def uw(cm:Ag a3 "costs_after_round" "costs_after_round" UB f fd)(T:JQ mg)(Y:Dx a3 mg C):AV c4 w a3 mg base AZ 1 f fd ["land","costs"] (Pw C):=by
 exists cm.go ["land","costs","after","cell","near","step"],c3,co,c1;obtain⟨a,g,pc,ph,ps,sa,p,d,rfl,L,O,hd,k⟩:=h;refine(_,(aE (aS 2 (oQ ym (by rfl) T.Gx boot_list (aA (pv 1) aD))) (aE (dg D0 rfl (fP rfl T.Df (aA (aH (pv 0)) aD)) (aa 3) (aF (dg D0 rfl (dP (aJ aL (aH (pv 0)) (pv 3))) (eP rfl (dX (aa 4) (dX (aa 5) eO))) (aF (aX (PW.pt (fY (aW ff (aJ aL (pv 1) (pv 4)) ai (aU _)) (fX (PW.pt (eh (aW dz (aJ aL (pv 2) (pv 3)) ai (aU _)) (fI (aW eS (aV dG (aJ aL (pv 1) (pv 4)) (pv 5)) (aJ aL (pv 2) (pv 3)) (aU _)))))))) (aF (fO (aV dG (aJ aL (pv 1) (pv 4)) (pv 5)) (fQ (pv 2) (pv 3) set_list))) aZ))))) (aF (aI (pv 2))))),?_);have(b2,fs,a0,c0,b6,cr,cp,m1,_):=L.b.ins;have c2:=L.b.few;exists N,a1;refine(.ref p,rfl,p,_,rfl,.inl (AN.of O),λq av=>?_);subst a1;have a5:AH H (L2.upd H q (.lst (d.map oV))):=AH.upd av;exists N,a1;refine(.ref a,rfl,a,C,b2,fs,.int (AG g),rfl,a5 _ _ a0,Y.cl,Y.EX,b6,AG g,rfl,by lia,by lia,?_);rw[Ep];refine hO (n:=AG g) (ZU H a g p d q) (AB,AB,AB,rfl,a5,by rw[uD hd];exact aB) ?_ ?_;rintro i S b3 u ⟨x,y,z,rfl,G,eq⟩;obtain⟨I,b0⟩:∃I,sa[i]? =AA I:=(_,AX (by rw[L.len];exact u));have(ab,bl,an):=L.each i I b0;have ci:(0:Int) + (i:Int)=(i:Int):=by lia
 rw[ci];simp![];refine(.ref a,rfl,a,C,b2,fs,.ref ps,rfl,G _ _ a0,Y.cl,Y.JK,L.fld _ _ a0,nV i,rfl,ps,sa.map V.ref,(i:Int),.ref I,rfl,rfl,G _ _ L.steps,by rw[aM,BC,b0];rfl,I,rfl,(_,AN.of (G _ _ bl)),?_);refine fS (K:=a3) (a:=I) (xs:=ab.map V.ref) (Q8 H a g p d q i) (_,_,rfl,G,eq) (λj S Z _ (_,_,_,l,_)=>AN.of (l _ _ bl)) ?_ ?_;rintro j v0 S Z M ⟨b5,b4,rfl,l,r⟩;obtain⟨t,bm,rfl⟩:∃t,ab[j]? =AA t/\v0=V.ref t:=by
  rw[BC]at M;cases q:ab[j]? with
  |none=>rw[q]at M;cases M
  |some t=>rw[q]at M;exact(t,rfl,(Ap M).symm)
 have cg:j<(DE g i).length:=by rw[<-an.1];exact(AY.mp bm).1
 obtain⟨⟨v,c⟩,aj⟩:∃D,(DE g i)[j]? =AA D:=(_,AX cg);have b7:=l _ _ (an.2 j t _ bm aj);have ca:Ab g i v=AA c:=eJ.mp (Ar aj);have U:v<d.length:=by rw[hd];exact(eI ca).2
 generalize cd:((DE g i).take j).foldl (λm D=>least m (Cp (at_ d D.1) (AA D.2))) (at_ d i)=B at r;have ce:i<(part g d i B).length:=by rw[eR];exact u
 have a6:((DE g i).take (j+1)).foldl (λm D=>least m (Cp (at_ d D.1) (AA D.2))) (at_ d i)=least B (Cp (at_ d v) (AA c)):=by
  rw[take_snoc aj,List.foldl_append,cd];rfl
 have a4:least B (Cp (at_ d v) (AA c))=B->Q8 H a g p d q i (j+1) [AA (.ref a),AA (.ref p),AA (.ref q),AA (nV i),AA (nV v),AA (nV c)] Z:=λe=>(_,_,rfl,l,by rw[a6,e];exact r);have gone:∀x,at_ d v=AA x->least B (Cp (at_ d v) (AA c))=AA (x+c)->Q8 H a g p d q i (j+1) [AA (.ref a),AA (.ref p),AA (.ref q),AA (nV i),AA (nV v),AA (nV c)] (L2.upd Z q (.lst ((part g d i (AA (x+c))).map oV))):=λx _ e=>
  (_,_,rfl,λb o b1=>by rw[aC (aT b1 av)];exact l b o b1,by rw[a6,e];exact aB);refine(t,[nV v,nV c],rfl,BB.of b7,rfl,nV v,[nV c],rfl,nV c,[],rfl,rfl,?_);simp![l _ _ O,dM U];cases e:at_ d v with
 |none=>
  simp![oV];refine a4 ?_;rw[e];rfl
 |some x=>
  simp![oV,r,dM ce,ke u];have X:((part g d i B).map oV).set i (V.int ((x:Int) + (c:Int)))=(part g d i (AA (x+c))).map oV:=by
   have ck:=congrArg (Ld oV) (uE (d:=d) (m:=B) (m':=AA (x+c)) u);rw[<-ck,JA];rfl
  cases R:B with
  |none=>
   rw[R]at r X;simp![oV,l _ _ O,dM U,e,r,AL,eR,u];rw[X];refine gone x e ?_;rw[e,R];rfl
  |some J=>
   rw[R]at r X;simp![oV,l _ _ O,dM U,e,r,dM (show i<(part g d i (AA J)).length by rw[eR];exact u),ke u];refine ak (λa2=>?_) (λa2=>?_);simp only[Db]at a2;simp![oV,l _ _ O,dM U,e,r,AL,eR,u];rw[X];refine gone x e ?_;rw[e,R];show (if decide (x+c<J)=AC then AA (x+c)else AA J)=_;rw[AJ (BH ())];simp only[Db]at a2;refine a4 ?_;rw[e,R];show (if decide (x+c<J)=AC then AA (x+c)else AA J)=_;rw[AK (by simp;lia)]
 rintro S Z ⟨b5,b4,rfl,l,r⟩;rw[AL,an.1,EI,<-sj u,uF]at r;exact(_,_,_,rfl,l,r);rintro S b3 ⟨x,y,z,rfl,G,eq⟩;subst a1;rw[uG]at eq;exact(.ref q,rfl,k q b3 av G eq)
def Fv(goal:Nat)(p:AD):List (Str×V):=[(AE ("goal":Str) (nV goal)),(AE ("costs":Str) (.ref p))]
def ll:(Fv goal p).lookup ("goal":Str)=AA (nV goal):=by rfl
def gH:(Fv goal p).lookup ("costs":Str)=AA (.ref p):=by rfl
def hU(b:(m==("goal":Str))=AF)(a:(m==("costs":Str))=AF):(Fv goal p).lookup m=AB:=by
 unfold Fv;erw[ED,b,ED,a];rfl
def p7:De "costs" (.ref q) (Fv goal p)=Fv goal q:=by rfl
structure FY(C:AD)(H:Hp)(fa:AD)(goal:Nat)(p:AD)(d:DJ):Prop where
 ins:∃dx,H fa=AA (.ins C dx (Fv goal p))
 costs:Ee H p d
structure K9(K:Ao)(C:AD):Prop where
 cl:EO K C
 Nt:BO K C "goal"
 FU:BO K C "costs"
def li:∀l:List Nat,(l.find? λv=>Cp (at_ d v) (Ab g c v)==AA x)=((l.filterMap λv=>(Ab g c v).map λk=>(AE v k)).find? λa=>Cp (at_ d a.1) (AA a.2)==AA x).map (·.1)
 | []=>rfl
 |v::l=>by
  erw[Gn,Ho];cases e:Ab g c v with
  |none=>
   have b:(Cp (at_ d v) AB==AA x)=AF:=by cases at_ d v<;>rfl
   erw[b];exact li l
  |some k=>
   show _=(List.find? _ ((AE v k)::_)).map _;erw[Gn];cases q:(Cp (at_ d v) (AA k)==AA x)with
   |true=>rfl
   |false=>exact li l
def wI(d:c≠f.goal)(b:at_ f.costs c=AA x):EQ g f c=((DE g c).find? λa=>Cp (at_ f.costs a.1) (AA a.2)==AA x).map (·.1):=by
 unfold EQ;erw[AK d,b];exact li _
inductive NW(CL C:AD)(vs:List V)(H:Hp)(Q:VK)(E:XK):Prop
 |mk:∀fa a g pc ph ps sa p d goal c,vs=[.ref fa,.ref a,nV c]->FY C H fa goal p d->El CL H a g pc ph ps sa->IH g ⟨goal,d⟩->c<AG g->Q (oV (EQ g ⟨goal,d⟩ c)) H->NW CL C vs H Q E
structure Zd(H:Hp)(fa a:AD)(g:Aw)(c x:Nat)(d:DJ)(j:Nat)(σ:L2.St)(H':Hp):Prop where
 ex:∃y z:Option V,σ=[AA (.ref fa),AA (.ref a),AA (nV c),y,z]/\H=H'/\((DE g c).take j).find? (λvk=>Cp (at_ d vk.1) (AA vk.2)==AA x)=AB
def vF(b1:Ag z "next_cell" "Field.next_cell" UO f fd)(l:K9 z C)(aj:Dx z mg av):AV ce w z mg base AZ 1 f fd ["self","land","cell"] (NW av C):=by
 exists b1.go ["self","land","cell","near","step"],cd,b2,b7;obtain⟨fa,a,g,pc,ph,ps,sa,p,d,goal,c,rfl,R,L,W,Z,k⟩:=h;have TT:Tight (AG g) (wt g AC) (An g goal) goal d:=W.gc L.b.wide;have Y:c<d.length:=by rw[TT.len];exact Z
 refine(_,(aE (aX (PW.pt (eh (aW dh (pv 2) (aH (pv 0)) (aU _)) (fI (aW dz (aJ aL (aH (pv 0)) (pv 2)) ai (aU _))))) (aF (aI ai)) aZ) (aE (dg D0 rfl (dP (aJ aL (aH (pv 1)) (pv 2))) (eP rfl (dX (aa 3) (dX (aa 4) eO))) (aF (aX (aW dh (aV dG (pv 4) (aJ aL (aH (pv 0)) (pv 3))) (aJ aL (aH (pv 0)) (pv 2)) (aU _)) (aF (aI (pv 3))) aZ))) (aF (aI ai)))),?_);have(ca,I):=R.ins;have(b0,fs,X,b6,b5,b4,b3,m1,_):=L.b.ins;exists N,J;simp![I,l.cl,l.Nt,ll];refine ak (λO=>?_) (λO=>?_);simp only[Db]at O;have y:c=goal:=by lia
 have:EQ g (goal,d) c=AB:=by unfold EQ;rw[AJ y]
 rw[this]at k;exact k;simp only[Db]at O;have y:c≠goal:=by lia
 simp![I,l.cl,l.FU,gH,R.costs,dM Y];cases r:at_ d c with
 |none=>
  have:EQ g (goal,d) c=AB:=by unfold EQ;rw[AK y];show (match at_ d c with |none=>AB|some x=>_)=AB;rw[r]
  rw[this]at k;simp![oV];exact k
 |some x=>
  rw[wI (f:=(goal,d)) y r]at k;simp![oV];subst J;exists N,J;obtain⟨i,ab⟩:∃i,sa[c]? =AA i:=(_,AX (by rw[L.len];exact Z));have(B,T,G):=L.each c i ab;refine(.ref a,rfl,a,av,b0,fs,.ref ps,rfl,X,aj.cl,aj.JK,L.fld _ _ X,nV c,rfl,ps,sa.map V.ref,(c:Int),.ref i,rfl,rfl,L.steps,by rw[aM,BC,ab];rfl,i,rfl,(_,AN.of T),?_);refine fS (K:=z) (a:=i) (xs:=B.map V.ref) (Zd H fa a g c x d) (AB,AB,rfl,rfl,rfl) (λj S an _ (_,_,_,e,_)=>AN.of (by rw[<-e];exact T)) ?_ ?_;rintro j v0 S an m ⟨a2,a0,rfl,rfl,n⟩;obtain⟨t,U,rfl⟩:∃t,B[j]? =AA t/\v0=V.ref t:=by
   rw[BC]at m;cases q:B[j]? with
   |none=>rw[q]at m;cases m
   |some t=>rw[q]at m;exact(t,rfl,(Ap m).symm)
  have a6:j<(DE g c).length:=by rw[<-G.1];exact(AY.mp U).1
  obtain⟨⟨v,b⟩,u⟩:∃o,(DE g c)[j]? =AA o:=(_,AX a6);have a4:=G.2 j t _ U u;have a5:Ab g c v=AA b:=eJ.mp (Ar u);have(bk,bl):=nJ L.b.wide a5;have(a1,D,_):=TT.closed c v x bk r bl;have a3:v<d.length:=dY D;refine(t,[nV v,nV b],rfl,BB.of a4,rfl,nV v,[nV b],rfl,nV b,[],rfl,rfl,?_);simp![I,l.cl,l.FU,gH,R.costs,dM a3,dM Y,D,r,oV];have hit:(Cp (at_ d v) (AA b)==AA x)=decide (a1+b=x):=by rw[D,DQ];simp[Cp]
  refine ak (λM=>?_) (λM=>?_);simp only[Db]at M;have bm:(DE g c).find? (λo=>Cp (at_ d o.1) (AA o.2)==AA x)=AA (AE v b):=by
   rw[<-List.take_append_drop (j+1) (DE g c),Sn,take_snoc u,Sn,n,Gn];show (((AB:Option (Nat×Nat)).or (match (Cp (at_ d v) (AA b)==AA x)with |true=>AA (AE v b) |false=>_)).or _)=_;rw[hit,BH ()];rfl
  rw[bm]at k;simp![];exact k;simp only[Db]at M;refine(_,_,rfl,rfl,?_);rw[take_snoc u,Sn,n,Gn];show ((AB:Option (Nat×Nat)).or (match (Cp (at_ d v) (AA b)==AA x)with |true=>AA (AE v b) |false=>_))=AB;rw[hit,DH ()];rfl;rintro S an ⟨a2,a0,rfl,rfl,n⟩;rw[AL,G.1,EI]at n;subst J;rw[n]at k;exact k
@[inline]def dD:Option Nat->Iv
 |none=> .none
 |some n=> .int n
def yW:∀a b:Option Nat,KY (dD a) (dD b)=decide (a=b)
 |none,AB=>by simp[dD,KY]
 |none,AA _=>by simp[dD,KY]
 |some _,AB=>by simp[dD,KY]
 |some x,AA y=>by
  simp only[dD,KY];erw[DQ];simp;lia
def qO:∀d e:DJ,Mw (d.map dD) (e.map dD)=decide (d=e)
 | [],[]=>by simp[Mw]
 | [],_::_=>by simp[Mw]
 | _::_,[]=>by simp[Mw]
 |a::d,b::e=>by
  erw[Ax,Ax,Mw,yW,qO d e,DQ];simp
def lp:∀d:DJ,SF (d.map dD)=AC
 | []=>rfl
 |none::d=>by erw[Ax,SF,lp d];rfl
 |some _::d=>by erw[Ax,SF,lp d];rfl
def lq:∀d:DJ,SE (d.map dD)=0
 | []=>rfl
 |none::d=>by erw[Ax,SE,lq d];rfl
 |some _::d=>by erw[Ax,SE,lq d];rfl
def qN(d:DJ):Oa (.list (d.map dD))=AC:=by
 unfold Oa;erw[PyData.canLay0,lp,PyData.depth,lq];rfl
def jg:∀d:DJ,J9 a H (d.map oV) (d.map dD)
 | []=> .nil
 |none::d=> .cons .Al (jg d)
 |some n::d=> .cons (.int n) (jg d)
def YL:R2:=λx y H Q=>∃p q d e,x=.ref p/\y=.ref q/\Ee H p d/\Ee H q e/\Q (.bl (!decide (d=e))) H
def uK(f:X.A.units+64<ES):D5 X (Em .NotEq) YL:=λpins s a H x y v u Q I c b (p,q,d,e,j,i,h,g,k)=>
 uL f pins s a H x y v u Q I c b (.list (d.map dD),.list (e.map dD),by erw[j];exact .lst (AN.of h) (jg d),by erw[i];exact .lst (AN.of g) (jg e),qN d,qN e,by
  erw[KY,qO];exact k)
@[inline]def begun(g:Aw)(goal:Nat)(d:DJ):DJ:=if An g goal=AC then d.set goal (AA 0)else d
inductive NV(CL C:AD)(vs:List V)(H:Hp)(Q:VK)(E:XK):Prop
 |mk:∀fa a g pc ph ps sa p d goal,vs=[.ref fa,.ref a]->FY C H fa goal p d->El CL H a g pc ph ps sa->goal<AG g->p∉[pc,ph,ps]->p∉sa->Above g (An g goal) goal (EF g goal) (begun g goal d)->(∀n p' H',Ew g AC (AG g * 2) (begun g goal d)=(AE (EF g goal) n)->AQ [fa,p] H H'->FY C H' fa goal p' (EF g goal)->(p'=p\/H p'=AB)->(∃o,H' p=AA o)->Q (nV n) H')->NV CL C vs H Q E
def El.but{C:AD}{H d:Hp}{a:AD}{g:Aw}{pc ph ps fa p:AD}{sa:List AD}(L:El C H a g pc ph ps sa)(s:AQ [fa,p] H d)(x:∃o c fs,H fa=AA (.ins o c fs)/\fa≠a)(w:p∉[pc,ph,ps]/\p∉sa/\∃xs,H p=AA (.lst xs)):El C d a g pc ph ps sa:=by
 have(o,D,A,m,t):=x;have(h,y,xs,j):=w;have v:∀b C c fs,H b=AA (.ins C c fs)->b≠fa->d b=AA (.ins C c fs):=λb C c fs e n=>s b _ e (by
  simp only[Aj,BW,BV,A5];exact(n,λz=>by rw[z,j]at e;cases e))
 have f:∀b ys,H b=AA (.lst ys)->b≠p->d b=AA (.lst ys):=λb ys e n=>s b _ e (by
  simp only[Aj,BW,BV,A5];exact(λz=>(by rw[z,m]at e;cases e),n))
 have u:∀b ys,H b=AA (.tup ys)->d b=AA (.tup ys):=λb ys e=>s b _ e (by
  simp only[Aj,BW,BV,A5];exact(λz=>(by rw[z,m]at e;cases e),λz=>(by rw[z,j]at e;cases e)))
 simp only[Aj,BW,BV,A5]at h;have(c,fs,l,r):=L.b.ins;have k:=v _ _ _ _ l (λz=>t z.symm);refine(((c,fs,k,r),f _ _ L.b.costs (λz=>h.1 z.symm),f _ _ L.b.Ei (λz=>h.2.1 z.symm),L.b.wide,L.b.few,L.b.rows),λE B e=>?_,f _ _ L.steps (λz=>h.2.2 z.symm),L.len,λi b e=>?_);rw[k]at e;cases e;exact L.fld _ _ l;have(q,g1,g2):=L.each i b e;exact(q,f _ _ g1 (λz=>y (by erw[<-z];exact Ar e)),g2.keep u)
structure SInv(C:AD)(H:Hp)(g:Aw)(fa a p:AD)(goal:Nat)(d0:DJ)(m:Nat)(σ:L2.St)(H':Hp):Prop where
 ex:∃(i:Nat) (d:DJ) (p' q:AD),m=Gr (AG g) (EF g goal) d/\σ=[AA (.ref fa),AA (.ref a),AA (nV i),AA (.ref q)]/\J3 g (An g goal) goal (EF g goal) (AG g * 2) d0 i d/\
  AQ [fa,p] H H'/\FY C H' fa goal p' d/\Ee H' q (relax g AC d)/\(p'=p\/H p'=AB)/\H q=AB/\∃o,H' p=AA o
def ut(c6:C≠x)(dn:Ag D "settle" "Field.settle" T8 f fd)(c:K9 D C)(ef:Dx D mg x)(dp:A6 ce w D mg base 1 x "is_wall" ["self","cell"] (JG x))(ci:A8 ce w D mg base 1 "costs_after_round" ["land","costs"] (Pw x)):AV ce w D mg base AZ 2 f fd ["self","land"] (NV x C):=by
 exists dn.go ["self","land","rounds","after"],ec,co,S;obtain⟨fa,a,g,pc,ph,ps,sa,p,d,goal,rfl,I,L,b0,c2,c1,ab,k⟩:=h;have TT:=ip (g:=g) (s:=goal) L.b.wide;have b2:AG g<AG g * 2:=by lia
 refine(_,(aE (aX (fw (dU (ae (pv 1) dp S (aA (aH (pv 0)) aD)))) (aF (fO aG (fQ (aH (pv 0)) (aH (pv 0)) set_list))) aZ) (aE (aS 2 aG) (aE (aS 3 (ag ci S rfl (aA (pv 1) (aA (aH (pv 0)) aD)))) (aE (iH D0 (aW (uK S.units) (pv 3) (aH (pv 0)) (aU _)) (aE (dH (pv 0) (pv 3) rfl) (aE (iI (i:=2) co rfl (Dr rfl) aG ic) (aF (aS 3 (ag ci S rfl (aA (pv 1) (aA (aH (pv 0)) aD)))))))) (aF (aI (pv 2))))))),?_);have(ca,l):=I.ins;have(eb,fs,bs,ea,d6,d5,d4,m1,_):=L.b.ins;have cm:fa≠a:=λz=>by rw[z,bs]at l;cases l;exact c6 rfl
 have a5:fa≠p:=λz=>by rw[z,I.costs]at l;cases l
 have c4:d.length=AG g:=by
  have:=ab.len;unfold begun at this;split at this;rw[F7]at this;exact this;exact this
 have a2:∀n,AQ [fa,p] H n->El x n a g pc ph ps sa:=λn b=>L.but b (_,_,_,l,cm) (c2,c1,_,I.costs);have free:∀n q,AQ [fa,p] H n->(∃o,n fa=AA o)->(∃o,n p=AA o)->n q=AB->H q=AB:=λn q B (d2,c9) (d1,c8) r=>by
  cases e:H q with
  |none=>rfl
  |some o=>
   by_cases a1:q=fa;rw[a1,c9]at r;cases r;by_cases a0:q=p;rw[a0,c8]at r;cases r;rw[B q o e (by simp[a1,a0])]at r;cases r
 exists N,u;have fin:∀v,AQ [fa,p] H v->FY C v fa goal p (begun g goal d)->N [AA (.ref fa),AA (.ref a),AB,AB] v:=λv B J=>by
  subst u;exists N,u;subst u;exists N,u;have(dd,Y):=J.ins;simp![Y,c.cl,c.FU,gH];refine(a,g,pc,ph,ps,sa,p,begun g goal d,rfl,a2 v B,J.costs,ab.len,λq ej r O eq=>?_);subst u;exists N,u;refine(SInv C H g fa a p goal (begun g goal d),(_,(0,begun g goal d,p,q,rfl,rfl,sU ab,B.trans (AH.but O),((dd,O _ _ Y),O _ _ J.costs),eq,.inl rfl,free v q B (_,Y) (_,J.costs) r,(_,O _ _ J.costs))),?_);rintro m ds G ⟨i,t,U,j,rfl,rfl,b5,cd,T,aj,c0,cr,a4,bm⟩;have(y,X):=T.ins;refine(.ref j,rfl,.ref fa,rfl,fa,C,y,_,.ref U,rfl,X,c.cl,c.FU,gH,j,U,relax g AC t,t,rfl,rfl,aj,T.costs,_,rfl,?_);by_cases R:relax g AC t=t
  ·rw[BH R];refine lQ ?_;have(g1,g2):=b5.done L.b.wide TT b2 R;rw[g2]at g1 T;subst u;exact(nV i,rfl,k i U G g1 cd T c0 (a4,bm))
  rw[DH R];have(c5,c3):=b5.turn L.b.wide TT b2 R;refine lP (λav cg=>∃m',m'<Gr (AG g) (EF g goal) t/\SInv C H g fa a p goal (begun g goal d) m' av cg,λav cg h=>h,?_);exists dm,Z;simp![X,c.cl,c.FU,p7];refine(by show 2<1000;decide,?_);subst Z;have ck:j≠fa:=λz=>by have b7:G j=_:=aj;rw[z,X]at b7;cases b7
  have an:AQ [fa,p] H (L2.upd G fa (.ins C y (Fv goal j))):=cd.trans (AQ.upd (by simp));have b6:Ee (L2.upd G fa (.ins C y (Fv goal j))) j (relax g AC t):=by show L2.upd _ _ _ _=_;rw[aC ck];exact aj
  exists dm,Z;subst Z;simp![c.cl,c.FU,gH];refine(a,g,pc,ph,ps,sa,j,relax g AC t,rfl,a2 _ an,b6,gj,λa3 ei cp M c7=>?_);have bl:L2.upd G fa (.ins C y (Fv goal j)) p=AA a4:=by rw[aC a5.symm];exact bm
  refine(_,c3,i+1,relax g AC t,j,a3,rfl,?_,c5,an.trans (AH.but M),((y,M _ _ aB),M _ _ b6),c7,.inr cr,free _ a3 an (_,aB) (_,bl) cp,(_,M _ _ bl));rfl
 simp![bs,m1,l,c.cl,c.Nt,ll];refine(a,g,pc,ph,goal,rfl,L.b,b0,_,rfl,?_);cases a6:An g goal with
 |false=>
  simp![];refine fin H (λb o e _=>e) ((ca,l),?_);unfold begun;rw[a6];exact I.costs
 |true=>
  simp![l,c.cl,c.Nt,c.FU,ll,gH,I.costs,AL,c4,b0];refine fin _ (AQ.upd (by simp)) ((ca,by rw[aC a5];exact l),?_);unfold begun;rw[a6];show L2.upd _ _ _ _=_;rw[aB,AJ rfl,JA];rfl
inductive QF(CL C:AD)(vs:List V)(H:Hp)(Q:VK)(E:XK):Prop
 |mk:∀fa dx a g pc ph ps sa goal,vs=[.ref fa,.ref a,nV goal]->H fa=AA (.ins C dx [])->El CL H a g pc ph ps sa->goal<AG g->(∀p' H',AQ [fa] H H'->FY C H' fa goal p' (EF g goal)->H p'=AB->Q .Al H')->QF CL C vs H Q E
def sw(goal:Nat):De "goal" (nV goal) []=[(AE ("goal":Str) (nV goal))]:=by rfl
def put2(goal:Nat)(p:AD):De "costs" (.ref p) [(AE ("goal":Str) (nV goal))]=Fv goal p:=by rfl
def y8(h:goal<AG g):begun g goal (Ay (AG g) AB)=only g goal:=by
 have b:∀c,at_ (Ay (AG g) AB) c=AB:=λc=>by
  unfold at_;erw[DA,ND];split<;>rfl
 refine fk ?_ λc=>?_;unfold begun only;split<;>simp;erw[mH];unfold begun;split;rename_i a;erw[iC _ _ _ _ (by erw[NB];exact h),b];by_cases e:c=goal;subst e;erw[AJ rfl,AJ (show c=c/\An g c=AC from(rfl,a))];erw[AK e,AK (show ¬(c=goal/\An g c=AC) from λq=>e q.1)];rename_i a;erw[b,AK (show ¬(c=goal/\An g c=AC) from λq=>a (q.1▸q.2))]
def vc(bs:C≠u)(cd:Ag O "__init__" "Field.__init__" Ui f fd)(M:K9 O C)(J:Dx O mg u)(cg:A6 b6 w O mg base 2 C "settle" ["self","land"] (NV u C)):
  AV b6 w O mg base AZ 3 f fd ["self","land","goal"] (QF u C):=by
 exists cd.go ["self","land","goal"],c3,ci,bl;obtain⟨fa,Y,a,g,pc,ph,ps,sa,goal,rfl,G,L,a2,k⟩:=h;have TT:=ip (g:=g) (s:=goal) L.b.wide;refine(_,(aE (dH (pv 0) (pv 2) rfl) (aE (dH (pv 0) (aV oU (af (aA ai aD)) (aH (pv 1))) rfl) (aF (dW (ae (pv 0) cg bl (aA (pv 1) aD)))))),?_);have(j,fs,d,co,an,cm,ck,m1,_):=L.b.ins;have c0:=L.b.few;have T:a≠fa:=λz=>by rw[z,G]at d;cases d;exact bs rfl
 exists N,U;simp![G,M.cl,M.Nt,sw];refine(by show 0<1000;decide,?_);subst U;have b4:∀o,L2.upd H fa o a=AA (.ins u j fs):=λo=>by rw[aC T];exact d
 exists N,U;simp![b4,J.cl,J.EX,an];refine(aN (),λp D=>?_);have S:fa≠p:=λz=>by rw[z,aB]at D;cases D
 have av:H p=AB:=by rw[aC S.symm]at D;exact D
 have b3:∀o v,L2.upd (L2.upd H fa o) p v a=AA (.ins u j fs):=λo v=>by rw[aC (aT d av),aC T];exact d
 simp![b3,J.cl,J.EX,an];refine(by lia,by lia,aN (),λq m=>?_);have a4:p≠q:=λz=>by rw[z,aB]at m;cases m
 have R:fa≠q:=λz=>by rw[z,aC (by rw[<-z];exact S),<-z,aB]at m;cases m
 have c:H q=AB:=by rw[aC a4.symm,aC R.symm]at m;exact m
 rw[Ep,nY];have b0:∀o v ab,L2.upd (L2.upd (L2.upd H fa o) p v) q ab fa=AA o:=λo v ab=>by rw[aC R,aC S,aB]
 simp![b0,M.cl,M.FU,put2];refine(by show 1<1000;decide,?_);subst U;generalize X:L2.upd (L2.upd (L2.upd (L2.upd H fa (.ins C Y [(AE ("goal":Str) (nV goal))])) p (.lst [V.Al])) q (.lst ((Ay (AG g) AB).map oV))) fa (.ins C Y (Fv goal q))=l;have x:AQ [fa] H l:=λb o e I=>by
  have aj:b≠fa:=by simpa using I
  rw[<-X,aC aj,aC (aT e c),aC (aT e av),aC aj];exact e
 have a3:FY C l fa goal q (Ay (AG g) AB):=((Y,by rw[<-X,aB]),by show l q=_;rw[<-X,aC R.symm,aB]);have(c1,a0):=a3.ins;have b7:El u l a g pc ph ps sa:=by
  have a6:∀b C j fs,H b=AA (.ins C j fs)->b≠fa->l b=AA (.ins C j fs):=λb C j fs e n=>x b _ e (by simpa using n);have B:∀b ys,H b=AA (.lst ys)->l b=AA (.lst ys):=λb ys e=>x b _ e (by simp;intro z;rw[z,G]at e;cases e);have a5:∀b ys,H b=AA (.tup ys)->l b=AA (.tup ys):=λb ys e=>x b _ e (by simp;intro z;rw[z,G]at e;cases e);have(j,fs,d,r):=L.b.ins;have a1:=a6 _ _ _ _ d T;refine(((j,fs,a1,r),B _ _ L.b.costs,B _ _ L.b.Ei,L.b.wide,L.b.few,L.b.rows),λc2 cr e=>?_,B _ _ L.steps,L.len,λi b e=>?_);rw[a1]at e;cases e;exact L.fld _ _ d;have(Z,g1,g2):=L.each i b e;exact(Z,B _ _ g1,g2.keep a5)
 simp![a0];refine(hU (by decide) (by decide),fa,a,g,pc,ph,ps,sa,q,Ay (AG g) AB,goal,rfl,a3,b7,a2,?_,?_,?_,λn y ca cp b5 ce t _=>?_);simp only[Aj,BW,BV,A5];exact(λz=>(by rw[z,L.b.costs]at c;cases c),λz=>(by rw[z,L.b.Ei]at c;cases c),λz=>(by rw[z,L.steps]at c;cases c));intro z;have(i,bm):=DP z;have(Z,g1,_):=L.each i q bm;rw[c]at g1;cases g1;rw[y8 a2];exact oY TT;refine k y ca (λb o e I=>b5 b o (x b o e I) (by
  simp only[Aj,BW,BV,A5];exact(by simpa using I,λz=>(by rw[z,c]at e;cases e)))) ce ?_
 rcases t with rfl|t;exact c;cases e:H y with
 |none=>rfl
 |some o=>
  by_cases z:y=fa;rw[z,a0]at t;cases t;rw[x y o e (by simpa using z)]at t;cases t
def Ky:Pos:=(28,38,28,64)
def Kx:Str:=("Field.forget":Str) ++ ".<locals>." ++ "<lambda>"
structure VL(mg:Str->Option AI):Prop where
 Df:mg "range"=AB
 Qz:mg "sorted"=AB
 Gy:mg "enumerate"=AB
 C2:mg "len"=AB
@[inline]def kept(g:Aw)(f:Ey)(c:Nat):DJ:=(Ai (AG g)).map λu=>if ((at_ f.costs u).isSome && comes g f c u)=AC then AB else at_ f.costs u
def E7(g:Aw)(f:Ey)(c:Nat):Nat:=((Ai (AG g)).filter λu=>(at_ f.costs u).isSome && comes g f c u).length
inductive Na(CL C PT:AD)(vs:List V)(H:Hp)(Q:VK)(E:XK):Prop
 |mk:∀fa a g pc ph ps sa p d goal ch,vs=[.ref fa,.ref a,nV ch]->FY C H fa goal p d->El CL H a g pc ph ps sa->IH g ⟨goal,d⟩->ch<AG g->TabAt H PT Ky Kx->(∀p' H',AQ [fa,PT] H H'->TabAt H' PT Ky Kx->FY C H' fa goal p' (kept g ⟨goal,d⟩ ch)->H p'=AB->Q (nV (E7 g ⟨goal,d⟩ ch)) H')->Na CL C PT vs H Q E
@[inline]def kvsOf(l:List Nat):List (Key×V):=l.map λu:Nat=>(AE (AW (u:Int)) (V.bl AC))
def lM{l:List Nat}{u:Nat}:(A9 (kvsOf l) (AW (u:Int))).isSome=decide (u∈l):=by
 unfold A9 kvsOf;induction l with
 |nil=>rfl
 |cons a l b=>
  erw[Ax,Gn];by_cases e:a=u;subst e;simp;have:decide ((AW (a:Int):Key)=AW (u:Int))=AF:=by simp;lia
  erw[this,b,DQ];simp;intro z;exact absurd z.symm e
def xK{l:List Nat}{u:Nat}(h:u∉l):putK (kvsOf l) (AW (u:Int)) (.bl AC)=kvsOf (l ++ [u]):=by
 have e:A9 (kvsOf l) (AW (u:Int))=AB:=by
  cases q:A9 (kvsOf l) (AW (u:Int))with
  |none=>rfl
  |some v=>
   have:=lM (l:=l) (u:=u);rw[q]at this;simp at this;exact absurd this h
 erw[kK _ e];unfold kvsOf;erw[Dd];rfl
structure zm(H:Hp)(d:DJ)(D:AD)(i:Nat)(H':Hp):Prop where
 same:AH H H'
 lst:H' D=AA (.lst (((Ai i).filter λu=>(at_ d u).isSome).map nV))
structure OD(H:Hp)(fa a p D q E:AD)(g:Aw)(f:Ey)(ch:Nat)(zs:List Nat)(PT:AD)(i:Nat)(σ:L2.St)(H':Hp):Prop where
 ex:∃x y:Option V,σ=[AA (.ref fa),AA (.ref a),AA (nV ch),AA (.ref p),AA (.ref D),AA (.ref q),x,y]
 dic:H' q=AA (.dK (kvsOf ((zs.take i).filter λu=>comes g f ch u)))
 lst:H' E=AA (.lst (zs.map nV))
 but:AQ [PT] H H'
 tab:TabAt H' PT Ky Kx
structure VX(H:Hp)(g:Aw)(f:Ey)(ch:Nat)(D2:AD)(i:Nat)(H':Hp):Prop where
 same:AH H H'
 lst:H' D2=AA (.lst (((kept g f ch).take i).map oV))
def pO:(kept g f c).length=AG g:=by unfold kept;erw[AL,DS]
def xR(h:u<AG g):(kept g f c)[u]? =AA (if ((at_ f.costs u).isSome && comes g f c u)=AC then AB else at_ f.costs u):=by
 unfold kept;erw[BC,Kn h];rfl
def TabAt.pP(T:TabAt H j pos q)(h:∀u,H p=AA u->(∀x,u≠.aY x)/\∀x,u≠.ext x):TabAt (L2.upd H p o) j pos q:=by
 have n:∀b u,H b=AA u->((∃x,u=.aY x)\/∃x,u=.ext x)->b≠p:=λb u e f z=>by
  rw[z]at e;have(i,g):=h u e;rcases f with⟨x,rfl⟩ | ⟨x,rfl⟩;exact i x rfl;exact g x rfl
 rcases T with t| ⟨c,d,a⟩;exact .inl (by erw[aC (n _ _ t (.inl (_,rfl)))];exact t);exact .inr (c,by erw[aC (n _ _ d (.inl (_,rfl)))];exact d,by erw[aC (n _ _ a (.inr (_,rfl)))];exact a)
def nT:J7 ["self","land","changed","costs","cells","forgotten","cell","cost"] ["self","land","changed"] (FW QT):=(rfl,rfl,rfl,by decide +kernel,rfl,by decide +kernel,by decide +kernel)
def vb(ea:G0 an "forget" "Field.forget" QT f fd h0 M)(T:VL mg)(cd:K9 an C)(d5:Dx an mg c5)(B:BMain mg base)(gw:A6 go w an mg base 1 C "next_cell" ["self","land","cell"] (NW c5 C)):
  AV go w an mg base AZ 2 f fd ["self","land","changed"] (Na c5 C M):=by
 refine ea.ok nT (λvs H Q E h=>?_) (λA outer s H vs Q E cr h=>?_);obtain⟨fa,a,g,pc,ph,ps,sa,p,d,goal,ch,rfl,_⟩:=h;rfl
 ·obtain⟨fa,a,g,pc,ph,ps,sa,p,d,goal,ch,rfl,a0,L,W,hs,G,k⟩:=h;have co:=nT.nd;have U:=eC cr;refine(_,(aE (aS 3 (aH (pv 0))) (aE (fZ (i:=4) rfl co rfl rfl (fW rfl rfl rfl (by kernel_rfl)) (fP rfl T.Df (aA (aH (pv 1)) aD)) (own:=[(AE ("cell") 6)]) (dO (by kernel_rfl)) (λ_ _ _ _ _=>(aa 6)) (λ_ _ _ _ _=>(fJ (aW ff (aJ aL (pv 3) (pv 6)) ai (aU _)))) (λ_ _ _ _ _=>(pv 6))) (aE (aS 5 jM) (aE (dg D0 rfl (dP (tQ (x:="place") (y:="costs") (i:=3) (rfl,rfl,rfl,by decide +kernel,rfl,rfl,by decide,by decide,by decide) rfl rfl rfl rfl (cr.mono (DR _)) rfl rfl ea.hd B rfl T.Qz (λ_ _ _ _ _ _=>rfl) (pv 4))) (aa 6) (aF (aX (PW.pt (eh (aW dh (pv 6) (pv 2) (aU _)) (fI (fK (uA U (ae (pv 0) gw cr (aA (pv 1) (aA (pv 6) aD))) (pv 5)))))) (aF (jJ U (pv 5) (pv 6) f7 rfl)) aZ))) (aE (dH (pv 0) (dk rfl co (jL rfl T.Gy (aA (pv 3) aD)) (own:=[(AE ("cell") 6),(AE ("cost") 7)]) (dO (by kernel_rfl)) (λ_ _ _ _ _=>(gl (K:=an) (i:=6) (j:=7) rfl rfl co rfl rfl (Dr rfl) (Dr rfl) (by first|exact F5 rfl|exact Dr rfl) (by first|exact F5 rfl|exact Dr rfl))) (λ_ _ _ _ _=>dv) (λ_ _ _ _ _=>(fc (fK (iL U (pv 6) (pv 5))) ai (pv 7)))) rfl) (aF (aI (bD qk (by rfl) T.C2 EB (aA (pv 5) aD))))))))),?_);have(c3,Z):=a0.ins;have(gg,fs,fj,hl,eq,hk,hg,m1,_):=L.b.ins;have hy:=L.b.few;have TT:Tight (AG g) (wt g AC) (An g goal) goal d:=W.gc L.b.wide;exists N,J;simp![Z,cd.cl,cd.FU,gH];subst J;exists N,J;refine(.ref a,rfl,a,c5,gg,fs,.int (AG g),rfl,fj,d5.cl,d5.EX,eq,(AG g:Int),rfl,by lia,by lia,λD dp=>?_);rw[Ep];refine lI (lo:=0) (n:=AG g) (zm H d D) (AH.upd dp,aB) ?_ ?_;intro i c4 fe (a1,bs);have f6:(0:Int) + (i:Int)=(i:Int):=by lia
  have b4:i<d.length:=by rw[TT.len];exact fe
  rw[f6];simp![wipe,a1 _ _ a0.costs,dM b4];cases e:at_ d i with
  |none=>
   simp![oV];refine(a1,?_);rw[Jn,Hn,Ec,e];simp[bs]
  |some x=>
   simp![oV,bs,AL];refine(dS (Dj (Fq _ _) (by rw[DS];lia)),?_,?_);intro b o d1;rw[aC (aT d1 dp)];exact a1 b o d1;rw[aB,Jn,Hn,Ec,e,Dd];rfl
  ·intro c4 (a1,bs);generalize b6:(Ai (AG g)).filter (λu=>(at_ d u).isSome)=cs at bs;have d4:∀u,u∈cs↔∃x,at_ d u=AA x:=λu=>by
    rw[<-b6,EJ,EC];constructor;intro(_,h);exact HB.mp h;intro(x,m);exact(by have:=dY m;rw[TT.len]at this;exact this,by rw[m];rfl)
   have gi:cs.Nodup:=by rw[<-b6];exact Si.sublist W6
   subst J;exists N,J;refine λq c9=>?_;subst J;have e0:H q=AB:=a1.free c9;have c8:AH c4 (L2.upd c4 q (.dK [])):=AH.upd c9;have a3:=a1.trans c8;exists N,J;refine(.ref D,rfl,D,cs,p,d.map oV,rfl,c8 _ _ bs,rfl,a3 _ _ a0.costs,λu U=>?_,G.same a3,λl E d6 b2 e2 c2 d2 ds fy=>(E,rfl,(_,AN.of d2),?_));have(x,m):=(d4 u).mp U;exact(x,by rw[dM (dY m),m];rfl)
   ·have ht:H E=AB:=a3.free c2;have en:q≠E:=λz=>by rw[<-z,aB]at c2;cases c2
    have(ha,hp):=G.aY;have a2:∀(X:Hp) b u,TabAt X M Ky Kx->X b=AA u->(∀x,u≠.aY x)->b≠M:=λX b u ek e U z=>by
     have(x,m):=ek.aY;rw[z,m]at e;exact U x (Ap e).symm
    have ez:d6 q=AA (.dK []):=ds _ _ aB (by simpa using a2 _ _ _ (G.same a3) aB (λ_ z=>by cases z));have f0:AQ [M] H d6:=λb o e ab=>ds b o (a3 b o e) ab;have ec:l.Nodup:=b2.nodup_iff.mpr gi;have cg:∀u,u∈l↔∃x,at_ d u=AA x:=λu=>by rw[b2.mem_iff];exact d4 u
    have g0:l.length<=AG g:=by
     rw[b2.length_eq,<-b6];exact Dj (Fq _ _) (by rw[DS];exact Au _)
    refine fS (K:=an) (a:=E) (xs:=l.map nV) (OD H fa a p D q E g (goal,d) ch l M) ((_,_,rfl),ez,d2,f0,fy) (λi c6 gs _ I=>AN.of I.lst) ?_ ?_;rintro i v0 c6 av a5 ⟨⟨ef,b1,rfl⟩,g1,g2,g3,bl⟩;obtain⟨z,S,rfl⟩:∃z,l[i]? =AA z/\v0=nV z:=by
     rw[BC]at a5;cases q:l[i]? with
     |none=>rw[q]at a5;cases a5
     |some z=>rw[q]at a5;exact(z,rfl,(Ap a5).symm)
    have et:=Ar S;have(g5,eu):=(cg z).mp et;have es:z<AG g:=by have:=dY eu;rw[TT.len]at this;exact this
    have gv:FY C av fa goal p d:=((c3,g3 _ _ Z (by simpa using a2 _ _ _ G Z (λ_ z=>by cases z))),g3 _ _ a0.costs (by simpa using a2 _ _ _ G a0.costs (λ_ z=>by cases z)));have Y:=g3 _ _ Z (by simpa using a2 _ _ _ G Z (λ_ z=>by cases z));have gr:=L.keep g3 G.aY;have fb:i<l.length:=(AY.mp S).1;have e3:z∉(l.take i).filter λu=>comes g (goal,d) ch u:=λe4=>by
     have r:=(EJ.mp e4).1;rw[Wm]at r;have(j,dm,bm):=r;have aj:l[j]=l[i]:=by rw[bm];exact((AY.mp S).2).symm
     have:=(Sk ec).mp aj;lia
    have e5:(kvsOf ((l.take i).filter λu=>comes g (goal,d) ch u)).length<Ae:=by
     unfold kvsOf;rw[AL];exact dS (Dj (Fq _ _) (by rw[FQ];lia))
    have put:comes g (goal,d) ch z=AC->OD H fa a p D q E g (goal,d) ch l M (i+1) [AA (.ref fa),AA (.ref a),AA (nV ch),AA (.ref p),AA (.ref D),AA (.ref q),AA (nV z),b1] (L2.upd av q (.dK (putK (kvsOf ((l.take i).filter λu=>comes g (goal,d) ch u)) (AW (z:Int)) (.bl AC)))):=λa6=>by
     refine((_,_,rfl),?_,?_,?_,?_);rw[aB,xK e3,take_snoc S,Hn,Ec,a6];rfl;rw[aC en.symm];exact g2;intro b o e ab;rw[aC (aT e e0)];exact g3 b o e ab;refine bl.pP λu e=>?_;rw[g1]at e;cases e;exact(λ_ z=>(by cases z),λ_ z=>(by cases z))
    have c7:comes g (goal,d) ch z=AF->OD H fa a p D q E g (goal,d) ch l M (i+1) [AA (.ref fa),AA (.ref a),AA (nV ch),AA (.ref p),AA (.ref D),AA (.ref q),AA (nV z),b1] av:=λa6=>by
     refine((_,_,rfl),?_,g2,g3,bl);rw[take_snoc S,Hn,Ec,a6];simp[g1]
    have d3:comes g (goal,d) ch z=AC->∃(ce:Hp),HY av q (nV z) (.bl AC) ce/\OD H fa a p D q E g (goal,d) ch l M (i+1) [AA (.ref fa),AA (.ref a),AA (nV ch),AA (.ref p),AA (.ref D),AA (.ref q),AA (nV z),b1] ce:=λa6=>(_,HY.k (k:=AW (z:Int)) g1 e5,put a6);have b5:=iq (g:=g) (f:=(goal,d)) (c:=ch) (u:=z) TT.len;simp![Pf,QU,Y,hU (show (("next_cell":Str)==("goal":Str))=AF by decide) (show (("next_cell":Str)==("costs":Str))=AF by decide)];refine ak (λr=>?_) (λr=>?_);simp only[Db]at r;have(ce,f2,f1):=d3 (b5.mpr (.inl ()));exact(_,rfl,_,rfl,q,ce,rfl,f2,f1);simp only[Db]at r;simp![Pf,QU,Y,hU (show (("next_cell":Str)==("goal":Str))=AF by decide) (show (("next_cell":Str)==("costs":Str))=AF by decide)];refine(fa,a,g,pc,ph,ps,sa,p,d,goal,z,rfl,gv,gr,W,es,?_);cases b3:EQ g (goal,d) z with
    |none=>
     have fq:comes g (goal,d) ch z=AF:=by
      rw[JD];intro c1;rcases b5.mp c1 with h| ⟨v,h,_⟩;lia;rw[b3]at h;cases h
     exact .inl (rfl,(_,g1),c7 fq)
    |some v=>
     have(_,ck,ci,g6,cp,a4,ep,he):=iO b3;have ew:v∈l:=(cg v).mpr (ci,a4);have ey:v∈l.take i:=by
      have(j,dm,bm):=Wx ew;rw[Wm];refine(j,?_,bm);rcases Ow j i with e6|e6;lia;exfalso;have ho:=step_pos ep;rcases Ow i j with dn|dn;have:=List.pairwise_iff_getElem.mp e2 i j fb dm dn ck ci (by
       rw[(AY.mp S).2,dM (dY cp)];show AA (oV (at_ d z))=_;rw[show at_ d z=AA ck from cp];rfl) (by
       rw[bm,dM (dY a4)];show AA (oV (at_ d v))=_;rw[show at_ d v=AA ci from a4];rfl)
      lia;have ge:i=j:=by lia
      subst ge;have:z=v:=by rw[<-bm];exact((AY.mp S).2).symm
      subst this;rw[show at_ d z=AA ck from cp]at a4;cases a4;lia
     refine .inr (_,DV.k (k:=AW (v:Int)) g1,?_);rw[lM];refine ak (λaj=>?_) (λaj=>?_);simp only[Db]at aj;exact d3 (b5.mpr (.inr (v,b3,(EJ.mp aj).2)));simp only[Db]at aj;refine c7 ?_;rw[JD];intro c1;rcases b5.mp c1 with h| ⟨g7,h,f3⟩;lia;rw[b3]at h;cases h;exact aj (EJ.mpr (ey,f3))
    ·rintro c6 av ⟨⟨ef,b1,rfl⟩,g1,g2,g3,bl⟩;rw[AL,EI]at g1;have dd:=g3 _ _ a0.costs (by simpa using a2 _ _ _ G a0.costs (λ_ z=>by cases z));have Y:=g3 _ _ Z (by simpa using a2 _ _ _ G Z (λ_ z=>by cases z));have er:∀u:Nat,(A9 (kvsOf (l.filter λu=>comes g (goal,d) ch u)) (AW (u:Int))).isSome=((at_ d u).isSome && comes g (goal,d) ch u):=λu=>by
      rw[lM,DQ,Db,EJ,cg,DN,HB]
     subst J
     try dsimp only
     exists N,J;refine(.ref p,rfl,p,_,rfl,AN.of dd,λt R=>?_);have fz:H t=AB:=by
      cases e:H t with
      |none=>rfl
      |some o=>
       by_cases z:t=M;have(x,m):=bl.aY;rw[z,m]at R;cases R;rw[g3 t o e (by simpa using z)]at R;cases R
     refine xA (K:=an) (a:=p) (xs:=d.map oV) (VX av g (goal,d) ch t) (AH.upd R,aB) (λi gs _ I=>AN.of (I.same _ _ dd)) ?_ ?_;intro i x ca b0 m (O,b7) fx;have b4:i<d.length:=by have:=(AY.mp m).1;rw[AL]at this;exact this
     have e8:i<AG g:=by rw[<-TT.len];exact b4
     rw[dM b4]at m;cases m;have cm:AH b0 (L2.upd b0 ca (.tup [.int (i:Nat),oV (at_ d i)])):=AH.upd fx;refine(ca,_,rfl,BB.of aB,rfl,nV i,[oV (at_ d i)],rfl,oV (at_ d i),[],rfl,rfl,rfl,?_);unfold Er;dsimp only;rw[AJ rfl];have f4:=cm _ _ (O _ _ g1);have fin:∀v,v=oV (if ((at_ d i).isSome && comes g (goal,d) ch i)=AC then AB else at_ d i)->∃acc,L2.upd b0 ca (.tup [.int (i:Nat),oV (at_ d i)]) t=AA (.lst acc)/\acc.length<Ae/\VX av g (goal,d) ch t (i+1) (L2.upd (L2.upd b0 ca (.tup [.int (i:Nat),oV (at_ d i)])) t (.lst (acc ++ [v]))):=λv f5=>by
      refine(_,cm _ _ b7,by rw[AL,FQ,pO];exact dS (),?_,?_);intro b o e;rw[aC (aT e R)];exact cm b o (O b o e);rw[aB,take_snoc (xR e8),Dd,f5];rfl
     refine(nV i,rfl,.ref q,rfl,q,_,rfl,DV.k (k:=AW (i:Int)) f4,_,rfl,?_);rw[er];refine ak (λr=>?_) (λr=>?_);exact fin _ (by rw[AJ r];rfl);exact(_,rfl,fin _ (by rw[AK r]));intro b0 (O,b7);rw[AL,TT.len,<-pO (g:=g) (f:=(goal,d)) (c:=ch),EI]at b7;refine(.ref fa,rfl,fa,C,c3,_,rfl,O _ _ Y,cd.cl,cd.FU,by show 2<1000;decide,?_);subst J;have el:q≠fa:=λz=>by rw[z,Y]at g1;cases g1
     have eo:t≠fa:=λz=>by rw[z,Y]at R;cases R
     refine(.ref q,rfl,q,_,rfl,by rw[aC el];exact O _ _ g1,?_);have fr:(kvsOf (l.filter λu=>comes g (goal,d) ch u)).length=E7 g (goal,d) ch:=by
      unfold kvsOf E7;rw[AL,(b2.filter _).length_eq,<-b6,W7]
      congr 1
      refine PR λu _=>?_;exact Bool.and_comm _ _
     rw[fr];refine k t _ (λb o e ab=>?_) ?_ ((c3,?_),?_) fz;simp only[Aj,BW,BV,A5]at ab;rw[aC ab.1];exact O _ _ (g3 b o e (by simpa using ab.2));refine(bl.same O).pP λu e=>?_;rw[O _ _ Y]at e;cases e;exact(λ_ z=>(by cases z),λ_ z=>(by cases z));rw[aB,p7];show L2.upd _ _ _ _=_;rw[aC eo];exact b7
def E8(g:Aw)(pc ph pd ps:AD):List (Str×V):=[(AE ("wide":Str) (nV g.wide)),(AE ("size":Str) (nV (AG g))),(AE ("high":Str) (nV (G4 g))),(AE ("costs":Str) (.ref pc)),(AE ("heights":Str) (.ref ph)),(AE ("doors":Str) (.ref pd)),(AE ("steps":Str) (.ref ps))]
structure D8(C:AD)(H:Hp)(a:AD)(g:Aw)(pc ph pd ps:AD)(sa:List AD):Prop where
 s:El C H a g pc ph ps sa
 ins:∃dx,H a=AA (.ins C dx (E8 g pc ph pd ps))
 doors:H pd=AA (.lst (g.cells.map λc=>oV c.door))
inductive Lq(C:AD)(vs:List V)(H:Hp)(Q:VK)(E:XK):Prop
 |mk:∀a g pc ph ps sa c o,vs=[.ref a,nV c,nV o]->El C H a g pc ph ps sa->c<AG g->Q (oV (Ab g c o)) H->Lq C vs H Q E
structure zn(H:Hp)(a:AD)(g:Aw)(c o:Nat)(j:Nat)(σ:L2.St)(H':Hp):Prop where
 heap:H=H'
 ex:∃y z:Option V,σ=[AA (.ref a),AA (nV c),AA (nV o),y,z]
 no:∀i vk,i<j->(DE g c)[i]? =AA vk->vk.1≠o
def vj(an:Ag x "cost_between" "Land.cost_between" Uq f fd)(M:Dx x mg C):AV a6 w x mg base AZ 1 f fd ["self","cell","other"] (Lq C):=by
 exists an.go ["self","cell","other","near","step"],a5,av,a4;obtain⟨a,g,pc,ph,ps,sa,c,o,rfl,L,Z,k⟩:=h;refine(_,(aE (dg D0 rfl (dP (aJ aL (aH (pv 0)) (pv 1))) (eP rfl (dX (aa 3) (dX (aa 4) eO))) (aF (aX (aW dh (pv 3) (pv 2) (aU _)) (aF (aI (pv 4))) aZ))) (aF (aI ai))),?_);have(aj,fs,G,a3,a2,a1,a0,m1,_):=L.b.ins;obtain⟨b,J⟩:∃b,sa[c]? =AA b:=(_,AX (by rw[L.len];exact Z));have(T,B,n):=L.each c b J;exists N,ab;refine(.ref a,rfl,a,C,aj,fs,.ref ps,rfl,G,M.cl,M.JK,L.fld _ _ G,nV c,rfl,ps,sa.map V.ref,(c:Int),.ref b,rfl,rfl,L.steps,by rw[aM,BC,J];rfl,b,rfl,(_,AN.of B),?_);refine fS (K:=x) (a:=b) (xs:=T.map V.ref) (zn H a g c o) (rfl,(_,_,rfl),λi l h=>by lia) (λj y O _ I=>by rw[<-I.heap];exact AN.of B) ?_ ?_;rintro j v0 y O U ⟨rfl,⟨S,R,rfl⟩,no⟩;obtain⟨t,D,rfl⟩:=dN U;have p:j<(DE g c).length:=by rw[<-n.1];exact(AY.mp D).1
 obtain⟨⟨v,d⟩,m⟩:∃l,(DE g c)[j]? =AA l:=(_,AX p);have X:=n.2 j t _ D m;have Y:Ab g c v=AA d:=eJ.mp (Ar m);refine(t,[nV v,nV d],rfl,BB.of X,rfl,nV v,[nV d],rfl,nV d,[],rfl,rfl,?_);simp![];refine ak (λu=>?_) (λu=>?_);have e:v=o:=by have:=DT u;lia
 subst e;rw[Y]at k;simp![];exact k;refine(rfl,(_,_,rfl),λi l r e=>?_);by_cases q:i<j;exact no i l q e;have:i=j:=by lia
 subst this;rw[m]at e;cases e;intro z;exact u (by rw[show v=o from z];simp);rintro y O ⟨rfl,⟨S,R,rfl⟩,no⟩;subst ab;have e:Ab g c o=AB:=by
  cases q:Ab g c o with
  |none=>rfl
  |some d=>
   have(i,r):=DP (eJ.mpr q);have p:=(AY.mp r).1;exact absurd rfl (no i _ (by rw[AL,n.1];exact p) r)
 rw[e]at k;exact k
def HN(d:IM):List (Str×V):=[(AE ("period":Str) (nV d.period)),(AE ("lasting":Str) (nV d.opened)),(AE ("shift":Str) (nV d.shift))]
def KA(C:AD)(H:Hp)(a:AD)(d:IM):Prop:=∃b,H a=AA (.ins C b (HN d))
def qH:(HN d).lookup ("period":Str)=AA (nV d.period):=rfl
def qJ:(HN d).lookup ("lasting":Str)=AA (nV d.opened):=rfl
def yH:(HN d).lookup ("shift":Str)=AA (nV d.shift):=rfl
structure N8(K:Ao)(C:AD):Prop where
 cl:EO K C
 QY:BO K C "period"
 QZ:BO K C "lasting"
 VC:BO K C "shift"
inductive Nc(C:AD)(vs:List V)(H:Hp)(Q:VK)(E:XK):Prop
 |mk:∀a dx,∀d:IM,vs=[.ref a,nV d.period,nV d.opened,nV d.shift]->H a=AA (.ins C dx [])->Q .Al (L2.upd H a (.ins C dx (HN d)))->Nc C vs H Q E
inductive QA(C:AD)(vs:List V)(H:Hp)(Q:VK)(E:XK):Prop
 |mk:∀a,∀d:IM,∀t:Nat,vs=[.ref a,nV t]->KA C H a d->0<d.period->Q (.bl (decide ((t+d.shift) % d.period<d.opened))) H->QA C vs H Q E
inductive QI(C:AD)(vs:List V)(H:Hp)(Q:VK)(E:XK):Prop
 |mk:∀a,∀d:IM,vs=[.ref a]->KA C H a d->Q (.bl (d.opened==d.period)) H->QI C vs H Q E
inductive Lk(C:AD)(vs:List V)(H:Hp)(Q:VK)(E:XK):Prop
 |mk:∀a g pc ph c n l,vs=[.ref a,nV c,nV n,nV l]->FG C H a g pc ph->c<AG g->n<AG g->(n≠c->0<E6 g c n)->Q (nV (if n=c then l - 1 else E6 g c n - 1)) H->Lk C vs H Q E
def Gs(p:AD)(a:Nat):List (Str×V):=[(AE ("plan":Str) (.ref p)),(AE ("time_left":Str) (nV a))]
def eZ:(Gs p a).lookup ("plan":Str)=AA (.ref p):=rfl
def i7:(Gs p a).lookup ("time_left":Str)=AA (nV a):=rfl
def gZ{left:Nat}(b:(m==("plan":Str))=AF)(a:(m==("time_left":Str))=AF):(Gs p left).lookup m=AB:=by
 unfold Gs;erw[ED,b,ED,a];rfl
structure Fj(C:AD)(H:Hp)(a p:AD)(cs:List Nat)(left:Nat):Prop where
 ins:∃dx,H a=AA (.ins C dx (Gs p left))
 plan:H p=AA (.lst (cs.map nV))
def Fj.same(h:Fj C H a p cs b)(s:AH H d):Fj C d a p cs b:=(let(c,e):=h.ins;(c,s _ _ e),s _ _ h.plan)
structure GL(K:Ao)(mg:Str->Option AI)(C:AD):Prop where
 cl:EO K C
 Fg:BO K C "plan"
 Kw:BO K C "time_left"
 IG:mg "max"=AB
 GJ:mg "min"=AB
 C2:mg "len"=AB
 Df:mg "range"=AB
inductive Ps(C:AD)(vs:List V)(H:Hp)(Q:VK)(E:XK):Prop
 |mk:∀a dx c,vs=[.ref a,nV c]->H a=AA (.ins C dx [])->(∀p H',H p=AB->AQ [a] H H'->Fj C H' a p [c] 0->Q .Al H')->Ps C vs H Q E
inductive Ls(C:AD)(vs:List V)(H:Hp)(Q:VK)(E:XK):Prop
 |mk:∀a p cs left t,vs=[.ref a,nV t]->Fj C H a p cs left->cs≠[]->Q (nV (DY cs t)) H->Ls C vs H Q E
inductive QD(C:AD)(vs:List V)(H:Hp)(Q:VK)(E:XK):Prop
 |mk:∀a p cs left c t,vs=[.ref a,nV c,nV t]->Fj C H a p cs left->cs≠[]->(∀H',AH H H'->Q (.bl ((cs.drop (min t (cs.length - 1))).contains c)) H')->QD C vs H Q E
def kz(t n:Nat)(h:0<n):(if ((n:Int) - 1)<(t:Int)then((n:Int) - 1)else(t:Int))=((min t (n - 1):Nat):Int):=by
 split<;>lia
def qV(xs:List V)(k:Nat)(h:k<=xs.length):Ih xs (AA (k:Int)) AB=xs.drop k:=by
 unfold Ih;have b:HT.EV xs.length 0 (AA (k:Int))=k:=by
  simp only[HT.EV];erw[AK ()];lia
 have a:HT.EV xs.length xs.length AB=xs.length:=by simp[HT.EV]
 erw[b,a,La (by erw[Fs];lia)]
def lW(c:Nat)(l:List Nat):Hz (nV c) (l.map nV)=l.contains c:=by
 unfold Hz;erw[Gp,DQ,Eo,Ft];constructor;intro(x,a,e);have b:(((x:Nat):Int)==((c:Nat):Int))=AC:=e;have:x=c:=by have:=Hb.mp b;lia
 erw[<-this];exact a;intro h;exact(c,h,by show (((c:Nat):Int)==((c:Nat):Int))=AC;simp)
def lh(l:List Nat):(l.map nV).all Ic=AC:=by
 erw[FR];intro x a;obtain⟨n,_,rfl⟩:=Du.mp a;rfl
def vg(g:Ag c "__init__" "Door.__init__" Um f fd)(T:N8 c C):AV n w c mg base AZ 1 f fd ["self","period","lasting","shift"] (Nc C):=by
 exists g.go ["self","period","lasting","shift"],m,i,j;obtain⟨a,l,d,rfl,e,k⟩:=h;refine(_,(aE (dH (pv 0) (pv 1) rfl) (aE (dH (pv 0) (pv 2) rfl) (aF (dH (pv 0) (pv 3) rfl)))),?_);exists N,b;simp![e,T.cl,T.QY];refine(by show 0<1000;decide,?_);subst b;exists N,b;simp![T.cl,T.QZ];refine(by show 1<1000;decide,?_);subst b;simp![T.cl,T.VC];refine(by show 2<1000;decide,?_);exact k
def vR(g:Ag b "is_open_at" "Door.is_open_at" UZ f fd)(T:N8 b C):AV o w b mg base AZ 1 f fd ["self","tick"] (QA C):=by
 exists g.go ["self","tick"],n,i,j;obtain⟨a,d,t,rfl,⟨m,c⟩,l,k⟩:=h;refine(_,(aF (aI (eQ eS (aV jQ (aV dG (pv 1) (aH (pv 0))) (aH (pv 0))) (aH (pv 0)) (aU _)))),?_);simp![c,T.cl,T.VC,T.QY,T.QZ,yH,qH,qJ];refine(by lia,?_);have e:decide ((t+d.shift) % d.period<d.opened)=decide (((t:Int) + (d.shift:Int)) % (d.period:Int)<(d.opened:Int)):=by
  have:((t:Int) + (d.shift:Int)) % (d.period:Int)=(((t+d.shift) % d.period:Nat):Int):=rfl;rw[this,HZ];lia
 rw[e]at k;exact k
def vh(g:Ag b "is_always_open" "Door.is_always_open" Uo f fd)(T:N8 b C):AV n w b mg base AZ 1 f fd ["self"] (QI C):=by
 exists g.go ["self"],m,i,j;obtain⟨a,d,rfl,⟨l,c⟩,k⟩:=h;refine(_,(aF (aI (eQ dh (aH (pv 0)) (aH (pv 0)) (aU _)))),?_);simp![c,T.cl,T.QY,T.QZ,qH,qJ];have e:(d.opened==d.period)=decide ((d.opened:Int)=(d.period:Int)):=by
  rw[DQ];simp;lia
 rw[e]at k;exact k
def ub(v:Ag i "time_left_after" "time_left_after" Tj f fd)(T:Dx i mg C)(x:A6 u w i mg base 1 C "step_cost" ["self","cell","near"] (Lm C)):
  AV u w i mg base AZ 2 f fd ["land","cell","near","left"] (Lk C):=by
 exists v.go ["land","cell","near","left"],S,y,m;obtain⟨a,g,pc,ph,c,n,l,rfl,L,r,p,o,k⟩:=h;refine(_,(aE (aX (aW dh (pv 2) (pv 1) (aU _)) (aF (aI (bD (jq rfl) (by rfl) T.IG boot_max (aA aG (aA (aV dQ (pv 3) aG) aD))))) aZ) (aF (aI (aV dQ (ae (pv 0) x m (aA (pv 1) (aA (pv 2) aD))) aG)))),?_);have(R,fs,q,O,M,J,I,m1,G,D,j,B):=L.ins;exists N,t;simp![];refine ak (λd=>?_) (λd=>?_);have b:n=c:=by have:=DT d;lia
 rw[AJ b]at k;have e:(if ((l:Int) - 1)>0 then((l:Int) - 1)else 0)=((l - 1:Nat):Int):=by split<;>lia
 rw[nV,<-e]at k;simp![];exact k;have b:n≠c:=λz=>d (by rw[z];simp);subst t;simp![q,j];refine(a,g,pc,ph,c,n,rfl,L,r,p,?_);simp![];rw[AK b]at k;have:=o b;have e:((E6 g c n - 1:Nat):Int)=(E6 g c n:Int) - 1:=by lia
 rw[nV,e]at k;exact k
def uY(t:Ag l "__init__" "Walker.__init__" Tg f fd)(T:GL l mg C):AV y w l mg base AZ 1 f fd ["self","cell"] (Ps C):=by
 exists t.go ["self","cell"],x,u,v;obtain⟨a,j,c,rfl,i,k⟩:=h;refine(_,(aE (dH (pv 0) (af (aA (pv 1) aD)) rfl) (aF (dH (pv 0) aG rfl))),?_);exists N,r;simp![];refine(aN (),λp d=>?_);have g:a≠p:=aT i d;have n:∀o,L2.upd H p o a=AA (.ins C j []):=λo=>by rw[aC g];exact i
 simp![n,T.cl,T.Fg];refine(by show 0<1000;decide,?_);subst r;simp![T.cl,T.Kw];refine(by show 1<1000;decide,?_);refine k p _ d (λb o e q=>?_) ((j,aB),?_);have m:b≠a:=by simpa using q
 rw[aC m,aC (aT e d)];exact e;rw[aC g.symm,aB];rfl
def vx(g:Ag c "cell_after" "Walker.cell_after" Uz f fd)(T:GL c mg C):AV n w c mg base AZ 1 f fd ["self","ticks"] (Ls C):=by
 exists g.go ["self","ticks"],m,i,j;obtain⟨a,p,cs,left,t,rfl,W,b,k⟩:=h;refine(_,(aF (aI (aJ aL (aH (pv 0)) (bD (iw rfl) (by rfl) T.GJ boot_min (aA (pv 1) (aA (aV dQ (bD dj (by rfl) T.C2 EB (aA (aH (pv 0)) aD)) aG) aD)))))),?_);have(l,e):=W.ins;have d:=Fb.mpr b;simp![e,T.cl,T.Fg,eZ,W.plan,AL,kz t cs.length d,BC,fH b t,EH];exact k
def vV(j:Ag b "is_at_from" "Walker.is_at_from" Ud f fd)(T:GL b mg C):AV r w b mg base AZ 1 f fd ["self","cell","ticks"] (QD C):=by
 exists j.go ["self","cell","ticks"],o,l,m;obtain⟨a,p,cs,left,c,t,rfl,W,e,k⟩:=h;refine(_,(aF (aI (oN (K:=b) rfl (pv 1) (kY kA (aH (pv 0)) (jK (bD (iw rfl) (by rfl) T.GJ boot_min (aA (pv 2) (aA (aV dQ (bD dj (by rfl) T.C2 EB (aA (aH (pv 0)) aD)) aG) aD)))) oE)))),?_);have(n,i):=W.ins;have g:=Fb.mpr e;simp![i,T.cl,T.Fg,eZ,W.plan,AL,kz t cs.length g,Pb,Pc,Pe,QW];refine(_,AN.of W.plan,λq d=>?_);rw[qV _ _ (by rw[AL];lia)];refine(q,_,rfl,.inl (AN.of aB),rfl,?_,?_);rw[<-O9];exact lh _;rw[<-O9];show Q (.bl (Hz _ _)) _;rw[lW];exact k _ (AH.upd d)
structure WA where
 wa:AD
 la:AD
 pc:AD
 ph:AD
 pd:AD
 ps:AD
 sa:List AD
 dl:AD
 da:List AD
 fl:AD
 fa:List AD
 fp:List AD
 wd:AD
 ka:List AD
 kp:List AD
def WA.DF(r:WA):List AD:=[r.pc,r.ph,r.pd,r.ps,r.dl,r.fl] ++ r.fp
@[inline]def WA.muts(r:WA):List AD:=[r.wa,r.wd] ++ r.DF ++ r.fa ++ r.ka
structure WA.Sep(r:WA):Prop where
 lists:r.DF.Nodup
 GG:∀b,b∈r.sa\/b∈r.kp->b∉r.DF
 JL:r.fa.Nodup
 knd:r.ka.Nodup
def DZ(a:V)(dl fl wd:AD)(made tick:Nat):List (Str×V):=[(AE ("land":Str) a),(AE ("doors":Str) (.ref dl)),(AE ("fields":Str) (.ref fl)),(AE ("walkers":Str) (.ref wd)),(AE ("walkers_made":Str) (nV made)),(AE ("tick":Str) (nV tick))]
def Bb(ys:List (Nat×DI))(ka:List AD):List (Key×V):=O7 (λ(y:Nat×DI) (a:AD)=>(AE (AW (y.1:Int):Key) (V.ref a))) ys ka
structure Ad(c:Cs)(H:Hp)(r:WA)(s:Eg)(g:Aw):Prop where
 ok:Dn s
 gr:s.ground=AA g
 ins:∃dx,H r.wa=AA (.ins c.W dx (DZ (.ref r.la) r.dl r.fl r.wd s.walkers.length s.now))
 land:D8 c.L H r.la g r.pc r.ph r.pd r.ps r.sa
 dl:H r.dl=AA (.lst (r.da.map V.ref))
 HQ:r.da.length=g.doors.length
 da:∀(i:Nat) (a:AD) (d:IM),r.da[i]? =AA a->g.doors[i]? =AA d->KA c.D H a d
 fl:H r.fl=AA (.lst (r.fa.map V.ref))
 Et:r.fa.length=s.fields.length
 IB:r.fp.length=s.fields.length
 fa:∀(i:Nat) (a p:AD) (f:Ey),r.fa[i]? =AA a->r.fp[i]? =AA p->s.fields[i]? =AA f->FY c.F H a f.goal p f.costs
 wd:H r.wd=AA (.dK (Bb (alive s) r.ka))
 Ds:r.ka.length=(alive s).length
 FV:r.kp.length=(alive s).length
 ka:∀(i:Nat) (a p:AD) (y:Nat×DI),r.ka[i]? =AA a->r.kp[i]? =AA p->(alive s)[i]? =AA y->Fj c.K H a p y.2.plan.cells y.2.left
 sep:r.Sep
structure DO(K:Ao)(mg:Str->Option AI)(C:AD):Prop where
 cl:EO K C
 Dv:BO K C "land"
 Hv:BO K C "doors"
 Hu:BO K C "fields"
 FT:BO K C "walkers"
 Kv:BO K C "walkers_made"
 JJ:BO K C "tick"
 Qu:GI mg "DOORS" 6
 Df:mg "range"=AB
 HR:mg "any"=AB
 C2:mg "len"=AB
def dR:(DZ v a fl wd m t).lookup ("land":Str)=AA v:=rfl
def mS:(DZ v a fl wd m t).lookup ("doors":Str)=AA (.ref a):=rfl
def fo:(DZ v a fl wd m t).lookup ("fields":Str)=AA (.ref fl):=rfl
def d8:(DZ v a fl wd m t).lookup ("walkers":Str)=AA (.ref wd):=rfl
def i8:(DZ v a fl wd m t).lookup ("walkers_made":Str)=AA (nV m):=rfl
def ga:(DZ v a fl wd m t).lookup ("tick":Str)=AA (nV t):=rfl
def d7{dl:AD}(h:([("land":Str),"doors","fields","walkers","walkers_made","tick"].all λy=> !(x==y))=AC):(DZ v dl fl wd m t).lookup x=AB:=by
 simp only[IY,List.all_nil,DN,Gq,Bool.and_true]at h;have(f,e,d,c,b,a):=h;unfold DZ;erw[ED,f,ED,e,ED,d,ED,c,ED,b,ED,a];rfl
def xH:(E8 g pc ph pd ps).lookup ("wide":Str)=AA (nV g.wide):=rfl
def g9:(E8 g pc ph pd ps).lookup ("size":Str)=AA (nV (AG g)):=rfl
def xJ:(E8 g pc ph pd ps).lookup ("high":Str)=AA (nV (G4 g)):=rfl
def pL:(E8 g pc ph pd ps).lookup ("costs":Str)=AA (.ref pc):=rfl
def pK:(E8 g pc ph pd ps).lookup ("heights":Str)=AA (.ref ph):=rfl
def jb:(E8 g pc ph pd ps).lookup ("doors":Str)=AA (.ref pd):=rfl
def xI:(E8 g pc ph pd ps).lookup ("steps":Str)=AA (.ref ps):=rfl
def fR(h:([("wide":Str),"size","high","costs","heights","doors","steps"].all λy=> !(x==y))=AC):(E8 g pc ph pd ps).lookup x=AB:=by
 simp only[IY,List.all_nil,DN,Gq,Bool.and_true]at h;have(i,f,e,d,c,b,a):=h;unfold E8;erw[ED,i,ED,f,ED,e,ED,d,ED,c,ED,b,ED,a];rfl
def Ef.t(h:Ef c):c.W≠c.T/\c.L≠c.T/\c.D≠c.T/\c.F≠c.T/\c.K≠c.T:=by
 have:=h.nd;simp only[Gm,Aj,A5]at this;exact(this.1.2.2.2.2.1,this.2.1.2.2.2.1,this.2.2.1.2.2.1,this.2.2.2.1.2.1,this.2.2.2.2.1.1)
def NL(C:AD)(o:HO):Prop:=(∀xs,o≠.lst xs)/\∀a fs,o≠.ins C a fs
def gt(h:D≠C):NL C (.ins D a fs):=(λ_ z=>(nomatch z),λ_ _ z=>h (HO.ins.inj z).1)
def wG:NL C (.tup xs):=(λ_ z=>(nomatch z),λ_ _ z=>(nomatch z))
def wH:NL C (.dK a):=(λ_ z=>(nomatch z),λ_ _ z=>(nomatch z))
def El.jc{f:Hp}(m:C≠C0)(L:El C H a g pc ph ps sa)(c:∀b xs,H b=AA (.lst xs)->b∈pc::ph::ps::sa->f b=AA (.lst xs))(h:∀b o,H b=AA o->NL C0 o->f b=AA o):El C f a g pc ph ps sa:=by
 have(q,fs,k,r):=L.b.ins;have j:=h _ _ k (gt m);refine(((q,fs,j,r),c _ _ L.b.costs (by simp),c _ _ L.b.Ei (by simp),L.b.wide,L.b.few,L.b.rows),λt s e=>?_,c _ _ L.steps (by simp),L.len,λi b e=>?_);rw[j]at e;cases e;exact L.fld _ _ k;have(l,p,n):=L.each i b e;exact(l,c _ _ p (by simp[Ar e]),n.keep λd xs hd=>h _ _ hd wG)
def D8.jc{c:Hp}(j:C≠C0)(L:D8 C H a g pc ph pd ps sa)(f:∀b xs,H b=AA (.lst xs)->b∈pc::ph::ps::pd::sa->c b=AA (.lst xs))(d:∀b o,H b=AA o->NL C0 o->c b=AA o):D8 C c a g pc ph pd ps sa:=
 (L.s.jc j (λb xs e i=>f b xs e (by simp only[Aj]at i|-;rcases i with h|h|h|h<;>simp[h])) d,let(k,e):=L.ins;(k,d _ _ e (gt j)),f _ _ L.doors (by simp))
@[inline]def WA.lists(r:WA):List AD:=r.DF ++ r.sa ++ r.kp
def Ad.gA{x:Hp}(q:c.W≠C0/\c.L≠C0/\c.D≠C0/\c.F≠C0/\c.K≠C0)(j:Ad c H r s g)(n:∀b xs,H b=AA (.lst xs)->b∈r.lists->x b=AA (.lst xs))(m:∀b o,H b=AA o->NL C0 o->x b=AA o):Ad c x r s g:=by
 have u:∀b,b∈r.DF->b∈r.lists:=λb h=>by unfold WA.lists;simp[h]
 have(l,A):=j.ins;refine(j.ok,j.gr,(l,m _ _ A (gt q.1)),j.land.jc q.2.1 (λb xs e z=>n b xs e ?_) m,n _ _ j.dl (u _ (by simp[WA.DF])),j.HQ,λi a d t k=>?_,n _ _ j.fl (u _ (by simp[WA.DF])),j.Et,j.IB,λi a p f t k v=>?_,m _ _ j.wd wH,j.Ds,j.FV,λi a p y t k v=>?_,j.sep);simp only[Aj]at z;unfold WA.lists WA.DF;rcases z with h|h|h|h|h<;>simp[h];have(l,e):=j.da i a d t k;exact(l,m _ _ e (gt q.2.2.1));have((l,e),w):=j.fa i a p f t k v;exact((l,m _ _ e (gt q.2.2.2.1)),n _ _ w (u _ (by simp[WA.DF,Ar k])));have((l,e),w):=j.ka i a p y t k v;exact((l,m _ _ e (gt q.2.2.2.2)),n _ _ w (by unfold WA.lists;simp[Ar k]))
def p9(l:List AD):∃C0:AD,C0∉l:=by
 refine(l.sum+1,λh=>?_);have:∀(l:List Nat) (x:Nat),x∈l->x<=l.sum:=λl=>by
  induction l with
  |nil=>intro x h;simp at h
  |cons a l b=>
   intro x h;erw[Sf];rcases Aj.mp h with rfl|h;lia;have:=b x h;lia
 have:=this l _ h;lia
def Ad.keep{d:Hp}(j:Ad c H r s g)(i:∀b xs,H b=AA (.lst xs)->b∈r.lists->d b=AA (.lst xs))(f:∀b o,H b=AA o->(∀xs,o≠.lst xs)->d b=AA o):Ad c d r s g:=by
 have(C0,a):=p9 [c.W,c.L,c.D,c.F,c.K];simp only[Aj,BW,A5,BV]at a;exact j.gA (C0:=C0) (λz=>a.1 z.symm,λz=>a.2.1 z.symm,λz=>a.2.2.1 z.symm,λz=>a.2.2.2.1 z.symm,λz=>a.2.2.2.2 z.symm) i λb o e h=>f b o e h.1
def Ad.same(a:Ad c H r s g)(k:AH H d):Ad c d r s g:=a.keep (λb xs e _=>k b _ e) λb o e _=>k b o e
def Ad.ql(f:Ef c)(h:Ad c H r s g)(a:H t=AA (.ins c.T j fs))(k:AQ [t] H i):Ad c i r s g:=
 h.gA f.t (λb xs e _=>k b _ e (by simp;intro z;rw[z,a]at e;cases e)) λb o e d=>k b o e (by simp;intro z;rw[z,a]at e;cases e;exact d.2 _ _ rfl)
def Ad.upd(j:Ad c H r s g)(h:∀u,H q=AA u->∃xs,u=.lst xs)(f:q∉r.lists):Ad c (L2.upd H q o) r s g:=
 j.keep (λb xs e i=>by erw[aC (λz=>f (by erw[<-z];exact i))];exact e) λb u e d=>by
  erw[aC (λz=>by rw[z]at e;have(xs,a):=h u e;exact d xs a)];exact e
def K0(r:WA)(o:Option Nat):V:=match o with
 |none=> .Al
 |some d=> .ref (r.da.getD d 0)
inductive Nb(c:Cs)(vs:List V)(H:Hp)(Q:VK)(E:XK):Prop
 |mk:∀r s g cell,vs=[.ref r.wa,nV cell]->Ad c H r s g->cell<AG g->Q (K0 r (A7 g cell).door) H->Nb c vs H Q E
inductive Lo(c:Cs)(vs:List V)(H:Hp)(Q:VK)(E:XK):Prop
 |mk:∀r s g cell t,vs=[.ref r.wa,nV cell,nV t]->Ad c H r s g->cell<AG g->Q (.bl (GU g cell (s.now+t))) H->Lo c vs H Q E
inductive Ni(c:Cs)(vs:List V)(H:Hp)(Q:VK)(E:XK):Prop
 |mk:∀r s g cell,vs=[.ref r.wa,nV cell]->Ad c H r s g->cell<AG g->Q (.bl (Gh g cell)) H->Ni c vs H Q E
inductive Lp(c:Cs)(vs:List V)(H:Hp)(Q:VK)(E:XK):Prop
 |mk:∀r s g cell,vs=[.ref r.wa,nV cell]->Ad c H r s g->(∀H',AH H H'->Q (.bl ((Ac s 0).any (D9 s.now cell))) H')->Lp c vs H Q E
inductive Ln(c:Cs)(vs:List V)(H:Hp)(Q:VK)(E:XK):Prop
 |mk:∀r s g n x,vs=[.ref r.wa,nV n]->Ad c H r s g->(AE n x)∈alive s->Q (nV (Hc x.plan)) H->Ln c vs H Q E
def ln(h:c<AG g):(g.cells.map λc=>oV c.door)[c]? =AA (oV (A7 g c).door):=by
 unfold AG at h;erw[BC,AX h];unfold A7;erw[DA,AX h];rfl
def JV.door(G:JV g)(h:(A7 g c).door=AA d):d<6:=by
 unfold A7 at h;rw[DA]at h;cases e:g.cells[c]? with
 |none=>rw[e]at h;cases h
 |some x=>rw[e]at h;exact G.which x (Ar e) d h
def Ad.door(b:Ad c H r s g)(k:d<6):∃a h,r.da[d]? =AA a/\r.da.getD d 0=a/\H a=AA (.ins c.D h (HN (g.doors.getD d {})))/\0<(g.doors.getD d {}).period:=by
 have G:=b.ok.Ej g b.gr;have i:d<g.doors.length:=by erw[G.doors];exact k
 obtain⟨a,f⟩:∃a,r.da[d]? =AA a:=(_,AX (by erw[b.HQ];exact i));have e:g.doors[d]? =AA (g.doors.getD d {}):=by erw[DA,AX i];rfl
 have(h,j):=b.da d a _ f e;exact(a,h,f,by erw[DA,f];rfl,j,G.per _ (Ar e))
def jX{H:Hp}(h:H d=AA u)(s:AH (L2.upd H d (.BA c u)) a):AH H (L2.upd a d u):=λb o e=>by
 by_cases q:b=d;subst q;rw[h]at e;cases e;exact aB;erw[aC q];exact s b o (by erw[aC q];exact e)
def vf(q:Ag b "door_of" "World.door_of" Ul f fd)(T:DO b mg c.W)(j:Dx b mg c.L):AV D w b mg base AZ 1 f fd ["self","cell"] (Nb c):=by
 exists q.go ["self","cell","which"],C,t,u;obtain⟨r,st,g,cell,rfl,W,m,k⟩:=h;refine(_,(aE (aS 2 (aJ aL (aH (aH (pv 0))) (pv 1))) (aF (aI (fc (aW dz (pv 2) ai (aU _)) ai (aJ aL (aH (pv 0)) (pv 2)))))),?_);have(B,i):=W.ins;have(y,l):=W.land.ins;exists N,n;simp![i,T.cl,T.Dv,dR,l,j.cl,j.Hv,jb,W.land.doors,ln m];subst n;cases e:(A7 g cell).door with
 |none=>
  rw[e]at k;simp![oV];exact k
 |some d=>
  rw[e]at k;have(a,z,p,o,x,v):=W.door ((W.ok.Ej g W.gr).door e);simp![oV,i,T.cl,T.Hv,mS,W.dl,BC,p,EH];rw[K0,o]at k;exact k
def vD(y:Ag b "is_open_after" "World.is_open_after" UM f fd)(T:DO b mg c.W)(B:A6 n w b mg base 1 c.W "door_of" ["self","cell"] (Nb c))(z:A6 n w b mg base 1 c.D "is_open_at" ["self","tick"] (QA c.D)):
  AV n w b mg base AZ 2 f fd ["self","cell","ticks"] (Lo c):=by
 exists y.go ["self","cell","ticks","door"],I,C,j;obtain⟨r,st,g,cell,t,rfl,W,o,k⟩:=h;refine(_,(aE (aS 3 (ae (pv 0) B j (aA (pv 1) aD))) (aF (aI (iJ (eQ dz (pv 3) ai (aU _)) (gO (ae (pv 3) z j (aA (aV dG (aH (pv 0)) (pv 2)) aD))))))),?_);have(G,l):=W.ins;exists N,p;simp![l,d7 (x:="door_of") (by decide +kernel)];refine(r,st,g,cell,rfl,W,o,?_);subst p;cases e:(A7 g cell).door with
 |none=>
  simp![K0];have i:GU g cell (st.now+t)=AC:=by unfold GU;rw[e]
  rw[i]at k;exact k
 |some d=>
  have(a,v,D,u,m,q):=W.door ((W.ok.Ej g W.gr).door e);simp![K0,u,m,l,T.cl,T.JJ,ga];refine(rfl,a,g.doors.getD d {},st.now+t,rfl,(v,m),q,?_);have i:GU g cell (st.now+t)=decide ((st.now+t+ (g.doors.getD d {}).shift) % (g.doors.getD d {}).period<(g.doors.getD d {}).opened):=by unfold GU;rw[e]
  rw[i]at k;exact k
def v7(u:Ag b "is_always_open" "World.is_always_open" U6 f fd)(T:DO b mg c.W)(y:A6 m w b mg base 1 c.W "door_of" ["self","cell"] (Nb c))(v:A6 m w b mg base 1 c.D "is_always_open" ["self"] (QI c.D)):
  AV m w b mg base AZ 2 f fd ["self","cell"] (Ni c):=by
 exists u.go ["self","cell","door"],G,z,j;obtain⟨r,st,g,cell,rfl,W,o,k⟩:=h;refine(_,(aE (aS 2 (ae (pv 0) y j (aA (pv 1) aD))) (aF (aI (iJ (eQ dz (pv 2) ai (aU _)) (gO (tS (pv 2) v j)))))),?_);have(D,n):=W.ins;exists N,p;simp![n,d7 (x:="door_of") (by decide +kernel)];refine(r,st,g,cell,rfl,W,o,?_);subst p;cases e:(A7 g cell).door with
 |none=>
  simp![K0];have i:Gh g cell=AC:=by unfold Gh;rw[e]
  rw[i]at k;exact k
 |some d=>
  have(a,t,C,q,l,B):=W.door ((W.ok.Ej g W.gr).door e);simp![K0,q,l];refine(rfl,a,g.doors.getD d {},rfl,(t,l),?_);have i:Gh g cell=((g.doors.getD d {}).opened==(g.doors.getD d {}).period):=by unfold Gh;rw[e]
  rw[i]at k;exact k
def gK{ys:List (Nat×DI)}{ka:List AD}{i:Nat}{k:Key}{x:V}(h:(Bb ys ka)[i]? =AA (AE k x)):∃y a,ys[i]? =AA y/\ka[i]? =AA a/\k=AW (y.1:Int)/\x=.ref a:=by
 unfold Bb at h;rw[PH]at h;cases b:ys[i]? with
 |none=>rw[b]at h;cases h
 |some y=>
  cases c:ka[i]? with
  |none=>rw[b,c]at h;cases h
  |some a=>
   rw[b,c]at h;cases h;exact(y,a,rfl,rfl,rfl,rfl)
def gL(h:ka.length=ys.length):(Bb ys ka).length=ys.length:=by
 unfold Bb;erw[List.length_zipWith,h,M3]
def any_range(h:a=(Ai n).map b):a.any id=(Ai n).any b:=by
 erw[h,Gp];rfl
def vY(ab:Ag j "has_plan_at" "World.has_plan_at" Ug f fd)(T:DO j mg c.W)(t:GL j mg c.K):AV a2 w j mg base AZ 1 f fd ["self","cell"] (Lp c):=by
 exists ab.go ["self","cell","walker"],a1,C,av;obtain⟨r,st,g,cell,rfl,W,k⟩:=h;refine(_,(aF (aI (bD (io rfl) (by rfl) T.HR boot_any (aA (oK (dk rfl C (oG (aH (pv 0))) (own:=[(AE ("walker") 2)]) (dO (by kernel_rfl)) (λ_ _ _ _ _=>(aa 2)) (λ_ _ _ _ _=>dv) (λ_ _ _ _ _=>(oN (K:=j) rfl (pv 1) (gm (K:=j) rfl (pv 2) rfl))))) aD)))),?_);have(Y,n):=W.ins;have an:=W.ok.GB;have a0:=gY (s:=st);have B:r.wa≠r.wd:=λz=>by rw[z,W.wd]at n;cases n
 refine(r.wd,_,W.wd,trivial,λv=>?_);refine(.ref r.wa,rfl,r.wa,c.W,Y,_,.ref r.wd,rfl,by rw[aC B];exact n,T.cl,T.FT,d8,r.wd,v,_,rfl,aB,λD o=>?_);refine xB (λi=>((alive st)[i]?).map λy=>V.bl (y.2.plan.cells.contains cell)) o aB (by rw[gL W.Ds];exact aN ()) (λi key x Z J d=>?_) (λZ d U=>?_);intro a3 a4 I aj;obtain⟨y,a,b,R,rfl,rfl⟩:=gK J;obtain⟨p,M⟩:∃p,r.kp[i]? =AA p:=(_,AX (by rw[W.FV];exact(AY.mp b).1));have((X,m),l):=W.ka i a p y R M b;have G:a≠r.wd:=λz=>by rw[z,W.wd]at m;cases m
 have np:p≠r.wd:=λz=>by rw[z,W.wd]at l;cases l
 have N:=d _ _ (show L2.upd H r.wd _ a=AA _ by rw[aC G];exact m);have L:=d _ _ (show L2.upd H r.wd _ p=AA _ by rw[aC np];exact l);refine(rfl,?_);unfold Er;dsimp only;rw[AJ rfl];refine(nV cell,rfl,.ref a,rfl,a,c.K,X,_,.ref p,rfl,N,t.cl,t.Fg,eZ,p,_,rfl,.inl (AN.of L),rfl,lh _,?_);refine I _ _ ?_ (λ_ _ e=>e);show _=AA (V.bl (Hz _ _));rw[b,lW];rfl;refine(d _ _ aB,?_);have nD:D≠r.wd:=λz=>by rw[z,aB]at o;cases o
 have u:=jX W.wd d;refine(D,(alive st).map (λy=>y.2.plan.cells.contains cell),rfl,AN.of ?_,?_);rw[aC nD,U,Dc,gL W.Ds]
 congr 2
 exact eX λi y b=>by rw[b];rfl
 have S:((alive st).map (λy=>y.2.plan.cells.contains cell)).any id=(Ac st 0).any (D9 st.now cell):=by
  rw[jP,Gp,Gp,DQ,Eo,Eo];constructor;intro(y,b,e);have O:=W.ok.FS g W.gr y b;refine(y,b,?_);show D9 st.now cell y.2.plan=AC;rw[<-O.begun,kZ O.path.ne];exact e;intro(y,b,e);have O:=W.ok.FS g W.gr y b;refine(y,b,?_);have q:D9 st.now cell y.2.plan=AC:=e;rw[<-O.begun,kZ O.path.ne]at q;exact q
 rw[S];exact k _ u
def Ad.walker(f:Ad c H r s g)(h:(AE n x)∈alive s):∃(i:Nat) (a p:AD) (m:AD),(alive s)[i]? =AA (AE n x)/\r.ka[i]? =AA a/\r.kp[i]? =AA p/\Fj c.K H a p x.plan.cells x.left/\H a=AA (.ins c.K m (Gs p x.left))/\A9 (Bb (alive s) r.ka) (AW (n:Int))=AA (.ref a)/\HS g s.now x:=by
 have(i,d):=DP h;have t:=(AY.mp d).1;obtain⟨a,l⟩:∃a,r.ka[i]? =AA a:=(_,AX (by erw[f.Ds];exact t));obtain⟨p,o⟩:∃p,r.kp[i]? =AA p:=(_,AX (by erw[f.FV];exact t));have A:=f.ka i a p _ l o d;have(m,e):=A.ins;refine(i,a,p,m,d,l,o,A,e,?_,f.ok.FS g f.gr _ h);unfold A9;have w:(Bb (alive s) r.ka)[i]? =AA (AE (AW (n:Int)) (V.ref a)):=by
  unfold Bb;erw[PH,d,l]
 have:(Bb (alive s) r.ka).find? (λq=>decide (q.1=(AW (n:Int):Key)))=AA (AE (AW (n:Int)) (V.ref a)):=by
  erw[Sm];have(D,C):=AY.mp w;refine(by simp,i,D,C,λj J=>?_);have v:(Bb (alive s) r.ka)[j]? =AA (Bb (alive s) r.ka)[j]:=AX _;have(y,b,B,_,I,_):=gK (k:=((Bb (alive s) r.ka)[j]).1) (x:=((Bb (alive s) r.ka)[j]).2) v;erw[I];simp only[Gq,decide_eq_false_iff_not];intro z;have u:y.1=n:=by have:=G6 z;lia
  have G:((alive s).map λy=>y.1)[j]? =AA n:=by erw[BC,B];exact congrArg AA u
  have E:((alive s).map λy=>y.1)[i]? =AA n:=by erw[BC,d];rfl
  have:=fE jt G E;lia
 erw[this];rfl
def uz(z:Ag b "rest_tick" "World.rest_tick" UD f fd)(T:DO b mg c.W)(m:GL b mg c.K):AV M w b mg base AZ 1 f fd ["self","number"] (Ln c):=by
 exists z.go ["self","number"],L,B,t;obtain⟨r,st,g,n,x,rfl,W,o,k⟩:=h;have q:=eC t;refine(_,(aF (aI (aV dQ (aV dG (aH (pv 0)) (bD dj (by rfl) T.C2 EB (aA (aH (fC q (aH (pv 0)) (pv 1) (λ_ _=>rfl))) aD))) aG))),?_);have(l,d):=W.ins;have(i,a,p,J,I,G,D,y,v,u,j):=W.walker o;refine(.ref r.wa,rfl,r.wa,c.W,l,_,nV st.now,rfl,d,T.cl,T.JJ,ga,.ref r.wa,rfl,r.wa,c.W,l,_,.ref r.wd,rfl,d,T.cl,T.FT,d8,nV n,rfl,r.wd,.ref a,rfl,?_,?_);rw[<-u];exact DV.k (k:=AW (n:Int)) W.wd;simp![v,m.cl,m.Fg,eZ,y.plan,AL];have C:=Fb.mpr j.path.ne;have e:(st.now:Int) + (x.plan.cells.length:Int) - 1=((Hc x.plan:Nat):Int):=by
  unfold Hc;rw[j.begun];lia
 rw[e];exact k
def Jv(g:Aw)(a:Nat)(cs:List Nat)(n:Nat):Nat:=Ex g a (cs.take (min n (cs.length - 1) + 1)) - (n - min n (cs.length - 1))
inductive QE(CL C:AD)(vs:List V)(H:Hp)(Q:VK)(E:XK):Prop
 |mk:∀a la g pc ph p cs left n,vs=[.ref a,.ref la,nV n]->Fj C H a p cs left->FG CL H la g pc ph->Path g cs->n<=1000->(∀q H',AQ [a] H H'->H q=AB->Fj C H' a q (cs.drop (min n (cs.length - 1))) (Jv g left cs n)->Q .Al H')->QE CL C vs H Q E
structure zg(H:Hp)(a la:AD)(g:Aw)(left:Nat)(cs:List Nat)(n:Nat)(i:Nat)(σ:L2.St)(H':Hp):Prop where
 heap:H=H'
 ex:∃x:Option V,σ=[AA (.ref a),AA (.ref la),AA (nV n),AA (nV (min n (cs.length - 1))),AA (nV (Ex g left (cs.take (i+1)))),x]
def wL(h:u=v\/∃w,Ab g u v=AA w):(if v=u then k - 1 else E6 g u v - 1)=JI g u v k/\(v≠u->0<E6 g u v):=by
 unfold JI;by_cases e:u=v;erw[AJ e.symm,AJ e];exact(rfl,λz=>absurd e.symm z);rcases h with h| ⟨w,hw⟩;exact absurd h e;have a:w=E6 g u v:=by
  have:=gf (dq hw).2.2.1;rw[hw]at this;split at this;exact Ap this;cases this
 erw[AK (λz=>e z.symm),AK e,hw,a];exact(rfl,λ_=>by erw[<-a];exact step_pos hw)
def vZ(a5:Ag y "go_on" "Walker.go_on" Uh f fd)(T:GL y mg C)(a6:A8 a3 w y mg base 2 "time_left_after" ["land","cell","near","left"] (Lk bl)):AV a3 w y mg base AZ 3 f fd ["self","land","ticks"] (QE bl C):=by
 exists a5.go ["self","land","ticks","walked","left","place"],b1,bm,O;obtain⟨a,la,g,pc,ph,p,cs,left,n,rfl,W,L,j,bs,k⟩:=h;refine(_,(aE (aS 3 (bD (iw rfl) (by rfl) T.GJ boot_min (aA (pv 2) (aA (aV dQ (bD dj (by rfl) T.C2 EB (aA (aH (pv 0)) aD)) aG) aD)))) (aE (aS 4 (aH (pv 0))) (aE (dg D0 rfl (fP rfl T.Df (aA (pv 3) aD)) (aa 5) (aF (aS 4 (ag a6 O rfl (aA (pv 1) (aA (aJ aL (aH (pv 0)) (pv 5)) (aA (aJ aL (aH (pv 0)) (aV dG (pv 5) aG)) (aA (pv 4) aD)))))))) (aE (dH (pv 0) (bD (jq rfl) (by rfl) T.IG boot_max (aA aG (aA (aV dQ (pv 4) (aV dQ (pv 2) (pv 3))) aD))) rfl) (aF (dH (pv 0) (kY kA (aH (pv 0)) (jK (pv 3)) oE) rfl)))))),?_);have(a2,d):=W.ins;have U:=Fb.mpr j.ne;exists N,c;simp![d,T.cl,T.Fg,eZ,W.plan,AL,kz n cs.length U];subst c;exists N,c;simp![d,T.cl,T.Kw,i7];subst c;exists N,c;refine(nV (min n (cs.length - 1)),rfl,_,rfl,by lia,by lia,?_);rw[Ep];refine hO (n:=min n (cs.length - 1)) (zg H a la g left cs n) (rfl,AB,?_) ?_ ?_;have a1:cs.take (0+1)=[DY cs 0]:=by
  have:=fH j.ne 0;rw[M0]at this;rw[Iz,this];rfl
 rw[a1,gy];rintro i I a4 b0 ⟨rfl,J,rfl⟩;have aj:(0:Int) + (i:Int)=(i:Int):=by lia
 rw[aj];obtain⟨u,m⟩:∃u,cs[i]? =AA u:=(_,AX ());obtain⟨v,l⟩:∃v,cs[i+1]? =AA v:=(_,AX ());have X:(i:Int) + 1=((i+1:Nat):Int):=by lia
 simp![d,T.cl,T.Fg,eZ,W.plan,BC,m,l,X,EH];have(a0,av):=wL (g:=g) (k:=Ex g left (cs.take (i+1))) (j.step i u v m l);refine(la,g,pc,ph,u,v,_,rfl,L,gh (j.st u (Ar m)),gh (j.st v (Ar l)),av,?_);rw[a0];refine(rfl,AA (nV i),?_);rw[wx m l];rfl;rintro I a4 ⟨rfl,J,rfl⟩;subst c;dsimp only;exists N,c;simp![d,T.cl,T.Kw];refine(by show 2<1000;decide,?_);have an:(if ((Ex g left (cs.take (min n (cs.length - 1) + 1)):Int) - ((n:Int) - ((min n (cs.length - 1):Nat):Int)))>0 then((Ex g left (cs.take (min n (cs.length - 1) + 1)):Int) - ((n:Int) - ((min n (cs.length - 1):Nat):Int)))else 0)=((Jv g left cs n:Nat):Int):=by
  unfold Jv;split<;>lia
 rw[an];have S:De ("time_left":Str) (V.int ((Jv g left cs n:Nat):Int)) (Gs p left)=Gs p (Jv g left cs n):=rfl;rw[S];subst c;have x:=W.plan;have M:p≠a:=λz=>by rw[z,d]at x;cases x
 have ab:∀o,L2.upd H a o a=AA o:=λo=>aB;have R:∀o,L2.upd H a o p=AA (.lst (cs.map nV)):=λo=>by rw[aC M];exact x
 simp![Pb,Pc,Pe,QW,ab,T.cl,T.Fg,eZ];refine(_,AN.of (R _),λq r=>?_);rw[qV _ _ (by rw[AL];lia)];have t:q≠a:=λz=>by rw[z,aB]at r;cases r
 have G:H q=AB:=by rw[aC t]at r;exact r
 have Z:∀o B,L2.upd (L2.upd H a o) q B a=AA o:=λo B=>by rw[aC t.symm,aB]
 simp![Z,T.cl,T.Fg];refine(by show 2<1000;decide,?_);refine k q _ (λb o e Y=>?_) G ((a2,aB),?_);have D:b≠a:=by simpa using Y
 rw[aC D,aC (aT e G),aC D];exact e;rw[aC t,aB,O9]
def Kept(H a:Hp)(b:AD):Prop:=∀o,H b=AA o->a b=AA o
structure MV(c:Cs)(H:Hp)(dl:AD)(da:List AD)(ds:List IM):Prop where
 dl:H dl=AA (.lst (da.map V.ref))
 HQ:da.length=ds.length
 da:∀(i:Nat) (a:AD) (d:IM),da[i]? =AA a->ds[i]? =AA d->KA c.D H a d
structure LF(c:Cs)(H:Hp)(fl:AD)(fa fp:List AD)(fs:List Ey):Prop where
 fl:H fl=AA (.lst (fa.map V.ref))
 Et:fa.length=fs.length
 IB:fp.length=fs.length
 fa:∀(i:Nat) (a p:AD) (f:Ey),fa[i]? =AA a->fp[i]? =AA p->fs[i]? =AA f->FY c.F H a f.goal p f.costs
structure LC(c:Cs)(H:Hp)(wd:AD)(ka kp:List AD)(al:List (Nat×DI)):Prop where
 wd:H wd=AA (.dK (Bb al ka))
 Ds:ka.length=al.length
 FV:kp.length=al.length
 ka:∀(i:Nat) (a p:AD) (y:Nat×DI),ka[i]? =AA a->kp[i]? =AA p->al[i]? =AA y->Fj c.K H a p y.2.plan.cells y.2.left
def Ad.pd(a:Ad c H r s g):MV c H r.dl r.da g.doors:=(a.dl,a.HQ,a.da)
def Ad.pf(a:Ad c H r s g):LF c H r.fl r.fa r.fp s.fields:=(a.fl,a.Et,a.IB,a.fa)
def Ad.pw(a:Ad c H r s g):LC c H r.wd r.ka r.kp (alive s):=(a.wd,a.Ds,a.FV,a.ka)
def Ad.of{H:Hp}(ok:Dn s)(b:s.ground=AA g)(ins:∃e,H r.wa=AA (.ins c.W e (DZ (.ref r.la) r.dl r.fl r.wd s.walkers.length s.now)))(a:D8 c.L H r.la g r.pc r.ph r.pd r.ps r.sa)(d:MV c H r.dl r.da g.doors)(f:LF c H r.fl r.fa r.fp s.fields)(w:LC c H r.wd r.ka r.kp (alive s))(sep:r.Sep):Ad c H r s g:=
 (ok,b,ins,a,d.dl,d.HQ,d.da,f.fl,f.Et,f.IB,f.fa,w.wd,w.Ds,w.FV,w.ka,sep)
def MV.hold{c:Cs}{H:Hp}{f:Hp}{dl:AD}{da:List AD}{h:List IM}(D:MV c H dl da h)(k:Kept H f dl)(j:∀b∈da,Kept H f b):MV c f dl da h:=
 (k _ D.dl,D.HQ,λi a d g hd=>let(l,e):=D.da i a d g hd;(l,j a (Ar g) _ e))
def LF.hold{c:Cs}{H:Hp}{d:Hp}{fl:AD}{fa fp:List AD}{fs:List Ey}(D:LF c H fl fa fp fs)(m:Kept H d fl)(l:∀b∈fa,Kept H d b)(k:∀b∈fp,Kept H d b):LF c d fl fa fp fs:=
 (m _ D.fl,D.Et,D.IB,λi a p f h g j=>let((o,e),n):=D.fa i a p f h g j;((o,l a (Ar h) _ e),k p (Ar g) _ n))
def LC.hold{c:Cs}{H:Hp}{d:Hp}{wd:AD}{ka kp:List AD}{al:List (Nat×DI)}(D:LC c H wd ka kp al)(l:Kept H d wd)(k:∀b∈ka,Kept H d b)(j:∀b∈kp,Kept H d b):LC c d wd ka kp al:=
 (l _ D.wd,D.Ds,D.FV,λi a p y g f h=>let((n,e),m):=D.ka i a p y g f h;((n,k a (Ar g) _ e),j p (Ar f) _ m))
def D8.hold(L:D8 C H a g pc ph pd ps sa)(f:Kept H h a)(c:∀b∈[pc,ph,pd,ps] ++ sa,Kept H h b)(k:∀b xs,H b=AA (.tup xs)->h b=AA (.tup xs)):D8 C h a g pc ph pd ps sa:=by
 have(p,fs,d,r):=L.s.b.ins;have(o,l):=L.ins;refine((((p,fs,f _ d,r),c pc (by simp) _ L.s.b.costs,c ph (by simp) _ L.s.b.Ei,L.s.b.wide,L.s.b.few,L.s.b.rows),λt q e=>?_,c ps (by simp) _ L.s.steps,L.s.len,λi b e=>?_),(o,f _ l),c pd (by simp) _ L.doors);rw[f _ d]at e;cases e;exact L.s.fld _ _ d;have(j,n,m):=L.s.each i b e;exact(j,c b (by simp[Ar e]) _ n,m.keep k)
def Ad.eW(a:Ad c H r s g)(h:b∈r.DF):∃xs,H b=AA (.lst xs):=by
 unfold WA.DF at h;simp only[Az,Aj,BW,BV]at h;rcases h with (rfl|rfl|rfl|rfl|rfl|rfl) |h;exact(_,a.land.s.b.costs);exact(_,a.land.s.b.Ei);exact(_,a.land.doors);exact(_,a.land.s.steps);exact(_,a.dl);exact(_,a.fl);have(i,d):=DP h;have j:=(AY.mp d).1;have f:=a.IB;have e:=a.Et;exact(_,(a.fa i r.fa[i] b s.fields[i] (AX ()) d (AX ())).costs)
def Ad.gC(d:Ad c H r s g)(h:b∈r.sa):∃xs,H b=AA (.lst xs):=by
 have(i,a):=DP h;have(f,e,_):=d.land.s.each i b a;exact(_,e)
def Ad.ib(a:Ad c H r s g)(h:b∈r.kp):∃xs,H b=AA (.lst xs):=by
 have(i,d):=DP h;have j:=(AY.mp d).1;have f:=a.FV;have e:=a.Ds;exact(_,(a.ka i r.ka[i] b (alive s)[i] (AX ()) d (AX ())).plan)
def Ad.fi(d:Ad c H r s g)(h:b∈r.fa):∃a fs,H b=AA (.ins c.F a fs):=by
 have(i,f):=DP h;have l:=(AY.mp f).1;have k:=d.IB;have j:=d.Et;have((a,e),_):=d.fa i b r.fp[i] s.fields[i] f (AX ()) (AX ());exact(a,_,e)
def Ad.fh(d:Ad c H r s g)(h:b∈r.ka):∃a fs,H b=AA (.ins c.K a fs):=by
 have(i,f):=DP h;have l:=(AY.mp f).1;have k:=d.FV;have j:=d.Ds;have((a,e),_):=d.ka i b r.kp[i] (alive s)[i] f (AX ()) (AX ());exact(a,_,e)
def Ad.lR(f:Ad c H r s g)(h:b∈r.da):∃a fs,H b=AA (.ins c.D a fs):=by
 have(i,d):=DP h;have k:=(AY.mp d).1;have j:=f.HQ;have(a,e):=f.da i b g.doors[i] d (AX ());exact(a,_,e)
def Ad.isList(a:Ad c H r s g)(h:b∈r.lists):∃xs,H b=AA (.lst xs):=by
 unfold WA.lists at h;rcases Az.mp h with h|h;rcases Az.mp h with h|h;exact a.eW h;exact a.gC h;exact a.ib h
@[inline]def kindOf:HO->Nat×AD
 | .lst _=>(AE 0 0)
 | .ins C _ _=>(AE 1 C)
 | .dK _=>(AE 2 0)
 | .tup _=>(AE 3 0)
 | .aY _=>(AE 4 0)
 | .ext _=>(AE 6 0)
 | _=>(AE 5 0)
def kne(h:((kindOf o).1==(kindOf u).1)=AF):kindOf o≠kindOf u:=λe=>by rw[e,Rq]at h;cases h
def dF{H:Hp}(c:H a=AA o)(d:H b=AA u)(h:kindOf o≠kindOf u):a≠b:=λz=>by
 rw[z,d]at c;cases c;exact h rfl
def Ad.kept{l:Hp}(a:Ad c H r s g)(k:∀b o,H b=AA o->(kindOf o).1<4->l b=AA o):Ad c l r s g:=by
 have f:∀{b},(∃xs,H b=AA (.lst xs))->Kept H l b:=λ{b} (xs,e) o h=>by rw[e]at h;cases h;exact k _ _ e (by show 0<4;decide)
 have j:∀{b C},(∃i fs,H b=AA (.ins C i fs))->Kept H l b:=λ{b C} (i,fs,e) o h=>by rw[e]at h;cases h;exact k _ _ e (by show 1<4;decide)
 have(i,m):=a.ins;refine Ad.of a.ok a.gr (i,k _ _ m (by show 1<4;decide)) (a.land.hold (j (C:=c.L) (let(i,e):=a.land.ins;(i,_,e))) (λb d=>?_) (λb xs e=>k _ _ e (by show 3<4;decide))) (a.pd.hold (f (_,a.dl)) λb d=>j (a.lR d)) (a.pf.hold (f (_,a.fl)) (λb d=>j (a.fi d)) λb d=>f (a.eW (by unfold WA.DF;simp[d]))) (a.pw.hold (λo h=>by rw[a.wd]at h;cases h;exact k _ _ a.wd (by show 2<4;decide)) (λb d=>j (a.fh d)) λb d=>f (a.ib d)) a.sep;rcases Az.mp d with d|d;refine f (a.eW ?_);unfold WA.DF;simp only[Aj,BW,BV]at d;simp only[Az,Aj,BW,BV];rcases d with h|h|h|h<;>simp[h];exact f (a.gC d)
structure EN(H:Hp)(r:WA)(rows:List AD)(r':WA):Prop where
 wa:r'.wa=r.wa
 muts:∀b∈r'.muts,b∈r.muts\/H b=AB
 lists:∀b∈r'.lists,b∈r.lists\/H b=AB\/b∈rows
def EN.rfl':EN H r rows r:=(rfl,λb h=> .inl h,λb h=> .inl h)
def WA.dt{r:WA}:b∈r.muts↔b=r.wa\/b=r.wd\/b∈r.DF\/b∈r.fa\/b∈r.ka:=by
 unfold WA.muts;simp only[Az,Aj,BW,BV,or_assoc]
def WA.eU{r:WA}:b∈r.lists↔b∈r.DF\/b∈r.sa\/b∈r.kp:=by
 unfold WA.lists;simp only[Az,or_assoc]
def WA.dc{r:WA}:b∈r.DF↔b=r.pc\/b=r.ph\/b=r.pd\/b=r.ps\/b=r.dl\/b=r.fl\/b∈r.fp:=by
 unfold WA.DF;simp only[Az,Aj,BW,BV,or_assoc]
inductive Pn(c:Cs)(vs:List V)(H:Hp)(Q:VK)(E:XK):Prop
 |mk:∀a dx,vs=[.ref a]->H a=AA (.ins c.W dx [])->(∀dl fl wd H',AQ [a] H H'->H' a=AA (.ins c.W dx (DZ .Al dl fl wd 0 0))->Q .Al H')->Pn c vs H Q E
structure zp(c:Cs)(H H':Hp)(a la dl:AD)(da:List AD)(fl wd:AD):Prop where
 ins:∃dx,H' a=AA (.ins c.W dx (DZ (.ref la) dl fl wd 0 0))
 but:AQ [a] H H'
 Np:H dl=AB
 No:H fl=AB
 GC:H wd=AB
 z7:∀b∈da,H b=AB
 ne:dl≠fl
 dl:H' dl=AA (.lst (da.map V.ref))
 len:da.length=6
 da:∀(i:Nat) (b:AD),da[i]? =AA b->KA c.D H' b {}
 fl:H' fl=AA (.lst [])
 wd:H' wd=AA (.dK [])
inductive QO(c:Cs)(vs:List V)(H:Hp)(Q:VK)(E:XK):Prop
 |mk:∀a la dx lv dl fl wd m t,vs=[.ref a,.ref la]->H a=AA (.ins c.W dx (DZ lv dl fl wd m t))->(∀dl' da fl' wd' H',zp c H H' a la dl' da fl' wd'->Q .Al H')->QO c vs H Q E
inductive QR(c:Cs)(vs:List V)(H:Hp)(Q:VK)(E:XK):Prop
 |mk:∀r s g cell,vs=[.ref r.wa,nV cell]->Ad c H r s g->An g cell=AC->s.walkers.length<6->(∀r' H',AQ r.muts H H'->EM H H'->EN H r [] r'->Ad c H' r' {s with walkers:=s.walkers ++ [{plan:={begun:=s.now,cells:=[cell]},left:=0}]} g->Q .Al H')->QR c vs H Q E
inductive P4(c:Cs)(vs:List V)(H:Hp)(Q:VK)(E:XK):Prop
 |mk:∀r s g n,vs=[.ref r.wa,nV n]->Ad c H r s g->n<=1000->s.now+n<=1000000->(∀r' H',AQ r.muts H H'->EM H H'->EN H r [] r'->Ad c H' r' {s with now:=s.now+n,walkers:=s.walkers.map (GS g (s.now+n))} g->Q .Al H')->P4 c vs H Q E
structure zt(c:Cs)(H:Hp)(D:AD)(i:Nat)(H':Hp):Prop where
 ex:∃da:List AD,da.length=i/\H' D=AA (.lst (da.map V.ref))/\AH H H'/\(∀b∈da,H b=AB)/\∀(j:Nat) (b:AD),da[j]? =AA b->KA c.D H' b {}
def uT(B:Ag p "__init__" "World.__init__" Tb f fd)(T:DO p mg c.W):AV I w p mg base AZ 1 f fd ["self"] (Pn c):=by
 exists B.go ["self"],G,C,D;obtain⟨a,d,rfl,q,k⟩:=h;refine(_,(aE (dH (pv 0) ai rfl) (aE (dH (pv 0) (af aD) rfl) (aE (dH (pv 0) (af aD) rfl) (aE (dH (pv 0) jM rfl) (aE (dH (pv 0) aG rfl) (aF (dH (pv 0) aG rfl))))))),?_);exists N,g;refine(.ref a,rfl,a,c.W,d,_,rfl,q,T.cl,T.Dv,by show 0<1000;decide,?_);refine cont (λb=>AQ [a] H b/\b a=AA (.ins c.W d [(AE ("land":Str) V.Al)])) (AQ.upd (by simp),aB) λO e=>?_;have(z,o):=e
 try dsimp only
 subst g;exists N,g;refine(aN (DR _),λdl l=>(.ref a,rfl,a,c.W,d,_,rfl,by rw[aC (aT o l)];exact o,T.cl,T.Hv,by show 1<1000;decide,?_));refine cont (λb=>AQ [a] H b/\b a=AA (.ins c.W d [(AE ("land":Str) V.Al),(AE ("doors":Str) (V.ref dl))])) ((z.new l).put (by simp),aB) λb e=>?_;have(y,n):=e
 try dsimp only
 subst g;exists N,g;refine(aN (DR _),λfl j=>(.ref a,rfl,a,c.W,d,_,rfl,by rw[aC (aT n j)];exact n,T.cl,T.Hu,by show 2<1000;decide,?_));refine cont (λb=>AQ [a] H b/\b a=AA (.ins c.W d [(AE ("land":Str) V.Al),(AE ("doors":Str) (V.ref dl)),(AE ("fields":Str) (V.ref fl))])) ((y.new j).put (by simp),aB) λM e=>?_;have(x,m):=e
 try dsimp only
 subst g;exists N,g;refine λwd i=>(.ref a,rfl,a,c.W,d,_,rfl,by rw[aC (aT m i)];exact m,T.cl,T.FT,by show 3<1000;decide,?_);refine cont (λb=>AQ [a] H b/\b a=AA (.ins c.W d [(AE ("land":Str) V.Al),(AE ("doors":Str) (V.ref dl)),(AE ("fields":Str) (V.ref fl)),(AE ("walkers":Str) (V.ref wd))])) ((x.new i).put (by simp),aB) λL e=>?_;have(v,t):=e
 try dsimp only
 subst g;exists N,g;refine(.ref a,rfl,a,c.W,d,_,rfl,t,T.cl,T.Kv,by show 4<1000;decide,?_);refine cont (λb=>AQ [a] H b/\b a=AA (.ins c.W d [(AE ("land":Str) V.Al),(AE ("doors":Str) (V.ref dl)),(AE ("fields":Str) (V.ref fl)),(AE ("walkers":Str) (V.ref wd)),(AE ("walkers_made":Str) (V.int 0))])) (v.put (by simp),aB) λJ e=>?_;have(u,r):=e
 try dsimp only
 subst g;refine(.ref a,rfl,a,c.W,d,_,rfl,r,T.cl,T.JJ,by show 5<1000;decide,?_);exact k dl fl wd _ (u.put (by simp)) aB
def vz(dn:Ag a0 "begin" "World.begin" U1 f fd)(T:DO a0 mg c.W)(dp:FX c9 w a0 mg base 1 "Door" c.D ["self","period","lasting","shift"] (Nc c.D)):AV c9 w a0 mg base AZ 3 f fd ["self","land"] (QO c):=by
 exists dn.go ["self","land","which"],d3,J,co;obtain⟨a,la,g,d1,c5,a6,X,m,t,rfl,a4,k⟩:=h;refine(_,(aE (dH (pv 0) (pv 1) rfl) (aE (dH (pv 0) (dk rfl J (fP rfl T.Df (aA (dI T.Qu) aD)) (own:=[(AE ("which") 2)]) (dO (by kernel_rfl)) (λ_ _ _ _ _=>(aa 2)) (λ_ _ _ _ _=>dv) (λ_ _ _ _ _=>(gP dp co rfl (aA aG (aA aG (aA aG aD)))))) rfl) (aE (dH (pv 0) (af aD) rfl) (aE (dH (pv 0) jM rfl) (aE (dH (pv 0) aG rfl) (aF (dH (pv 0) aG rfl))))))),?_);exists N,p;refine(.ref la,rfl,.ref a,rfl,a,c.W,g,_,rfl,a4,T.cl,T.Dv,by show 6<1000;decide,?_);refine cont (λl=>AQ [a] H l/\l a=AA (.ins c.W g (DZ (.ref la) c5 a6 X m t))) (AQ.upd (by simp),aB) λdm G=>?_;have(av,q):=G
 try dsimp only
 subst p;exists N,p;refine(6,rfl,by decide,by decide,λD L=>?_);refine lI (lo:=0) (n:=6) (zt c dm D) ([],rfl,aB,AH.upd L,λb h=>by simp at h,λj b h=>by simp at h) ?_ ?_;intro i l d2 (da,ab,v,I,aj,each);refine(rfl,?_);unfold Er;dsimp only;rw[AJ rfl];intro x B nx J ne;refine(x,B,{},rfl,aB,rfl,?_);have cg:x≠D:=λz=>by rw[z,v]at nx;cases nx
 have ds:B≠D:=λz=>by rw[z,v]at J;cases J
 have Y:AH l (L2.upd (L2.upd (L2.upd l B (.own x)) x (.ins c.D B [])) x (.ins c.D B (HN {}))):=λb o e=>by
  rw[aC (aT e nx),aC (aT e nx),aC (aT e J)];exact e
 refine(_,Y _ _ v,by rw[AL];exact dS (),da ++ [x],by rw[BZ,ab];rfl,by rw[aB,Dd];rfl,λb o e=>?_,λb d=>?_,λj b d=>?_);rw[aC (aT e L)];exact Y _ _ (I b o e);rcases Az.mp d with h|h;exact aj b h;rw[Av.mp h];exact I.free nx;by_cases cp:j<da.length;rw[F9 cp]at d;have(an,q):=each j b d;exact(an,by rw[aC (λz=>by rw[z,v]at q;cases q)];exact Y _ _ q);rw[F8 ()]at d;have z:j - da.length=0:=by have:=(AY.mp d).1;simp at this;lia
 rw[z]at d;cases d;exact(B,by rw[aC cg,aB])
 ·intro l (da,ab,v,I,aj,each);have a3:D≠a:=λz=>by rw[z,q]at L;cases L
  have c0:H D=AB:=av.eN q L;have a5:∀b∈da,H b=AB:=λb d=>av.eN q (aj b d);refine(.ref a,rfl,a,c.W,g,_,rfl,I _ _ q,T.cl,T.Hv,by show 6<1000;decide,?_);have c8:AQ [a] H l:=av.trans (AH.but I);refine cont (λO=>AQ [a] H O/\O a=AA (.ins c.W g (DZ (.ref la) D a6 X m t))/\AQ [a] l O) (c8.put (by simp),aB,AQ.upd (by simp)) λO G=>?_;have(bs,U,a2):=G
  try dsimp only
  subst p;exists N,p;refine(aN (DR _),λfl u=>(.ref a,rfl,a,c.W,g,_,rfl,by rw[aC (aT U u)];exact U,T.cl,T.Hu,by show 6<1000;decide,?_));have R:fl≠a:=λz=>by rw[z,U]at u;cases u
  refine cont (λM=>AQ [a] H M/\M a=AA (.ins c.W g (DZ (.ref la) D fl X m t))/\AQ [a] l M/\M fl=AA (.lst [])) ((bs.new u).put (by simp),aB,(a2.new u).put (by simp),by rw[aC R,aB]) λM G=>?_;have(bm,S,ce,bl):=G
  try dsimp only
  subst p;exists N,p;refine λwd r=>(.ref a,rfl,a,c.W,g,_,rfl,by rw[aC (aT S r)];exact S,T.cl,T.FT,by show 6<1000;decide,?_);have Z:wd≠a:=λz=>by rw[z,S]at r;cases r
  have ci:fl≠wd:=aT bl r;refine cont (λC=>AQ [a] H C/\C a=AA (.ins c.W g (DZ (.ref la) D fl wd m t))/\AQ [a] l C/\C fl=AA (.lst [])/\C wd=AA (.dK [])) ((bm.new r).put (by simp),aB,(ce.new r).put (by simp),by rw[aC R,aC ci];exact bl,by rw[aC Z,aB]) λC (c7,c2,cd,c4,b7)=>?_
  try dsimp only
  subst p;exists N,p;refine(.ref a,rfl,a,c.W,g,_,rfl,c2,T.cl,T.Kv,by show 6<1000;decide,?_);refine cont (λy=>AQ [a] H y/\y a=AA (.ins c.W g (DZ (.ref la) D fl wd 0 t))/\AQ [a] l y/\y fl=AA (.lst [])/\y wd=AA (.dK [])) (c7.put (by simp),aB,cd.put (by simp),by rw[aC R];exact c4,by rw[aC Z];exact b7) λy (c6,c1,ca,c3,b0)=>?_
  try dsimp only
  subst p;refine(.ref a,rfl,a,c.W,g,_,rfl,c1,T.cl,T.JJ,by show 6<1000;decide,?_);have a1:AQ [a] l (L2.upd y a (.ins c.W g (DZ (.ref la) D fl wd 0 0))):=ca.put (by simp);have cr:H fl=AB:=bs.eN U u;have cm:H wd=AB:=bm.eN S r;refine k D da fl wd _ ((g,aB),c6.put (by simp),c0,cr,cm,a5,λz=>?_,a1 _ _ v (by simpa using a3),ab,λi b d=>?_,by rw[aC R];exact c3,by rw[aC Z];exact b0);have:O D=AA (.lst (da.map V.ref)):=a2 _ _ v (by simpa using a3);rw[z,u]at this;cases this;have(an,h):=each i b d;have ck:b≠a:=λz=>by
   have:=a5 b (Ar d);rw[z,a4]at this;cases this
  exact(an,a1 _ _ h (by simpa using ck))
end RW
end
section
namespace RW
open Vbwsal
def tI(W:HS g now x):((Ai (Hc x.plan+1 - now)).map λi=>(Dy x.plan (now+i):Int))=Vbwsal.ints x.plan.cells:=by
 erw[<-W.begun,jE W.path.ne,O1];unfold Vbwsal.ints;apply Sr;intro i;erw[BC,BC];by_cases h:i<x.plan.cells.length;erw[Kn h];have:=fH W.path.ne i;rw[Ix ()]at this;erw[this,EH,EH,eG W.path.ne];erw[HD (by erw[DS];lia),HD ()];rfl
def yh(W:HS g now x):Dy x.plan now=DY x.plan.cells 0:=by
 have:=eG W.path.ne 0;rw[W.begun,Hm]at this;exact this
def yi(W:HS g now x)(i:Nat):Dy x.plan (now+i)=DY x.plan.cells i:=by
 have:=eG W.path.ne i;rw[W.begun]at this;exact this
def lL(W:HS g now x):x.plan.cells.getLast? =AA (last x.plan):=by
 have h:=W.path.ne;have a:=Fb.mpr h;erw[lK h,PD];have:=fH h (x.plan.cells.length - 1);rw[M3]at this;exact this
def lH(W:HS g now x):FZ g x now=x.left:=by
 have:=lG (g:=g) W.path.ne;rw[W.begun]at this;exact this
def rL{p:DI->Bool}:(match (s.walkers.zipIdx).find? λx=>x.1.here && p x.1 with
  |none=>(0:Int)
  |some x=>(x.2:Int) + 1)=match (alive s).find? λy=>p y.2 with
  |none=>0
  |some y=>(y.1:Int):=by
 unfold alive;erw[List.find?_map,List.find?_filter];have e:(λ(x:DI×Nat)=>x.1.here && p x.1)=λx=>x.1.here && ((λy:Nat×DI=>p y.2)∘λx:DI×Nat=>(AE (x.2+1) x.1)) x:=rfl;have b:((s.walkers.zipIdx).find? λx=>x.1.here && p x.1)=(s.walkers.zipIdx).find? λa=>decide (a.1.here=AC/\((λy:Nat×DI=>p y.2)∘λx:DI×Nat=>(AE (x.2+1) x.1)) a=AC):=by
  congr 1
  funext x
  erw[DQ]
  simp
 erw[b];cases List.find? (λa=>decide (a.1.here=AC/\((λy:Nat×DI=>p y.2)∘λx:DI×Nat=>(AE (x.2+1) x.1)) a=AC)) s.walkers.zipIdx with
 |none=>rfl
 |some x=>rfl
def xt{a:Type}{l:List a}{p:a->Bool}(h:∀(i:Nat) (x:a),l[i]? =AA x->p x=AF):l.find? p=AB:=by
 erw[Lf];intro x b;have(i,c):=DP b;erw[h i x c];decide
def xr{a:Type}{l:List a}{p:a->Bool}{i:Nat}{x:a}(d:l[i]? =AA x)(b:p x=AC)(h:∀(j:Nat) (y:a),j<i->l[j]? =AA y->p y=AF):l.find? p=AA x:=by
 erw[Sm];have(f,e):=AY.mp d;refine(b,i,f,e,λj c=>?_);erw[h j _ c (AX ())];rfl
end RW
namespace RW
open Vbwsal
def uI(G:JV g)(h:Gh g c=AC):GU g c t=AC:=by
 unfold Gh at h;unfold GU;cases e:(A7 g c).door with
 |none=>rfl
 |some d=>
  rw[e]at h;simp only at h|-;have h':(g.doors.getD d {}).opened=(g.doors.getD d {}).period:=by simpa using h
  have a:0<(g.doors.getD d {}).period:=by
   erw[DA];cases b:g.doors[d]? with
   |none=>exact(by decide:0<1)
   |some x=>exact G.per x (Ar b)
  erw[h'];exact BH (Nat.mod_lt _ a)
def we:Gg g ps c t=(An g c && (Gh g c && !ps.any (D9 t c))):=by
 unfold Gg
 congr 2
 erw[DQ,Gq,JD,FR,Ne,Eo];unfold D9;constructor;intro h (p,a,e);have:=h p a;rw[DN]at this;rw[Lh]at e;rcases e with e|e;have(i,b,e):=Eo.mp e;have:=FR.mp this.2 i b
 simp_all
 simp_all
 intro h p a;erw[DN];refine(?_,FR.mpr λi b=>?_);erw[Md];intro e;exact h (p,a,by erw[Lh];right;simpa using e);erw[Md];intro e;exact h (p,a,by erw[Lh];left;exact Eo.mpr (i,b,by simpa using e))
def wc(O:Dn s)(j:s.ground=AA g):(EZ g (Ac s 0) c s.now=AF\/Gg g (Ac s 0) c s.now=AF)↔ ¬(An g c=AC/\Gh g c=AC/\(Ac s 0).any (D9 s.now c)=AF):=by
 erw[we];constructor;intro h (d,b,a);rw[d,b,a]at h;have k:EZ g (Ac s 0) c s.now=AC:=by
  unfold EZ freeAt;erw[d,uI (O.Ej g j) b,Fu,Fu,FR];intro p i;erw[Md];intro e;rw[jP]at i;obtain⟨y,f,rfl⟩:=Du.mp i;have W:=O.FS g j y f;have m:=Fb.mpr W.path.ne;have l:=jE W.path.ne;have:(Ac s 0).any (D9 s.now c)=AC:=by
   erw[Eo,jP];refine(y.2.plan,Du.mpr (y,f,rfl),?_);unfold D9;erw[Lh];left;refine Eo.mpr (0,EC.mpr ?_,by simpa using e);have:=W.begun;lia
  rw[a]at this;cases this
 rw[k]at h;rcases h with h|h<;>cases h;intro h;cases d:An g c with
 |false=>exact .inr rfl
 |true=>
  cases b:Gh g c with
  |false=>exact .inr rfl
  |true=>
   cases a:(Ac s 0).any (D9 s.now c)with
   |true=>exact .inr rfl
   |false=>exact absurd (d,b,a) h
def lj{c d:Type}[DecidableEq d]{f:c->d}:∀{l:List c} {i:Nat} {x:c},(l.map f).Nodup->l[i]? =AA x->l.filter (λy=>decide (f y≠f x))=l.eraseIdx i
 | [],i,x,_,h=>by simp at h
 |a::l,0,x,b,h=>by
  cases h;rw[Ax,Gm]at b;erw[Ec,AK (by simp),List.eraseIdx_cons_zero,PQ];intro y e;exact BH λz=>b.1 (by erw[<-z];exact Du.mpr (y,e,rfl))
 |a::l,i+1,x,b,h=>by
  rw[Ax,Gm]at b;have h':l[i]? =AA x:=by simpa using h
  erw[Ec,AJ,List.eraseIdx_cons_succ,lj b.2 h'];exact BH λz=>b.1 (by erw[z];exact Du.mpr (x,Ar h',rfl))
def mO{b a c:Type}{f:b->a->c}:∀(xs:List b) (ys:List a) (i:Nat),xs.length=ys.length->(O7 f xs ys).eraseIdx i=O7 f (xs.eraseIdx i) (ys.eraseIdx i)
 | [],[],i,_=>by simp
 | [],_::_,i,h=>by simp at h
 | _::_,[],i,h=>by simp at h
 |x::xs,y::ys,0,h=>by simp
 |x::xs,y::ys,i+1,h=>by simp[mO xs ys i (by simpa using h)]
end RW
end
section
namespace RW
open PySem PySem.Spec PyProof.Rows L2 L3 Vbwsal
def Ef.ne(h:Ef c):(c.W≠c.L/\c.W≠c.D/\c.W≠c.F/\c.W≠c.K)/\(c.L≠c.D/\c.L≠c.F/\c.L≠c.K)/\(c.D≠c.F/\c.D≠c.K)/\c.F≠c.K:=by
 have:=h.nd;simp only[Gm,Aj,A5]at this;exact((this.1.1,this.1.2.1,this.1.2.2.1,this.1.2.2.2.1),(this.2.1.1,this.2.1.2.1,this.2.1.2.2.1),(this.2.2.1.1,this.2.2.1.2.1),this.2.2.2.1.1)
def mR(h:b.map (·.1)=al.map (·.1)):Bb b ka=Bb al ka:=by
 have key:∀al:List (Nat×DI),Bb al ka=O7 (λ(n:Nat) (a:AD)=>(AE (AW (n:Int):Key) (V.ref a))) (al.map (·.1)) ka:=λal=>by
  unfold Bb;erw[List.zipWith_map_left]
 erw[key,key,h]
def Ad.walk{i:Hp}(d:Ad c H r s g)(ok:Dn j)(J:j.ground=AA g)(fs:j.fields=s.fields)(G:({r with wd:=r'.wd,ka:=r'.ka,kp:=r'.kp}:WA)=r')(ins:∃f,i r.wa=AA (.ins c.W f (DZ (.ref r.la) r.dl r.fl r'.wd j.walkers.length j.now)))(D:∀b xs,H b=AA (.lst xs)->b∈r.DF\/b∈r.sa->i b=AA (.lst xs))(A:∀b xs,H b=AA (.tup xs)->i b=AA (.tup xs))(E:∀b C f fs,H b=AA (.ins C f fs)->C=c.L\/C=c.D\/C=c.F->i b=AA (.ins C f fs))(z:LC c i r'.wd r'.ka r'.kp (alive j))(np:∀b∈r'.kp,b∉r.DF)(B:r'.ka.Nodup):Ad c i r' j g:=by
 have k:∀{b},b∈r.DF\/b∈r.sa->Kept H i b:=λ{b} a o e=>by
  obtain⟨xs,ex⟩:∃xs,H b=AA (.lst xs):=by
   rcases a with h|h;exact d.eW h;exact d.gC h
  rw[ex]at e;cases e;exact D b xs ex a
 have l:∀{b C},C=c.L\/C=c.D\/C=c.F->(∃f fs,H b=AA (.ins C f fs))->Kept H i b:=λ{b C} I (f,fs,ex) o e=>by
  rw[ex]at e;cases e;exact E b C f fs ex I
 have m1:r'.pc=r.pc/\r'.ph=r.ph/\r'.pd=r.pd/\r'.ps=r.ps/\r'.sa=r.sa/\r'.dl=r.dl/\r'.da=r.da/\r'.fl=r.fl/\r'.fa=r.fa/\r'.fp=r.fp/\r'.la=r.la/\r'.wa=r.wa:=by erw[<-G];exact(rfl,rfl,rfl,rfl,rfl,rfl,rfl,rfl,rfl,rfl,rfl,rfl)
 have(y,v,u,t,q,n,L,m,p,x,w,M):=m1;have em:r'.DF=r.DF:=by unfold WA.DF;erw[y,v,u,t,n,m,x]
 refine Ad.of ok J (by erw[w,M,n,m];exact ins) ?_ ?_ ?_ z (by erw[em];exact d.sep.lists,λb a=>by
  erw[em];rcases a with a|a;rw[q]at a;exact d.sep.GG b (.inl a);exact np b a,by erw[p];exact d.sep.JL,B)
 erw[y,v,u,t,q,w];refine d.land.hold (l (.inl rfl) (let(f,e):=d.land.ins;(f,_,e))) (λb a=>k ?_) A;rcases Az.mp a with a|a;left;erw[WA.dc];simp only[Aj,BW,BV]at a;rcases a with h|h|h|h<;>simp[h];exact .inr a;erw[n,L];exact d.pd.hold (k (.inl (WA.dc.mpr (by simp)))) λb a=>l (.inr (.inl rfl)) (d.lR a);erw[m,p,x,fs];exact d.pf.hold (k (.inl (WA.dc.mpr (by simp)))) (λb a=>l (.inr (.inr rfl)) (d.fi a)) λb a=>k (.inl (WA.dc.mpr (by simp[a])))
def Ad.nR(Z:Ef c)(d:Ad c H r s g)(u:(alive s)[i]? =AA (AE n x))(B:r.ka[i]? =AA a)(b:AQ [a] H t)(X:∃p,t a=AA (.ins c.K p (Gs q x.left)))(R:t q=AA (.lst (cs.map nV)))(J:q∉r.DF)(S:Path g cs)(T:cs.length<=101):
  Ad c t {r with kp:=r.kp.set i q} (G3 s n {x with plan:={begun:=s.now,cells:=cs}}) g:=by
 have w:=Ar u;have G:x.here=AC:=(gu.mp w).2.2;have(a6,a5,Y):=d.fh (Ar B);have kp:∀{h o},H h=AA o->kindOf o≠(AE 1 c.K)->t h=AA o:=λ{h o} e U=>b h o e (by
  erw[Av];exact dF e Y (by exact U))
 have((a4,a3,a2,N),(a1,a0,M),(av,L),O):=Z.ne;have v:=mL (y:={x with plan:={begun:=s.now,cells:=cs}}) w G;refine d.walk (sG d.ok d.gr w G (rfl,S,T)) d.gr rfl rfl ?_ (λh xs e _=>kp e ∅) (λh xs e=>kp e ∅) (λh C p fs e ab=>kp e ?_) (?_,?_,?_,λj D E y l k f=>?_) (λh A=>?_) d.sep.knd;have(p,e):=d.ins;exact(p,by erw[jC];exact kp e (by simp[kindOf];exact N));show (AE 1 C)≠(AE 1 c.K);rcases ab with rfl|rfl|rfl;simpa using M;simpa using L;simpa using O;erw[v];show t r.wd=AA (.dK (Bb _ r.ka));erw[mR (al:=alive s)];exact kp d.wd ∅;erw[Dc];refine Kk λz _=>?_;show (if z.1=n then _ else z:Nat×DI).1=z.1;split<;>rfl;erw[v,AL];exact d.Ds;erw[v,AL];show (r.kp.set i q).length=_;erw[F7];exact d.FV;have l:r.ka[j]? =AA D:=l;have k:(r.kp.set i q)[j]? =AA E:=k;rw[v,BC]at f;cases m:(alive s)[j]? with
 |none=>rw[m]at f;cases f
 |some z=>
  rw[m]at f;have f:=Ap f;by_cases e:j=i;subst e;rw[u]at m;cases m;rw[B]at l;cases l;rw[Le (by erw[d.FV];exact(AY.mp u).1)]at k;cases k;dsimp only at f;rw[AJ rfl]at f;subst f;exact(X,R);have Q:z.1≠n:=λI=>e (fE jt (x:=n) (by erw[BC,m];exact congrArg AA I) (by erw[BC,u];rfl));dsimp only at f;rw[AK Q]at f;subst f;rw[Km (λz=>e z.symm)]at k;have((p,an),aj):=d.ka j D E z l k m;refine((p,b D _ an ?_),kp aj ∅);erw[Av];exact λz=>e (fE d.sep.knd l (by erw[z];exact B))
 rcases Lb A with A|rfl;exact d.sep.GG h (.inr A);exact J
def Ad.si{c:Cs}{H:Hp}{v:Hp}{r:WA}{s:Eg}{g:Aw}{n i:Nat}{x y:DI}(Y:Ef c)(W:Ad c H r s g)(w:(alive s)[i]? =AA (AE n x))(I:y.here=AF)(b:AQ [r.wd] H v)(hd:v r.wd=AA (.dK (JN (Bb (alive s) r.ka) (AW (n:Int))))):
  Ad c v {r with ka:=r.ka.eraseIdx i,kp:=r.kp.eraseIdx i} (G3 s n y) g:=by
 have J:=Ar w;have kp:∀{a o},H a=AA o->kindOf o≠(AE 2 0)->v a=AA o:=λ{a o} e S=>b a o e (by
  erw[Av];exact dF e W.wd (by exact S))
 have A:alive (G3 s n y)=(alive s).eraseIdx i:=by
  erw[qz J I,<-lj (f:=λz:Nat×DI=>z.1) jt w];refine PR λz _=>?_;erw[DQ];simp
 have L:=(AY.mp w).1;refine W.walk (sI W.ok W.gr J I) W.gr rfl rfl ?_ (λa xs e _=>kp e ∅) (λa xs e=>kp e ∅) (λa C B fs e Z=>kp e ∅) (?_,?_,?_,λj G D z k d l=>?_) (λa U=>W.sep.GG a (.inr (Sj U))) (W.sep.knd.sublist (List.eraseIdx_sublist _ _));have(B,e):=W.ins;exact(B,by erw[jC];exact kp e ∅);erw[A];show v r.wd=AA (.dK (Bb ((alive s).eraseIdx i) (r.ka.eraseIdx i)));erw[hd]
 congr 2
 have Q:(Bb (alive s) r.ka)[i]? =AA (AE (AW (n:Int):Key) (V.ref (r.ka[i]'(by erw[W.Ds];exact L)))):=by
  unfold Bb;erw[PH,w,AX (by erw[W.Ds];exact L)]
 have R:((Bb (alive s) r.ka).map λt=>t.1).Nodup:=by
  have:((Bb (alive s) r.ka).map λt=>t.1)=((alive s).map λz=>z.1).map λm:Nat=>(AW (m:Int):Key):=by
   apply Sr;intro j;unfold Bb;erw[BC,PH,BC,BC];cases E:(alive s)[j]? with
   |none=>rfl
   |some z=>
    have:j<r.ka.length:=by erw[W.Ds];exact(AY.mp E).1
    erw[AX this];rfl
  erw[this];exact XB _ (λp q h z=>h (by have:=G6 z;lia)) jt
 have T:=lj (f:=λt:Key×V=>t.1) R Q;show (Bb (alive s) r.ka).filter _=_;erw[T];unfold Bb;exact mO _ _ _ W.Ds.symm;erw[A];show (r.ka.eraseIdx i).length=_;erw[PB,PB,W.Ds];erw[A];show (r.kp.eraseIdx i).length=_;erw[PB,PB,W.FV];have k:(r.ka.eraseIdx i)[j]? =AA G:=k;have d:(r.kp.eraseIdx i)[j]? =AA D:=d;rw[A]at l;rw[List.getElem?_eraseIdx]at k d l;have:∃u:Nat,r.ka[u]? =AA G/\r.kp[u]? =AA D/\(alive s)[u]? =AA z:=by
  by_cases q:j<i;rw[AJ q]at k d l;exact(j,k,d,l);rw[AK q]at k d l;exact(j+1,k,d,l)
 have(u,O,N,M):=this;have((B,E),X):=W.ka u G D z O N M;exact((B,kp E ∅),kp X ∅)
def D8.yG(L:D8 C H a g pc ph pd ps sa):D8 C H a {g with doors:=b} pc ph pd ps sa:=
 (((L.s.b.ins,L.s.b.costs,L.s.b.Ei,L.s.b.wide,L.s.b.few,L.s.b.rows),L.s.fld,L.s.steps,L.s.len,L.s.each),L.ins,L.doors)
def Ad.sW(f:Ad c H r s g)(S:d<6)(b:AQ [r.dl] H t)(E:t r.dl=AA (.lst ((r.da.set d x).map V.ref)))(A:KA c.D t x dr)(B:0<dr.period):
  Ad c t {r with da:=r.da.set d x} {s with ground:=AA {g with doors:=g.doors.set d dr}} {g with doors:=g.doors.set d dr}:=by
 have kp:∀{j o},H j=AA o->j≠r.dl->t j=AA o:=λ{j o} e G=>b j o e (by simpa using G);have v:∀{j},(∃C l fs,H j=AA (.ins C l fs))->Kept H t j:=λ{j} (C,l,fs,e) o h=>by
  rw[e]at h;cases h;exact kp e (dF e f.dl ∅)
 have u:=f.sep.lists;unfold WA.DF at u;simp only[Ak,Ah,Gm,Aj,A5]at u;have((b0,bs,bm,O,bl,a0),(av,an,N,aj,ab),(Z,M,Y,X),(L,U,T),(J,I),f1,_):=u;have y:r.dl∈r.DF:=WA.dc.mpr (by simp);have m:∀{j},(∃xs,H j=AA (.lst xs))->j≠r.dl->Kept H t j:=λ{j} (xs,e) D o h=>by
  rw[e]at h;cases h;exact kp e D
 have(l,w):=f.ins;refine Ad.of (sM f.ok f.gr B) rfl (l,kp w (dF w f.dl ∅)) (D8.yG (f.land.hold (v (let(l,e):=f.land.ins;(c.L,l,_,e))) (λj k=>?_) λj xs e=>kp e (dF e f.dl ∅))) (E,?_,λi a d' p n=>?_)
  (f.pf.hold (m (_,f.fl) (λz=>J z.symm)) (λj k=>v (let(l,fs,e):=f.fi k;(_,l,fs,e))) λj k=>m (f.eW (WA.dc.mpr (by simp[k]))) (λz=>I (by erw[<-z];exact k)))
  (f.pw.hold (λo h=>by rw[f.wd]at h;cases h;exact kp f.wd (dF f.wd f.dl ∅)) (λj k=>v (let(l,fs,e):=f.fh k;(_,l,fs,e))) λj k=>m (f.ib k) (λz=>f.sep.GG j (.inr k) (by erw[z];exact y))) (f.sep.lists,f.sep.GG,f.sep.JL,f.sep.knd);rcases Az.mp k with k|k;simp only[Aj,BW,BV]at k;rcases k with rfl|rfl|rfl|rfl;exact m (_,f.land.s.b.costs) O;exact m (_,f.land.s.b.Ei) N;exact m (_,f.land.doors) M;exact m (_,f.land.s.steps) L;exact m (f.gC k) (λz=>f.sep.GG j (.inl k) (by erw[z];exact y));show (r.da.set d x).length=(g.doors.set d dr).length;erw[F7,F7];exact f.HQ;have p:(r.da.set d x)[i]? =AA a:=p;have n:(g.doors.set d dr)[i]? =AA d':=n;have R:=f.HQ;have Q:=(f.ok.Ej g f.gr).doors;by_cases q:i=d;subst q;rw[Le ()]at p n;cases p;cases n;exact A;rw[Km (λz=>q z.symm)]at p n;have(l,e):=f.da i a d' p n;exact(l,kp e (dF e f.dl ∅))
def Ad.zU(d:Ad c H r s g)(Q:t<AG g)(U:s.fields.length<3)(b:AQ [r.fl] H A)(S:A r.fl=AA (.lst ((r.fa ++ [x]).map V.ref)))(O:FY c.F A x t p (EF g t))(nx:x∉r.fa)(np:p∉r.lists):
  Ad c A {r with fa:=r.fa ++ [x],fp:=r.fp ++ [p]} {s with fields:=s.fields ++ [KJ g t]} g:=by
 have kp:∀{j o},H j=AA o->j≠r.fl->A j=AA o:=λ{j o} e T=>b j o e (by simpa using T);have D:∀{j},(∃C l fs,H j=AA (.ins C l fs))->Kept H A j:=λ{j} (C,l,fs,e) o h=>by
  rw[e]at h;cases h;exact kp e (dF e d.fl ∅)
 have B:=d.sep.lists;unfold WA.DF at B;simp only[Ak,Ah,Gm,Aj,A5]at B;have((ci,cg,ce,cd,aj,ca),(b7,b6,b0,ab,bs),(bm,bl,Z,a0),(av,Y,an),(X,N),f1,_):=B;have M:r.fl∈r.DF:=WA.dc.mpr (by simp);have w:∀{j},(∃xs,H j=AA (.lst xs))->j≠r.fl->Kept H A j:=λ{j} (xs,e) R o h=>by
  rw[e]at h;cases h;exact kp e R
 have(l,L):=d.ins;have J:=d.Et;have I:=d.IB;rw[WA.eU,A5,A5]at np;have em:({r with fa:=r.fa ++ [x],fp:=r.fp ++ [p]}:WA).DF=r.DF ++ [p]:=by unfold WA.DF;simp
 refine Ad.of (sL d.ok d.gr Q U) d.gr (l,kp L (dF L d.fl ∅)) (d.land.hold (D (let(l,e):=d.land.ins;(c.L,l,_,e))) (λj k=>?_) λj xs e=>kp e (dF e d.fl ∅))
  (d.pd.hold (w (_,d.dl) X) λj k=>D (let(l,fs,e):=d.lR k;(_,l,fs,e))) (S,?_,?_,λi a q f y m n=>?_)
  (d.pw.hold (λo h=>by rw[d.wd]at h;cases h;exact kp d.wd (dF d.wd d.fl ∅)) (λj k=>D (let(l,fs,e):=d.fh k;(_,l,fs,e))) λj k=>w (d.ib k) (λz=>d.sep.GG j (.inr k) (by erw[z];exact M))) (?_,λj k=>?_,?_,d.sep.knd);rcases Az.mp k with k|k;simp only[Aj,BW,BV]at k;rcases k with rfl|rfl|rfl|rfl;exact w (_,d.land.s.b.costs) aj;exact w (_,d.land.s.b.Ei) ab;exact w (_,d.land.doors) Z;exact w (_,d.land.s.steps) Y;exact w (d.gC k) (λz=>d.sep.GG j (.inl k) (by erw[z];exact M));show (r.fa ++ [x]).length=(s.fields ++ [KJ g t]).length;erw[BZ,BZ,J];rfl;show (r.fp ++ [p]).length=(s.fields ++ [KJ g t]).length;erw[BZ,BZ,I];rfl;have y:(r.fa ++ [x])[i]? =AA a:=y;have m:(r.fp ++ [p])[i]? =AA q:=m;have n:(s.fields ++ [KJ g t])[i]? =AA f:=n;by_cases z:i<s.fields.length;rw[F9 ()]at y m n;have((l,e),N):=d.fa i a q f y m n;refine((l,kp e (dF e d.fl ∅)),kp N λz=>f1 ?_);erw[<-z];exact Ar m;have:i=s.fields.length:=by
  have:=(AY.mp n).1;rw[BZ]at this;simp at this;lia
 subst this;rw[F8 ()]at y m n;rw[J,IV]at y;rw[I,IV]at m;rw[IV]at n;cases y;cases m;cases n;exact O;erw[em,I0];refine(d.sep.lists,by simp,λu G v E=>?_);erw[Av.mp E];exact λz=>np.1 (by erw[<-z];exact G);erw[em,Az,A5];refine(d.sep.GG j k,?_);erw[Av];rcases k with k|k;exact λz=>np.2.1 (by erw[<-z];exact k);exact λz=>np.2.2 (by erw[<-z];exact k);show (r.fa ++ [x]).Nodup;erw[I0];refine(d.sep.JL,by simp,λu G v E=>?_);erw[Av.mp E];exact λz=>nx (by erw[<-z];exact G)
def Ad.zS(R:Ef c)(d:Ad c H r s g)(N:An g cell=AC)(T:s.walkers.length<6)(b:AQ [r.wa,r.wd] H l)(ins:∃n,l r.wa=AA (.ins c.W n (DZ (.ref r.la) r.dl r.fl r.wd (s.walkers.length+1) s.now)))(Q:l r.wd=AA (.dK (Bb (alive s) r.ka ++ [(AE (AW ((s.walkers.length+1:Nat):Int)) (V.ref x))])))(J:Fj c.K l x p [cell] 0)(nx:x∉r.ka)(np:p∉r.DF):
  Ad c l {r with ka:=r.ka ++ [x],kp:=r.kp ++ [p]} {s with walkers:=s.walkers ++ [{plan:={begun:=s.now,cells:=[cell]},left:=0}]} g:=by
 have(n,O):=d.ins;have((I,G,E,D),_):=R.ne;have kp:∀{f o},H f=AA o->kindOf o≠(AE 1 c.W)->kindOf o≠(AE 2 0)->l f=AA o:=λ{f o} e X U=>b f o e (by
  simp only[Aj,BW,BV,A5];exact(dF e O (by exact X),dF e d.wd (by exact U)))
 have t:=zQ (s:=s) (y:={plan:={begun:=s.now,cells:=[cell]},left:=0}) rfl;have w:=d.Ds;have A:=d.FV;refine d.walk (sF d.ok d.gr N T) d.gr rfl rfl ?_ (λf xs e _=>kp e ∅ ∅) (λf xs e=>kp e ∅ ∅) (λf C n fs e S=>kp e ?_ ∅) (?_,?_,?_,λi a q y k j h=>?_) (λf m=>?_) ?_;have(B,e):=ins;refine(B,?_);show l r.wa=AA (.ins c.W B (DZ _ _ _ _ (s.walkers ++ _).length _));erw[BZ];exact e;show (AE 1 C)≠(AE 1 c.W);rcases S with rfl|rfl|rfl;simpa using λz=>I z.symm;simpa using λz=>G z.symm;simpa using λz=>E z.symm;erw[t];show l r.wd=AA (.dK (Bb (alive s ++ _) (r.ka ++ [x])));erw[Q];unfold Bb;erw[List.zipWith_append w.symm];rfl;erw[t];show (r.ka ++ [x]).length=_;erw[BZ,BZ,w];rfl;erw[t];show (r.kp ++ [p]).length=_;erw[BZ,BZ,A];rfl;have k:(r.ka ++ [x])[i]? =AA a:=k;have j:(r.kp ++ [p])[i]? =AA q:=j;rw[t]at h;by_cases z:i<(alive s).length;rw[F9 ()]at k j h;have((n,e),Y):=d.ka i a q y k j h;exact((n,kp e (by simp[kindOf];exact λz=>D z.symm) ∅),kp Y ∅ ∅);have:i=(alive s).length:=by
  have:=(AY.mp h).1;rw[BZ]at this;simp at this;lia
 subst this;rw[F8 ()]at k j h;rw[w,IV]at k;rw[A,IV]at j;rw[IV]at h;cases k;cases j;cases h;exact J;rcases Az.mp m with m|m;exact d.sep.GG f (.inr m);erw[Av.mp m];exact np;show (r.ka ++ [x]).Nodup;erw[I0];refine(d.sep.knd,by simp,λu M v L=>?_);erw[Av.mp L];exact λz=>nx (by erw[<-z];exact M)
def Ad.uC(N:Ef c)(d:Ad c H r s g)(J:s.now+n<=1000000)(b:AQ (r.wa::r.ka) H k)(ins:∃p,k r.wa=AA (.ins c.W p (DZ (.ref r.la) r.dl r.fl r.wd s.walkers.length (s.now+n))))(L:m.length=r.ka.length)(I:∀b∈m,H b=AB)(each:∀(j:Nat) (a q:AD) (y:Nat×DI),r.ka[j]? =AA a->m[j]? =AA q->(alive s)[j]? =AA y->Fj c.K k a q (y.2.plan.cells.drop (min n (y.2.plan.cells.length - 1))) (Jv g y.2.left y.2.plan.cells n)):
  Ad c k {r with kp:=m} {s with now:=s.now+n,walkers:=s.walkers.map (GS g (s.now+n))} g:=by
 have(p,M):=d.ins;have((E,B,A,ab),(Z,Y,x),(X,w),D):=N.ne;have kp:∀{f o},H f=AA o->kindOf o≠(AE 1 c.W)->kindOf o≠(AE 1 c.K)->k f=AA o:=λ{f o} e S R=>b f o e (by
  erw[Aj,A5];refine(dF e M (by exact S),λz=>?_);have(an,aj,u):=d.fh z;rw[e]at u;cases u;exact R rfl)
 refine d.walk (sJ d.ok d.gr J) d.gr rfl rfl ?_ (λf xs e _=>kp e ∅ ∅) (λf xs e=>kp e ∅ ∅) (λf C p fs e t=>kp e ?_ ?_) (?_,?_,?_,λi a q y Q G h=>?_) (λf O z=>?_) d.sep.knd;have(v,e):=ins;refine(v,?_);show k r.wa=AA (.ins c.W v (DZ _ _ _ _ (s.walkers.map _).length _));erw[AL];exact e;show (AE 1 C)≠(AE 1 c.W);rcases t with rfl|rfl|rfl;simpa using λz=>E z.symm;simpa using λz=>B z.symm;simpa using λz=>A z.symm;show (AE 1 C)≠(AE 1 c.K);rcases t with rfl|rfl|rfl;simpa using x;simpa using w;simpa using D;erw[i0];show k r.wd=AA (.dK (Bb _ r.ka));erw[mR (al:=alive s)];exact kp d.wd ∅ ∅;erw[Dc];rfl;erw[i0,AL];exact d.Ds;erw[i0,AL];exact L.trans d.Ds;rw[i0,BC]at h;cases l:(alive s)[i]? with
 |none=>rw[l]at h;cases h
 |some z=>
  rw[l]at h;have h:=Ap h;subst h;have:=each i a q z Q G l;have(U,T):=xG (n:=n) (d.ok.FS g d.gr z (Ar l));show Fj c.K k a q (GS g (s.now+n) z.2).plan.cells (GS g (s.now+n) z.2).left;erw[U,T];exact this
 have(xs,e):=d.eW z;rw[I f O]at e;cases e
def rS{s:Eg}{ka:List AD}{n:Nat}(h:s.walkers.length<n):A9 (Bb (alive s) ka) (AW (n:Int))=AB:=by
 unfold A9;erw[Wf,Lf];intro b d;have(i,f):=DP d;have(y,a,c,_,e,_):=gK (k:=b.1) (x:=b.2) f;have:=zR (Ar c);erw[e];simp only[Db];intro z;have:=G6 z;lia
structure ZX(c:Cs)(H1:Hp)(r:WA)(s:Eg)(g:Aw)(n:Nat)(i:Nat)(σ:L2.St)(H':Hp):Prop where
 st:∃x:Option V,σ=[AA (.ref r.wa),AA (nV n),x]
 ex:∃kq:List AD,kq.length=i/\AQ (r.ka.take i) H1 H'/\(∀b∈kq,H1 b=AB)/\∀(j:Nat) (a q:AD) (y:Nat×DI),r.ka[j]? =AA a->kq[j]? =AA q->(alive s)[j]? =AA y->Fj c.K H' a q (y.2.plan.cells.drop (min n (y.2.plan.cells.length - 1))) (Jv g y.2.left y.2.plan.cells n)
def v8(av:Ef c)(a6:Ag B "add_walker" "World.add_walker" U7 f fd)(T:DO B mg c.W)(bl:FX a5 w B mg base 1 "Walker" c.K ["self","cell"] (Ps c.K)):AV a5 w B mg base AZ 3 f fd ["self","cell"] (QR c):=by
 exists a6.go ["self","cell"],bs,bm,J;obtain⟨r,st,g,cell,rfl,W,ab,a1,k⟩:=h;have Z:=eC J;refine(_,(aE (oB (pv 0) aG pX) (aF (jJ Z (aH (pv 0)) (aH (pv 0)) (gP bl J rfl (aA (pv 1) aD)) rfl))),?_);have(d,v):=W.ins;have G:r.wa≠r.wd:=dF v W.wd ∅;exists N,a0;refine(.ref r.wa,rfl,r.wa,c.W,d,_,nV st.walkers.length,rfl,v,T.cl,T.Kv,i8,_,_,rfl,rfl,d,_,v,by show 6<1000;decide,?_);refine cont (λi=>i=L2.upd H r.wa (.ins c.W d (DZ (.ref r.la) r.dl r.fl r.wd (st.walkers.length+1) st.now))) rfl λi y=>?_
 try dsimp only
 subst a0;have l:i r.wa=AA (.ins c.W d (DZ (.ref r.la) r.dl r.fl r.wd (st.walkers.length+1) st.now)):=by rw[y,aB]
 have m:AQ [r.wa] H i:=by rw[y];exact AQ.upd (by simp)
 clear y;refine(nV cell,rfl,λx L nx I ne=>(x,L,cell,rfl,aB,λp C u a3 a4=>(rfl,?_)));have j:AH i C:=AH.made nx I λb o e a=>a3 b o e (by simpa using a);have an:C r.wd=AA (.dK (Bb (alive st) r.ka)):=j _ _ (m _ _ W.wd (by simpa using G.symm));refine(.ref r.wa,rfl,r.wa,c.W,d,_,.ref r.wd,rfl,j _ _ l,T.cl,T.FT,d8,.ref r.wa,rfl,r.wa,c.W,d,_,nV (st.walkers.length+1),rfl,j _ _ l,T.cl,T.Kv,i8,r.wd,_,rfl,HY.k (k:=AW ((st.walkers.length+1:Nat):Int)) an (by rw[gL W.Ds];exact dS (by have:=gY (s:=st);lia)),?_);rw[kK _ (rS (M4 _))];have n:H x=AB:=m.eN l nx;have aj:i p=AB:=by
  cases q:i p with
  |none=>rfl
  |some o=>
   by_cases z:p=x;rw[z,nx]at q;cases q;rw[aC z]at u;by_cases D:p=L;rw[D,I]at q;cases q;rw[aC D,q]at u;cases u
 have t:H p=AB:=m.eN l aj;have O:x≠r.wd:=λz=>by rw[z,W.wd]at n;cases n
 have S:p≠r.wd:=λz=>by rw[z,W.wd]at t;cases t
 have M:AQ [r.wa,r.wd] H (L2.upd C r.wd (.dK (Bb (alive st) r.ka ++ [(AE (AW ((st.walkers.length+1:Nat):Int)) (V.ref x))]))):=
  ((m.mono (by simp)).trans (AH.but j)).put (by simp);have U:x∉r.ka:=λz=>by have(_,_,e):=W.fh z;rw[n]at e;cases e
 have R:p∉r.DF:=λz=>by have(_,e):=W.eW z;rw[t]at e;cases e
 have((a2,Y),X):=a4;refine k {r with ka:=r.ka ++ [x],kp:=r.kp ++ [p]} _ (M.mono λb a=>?_) (((m.pY l).trans j.grow).upd) (rfl,λb a=>?_,λb a=>?_) (W.zS av ab a1 M (d,by rw[aC G];exact j _ _ l) aB ((a2,by rw[aC O];exact Y),by rw[aC S];exact X) U R);rw[WA.dt];simp only[Aj,BW,BV]at a;rcases a with h|h<;>simp[h];rw[WA.dt]at a;rw[WA.dt];rcases a with h|h|h|h|h;exact .inl (.inl h);exact .inl (.inr (.inl h));exact .inl (.inr (.inr (.inl h)));exact .inl (.inr (.inr (.inr (.inl h))));rcases Az.mp h with h|h;exact .inl (.inr (.inr (.inr (.inr h))));exact .inr (by rw[Av.mp h];exact n);rw[WA.eU]at a;rw[WA.eU];rcases a with h|h|h;exact .inl (.inl h);exact .inl (.inr (.inl h));rcases Az.mp h with h|h;exact .inl (.inr (.inr h));exact .inr (.inl (by rw[Av.mp h];exact t))
def vB(b1:Ef c)(ep:Ag b7 "pass_ticks" "World.pass_ticks" UK f fd)(T:DO b7 mg c.W)(eq:A6 en w b7 mg base 3 c.K "go_on" ["self","land","ticks"] (QE c.L c.K)):AV en w b7 mg base AZ 4 f fd ["self","ticks"] (P4 c):=by
 exists ep.go ["self","ticks","walker"],ey,er,dn;obtain⟨r,st,g,n,rfl,W,d4,d3,k⟩:=h;refine(_,(aE (kM (dg D0 rfl (oG (aH (pv 0))) (aa 2) (aF (dW (ae (pv 2) eq dn (aA (aH (pv 0)) (aA (pv 1) aD))))))) (aF (oB (pv 0) (pv 1) pX))),?_);have(u,X):=W.ins;have a2:r.wa≠r.wd:=dF X W.wd ∅;exists N,d6;refine(r.wd,_,W.wd,trivial,λM=>?_);have L:AQ [r.wd] H (L2.upd H r.wd (.BA M (.dK (Bb (alive st) r.ka)))):=AQ.upd (by simp);have hL:L2.upd H r.wd (.BA M (.dK (Bb (alive st) r.ka))) r.wd=AA (.BA M (.dK (Bb (alive st) r.ka))):=aB;generalize es:L2.upd H r.wd (.BA M (.dK (Bb (alive st) r.ka)))=ca at L hL;have cm:ca r.wa=AA (.ins c.W u (DZ (.ref r.la) r.dl r.fl r.wd st.walkers.length st.now)):=L _ _ X (by simpa using a2);have dd:=b1.ne.1.2.2.2;have R:∀{b o},H b=AA o->kindOf o≠(AE 1 c.K)->b∉r.ka:=λ{b o} e h z=>by
  have(a0,et,co):=W.fh z;rw[e]at co;cases co;exact h rfl
 have a1:r.wd∉r.ka:=R W.wd ∅;have a3:r.wa∉r.ka:=R X (by simp[kindOf];exact dd);refine(.ref r.wa,rfl,r.wa,c.W,u,_,.ref r.wd,rfl,cm,T.cl,T.FT,d8,r.wd,M,_,rfl,hL,?_);refine xk (ZX c ca r st g n) ((AB,rfl),[],rfl,AH.but (λ_ _ e=>e),λb h=>by simp at h,λj a q y _ h=>by simp at h) (λi cd t I=>?_) ?_ ?_;have(v,_,m,_):=I.ex;exact m _ _ hL (λz=>a1 (HC z));rintro i key x cd t d5 ⟨⟨c1,rfl⟩,v,an,m,b0,each⟩;obtain⟨y,a,S,Y,rfl,rfl⟩:=gK d5;obtain⟨p,d2⟩:∃p,r.kp[i]? =AA p:=(_,AX (by rw[W.FV];exact(AY.mp S).1));have((a0,ci),a6):=W.ka i a p y Y d2 S;have O:=W.ok.FS g W.gr y (Ar S);have keep:∀{b o},H b=AA o->b≠r.wd->b∉r.ka.take i->t b=AA o:=λ{b o} e ec ea=>m _ _ (L _ _ e (by simpa using ec)) ea;have c7:a∉r.ka.take i:=λz=>by
  have(j,l):=DP z;have av:=(AY.mp l).1;rw[FQ]at av;rw[NC,AJ ()]at l;have:=fE W.sep.knd l Y;lia
 have bm:t a=AA (.ins c.K a0 (Gs p y.2.left)):=keep ci (dF ci W.wd ∅) c7;have d1:t p=AA (.lst (y.2.plan.cells.map nV)):=keep a6 (dF a6 W.wd ∅) (λz=>R a6 ∅ (HC z));have bs:t r.wa=AA (.ins c.W u (DZ (.ref r.la) r.dl r.fl r.wd st.walkers.length st.now)):=keep X a2 (λz=>a3 (HC z));have c9:=b1.ne.2.1.2.2;have eo:FG c.L t r.la g r.pc r.ph:=by
  have(ei,ef,bl,rest):=W.land.s.b.ins;have cg:∀{b xs},H b=AA (.lst xs)->t b=AA (.lst xs):=λ{b xs} e=>keep e (dF e W.wd ∅) (λz=>R e ∅ (HC z));exact((ei,ef,keep bl (dF bl W.wd ∅) (λz=>R bl (by simp[kindOf];exact c9) (HC z)),rest),cg W.land.s.b.costs,cg W.land.s.b.Ei,W.land.s.b.wide,W.land.s.b.few,W.land.s.b.rows)
 simp only[BL,Bn,Bm];refine(.ref a,rfl,a,a0,_,rfl,bm,gZ (by decide +kernel) (by decide +kernel),.ref r.wa,rfl,r.wa,c.W,u,_,.ref r.la,rfl,bs,T.cl,T.Dv,dR,nV n,rfl,a,r.la,g,r.pc,r.ph,p,y.2.plan.cells,y.2.left,n,rfl,((a0,bm),d1),eo,O.path,d4,λq ez b6 ds el=>?_);have dp:ca q=AB:=by
  refine m.free (λb d=>?_) ds;have(ew,eu,ev):=W.fh (HC d);have(j,l):=DP d;have av:=(AY.mp l).1;rw[FQ]at av;rw[NC,AJ ()]at l;obtain⟨D,a4⟩:∃D,(alive st)[j]? =AA D:=(_,AX (by have:=(AY.mp S).1;lia));obtain⟨G,a5⟩:∃G,v[j]? =AA G:=(_,AX ());have(ab,J):=(each j b G D l a5 a4).ins;exact(_,J)
 refine((_,rfl),v ++ [q],by rw[BZ,an];rfl,λb o e d=>?_,λb d=>?_,λj cr ce c0 C B U=>?_);rw[take_snoc Y,Az,A5]at d;exact b6 b o (m b o e d.1) d.2;rcases Az.mp d with h|h;exact b0 b h;rw[Av.mp h];exact dp;by_cases l:j<v.length;rw[F9 l]at B;have((ab,J),Z):=each j cr ce c0 C B U;have c8:cr≠a:=λz=>by
  have:=fE W.sep.knd C (by rw[z];exact Y);lia
 have c4:ce≠a:=λz=>by rw[z,bm]at Z;cases Z
 exact((ab,b6 _ _ J (by simpa using c8)),b6 _ _ Z (by simpa using c4));rw[F8 ()]at B;have z:j - v.length=0:=by have:=(AY.mp B).1;simp at this;lia
 rw[z]at B;cases B;have:j=i:=by lia
 subst this;rw[Y]at C;cases C;rw[S]at U;cases U;exact el;rintro cd t ⟨⟨c1,rfl⟩,v,an,m,b0,each⟩;rw[gL W.Ds]at an m;have dm:r.ka.take (alive st).length=r.ka:=by rw[<-W.Ds,EI]
 rw[dm]at m;refine(m _ _ hL a1,?_);have bs:t r.wa=AA (.ins c.W u (DZ (.ref r.la) r.dl r.fl r.wd st.walkers.length st.now)):=m _ _ cm a3;subst d6;have ck:∀o,L2.upd t r.wd o r.wa=AA (.ins c.W u (DZ (.ref r.la) r.dl r.fl r.wd st.walkers.length st.now)):=λo=>by rw[aC a2];exact bs
 refine(.ref r.wa,rfl,r.wa,c.W,u,_,nV st.now,rfl,ck _,T.cl,T.JJ,ga,nV n,rfl,_,_,rfl,rfl,u,_,ck _,by show 6<1000;decide,?_);have cp:AQ (r.wa::r.ka) H (L2.upd (L2.upd t r.wd (.dK (Bb (alive st) r.ka))) r.wa (.ins c.W u (DZ (.ref r.la) r.dl r.fl r.wd st.walkers.length (st.now+n)))):=λb o e d=>by
  rw[Aj,A5]at d;rw[aC d.1];by_cases z:b=r.wd;subst z;rw[W.wd]at e;cases e;exact aB;rw[aC z];exact m _ _ (L _ _ e (by simpa using z)) d.2
 have hex:∀b∈r.ka,∃o,t b=AA o:=λb d=>by
  have(j,l):=DP d;have av:=(AY.mp l).1;have:=W.Ds;obtain⟨D,a4⟩:∃D,(alive st)[j]? =AA D:=(_,AX ());obtain⟨G,a5⟩:∃G,v[j]? =AA G:=(_,AX ());have(ab,J):=(each j b G D l a5 a4).ins;exact(_,J)
 have b5:∀b∈v,H b=AB:=λb d=>L.eN hL (b0 b d);refine k {r with kp:=v} _ (cp.mono λb d=>?_) ((((L.pY hL).trans (m.grow hex)).upd).upd) (rfl,λb d=> .inl d,λb d=>?_) (W.uC b1 d3 cp (u,aB) (by rw[an,W.Ds]) b5 λj a q y C B U=>?_);rw[WA.dt];rcases Aj.mp d with h|h;exact .inl h;exact .inr (.inr (.inr (.inr h)));rw[WA.eU]at d;rw[WA.eU];rcases d with h|h|h;exact .inl (.inl h);exact .inl (.inr (.inl h));exact .inr (.inl (b5 b h));have((ab,J),Z):=each j a q y C B U;have aj:=b5 q (Ar B);have c5:a≠r.wd:=λz=>a1 (by rw[<-z];exact Ar C);have c6:a≠r.wa:=λz=>a3 (by rw[<-z];exact Ar C);have c2:q≠r.wd:=λz=>by rw[z,W.wd]at aj;cases aj
 have c3:q≠r.wa:=λz=>by rw[z,X]at aj;cases aj
 exact((ab,by rw[aC c6,aC c5];exact J),by rw[aC c3,aC c2];exact Z)
end RW
end
section
namespace RW
open PySem PySem.Spec PyProof.Rows L2 L3 Vbwsal
structure D7(H:Hp)(PL PF:AD):Prop where
 l:TabAt H PL Hy Hx
 f:TabAt H PF Ky Kx
 ne:PL≠PF
def TabAt.keep{a:Hp}(T:TabAt H p pos q)(k:∀b o,H b=AA o->(kindOf o).1=4\/(kindOf o).1=6->b=p\/(kindOf o).1=6->a b=AA o):TabAt a p pos q:=by
 rcases T with e| ⟨d,e,c⟩;exact .inl (k _ _ e (.inl rfl) (.inl rfl));exact .inr (d,k _ _ e (.inl rfl) (.inl rfl),k _ _ c (.inr rfl) (.inr rfl))
def D7.same(T:D7 H PL PF)(s:AH H a):D7 a PL PF:=(T.l.keep λb o e _ _=>s b o e,T.f.keep λb o e _ _=>s b o e,T.ne)
def D7.but(T:D7 H PL PF)(k:AQ S H a)(c:∀b∈S,∀o,H b=AA o->(kindOf o).1<4):D7 a PL PF:=by
 have key:∀b o,H b=AA o->(kindOf o).1=4\/(kindOf o).1=6->a b=AA o:=λb o e h=>k b o e λz=>by
  have:=c b z o e;rcases h with h|h<;>lia
 exact(T.l.keep λb o e h _=>key b o e h,T.f.keep λb o e h _=>key b o e h,T.ne)
def D7.least(T:D7 H PL PF)(k:AQ [PL] H c)(t:TabAt c PL Hy Hx):D7 c PL PF:=by
 have(x,d):=T.l.aY;refine(t,T.f.keep λb o e h a=>k b o e ?_,T.ne);erw[Av];rcases a with rfl|a;exact λz=>T.ne z.symm;intro z;rw[z,d]at e;cases e;cases a
def Ad.tab(a:Ad c H r s g)(k:AQ [p] H d)(t:∃x,H p=AA (.aY x)):Ad c d r s g:=a.kept λb o e h=>k b o e (by
 have(x,t):=t;erw[Av];intro z;rw[z,t]at e;cases e;exact absurd h (by show ¬4<4;decide))
@[inline]def refsOf:List V->List AD
 | []=>[]
 | .ref p::vs=>p::refsOf vs
 | _::vs=>refsOf vs
def ox:∀{vs:List V} {p:AD},p∈refsOf vs↔V.ref p∈vs
 | [],p=>by simp[refsOf]
 |v::vs,p=>by
  have a:=ox (vs:=vs) (p:=p);cases v<;>simp[refsOf,a]
def Gd(c:Cs)(PL PF:AD)(H:Hp)(r:WA)(s:Eg)(us:List V)(x:Call)(Q:VK):Prop:=
 ∀l r' g' a,H l=AB->AQ (r.muts ++ [PL,PF]) H a->D7 a PL PF->EN H r (refsOf us) r'->Ad c a r' (act s x).1 g'->a l=AA (.lst ((act s x).2.map V.int))->Q (.ref l) a
structure FH(c:Cs)(PL PF:AD)(H:Hp)(r:WA)(s:Eg)(g:Aw)(gw:AD)(n:Nat)(as:List Arg)(us:List V)(x:Call):Prop where
 W:Ad c H r s g
 T:D7 H PL PF
 gv:H gw=AA (.lst us)
 A:DW H as us
 ng:gw∉r.muts
 nr:∀p,V.ref p∈us->p∉r.muts
 F:Fits (Aa n) as
 call:MA n as=AA x
 no:refusal s n as=AB
inductive DM(c:Cs)(PL PF:AD)(n:Nat)(vs:List V)(H:Hp)(Q:VK)(E:XK):Prop
 |mk:∀r s g gv as us x,vs=[.ref r.wa,.ref gv]->FH c PL PF H r s g gv n as us x->Gd c PL PF H r s us x Q->DM c PL PF n vs H Q E
def Gd.same(k:Gd c PL PF H r s us x Q)(i:Ad c H r s g)(T:D7 H PL PF)(e:act s x=(AE s f))(d:H l=AB)(a:AH H b)(h:b l=AA (.lst (f.map V.int))):Q (.ref l) b:=
 k l r g b d (AH.but a) (T.same a) EN.rfl' (by erw[e];exact i.same a) (by erw[e];exact h)
def Gd.least(k:Gd c PL PF H r s us x Q)(i:Ad c H r s g)(T:D7 H PL PF)(e:act s x=(AE s f))(d:H l=AB)(b:AQ [PL] H a)(t:TabAt a PL Hy Hx)(h:a l=AA (.lst (f.map V.int))):Q (.ref l) a:=
 k l r g a d (b.mono (by simp)) (T.least b t) EN.rfl' (by erw[e];exact i.tab b T.l.aY) (by erw[e];exact h)
def Gd.fin(k:Gd c PL PF H r s us x Q)(o:Ad c H r s g)(T:D7 H PL PF)(e:act s x=(AE s n))(f:AQ [PL] H i)(d:TabAt i PL Hy Hx)(a:AH i h)(b:h l=AB)(m:xs=n.map V.int):Q (.ref l) (L2.upd h l (.lst xs)):=by
 have(p,j):=d.aY;subst m;exact k.least o T e (f.eN j (a.free b)) (f.trans (AH.but (a.trans (AH.upd b)))) (d.same (a.trans (AH.upd b))) aB
def Gd.di(k:Gd c PL PF H r s us x Q)(i:Ad c H r s g)(T:D7 H PL PF)(e:act s x=(AE s h))(a:AH H d)(b:d l=AB)(f:xs=h.map V.int):Q (.ref l) (L2.upd d l (.lst xs)):=by
 subst f;exact k.same i T e (a.free b) (a.trans (AH.upd b)) aB
def FH.known(A:FH c PL PF H r s g k n as us x)(d:n≠0):Eu n as=AC/\(∀z∈BN (Aa n) as,z<(AG g:Int))/\∀z∈Eh (Aa n) as,∃y,(AE z.toNat y)∈alive s:=by
 have(j,i):=jG A.no;have(g',e,h,f):=i d;have:g'=g:=Ap (e.symm.trans A.W.gr);subst this;exact(j,h,λz a=>let(y,b):=f z a;(y,fU.mp b))
def mK(h:Eu n as=AC):((Aa n).zip as).all (λy=>EE y.1 y.2)=AC:=by
 unfold Eu at h;rw[DN]at h;exact h.1
def one_num(f:k.Ck=AF)(h:0<=k.lo)(a:Fits (k::ks) as)(d:DW H as us)(c:((k::ks).zip as).all (λy=>EE y.1 y.2)=AC):
  ∃(x:Nat) (b:List Arg) (e:List V),as=.num (x:Int)::b/\us=nV x::e/\k.lo<=x/\x<=k.hi/\Fits ks b/\DW H b e/\(ks.zip b).all (λy=>EE y.1 y.2)=AC:=by
 cases a with
 |num x q a=>
  cases d with
  |num _ d=>
   rw[O6,IY,DN]at c;have g:=ie.mp (show inR x k.lo k.hi=AC from c.1);have ex:((x.toNat:Nat):Int)=x:=by lia
   exact(x.toNat,_,_,by erw[ex],by show _=V.int ((x.toNat:Nat):Int)::_;erw[ex],by lia,by lia,a,d,c.2)
 |row l q a=>rw[f]at q;cases q
def jT(i:k.Ck=AC)(a:Fits (k::ks) as)(d:DW H as us)(c:((k::ks).zip as).all (λy=>EE y.1 y.2)=AC):
  ∃(l:List Int) (p:AD) (b:List Arg) (f:List V),as=.row l::b/\us=.ref p::f/\H p=AA (.lst (l.map V.int))/\k.least<=l.length/\l.length<=k.most/\(∀x∈l,k.lo<=x/\x<=k.hi)/\Fits ks b/\DW H b f/\(ks.zip b).all (λy=>EE y.1 y.2)=AC:=by
 cases a with
 |num x q a=>rw[i]at q;cases q
 |row l q a=>
  cases d with
  |row _ p j d=>
   rw[O6,IY,DN]at c;have e:(inR (l.length:Int) k.least k.most && l.all λx=>inR x k.lo k.hi)=AC:=c.1;rw[DN]at e;have g:=ie.mp e.1;exact(l,p,_,_,rfl,rfl,j,g.1,g.2,λx h=>ie.mp (FR.mp e.2 x h),a,d,c.2)
def kr{l:List Int}(h:∀x∈l,0<=x):l.map V.int=(l.map FL).map nV:=by
 erw[Dc];refine Kk λx a=>?_;have:=h x a;show V.int x=V.int ((x.toNat:Nat):Int)
 congr 1
 lia
end RW
namespace RW
open PySem PySem.Spec PyProof.Rows L2 L3 Vbwsal
def FH.all(A:FH c PL PF H r s g a n as us x):((Aa n).zip as).all (λy=>EE y.1 y.2)=AC:=mK (jG A.no).1
def FH.n1(A:FH c PL PF H r s g l n as us x)(d:Aa n=[k])(q:k.Ck=AF/\0<=k.lo):∃a:Nat,as=[.num (a:Int)]/\us=[nV a]/\k.lo<=a/\a<=k.hi:=by
 have F:=A.F;have b:=A.all;rw[d]at F b;obtain⟨a,m,j,rfl,rfl,f,e,h,i,_⟩:=one_num q.1 q.2 F A.A b;cases h;cases i;exact(a,rfl,rfl,f,e)
def FH.n2(A:FH c PL PF H r s g y n as us x)(i:Aa n=[k,k2])(q:k.Ck=AF/\0<=k.lo)(d:k2.Ck=AF/\0<=k2.lo):∃a b:Nat,as=[.num (a:Int),.num (b:Int)]/\us=[nV a,nV b]/\(k.lo<=a/\a<=k.hi)/\k2.lo<=b/\b<=k2.hi:=by
 have F:=A.F;have e:=A.all;rw[i]at F e;obtain⟨a,p,f,rfl,rfl,o,m,u,w,h⟩:=one_num q.1 q.2 F A.A e;obtain⟨b,p,f,rfl,rfl,l,j,t,v,_⟩:=one_num d.1 d.2 u w h;cases t;cases v;exact(a,b,rfl,rfl,(o,m),l,j)
def FH.n3(A:FH c PL PF H r s g I n as us x)(o:Aa n=[k,k2,k3])(q:k.Ck=AF/\0<=k.lo)(h:k2.Ck=AF/\0<=k2.lo)(f:k3.Ck=AF/\0<=k3.lo):∃a b d:Nat,as=[.num (a:Int),.num (b:Int),.num (d:Int)]/\us=[nV a,nV b,nV d]/\(k.lo<=a/\a<=k.hi)/\(k2.lo<=b/\b<=k2.hi)/\k3.lo<=d/\d<=k3.hi:=by
 have F:=A.F;have i:=A.all;rw[o]at F i;obtain⟨a,j,e,rfl,rfl,y,w,C,G,m⟩:=one_num q.1 q.2 F A.A i;obtain⟨b,j,e,rfl,rfl,v,u,B,E,l⟩:=one_num h.1 h.2 C G m;obtain⟨d,j,e,rfl,rfl,t,p,z,D,_⟩:=one_num f.1 f.2 B E l;cases z;cases D;exact(a,b,d,rfl,rfl,(y,w),(v,u),t,p)
def FH.n4(A:FH c PL PF H r s g R n as us x)(u:Aa n=[k,k2,k3,k4])(q:k.Ck=AF/\0<=k.lo)(l:k2.Ck=AF/\0<=k2.lo)(j:k3.Ck=AF/\0<=k3.lo)(i:k4.Ck=AF/\0<=k4.lo):∃a b d e:Nat,as=[.num (a:Int),.num (b:Int),.num (d:Int),.num (e:Int)]/\us=[nV a,nV b,nV d,nV e]/\(k.lo<=a/\a<=k.hi)/\(k2.lo<=b/\b<=k2.hi)/\(k3.lo<=d/\d<=k3.hi)/\k4.lo<=e/\e<=k4.hi:=by
 have F:=A.F;have m:=A.all;rw[u]at F m;obtain⟨a,h,f,rfl,rfl,E,D,L,Q,t⟩:=one_num q.1 q.2 F A.A m;obtain⟨b,h,f,rfl,rfl,C,B,J,O,p⟩:=one_num l.1 l.2 L Q t;obtain⟨d,h,f,rfl,rfl,z,y,I,N,o⟩:=one_num j.1 j.2 J O p;obtain⟨e,h,f,rfl,rfl,w,v,G,M,_⟩:=one_num i.1 i.2 I N o;cases G;cases M;exact(a,b,d,e,rfl,rfl,(E,D),(C,B),(z,y),w,v)
def FH.r1(A:FH c PL PF H r s g m n as us x)(d:Aa n=[k])(q:k.Ck=AC):∃(t:List Int) (p:AD),as=[.row t]/\us=[.ref p]/\H p=AA (.lst (t.map V.int))/\k.least<=t.length/\t.length<=k.most/\∀x∈t,k.lo<=x/\x<=k.hi:=by
 have F:=A.F;have a:=A.all;rw[d]at F a;obtain⟨t,p,o,l,rfl,rfl,b,h,f,e,i,j,_⟩:=jT q F A.A a;cases i;cases j;exact(t,p,rfl,rfl,b,h,f,e)
def FH.wP(A:FH c PL PF H r s g C n as us x)(i:Aa n=[k,k2])(q:k.Ck=AF/\0<=k.lo)(e:k2.Ck=AC):∃(a:Nat) (t:List Int) (p:AD),as=[.num (a:Int),.row t]/\us=[nV a,.ref p]/\(k.lo<=a/\a<=k.hi)/\H p=AA (.lst (t.map V.int))/\k2.least<=t.length/\t.length<=k2.most/\∀x∈t,k2.lo<=x/\x<=k2.hi:=by
 have F:=A.F;have b:=A.all;rw[i]at F b;obtain⟨a,v,d,rfl,rfl,u,o,y,B,f⟩:=one_num q.1 q.2 F A.A b;obtain⟨t,p,v,d,rfl,rfl,h,m,l,j,w,z,_⟩:=jT e y B f;cases w;cases z;exact(a,t,p,rfl,rfl,(u,o),h,m,l,j)
def FH.wO(A:FH c PL PF H r s g X n as us x)(w:Aa n=[k,k2,k3,k4])(q:k.Ck=AF/\0<=k.lo)(i:k2.Ck=AF/\0<=k2.lo)(h:k3.Ck=AF/\0<=k3.lo)(l:k4.Ck=AC):∃(a b d:Nat) (t:List Int) (p:AD),as=[.num (a:Int),.num (b:Int),.num (d:Int),.row t]/\us=[nV a,nV b,nV d,.ref p]/\H p=AA (.lst (t.map V.int))/\t.length<=k4.most:=by
 have F:=A.F;have j:=A.all;rw[w]at F j;obtain⟨a,f,e,rfl,rfl,U,S,D,J,u⟩:=one_num q.1 q.2 F A.A j;obtain⟨b,f,e,rfl,rfl,R,Q,C,I,o⟩:=one_num i.1 i.2 D J u;obtain⟨d,f,e,rfl,rfl,O,N,B,G,m⟩:=one_num h.1 h.2 C I o;obtain⟨t,p,f,e,rfl,rfl,v,M,y,L,z,E,_⟩:=jT l B G m;cases z;cases E;exact(a,b,d,t,p,rfl,rfl,v,y)
end RW
end
section
namespace RW
open PySem PySem.Spec PyProof.Rows L2 L3 Vbwsal
def Lw(d:DJ)(x:Nat):List Int:=d.map λy=>match y with
 |none=>(x:Int)
 |some n=>(min n x:Nat)
inductive Pz(vs:List V)(H:Hp)(Q:VK)(E:XK):Prop
 |mk:∀p d x,vs=[.ref p,nV x]->Ee H p d->d.length<=1000->(∀q H',H q=AB->AH H H'->H' q=AA (.lst ((Lw d x).map V.int))->Q (.ref q) H')->Pz vs H Q E
def Js(d:DJ)(n:Nat):List Nat:=(Ai d.length).filter λc=>(at_ d c).any λx=>decide (x<=n)
inductive QK(vs:List V)(H:Hp)(Q:VK)(E:XK):Prop
 |mk:∀p d n,vs=[.ref p,nV n]->Ee H p d->d.length<=1000->(∀q H',H q=AB->AH H H'->H' q=AA (.lst ((Js d n).map nV))->Q (.ref q) H')->QK vs H Q E
def u7(y:Ag u "prices_told" "prices_told" UG f fd)(T:JQ mg):AV G w u mg base AZ 1 f fd ["costs","most"] Pz:=by
 exists y.go ["costs","most","cost"],C,m,B;obtain⟨p,d,x,rfl,g,hd,k⟩:=h;refine(_,(aF (aI (dk rfl m (dP (pv 0)) (own:=[(AE ("cost") 2)]) (dO (by kernel_rfl)) (λ_ _ _ _ _=>(aa 2)) (λ_ _ _ _ _=>dv) (λ_ _ _ _ _=>(fc (aW dz (pv 2) ai (aU _)) (pv 1) (bD (iw rfl) (by rfl) T.GJ boot_min (aA (pv 2) (aA (pv 1) aD)))))))),?_);refine(.ref p,rfl,p,rfl,(_,AN.of g),λD j=>?_);refine eM (xs:=d.map oV) (λi=>AA (match at_ d i with |none=>V.int x|some n=>V.int (min n x:Nat))) j g (by rw[AL];exact aN ()) (λi v l a b=>?_) (λl b t=>?_);intro I J c z;have r:i<d.length:=by have:=(AY.mp a).1;rw[AL]at this;exact this
 rw[dM r]at a;cases a;refine(rfl,?_);unfold Er;dsimp only;rw[AJ rfl];simp![wipe];cases e:at_ d i with
 |none=>
  simp![oV];exact c _ _ (by rw[e]) (λ_ _ e=>e)
 |some n=>
  simp![oV];refine c _ _ ?_ (λ_ _ e=>e);rw[e];show AA (V.int _)=AA (V.int _)
  congr 2
  split<;>lia
 refine k D l j b ?_;rw[t]
 congr 2
 rw[AL];unfold Lw;rw[Dc];refine eX λi o q=>?_;have:at_ d i=o:=by unfold at_;rw[DA,q];rfl
 rw[this];cases o<;>rfl
def vo(I:Ag t "cells_within" "cells_within" Ut f fd)(T:JQ mg):AV M w t mg base AZ 1 f fd ["costs","most"] QK:=by
 exists I.go ["costs","most","cell","cost"],L,l,J;obtain⟨p,d,n,rfl,o,hd,k⟩:=h;refine(_,(aF (aI (dk rfl l (jL rfl T.Gy (aA (pv 0) aD)) (own:=[(AE ("cell") 2),(AE ("cost") 3)]) (dO (by kernel_rfl)) (λ_ _ _ _ _=>(gl (K:=t) (i:=2) (j:=3) rfl rfl l rfl rfl (Dr rfl) (Dr rfl) (by first|exact F5 rfl|exact Dr rfl) (by first|exact F5 rfl|exact Dr rfl))) (λ_ _ _ _ _=>(fJ (PW.pt (fY (aW ff (pv 3) ai (aU _)) (fX (aW fD (pv 3) (pv 1) (aU _))))))) (λ_ _ _ _ _=>(pv 2))))),?_);refine(.ref p,rfl,p,_,rfl,AN.of o,λD q=>?_);refine pD (xs:=d.map oV) (λi=>if ((at_ d i).any λx=>decide (x<=n))=AC then AA (nV i)else AB) q o (by rw[AL];exact aN ()) (λi v T u b g C=>?_) (λu g G=>?_);intro N O y m;have z:i<d.length:=by have:=(AY.mp b).1;rw[AL]at this;exact this
 rw[dM z]at b;cases b;refine(T,_,rfl,BB.of C,rfl,nV i,[oV (at_ d i)],rfl,oV (at_ d i),[],rfl,rfl,rfl,?_);simp![wipe];cases e:at_ d i with
 |none=>
  simp![oV];exact m _ (by rw[e];rfl) (λ_ _ e=>e)
 |some x=>
  simp![oV];refine ak (λa=>?_) (λa=>?_);simp only[Db]at a;simp![wipe];exact y _ _ (by rw[e,Wh,BH (),AJ rfl]) (λ_ _ e=>e);simp only[Db]at a;exact m _ (by rw[e,Wh,DH (),AK (by simp)]) (λ_ _ e=>e)
 refine k D u q g ?_;rw[G]
 congr 2
 rw[AL];unfold Js;have:(Ai d.length).length=d.length:=DS
 conv=>lhs;rw[<-this]
 refine gG λi c B=>?_;have(a,r):=AY.mp B;rw[JB]at r;subst r;rfl
structure VH(H:Hp)(a p q:AD)(g:Aw)(st t:Nat)(m:Nat)(σ:L2.St)(H':Hp):Prop where
 ex:∃(cs:List Nat) (c y:Nat),m=y/\σ=[AA (.ref a),AA (.ref p),AA (nV st),AA (nV t),AA (.ref q)]/\Back g st t cs c y/\cs.length+rank (AG g) (A0 g st) y<=AG g/\H' q=AA (.lst (cs.map nV))
 same:AH H H'
structure VJ(mg:Str->Option AI):Prop where
 Gx:mg "list"=AB
 K6:mg "reversed"=AB
 C2:mg "len"=AB
 Df:mg "range"=AB
def uV(aj:Ag M "way_told" "way_told" Td f fd)(T:VJ mg)(an:A8 ab w M mg base 3 "cell_before" ["land","costs","cell"] (QN C)):AV ab w M mg base AZ 4 f fd ["land","costs","start","end"] (Po C):=by
 exists aj.go ["land","costs","start","end","cells"],a6,a2,z;obtain⟨a,g,pc,ph,p,st,t,y,rfl,L,U,v,k⟩:=h;have hw:=L.wide;have a5:=L.few;have TT:=fG (g:=g) (s:=st) hw;refine(_,(aE (aS 4 (af (aA (pv 3) aD))) (aE (iH D0 (aW gR (aJ aL (pv 4) (db dZ aG)) (pv 2) (aU _)) (aF (dW (dw FJ Fo F0 eA (pv 4) (aA (ag an z rfl (aA (pv 0) (aA (pv 1) (aA (aJ aL (pv 4) (db dZ aG)) aD)))) aD))))) (aF (aI (oM T.Gx T.K6 (pv 4)))))),?_);exists N,l;simp![];refine(aN (),λq G=>?_);subst l;have R:AH H (L2.upd H q (.lst [nV t])):=AH.upd G;exists N,l;refine(VH H a p q g st t,(y,([t],t,y,rfl,rfl,zE hw v,?_,aB),R),?_);have:=kJ TT.len v;show 1+_<=_;lia;rintro m av bm ⟨⟨cs,c,a0,rfl,rfl,B,a4,i⟩,d⟩;simp![i,gJ,Kl,B.lst,EH];by_cases j:c=st;subst j;rw[AK (by simp)];subst l;refine(.ref q,rfl,q,_,rfl,i,λS D=>?_);refine k S _ (d.free D) (d.trans (AH.upd D)) ?_;rw[aB,zF hw B,Wp];rw[AJ (by simp;lia)];refine(λn O=>∃m',m'<m/\VH H a p q g st t m' n O,λn O h=>h,?_);simp![of_eq_true (iD i),i,gJ,Kl,B.lst,EH];refine(a,g,pc,ph,p,st,c,m,rfl,L.same d,d _ _ U,B.val,j,λu x a1 bl Y J I X r=>?_);have Z:=r _ _ i;simp![Z,AL];have a3:=step_pos I;have z:=iG TT.len J (show x<m by lia);refine(dS (by rw[AL];lia),x,by lia,(cs ++ [u],u,x,rfl,rfl,zD hw B j Y J I X,by rw[BZ];show cs.length+1+_<=_;lia,?_),λb o e=>?_);rw[aB,Dd];rfl;rw[aC (aT e G)];exact r _ _ (d b o e)
inductive P0(C:AD)(vs:List V)(H:Hp)(Q:VK)(E:XK):Prop
 |mk:∀a g pc ph ps sa s t n p,∀pl:List Int,vs=[.ref a,nV s,nV t,nV n,.ref p]->El C H a g pc ph ps sa->s<AG g->t<AG g->H p=AA (.lst (pl.map V.int))->Q (.bl (Mf g s t n pl)) H->P0 C vs H Q E
inductive Pp(C:AD)(vs:List V)(H:Hp)(Q:VK)(E:XK):Prop
 |mk:∀a g pc ph pd ps sa p,∀cs:List Nat,vs=[.ref a,.ref p]->D8 C H a g pc ph pd ps sa->H p=AA (.lst (cs.map nV))->cs≠[]->cs.length<=1000->(∀c∈cs,c<AG g)->Q (oV (Fl g cs)) H->Pp C vs H Q E
structure ZZ(H:Hp)(a p:AD)(s t n:Nat)(g:Aw)(pl:List Int)(i:Nat)(σ:L2.St)(H':Hp):Prop where
 heap:H=H'
 ex:∃x y z:Option V,σ=[AA (.ref a),AA (nV s),AA (nV t),AA (nV n),AA (.ref p),x,y,z]
 ok:∀u,u<i->∀vk∈DE g u,pl.getD vk.1 0<=pl.getD u 0+ (vk.2:Int)
structure ZY(H:Hp)(a p:AD)(s t n:Nat)(g:Aw)(pl:List Int)(i j:Nat)(σ:L2.St)(H':Hp):Prop where
 heap:H=H'
 ex:∃y z:Option V,σ=[AA (.ref a),AA (nV s),AA (nV t),AA (nV n),AA (.ref p),AA (nV i),y,z]
 ok:∀vk∈(DE g i).take j,pl.getD vk.1 0<=pl.getD i 0+ (vk.2:Int)
structure ZB(H:Hp)(a p:AD)(g:Aw)(cs:List Nat)(i:Nat)(σ:L2.St)(H':Hp):Prop where
 heap:H=H'
 ex:∃(n:Nat) (x y:Option V),σ=[AA (.ref a),AA (.ref p),AA (nV n),x,y]/\Il g cs i n
def u8(b6:Ag U "prices_prove" "prices_prove" UH f fd)(T:JQ mg)(l:Dx U mg C):AV co w U mg base AZ 1 f fd ["land","start","end","least","prices"] (P0 C):=by
 exists b6.go ["land","start","end","least","prices","cell","near","step"],cm,ca,ci;obtain⟨a,g,pc,ph,ps,sa,st,t,n,p,pl,rfl,L,b3,b1,G,k⟩:=h;refine(_,(aE (aX (PW.pt (eh (aW gR (bD dj (by rfl) T.C2 EB (aA (pv 4) aD)) (aH (pv 0)) (aU _)) (eh (aW f9 (aJ aL (pv 4) (pv 1)) aG (aU _)) (fI (aW eS (aJ aL (pv 4) (pv 2)) (pv 3) (aU _)))))) (aF (aI f7)) aZ) (aE (dg D0 rfl (fP rfl T.Df (aA (aH (pv 0)) aD)) (aa 5) (aF (dg D0 rfl (dP (aJ aL (aH (pv 0)) (pv 5))) (eP rfl (dX (aa 6) (dX (aa 7) eO))) (aF (aX (aW f9 (aJ aL (pv 4) (pv 6)) (aV dG (aJ aL (pv 4) (pv 5)) (pv 7)) (aU _)) (aF (aI f7)) aZ))))) (aF (aI f7)))),?_);have(a5,fs,J,cg,aj,ce,cd,m1,_):=L.b.ins;have ck:=L.b.few;rw[tD b3 b1]at k;have M:∀i,i<pl.length->(pl.map V.int)[i]? =AA (V.int (pl.getD i 0)):=λi h=>by
  rw[BC,DA,AX h];rfl
 exists N,S;simp![J,G,l.cl,l.EX,aj,AL];by_cases O:pl.length=AG g;rw[AK (by rw[BH (by  omega)];decide)];rw[BH O,Fu]at k;simp![G,M st (by  omega)];by_cases a4:pl.getD st 0<=0;rw[AK (by rw[DH (by  omega)];decide)];rw[BH a4,Fu]at k;simp![G,M t (by  omega)];by_cases a3:(n:Int)<=pl.getD t 0;rw[AK (by rw[DH (by  omega)];decide)];rw[BH a3,Fu]at k;subst S;exists N,S;refine(.ref a,rfl,a,C,a5,fs,.int (AG g),rfl,J,l.cl,l.EX,aj,AG g,rfl,by omega,by omega,?_);rw[Ep];refine hO (n:=AG g) (ZZ H a p st t n g pl) (rfl,(AB,AB,AB,rfl),λu h=>absurd h (Nat.not_lt_zero _)) ?_ ?_;rintro i r cp a1 ⟨rfl,⟨x,y,z,rfl⟩,ok⟩;obtain⟨d,a2⟩:∃d,sa[i]? =AA d:=(_,AX (by rw[L.len];exact a1));have(a6,av,R):=L.each i d a2;have b5:(0:Int) + (i:Int)=(i:Int):=by omega
 rw[b5];simp![];refine(.ref a,rfl,a,C,a5,fs,.ref ps,rfl,J,l.cl,l.JK,L.fld _ _ J,nV i,rfl,ps,sa.map V.ref,(i:Int),.ref d,rfl,rfl,L.steps,by rw[aM,BC,a2];rfl,d,rfl,(_,AN.of av),?_);refine fS (K:=U) (a:=d) (xs:=a6.map V.ref) (ZY H a p st t n g pl i) (rfl,(_,_,rfl),λb h=>by simp at h) (λj r X _ I=>by rw[<-I.heap];exact AN.of av) ?_ ?_;rintro j v0 r X bm ⟨rfl,⟨Z,Y,rfl⟩,B⟩;obtain⟨ab,a0,rfl⟩:=dN bm;have b4:j<(DE g i).length:=by rw[<-R.1];exact(AY.mp a0).1
 obtain⟨⟨v,m⟩,D⟩:∃b,(DE g i)[j]? =AA b:=(_,AX b4);have b0:=R.2 j ab _ a0 D;have b2:Ab g i v=AA m:=eJ.mp (Ar D);have bl:v<pl.length:=by rw[O];exact(eI b2).2
 refine(ab,[nV v,nV m],rfl,BB.of b0,rfl,nV v,[nV m],rfl,nV m,[],rfl,rfl,?_);simp![G,M v bl,M i (by  omega)];refine ak (λo=>?_) (λo=>?_);have o:=DT o;have e:((Ai (AG g)).all λu=>(DE g u).all λb=>decide (pl.getD b.1 0<=pl.getD u 0+ (b.2:Int)))=AF:=by
  rw[JD];intro z;have:=FR.mp (FR.mp z i (EC.mpr a1)) (AE v m) (Ar D);have:=DT this;simp only at this;omega
 rw[e]at k;exact k;refine(rfl,(_,_,rfl),λb c=>?_);rw[take_snoc D]at c;rcases Az.mp c with c|c;exact B b c;rw[Av.mp c];have o: ¬_:=λz=>o (BH z);simp only;omega;rintro r X ⟨rfl,⟨Z,Y,rfl⟩,B⟩;rw[AL,R.1,EI]at B;refine(rfl,(_,_,_,rfl),λu an=>?_);by_cases q:u<i;exact ok u q;have:u=i:=by omega
 subst this;exact B;rintro r X ⟨rfl,⟨b7,Z,Y,rfl⟩,ok⟩;subst S;have e:((Ai (AG g)).all λu=>(DE g u).all λb=>decide (pl.getD b.1 0<=pl.getD u 0+ (b.2:Int)))=AC:=
  FR.mpr λu an=>FR.mpr λb c=>BH (ok u (EC.mp an) b c);rw[e]at k;exact k;rw[AJ (BH (by  omega))];rw[DH a3,Hq]at k;exact k;rw[AJ (BH (by  omega))];rw[DH a4,Hq]at k;simp![];exact k;rw[AJ (by rw[DH (λz=>O (by  omega))];rfl)];rw[DH O,Hq]at k;simp![];exact k
def uW(Y:Ag e "way_cost" "way_cost" Te f fd)(T:JQ mg)(a1:Dx e mg C)(Z:A6 B w e mg base 2 C "is_wall" ["self","cell"] (JG C))(ab:A6 B w e mg base 2 C "cost_between" ["self","cell","other"] (Lq C)):
  AV B w e mg base AZ 3 f fd ["land","cells"] (Pp C):=by
 exists Y.go ["land","cells","total","place","step"],a0,I,t;obtain⟨a,g,pc,ph,pd,ps,sa,p,cs,rfl,L,m,M,aj,z,k⟩:=h;refine(_,(aE (aX (dU (ae (pv 0) Z t (aA (aJ aL (pv 1) aG) aD))) (aF (aI ai)) aZ) (aE (aS 2 aG) (aE (dg D0 rfl (tO rfl T.Df (aA aG (aA (bD dj (by rfl) T.C2 EB (aA (pv 1) aD)) aD))) (aa 3) (aE (aS 4 (ae (pv 0) ab t (aA (aJ aL (pv 1) (aV dQ (pv 3) aG)) (aA (aJ aL (pv 1) (pv 3)) aD)))) (aE (aX (aW dz (pv 4) ai (aU _)) (aF (aI ai)) aZ) (aF (iI (i:=2) I rfl (Dr rfl) (pv 4) ic))))) (aF (aI (pv 2)))))),?_);have(av,v):=L.ins;have O:=Fb.mpr M;obtain⟨u,d⟩:∃u,cs[0]? =AA u:=(_,AX O);exists N,b;simp![v,fR (x:="is_wall") (by decide +kernel),m,BC,d,EH];refine(a,g,pc,ph,u,rfl,L.s.b,z u (Ar d),?_);cases q:An g u with
 |false=>
  simp![];rw[yb d q]at k;exact k
 |true=>
  subst b;exists N,b;subst b;exists N,b;refine(.ref p,rfl,p,_,rfl,m,1,(cs.length:Int),by rw[AL],(by lia,by lia,by lia,by lia),?_);have R:((cs.length:Int) - 1).toNat=cs.length - 1:=by lia
  rw[R];refine hO (lo:=1) (n:=cs.length - 1) (ZB H a p g cs) (rfl,0,AB,AB,rfl,Il.start d q) ?_ ?_;rintro i D a3 an ⟨rfl,n,x,y,rfl,G⟩;have U:(1:Int) + (i:Int)=((i+1:Nat):Int):=by lia
  have S:((i+1:Nat):Int) - 1=(i:Int):=by lia
  rw[U];obtain⟨j,c⟩:∃u,cs[i]? =AA u:=(_,AX ());obtain⟨v1,l⟩:∃u,cs[i+1]? =AA u:=(_,AX ());simp![];exists X,o;simp![v,fR (x:="cost_between") (by decide +kernel),m,BC,S,c,l,EH];refine(a,g,pc,ph,ps,sa,j,v1,rfl,L.s,z j (Ar c),?_);subst o;exists X,o;cases r:Ab g j v1 with
  |none=>
   simp![oV];rw[qZ c l r]at k;exact k
  |some J=>
   simp![oV];subst o;simp![];exact(rfl,n+J,_,_,rfl,G.turn c l r)
  ·rintro D a2 ⟨rfl,n,x,y,rfl,G⟩;subst b;simp![];rw[G.done]at k;exact k
def Jt(wa ol:AD):List (Str×V):=[(AE ("world":Str) (.ref wa)),(AE ("others":Str) (.ref ol))]
def j3:(Jt wa ol).lookup ("world":Str)=AA (.ref wa):=rfl
def j4:(Jt wa ol).lookup ("others":Str)=AA (.ref ol):=rfl
def fu(b:(x==("world":Str))=AF)(a:(x==("others":Str))=AF):(Jt wa ol).lookup x=AB:=by
 unfold Jt;erw[ED,b,ED,a];rfl
structure J0(K:Ao)(mg:Str->Option AI)(C:AD):Prop where
 cl:EO K C
 Nq:BO K C "world"
 Nr:BO K C "others"
 Df:mg "range"=AB
 HR:mg "any"=AB
def kg:Ac s n=(others s n).map λy=>y.2.plan:=oT
structure GK(c:Cs)(H:Hp)(t:AD)(r:WA)(s:Eg)(g:Aw)(n:Nat)(ol:AD)(os:List AD):Prop where
 w:Ad c H r s g
 ins:∃dx,H t=AA (.ins c.T dx (Jt r.wa ol))
 lst:H ol=AA (.lst (os.map V.ref))
 len:os.length=(others s n).length
 each:∀(j:Nat) (a:AD) (y:Nat×DI),os[j]? =AA a->(others s n)[j]? =AA y->∃p,Fj c.K H a p y.2.plan.cells y.2.left
def GK.same(T:GK c H t r s g n ol b)(k:AH H i):GK c i t r s g n ol b:=
 (T.w.same k,let(h,e):=T.ins;(h,k _ _ e),k _ _ T.lst,T.len,λj a y f d=>let(p,A):=T.each j a y f d;(p,A.same k))
def f8(O:Dn s)(b:s.ground=AA g):∀y∈others s n,HS g s.now y.2:=λy a=>O.FS g b y (EJ.mp a).1
def HI(g:Aw)(t:Nat):List Nat:=(Ai (AG g)).filter λc=> !GU g c t
def Fc(s:Eg)(n a:Nat):List Nat:=(others s n).map λy=>DY y.2.plan.cells a
def Fi(s:Eg)(n a:Nat):List (Nat×Nat):=(others s n).map λy=>(AE (DY y.2.plan.cells (a+1)) (DY y.2.plan.cells a))
inductive NS(c:Cs)(vs:List V)(H:Hp)(Q:VK)(E:XK):Prop
 |mk:∀t dx r s g n,vs=[.ref t,.ref r.wa,nV n]->H t=AA (.ins c.T dx [])->Ad c H r s g->(∀ol os H',AQ [t] H H'->GK c H' t r s g n ol os->Q .Al H')->NS c vs H Q E
inductive QL(c:Cs)(vs:List V)(H:Hp)(Q:VK)(E:XK):Prop
 |mk:∀t r s g n ol os a,vs=[.ref t,nV a]->GK c H t r s g n ol os->(∀p H',H p=AB->AH H H'->H' p=AA (.lst ((HI g (s.now+a)).map nV))->Q (.ref p) H')->QL c vs H Q E
inductive Nd(c:Cs)(vs:List V)(H:Hp)(Q:VK)(E:XK):Prop
 |mk:∀t r s g n ol os a,vs=[.ref t,nV a]->GK c H t r s g n ol os->(∀p H',H p=AB->AH H H'->H' p=AA (.lst ((Fc s n a).map nV))->Q (.ref p) H')->Nd c vs H Q E
inductive Ll(c:Cs)(vs:List V)(H:Hp)(Q:VK)(E:XK):Prop
 |mk:∀t r s g n ol os a,vs=[.ref t,nV a]->GK c H t r s g n ol os->(∀p ts H',H p=AB->AH H H'->H' p=AA (.lst (ts.map V.ref))->FF H' ts (Fi s n a)->Q (.ref p) H')->Ll c vs H Q E
@[inline]def restOk(s:Eg)(g:Aw)(n c a:Nat):Bool:=Gh g c && !(others s n).any λy=>(y.2.plan.cells.drop (min a (y.2.plan.cells.length - 1))).contains c
def jF(O:Dn s)(f:s.ground=AA g)(d:An g c=AC):restOk s g n c a=Gg g (Ac s n) c (s.now+a):=by
 unfold restOk Gg;erw[d,Fu,kg]
 congr 1
 have key:∀y∈others s n,(last y.2.plan !=c && (Ai (Hc y.2.plan+1 - (s.now+a))).all λi=>Dy y.2.plan (s.now+a+i) !=c)= !(y.2.plan.cells.drop (min a (y.2.plan.cells.length - 1))).contains c:=λy b=>by
  have W:=f8 O f y b;have:=sg W.path.ne c a;rw[W.begun]at this;exact this
 erw[DQ,Gq,Sw,FR];constructor;intro h p e;obtain⟨y,b,rfl⟩:=Du.mp e;have:=h y b;erw[key y b,Gq];simpa using this;intro h y b;have:=h y.2.plan (Du.mpr (y,b,rfl));rw[key y b,Gq]at this;erw[this];simp
inductive NX(c:Cs)(vs:List V)(H:Hp)(Q:VK)(E:XK):Prop
 |mk:∀t r s g n ol os cell a,vs=[.ref t,nV cell,nV a]->GK c H t r s g n ol os->cell<AG g->(∀H',AH H H'->Q (.bl (restOk s g n cell a)) H')->NX c vs H Q E
def vp(R:Ag l "cells_taken" "Traffic.cells_taken" Uu f fd)(T:J0 l mg c.T)(S:A6 N w l mg base 1 c.K "cell_after" ["self","ticks"] (Ls c.K)):
  AV N w l mg base AZ 2 f fd ["self","ahead"] (Nd c):=by
 exists R.go ["self","ahead","walker"],Y,x,C;obtain⟨t,r,st,g,n,ol,os,a,rfl,TT,k⟩:=h;refine(_,(aF (aI (dk rfl x (dP (aH (pv 0))) (own:=[(AE ("walker") 2)]) (dO (by kernel_rfl)) (λ_ _ _ _ _=>(aa 2)) (λ_ _ _ _ _=>dv) (λ_ _ _ _ _=>(ae (pv 2) S C (aA (pv 1) aD)))))),?_);have(M,I):=TT.ins;have X:(others st n).length<=6:=Dj (Fq _ _) (Dj gY TT.w.ok.GB);refine(.ref t,rfl,t,c.T,M,_,.ref ol,rfl,I,T.cl,T.Nr,j4,ol,rfl,(_,AN.of TT.lst),λD o=>?_);refine eM (xs:=os.map V.ref) (λi=>((others st n)[i]?).map λy=>nV (DY y.2.plan.cells a)) o TT.lst (by rw[AL,TT.len];exact aN ()) (λi v q B j=>?_) (λq j J=>?_);intro Z ab z U;obtain⟨b,m,rfl⟩:=dN B;obtain⟨y,d⟩:∃y,(others st n)[i]? =AA y:=(_,AX (by rw[<-TT.len];exact(AY.mp m).1));have(p,A):=TT.each i b y m d;have u:=A.same j;have(L,G):=u.ins;have O:=f8 TT.w.ok TT.w.gr y (Ar d);refine(rfl,?_);unfold Er;dsimp only;rw[AJ rfl];refine(.ref b,rfl,b,L,_,rfl,G,gZ (by decide +kernel) (by decide +kernel),nV a,rfl,b,p,_,_,a,rfl,u,O.path.ne,?_);exact z _ _ (by rw[d];rfl) (λ_ _ e=>e);refine k D q o j ?_;rw[J,AL,TT.len];unfold Fc;rw[Dc]
 congr 2
 exact eX λi y d=>by rw[d];rfl
def vq(R:Ag b "cells_shut" "Traffic.cells_shut" Uv f fd)(T:J0 b mg c.T)(p:DO b mg c.W)(q:Dx b mg c.L)(S:A6 O w b mg base 2 c.W "is_open_after" ["self","cell","ticks"] (Lo c)):
  AV O w b mg base AZ 3 f fd ["self","ahead"] (QL c):=by
 exists R.go ["self","ahead","cell"],Y,v,B;obtain⟨t,r,st,g,n,ol,os,a,rfl,TT,k⟩:=h;refine(_,(aF (aI (dk rfl v (fP rfl T.Df (aA (aH (aH (aH (pv 0)))) aD)) (own:=[(AE ("cell") 2)]) (dO (by kernel_rfl)) (λ_ _ _ _ _=>(aa 2)) (λ_ _ _ _ _=>(fJ (fw (dU (ae (gm (K:=b) rfl (pv 0) rfl) S B (aA (pv 2) (aA (pv 1) aD))))))) (λ_ _ _ _ _=>(pv 2))))),?_);have(N,l):=TT.ins;have(L,j):=TT.w.ins;have(M,C):=TT.w.land.ins;have X:=TT.w.land.s.b.few;refine(.ref t,rfl,t,c.T,N,_,.ref r.wa,rfl,l,T.cl,T.Nq,j3,r.wa,c.W,L,_,.ref r.la,rfl,j,p.cl,p.Dv,dR,r.la,c.L,M,_,nV (AG g),rfl,C,q.cl,q.EX,g9,(AG g:Int),rfl,by lia,by lia,λD m=>?_);rw[Ep];refine pC (n:=AG g) (λi=>if (!GU g i (st.now+a))=AC then AA (nV i)else AB) m (aN ()) (λi u G d=>?_) (λu d J=>?_);intro Z ab y z;refine(rfl,?_);simp![wipe,d _ _ l,T.cl,T.Nq,j3,d _ _ j,d7 (x:="is_open_after") (by decide +kernel)];refine(r,st,g,i,a,rfl,TT.w.same d,G,?_);simp![];cases e:GU g i (st.now+a)with
 |true=>simp![];exact z _ (by rw[e];rfl) (λ_ _ e=>e)
 |false=>simp![];exact y _ _ (by rw[e];rfl) (λ_ _ e=>e)
 refine k D u m d ?_;rw[J];unfold HI
 congr 2
 have:(Ai (AG g)).length=AG g:=DS
 conv=>lhs;rw[<-this]
 refine gG λi c I=>?_;have(U,o):=AY.mp I;rw[JB]at o;subst o;rfl
def vH(aj:Ag j "may_rest" "Traffic.may_rest" UQ f fd)(T:J0 j mg c.T)(a4:DO j mg c.W)(av:A6 z w j mg base 2 c.W "is_always_open" ["self","cell"] (Ni c))(an:A6 z w j mg base 2 c.K "is_at_from" ["self","cell","ticks"] (QD c.K)):
  AV z w j mg base AZ 3 f fd ["self","cell","ahead"] (NX c):=by
 exists aj.go ["self","cell","ahead","walker"],a3,G,o;obtain⟨t,r,st,g,n,ol,os,cell,a,rfl,TT,R,k⟩:=h;refine(_,(aE (aX (fw (dU (ae (aH (pv 0)) av o (aA (pv 1) aD)))) (aF (aI f7)) aZ) (aF (aI (oJ (bD (io rfl) (by rfl) T.HR boot_any (aA (dk rfl G (dP (aH (pv 0))) (own:=[(AE ("walker") 3)]) (dO (by kernel_rfl)) (λ_ _ _ _ _=>(aa 3)) (λ_ _ _ _ _=>dv) (λ_ _ _ _ _=>(ae (pv 3) an o (aA (pv 1) (aA (pv 2) aD))))) aD)))))),?_);have(Z,q):=TT.ins;have(a2,L):=TT.w.ins;have a1:(others st n).length<=6:=Dj (Fq _ _) (Dj gY TT.w.ok.GB);exists N,S;simp![q,T.cl,T.Nq,j3,L,d7 (x:="is_always_open") (by decide +kernel)];refine(r,st,g,cell,rfl,TT.w,R,?_);simp![];cases e:Gh g cell with
 |false=>
  simp![];have m:restOk st g n cell a=AF:=by unfold restOk;rw[e];rfl
  rw[m]at k;exact k H (λ_ _ e=>e)
 |true=>
  subst S;refine(.ref t,rfl,t,c.T,Z,_,.ref ol,rfl,q,T.cl,T.Nr,j4,ol,rfl,(_,AN.of TT.lst),λD U=>?_);refine eM (xs:=os.map V.ref) (λi=>((others st n)[i]?).map λy=>V.bl ((y.2.plan.cells.drop (min a (y.2.plan.cells.length - 1))).contains cell)) U TT.lst (by rw[AL,TT.len];exact aN ()) (λi v ab J l=>?_) (λab l X=>?_);intro a5 a6 I a0;obtain⟨b,u,rfl⟩:=dN J;obtain⟨y,d⟩:∃y,(others st n)[i]? =AA y:=(_,AX (by rw[<-TT.len];exact(AY.mp u).1));have(p,A):=TT.each i b y u d;have B:=A.same l;have(Y,M):=B.ins;have O:=f8 TT.w.ok TT.w.gr y (Ar d);refine(rfl,?_);unfold Er;dsimp only;rw[AJ rfl];refine(.ref b,rfl,b,Y,_,rfl,M,gZ (by decide +kernel) (by decide +kernel),nV cell,rfl,nV a,rfl,b,p,_,_,cell,a,rfl,B,O.path.ne,λbl C=>?_);exact I _ _ (by rw[d];rfl) C;refine(D,(others st n).map (λy=>(y.2.plan.cells.drop (min a (y.2.plan.cells.length - 1))).contains cell),rfl,AN.of ?_,?_);rw[X,Dc,AL,TT.len]
  congr 2
  exact eX λi y d=>by rw[d];rfl
  simp![];have m:restOk st g n cell a= !(((others st n).map (λy=>(y.2.plan.cells.drop (min a (y.2.plan.cells.length - 1))).contains cell)).any id):=by
   unfold restOk;rw[e,Gp];rfl
  rw[m]at k;exact k _ l
structure ZH(H:Hp)(s:Eg)(n a:Nat)(D:AD)(i:Nat)(H':Hp):Prop where
 ex:∃ts:List AD,AH H H'/\H' D=AA (.lst (ts.map V.ref))/\FF H' ts ((Fi s n a).take i)
def uo(a0:Ag G "steps_crossed" "Traffic.steps_crossed" Tz f fd)(T:J0 G mg c.T)(U:A6 av w G mg base 1 c.K "cell_after" ["self","ticks"] (Ls c.K)):
  AV av w G mg base AZ 2 f fd ["self","ahead"] (Ll c):=by
 exists a0.go ["self","ahead","walker"],a5,Y,R;obtain⟨t,r,st,g,n,ol,os,a,rfl,TT,k⟩:=h;refine(_,(aF (aI (dk rfl Y (dP (aH (pv 0))) (own:=[(AE ("walker") 2)]) (dO (by kernel_rfl)) (λ_ _ _ _ _=>(aa 2)) (λ_ _ _ _ _=>dv) (λ_ _ _ _ _=>(fB (aA (ae (pv 2) U R (aA (aV dG (pv 1) aG) aD)) (aA (ae (pv 2) U R (aA (pv 1) aD)) aD))))))),?_);have(an,ab):=TT.ins;have a2:(others st n).length<=6:=Dj (Fq _ _) (Dj gY TT.w.ok.GB);refine(.ref t,rfl,t,c.T,an,_,.ref ol,rfl,ab,T.cl,T.Nr,j4,ol,rfl,(_,AN.of TT.lst),λD I=>?_);refine ja (K:=G) (a:=ol) (xs:=os.map V.ref) (ZH H st n a D) ([],AH.upd I,aB,by simp[FF]) (λi a6 _ (d,X,_)=>AN.of (X _ _ TT.lst)) ?_ ?_;intro i v l Z (d,B,z,u);obtain⟨b,j,rfl⟩:=dN Z;obtain⟨y,C⟩:∃y,(others st n)[i]? =AA y:=(_,AX (by rw[<-TT.len];exact(AY.mp j).1));have(p,A):=TT.each i b y j C;have J:=A.same B;have(a4,S):=J.ins;have O:=f8 TT.w.ok TT.w.gr y (Ar C);refine(rfl,?_);unfold Er;dsimp only;rw[AJ rfl];simp![wipe,S,gZ (p:=p) (left:=y.2.left) (m:="cell_after") (by decide +kernel) (by decide +kernel)];refine(b,p,_,_,a+1,rfl,J,O.path.ne,?_);simp![S,gZ (p:=p) (left:=y.2.left) (m:="cell_after") (by decide +kernel) (by decide +kernel)];refine(b,p,_,_,a,rfl,J,O.path.ne,?_);simp![];refine(aN (),λx N=>?_);have M:D≠x:=aT z N;have L:AH l (L2.upd l x (.tup [nV (DY y.2.plan.cells (a+1)),nV (DY y.2.plan.cells a)])):=AH.upd N;have aj:(Fi st n a)[i]? =AA (AE (DY y.2.plan.cells (a+1)) (DY y.2.plan.cells a)):=by unfold Fi;rw[BC,C];rfl
 have a3:=(AY.mp C).1;have a1:d.length<=i:=by rw[u.1,FQ];lia
 refine(_,by rw[aC M];exact z,by rw[AL];exact dS (),d ++ [x],?_,?_,?_);exact λb o e=>by
  rw[aC (aT e I)];exact L b o (B b o e)
 rw[aB,Dd];rfl;rw[take_snoc aj];have kp:∀b xs,l b=AA (.tup xs)->L2.upd (L2.upd l x (.tup [nV (DY y.2.plan.cells (a+1)),nV (DY y.2.plan.cells a)])) D (.lst (Ld V.ref d ++ [V.ref x])) b=AA (.tup xs):=λb xs j=>by
  rw[aC (λq=>by rw[q,z]at j;cases j)];exact L _ _ j
 exact(u.keep kp).snoc (by rw[aC M.symm,aB]);intro l (d,B,z,u);refine k D d l I B z ?_;rw[La (by unfold Fi;rw[AL,AL,TT.len];exact Au _)]at u;exact u
def ua(ab:Ef c)(c0:Ag G "__init__" "Traffic.__init__" Ti f fd)(T:J0 G mg c.T)(a3:DO G mg c.W):AV c8 w G mg base AZ 1 f fd ["self","world","number"] (NS c):=by
 exists c0.go ["self","world","number","other","walker"],c7,O,c4;obtain⟨t,d,r,st,g,n,rfl,Z,W,k⟩:=h;refine(_,(aE (dH (pv 0) (pv 1) rfl) (aF (dH (pv 0) (oK (dk rfl O (kW (aH (pv 1))) (own:=[(AE ("other") 3),(AE ("walker") 4)]) (dO (by kernel_rfl)) (λ_ _ _ _ _=>(gl (K:=G) (i:=3) (j:=4) rfl rfl O rfl rfl (Dr rfl) (Dr rfl) (by first|exact F5 rfl|exact Dr rfl) (by first|exact F5 rfl|exact Dr rfl))) (λ_ _ _ _ _=>(fJ (aW gR (pv 3) (pv 2) (aU _)))) (λ_ _ _ _ _=>(pv 4)))) rfl))),?_);have c5:=gY (s:=st);have c3:=W.ok.GB;exists N,cg;simp![Z,T.cl,T.Nq];refine(by show 0<1000;decide,?_);subst cg;have b5:De ("world":Str) (V.ref r.wa) []=[(AE ("world":Str) (V.ref r.wa))]:=rfl;rw[b5];have L:AQ [t] H (L2.upd H t (.ins c.T d [(AE ("world":Str) (V.ref r.wa))])):=AQ.upd (by simp);have l:Ad c (L2.upd H t (.ins c.T d [(AE ("world":Str) (V.ref r.wa))])) r st g:=W.ql ab Z L;have u:L2.upd H t (.ins c.T d [(AE ("world":Str) (V.ref r.wa))]) t=AA (.ins c.T d [(AE ("world":Str) (V.ref r.wa))]):=aB;generalize c6:L2.upd H t (.ins c.T d [(AE ("world":Str) (V.ref r.wa))])=cr at L l u|-;have(cm,J):=l.ins;have a6:r.wa≠r.wd:=λz=>by rw[z,l.wd]at J;cases J
 have c2:t≠r.wd:=λz=>by rw[z,l.wd]at u;cases u
 refine(r.wd,_,l.wd,trivial,λa5=>?_);refine(.ref r.wa,rfl,r.wa,c.W,cm,_,.ref r.wd,rfl,by rw[aC a6];exact J,a3.cl,a3.FT,d8,r.wd,a5,_,rfl,aB,λD v=>?_);have R:D≠r.wd:=λz=>by rw[z,aB]at v;cases v
 have an:cr D=AB:=by rw[aC R]at v;exact v
 have bl:D≠t:=λz=>by rw[z,u]at an;cases an
 refine xC (λi=>((alive st)[i]?).bind λy=>if (y.1 !=n)=AC then(r.ka[i]?).map V.ref else AB) v aB (by rw[gL W.Ds];exact aN ()) (λi key x cp M b2 I ce=>?_) (λM I ck=>?_);intro c9 dd bm bs;obtain⟨y,a,U,cd,rfl,rfl⟩:=gK b2;refine(cp,_,rfl,BB.of ce,rfl,kV (AW (y.1:Int)),[.ref a],rfl,.ref a,[],rfl,rfl,rfl,?_);simp![wipe,kV];by_cases q:y.1=n;rw[AK (by simp[q])];exact bs _ (by rw[U];simp[q]) (λ_ _ e=>e);rw[AJ (by simp;lia)];simp![wipe,kV];exact bm _ _ (by rw[U,cd];simp[q]) (λ_ _ e=>e);refine(I _ _ aB,?_);have B:=jX l.wd I;have a0:L2.upd M r.wd (.dK (Bb (alive st) r.ka)) D=AA (.lst ((Ai (Bb (alive st) r.ka).length).filterMap λi=>((alive st)[i]?).bind λy=>if (y.1 !=n)=AC then(r.ka[i]?).map V.ref else AB)):=by rw[aC R];exact ck
 generalize L2.upd M r.wd (.dK (Bb (alive st) r.ka))=a4 at B a0;have Y:=B _ _ u;refine(.ref t,rfl,t,c.T,d,_,rfl,Y,T.cl,T.Nr,by show 1<1000;decide,?_);have b4:De ("others":Str) (V.ref D) [(AE ("world":Str) (V.ref r.wa))]=Jt r.wa D:=rfl;rw[b4];have co:=l.same B;have a1:AQ [t] a4 (L2.upd a4 t (.ins c.T d (Jt r.wa D))):=AQ.upd (by simp);have a2:=co.ql ab Y a1;have ca:(alive st).length<=r.ka.length:=by rw[W.Ds];exact Au _
 have b0:((alive st).zip r.ka).length=(alive st).length:=by rw[List.length_zip,W.Ds,M3]
 have X:others st n=(((alive st).zip r.ka).filter λz=>z.1.1 !=n).map λz=>z.1:=by
  unfold others
  conv=>lhs;rw[<-List.map_fst_zip ca]
  rw[NG];rfl
 refine k D ((((alive st).zip r.ka).filter λz=>z.1.1 !=n).map λz=>z.2) _ (λb o e aj=>?_) (a2,(d,aB),?_,?_,λj a y ci av=>?_);exact a1 b o (B b o (L b o e aj)) aj;rw[aC bl,a0,Dc,gL W.Ds,<-b0]
 congr 2
 refine gG λi z m=>?_;rw[JC]at m;rw[m.1,m.2];simp;rw[X,AL,AL];rw[X]at av;obtain⟨z,m,rfl⟩:=dN ci;obtain⟨c1,S,rfl⟩:=dN av;rw[m]at S;cases S;have b7:=(EJ.mp (Ar m)).1;have(i,C):=DP b7;rw[JC]at C;obtain⟨p,b6⟩:∃p,r.kp[i]? =AA p:=(_,AX (by rw[W.FV];exact(AY.mp C.1).1));exact(p,a2.ka i _ p _ C.2 b6 C.1)
def JH(f:Nat->Option Nat)(v k:Nat):Nat->Option Nat:=λu=>if u=v then AA k else f u
structure EL(f:Nat->Option Nat)(ks:List Nat)(kvs:List (Key×V)):Prop where
 nd:ks.Nodup
 mem:∀v,v∈ks↔(f v).isSome=AC
 eq:kvs=ks.map λv:Nat=>(AE (AW (v:Int):Key) (nV ((f v).getD 0)))
def EL.val(L:EL f ks b)(v:Nat):A9 b (AW (v:Int))=(f v).map nV:=by
 have key:∀ks:List Nat,A9 (ks.map λv:Nat=>(AE (AW (v:Int):Key) (nV ((f v).getD 0)))) (AW (v:Int))=if v∈ks then AA (nV ((f v).getD 0))else AB:=by
  intro ks;induction ks with
  |nil=>rfl
  |cons a ks c=>
   erw[Ax];by_cases e:a=v;subst e;erw[ed rfl,AJ FK];erw[ee (by intro z;have:=G6 z;lia),c];have:v∈a::ks↔v∈ks:=by simp;intro z;exact absurd z.symm e
   by_cases q:v∈ks;erw[AJ q,AJ (this.mpr q)];erw[AK q,AK (λz=>q (this.mp z))]
 erw[L.eq,key ks];cases e:f v with
 |none=>erw[AK (λz=>by have:=(L.mem v).mp z;rw[e]at this;cases this)];rfl
 |some x=>erw[AJ ((L.mem v).mpr (by erw[e];rfl))];rfl
def EL.nil:EL (λ_=>AB) [] []:=(M8,λv=>by simp,rfl)
def EL.one(c k:Nat):EL (λv=>if v=c then AA k else AB) [c] [(AE (AW (c:Int):Key) (nV k))]:=
 (by simp,λv=>by by_cases e:v=c<;>simp[e],by simp)
def EL.put(L:EL f ks i)(v k:Nat):∃d,EL (JH f v k) d (putK i (AW (v:Int)) (nV k))/\d.length<=ks.length+1/\∀u∈d,u∈ks\/u=v:=by
 have g:=L.val v;cases e:f v with
 |none=>
  have h:v∉ks:=λz=>by have:=(L.mem v).mp z;rw[e]at this;cases this
  refine(ks ++ [v],(?_,λu=>?_,?_),by simp,λu c=>by simpa using c);erw[I0];refine(L.nd,by simp,λa m b l=>?_);erw[Av.mp l];intro z;exact h (by erw[<-z];exact m);unfold JH;by_cases q:u=v;simp[q];erw[AK q,<-L.mem u];simp[q];erw[kK _ (by erw[g,e];rfl),Dd,L.eq]
  congr 1
  refine Kk λu c=>?_;have:u≠v:=λz=>h (by erw[<-z];exact c);unfold JH;erw[AK this];simp[JH]
 |some x=>
  have j:v∈ks:=(L.mem v).mpr (by erw[e];rfl);refine(ks,(L.nd,λu=>?_,?_),by lia,λu c=> .inl c);unfold JH;by_cases q:u=v;erw[AJ q,q];simp[j];erw[AK q];exact L.mem u;unfold putK;erw[gb,g,e,AJ (show (Option.map nV (AA x)).isSome=AC from rfl),L.eq,Dc];refine Kk λu c=>?_;unfold JH;by_cases q:u=v;subst q;simp;have: ¬((AW (u:Int):Key)=AW (v:Int)):=λz=>q (by have:=G6 z;lia);simp[q];intro z;lia
def GO(S:Nat->Nat->Prop)(f:Nat->Option Nat):Prop:=∀v,Min (S v) (f v)
def GO.congr{T:Nat->Nat->Prop}(h:GO S f)(k:∀v x,S v x↔T v x):GO T f:=λv=>(h v).congr (k v)
def GO.put(h:GO S f)(a:∀x,f v0=AA x->k0<=x):GO (λv k=>S v k\/(v=v0/\k=k0)) (JH f v0 k0):=λv=>by
 unfold JH;by_cases q:v=v0;erw[AJ q];exact((h v).put (y:=k0) (λx e=>a x (by erw[<-q];exact e))).congr λk=>by simp[q]
 erw[AK q];exact(h v).congr λk=>by simp[q]
def GO.stay(h:GO S f)(e:f v0=AA x)(b:x<=k0):GO (λv k=>S v k\/(v=v0/\k=k0)) f:=λv=>by
 by_cases q:v=v0;have a:=h v;rw[q,e]at a;erw[q,e];exact(a.stay b).congr λk=>by simp
 exact(h v).congr λk=>by simp[q]
def GP(g:Aw)(f:Nat->Option Nat)(bar:Nat->Bool)(cr:Nat->Nat->Bool)(a:List Nat)(v k:Nat):Prop:=
 bar v=AF/\((v∈a/\∃x,f v=AA x/\k=x - 1)\/∃u w,u∈a/\f u=AA 0/\Ab g u v=AA w/\cr u v=AF/\k=w - 1)
def qa{f:Nat->Option Nat}{ks:List Nat}(n:ks[i]? =AA u)(l:f u=AA x)(v k:Nat):
  GP g f bar cr (ks.take (i+1)) v k↔GP g f bar cr (ks.take i) v k\/(v=u/\bar u=AF/\k=x - 1)\/(x=0/\∃w,Ab g u v=AA w/\bar v=AF/\cr u v=AF/\k=w - 1):=by
 have e:ks.take (i+1)=ks.take i ++ [u]:=by erw[Iz,n];rfl
 unfold GP;erw[e];constructor;rintro⟨c,⟨a,y,d,b⟩ | ⟨m,w,a,d,b,j,h⟩⟩;rcases Az.mp a with a|a;exact .inl (c,.inl (a,y,d,b));have:=Av.mp a;subst this;rw[l]at d;cases d;exact .inr (.inl (rfl,c,b));rcases Az.mp a with a|a;exact .inl (c,.inr (m,w,a,d,b,j,h));have:=Av.mp a;subst this;rw[l]at d;cases d;exact .inr (.inr (rfl,w,b,c,j,h));rintro(⟨c,⟨a,y,d,b⟩ | ⟨m,w,a,d,b,j,h⟩⟩ | ⟨rfl,c,b⟩ | ⟨rfl,w,b,c,j,h⟩);exact(c,.inl (FP _ a,y,d,b));exact(c,.inr (m,w,FP _ a,d,b,j,h));exact(c,.inl (by simp,x,l,b));exact(c,.inr (u,w,by simp,l,b,j,h))
structure Ij(mg:Str->Option AI):Prop where
 IG:mg "max"=AB
 GJ:mg "min"=AB
 C2:mg "len"=AB
 Qy:mg "sum"=AB
 Df:mg "range"=AB
 Gx:mg "list"=AB
 K6:mg "reversed"=AB
 Q0:mg "dict"=AB
 Gy:mg "enumerate"=AB
 Qq:GI mg "LATEST_REST" 100
 Ql:GI mg "NOT_WHERE_IT_IS" 1
 Qj:GI mg "NO_STEP" 2
 Qe:GI mg "TOO_SOON" 3
 Qc:GI mg "WALL_OR_SHUT" 4
 Qg:GI mg "TAKEN" 5
 Qw:GI mg "CROSSED" 6
 Qk:GI mg "NO_REST" 7
def Vt(H:Hp)(p:AD)(bar:Nat->Bool):Prop:=∃a,H p=AA (.dK a)/\∀v:Nat,(A9 a (AW (v:Int))).isSome=bar v
def Vr(H:Hp)(p:AD)(cr:Nat->Nat->Bool):Prop:=∃a:List (List Key×V),H p=AA (.dT a)/\∀u v:Nat,(A9 a [AW (u:Int),AW (v:Int)]).isSome=cr u v
inductive P2(C:AD)(vs:List V)(H:Hp)(Q:VK)(E:XK):Prop
 |mk:∀a g pc ph ps sa pp pb px f ks kvs bar cr,vs=[.ref a,.ref pp,.ref pb,.ref px]->El C H a g pc ph ps sa->H pp=AA (.dK kvs)->EL f ks kvs->(∀v∈ks,v<AG g)->Vt H pb bar->pb≠pp->Vr H px cr->(∀q f' ks' kvs' H',AH H H'->H q=AB->H' q=AA (.dK kvs')->EL f' ks' kvs'->(∀v∈ks',v<AG g)->GO (GP g f bar cr ks) f'->Q (.ref q) H')->P2 C vs H Q E
structure Zb(H:Hp)(a pp pb px q:AD)(g:Aw)(f:Nat->Option Nat)(bar:Nat->Bool)(cr:Nat->Nat->Bool)(ks:List Nat)(S:Nat->Nat->Prop)(σ:L2.St)(H':Hp):Prop where
 ex:∃x y z u w:Option V,σ=[AA (.ref a),AA (.ref pp),AA (.ref pb),AA (.ref px),AA (.ref q),x,y,z,u,w]
 same:AH H H'
 lay:∃fa ka kvs,H' q=AA (.dK kvs)/\EL fa ka kvs/\(∀v∈ka,v<AG g)/\GO S fa
structure Q9(H:Hp)(a pp pb px q:AD)(g:Aw)(u:Nat)(S:Nat->Nat->Prop)(σ:L2.St)(H':Hp):Prop where
 ex:∃y z:Option V,σ=[AA (.ref a),AA (.ref pp),AA (.ref pb),AA (.ref px),AA (.ref q),AA (nV u),AA (nV 0),AA (nV 0),y,z]
 same:AH H H'
 lay:∃fa ka kvs,H' q=AA (.dK kvs)/\EL fa ka kvs/\(∀v∈ka,v<AG g)/\GO S fa
def p8{ks:List Nat}(b:ks.Nodup)(a:∀v∈ks,v<n):ks.length<=n:=kj n ks b a
def vA(hp:Ag ej "places_after" "places_after" UJ hh fd)(T:Ij mg)(e6:Dx ej mg C):AV ix w ej mg base AZ 1 hh fd ["land","places","barred","crossed"] (P2 C):=by
 exists hp.go ["land","places","barred","crossed","after","cell","left","stayed","near","step"],iv,hy,g1;obtain⟨a,g,pc,ph,ps,sa,l,r,G,f,ks,B,bar,cr,rfl,L,ab,ei,g3,⟨bk,ha,ey⟩,f6,⟨ih,ds,g8⟩,k⟩:=h;have M:=eC g1;refine(_,(aE (aS 4 jM) (aE (kM (dg D0 rfl (kW (pv 1)) (eP rfl (dX (aa 5) (dX (aa 6) eO))) (aE (aS 7 (bD (jq rfl) (by rfl) T.IG boot_max (aA aG (aA (aV dQ (pv 6) aG) aD)))) (aE (aX (PW.pt (fY (fK (jO M (pv 5) (pv 2))) (fX (PW.pt (eh (fK (jO M (pv 5) (pv 4))) (fI (aW eS (pv 7) (fC M (pv 4) (pv 5) (λ_ _=>rfl)) (aU _)))))))) (aF (jJ M (pv 4) (pv 5) (pv 7) rfl)) aZ) (aE (aX (aW f9 (pv 6) aG (aU _)) (aF oC) aZ) (aF (dg D0 rfl (dP (aJ aL (aH (pv 0)) (pv 5))) (eP rfl (dX (aa 8) (dX (aa 9) eO))) (aE (aX (PW.pt (eh (fK (iL M (pv 8) (pv 2))) (fI (fK (iL M (fB (aA (pv 5) (aA (pv 8) aD))) (pv 3)))))) (aF oC) aZ) (aF (aX (PW.pt (eh (fK (jO M (pv 8) (pv 4))) (fI (aW eS (aV dQ (pv 9) aG) (fC M (pv 4) (pv 8) (λ_ _=>rfl)) (aU _))))) (aF (jJ M (pv 4) (pv 8) (aV dQ (pv 9) aG) rfl)) aZ)))))))))) (aF (aI (pv 4))))),?_);have(hm,fs,c0,h6,h5,h0,hz,m1,_):=L.b.ins;have h9:=L.b.few;exists N,eb;intro q cp;subst eb;simp![];exists N,eb;have cm:l≠q:=aT ab cp;refine(l,.dK B,by rw[aC cm];exact ab,trivial,λJ=>?_);have ec:L2.upd H l (.BA J (.dK B)) q=AB:=by rw[aC cm.symm];exact cp
 have start:AH (L2.upd H l (.BA J (.dK B))) (L2.upd (L2.upd H q (.dK [])) l (.BA J (.dK B))):=λb o e=>by
  by_cases z:b=l;subst z;rw[aB]at e|-;exact e;rw[aC z]at e|-;rw[aC (λfq=>by rw[fq,cp]at e;cases e)];exact e
 have f3:L2.upd (L2.upd H q (.dK [])) l (.BA J (.dK B)) q=AA (.dK []):=by rw[aC cm.symm,aB]
 have a2:∀b o,H b=AA o->b≠l->L2.upd H l (.BA J (.dK B)) b=AA o:=λb o e z=>by rw[aC z];exact e
 have c7:L2.upd H l (.BA J (.dK B)) l=AA (.BA J (.dK B)):=aB;have back:∀ek,AH (L2.upd H l (.BA J (.dK B))) ek->AH H (L2.upd ek l (.dK B)):=λek f4=>jX ab f4;generalize L2.upd H l (.BA J (.dK B))=X at ec start a2 c7 back;have g6:=a2 _ _ c0 (λz=>by rw[z,ab]at c0;cases c0);have ez:=a2 _ _ ha f6;have go:=a2 _ _ ds (λz=>by rw[z,ab]at ds;cases ds);have dp:∀b xs,H b=AA (.lst xs)->X b=AA (.lst xs):=λb xs e=>a2 _ _ e (λz=>by rw[z,ab]at e;cases e);have ge:∀b xs,H b=AA (.tup xs)->X b=AA (.tup xs):=λb xs e=>a2 _ _ e (λz=>by rw[z,ab]at e;cases e);have g0:=dp _ _ L.steps;refine(.ref l,rfl,l,J,B,rfl,start _ _ c7,?_);refine pq (Pv:=λi=>Zb X a l r G q g f bar cr ks (GP g f bar cr (ks.take i))) ?_ ?_ ?_ ?_;exact((_,_,_,_,_,rfl),start,_,_,_,f3,EL.nil,λv h=>by simp at h,λv=>Min.none λk g4=>by
  rcases g4.2 with⟨h,_⟩ | ⟨u,_,h,_⟩<;>simp at h)
 exact λi b1 av I=>I.same _ _ c7
 ·rintro i key hs b0 b1 av el ⟨⟨fz,fy,fx,dm,dd,rfl⟩,ci,fa,ka,Z,c6,R,a4,bl⟩ ea;rw[ei.eq]at el;have(u,d3,e):=dN el;cases e;have ep:=Ar d3;have eo:=g3 u ep;have(x,d6):=HB.mp ((ei.mem u).mp ep);have g7:(f u).getD 0=x:=by rw[d6];rfl
  rw[g7];have h8:b0≠q:=λz=>by rw[z,c6]at ea;cases ea
  have S:AH av (L2.upd av b0 (.tup [kV (AW (u:Int)),nV x])):=AH.upd ea;have e1:L2.upd av b0 (.tup [kV (AW (u:Int)),nV x]) b0=AA (.tup [kV (AW (u:Int)),nV x]):=aB;generalize L2.upd av b0 (.tup [kV (AW (u:Int)),nV x])=c9 at S e1;have f5:=S;have S:=ci.trans S;have a6:c9 q=AA (.dK Z):=f5 _ _ c6;refine(b0,_,rfl,BB.of e1,rfl,kV (AW (u:Int)),[nV x],rfl,nV x,[],rfl,rfl,?_);exists i3,hg;simp![kV];have hj:(if ((x:Int) - 1)>0 then((x:Int) - 1)else 0)=((x - 1:Nat):Int):=by split<;>lia
  rw[hj];subst hg;exists e7,hf;have rest:∀c8 ca b5 b4,AH X c8->c8 q=AA (.dK b4)->EL ca b5 b4->(∀v∈b5,v<AG g)->GO (λv k=>GP g f bar cr (ks.take i) v k\/(v=u/\bar u=AF/\k=x - 1)) ca->
    e7 [AA (.ref a),AA (.ref l),AA (.ref r),AA (.ref G),AA (.ref q),AA (nV u),AA (nV x),AA (nV (x - 1)),dm,dd] c8:=by
   intro c8 ca b5 b4 b2 e2 e8 et e4;subst hf;exists i2,he;simp![];refine ak (λc=>?_) (λc=>?_);have en:0<x:=by have:=DT c;lia
   refine((_,_,_,_,_,rfl),b2,ca,b5,b4,e2,e8,et,e4.congr λv k=>?_);rw[qa d3 d6];constructor;rintro(h|h);exact .inl h;exact .inr (.inl h);rintro(h|h| ⟨h,_⟩);exact .inl h;exact .inr h;lia
   ·have en:x=0:=by
     rcases Sc x with h|h;exact h;exact absurd (BH (by lia:(0:Int)<(x:Int))) c
    subst en;subst he;obtain⟨bm,ew⟩:∃bm,sa[u]? =AA bm:=(_,AX (by rw[L.len];exact eo));have(f2,eq,d4):=L.each u bm ew;refine(.ref a,rfl,a,C,hm,fs,.ref ps,rfl,b2 _ _ g6,e6.cl,e6.JK,L.fld _ _ c0,nV u,rfl,ps,sa.map V.ref,(u:Int),.ref bm,rfl,rfl,b2 _ _ g0,by rw[aM,BC,ew];rfl,bm,rfl,(_,AN.of (b2 _ _ (dp _ _ eq))),?_);refine fS (K:=ej) (a:=bm) (xs:=f2.map V.ref) (λj=>Q9 X a l r G q g u (λv k=>(GP g f bar cr (ks.take i) v k\/(v=u/\bar u=AF/\k=0 - 1))\/∃w,(AE v w)∈(DE g u).take j/\bar v=AF/\cr u v=AF/\k=w - 1)) ?_ (λj b1 an _ I=>AN.of (I.same _ _ (dp _ _ eq))) ?_ ?_;exact((_,_,rfl),b2,ca,b5,b4,e2,e8,et,e4.congr λv k=>by simp)
    ·rintro j v0 b1 an d2 ⟨⟨fr,fj,rfl⟩,a1,a5,co,Y,c5,O,a3,cd⟩;obtain⟨t,er,rfl⟩:=dN d2;have g5:j<(DE g u).length:=by rw[<-d4.1];exact(AY.mp er).1
     obtain⟨⟨v,m⟩,d1⟩:∃f1,(DE g u)[j]? =AA f1:=(_,AX g5);have gv:=a1 _ _ (ge _ _ (d4.2 j t _ er d1));have es:Ab g u v=AA m:=eJ.mp (Ar d1);have gr:=(eI es).2;have h7:=step_pos es;have b3:∀d p,(AE d p)∈(DE g u).take (j+1)↔(AE d p)∈(DE g u).take j\/(d=v/\p=m):=λd p=>by rw[take_snoc d1,Az];simp
     refine(t,[nV v,nV m],rfl,BB.of gv,rfl,nV v,[nV m],rfl,nV m,[],rfl,rfl,?_);exists i1,hc;refine(nV v,rfl,.ref r,rfl,r,_,rfl,DV.k (k:=AW (v:Int)) (a1 _ _ ez),_,rfl,?_);rw[ey];have skip:∀aj,AH X aj->aj q=AA (.dK Y)->(bar v=AC\/cr u v=AC)->Q9 X a l r G q g u (λv k=>(GP g f bar cr (ks.take i) v k\/(v=u/\bar u=AF/\k=0 - 1))\/∃w,(AE v w)∈(DE g u).take (j+1)/\bar v=AF/\cr u v=AF/\k=w - 1)
       [AA (.ref a),AA (.ref l),AA (.ref r),AA (.ref G),AA (.ref q),AA (nV u),AA (nV 0),AA (nV 0),AA (nV v),AA (nV m)] aj:=λaj a0 U g2=>by
      refine((_,_,rfl),a0,a5,co,Y,U,O,a3,cd.congr λd D=>or_congr_right (λ(p,c,n)=>(p,(b3 _ _).mpr (.inl c),n),λfe=>?_));have(p,c,n,b7,c4):=fe;rcases (b3 _ _).mp c with h| ⟨rfl,rfl⟩;exact(p,h,n,b7,c4);rcases g2 with h|h;rw[h]at n;cases n;rw[h]at b7;cases b7
     cases ev:bar v with
     |true=>exact skip an a1 c5 (.inl ev)
     |false=>
      refine(nV u,rfl,nV v,rfl,aN (by show 2<=100000;lia),λce gw=>?_);have dn:AH an (L2.upd an ce (.tup [nV u,nV v])):=AH.upd gw;have e3:L2.upd an ce (.tup [nV u,nV v]) ce=AA (.tup [nV u,nV v]):=aB;generalize L2.upd an ce (.tup [nV u,nV v])=aj at dn e3;have a0:=a1.trans dn;have U:=dn _ _ c5;refine(.ref G,rfl,G,_,rfl,DV.t (k:=[AW (u:Int),AW (v:Int)]) (a0 _ _ go) e3,_,rfl,?_);rw[g8];cases eu:cr u v with
      |true=>exact skip aj a0 U (.inr eu)
      |false=>
       subst hc;have hl:V.int ((m:Int) - 1)=nV (m - 1):=congrArg V.int ();have e5:∀ef:Nat->Nat->Prop,(∀d D,ef d D↔((GP g f bar cr (ks.take i) d D\/(d=u/\bar u=AF/\D=0 - 1))\/∃w,(AE d w)∈(DE g u).take j/\bar d=AF/\cr u d=AF/\D=w - 1)\/(d=v/\D=m - 1))->
         ∀d D,ef d D↔(GP g f bar cr (ks.take i) d D\/(d=u/\bar u=AF/\D=0 - 1))\/∃w,(AE d w)∈(DE g u).take (j+1)/\bar d=AF/\cr u d=AF/\D=w - 1:=λef h d D=>by
        rw[h,or_assoc];refine or_congr_right (?_,?_);rintro(⟨p,c,n⟩ | ⟨rfl,n⟩);exact(p,(b3 _ _).mpr (.inl c),n);exact(m,(b3 _ _).mpr (.inr (rfl,rfl)),ev,eu,n);intro(p,c,n,b7,c4);rcases (b3 _ _).mp c with h| ⟨rfl,rfl⟩;exact .inl (p,h,n,b7,c4);exact .inr (rfl,c4)
       have b6:Y.length<Ae:=by rw[O.eq,AL];exact dS (by have:=p8 O.nd a3;lia)
       have put:(∀y,a5 v=AA y->m - 1<=y)->Q9 X a l r G q g u (λv k=>(GP g f bar cr (ks.take i) v k\/(v=u/\bar u=AF/\k=0 - 1))\/∃w,(AE v w)∈(DE g u).take (j+1)/\bar v=AF/\cr u v=AF/\k=w - 1)
         [AA (.ref a),AA (.ref l),AA (.ref r),AA (.ref G),AA (.ref q),AA (nV u),AA (nV 0),AA (nV 0),AA (nV v),AA (nV m)] (L2.upd aj q (.dK (putK Y (AW (v:Int)) (V.int ((m:Int) - 1))))):=λc=>by
        have(gg,hn,_,d5):=O.put v (m - 1);refine((_,_,rfl),λb o e=>?_,_,gg,_,by rw[aB,hl],hn,λd gs=>?_,(cd.put (k0:=m - 1) c).congr (e5 _ λ_ _=>Iff.rfl));rw[aC (aT e ec)];exact a0 b o e;rcases d5 d gs with h|h;exact a3 d h;rw[h];exact gr
       refine(nV v,rfl,.ref q,rfl,q,_,rfl,DV.k (k:=AW (v:Int)) U,_,rfl,?_);rw[O.val v];cases c1:a5 v with
       |none=>exact(nV m,rfl,_,_,rfl,rfl,.ref q,rfl,nV v,rfl,q,_,rfl,HY.k (k:=AW (v:Int)) U b6,put (λy h=>by rw[c1]at h;cases h))
       |some y=>
        refine(nV m,rfl,_,_,rfl,rfl,.ref q,rfl,nV v,rfl,q,nV y,rfl,?_,_,_,rfl,rfl,_,rfl,?_);have:=DV.k (k:=AW (v:Int)) U;rw[O.val v,c1]at this;exact this;refine ak (λc=>?_) (λc=>?_);have:=DT c;exact(nV m,rfl,_,_,rfl,rfl,.ref q,rfl,nV v,rfl,q,_,rfl,HY.k (k:=AW (v:Int)) U b6,put (λz h=>by rw[c1]at h;cases h;lia));refine((_,_,rfl),a0,a5,co,Y,U,O,a3,(cd.stay (k0:=m - 1) c1 ?_).congr (e5 _ λ_ _=>Iff.rfl));refine Oz λz=>c (BH ?_);lia
    rintro b1 an ⟨⟨fr,fj,rfl⟩,a1,a5,co,Y,c5,O,a3,cd⟩;refine((_,_,_,_,_,rfl),a1,a5,co,Y,c5,O,a3,cd.congr λv k=>?_);rw[qa d3 d6,AL,d4.1,EI];constructor;rintro((h|h) | ⟨p,c,n⟩);exact .inl h;exact .inr (.inl h);exact .inr (.inr (rfl,p,eJ.mp c,n));rintro(h|h| ⟨_,p,c,n⟩);exact .inl (.inl h);exact .inl (.inr h);exact .inr (p,eJ.mpr c,n)
  have b6:Z.length<Ae:=by rw[R.eq,AL];exact dS (by have:=p8 R.nd a4;lia)
  have put:(∀y,fa u=AA y->x - 1<=y)->bar u=AF->e7 [AA (.ref a),AA (.ref l),AA (.ref r),AA (.ref G),AA (.ref q),AA (nV u),AA (nV x),AA (nV (x - 1)),dm,dd] (L2.upd c9 q (.dK (putK Z (AW (u:Int)) (nV (x - 1))))):=λc n=>by
   have(gi,ho,_,d5):=R.put u (x - 1);refine rest _ _ gi _ (λb o e=>?_) aB ho (λv d2=>?_) ((bl.put (k0:=x - 1) c).congr λv k=>by simp[n]);rw[aC (aT e ec)];exact S b o e;rcases d5 v d2 with h|h;exact a4 v h;rw[h];exact eo
  refine(nV u,rfl,.ref r,rfl,r,_,rfl,DV.k (k:=AW (u:Int)) (S _ _ ez),_,rfl,?_);rw[ey];cases c3:bar u with
  |true=>exact rest c9 fa ka Z S a6 R a4 (bl.congr λv k=>by simp[c3])
  |false=>
   refine(nV u,rfl,.ref q,rfl,q,_,rfl,DV.k (k:=AW (u:Int)) a6,_,rfl,?_);rw[R.val u];cases c2:fa u with
   |none=>exact(nV (x - 1),rfl,.ref q,rfl,nV u,rfl,q,_,rfl,HY.k (k:=AW (u:Int)) a6 b6,put (λy h=>by rw[c2]at h;cases h) c3)
   |some y=>
    refine(nV (x - 1),rfl,.ref q,rfl,nV u,rfl,q,nV y,rfl,?_,_,_,rfl,rfl,_,rfl,?_);have:=DV.k (k:=AW (u:Int)) a6;rw[R.val u,c2]at this;exact this;refine ak (λc=>?_) (λc=>?_);have:=DT c;exact(nV (x - 1),rfl,.ref q,rfl,nV u,rfl,q,_,rfl,HY.k (k:=AW (u:Int)) a6 b6,put (λz h=>by rw[c2]at h;cases h;lia) c3);refine rest c9 fa ka Z S a6 R a4 ((bl.stay (k0:=x - 1) c2 ?_).congr λv k=>by simp[c3]);refine Oz λz=>c (BH ?_);lia
 rintro b1 av ⟨⟨fz,fy,fx,dm,dd,rfl⟩,ci,fa,ka,Z,c6,R,a4,bl⟩;rw[ei.eq,AL,EI]at bl;refine(ci _ _ c7,?_);subst eb;refine(.ref q,rfl,?_);exact k q fa ka Z _ (back av ci) cp (by rw[aC cm.symm];exact c6) R a4 bl
def TR:Sp:=λvs H Q _=>(∃p,∃ns:List Nat,vs=[.ref p]/\H p=AA (.lst (ns.map nV))/\ns.length<=1000/\∀q a,H q=AB->AH H a->Vt a q (λv=>ns.contains v)->Q (.ref q) a)\/
 ∃p b,∃l:List (Nat×Nat),vs=[.ref p]/\H p=AA (.lst (b.map V.ref))/\FF H b l/\l.length<=1000/\∀q a,H q=AB->AH H a->Vr a q (λu v=>l.contains (AE u v))->Q (.ref q) a
structure zy(H:Hp)(xs:List V)(D:AD)(i:Nat)(H':Hp):Prop where
 ex:∃ts:List AD,AH H H'/\H' D=AA (.lst (ts.map V.ref))/\ts.length=i/\∀(j:Nat) (t:AD) (x:V),ts[j]? =AA t->xs[j]? =AA x->H' t=AA (.tup [x,.bl AC])
def oS{R:d->c->Prop}:∀(xs:List d) (ys:List c),xs.length=ys.length->(∀(j:Nat) (x:d) (y:c),xs[j]? =AA x->ys[j]? =AA y->R x y)->Hi R xs ys
 | [],[],_,_=> .nil
 | [],_::_,h,_=>by simp at h
 | _::_,[],h,_=>by simp at h
 |x::xs,y::ys,h,k=> .cons (k 0 x y rfl rfl) (oS xs ys (by simpa using h) λj a b f e=>k (j+1) a b (by simpa using f) (by simpa using e))
def v2(b0:Ag aj "as_keys" "as_keys" U2 bs fd)(T:Ij mg):AV b5 w aj mg base AZ 1 bs fd ["values"] TR:=by
 exists b0.go ["values","value"],b4,a4,bl;obtain⟨p,xs,rfl,B,b2,fin⟩:∃p xs,vs=[.ref p]/\H p=AA (.lst xs)/\xs.length<=1000/\∀(D:AD) (c:List AD) (C:Hp),H D=AB->AH H C->C D=AA (.lst (c.map V.ref))->c.length=xs.length->(∀(j:Nat) (t:AD) (x:V),c[j]? =AA t->xs[j]? =AA x->C t=AA (.tup [x,.bl AC]))->VB aj [.ref D] C Q:=by
  rcases h with⟨p,ns,rfl,B,Z,k⟩ | ⟨p,an,l,rfl,B,L,Z,k⟩;refine(p,_,rfl,B,by rw[AL];exact Z,λD c C I m ab X g=> .inl (D,c,ns.map λn:Nat=>(AE (AW (n:Int):Key) (V.bl AC)),rfl,AN.of ab,oS _ _ (by rw[X,AL,AL]) λj t b1 d f=>?_,λq G=>?_));obtain⟨n,U,rfl⟩:=dN f;exact BB.of (g j t _ d (by rw[BC,U];rfl));refine k q _ (m.free G) (m.trans (AH.upd G)) (_,aB,λv=>?_);rw[mY,md,Wg,NJ,Gp,DQ,Eo,Ft];constructor;intro(n,U,e);have N:=G6 (DT e);have:n=v:=by lia
  rw[<-this];exact U;exact λh=>(v,h,BH rfl);refine(p,_,rfl,B,by rw[AL,L.1];exact Z,λD c C I m ab X g=> .inr (D,c,(an.zip l).map λz:AD×Nat×Nat=>(AE [(AW (z.2.1:Int):Key),AW (z.2.2:Int)] z.1),rfl,ab,by rw[X,AL,AL,List.length_zip,L.1,M3],λj t q d f=>?_,λq G=>?_));obtain⟨z,r,rfl⟩:=dN f;rw[JC]at r;have bm:=L.2 j _ _ r.1 r.2;exact(g j t _ d (by rw[BC,r.1];rfl),m _ _ bm);refine k q _ (m.free G) (m.trans (AH.upd G)) (_,aB,λu v=>?_);rw[mX,md,Wg,NJ,Gp,DQ,Eo,Ft];constructor;intro(z,r,e);have N:=DT e;have a5:=(M7 r).2;simp only[B3,B2]at N;have d:=G6 N.1;have f:=G6 N.2;have:z.2=(AE u v):=Mz (by show z.2.1=u;lia) (by show z.2.2=v;lia);rw[<-this];exact a5;intro h;have(j,M):=DP h;obtain⟨t,a6⟩:∃t,an[j]? =AA t:=(_,AX (by rw[L.1];exact(AY.mp M).1));exact((AE t (AE u v)),Ar (JC.mpr (a6,M)),BH rfl)
 refine(_,(aF (aI (oQ (yr rfl bl.units) (by rfl) T.Q0 boot_dict (aA (dk rfl a4 (dP (pv 0)) (own:=[(AE ("value") 1)]) (dO (by kernel_rfl)) (λ_ _ _ _ _=>(aa 1)) (λ_ _ _ _ _=>dv) (λ_ _ _ _ _=>(fB (aA (pv 1) (aA f7 aD))))) aD)))),?_);refine(.ref p,rfl,p,rfl,(_,AN.of B),λD I=>?_);refine ja (K:=aj) (a:=p) (xs:=xs) (zy H xs D) ([],AH.upd I,aB,rfl,λj t x h=>by simp at h) (λi b6 _ (c,a3,_)=>AN.of (a3 _ _ B)) ?_ ?_;intro i x O a1 (c,S,J,Y,g);have b3:=(AY.mp a1).1;refine(rfl,?_);unfold Er;dsimp only;rw[AJ rfl];refine(x,rfl,aN (by show 2<=100000;lia),λR a2=>?_);have a0:D≠R:=aT J a2;have av:AH O (L2.upd O R (.tup [x,.bl AC])):=AH.upd a2;refine(_,by rw[aC a0];exact J,by rw[AL];exact dS (),c ++ [R],?_,?_,?_,?_);exact λb o e=>by
  rw[aC (aT e I)];exact av b o (S b o e)
 rw[aB,Dd];rfl;rw[BZ,Y];rfl;intro j t y d f;by_cases M:j<c.length;rw[F9 M]at d;have:=g j t y d f;rw[aC (λz=>by rw[z,J]at this;cases this)];exact av _ _ this;rw[F8 ()]at d;have z:j - c.length=0:=by have:=(AY.mp d).1;simp at this;lia
 rw[z]at d;cases d;have:j=i:=by lia
 subst this;rw[a1]at f;cases f;rw[aC a0.symm,aB];intro O (c,S,J,Y,g);exact fin D c O I S J Y g
def k6(O:Dn s)(c:s.ground=AA g):v∈Fc s n a↔freeAt (Ac s n) v (s.now+a)=AF:=by
 unfold Fc freeAt;erw[kg,Du,PV,List.all_eq_false];constructor;intro(y,b,e);have W:=f8 O c y b;refine(y,b,?_);show ¬(Dy y.2.plan (s.now+a) !=v)=AC;erw[<-W.begun,eG W.path.ne,e];simp;intro(y,b,e);have W:=f8 O c y b;refine(y,b,?_);have d: ¬(Dy y.2.plan (s.now+a) !=v)=AC:=e;rw[<-W.begun,eG W.path.ne]at d;simpa using d
def wZ(O:Dn s)(d:s.ground=AA g):(AE u v)∈Fi s n a↔EA (Ac s n) u v (s.now+a)=AC:=by
 unfold Fi EA;erw[kg,Du,Gp,Eo];constructor;intro(y,b,e);have W:=f8 O d y b;cases e;refine(y,b,?_);show (Dy y.2.plan (s.now+a)==_ && Dy y.2.plan (s.now+a+1)==_)=AC;erw[LZ,<-W.begun,eG W.path.ne,eG W.path.ne];simp;intro(y,b,e);have W:=f8 O d y b;refine(y,b,?_);have c:(Dy y.2.plan (s.now+a)==v && Dy y.2.plan (s.now+a+1)==u)=AC:=e;rw[LZ,<-W.begun,eG W.path.ne,eG W.path.ne,DN,Hb,Hb]at c;erw[c.1,c.2]
def jk(O:Dn s)(b:s.ground=AA g):(Fi s n a).contains (AE u v)=EA (Ac s n) u v (s.now+a):=by
 erw[DQ,Ft,wZ O b]
def jr(O:Dn s)(c:s.ground=AA g)(b:An g v=AC):(HI g (s.now+ (a+1)) ++ Fc s n (a+1)).contains v= !EZ g (Ac s n) v (s.now+a+1):=by
 unfold EZ;erw[b,Fu,DQ,Ft,Az,k6 O c,Gq,Bool.and_eq_false_iff,LZ];unfold HI;erw[EJ,EC,Gq];constructor;rintro(⟨_,h⟩ |h);exact .inl h;exact .inr h;rintro(h|h);exact .inl (gh b,h);exact .inr h
def yc(O:Dn s)(f:s.ground=AA g)(j:HV g l)(m:∀v,v∈ks↔(at_ l v).isSome=AC)(v k:Nat):
  GP g (at_ l) (λv=>(HI g (s.now+ (a+1)) ++ Fc s n (a+1)).contains v) (λu v=>(Fi s n a).contains (AE u v)) ks v k↔OH g (Ac s n) (s.now+a) l v k:=by
 unfold GP OH;dsimp only;constructor;rintro⟨e,⟨o,x,b,c⟩ | ⟨u,w,o,b,c,h,i⟩⟩;have d:=j.st v x b;rw[jr O f d,PY]at e;exact(e,.inl (x,b,c));have d:An g v=AC:=by have:=(dq c).2.1;unfold An;simpa using this
 rw[jr O f d,PY]at e;rw[jk O f]at h;exact(e,.inr (u,w,b,c,h,i));rintro⟨e,⟨x,b,c⟩ | ⟨u,w,b,c,h,i⟩⟩;have d:=j.st v x b;erw[jr O f d,PY];exact(e,.inl ((m v).mpr (by erw[b];rfl),x,b,c));have d:An g v=AC:=by have:=(dq c).2.1;unfold An;simpa using this
 erw[jr O f d,PY];exact(e,.inr (u,w,(m u).mpr (by erw[b];rfl),b,c,by erw[jk O f];exact h,i))
def lay_next(O:Dn s)(d:s.ground=AA g)(h:HV g l)(i:∀v,v∈ks↔(at_ l v).isSome=AC)(m:EL b f o)(k:∀v∈f,v<AG g)(j:GO (GP g (at_ l) (λv=>(HI g (s.now+ (a+1)) ++ Fc s n (a+1)).contains v) (λu v=>(Fi s n a).contains (AE u v)) ks) b):b=at_ (ER g (Ac s n) (s.now+a) l):=by
 funext v;by_cases c:v<AG g;exact((j v).congr (yc O d h i v)).uniq (lJ (O.Ej g d).wide c);erw[eY (by erw[iZ];lia)];cases e:b v with
 |none=>rfl
 |some x=>exact absurd (k v ((m.mem v).mpr (by erw[e];rfl))) c
inductive P5(c:Cs)(vs:List V)(H:Hp)(Q:VK)(E:XK):Prop
 |mk:∀r s g n t ol os pp l ks kvs a,vs=[.ref r.wa,.ref t,.ref pp,nV a]->GK c H t r s g n ol os->H pp=AA (.dK kvs)->EL (at_ l) ks kvs->HV g l->(∀q ks' kvs' H',AH H H'->H q=AB->H' q=AA (.dK kvs')->EL (at_ (ER g (Ac s n) (s.now+a) l)) ks' kvs'->Q (.ref q) H')->P5 c vs H Q E
def wv(h:HV g l)(L:EL (at_ l) ks c):∀v∈ks,v<AG g:=λv b=>by
 have(x,a):=HB.mp ((L.mem v).mp b);have:=dY a;rw[h.len]at this;exact this
def vE(cr:Ag b "next_places" "next_places" UN b6 fd)(R:DO b mg c.W)(T:A8 f w b mg base 3 "as_keys" ["values"] TR)(c1:A8 f w b mg base 3 "places_after" ["land","places","barred","crossed"] (P2 c.L))(c3:A6 f w b mg base 3 c.T "cells_shut" ["self","ahead"] (QL c))(c2:A6 f w b mg base 3 c.T "cells_taken" ["self","ahead"] (Nd c))(c0:A6 f w b mg base 3 c.T "steps_crossed" ["self","ahead"] (Ll c)):
  AV f w b mg base AZ 4 b6 fd ["world","traffic","places","ahead"] (P5 c):=by
 exists cr.go ["world","traffic","places","ahead","barred"],d4,c6,d;obtain⟨r,st,g,n,t,ol,os,av,l,ks,a3,a,rfl,TT,I,y,M,k⟩:=h;refine(_,(aE (aS 4 (ag T d rfl (aA (aV gp (ae (pv 1) c3 d (aA (aV dG (pv 3) aG) aD)) (ae (pv 1) c2 d (aA (aV dG (pv 3) aG) aD))) aD))) (aF (aI (ag c1 d rfl (aA (aH (pv 0)) (aA (pv 2) (aA (pv 4) (aA (ag T d rfl (aA (ae (pv 1) c0 d (aA (pv 3) aD)) aD)) aD)))))))),?_);have(d3,b0):=TT.ins;have O:=TT.w.ok;have b1:=TT.w.gr;have dn:=TT.w.land.s.b.few;have dm:(others st n).length<=6:=Dj (Fq _ _) (Dj gY O.GB);exists N,b5;simp![b0,fu (wa:=r.wa) (ol:=ol) (x:="cells_shut") (by decide +kernel) (by decide +kernel)];refine(t,r,st,g,n,ol,os,a+1,rfl,TT,λc5 eb dd o ce=>?_);have S:=TT.same o;have(d2,bs):=S.ins;simp![bs,fu (wa:=r.wa) (ol:=ol) (x:="cells_taken") (by decide +kernel) (by decide +kernel)];refine(t,r,st,g,n,ol,os,a+1,rfl,S,λc4 ea c9 m cd=>?_);simp![m _ _ ce,cd];have L:(HI g (st.now+ (a+1)) ++ Fc st n (a+1)).length<=1000:=by
  rw[BZ];unfold Fc;rw[AL];have:(HI g (st.now+ (a+1))).length<=AG g:=by unfold HI;exact Dj (Fq _ _) (by rw[DS];exact Au _)
  lia
 refine(aN (by rw[BZ]at L;rw[AL,AL];lia),λa1 J=>?_);refine .inl (a1,HI g (st.now+ (a+1)) ++ Fc st n (a+1),rfl,by rw[aB,Dd],L,λD cp a5 aj ck=>?_);subst b5;have C:AH H cp:=(o.trans m).trans ((AH.upd J).trans aj);have i:=TT.same C;have(d1,bm):=i.ins;have(ds,bl):=i.w.ins;have G:H D=AB:=((o.trans m).trans (AH.upd J)).free a5;simp![bl,R.cl,R.Dv,dR,bm,fu (wa:=r.wa) (ol:=ol) (x:="steps_crossed") (by decide +kernel) (by decide +kernel)];refine(t,r,st,g,n,ol,os,a,rfl,i,λa0 X d6 c8 ab ca U=>?_);simp![];refine .inr (a0,X,Fi st n a,rfl,ca,U,by unfold Fi;rw[AL];lia,λan d5 c7 Z cg=>?_);have j:=ab.trans Z;have p:=C.trans j;have cm:=(i.w.same j).land.s;refine(r.la,g,r.pc,r.ph,r.ps,r.sa,av,D,an,at_ l,ks,a3,λv=>(HI g (st.now+ (a+1)) ++ Fc st n (a+1)).contains v,λu v=>(Fi st n a).contains (AE u v),rfl,cm,p _ _ I,y,wv M y,?_,?_,cg,λq dp a4 a2 co Y a6 b7 B b3 ci=>?_);have(bk,b4,b2):=ck;exact(bk,j _ _ b4,b2);intro z;rw[z,I]at G;cases G;have e:=lay_next O b1 M y.mem B b3 ci;rw[e]at B;exact k q a4 a2 co (p.trans Y) (p.free a6) b7 B
def D8.same(L:D8 C H a g pc ph pd ps sa)(s:AH H d):D8 C d a g pc ph pd ps sa:=by
 have(C0,c):=p9 [C];exact L.jc (C0:=C0) (λz=>c (by erw[z];simp)) (λb xs e _=>s b _ e) λb o e _=>s b o e
inductive Pt(C:AD)(vs:List V)(H:Hp)(Q:VK)(E:XK):Prop
 |mk:∀a g pc ph pd ps sa pb px pl t m ks kvs ts crs cell left,vs=[.ref a,.ref pb,nV cell,nV left,.ref px]->D8 C H a g pc ph pd ps sa->H pb=AA (.dK kvs)->EL (at_ m) ks kvs->H px=AA (.lst (ts.map V.ref))->FF H ts crs->(∀u v:Nat,crs.contains (AE u v)=EA pl u v t)->at_ (ER g pl t m) cell=AA left->(∀H',AH H H'->Q (nV (prev g pl t (ER g pl t m) m cell)) H')->Pt C vs H Q E
def uc(d3:Ag M "cell_a_tick_ago" "cell_a_tick_ago" Tk dm fd)(T:Ij mg)(en:Dx M mg C)(d4:A8 a0 w M mg base 2 "time_left_after" ["land","cell","near","left"] (Lk C))(d5:A6 a0 w M mg base 2 C "neighbours" ["self","cell"] (Kr C))(d6:A6 a0 w M mg base 2 C "cost_between" ["self","cell","other"] (Lq C)):
  AV a0 w M mg base AZ 3 dm fd ["land","before","cell","left","crossed"] (Pt C):=by
 exists d3.go ["land","before","cell","left","crossed","free","near"],el,a4,O;obtain⟨a,g,pc,ph,pd,ps,sa,B,X,pl,t,m,ks,cd,b4,ds,cell,left,rfl,L,R,a1,cm,b3,c6,bs,k⟩:=h;have o:=eC O;have hw:=L.s.b.wide;have ek:=L.s.b.few;have J:cell<AG g:=by have:=dY bs;rw[iZ]at this;exact this
 refine(_,(aE (aX (PW.pt (fY (fK (iL o (pv 2) (pv 1))) (fX (aW dh (ag d4 O rfl (aA (pv 0) (aA (pv 2) (aA (pv 2) (aA (fC o (pv 1) (pv 2) (λ_ _=>rfl)) aD))))) (pv 3) (aU _))))) (aF (aI (pv 2))) aZ) (aE (fZ (i:=5) rfl a4 rfl rfl (fW rfl rfl rfl (by kernel_rfl)) (dP (ae (pv 0) d5 O (aA (pv 2) aD))) (own:=[(AE ("near") 6)]) (dO (by kernel_rfl)) (λ_ _ _ _ _=>(aa 6)) (λ_ _ _ _ _=>(fJ (PW.pt (fY (aW dh (tw o (pv 1) (pv 6) (rfl,rfl,rfl,rfl)) aG (aU _)) (fX (aW (uJ o) (fB (aA (pv 6) (aA (pv 2) aD))) (pv 4) (by with_unfolding_all rfl))))))) (λ_ _ _ _ _=>(pv 6))) (aF (aI (bD (qW rfl) (by rfl) T.GJ boot_min (aA (dk rfl a4 (dP (pv 5)) (own:=[(AE ("near") 6)]) (dO (by kernel_rfl)) (λ_ _ _ _ _=>(aa 6)) (λ_ _ _ _ _=>(fJ (aW dh (ae (pv 0) d6 O (aA (pv 6) (aA (pv 2) aD))) (aV dG (pv 3) aG) (aU _)))) (λ_ _ _ _ _=>(pv 6))) aD)))))),?_);have(dp,c3):=L.ins;have an:=kO hw bs;generalize prev g pl t (ER g pl t m) m cell=d at an k;exists N,c8;have rest:(∀x,at_ m cell=AA x->x - 1≠left)->N [AA (.ref a),AA (.ref B),AA (nV cell),AA (nV left),AA (.ref X),AB,AB] H:=by
  intro cp;obtain⟨_,ca,Y,b7,b6⟩:(∀x,at_ m cell=AA x->x - 1≠left)/\at_ m d=AA 0/\Ab g d cell=AA (left+1)/\EA pl d cell t=AF/\∀u,at_ m u=AA 0->Ab g u cell=AA (left+1)->EA pl u cell t=AF->d<=u:=by
   rcases an with⟨⟨x,c,p⟩,_⟩ |h;exact absurd p (cp x c);exact h
  subst c8;exists eo,c7;refine(.ref a,rfl,a,dp,_,rfl,c3,fR (by decide +kernel),nV cell,rfl,a,g,pc,ph,cell,rfl,L.s.b,J,λpn ep ec a3 b1=>(pn,rfl,(_,AN.of b1),λD dd=>?_));refine eM (xs:=(BK g cell).map nV) (λi=>((BK g cell)[i]?).bind λu=>if (decide (at_ m u=AA 0) && !EA pl u cell t)=AC then AA (nV u)else AB) dd b1 (by rw[AL];exact aN (by have:=iy g cell;lia)) (λi v S aj U=>?_) (λS U G=>?_);intro d1 b2 ab I;obtain⟨u,l,rfl⟩:=dN aj;have r:=a3.trans U;refine(rfl,?_);refine(.ref B,rfl,B,rfl,.inl (cd,.inl (r _ _ R)),nV u,rfl,_,DV.k (k:=AW (u:Int)) (r _ _ R),?_);rw[a1.val u];have bl:at_ m u≠AA 0->b2 S:=λh=>I _ (by rw[l];simp[h]) (λ_ _ e=>e);cases e:at_ m u with
  |none=>
   simp![Option.map_none,Sa];exact bl (by rw[e];simp)
  |some x=>
   simp![EH,Option.getD_some];refine ak (λc=>?_) (λc=>?_);have ce:x=0:=by have:=DT c;lia
   subst ce;refine(nV u,rfl,nV cell,rfl,aN (by show 2<=100000;lia),λa2 ck=>?_);have j:AH S (L2.upd S a2 (.tup [nV u,nV cell])):=AH.upd ck;refine(.ref X,rfl,X,b4,ds,a2,(AE u cell),rfl,j _ _ (r _ _ cm),(b3.keep λb xs av=>r _ _ av).keep (λb xs av=>j _ _ av),rfl,aB,_,rfl,?_);rw[c6];cases G:EA pl u cell t with
   |true=>exact I _ (by rw[l];simp[e,G]) j
   |false=>exact(nV u,rfl,ab (nV u) _ (by rw[l];simp[e,G]) j)
   exact bl (by rw[e];intro z;cases z;exact c (by simp))
  have c4:(Ai ((BK g cell).map nV).length).filterMap (λi=>((BK g cell)[i]?).bind λu=>if (decide (at_ m u=AA 0) && !EA pl u cell t)=AC then AA (nV u)else AB)=((BK g cell).filter λu=>decide (at_ m u=AA 0) && !EA pl u cell t).map nV:=by
   rw[AL];exact gG λi u o=>by rw[o];rfl
  rw[c4]at G;generalize bm:((BK g cell).filter λu=>decide (at_ m u=AA 0) && !EA pl u cell t)=f at G;have Z:∀u,u∈f↔u∈BK g cell/\at_ m u=AA 0/\EA pl u cell t=AF:=λu=>by rw[<-bm,EJ,DN,decide_eq_true_iff,Gq]
  have ef:f.length<=4:=by rw[<-bm];exact Dj (Fq _ _) (iy g cell)
  subst c7;have r:=a3.trans U;refine(.ref D,rfl,D,rfl,(_,AN.of G),λea c9=>?_);refine eM (xs:=f.map nV) (λi=>(f[i]?).bind λu=>if (decide (Ab g u cell=AA (left+1)))=AC then AA (nV u)else AB) c9 G (by rw[AL];exact aN ()) (λi v d2 aj j=>?_) (λd2 j b0=>?_);intro d1 b2 ab I;obtain⟨u,l,rfl⟩:=dN aj;have b5:=r.trans j;have L3:=L.same b5;have(dn,c2):=L3.ins;have cg:u<AG g:=L.s.b.near J ((Z u).mp (Ar l)).1;refine(rfl,?_);refine(.ref a,rfl,a,dn,_,rfl,c2,fR (by decide +kernel),nV u,rfl,nV cell,rfl,a,g,pc,ph,ps,sa,u,cell,rfl,L3.s,cg,?_);cases e:Ab g u cell with
  |none=>
   simp![oV,wipe];exact I _ (by rw[l];simp[e]) (λ_ _ e=>e)
  |some x=>
   simp![oV,wipe];by_cases q:x=left+1;rw[AJ (by rw[q];simp)];simp![wipe];exact ab _ _ (by rw[l];simp[e,q]) (λ_ _ e=>e);rw[AK (by simp;lia)];exact I _ (by rw[l];simp[e,q]) (λ_ _ e=>e)
  have c5:(Ai (f.map nV).length).filterMap (λi=>(f[i]?).bind λu=>if (decide (Ab g u cell=AA (left+1)))=AC then AA (nV u)else AB)=(f.filter λu=>decide (Ab g u cell=AA (left+1))).map nV:=by
   rw[AL];exact gG λi u o=>by rw[o];rfl
  rw[c5]at b0;have a6:d∈f.filter λu=>decide (Ab g u cell=AA (left+1)):=EJ.mpr ((Z d).mpr (gX hw (eI Y).1 J (dq Y).2.2.1,ca,b7),BH Y);refine(ea,(f.filter λu=>decide (Ab g u cell=AA (left+1))).map (λn:Nat=>(n:Int)),rfl,AN.of (by rw[Dc];exact b0),by rw[AL];exact Ws a6,λeb c1 c0=>?_);obtain⟨u,ci,rfl⟩:=Du.mp c1;have c:=EJ.mp ci;have p:=(Z u).mp c.1;have ej:=b6 u p.2.1 (DT c.2) p.2.2;have ei:=c0 (d:Int) (Du.mpr (d,a6,rfl));have:u=d:=by lia
  rw[this];exact k _ (r.trans j)
 refine(nV cell,rfl,.ref B,rfl,B,_,rfl,DV.k (k:=AW (cell:Int)) R,_,rfl,?_);rw[a1.val cell];cases e:at_ m cell with
 |none=>exact rest λx h=>by rw[e]at h;cases h
 |some x=>
  simp![EH,SX];refine(.ref B,rfl,nV cell,rfl,B,nV x,rfl,?_,a,g,pc,ph,cell,cell,x,rfl,L.s.b,J,J,λz=>absurd rfl z,?_);have:=DV.k (k:=AW (cell:Int)) R;rw[a1.val cell,e]at this;exact this;simp![];refine ak (λc=>?_) (λc=>?_);have p:x - 1=left:=by have:=DT c;lia
  rcases an with⟨_,co⟩ | ⟨cr,_⟩;rw[co]at k;exact k H (λ_ _ e=>e);exact absurd p (cr x e);refine rest λy a5 p=>c (BH ?_);rw[e]at a5;cases a5;rw[p]
def MS(H:Hp)(g:Aw)(pl:List Plan)(now:Nat)(l0:D6)(c:List AD):Prop:=∀(b:Nat) (d:AD),c[b]? =AA d->∃ks a,H d=AA (.dK a)/\EL (at_ (lay g pl now l0 b)) ks a
def MS.same(h:MS H g pl now l0 i)(s:AH H j):MS j g pl now l0 i:=λb d e=>let(ks,a,f,c):=h b d e;(ks,a,s _ _ f,c)
inductive P1(c:Cs)(vs:List V)(H:Hp)(Q:VK)(E:XK):Prop
 |mk:∀r s g n t ol os pse,∀ds:List AD,∀m l0 e x,vs=[.ref r.la,.ref t,.ref pse,nV e]->GK c H t r s g n ol os->H pse=AA (.lst (ds.map V.ref))->ds.length=m+1->m<=100->MS H g (Ac s n) s.now l0 ds->at_ (lay g (Ac s n) s.now l0 m) e=AA x->(∀q H',H q=AB->AH H H'->H' q=AA (.lst ((Gf g (Ac s n) (s.now+m) e (downs (lay g (Ac s n) s.now l0) m)).reverse.map nV))->Q (.ref q) H')->P1 c vs H Q E
structure Za(H:Hp)(la t pse q:AD)(g:Aw)(pl:List Plan)(now m e:Nat)(l0:D6)(i:Nat)(σ:L2.St)(H':Hp):Prop where
 ex:∃x y z:Option V,σ=[AA (.ref la),AA (.ref t),AA (.ref pse),AA (nV e),AA (.ref q),x,y,z]
 same:AH H H'
 cells:∃(cs:List Nat) (cl x:Nat),H' q=AA (.lst (cs.map nV))/\cs.getLast? =AA cl/\cs.length=i+1/\at_ (lay g pl now l0 (m - i)) cl=AA x/\Gf g pl (now+m) e (downs (lay g pl now l0) m)=cs.dropLast ++ Gf g pl (now+ (m - i)) cl (downs (lay g pl now l0) (m - i))
def u9(dm:Ag I "plan_back" "plan_back" UI c3 fd)(T:Ij mg)(ef:J0 I mg c.T)(dp:A8 a5 w I mg base 3 "cell_a_tick_ago" ["land","before","cell","left","crossed"] (Pt c.L))(dn:A6 a5 w I mg base 3 c.T "steps_crossed" ["self","ahead"] (Ll c)):AV a5 w I mg base AZ 4 c3 fd ["land","traffic","seen","end"] (P1 c):=by
 exists dm.go ["land","traffic","seen","end","cells","ahead","cell","left"],ec,dx,M;obtain⟨r,st,g,n,t,ol,os,p,l,m,l0,e,x,rfl,TT,L,cp,d5,a4,c0,k⟩:=h;have ca:=eC M;have O:=TT.w.ok;have cm:=TT.w.gr;have hw:=TT.w.land.s.b.wide;refine(_,(aE (aS 4 (af (aA (pv 3) aD))) (aE (dg D0 rfl (tN rfl T.Df (aA (aV dQ (bD dj (by rfl) T.C2 EB (aA (pv 2) aD)) aG) (aA (db dZ aG) (aA (db dZ aG) aD)))) (aa 5) (aE (aS 6 (aJ aL (pv 4) (db dZ aG))) (aE (aS 7 (fC ca (aJ aL (pv 2) (aV dG (pv 5) aG)) (pv 6) (λ_ _=>rfl))) (aF (dW (dw FJ Fo F0 eA (pv 4) (aA (ag dp M rfl (aA (pv 0) (aA (aJ aL (pv 2) (pv 5)) (aA (pv 6) (aA (pv 7) (aA (ae (pv 1) dn M (aA (pv 5) aD)) aD)))))) aD))))))) (aF (aI (oM T.Gx T.K6 (pv 4)))))),?_);exists N,S;simp![];refine(aN (),λq aj=>?_);subst S;have Z:AH H (L2.upd H q (.lst [nV e])):=AH.upd aj;exists N,S;have co:(l.map V.ref).length=m+1:=by rw[AL];exact cp
 refine(.ref p,rfl,p,_,rfl,Z _ _ L,_,_,rfl,rfl,_,rfl,_,rfl,_,_,_,m,rfl,?_,?_);have:=N9.neg (i:=((l.map V.ref).length:Int) - 2) (j:= -1) () () () ();rw[show (((l.map V.ref).length:Int) - 2 - -1).toNat=m by lia]at this;exact this;refine xm (n:=m) (Za H r.la t p q g (Ac st n) st.now m e l0) ((_,_,_,rfl),Z,[e],e,x,aB,rfl,rfl,c0,rfl) ?_ ?_;rintro i a6 dd d6 ⟨⟨bs,bm,bl,rfl⟩,f,cs,cl,y,D,G,a0,B,C⟩;obtain⟨a,c1⟩:∃a,m - i=a+1:=(m - i - 1,by lia);have b7:((l.map V.ref).length:Int) - 2+ (i:Nat) * (-1)=(a:Int):=by rw[co];lia
 rw[b7];rw[c1]at B C;obtain⟨a2,an⟩:∃d,l[a+1]? =AA d:=(_,AX ());obtain⟨d0,av⟩:∃d,l[a]? =AA d:=(_,AX ());have(d3,d2,cg,c8):=a4 _ _ an;have(b5,b4,ci,c9):=a4 _ _ av;simp![];exists c7,R;simp![D,gJ,Kl,G,EH];subst R;exists c7,R;have cr:(a:Int) + 1=((a+1:Nat):Int):=by lia
 refine(.ref p,rfl,nV a,rfl,_,_,rfl,rfl,p,_,(a:Int) + 1,.ref a2,rfl,rfl,f _ _ L,by rw[cr,aM,BC,an];rfl,nV cl,rfl,a2,nV y,rfl,?_,?_);have:=DV.k (k:=AW (cl:Int)) (f _ _ cg);rw[c8.val cl,B]at this;exact this;subst R;have a3:=TT.same f;have(ea,ck):=a3.ins;simp![iD D,f _ _ L,BC,av,EH,ck,fu (wa:=r.wa) (ol:=ol) (x:="steps_crossed") (by decide +kernel) (by decide +kernel)];refine(t,r,st,g,n,ol,os,a,rfl,a3,λb3 b1 ej d4 Y c6 b0=>?_);have J:=f.trans Y;simp![];refine(r.la,g,r.pc,r.ph,r.pd,r.ps,r.sa,d0,b3,Ac st n,st.now+a,lay g (Ac st n) st.now l0 a,b5,b4,b1,Fi st n a,cl,y,rfl,(TT.w.same J).land,J _ _ ci,c9,c6,b0,λu v=>jk O cm,B,λei X=>?_);have c5:=X _ _ (Y _ _ D);simp![c5,AL];have ce:=kO hw B;have cd:∃z,at_ (lay g (Ac st n) st.now l0 a) (prev g (Ac st n) (st.now+a) (lay g (Ac st n) st.now l0 (a+1)) (lay g (Ac st n) st.now l0 a) cl)=AA z:=by
  rcases ce with⟨⟨z,U,_⟩,c2⟩ | ⟨_,U,_⟩;exact(z,by rw[show prev g (Ac st n) (st.now+a) (lay g (Ac st n) st.now l0 (a+1)) (lay g (Ac st n) st.now l0 a) cl=cl from c2];exact U);exact(0,U)
 have(z,b6):=cd;refine(dS (by rw[AL];lia),(_,_,_,rfl),λb o a1=>?_,cs ++ [prev g (Ac st n) (st.now+a) (lay g (Ac st n) st.now l0 (a+1)) (lay g (Ac st n) st.now l0 a) cl],_,z,?_,by rw[Ww];rfl,by rw[BZ,a0];rfl,?_,?_);rw[aC (aT a1 aj)];exact X _ _ (J b o a1);rw[aB,Dd];rfl;rw[show m - (i+1)=a by lia];exact b6;rw[show m - (i+1)=a by lia,Sv,C,mw];have c4:cs=cs.dropLast ++ [cl]:=last_eq G
 conv=>rhs;rw[c4]
 rw[Jq];rfl;rintro a6 dd ⟨⟨bs,bm,bl,rfl⟩,f,cs,cl,y,D,G,a0,B,C⟩;rw[IV,Hm,mr,<-last_eq G]at C;subst S;refine(.ref q,rfl,q,_,rfl,D,λb2 ab=>?_);refine k b2 _ (f.free ab) (f.trans (AH.upd ab)) ?_;rw[aB,C,Wp]
def xE(L:EL (at_ l) ks a):a.length=HH l:=by
 erw[L.eq,AL];have c:ks.Perm ((Ai l.length).filter λv=>(at_ l v).isSome):=by
  erw[List.perm_ext_iff_of_nodup L.nd (Si.filter _)];intro v;erw[L.mem,EJ,EC];constructor;intro h;have(x,b):=HB.mp h;exact(dY b,h);exact λh=>h.2
 erw[c.length_eq];unfold HH;have e:l=(Ai l.length).map (at_ l):=by
  apply Ss;simp;intro i d f;erw[List.getElem_map,JB];unfold at_;erw[DA,AX d];rfl
 conv=>rhs;erw[e]
 erw[NG,AL];rfl
def nE(L:Nat->D6):∀m,((Ai (m+1)).map λb=>((HH (L b):Nat):Int)).sum=((looked L m:Nat):Int)
 | 0=>by simp[looked]
 |m+1=>by erw[Jn,Dd,List.sum_append,nE L m,looked];simp
def N7(s:Eg)(g:Aw)(n:Nat)(b:List Nat)(goal:Nat->Nat->Bool):Prop:=∀(l:D6) (a:Nat),HV g l->(b.filter λc=>(at_ l c).isSome && restOk s g n c a).head? =(Ai (AG g)).find? (λu=>(l.getD u AB).isSome && goal u (s.now+a))
def rN(O:Dn s)(i:s.ground=AA g)(j:t<AG g):N7 s g n [t] (λc e=>c==t && Gg g (Ac s n) c e):=by
 intro l a f;by_cases q:((at_ l t).isSome && restOk s g n t a)=AC;erw[Ec,AJ q];rw[DN]at q;have(x,b):=HB.mp q.1;have d:=q.2;rw[jF O i (f.st t x b)]at d;symm;refine p6 j ?_ λv k=>?_;have:(l.getD t AB).isSome=AC:=q.1;show ((l.getD t AB).isSome && (t==t && Gg g (Ac s n) t (s.now+a)))=AC;erw[this,d];simp;have:(v==t)=AF:=by simp;lia
 show ((l.getD v AB).isSome && (v==t && Gg g (Ac s n) v (s.now+a)))=AF;erw[this];simp;erw[Ec,AK q];symm;show _=AB;erw[Lf];intro v _ h;rw[DN,DN]at h;have:v=t:=by simpa using h.2.1
 subst this;have(x,b):=HB.mp h.1;apply q;erw[jF O i (f.st v x b),h.2.2];have:(at_ l v).isSome=AC:=h.1;erw[this];rfl
def xb{p q:Nat->Bool}{xs:List Nat}(h:∀x∈xs,p x=q x):(xs.filter p).head? =xs.find? q:=by
 erw[List.head?_filter];induction xs with
 |nil=>rfl
 |cons a xs b=>
  erw[Gn,Gn,h a FK,b λx c=>h x (Eb _ c)]
def rO(O:Dn s)(f:s.ground=AA g):N7 s g n (Ai (AG g)) (λc e=>Gg g (Ac s n) c e):=by
 intro l a d;refine xb λc _=>?_;cases e:at_ l c with
 |none=>
  have b:l.getD c AB=AB:=e;erw[b];rfl
 |some x=>
  have b:l.getD c AB=AA x:=e;erw[b,jF O f (d.st c x e)]
inductive QG(c:Cs)(vs:List V)(H:Hp)(Q:VK)(E:XK):Prop
 |mk:∀r s g n x pw,∀wanted:List Nat,∀goal,vs=[.ref r.wa,nV n,.ref pw]->Ad c H r s g->(AE n x)∈alive s->H pw=AA (.lst (wanted.map nV))->(∀v∈wanted,v<AG g)->wanted.length<=1000->N7 s g n wanted goal->(IL g (Ac s n) s.now (Dy x.plan s.now) (FZ g x s.now) goal=AB->∀H',AH H H'->Q .Al H')->(∀p,IL g (Ac s n) s.now (Dy x.plan s.now) (FZ g x s.now) goal=AA p->p.1.begun=s.now->Path g p.1.cells->p.1.cells.length<=101->∀q t H',H q=AB->AH H H'->H' t=AA (.tup [.ref q,nV p.2])->H' q=AA (.lst (p.1.cells.map nV))->Q (.ref t) H')->QG c vs H Q E
structure zj(c:Cs)(H:Hp)(r:WA)(s:Eg)(g:Aw)(n:Nat)(pw wk t pse ol:AD)(os:List AD)(l0:D6)(goal:Nat->Nat->Bool)(i:Nat)(σ:L2.St)(H':Hp):Prop where
 ex:∃x y z u v:Option V,σ=[AA (.ref r.wa),AA (nV n),AA (.ref pw),AA (.ref wk),AA (.ref t),AA (.ref pse),x,y,z,u,v]
 same:AH H H'
 XH:GK c H' t r s g n ol os
 seen:∃ds:List AD,H' pse=AA (.lst (ds.map V.ref))/\ds.length=i+1/\MS H' g (Ac s n) s.now l0 ds
 no:∀b,b<i->hits g goal (lay g (Ac s n) s.now l0 b) (s.now+b)=AF
def vd(kk:Ef c)(h0:Ag U "earliest_plan" "earliest_plan" Uj g8 fd)(T:Ij mg)(b4:DO U mg c.W)(b5:GL U mg c.K)(i1:FX b6 w U mg base 4 "Traffic" c.T ["self","world","number"] (NS c))(iv:A6 b6 w U mg base 5 c.T "may_rest" ["self","cell","ahead"] (NX c))(h8:A8 b6 w U mg base 5 "plan_back" ["land","traffic","seen","end"] (P1 c))(ih:A8 b6 w U mg base 5 "next_places" ["world","traffic","places","ahead"] (P5 c)):
  AV b6 w U mg base AZ 6 g8 fd ["world","number","wanted"] (QG c):=by
 exists h0.go ["world","number","wanted","walker","traffic","seen","ahead","places","found","cell","some"],km,d2,a0;obtain⟨r,st,g,n,x,ca,J,goal,rfl,W,fy,ec,fz,kb,f1,ck,ci⟩:=h;have a6:=eC a0;have O:=W.ok;have ki:=W.gr;have hw:=W.land.s.b.wide;refine(_,(aE (aS 3 (fC a6 (aH (pv 0)) (pv 1) (λ_ _=>rfl))) (aE (aS 4 (gP i1 a0 rfl (aA (pv 0) (aA (pv 1) aD)))) (@aE _ _ _ _ _ (aS 5 (@tY _ _ _ _ _ _ (tm (aJ aL (aH (pv 3)) aG) (aH (pv 3))))) (aE (dg D0 rfl (fP rfl T.Df (aA (aV dG (dI T.Qq) aG) aD)) (aa 6) (aE (aS 7 (aJ aL (pv 5) (pv 6))) (aE (fZ (i:=8) rfl d2 rfl rfl (fW rfl rfl rfl (by kernel_rfl)) (dP (pv 2)) (own:=[(AE ("cell") 9)]) (dO (by kernel_rfl)) (λ_ _ _ _ _=>(aa 9)) (λ_ _ _ _ _=>(fJ (PW.pt (fY (fK (iL a6 (pv 9) (pv 7))) (fX (dU (ae (pv 4) iv a0 (aA (pv 9) (aA (pv 6) aD))))))))) (λ_ _ _ _ _=>(pv 9))) (aE (aX (n0 (pv 8) (by intro _;rfl)) (aF (aI (fB (aA (ag h8 a0 rfl (aA (aH (pv 0)) (aA (pv 4) (aA (pv 5) (aA (aJ aL (pv 8) aG) aD))))) (aA (bD (yZ rfl) (by rfl) T.Qy boot_sum (aA (dk rfl d2 (dP (pv 5)) (own:=[(AE ("some") 10)]) (dO (by kernel_rfl)) (λ_ _ _ _ _=>(aa 10)) (λ_ _ _ _ _=>dv) (λ_ _ _ _ _=>(bD qk (by rfl) T.C2 EB (aA (pv 10) aD)))) aD)) aD))))) aZ) (aF (dW (dw FJ Fo F0 eA (pv 5) (aA (ag ih a0 rfl (aA (pv 0) (aA (pv 4) (aA (pv 7) (aA (pv 6) aD))))) aD)))))))) (aF (aI ai)))))),?_);have(hl,go):=W.ins;have(j5,X,p,es,g7,c1,kl,g6,g5,g4,Z):=W.walker fy;have gw:Dy x.plan st.now=DY x.plan.cells 0:=by
  have:=eG Z.path.ne 0;rw[Hm,Z.begun]at this;exact this
 have ge:FZ g x st.now=x.left:=by
  have:=lG (g:=g) Z.path.ne;rw[Z.begun]at this;exact this
 rw[gw,ge]at ck ci;have cr:x.plan.cells[0]? =AA (DY x.plan.cells 0):=by
  have:=fH Z.path.ne 0;rw[M0]at this;exact this
 have co:An g (DY x.plan.cells 0)=AC:=Z.path.st _ (Ar cr);generalize DY x.plan.cells 0=a at cr co ck ci;exists N,R;refine(.ref r.wa,rfl,r.wa,c.W,hl,_,.ref r.wd,rfl,go,b4.cl,b4.FT,d8,nV n,rfl,r.wd,.ref X,rfl,?_,?_);rw[<-g4];exact DV.k (k:=AW (n:Int)) W.wd;subst R;exists N,R;refine(.ref r.wa,rfl,nV n,rfl,λt hh dn dp j2=>(t,hh,r,st,g,n,rfl,aB,?_,λol os I hm et=>(rfl,?_)));refine W.same λb o e=>?_;rw[aC (aT e dn),aC (aT e dp)];exact e;have L:AH H I:=AH.made dn dp λb o e l=>hm b o e (by simpa using l);subst R;exists N,R;intro d0 el;have c9:AH I (L2.upd I d0 (.dK [])):=AH.upd el;have eo:=c9 _ _ (L _ _ g5);have f3:=c9 _ _ (L _ _ g6.plan);refine(.ref X,rfl,X,c.K,es,_,.ref p,rfl,eo,b5.cl,b5.Fg,eZ,p,_,0,nV a,rfl,rfl,f3,by rw[aO,BC,cr];rfl,.ref X,rfl,X,c.K,es,_,nV x.left,rfl,eo,b5.cl,b5.Kw,i7,aB,[(AE (AW (a:Int):Key) (nV x.left))],rfl,by simp,?_);refine(aN (by show 1<=100000;lia),λB M=>?_);rw[ah]at M|-;have f6:GD [] [(AE (AW (a:Int):Key) (nV x.left))]=[(AE (AW (a:Int):Key) (nV x.left))]:=rfl;rw[f6]at M|-;have d1:d0≠B:=λz=>by rw[z,aB]at M;cases M
 have a4:AH I (L2.upd (L2.upd I d0 (.dK [(AE (AW (a:Int):Key) (nV x.left))])) B (.lst [.ref d0])):=(AH.upd el).trans (AH.upd M);have eq:L2.upd (L2.upd I d0 (.dK [(AE (AW (a:Int):Key) (nV x.left))])) B (.lst [.ref d0]) d0=AA (.dK [(AE (AW (a:Int):Key) (nV x.left))]):=by rw[aC d1,aB]
 have ep:L2.upd (L2.upd I d0 (.dK [(AE (AW (a:Int):Key) (nV x.left))])) B (.lst [.ref d0]) B=AA (.lst [.ref d0]):=aB;have d6:I B=AB:=by rw[aC d1.symm]at M;exact M
 simp![];generalize L2.upd (L2.upd I d0 (.dK [(AE (AW (a:Int):Key) (nV x.left))])) B (.lst [.ref d0])=kn at a4 eq ep;have j1:=L.trans a4;have kc:H B=AB:=L.free d6;have ej:HV g (lay0 g a x.left):=xF co;have gs:at_ (lay0 g a x.left)=λv=>if v=a then AA x.left else AB:=funext λv=>qx (gh co);subst R;exists N,R;refine(_,_,rfl,rfl,101,rfl,by lia,by lia,?_);refine hO (n:=101) (zj c I r st g n ca X t B ol os (lay0 g a x.left) goal) ((_,_,_,_,_,rfl),a4,et.same a4,([d0],ep,rfl,λb d l=>?_),λb l=>by lia) ?_ ?_;cases b with
 |zero=>
  cases l;refine([a],_,eq,?_);show EL (at_ (lay0 g a x.left)) _ _;rw[gs];exact EL.one a x.left
 |succ b=>simp at l
 rintro i ey ew kd ⟨⟨e3,e2,e1,e0,ez,rfl⟩,av,c4,⟨S,ab,bs,a3⟩,bm⟩;have ha:(0:Int) + (i:Int)=(i:Int):=by lia
 rw[ha];obtain⟨d,hd⟩:∃d,S[i]? =AA d:=(_,AX ());have(ks,fr,ek,ev):=a3 i d hd;have en:=pG (ps:=Ac st n) (t:=st.now) hw ej i;simp![];exists eu,a1;simp![ab,BC,hd,EH];subst a1;exists eu,a1;refine(.ref ca,rfl,ca,rfl,(_,AN.of (av _ _ (L _ _ ec))),λD g3=>?_);refine eM (xs:=J.map nV) (λj=>(J[j]?).bind λv=>if ((at_ (lay g (Ac st n) st.now (lay0 g a x.left) i) v).isSome && restOk st g n v i)=AC then AA (nV v)else AB) g3 (av _ _ (L _ _ ec)) (by rw[AL];exact aN ()) (λj e7 hz cm C=>?_) (λhz C b3=>?_);intro hp hs ce cg;obtain⟨v,Y,rfl⟩:=dN cm;have f2:=fz v (Ar Y);have aj:=c4.same C;have(hj,gi):=aj.ins;refine(rfl,?_);refine(nV v,rfl,.ref d,rfl,d,_,rfl,DV.k (k:=AW (v:Int)) (C _ _ ek),_,rfl,?_);rw[ev.val v];cases e:at_ (lay g (Ac st n) st.now (lay0 g a x.left) i) v with
 |none=>exact cg _ (by rw[Y];simp[e]) (λ_ _ e=>e)
 |some y=>
  refine(.ref t,rfl,t,hj,_,rfl,gi,fu (by decide +kernel) (by decide +kernel),nV v,rfl,nV i,rfl,t,r,st,g,n,ol,os,v,i,rfl,aj,f2,λc6 G=>?_);cases ea:restOk st g n v i with
  |true=>exact(AC,rfl,nV v,rfl,ce (nV v) _ (by rw[Y];simp[e,ea]) G)
  |false=>exact(AF,rfl,cg _ (by rw[Y];simp[e,ea]) G)
 have gr:(Ai (J.map nV).length).filterMap (λj=>(J[j]?).bind λv=>if ((at_ (lay g (Ac st n) st.now (lay0 g a x.left) i) v).isSome && restOk st g n v i)=AC then AA (nV v)else AB)=(J.filter λv=>(at_ (lay g (Ac st n) st.now (lay0 g a x.left) i) v).isSome && restOk st g n v i).map nV:=by
  rw[AL];exact gG λj u a6=>by rw[a6];rfl
 rw[gr]at b3;have a5:=f1 _ i en;have dm:=av.trans C;have b7:=L.trans dm;have aj:=c4.same C;subst a1;simp![];exists eu,a1;refine(.ref D,rfl,!((J.filter λv=>(at_ (lay g (Ac st n) st.now (lay0 g a x.left) i) v).isSome && restOk st g n v i).map nV).isEmpty,.inl (_,AN.of b3,rfl),?_);cases cp:J.filter λv=>(at_ (lay g (Ac st n) st.now (lay0 g a x.left) i) v).isSome && restOk st g n v i with
 |nil=>
  rw[cp]at a5;have f4:hits g goal (lay g (Ac st n) st.now (lay0 g a x.left) i) (st.now+i)=AF:=by
   unfold hits;rw[Sw];exact λv Y=>Lf.mp a5.symm v Y
  refine lQ ?_;subst a1;have c2:=C _ _ ab;simp![iD c2];refine(r,st,g,n,t,ol,os,d,_,ks,fr,i,rfl,aj,C _ _ ek,ev,en,λq fx fq c6 G bl b2 ho=>?_);have b0:=G _ _ c2;simp![b0,AL];have i5:=b7.trans G;have fj:q≠B:=λz=>by rw[z,c2]at bl;cases bl
  have c8:∀c7,AH I (L2.upd c6 B (.lst c7)):=λc7 b o er=>by rw[aC (aT er d6)];exact G _ _ (dm b o er)
  refine(dS (by rw[AL];lia),(_,_,_,_,_,rfl),c8 _,?_,(S ++ [q],?_,by rw[BZ,bs];rfl,λb d' l=>?_),λb l=>?_);exact et.same (c8 _);rw[aB,Dd];rfl;by_cases g0:b<S.length;rw[F9 g0]at l;have(d3,cd,a2,c5):=a3 b d' l;exact(d3,cd,by rw[aC (λz=>by rw[z,ab]at a2;cases a2)];exact G _ _ (C _ _ a2),c5);rw[F8 ()]at l;have z:b - S.length=0:=by have:=(AY.mp l).1;simp at this;lia
  rw[z]at l;cases l;have:b=i+1:=by lia
  subst this;exact(fx,fq,by rw[aC fj];exact b2,ho);by_cases q:b<i;exact bm b q;have:b=i:=by lia
  subst this;exact f4
 |cons u rest=>
  rw[cp]at a5 b3;have f5:u∈J.filter λv=>(at_ (lay g (Ac st n) st.now (lay0 g a x.left) i) v).isSome && restOk st g n v i:=by rw[cp];simp
  have ef:=(EJ.mp f5).2;rw[DN]at ef;have(y,d4):=HB.mp ef.1;have g1:=yA (g:=g) (ps:=Ac st n) (t:=st.now) (c:=a) (left:=x.left) (goal:=goal) (m:=i) (u:=u) () bm a5.symm;have(e9,e8,i4,i3):=mv (ps:=Ac st n) (t:=st.now) hw ej i u y d4;refine lP ?_;have(hf,gg):=aj.w.ins;refine(.ref r.wa,rfl,r.wa,c.W,hf,_,.ref r.la,rfl,gg,b4.cl,b4.Dv,dR,.ref t,rfl,.ref B,rfl,.ref D,rfl,D,_,0,nV u,rfl,rfl,b3,by rw[aO];rfl,?_);refine(r,st,g,n,t,ol,os,B,S,i,_,u,y,rfl,aj,C _ _ ab,bs,by lia,a3.same C,d4,λq c6 bl G b2=>?_);have b0:=G _ _ (C _ _ ab);have hn:=(a3.same C).same G;refine(.ref B,rfl,B,rfl,(_,AN.of b0),λi2 g2=>?_);refine eM (xs:=S.map V.ref) (λb=>AA (V.int (HH (lay g (Ac st n) st.now (lay0 g a x.left) b):Nat))) g2 b0 (by rw[AL];exact aN ()) (λb e7 ht cm an=>?_) (λht an he=>?_);intro hp hs ce cg;obtain⟨c3,gv,rfl⟩:=dN cm;have(d3,cd,a2,c5):=hn b c3 gv;refine(rfl,?_);unfold Er;dsimp only;rw[AJ rfl];refine(.ref c3,rfl,c3,cd,rfl,an _ _ a2,?_);rw[xE c5];exact ce _ _ rfl (λ_ _ e=>e);have fe:=(b7.trans G).trans an;refine(i2,(Ai (i+1)).map (λb=>((HH (lay g (Ac st n) st.now (lay0 g a x.left) b):Nat):Int)),rfl,AN.of ?_,aN (by show 2<=100000;lia),λfb d5=>?_);rw[he,AL,bs,Dc]
  congr 2
  have:=eX (xs:=Ai (i+1)) (f:=λb=>AA (V.int (HH (lay g (Ac st n) st.now (lay0 g a x.left) b):Nat))) (F:=λb=>V.int (HH (lay g (Ac st n) st.now (lay0 g a x.left) b):Nat)) (λj b l=>by
   have(g7,c1):=AY.mp l;rw[JB]at c1;rw[c1])
  rw[DS]at this;exact this;rw[nE];refine ci _ g1 rfl e9.rev (by rw[NA,e8];lia) q fb _ (b7.free bl) (fe.trans (AH.upd d5)) aB ?_;rw[aC (aT (an _ _ b2) d5)];exact an _ _ b2
 rintro ey ew ⟨⟨e3,e2,e1,e0,ez,rfl⟩,av,c4,⟨S,ab,bs,a3⟩,bm⟩;subst R;exact ck (yB λb l=>bm b ()) ew (L.trans av)
def ID(g:Aw)(pl:List Plan)(v t:Nat):Option Nat:=if EZ g pl v t=AF then AA (MN g pl v t)else AB
inductive Pl(c:Cs)(vs:List V)(H:Hp)(Q:VK)(E:XK):Prop
 |mk:∀r s g n t ol os v a,vs=[.ref r.wa,.ref t,nV v,nV a]->GK c H t r s g n ol os->v<AG g->(∀H',AH H H'->Q (oV (ID g (Ac s n) v (s.now+a))) H')->Pl c vs H Q E
def Fe(g:Aw)(pl:List Plan)(u v a t:Nat):Option Nat:=if u=v then AB else match Ab g u v with
 |none=>AA 2
 |some _=>if 0<a then AA 3 else if EA pl u v t=AC then AA 6 else AB
inductive Pj(c:Cs)(vs:List V)(H:Hp)(Q:VK)(E:XK):Prop
 |mk:∀r s g n t ol os u v left a,vs=[.ref r.wa,.ref t,nV u,nV v,nV left,nV a]->GK c H t r s g n ol os->u<AG g->v<AG g->(∀H',AH H H'->Q (oV (Fe g (Ac s n) u v left (s.now+a))) H')->Pj c vs H Q E
def uS(X:Ag b "wrong_at_cell" "wrong_at_cell" TZ M fd)(T:Ij mg)(G:DO b mg c.W)(Y:A6 u w b mg base 2 c.L "is_wall" ["self","cell"] (JG c.L))(Z:A6 u w b mg base 2 c.W "is_open_after" ["self","cell","ticks"] (Lo c))(ab:A6 u w b mg base 2 c.T "cells_taken" ["self","ahead"] (Nd c)):
  AV u w b mg base AZ 3 M fd ["world","traffic","cell","ahead"] (Pl c):=by
 exists X.go ["world","traffic","cell","ahead"],a1,aj,i;obtain⟨r,st,g,n,t,ol,os,v,a,rfl,TT,z,k⟩:=h;refine(_,(aE (aX (PW.pt (eh (dU (ae (aH (pv 0)) Y i (aA (pv 2) aD))) (fI (fw (dU (ae (pv 0) Z i (aA (pv 2) (aA (pv 3) aD)))))))) (aF (aI (dI T.Qc))) aZ) (aE (aX (oA (K:=b) rfl (pv 2) (ae (pv 1) ab i (aA (pv 3) aD))) (aF (aI (dI T.Qg))) aZ) (aF (aI ai)))),?_);have(U,L):=TT.ins;have(av,C):=TT.w.ins;have(a0,J):=TT.w.land.ins;have O:=TT.w.ok;have D:=TT.w.gr;have B:AH H H:=λ_ _ e=>e;exists N,o;simp![C,G.cl,G.Dv,dR,J,fR (g:=g) (pc:=r.pc) (ph:=r.ph) (pd:=r.pd) (ps:=r.ps) (x:="is_wall") (by decide +kernel)];refine(r.la,g,r.pc,r.ph,v,rfl,TT.w.land.s.b,z,_,rfl,ak (λq=>?_) (λq=>?_));have d:An g v=AF:=by simpa using q
 have e:ID g (Ac st n) v (st.now+a)=AA 4:=by unfold ID MN EZ;rw[d];simp
 rw[e]at k;simp![];exact k H B;have d:An g v=AC:=by simpa using q
 simp![C,d7 (v:=.ref r.la) (dl:=r.dl) (fl:=r.fl) (wd:=r.wd) (m:=st.walkers.length) (t:=st.now) (x:="is_open_after") (by decide +kernel)];refine(r,st,g,v,a,rfl,TT.w,z,?_);simp![];cases j:GU g v (st.now+a)with
 |false=>
  have e:ID g (Ac st n) v (st.now+a)=AA 4:=by unfold ID MN EZ;rw[d,j];simp
  rw[e]at k;simp![];exact k H B
 |true=>
  subst o;exists N,o;refine(nV v,rfl,.ref t,rfl,t,U,_,rfl,L,fu (by decide +kernel) (by decide +kernel),nV a,rfl,t,r,st,g,n,ol,os,a,rfl,TT,λp I an y S=>(p,_,rfl,.inl (AN.of S),rfl,lh _,_,rfl,?_));have R:Hz (nV v) ((Fc st n a).map nV)=(Fc st n a).contains v:=lW v _;show (if (Hz (nV v) ((Fc st n a).map nV))=AC then _ else _);rw[R];cases f:freeAt (Ac st n) v (st.now+a)with
  |false=>
   have l:(Fc st n a).contains v=AC:=Ft.mpr ((k6 O D).mpr f);have e:ID g (Ac st n) v (st.now+a)=AA 5:=by unfold ID MN EZ;rw[d,j,f];simp
   rw[e]at k;rw[l];exact k I y
  |true=>
   have l:(Fc st n a).contains v=AF:=by
    rw[JD];intro h;have:=(k6 O D).mp (Ft.mp h);rw[f]at this;cases this
   have e:ID g (Ac st n) v (st.now+a)=AB:=by unfold ID EZ;rw[d,j,f];simp
   rw[e]at k;rw[l];subst o;exact k I y
def uQ(a3:Ag m "wrong_in_step" "wrong_in_step" TV a0 fd)(T:Ij mg)(J:DO m mg c.W)(a5:A6 L w m mg base 2 c.L "cost_between" ["self","cell","other"] (Lq c.L))(a4:A6 L w m mg base 2 c.T "steps_crossed" ["self","ahead"] (Ll c)):
  AV L w m mg base AZ 3 a0 fd ["world","traffic","cell","near","left","ahead"] (Pj c):=by
 exists a3.go ["world","traffic","cell","near","left","ahead"],b1,a6,p;obtain⟨r,st,g,n,t,ol,os,u,v,left,a,rfl,TT,X,bl,k⟩:=h;have Y:=eC p;refine(_,(aE (aX (aW dh (pv 3) (pv 2) (aU _)) (aF (aI ai)) aZ) (aE (aX (aW dz (ae (aH (pv 0)) a5 p (aA (pv 2) (aA (pv 3) aD))) ai (aU _)) (aF (aI (dI T.Qj))) aZ) (aE (aX (aW f9 (pv 4) aG (aU _)) (aF (aI (dI T.Qe))) aZ) (aE (aX (aW (uM Y) (fB (aA (pv 2) (aA (pv 3) aD))) (ae (pv 1) a4 p (aA (pv 5) aD)) (by with_unfolding_all rfl)) (aF (aI (dI T.Qw))) aZ) (aF (aI ai)))))),?_);have(a2,an):=TT.ins;have(bs,ab):=TT.w.ins;have(b0,aj):=TT.w.land.ins;have O:=TT.w.ok;have av:=TT.w.gr;have o:AH H H:=λ_ _ e=>e;exists N,b;simp![];refine ak (λB=>?_) (λB=>?_);have:v=u:=by have:=DT B;lia
 have e:Fe g (Ac st n) u v left (st.now+a)=AB:=by unfold Fe;rw[AJ this.symm]
 rw[e]at k;exact k H o;have i:u≠v:=λz=>B (by rw[z];simp);subst b;exists N,b;simp![ab,J.cl,J.Dv,dR,aj,fR (g:=g) (pc:=r.pc) (ph:=r.ph) (pd:=r.pd) (ps:=r.ps) (x:="cost_between") (by decide +kernel)];refine(r.la,g,r.pc,r.ph,r.ps,r.sa,u,v,rfl,TT.w.land.s,X,?_);cases l:Ab g u v with
 |none=>
  have e:Fe g (Ac st n) u v left (st.now+a)=AA 2:=by unfold Fe;rw[AK i,l]
  rw[e]at k;simp![oV];exact k H o
 |some y=>
  simp![oV];subst b;exists N,b;simp![];refine ak (λq=>?_) (λq=>?_);have j:0<left:=by have:=DT q;lia
  have e:Fe g (Ac st n) u v left (st.now+a)=AA 3:=by unfold Fe;rw[AK i,l];simp[j]
  rw[e]at k;exact k H o;have j: ¬0<left:=λz=>q (BH ());subst b;exists N,b;refine(nV u,rfl,nV v,rfl,aN (by show 2<=100000;lia),λd Z=>?_);have f:AH H (L2.upd H d (.tup [nV u,nV v])):=AH.upd Z;have I:L2.upd H d (.tup [nV u,nV v]) d=AA (.tup [nV u,nV v]):=aB;generalize L2.upd H d (.tup [nV u,nV v])=b2 at f I;refine(.ref t,rfl,t,a2,_,rfl,f _ _ an,fu (by decide +kernel) (by decide +kernel),nV a,rfl,t,r,st,g,n,ol,os,a,rfl,TT.same f,λU S M bm C a1 R=>?_);refine(U,S,Fi st n a,d,(AE u v),rfl,a1,R,rfl,C _ _ I,_,rfl,?_);show (if ((Fi st n a).contains (AE u v))=AC then _ else _);rw[jk O av];have D:=f.trans C;cases G:EA (Ac st n) u v (st.now+a)with
  |true=>
   have e:Fe g (Ac st n) u v left (st.now+a)=AA 6:=by unfold Fe;rw[AK i,l];simp[j,G]
   rw[e]at k;exact k M D
  |false=>
   have e:Fe g (Ac st n) u v left (st.now+a)=AB:=by unfold Fe;rw[AK i,l];simp[j,G]
   rw[e]at k;subst b;exact k M D
def jv:∀{cs:List Nat} {i t left:Nat},G2 g pl i t left cs=AB->Path g cs
 | [],i,t,left,h=>by rw[G2]at h;cases h
 | [u],i,t,left,h=>by
  rw[jx]at h;by_cases q:EZ g pl u t=AF;rw[AJ q]at h;cases h;have k:An g u=AC:=by
   have q:EZ g pl u t=AC:=by simpa using q
   unfold EZ at q;rw[DN]at q;exact q.1
  exact(by simp,λc d=>by erw[Av.mp d];exact k,λi u v l f=>by simp at f)
 |u::v::r,i,t,left,h=>by
  rw[jx]at h;by_cases q:EZ g pl u t=AF;rw[AJ q]at h;cases h;rw[AK q,MO]at h;have k:An g u=AC:=by
   have q:EZ g pl u t=AC:=by simpa using q
   unfold EZ at q;rw[DN]at q;exact q.1
  have key:(u=v\/∃w,Ab g u v=AA w)/\Path g (v::r):=by
   by_cases e:u=v;rw[AJ e]at h;exact(.inl e,jv h);rw[AK e]at h;cases m:Ab g u v with
   |none=>rw[m]at h;cases h
   |some w=>
    rw[m]at h;simp only at h;split at h;cases h;split at h;cases h;exact(.inr (w,rfl),jv h)
  refine(by simp,λc d=>?_,λj a b l f=>?_);rcases Aj.mp d with rfl|d;exact k;exact key.2.st c d;cases j with
  |zero=>
   cases l;cases f;exact key.1
  |succ j=>exact key.2.step j a b (by simpa using l) (by simpa using f)
inductive Pg(c:Cs)(vs:List V)(H:Hp)(Q:VK)(E:XK):Prop
 |mk:∀r s g n x pcl,∀cs:List Nat,vs=[.ref r.wa,nV n,.ref pcl]->Ad c H r s g->(AE n x)∈alive s->H pcl=AA (.lst (cs.map nV))->cs≠[]->(∀v∈cs,v<AG g)->cs.length<=101->(LJ g (Ac s n) s.now (Dy x.plan s.now) (FZ g x s.now) cs=AB->Path g cs->∀H',AH H H'->Q .Al H')->(∀e,LJ g (Ac s n) s.now (Dy x.plan s.now) (FZ g x s.now) cs=AA e->∀t H',AH H H'->H' t=AA (.tup [nV e.1,nV e.2])->Q (.ref t) H')->Pg c vs H Q E
structure Y9(c:Cs)(H:Hp)(r:WA)(s:Eg)(g:Aw)(n:Nat)(pcl wk t ol:AD)(os:List AD)(x:DI)(cs:List Nat)(i:Nat)(σ:L2.St)(H':Hp):Prop where
 ex:∃(left:Nat) (a b c d:Option V),σ=[AA (.ref r.wa),AA (nV n),AA (.ref pcl),AA (.ref wk),AA (.ref t),AA (nV left),a,b,c,d]/\(i=0->left=x.left)/\
  (∀j u,i=j+1->cs[j]? =AA u->An g u=AC/\G2 g (Ac s n) 0 s.now x.left cs=MO g (Ac s n) j (s.now+j) left (cs.drop j))
 same:AH H H'
 XH:GK c H' t r s g n ol os
def uO(g2:Ef c)(f2:Ag C "wrong_in_plan" "wrong_in_plan" TY e8 fd)(T:Ij mg)(cd:DO C mg c.W)(ce:GL C mg c.K)(ge:FX bl w C mg base 4 "Traffic" c.T ["self","world","number"] (NS c))(f6:A6 bl w C mg base 5 c.T "may_rest" ["self","cell","ahead"] (NX c))(f3:A8 bl w C mg base 5 "wrong_in_step" ["world","traffic","cell","near","left","ahead"] (Pj c))(f4:A8 bl w C mg base 5 "wrong_at_cell" ["world","traffic","cell","ahead"] (Pl c))(f5:A8 bl w C mg base 5 "time_left_after" ["land","cell","near","left"] (Lk c.L)):
  AV bl w C mg base AZ 6 e8 fd ["world","number","cells"] (Pg c):=by
 exists f2.go ["world","number","cells","walker","traffic","left","place","cell","last","why"],ha,gr,Y;obtain⟨r,st,g,n,x,av,cs,rfl,W,ej,ab,eo,c5,gw,b0,J⟩:=h;have l:=eC Y;refine(_,(aE (aS 3 (fC l (aH (pv 0)) (pv 1) (λ_ _=>rfl))) (aE (aX (aW gR (aJ aL (pv 2) aG) (aJ aL (aH (pv 3)) aG) (aU _)) (aF (aI (fB (aA aG (aA (dI T.Ql) aD))))) aZ) (aE (aS 4 (gP ge Y rfl (aA (pv 0) (aA (pv 1) aD)))) (aE (aS 5 (aH (pv 3))) (aE (dg D0 rfl (jL rfl T.Gy (aA (pv 2) aD)) (eP rfl (dX (aa 6) (dX (aa 7) eO))) (aE (aX (aW f9 (pv 6) aG (aU _)) (aE (aS 8 (aJ aL (pv 2) (aV dQ (pv 6) aG))) (aE (aS 9 (ag f3 Y rfl (aA (pv 0) (aA (pv 4) (aA (pv 8) (aA (pv 7) (aA (pv 5) (aA (aV dQ (pv 6) aG) aD)))))))) (aE (aX (aW ff (pv 9) ai (aU _)) (aF (aI (fB (aA (pv 6) (aA (pv 9) aD))))) aZ) (aF (aS 5 (ag f5 Y rfl (aA (aH (pv 0)) (aA (pv 8) (aA (pv 7) (aA (pv 5) aD)))))))))) aZ) (aE (aS 9 (ag f4 Y rfl (aA (pv 0) (aA (pv 4) (aA (pv 7) (aA (pv 6) aD)))))) (aF (aX (aW ff (pv 9) ai (aU _)) (aF (aI (fB (aA (pv 6) (aA (pv 9) aD))))) aZ))))) (aE (aX (fw (dU (ae (pv 4) f6 Y (aA (aJ aL (pv 2) (db dZ aG)) (aA (aV dQ (bD dj (by rfl) T.C2 EB (aA (pv 2) aD)) aG) aD))))) (aF (aI (fB (aA (aV dQ (bD dj (by rfl) T.C2 EB (aA (pv 2) aD)) aG) (aA (dI T.Qk) aD))))) aZ) (aF (aI ai)))))))),?_);have O:=W.ok;have ey:=W.gr;have(fb,ew):=W.ins;have(gs,ck,p,g7,g5,g4,g3,e7,ea,e6,a5):=W.walker ej;have e1:Dy x.plan st.now=DY x.plan.cells 0:=by
  have:=eG a5.path.ne 0;rw[Hm,a5.begun]at this;exact this
 have ep:FZ g x st.now=x.left:=by
  have:=lG (g:=g) a5.path.ne;rw[a5.begun]at this;exact this
 rw[e1,ep]at b0 J;have d6:x.plan.cells[0]? =AA (DY x.plan.cells 0):=by
  have:=fH a5.path.ne 0;rw[M0]at this;exact this
 generalize DY x.plan.cells 0=ca at d6 b0 J;have er:=Fb.mpr eo;obtain⟨v0,ds⟩:∃v0,cs[0]? =AA v0:=(_,AX er);have d5:cs.head? =AA v0:=by rw[List.head?_eq_getElem?];exact ds
 exists N,B;refine(.ref r.wa,rfl,r.wa,c.W,fb,_,.ref r.wd,rfl,ew,cd.cl,cd.FT,d8,nV n,rfl,r.wd,.ref ck,rfl,?_,?_);rw[<-e6];exact DV.k (k:=AW (n:Int)) W.wd;subst B;exists N,B;simp![ab,BC,ds,EH,ea,ce.cl,ce.Fg,eZ,e7.plan,d6];refine ak (λb5=>?_) (λb5=>?_);have en:v0≠ca:=λz=>by rw[z]at b5;simp at b5
 simp![];refine(aN (),λp L=>J (AE 0 1) ?_ p _ (AH.upd L) aB);unfold LJ;rw[AJ (by rw[d5];intro z;exact en (Ap z))]
 ·have heq:v0=ca:=by
   have: ¬(!decide ((v0:Int)=(ca:Int)))=AC:=b5;simp at this;lia
  have ek:LJ g (Ac st n) st.now ca x.left cs=G2 g (Ac st n) 0 st.now x.left cs:=by
   unfold LJ;rw[AK (by rw[d5,heq];simp)]
  rw[ek]at b0 J;subst B;exists N,B;refine(.ref r.wa,rfl,nV n,rfl,λt e9 dm dn gi=>(t,e9,r,st,g,n,rfl,aB,?_,λol os f1 fe fy=>(rfl,?_)));refine W.same λb o e=>?_;rw[aC (aT e dm),aC (aT e dn)];exact e;have co:AH H f1:=AH.made dm dn λb o e e2=>fe b o e (by simpa using e2);subst B;exists N,B;simp![co _ _ ea,ce.cl,ce.Kw,i7];subst B;exists N,B;refine(.ref av,rfl,av,_,rfl,AN.of (co _ _ ab),?_);refine xn (K:=C) (a:=av) (xs:=cs.map nV) (Y9 c H r st g n av ck t ol os x cs) ((x.left,_,_,_,_,rfl,λ_=>rfl,λj u h=>by lia),co,fy) (λi c8 S _ I=>AN.of (I.same _ _ ab)) ?_ ?_;rintro i gg aj c8 S el ⟨⟨left,fx,fr,fq,fj,rfl,b7,b6⟩,bs,cg⟩ e3;obtain⟨v,X,rfl⟩:=dN el;have c1:=c5 v (Ar X);have c3:i<cs.length:=(AY.mp X).1;have cm:AH S (L2.upd S aj (.tup [nV i,nV v])):=AH.upd e3;have eb:L2.upd S aj (.tup [nV i,nV v]) aj=AA (.tup [nV i,nV v]):=aB;show B0 _ _ _ _ _ (L2.upd S aj (.tup [nV i,nV v])) _;generalize L2.upd S aj (.tup [nV i,nV v])=ci at cm eb;have an:=bs.trans cm;have c6:=cg.same cm;refine(aj,_,rfl,BB.of eb,rfl,nV i,[nV v],rfl,nV v,[],rfl,rfl,?_);exists fz,e5;have rest:∀bm a0 ef ec,AH ci bm->G2 g (Ac st n) 0 st.now x.left cs=G2 g (Ac st n) i (st.now+i) a0 (cs.drop i)->(i=0->a0=x.left)->
    fz [AA (.ref r.wa),AA (nV n),AA (.ref av),AA (.ref ck),AA (.ref t),AA (nV a0),AA (nV i),AA (nV v),ef,ec] bm:=by
   intro bm a0 ef ec U f g0;have a6:=c6.same U;subst e5;exists c7,R;simp![];refine(r,st,g,n,t,ol,os,v,i,rfl,a6,c1,λhf c9=>?_);have dd:=(an.trans U).trans c9;have Z:cs.drop i=v::cs.drop (i+1):=by
    rw[Go c3]
    congr 1
    exact(AY.mp X).2
   rw[Z,jx]at f;subst R;unfold ID;by_cases c2:EZ g (Ac st n) v (st.now+i)=AF;rw[AJ c2]at f|-;simp![oV];refine(aN (),λp L=>J _ f p _ (dd.trans (AH.upd L)) aB);rw[AK c2]at f|-;simp![oV];refine((a0,_,_,_,_,rfl,λh=>by lia,λj u g1 l=>?_),dd,a6.same c9);have:j=i:=by lia
   subst this;rw[X]at l;cases l;refine(?_,by rw[f,Z]);have q:EZ g (Ac st n) v (st.now+j)=AC:=by simpa using c2
   unfold EZ at q;rw[DN]at q;exact q.1
  simp![];refine ak (λc4=>?_) (λc4=>?_);have gv:0<i:=by have:=DT c4;lia
  obtain⟨j,rfl⟩:∃j,i=j+1:=(i - 1,by lia);obtain⟨u,l⟩:∃u,cs[j]? =AA u:=(_,AX ());have b2:=c5 u (Ar l);have(d2,f):=b6 j u rfl l;have M:((j+1:Nat):Int) - 1=(j:Int):=by lia
  exists c7,R;simp![an _ _ ab,M,BC,l,EH];subst R;exists c7,R;simp![M];refine(r,st,g,n,t,ol,os,u,v,left,j,by rw[M],c6,b2,c1,λbm U=>?_);have ei:=an.trans U;have a6:=c6.same U;subst R;have Z:cs.drop j=u::v::cs.drop (j+1+1):=by
   rw[Go (),Go c3]
   congr 1
   exact(AY.mp l).2
   congr 1
   exact(AY.mp X).2
  have e0:cs.drop (j+1)=v::cs.drop (j+1+1):=by
   rw[Go c3]
   congr 1
   exact(AY.mp X).2
  rw[Z,MO]at f;have fin:∀e,Fe g (Ac st n) u v left (st.now+j)=AA e->G2 g (Ac st n) 0 st.now x.left cs=AA (AE (j+1) e):=λe d=>by
   unfold Fe at d;by_cases D:u=v;rw[AJ D]at d;cases d;rw[AK D]at d f;rw[f];cases G:Ab g u v with
   |none=>rw[G]at d;cases d;rfl
   |some y=>
    rw[G]at d;simp only at d|-;split at d;cases d;rename_i q;rw[AJ q];rename_i q;rw[AK q];split at d;cases d;rename_i cr;rw[AJ cr];cases d
  have go:Fe g (Ac st n) u v left (st.now+j)=AB->(v≠u->0<E6 g u v)/\G2 g (Ac st n) 0 st.now x.left cs=G2 g (Ac st n) (j+1) (st.now+ (j+1)) (if v=u then left - 1 else E6 g u v - 1) (cs.drop (j+1)):=λd=>by
   unfold Fe at d;rw[e0];by_cases D:u=v;rw[AJ D]at f;exact(λz=>absurd D.symm z,by rw[f,AJ D.symm];rfl);rw[AK D]at d f;cases G:Ab g u v with
   |none=>rw[G]at d;cases d
   |some y=>
    have dp:y=E6 g u v:=by
     have:=gf (dq G).2.2.1;rw[G]at this;split at this;exact Ap this;cases this
    have hyp:=step_pos G;rw[G]at d f;simp only at d f;split at d;cases d;rename_i q;rw[AK q]at f;split at d;cases d;rename_i cr;rw[AK cr]at f;exact(λ_=>by rw[<-dp];exact hyp,by rw[f,AK (λz=>D z.symm),dp];rfl)
  exists c7,R;cases d1:Fe g (Ac st n) u v left (st.now+j)with
  |some e=>
   simp![oV];exact(aN (),λp L=>J _ (fin e d1) p _ (ei.trans (AH.upd L)) aB)
  |none=>
   have(ez,e4):=go d1;simp![oV];subst R;have(g6,et):=a6.w.ins;simp![et,cd.cl,cd.Dv,dR];refine(r.la,g,r.pc,r.ph,u,v,left,rfl,a6.w.land.s.b,b2,c1,ez,?_);exact rest bm _ _ _ U e4 (λh=>by lia)
  have ev:i=0:=by
   rcases Sc i with h|h;exact h;exact absurd (BH (by lia:(0:Int)<(i:Int))) c4
  subst ev;refine rest ci left _ _ (λ_ _ e=>e) ?_ b7;rw[Hm,Su,b7 rfl]
  ·rintro c8 S ⟨⟨left,fx,fr,fq,fj,rfl,b7,b6⟩,bs,cg⟩;rw[AL]at b6 b7;obtain⟨m,d4⟩:∃m,cs.length=m+1:=(cs.length - 1,by lia);obtain⟨u,l⟩:∃u,cs[m]? =AA u:=(_,AX ());have b2:=c5 u (Ar l);have(d2,f):=b6 m u d4 l;have Z:cs.drop m=[u]:=by
    rw[Go (),Lg ()]
    congr 1
    exact(AY.mp l).2
   rw[Z,MO,<-jF O ey d2]at f;have eq:cs.getLast? =AA u:=by rw[PD,d4];exact l
   subst B
   try dsimp only
   exists N,B;have(g8,eu):=cg.ins;have M:((cs.length:Int) - 1)=(m:Int):=by lia
   simp![eu,fu (wa:=r.wa) (ol:=ol) (x:="may_rest") (by decide +kernel) (by decide +kernel),bs _ _ ab,gJ,Kl,eq,EH,AL,M];refine(t,r,st,g,n,ol,os,u,m,by rw[M],cg,b2,λci an=>?_);have cp:=bs.trans an;simp![];cases d3:restOk st g n u m with
   |false=>
    rw[d3,AJ rfl]at f;simp![cp _ _ ab,AL];exact(aN (),λp L=>J _ f p _ (cp.trans (AH.upd L)) (by rw[aB,M];rfl))
   |true=>
    rw[d3,AK (by simp)]at f;subst B;exact b0 f (jv f) ci cp
structure EY(mg:Str->Option AI):Prop where
 Qt:GI mg "GROUND" 0
 Qp:GI mg "MOST_FIELDS" 3
 Qn:GI mg "MOST_WALKERS" 6
 Qr:GI mg "LAST_TICK" 1000000
 C2:mg "len"=AB
 HR:mg "any"=AB
 JO:mg "zip"=AB
 Gy:mg "enumerate"=AB
 Gx:mg "list"=AB
 Df:mg "range"=AB
inductive Kq(vs:List V)(H:Hp)(Q:VK)(E:XK):Prop
 |mk:∀p,∀ns:List Int,vs=[.ref p]->H p=AA (.lst (ns.map V.int))->ns.length<=10000->(∀q H',H q=AB->AH H H'->H' q=AA (.lst ((Jb ns).map V.int))->Q (.ref q) H')->Kq vs H Q E
inductive Nh(vs:List V)(H:Hp)(Q:VK)(E:XK):Prop
 |mk:∀o:Option Nat,vs=[oV o]->Q (.int (optNum o+1)) H->Nh vs H Q E
def lU(l:List Nat):(Vbwsal.ints l).map V.int=l.map nV:=by
 unfold Vbwsal.ints;erw[Dc];rfl
def qw(g:Aw)(d:DJ):∀(n c:Nat),(Fx g d n c).length<=n+1
 | 0,c=>by simp[Fx]
 |n+1,c=>by
  erw[Fx];split;simp;split;simp;rename_i u _;have:=qw g d n u;simp;lia
def uU(i:Ag g "with_count" "with_count" Tc f fd)(T:EY mg):AV o w g mg base AZ 1 f fd ["numbers"] Kq:=by
 exists i.go ["numbers"],n,j,l;obtain⟨p,ns,rfl,a,m,k⟩:=h;refine(_,(aF (aI (aV gp (af (aA (bD dj (by rfl) T.C2 EB (aA (pv 0) aD)) aD)) (pv 0)))),?_);refine(.ref p,rfl,p,_,rfl,a,aN (by simp),λq d=>(.ref p,rfl,q,p,_,_,rfl,rfl,aB,by rw[aC (aT a d)];exact a,by rw[AL];exact aN (by simp;lia),λe c=>?_));have b:AH H (L2.upd H q (.lst [V.int (ns.map V.int).length])):=AH.upd d;refine k e _ (b.free c) (b.trans (AH.upd c)) ?_;rw[aB,AL];rfl
def v6(b:Ag a "and_one" "and_one" U5 f fd):AV g w a mg base AZ 1 f fd ["number"] Nh:=by
 exists b.go ["number"],e,c,d;obtain⟨o,rfl,k⟩:=h;refine(_,(aF (aI (fc (aW dz (pv 0) ai (aU _)) aG (aV dG (pv 0) aG)))),?_);cases o with
 |none=>
  simp![oV];exact k
 |some n=>
  simp![oV];exact k
def ug(a1:Ag j "tell_way" "tell_way" Tq f fd)(T:EY mg)(n:DO j mg c.W)(a4:A8 I w j mg base 4 "least_costs" ["land","start"] (Ks c.L PL))(a2:A8 I w j mg base 4 "with_count" ["numbers"] Kq)(a3:A8 I w j mg base 4 "way_told" ["land","costs","start","end"] (Po c.L)):
  AV I w j mg base AZ 5 f fd ["world","given"] (DM c PL PF 2):=by
 exists a1.go ["world","given","start","end","costs"],cd,a6,u;obtain⟨r,st,g,b5,as,us,x,rfl,A,k⟩:=h;refine(_,(aE (aS 2 (aJ aL (pv 1) aG)) (aE (aS 3 (aJ aL (pv 1) aG)) (aE (aS 4 (ag a4 u rfl (aA (aH (pv 0)) (aA (pv 2) aD)))) (aE (aX (aW dz (aJ aL (pv 4) (pv 3)) ai (aU _)) (aF (aI (af (aA aG aD)))) aZ) (aF (aI (aV gp (af (aA aG (aA (aJ aL (pv 4) (pv 3)) aD))) (ag a2 u rfl (aA (ag a3 u rfl (aA (aH (pv 0)) (aA (pv 4) (aA (pv 2) (aA (pv 3) aD))))) aD))))))))),?_);have(b3,z,bl):=A.known (by decide);obtain⟨a,b,rfl,rfl, -, -⟩:=A.n2 (k:=.cell) (k2:=.cell) rfl (by decide) (by decide);have Y:Call.way (a:Int) (b:Int)=x:=Ap A.call;subst Y;have an:a<AG g:=by have:=z a (show (a:Int)∈[(a:Int),(b:Int)] by simp);lia
 have R:b<AG g:=by have:=z b (show (b:Int)∈[(a:Int),(b:Int)] by simp);lia
 have m:act st (.way (a:Int) (b:Int))=(AE st (match way g a b with
  |none=>[0]
  |some x=>1::(x.1:Int)::Jb (Vbwsal.ints x.2))):=dy A.W.gr z
 have(ca,aj):=A.W.ins;have G:=A.W.ok.Ej g A.W.gr;have O:(A0 g a).length=AG g:=(fG (g:=g) (s:=a) G.wide).len;exists N,d;simp![A.gv];subst d;exists N,d;simp![A.gv];subst d;exists N,d;simp![aj,n.cl,n.Dv,dR];refine(r.la,g,r.pc,r.ph,r.ps,r.sa,a,rfl,A.W.land.s,an,A.T.l,λp o b2 D t C=>?_);subst d;have S:=A.W.tab D A.T.l.aY;have(b7,ab):=S.ins;have(a5,bm):=t.aY;exists N,d;simp![C,dM (show b<(A0 g a).length by rw[O];exact R)];cases hd:at_ (A0 g a) b with
 |none=>
  have B:way g a b=AB:=by unfold way;simp only;rw[hd];rfl
  rw[B]at m;simp![oV];refine(aN (),λl v=>?_);exact k.fin A.W A.T m D t (λ_ _ e=>e) v rfl
 |some y=>
  have B:way g a b=AA (AE y ((Fx g (A0 g a) (AG g) b).reverse)):=by unfold way;simp only;rw[hd];rfl
  rw[B]at m;simp![oV];subst d;simp![C,dM (show b<(A0 g a).length by rw[O];exact R),hd,oV];refine(aN (),λq Z=>?_);have i:AH o (L2.upd o q (.lst [V.int 1,V.int y])):=AH.upd Z;have M:L2.upd o q (.lst [V.int 1,V.int y]) q=AA (.lst [V.int 1,V.int y]):=aB;generalize L2.upd o q (.lst [V.int 1,V.int y])=ci at i M|-;simp![i _ _ ab,n.cl,n.Dv,dR];refine(r.la,g,r.pc,r.ph,p,a,b,y,rfl,(S.same i).land.s.b,i _ _ C,hd,λX cg b0 L a0=>?_);have b4:=qw g (A0 g a) (AG g) b;have b6:=G.few;refine(X,Vbwsal.ints (Fx g (A0 g a) (AG g) b).reverse,rfl,by rw[a0,lU],by unfold Vbwsal.ints;rw[AL,NA];lia,λU ce bs J av=>?_);refine(q,U,_,_,rfl,rfl,J _ _ (L _ _ M),av,aN (by unfold Jb Vbwsal.ints;simp;lia),λl v=>?_);exact k.fin A.W A.T m D t (i.trans (L.trans J)) v rfl
def Ad.wQ(d:Ad c H r s g)(f:b∈r.muts):∀o,H b=AA o->(kindOf o).1<4:=by
 intro o e;rw[WA.dt]at f;rcases f with h|h|h|h|h;have(i,a):=d.ins;rw[h,a]at e;cases e;show 1<4;decide;rw[h,d.wd]at e;cases e;show 2<4;decide;have(xs,a):=d.eW h;rw[a]at e;cases e;show 0<4;decide;have(i,fs,a):=d.fi h;rw[a]at e;cases e;show 1<4;decide;have(i,fs,a):=d.fh h;rw[a]at e;cases e;show 1<4;decide
def Gd.qL(k:Gd c PL PF H r s us x Q)(u:Ad c H r s g)(T:D7 H PL PF)(e:act s x=(AE n t))(j:AQ r.muts H i)(p:EM H i)(f:EN H r (refsOf us) r')(v:Ad c i r' n g')(a:AH i m)(d:m l=AB)(q:xs=t.map V.int):Q (.ref l) (L2.upd m l (.lst xs)):=by
 subst q;have o:H l=AB:=p l (a.free d);exact k l r' g' _ o ((j.mono λb h=>FP _ h).trans (AH.but (a.trans (AH.upd d)))) ((T.but j λb h=>u.wQ h).same (a.trans (AH.upd d))) f (by erw[e];exact v.same (a.trans (AH.upd d))) (by erw[e];exact aB)
def EN.more(f:EN H r [] r'):EN H r rows r':=(f.wa,f.muts,λb a=>by
 rcases f.lists b a with h|h|h;exact .inl h;exact .inr (.inl h);simp at h)
def EN.back(f:EN d r rows r')(c:EM H d):EN H r rows r':=(f.wa,λb a=>by
 rcases f.muts b a with h|h;exact .inl h;exact .inr (c b h),λb a=>by
 rcases f.lists b a with h|h|h;exact .inl h;exact .inr (.inl (c b h));exact .inr (.inr h))
def Gd.done(k:Gd c PL PF H r s us x Q)(p:Ad c H r s g)(T:D7 H PL PF)(e:act s x=(AE h o))(n:AQ r.muts H a)(j:EM H a)(f:EN H r [] r')(q:Ad c a r' h g')(d:AH a b)(i:b l=AB)(m:xs=o.map V.int):Q (.ref l) (L2.upd b l (.lst xs)):=
 k.qL p T e n j f.more q d i m
def vI(O:Ag o "make_walker" "make_walker" UR f fd)(T:EY mg)(n:DO o mg c.W)(R:A6 t w o mg base 5 c.L "is_wall" ["self","cell"] (JG c.L))(S:A6 t w o mg base 5 c.W "is_always_open" ["self","cell"] (Ni c))(U:A6 t w o mg base 5 c.W "has_plan_at" ["self","cell"] (Lp c))(X:A6 t w o mg base 5 c.W "add_walker" ["self","cell"] (QR c)):
  AV t w o mg base AZ 6 f fd ["world","given"] (DM c PL PF 9):=by
 exists O.go ["world","given","cell"],a3,Y,q;obtain⟨r,st,g,av,as,us,x,rfl,A,k⟩:=h;refine(_,(aE (aS 2 (aJ aL (pv 1) aG)) (aE (aX (aW dh (aH (pv 0)) (dI T.Qn) (aU _)) (aF (aI (af (aA (db dZ aG) aD)))) aZ) (aE (aX (PW.pt (eh (dU (ae (aH (pv 0)) R q (aA (pv 2) aD))) (fI (fw (dU (ae (pv 0) S q (aA (pv 2) aD))))))) (aF (aI (af (aA (db dZ aG) aD)))) aZ) (aE (aX (dU (ae (pv 0) U q (aA (pv 2) aD))) (aF (aI (af (aA (db dZ aG) aD)))) aZ) (aE (dW (ae (pv 0) X q (aA (pv 2) aD))) (aF (aI (af (aA (aH (pv 0)) aD))))))))),?_);have(aj,C,Z):=A.known (by decide);obtain⟨a,rfl,rfl, -⟩:=A.n1 (k:=.cell) rfl (by decide);have I:Call.walker (a:Int)=x:=Ap A.call;subst I;have D:a<AG g:=by have:=C a (show (a:Int)∈[(a:Int)] by simp);lia
 have d:act st (.walker (a:Int))=if 6<=st.walkers.length then(AE st [-5])else if mayBe g (Ac st 0) a st.now=AF\/Gg g (Ac st 0) a st.now=AF then(AE st [-6])
  else(AE ({st with walkers:=st.walkers ++ [{plan:={begun:=st.now,cells:=[a]},left:=0}]}) [(st.walkers.length:Int) + 1]):=dy A.W.gr C;simp only[wc A.W.ok A.W.gr]at d;have(a2,p):=A.W.ins;have(a0,J):=A.W.land.ins;have ab:=A.W.ok.GB;exists N,j;simp![A.gv];subst j;exists N,j;simp![p,n.cl,n.Kv,i8];by_cases an:st.walkers.length=6;rw[AJ (BH ())];rw[AJ ()]at d;simp![];refine(aN (),λl i=>?_);exact k.di A.W A.T d (λ_ _ e=>e) i rfl
 ·rw[AK (by rw[DH ()];decide)];rw[AK ()]at d;subst j;exists N,j;simp![p,n.cl,n.Dv,dR,J,fR (x:="is_wall") (by decide +kernel)];refine(r.la,g,r.pc,r.ph,a,rfl,A.W.land.s.b,D,?_);cases u:An g a with
  |false=>
   rw[u,AJ (by simp)]at d;simp![];refine(aN (),λl i=>?_);exact k.di A.W A.T d (λ_ _ e=>e) i rfl
  |true=>
   simp![p,d7 (x:="is_always_open") (by decide +kernel)];refine(r,st,g,a,rfl,A.W,D,?_);cases z:Gh g a with
   |false=>
    rw[z,AJ (by simp)]at d;simp![];refine(aN (),λl i=>?_);exact k.di A.W A.T d (λ_ _ e=>e) i rfl
   |true=>
    subst j;exists N,j;simp![p,d7 (x:="has_plan_at") (by decide +kernel)];refine(r,st,g,a,rfl,A.W,λa5 m=>?_);cases y:(Ac st 0).any (D9 st.now a)with
    |true=>
     rw[y,AJ (by simp)]at d;simp![];refine(aN (),λl i=>?_);exact k.di A.W A.T d m i rfl
    |false=>
     rw[u,z,y,AK (by simp)]at d;subst j;exists N,j;simp![m _ _ p,d7 (x:="add_walker") (by decide +kernel)];refine(r,st,g,a,rfl,A.W.same m,u,by lia,λr' a4 M L f2 G=>?_);subst j;have(a1,B):=G.ins;rw[f2.wa]at B;simp![B,n.cl,n.Kv,i8];refine(aN (),λl i=>?_);refine k.done A.W A.T d ((AH.but m).trans M) (m.grow.trans L) (f2.wa,λb v=>?_,λb v=>?_) G (λ_ _ e=>e) i ?_;rcases f2.muts b v with h|h;exact .inl h;exact .inr (m.free h);rcases f2.lists b v with h|h|h;exact .inl h;exact .inr (.inl (m.free h));exact .inr (.inr h);show [V.int ((st.walkers ++ _).length:Nat)]=[V.int ((st.walkers.length:Int) + 1)];rw[BZ];rfl
def vC(G:Ag j "pass_on" "pass_on" UL f fd)(T:EY mg)(b:DO j mg c.W)(I:A6 D w j mg base 5 c.W "pass_ticks" ["self","ticks"] (P4 c)):
  AV D w j mg base AZ 6 f fd ["world","given"] (DM c PL PF 12):=by
 exists G.go ["world","given"],S,J,y;obtain⟨r,st,g,M,as,us,x,rfl,A,k⟩:=h;refine(_,(aE (aX (aW f9 (aV dG (aH (pv 0)) (aJ aL (pv 1) aG)) (dI T.Qr) (aU _)) (aF (aI (af (aA (db dZ aG) aD)))) aZ) (aE (dW (ae (pv 0) I y (aA (aJ aL (pv 1) aG) aD))) (aF (aI (af (aA (aH (pv 0)) aD)))))),?_);obtain⟨n,rfl,rfl,L,m⟩:=A.n1 (k:=.ticks) rfl (by decide);have v:Call.pass (n:Int)=x:=Ap A.call;subst v;have m:(n:Int)<=1000:=m;have a:act st (.pass (n:Int))=if 1000000<st.now+n then(AE st [-5])else(AE ({st with now:=st.now+n,walkers:=st.walkers.map (GS g (st.now+n))}) [((st.now+n:Nat):Int)]):=dy A.W.gr (λz u=>by simp at u)
 have(R,p):=A.W.ins;exists N,i;simp![p,b.cl,b.JJ,ga,A.gv];by_cases q:1000000<st.now+n;rw[AJ (BH ())];rw[AJ q]at a;simp![];refine(aN (),λl d=>?_);exact k.di A.W A.T a (λ_ _ e=>e) d rfl
 ·rw[AK (by rw[DH ()];decide)];rw[AK q]at a;subst i;exists N,i;simp![p,d7 (x:="pass_ticks") (by decide +kernel),A.gv];refine(r,st,g,n,rfl,A.W,by lia,by lia,λr' U C B f2 t=>?_);subst i;have(O,o):=t.ins;rw[f2.wa]at o;simp![o,b.cl,b.JJ,ga];refine(aN (),λl d=>?_);exact k.done A.W A.T a C B f2 t (λ_ _ e=>e) d rfl
def u4(C:Ef c)(M:Ag p "remove_walker" "remove_walker" UE f fd)(T:EY mg)(o:DO p mg c.W):AV a0 w p mg base AZ 6 f fd ["world","given"] (DM c PL PF 14):=by
 exists M.go ["world","given"],av,O,R;obtain⟨r,st,g,m,as,us,x,rfl,A,k⟩:=h;refine(_,(aE (dW (tj (aH (pv 0)) (aJ aL (pv 1) aG) (rfl,rfl,rfl,rfl))) (aF (aI (af (aA aG aD))))),?_);have(S,U,u):=A.known (by decide);obtain⟨a,rfl,rfl, -⟩:=A.n1 (k:=.walker) rfl (by decide);have t:Call.remove (a:Int)=x:=Ap A.call;subst t;have(y,j):=u (a:Int) (show (a:Int)∈[(a:Int)] by simp);rw[Ep]at j;have(L,B):=A.W.ins;have(i,ka,kp,an,I,aj,ab,Z,Y,G,X):=A.W.walker j;have J:act st (.remove (a:Int))=(AE (G3 st a {y with here:=AF}) [0]):=(dy A.W.gr (λz q=>by simp at q)).trans (gq (fU.mpr j));exists N,D;refine(.ref r.wa,rfl,r.wa,c.W,L,_,.ref r.wd,rfl,B,o.cl,o.FT,d8,r.wd,rfl,.inl (_,.inl A.W.wd),.ref m,rfl,m,_,_,nV a,rfl,rfl,A.gv,rfl,_,AW (a:Int),_,A.W.wd,rfl,G,?_);subst D;refine(aN (by simp),λl v=>?_);have n:AQ [r.wd] H (L2.upd H r.wd (.dK (JN (Bb (alive st) r.ka) (AW (a:Int))))):=AQ.upd (by simp);refine k.done (r':={r with ka:=r.ka.eraseIdx i,kp:=r.kp.eraseIdx i}) A.W A.T J (n.mono λb d=>?_) (AH.grow (λ_ _ e=>e)).upd (rfl,λb d=> .inl ?_,λb d=> .inl ?_) (A.W.si C I rfl n aB) (λ_ _ e=>e) v rfl;rw[Av.mp d,WA.dt];simp;rw[WA.dt]at d|-;rcases d with h|h|h|h|h;exact .inl h;exact .inr (.inl h);exact .inr (.inr (.inl h));exact .inr (.inr (.inr (.inl h)));exact .inr (.inr (.inr (.inr (Sj h))));rw[WA.eU]at d|-;rcases d with h|h|h;exact .inl h;exact .inr (.inl h);exact .inr (.inr (Sj h))
def vJ(ca:Ef c)(b0:Ag G "make_field" "make_field" US f fd)(T:EY mg)(i:DO G mg c.W)(b1:FX bm w G mg base 4 "Field" c.F ["self","land","goal"] (QF c.L c.F)):AV bm w G mg base AZ 6 f fd ["world","given"] (DM c PL PF 6):=by
 exists b0.go ["world","given"],ce,b4,av;obtain⟨r,st,g,O,as,us,x,rfl,A,k⟩:=h;refine(_,(aE (aX (aW dh (bD dj (by rfl) T.C2 EB (aA (aH (pv 0)) aD)) (dI T.Qp) (aU _)) (aF (aI (af (aA (db dZ aG) aD)))) aZ) (aE (dW (dw FJ Fo F0 eA (aH (pv 0)) (aA (gP b1 av rfl (aA (aH (pv 0)) (aA (aJ aL (pv 1) aG) aD))) aD))) (aF (aI (af (aA (aV dQ (bD dj (by rfl) T.C2 EB (aA (aH (pv 0)) aD)) aG) aD)))))),?_);have(b6,L,b5):=A.known (by decide);obtain⟨a,rfl,rfl, -⟩:=A.n1 (k:=.cell) rfl (by decide);have an:Call.field (a:Int)=x:=Ap A.call;subst an;have M:a<AG g:=by have:=L a (show (a:Int)∈[(a:Int)] by simp);lia
 have n:act st (.field (a:Int))=if 3<=st.fields.length then(AE st [-5])else(AE ({st with fields:=st.fields ++ [KJ g a]}) [(st.fields.length:Int)]):=dy A.W.gr L
 have(S,B):=A.W.ins;have b7:=A.W.ok.Et;have a3:=A.W.Et;exists N,C;simp![B,i.cl,i.Hu,fo,A.W.fl,AL];by_cases cd:st.fields.length=3;rw[AJ (BH ())];rw[AJ ()]at n;simp![];refine(aN (),λl v=>?_);exact k.di A.W A.T n (λ_ _ e=>e) v rfl
 ·rw[AK (by rw[DH ()];decide)];rw[AK ()]at n;subst C;exists N,C;refine(.ref r.wa,rfl,r.wa,c.W,S,_,.ref r.fl,rfl,B,i.cl,i.Hu,fo,.inl (rfl,_,AN.of A.W.fl),.ref r.wa,rfl,r.wa,c.W,S,_,.ref r.la,rfl,B,i.cl,i.Dv,dR,.ref O,rfl,O,_,_,nV a,rfl,rfl,A.gv,rfl,λx D nx J ne=>?_);have I:AH H (L2.upd (L2.upd H D (.own x)) x (.ins c.F D [])):=λb o e=>by rw[aC (aT e nx),aC (aT e J)];exact e
  refine(x,D,r.la,g,r.pc,r.ph,r.ps,r.sa,a,rfl,aB,(A.W.same I).land.s,M,λp j bl bs a0=>(rfl,?_));have u:AH H j:=AH.made nx J λb o e d=>bl b o e (by simpa using d);have Y:=A.W.same u;have m:H p=AB:=I.free a0;refine(r.fl,_,.ref x,rfl,rfl,Y.fl,by rw[AL];exact dS (),?_);subst C;have((a5,a4),a1):=bs;have ab:x≠r.fl:=λz=>by rw[z,A.W.fl]at nx;cases nx
  have aj:p≠r.fl:=λz=>by rw[z,A.W.fl]at m;cases m
  have X:AQ [r.fl] j (L2.upd j r.fl (.lst (r.fa.map V.ref ++ [V.ref x]))):=AQ.upd (by simp);have q:=Y.zU (t:=a) (x:=x) (p:=p) M () X (by rw[aB,Dd];rfl) ((a5,by rw[aC ab];exact a4),by rw[Ee,aC aj];exact a1) (λz=>by have(_,_,e):=A.W.fi z;rw[nx]at e;cases e) (λz=>by have(_,e):=A.W.isList z;rw[m]at e;cases e);have U:AQ r.muts H (L2.upd j r.fl (.lst (r.fa.map V.ref ++ [V.ref x]))):=(AH.but u).trans (X.mono λb d=>by rw[Av.mp d,WA.dt,WA.dc];simp);have R:EM H (L2.upd j r.fl (.lst (r.fa.map V.ref ++ [V.ref x]))):=u.grow.upd;generalize L2.upd j r.fl (.lst (r.fa.map V.ref ++ [V.ref x]))=Z at q U R;have(a6,y):=q.ins;have y:Z r.wa=AA (.ins c.W a6 (DZ (.ref r.la) r.dl r.fl r.wd st.walkers.length st.now)):=y;have a2:Z r.fl=AA (.lst ((r.fa ++ [x]).map V.ref)):=q.fl;simp![y,i.cl,i.Hu,fo,a2,AL,BZ];refine(aN (),λl v=>?_);refine k.done (r':={r with fa:=r.fa ++ [x],fp:=r.fp ++ [p]}) A.W A.T n U R (rfl,λb d=>?_,λb d=>?_) q (λ_ _ e=>e) v ?_;rw[WA.dt,WA.dc]at d;rw[WA.dt,WA.dc];rcases d with h|h|h|h|h;exact .inl (.inl h);exact .inl (.inr (.inl h));rcases h with h|h|h|h|h|h|h;exact .inl (.inr (.inr (.inl (.inl h))));exact .inl (.inr (.inr (.inl (.inr (.inl h)))));exact .inl (.inr (.inr (.inl (.inr (.inr (.inl h))))));exact .inl (.inr (.inr (.inl (.inr (.inr (.inr (.inl h)))))));exact .inl (.inr (.inr (.inl (.inr (.inr (.inr (.inr (.inl h))))))));exact .inl (.inr (.inr (.inl (.inr (.inr (.inr (.inr (.inr (.inl h)))))))));rcases Az.mp h with h|h;exact .inl (.inr (.inr (.inl (.inr (.inr (.inr (.inr (.inr (.inr h)))))))));exact .inr (by rw[Av.mp h];exact m);rcases Az.mp h with h|h;exact .inl (.inr (.inr (.inr (.inl h))));exact .inr (by rw[Av.mp h];exact nx);exact .inl (.inr (.inr (.inr (.inr h))));rw[WA.eU,WA.dc]at d;rw[WA.eU,WA.dc];rcases d with h|h|h;rcases h with h|h|h|h|h|h|h;exact .inl (.inl (.inl h));exact .inl (.inl (.inr (.inl h)));exact .inl (.inl (.inr (.inr (.inl h))));exact .inl (.inl (.inr (.inr (.inr (.inl h)))));exact .inl (.inl (.inr (.inr (.inr (.inr (.inl h))))));exact .inl (.inl (.inr (.inr (.inr (.inr (.inr (.inl h)))))));rcases Az.mp h with h|h;exact .inl (.inl (.inr (.inr (.inr (.inr (.inr (.inr h)))))));exact .inr (.inl (by rw[Av.mp h];exact m));exact .inl (.inr (.inl h));exact .inl (.inr (.inr h));simp[a3]
inductive P6(C:AD)(vs:List V)(H:Hp)(Q:VK)(E:XK):Prop
 |mk:∀a dx g pc ph pd,vs=[.ref a,nV g.wide,.ref pc,.ref ph,.ref pd]->H a=AA (.ins C dx [])->H pc=AA (.lst (g.cells.map λc=>nV c.cost))->H ph=AA (.lst (g.cells.map λc=>nV c.height))->H pd=AA (.lst (g.cells.map λc=>oV c.door))->0<g.wide->g.wide<=1000->AG g<=150->(∃n,AG g=n * g.wide)->(∀ps sa H',AQ [a] H H'->H ps=AB->(∀b∈sa,H b=AB)->ps∉sa->D8 C H' a g pc ph pd ps sa->Q .Al H')->P6 C vs H Q E
structure zY(H:Hp)(g:Aw)(D:AD)(i:Nat)(H':Hp):Prop where
 ex:∃sa:List AD,sa.length=i/\H' D=AA (.lst (sa.map V.ref))/\AH H H'/\(∀b∈sa,H b=AB)/\D∉sa/\∀(j:Nat) (b:AD),sa[j]? =AA b->∃ts:List AD,H' b=AA (.lst (ts.map V.ref))/\FF H' ts (DE g j)
def vN(cm:Ag Z "__init__" "Land.__init__" UV f fd)(T:Dx Z mg C)(co:A6 ci w Z mg base 3 C "steps_from" ["self","cell"] (NU C)):
  AV ci w Z mg base AZ 4 f fd ["self","wide","costs","heights","doors"] (P6 C):=by
 exists cm.go ["self","wide","costs","heights","doors","cell"],c2,a6,b0;obtain⟨a,r,g,pc,ph,pd,rfl,av,J,a0,hd,hw,cr,a2,rows,k⟩:=h;refine(_,(aE (dH (pv 0) (pv 1) rfl) (aE (dH (pv 0) (bD dj (by rfl) T.C2 EB (aA (pv 2) aD)) rfl) (aE (dH (pv 0) (aV uN (aH (pv 0)) (pv 1)) rfl) (aE (dH (pv 0) (pv 2) rfl) (aE (dH (pv 0) (pv 3) rfl) (aE (dH (pv 0) (pv 4) rfl) (aF (dH (pv 0) (dk rfl a6 (fP rfl T.Df (aA (aH (pv 0)) aD)) (own:=[(AE ("cell") 5)]) (dO (by kernel_rfl)) (λ_ _ _ _ _=>(aa 5)) (λ_ _ _ _ _=>dv) (λ_ _ _ _ _=>(ae (pv 0) co b0 (aA (pv 5) aD)))) rfl)))))))),?_);have aj:∀b xs,H b=AA (.lst xs)->b≠a:=λb xs e z=>by rw[z,av]at e;cases e
 exists N,t;simp![av,T.cl,T.HK];refine(by show 0<1000;decide,?_);subst t;have ca:∀o,L2.upd H a o pc=AA (.lst (g.cells.map λc=>nV c.cost)):=λo=>by rw[aC (aj _ _ J)];exact J
 exists N,t;simp![ca,T.cl,T.EX,AL];refine(by show 1<1000;decide,?_);subst t;exists N,t;simp![T.cl,T.EX,T.VD];refine(V.int (g.cells.length:Nat),rfl,_,rfl,(by lia,by lia),by show 2<1000;decide,?_);subst t;exists N,t;simp![T.cl,T.FU];refine(by show 3<1000;decide,?_);subst t;exists N,t;simp![T.cl,T.Lz];refine(by show 4<1000;decide,?_);subst t;exists N,t;simp![T.cl,T.Hv];refine(by show 5<1000;decide,?_);subst t;have b5:((g.cells.length:Nat):Int) / (g.wide:Int)=((G4 g:Nat):Int):=by
  unfold G4;rw[AK ()];rfl
 rw[b5];generalize b7:De ("doors":Str) (V.ref pd) (De ("heights":Str) (V.ref ph) (De ("costs":Str) (V.ref pc) (De ("high":Str) (V.int ((G4 g:Nat):Int)) (De ("size":Str) (V.int ((g.cells.length:Nat):Int)) (De ("wide":Str) (nV g.wide) [])))))=cd;have b6:cd=[(AE ("wide":Str) (nV g.wide)),(AE ("size":Str) (nV (AG g))),(AE ("high":Str) (nV (G4 g))),(AE ("costs":Str) (.ref pc)),(AE ("heights":Str) (.ref ph)),(AE ("doors":Str) (.ref pd))]:=by rw[<-b7];rfl
 subst b6;have u:L2.upd H a (.ins C r [(AE ("wide":Str) (nV g.wide)),(AE ("size":Str) (nV (AG g))),(AE ("high":Str) (nV (G4 g))),(AE ("costs":Str) (.ref pc)),(AE ("heights":Str) (.ref ph)),(AE ("doors":Str) (.ref pd))]) a=AA (.ins C r [(AE ("wide":Str) (nV g.wide)),(AE ("size":Str) (nV (AG g))),(AE ("high":Str) (nV (G4 g))),(AE ("costs":Str) (.ref pc)),(AE ("heights":Str) (.ref ph)),(AE ("doors":Str) (.ref pd))]):=aB;have L:AQ [a] H (L2.upd H a (.ins C r [(AE ("wide":Str) (nV g.wide)),(AE ("size":Str) (nV (AG g))),(AE ("high":Str) (nV (G4 g))),(AE ("costs":Str) (.ref pc)),(AE ("heights":Str) (.ref ph)),(AE ("doors":Str) (.ref pd))])):=AQ.upd (by simp);generalize L2.upd H a (.ins C r [(AE ("wide":Str) (nV g.wide)),(AE ("size":Str) (nV (AG g))),(AE ("high":Str) (nV (G4 g))),(AE ("costs":Str) (.ref pc)),(AE ("heights":Str) (.ref ph)),(AE ("doors":Str) (.ref pd))])=M at u L;have y:∀b xs,H b=AA (.lst xs)->M b=AA (.lst xs):=λb xs e=>L b _ e (by simpa using aj b xs e);have a1:∀b,M b=AB->H b=AB:=λb e=>by
  cases q:H b with
  |none=>rfl
  |some o=>
   by_cases z:b=a;rw[z,u]at e;cases e;rw[L b o q (by simpa using z)]at e;cases e
 have ck:FG C M a g pc ph:=((r,_,u,rfl,rfl,rfl,rfl,rfl,rfl,rfl,rfl,rfl),y _ _ J,y _ _ a0,hw,a2,rows);refine(.ref a,rfl,a,C,r,_,nV (AG g),rfl,u,T.cl,T.EX,rfl,_,rfl,by lia,by lia,λD B=>?_);rw[Ep];refine lI (lo:=0) (n:=AG g) (zY M g D) ([],rfl,aB,AH.upd B,λb h=>by simp at h,by simp,λj b h=>by simp at h) ?_ ?_;intro i I b4 (sa,S,G,m,Y,nD,each);have ce:(0:Int) + (i:Int)=(i:Int):=by lia
 rw[ce];refine(rfl,?_);unfold Er;dsimp only;rw[AJ rfl];refine(.ref a,rfl,a,r,_,rfl,m _ _ u,rfl,nV i,rfl,a,g,pc,ph,i,rfl,ck.same m,b4,λp a4 a3 R v cg a5=>?_);have ab:p≠D:=λz=>by rw[z,G]at R;cases R
 refine(_,v _ _ G,by rw[AL];exact dS (),sa ++ [p],by rw[BZ,S];rfl,by rw[aB,Dd];rfl,λb o e=>?_,λb l=>?_,?_,λj b l=>?_);rw[aC (aT e B)];exact v _ _ (m b o e);rcases Az.mp l with h|h;exact Y b h;rw[Av.mp h];exact m.free R;intro h;rcases Az.mp h with h|h;exact nD h;exact ab (Av.mp h).symm;have an:∀d xs,a3 d=AA (.tup xs)->L2.upd a3 D (.lst (sa.map V.ref ++ [V.ref p])) d=AA (.tup xs):=λd xs hd=>by
  rw[aC (λz=>by rw[z,v _ _ G]at hd;cases hd)];exact hd
 by_cases b3:j<sa.length;rw[F9 b3]at l;have(O,X,U):=each j b l;have bl:b≠D:=λz=>nD (by rw[<-z];exact Ar l);exact(O,by rw[aC bl];exact v _ _ X,(U.keep λd xs hd=>v _ _ hd).keep an);rw[F8 ()]at l;have z:j - sa.length=0:=by have:=(AY.mp l).1;simp at this;lia
 rw[z]at l;cases l;have:j=i:=by lia
 subst this;exact(a4,by rw[aC ab];exact cg,a5.keep an);intro I (sa,S,G,m,Y,nD,each);have cp:D≠a:=λz=>by rw[z,u]at B;cases B
 refine(.ref a,rfl,a,C,r,_,rfl,m _ _ u,T.cl,T.JK,by show 6<1000;decide,?_);have b2:De ("steps":Str) (V.ref D) [(AE ("wide":Str) (nV g.wide)),(AE ("size":Str) (nV (AG g))),(AE ("high":Str) (nV (G4 g))),(AE ("costs":Str) (.ref pc)),(AE ("heights":Str) (.ref ph)),(AE ("doors":Str) (.ref pd))]=E8 g pc ph pd D:=rfl;rw[b2];have x:∀b xs,I b=AA (.lst xs)->L2.upd I a (.ins C r (E8 g pc ph pd D)) b=AA (.lst xs):=λb xs e=>by rw[aC (λz=>by rw[z,m _ _ u]at e;cases e)];exact e
 have bs:∀b xs,I b=AA (.tup xs)->L2.upd I a (.ins C r (E8 g pc ph pd D)) b=AA (.tup xs):=λb xs e=>by rw[aC (λz=>by rw[z,m _ _ u]at e;cases e)];exact e
 refine k D sa _ (λb o e l=>?_) (a1 D B) (λb l=>a1 b (Y b l)) nD ((((r,_,aB,rfl,rfl,rfl,rfl,rfl,rfl,rfl,rfl,rfl),x _ _ (m _ _ (y _ _ J)),x _ _ (m _ _ (y _ _ a0)),hw,a2,rows),λc1 c0 e=>?_,x _ _ G,S,λi b l=>?_),(r,aB),x _ _ (m _ _ (y _ _ hd)));have bm:b≠a:=by simpa using l
 rw[aC bm];exact m _ _ (L b o e l);rw[aB]at e;cases e;rfl;have(O,X,U):=each i b l;exact(O,x _ _ X,U.keep bs)
inductive QJ(vs:List V)(H:Hp)(Q:VK)(E:XK):Prop
 |mk:∀b:Nat,vs=[nV b]->FC b=AC->Q (nV (if b=35 then 0 else if b<=57 then b - 48 else 1)) H->QJ vs H Q E
inductive QH(vs:List V)(H:Hp)(Q:VK)(E:XK):Prop
 |mk:∀b:Nat,vs=[nV b]->Q (oV (if 97<=b then AA (b - 97)else AB)) H->QH vs H Q E
inductive Py(C:AD)(vs:List V)(H:Hp)(Q:VK)(E:XK):Prop
 |mk:∀t b k cs,vs=[.ref t]->J5 H t b->b.length<=300->1<=k->k<=12->Rows k b cs->(∀a pc ph pd ps sa H',AH H H'->H a=AB->H pc=AB->H ph=AB->H pd=AB->H ps=AB->(∀x∈sa,H x=AB)->[pc,ph,pd,ps].Nodup->(∀x∈sa,x∉[pc,ph,pd,ps])->D8 C H' a {wide:=k,cells:=cs} pc ph pd ps sa->Q (.ref a) H')->Py C vs H Q E
def vi(m:Ag l "cost_told" "cost_told" Up f fd)(T:HU mg):AV q w l mg base AZ 1 f fd ["byte"] QJ:=by
 exists m.go ["byte"],p,n,o;obtain⟨b,rfl,g,k⟩:=h;have g:=DT g;refine(_,(aE (aX (aW dh (pv 0) (dI T.Nv) (aU _)) (aF (aI aG)) aZ) (aF (aI (fc (aW fD (pv 0) (dI T.MF) (aU _)) (aV dQ (pv 0) (dI T.ME)) aG)))),?_);exists N,i;simp![];refine ak (λc=>?_) (λc=>?_);have e:b=35:=by have:=DT c;lia
 rw[AJ e]at k;exact k;have e:b≠35:=λz=>c (by rw[z];simp);rw[AK e]at k;subst i;simp![];refine ak (λa=>?_) (λa=>?_);have d:b<=57:=by have:=DT a;lia
 rw[AJ d]at k;have j:(b:Int) - 48=((b - 48:Nat):Int):=by lia
 simp![];rw[j];exact k;have d: ¬b<=57:=λz=>a (BH ());rw[AK d]at k;exact k
def ve(g:Ag e "door_told" "door_told" Uk f fd)(T:HU mg):AV m w e mg base AZ 1 f fd ["byte"] QH:=by
 exists g.go ["byte"],l,i,j;obtain⟨b,rfl,k⟩:=h;refine(_,(aF (aI (fc (aW jR (pv 0) (dI T.MG) (aU _)) (aV dQ (pv 0) (dI T.MG)) ai))),?_);simp![];refine ak (λa=>?_) (λa=>?_);have c:97<=b:=by have:=DT a;lia
 rw[AJ c]at k;have d:(b:Int) - 97=((b - 97:Nat):Int):=by lia
 simp![];rw[d];exact k;have c: ¬97<=b:=λz=>a (BH ());rw[AK c]at k;exact k
def u6(d2:Ag ab "read_land" "read_land" UF f fd)(T:HU mg)(d5:A8 a5 w ab mg base 5 "cells_from" ["text","place"] Lr)(d4:A8 a5 w ab mg base 5 "cost_told" ["byte"] QJ)(d3:A8 a5 w ab mg base 5 "door_told" ["byte"] QH)(d6:FX a5 w ab mg base 4 "Land" C ["self","wide","costs","heights","doors"] (P6 C)):AV a5 w ab mg base AZ 6 f fd ["text"] (Py C):=by
 exists d2.go ["text","wide","row_length","places","costs","heights","doors","place"],ei,av,a0;obtain⟨t,b,a,cs,rfl,v,c9,cg,ec,U,k⟩:=h;refine(_,(aE (aS 1 (ag d5 a0 rfl (aA (pv 0) (aA aG aD)))) (aE (aS 2 (aV dG (aV iM aG (pv 1)) aG)) (aE (fZ (i:=3) rfl av rfl rfl (fW rfl rfl rfl (by kernel_rfl)) (fP rfl T.Df (aA (bD dj (by rfl) T.C2 EB (aA (pv 0) aD)) aD)) (own:=[(AE ("place") 7)]) (dO (by kernel_rfl)) (λ_ _ _ _ _=>(aa 7)) (λ_ _ _ _ _=>(fJ (PW.pt (fY (aW dh (aV jQ (aV jQ (pv 7) (pv 2)) aG) aG (aU _)) (fX (aW gR (aJ aL (pv 0) (pv 7)) (dI T.Nw) (aU _))))))) (λ_ _ _ _ _=>(pv 7))) (aE (fZ (i:=4) rfl av rfl rfl (fW rfl rfl rfl (by kernel_rfl)) (dP (pv 3)) (own:=[(AE ("place") 7)]) (dO (by kernel_rfl)) (λ_ _ _ _ _=>(aa 7)) (λ_ _ _ _ _=>dv) (λ_ _ _ _ _=>(ag d4 a0 rfl (aA (aJ aL (pv 0) (pv 7)) aD)))) (aE (fZ (i:=5) rfl av rfl rfl (fW rfl rfl rfl (by kernel_rfl)) (dP (pv 3)) (own:=[(AE ("place") 7)]) (dO (by kernel_rfl)) (λ_ _ _ _ _=>(aa 7)) (λ_ _ _ _ _=>dv) (λ_ _ _ _ _=>(aV dQ (aJ aL (pv 0) (aV dG (pv 7) aG)) (dI T.ME)))) (aE (fZ (i:=6) rfl av rfl rfl (fW rfl rfl rfl (by kernel_rfl)) (dP (pv 3)) (own:=[(AE ("place") 7)]) (dO (by kernel_rfl)) (λ_ _ _ _ _=>(aa 7)) (λ_ _ _ _ _=>dv) (λ_ _ _ _ _=>(ag d3 a0 rfl (aA (aJ aL (pv 0) (pv 7)) aD)))) (aF (aI (gP d6 a0 rfl (aA (pv 1) (aA (pv 4) (aA (pv 5) (aA (pv 6) aD))))))))))))),?_);exists N,j;simp![];refine(t,b,0,rfl,v,?_);rw[Su,sZ U];subst j;exists N,j;simp![];refine(.inl (by decide),?_);subst j;have ci:=nh cg U c9;have ef:=nW U;have dp:(2:Int) * (a:Int) + 1=((2 * a+1:Nat):Int):=by lia
 rw[dp];have a2:∀i,i<b.length->(b.map nV)[i]? =AA (nV (b.getD i 0)):=λi h=>by
  rw[BC,DA,AX h];rfl
 have bl:∀p∈places b a,p+1<b.length/\FC (b.getD p 0)=AC/\GF (b.getD (p+1) 0)=AC:=λp d=>by
  have:=tJ U p d;unfold isCell at this;rw[DN,DN]at this;exact(DT this.1.1,this.1.2,this.2)
 have eb:(places b a).length<=300:=by
  have:(places b a).length<=_:=Fq _ _;rw[DS]at this;lia
 have b1:=places_eq U;exists N,j;refine(.ref t,rfl,t,_,rfl,v,(b.length:Int),by rw[AL],by lia,by lia,λD dn=>?_);rw[Ep];refine pC (n:=b.length) (λp=>if (decide (p % (2 * a+1) % 2=0) && decide (b.getD p 0≠10))=AC then AA (nV p)else AB) dn (aN ()) (λi c2 dd u=>?_) (λc2 u I=>?_);intro b2 b3 B S;refine(rfl,?_);simp![wipe,u _ _ v,a2 i dd];refine(by lia,by lia,?_);have co:((i:Int) % ((2 * a+1:Nat):Int) % 2=0)↔i % (2 * a+1) % 2=0:=by
  rw[<-Int.natCast_emod];lia
 have cm:((b.getD i 0:Nat):Int)=10↔b.getD i 0=10:=by lia
 by_cases X:i % (2 * a+1) % 2=0;rw[AJ (BH (co.mpr X))];by_cases G:b.getD i 0=10;rw[AK (by rw[BH (cm.mpr G)];decide)];exact S _ (by rw[DH (λz:b.getD i 0≠10=>z G),PZ];rfl) (λ_ _ e=>e);rw[AJ (by rw[DH (λz=>G (cm.mp z))];rfl)];exact B _ _ (by rw[BH X,BH G];rfl) (λ_ _ e=>e);rw[AK (by rw[DH (λz=>X (co.mp z))];decide)];exact S _ (by rw[DH X];rfl) (λ_ _ e=>e);have I:c2 D=AA (.lst ((places b a).map nV)):=by
  rw[I]
  congr 2
  have:(Ai b.length).length=b.length:=DS
  conv=>lhs;rw[<-this]
  refine gG λi c dm=>?_;have(X,G):=AY.mp dm;rw[JB]at G;subst G;rfl
 subst j;exists N,j;refine(.ref D,rfl,D,rfl,(_,AN.of I),λR ck=>?_);refine eM (λi=>((places b a)[i]?).map λp=>nV (cellOf (b.getD p 0) (b.getD (p+1) 0)).cost) ck I (by rw[AL];exact aN ()) (λi x c1 g l=>?_) (λc1 l L=>?_);intro b2 b3 B S;obtain⟨p,d,rfl⟩:=dN g;have(bs,bm,a1):=bl p (Ar d);refine(rfl,?_);simp![wipe,Er,l _ _ (u _ _ v),a2 p ()];refine(b.getD p 0,rfl,bm,B _ _ (by rw[d];rfl) (λ_ _ e=>e));have L:c1 R=AA (.lst (cs.map λc=>nV c.cost)):=by
  rw[L,<-b1,Dc,AL]
  congr 2
  exact eX λi p d=>by rw[d];rfl
 subst j;exists N,j;refine(.ref D,rfl,D,rfl,(_,AN.of (l _ _ I)),λO a3=>?_);refine eM (λi=>((places b a)[i]?).map λp=>nV (cellOf (b.getD p 0) (b.getD (p+1) 0)).height) a3 (l _ _ I) (by rw[AL];exact aN ()) (λi x c0 g r=>?_) (λc0 r Y=>?_);intro b2 b3 B S;obtain⟨p,d,rfl⟩:=dN g;have(bs,bm,a1):=bl p (Ar d);have a1:=DT a1;have ds:(p:Int) + 1=((p+1:Nat):Int):=by lia
 refine(rfl,?_);simp![wipe,Er,ds,r _ _ (l _ _ (u _ _ v)),a2 (p+1) bs];refine B _ _ ?_ (λ_ _ e=>e);rw[d];show AA (nV (b.getD (p+1) 0 - 48))=AA (V.int ((b.getD (p+1) 0:Int) - 48));rw[show ((b.getD (p+1) 0:Nat):Int) - 48=((b.getD (p+1) 0 - 48:Nat):Int) by lia];have Y:c0 O=AA (.lst (cs.map λc=>nV c.height)):=by
  rw[Y,<-b1,Dc,AL]
  congr 2
  exact eX λi p d=>by rw[d];rfl
 subst j;exists N,j;have cp:=r _ _ (l _ _ I);refine(.ref D,rfl,D,rfl,(_,AN.of cp),λM J=>?_);refine eM (λi=>((places b a)[i]?).map λp=>oV (cellOf (b.getD p 0) (b.getD (p+1) 0)).door) J cp (by rw[AL];exact aN ()) (λi x m g y=>?_) (λm y a4=>?_);intro b2 b3 B S;obtain⟨p,d,rfl⟩:=dN g;have(bs,bm,a1):=bl p (Ar d);refine(rfl,?_);simp![wipe,Er,y _ _ (r _ _ (l _ _ (u _ _ v))),a2 p ()];refine(b.getD p 0,rfl,B _ _ (by rw[d];rfl) (λ_ _ e=>e));have a4:m M=AA (.lst (cs.map λc=>oV c.door)):=by
  rw[a4,<-b1,Dc,AL]
  congr 2
  exact eX λi p d=>by rw[d];rfl
 subst j;have c6:R≠O:=λz=>by rw[<-z,L]at a3;cases a3
 have c5:R≠M:=λz=>by rw[<-z,r _ _ L]at J;cases J
 have c4:O≠M:=λz=>by rw[<-z,Y]at J;cases J
 have an:AH H m:=((u.trans l).trans r).trans y;refine(nV a,rfl,.ref R,rfl,.ref O,rfl,.ref M,rfl,λt Z a6 b4 ea=>?_);have aj:AH m (L2.upd (L2.upd m Z (.own t)) t (.ins C Z [])):=λb o e=>by rw[aC (aT e a6),aC (aT e b4)];exact e
 refine(t,Z,{wide:=a,cells:=cs},R,O,M,rfl,aB,aj _ _ (y _ _ (r _ _ L)),aj _ _ (y _ _ Y),aj _ _ a4,cg,by show a<=1000;lia,ci.few,ci.rows,λps sa cr dx c8 b6 c7 d1=>(rfl,?_));have c3:AH m cr:=AH.made a6 b4 λb o e v=>dx b o e (by simpa using v);have b0:∀b,L2.upd (L2.upd m Z (.own t)) t (.ins C Z []) b=AB->m b=AB:=λb e=>by
  cases q:m b with
  |none=>rfl
  |some o=>rw[aj _ _ q]at e;cases e
 have b7:=b0 _ c8;have nl:∀b xs,m b=AA (.lst xs)->b≠ps/\b∉sa:=λb xs e=>(λz=>(by rw[z,b7]at e;cases e),λz=>(by rw[b0 _ (b6 _ z)]at e;cases e));have ce:=nl _ _ (y _ _ (r _ _ L));have cd:=nl _ _ (y _ _ Y);have ca:=nl _ _ a4;refine k t R O M ps sa cr (an.trans c3) (an.free a6) (u.free ck) ((u.trans l).free a3) (((u.trans l).trans r).free J) (an.free b7) (λx g=>an.free (b0 _ (b6 x g))) ?_ (λx g=>?_) d1;simp[c6,c5,c4,ce.1,cd.1,ca.1];simp only[Aj,BW,BV,A5];exact(λz=>ce.2 (z▸g),λz=>cd.2 (z▸g),λz=>ca.2 (z▸g),λz=>c7 (z▸g))
structure Y8(c:Cs)(H:Hp)(r:WA):Prop where
 ins:∃dx dl fl wd,H r.wa=AA (.ins c.W dx (DZ .Al dl fl wd 0 0))
 muts:∀b∈r.muts,b=r.wa
 lists:∀b∈r.lists,b=r.wa
def GN(c:Cs)(H:Hp)(r:WA)(s:Eg):Prop:=(s=GQ/\Y8 c H r)\/∃g,Ad c H r s g
def A0A(c:Cs)(PL PF:AD)(H:Hp)(r:WA)(s:Eg)(us:List V)(x:Call)(Q:VK):Prop:=
 ∀l r' a,H l=AB->AQ (r.muts ++ [PL,PF]) H a->D7 a PL PF->EN H r (refsOf us) r'->GN c a r' (act s x).1->a l=AA (.lst ((act s x).2.map V.int))->Q (.ref l) a
structure zw(c:Cs)(PL PF:AD)(H:Hp)(r:WA)(s:Eg)(gw:AD)(n:Nat)(as:List Arg)(us:List V)(x:Call):Prop where
 W:GN c H r s
 T:D7 H PL PF
 gv:H gw=AA (.lst us)
 A:DW H as us
 ng:gw∉r.muts
 nr:∀p,V.ref p∈us->p∉r.muts
 F:Fits (Aa n) as
 call:MA n as=AA x
 no:refusal s n as=AB
inductive Hs(c:Cs)(PL PF:AD)(n:Nat)(vs:List V)(H:Hp)(Q:VK)(E:XK):Prop
 |mk:∀r s gv as us x,vs=[.ref r.wa,.ref gv]->zw c PL PF H r s gv n as us x->A0A c PL PF H r s us x Q->Hs c PL PF n vs H Q E
def GN.same(S:GN c H r s)(k:AH H d):GN c d r s:=by
 rcases S with⟨e,W⟩ | ⟨g,W⟩;have(b,dl,fl,wd,a):=W.ins;exact .inl (e,(b,dl,fl,wd,k _ _ a),W.muts,W.lists);exact .inr (g,W.same k)
def GN.ins(S:GN c H r s):∃b d dl fl wd m t,H r.wa=AA (.ins c.W b (DZ d dl fl wd m t)):=by
 rcases S with⟨e,W⟩ | ⟨g,W⟩;have(b,dl,fl,wd,a):=W.ins;exact(_,_,_,_,_,_,_,a);have(b,a):=W.ins;exact(_,_,_,_,_,_,_,a)
def sB(a:n≠0):∀vs H Q E,Hs c PL PF n vs H Q E->DM c PL PF n vs H Q E:=by
 rintro vs H Q E ⟨r,s,j,as,us,x,rfl,A,k⟩;have(p,m,_):=(jG A.no).2 a;rcases A.W with⟨rfl,_⟩ | ⟨g,W⟩;cases m;exact(r,s,g,j,as,us,x,rfl,(W,A.T,A.gv,A.A,A.ng,A.nr,A.F,A.call,A.no),λl r' g' o i h f e d b=>k l r' o i h f e (.inr (g',d)) b)
def vM(dp:Ef c)(c4:Ag L "lay_ground" "lay_ground" UU f fd)(b0:DO L mg c.W)(an:Dx L mg c.L)(c6:A8 av w L mg base 7 "wrong_place" ["text"] Ph)(c7:A8 av w L mg base 7 "read_land" ["text"] (Py c.L))(c8:A6 av w L mg base 7 c.W "begin" ["self","land"] (QO c)):
  AV av w L mg base AZ 8 f fd ["world","given"] (Hs c PL PF 0):=by
 exists c4.go ["world","given","text","wrong"],d4,dn,Z;obtain⟨r,st,d2,as,us,x,rfl,A,k⟩:=h;refine(_,(aE (aS 2 (aJ aL (pv 1) aG)) (aE (aS 3 (ag c6 Z rfl (aA (pv 2) aD))) (aE (aX (aW ff (pv 3) ai (aU _)) (aF (aI (af (aA (aV dQ (db dZ aG) (pv 3)) aD)))) aZ) (aE (dW (ae (pv 0) c8 Z (aA (ag c7 Z rfl (aA (pv 2) aD)) aD))) (aF (aI (af (aA (aH (aH (pv 0))) (aA (aH (aH (pv 0))) aD))))))))),?_);obtain⟨t,p,d5,dd,rfl,rfl,M,d1,cr,cp,c5,c9,_⟩:=jT (k:=.text) (ks:=[]) rfl A.F A.A (mK (jG A.no).1);cases c5;cases c9;have ca:Call.ground t=x:=Ap A.call;subst ca;have ce:∀z∈t,0<=z:=λz b7=>(cp z b7).1;have ds:(t.length:Int)<=300:=cr;rw[kr ce]at M;have M:J5 H p (t.map FL):=M;have I:act st (.ground t)=match readGround (t.map FL)with
  | .error i=>(AE st [-1000 - (i:Int)])
  | .ok g=>(AE ({ground:=AA g}) [(g.wide:Int),(high g:Int)]):=rfl
 have G:=ss (t.map FL);have(c2,b4,dl,fl,wd,m,tk,O):=A.W.ins;exists N,D;simp![A.gv];subst D;exists N,D;simp![];refine(p,t.map FL,rfl,M,?_);subst D;exists N,D;cases hw:Li (t.map FL)with
 |some i=>
  rw[hw]at G;rw[G]at I;simp![oV];refine(aN (),λl y=>?_);exact k l r _ y (AH.but (AH.upd y)) (A.T.same (AH.upd y)) EN.rfl' (by rw[I];exact A.W.same (AH.upd y)) (by rw[I,aB];rfl)
 |none=>
  rw[hw]at G;have(S,cs,a4,ci,a5,G):=G;rw[G]at I;simp![oV];subst D;exists N,D;simp![O,d7 (x:="begin") (by decide +kernel)];refine(p,t.map FL,S,cs,rfl,M,by rw[AL];lia,a4,ci,a5,λla pc ph pd ps sa a0 C f1 f2 bs bm bl a6 b3 b2 J=>?_);refine(r.wa,la,c2,b4,dl,fl,wd,m,tk,rfl,C _ _ O,λU da T a1 X B=>?_);subst D;have c0:=nh a4 a5 (by rw[AL];lia:(t.map FL).length<=300);have a2:∀{b},H b=AB->b≠r.wa:=λ{b} h z=>by rw[z,O]at h;cases h
  have Y:∀{b o},a0 b=AA o->b≠r.wa->X b=AA o:=λ{b o} e h=>B.but _ _ e (by simpa using h);have b1:D8 c.L X la {wide:=S,cells:=cs} pc ph pd ps sa:=by
   refine J.hold (λo e=>Y e (a2 f1)) (λb n o e=>Y e (a2 ?_)) λb xs e=>Y e (dF e (C _ _ O) ∅);rcases Az.mp n with n|n;simp only[Aj,BW,BV]at n;rcases n with rfl|rfl|rfl|rfl<;>assumption;exact a6 b n
  have(c1,ab):=B.ins;have(d3,cm):=b1.ins;have b6:∀b∈[pc,ph,pd,ps],∃xs,a0 b=AA (.lst xs):=λb n=>by
   simp only[Aj,BW,BV]at n;rcases n with rfl|rfl|rfl|rfl;exact(_,J.s.b.costs);exact(_,J.s.b.Ei);exact(_,J.doors);exact(_,J.s.steps)
  have b5:∀b∈sa,∃xs,a0 b=AA (.lst xs):=λb n=>by
   have(j,ck):=DP n;have(dm,e,_):=J.s.each j b ck;exact(_,e)
  have c3:Ad c X {wa:=r.wa,la:=la,pc:=pc,ph:=ph,pd:=pd,ps:=ps,sa:=sa,dl:=U,da:=da,fl:=T,fa:=[],fp:=[],wd:=a1,ka:=[],kp:=[]} {ground:=AA {wide:=S,cells:=cs}} {wide:=S,cells:=cs}:=by
   refine Ad.of (sK c0) rfl (c1,ab) b1 (B.dl,by rw[B.len];rfl,λi a d R hd=>?_) (B.fl,rfl,rfl,λi a q f R=>by simp at R) (B.wd,rfl,rfl,λi a q f R=>by simp at R) (?_,λb n=>?_,M8,M8);have co:(Ay 6 ({}:IM))[i]? =AA d:=hd;have:=W8 (Ar co);subst this;exact B.da i a R;show ([pc,ph,pd,ps] ++ [U,T] ++ []).Nodup;rw[BF,I0];refine(b3,by simp;exact B.ne,λu cd v a3 z=>?_);have(xs,e):=b6 u cd;simp only[Aj,BW,BV]at a3;rcases a3 with rfl|rfl;rw[z,B.Np]at e;cases e;rw[z,B.No]at e;cases e;rcases n with n|n;show b∉[pc,ph,pd,ps] ++ [U,T] ++ [];rw[BF,Az,A5];refine(b2 b n,λz=>?_);have(xs,e):=b5 b n;simp only[Aj,BW,BV]at z;rcases z with rfl|rfl;rw[B.Np]at e;cases e;rw[B.No]at e;cases e;have n:b∈([]:List AD):=n;simp at n
  simp![ab,b0.cl,b0.Dv,dR,cm,an.cl,an.HK,xH,an.VD,xJ];refine(aN (),λl y=>?_);have aj:AQ [r.wa] H X:=(AH.but C).trans B.but;have cg:H l=AB:=aj.eN ab y;refine k l {wa:=r.wa,la:=la,pc:=pc,ph:=ph,pd:=pd,ps:=ps,sa:=sa,dl:=U,da:=da,fl:=T,fa:=[],fp:=[],wd:=a1,ka:=[],kp:=[]} _ cg ((aj.mono λb n=>?_).trans (AH.but (AH.upd y))) ((A.T.but aj λb n o e=>?_).same (AH.upd y)) (rfl,λb n=>?_,λb n=>?_) (by rw[I];exact .inr (_,c3.same (AH.upd y))) (by rw[I,aB];rfl);rw[Av.mp n];exact FP _ (WA.dt.mpr (.inl rfl));rw[Av.mp n,O]at e;cases e;show 1<4;decide;rw[WA.dt,WA.dc]at n;rw[WA.dt];rcases n with h|h|h|h|h;exact .inl (.inl h);exact .inr (by rw[h];exact C.free B.GC);rcases h with h|h|h|h|h|h|h;exact .inr (by rw[h];exact f2);exact .inr (by rw[h];exact bs);exact .inr (by rw[h];exact bm);exact .inr (by rw[h];exact bl);exact .inr (by rw[h];exact C.free B.Np);exact .inr (by rw[h];exact C.free B.No);have h:b∈([]:List AD):=h;simp at h;have h:b∈([]:List AD):=h;simp at h;have h:b∈([]:List AD):=h;simp at h;rw[WA.eU,WA.dc]at n;rcases n with h|h|h;rcases h with h|h|h|h|h|h|h;exact .inr (.inl (by rw[h];exact f2));exact .inr (.inl (by rw[h];exact bs));exact .inr (.inl (by rw[h];exact bm));exact .inr (.inl (by rw[h];exact bl));exact .inr (.inl (by rw[h];exact C.free B.Np));exact .inr (.inl (by rw[h];exact C.free B.No));have h:b∈([]:List AD):=h;simp at h;exact .inr (.inl (a6 b h));have h:b∈([]:List AD):=h;simp at h
def jd{n i:Nat}{v:V}(h:((Aa n).map λk=>V.str (Bh k))[i]? =AA v):∃k,(Aa n)[i]? =AA k/\v=V.str (Bh k):=dN h
def rq(a:Kd):decide (V.str (Bh a)=V.str "cell")=decide (a=.cell):=by
 erw[HZ];exact(λz=>pQ a .cell (V.str.inj z),λz=>by erw[z];rfl)
def rp(a:Kd):decide (V.str (Bh a)=V.str "walker")=decide (a=.walker):=by
 erw[HZ];exact(λz=>pQ a .walker (V.str.inj z),λz=>by erw[z];rfl)
structure zl(H:Hp)(n:Nat)(gv q:AD)(as:List Arg)(i:Nat)(σ:L2.St)(H':Hp):Prop where
 st:∃x y:Option V,σ=[AA (nV n),AA (.ref gv),AA (.ref q),x,y]
 same:AH H H'
 list:H' q=AA (.lst ((BN ((Aa n).take i) (as.take i)).map V.int))
def v3(b3:Ag t "are_in_range" "are_in_range" U3 f fd)(T:K8 X w t mg cd b7 ca b5)(b4:A8 X w t mg base 2 "is_in_range" ["kind","value"] QB):AV X w t mg base AZ 3 f fd ["number","given"] QQ:=by
 exists b3.go ["number","given","kind","value"],ck,I,aj;obtain⟨n,o,as,us,rfl,av,v,d,B,k⟩:=h;refine(_,(aE (aX (fw (dU (bD (qX rfl) (by rfl) T.N5 boot_all (aA (dk rfl I (kQ rfl T.JO (aA (gQ T.Jx (pv 0)) (aA (pv 1) aD))) (own:=[(AE ("kind") 2),(AE ("value") 3)]) (dO (by kernel_rfl)) (λ_ _ _ _ _=>(gl (K:=t) (i:=2) (j:=3) rfl rfl I rfl rfl (Dr rfl) (Dr rfl) (by first|exact F5 rfl|exact Dr rfl) (by first|exact F5 rfl|exact Dr rfl))) (λ_ _ _ _ _=>dv) (λ_ _ _ _ _=>(ag b4 aj rfl (aA (pv 2) (aA (pv 3) aD))))) aD)))) (aF (aI f7)) aZ) (aF (aI (iJ (eQ gR (pv 0) (dI T.Qv) (aU _)) (gO (eQ fD (aJ aL (pv 1) aG) (aJ aL (pv 1) aG) (aU _))))))),?_);have(fa,a4,M):=T.Aa n av;have cg:=d.len;have ce:=B.len;have ci:=ij n;exists N,bm;refine(nV n,rfl,AW (n:Int),_,rfl,a4,.ref o,rfl,fa,o,_,us,rfl,M H,AN.of v,λD bs=>?_);refine pB (K:=t) (a:=fa) (b:=o) (xs:=(Aa n).map λk=>V.str (Bh k)) (ys:=us) (λi=>AA (V.bl (((Aa n)[i]?).any λk=>(as[i]?).any λa=>EE k a))) bs (by rw[AL];lia) (λr _=>M r) v (by rw[AL];exact aN ()) (λi x y b2 r ab J g bl=>?_) (λr g b1=>?_)
 ·intro cp cr Z b6;obtain⟨u,L,rfl⟩:=jd ab;obtain⟨a,G⟩:∃a,as[i]? =AA a:=(_,AX (by have:=(AY.mp J).1;lia));refine(b2,_,rfl,BB.of bl,rfl,V.str (Bh u),[y],rfl,y,[],rfl,rfl,rfl,?_);unfold Er
  try dsimp only
  rw[AJ rfl];refine(V.str (Bh u),rfl,y,rfl,u,a,y,rfl,?_,?_,λc0 Y=>?_);rcases d.at_ i a y G J with⟨z,rfl,rfl⟩ | ⟨l,p,rfl,rfl,an⟩;exact .num z .nil;exact .row l p (g _ _ an) .nil;rcases B.at_ i u a L G with⟨q,z,rfl⟩ | ⟨q,l,rfl⟩;exact .num z q .nil;exact .row l q .nil;exact Z _ _ (by rw[L,G];rfl) Y
 have b0:r D=AA (.lst (((Ai (Aa n).length).map λi=>((Aa n)[i]?).any λk=>(as[i]?).any λa=>EE k a).map V.bl)):=by
  rw[b1,AL,Dc]
  congr 2
  have:(Ai (Aa n).length).length=(Aa n).length:=DS
  conv=>lhs;rw[<-this]
  refine eX λi c a6=>?_;have(C,R):=AY.mp a6;rw[JB]at R;subst R;rfl
 refine(D,_,rfl,AN.of b0,_,rfl,?_);rw[<-zK B];unfold Eu at k;cases O:((Aa n).zip as).all (λy=>EE y.1 y.2)with
 |false=>
  rw[O]at k;exact k r g
 |true=>
  rw[O,Fu]at k;subst bm;refine(nV n,rfl,rfl,_,rfl,?_);by_cases C:n=1;subst C;have a5:Fits [.door,.period,.Ia,.shift] as:=B;cases a5 with
  |num co _ m=>cases m with
   |num U _ m=>cases m with
    |num S _ m=>cases m with
     |num cm _ m=>
      cases m;cases d with
      |num _ d=>cases d with
       |num _ d=>cases d with
        |num _ d=>cases d with
         |num _ d=>
          cases d;refine(.ref o,rfl,o,_,_,V.int S,rfl,rfl,g _ _ v,rfl,.ref o,rfl,o,_,_,V.int U,rfl,rfl,g _ _ v,rfl,S,U,rfl,rfl,?_);exact k r g
     |row _ q _=>cases q
    |row _ q _=>cases q
   |row _ q _=>cases q
  |row _ q _=>cases q
  have e:(!(n==1))=AC:=by simpa using C
  rw[e,Bool.true_or]at k;rw[AJ (by rw[DH (λz=>C (by have:=V.int.inj z;lia))];rfl)];exact k r g
def uX(ab:Ag g "walkers_named" "walkers_named" Tf f fd)(T:K8 Z w g mg a1 av a0 an):AV Z w g mg base AZ 1 f fd ["number","given"] Pq:=by
 exists ab.go ["number","given","kind","value"],a6,v,a2;obtain⟨n,t,as,us,rfl,R,C,L,I,k⟩:=h;refine(_,(aF (aI (dk rfl v (kQ rfl T.JO (aA (gQ T.Jx (pv 0)) (aA (pv 1) aD))) (own:=[(AE ("kind") 2),(AE ("value") 3)]) (dO (by kernel_rfl)) (λ_ _ _ _ _=>(gl (K:=g) (i:=2) (j:=3) rfl rfl v rfl rfl (Dr rfl) (Dr rfl) (by first|exact F5 rfl|exact Dr rfl) (by first|exact F5 rfl|exact Dr rfl))) (λ_ _ _ _ _=>(fJ (aW dh (pv 2) oH (aU _)))) (λ_ _ _ _ _=>(pv 3))))),?_);have(fa,S,G):=T.Aa n R;have a4:=L.len;have a3:=I.len;have a5:=ij n;refine(nV n,rfl,AW (n:Int),_,rfl,S,.ref t,rfl,fa,t,_,us,rfl,G H,AN.of C,λD J=>?_);refine pB (K:=g) (a:=fa) (b:=t) (xs:=(Aa n).map λk=>V.str (Bh k)) (ys:=us) (λi=>(((Aa n)[i]?).bind λk=>(as[i]?).bind λa=>JF k a).map V.int) J (by rw[AL];lia) (λm _=>G m) C (by rw[AL];exact aN ()) (λi x y Y m O B u U=>?_) (λm u X=>?_)
 ·intro bl bm M N;obtain⟨c,r,rfl⟩:=jd O;obtain⟨a,d⟩:∃a,as[i]? =AA a:=(_,AX (by have:=(AY.mp B).1;lia));refine(Y,_,rfl,BB.of U,rfl,V.str (Bh c),[y],rfl,y,[],rfl,rfl,rfl,?_);refine(V.str (Bh c),rfl,rfl,_,rfl,?_)
  try dsimp only
  rw[rp c];by_cases o:c=.walker
  ·subst o
   try rw[AJ (BH rfl)]
   refine(y,rfl,?_);rcases I.at_ i .walker a r d with⟨q,z,rfl⟩ | ⟨q,l,rfl⟩;rcases L.at_ i _ y d B with⟨aj,e,rfl⟩ | ⟨l,p,e,_⟩;cases e;exact M _ _ (by rw[r,d];rfl) (λ_ _ e=>e);cases e;cases q
  rw[AK (by rw[DH o];decide)];refine N _ ?_ (λ_ _ e=>e);rw[r,d];show (JF c a).map V.int=AB;unfold JF;cases a with
  |num x=>simp only;rw[AK o];rfl
  |row l=>rfl
 refine k D m J u ?_;rw[X,AL,j0 ()]
 congr 2
 rw[List.map_filterMap]
def vt(ck:Ag L "cells_named" "cells_named" Uw f fd)(T:K8 ce w L mg c0 cp cr b0):AV ce w L mg base AZ 1 f fd ["number","given"] QM:=by
 exists ck.go ["number","given","cells","kind","value"],c5,cm,c1;obtain⟨n,G,as,us,rfl,b5,a0,ab,Z,c2,k⟩:=h;refine(_,(aE (aS 2 (af aD)) (aE (dg D0 rfl (kQ rfl T.JO (aA (gQ T.Jx (pv 0)) (aA (pv 1) aD))) (eP rfl (dX (aa 3) (dX (aa 4) eO))) (aF (aX (aW dh (pv 3) oH (aU _)) (aF (dW (dw FJ Fo F0 eA (pv 2) (aA (pv 4) aD)))) (aF (aX (oA (K:=L) rfl (pv 3) (oO T.XI)) (aF (dW (dw FJ Of SK ku (pv 2) (aA (pv 4) aD)))) aZ))))) (aF (aI (pv 2))))),?_);have(fa,b6,a2):=T.Aa n b5;have c3:=ab.len;have av:=Z.len;have c4:=ij n;exists N,Y;refine(aN (DR _),λq S=>?_);subst Y;have O:AH H (L2.upd H q (.lst [])):=AH.upd S;have an:L2.upd H q (.lst []) q=AA (.lst []):=aB;generalize L2.upd H q (.lst [])=ci at O an;exists N,Y;refine(nV n,rfl,AW (n:Int),_,rfl,b6,.ref G,rfl,fa,G,_,us,rfl,a2 ci,AN.of (O _ _ a0),?_);have step:∀i c a,(Aa n)[i]? =AA c->as[i]? =AA a->BN ((Aa n).take (i+1)) (as.take (i+1))=BN ((Aa n).take i) (as.take i) ++ BN [c] [a]:=λi c a ca b7=>by
  rw[take_snoc ca,take_snoc b7];exact mC (by rw[FQ,FQ,av])
 have cd:∀i,(BN ((Aa n).take i) (as.take i)).length<=(BN (Aa n) as).length:=by
  have key:∀(ks:List Kd) (g:List Arg) (i:Nat),(BN (ks.take i) (g.take i)).length<=(BN ks g).length:=by
   intro ks;induction ks with
   |nil=>intro g i;simp[BN]
   |cons k0 ks b1=>
    intro g i;cases g with
    |nil=>simp[BN]
    |cons b g=>
     cases i with
     |zero=>simp[BN]
     |succ i=>
      have:=b1 g i;cases b with
      |num x=>
       rw[M6,M6,BN,BN];split;simp;lia;lia
      |row l=>
       rw[M6,M6,BN,BN];split;simp;lia;lia
  exact key _ _
 refine xi (K:=L) (a:=fa) (b:=G) (xs:=(Aa n).map λk=>V.str (Bh k)) (ys:=us) (by rw[AL];lia) (zl H n G q as) ((AB,AB,rfl),O,by rw[Se,Se];exact an) (λi aj j _ I=>(a2 j,AN.of (I.same _ _ a0))) ?_ ?_
 ·rintro i v y J aj j b2 R ⟨⟨bl,a6,rfl⟩,M,C⟩ a3;obtain⟨c,X,rfl⟩:=jd b2;obtain⟨a,t⟩:∃a,as[i]? =AA a:=(_,AX (by have:=(AY.mp R).1;lia));have d:=step i c a X t;have a1:=cd (i+1);have D:AH H (L2.upd j J (.tup [V.str (Bh c),y])):=M.trans (AH.upd a3);have m:L2.upd j J (.tup [V.str (Bh c),y]) q=AA (.lst ((BN ((Aa n).take i) (as.take i)).map V.int)):=by rw[aC (aT C a3)];exact C
  refine(J,[V.str (Bh c),y],rfl,BB.of aB,rfl,V.str (Bh c),[y],rfl,y,[],rfl,rfl,?_);generalize L2.upd j J (.tup [V.str (Bh c),y])=cg at D m|-;have keep:∀o,AH H (L2.upd cg q o):=λo b u e=>by rw[aC (aT e S)];exact D b u e
  refine(V.str (Bh c),rfl,rfl,_,rfl,?_)
  try unfold Bj
  rw[rq c];by_cases U:c=.cell
  ·subst U
   try rw[AJ (BH rfl)]
   rcases Z.at_ i .cell a X t with⟨_,z,rfl⟩ | ⟨bm,l,rfl⟩;rcases ab.at_ i _ y t R with⟨a5,e,rfl⟩ | ⟨l,p,e,_⟩;cases e;have B:BN [.cell] [.num z]=[z]:=rfl;rw[B]at d;rw[d,BZ]at a1;refine(.ref q,rfl,.inl (rfl,_,AN.of m),V.int z,rfl,q,_,V.int z,rfl,rfl,m,by rw[AL];exact dS (),(_,_,rfl),keep _,?_);rw[aB,d,Dd];rfl;cases e;cases bm
  ·try dsimp only
   rw[AK (by rw[DH U];decide)];refine(V.str (Bh c),rfl,b0,_,rfl,.inr (T.lists _),rfl,rfl,_,rfl,?_)
   try unfold Bj
   have a4:(if AF=AC then !Hz (V.str (Bh c)) [V.str "trial",V.str "row"]else Hz (V.str (Bh c)) [V.str "trial",V.str "row"])=decide (c=.trial\/c=.row):=by
    cases c<;>decide +kernel
   try dsimp only at a4|-
   rw[a4];by_cases r:c=.trial\/c=.row;rw[AJ (BH r)];rcases Z.at_ i c a X t with⟨b3,z,rfl⟩ | ⟨_,l,rfl⟩;rcases r with rfl|rfl<;>cases b3;rcases ab.at_ i _ y t R with⟨a5,e,_⟩ | ⟨co,p,e,rfl,b4⟩;cases e;cases e;have B:BN [c] [.row l]=l:=by
    rw[BN,AJ r];show l ++ []=l;rw[BF]
   rw[B]at d;rw[d,BZ]at a1;refine(.ref q,rfl,.inl (rfl,_,AN.of m),V.ref p,rfl,q,p,_,_,rfl,rfl,m,D _ _ b4,by rw[AL,AL];exact aN (),(_,_,rfl),keep _,?_);rw[aB,d,Dd];rw[AK (by rw[DH r];decide)];have B:BN [c] [a]=[]:=by
    cases a with
    |num x=>rw[BN,AK U];rfl
    |row l=>rw[BN,AK r];rfl
   rw[B,BF]at d;exact((_,_,rfl),D,by rw[d];exact m)
 rintro aj j ⟨⟨bl,a6,rfl⟩,M,C⟩;subst Y;refine(.ref q,rfl,?_);refine k q j S M ?_;rw[AL,EI,show as.take (Aa n).length=as by rw[<-av,EI]]at C;exact C
def A0B(H:Hp)(t a:AD)(us:List V)(c:Cl):Prop:=H t=AA (.tup [nV c.n,.ref a])/\H a=AA (.lst us)/\DW H c.as us
structure VW(H0:Hp)(q:AD)(H:Hp)(ts:List AD)(cs:List Cl):Prop where
 len:ts.length=cs.length
 each:∀(i:Nat) (t:AD) (c:Cl),ts[i]? =AA t->cs[i]? =AA c->∃gv us,A0B H t gv us c/\(gv≠q/\H0 gv=AB)/\∀b,V.ref b∈us->b≠q/\H0 b=AB
inductive Pu(K:Ao)(vs:List V)(H:Hp)(Q:VK)(E:XK):Prop
 |mk:∀p l cs,vs=[.ref p]->AN K H p (l.map V.int)->Calls l cs->l.length<=15800->(∀q ts H',H q=AB->AH H H'->H' q=AA (.lst (ts.map V.ref))->VW H q H' ts cs->Q (.ref q) H')->Pu K vs H Q E
def YV(l:List Int):L2.St->Hp->Nat:=λa _=>match a[2]? with
 |some (AA (V.int z))=>l.length - z.toNat
 | _=>0
def yX(xs:List V)(a b:Nat)(f:a<=b)(e:b<=xs.length):Ih xs (AA (a:Int)) (AA (b:Int))=(xs.drop a).take (b - a):=by
 unfold Ih;have d:HT.EV xs.length 0 (AA (a:Int))=a:=by
  simp only[HT.EV];erw[AK ()];lia
 have c:HT.EV xs.length xs.length (AA (b:Int))=b:=by
  simp only[HT.EV];erw[AK ()];lia
 erw[d,c]
structure ZE(H:Hp)(p q:AD)(l:List Int)(cs:List Cl)(σ:L2.St)(H':Hp):Prop where
 ex:∃(pl:Nat) (i:Nat) (ts:List AD) (x y z u:Option V),σ=[AA (.ref p),AA (.ref q),AA (nV pl),x,y,z,u]/\pl<=l.length/\i<=cs.length/\AH H H'/\H' q=AA (.lst (ts.map V.ref))/\VW H q H' ts (cs.take i)/\Calls (l.drop pl) (cs.drop i)
structure ZF(H2:Hp)(p q gv:AD)(l:List Int)(n:Nat)(as:List Arg)(t:List Int)(pl0:Nat)(j:Nat)(σ:L2.St)(H':Hp):Prop where
 ex:∃(pl:Nat) (us:List V) (x y:Option V) (dn rest:List Arg),σ=[AA (.ref p),AA (.ref q),AA (nV pl),AA (nV n),AA (.ref gv),x,y]/\pl0<=pl/\pl<=l.length/\as=dn ++ rest/\us.length=j/\AQ [gv] H2 H'/\H' gv=AA (.lst us)/\DW H' dn us/\(∀b,V.ref b∈us->b≠gv/\b≠q/\H2 b=AB)/\EW ((Aa n).drop j) (l.drop pl)=AA (AE rest t)
def ur(g1:Ag M "split_calls" "split_calls" T6 f fd)(T:K8 g0 w M mg ha g7 g8 g6):AV g0 w M mg base AZ 1 f fd ["calls"] (Pu M):=by
 exists g1.go ["calls","found","place","number","given","kind","end"],hy,c8,hh;obtain⟨p,l,cs,rfl,ey,d2,ho,k⟩:=h;refine(_,(aE (aS 1 (af aD)) (aE (aS 2 aG) (aE (iH D0 (aW eS (pv 2) (bD qi (by rfl) T.C2 EB (aA (pv 0) aD)) (aU _)) (aE (aS 3 (aJ je (pv 0) (pv 2))) (aE (iI (i:=2) c8 rfl (Dr rfl) aG ic) (aE (aS 4 (af aD)) (aE (dg D0 rfl (tM (gQ T.Jx (pv 3))) (aa 5) (aF (aX (fK (t8 T.K4 (pv 5))) (aE (aS 6 (aV dG (aV dG (pv 2) aG) (aJ je (pv 0) (pv 2)))) (aE (dW (dw FJ Fo F0 eA (pv 4) (aA (kY kA (pv 0) (jK (aV dG (pv 2) aG)) (jK (pv 6))) aD))) (aF (aS 2 (pv 6))))) (aE (dW (dw FJ Fo F0 eA (pv 4) (aA (aJ je (pv 0) (pv 2)) aD))) (aF (iI (i:=2) c8 rfl (Dr rfl) aG ic)))))) (aF (dW (dw FJ Fo F0 eA (pv 1) (aA (fB (aA (pv 3) (aA (pv 4) aD))) aD))))))))) (aF (aI (pv 1)))))),?_);have hu:=d2.len;exists N,a0;refine(aN (DR _),λq b6=>?_);subst a0;have cr:AH H (L2.upd H q (.lst [])):=AH.upd b6;have dd:L2.upd H q (.lst []) q=AA (.lst []):=aB;generalize L2.upd H q (.lst [])=h9 at cr dd;exists N,a0;subst a0;exists N,a0;have ca:∀i x,l[i]? =AA x->(l.map V.int)[i]? =AA (V.int x):=λi x h=>by rw[BC,h];rfl
 refine rM (ZE H p q l cs) (YV l) (0,0,[],AB,AB,AB,AB,rfl,DR _,DR _,cr,dd,(rfl,λi t c h=>by simp at h),d2) ?_ ?_
 ·rintro a3 D ⟨pl,i,G,g4,g3,g2,g5,rfl,hl,ht,Y,a1,U,cd⟩;have a5:AN M D p (l.map V.int):=Y.seq ey;refine(nV pl,rfl,.ref p,rfl,p,_,rfl,.inl a5,_,_,rfl,rfl,_,rfl,?_);rw[AL]
  try dsimp only
  by_cases dp:pl<l.length
  ·rw[AJ (BH ())];have(n,as,go,t,ge,e2,ez,ev,f0):=cd.next dp;exists co,L;refine(.ref p,rfl,nV pl,rfl,p,_,(pl:Int),V.int n,rfl,rfl,a5,by rw[aM];exact ca _ _ e2,?_);subst L;exists co,L;subst L;exists co,L;refine(aN (DR _),λg an=>?_);subst L;have a4:AH D (L2.upd D g (.lst [])):=AH.upd an;have dx:L2.upd D g (.lst []) g=AA (.lst []):=aB;generalize L2.upd D g (.lst [])=bm at a4 dx;have(fa,fq,d1):=T.Aa n ez;have gi:(pl:Int) + 1=((pl+1:Nat):Int):=by lia
   rw[gi];have c7:g≠q:=λz=>by rw[z,a1]at an;cases an
   have hm:AN M bm p (l.map V.int):=a4.seq a5;have kp:∀cp,AQ [g] bm cp->AH D cp:=λcp b u o e=>b u o (a4 u o e) (by
    rw[Av];exact aT e an)
   exists co,L;refine(nV n,rfl,AW (n:Int),_,rfl,fq,fa,rfl,(_,d1 _),?_);refine xl (K:=M) (a:=fa) (xs:=(Aa n).map λk=>V.str (Bh k)) (ZF bm p q g l n as t (pl+1)) (pl+1,[],_,_,[],as,rfl,Au _,dp,rfl,rfl,AH.but (λ_ _ e=>e),dx,.nil,λb h=>by simp at h,ev) (λj a3 r _ _=>d1 r) ?_ ?_
   ·rintro j v a3 r et ⟨d,us,ef,eb,a2,rest,rfl,ew,dm,rfl,b1,S,C,bl,B,Z⟩;obtain⟨I,ds,rfl⟩:=jd et;have y:=kp r S;have b7:AN M r p (l.map V.int):=y.seq a5;have fx:(Aa n).drop j=I::(Aa n).drop (j+1):=by
     have(e9,e8):=AY.mp ds;rw[Go e9,e8]
    rw[fx]at Z;have(x,c9,hc,fy):=su Z;simp![];have hs:=(AY.mp ds).1;have d3:=ij n;rcases fy with⟨b4,hf,es,bs,rfl,b5⟩ | ⟨b4,bs,rfl,b5⟩
    ·have(la,e4,hn):=T.jY I b4;refine(.str (Bh I),rfl,DL (Bh I),rfl,_,rfl,?_);rw[e4]
     try dsimp only
     refine ak (λ_=>?_) (λh=>absurd (by simp) h);exists ea,av;refine(nV d,rfl,_,_,rfl,rfl,.ref p,rfl,nV d,rfl,p,_,(d:Int),V.int x,rfl,rfl,b7,by rw[aM];exact ca _ _ c9,_,_,rfl,rfl,?_);have gg:(d:Int) + 1+x=((d+1+x.toNat:Nat):Int):=by lia
     simp![];rw[gg];subst av;exists ea,av;have ck:(d:Int) + 1=((d+1:Nat):Int):=by lia
     refine(.ref g,rfl,.inl (rfl,_,AN.of C),.ref p,rfl,nV d,rfl,_,_,rfl,rfl,_,rfl,nV (d+1+x.toNat),rfl,_,rfl,p,_,rfl,b7,λO J=>?_);have f6:Ih (l.map V.int) (AA ((d:Int) + 1)) (AA ((d+1+x.toNat:Nat):Int))=((l.drop (d+1)).take x.toNat).map V.int:=by
      rw[ck,yX _ _ _ () (by rw[AL];lia),List.map_take,O9]
      congr 1
      lia
     rw[f6];have b0:O≠g:=λz=>by rw[z,C]at J;cases J
     have eu:bm O=AB:=S.eN C J;have eo:O≠q:=λz=>by rw[z,y _ _ a1]at J;cases J
     refine(g,us,.ref O,rfl,rfl,by rw[aC b0.symm];exact C,dS (),?_);subst av;simp![];refine(d+1+x.toNat,us ++ [V.ref O],_,_,a2 ++ [.row ((l.drop (d+1)).take x.toNat)],bs,rfl,by lia,es,by rw[Jq];rfl,by rw[BZ,b1];rfl,(S.new J).put (by simp),aB,?_,λb m=>?_,b5);refine DW.snoc (bl.keep λb xs m e=>?_) (.row _ O ?_ .nil);rw[aC (B b m).1,aC (aT e J)];exact e;rw[aC b0,aB];rcases Az.mp m with h|h;exact B b h;rw[Av]at h;cases h;exact(b0,eo,eu)
    ·refine(.str (Bh I),rfl,DL (Bh I),rfl,_,rfl,?_);rw[T.jU I b4]
     try dsimp only
     refine ak (λh=>absurd h (by simp)) (λ_=>?_);exists ea,av;refine(.ref g,rfl,.inl (rfl,_,AN.of C),.ref p,rfl,nV d,rfl,p,_,(d:Int),V.int x,rfl,rfl,b7,by rw[aM];exact ca _ _ c9,g,us,V.int x,rfl,rfl,C,dS (),?_);subst av;simp![];have ck:(d:Int) + 1=((d+1:Nat):Int):=by lia
     rw[ck];refine(d+1,us ++ [V.int x],_,_,a2 ++ [.num x],bs,rfl,by lia,by lia,by rw[Jq];rfl,by rw[BZ,b1];rfl,S.put (by simp),aB,?_,λb m=>?_,b5);refine DW.snoc (bl.keep λb xs m e=>?_) (.num x .nil);rw[aC (B b m).1];exact e;rcases Az.mp m with h|h;exact B b h;rw[Av]at h;cases h
   ·rintro a3 r ⟨d,us,ef,eb,a2,rest,rfl,ew,dm,rfl,b1,S,C,bl,B,Z⟩;rw[AL,List.drop_length,EW]at Z;cases Z;subst L;have y:=kp r S;have ci:=y _ _ a1;have hg:G.length<=15800:=by rw[U.len,FQ];lia
    try dsimp only
    refine(.ref q,rfl,.inl (rfl,_,AN.of ci),nV n,rfl,.ref g,rfl,aN (by simp),λX b2=>?_);have c0:X≠q:=λz=>by rw[z,ci]at b2;cases b2
    refine(q,G.map V.ref,.ref X,rfl,rfl,by rw[aC c0.symm];exact ci,by rw[AL];exact dS (),?_);have a6:cs[i]? =AA (n,a2 ++ [])/\cs.drop (i+1)=go:=by
     have(cg,ce,d4):=drop_cons ge;exact(cg,ce.symm)
    have fb:=(AY.mp a6.1).1;have el:AH H r:=Y.trans y;have R:∀{b o},r b=AA o->b≠q->L2.upd (L2.upd r X (.tup [nV n,V.ref g])) q (.lst (G.map V.ref ++ [V.ref X])) b=AA o:=λ{b o} e h=>by rw[aC h,aC (aT e b2)];exact e
    have fj:H g=AB:=Y.free an;refine((d,i+1,G ++ [X],_,_,_,_,rfl,dm,fb,λb o e=>R (el b o e) (aT e b6),by rw[aB,Dd];rfl,(?_,λj t c aj ab=>?_),by rw[a6.2];exact f0),?_);rw[BZ,U.len,take_snoc a6.1,BZ];rfl;rw[take_snoc a6.1]at ab;have e5:=U.len;by_cases e7:j<G.length;rw[F9 e7]at aj;rw[F9 ()]at ab;have(f5,ek,(cm,gw,gs),(d6,gr),d5):=U.each j t c aj ab;refine(f5,ek,(R (y _ _ cm) (λz=>by rw[z,a1]at cm;cases cm),R (y _ _ gw) d6,gs.keep λb xs m e=>R (y _ _ e) (d5 b m).1),(d6,gr),d5);have e6:j=G.length:=by
     have:=(AY.mp aj).1;rw[BZ]at this;simp at this;lia
    subst e6;rw[F8 (Au _),IV]at aj;rw[F8 (),<-e5,IV]at ab;cases aj;cases ab;refine(g,us,(by rw[aC c0,aB],R C c7,?_),(c7,fj),λb m=>((B b m).2.1,Y.free (a4.free (B b m).2.2)));show DW _ (a2 ++ []) us;rw[BF];exact bl.keep λb xs m e=>R e (B b m).2.1;show l.length - ((d:Int)).toNat<l.length - ((pl:Int)).toNat;lia
  ·rw[AK (by rw[DH ()];decide)];subst a0;have hd:l.drop pl=[]:=Lg ();rw[hd]at cd;have fr:=cd.stop;have fe:cs.take i=cs:=La (PU.mp fr);rw[fe]at U;exact(.ref q,rfl,k q G D b6 Y a1 U)
 rintro a3 D h0 hz fz h;have(ej,cg,ei,ce,en,ec,d4,d3,er,eq,f4,f3,ep,f2,f1):=h;exact(ej,cg,ei,ce,en,ec,d4,d3,er,eq,f4,f3,ep,f2,fz _ _ f1)
end RW
end
section
namespace RW
open Vbwsal
def mB:∀{ks:List Kd} {l:List Int} {as:List Arg} {t:List Int},EW ks l=AA (AE as t)->(BN ks as).length+t.length<=l.length
 | [],l,as,t,h=>by cases h;simp[BN]
 | _::_,[],as,t,h=>by cases h
 |k::ks,x::l,as,t,h=>by
  rw[EW]at h;by_cases q:k.Ck=AC;rw[AJ q]at h;split at h;rename_i d;have((c,u),e,a):=Hl.mp h;cases a;have b:=mB e;rw[Fs]at b;dsimp only;erw[BN,AS];split;erw[BZ,FQ];lia;lia;cases h;rw[AK q]at h;have((c,u),e,a):=Hl.mp h;cases a;have b:=mB e;dsimp only;erw[BN,AS];split;erw[AS];lia;lia
def Calls.few(h:Calls l cs):∀c∈cs,(BN (Aa c.n) c.as).length<=l.length:=by
 induction h with
 |nil=>intro c b;simp at b
 |cons f e b d=>
  intro c a;have:=mB e;rcases Aj.mp a with rfl|a;dsimp only;erw[AS];lia;have:=d c a;erw[AS];lia
def i6:∀{ks:List Kd} {as:List Arg},(ks.zip as).all (λy=>EE y.1 y.2)=AC->∀z∈Eh ks as,1<=z
 | [],as,_,z,h=>by simp[Eh]at h
 | _::_,[],_,z,h=>by simp[Eh]at h
 |k::ks,.num x::as,a,z,h=>by
  rw[O6,IY,DN]at a;rw[Eh]at h;split at h;rename_i e;rcases Aj.mp h with rfl|h;have b:inR z k.lo k.hi=AC:=a.1;rw[e]at b;exact(ie.mp b).1;exact i6 a.2 z h;exact i6 a.2 z h
 |k::ks,.row l::as,a,z,h=>by
  rw[O6,IY,DN]at a;exact i6 a.2 z h
def my{s:St}:∀(cs:List Cl) (i:Nat) (s:St),(Ed s (cs.take i)).length<=(Ed s cs).length
 | [],i,s=>by simp
 |c::cs,0,s=>by simp[Ed]
 |c::cs,i+1,s=>by
  have:=my (s:=s) cs i (Ff s c).1;erw[M6,Ed,Ed];simp;lia
end RW
end
section
namespace RW
open PySem PySem.Spec PyProof.Rows L2 L3 Vbwsal
@[inline]def oI:Option Int->V
 |none=> .Al
 |some z=> .int z
inductive Px(c:Cs)(vs:List V)(H:Hp)(Q:VK)(E:XK):Prop
 |mk:∀r s n gv as us,vs=[.ref r.wa,nV n,.ref gv]->n<20->GN c H r s->H gv=AA (.lst us)->DW H as us->Fits (Aa n) as->(BN (Aa n) as).length<=50000->(∀H',AH H H'->Q (oI (refusal s n as)) H')->Px c vs H Q E
structure zx(c:Cs)(PL PF:AD)(H:Hp)(r:WA)(s:Eg)(gw:AD)(n:Nat)(as:List Arg)(us:List V):Prop where
 lt:n<20
 W:GN c H r s
 T:D7 H PL PF
 gv:H gw=AA (.lst us)
 A:DW H as us
 ng:gw∉r.muts
 nr:∀p,V.ref p∈us->p∉r.muts
 F:Fits (Aa n) as
 few:(BN (Aa n) as).length<=50000
inductive Ng(c:Cs)(PL PF:AD)(vs:List V)(H:Hp)(Q:VK)(E:XK):Prop
 |mk:∀r s n gv as us,vs=[.ref r.wa,nV n,.ref gv]->zx c PL PF H r s gv n as us->(∀l r' H',H l=AB->AQ (r.muts ++ [PL,PF]) H H'->D7 H' PL PF->EN H r (refsOf us) r'->GN c H' r' (Ff s ⟨n,as⟩).1->H' l=AA (.lst ((Ff s ⟨n,as⟩).2.map V.int))->Q (.ref l) H')->Ng c PL PF vs H Q E
inductive Ku(c:Cs)(K:Ao)(PL PF:AD)(vs:List V)(H:Hp)(Q:VK)(E:XK):Prop
 |mk:∀p l cs,vs=[.ref p]->AN K H p (l.map V.int)->Calls l cs->l.length<=15800->D7 H PL PF->(Ed GQ cs).length<=10000000->(∀q H',AQ [PL,PF] H H'->D7 H' PL PF->H' q=AA (.lst ((Ed GQ cs).map V.int))->Q (.ref q) H')->Ku c K PL PF vs H Q E
structure VM(P:ET)(w:Do)(K:Ao)(mg:Str->Option AI)(base:BI)(c:Cs)(PL PF:AD)(ca:AD):Prop where
 Pa:GR mg "CALLS" ca
 each:∃fs:List AD,fs.length=20/\(∀H,BB K H ca (fs.map V.ref))/\∀(n:Nat) (f:AD),fs[n]? =AA f->∃fd,AV P w K mg base AZ 8 f fd ["world","given"] (Hs c PL PF n)/\G9 K (.ref f)=AC/\Binds K fd ["world","given"] []
def rQ(w:Ad c H r s g)(h:1<=z):(A9 (Bb (alive s) r.ka) (AW z)).isSome= !(FN s z.toNat).isNone:=by
 obtain⟨m,rfl⟩:∃m:Nat,z=m:=(z.toNat,by lia);erw[Ep];cases e:FN s m with
 |some x=>
  have(i,a,p,I,G,E,D,C,B,u,A):=w.walker (fU.mp e);erw[u];rfl
 |none=>
  show _=AF;erw[JD];intro o;have(v,d):=HB.mp o;unfold A9 at d;have(b,f,_):=Hl.mp d;have q:b.1=AW (m:Int):=by simpa using NF f
  have(i,t):=DP (Wn f);have(y,a,n,_,j,_):=gK (k:=b.1) (x:=b.2) t;rw[q]at j;have:y.1=m:=by have:=G6 j;lia
  have l:=Ar n;have hw:FN s y.1=AA y.2:=fU.mpr l;rw[this,e]at hw;cases hw
def u5(c1:Ag b "shared_refusal" "shared_refusal" T7 f fd)(T:EY mg)(j:DO b mg c.W)(bm:Dx b mg c.L)(c4:A8 aj w b mg base 3 "are_in_range" ["number","given"] QQ)(c3:A8 aj w b mg base 3 "cells_named" ["number","given"] QM)(c2:A8 aj w b mg base 3 "walkers_named" ["number","given"] Pq):
  AV aj w b mg base AZ 4 f fd ["world","number","given"] (Px c):=by
 exists c1.go ["world","number","given","cell","walker"],dd,a2,B;obtain⟨r,st,n,o,as,us,rfl,U,b7,Y,Z,G,b6,k⟩:=h;have b2:=eC B;refine(_,(aE (aX (fw (dU (ag c4 B rfl (aA (pv 1) (aA (pv 2) aD))))) (aF (aI (db dZ aG))) aZ) (aE (aX (aW dh (pv 1) (dI T.Qt) (aU _)) (aF (aI ai)) aZ) (aE (aX (aW dz (aH (pv 0)) ai (aU _)) (aF (aI (db dZ aG))) aZ) (aE (aX (dU (bD (io rfl) (by rfl) T.HR boot_any (aA (dk rfl a2 (dP (ag c3 B rfl (aA (pv 1) (aA (pv 2) aD)))) (own:=[(AE ("cell") 3)]) (dO (by kernel_rfl)) (λ_ _ _ _ _=>(aa 3)) (λ_ _ _ _ _=>dv) (λ_ _ _ _ _=>(eQ jR (pv 3) (gm (K:=b) rfl (gm (K:=b) rfl (pv 0) rfl) rfl) (aU _)))) aD))) (aF (aI (db dZ aG))) aZ) (aE (aX (dU (bD (io rfl) (by rfl) T.HR boot_any (aA (dk rfl a2 (dP (ag c2 B rfl (aA (pv 1) (aA (pv 2) aD)))) (own:=[(AE ("walker") 4)]) (dO (by kernel_rfl)) (λ_ _ _ _ _=>(aa 4)) (λ_ _ _ _ _=>dv) (λ_ _ _ _ _=>(tz (jO b2 (pv 4) (gm (K:=b) rfl (pv 0) rfl))))) aD))) (aF (aI (db dZ aG))) aZ) (aF (aI ai))))))),?_);unfold refusal at k;exists N,d;simp![];refine(n,o,as,us,rfl,U,Y,Z,G,λan l=>?_);cases X:Eu n as with
 |false=>
  rw[X,AJ rfl]at k;simp![];exact k an l
 |true=>
  rw[X,AK (by decide)]at k;subst d;exists N,d;simp![];by_cases a3:n=0;rw[AJ a3]at k;rw[AJ (BH ())];simp![];exact k an l;rw[AK a3]at k;rw[AK (by rw[DH ()];decide)];subst d;exists N,d;rcases b7.same l with⟨rfl,cp⟩ | ⟨g,W⟩;have(a6,dl,fl,wd,C):=cp.ins;simp![C,j.cl,j.Dv,dR];exact k an l;have(a6,C):=W.ins;rw[W.gr]at k;dsimp only at k;simp![C,j.cl,j.Dv,dR];subst d;exists N,d;have(cm,b4):=W.land.ins;refine(nV n,rfl,.ref o,rfl,n,o,as,us,rfl,U,l _ _ Y,Z.same l,G,b6,λq dn c7 t a5=>?_);refine(q,rfl,(_,AN.of a5),λD cd=>?_);refine eM (K:=b) (a:=q) (xs:=(BN (Aa n) as).map V.int) (λi=>((BN (Aa n) as)[i]?).map λz=>V.bl (decide ((AG g:Int)<=z))) cd a5 (by rw[AL];exact aN ()) (λi v L S m=>?_) (λL m ck=>?_);intro cr c0 O b0;obtain⟨z,x,rfl⟩:=dN S;refine(rfl,?_);unfold Er;dsimp only;rw[AJ rfl];refine(V.int z,rfl,.ref r.wa,rfl,r.wa,c.W,a6,_,.ref r.la,rfl,m _ _ (t _ _ C),j.cl,j.Dv,dR,r.la,c.L,cm,_,nV (AG g),rfl,m _ _ (t _ _ b4),bm.cl,bm.EX,g9,_,_,rfl,rfl,?_);exact O _ _ (by rw[x];rfl) (λ_ _ e=>e);have ci:L D=AA (.lst (((BN (Aa n) as).map λz=>decide ((AG g:Int)<=z)).map V.bl)):=by
   rw[ck,AL,Dc]
   congr 2
   exact eX λi y R=>by rw[R];rfl
  refine(D,_,rfl,AN.of ci,_,rfl,?_);rw[Gp];dsimp only;have u:AH H L:=l.trans (t.trans m);by_cases J:(BN (Aa n) as).any (λz=>decide ((AG g:Int)<=z))=AC;rw[AJ J]at k;rw[AJ (show (BN (Aa n) as).any (id∘λz=>decide ((AG g:Int)<=z))=AC from J)];simp![];exact k L u;rw[AK J]at k;rw[AK (show ¬(BN (Aa n) as).any (id∘λz=>decide ((AG g:Int)<=z))=AC from J)];subst d;exists N,d;have bl:=W.same (t.trans m);have(c9,c8):=bl.ins;have b3:=i6 (mK X);have c5:(Eh (Aa n) as).length<=4:=by
   rw[j0 G.len.symm];have:=Wu (λi=>((Aa n)[i]?).bind λk=>(as[i]?).bind λa=>JF k a) (Ai (Aa n).length);rw[DS]at this;have:=ij n;lia
  refine(nV n,rfl,.ref o,rfl,n,o,as,us,rfl,U,u _ _ Y,Z.same u,G,λa1 dm c6 av a4=>?_);refine(a1,rfl,(_,AN.of a4),λbs ca=>?_);refine eM (K:=b) (a:=a1) (xs:=(Eh (Aa n) as).map V.int) (λi=>((Eh (Aa n) as)[i]?).map λz=>V.bl (FN st z.toNat).isNone) ca a4 (by rw[AL];exact aN ()) (λi v p S M=>?_) (λp M cg=>?_);intro cr c0 O b0;obtain⟨z,x,rfl⟩:=dN S;have b1:=b3 z (Ar x);have ab:=bl.same (av.trans M);have(co,b5):=ab.ins;refine(rfl,?_);unfold Er;dsimp only;rw[AJ rfl];refine(V.int z,rfl,.ref r.wa,rfl,r.wa,c.W,co,_,.ref r.wd,rfl,b5,j.cl,j.FT,d8,r.wd,_,rfl,DV.k (k:=AW z) ab.wd,?_);rw[rQ ab b1,Bool.not_not];exact O _ _ (by rw[x];rfl) (λ_ _ e=>e);have ce:p bs=AA (.lst (((Eh (Aa n) as).map λz=>(FN st z.toNat).isNone).map V.bl)):=by
   rw[cg,AL,Dc]
   congr 2
   exact eX λi y R=>by rw[R];rfl
  refine(bs,_,rfl,AN.of ce,_,rfl,?_);rw[Gp];dsimp only;have a0:AH H p:=u.trans (av.trans M);by_cases I:(Eh (Aa n) as).any (λz=>(FN st z.toNat).isNone)=AC;rw[AJ I]at k;rw[AJ (show (Eh (Aa n) as).any (id∘λz=>(FN st z.toNat).isNone)=AC from I)];simp![];exact k p a0;rw[AK I]at k;rw[AK (show ¬(Eh (Aa n) as).any (id∘λz=>(FN st z.toNat).isNone)=AC from I)];subst d;exact k p a0
def v5(R:Ag i "answer_to" "answer_to" U4 f fd)(T:VM o w i mg base c PL PF J)(S:A8 o w i mg base 8 "shared_refusal" ["world","number","given"] (Px c)):AV o w i mg base AZ 9 f fd ["world","number","given"] (Ng c PL PF):=by
 exists R.go ["world","number","given","refusal","act"],X,U,j;obtain⟨r,st,n,g,as,us,rfl,A,k⟩:=h;refine(_,(aE (aS 3 (ag S j rfl (aA (pv 0) (aA (pv 1) (aA (pv 2) aD))))) (aE (aX (aW ff (pv 3) ai (aU _)) (aF (aI (af (aA (pv 3) aD)))) aZ) (aE (aS 4 (aJ gU (oO T.Pa) (pv 1))) (aF (aI (t4 (pv 4) j (aA (pv 0) (aA (pv 2) aD)))))))),?_);have(x,u,q):=sC (s:=st) A.lt A.F;rw[q]at k;exists N,d;simp![];refine(r,st,n,g,as,us,rfl,A.lt,A.W,A.gv,A.A,A.F,A.few,λY a=>?_);subst d;exists N,d;cases e:refusal st n as with
 |some z=>
  rw[e]at k;simp![oI];refine(aN (),λl b=>?_);exact k l r _ (a.free b) (AH.but (a.trans (AH.upd b))) (A.T.same (a.trans (AH.upd b))) EN.rfl' (A.W.same (a.trans (AH.upd b))) (by rw[aB];rfl)
 |none=>
  rw[e]at k;simp![oI];subst d;have(fs,B,y,C):=T.each;obtain⟨fn,m⟩:∃fn,fs[n]? =AA fn:=(_,AX (by rw[B];exact A.lt));have(G,t,v,D):=C n fn m;exists N,d;refine(nV n,rfl,J,_,(n:Int),V.ref fn,rfl,rfl,y _,by rw[aM,BC,m];rfl,?_);subst d;refine(V.ref fn,rfl,fn,G,["world","given"],Hs c PL PF n,rfl,t,v,D,.ref r.wa,rfl,.ref g,rfl,r,st,g,as,us,x,rfl,(A.W.same a,A.T.same a,a _ _ A.gv,A.A.same a,A.ng,A.nr,A.F,u,e),λl r' O b L p f2 M I=>?_);exact k l r' O (a.free b) ((AH.but a).trans L) p (f2.back a.grow) M I
def sR(h:n<=10000000):n<=Ae:=by erw[IR];lia
def sQ(h:n<=10000000):n<Ae:=by erw[IR];lia
def GN.upd(S:GN c H r s)(h:∃xs,H q=AA (.lst xs))(b:q∉r.lists):GN c (L2.upd H q o) r s:=by
 have(xs,h):=h;rcases S with⟨e,W⟩ | ⟨g,W⟩;have(d,dl,fl,wd,a):=W.ins;exact .inl (e,(d,dl,fl,wd,by erw[aC (dF a h ∅)];exact a),W.muts,W.lists);exact .inr (g,W.upd (λu e=>(xs,by rw[h]at e;exact(Ap e).symm)) b)
structure z6(c:Cs)(PL PF:AD)(H1:Hp)(p wa tq:AD)(cs:List Cl)(i:Nat)(σ:L2.St)(H':Hp):Prop where
 st:∃x y z:Option V,σ=[AA (.ref p),AA (.ref wa),AA (.ref tq),x,y,z]
 ex:∃r:WA,r.wa=wa/\GN c H' r (Ga GQ (cs.take i))/\D7 H' PL PF/\H' tq=AA (.lst ((Ed GQ (cs.take i)).map V.int))/\AQ [wa,tq,PL,PF] H1 H'/\(∀b∈r.muts,b=wa\/H1 b=AB)/\tq∉r.lists/\tq∉r.muts
def v4(fe:Ag B "answers" "answers" QV f fd)(T:EY mg)(fr:FX b7 w B mg base 8 "World" c.W ["self"] (Pn c))(fj:A8 b7 w B mg base 9 "split_calls" ["calls"] (Pu B))(fq:A8 b7 w B mg base 9 "answer_to" ["world","number","given"] (Ng c PL PF)):AV b7 w B mg base AZ 10 f fd ["calls"] (Ku c B PL PF):=by
 exists fe.go ["calls","world","told","number","given","answer"],gi,f2,an;obtain⟨p,l,cs,rfl,av,a4,ew,e2,f5,k⟩:=h;refine(_,(aE (aS 1 (tV fr an rfl)) (aE (aS 2 (af aD)) (aE (dg D0 rfl (dP (ag fj an rfl (aA (pv 0) aD))) (eP rfl (dX (aa 3) (dX (aa 4) eO))) (aE (aS 5 (ag fq an rfl (aA (pv 1) (aA (pv 3) (aA (pv 4) aD))))) (aE (dW (dw FJ Fo F0 eA (pv 2) (aA (bD dj (by rfl) T.C2 EB (aA (pv 5) aD)) aD))) (aF (dW (dw FJ Of SK ku (pv 2) (aA (pv 5) aD))))))) (aF (aI (pv 2)))))),?_);exists N,C;intro wa ds ck en ne;refine(wa,ds,rfl,aB,λdl fl wd J e9 ey=>(rfl,?_));have cg:AH H J:=AH.made ck en λb o e d=>e9 b o e (by simpa using d);subst C;exists N,C;refine(aN (DR _),λg cr=>?_);subst C;have Z:AH J (L2.upd J g (.lst [])):=AH.upd cr;have X:L2.upd J g (.lst []) g=AA (.lst []):=aB;generalize L2.upd J g (.lst [])=ca at Z X;have sa:AH H ca:=cg.trans Z;have a0:=Z _ _ ey;have b4:=e2.same sa;exists N,C;refine(.ref p,rfl,p,l,cs,rfl,sa.seq av,a4,ew,λq eb Y et L dp cd=>?_);refine(q,rfl,(_,AN.of dp),?_);have b5:=b4.same L;have a1:=L _ _ a0;have bl:=L _ _ X;have(fy,eq):=b5.l.aY;have(f0,es):=b5.f.aY;have(fx,ep):=b4.l.aY;have(fz,er):=b4.f.aY;have ci:wa≠g:=dF a1 bl ∅;have a6:∀{b},ca b=AB->b∉[wa,g,PL,PF]:=λ{b} h z=>by
  simp only[Aj,BW,BV]at z;rcases z with rfl|rfl|rfl|rfl;rw[a0]at h;cases h;rw[X]at h;cases h;rw[ep]at h;cases h;rw[er]at h;cases h
 have dm:=a4.fits;have ez:=a4.few;refine fS (K:=B) (a:=q) (xs:=eb.map V.ref) (z6 c PL PF Y p wa g cs) ((AB,AB,AB,rfl),{wa:=wa,la:=wa,pc:=wa,ph:=wa,pd:=wa,ps:=wa,sa:=[],dl:=wa,da:=[],fl:=wa,fa:=[],fp:=[],wd:=wa,ka:=[],kp:=[]},rfl,.inl (rfl,(ds,dl,fl,wd,a1),?_,?_),b5,bl,AH.but (λ_ _ e=>e),?_,?_,?_) (λi ce G _ I=>?_) ?_ ?_;intro b d;simp[WA.muts,WA.DF]at d;exact d;intro b d;simp[WA.lists,WA.DF]at d;exact d;intro b d;simp[WA.muts,WA.DF]at d;exact .inl d;intro d;simp[WA.lists,WA.DF]at d;exact ci d.symm;intro d;simp[WA.muts,WA.DF]at d;exact ci d.symm;have(r,_,_,_,_,x,_):=I.ex;exact AN.of (x _ _ dp (a6 et));rintro i v ce G eo ⟨⟨ea,d6,d5,rfl⟩,r,rfl,b6,y,m,x,M,co,ab⟩;obtain⟨t,c7,rfl⟩:=dN eo;have dd:=(AY.mp c7).1;rw[cd.len]at dd;obtain⟨⟨n,as⟩,O⟩:∃cl,cs[i]? =AA cl:=(_,AX dd);have a2:=Ar O;have(D,us,(u,d2,b1),(go,d1),bs):=cd.each i t _ c7 O;have ek:t∉[r.wa,g,PL,PF]:=λz=>by
  simp only[Aj,BW,BV]at z;rcases z with rfl|rfl|rfl|rfl;rw[a1]at u;cases u;rw[bl]at u;cases u;rw[eq]at u;cases u;rw[es]at u;cases u
 have e8:=x _ _ u ek;have e7:=x _ _ d2 (a6 d1);have e6:DW G as us:=b1.keep λb xs d e=>x _ _ e (a6 (bs b d).2);have cp:∀{b o},Y b=AA o->ca b=AB->b∉r.muts:=λ{b o} e h z=>by
  rcases M b z with a5|a5;rw[a5,a0]at h;cases h;rw[a5]at e;cases e
 have ef:∀p,V.ref p∈us->∃o,Y p=AA o:=λp av=>by
  have(j,c9):=DP av;have ge:=(AY.mp c9).1;have gg:us.length=as.length:=b1.len;obtain⟨a,e0⟩:∃a,as[j]? =AA a:=(_,AX ());rcases b1.at_ j a _ e0 c9 with⟨z,_,e⟩ | ⟨f4,f1,_,e,eu⟩;cases e;cases e;exact(_,eu)
 have c0:Ga GQ (cs.take (i+1))=(Ff (Ga GQ (cs.take i)) (n,as)).1:=by rw[take_snoc O,nM]
 have aj:Ed GQ (cs.take (i+1))=Ed GQ (cs.take i) ++ (((Ff (Ga GQ (cs.take i)) (n,as)).2.length:Int)::(Ff (Ga GQ (cs.take i)) (n,as)).2):=by rw[take_snoc O,mz]
 have dn:=my (s:=GQ) cs (i+1) GQ;rw[aj,BZ,AS]at dn;refine(t,[nV n,V.ref D],rfl,BB.of e8,rfl,nV n,[V.ref D],rfl,V.ref D,[],rfl,rfl,?_);exists fb,a3;refine(.ref r.wa,rfl,nV n,rfl,.ref D,rfl,r,_,n,D,as,us,rfl,((dm _ a2).1,b6,y,e7,e6,cp d2 d1,λb d=>let(o,ev):=ef b d;cp ev (bs b d).2,(dm _ a2).2,by have:=ez _ a2;simp only at this;lia),λla r' gr c8 d3 ec R d4 bm=>?_);subst a3;generalize f6:Ff (Ga GQ (cs.take i)) (n,as)=sp at d4 bm c0 aj dn;have e4:EM Y G:=x.grow λb d=>by
  simp only[Aj,BW,BV]at d;rcases d with rfl|rfl|rfl|rfl;have(_,_,_,_,_,_,_,e):=b6.ins;exact(_,e);exact(_,m);have(_,e):=y.l.aY;exact(_,e);have(_,e):=y.f.aY;exact(_,e)
 have ei:g∉r.muts ++ [PL,PF]:=by
  have(_,e):=y.l.aY;have(_,e5):=y.f.aY;rw[Az,A5];refine(ab,?_);simp only[Aj,BW,BV,A5];exact(dF m e ∅,dF m e5 ∅)
 have U:=d3 _ _ m ei;have el:la≠g:=λz=>by rw[z,m]at c8;cases c8
 exists fb,a3;refine(.ref g,rfl,.inl (rfl,_,AN.of U),.ref la,rfl,la,_,rfl,bm,g,_,V.int ((sp.2.map V.int).length:Int),rfl,rfl,U,by rw[AL];exact sQ (),?_);subst a3;dsimp only;refine(.ref g,rfl,.inl (rfl,_,AN.of aB),.ref la,rfl,g,la,_,_,rfl,rfl,aB,by rw[aC el];exact bm,by rw[BZ,AL,AL];exact sR (by simp;lia),?_);rw[ah];have cm:g∉r'.lists:=λz=>by
  rcases R.lists g z with h|h|h;exact co h;rw[m]at h;cases h;have:=(bs g (ox.mp h)).2;rw[X]at this;cases this
 have ej:g∉r'.muts:=λz=>by
  rcases R.muts g z with h|h;exact ab h;rw[m]at h;cases h
 refine((_,_,_,rfl),r',R.wa,by rw[c0];exact d4.upd (_,U) cm,ec.but (S:=[g]) (AQ.upd (by simp)) (λb d o e=>?_),?_,λb o e d=>?_,λb d=>?_,cm,ej);rw[Av.mp d,U]at e;cases e;show 0<4;decide;rw[aB,aj,Dd,Jq];simp;simp only[Aj,BW,BV,A5]at d;rw[aC d.2.1];refine d3 _ _ (x _ _ e (by simp only[Aj,BW,BV,A5];exact d)) ?_;rw[Az,A5];refine(λz=>?_,by simp only[Aj,BW,BV,A5];exact d.2.2);rcases M b z with h|h;exact d.1 h;rw[h]at e;cases e;rcases R.muts b d with h|h;exact M b h;exact .inr (e4 b h);rintro ce G ⟨⟨ea,d6,d5,rfl⟩,r,rfl,b6,y,m,x,M,co,ab⟩;subst C;refine(.ref g,rfl,?_);rw[AL,cd.len,EI]at m;refine k g G (λb o e d=>?_) y m;refine x _ _ (L _ _ (sa _ _ e)) ?_;simp only[Aj,BW,BV,A5]at d|-;exact(aT e ck,λz=>(by have:=cg _ _ e;rw[z,cr]at this;cases this),d.1,d.2)
def uh(a1:Ag i "tell_prices" "tell_prices" Tr f fd)(T:EY mg)(L:DO i mg c.W)(a4:A8 z w i mg base 4 "least_costs" ["land","start"] (Ks c.L PL))(a2:A8 z w i mg base 4 "with_count" ["numbers"] Kq)(a3:A8 z w i mg base 4 "prices_told" ["costs","most"] Pz):
  AV z w i mg base AZ 5 f fd ["world","given"] (DM c PL PF 3):=by
 exists a1.go ["world","given","costs","most"],b6,a6,t;obtain⟨r,st,g,an,as,us,x,rfl,A,k⟩:=h;refine(_,(aE (aS 2 (ag a4 t rfl (aA (aH (pv 0)) (aA (aJ aL (pv 1) aG) aD)))) (aE (aS 3 (aJ aL (pv 2) (aJ aL (pv 1) aG))) (aE (aX (aW dz (pv 3) ai (aU _)) (aF (aI (af (aA aG aD)))) aZ) (aF (aI (aV gp (af (aA aG (aA (pv 3) aD))) (ag a2 t rfl (aA (ag a3 t rfl (aA (pv 2) (aA (pv 3) aD))) aD)))))))),?_);have(b3,v,bl):=A.known (by decide);obtain⟨a,b,rfl,rfl, -, -⟩:=A.n2 (k:=.cell) (k2:=.cell) rfl (by decide) (by decide);have R:Call.prices (a:Int) (b:Int)=x:=Ap A.call;subst R;have aj:a<AG g:=by have:=v a (show (a:Int)∈[(a:Int),(b:Int)] by simp);lia
 have ab:b<AG g:=by have:=v b (show (b:Int)∈[(a:Int),(b:Int)] by simp);lia
 have m:act st (.prices (a:Int) (b:Int))=(AE st (match at_ (A0 g a) b with
  |none=>[0]
  |some x=>1::(x:Int)::Jb (Lw (A0 g a) x))):=dy A.W.gr v
 have(b5,Y):=A.W.ins;have G:=A.W.ok.Ej g A.W.gr;have b4:=G.few;have X:(A0 g a).length=AG g:=(fG (g:=g) (s:=a) G.wide).len;exists N,d;simp![Y,L.cl,L.Dv,dR,A.gv];refine(r.la,g,r.pc,r.ph,r.ps,r.sa,a,rfl,A.W.land.s,aj,A.T.l,λp j b2 n B J=>?_);subst d;have b7:=A.W.tab n A.T.l.aY;have Z:j an=AA (.lst [nV a,nV b]):=n _ _ A.gv (by
  have(a5,S):=A.T.l.aY;rw[Av];exact dF A.gv S ∅)
 exists N,d;simp![J,Z,dM (show b<(A0 g a).length by rw[X];exact ab)];subst d;exists N,d;cases hd:at_ (A0 g a) b with
 |none=>
  rw[hd]at m;simp![oV];refine(aN (),λl u=>?_);exact k.fin A.W A.T m n B (λ_ _ e=>e) u rfl
 |some y=>
  rw[hd]at m;simp![oV];subst d;simp![oV];refine(aN (),λq U=>?_);have o:AH j (L2.upd j q (.lst [V.int 1,V.int y])):=AH.upd U;have I:L2.upd j q (.lst [V.int 1,V.int y]) q=AA (.lst [V.int 1,V.int y]):=aB;generalize L2.upd j q (.lst [V.int 1,V.int y])=ce at o I|-;simp![];refine(p,A0 g a,y,rfl,o _ _ J,by lia,λO cd bs D a0=>?_);have b0:(Lw (A0 g a) y).length<=1000:=by unfold Lw;rw[AL];lia
  refine(O,_,rfl,a0,by lia,λM ca bm C av=>?_);refine(q,M,_,_,rfl,rfl,C _ _ (D _ _ I),av,aN (by unfold Jb;simp;lia),λl u=>?_);exact k.fin A.W A.T m n B (o.trans (D.trans C)) u rfl
def vm(G:Ag n "check_prices" "check_prices" Ur f fd)(T:EY mg)(q:DO n mg c.W)(I:A8 D w n mg base 4 "prices_prove" ["land","start","end","least","prices"] (P0 c.L)):
  AV D w n mg base AZ 5 f fd ["world","given"] (DM c PL PF 4):=by
 exists G.go ["world","given"],S,J,v;obtain⟨r,st,g,O,as,us,x,rfl,A,k⟩:=h;refine(_,(aF (aI (af (aA (fc (dU (ag I v rfl (aA (aH (pv 0)) (aA (aJ aL (pv 1) aG) (aA (aJ aL (pv 1) aG) (aA (aJ aL (pv 1) aG) (aA (aJ aL (pv 1) aG) aD))))))) aG aG) aD)))),?_);have(N,m,L):=A.known (by decide);obtain⟨a,b,d,t,p,rfl,rfl,y,M⟩:=A.wO (k:=.cell) (k2:=.cell) (k3:=.bound) (k4:=.prices) rfl (by decide) (by decide) (by decide) (by decide);have u:Call.proves (a:Int) (b:Int) (d:Int) t=x:=Ap A.call;subst u;have C:a<AG g:=by have:=m a (show (a:Int)∈[(a:Int),(b:Int)] by simp);lia
 have B:b<AG g:=by have:=m b (show (b:Int)∈[(a:Int),(b:Int)] by simp);lia
 have i:act st (.proves (a:Int) (b:Int) (d:Int) t)=(AE st [bit (Mf g a b d t)]):=dy A.W.gr m;have(R,z):=A.W.ins;simp![z,q.cl,q.Dv,dR,A.gv];refine(r.la,g,r.pc,r.ph,r.ps,r.sa,a,b,d,p,t,rfl,A.W.land.s,C,B,y,?_);cases o:Mf g a b d t with
 |true=>
  rw[o]at i;simp![];refine(aN (),λl j=>?_);exact k.di A.W A.T i (λ_ _ e=>e) j rfl
 |false=>
  rw[o]at i;simp![];refine(aN (),λl j=>?_);exact k.di A.W A.T i (λ_ _ e=>e) j rfl
def ud(X:Ag d "tell_within" "tell_within" Tl f fd)(T:EY mg)(t:DO d mg c.W)(Z:A8 m w d mg base 4 "least_costs" ["land","start"] (Ks c.L PL))(Y:A8 m w d mg base 4 "with_count" ["numbers"] Kq)(ab:A8 m w d mg base 4 "cells_within" ["costs","most"] QK):
  AV m w d mg base AZ 5 f fd ["world","given"] (DM c PL PF 5):=by
 exists X.go ["world","given"],a6,an,j;obtain⟨r,st,g,M,as,us,x,rfl,A,k⟩:=h;refine(_,(aF (aI (ag Y j rfl (aA (ag ab j rfl (aA (ag Z j rfl (aA (aH (pv 0)) (aA (aJ aL (pv 1) aG) aD))) (aA (aJ aL (pv 1) aG) aD))) aD)))),?_);have(a3,q,a0):=A.known (by decide);obtain⟨a,b,rfl,rfl, -, -⟩:=A.n2 (k:=.cell) (k2:=.bound) rfl (by decide) (by decide);have B:Call.within (a:Int) (b:Int)=x:=Ap A.call;subst B;have L:a<AG g:=by have:=q a (show (a:Int)∈[(a:Int)] by simp);lia
 have(a5,I):=A.W.ins;have G:=A.W.ok.Ej g A.W.gr;have a4:=G.few;have D:(A0 g a).length=AG g:=(fG (g:=g) (s:=a) G.wide).len;have N:act st (.within (a:Int) (b:Int))=(AE st (Jb (Vbwsal.ints (Js (A0 g a) b)))):=by
  refine(dy A.W.gr q).trans ?_;unfold Js;rw[D];simp only[Ep]
  congr 4
  funext u;cases at_ (A0 g a) u with
  |none=>rfl
  |some y=>
   show decide ((y:Int)<=(b:Int))=decide (y<=b);rw[HZ];lia
 simp![I,t.cl,t.Dv,dR,A.gv];refine(r.la,g,r.pc,r.ph,r.ps,r.sa,a,rfl,A.W.land.s,L,A.T.l,λp U a2 l n S=>?_);have J:U M=AA (.lst [nV a,nV b]):=l _ _ A.gv (by
  have(v,i):=A.T.l.aY;rw[Av];exact dF A.gv i ∅)
 simp![J];refine(p,A0 g a,b,rfl,S,by lia,λz bm a1 e R=>?_);have av:(Js (A0 g a) b).length<=1000:=by
  unfold Js;have:=Fq (λc=>(at_ (A0 g a) c).any λx=>decide (x<=b)) (Ai (A0 g a).length);rw[DS]at this;lia
 refine(z,Vbwsal.ints (Js (A0 g a) b),rfl,by rw[R,lU],by unfold Vbwsal.ints;rw[AL];lia,λaj bl C o O=>?_);have(v,i):=n.aY;exact k.least A.W A.T N (l.eN i (e.free C)) (l.trans (AH.but (e.trans o))) (n.same (e.trans o)) O
def uj(R:Ag i "tell_cost" "tell_cost" Tu f fd)(T:EY mg)(v:DO i mg c.W)(S:A8 O w i mg base 4 "way_cost" ["land","cells"] (Pp c.L)):
  AV O w i mg base AZ 5 f fd ["world","given"] (DM c PL PF 19):=by
 exists R.go ["world","given","cost"],an,U,C;obtain⟨r,st,g,ab,as,us,x,rfl,A,k⟩:=h;refine(_,(aE (aS 2 (ag S C rfl (aA (aH (pv 0)) (aA (aJ aL (pv 1) aG) aD)))) (aF (aI (fc (aW dz (pv 2) ai (aU _)) (af (aA aG aD)) (af (aA aG (aA (pv 2) aD))))))),?_);have(Y,G,X):=A.known (by decide);obtain⟨t,p,rfl,rfl,m,M,L,J⟩:=A.r1 (k:=.row) rfl (by decide);have B:Call.costOf t=x:=Ap A.call;subst B;have q:∀z∈t,z<(AG g:Int):=λz a=>G z (show z∈t ++ [] by simpa using a);have b:act st (.costOf t)=(AE st (match Fl g (t.map FL)with
  |none=>[0]
  |some n=>[1,(n:Int)])):=dy A.W.gr q
 have o:∀z∈t,0<=z:=λz a=>(J z a).1;have u:(1:Int)<=t.length:=M;have Z:(t.length:Int)<=200:=L;rw[kr o]at m;have(aj,D):=A.W.ins;exists N,I;simp![D,v.cl,v.Dv,dR,A.gv];refine(r.la,g,r.pc,r.ph,r.pd,r.ps,r.sa,p,t.map FL,rfl,A.W.land,m,by intro z;rw[Wq]at z;rw[z]at u;simp at u,by rw[AL];lia,λz a=>?_,?_);obtain⟨y,j,rfl⟩:=Du.mp a;have:=q y j;have:=o y j;lia;subst I;cases hd:Fl g (t.map FL)with
 |none=>
  rw[hd]at b;simp![oV];refine(aN (),λl d=>?_);exact k.di A.W A.T b (λ_ _ e=>e) d rfl
 |some y=>
  rw[hd]at b;simp![oV];refine(aN (),λl d=>?_);exact k.di A.W A.T b (λ_ _ e=>e) d rfl
structure ZA(c:Cs)(H1:Hp)(r:WA)(s:Eg)(gv:AD)(cell a:Nat)(i:Nat)(σ:L2.St)(H':Hp):Prop where
 st:∃x y:Option V,σ=[AA (.ref r.wa),AA (.ref gv),AA (nV a),x,y]
 same:AH H1 H'
 no:∀(j:Nat) (y:Nat×DI),j<i->(alive s)[j]? =AA y->DY y.2.plan.cells a≠cell
def uk(B:Ag b "tell_cell" "tell_cell" Tv f fd)(T:EY mg)(u:DO b mg c.W)(m:Dx b mg c.L)(D:A8 v w b mg base 4 "and_one" ["number"] Nh)(C:A6 v w b mg base 4 c.W "is_open_after" ["self","cell","ticks"] (Lo c)):
  AV v w b mg base AZ 5 f fd ["world","given"] (DM c PL PF 18):=by
 exists B.go ["world","given","cell","land"],R,G,p;obtain⟨r,st,g,L,as,us,x,rfl,A,k⟩:=h;refine(_,(aE (aS 2 (aJ aL (pv 1) aG)) (aE (aS 3 (aH (pv 0))) (aF (aI (af (aA (aJ aL (aH (pv 3)) (pv 2)) (aA (aJ aL (aH (pv 3)) (pv 2)) (aA (ag D p rfl (aA (aJ aL (aH (pv 3)) (pv 2)) aD)) (aA (fc (dU (ae (pv 0) C p (aA (pv 2) (aA aG aD)))) aG aG) aD))))))))),?_);have(J,t,I):=A.known (by decide);obtain⟨a,rfl,rfl, -⟩:=A.n1 (k:=.cell) rfl (by decide);have y:Call.cell (a:Int)=x:=Ap A.call;subst y;have d:a<AG g:=by have:=t a (show (a:Int)∈[(a:Int)] by simp);lia
 have j:act st (.cell (a:Int))=(AE st [((A7 g a).cost:Int),((A7 g a).height:Int),optNum (A7 g a).door+1,bit (GU g a st.now)]):=dy A.W.gr t;have(O,q):=A.W.ins;have(M,z):=A.W.land.ins;exists N,o;simp![A.gv];subst o;exists N,o;simp![q,u.cl,u.Dv,dR];subst o;simp![z,m.cl,m.FU,pL,A.W.land.s.b.costs,lr d,m.Lz,pK,A.W.land.s.b.Ei,ig d,m.Hv,jb,A.W.land.doors,ln d];refine((A7 g a).door,rfl,?_);simp![q,d7 (x:="is_open_after") (by decide +kernel)];refine(r,st,g,a,0,rfl,A.W,d,?_);cases i:GU g a st.now with
 |true=>
  rw[i]at j;simp![Hm,i];refine(aN (),λl n=>?_);exact k.di A.W A.T j (λ_ _ e=>e) n rfl
 |false=>
  rw[i]at j;simp![Hm,i];refine(aN (),λl n=>?_);exact k.di A.W A.T j (λ_ _ e=>e) n rfl
def vK(S:Ag o "look_at_field" "look_at_field" UT f fd)(T:EY mg)(d:DO o mg c.W)(D:K9 o c.F)(J:A8 I w o mg base 4 "and_one" ["number"] Nh)(U:A6 I w o mg base 4 c.F "next_cell" ["self","land","cell"] (NW c.L c.F)):
  AV I w o mg base AZ 5 f fd ["world","given"] (DM c PL PF 7):=by
 exists S.go ["world","given","which","cell","field"],a0,X,t;obtain⟨r,st,g,aj,as,us,x,rfl,A,k⟩:=h;refine(_,(aE (aS 2 (aJ aL (pv 1) aG)) (aE (aS 3 (aJ aL (pv 1) aG)) (aE (aX (aW jR (pv 2) (bD dj (by rfl) T.C2 EB (aA (aH (pv 0)) aD)) (aU _)) (aF (aI (af (aA (db dZ aG) aD)))) aZ) (aE (aS 4 (aJ aL (aH (pv 0)) (pv 2))) (aF (aI (af (aA (ag J t rfl (aA (aJ aL (aH (pv 4)) (pv 3)) aD)) (aA (ag J t rfl (aA (ae (pv 4) U t (aA (aH (pv 0)) (aA (pv 3) aD))) aD)) aD))))))))),?_);have(Z,B,Y):=A.known (by decide);obtain⟨n,a,rfl,rfl, -, -⟩:=A.n2 (k:=.field) (k2:=.cell) rfl (by decide) (by decide);have L:Call.at_ (n:Int) (a:Int)=x:=Ap A.call;subst L;have C:a<AG g:=by have:=B a (show (a:Int)∈[(a:Int)] by simp);lia
 have j:act st (.at_ (n:Int) (a:Int))=match st.fields[n]? with
  |none=>(AE st [-4])
  |some x=>(AE st [optNum (at_ x.costs a) + 1,optNum (EQ g x a) + 1]):=dy A.W.gr B
 have(av,v):=A.W.ins;have ab:=A.W.Et;exists N,b;simp![A.gv];subst b;exists N,b;simp![A.gv];subst b;exists N,b;simp![v,d.cl,d.Hu,fo,A.W.fl,AL];by_cases R:n<st.fields.length;have i:st.fields[n]? =AA st.fields[n]:=AX R;obtain⟨fa,z⟩:∃fa,r.fa[n]? =AA fa:=(_,AX ());obtain⟨fp,O⟩:∃fp,r.fp[n]? =AA fp:=(_,AX (by have:=A.W.IB;lia));have q:=A.W.fa n fa fp _ z O i;have hw:=A.W.ok.fields g A.W.gr _ (Ar i);have G:=A.W.ok.Ej g A.W.gr;rw[i]at j;generalize st.fields[n]=fld at q hw j;have(an,y):=q.ins;have M:a<fld.costs.length:=by rw[(hw.gc G.wide).len];exact C
 rw[AK (by rw[DH ()];decide)];subst b;exists N,b;simp![v,d.cl,d.Hu,fo,A.W.fl,BC,z,EH];subst b;simp![y,D.cl,D.FU,gH,q.costs,dM M];refine(at_ fld.costs a,rfl,?_);simp![y,hU (goal:=fld.goal) (p:=fp) (m:="next_cell") (by decide +kernel) (by decide +kernel),v,d.cl,d.Dv,dR];refine(fa,r.la,g,r.pc,r.ph,r.ps,r.sa,fp,fld.costs,fld.goal,a,rfl,q,A.W.land.s,hw,C,?_);refine(EQ g fld a,rfl,?_);simp![];refine(aN (),λl u=>?_);exact k.di A.W A.T j (λ_ _ e=>e) u rfl;have i:st.fields[n]? =AB:=HD ();rw[i]at j;rw[AJ (BH ())];simp![];refine(aN (),λl u=>?_);exact k.di A.W A.T j (λ_ _ e=>e) u rfl
def ui(Z:Ag b "tell_plan" "tell_plan" Ts f fd)(T:EY mg)(t:DO b mg c.W)(u:GL b mg c.K)(ab:A8 Y w b mg base 4 "with_count" ["numbers"] Kq):
  AV Y w b mg base AZ 5 f fd ["world","given"] (DM c PL PF 11):=by
 exists Z.go ["world","given","plan"],a5,aj,m;obtain⟨r,st,g,p,as,us,x,rfl,A,k⟩:=h;have I:=eC m;refine(_,(aE (aS 2 (aH (fC I (aH (pv 0)) (aJ aL (pv 1) aG) (λ_ _=>rfl)))) (aF (aI (aV gp (ag ab m rfl (aA (pv 2) aD)) (af (aA (aJ aL (pv 2) (db dZ aG)) aD)))))),?_);have(a0,a1,G):=A.known (by decide);obtain⟨a,rfl,rfl, -⟩:=A.n1 (k:=.walker) rfl (by decide);have D:Call.plan (a:Int)=x:=Ap A.call;subst D;have(y,d):=G (a:Int) (show (a:Int)∈[(a:Int)] by simp);rw[Ep]at d;have(X,L):=A.W.ins;have(i,ka,kp,U,a4,a3,a2,o,R,O,e):=A.W.walker d;have S:act st (.plan (a:Int))=(AE st (Jb (Vbwsal.ints y.plan.cells) ++ [(last y.plan:Int)])):=by
  refine(dy A.W.gr (λz C=>by simp at C)).trans ((gq (fU.mpr d)).trans ?_);rw[tI e]
 have av:=e.len;exists N,M;refine(.ref r.wa,rfl,r.wa,c.W,X,_,.ref r.wd,rfl,L,t.cl,t.FT,d8,.ref p,rfl,p,_,_,nV a,rfl,rfl,A.gv,rfl,r.wd,.ref ka,rfl,?_,ka,c.K,U,_,.ref kp,rfl,R,u.cl,u.Fg,eZ,?_);rw[<-O];exact DV.k (k:=AW (a:Int)) A.W.wd;subst M;refine(.ref kp,rfl,?_);refine(kp,Vbwsal.ints y.plan.cells,rfl,by rw[lU];exact o.plan,by unfold Vbwsal.ints;rw[AL];lia,λB a6 an j q=>?_);refine(.ref kp,rfl,1,rfl,kp,_,_,nV (last y.plan),rfl,rfl,j _ _ o.plan,by rw[gJ,Kl,lL e];rfl,aN (by simp),λv n=>?_);refine(B,v,_,_,rfl,rfl,by rw[aC (aT q n)];exact q,aB,aN (by unfold Jb Vbwsal.ints;simp;lia),λl J=>?_);refine k.di A.W A.T S (j.trans (AH.upd n)) J ?_;rw[Dd];rfl
def uf(S:Ag j "tell_where" "tell_where" To f fd)(T:EY mg)(q:DO j mg c.W)(m:GL j mg c.K)(U:A6 R w j mg base 4 c.W "rest_tick" ["self","number"] (Ln c)):
  AV R w j mg base AZ 5 f fd ["world","given"] (DM c PL PF 13):=by
 exists S.go ["world","given","walker"],a0,X,n;obtain⟨r,st,g,p,as,us,x,rfl,A,k⟩:=h;have B:=eC n;refine(_,(aE (aS 2 (fC B (aH (pv 0)) (aJ aL (pv 1) aG) (λ_ _=>rfl))) (aF (aI (af (aA (aJ aL (aH (pv 2)) aG) (aA (aH (pv 2)) (aA (aJ aL (aH (pv 2)) (db dZ aG)) (aA (ae (pv 0) U n (aA (aJ aL (pv 1) aG) aD)) aD)))))))),?_);have(Y,Z,v):=A.known (by decide);obtain⟨a,rfl,rfl, -⟩:=A.n1 (k:=.walker) rfl (by decide);have u:Call.where_ (a:Int)=x:=Ap A.call;subst u;have(y,b):=v (a:Int) (show (a:Int)∈[(a:Int)] by simp);rw[Ep]at b;have(O,o):=A.W.ins;have(i,ka,kp,av,an,aj,ab,J,I,G,d):=A.W.walker b;have M:act st (.where_ (a:Int))=(AE st [(DY y.plan.cells 0:Int),(y.left:Int),(last y.plan:Int),(Hc y.plan:Int)]):=by
  refine(dy A.W.gr (λz t=>by simp at t)).trans ((gq (fU.mpr b)).trans ?_);rw[yh d,lH d]
 have L:y.plan.cells[0]? =AA (DY y.plan.cells 0):=by have:=fH d.path.ne 0;rw[M0]at this;exact this
 exists N,D;refine(.ref r.wa,rfl,r.wa,c.W,O,_,.ref r.wd,rfl,o,q.cl,q.FT,d8,.ref p,rfl,p,_,_,nV a,rfl,rfl,A.gv,rfl,r.wd,.ref ka,rfl,?_,?_);rw[<-G];exact DV.k (k:=AW (a:Int)) A.W.wd;subst D;simp![I,m.cl,m.Fg,eZ,m.Kw,i7,J.plan,BC,L,EH,gJ,Kl,lL d,o,d7 (x:="rest_tick") (by decide +kernel),A.gv];refine(r,st,g,a,y,rfl,A.W,b,?_);simp![];refine(aN (),λl C=>?_);exact k.di A.W A.T M (λ_ _ e=>e) C rfl
def ue(co:Ag aj "tell_who" "tell_who" Tn f fd)(T:EY mg)(L:DO aj mg c.W)(cp:A6 cm w aj mg base 4 c.K "cell_after" ["self","ticks"] (Ls c.K)):
  AV cm w aj mg base AZ 5 f fd ["world","given"] (DM c PL PF 17):=by
 exists co.go ["world","given","ahead","number","walker"],c3,cr,b4;obtain⟨r,st,g,J,as,us,x,rfl,A,k⟩:=h;refine(_,(aE (aS 2 (aV dQ (aJ aL (pv 1) aG) (aH (pv 0)))) (aE (aX (aW eS (pv 2) aG (aU _)) (aF (aI (af (aA (db dZ aG) aD)))) aZ) (aE (kM (dg D0 rfl (kW (aH (pv 0))) (eP rfl (dX (aa 3) (dX (aa 4) eO))) (aF (aX (aW dh (ae (pv 4) cp b4 (aA (pv 2) aD)) (aJ aL (pv 1) aG) (aU _)) (aF (aI (af (aA (pv 3) aD)))) aZ)))) (aF (aI (af (aA aG aD))))))),?_);have(c1,cd,c0):=A.known (by decide);obtain⟨a,t,rfl,rfl, -, -⟩:=A.n2 (k:=.cell) (k2:=.tick) rfl (by decide) (by decide);have b3:Call.who (a:Int) (t:Int)=x:=Ap A.call;subst b3;have v:act st (.who (a:Int) (t:Int))=if (t:Int)<(st.now:Int)then(AE st [-5])else(AE st [match (alive st).find? λz=>Dy z.2.plan t==a with
  |none=>0
  |some y=>(y.1:Int)]):=(dy A.W.gr cd).trans (congrArg (λz:Int=>if (t:Int)<(st.now:Int)then(AE st [-5])else(AE st [z])) (rL (s:=st) (p:=λz=>Dy z.plan t==a)))
 have(ck,R):=A.W.ins;exists N,G;simp![A.gv,R,L.cl,L.JJ,ga];subst G;exists N,G;simp![];by_cases c2:t<st.now;rw[AJ (BH ())];rw[AJ ()]at v;simp![];refine(aN (),λl m=>?_);exact k.di A.W A.T v (λ_ _ e=>e) m rfl;rw[AK (by rw[DH ()];decide)];rw[AK ()]at v;subst G;have ci:(t:Int) - (st.now:Int)=((t - st.now:Nat):Int):=by lia
 rw[ci];have S:∀y∈alive st,Dy y.2.plan t=DY y.2.plan.cells (t - st.now):=λy u=>by
  have:=yi (A.W.ok.FS g A.W.gr y u) (t - st.now);rw[show st.now+ (t - st.now)=t by lia]at this;exact this
 have b1:r.wa≠r.wd:=dF R A.W.wd ∅;have b2:J≠r.wd:=dF A.gv A.W.wd ∅;exists N,G;refine(r.wd,_,A.W.wd,trivial,λC=>?_);have D:AQ [r.wd] H (L2.upd H r.wd (.BA C (.dK (Bb (alive st) r.ka)))):=AQ.upd (by simp);have hL:L2.upd H r.wd (.BA C (.dK (Bb (alive st) r.ka))) r.wd=AA (.BA C (.dK (Bb (alive st) r.ka))):=aB;have lk:∀n,AH (L2.upd H r.wd (.BA C (.dK (Bb (alive st) r.ka)))) n->AH H (L2.upd n r.wd (.dK (Bb (alive st) r.ka))):=λn B=>jX A.W.wd B;generalize L2.upd H r.wd (.BA C (.dK (Bb (alive st) r.ka)))=bl at D hL lk;have b7:=D _ _ R (by simpa using b1);have ca:=D _ _ A.gv (by simpa using b2);refine(.ref r.wa,rfl,r.wa,c.W,ck,_,.ref r.wd,rfl,b7,L.cl,L.FT,d8,r.wd,C,_,rfl,hL,?_);refine pq (ZA c bl r st J a (t - st.now)) ((AB,AB,rfl),λ_ _ e=>e,λj y h=>absurd h (Nat.not_lt_zero _)) (λi an n I=>I.same _ _ hL) ?_ ?_;rintro i key x ab an n b6 ⟨⟨bs,bm,rfl⟩,B,no⟩ cg;obtain⟨y,ka,u,ce,rfl,rfl⟩:=gK b6;obtain⟨p,b5⟩:∃p,r.kp[i]? =AA p:=(_,AX (by rw[A.W.FV];exact(AY.mp u).1));have((a6,a4),a1):=A.W.ka i ka p y ce b5 u;have av:=Ar u;have O:=A.W.ok.FS g A.W.gr y av;have d:AH bl (L2.upd n ab (.tup [kV (AW (y.1:Int)),V.ref ka])):=B.trans (AH.upd cg);have M:=d _ _ (D _ _ a4 (by simpa using dF a4 A.W.wd ∅));have a0:=d _ _ (D _ _ a1 (by simpa using dF a1 A.W.wd ∅));have a5:=d _ _ ca;have U:=d _ _ hL;refine(ab,[nV y.1,V.ref ka],rfl,BB.of aB,rfl,nV y.1,[V.ref ka],rfl,V.ref ka,[],rfl,rfl,?_);generalize L2.upd n ab (.tup [kV (AW (y.1:Int)),V.ref ka])=c4 at d M a0 a5 U;refine(.ref ka,rfl,ka,a6,_,rfl,M,gZ (by decide +kernel) (by decide +kernel),nV (t - st.now),rfl,ka,p,y.2.plan.cells,y.2.left,t - st.now,rfl,((a6,M),a0),O.path.ne,.ref J,rfl,J,_,_,nV a,rfl,rfl,a5,rfl,rfl,_,rfl,?_);refine ak (λX=>?_) (λX=>?_);have Z:DY y.2.plan.cells (t - st.now)=a:=by have:=V.int.inj (DT X);lia
 refine(nV y.1,rfl,aN (by simp),λl m=>?_);have a2:l≠r.wd:=λz=>by rw[z,U]at m;cases m
 refine(by rw[aC (λz=>a2 z.symm)];exact U,?_);have Y:(alive st).find? (λz=>Dy z.2.plan t==a)=AA y:=xr u (by rw[S y av,Z];simp) λj z a3 b=>by
  rw[S z (Ar b)];simpa using no j z a3 b
 rw[Y]at v;have b0:=lk _ (d.trans (AH.upd (o:=.lst [nV y.1]) m));refine k.same A.W A.T v ?_ b0 (by rw[aC a2,aB];rfl);have:=d.free m;exact D.eN hL this;refine((_,_,rfl),d,λj z a3 b=>?_);by_cases q:j<i;exact no j z q b;have:j=i:=by lia
 subst this;rw[u]at b;cases b;intro Z;exact X (BH (by rw[Z]));rintro an n ⟨⟨bs,bm,rfl⟩,B,no⟩;refine(B _ _ hL,?_);subst G;rw[gL A.W.Ds]at no;have Y:(alive st).find? (λz=>Dy z.2.plan t==a)=AB:=xt λi z b=>by
  rw[S z (Ar b)];simpa using no i z (AY.mp b).1 b
 rw[Y]at v;refine(aN (by simp),λl m=>?_);exact k.di A.W A.T v (lk _ B) m rfl
inductive NT(c:Cs)(vs:List V)(H:Hp)(Q:VK)(E:XK):Prop
 |mk:∀r s g n x pw,∀wanted:List Nat,∀goal,vs=[.ref r.wa,nV n,.ref pw]->Ad c H r s g->(AE n x)∈alive s->H pw=AA (.lst (wanted.map nV))->(∀v∈wanted,v<AG g)->wanted.length<=1000->N7 s g n wanted goal->(IL g (Ac s n) s.now (Dy x.plan s.now) (FZ g x s.now) goal=AB->∀H',AH H H'->Q .Al H')->(∀p,IL g (Ac s n) s.now (Dy x.plan s.now) (FZ g x s.now) goal=AA p->∀r' H',AQ r.muts H H'->EM H H'->EN H r [] r'->Ad c H' r' (IJ s g n x p.1) g->Q (nV p.2) H')->NT c vs H Q E
def EN.plan{H:Hp}(h:H q=AB\/q∈rows):EN H r rows {r with kp:=r.kp.set i q}:=(rfl,λb a=> .inl a,λb a=>by
 rw[WA.eU]at a;erw[WA.eU];rcases a with z|z|z;exact .inl (.inl z);exact .inl (.inr (.inl z));rcases Lb z with z|rfl;exact .inl (.inr (.inr z));exact .inr h)
def kP(a:(AE n x)∈alive s):(AE n ({x with plan:=p,left:=FZ g x s.now}:DI))∈alive (IJ s g n x p):=by
 unfold IJ;erw[mL a (show ({x with plan:=p,left:=FZ g x s.now}:DI).here=AC from(gu.mp a).2.2)];exact Du.mpr ((AE n x),a,by simp)
def ul(a6:Ef c)(b6:Ag l "take_earliest_plan" "take_earliest_plan" Tw f fd)(M:DO l mg c.W)(O:GL l mg c.K)(b7:A8 b5 w l mg base 6 "earliest_plan" ["world","number","wanted"] (QG c)):AV b5 w l mg base AZ 7 f fd ["world","number","wanted"] (NT c):=by
 exists b6.go ["world","number","wanted","found","walker"],cg,ca,C;obtain⟨r,st,g,n,x,S,R,goal,rfl,W,B,a1,aj,ab,an,Z,Y⟩:=h;have av:=eC C;refine(_,(aE (aS 3 (ag b7 C rfl (aA (pv 0) (aA (pv 1) (aA (pv 2) aD))))) (aE (aX (aW dz (pv 3) ai (aU _)) (aF (aI ai)) aZ) (aE (aS 4 (fC av (aH (pv 0)) (pv 1) (λ_ _=>rfl))) (aE (dH (pv 4) (aJ gU (pv 3) aG) rfl) (aF (aI (aJ gU (pv 3) aG))))))),?_);have(i,a,kp,v,b1,I,ce,cd,u,b0,bs):=W.walker B;exists N,d;simp![];refine(r,st,g,n,x,S,R,goal,rfl,W,B,a1,aj,ab,an,λa3 m j=>?_,λp a0 bl a2 a4 q t m G j o D=>?_);subst d;exists N,d;simp![];exact Z a3 m j;subst d;have y:=W.same j;have(b4,a5):=y.ins;exists N,d;subst d;exists N,d;refine(.ref r.wa,rfl,r.wa,c.W,b4,_,.ref r.wd,rfl,a5,M.cl,M.FT,d8,nV n,rfl,r.wd,.ref a,rfl,?_,?_);rw[<-b0];exact DV.k (k:=AW (n:Int)) y.wd;subst d;exists N,d;refine(.ref t,rfl,t,_,_,V.ref q,rfl,rfl,BB.of o,rfl,.ref a,rfl,a,c.K,v,_,rfl,j _ _ u,O.cl,O.Fg,by show 2<1000;decide,?_);subst d;have T:t≠a:=dF o (j _ _ u) ∅;refine(.ref t,rfl,t,_,_,nV p.2,rfl,rfl,BB.of (by rw[aC T];exact o),rfl,?_);have X:q≠a:=dF D (j _ _ u) ∅;have J:AQ [a] m (L2.upd m a (.ins c.K v (Gs q x.left))):=AQ.upd (by simp);have U:q∉r.DF:=λz=>by have(_,e):=W.eW z;rw[G]at e;cases e
 have L:=y.nR a6 b1 I J (v,aB) (by rw[aC X];exact D) U a2 a4;have b3:IJ st g n x p.1=G3 st n {x with plan:={begun:=st.now,cells:=p.1.cells}}:=by
  unfold IJ;rw[lH bs,<-bl]
 rw[<-b3]at L;exact Y p a0 _ _ ((AH.but j).trans (J.mono λb bm=>by rw[Av.mp bm,WA.dt];simp[Ar I])) j.grow.upd (EN.plan (.inl G)) L
def uv(aj:Ag j "send_walker" "send_walker" UA f fd)(T:EY mg)(bl:DO j mg c.W)(an:A8 J w j mg base 7 "take_earliest_plan" ["world","number","wanted"] (NT c))(av:A6 J w j mg base 7 c.W "rest_tick" ["self","number"] (Ln c)):
  AV J w j mg base AZ 8 f fd ["world","given"] (DM c PL PF 10):=by
 exists aj.go ["world","given","looked_at"],a6,a0,z;obtain⟨r,st,g,a3,as,us,x,rfl,A,k⟩:=h;refine(_,(aE (aS 2 (ag an z rfl (aA (pv 0) (aA (aJ aL (pv 1) aG) (aA (af (aA (aJ aL (pv 1) aG) aD)) aD))))) (aE (aX (aW dz (pv 2) ai (aU _)) (aF (aI (af (aA (db dZ aG) aD)))) aZ) (aF (aI (af (aA (ae (pv 0) av z (aA (aJ aL (pv 1) aG) aD)) (aA (pv 2) aD))))))),?_);have(a1,G,O):=A.known (by decide);obtain⟨n,t,rfl,rfl, -, -⟩:=A.n2 (k:=.walker) (k2:=.cell) rfl (by decide) (by decide);have M:Call.go (n:Int) (t:Int)=x:=Ap A.call;subst M;have D:t<AG g:=by have:=G t (show (t:Int)∈[(t:Int)] by simp);lia
 have(y,d):=O (n:Int) (show (n:Int)∈[(n:Int)] by simp);rw[Ep]at d;have(a5,a2):=A.W.ins;have i:act st (.go (n:Int) (t:Int))=match IL g (Ac st n) st.now (Dy y.plan st.now) (FZ g y st.now) (λc e=>c==t && Gg g (Ac st n) c e)with
  |none=>(AE st [-5])
  |some p=>(AE (IJ st g n y p.1) [(Hc p.1:Int),(p.2:Int)]):=(dy A.W.gr G).trans (gq (fU.mpr d))
 exists N,b;simp![A.gv];refine(aN (),λp U=>?_);have a:AH H (L2.upd H p (.lst [nV t])):=AH.upd U;have B:L2.upd H p (.lst [nV t]) p=AA (.lst ([t].map nV)):=aB;generalize L2.upd H p (.lst [nV t])=bm at a B|-;have u:=A.W.same a;refine(r,st,g,n,y,p,[t],_,rfl,u,d,B,λv R=>by rw[Av.mp R];exact D,by simp,rN u.ok u.gr D,λX ab L=>?_,λq S r' ab I Z f2 o=>?_);rw[X]at i;subst b;exists N,b;simp![];refine(aN (),λl m=>?_);exact k.di A.W A.T i (a.trans L) m rfl
 ·rw[S]at i;subst b;exists N,b;subst b;have(a4,C):=o.ins;rw[f2.wa]at C;have Y:=I _ _ (a _ _ A.gv) A.ng;simp![C,d7 (x:="rest_tick") (by decide +kernel),Y];refine(r',_,g,n,_,by rw[f2.wa],o,kP d,?_);simp![];refine(aN (),λl m=>?_);exact k.done A.W A.T i ((AH.but a).trans I) (a.grow.trans Z) (f2.back a.grow) o (λ_ _ e=>e) m rfl
def ux(b1:Ag b "rest_walker" "rest_walker" UC f fd)(T:EY mg)(t:DO b mg c.W)(M:Dx b mg c.L)(O:GL b mg c.K)(b3:A8 R w b mg base 7 "take_earliest_plan" ["world","number","wanted"] (NT c))(b4:A6 R w b mg base 7 c.W "rest_tick" ["self","number"] (Ln c)):
  AV R w b mg base AZ 8 f fd ["world","given"] (DM c PL PF 15):=by
 exists b1.go ["world","given","looked_at"],cm,b5,u;obtain⟨r,st,g,J,as,us,x,rfl,A,k⟩:=h;have ab:=eC u;refine(_,(aE (aS 2 (ag b3 u rfl (aA (pv 0) (aA (aJ aL (pv 1) aG) (aA (tZ T.Gx T.Df (aH (aH (pv 0)))) aD))))) (aE (aX (aW dz (pv 2) ai (aU _)) (aF (aI (af (aA (db dZ aG) aD)))) aZ) (aF (aI (af (aA (ae (pv 0) b4 u (aA (aJ aL (pv 1) aG) aD)) (aA (aJ aL (aH (fC ab (aH (pv 0)) (aJ aL (pv 1) aG) (λ_ _=>rfl))) (db dZ aG)) (aA (pv 2) aD)))))))),?_);have(b6,b7,Y):=A.known (by decide);obtain⟨n,rfl,rfl, -⟩:=A.n1 (k:=.walker) rfl (by decide);have X:Call.rest (n:Int)=x:=Ap A.call;subst X;have(y,d):=Y (n:Int) (show (n:Int)∈[(n:Int)] by simp);rw[Ep]at d;have(ck,a2):=A.W.ins;have(ci,a1):=A.W.land.ins;have cg:=(A.W.ok.Ej g A.W.gr).few;have o:act st (.rest (n:Int))=match IL g (Ac st n) st.now (Dy y.plan st.now) (FZ g y st.now) (λc e=>Gg g (Ac st n) c e)with
  |none=>(AE st [-5])
  |some p=>(AE (IJ st g n y p.1) [(Hc p.1:Int),(last p.1:Int),(p.2:Int)]):=(dy A.W.gr (λz U=>by simp at U)).trans (gq (fU.mpr d))
 exists N,j;simp![A.gv,TM,a2,t.cl,t.Dv,dR,a1,M.cl,M.EX,g9];refine(AG g,rfl,by lia,λp an=>?_);have a:AH H (L2.upd H p (.lst ((Ai (AG g)).map nV))):=AH.upd an;have G:L2.upd H p (.lst ((Ai (AG g)).map nV)) p=AA (.lst ((Ai (AG g)).map nV)):=aB;generalize L2.upd H p (.lst ((Ai (AG g)).map nV))=co at a G|-;have D:=A.W.same a;refine(r,st,g,n,y,p,Ai (AG g),_,rfl,D,d,G,λv Z=>EC.mp Z,by rw[DS];lia,rO D.ok D.gr,λav b0 S=>?_,λq aj r' b0 L bl f2 m=>?_);rw[av]at o;subst j;exists N,j;simp![];refine(aN (),λl B=>?_);exact k.di A.W A.T o (a.trans S) B rfl
 ·rw[aj]at o;subst j;exists N,j;subst j;have(bs,C):=m.ins;rw[f2.wa]at C;have I:=L _ _ (a _ _ A.gv) A.ng;have(i,ka,kp,bm,ce,cd,ca,a6,a5,a4,a3):=m.walker (kP (p:=q.1) d);have a0:=lL a3;simp![C,d7 (x:="rest_tick") (by decide +kernel),I];refine(r',_,g,n,_,by rw[f2.wa],m,kP d,?_);refine(.ref r.wa,rfl,r.wa,c.W,bs,_,.ref r'.wd,rfl,C,t.cl,t.FT,d8,.ref J,rfl,J,_,_,nV n,rfl,rfl,I,rfl,r'.wd,.ref ka,rfl,?_,ka,c.K,bm,_,_,rfl,a5,O.cl,O.Fg,eZ,?_);rw[<-a4];exact DV.k (k:=AW (n:Int)) m.wd;simp![a6.plan,gJ,Kl,a0,EH];refine(aN (),λl B=>?_)
  ·exact k.done A.W A.T o ((AH.but a).trans L) (a.grow.trans bl) (f2.back a.grow) m (λ_ _ e=>e) B rfl
def uZ(bl:Ef c)(ca:Ag C "try_plan" "try_plan" Th f fd)(T:EY mg)(ab:DO C mg c.W)(aj:GL C mg c.K)(cd:A8 b7 w C mg base 7 "wrong_in_plan" ["world","number","cells"] (Pg c)):
  AV b7 w C mg base AZ 8 f fd ["world","given"] (DM c PL PF 16):=by
 exists ca.go ["world","given","wrong","walker"],cm,ce,M;obtain⟨r,st,g,v,as,us,x,rfl,A,k⟩:=h;have o:=eC M;refine(_,(aE (aS 2 (ag cd M rfl (aA (pv 0) (aA (aJ aL (pv 1) aG) (aA (aJ aL (pv 1) aG) aD))))) (aE (aX (aW ff (pv 2) ai (aU _)) (aF (aI (af (aA aG (aA (aJ gU (pv 2) aG) (aA (aJ gU (pv 2) aG) aD)))))) aZ) (aE (aS 3 (fC o (aH (pv 0)) (aJ aL (pv 1) aG) (λ_ _=>rfl))) (aE (dH (pv 3) (aJ aL (pv 1) aG) rfl) (aF (aI (af (aA aG aD)))))))),?_);have(cg,a6,a1):=A.known (by decide);obtain⟨n,t,p,rfl,rfl, -,q,b1,b0,bs⟩:=A.wP (k:=.walker) (k2:=.trial) rfl (by decide) (by decide);have a0:Call.try_ (n:Int) t=x:=Ap A.call;subst a0;have R:∀z∈t,z<(AG g:Int):=λz j=>a6 z (show z∈t ++ [] by simpa using j);have O:∀z∈t,0<=z:=λz j=>(bs z j).1;have S:(1:Int)<=t.length:=b1;have ci:(t.length:Int)<=101:=b0;have(y,m):=a1 (n:Int) (show (n:Int)∈[(n:Int)] by simp);rw[Ep]at m;rw[kr O]at q;have(b6,a5):=A.W.ins;have B:act st (.try_ (n:Int) t)=match LJ g (Ac st n) st.now (Dy y.plan st.now) (FZ g y st.now) (t.map FL)with
  |some e=>(AE st [1,(e.1:Int),(e.2:Int)])
  |none=>(AE (IJ st g n y {begun:=st.now,cells:=t.map FL}) [0]):=(dy A.W.gr R).trans (gq (fU.mpr m))
 have(i,ka,kp,G,g1,g2,g3,ck,U,b4,b3):=A.W.walker m;exists N,d;simp![A.gv];refine(r,st,g,n,y,p,t.map FL,rfl,A.W,m,q,by intro z;rw[Wq]at z;rw[z]at S;simp at S,λz j=>?_,by rw[AL];lia,λa4 a3 I a=>?_,λe a2 J I a L=>?_);obtain⟨u,o,rfl⟩:=Du.mp j;have:=R u o;have:=O u o;lia;rw[a4]at B;subst d;exists N,d;subst d;have Z:=A.W.same a;exists N,d;refine(.ref r.wa,rfl,r.wa,c.W,b6,_,.ref r.wd,rfl,a _ _ a5,ab.cl,ab.FT,d8,.ref v,rfl,v,_,_,nV n,rfl,rfl,a _ _ A.gv,rfl,r.wd,.ref ka,rfl,?_,?_);rw[<-b4];exact DV.k (k:=AW (n:Int)) Z.wd;subst d;exists N,d;refine(.ref v,rfl,v,_,_,V.ref p,rfl,rfl,a _ _ A.gv,rfl,.ref ka,rfl,ka,c.K,G,_,rfl,a _ _ U,aj.cl,aj.Fg,by show 2<1000;decide,?_);subst d;refine(aN (by simp),λl D=>?_);have av:p≠ka:=dF q U ∅;have X:AQ [ka] I (L2.upd I ka (.ins c.K G (Gs p y.left))):=AQ.upd (by simp);have an:p∉r.DF:=λz=>A.nr p (by simp) (WA.dt.mpr (.inr (.inr (.inl z))));have Y:=Z.nR bl g1 g2 X (G,aB) (by rw[aC av];exact a _ _ q) an a3 (by rw[AL];lia);have b5:IJ st g n y {begun:=st.now,cells:=t.map FL}=G3 st n {y with plan:={begun:=st.now,cells:=t.map FL}}:=by
  unfold IJ;rw[lH b3]
 rw[<-b5]at Y;exact k.qL A.W A.T B ((AH.but a).trans (X.mono λb bm=>by rw[Av.mp bm,WA.dt];simp[Ar g2])) a.grow.upd (EN.plan (.inr (by simp[refsOf]))) Y (λ_ _ e=>e) D rfl;rw[a2]at B;subst d;exists N,d;simp![];refine(J,_,_,nV e.1,rfl,rfl,BB.of L,rfl,?_);simp![];refine(J,_,_,nV e.2,rfl,rfl,BB.of L,rfl,?_);simp![];refine(aN (),λl D=>?_);exact k.di A.W A.T B a D rfl
def uu(dm:Ag B "set_door" "set_door" T9 f fd)(T:EY mg)(X:DO B mg c.W)(b2:Dx B mg c.L)(dn:A6 b3 w B mg base 5 c.W "has_plan_at" ["self","cell"] (Lp c))(dp:FX b3 w B mg base 4 "Door" c.D ["self","period","lasting","shift"] (Nc c.D)):
  AV b3 w B mg base AZ 6 f fd ["world","given"] (DM c PL PF 1):=by
 exists dm.go ["world","given","which","cells","cell","door"],d5,Z,a4;obtain⟨r,st,g,d3,as,us,x,rfl,A,k⟩:=h;refine(_,(aE (aS 2 (aJ aL (pv 1) aG)) (aE (fZ (i:=3) rfl Z rfl rfl (fW rfl rfl rfl (by kernel_rfl)) (jL rfl T.Gy (aA (aH (aH (pv 0))) aD)) (own:=[(AE ("cell") 4),(AE ("door") 5)]) (dO (by kernel_rfl)) (λ_ _ _ _ _=>(gl (K:=B) (i:=4) (j:=5) rfl rfl Z rfl rfl (Dr rfl) (Dr rfl) (by first|exact F5 rfl|exact Dr rfl) (by first|exact F5 rfl|exact Dr rfl))) (λ_ _ _ _ _=>(fJ (aW dh (pv 5) (pv 2) (aU _)))) (λ_ _ _ _ _=>(pv 4))) (aE (aX (dU (bD (io rfl) (by rfl) T.HR boot_any (aA (dk rfl Z (dP (pv 3)) (own:=[(AE ("cell") 4)]) (dO (by kernel_rfl)) (λ_ _ _ _ _=>(aa 4)) (λ_ _ _ _ _=>dv) (λ_ _ _ _ _=>(ae (pv 0) dn a4 (aA (pv 4) aD)))) aD))) (aF (aI (af (aA (db dZ aG) aD)))) aZ) (aE (fO (gP dp a4 rfl (aA (aJ aL (pv 1) aG) (aA (aJ aL (pv 1) aG) (aA (aJ aL (pv 1) aG) aD)))) (fQ (aH (pv 0)) (pv 2) set_list)) (aF (aI (af (aA (bD dj (by rfl) T.C2 EB (aA (pv 3) aD)) aD)))))))),?_);obtain⟨d,p,o,h,rfl,rfl,⟨d2,a6⟩,⟨a5,ds⟩, -, -⟩:=A.n4 (k:=.door) (k2:=.period) (k3:=.Ia) (k4:=.shift) rfl (by decide) (by decide) (by decide) (by decide);have ci:Call.door (d:Int) (p:Int) (o:Int) (h:Int)=x:=Ap A.call;subst ci;have a6:(d:Int)<=5:=a6;have a5:(1:Int)<=p:=a5;have S:act st (.door (d:Int) (p:Int) (o:Int) (h:Int))=if (GW g d).any (λc=>(Ac st 0).any (D9 st.now c))=AC then(AE st [-5])
  else(AE ({st with ground:=AA {g with doors:=g.doors.set d {period:=p,opened:=o,shift:=h}}}) [((GW g d).length:Int)]):=dy A.W.gr (λz ce=>by simp at ce);have(c7,cp):=A.W.ins;have(c6,cm):=A.W.land.ins;have G:=A.W.ok.Ej g A.W.gr;have d4:=G.few;have hsz:g.cells.length=AG g:=rfl;have d1:(GW g d).length<=150:=by
  unfold GW;have:=Fq (λc=>(A7 g c).door==AA d) (Ai (AG g));rw[DS]at this;lia
 exists N,t;simp![A.gv];subst t;exists N,t;refine(.ref r.wa,rfl,r.wa,c.W,c7,_,.ref r.la,rfl,cp,X.cl,X.Dv,dR,r.la,c.L,c6,_,.ref r.pd,rfl,cm,b2.cl,b2.Hv,jb,r.pd,_,rfl,AN.of A.W.land.doors,λD a1=>?_);refine pD (xs:=g.cells.map λc=>oV c.door) (λi=>if ((A7 g i).door==AA d)=AC then AA (nV i)else AB) a1 A.W.land.doors (by rw[AL];exact aN ()) (λi v T b5 J I c2=>?_) (λb5 I bm=>?_);intro c9 dd ab aj;have co:i<AG g:=by have:=(AY.mp J).1;rw[AL]at this;exact this
 rw[ln co]at J;cases J;refine(T,_,rfl,BB.of c2,rfl,nV i,[oV (A7 g i).door],rfl,oV (A7 g i).door,[],rfl,rfl,rfl,?_);cases e:(A7 g i).door with
 |none=>
  simp![wipe,oV];exact aj _ (by rw[e];rfl) (λ_ _ e=>e)
 |some y=>
  simp![wipe,oV];refine ak (λR=>?_) (λR=>?_);simp only[Db]at R;simp![wipe];exact ab _ _ (by rw[e,AJ (by simp;lia)]) (λ_ _ e=>e);simp only[Db]at R;exact aj _ (by rw[e,AK (by simp;lia)]) (λ_ _ e=>e)
 ·have a2:b5 D=AA (.lst ((GW g d).map nV)):=by
   rw[bm]
   congr 2
   rw[AL,hsz];unfold GW;have:(Ai (AG g)).length=AG g:=DS
   conv=>lhs;rw[<-this]
   refine gG λi c c1=>?_;have(R,bl):=AY.mp c1;rw[JB]at bl;subst bl;rfl
  clear bm;subst t;dsimp only;have b1:=A.W.same I;exists N,t;refine(.ref D,rfl,D,rfl,(_,AN.of a2),λb6 c3=>?_);refine eM (K:=B) (a:=D) (xs:=(GW g d).map nV) (λi=>((GW g d)[i]?).map λu=>V.bl ((Ac st 0).any (D9 st.now u))) c3 a2 (by rw[AL];exact aN ()) (λi v C J q=>?_) (λC q c5=>?_);intro c9 dd ab aj;obtain⟨u,ck,rfl⟩:=dN J;have M:=b1.same q;have(bs,a0):=M.ins;refine(rfl,?_);unfold Er;dsimp only;rw[AJ rfl];refine(.ref r.wa,rfl,r.wa,bs,_,rfl,a0,d7 (by decide +kernel),nV u,rfl,r,st,g,u,rfl,M,λY n=>?_);exact ab _ _ (by rw[ck];rfl) n
  ·have c4:C b6=AA (.lst (((GW g d).map λu=>(Ac st 0).any (D9 st.now u)).map V.bl)):=by
    rw[c5,AL,Dc]
    congr 2
    exact eX λi y cg=>by rw[cg];rfl
   refine(b6,(GW g d).map (λu=>(Ac st 0).any (D9 st.now u)),rfl,AN.of c4,_,rfl,?_);rw[Gp];dsimp only;have M:=b1.same q;have(bs,a0):=M.ins;cases O:(GW g d).any (λc=>(Ac st 0).any (D9 st.now c))with
   |true=>
    rw[AJ O]at S;rw[AJ (show ((GW g d).any (id∘λu=>(Ac st 0).any (D9 st.now u)))=AC from O)];simp![];refine(aN (),λl av=>?_);exact k.di A.W A.T S (I.trans q) av rfl
   |false=>
    rw[O,AK (by decide)]at S;rw[AK (show ¬((GW g d).any (id∘λu=>(Ac st 0).any (D9 st.now u)))=AC from by rw[show (GW g d).any (id∘λu=>(Ac st 0).any (D9 st.now u))=AF from O];decide)];have cr:=q _ _ (I _ _ A.gv);subst t;exists N,t;simp![cr];intro x m nx ca ne;refine(x,m,{period:=p,opened:=o,shift:=h},rfl,aB,rfl,?_);have n:AH C (L2.upd (L2.upd (L2.upd C m (.own x)) x (.ins c.D m [])) x (.ins c.D m (HN {period:=p,opened:=o,shift:=h}))):=λb o e=>by
     rw[aC (aT e nx),aC (aT e nx),aC (aT e ca)];exact e
    have an:L2.upd (L2.upd (L2.upd C m (.own x)) x (.ins c.D m [])) x (.ins c.D m (HN {period:=p,opened:=o,shift:=h})) x=AA (.ins c.D m (HN {period:=p,opened:=o,shift:=h})):=aB;generalize L2.upd (L2.upd (L2.upd C m (.own x)) x (.ins c.D m [])) x (.ins c.D m (HN {period:=p,opened:=o,shift:=h}))=Y at n an|-;have U:=M.same n;have c0:d<r.da.length:=by have:=U.HQ;have:=G.doors;lia
    simp![n _ _ a0,X.cl,X.Hv,mS,U.dl,AL,c0];have b0:AQ [r.dl] Y (L2.upd Y r.dl (.lst ((r.da.map V.ref).set d (V.ref x)))):=AQ.upd (by simp);have b7:x≠r.dl:=dF an U.dl ∅;have c8:=U.sW (d:=d) (x:=x) (dr:={period:=p,opened:=o,shift:=h}) () b0 (by rw[aB,JA]) (m,by rw[aC b7];exact an) (show 0<p by lia);subst t;have cd:D≠r.dl:=λz=>by rw[z,A.W.dl]at a1;cases a1
    have a3:AH H Y:=I.trans (q.trans n);refine(.ref D,rfl,D,_,rfl,by rw[aC cd];exact n _ _ (q _ _ a2),aN (by simp),λl av=>?_);refine k.done (r':={r with da:=r.da.set d x}) A.W A.T S ((AH.but a3).trans (b0.mono λb L=>by rw[Av.mp L,WA.dt,WA.dc];simp)) a3.grow.upd (rfl,λb L=> .inl L,λb L=> .inl L) c8 (λ_ _ e=>e) av ?_;rw[AL];rfl
inductive P7(C:AD)(vs:List V)(H:Hp)(Q:VK)(E:XK):Prop
 |mk:∀a g pc ph pd ps sa c k h,vs=[.ref a,nV c,nV k,nV h]->D8 C H a g pc ph pd ps sa->[pc,ph,pd,ps].Nodup->(∀b∈sa,b∉[pc,ph,pd,ps])->c<AG g->(∀sa' H',AQ [pc,ph,pd,ps] H H'->(∀b∈sa',b∈sa\/H b=AB)->(∀b∈sa',b∉[pc,ph,pd,ps])->D8 C H' a (changed g c {cost:=k,height:=h}) pc ph pd ps sa'->Q .Al H')->P7 C vs H Q E
def lB{a:Type}{g:Aw}{c:Nat}{x:Cell}(F:Cell->a):(g.cells.map F).set c (F x)=(changed g c x).cells.map F:=by
 show _=(g.cells.set c x).map F;erw[JA]
structure zZ(H:Hp)(a q:AD)(g g':Aw)(c k h:Nat)(pc ph pd ps:AD)(sa:List AD)(i:Nat)(σ:L2.St)(H':Hp):Prop where
 st:∃x:Option V,σ=[AA (.ref a),AA (nV c),AA (nV k),AA (nV h),x]
 ex:∃sa':List AD,sa'.length=AG g/\H' ps=AA (.lst (sa'.map V.ref))/\AQ [ps] H H'/\(∀b∈sa',b∈sa\/H b=AB)/\(∀b∈sa',b∉[pc,ph,pd,ps])/\
  ∀(j:Nat) (b:AD),sa'[j]? =AA b->∃ts:List AD,H' b=AA (.lst (ts.map V.ref))/\FF H' ts (if j∈(c::BK g c).take i then DE g' j else DE g j)
def vO(fb:Ag bl "change_cell" "Land.change_cell" UW f fd)(T:Dx bl mg C)(fj:A6 ek w bl mg base 3 C "neighbours" ["self","cell"] (Kr C))(fe:A6 ek w bl mg base 3 C "steps_from" ["self","cell"] (NU C)):
  AV ek w bl mg base AZ 4 f fd ["self","cell","cost","height"] (P7 C):=by
 exists fb.go ["self","cell","cost","height","near"],fz,fq,dd;obtain⟨a,g,pc,ph,pd,ps,sa,c,r,t,rfl,L,dp,c9,a3,k⟩:=h;refine(_,(aE (fO (pv 2) (fQ (aH (pv 0)) (pv 1) set_list)) (aE (fO (pv 3) (fQ (aH (pv 0)) (pv 1) set_list)) (aE (fO ai (fQ (aH (pv 0)) (pv 1) set_list)) (aF (dg D0 rfl (dP (aV gp (af (aA (pv 1) aD)) (ae (pv 0) fj dd (aA (pv 1) aD)))) (aa 4) (aF (fO (ae (pv 0) fe dd (aA (pv 4) aD)) (fQ (aH (pv 0)) (pv 4) set_list)))))))),?_);have(B,ce):=L.ins;have cm:=L.s.b.few;have b0:∀b xs,H b=AA (.lst xs)->b≠a:=λb xs e z=>by rw[z,ce]at e;cases e
 have ev:=b0 _ _ L.s.b.costs;have eu:=b0 _ _ L.s.b.Ei;have et:=b0 _ _ L.doors;have c5:=b0 _ _ L.s.steps;simp only[Gm,Aj,BW,BV,A5]at dp;have((ej,ei,cr),(ef,cp),ec,_):=dp;have cd:c<g.cells.length:=a3;exists N,a5;simp![ce,T.cl,T.FU,pL,L.s.b.costs,AL,cd];refine cont (λS=>S=L2.upd H pc (.lst ((changed g c {cost:=r,height:=t}).cells.map λc=>nV c.cost))) (by rw[<-lB]) λc0 ab=>?_
 try dsimp only
 have ci:c0 a=AA (.ins C B (E8 g pc ph pd ps)):=by rw[ab,aC ev.symm];exact ce
 have ds:c0 ph=AA (.lst (g.cells.map λc=>nV c.height)):=by rw[ab,aC (λz=>ej z.symm)];exact L.s.b.Ei
 subst a5;exists N,a5;simp![ci,T.cl,T.Lz,pK,ds,AL,cd];refine cont (λS=>S=L2.upd c0 ph (.lst ((changed g c {cost:=r,height:=t}).cells.map λc=>nV c.height))) (by rw[<-lB]) λS Z=>?_
 try dsimp only
 have cg:S a=AA (.ins C B (E8 g pc ph pd ps)):=by rw[Z,aC eu.symm];exact ci
 have ea:S pd=AA (.lst (g.cells.map λc=>oV c.door)):=by rw[Z,aC (λz=>ef z.symm),ab,aC (λz=>ei z.symm)];exact L.doors
 subst a5;exists N,a5;simp![cg,T.cl,T.Hv,jb,ea,AL,cd];refine cont (λy=>y=L2.upd S pd (.lst ((changed g c {cost:=r,height:=t}).cells.map λc=>oV c.door))) (by rw[<-lB];rfl) λy Y=>?_
 try dsimp only
 subst a5;have a4:y a=AA (.ins C B (E8 g pc ph pd ps)):=by rw[Y,aC et.symm];exact cg
 have a2:y pc=AA (.lst ((changed g c {cost:=r,height:=t}).cells.map λc=>nV c.cost)):=by rw[Y,aC ei,Z,aC ej,ab,aB]
 have a1:y ph=AA (.lst ((changed g c {cost:=r,height:=t}).cells.map λc=>nV c.height)):=by rw[Y,aC ef,Z,aB]
 have b7:y pd=AA (.lst ((changed g c {cost:=r,height:=t}).cells.map λc=>oV c.door)):=by rw[Y,aB]
 have a6:AQ [pc,ph,pd] H y:=by
  rw[Y,Z,ab];exact((AQ.upd (by simp)).trans (AQ.upd (by simp))).trans (AQ.upd (by simp))
 have dn:y ps=AA (.lst (sa.map V.ref)):=a6 _ _ L.s.steps (by simp;exact(λz=>cr z.symm,λz=>cp z.symm,λz=>ec z.symm));clear ab Z Y ci ds cg ea;have e9:FG C y a (changed g c {cost:=r,height:=t}) pc ph:=((B,_,a4,rfl,by rw[g9,de],rfl,rfl,rfl,rfl,rfl,rfl,rfl),a2,a1,L.s.b.wide,by rw[de];exact cm,by rw[de];exact L.s.b.rows);have hw:=L.s.b.wide;have ew:∀v∈c::BK g c,v<AG g:=λv a0=>by
  rcases Aj.mp a0 with rfl|a0;exact a3;exact L.s.b.near a3 a0
 refine(nV c,rfl,aN (by simp),λer b5=>(.ref a,rfl,a,B,_,rfl,by rw[aC (aT a4 b5)];exact a4,fR (by decide +kernel),nV c,rfl,a,changed g c {cost:=r,height:=t},pc,ph,c,rfl,e9.same (AH.upd b5),by rw[de];exact a3,λeq b2 fr c2 eb=>?_));rw[l7]at eb;have c3:AH y b2:=(AH.upd b5).trans c2;refine(er,eq,_,_,rfl,rfl,c2 _ _ aB,eb,?_,λq dm=>?_);have:=iy g c;exact aN (by simp;lia);have n:AH y (L2.upd b2 q (.lst ([nV c] ++ (BK g c).map nV))):=c3.trans (AH.upd dm);have b4:L2.upd b2 q (.lst ([nV c] ++ (BK g c).map nV)) q=AA (.lst ((c::BK g c).map nV)):=aB;generalize L2.upd b2 q (.lst ([nV c] ++ (BK g c).map nV))=bm at n b4;have es:q≠ps:=λz=>by
  have:=c3 _ _ dn;rw[<-z,dm]at this;cases this
 refine(q,rfl,(_,AN.of b4),?_);refine fS (K:=bl) (a:=q) (xs:=(c::BK g c).map nV) (zZ bm a q g (changed g c {cost:=r,height:=t}) c r t pc ph pd ps sa) ((AB,rfl),sa,L.s.len,n _ _ dn,AH.but (λ_ _ e=>e),λb l=> .inl l,c9,λj b x=>?_) (λi c1 aj _ I=>?_) ?_ ?_;have(an,e0,ez):=L.s.each j b x;have J:=c9 b (Ar x);simp only[Aj,BW,BV,A5]at J;refine(an,n _ _ (a6 _ _ e0 (by simp;exact(J.1,J.2.1,J.2.2.1))),?_);rw[Se,AK (by simp)];exact ez.keep λd xs e=>n _ _ (a6 _ _ e (by
  simp only[Aj,BW,BV,A5];exact(λz=>(by rw[z,L.s.b.costs]at e;cases e),λz=>(by rw[z,L.s.b.Ei]at e;cases e),λz=>(by rw[z,L.doors]at e;cases e))))
 have(av,_,_,R,_):=I.ex;exact AN.of (R _ _ b4 (by simpa using es));rintro i v0 c1 aj a0 ⟨⟨en,rfl⟩,av,b1,X,R,ck,bs,co⟩;obtain⟨u,c8,rfl⟩:=dN a0;have c7:=ew u (Ar c8);have D:∀{b o},bm b=AA o->b≠ps->aj b=AA o:=λ{b o} e h=>R _ _ e (by simpa using h);have O:=D (n _ _ a4) c5.symm;have e8:FG C aj a (changed g c {cost:=r,height:=t}) pc ph:=by
  refine((B,_,O,rfl,by rw[g9,de],rfl,rfl,rfl,rfl,rfl,rfl,rfl),D (n _ _ a2) cr,D (n _ _ a1) cp,hw,by rw[de];exact cm,by rw[de];exact L.s.b.rows)
 simp only[BL,Bn,Bm];refine(.ref a,rfl,a,B,_,rfl,O,fR (by decide +kernel),nV u,rfl,a,changed g c {cost:=r,height:=t},pc,ph,u,rfl,e8,by rw[de];exact c7,λp an el ca U e6 ep=>?_);refine(.ref a,rfl,a,C,B,_,.ref ps,rfl,U _ _ O,T.cl,T.JK,xI,nV u,rfl,ps,_,(u:Int),u,rfl,rfl,U _ _ X,by rw[am,AL,b1,AJ c7],?_);have c4:p≠ps:=λz=>by rw[z,X]at ca;cases ca
 have M:bm p=AB:=R.eN X ca;have c6:∀d xs,el d=AA (.tup xs)->L2.upd el ps (.lst ((av.map V.ref).set u (V.ref p))) d=AA (.tup xs):=λd xs e=>by
  rw[aC (λz=>by rw[z,U _ _ X]at e;cases e)];exact e
 refine((_,rfl),av.set u p,by rw[F7];exact b1,by rw[aB,JA],(R.trans (AH.but U)).put (by simp),λb l=>?_,λb l=>?_,λj b x=>?_);rcases Lb l with l|rfl;exact ck b l;exact .inr M;rcases Lb l with l|rfl;exact bs b l;simp only[Aj,BW,BV,A5];refine(λz=>?_,λz=>?_,λz=>?_,c4);rw[z,n _ _ a2]at M;cases M;rw[z,n _ _ a1]at M;cases M;rw[z,n _ _ b7]at M;cases M;rw[take_snoc c8];by_cases e:j=u;subst e;rw[Le ()]at x;cases x;refine(an,by rw[aC c4];exact e6,?_);rw[AJ (by simp)];exact ep.keep c6;rw[Km (λz=>e z.symm)]at x;have(eo,g1,g2):=co j b x;have J:=bs b (Ar x);simp only[Aj,BW,BV,A5]at J;refine(eo,by rw[aC J.2.2.2];exact U _ _ g1,?_);have em:j∈(c::BK g c).take i ++ [u]↔j∈(c::BK g c).take i:=by simp[e]
 have g3:=(g2.keep λd xs h=>U _ _ h).keep c6;by_cases q:j∈(c::BK g c).take i;rw[AJ q]at g3;rw[AJ (em.mpr q)];exact g3;rw[AK q]at g3;rw[AK (λz=>q (em.mp z))];exact g3;rintro c1 aj ⟨⟨en,rfl⟩,av,b1,X,R,ck,bs,co⟩;have D:∀{b o},bm b=AA o->b≠ps->aj b=AA o:=λ{b o} e h=>R _ _ e (by simpa using h);have O:=D (n _ _ a4) c5.symm;have e5:∀b,bm b=AB->H b=AB:=λb h=>by
  have G:=n.free h;cases e:H b with
  |none=>rfl
  |some o=>
   exfalso;by_cases m:b∈[pc,ph,pd];simp only[Aj,BW,BV]at m;rcases m with rfl|rfl|rfl;rw[a2]at G;cases G;rw[a1]at G;cases G;rw[b7]at G;cases G;rw[a6 b o e m]at G;cases G
 refine k av aj (λb o e l=>?_) (λb l=>?_) bs ((((B,_,O,rfl,by rw[g9,de],rfl,rfl,rfl,rfl,rfl,rfl,rfl),D (n _ _ a2) cr,D (n _ _ a1) cp,hw,by rw[de];exact cm,by rw[de];exact L.s.b.rows),λfy fx e=>?_,X,by rw[de];exact b1,λj b x=>?_),(B,?_),D (n _ _ b7) ec);simp only[Aj,BW,BV,A5]at l;exact D (n _ _ (a6 _ _ e (by simp;exact(l.1,l.2.1,l.2.2.1)))) l.2.2.2;rcases ck b l with h|h;exact .inl h;exact .inr (e5 b h);rw[O]at e;cases e;rfl;have(an,g1,g2):=co j b x;refine(an,g1,?_);rw[AL,EI]at g2;by_cases m:j∈c::BK g c;rw[AJ m]at g2;exact g2;rw[AK m]at g2;rw[Aj,A5]at m;have ey:j<AG g:=by have:=(AY.mp x).1;lia
 rw[r9 hw ey a3 m.1 m.2];exact g2;have:E8 (changed g c {cost:=r,height:=t}) pc ph pd ps=E8 g pc ph pd ps:=by
  unfold E8 G4;rw[de,yf]
 rw[this];exact O
def Ad.wY{m:Hp}(N:Ef c)(f:Ad c H r s g)(kp:∀b o,H b=AA o->b∉r.fa->b∉[r.pc,r.ph,r.pd,r.ps]->(kindOf o).1<4->m b=AA o)(ok:Dn l)(S:l.ground=AA g')(j:alive l=alive s)(R:l.walkers.length=s.walkers.length)(Q:l.now=s.now)(D:g'.doors=g.doors)(L:D8 c.L m r.la g' r.pc r.ph r.pd r.ps v)(E:LF c m r.fl r.fa B l.fields)(sep:({r with sa:=v,fp:=B}:WA).Sep):Ad c m {r with sa:=v,fp:=B} l g':=by
 have((bl,a0,I,av),(an,aj,ab),(G,Z),J):=N.ne;have q:∀{b o},H b=AA o->kindOf o≠(AE 1 c.F)->b∉r.fa:=λ{b o} e h z=>by
  have(k,fs,j):=f.fi z;rw[e]at j;cases j;exact h rfl
 have nl:∀{b o},H b=AA o->kindOf o≠(AE 0 0)->b∉[r.pc,r.ph,r.pd,r.ps]:=λ{b o} e h z=>by
  have(xs,j):=f.eW (b:=b) (by
   erw[WA.dc];simp only[Aj,BW,BV]at z;rcases z with z|z|z|z<;>simp[z])
  rw[e]at j;cases j;exact h rfl
 have n:=f.sep.lists;unfold WA.DF at n;simp only[Ak,Ah,Gm,Aj,A5]at n;have((cr,cp,co,Y,cm,ck),(ci,cg,X,ce,cd),(ca,U,b7,b6),(T,b0,bs),(f1,f2),bm,_):=n;have w:∀{b xs},H b=AA (.lst xs)->b∉[r.pc,r.ph,r.pd,r.ps]->m b=AA (.lst xs):=λ{b xs} e h=>kp _ _ e (q e ∅) h (by show 0<4;decide);have t:∀{b C k fs},H b=AA (.ins C k fs)->C≠c.F->m b=AA (.ins C k fs):=λ{b C k fs} e h=>kp _ _ e (q e (by simp[kindOf];exact h)) (nl e ∅) (by show 1<4;decide);have(k,M):=f.ins;refine Ad.of ok S (k,by erw[R,Q];exact t M I) L (w f.dl ?_,by erw[D];exact f.HQ,λi a d u hd=>?_) E (?_,by erw[j];exact f.Ds,by erw[j];exact f.FV,λi a p y u A x=>?_) sep;simp only[Aj,BW,BV,A5];exact(λz=>Y z.symm,λz=>X z.symm,λz=>U z.symm,λz=>T z.symm);rw[D]at hd;have(k,e):=f.da i a d u hd;exact(k,t e G);erw[j];exact kp _ _ f.wd (q f.wd ∅) (nl f.wd ∅) (by show 2<4;decide);rw[j]at x;have((k,e),O):=f.ka i a p y u A x;refine((k,t e (λz=>J z.symm)),w O λz=>?_);refine f.sep.GG p (.inr (Ar A)) ?_;erw[WA.dc];simp only[Aj,BW,BV]at z;rcases z with z|z|z|z<;>simp[z]
structure zi(c:Cs)(PF:AD)(H1:Hp)(r:WA)(s:Eg)(g:Aw)(ch:Nat)(D:AD)(i:Nat)(H':Hp):Prop where
 ex:∃fq:List AD,fq.length=i/\H' D=AA (.lst ((s.fields.take i).map λf=>nV (E7 g f ch)))/\AQ (r.fa.take i ++ [PF]) H1 H'/\TabAt H' PF Ky Kx/\(∀b∈fq,H1 b=AB)/\fq.Nodup/\EM H1 H'/\D∉fq/\
  ∀(j:Nat) (a p:AD) (f:Ey),r.fa[j]? =AA a->fq[j]? =AA p->s.fields[j]? =AA f->FY c.F H' a f.goal p (kept g f ch)
structure ZG(c:Cs)(H4:Hp)(r:WA)(s:Eg)(g':Aw)(gv:AD)(ch:Nat)(D q:AD)(fq:List AD)(ms:List (Ey×Nat×Nat))(i:Nat)(σ:L2.St)(H':Hp):Prop where
 st:∃x y:Option V,σ=[AA (.ref r.wa),AA (.ref gv),AA (nV ch),AA (.ref D),AA (.ref q),x,y]
 ex:∃fz:List AD,fz.length=i/\H' q=AA (.lst (((ms.length:Int)::(ms.take i).flatMap λm=>[(m.2.1:Int),(m.2.2:Int)]).map V.int))/\AQ (r.fa.take i ++ fq.take i ++ [q]) H4 H'/\EM H4 H'/\fz.Nodup/\(∀(j:Nat) (z:AD),fz[j]? =AA z->fq[j]? =AA z\/H4 z=AB)/\q∉fz/\
  ∀(j:Nat) (a p:AD) (f:Ey),r.fa[j]? =AA a->fz[j]? =AA p->s.fields[j]? =AA f->FY c.F H' a f.goal p (EF g' f.goal)
def wV(hw:0<g.wide)(h:IH g f)(a:ch<AG g):∃n,IK g (changed g ch x) f ch=(AE ({goal:=f.goal,costs:=EF (changed g ch x) f.goal}) (AE (E7 g f ch) n)):=by
 have U:=ip (g:=changed g ch x) (s:=f.goal) hw;have A:=ow (x:=x) (c:=ch) hw (h.gc hw) h.1 U;have e:=kB (g:=changed g ch x) hw U (AG (changed g ch x) * 2) _ A (by have:=jw (n:=AG (changed g ch x)) (e:=EF (changed g ch x) f.goal) (d:=Hw g (changed g ch x) f ch);lia);exact((Ew (changed g ch x) AC (AG (changed g ch x) * 2) (Hw g (changed g ch x) f ch)).2,ou hw h a (Mz e rfl))
def wW(hw:0<g.wide)(h:IH g f)(a:ch<AG g)(S:Ew (changed g ch x) AC (AG (changed g ch x) * 2) (begun (changed g ch x) f.goal (kept g f ch))=(AE (EF (changed g ch x) f.goal) n)):
  IK g (changed g ch x) f ch=(AE ({goal:=f.goal,costs:=EF (changed g ch x) f.goal}) (AE (E7 g f ch) n)):=ou hw h a S
def vn(ng:Ef c)(tf:Ag dm "change_cell" "change_cell" Us f fd)(T:EY mg)(ci:DO dm mg c.W)(x3:Dx dm mg c.L)(th:A6 iv w dm mg base 5 c.W "has_plan_at" ["self","cell"] (Lp c))(ti:A6 iv w dm mg base 5 c.F "forget" ["self","land","changed"] (Na c.L c.F PF))(tl:A6 iv w dm mg base 5 c.L "change_cell" ["self","cell","cost","height"] (P7 c.L))(tg:A6 iv w dm mg base 5 c.F "settle" ["self","land"] (NV c.L c.F)):
  AV iv w dm mg base AZ 6 f fd ["world","given"] (DM c PL PF 8):=by
 exists tf.go ["world","given","cell","forgotten","answer","field","count"],w4,pe,hk;obtain⟨r,st,g,rz,as,us,x,rfl,A,k⟩:=h;refine(_,(aE (aS 2 (aJ aL (pv 1) aG)) (aE (aX (dU (ae (pv 0) th hk (aA (pv 2) aD))) (aF (aI (af (aA (db dZ aG) aD)))) aZ) (aE (fZ (i:=3) rfl pe rfl rfl (fW rfl rfl rfl (by kernel_rfl)) (dP (aH (pv 0))) (own:=[(AE ("field") 5)]) (dO (by kernel_rfl)) (λ_ _ _ _ _=>(aa 5)) (λ_ _ _ _ _=>dv) (λ_ _ _ _ _=>(ae (pv 5) ti hk (aA (gm (K:=dm) rfl (pv 0) rfl) (aA (pv 2) aD))))) (aE (dW (ae (aH (pv 0)) tl hk (aA (pv 2) (aA (aJ aL (pv 1) aG) (aA (aJ aL (pv 1) aG) aD))))) (aE (aS 4 (af (aA (bD dj (by rfl) T.C2 EB (aA (aH (pv 0)) aD)) aD))) (aE (dg D0 rfl (tK rfl T.JO (aA (aH (pv 0)) (aA (pv 3) aD))) (eP rfl (dX (aa 5) (dX (aa 6) eO))) (aF (dW (dw FJ Of SK ku (pv 4) (aA (af (aA (pv 6) (aA (ae (pv 5) tg hk (aA (aH (pv 0)) aD)) aD))) aD))))) (aF (aI (pv 4))))))))),?_);have(va,ne,u3):=A.known (by decide);obtain⟨ch,a0,bm,rfl,rfl, -, -, -⟩:=A.n3 (k:=.cell) (k2:=.cost) (k3:=.height) rfl (by decide) (by decide) (by decide);have py:Call.change (ch:Int) (a0:Int) (bm:Int)=x:=Ap A.call;subst py;have h7:ch<AG g:=by have:=ne ch (show (ch:Int)∈[(ch:Int)] by simp);lia
 have et:act st (.change (ch:Int) (a0:Int) (bm:Int))=if (Ac st 0).any (D9 st.now ch)=AC then(AE st [-5])
  else(AE ({st with ground:=AA (changed g ch {cost:=a0,height:=bm}),fields:=(st.fields.map λf=>IK g (changed g ch {cost:=a0,height:=bm}) f ch).map λm=>m.1}) (((st.fields.map λf=>IK g (changed g ch {cost:=a0,height:=bm}) f ch).length:Int)::(st.fields.map λf=>IK g (changed g ch {cost:=a0,height:=bm}) f ch).flatMap λm=>[(m.2.1:Int),(m.2.2:Int)])):=dy A.W.gr ne;have(ev,na):=A.W.ins;have(w0,vl):=A.W.land.ins;have G:=A.W.ok.Ej g A.W.gr;have wh:=G.few;have vu:=A.W.ok.Et;have kq:=A.W.Et;have vr:=A.W.IB;have((t7,t0,j1,ty),(tv,g7,tt),(tr,tq),t1):=ng.ne;exists N,cp;simp![A.gv];subst cp;exists N,cp;simp![na,d7 (x:="has_plan_at") (by decide +kernel)];refine(r,st,g,ch,rfl,A.W,λY c5=>?_);cases kt:(Ac st 0).any (D9 st.now ch)with
 |true=>
  rw[AJ kt]at et;simp![];refine(aN (),λl rd=>?_);exact k.di A.W A.T et c5 rd rfl
 |false=>
  rw[kt,AK (by decide)]at et;subst cp;have C:=A.W.same c5;have g2:=A.T.same c5;have(tp,hg):=g2.f.aY;have go:=c5 _ _ na;exists N,cp;refine(.ref r.wa,rfl,r.wa,c.W,ev,_,.ref r.fl,rfl,go,ci.cl,ci.Hu,fo,r.fl,rfl,(_,AN.of C.fl),λD d6=>?_);have lx:∀{b o},Y b=AA o->kindOf o≠(AE 1 c.F)->∀i,b∉r.fa.take i:=λ{b o} e h i z=>by
   have(ev,fs,ca):=C.fi (HC z);rw[e]at ca;cases ca;exact h rfl
  have g5:∀{b o},Y b=AA o->kindOf o≠(AE 4 0)->b≠PF:=λ{b o} e h=>dF e hg (by exact h);have e6:∀{i c0 b o},AQ (r.fa.take i ++ [PF]) Y c0->Y b=AA o->kindOf o≠(AE 1 c.F)->kindOf o≠(AE 4 0)->c0 b=AA o:=λ{i c0 b o} d e c8 b0=>d b o e (by
   rw[Az,A5,Av];exact(lx e c8 i,g5 e b0))
  refine ja (K:=dm) (a:=r.fl) (xs:=r.fa.map V.ref) (zi c PF Y r st g ch D) ([],rfl,aB,(AH.but (AH.upd d6)),g2.f.same (AH.upd d6),λb h=>by simp at h,M8,(AH.upd d6).grow,by simp,λj a p f _ h=>by simp at h) (λi cm _ I=>?_) ?_ ?_;have(J,_,_,R,_):=I.ex;exact AN.of (e6 R C.fl ∅ ∅);intro i v cm dp (J,f5,fx,R,g3,er,f4,gs,g6,each);obtain⟨fa,U,rfl⟩:=dN dp;have ki:i<st.fields.length:=by have:=(AY.mp U).1;lia
  have c7:st.fields[i]? =AA st.fields[i]:=AX ki;obtain⟨fp,d4⟩:∃fp,r.fp[i]? =AA fp:=(_,AX ());have oe:=C.fa i fa fp _ U d4 c7;have hw:=A.W.ok.fields g A.W.gr _ (Ar c7);have nc:(st.fields.take (i+1)).map (λf=>nV (E7 g f ch))=(st.fields.take i).map (λf=>nV (E7 g f ch)) ++ [nV (E7 g st.fields[i] ch)]:=by rw[take_snoc c7,Dd];rfl
  have nw:∀(j:Nat) (f:Ey),st.fields[j]? =AA f->j=i->f=st.fields[i]:=λj f e z=>by subst z;rw[c7]at e;exact(Ap e).symm
  generalize st.fields[i]=fld at oe hw nc nw;have((eu,h4),qq):=oe;have i3:fa∉r.fa.take i:=λz=>by
   have(j,t):=DP z;have bl:=(AY.mp t).1;rw[FQ]at bl;rw[NC,AJ ()]at t;have:=fE C.sep.JL t U;lia
  have mu:cm fa=AA (.ins c.F eu (Fv fld.goal fp)):=R _ _ h4 (by rw[Az,A5,Av];exact(i3,g5 h4 ∅));have qn:Ee cm fp fld.costs:=e6 R qq ∅ ∅;have h5:=e6 R go (by simp[kindOf];exact j1) ∅;have tc:D8 c.L cm r.la g r.pc r.ph r.pd r.ps r.sa:=C.land.hold (λo e=>by
    have(ws,mp):=C.land.ins;rw[mp]at e;cases e;exact e6 R mp (by simp[kindOf];exact g7) ∅) (λb d o e=>?_) λb xs e=>e6 R e ∅ ∅
  refine(rfl,?_);unfold Er;dsimp only;rw[AJ rfl];refine(.ref fa,rfl,fa,eu,_,rfl,mu,hU (by decide +kernel) (by decide +kernel),.ref r.wa,rfl,r.wa,c.W,ev,_,.ref r.la,rfl,h5,ci.cl,ci.Dv,dR,nV ch,rfl,fa,r.la,g,r.pc,r.ph,r.ps,r.sa,fp,fld.costs,fld.goal,ch,rfl,((eu,mu),qn),tc.s,hw,h7,g3,λc6 av an lc te S=>?_);have nl:D≠fa/\D≠PF:=by
   refine(λz=>?_,λz=>?_);rw[z,h4]at d6;cases d6;rw[z,hg]at d6;cases d6
  have fr:av D=AA (.lst ((st.fields.take i).map λf=>nV (E7 g f ch))):=an _ _ fx (by simp;exact nl);have((r7,gi),q0):=te;have(to,p1):=lc.aY;have r1:EM cm av:=an.grow λb d=>by
   simp only[Aj,BW,BV]at d;rcases d with rfl|rfl;exact(_,gi);exact(_,p1)
  have q1:Y c6=AB:=gs _ S;have ml:c6≠D:=λz=>by rw[z,fx]at S;cases S
  have o3:c6∉J:=λz=>by
   have(j,t):=DP z;have bl:=(AY.mp t).1;obtain⟨L,d5⟩:∃L,r.fa[j]? =AA L:=(_,AX (by have:=(AY.mp U).1;lia));obtain⟨B,M⟩:∃B,st.fields[j]? =AA B:=(_,AX ());have:=(each j L c6 B d5 t M).costs;rw[Ee,S]at this;cases this
  refine(_,fr,by rw[AL,FQ];exact dS (),J ++ [c6],by rw[BZ,f5];rfl,by rw[aB,nc],λb o e d=>?_,?_,λb d=>?_,?_,(gs.trans r1).upd,?_,λj ew g4 es ds ei fb=>?_);rw[take_snoc U,Az,Az,A5,A5,Av,Av]at d;rw[aC (aT e d6)];exact an _ _ (R b o e (by rw[Az,A5,Av];exact(d.1.1,d.2))) (by simp;exact(d.1.2,d.2));refine lc.keep λb o e h _=>?_;rw[aC (λz=>by
   rw[z,fr]at e;cases e;rcases h with h|h<;>cases h)]
  exact e;rcases Az.mp d with h|h;exact er b h;rw[Av.mp h];exact q1;rw[I0];refine(f4,by simp,λu en v dp=>?_);rw[Av.mp dp];exact λz=>o3 (by rw[<-z];exact en);rw[Az,A5,Av];exact(g6,λz=>ml z.symm);by_cases t:j<J.length;rw[F9 t]at ei;have((dd,b6),c9):=each j ew g4 es ds ei fb;have i5:ew≠fa:=λz=>by
   have:=fE C.sep.JL ds (by rw[z];exact U);lia
  have eo:=er g4 (Ar ei);have kx:av ew=AA (.ins c.F dd (Fv es.goal g4)):=an _ _ b6 (by simp;exact(i5,λz=>by rw[z]at b6;have(y,px):=g3.aY;rw[px]at b6;cases b6));have ca:av g4=AA (.lst ((kept g es ch).map oV)):=an _ _ c9 (by simp;exact(λz=>(by rw[z,h4]at eo;cases eo),λz=>(by rw[z,hg]at eo;cases eo)));exact((dd,by rw[aC (λz=>by rw[z,fr]at kx;cases kx)];exact kx),by rw[Ee,aC (λz=>g6 (by rw[<-z];exact Ar ei))];exact ca);rw[F8 ()]at ei;have z:j - J.length=0:=by have:=(AY.mp ei).1;simp at this;lia
  rw[z]at ei;cases ei;have:j=i:=by lia
  subst this;rw[U]at ds;cases ds;rw[nw j es fb rfl];exact((r7,by rw[aC (λz=>nl.1 z.symm)];exact gi),by rw[Ee,aC ml];exact q0);obtain⟨xs,ex⟩:∃xs,Y b=AA (.lst xs):=by
   rcases Az.mp d with d|d;refine C.eW ?_;rw[WA.dc];simp only[Aj,BW,BV]at d;rcases d with h|h|h|h<;>simp[h];exact C.gC d
  rw[ex]at e;cases e;exact e6 R ex ∅ ∅;intro cm (J,f5,fx,R,g3,er,f4,gs,g6,each);rw[AL]at f5 R fx;rw[EI]at R;have p2:st.fields.take r.fa.length=st.fields:=by rw[kq,EI]
  rw[p2]at fx;subst cp;dsimp only;have co:∀{b o},Y b=AA o->kindOf o≠(AE 1 c.F)->kindOf o≠(AE 4 0)->cm b=AA o:=λ{b o} e c8 b0=>R b o e (by
   rw[Az,A5,Av];exact(λz=>lx e c8 r.fa.length (by rw[EI];exact z),g5 e b0))
  have h5:=co go (by simp[kindOf];exact j1) ∅;have(wr,gg):=C.land.ins;have e8:∀{b},b∈[r.pc,r.ph,r.pd,r.ps] ++ r.sa->∃xs,Y b=AA (.lst xs):=λ{b} d=>by
   rcases Az.mp d with d|d;refine C.eW ?_;rw[WA.dc];simp only[Aj,BW,BV]at d;rcases d with h|h|h|h<;>simp[h];exact C.gC d
  have s9:D8 c.L cm r.la g r.pc r.ph r.pd r.ps r.sa:=C.land.hold (λo e=>by
    rw[gg]at e;cases e;exact co gg (by simp[kindOf];exact g7) ∅) (λb d o e=>by
    have(xs,ex):=e8 d;rw[ex]at e;cases e;exact co ex ∅ ∅) λb xs e=>co e ∅ ∅
  have ki:=co gg (by simp[kindOf];exact g7) ∅;have rr:=co (c5 _ _ A.gv) ∅ ∅;have e4:=A.W.sep.lists;unfold WA.DF at e4;have oj:[r.pc,r.ph,r.pd,r.ps].Nodup:=e4.sublist (by
   show List.Sublist [r.pc,r.ph,r.pd,r.ps] ([r.pc,r.ph,r.pd,r.ps] ++ ([r.dl,r.fl] ++ r.fp));exact List.sublist_append_left _ _)
  have op:∀b∈r.sa,b∉[r.pc,r.ph,r.pd,r.ps]:=λb d z=>A.W.sep.GG b (.inl d) (by
   rw[WA.dc];simp only[Aj,BW,BV]at z;rcases z with z|z|z|z<;>simp[z])
  exists N,cp;simp![h5,ci.cl,ci.Dv,dR,ki,fR (x:="change_cell") (by decide +kernel),rr];refine(r.la,g,r.pc,r.ph,r.pd,r.ps,r.sa,ch,a0,bm,rfl,s9,oj,op,h7,λdn av an kv pb e3=>?_);subst cp;generalize eq:changed g ch {cost:=a0,height:=bm}=g' at e3 et;have p3:AG g'=AG g:=by rw[<-eq,de]
  have l3:∀b∈J,b∉[r.pc,r.ph,r.pd,r.ps]:=λb d z=>by
   have(xs,e):=e8 (FP _ z);rw[er b d]at e;cases e
  have rx:D∉[r.pc,r.ph,r.pd,r.ps]:=λz=>by
   have(xs,e):=e8 (FP _ z);rw[d6]at e;cases e
  have lv:∀{b o},cm b=AA o->kindOf o≠(AE 0 0)->av b=AA o:=λ{b o} e h=>an _ _ e λz=>by
   have:∃xs,cm b=AA (.lst xs):=by
    have(xs,ex):=e8 (FP _ z);exact(xs,co ex ∅ ∅)
   have(xs,ex):=this;rw[e]at ex;cases ex;exact h rfl
  have gi:=lv h5 ∅;have nb:av r.fl=AA (.lst (r.fa.map V.ref)):=an _ _ (co C.fl ∅ ∅) (by
   simp only[Ak,Ah,Gm,Aj,A5]at e4;have((x2,x1,xz,xv,s2,xd),(w9,R,an,se,O),(w7,w6,sc,w5),(w3,sb,w2),(f1,f2),wi,_):=e4;simp only[Aj,BW,BV,A5];exact(λz=>s2 z.symm,λz=>se z.symm,λz=>sc z.symm,λz=>sb z.symm))
  have fr:=an _ _ fx rx;have ny:∀(j:Nat) (a p:AD) (f:Ey),r.fa[j]? =AA a->J[j]? =AA p->st.fields[j]? =AA f->FY c.F av a f.goal p (kept g f ch):=λj a p f fe e9 bs=>by
   have((dd,b6),c9):=each j a p f fe e9 bs;exact((dd,lv b6 ∅),an _ _ c9 (l3 p (Ar e9)))
  exists N,cp;simp![gi,ci.cl,ci.Hu,fo,nb,AL];refine(aN (),λq ge=>?_);subst cp;have ce:AH av (L2.upd av q (.lst [V.int (r.fa.length:Int)])):=AH.upd ge;have ho:L2.upd av q (.lst [V.int (r.fa.length:Int)]) q=AA (.lst [V.int (r.fa.length:Int)]):=aB;generalize L2.upd av q (.lst [V.int (r.fa.length:Int)])=cr at ce ho|-;have nr:EM Y av:=gs.trans (an.grow λb d=>by
   simp only[Aj,BW,BV]at d;rcases d with rfl|rfl|rfl|rfl;exact(_,e3.s.b.costs);exact(_,e3.s.b.Ei);exact(_,e3.doors);exact(_,e3.s.steps))
  have eo:Y q=AB:=nr q ge;have p4:q∉J:=λz=>by
   have(j,t):=DP z;have bl:=(AY.mp t).1;obtain⟨L,d5⟩:∃L,r.fa[j]? =AA L:=(_,AX ());obtain⟨B,M⟩:∃B,st.fields[j]? =AA B:=(_,AX ());have:=(ny j L q B d5 t M).costs;rw[Ee,ge]at this;cases this
  have ek:D8 c.L cr r.la g' r.pc r.ph r.pd r.ps dn:=e3.hold (λo e=>ce _ _ e) (λb _ o e=>ce _ _ e) λb xs e=>ce _ _ e;have kw:∀(j:Nat) (a p:AD) (f:Ey),r.fa[j]? =AA a->J[j]? =AA p->st.fields[j]? =AA f->FY c.F cr a f.goal p (kept g f ch):=λj a p f fe e9 bs=>by
   have((dd,b6),c9):=ny j a p f fe e9 bs;exact((dd,ce _ _ b6),ce _ _ c9)
  have kn:=ce _ _ nb;have nm:=ce _ _ fr;have m0:=ce _ _ gi;have kb:∀b∈dn,b∉J:=λb d z=>by
   rcases kv b d with h|h;have(xs,e):=C.gC h;rw[er b z]at e;cases e;have(j,t):=DP z;have bl:=(AY.mp t).1;obtain⟨L,d5⟩:∃L,r.fa[j]? =AA L:=(_,AX ());obtain⟨B,M⟩:∃B,st.fields[j]? =AA B:=(_,AX ());have:=(each j L b B d5 t M).costs;rw[Ee,h]at this;cases this
  generalize ht:st.fields.map (λf=>IK g g' f ch)=ab at et;have h0:ab.length=r.fa.length:=by rw[<-ht,AL,kq]
  exists N,cp;refine(.ref r.wa,rfl,r.wa,c.W,ev,_,.ref r.fl,rfl,m0,ci.cl,ci.Hu,fo,.ref D,rfl,r.fl,D,_,_,rfl,AN.of kn,AN.of nm,?_);have j5:∀{b},b∈r.fa->∃ev fs,cr b=AA (.ins c.F ev fs):=λ{b} d=>by
   have(j,t):=DP d;have bl:=(AY.mp t).1;obtain⟨ix,qs⟩:∃ix,J[j]? =AA ix:=(_,AX ());obtain⟨B,M⟩:∃B,st.fields[j]? =AA B:=(_,AX ());have(dd,b6):=(kw j b ix B t qs M).ins;exact(dd,_,b6)
  have g8:∀{b},b∈J->∃xs,cr b=AA (.lst xs):=λ{b} d=>by
   have(j,t):=DP d;have bl:=(AY.mp t).1;obtain⟨L,d5⟩:∃L,r.fa[j]? =AA L:=(_,AX ());obtain⟨B,M⟩:∃B,st.fields[j]? =AA B:=(_,AX ());exact(_,(kw j L b B d5 t M).costs)
  have ec:∀{i c0 b o},AQ (r.fa.take i ++ J.take i ++ [q]) cr c0->cr b=AA o->kindOf o≠(AE 1 c.F)->b∉J->b≠q->c0 b=AA o:=λ{i c0 b o} d e c8 b0 fy=>d b o e (by
   rw[Az,Az,A5,A5,Av];refine((λz=>?_,λz=>b0 (HC z)),fy);have(r3,r2,gw):=j5 (HC z);rw[e]at gw;cases gw;exact c8 rfl)
  have eb:∀{b o},Y b=AA o->b≠q:=λ{b o} e=>aT e eo;have el:∀{b o},Y b=AA o->b∉J:=λ{b o} e z=>by rw[er b z]at e;cases e
  have o2:D≠q:=aT fr ge;have o1:∀b∈dn,b≠q:=λb d z=>by
   have(j,t):=DP d;have(lb,e,_):=e3.s.each j b t;rw[z,ge]at e;cases e
  have ly:∀{i c0},AQ (r.fa.take i ++ J.take i ++ [q]) cr c0->D8 c.L c0 r.la g' r.pc r.ph r.pd r.ps dn:=λ{i c0} d=>by
   have(wk,mo):=ek.ins;refine ek.hold (λo e=>?_) (λb nk o e=>?_) λb xs e=>?_;rw[mo]at e;cases e;exact ec d mo (by simp[kindOf];exact g7) (el gg) (eb gg);have ra:∃xs,cr b=AA (.lst xs):=by
    rcases Az.mp nk with h|h;simp only[Aj,BW,BV]at h;rcases h with rfl|rfl|rfl|rfl;exact(_,ek.s.b.costs);exact(_,ek.s.b.Ei);exact(_,ek.doors);exact(_,ek.s.steps);have(j,t):=DP h;have(lb,ca,_):=ek.s.each j b t;exact(_,ca)
   have(xs,ex):=ra;rw[ex]at e;cases e;rcases Az.mp nk with h|h;have(ys,g0):=e8 (FP _ h);exact ec d ex ∅ (el g0) (eb g0);exact ec d ex ∅ (kb b h) (o1 b h);refine ec d e ∅ (λz=>?_) (λz=>?_);have(ys,g0):=g8 z;rw[e]at g0;cases g0;rw[z,ho]at e;cases e
  refine xj (K:=dm) (a:=r.fl) (b:=D) (xs:=r.fa.map V.ref) (ys:=st.fields.map λf=>nV (E7 g f ch)) (by rw[AL,AL];exact kq) (ZG c cr r st g' rz ch D q J ab) ((AB,AB,rfl),[],rfl,?_,AH.but (λ_ _ e=>e),λb h=>h,M8,λj z h=>by simp at h,by simp,λj a p f _ h=>by simp at h) (λi k9 ck _ I=>?_) ?_ ?_;rw[ho,h0];rfl;have(X,_,_,O,_):=I.ex;exact(AN.of (ec O kn ∅ (el C.fl) (eb C.fl)),AN.of (ec O nm ∅ g6 o2));rintro i v0 tn k1 k9 ck dp en ⟨⟨oi,of,rfl⟩,X,he,f6,O,no,i4,BA,i1,h9⟩ rv;obtain⟨fa,U,rfl⟩:=dN dp;obtain⟨fld,c7,rfl⟩:=dN en;have vk:=(AY.mp c7).1;obtain⟨fp,d4⟩:∃fp,J[i]? =AA fp:=(_,AX ());have gr:=Ar d4;have((eu,rk),mk):=kw i fa fp fld U d4 c7;have hw:=A.W.ok.fields g A.W.gr _ (Ar c7);have(w1,v1,kl):=C.fi (Ar U);have i3:fa∉r.fa.take i:=λz=>by
   have(j,t):=DP z;have bl:=(AY.mp t).1;rw[FQ]at bl;rw[NC,AJ ()]at t;have:=fE C.sep.JL t U;lia
  have pa:fp∉J.take i:=λz=>by
   have(j,t):=DP z;have bl:=(AY.mp t).1;rw[FQ]at bl;rw[NC,AJ ()]at t;have:=fE f4 t d4;lia
  have i2:fp≠q:=λz=>p4 (by rw[<-z];exact gr);have kk:ck fa=AA (.ins c.F eu (Fv fld.goal fp)):=O _ _ rk (by
   rw[Az,Az,A5,A5,Av];exact((i3,λz=>el kl (HC z)),eb kl))
  have mc:ck fp=AA (.lst ((kept g fld ch).map oV)):=O _ _ mk (by
   rw[Az,Az,A5,A5,Av];refine((λz=>?_,pa),i2);have(r3,r2,gw):=j5 (HC z);have qj:cr fp=AA (.lst ((kept g fld ch).map oV)):=mk;rw[qj]at gw;cases gw)
  have Z:AH ck (L2.upd ck k1 (.tup [V.ref fa,nV (E7 g fld ch)])):=AH.upd rv;refine(k1,[V.ref fa,nV (E7 g fld ch)],rfl,BB.of aB,rfl,V.ref fa,[nV (E7 g fld ch)],rfl,nV (E7 g fld ch),[],rfl,rfl,?_);generalize L2.upd ck k1 (.tup [V.ref fa,nV (E7 g fld ch)])=od at Z|-;have ta:=(ly O).hold (λo e=>Z _ _ e) (λb _ o e=>Z _ _ e) λb xs e=>Z _ _ e;have ro:=Z _ _ (ec O m0 (by simp[kindOf];exact j1) (el go) (eb go));have kf:=Z _ _ f6;have ry:Above g' (An g' fld.goal) fld.goal (EF g' fld.goal) (begun g' fld.goal (kept g fld ch)):=by
   rw[<-eq];exact ow (x:={cost:=a0,height:=bm}) (c:=ch) G.wide (hw.gc G.wide) hw.1 (ip (g:=changed g ch {cost:=a0,height:=bm}) (s:=fld.goal) G.wide)
  have h6:=l3 fp gr;refine(.ref q,rfl,.inl (rfl,_,AN.of kf),nV (E7 g fld ch),rfl,.ref fa,rfl,fa,eu,_,rfl,Z _ _ kk,hU (by decide +kernel) (by decide +kernel),.ref r.wa,rfl,r.wa,c.W,ev,_,.ref r.la,rfl,ro,ci.cl,ci.Dv,dR,
   fa,r.la,g',r.pc,r.ph,r.ps,dn,fp,kept g fld ch,fld.goal,rfl,((eu,Z _ _ kk),Z _ _ mc),ta.s,by rw[p3];exact hw.1,?_,λz=>kb fp z gr,ry,λn c6 k5 l2 g1 td S rs=>?_);simp only[Aj,BW,BV,A5]at h6|-;exact(h6.1,h6.2.1,h6.2.2.2);have((r5,km),hs):=td;have hs:k5 c6=AA (.lst ((EF g' fld.goal).map oV)):=hs;have lt:q≠fa:=λz=>eb kl z.symm;have kd:=g1 _ _ kf (by simp;exact(lt,λz=>i2 z.symm));have r0:EM od k5:=g1.grow λb d=>by
   simp only[Aj,BW,BV]at d;rcases d with rfl|rfl;exact(_,km);exact rs
  refine(aN (by simp),λle p5=>?_);have e5:∀{b o},k5 b=AA o->b≠le:=λ{b o} e=>aT e p5;refine(q,le,_,_,rfl,rfl,by rw[aC (e5 kd)];exact kd,aB,?_,?_);have:((ab.take i).flatMap λm=>[(m.2.1:Int),(m.2.2:Int)]).length<=2 * i:=by
   have q9:∀l:List (Ey×Nat×Nat),(l.flatMap λm=>[(m.2.1:Int),(m.2.2:Int)]).length=2 * l.length:=λl=>by
    induction l with
    |nil=>rfl
    |cons a l pw=>rw[List.flatMap_cons,BZ,pw];simp;lia
   rw[q9,FQ];lia
  exact aN (by rw[AL,AS];show _+2<=100000;lia);have q6:ab[i]? =AA (IK g g' fld ch):=by rw[<-ht,BC,c7];rfl
  have q7:IK g g' fld ch=(AE ({goal:=fld.goal,costs:=EF g' fld.goal}) (AE (E7 g fld ch) n)):=by
   rw[<-eq]at l2|-;exact wW G.wide hw h7 l2
  have q3:∀(j:Nat) (z:AD),X[j]? =AA z->z≠c6:=λj z cg e=>by
   have bl:=(AY.mp cg).1;obtain⟨L,d5⟩:∃L,r.fa[j]? =AA L:=(_,AX (by have:=(AY.mp U).1;lia));obtain⟨B,M⟩:∃B,st.fields[j]? =AA B:=(_,AX ());rcases S with rfl|S;rcases BA j z cg with h|h;have:=fE f4 h (by rw[e];exact d4);lia;have(xs,ex):=g8 gr;rw[<-e,h]at ex;cases ex;have:=Z _ _ (h9 j L z B d5 cg M).costs;rw[e,S]at this;cases this
  have mm:c6≠q:=λz=>by
   rcases S with rfl|S;exact i2 z;rw[z,kf]at S;cases S
  have np:EM cr od:=no.trans Z.grow;refine((_,_,rfl),X ++ [c6],by rw[BZ,he];rfl,?_,λb o e d=>?_,((np.trans r0).upd).upd,?_,λj z cg=>?_,?_,λj ew cd es ds ef fb=>?_);rw[aB,take_snoc q6,List.flatMap_append,q7];simp[Dd];rw[take_snoc U,take_snoc d4]at d;simp only[Az,Av,A5]at d;have(((s0,sz),sm,sd),oc):=d;have f0:=g1 _ _ (Z _ _ (O b o e (by simp only[Az,Av,A5];exact((s0,sm),oc)))) (by simp;exact(sz,sd));rw[aC oc,aC (e5 f0)];exact f0;rw[I0];refine(i4,by simp,λu en v dp=>?_);rw[Av.mp dp];have(j,t):=DP en;exact q3 j u t;by_cases t:j<X.length;rw[F9 t]at cg;exact BA j z cg;rw[F8 ()]at cg;have ky:j - X.length=0:=by have:=(AY.mp cg).1;simp at this;lia
  rw[ky]at cg;cases cg;have:j=i:=by lia
  subst this;rcases S with rfl|S;exact .inl d4;exact .inr (np _ S);rw[Az,A5,Av];exact(i1,λz=>mm z.symm);by_cases t:j<X.length;rw[F9 t]at ef;have((dd,b6),c9):=h9 j ew cd es ds ef fb;have c9:ck cd=AA (.lst ((EF g' es.goal).map oV)):=c9;have i5:ew≠fa:=λz=>by
   have:=fE C.sep.JL ds (by rw[z];exact U);lia
  have pf:ew≠fp:=dF b6 mc ∅;have ov:cd≠fa:=dF c9 kk ∅;have ot:cd≠fp:=λz=>by
   rcases BA j cd ef with h|h;have:=fE f4 h (by rw[z];exact d4);lia;have(xs,ex):=g8 gr;rw[<-z,h]at ex;cases ex
  have f0:=g1 _ _ (Z _ _ b6) (by simp;exact(i5,pf));have ob:=g1 _ _ (Z _ _ c9) (by simp;exact(ov,ot));exact((dd,by rw[aC (dF f0 kd ∅),aC (e5 f0)];exact f0),by rw[Ee,aC (λz=>i1 (by rw[<-z];exact Ar ef)),aC (e5 ob)];exact ob);rw[F8 ()]at ef;have ky:j - X.length=0:=by have:=(AY.mp ef).1;simp at this;lia
  rw[ky]at ef;cases ef;have:j=i:=by lia
  subst this;rw[U]at ds;cases ds;rw[c7]at fb;cases fb;exact((r5,by rw[aC (λz=>lt z.symm),aC (e5 km)];exact km),by rw[Ee,aC mm,aC (e5 hs)];exact hs);rintro k9 ck ⟨⟨oi,of,rfl⟩,X,he,f6,O,no,i4,BA,i1,h9⟩;rw[AL]at he O f6;have q4:ab.take r.fa.length=ab:=by rw[<-h0,EI]
  rw[q4]at f6;have tb:=ly O;rw[EI,show J.take r.fa.length=J by rw[<-f5,EI]]at O;subst cp;refine(.ref q,rfl,?_);have h8:∀z∈X,Y z=AB:=λz cg=>by
   have(j,t):=DP cg;rcases BA j z t with h|h;exact er z (Ar h);exact nr z (ce.free h)
  have l1:∀b o,Y b=AA o->b∉r.fa->b∉[r.pc,r.ph,r.pd,r.ps]->b≠PF->ck b=AA o:=λb o e c8 b0 fy=>O _ _ (ce _ _ (an _ _ (R _ _ e (by rw[Az,A5,Av];exact(c8,fy))) b0)) (by
   simp only[Az,Av,A5];exact((c8,el e),eb e))
  have l4:∀(j:Nat) (f:Ey),st.fields[j]? =AA f->∃n,ab[j]? =AA (AE ({goal:=f.goal,costs:=EF g' f.goal}) (AE (E7 g f ch) n)):=λj f bs=>by
   have hw:=A.W.ok.fields g A.W.gr _ (Ar bs);have(n,ep):=wV (x:={cost:=a0,height:=bm}) G.wide hw h7;rw[eq]at ep;exact(n,by rw[<-ht,BC,bs,<-ep];rfl)
  have q5:ab.length=st.fields.length:=by rw[<-ht,AL]
  have p0:∀f∈ab.map (λm=>m.1),IH (changed g ch {cost:=a0,height:=bm}) f:=λf bs=>by
   obtain⟨m,q8,rfl⟩:=Du.mp bs;have(j,t):=DP q8;have bl:=(AY.mp t).1;obtain⟨B,M⟩:∃B,st.fields[j]? =AA B:=(_,AX ());have(n,ep):=l4 j B M;rw[t]at ep;cases ep;have hw:=A.W.ok.fields g A.W.gr _ (Ar M);exact(by rw[de];exact hw.1,by rw[eq])
  have ls:=sN (k:=a0) (h:=bm) A.W.ok A.W.gr kt (fs:=ab.map λm=>m.1) (by rw[AL,q5]) p0;rw[eq]at ls;have s3:Ad c ck {r with sa:=dn,fp:=X} {st with ground:=AA g',fields:=ab.map λm=>m.1} g':=by
   refine C.wY ng (λb o e c8 b0 fy=>l1 b o e c8 b0 (g5 e (λz=>by rw[z]at fy;exact absurd fy (by decide)))) ls rfl rfl rfl rfl (by rw[<-eq];rfl) tb (ec (i:=r.fa.length) (by rw[EI,show J.take r.fa.length=J by rw[<-f5,EI]];exact O) kn ∅ (el C.fl) (eb C.fl),by show r.fa.length=(ab.map _).length;rw[AL,h0],by show X.length=(ab.map _).length;rw[AL,h0];exact he,λj a p f fe e9 bs=>?_) (?_,λb d=>?_,A.W.sep.JL,A.W.sep.knd);have bs:(ab.map λm=>m.1)[j]? =AA f:=bs;have bl:=(AY.mp fe).1;obtain⟨B,M⟩:∃B,st.fields[j]? =AA B:=(_,AX ());have(n,ep):=l4 j B M;rw[BC,ep]at bs;cases bs;exact h9 j a p B fe e9 M;show (([r.pc,r.ph,r.pd,r.ps,r.dl,r.fl] ++ X)).Nodup;rw[I0]at e4|-;refine(e4.1,i4,λu en v dp z=>?_);have(xs,e):=C.eW (b:=u) (by unfold WA.DF;exact FP _ en);rw[z,h8 v dp]at e;cases e;show b∉[r.pc,r.ph,r.pd,r.ps,r.dl,r.fl] ++ X;rw[Az,A5];have ru:b∉X:=λz=>by
    rcases d with d|d;have d:b∈dn:=d;have(j,t):=DP z;rcases BA j b t with h|h;exact kb b d (Ar h);have(pu,ri):=DP d;have(lb,e,_):=ek.s.each pu b ri;rw[h]at e;cases e;have(xs,e):=C.ib d;rw[h8 b z]at e;cases e
   refine(λz=>?_,ru);rcases d with d|d;have d:b∈dn:=d;have cd:b∈[r.pc,r.ph,r.pd,r.ps] ++ [r.dl,r.fl]:=z;rcases Az.mp cd with cd|cd;exact pb b d cd;rcases kv b d with h|h;exact A.W.sep.GG b (.inl h) (by unfold WA.DF;exact FP _ z);have:∃xs,cm b=AA (.lst xs):=by
    simp only[Aj,BW,BV]at cd;rcases cd with rfl|rfl;exact(_,co C.dl ∅ ∅);exact(_,co C.fl ∅ ∅)
   have(xs,e):=this;rw[h]at e;cases e;exact A.W.sep.GG b (.inr d) (by unfold WA.DF;exact FP _ z)
  have s5:D7 ck PL PF:=by
   have s8:D7 cm PL PF:=(g2.l.keep λb o e h b0=>R b o e (by
    rw[Az,A5,Av];refine(λz=>?_,?_);have(_,_,ca):=C.fi z;rw[e]at ca;cases ca;rcases h with h|h<;>cases h;rcases b0 with rfl|b0;exact g2.ne;intro z;rw[z,hg]at e;cases e;cases b0),g3,g2.ne)
   have s7:D7 av PL PF:=s8.but an λb d o e=>by
    have(xs,ex):=e8 (FP _ d);rw[co ex ∅ ∅]at e;cases e;show 0<4;decide
   refine(s7.same ce).but O λb d o e=>?_;simp only[Az,Av]at d;rcases d with (d|d) |rfl;have(_,_,ca):=j5 d;rw[ca]at e;cases e;show 1<4;decide;have(_,ca):=g8 d;rw[ca]at e;cases e;show 0<4;decide;rw[ho]at e;cases e;show 0<4;decide
  refine k q {r with sa:=dn,fp:=X} g' ck (c5.free eo) (λb o e d=>?_) s5 (rfl,λb d=>?_,λb d=>?_) (by rw[et];exact s3) (by rw[et];exact f6);rw[Az,A5,WA.dt,WA.dc]at d;simp only[Aj,BW,BV,A5]at d;have((m1,uy,(po,pm,pk,pg,up,un,t9),pt,u2),u1,pp):=d;exact l1 b o (c5 _ _ e) pt (by simp only[Aj,BW,BV,A5];exact(po,pm,pk,pg)) pp;rw[WA.dt,WA.dc]at d;rw[WA.dt,WA.dc];rcases d with h|h|h|h|h;exact .inl (.inl h);exact .inl (.inr (.inl h));rcases h with h|h|h|h|h|h|h;exact .inl (.inr (.inr (.inl (.inl h))));exact .inl (.inr (.inr (.inl (.inr (.inl h)))));exact .inl (.inr (.inr (.inl (.inr (.inr (.inl h))))));exact .inl (.inr (.inr (.inl (.inr (.inr (.inr (.inl h)))))));exact .inl (.inr (.inr (.inl (.inr (.inr (.inr (.inr (.inl h))))))));exact .inl (.inr (.inr (.inl (.inr (.inr (.inr (.inr (.inr (.inl h)))))))));exact .inr (c5.free (h8 b h));exact .inl (.inr (.inr (.inr (.inl h))));exact .inl (.inr (.inr (.inr (.inr h))));rw[WA.eU,WA.dc]at d;rw[WA.eU,WA.dc];rcases d with h|h|h;rcases h with h|h|h|h|h|h|h;exact .inl (.inl (.inl h));exact .inl (.inl (.inr (.inl h)));exact .inl (.inl (.inr (.inr (.inl h))));exact .inl (.inl (.inr (.inr (.inr (.inl h)))));exact .inl (.inl (.inr (.inr (.inr (.inr (.inl h))))));exact .inl (.inl (.inr (.inr (.inr (.inr (.inr (.inl h)))))));exact .inr (.inl (c5.free (h8 b h)));rcases kv b h with h|h;exact .inl (.inr (.inl h));exact .inr (.inl (c5.free (gs b h)));exact .inl (.inr (.inr h))
def Bl.gi(X:a.In h)(G:h.Ns DG mg)(I:Bl a x n):GI mg x n:=let(t,e):=I;(t,He X G e)
structure Zt(P:ET)(w:Do)(K:Ao)(mg:Str->Option AI)(base h:BI):Prop where
 X:K.In h
 G:h.Ns DG mg
def iY{P:List b->Prop}(h:∀a,P [a]):∀us:List b,us.length=1->P us
 | [a],_=>h a
def iX{P:List c->Prop}(h:∀a b,P [a,b]):∀us:List c,us.length=2->P us
 | [a,b],_=>h a b
def iW{P:List d->Prop}(h:∀a b c,P [a,b,c]):∀us:List d,us.length=3->P us
 | [a,b,c],_=>h a b c
def iV{P:List e->Prop}(h:∀a b c d,P [a,b,c,d]):∀us:List e,us.length=4->P us
 | [a,b,c,d],_=>h a b c d
def iU{P:List f->Prop}(h:∀a b c d e,P [a,b,c,d,e]):∀us:List f,us.length=5->P us
 | [a,b,c,d,e],_=>h a b c d e
def iT{P:List g->Prop}(h:∀a b c d e f,P [a,b,c,d,e,f]):∀us:List g,us.length=6->P us
 | [a,b,c,d,e,f],_=>h a b c d e f
def iS{P:List i->Prop}(h:∀a b c d e f g,P [a,b,c,d,e,f,g]):∀us:List i,us.length=7->P us
 | [a,b,c,d,e,f,g],_=>h a b c d e f g
def BD.ok(Z:Zt c w a mg base h)(D:BD a x b)(ok:∀f fd,Ag a x x b f fd->AV c w a mg base AZ k f fd ps sp)(d:∀f fd,Ag a x x b f fd->Binds a fd ps []:=by intro _ _ F;refine F.binds λ_ _ _ _ _ _=>?_;first|exact iY λ_=>rfl|exact iX λ_ _=>rfl|exact iW λ_ _ _=>rfl|exact iV λ_ _ _ _=>rfl|exact iU λ_ _ _ _ _=>rfl|exact iT λ_ _ _ _ _ _=>rfl|exact iS λ_ _ _ _ _ _ _=>rfl):A8 c w a mg base k x ps sp:=
 let(f,fd,e,F):=D;(f,fd,ok f fd F,He Z.X Z.G e,F.kp,d f fd F)
def RI.ok(Z:Zt g w b mg base h)(D:RI b x c d)(ok:∀f fd a,G0 b x x c f fd a d->AV g w b mg base AZ k f fd ps sp)(i:∀f fd a,G0 b x x c f fd a d->Binds b fd ps []:=by intro _ _ _ F;refine F.binds λ_ _ _ _ _ _=>?_;first|exact iY λ_=>rfl|exact iX λ_ _=>rfl|exact iW λ_ _ _=>rfl|exact iV λ_ _ _ _=>rfl|exact iU λ_ _ _ _ _=>rfl|exact iT λ_ _ _ _ _ _=>rfl|exact iS λ_ _ _ _ _ _ _=>rfl):A8 g w b mg base k x ps sp:=
 let(f,fd,a,e,F):=D;(f,fd,ok f fd a F,He Z.X Z.G e,F.kp,i f fd a F)
def DK.ok(Z:Zt d w a mg base h)(c:Io a x C)(D:DK a C m q b)(ok:∀f fd,Ag a m q b f fd->AV d w a mg base AZ k f fd ps sp)(g:∀f fd,Ag a m q b f fd->Binds a fd ps []:=by intro _ _ F;refine F.binds λ_ _ _ _ _ _=>?_;first|exact iY λ_=>rfl|exact iX λ_ _=>rfl|exact iW λ_ _ _=>rfl|exact iV λ_ _ _ _=>rfl|exact iU λ_ _ _ _ _=>rfl|exact iT λ_ _ _ _ _ _=>rfl|exact iS λ_ _ _ _ _ _ _=>rfl):A6 d w a mg base k C m ps sp:=
 let(f,fd,e,i,F):=D;(c.cl,f,fd,ok f fd F,(e,i,F.kp),g f fd F)
def RD.ok(Z:Zt j w a mg base h)(c:Io a x C)(D:RD a C m q d g)(ok:∀f fd b,G0 a m q d f fd b g->AV j w a mg base AZ k f fd ps sp)(l:∀f fd b,G0 a m q d f fd b g->Binds a fd ps []:=by intro _ _ _ F;refine F.binds λ_ _ _ _ _ _=>?_;first|exact iY λ_=>rfl|exact iX λ_ _=>rfl|exact iW λ_ _ _=>rfl|exact iV λ_ _ _ _=>rfl|exact iU λ_ _ _ _ _=>rfl|exact iT λ_ _ _ _ _ _=>rfl|exact iS λ_ _ _ _ _ _ _=>rfl):A6 j w a mg base k C m ps sp:=
 let(f,fd,b,e,i,F):=D;(c.cl,f,fd,ok f fd b F,(e,i,F.kp),l f fd b F)
def DK.make(Z:Zt d w a mg base h)(c:Io a x C)(D:DK a C "__init__" q b)(ok:∀f fd,Ag a "__init__" q b f fd->AV d w a mg base AZ k f fd ps sp)(g:∀f fd,Ag a "__init__" q b f fd->Binds a fd ps []:=by intro _ _ F;refine F.binds λ_ _ _ _ _ _=>?_;first|exact iY λ_=>rfl|exact iX λ_ _=>rfl|exact iW λ_ _ _=>rfl|exact iV λ_ _ _ _=>rfl|exact iU λ_ _ _ _ _=>rfl|exact iT λ_ _ _ _ _ _=>rfl|exact iS λ_ _ _ _ _ _ _=>rfl):FX d w a mg base k x C ps sp:=
 let(f,fd,e,i,F):=D;(f,fd,ok f fd F,(c.makes,e,i,c.keep),He Z.X Z.G c.ns,g f fd F)
def BD.at(D:BD a x b):∃f,Dz a DG x=AA (AA (.ref f)):=let(f,_,e,_):=D;(f,e)
def _root_.L3.A8.up(h:A8 b w c mg base j x ps sp)(a:j<=k:=by decide):A8 b w c mg base k x ps sp:=h.mono a
def _root_.L3.A6.up(h:A6 b w c mg base j C x ps sp)(a:j<=k:=by decide):A6 b w c mg base k C x ps sp:=h.mono a
def _root_.L3.FX.up(h:FX b w c mg base j x C ps sp)(a:j<=k:=by decide):FX b w c mg base k x C ps sp:=h.mono a
def _root_.L3.A8.act(h:A8 g w i mg base j x ps (DM c PL PF n))(e:j<=8:=by decide)(d:n≠0:=by decide):A8 g w i mg base 8 x ps (Hs c PL PF n):=let(f,fd,a,b):=h.mono e;(f,fd,a.imp (sB d),b)
def G0.binds(e:G0 d x q a f fd l m)(h:∀(kV doc pm:AI) (b:Option AD) (c ct:AI) (us:List AI),us.length=ps.length->LP (Jm x q (K3 a) (Ig a) (FW a) .none kV doc pm b c ct) (us,[])=pure (ps.zip us)):Binds d fd ps []:=by
 obtain⟨j,i,kV,doc,pm,b,ct,g,rfl,lk,k⟩:=e.ex;exact .all (h kV doc pm b _ ct)
def TopK.dL(T:TopK b w a c PL PF g e f d i fs)(Z:Zt b w a mg base h):Dx a mg c.L:=(T.Ii.cl,T.Yi,T.Yk,T.Yl,T.Yo,T.Ym,T.Yn,T.Yj,(Bl.gi Z.X Z.G T.Qh),(C8 Z.X Z.G T.Q3),(C8 Z.X Z.G T.IG),(C8 Z.X Z.G T.C2),(C8 Z.X Z.G T.Df))
def TopK.eg(T:TopK a w b c PL PF g e f d i fs)(Z:Zt a w b mg base h):HU mg:=((Bl.gi Z.X Z.G T.Qm),(Bl.gi Z.X Z.G T.Qo),(Bl.gi Z.X Z.G T.Nw),(Bl.gi Z.X Z.G T.Nv),(Bl.gi Z.X Z.G T.ME),(Bl.gi Z.X Z.G T.Qi),(Bl.gi Z.X Z.G T.MF),(Bl.gi Z.X Z.G T.MG),(Bl.gi Z.X Z.G T.Qs),(C8 Z.X Z.G T.C2),(C8 Z.X Z.G T.Df))
def TopK.fV(T:TopK a w b c PL PF g e f d i fs)(Z:Zt a w b mg base h):JQ mg:=((C8 Z.X Z.G T.GJ),(C8 Z.X Z.G T.C2),(C8 Z.X Z.G T.Df),(C8 Z.X Z.G T.Gx),(C8 Z.X Z.G T.Gy))
def TopK.j6(T:TopK a w b c PL PF g e f d i fs)(Z:Zt a w b mg base h):VJ mg:=((C8 Z.X Z.G T.Gx),(C8 Z.X Z.G T.K6),(C8 Z.X Z.G T.C2),(C8 Z.X Z.G T.Df))
def TopK.gN(T:TopK b w a c PL PF g e f d i fs)(Z:Zt b w a mg base h):K9 a c.F:=(T.MM.cl,T.Yp,T.Yq)
def TopK.j7(T:TopK a w b c PL PF g e f d i fs)(Z:Zt a w b mg base h):VL mg:=((C8 Z.X Z.G T.Df),(C8 Z.X Z.G T.Qz),(C8 Z.X Z.G T.Gy),(C8 Z.X Z.G T.C2))
def TopK.iE(T:TopK b w a c PL PF g e f d i fs)(Z:Zt b w a mg base h):N8 a c.D:=(T.N0.cl,T.Ys,T.Yt,T.Yr)
def TopK.d9(T:TopK b w a c PL PF g e f d i fs)(Z:Zt b w a mg base h):GL a mg c.K:=(T.ML.cl,T.Yf,T.Ye,(C8 Z.X Z.G T.IG),(C8 Z.X Z.G T.GJ),(C8 Z.X Z.G T.C2),(C8 Z.X Z.G T.Df))
def TopK.dE(T:TopK b w a c PL PF g e f d i fs)(Z:Zt b w a mg base h):DO a mg c.W:=(T.IE.cl,T.Yb,T.Yd,T.Yc,T.YZ,T.YY,T.Ya,(Bl.gi Z.X Z.G T.Qu),(C8 Z.X Z.G T.Df),(C8 Z.X Z.G T.HR),(C8 Z.X Z.G T.C2))
def TopK.fv(T:TopK b w a c PL PF g e f d i fs)(Z:Zt b w a mg base h):J0 a mg c.T:=(T.K5.cl,T.Yg,T.Yh,(C8 Z.X Z.G T.Df),(C8 Z.X Z.G T.HR))
def TopK.fN(T:TopK a w b c PL PF g e f d i fs)(Z:Zt a w b mg base h):Ij mg:=((C8 Z.X Z.G T.IG),(C8 Z.X Z.G T.GJ),(C8 Z.X Z.G T.C2),(C8 Z.X Z.G T.Qy),(C8 Z.X Z.G T.Df),(C8 Z.X Z.G T.Gx),(C8 Z.X Z.G T.K6),(C8 Z.X Z.G T.Q0),(C8 Z.X Z.G T.Gy),(Bl.gi Z.X Z.G T.Qq),(Bl.gi Z.X Z.G T.Ql),(Bl.gi Z.X Z.G T.Qj),(Bl.gi Z.X Z.G T.Qe),(Bl.gi Z.X Z.G T.Qc),(Bl.gi Z.X Z.G T.Qg),(Bl.gi Z.X Z.G T.Qw),(Bl.gi Z.X Z.G T.Qk))
def TopK.df(T:TopK a w b c PL PF g e f d i fs)(Z:Zt a w b mg base h):EY mg:=((Bl.gi Z.X Z.G T.Qt),(Bl.gi Z.X Z.G T.Qp),(Bl.gi Z.X Z.G T.Qn),(Bl.gi Z.X Z.G T.Qr),(C8 Z.X Z.G T.C2),(C8 Z.X Z.G T.HR),(C8 Z.X Z.G T.JO),(C8 Z.X Z.G T.Gy),(C8 Z.X Z.G T.Gx),(C8 Z.X Z.G T.Df))
def TopK.gM(T:TopK b w d c PL PF j g i f k fs)(Z:Zt b w d mg base h):K8 b w d mg j g i f:=
 (⟨let(a,vs,e,r):=T.Jx;(a,vs,He Z.X Z.G e,r)⟩,⟨let(a,vs,e,r):=T.MJ;(a,vs,He Z.X Z.G e,r)⟩,⟨let(a,vs,e,r):=T.K4;(a,vs,He Z.X Z.G e,r)⟩,T.TC,T.S0,T.TB,T.S6,He Z.X Z.G T.XJ,T.S9,Bl.gi Z.X Z.G T.Qv,(C8 Z.X Z.G T.JO),(C8 Z.X Z.G T.N5),(C8 Z.X Z.G T.C2))
def TopK.zO(T:TopK q w i c PL PF fr fj fq fe e9 fs)(X:i.In h)(G:h.Ns DG mg)(B:BMain mg base):∀f fd,Ag i "answers" "answers" QV f fd->AV q w i mg base AZ 10 f fd ["calls"] (Ku c i PL PF):=by
 intro fy fx fb;have Z:Zt q w i mg base h:=(X,G);have d:=T.dL Z;have k:=T.eg Z;have m:=T.fV Z;have a5:=T.j6 Z;have r:=T.gN Z;have a6:=T.j7 Z;have u:=T.iE Z;have j:=T.d9 Z;have b:=T.dE Z;have o:=T.fv Z;have l:=T.fN Z;have g:=T.df Z;have gM:=T.gM Z;have el:=T.MZ.ok Z λ_ _ F=>vP F;have en:=T.Rb.ok Z λ_ _ F=>vS F gM el;have e4:=T.Rn.ok Z λ_ _ F=>v3 F gM en;have ey:=T.Rk.ok Z λ_ _ F=>vt F gM;have c2:=T.RR.ok Z λ_ _ F=>uX F gM;have dp:=T.RT.ok Z λ_ _ F=>u5 F g b d e4 ey.up c2.up;have cd:=DK.make Z T.IE T.za λ_ _ F=>uT F b;have dn:=T.RS.ok Z λ_ _ F=>ur F gM;have aj:=DK.make Z T.N0 T.zf λ_ _ F=>vg F u;have b6:=T.zW.ok Z T.N0 λ_ _ F=>vR F u;have b7:=T.zX.ok Z T.N0 λ_ _ F=>vh F u;have E:=T.Zw.ok Z T.Ii λ_ _ F=>uq F d;have I:=T.KC.ok Z λ_ _ F=>ub F d E;have ce:=DK.make Z T.ML T.zb λ_ _ F=>uY F j;have C:=T.Zp.ok Z T.ML λ_ _ F=>vx F j;have b1:=T.Zn.ok Z T.ML λ_ _ F=>vV F j;have b2:=T.Zo.ok Z T.ML λ_ _ F=>vZ F j I;have es:=T.OE.ok Z λ_ _ F=>uw F m d;have Y:=T.Z9.ok Z T.MM λ_ _ F=>vF F r d;have p:=T.Zy.ok Z T.Ii λ_ _ F=>vQ F d;have U:=T.Z4.ok Z T.MM λ_ _ F=>ut (λz=>T.cs.ne.2.1.2.1 z.symm) F r d p es;have ci:=DK.make Z T.MM T.ze λ_ _ F=>vc (λz=>T.cs.ne.2.1.2.1 z.symm) F r d U;have b5:=T.zV.ok (sp:=(Na c.L c.F PF)) Z T.MM λ_ _ _ F=>vb F a6 r d B Y;have t:=T.Im.ok Z λ_ _ F=>uU F g;have a1:=T.LH.ok Z λ_ _ F=>v6 F;have J:=T.KD.ok (sp:=(Ks c.L PL)) Z λ_ _ _ F=>vL F m d B p;have s:=T.Zx.ok Z T.Ii λ_ _ F=>vG F d;have S:=T.Zz.ok Z T.Ii λ_ _ F=>vX F d p;have ez:=T.Rl.ok Z λ_ _ F=>vw F m d s.up S E.up;have c0:=T.RO.ok Z λ_ _ F=>uV F a5 ez;have c7:=T.Vc.ok (sp:=(DM c PL PF 2)) Z λ_ _ F=>ug F g b J.up t.up c0;have d4:=T.RV.ok Z λ_ _ F=>u7 F m;have c8:=T.Vd.ok (sp:=(DM c PL PF 3)) Z λ_ _ F=>uh F g b J.up t.up d4.up;have d5:=T.RX.ok Z λ_ _ F=>u8 F m d;have eu:=T.Vq.ok (sp:=(DM c PL PF 4)) Z λ_ _ F=>vm F g b d5.up;have ew:=T.Rj.ok Z λ_ _ F=>vo F m;have c4:=T.VZ.ok (sp:=(DM c PL PF 5)) Z λ_ _ F=>ud F g b J.up t.up ew.up;have H:=T.Z0.ok Z T.Ii λ_ _ F=>vj F d;have c1:=T.RQ.ok Z λ_ _ F=>uW F m d p.up H.up;have dd:=T.Vf.ok (sp:=(DM c PL PF 19)) Z λ_ _ F=>uj F g b c1.up;have N:=T.Zk.ok Z T.IE λ_ _ F=>vf F b d;have y:=T.Zh.ok Z T.IE λ_ _ F=>vD F b N b6;have dm:=T.Vg.ok (sp:=(DM c PL PF 18)) Z λ_ _ F=>uk F g b d a1.up y.up;have ej:=T.Vo.ok (sp:=(DM c PL PF 7)) Z λ_ _ F=>vK F g b r a1.up Y.up;have c9:=T.Ve.ok (sp:=(DM c PL PF 11)) Z λ_ _ F=>ui F g b j t.up;have v:=T.Zf.ok Z T.IE λ_ _ F=>uz F b j;have c6:=T.Vb.ok (sp:=(DM c PL PF 13)) Z λ_ _ F=>uf F g b j v.up;have c5:=T.Va.ok (sp:=(DM c PL PF 17)) Z λ_ _ F=>ue F g b C.up;have M:=T.Zi.ok Z T.IE λ_ _ F=>v7 F b N b7;have A:=T.Zj.ok Z T.IE λ_ _ F=>vY F b j;have b0:=T.Zm.ok Z T.IE λ_ _ F=>v8 T.cs F b ce;have ef:=T.Vm.ok (sp:=(DM c PL PF 9)) Z λ_ _ F=>vI F g b p.up M.up A.up b0.up;have bm:=T.Zg.ok Z T.IE λ_ _ F=>vB T.cs F b b2;have eb:=T.Vl.ok (sp:=(DM c PL PF 12)) Z λ_ _ F=>vC F g b bm.up;have d2:=T.Vk.ok (sp:=(DM c PL PF 14)) Z λ_ _ F=>u4 T.cs F g b;have ei:=T.Vn.ok (sp:=(DM c PL PF 6)) Z λ_ _ F=>vJ T.cs F g b ci.up;have ab:=DK.make Z T.K5 T.zc λ_ _ F=>ua T.cs F o b;have O:=T.Zr.ok Z T.K5 λ_ _ F=>vH F o b M b1.up;have e2:=T.Rm.ok Z λ_ _ F=>uc F l d I s.up H.up;have D:=T.Zq.ok Z T.K5 λ_ _ F=>uo F o C;have d6:=T.RY.ok Z λ_ _ F=>u9 F l o e2 D.up;have e3:=T.OG.ok Z λ_ _ F=>v2 F l;have ea:=T.RZ.ok Z λ_ _ F=>vA F l d;have b3:=T.Zu.ok Z T.K5 λ_ _ F=>vq F o b d y;have Q:=T.Zs.ok Z T.K5 λ_ _ F=>vp F o C;have ec:=T.Ra.ok Z λ_ _ F=>vE F b e3.up ea.up b3 Q.up D.up;have eq:=T.Rg.ok Z λ_ _ F=>vd T.cs F l b j ab.up O.up d6.up ec.up;have an:=T.MY.ok Z λ_ _ F=>ul T.cs F b j eq;have dx:=T.Vi.ok (sp:=(DM c PL PF 10)) Z λ_ _ F=>uv F g b an v.up;have d1:=T.Vj.ok (sp:=(DM c PL PF 15)) Z λ_ _ F=>ux F g b d j an v.up;have cm:=T.RK.ok Z λ_ _ F=>uQ F l b H.up D;have cr:=T.RN.ok Z λ_ _ F=>uS F l b p.up y Q;have cp:=T.RM.ok Z λ_ _ F=>uO T.cs F l b j ab.up O.up cm.up cr.up I.up;have c3:=T.VY.ok (sp:=(DM c PL PF 16)) Z λ_ _ F=>uZ T.cs F g b j cp.up;have ds:=T.Vh.ok (sp:=(DM c PL PF 1)) Z λ_ _ F=>uu F g b d A.up aj.up;have R:=T.Zv.ok Z T.Ii λ_ _ F=>um F d s.up S E.up;have b4:=T.Z3.ok Z T.Ii λ_ _ F=>vO F d s.up R;have ev:=T.OF.ok (sp:=(DM c PL PF 8)) Z λ_ _ F=>vn T.cs F g b d A.up b5.up b4.up U.up;have a0:=T.Mb.ok Z λ_ _ F=>vy F k;have av:=T.Ma.ok Z λ_ _ F=>vT F k;have eo:=T.Rc.ok Z λ_ _ F=>vU F k a0 av;have L:=T.KG.ok Z λ_ _ F=>vv F k eo;have ep:=T.Rf.ok Z λ_ _ F=>vW F k a0 av;have co:=T.RL.ok Z λ_ _ F=>uR F k L ep.up;have ck:=T.RJ.ok Z λ_ _ F=>uP F k L.up co;have et:=T.Ri.ok Z λ_ _ F=>vi F k;have er:=T.Rh.ok Z λ_ _ F=>ve F k;have cg:=DK.make Z T.Ii T.zd λ_ _ F=>vN F d R;have d3:=T.RU.ok Z λ_ _ F=>u6 F k L.up et.up er.up cg;have bs:=T.Zl.ok Z T.IE λ_ _ F=>vz F b aj;have ek:=T.Vp.ok (sp:=(Hs c PL PF 0)) Z λ_ _ F=>vM T.cs F b d ck.up d3.up bs.up;have e7:∀(n:Nat) (f:AD),fs[n]? =AA f->∃fd,AV q w i mg base AZ 8 f fd ["world","given"] (Hs c PL PF n)/\G9 i (.ref f)=AC/\Binds i fd ["world","given"] []:=by
  intro n f a;rw[T.Qx]at a;have key:∀(x:Str) (n:Nat),A8 q w i mg base 8 x ["world","given"] (Hs c PL PF n)->∀f,(match Dz i DG x with |some (AA (.ref f))=>f| _=>0)=f->(∃a2,Dz i DG x=AA (AA (.ref a2)))->∃fd,AV q w i mg base AZ 8 f fd ["world","given"] (Hs c PL PF n)/\G9 i (.ref f)=AC/\Binds i fd ["world","given"] []:=by
   intro x n (f1,e8,e6,k2,k3,k4) f e (a2,a4);have a3:=He X G a4;rw[k2]at a3;cases a3;rw[a4]at e;subst e;exact(e8,e6,k3,k4)
  match n,a with
  | 0,a=>exact key _ _ ek.up f (Ap a) T.Vp.at
  | 1,a=>exact key _ _ ds.act f (Ap a) T.Vh.at
  | 2,a=>exact key _ _ c7.act f (Ap a) T.Vc.at
  | 3,a=>exact key _ _ c8.act f (Ap a) T.Vd.at
  | 4,a=>exact key _ _ eu.act f (Ap a) T.Vq.at
  | 5,a=>exact key _ _ c4.act f (Ap a) T.VZ.at
  | 6,a=>exact key _ _ ei.act f (Ap a) T.Vn.at
  | 7,a=>exact key _ _ ej.act f (Ap a) T.Vo.at
  | 8,a=>exact key _ _ ev.act f (Ap a) T.OF.at
  | 9,a=>exact key _ _ ef.act f (Ap a) T.Vm.at
  | 10,a=>exact key _ _ dx.act f (Ap a) T.Vi.at
  | 11,a=>exact key _ _ c9.act f (Ap a) T.Ve.at
  | 12,a=>exact key _ _ eb.act f (Ap a) T.Vl.at
  | 13,a=>exact key _ _ c6.act f (Ap a) T.Vb.at
  | 14,a=>exact key _ _ d2.act f (Ap a) T.Vk.at
  | 15,a=>exact key _ _ d1.act f (Ap a) T.Vj.at
  | 16,a=>exact key _ _ c3.act f (Ap a) T.VY.at
  | 17,a=>exact key _ _ c5.act f (Ap a) T.Va.at
  | 18,a=>exact key _ _ dm.act f (Ap a) T.Vg.at
  | 19,a=>exact key _ _ dd.act f (Ap a) T.Vf.at
  |n+20,a=>simp at a
 have bl:VM q w i mg base c PL PF e9:=(He X G T.Pa,fs,by erw[T.Qx];rfl,T.TD,e7);have e5:=T.Ro.ok (sp:=(Ng c PL PF)) Z λ_ _ F=>v5 F bl dp.up;exact v4 fb g cd.up dn.up e5
end RW
end
section
namespace RW
open PySem PySem.Spec PyProof.Rows L2 L3
open PySem.W (WData Codec OpenSpec Well WellAll ReadsW ReadsAllW)
def yw{l:List Int}(X:f.In a.heap)(aj:a.heap.Ns DG mg)(E:a.heap.Ns Mt mb)(c9:∀x:Str,x≠"__name__"->mb x=Fm x)(c3:a.heap.NoLimit)(c6:a.gens= #[])(ci:WellAll w.params a.heap a6 [.list (l.map WData.int)])(c2:l.length<=Ae)(cp:DX k callerA)(c1:PL≠PF)(G:a.heap.get? PL=AA (Jk #[]))(I:a.heap.get? PF=AA (Jk #[]))(an:f.lookup PL=AB)(av:f.lookup PF=AB)(eq:isCodeTable a.heap PL)(er:isCodeTable a.heap PF)(c7:BMain mg a.heap)(ek:∀base:BI,f.In base->base.Ns DG mg->BMain mg base->AV O w f mg base AZ k fa fd ps sp)(c8:∀(s:AO) (us:List AI),us.length=ps.length->BindsTo s fd (us,[]) (ps.zip us))(c4:1=ps.length)(cm:∀(c H:Hp) (p:AD),AH c H->H PL=AA (.aY #[])->H PF=AA (.aY #[])->AN f c p (l.map V.int)->sp [.ref p] H (λv a5=>Dw f a5 v d0) λ_ _ _=>False):
  IS (AU O w) callerA (.call (.ref fa) (a6,[])) (λr g=>∃u as,r=.ok (.ret u)/\ReadsW R cl g.heap u d0 as/\OldK a.heap g.heap/\g.os=a.os/\Kg g.gens) a:=by
 obtain⟨t,c,dn,cr,dm,rfl,ds,ck⟩:=zL (P:=O) (w:=w) X ci c2;have dd:Vals [V.ref t] [.ref t]:=.cons rfl .nil;have L:∀{b:AD} {o:Obj},a.heap.get? b=AA o->(∀vs n,o.data≠.seq vs n)->c b=AB:=λ{b o} e d=>by
  cases q:c b with
  |none=>rfl
  |some u=>
   have(en,vs,n,M,d5):=ck b u q;rw[e]at M;cases M;exact absurd d5 (d _ _)
 have b7:c PL=AB:=L G λvs n z=>nomatch z;have ca:c PF=AB:=L I λvs n z=>nomatch z;have bs:∀{b:AD} {o:Obj} {i:Array Ka} {j:Nat},a.heap.get? b=AA o->o.data=.dict i j->c b=AB:=λ{b o i j} e d=>L e λvs n z=>by rw[d]at z;cases z
 have C:AH c (L2.upd (L2.upd c PL (.aY #[])) PF (.aY #[])):=λb o e=>by erw[aC (aT e ca),aC (aT e b7)];exact e
 have a2:L2.upd (L2.upd c PL (.aY #[])) PF (.aY #[]) PL=AA (.aY #[]):=by erw[aC c1,aB]
 have a3:L2.upd (L2.upd c PL (.aY #[])) PF (.aY #[]) PF=AA (.aY #[]):=aB;have y:∀b u,L2.upd (L2.upd c PL (.aY #[])) PF (.aY #[]) b=AA u->(b=PL\/b=PF)/\u=.aY #[]\/c b=AA u:=λb u e=>by
  by_cases z:b=PF;rw[z,aB]at e;cases e;exact .inl (.inr z,rfl);rw[aC z]at e;by_cases B:b=PL;rw[B,aB]at e;cases e;exact .inl (.inl B,rfl);rw[aC B]at e;exact .inr e
 generalize eo:L2.upd (L2.upd c PL (.aY #[])) PF (.aY #[])=H at C a2 a3 y;have ab:Di O w H a.heap:=λb u e=>by
  rcases y b u e with⟨z,rfl⟩ |h;rcases z with rfl|rfl;exact G;exact I;exact(cr b u h).stay (λ_ _ _ r=>r) (λd r=>C _ _ r) λd xs r=>C _ _ r
 have dx:∀b u,H b=AA u->f.lookup b=AB:=λb u e=>by
  rcases y b u e with⟨z,_⟩ |h;rcases z with rfl|rfl;exact an;exact av;exact ds b u h
 have b0:∀{b:AD} {o:Obj} {i:Array Ka} {j:Nat},a.heap.get? b=AA o->o.data=.dict i j->H b=AB:=λ{b o i j} e d=>by
  cases q:H b with
  |none=>rfl
  |some u=>
   rcases y b u q with⟨z,_⟩ |h;rcases z with rfl|rfl;rw[G]at e;cases e;cases d;rw[I]at e;cases e;cases d;rw[bs e d]at h;cases h
 have U:∀{b:AD} {o:Obj},a.heap.get? b=AA o->H b=AB->(IA a.heap H).get? b=AA o:=λe n=>xa e n;have J:∀{b:AD} {m:Str->Option AI},a.heap.Ns b m->(IA a.heap H).Ns b m:=λ{b m} (o,i,j,e,d,r)=>(o,i,j,U e (b0 e d),d,r);have nK:∀b o,f.lookup b=AA o->H b=AB:=λb o e=>by
  cases q:H b with
  |none=>rfl
  |some u=>
   rw[dx b u q]at e;cases e
 have a1:f.In (IA a.heap H):=λb o e=>U (X b o e) (nK b o e);have d1:BMain mg (IA a.heap H):=by
  have(T,Q,ei,ef,A,ec,ea,N):=c7;refine(T,Q,ei,ef,U A ?_,ec,ea,N);cases q:H T with
  |none=>rfl
  |some u=>
   rcases y T u q with⟨z,_⟩ |h;rcases z with rfl|rfl;rw[G]at A;cases A;cases N;rw[I]at A;cases A;cases N;rw[L A λvs n z=>by rw[N]at z;cases z]at h;cases h
 have dp:Mod f mg (IA a.heap H):=(a1,J aj,(mb,J E,c9),let(cg,d3,d2):=c3;(cg,J d3,d2));have d6:J8 O w f mg (IA a.heap H) callerA [] a H:=(rfl,dp,λb o e=>wB e,LY (xZ _ _),trivial,λb E=>absurd (show b∈([]:List AD) from E) (by simp),ab,.of_eq c6);have c5:[Bf t].length=ps.length:=c4;refine OT ((ek _ a1 (J aj) d1).run callerA [] a H ([.ref t],[]) [.ref t] [V.ref t] _ _ cp d6 (c8 a [.ref t] c5) dd (cm c H _ C a2 a3 dm)) λr g x=>?_;cases r with
 |error e=>exact x.elim
 |ok fl=>
  cases fl with
  |next=>exact GA x
  |brk=>exact GA x
  |cont=>exact GA x
  |ret u=>
   have(v,a5,os,bare,un,S,r',q):=x;have kept:∀b o,a.heap.get? b=AA o->b≠PL->b≠PF->g.heap.get? b=AA o:=λb o e ce cd=>by
    cases Z:H b with
    |none=>exact un.keep b o e Z (by intro z;exact absurd (show b∈([]:List AD) from z) (by simp)) (by simp)
    |some bl=>
     rcases y b bl Z with⟨z,_⟩ |h;rcases z with z|z;exact absurd z ce;exact absurd z cd;rcases dn b with z| ⟨Q,el,z⟩;rw[h]at z;cases z;have Y:=C _ _ z;have B:=un.HL b Q _ Y;have(a4,_):=ab b _ Y;have(M,_):=S b _ B;rw[e]at a4;cases a4;exact M
   have grown:∀b,(b=PL\/b=PF)->∃more,g.heap.get? b=AA {cls:=.none,data:=.fields (#[] ++ more)}:=λb E=>by
    have d4:H b=AA (.aY #[]):=by rcases E with rfl|rfl<;>assumption
    have(more,D):=un.Hr b _ d4;exact(more,S b _ D)
   have ej:f.In g.heap:=λb o e=>kept b o (X b o e) (λz=>by rw[z,an]at e;cases e) (λz=>by rw[z,av]at e;cases e);have old:OldK a.heap g.heap:=by
    refine(λb o e=>?_,λb o e=>?_);by_cases z:b=PL\/b=PF;have(more,D):=grown b z;have c0:o=Jk #[]:=by
     rcases z with rfl|rfl;rw[G]at e;exact(Ap e).symm;rw[I]at e;exact(Ap e).symm
    subst c0;exact .inr (.inl (by rcases z with rfl|rfl<;>assumption,rfl,#[],more,rfl,D));exact .inl (kept b o e (λh=>z (.inl h)) (λh=>z (.inr h)));by_cases z:b=PL\/b=PF;have(more,D):=grown b z;exact(_,D);exact(o,kept b o e (λh=>z (.inl h)) (λh=>z (.inr h)))
   have(as,co):=Dw.reads (R:=R) (cl:=cl) S ej d0 v u q r';exact(u,as,rfl,co,old,os,bare)
def rR{t:Do->BI->Prop}{K:Params->Ao}{sp:Do->Sp}(L:Codec.denoteAll r.args->List Int)(hL:∀a,Codec.encAll r.args a=[.list ((L a).map WData.int)])(hLl:∀a,Codec.withinAll r.args a=AC->(L a).length<=Ae)(A:r.wellSaid=AC)(b3:d.params.defaults=[])(N:1=ps.length)(D:DX k callerA)(J:PL≠PF)(U:∀(w:Do) (h:BI),t w h->(K w.params).In h/\h.get? PL=AA (Jk #[])/\h.get? PF=AA (Jk #[]))(X:∀w:Do,(K w.params).lookup PL=AB/\(K w.params).lookup PF=AB/\(∃j,LS (K w.params) j PL=AC)/\∃j,LS (K w.params) j PF=AC)(a4:∀(w:Do) (mg:Str->Option AI) (fa:AD) (h:BI),(K w.params).In h->h.Ns DG mg->mg d.name=AA (.ref fa)->
   ∃fd:IU,(∀(s:AO) (us:List AI),us.length=ps.length->BindsTo s fd (us,[]) (ps.zip us))/\
    ∀base:BI,(K w.params).In base->base.Ns DG mg->BMain mg base->AV r.prog w (K w.params) mg base AZ k fa fd ps (sp w))(B:∀(w:Do) (c H:Hp) (p:AD) (a:Codec.denoteAll r.args),AH c H->H PL=AA (.aY #[])->H PF=AA (.aY #[])->Codec.withinAll r.args a=AC->Codec.app r.args r.asked a=AC->AN (K w.params) c p ((L a).map V.int)->
   sp w [.ref p] H (λv a3=>Dw (K w.params) a3 v (r.ret.enc (Codec.app r.args r.f a))) λ_ _ _=>False):
  PySem.W.WalkOS q bm cg t r d [] (λf vs=>PySem.call f vs):=by
 intro w Es a6 mg mb G Y fa o pm b7 doc b6 kV b0 hd b4 b5 M Q args a5 as I b2 bs n b1;have(a,a1,a0):=PySem.W.os_pre_some I;have(av,e):=Codec.encAll_of_decAll r.args args a a1;subst av;rw[hL]at n;have(b,l,m):=U w _ Y;have(x,y,(ce,i),ca,g):=X w;have(fd,T,ab):=a4 w mg fa _ b G.T.g M;refine PySem.W.enter_call (OT (yw (R:=[]) (cl:=classAt Es.heap) (d0:=r.ret.enc (Codec.app r.args r.f a)) b G.T.g G.T.b G.T.builtins G.T.nolimit Q n (hLl a e) D J l m x y
  ((SD b i).tab l).isCodeTable ((SD b g).tab m).isCodeTable G.T.bmain ab T N
  (λc H p C O S Z=>B w c H p a C O S e a0 Z)) λr' bl E=>?_);obtain⟨u,a2,rfl,i,g,an,aj⟩:=E;exact(.inl (u,_,a2,rfl,λ_=>rfl,i,(OpenSpec.post_iff A e _ _).mpr rfl,λz=>Bool.noConfusion (show AF=AC from z)),g,an,aj)
end RW
end
section
namespace RW
open PySem PySem.Spec PyProof.Rows L2 L3 PySem.Challenge
open PySem.W (WData Codec OpenSpec)
def x9(T:TopK i w a c PL PF p n o m u fs)(X:a.In h)(G:h.Ns DG mg)(g:mg "answers"=AA (.ref fa)):
  ∃fd:IU,(∀(s:AO) (us:List AI),us.length=(["calls"]:List Str).length->BindsTo s fd (us,[]) ((["calls"]:List Str).zip us))/\∀base:BI,a.In base->base.Ns DG mg->BMain mg base->AV i w a mg base AZ 10 fa fd ["calls"] (Ku c a PL PF):=by
 have(f,fd,e,F):=T.zk;have b:=He X G e;rw[g]at b;cases b;refine(fd,?_,λbase r q B=>T.zO X G B _ _ F);intro s us d;obtain⟨l,k,kV,doc,pm,v,t,ct,j,rfl,_⟩:=F.ex
 match us,d with
 | [_],_=>exact .of_eq rfl
def qC(a:Codec.denoteAll Iw.args)(hw:Codec.withinAll Iw.args a=AC):a.1.length<=15800:=by
 have b:=(DN _ _).mp hw;have k2:=(DN _ _).mp b.1;exact(Codec.inNat_iff.mp (show Codec.inNat 0 15800 a.1.length=AC from k2.1)).2
def x8(f H:Hp)(p:AD)(a:Codec.denoteAll Iw.args)(g:AH f H)(k:H 458=AA (.aY #[]))(m:H 44=AA (.aY #[]))(hw:Codec.withinAll Iw.args a=AC)(r:Codec.app Iw.args Iw.asked a=AC)(h:AN b f p (a.1.map V.int)):
  Ku c b 458 44 [.ref p] H (λv d=>Dw b d v (Iw.ret.enc (Codec.app Iw.args Iw.f a))) λ_ _ _=>False:=by
 have j:=qC a hw;have(l,u):=a;have o:Rt l=AC:=r;have(cs,s,w,t,n,i,_):=zN o;refine(_,l,cs,rfl,g.seq h,s,j,(.inl k,.inl m,by decide),i,λq d _ _ e=>?_);show Dw b d (.ref q) (.list ((OI l).map WData.int));erw[n];exact(q,_,rfl,rfl,AN.of e)
end RW
end
end
open PySem PySem.W PyProof.Rows
theorem PySem.Challenge.cw_roughways_s01_answers_holds : PySem.Challenge.rw_roughways_s01_answers.Holds := by
 obtain⟨G,hG,q,loose,XP,YP,d,K,rfl,hdf,hn,hY,hT,hK⟩:=RW.hd
 refine hG (RW.rR (L:=λa=>a.1) (hL:=λ_=>rfl) (hLl:=λa h=>RW.aN (Dj (RW.qC a h) (by decide))) (r:=Iw) (k:=10) (K:=K) (ps:=["calls"]) (sp:=λw=>RW.Ku ⟨570,384,212,57,261,177⟩ (K w.params) 458 44) (PL:=458) (PF:=44) (by decide +kernel) hdf rfl ⟨rfl,by decide,by decide⟩ (by decide) hY hT (λw mg fa h KX G hmg=>RW.x9 (hK w) KX G (hn▸hmg)) (λw H0 H p a hs hl hf hw ha hd=>RW.x8 H0 H p a hs hl hf hw ha hd))
