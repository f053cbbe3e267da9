import PyProof.Rows.All
import Wide.All
import OpenK.AllK
import Wide.FinOn
import Lean
import PyProof.EqAt
import PyProof.EqKinds
import PyProof.TupleCall
import PySem.Challenge.RW_blockdeal_k29_grown_kept_moved
open PySem.Str renaming ofString->aa,empty->iq,length->km
open PySem renaming wpAny_bind->ae,PyData->af,Value->ah,wpAny_pure->aj,Addr->ak,Shared->au,Program->aI,Heap->aS,Expr->aT,World->aU,Around->bw,wpAny_truthy_bool->bz,wpAny_holding->bU,FuncData->cK,wpAny_field->cL,wpAny_mono->cT,wpAny_newObj_type->cZ,Stmt->dg,DictEntry->dw,wpAny_standAt->dA,wpAny_callSpecial?_slot->dG,wpAny_call_entry->dW,Paired->eh,NameKind->er,wpAny_seqItems->eu,wpAny_setField_rec->eD,wpAny_passesOwn->eI,wpAny_rule->eP,mem_of_lookup->eS,OsState->eU,Scope->fc,wpAny_Call_Name_kw->fh,wpAny_execs_nil->fv,wpAny_pyIter_list->fD,Builtin->fM,wpAny_typeOf->fN,wpAny_comprehension_free->gi,codeAny_mono->gA,wpAny_attempt->g9,wpAny_newList->hG,wpAny_onRaise->hU,wpAny_updateSeq_pair->hV,wpAny_pyIter_tuple->iw,IsPart->iV,wpAny_execs_cons->i6,noFill_tuple_add->i7,codeAny_compStart_list->ky,IsPair->kB,codeAny_builtin->kJ,wpAny_isTrue_Compare1->kM,wpAny_bindName->kT,sizeLine_eq->kU,codeAny_call_builtin->lB,seq_tuple_add->lO,wpAny_call->lT,wpAny_assign_Name->l8,concat_meets->mj,wpAny_sequenceKey->mn,seqIndex_neg->mw,slot_list_getitem->my,codeAny_loop->mC,ExcName->mQ,PassesOwn->mV,Result->mX,wpAny_pyIter_zip->nt,wpAny_getItem_of->nv,CmpOp->nE,seqIndex_of->nF,wpAny_noted->nG,IsZip->nI,wpAny_letGo->nJ,wpAny_loadPart'->nQ,wpAny_specialOf->og,BindsTo->oh,wpAny_Name->oi,wpAny_Expr_any->oj,typeIs_str->oB,sliceRange_one->oC,Params->oE,ReadsAll->oG,repr_of_reads'->oH,wpAny_newTuple->oM,wpAny_setField->oQ,Model->rO,PyData->sv,Within->sy,Keyword->sJ,Value->t6,pick_run->uj,call->vT
open PySem.Heap renaming get?_push_of_some->aq,lt_size->aA,get?_push_size->aD,get?_push_ne->ck,size_update->cA,SameBut->dO,size_push->eY,get?_update_ne->fY,get?_update_other->ko,get?_update_self->kN,FlyingW->mG,ExtBut->uK
open List renaming getElem?_eq_some_iff->av,mem_cons->aw,size_toArray->ax,mem_singleton->az,mem_append->aB,getElem?_eq_getElem->aE,not_mem_nil->aJ,length_append->aK,length_map->aM,mem_map->aN,length_cons->aO,getElem?_set_ne->aQ,pairwise_iff_getElem->aR,mem_of_getElem?->aV,getElem_of_mem->aW,getElem?_map->aZ,getD_eq_getElem?_getD->bh,all_eq_true->bp,append_nil->bK,replicate->bM,mem_append_right->bN,replicate_succ->bQ,map_cons->bV,getElem?_eq_none->bX,pairwise_append->cn,getElem?_append_left->cq,drop_eq_getElem_cons->cu,getElem?_set_self->cw,length_nil->cx,pairwise_singleton->cE,mem_cons_of_mem->cF,getElem?_append_right->cG,mem_filter->cH,lookup_cons->cI,length_filter_le->cN,map_map->cQ,map_append->cR,mem_cons_self->cS,length_take->cU,getElem?_cons_succ->cV,cons_append->cW,filterMap_cons->df,nil_append->dm,getElem_mem->dz,mem_of_mem_take->dD,getElem?_replicate->dF,pairwise_map->dH,getElem?_cons_zero->dI,of_mem_zip->dJ,length->dP,length_drop->dU,map_snd_zip->dY,take_length->dZ,pairwise_cons->eE,nodup_cons->eJ,range->eO,replicate_zero->eV,getD_cons_succ->eW,getD_cons_zero->eX,take_succ->e8,mem_filterMap->fg,map_nil->fi,set_cons_succ->fq,set_cons_zero->ft,length_set->fw,find?_cons->fB,length_eq_zero_iff->gy,mem_range->gz,getElem?_set->gH,mapM_toArray->gM,take_of_length_le->gN,length_replicate->gT,drop_length->gU,all_toArray->gX,map_fst_zip->gY,filter_cons->gZ,forIn_cons->hW,map_congr_left->ia,zip_cons_cons->iC,append_assoc->iS,drop_sublist->iT,idxOf_lt_length_iff->iZ,any_eq_true->kc,take_eq_take_iff->kP,mem_append_left->kS,forIn_nil->lx,drop_zero->ly,mem_of_mem_drop->lA,getElem?_range->lI,mem_map_of_mem->lL,length_pos_iff->lM,filter_append->lZ,any_eq_false->mf,zip_nil_left->mi,map->mD,ext_getElem?->mH,flatten_cons->mL,perm_middle->m7,zipIdx_cons->nc,getElem_map->nB,zipIdx_nil->nY,length_zip->nZ,lt_irrefl->oS,idxOf->oV,take_nil->rn,drop_nil->rq,map_take->rM,lookup->uo,map_id->uJ,not_lt->uQ
open Nat renaming le_refl->ay,lt_of_lt_of_le->aC,ne_of_lt->aF,lt_or_ge->bE,le_trans->bY,lt_trichotomy->cM,zero_le->dQ,zero_add->fk,le_add_right->fP,testBit_succ->fQ,lt_irrefl->gf,mod_eq_zero_of_dvd->gP,dvd_of_mod_eq_zero->gQ,sub_self->gS,le_succ->iP,shiftLeft_eq->i9,testBit_zero->ka,mul_comm->kC,pow_succ->kE,testBit_and->kK,eq_of_testBit_eq->lz,eq_zero_or_pos->lW,le_of_lt->l7,ne_of_gt->ma,sub_zero->mJ,lt_succ_of_lt->mP,le_of_not_lt->m6,min_eq_left->n8,and_le_left->oa,mul_assoc->rD,le_total->sZ,log2_lt->ur,one_mul->uw
open Bool renaming and_eq_true->aG,false_eq_true->aH,false_ne_true->aY,and_eq_true_iff->ba,false_and->cf,true_and->cO,eq_iff_iff->dh,not_true->dS,not_false->eZ,and_true->gj,and_false->gO,not_eq_true'->iR,beq_eq_decide_eq->kO,or_eq_false_iff->kY,eq_false_iff->mS
open Option.some renaming inj->aL
open Iff renaming rfl->aP
open Int renaming dvd_of_emod_eq_zero->aX,le_refl->bf,one_mul->bP,pow_succ->bS,mul_le_mul_of_nonneg_left->cm,mul_comm->cD,mul_le_mul_of_nonneg_right->cJ,emod_eq_zero_of_dvd->cX,mul_assoc->dR,le_of_lt->eM,add_mul->eN,pow_add->fe,emod_lt_of_pos->fo,natCast_pow->fA,toNat_natCast->fF,natCast_zero->fR,mul_neg_of_pos_of_neg->fW,mul_ediv_cancel->fX,emod_nonneg->gq,lt_trichotomy->gJ,lt_or_le->ig,natCast_nonneg->iy,fdiv_eq_ediv_of_nonneg->iz,lt_of_mul_lt_mul_right->iI,lt_of_mul_lt_mul_left->iL,mul_one->iO,eq_ofNat_of_zero_le->i8,le_trans->kD,ediv_nonneg->kL,emod_add_mul_ediv->kQ,ediv_lt_of_lt_mul->kR,toNat_of_nonneg->lK,add_emod->mM,mul_emod_left->mO,sub_mul->nH,mul_add->nK,emod_two_eq->n9,dvd_trans->rC
open PySem.PyData renaming canLay0->bc,hasDict_of_canLay->bg,canLayAll0->bo,depthAll->bL,bool->bO,int->bR,eqv->cg,hasDict->cy,depth->cC,eqvAll->dB,str->eF,leavesShort->fj,leavesShortAll->fC,hasDictAll->fG,tuple->fS,showable->gn,showableAll->gr,shown->gG,weightAll->gW,weight->iX,none->kX,noDict_hsm->mF,dict->uA,list->uB
open PySem.W renaming boot_heap->bq,kia_one->bG,fnOf->c8,kitx_dict->eK,keepIn->gC,codeIn->gD,callWith_K->iA,methodObj->iN,cellsFrom_some->ki,boot_drawn->kF,instObj->kH,lookIn->kW,boot_toks->lE,hideAll_get->lF,of_hideAll->lR,kitx_tuple->lS,kitx_list->mh,looks_findIn->mT,plainGet->mW,hideAll->nN,findIn->oq,kitOne->ot,Looks->si,SharedT->tv
open PySem.Builtin.SmallTypes renaming nextOf->br,ownedTupleIsFree->cP,ownedTupleHandOut->fZ
open PySem.Value renaming type->bu,ref->b5,isStrOf->cY,bool->ee,str->ip,none->ir,builtin->iY,int->rN,isInt->t7,float->t8
open PySem.Builtin renaming bitXor->bH,bitNot->e9,bitAnd->fI
open PyProof.Rows renaming wpS_bind->bT,slot_tuple_getitem->bW,wpS_pure->c9,size_push'->dM,callWith_type1->fE,IntsAre->fL,listItems_at->fO,wpS_forRange->gK,Top->g6,AllBare->g8,assignInOrder_cons->iu,SortKind->iG,subscriptTail_builtinR->kj,pairsOf_size->kA,SortSt->kZ,wpS_reverse->k8,mirror_perm->lh,entry_tuple_getitem->lH,Keyed->lP,listUpdate_at->lQ,args_tuple_getitem->lV,IsTup->l5,assignInOrder_nil->l9,wpS_get->mI,callWith_builtin1->mY,get?_update_seq->nU,entry_list_sort->nW,oneTypeOnly'_eq->nX,slicePart_none->oz,Subscript_->oA,wpS_mono->oJ,wpS_modify->oK,slot_list_sort->oN,args_list_sort->oO,oneLt'_eq->rZ,wpS_lift->uD,lt_int->u6,lt_str->vm
open ForInStep renaming yield->bZ
open False renaming elim->cc
open PySem.NameKind renaming free->cj
open PySem.PassesOwn renaming never->cz
open Classical renaming choose_spec->cB,byContradiction->fU,choose->gV
open Or renaming inl->dE,inr->tq
open Array renaming length_toList->dN,perm_iff_toList_perm->fK,getElem?_eq_getElem->fV,toList->kg,toList_inj->m8,toList_map->m9
open Option renaming getD_some->dX,map_some->gp,isSome_iff_exists->iU,map_eq_some_iff->kG,getD_none->mZ,bind_some->nA
open PySem.Builtin.Slice renaming slicePlaces->eG,sliceAdjust->fT,sliceApplied->iE,slicePartIndex->nR,sliceFields->pf
open PySem.Builtin.Tuple renaming tupleExact->eQ,tupleItemsOf->iF,tupleCompareSizes->mU,tupleIsExact->oP,tupleHashOf->pE
open PySem.Obj renaming mapSeq->eR,data_mapFields->lY
open PySem.Builtin.Int renaming intBits->eT
open PySem.Calls renaming Name_function_global->fH,call_function_entry->iK,loadGlobal_global->i5,callWith_builtin->ku,call_len_list->lG
open PySem.F renaming excBase_ValueError->fJ,args_tuple_add_2->gh,entry_tuple_add->gu,plainAttrs_list->gv,slot_tuple_add->gE,args_tuple_iterator_next_1->hY,slot_zip_next->hZ,entry_tuple_iterator_next->ic,slot_tuple_iterator_next->iH,excAttr_ValueError->iJ,slot_dict_getitem->iM,slot_list_index->kb,args_zip_next_1->mK,entry_zip_next->nq
open List.Pairwise renaming imp_of_mem->gk,nil->wO,and->wU
open List.cons renaming injEq->gm
open Function renaming comp_def->gF
open PySem.Builtin.List renaming listItems->gL,listExtendWith->ib,listUpdate->rY
open PySem.W.RowW renaming records->gR
open Sum renaming inl->g7,inr->lC
open Prod renaming ext_iff->ik,ext->iD
open PySem.SeqAt.EqAt renaming int_int->iB,bool_bool->oU
open PySem.PyData.dict renaming injEq->iQ,inj->kI
open Prod.mk renaming injEq->iW,inj->uR
open Ne renaming symm->ke
open True renaming intro->kh
open And renaming intro->lD
open PySem.Heap.SameBut renaming update->lJ,refl->wQ
open PySem.Paired renaming length->lN
open PySem.SeqAt renaming EqAt->lU,list_indexAt->rH
open PySem.Code renaming quiet_builtin->lX
open PySem.PyData.list renaming injEq->mE
open PySem.Txt renaming slice->nu
open Array.Perm renaming refl->nV
open PySem.EqNone renaming eq_none_none->oW,eq_none_bool->oX,eq_bool_none->oY,ne_none_none->o6,ne_none_bool->o7,ne_bool_none->o8,eq_none_int->pM,eq_none_str->pN,eq_int_none->pO,eq_str_none->pQ,ne_none_int->pS,ne_none_str->pT,ne_int_none->pU,ne_str_none->pW
open PySem.EqMixed renaming eq_bool_str->oZ,eq_str_bool->o5,ne_bool_str->o9,ne_str_bool->pd,eq_int_str->pP,eq_str_int->pR,ne_int_str->pV,ne_str_int->pX
open PyProof.Rows.LSm renaming kept_iter->rh
open PySem.Builtin.Range renaming rangeSize->rQ
open Nat.succ renaming inj->tf
open PySem.Shared renaming heap->uM
open PySem.Heap.IsSliceOf renaming new->vL
open PySem.W.WShape renaming has->vS
open PySem.Walks renaming list->vU
open PyProof.Rows.SortSt renaming mk'->vX
open PySem.Heap.IsTuple renaming push->wW
open List.Sublist renaming refl->xf
open PySem.Flow renaming next->xo
open PySem.W.WData renaming int->xI
open PySem.Heap.IsList renaming push->xP
open PySem.W.Looks renaming ld->Ae
local macro_rules | `(tactic| walk_at "V") => `(tactic| first | exact Or.inl rfl | exact Or.inr (Or.inl rfl) | exact Or.inr (Or.inr rfl))
local macro_rules | `(tactic| walk_at "F") => `(tactic| first | exact .inl rfl | exact .inr rfl | assumption)
abbrev qF:=PySem.W.Frag
abbrev qB:=List (Int×Int)
abbrev qN:=sv->Nat->Prop
abbrev qM:=PySem.Str->Option t6
abbrev qV:=t6->PySem.Shared->Prop
abbrev qD:=List sv
abbrev qO:=List (PySem.Addr×PySem.Obj)
set_option Elab.async false
set_option linter.all false
set_option maxRecDepth 100000
set_option maxHeartbeats 4000000
namespace L2
open PySem PySem.Spec PyProof.Rows
abbrev Key:=Sum Int Str
def Vs:Key->ah->Bool
 | .inl k,v=>t7 k v
 | .inr x,v=>cY x v
def keyH(w:aU):Key->Int
 | .inl k=>hashInt k
 | .inr x=>hashStr w x
theorem UD:∀{k:Key}{v:ah},Vs k v=true->(∃i t,k=g7 i/\v=rN i t)\/(∃x t,k=lC x/\v=ip x t)
 | .inl i,v,h=>by
  obtain⟨t,e⟩:=Value.isInt_shape (k:=i) (v:=v) h;exact .inl ⟨i,t,rfl,e⟩
 | .inr x,v,h=>by
  obtain⟨t,e⟩:=Value.isStrOf_shape (x:=x) (v:=v) h;exact .inr ⟨x,t,rfl,e⟩
theorem zhD(i:Int)(t:Tok):Vs (.inl i) (.int i t)=true:=by simp[Vs,t7]
theorem zta(a b:Int):decide ((g7 a:Key)=g7 b)=(a == b):=by
 by_cases e:a=b
 ·subst e;simp
 ·have h:¬(g7 a:Key)=g7 b:=fun q=>e (Sum.inl.inj q)
  rw[decide_eq_false h];exact(beq_eq_false_iff_ne.mpr e).symm
theorem zs8(a b:Str):decide ((lC a:Key)=lC b)=decide (a=b):=by
 by_cases e:a=b
 ·subst e;simp
 ·have h:¬(lC a:Key)=lC b:=fun q=>e (Sum.inr.inj q)
  rw[decide_eq_false h,decide_eq_false e]
theorem zs_(a:Int)(b:Str):decide ((g7 a:Key)=lC b)=false:=decide_eq_false (fun q=>nomatch q)
theorem zs9(a:Str)(b:Int):decide ((lC a:Key)=g7 b)=false:=decide_eq_false (fun q=>nomatch q)
def Vd(prog:aI)(w:aU):PySem.KeyKind prog w Key where
 is:=Vs
 hash:=keyH w
 inj:=fun v a b G C=>by
  rcases UD G with⟨i,t,rfl,rfl⟩|⟨x,t,rfl,rfl⟩
  ·rcases UD C with⟨j,u,rfl,e⟩|⟨y,u,rfl,e⟩
   ·injection e with e1 _;rw[e1]
   ·exact nomatch e
  ·rcases UD C with⟨j,u,rfl,e⟩|⟨y,u,rfl,e⟩
   ·exact nomatch e
   ·injection e with e1 _;rw[e1]
 byValue:=fun k v h=>by
  rcases UD h with⟨i,t,rfl,rfl⟩|⟨x,t,rfl,rfl⟩ <;> rfl
 pyHash:=fun l h=>by
  rcases UD l with⟨i,t,rfl,rfl⟩|⟨x,t,rfl,rfl⟩
  ·exact wpAny_pyHash_int h
  ·exact wpAny_pyHash_str h
 eqBool:=fun I l h=>by
  rcases UD I with⟨i,t,rfl,rfl⟩|⟨x,t,rfl,rfl⟩
  ·rcases UD l with⟨j,u,rfl,rfl⟩|⟨y,u,rfl,rfl⟩
   ·rw[zta]at h;exact wpAny_eqBool_int h
   ·rw[zs_]at h;exact SeqAt.EqAt.int_str i t y u _ _ _ _ h
  ·rcases UD l with⟨j,u,rfl,rfl⟩|⟨y,u,rfl,rfl⟩
   ·rw[zs9]at h;exact SeqAt.EqAt.str_int x t j u _ _ _ _ h
   ·rw[zs8]at h;exact wpAny_eqBool_str h
 «strs»:=fun k x t v h=>by
  rcases UD h with⟨i,u,rfl,e⟩|⟨y,u,rfl,e⟩
  ·exact nomatch e
  ·injection e with e1 _
   subst e1;cases v <;> rfl
inductive V where
 | non|bl (b:Bool)|int (i:Int)|str (x:Str)|byt (b:Array UInt8)|flt (b:UInt64)|ref (a:ak)|ty (n:String)
 deriving DecidableEq
def RelV:V->ah->Prop
 | .non,u=>u=ir
 | .bl b,u=>u=ee b
 | .int i,u=>∃t,u=rN i t
 | .str x,u=>∃t,u=ip x t
 | .byt b,u=>∃t,u=Value.bytes b t
 | .flt b,u=>∃t,u=t8 b t
 | .ref a,u=>u=b5 a
 | .ty n,u=>u=bu n
abbrev Vals:List V->List ah->Prop:=eh RelV
theorem Vals.length{xs:List V}{l:List ah}(r:Vals xs l):xs.length=l.length:=lN r
theorem Vals.get:∀{xs:List V}{v:List ah}{i:Nat}{x:V},Vals xs v->xs[i]?=some x->∃u,v[i]?=some u/\RelV x u
 | _,_,_,_,.nil,e=>by simp at e
 | _,_,0,_,.cons r _,e=>by simp at e;subst e;exact⟨_,rfl,r⟩
 | _,_,i+1,x,.cons _ t,e=>by
  obtain⟨u,C,y⟩:=Vals.get (i:=i) (x:=x) t (by simpa using e)
  exact⟨u,by simpa using C,y⟩
theorem Vals.set{x:V}{u:ah}(r:RelV x u):∀{xs:List V}{v:List ah} (i:Nat),Vals xs v->Vals (xs.set i x) (v.set i u)
 | _,_,_,.nil=>.nil
 | _,_,0,.cons _ t=>.cons r t
 | _,_,i+1,.cons q t=>.cons q (Vals.set r i t)
theorem Vals.append{xs ys:List V}{u l:List ah}(h:Vals xs u)(s:Vals ys l):Vals (xs++ys) (u++l):=by
 induction h with
 | nil=>exact s
 | cons r _ v=>exact .cons r v
theorem Vals.take:∀{xs:List V}{u:List ah} (n:Nat),Vals xs u->Vals (xs.take n) (u.take n)
 | _,_,0,_=>.nil
 | _,_,_+1,.nil=>.nil
 | _,_,n+1,.cons r t=>.cons r (Vals.take n t)
theorem Vals.drop:∀{xs:List V}{u:List ah} (n:Nat),Vals xs u->Vals (xs.drop n) (u.drop n)
 | _,_,0,r=>r
 | _,_,_+1,.nil=>.nil
 | _,_,n+1,.cons _ t=>Vals.drop n t
def RelO:Option V->Option ah->Prop
 | some v,some u=>RelV v u
 | none,none=>True
 | _,_=>False
def KV{l:Type}:List (l×V)->List (l×ah)->Prop:=eh fun(p:l×V) (q:l×ah)=>p.1=q.1/\RelV p.2 q.2
def kV:Key->V
 | .inl i=>.int i
 | .inr x=>.str x
inductive HO where
 | lst (xs:List V)
 | tup (xs:List V)
 | dK (kvs:List (Key×V))|dT (kvs:List (List Key×V))
 | set (S:Int->Bool) (n:Nat)
 | ins (C dx:ak) (fs:List (Str×V))
 | own (x:ak)
 | xd (fs:List (Str×V))
 | met (f x:ak)
 | rng (lo hi:Int)
 | frz (o:Obj) (u:HO)
 | tbl (q:Str)
 | ext (φ:aS->Prop)
abbrev Hp:=ak->Option HO
def upd(H:Hp)(a:ak)(o:HO):Hp:=fun b=>if b=a then some o else H b
theorem JN{H:Hp}{a:ak}{o:HO}:upd H a o a=some o:=by unfold upd;rw[if_pos rfl]
theorem Js{H:Hp}{a b:ak}{o:HO}(h:b≠a):upd H a o b=H b:=by unfold upd;rw[if_neg h]
theorem QF{H:Hp}{a b:ak}{o:HO}(h:H a=some o)(h':H b=none):a≠b:=by
 intro e;subst e;rw[h]at h';cases h'
def IsTD(h:aS)(a:ak)(items:Array ah):Prop:=∃o,h.get? a=some o/\o.cls=.type "tuple" /\ (∃n,o.data=.seq items n)/\o.dict=none
theorem IsTD.tup{h:aS}{a:ak}{items:Array ah}(x:IsTD h a items):l5 h a items:=by
 obtain⟨o,e,c,d,_⟩:=x;exact⟨o,e,c,d⟩
theorem IsTD.lt{h:aS}{a:ak}{items:Array ah}(x:IsTD h a items):a<h.objs.size:=x.tup.lt
theorem IsTD.new(h:aS)(items:Array ah):IsTD (h.push { cls:=.type "tuple",data:=.seq items }) h.objs.size items:=⟨_,aD _ rfl,rfl,⟨_,rfl⟩,rfl⟩
def TabOk(H:Hp)(q:Str)(ps:Array ah):Prop:=TriplesOk ps.toList/\∀(pos:Pos) (v:ah),codeAmong pos ps.toList=some v->∃(c:ak) (o:Obj) (u:HO) (x:Array ah) (t:Tok),v=.ref c/\H c=some (.frz o u)/\o.data=.fields x/\x[1]?=some (.str q t)
section
variable(P:aI)(w:aU)
def JL(H:Hp)(h:aS)(a:ak):HO->Prop
 | .lst xs=>xs.length<=sizeLine/\∃(G:List ah) (n:Nat),Vals xs G/\h.get? a=some { cls:=.type "list",data:=.seq G.toArray n }
 | .tup xs=>xs.length<=sizeLine/\∃G:List ah,Vals xs G/\IsTD h a G.toArray
 | .dK I=>I.length<=sizeLine/\(a == sysModules)=false/\∃vs,KV I vs/\h.DictOf (Vd P w) a vs
 | .dT I=>I.length<=sizeLine/\(a == sysModules)=false/\∃xs:List (List Key×ak×ah),
   eh (fun(p:List Key×V) (q:List Key×ak×ah)=>p.1=q.1/\H q.2.1=some (.tup (p.1.map kV))/\RelV p.2 q.2.2) I xs /\
   ∃o U ep,h.get? a=some o/\o.ExactDict/\o.data=.dict U ep/\U.toList=xs.map (entryOfKey (tupleKind (Vd P w)))/\(xs.map (·.1)).Nodup
 | .set S n=>h.SetOf (intKind P w) a S n
 | .ins C L fs=>H L=some (.own a)/\fs.length<=1000/\L≠a/\h.get? a=some (kH C L) /\
   ∃J,h.Ns1 L J/\(∀f,RelO (fs.lookup f) (J f))/\sy J (fs.map (·.1))
 | .own _=>∃o,h.get? a=some o
 | .xd fs=>∃J,h.Ns1 a J/\∀f,RelO (fs.lookup f) (J f)
 | .rng lo hi=>∃t u v,h.get? a=some { cls:=.type "range",data:=.fields #[.int lo t,.int hi u,.int 1 v] }
 | .frz o u=>h.get? a=some o/\JL H h a u
 | .tbl q=>∃ps:Array ah,h.get? a=some { cls:=.none,data:=.fields ps }/\TabOk H q ps
 | .met f x=>h.get? a=some (iN (.ref f) (.ref x))
 | .ext R=>R h/\(∃o,h.get? a=some o)/\∀Z Y:aS,R Z->(∀o,Z.get? a=some o->Y.get? a=some o)->R Y
def HOk(H:Hp)(h:aS):Prop:=∀a o,H a=some o->JL P w H h a o
end
section
variable{P:aI}{w:aU}{H H':Hp}{h h':aS}{a:ak}{o:HO}
theorem JL.lt(x:JL P w H h a o):a<h.objs.size:=by
 cases o with
 | lst xs=>obtain⟨_,_,_,_,e⟩:=x;exact aA e
 | tup xs=>obtain⟨_,_,_,p⟩:=x;exact p.lt
 | dK l=>obtain⟨_,_,_,_,o,_,_,e,_⟩:=x;exact aA e
 | dT l=>obtain⟨_,_,_,_,o,_,_,e,_⟩:=x;exact aA e
 | set S n=>obtain⟨o,_,_,_,e,_⟩:=x;exact aA e
 | ins C v fs=>obtain⟨_,_,_,e,_⟩:=x;exact aA e
 | own y=>obtain⟨_,e⟩:=x;exact aA e
 | xd fs=>obtain⟨_,⟨_,_,_,e,_⟩,_⟩:=x;exact aA e
 | rng lo hi=>obtain⟨_,_,_,e⟩:=x;exact aA e
 | frz I u=>obtain⟨e,_⟩:=x;exact aA e
 | tbl q=>obtain⟨_,e,_⟩:=x;exact aA e
 | met f y=>exact aA (show h.get? a=some _ from x)
 | ext G=>obtain⟨_,⟨_,e⟩,_⟩:=x;exact aA e
theorem Paired.mapP{α x:Type}{F G:α->x->Prop}{u:List α}{v:List x}(h:eh F u v)(f:∀a b,F a b->G a b):eh G u v:=by
 induction h with
 | nil=>exact .nil
 | cons r _ y=>exact .cons (f _ _ r) y
theorem JL.stay(x:JL P w H h a o)(k:∀b u,(b=a\/H b=some (.own a))->h.get? b=some u->h'.get? b=some u)
  (ho:∀b,H b=some (.own a)->H' b=some (.own a)) (ht:∀b xs,H b=some (.tup xs)->H' b=some (.tup xs)) (hf:∀b G u,H b=some (.frz G u)->H' b=some (.frz G u)):JL P w H' h' a o:=by
 induction o with
 | lst xs=>obtain⟨z,L,n,r,e⟩:=x;exact⟨z,L,n,r,k _ _ (.inl rfl) e⟩
 | tup xs=>obtain⟨z,L,r,G,e,c⟩:=x;exact⟨z,L,r,G,k _ _ (.inl rfl) e,c⟩
 | dK Z=>obtain⟨z,y,U,r,G,I,J,e,c⟩:=x;exact⟨z,y,U,r,G,I,J,k _ _ (.inl rfl) e,c⟩
 | dT Z =>
  obtain⟨z,y,xs,r,G,I,J,e,c⟩:=x;exact⟨z,y,xs,Paired.mapP r fun p q z=>⟨z.1,ht _ _ z.2.1,z.2.2⟩,G,I,J,k _ _ (.inl rfl) e,c⟩
 | set S n=>obtain⟨G,I,J,t,e,c⟩:=x;exact⟨G,I,J,t,k _ _ (.inl rfl) e,c⟩
 | ins C dx fs =>
  obtain⟨d,z,ne,e,N,⟨Y,I,J,R,c⟩,r⟩:=x;exact⟨ho _ d,z,ne,k _ _ (.inl rfl) e,N,⟨Y,I,J,k _ _ (.inr d) R,c⟩,r⟩
 | own y=>obtain⟨G,e⟩:=x;exact⟨G,k _ _ (.inl rfl) e⟩
 | xd fs=>obtain⟨N,⟨Y,I,J,e,c⟩,r⟩:=x;exact⟨N,⟨Y,I,J,k _ _ (.inl rfl) e,c⟩,r⟩
 | rng lo hi=>obtain⟨t,u,v,e⟩:=x;exact⟨t,u,v,k _ _ (.inl rfl) e⟩
 | frz G u ih=>obtain⟨e,q⟩:=x;exact⟨k _ _ (.inl rfl) e,ih q⟩
 | tbl q =>
  obtain⟨ps,e,z,r⟩:=x;refine⟨ps,k a _ (.inl rfl) e,z,fun pos cv m=>?_⟩
  obtain⟨c,o,u,U,t,e1,R,e3⟩:=r pos cv m;exact⟨c,o,u,U,t,e1,hf _ _ _ R,e3⟩
 | met f y =>
  have e:h.get? a=some (iN (.ref f) (.ref y)):=x;show h'.get? a=some (iN (.ref f) (.ref y))
  exact k a _ (.inl rfl) e
 | ext φ=>obtain⟨p,⟨o,e⟩,st⟩:=x;exact⟨st _ _ p fun o q=>k _ _ (.inl rfl) q,⟨o,k _ _ (.inl rfl) e⟩,st⟩
theorem HOk.lt(x:HOk P w H h)(e:H a=some o):a<h.objs.size:=(x a o e).lt
theorem HOk.fresh(x:HOk P w H h)(e:h.objs.size<=a):H a=none:=by
 cases q:H a with
 | none=>rfl
 | some u=>exact absurd (aC (x.lt q) e) (gf _)
theorem HOk.kept(x:HOk P w H h)(k:∀b u,h.get? b=some u->h'.get? b=some u):HOk P w H h':=fun a o e =>
 (x a o e).stay (fun b u _ q=>k b u q) (fun _ q=>q) (fun _ _ q=>q) fun _ _ _ q=>q
theorem HOk.laid(x:HOk P w H h)(k:∀b u,h.get? b=some u->h'.get? b=some u)(C:h.objs.size<=a)(new:JL P w (upd H a o) h' a o):HOk P w (upd H a o) h':=fun b u e=>by
 have l:=x.fresh C
 by_cases hb:b=a
 ·subst hb;rw[JN]at e;cases e;exact new
 ·rw[Js hb]at e;exact(x b u e).stay (fun c v _ q=>k c v q) (fun c q=>by rw[Js (QF q l)];exact q) (fun c xs q=>by rw[Js (QF q l)];exact q) fun c G xs q=>by rw[Js (QF q l)];exact q
end
def Rd(H:Hp)(a:ak)(u:HO):Prop:=H a=some u\/∃o,H a=some (.frz o u)
theorem Rd.ok{P:aI}{w:aU}{H:Hp}{h:aS}{a:ak}{u:HO}(r:Rd H a u)(x:HOk P w H h):JL P w H h a u:=by
 rcases r with r|⟨o,r⟩
 ·exact x a u r
 ·obtain⟨_,q⟩:=x a _ r;exact q
def Mut:Option HO->Prop
 | some (.lst _)=>True
 | some (.dK _)=>True
 | some (.dT _)=>True
 | some (.set _ _)=>True
 | some (.ins _ _ _)=>True
 | some (.ext _)=>True
 | _=>False
section
variable{P:aI}{w:aU}{H:Hp}{h h':aS}{x e:ak}{o':HO}
theorem HOk.write(ok:HOk P w H h)(l:Mut (H x))(N:e=x\/H e=some (.own x))(k:∀b u,b≠e->h.get? b=some u->h'.get? b=some u)(J:∃u,h'.get? e=some u)
  (new:JL P w (upd H x o') h' x o'):HOk P w (upd H x o') h':=fun b u q=>by
 have R:∀c y,H c=some (.own y)->c≠x:=fun c y r z=>by subst z;rw[r]at l;exact l
 have C:∀c xs,H c=some (.tup xs)->c≠x:=fun c xs r z=>by subst z;rw[r]at l;exact l
 have G:∀c I xs,H c=some (.frz I xs)->c≠x:=fun c I xs r z=>by subst z;rw[r]at l;exact l
 by_cases hb:b=x
 ·subst hb;rw[JN]at q;cases q;exact new
 ·rw[Js hb]at q
  by_cases hbe:b=e
  ·have L:H b=some (.own x):=by
    rcases N with z|z
    ·exact absurd (hbe.trans z) hb
    ·rw[hbe];exact z
   rw[q]at L;cases L;obtain⟨v,S⟩:=J;exact⟨v,by rw[hbe];exact S⟩
  ·refine(ok b u q).stay (fun c v hc r=>k c v ?_ r) (fun c r=>by rw[Js (R c b r)];exact r) (fun c xs r=>by rw[Js (C c xs r)];exact r) fun c I xs r=>by rw[Js (G c I xs r)];exact r
   rcases hc with rfl|hc
   ·exact hbe
   ·rintro rfl;rcases N with z|z
    ·exact R c b hc z
    ·rw[hc]at z;cases z;exact hb rfl
end
structure Un(fs ex:List ak)(H H':Hp)(h h':aS):Prop where
 keep:∀b o,h.get? b=some o->H b=none->b∉fs->b∉ex->h'.get? b=some o
 slot:∀b o,h.get? b=some o->H b=none->b∈fs->b∉ex->∃sl,h'.get? b=some { o with slots:=sl }
 free:∀b o,h.get? b=some o->H b=none->b∉ex->H' b=none
 there:∀b o,h.get? b=some o->b∉ex->∃o',h'.get? b=some o'
 tups:∀b xs,H b=some (.tup xs)->H' b=some (.tup xs)
 frzs:∀b o u,H b=some (.frz o u)->H' b=some (.frz o u)
 tbls:∀b q,H b=some (.tbl q)->H' b=some (.tbl q)
section
variable{fs fs' ex ex':List ak}{H H1 H2:Hp}{h h1 h2 h':aS}{a x e:ak}{o:HO}
theorem Un.any(u:Un fs ex H H1 h h1){b:ak}{l:Obj}(q:h.get? b=some l)(n:H b=none)(hx:b∉ex):∃v,h1.get? b=some { l with slots:=v }:=by
 by_cases hb:b∈fs
 ·exact u.slot b l q n hb hx
 ·exact⟨l.slots,u.keep b l q n hb hx⟩
theorem Un.kept(k:∀b u,h.get? b=some u->h'.get? b=some u):Un fs ex H H h h' :=
 ⟨fun b l q _ _ _=>k b l q,fun b l q _ _ _=>⟨l.slots,k b l q⟩,fun _ _ _ n _=>n,fun b l q _=>⟨l,k b l q⟩,fun _ _ q=>q,fun _ _ _ q=>q,fun _ _ q=>q⟩
theorem Un.refl:Un fs ex H H h h:=Un.kept fun _ _ q=>q
theorem Un.laid(k:∀b u,h.get? b=some u->h'.get? b=some u)(v:h.objs.size<=a)(l:H a=none):Un fs ex H (upd H a o) h h' where
 keep:=fun b u q _ _ _=>k b u q
 slot:=fun b u q _ _ _=>⟨u.slots,k b u q⟩
 free:=fun b u q n _=>by rw[Js (aF (aC (aA q) v))];exact n
 there:=fun b u q _=>⟨u,k b u q⟩
 tups:=fun b xs q=>by rw[Js (QF q l)];exact q
 frzs:=fun b u xs q=>by rw[Js (QF q l)];exact q
 tbls:=fun b ps q=>by rw[Js (QF q l)];exact q
theorem Un.write(l:Mut (H x))(G:e=x\/H e=some (.own x))(k:∀b u,b≠e->h.get? b=some u->h'.get? b=some u)(y:∃u,h'.get? e=some u):Un fs ex H (upd H x o) h h':=by
 have hx:∀b,H b=none->b≠x:=fun b n z=>by subst z;rw[n]at l;exact l
 have C:∀b,H b=none->b≠e:=fun b n z=>by
  subst z;rcases G with r|r
  ·exact hx b n r
  ·rw[n]at r;cases r
 have v:∀b u,H b=some u->¬Mut (some u)->b≠x:=fun b u q nm z=>by subst z;rw[q]at l;exact nm l
 refine⟨fun b u q n _ _=>k b u (C b n) q,fun b u q n _ _=>⟨u.slots,k b u (C b n) q⟩,fun b u q n _=>by rw[Js (hx b n)];exact n,fun b u q _=>?_,
  fun b xs q=>by rw[Js (v b _ q fun z=>z)];exact q,fun b u xs q=>by rw[Js (v b _ q fun z=>z)];exact q,fun b ps q=>by rw[Js (v b _ q fun z=>z)];exact q⟩
 by_cases hbe:b=e
 ·subst hbe;exact y
 ·exact⟨u,k b u hbe q⟩
end
def trk(h:aS)(H:Hp):List ak:=(eO h.objs.size).filter fun a=>(H a).isSome
def hidT(h:aS)(H:Hp):aS:=nN h (trk h H)
theorem zmC(h:aS)(H:Hp):(hidT h H).objs.size=h.objs.size:=PySem.W.hideAll_size _ _
theorem zoC{h:aS}{H:Hp}{b:ak}{o:Obj}(e:h.get? b=some o)(n:H b=none):(hidT h H).get? b=some o :=
 lF _ e fun l=>by
  have q:(H b).isSome=true:=(cH.mp l).2;rw[n]at q;simp at q
theorem zqj{h:aS}{H:Hp}{b:ak}{o:Obj}(e:(hidT h H).get? b=some o):h.get? b=some o/\H b=none:=by
 have l:h.get? b=some o:=lR (trk h H) e;refine⟨l,?_⟩;cases q:H b with
 | none=>rfl
 | some x =>
  have u:b∈trk h H:=cH.mpr ⟨gz.mpr (aA l),by simp[q]⟩
  have z:(hidT h H).get? b=none:=PySem.W.hideAll_none (trk h H) u;rw[z]at e;cases e
structure Mod(K:qF)(mg:qM)(base:aS):Prop where
 kin:K.In base
 glob:base.Ns mainGlobals mg
 blt:∃mb,base.Ns builtinsNs mb/\∀x:Str,x ≠ "__name__" -> mb x=bootBuiltins x
 nolimit:base.NoLimit
structure Cx where
 prog:aI
 w:aU
 K:qF
 mg:Str->Option ah
 base:aS
 A:bw
 N:List Str
 s₀:au
 H₀:Hp
 env:Env
 outer:List Env
 stack:List Env
 ex:List ak
 fn:Str->Bool
 calm:Bool
 pn:List (ak×Obj)
 xe:ah->au->Prop
def frs(l:List Env):List ak:=l.filterMap (·.frame)
abbrev Cx.fs(X:Cx):List ak:=frs X.outer
def Vis(sc:fc)(x:Str):Prop:=sc.names.lookup x=some .local\/sc.names.lookup x=some .cell\/sc.names.lookup x=some .free
def Loc(sc:fc)(x:Str):Prop:=sc.names.lookup x=some .local\/sc.names.lookup x=some .cell
def Look(env:Env)(h:aS)(m:qM)(x:Str)(u:ah):Prop :=
 (env.kindOf x=some .local/\m x=some u)\/((env.kindOf x=some .cell\/env.kindOf x=some .free)/\∃c,env.cells.lookup x=some c/\h.IsCell c (some u))
structure Cx.Ok(X:Cx):Prop where
 mod:Mod X.K X.mg X.base
 kind:X.env.scope.kind=.function
 glob:X.env.globals=mainGlobals
 blt:X.env.builtins=builtinsNs
 above:X.s₀.heap.objs.size<=X.env.locals
 inj:∀x y c,X.env.cells.lookup x=some c->X.env.cells.lookup y=some c->x=y
 has:∀x,(X.env.kindOf x=some .cell\/X.env.kindOf x=some .free)->∃c,X.env.cells.lookup x=some c
 cab:∀x c,X.fn x=true->X.env.cells.lookup x=some c->X.s₀.heap.objs.size<=c
 hd:X.calm=true->X.A.handled=none
 frames:X.A.frames=some X.stack
 stk:X.stack=X.outer\/(X.stack=X.env::X.outer/\X.env.frame=some X.env.locals)
 exf:∀b∈X.ex,b≠X.env.locals/\∀x c,X.env.cells.lookup x=some c->c≠b
 bs:∀b o,X.base.get? b=some o->X.s₀.heap.get? b=some o/\X.H₀ b=none
 bsz:X.base.objs.size<=X.s₀.heap.objs.size
 noex:∀b o,X.base.get? b=some o->b∉X.ex
 exfs:∀b∈X.ex,b∉X.fs
 funs:X.s₀.heap.FunFrames X.base X.outer
 frf:∀b∈X.fs,X.H₀ b=none
structure Inv(X:Cx)(pins:qO)(σ:List (Option V))(H:Hp)(s:au):Prop where
 ok:X.Ok
 os:s.os=X.s₀.os
 bare:g8 s.gens
 base:Un X.fs X.ex X.H₀ H X.s₀.heap s.heap
 loc:∃m,s.heap.Ns X.env.locals m/\∀(i:Nat) (x:Str) (v:V),X.N[i]?=some x->σ[i]?=some (some v)->Vis X.env.scope x->∃u,RelV v u/\Look X.env s.heap m x u
 cell:∀x c,X.env.cells.lookup x=some c->∃v,s.heap.IsCell c v
 free:H X.env.locals=none
 freeC:∀x c,X.env.cells.lookup x=some c->H c=none
 pin:∀p∈X.pn++pins,s.heap.get? p.1=some p.2/\H p.1=none/\p.1≠X.env.locals/\p.1∉X.fs/\∀v,p.2.data≠.cell v
 hok:HOk X.prog X.w H s.heap
 len:σ.length=X.N.length
section
variable{X:Cx}{pins:qO}{σ:List (Option V)}{H H':Hp}{s:au}{h':aS}
theorem Cx.Ok.nofr(ok:X.Ok){b:ak}{o:Obj}(e:X.base.get? b=some o):b∉X.fs:=fun l=>by
 have:=(ok.funs.mem l).1;rw[e]at this;cases this
theorem Inv.bs(I:Inv X pins σ H s):∀b o,X.base.get? b=some o->s.heap.get? b=some o/\H b=none:=fun b o e =>
 ⟨I.base.keep b o (I.ok.bs b o e).1 (I.ok.bs b o e).2 (I.ok.nofr e) (I.ok.noex b o e),I.base.free b o (I.ok.bs b o e).1 (I.ok.bs b o e).2 (I.ok.noex b o e)⟩
theorem Inv.bk(I:Inv X pins σ H s):∀b o,X.base.get? b=some o->s.heap.get? b=some o:=fun b o e=>(I.bs b o e).1
theorem Inv.mod(I:Inv X pins σ H s):Mod X.K X.mg X.base:=I.ok.mod
theorem Inv.kIn(I:Inv X pins σ H s):X.K.In s.heap:=I.ok.mod.kin.keeps I.bk
theorem Inv.lt(I:Inv X pins σ H s):X.env.locals<s.heap.objs.size:=let ⟨_,hn,_⟩:=I.loc;hn.lt
theorem Inv.sz(I:Inv X pins σ H s):X.s₀.heap.objs.size<=s.heap.objs.size:=bY I.ok.above (l7 I.lt)
theorem Inv.nofs(I:Inv X pins σ H s){a:ak}(h:s.heap.objs.size<=a):a∉X.fs:=fun l=>by
 obtain⟨_,o,u,_⟩:=I.ok.funs.mem l;exact absurd (aC (aA u) (bY I.sz h)) (gf _)
theorem Inv.cne(I:Inv X pins σ H s):∀x c,X.env.cells.lookup x=some c->c≠X.env.locals:=fun x c e z=>by
 obtain⟨v,o,y,hd⟩:=I.cell x c e;obtain⟨m,⟨C,G,J,u,l,_⟩,_⟩:=I.loc;rw[z,u]at y;cases y;rw[l]at hd;cases hd
theorem Inv.funs(I:Inv X pins σ H s):s.heap.FunFrames X.base X.outer:=by
 have all:∀(l:List Env),(∀b∈frs l,b∈X.fs)->X.s₀.heap.FunFrames X.base l->s.heap.FunFrames X.base l:=by
  intro l;induction l with
  | nil=>intro _ _;trivial
  | cons env r J =>
   intro x y;obtain⟨G,⟨L,o,hf,C,R,hd⟩,N⟩:=y;have u:L∈X.fs:=x L (by unfold frs;rw[df,hf];exact cS)
   obtain⟨S,e⟩:=I.base.slot L o R (I.ok.frf L u) u fun z=>I.ok.exfs L z u
   exact⟨G,⟨L,_,hf,C,e,hd⟩,J (fun b v=>x b (by unfold frs;rw[df,hf];exact cF _ v)) N⟩
 exact all X.outer (fun _ v=>v) I.ok.funs
theorem Inv.stack(I:Inv X pins σ H s):s.heap.FunFrames X.base X.stack:=by
 rcases I.ok.stk with e|⟨e,hf⟩
 ·rw[e];exact I.funs
 ·rw[e];obtain⟨m,l,_⟩:=I.loc;refine .cons (by rw[I.ok.kind];decide) hf l ?_ I.funs
  exact Heap.get?_none_of_le (bY I.ok.bsz I.ok.above)
theorem Inv.stkSub(I:Inv X pins σ H s):∀b∈frs X.stack,b∈X.env.locals::X.fs:=fun b l=>by
 rcases I.ok.stk with e|⟨e,hf⟩
 ·rw[e]at l;exact cF _ l
 ·rw[e]at l;unfold frs at l;rw[df,hf]at l;exact l
theorem Inv.stkFree(I:Inv X pins σ H s):∀b∈frs X.stack,H b=none:=fun b l=>by
 rcases aw.mp (I.stkSub b l) with e|l
 ·rw[e];exact I.free
 ·obtain⟨_,o,u,_⟩:=I.ok.funs.mem l;exact I.base.free b o u (I.ok.frf b l) fun z=>I.ok.exfs b z l
theorem Inv.step{g':Array GenState}{t':Nat}{d':Drawn}{ch:List ak}(I:Inv X pins σ H s)
  (y:∀b∈ch,(b∈X.ex\/X.s₀.heap.objs.size<=b)/\b≠X.env.locals/\(∀x c,X.env.cells.lookup x=some c->c≠b)/\∀p∈X.pn++pins,p.1≠b)
  (keep:∀b o,b≠X.env.locals->b∉X.fs->b∉ch->s.heap.get? b=some o->H b=none->h'.get? b=some o)
  (slot:∀b o,b≠X.env.locals->b∈X.fs->b∉ch->s.heap.get? b=some o->H b=none->∃Z,h'.get? b=some { o with slots:=Z }) (free:∀b o,b∉ch->s.heap.get? b=some o->H b=none->H' b=none)
  (there:∀b o,b∉ch->s.heap.get? b=some o->∃R,h'.get? b=some R)
  (tups:∀b xs,H b=some (.tup xs)->H' b=some (.tup xs)) (frzs:∀b o u,H b=some (.frz o u)->H' b=some (.frz o u)) (tbls:∀b q,H b=some (.tbl q)->H' b=some (.tbl q))
  (ns:∀m,s.heap.Ns X.env.locals m->h'.Ns X.env.locals m) (hok:HOk X.prog X.w H' h') (hg:g8 g') :
  Inv X pins σ H' { s with heap:=h',gens:=g',drawn:=d',toks:=t' }:=by
 have S:∀b o,X.s₀.heap.get? b=some o->b≠X.env.locals:=fun b o e=>aF (aC (aA e) I.ok.above)
 have G:∀b o,X.s₀.heap.get? b=some o->b∉X.ex->b∉ch:=fun b o e hx L=>by
  rcases(y b L).1 with z|z
  ·exact hx z
  ·exact absurd (aC (aA e) z) (gf _)
 have cellK:∀x c,X.env.cells.lookup x=some c->∀v,s.heap.IsCell c v->h'.IsCell c v:=fun x c e v ⟨o,N,hd⟩=>by
  have C:c∉ch:=fun z=>(y c z).2.2.1 x c e rfl
  by_cases hc:c∈X.fs
  ·obtain⟨Z,q⟩:=slot c o (I.cne x c e) hc C N (I.freeC x c e);exact⟨_,q,hd⟩
  ·exact⟨o,keep c o (I.cne x c e) hc C N (I.freeC x c e),hd⟩
 refine⟨I.ok,I.os,hg,⟨fun b o e n L hx=>?_,fun b o e n L hx=>?_,fun b o e n hx=>?_,fun b o e hx=>?_,fun b xs e=>tups b xs (I.base.tups b xs e),fun b o xs e=>frzs b o xs (I.base.frzs b o xs e),fun b ps e=>?_⟩,?_,fun x c e=>?_,?_,fun x c e=>?_,fun p hp=>?_,hok,I.len⟩
 ·exact keep b o (S b o e) L (G b o e hx) (I.base.keep b o e n L hx) (I.base.free b o e n hx)
 ·obtain⟨Z,J⟩:=I.base.slot b o e n L hx;obtain⟨Y,U⟩:=slot b _ (S b o e) L (G b o e hx) J (I.base.free b o e n hx);exact⟨Y,U⟩
 ·obtain⟨R,J⟩:=I.base.there b o e hx;exact free b R (G b o e hx) J (I.base.free b o e n hx)
 ·obtain⟨R,J⟩:=I.base.there b o e hx;exact there b R (G b o e hx) J
 ·exact tbls b ps (I.base.tbls b ps e)
 ·obtain⟨m,hn,hl⟩:=I.loc;refine⟨m,ns m hn,fun i x v J U e3=>?_⟩
  obtain⟨u,r,l⟩:=hl i x v J U e3;refine⟨u,r,?_⟩;rcases l with l|⟨k,c,e,z⟩
  ·exact .inl l
  ·exact .inr ⟨k,c,e,cellK x c e _ z⟩
 ·obtain⟨v,z⟩:=I.cell x c e;exact⟨v,cellK x c e v z⟩
 ·obtain⟨m,⟨o,_,_,N,_⟩,_⟩:=I.loc;exact free _ o (fun z=>(y _ z).2.1 rfl) N I.free
 ·obtain⟨v,o,N,hd⟩:=I.cell x c e;exact free c o (fun z=>(y c z).2.2.1 x c e rfl) N (I.freeC x c e)
 ·obtain⟨e,n,ne,nf,d⟩:=I.pin p hp;have C:p.1∉ch:=fun z=>(y p.1 z).2.2.2 p hp rfl
  exact⟨keep p.1 p.2 ne nf C e n,free p.1 p.2 C e n,ne,nf,d⟩
theorem Inv.un{t':Nat}(I:Inv X pins σ H s)(u:Un X.fs [] H H' s.heap h')(hok:HOk X.prog X.w H' h'):Inv X pins σ H' { s with heap:=h',toks:=t' }:=by
 obtain⟨m,⟨o,R,U,C,r⟩,_⟩:=id I.loc;obtain⟨Y,G⟩:=u.any C I.free (by simp)
 exact I.step (g':=s.gens) (d':=s.drawn) (ch:=[]) (fun _ z=>nomatch z) (fun b o _ y _ e n=>u.keep b o e n y (by simp)) (fun b o _ y _ e n=>u.slot b o e n y (by simp)) (fun b o _ e n=>u.free b o e n (by simp)) (fun b o _ e=>u.there b o e (by simp)) u.tups u.frzs u.tbls (fun N L=>by
  obtain⟨S,v,x,l,J⟩:=L;rw[C]at l;cases l;exact⟨_,v,x,G,J⟩) hok I.bare
theorem Inv.call{g':Array GenState}{t':Nat}{d':Drawn}{ch:List ak}(I:Inv X pins σ H s)(u:Un (frs X.stack) ch H H' s.heap h')(hok:HOk X.prog X.w H' h')(S:g8 g')
  (y:∀b∈ch,(b∈X.ex\/X.s₀.heap.objs.size<=b)/\b≠X.env.locals/\(∀x c,X.env.cells.lookup x=some c->c≠b)/\∀p∈X.pn++pins,p.1≠b) :
  Inv X pins σ H' { s with heap:=h',gens:=g',drawn:=d',toks:=t' }:=by
 obtain⟨m,⟨o,Z,ep,L,r⟩,_⟩:=id I.loc;obtain⟨sl,C⟩:=u.any L I.free fun z=>(y _ z).2.1 rfl
 exact I.step (ch:=ch) y (fun b o C U hc e n=>u.keep b o e n (fun z=>(aw.mp (I.stkSub b z)).elim C U) hc) (fun b o _ _ hc e n=>u.any e n hc) (fun b o hc e n=>u.free b o e n hc) (fun b o hc e=>u.there b o e hc) u.tups u.frzs u.tbls (fun Y R=>by
  obtain⟨o',G,J,v,N⟩:=R;rw[L]at v;cases v;exact⟨_,G,J,C,N⟩) hok S
theorem Inv.turned{t':Nat}{it:ak}(I:Inv X pins σ H s)(k:∀b o,b≠it->s.heap.get? b=some o->h'.get? b=some o)(S:H it=none)(C:it≠X.env.locals)
  (R:it∈X.ex\/X.s₀.heap.objs.size<=it) (J:∀x c,X.env.cells.lookup x=some c->c≠it) (U:∀p∈X.pn++pins,p.1≠it):Inv X pins σ H { s with heap:=h',toks:=t' }:=by
 have l:∀b u,H b=some u->b≠it:=fun b u e z=>by rw[z,S]at e;cases e
 refine I.step (g':=s.gens) (d':=s.drawn) (ch:=[it]) (fun b Y=>?_) (fun b o _ _ hc e _=>k b o (fun z=>hc (by simp[z])) e) (fun b o _ _ hc e _=>⟨o.slots,k b o (fun z=>hc (by simp[z])) e⟩) (fun _ _ _ _ n=>n)
  (fun b o hc e=>⟨o,k b o (fun z=>hc (by simp[z])) e⟩) (fun _ _ e=>e) (fun _ _ _ e=>e) (fun _ _ e=>e) (fun m N=>?_) (fun b u e=>?_) I.bare
 ·have e:b=it:=by simpa using Y
  subst e;exact⟨R,C,J,U⟩
 ·obtain⟨o,G,L,Z,r⟩:=N;exact⟨o,G,L,k _ o (ke C) Z,r⟩
 ·refine(I.hok b u e).stay (fun c v hc q=>k c v ?_ q) (fun _ q=>q) (fun _ _ q=>q) fun _ _ _ q=>q
  rcases hc with z|z
  ·rw[z];exact l b u e
  ·exact l c _ z
theorem Inv.tok(I:Inv X pins σ H s)(t:Nat):Inv X pins σ H { s with toks:=t }:=I.un (h':=s.heap) (t':=t) Un.refl I.hok
theorem Inv.kept{t':Nat}(I:Inv X pins σ H s)(k:∀b u,s.heap.get? b=some u->h'.get? b=some u):Inv X pins σ H { s with heap:=h',toks:=t' }:=I.un (Un.kept k) (I.hok.kept k)
theorem Inv.laid{a:ak}{o:HO}{t':Nat}(I:Inv X pins σ H s)(k:∀b u,s.heap.get? b=some u->h'.get? b=some u)(l:s.heap.objs.size<=a)(new:JL X.prog X.w (upd H a o) h' a o) :
  Inv X pins σ (upd H a o) { s with heap:=h',toks:=t' }:=I.un (Un.laid k l (I.hok.fresh l)) (I.hok.laid k l new)
theorem Inv.write{x e:ak}{o:HO}{t':Nat}(I:Inv X pins σ H s)(y:Mut (H x))(v:e=x\/H e=some (.own x))(k:∀b u,b≠e->s.heap.get? b=some u->h'.get? b=some u)(l:∃u,h'.get? e=some u)
  (new:JL X.prog X.w (upd H x o) h' x o):Inv X pins σ (upd H x o) { s with heap:=h',toks:=t' }:=I.un (Un.write y v k l) (I.hok.write y v k l new)
theorem Inv.weak{σ':List (Option V)}(I:Inv X pins σ H s)(u:σ'.length=σ.length)(w:∀(i:Nat) v,σ'[i]?=some (some v)->σ[i]?=some (some v)):Inv X pins σ' H s :=
 ⟨I.ok,I.os,I.bare,I.base,let ⟨m,hn,hl'⟩:=I.loc;⟨m,hn,fun i x v l y C=>hl' i x v l (w i v y) C⟩,I.cell,I.free,I.freeC,I.pin,I.hok,u.trans I.len⟩
theorem Inv.pins_of{u:qO}(I:Inv X pins σ H s)(h:∀p∈u,s.heap.get? p.1=some p.2/\H p.1=none/\p.1≠X.env.locals/\p.1∉X.fs/\∀v,p.2.data≠.cell v):Inv X u σ H s :=
 ⟨I.ok,I.os,I.bare,I.base,I.loc,I.cell,I.free,I.freeC,fun p x=>(aB.mp x).elim (fun z=>I.pin p (kS _ z)) (h p),I.hok,I.len⟩
theorem zgu{N:List Str}(l:N.Nodup){i j:Nat}{x:Str}(a:N[i]?=some x)(b:N[j]?=some x):i=j:=by
 obtain⟨C,u⟩:=av.mp a;obtain⟨y,v⟩:=av.mp b;exact(List.getElem_inj l).mp (u.trans v.symm)
theorem zg2{M:rO}{A:bw}{E:qV}{i:Nat}{x:Str}{v:V}{u:ah}{Q:Unit->au->Prop}(I:Inv X pins σ H s)(hN:X.N.Nodup)(hi:X.N[i]?=some x)(hx:Loc X.env.scope x)(r:RelV v u)
  (h:∀s',Inv X pins (σ.set i (some v)) H s'->(∃a,dO a s.heap s'.heap/\(a=X.env.locals\/X.env.cells.lookup x=some a))->Q () s') (hf:X.fn x=true\/X.env.scope.names.lookup x=some .local:=by walk_at "F"):wpAny M A (storeName X.env x u) Q E s:=by
 obtain⟨m,hn,hl⟩:=id I.loc;have S:(X.env.scope.kind == .class||(X.env.scope.kind == .module&&X.env.locals != X.env.globals))=false:=by rw[I.ok.kind];rfl
 have L:i<σ.length:=by rw[I.len];exact(av.mp hi).1
 have cne:=I.cne;have tracked:∀{a:ak} {h':aS},(∃o,s.heap.get? a=some o/\H a=none)->dO a s.heap h'->HOk X.prog X.w H h':=fun {a h'} ha C b ob e=>by
  obtain⟨_,_,HM⟩:=ha;refine(I.hok b ob e).stay (fun c w' hc q=>(C.2 c ?_).trans q) (fun _ q=>q) (fun _ _ q=>q) fun _ _ _ q=>q
  rintro rfl;rcases hc with rfl|hc
  ·rw[HM]at e;cases e
  ·rw[HM]at hc;cases hc
 rcases hx with hk|hk
 ·refine wpAny_storeName_local hk hn (fun h' hn' C=>?_) S
  obtain⟨oL,_,_,hoL,_⟩:=id hn;refine h _ ⟨I.ok,I.os,I.bare,⟨fun b o e n R hx=>?_,fun b o e n R hx=>?_,I.base.free,fun b o e hx=>?_,I.base.tups,I.base.frzs,I.base.tbls⟩,⟨_,hn',fun j y v' G J e3=>?_⟩,fun y c e=>?_,I.free,I.freeC,fun p hp=>?_,tracked ⟨oL,hoL,I.free⟩ C,by simpa using I.len⟩ ⟨_,C,.inl rfl⟩
  ·exact(C.2 b (aF (aC (aA e) I.ok.above))).trans (I.base.keep b o e n R hx)
  ·obtain⟨sl,G⟩:=I.base.slot b o e n R hx;exact⟨sl,(C.2 b (aF (aC (aA e) I.ok.above))).trans G⟩
  ·obtain⟨o',G⟩:=I.base.there b o e hx;exact⟨o',(C.2 b (aF (aC (aA e) I.ok.above))).trans G⟩
  ·by_cases hj:j=i
   ·subst hj;rw[hi]at G;cases G;rw[cw L]at J;cases J;exact⟨u,r,.inl ⟨hk,by simp⟩⟩
   ·rw[aQ (ke hj)]at J;obtain⟨u',r',q⟩:=hl j y v' G J e3;refine⟨u',r',?_⟩;rcases q with⟨k,e⟩|⟨k,c,e,z⟩
    ·refine .inl ⟨k,?_⟩;have:y≠x:=fun e=>hj (zgu hN G (e▸hi))
     simp[this,e]
    ·exact .inr ⟨k,c,e,z.sameBut C (cne y c e)⟩
  ·obtain⟨w',z⟩:=I.cell y c e;exact⟨w',z.sameBut C (cne y c e)⟩
  ·obtain⟨e,n,ne,nf,d⟩:=I.pin p hp;exact⟨(C.2 p.1 ne).trans e,n,ne,nf,d⟩
 ·have N:X.fn x=true:=by
   rcases hf with z|z
   ·exact z
   ·rw[z]at hk;cases hk
  obtain⟨c,hc⟩:=I.ok.has x (.inl hk);obtain⟨w',z⟩:=I.cell x c hc;refine wpAny_storeName_cell I.ok.kind hk hc z (fun h' Z C=>?_)
  obtain⟨oc,Y,U⟩:=id z;refine h { s with heap:=h' } ⟨I.ok,I.os,I.bare,⟨fun b o e n R hx=>?_,fun b o e n R hx=>?_,I.base.free,fun b o e hx=>?_,I.base.tups,I.base.frzs,I.base.tbls⟩,⟨m,hn.sameBut C (ke (cne x c hc)),fun j y v' G J e3=>?_⟩,fun y c' e=>?_,I.free,I.freeC,fun p hp=>?_,tracked ⟨oc,Y,I.freeC x c hc⟩ C,by simpa using I.len⟩ ⟨c,C,.inr hc⟩
  ·exact(C.2 b (aF (aC (aA e) (I.ok.cab x c N hc)))).trans (I.base.keep b o e n R hx)
  ·obtain⟨sl,G⟩:=I.base.slot b o e n R hx;exact⟨sl,(C.2 b (aF (aC (aA e) (I.ok.cab x c N hc)))).trans G⟩
  ·obtain⟨o',G⟩:=I.base.there b o e hx;exact⟨o',(C.2 b (aF (aC (aA e) (I.ok.cab x c N hc)))).trans G⟩
  ·by_cases hj:j=i
   ·subst hj;rw[hi]at G;cases G;rw[cw L]at J;cases J;exact⟨u,r,.inr ⟨.inl hk,c,hc,Z⟩⟩
   ·rw[aQ (ke hj)]at J;obtain⟨u',r',q⟩:=hl j y v' G J e3;refine⟨u',r',?_⟩;rcases q with q|⟨k,c',e,z'⟩
    ·exact .inl q
    ·refine .inr ⟨k,c',e,z'.sameBut C ?_⟩;rintro rfl;exact hj (zgu hN G (I.ok.inj _ _ _ e hc▸hi))
  ·by_cases hcc:c'=c
   ·subst hcc;exact⟨_,Z⟩
   ·obtain⟨w2,z2⟩:=I.cell y c' e;exact⟨w2,z2.sameBut C hcc⟩
  ·obtain⟨e,n,ne,nf,d⟩:=I.pin p hp;refine⟨(C.2 p.1 ?_).trans e,n,ne,nf,d⟩;intro q;rw[q,Y]at e;have q':oc=p.2:=aL e;exact d w' (by rw[<- q'];exact U)
theorem Zh{M:rO}{A:bw}{E:qV}{i:Nat}{x:Str}{v:V}{u:ah}{Q:Unit->au->Prop}(I:Inv X pins σ H s)(y:X.N.Nodup)(hi:X.N[i]?=some x)(hx:Loc X.env.scope x)(r:RelV v u)
  (h:∀s',Inv X pins (σ.set i (some v)) H s'->Q () s') (hf:X.fn x=true\/X.env.scope.names.lookup x=some .local:=by walk_at "F"):wpAny M A (storeName X.env x u) Q E s :=
 zg2 I y hi hx r (fun s' C _=>h s' C) hf
theorem Inv.call'{s':au}{ch:List ak}(I:Inv X pins σ H s)(C:s'.os=s.os)(u:Un (frs X.stack) ch H H' s.heap s'.heap)(hok:HOk X.prog X.w H' s'.heap)(y:g8 s'.gens)
  (l:∀b∈ch,(b∈X.ex\/X.s₀.heap.objs.size<=b)/\b≠X.env.locals/\(∀x c,X.env.cells.lookup x=some c->c≠b)/\∀p∈X.pn++pins,p.1≠b):Inv X pins σ H' s':=by
 obtain⟨h',g',d',t',v⟩:=s';have e:v=s.os:=C;subst e;exact I.call (g':=g') (t':=t') (d':=d') u hok y l
end
abbrev XK:=ah->Option ak->Hp->Prop
abbrev St:=List (Option V)
abbrev VK:=V->Hp->Prop
abbrev TE:=St->Hp->VK->Prop
abbrev TT:=St->Hp->(Bool->Hp->Prop)->Prop
abbrev TA:=St->Hp->(List V->Hp->Prop)->Prop
structure Ends where
 nx:St->Hp->Prop
 rt:VK
 bk:St->Hp->Prop:=fun _ _=>False
 ct:St->Hp->Prop:=fun _ _=>False
abbrev TS:=Ends->St->Hp->Prop
def EP(X:Cx)(pins:qO)(σ:St)(Q:VK)(u:ah)(s':au):Prop:=∃v l,Inv X pins σ l s'/\RelV v u/\Q v l
def TP(X:Cx)(pins:qO)(σ:St)(Q:Bool->Hp->Prop)(b:Bool)(s':au):Prop:=∃l,Inv X pins σ l s'/\Q b l
def AP(X:Cx)(pins:qO)(σ:St)(Q:List V->Hp->Prop)(v:List ah)(s':au):Prop:=∃u l,Inv X pins σ l s'/\Vals u v/\Q u l
def SP(X:Cx)(pins:qO)(D:Ends)(f:Flow)(s':au):Prop :=
 match f with
 | .next=>∃σ' l,Inv X pins σ' l s'/\D.nx σ' l
 | .brk=>∃σ' l,Inv X pins σ' l s'/\D.bk σ' l
 | .cont=>∃σ' l,Inv X pins σ' l s'/\D.ct σ' l
 | .ret u=>∃v σ' l,Inv X pins σ' l s'/\RelV v u/\D.rt v l
def PE(X:Cx)(e:aT)(t:TE):Prop :=
 ∀(pins:qO) (s:au) (σ:St) (H:Hp) (Q:VK),Inv X pins σ H s->t σ H Q->wpAny (model X.prog X.w) X.A (eval e X.env) (EP X pins σ Q) X.xe s
def PT(X:Cx)(e:aT)(t:TT):Prop :=
 ∀(pins:qO) (s:au) (σ:St) (H:Hp) (Q:Bool->Hp->Prop),Inv X pins σ H s->t σ H Q->wpAny (model X.prog X.w) X.A (isTrue e X.env (eval e X.env)) (TP X pins σ Q) X.xe s
def PW(X:Cx)(e:aT)(t:TT):Prop :=
 ∀(whole:Sem ah) (pins:qO) (s:au) (σ:St) (H:Hp) (Q:Bool->Hp->Prop),Inv X pins σ H s->t σ H Q->wpAny (model X.prog X.w) X.A (isTrue e X.env whole) (TP X pins σ Q) X.xe s
theorem PW.pt{X:Cx}{e:aT}{t:TT}(h:PW X e t):PT X e t:=h _
def PA(X:Cx)(l:List aT)(t:TA):Prop :=
 ∀(pos:Pos) (pins:qO) (s:au) (σ:St) (H:Hp) (Q:List V->Hp->Prop),Inv X pins σ H s->t σ H Q->wpAny (model X.prog X.w) X.A (spliced (backTo pos (starEach l X.env))) (AP X pins σ Q) X.xe s
def PS(X:Cx)(st:dg)(t:TS):Prop :=
 ∀(pins:qO) (s:au) (σ:St) (H:Hp) (D:Ends),Inv X pins σ H s->t D σ H->wpAny (model X.prog X.w) X.A (exec st X.env) (SP X pins D) X.xe s
def PSs(X:Cx)(st:List dg)(t:TS):Prop :=
 ∀(pins:qO) (s:au) (σ:St) (H:Hp) (D:Ends),Inv X pins σ H s->t D σ H->wpAny (model X.prog X.w) X.A (execs st X.env) (SP X pins D) X.xe s
theorem thn{α:Type}{t:Sem α}{Q l:α->au->Prop}{M:rO}{A:bw}{E:qV}{s:au}(h:wpAny M A t Q E s)(u:∀a s,Q a s->l a s):wpAny M A t l E s:=cT h u fun _ _ x=>x
section
variable{X:Cx}
def tVar(i:Nat):TE:=fun σ H Q=>∃v,σ[i]?=some (some v)/\Q v H
def tC(v:V):TE:=fun _ H Q=>Q v H
theorem Q8{i:Nat}{x:Str}{pos:Pos}(L:X.N[i]?=some x)(R:Vis X.env.scope x)(hd:(x == ("__debug__":Str))=false:=by decide) (G:(x == ("__classdict__":Str))=false:=by decide):PE X (.Name x pos) (tVar i):=by
 intro pins s σ H Q I h;obtain⟨v,e,h⟩:=h;obtain⟨m,U,J⟩:=I.loc;obtain⟨u,r,l⟩:=J i x v L e R;have fin:EP X pins σ Q u s:=⟨v,H,I,r,h⟩;rcases l with⟨C,S⟩|⟨C,c,hc,y⟩
 ·exact oi (wpAny_loadName_local I.ok.kind C U S fin) hd
 ·rcases C with C|C
  ·exact oi (wpAny_loadName_cell I.ok.kind C hc y fin) hd
  ·exact oi (wpAny_loadName_free I.ok.kind C hc y fin G) hd
theorem JE{i j pos}:PE X (.Constant (.int i) j pos) (tC (.int i)):=fun _ _ _ H _ I h=>wpAny_Constant_int ⟨.int i,H,I.tok _,⟨_,rfl⟩,h⟩
theorem zp0{b j pos}:PE X (.Constant (.bool b) j pos) (tC (.bl b)):=fun _ _ _ H _ I h=>Constant_bool ⟨.bl b,H,I,rfl,h⟩
theorem zst{j pos}:PE X (.Constant .none j pos) (tC .non):=fun _ _ _ H _ I h=>Constant_none ⟨.non,H,I,rfl,h⟩
theorem zsp{x j pos}:PE X (.Constant (.str x) j pos) (tC (.str x)):=fun _ _ _ H _ I h=>Calls.Constant_str ⟨.str x,H,I.tok _,⟨_,rfl⟩,h⟩
def Gl(X:Cx)(x:Str):Prop:=X.env.kindOf x=some .globalImplicit
theorem Yd{E:qV}{pins:qO}{s:au}{σ:St}{H:Hp}{x:Str}{u:ah}{pos:Pos}{Q:qV}(I:Inv X pins σ H s)(v:Gl X x)(l:X.mg x=some u)(h:Q u s)
  (hd:(x == ("__debug__":Str))=false:=by decide):wpAny (model X.prog X.w) X.A (eval (.Name x pos) X.env) Q E s :=
 fH I.ok.kind v (i5 (by rw[I.ok.glob];exact I.mod.glob.keeps I.bk) l h) hd
theorem ZU{E:qV}{pins:qO}{s:au}{σ:St}{H:Hp}{x:Str}{u:ah}{pos:Pos}{Q:qV}(I:Inv X pins σ H s)(J:Gl X x)(y:X.mg x=none)(v:bootBuiltins x=some u)(h:Q u s)
  (G:x ≠ "__name__":=by decide) (hd:(x == ("__debug__":Str))=false:=by decide):wpAny (model X.prog X.w) X.A (eval (.Name x pos) X.env) Q E s:=by
 obtain⟨L,C,l⟩:=I.mod.blt;exact fH I.ok.kind J (Calls.loadGlobal_builtin (by rw[I.ok.glob];exact I.mod.glob.keeps I.bk) y (by rw[I.ok.blt];exact C.keeps I.bk) ((l x G).trans v) h) hd
theorem zpZ{x:Str}{v:V}{u:ah}{pos:Pos}(G:Gl X x)(l:X.mg x=none)(y:bootBuiltins x=some u)(r:RelV v u)(C:x ≠ "__name__":=by decide) (hd:(x == ("__debug__":Str))=false:=by decide):PE X (.Name x pos) (tC v) :=
 fun _ _ _ H _ I h=>ZU I G l y ⟨v,H,I,r,h⟩ C hd
variable{a b:aT}{ta tb:TE}{pos:Pos}
def PC(X:Cx)(op:nE)(a b:aT)(t:TE):Prop :=
 ∀(pins:qO) (s:au) (σ:St) (H:Hp) (Q:VK),Inv X pins σ H s->t σ H Q ->
  wpAny (model X.prog X.w) X.A (eval a X.env) (fun v l=>wpAny (model X.prog X.w) X.A (eval b X.env) (fun u x=>wpAny (model X.prog X.w) X.A (compareOp op v u) (EP X pins σ Q) X.xe x) X.xe l) X.xe s
def tB(t:TE):TT:=fun σ H Q=>t σ H fun x u=>∃c,x=.bl c/\Q c u
theorem zsd{op:nE}{t:TE}(h:PC X op a b t)(l:behindInMarks op b=false:=by first|exact nobehind _ (by decide) (by decide)|rfl):PT X (.Compare a [op] [b] pos) (tB t):=by
 intro pins s σ H Q I hw;refine kM (thn (h pins s σ H _ I hw) fun v s1 l=>thn l fun u s2 G=>thn G fun c s3 ⟨x,J,L,N,y⟩=>?_) l
 obtain⟨d,rfl,q⟩:=y;cases N;exact bz ⟨J,L,q⟩
variable{tA tB':TT}{rest:List aT}
def tAnd(t u:TT):TT:=fun σ H Q=>t σ H fun c l=>if c=true then u σ l Q else Q false l
def tOr(t u:TT):TT:=fun σ H Q=>t σ H fun c l=>if c=true then Q true l else u σ l Q
def tNot(t:TT):TT:=fun σ H Q=>t σ H fun c l=>Q (!c) l
theorem zpJ(u:PT X a tA):PW X (.BoolOp .And [a] pos) tA:=by
 intro v pins s σ H Q I h;refine isTrue_and (thn (u pins s σ H Q I h) fun c s1 e=>?_)
 cases c with
 | true=>exact isTrue_and_nil e
 | false=>exact e
theorem zr9(u:PT X a tA):PW X (.BoolOp .Or [a] pos) tA:=by
 intro v pins s σ H Q I h;refine isTrue_or (thn (u pins s σ H Q I h) fun c s1 e=>?_)
 cases c with
 | false=>exact isTrue_or_nil e
 | true=>exact e
theorem zr_(y:PT X a tA)(C:PW X (.BoolOp .And (b::rest) pos) tB'):PW X (.BoolOp .And (a::b::rest) pos) (tAnd tA tB'):=by
 intro G pins s σ H Q I h;refine isTrue_and (thn (y pins s σ H _ I h) fun c s1 ⟨x,v,u⟩=>?_)
 cases c with
 | true=>exact C G pins s1 σ x Q v u
 | false=>exact⟨x,v,u⟩
theorem zv3(y:PT X a tA)(C:PW X (.BoolOp .Or (b::rest) pos) tB'):PW X (.BoolOp .Or (a::b::rest) pos) (tOr tA tB'):=by
 intro G pins s σ H Q I h;refine isTrue_or (thn (y pins s σ H _ I h) fun c s1 ⟨x,v,u⟩=>?_)
 cases c with
 | true=>exact⟨x,v,u⟩
 | false=>exact C G pins s1 σ x Q v u
theorem zsc(l:PT X a tA):PT X (.UnaryOp .Not a pos) (tNot tA):=by
 intro pins s σ H Q I h;exact isTrue_not (l pins s σ H (fun c u=>Q (!c) u) I h)
def zvp(ta tb:TE):TE:=fun σ H Q=>ta σ H fun x u=>∃c,x=.bl c/\if c=true then tb σ u Q else Q (.bl false) u
def tOrV(ta tb:TE):TE:=fun σ H Q=>ta σ H fun x u=>∃c,x=.bl c/\if c=true then Q (.bl true) u else tb σ u Q
def zvj(ta:TE):TE:=fun σ H Q=>ta σ H fun x u=>∃c,x=.bl c/\Q (.bl (!c)) u
theorem zsr{op}{t:TE}(h:PE X a t):PE X (.BoolOp op [a] pos) t:=fun pins s σ H Q I hw=>BoolOp_one (h pins s σ H Q I hw)
theorem zsw(G:PE X a ta)(L:PE X (.BoolOp .And (b::rest) pos) tb):PE X (.BoolOp .And (a::b::rest) pos) (zvp ta tb):=by
 intro pins s σ H Q I h;refine BoolOp_and (thn (G pins s σ H _ I h) fun v s1 ⟨x,y,C,J,u⟩=>?_)
 obtain⟨c,rfl,u⟩:=u;cases J;refine bz ?_;cases c with
 | true=>exact L pins s1 σ y Q C u
 | false=>exact⟨.bl false,y,C,rfl,u⟩
theorem zv5(G:PE X a ta)(L:PE X (.BoolOp .Or (b::rest) pos) tb):PE X (.BoolOp .Or (a::b::rest) pos) (tOrV ta tb):=by
 intro pins s σ H Q I h;refine BoolOp_or (thn (G pins s σ H _ I h) fun v s1 ⟨x,y,C,J,u⟩=>?_)
 obtain⟨c,rfl,u⟩:=u;cases J;refine bz ?_;cases c with
 | false=>exact L pins s1 σ y Q C u
 | true=>exact⟨.bl true,y,C,rfl,u⟩
theorem zss(J:PE X a ta):PE X (.UnaryOp .Not a pos) (zvj ta):=by
 intro pins s σ H Q I h;refine UnaryOp_ (thn (J pins s σ H _ I h) fun v s1 ⟨x,L,C,G,u⟩=>?_)
 obtain⟨c,rfl,u⟩:=u;cases G;exact not_of (bz ⟨.bl (!c),L,C,rfl,u⟩)
end
def SqL(K:qF)(H:Hp)(a:ak)(xs:List V):Prop :=
 Rd H a (.lst xs) \/
  ∃(o:Obj) (u:Array ah) (n:Nat),K.lookup a=some o/\o.cls=.type "list" /\ o.dict=none/\o.data=.seq u n/\u.size<=sizeLine/\Vals xs u.toList
def SqT(K:qF)(H:Hp)(a:ak)(xs:List V):Prop :=
 Rd H a (.tup xs) \/
  ∃(o:Obj) (l:Array ah) (n:Nat),K.lookup a=some o/\o.cls=.type "tuple" /\ o.data=.seq l n/\l.size<=sizeLine/\Vals xs l.toList
def absV:ah->Option V
 | .none=>some .non
 | .bool b=>some (.bl b)
 | .int i _=>some (.int i)
 | .str x _=>some (.str x)
 | .bytes b _=>some (.byt b)
 | .float b _=>some (.flt b)
 | .ref a=>some (.ref a)
 | .type n=>some (.ty n)
 | _=>none
theorem RelV.abs{x:V}{u:ah}(r:RelV x u):absV u=some x:=by
 cases x with
 | non=>cases r;rfl
 | bl _=>cases r;rfl
 | int _=>obtain⟨t,rfl⟩:=r;rfl
 | str _=>obtain⟨t,rfl⟩:=r;rfl
 | byt _=>obtain⟨t,rfl⟩:=r;rfl
 | flt _=>obtain⟨t,rfl⟩:=r;rfl
 | ref _=>cases r;rfl
 | ty _=>cases r;rfl
theorem RelV.inj{x y:V}{u:ah}(r:RelV x u)(q:RelV y u):x=y:=aL (r.abs.symm.trans q.abs)
theorem Vals.inj{xs ys:List V}{l:List ah}(h:Vals xs l)(k:Vals ys l):xs=ys:=by
 induction h generalizing ys with
 | nil=>cases k;rfl
 | cons r t u =>
  cases k with
  | cons v t'=>rw[r.inj v,u t']
section
variable{X:Cx}{pins:qO}{σ:St}{H:Hp}{s:au}{a:ak}{xs ys:List V}
theorem SqL.of{K:qF}(h:H a=some (.lst xs)):SqL K H a xs:=.inl (.inl h)
theorem Inv.list(I:Inv X pins σ H s)(h:SqL X.K H a xs):∃l:List ah,Vals xs l/\PlainL s.heap a l.toArray/\xs.length<=sizeLine:=by
 rcases h with h|⟨o,l,n,u,hc,hd,v,x,r⟩
 ·obtain⟨z,l,n,r,e⟩:=h.ok I.hok;exact⟨l,r,⟨_,n,e,rfl,rfl,rfl⟩,z⟩
 ·refine⟨l.toList,r,⟨o,n,I.kIn a o u,hc,hd,by simpa using v⟩,?_⟩
  have e:=r.length;simp only[dN]at e;lia
theorem Inv.tuple(I:Inv X pins σ H s)(h:SqT X.K H a xs):∃l:List ah,Vals xs l/\l5 s.heap a l.toArray/\xs.length<=sizeLine:=by
 rcases h with h|⟨o,l,n,u,hc,v,x,r⟩
 ·obtain⟨z,l,r,p⟩:=h.ok I.hok;exact⟨l,r,p.tup,z⟩
 ·refine⟨l.toList,r,⟨o,I.kIn a o u,hc,n,by simpa using v⟩,?_⟩
  have e:=r.length;simp only[dN]at e;lia
theorem Inv.list_inj(I:Inv X pins σ H s)(h:SqL X.K H a xs)(h':SqL X.K H a ys):xs=ys:=by
 obtain⟨l,r,⟨o,n,e,_,_,d⟩,_⟩:=I.list h;obtain⟨its',v,⟨x,y,u,_,_,d'⟩,_⟩:=I.list h';rw[e]at u;cases u;rw[d]at d'
 injection d' with d1 _
 have:l=its':=by simpa using congrArg kg d1
 subst this;exact r.inj v
theorem Inv.tuple_inj(I:Inv X pins σ H s)(h:SqT X.K H a xs)(h':SqT X.K H a ys):xs=ys:=by
 obtain⟨l,r,⟨o,e,_,n,d⟩,_⟩:=I.tuple h;obtain⟨its',v,⟨x,u,_,y,d'⟩,_⟩:=I.tuple h';rw[e]at u;cases u;rw[d]at d'
 injection d' with d1 _
 have:l=its':=by simpa using congrArg kg d1
 subst this;exact r.inj v
end
abbrev Cx.wish(X:Cx)(E:qV):Cx:={ X with xe:=E }
abbrev Cx.nox(X:Cx):Cx:=X.wish fun _ _=>False
theorem Cx.Ok.wish{X:Cx}(ok:X.Ok)(E:qV):(X.wish E).Ok :=
 ⟨ok.mod,ok.kind,ok.glob,ok.blt,ok.above,ok.inj,ok.has,ok.cab,ok.hd,ok.frames,ok.stk,ok.exf,ok.bs,ok.bsz,ok.noex,ok.exfs,ok.funs,ok.frf⟩
theorem Cx.Ok.unwish{X:Cx}{E:qV}(ok:(X.wish E).Ok):X.Ok :=
 ⟨ok.mod,ok.kind,ok.glob,ok.blt,ok.above,ok.inj,ok.has,ok.cab,ok.hd,ok.frames,ok.stk,ok.exf,ok.bs,ok.bsz,ok.noex,ok.exfs,ok.funs,ok.frf⟩
section
variable{X:Cx}{pins:qO}{σ:St}{H:Hp}{s:au}{E:qV}
theorem Inv.wish(I:Inv X pins σ H s)(E:qV):Inv (X.wish E) pins σ H s:=⟨I.ok.wish E,I.os,I.bare,I.base,I.loc,I.cell,I.free,I.freeC,I.pin,I.hok,I.len⟩
theorem Inv.unwish(I:Inv (X.wish E) pins σ H s):Inv X pins σ H s:=⟨I.ok.unwish,I.os,I.bare,I.base,I.loc,I.cell,I.free,I.freeC,I.pin,I.hok,I.len⟩
theorem SP.unwish{D:Ends}{f:Flow}{s':au}(h:SP (X.wish E) pins D f s'):SP X pins D f s':=by
 cases f with
 | next=>obtain⟨σ',l,I,q⟩:=h;exact⟨σ',l,I.unwish,q⟩
 | brk=>obtain⟨σ',l,I,q⟩:=h;exact⟨σ',l,I.unwish,q⟩
 | cont=>obtain⟨σ',l,I,q⟩:=h;exact⟨σ',l,I.unwish,q⟩
 | ret u=>obtain⟨v,σ',l,I,r,q⟩:=h;exact⟨v,σ',l,I.unwish,r,q⟩
theorem PSs.nox{st:List dg}{t:TS}(h:PSs X.nox st t):PSs X st t:=fun pins s σ H D I hw =>
 cT (h pins s σ H D (I.wish _) hw) (fun _ _ q=>q.unwish) fun _ _ z=>cc z
end
section
variable{X:Cx}{st:dg}{rest:List dg}{t u:TS}{e:aT}{te:TE}{pos:Pos}
def zvk:TS:=fun D σ H=>D.nx σ H
def tSeq(t u:TS):TS:=fun D σ H=>t { D with nx:=u D } σ H
theorem ziD:PSs X [] zvk:=fun _ _ σ H _ I h=>fv ⟨σ,H,I,h⟩
theorem QH(x:PS X st t)(l:PSs X rest u):PSs X (st::rest) (tSeq t u):=by
 intro pins s σ H D I h;refine i6 (thn (x pins s σ H { D with nx:=u D } I h) fun f s1 q=>?_)
 cases f with
 | next =>
  obtain⟨σ',y,C,q⟩:=q;exact l pins s1 σ' y D C q
 | ret v=>exact q
 | brk=>exact q
 | cont=>exact q
theorem Ye(l:PS X st t):PSs X [st] t:=by
 intro pins s σ H D I h;refine i6 (thn (l pins s σ H D I h) fun f s1 q=>?_)
 cases f with
 | next=>exact fv q
 | ret v=>exact q
 | brk=>exact q
 | cont=>exact q
theorem Inv.quiet{pins:qO}{σ:St}{H:Hp}{s:au}(I:Inv X pins σ H s):interactive X.env=false:=by simp[interactive,I.ok.kind]
def zvo(te:TE):TS:=fun D σ H=>te σ H fun _ l=>D.nx σ l
theorem zpN(C:PE X e te)(J:swapsWith e none pos.line X.env=pure false:=by rfl):PS X (.Expr e pos) (zvo te):=by
 intro pins s σ H D I h;exact oj (thn (C pins s σ H _ I h) fun v s1 ⟨x,G,y,L,l⟩=>⟨σ,G,y,l⟩) I.quiet J
def tRet(te:TE):TS:=fun D σ H=>te σ H D.rt
theorem ZO(C:PE X e te):PS X (.Return (some e) pos) (tRet te):=by
 intro pins s σ H D I h;exact wpAny_Return_some (thn (C pins s σ H _ I h) fun v s1 ⟨x,J,y,G,l⟩=>⟨x,σ,J,y,G,l⟩)
def tIfS(c:TT)(t u:TS):TS:=fun D σ H=>c σ H fun b l=>if b=true then t D σ l else u D σ l
theorem zpM{c:aT}{a b:List dg}{y:TT}(hc:PT X c y)(C:PSs X a t)(G:PSs X b u):PS X (.If c a b pos) (tIfS y t u):=by
 intro pins s σ H D I h;refine wpAny_If (thn (hc pins s σ H _ I h) fun d s1 ⟨v,x,l⟩=>?_)
 cases d with
 | true=>exact C pins s1 σ v D x l
 | false=>exact G pins s1 σ v D x l
end
abbrev TG:=V->St->Hp->(St->Hp->Prop)->Prop
abbrev TGs:=List V->St->Hp->(St->Hp->Prop)->Prop
def PG(X:Cx)(target:aT)(t:TG):Prop :=
 ∀(pins:qO) (s:au) (σ:St) (H:Hp) (v:V) (u:ah) (Q:St->Hp->Prop),Inv X pins σ H s->RelV v u->t v σ H Q ->
  wpAny (model X.prog X.w) X.A (assign target X.env u) (fun _ s'=>∃σ' l,Inv X pins σ' l s'/\Q σ' l) X.xe s
def PGs(X:Cx)(ts:List aT)(t:TGs):Prop :=
 ∀(pins:qO) (s:au) (σ:St) (H:Hp) (v:List V) (u:List ah) (Q:St->Hp->Prop),Inv X pins σ H s->Vals v u->t v σ H Q ->
  wpAny (model X.prog X.w) X.A (assignInOrder ((assignEach ts X.env).map (·.2)) u) (fun _ s'=>∃σ' l,Inv X pins σ' l s'/\Q σ' l) X.xe s
abbrev TSet:=V->V->V->Hp->(Hp->Prop)->Prop
def PSet(X:Cx)(t:TSet):Prop :=
 ∀(pins:qO) (s:au) (σ:St) (H:Hp) (o i v:V) (x y u:ah) (Q:Hp->Prop),Inv X pins σ H s->RelV o x->RelV i y->RelV v u->t o i v H Q ->
  wpAny (model X.prog X.w) X.A (setItem x y u) (fun _ s'=>∃l,Inv X pins σ l s'/\Q l) X.xe s
section
variable{X:Cx}{pos:Pos}
def ZA(i:Nat):TG:=fun v σ H Q=>Q (σ.set i (some v)) H
theorem VV{i:Nat}{x:Str}(y:X.N.Nodup)(hi:X.N[i]?=some x)(hx:Loc X.env.scope x)(hf:X.fn x=true\/X.env.scope.names.lookup x=some .local:=by walk_at "F"):PG X (.Name x pos) (ZA i):=by
 intro pins s σ H v u Q I r h;exact l8 (Zh I y hi hx r (fun s' C=>⟨_,H,C,h⟩) hf)
def gNil:TGs:=fun l σ H Q=>l=[]/\Q σ H
def zwW(t:TG)(u:TGs):TGs:=fun x σ H Q=>∃v r,x=v::r/\t v σ H fun σ' l=>u r σ' l Q
theorem zlJ:PGs X [] gNil:=by
 intro pins s σ H u l Q I r h;obtain⟨e,h⟩:=h;subst e;cases r;exact l9 ⟨σ,H,I,h⟩
theorem Wb{e:aT}{l:List aT}{t:TG}{u:TGs}(S:PG X e t)(G:PGs X l u)
  (L:(assignEach (e::l) X.env).map (·.2)=assign e X.env::(assignEach l X.env).map (·.2):=by rfl):PGs X (e::l) (zwW t u):=by
 intro pins s σ H Z Y Q I r h;obtain⟨v,U,N,h⟩:=h;subst N;cases r with
 | cons r C =>
  rw[L];refine iu (thn (S pins s σ H _ _ _ I r h) fun _ s1 ⟨x,J,R,y⟩=>?_)
  exact G pins s1 x J _ _ Q R C y
def gTup(K:qF)(n:Nat)(t:TGs):TG:=fun v σ H Q=>∃a xs,v=.ref a/\SqT K H a xs/\xs.length=n/\t xs σ H Q
theorem zsn{y:List aT}{k:Nat}{t:TGs}{n:Nat}(hc:X.calm=true)(h:PGs X y t)
  (U:(assignEach y X.env).length=n:=by rfl) (C:(assignEach y X.env).findIdx? (·.1)=none:=by rfl):PG X (.Tuple y k pos) (gTup X.K n t):=by
 intro pins s σ H v u Q I r hw;obtain⟨a,xs,N,S,J,hw⟩:=hw;subst N;cases r;obtain⟨Y,G,L,Z⟩:=I.tuple S;refine assign_Tuple_tuple (I.ok.hd hc) L (by simp[U,<- J,G.length]) C fun h' hx=>?_
 have R:Inv X pins σ H { s with heap:=h' }:=I.kept (t':=s.toks) fun b o e=>hx b o (aF (aA e)) e
 exact h pins _ σ H xs _ Q R (by simpa using G) hw
def gSub(to ti:TE)(t:TSet):TG:=fun v σ H Q=>to σ H fun o u=>ti σ u fun i x=>t o i v x fun l=>Q σ l
theorem pg_sub{o i:aT}{to ti:TE}{t:TSet}(ho:PE X o to)(hi:PE X i ti)(hs:PSet X t)
  (ha:∀v,assign (.Subscript o i pos) X.env v=(do
   let l <- holding [v] (eval o X.env)
   let C <- holding [v,l] (eval i X.env)
   standAt pos
   holding [v,l,C] (setItem l C v)
   release [v,l,C] []):=by intro _;rfl):PG X (.Subscript o i pos) (gSub to ti t):=by
 intro pins s σ H v u Q I r h;rw[ha];refine ae (bU (thn (ho pins s σ H _ I h) fun l s1 ⟨x,Z,I1,r1,J⟩=>?_))
 refine ae (bU (thn (hi pins s1 σ Z _ I1 J) fun C s2 ⟨y,U,Y,L,q2⟩=>?_))
 refine ae (dA (ae (bU (thn (hs pins s2 σ U x y v l C u _ Y r1 L r q2) fun _ s3 ⟨N,G,R⟩=>?_))))
 exact wpAny_release ⟨σ,N,G,R⟩
def tAsg(l:TE)(g:TG):TS:=fun D σ H=>l σ H fun x u=>g x σ u D.nx
theorem ZN{tg e:aT}{l:TE}{g:TG}(N:PE X e l)(L:PG X tg g)(C:swapsWithSole [tg] e pos.line X.env=pure false:=by rfl)(hw:swappedStores [tg] e X.env=pure none:=by rfl)
  (J:(assignEach [tg] X.env).map (·.2)=[assign tg X.env]:=by rfl):PS X (.Assign [tg] e pos) (tAsg l g):=by
 intro pins s σ H D I h;refine wpAny_Assign_stores (thn (N pins s σ H _ I h) fun v s1 ⟨x,y,G,R,u⟩=>?_) C hw
 rw[J];exact thn (L pins s1 σ y x v _ G R u) fun _ s2 q=>q
theorem QK{i:Nat}{x:Str}{e:aT}{C:TE}{u:Pos}(J:X.N.Nodup)(hi:X.N[i]?=some x)(hx:Loc X.env.scope x)(Y:PE X e C)(S:swapsWith e (some (.Name x u)) pos.line X.env=pure false:=by rfl)(hf:X.fn x=true\/X.env.scope.names.lookup x=some .local:=by walk_at "F") :
  PS X (.Assign [.Name x u] e pos) (tAsg C (ZA i)):=by
 intro pins s σ H D I h;refine wpAny_Assign_Name (thn (Y pins s σ H _ I h) fun v s1 ⟨y,R,U,Z,G⟩=>?_) S
 exact Zh U J hi hx Z (fun s2 L=>⟨_,R,L,G⟩) hf
def tPar(i j:Nat)(l:TA):TS:=fun D σ H=>l σ H fun x u=>∃v w,x=[v,w]/\D.nx ((σ.set i (some v)).set j (some w)) u
theorem zsf{i j:Nat}{x y:Str}{a b:aT}{ta:TA}{S py pt:Pos}{kt k2 pt2}(hc:X.calm=true)(Z:X.N.Nodup)(hi:X.N[i]?=some x)(hj:X.N[j]?=some y)(L:i≠j)
  (hx:X.env.scope.names.lookup x=some .local) (Y:X.env.scope.names.lookup y=some .local) (ha:PA X [a,b] ta)
  (hw:swappedStores [.Tuple [.Name x S,.Name y py] kt pt] (.Tuple [a,b] k2 pt2) X.env=pure (some [x,y]))
  (hs:swapsWithSole [.Tuple [.Name x S,.Name y py] kt pt] (.Tuple [a,b] k2 pt2) pos.line X.env=pure false:=by rfl) :
  PS X (.Assign [.Tuple [.Name x S,.Name y py] kt pt] (.Tuple [a,b] k2 pt2) pos) (tPar i j ta):=by
 intro pins s σ H D I h;rw[exec_Assign_arm];refine ae (dA ?_);rw[hs];refine ae (aj ?_);rw[if_neg (by decide)]
 refine ae (Tuple_ (thn (ha _ pins s σ H _ I h) fun us s1 ⟨vs,H1,I1,r1,J⟩=>?_))
 obtain⟨v,w,e1,J⟩:=J;subst e1;obtain⟨C,G,rfl,rv,R⟩:∃C G,us=[C,G]/\RelV v C/\RelV w G:=by
  cases r1 with
  | cons p q =>
   cases q with
   | cons p' q' =>
    cases q';exact⟨_,_,rfl,p,p'⟩
 refine cZ ?_ (by show 2<=sizeLine;decide)
 have I2:Inv X pins σ H1 { s1 with heap:=s1.heap.push { cls:=.type "tuple",data:=.seq [C,G].toArray } }:=I1.kept (t':=s1.toks) fun b o e=>aq _ e
 rw[hw];refine ae (aj ?_);show wpAny (model X.prog X.w) X.A (do rule "assign.swapped-stores";let items <- unpackItems (.ref s1.heap.objs.size) 2 none;assignInOrder [fun v=>bindName X.env y v,fun v=>bindName X.env x v] items.reverse;pure xo) _ _ _
 refine ae (eP (ae (unpackItems_tuple (items:=#[C,G]) (I.ok.hd hc) (IsTup.new s1.heap _) fun h' U=>?_)))
 have I3:=I2.kept (h':=h') (t':=s1.toks) fun b o e=>U b o (aF (aA e)) e
 show wpAny _ _ (assignInOrder [fun v=>bindName X.env y v,fun v=>bindName X.env x v] [G,C] >>= fun _=>pure xo) _ _ _
 refine ae (iu (kT (Zh I3 Z hj (.inl Y) R (fun s2 I4=>?_) (.inr Y))))
 refine iu (kT (Zh I4 Z hi (.inl hx) rv (fun s3 I5=>l9 (aj ?_)) (.inr hx)))
 rw[List.set_comm _ _ (ke L)]at I5;exact⟨_,H1,I5,J⟩
end
section
variable{X:Cx}{pos:Pos}
def zrC(c:TT)(x:TS):TS:=fun D σ H=>∃W:Nat->St->Hp->Prop,(∃m,W m σ H)/\∀m σ H,W m σ H ->
 c σ H fun b v=>if b=true then ∃N:St->Hp->Prop,(∀σ' u,N σ' u->∃l,l<m/\W l σ' u)/\x { D with nx:=N,ct:=N,bk:=D.nx } σ v else D.nx σ v
theorem zn1{c:aT}{body:List dg}{tc:TT}{Y:TS}(hp:mV (model X.prog X.w) X.A X.env X.xe)(hc:PT X c tc)(hb:PSs X body Y):PS X (.While c body [] pos) (zrC tc Y):=by
 intro pins s σ H D I h;obtain⟨W,⟨m0,w0⟩,turn⟩:=h;refine wpAny_While (codeAny_whileLoop (fun n s'=>∃σ' H',Inv X pins σ' H' s'/\W n σ' H') ?_ m0 ⟨σ,H,I,w0⟩)
 rintro n s1 ⟨x,H1,I1,w1⟩;refine eI hp (thn (hc pins s1 x H1 _ I1 (turn n x H1 w1)) fun b s2 ⟨Z,I2,G⟩=>?_)
 cases b with
 | true =>
  obtain⟨N,hN,G⟩:=G;rw[if_pos rfl];refine eI hp (thn (hb pins s2 x Z _ I2 G) fun f s3 C=>?_)
  cases f with
  | next =>
   obtain⟨u,y,L,S⟩:=C;obtain⟨J,R,U⟩:=hN u y S;exact⟨J,R,u,y,L,U⟩
  | cont =>
   obtain⟨u,y,L,S⟩:=C;obtain⟨J,R,U⟩:=hN u y S;exact⟨J,R,u,y,L,U⟩
  | brk=>exact C
  | ret v=>exact C
 | false =>
  rw[if_neg aY];exact fv ⟨x,Z,I2,G⟩
end
structure It where
 go:Nat->Hp->Prop
 yld:Nat->Hp->V->Hp->Prop
 stop:Nat->Hp->Prop
def FpOk(X:Cx)(pins:qO)(H:Hp)(b:ak):Prop :=
 H b=none/\b≠X.env.locals/\b∉X.fs/\(b∈X.ex\/X.s₀.heap.objs.size<=b)/\(∀x c,X.env.cells.lookup x=some c->c≠b)/\∀p∈X.pn++pins,p.1≠b
theorem Inv.fpOk{X:Cx}{pins:qO}{σ:St}{H u:Hp}{s:au}{b:ak}(I:Inv X pins σ H s)(l:s.heap.objs.size<=b)(C:u b=none):FpOk X pins u b:=by
 refine⟨C,ma (aC I.lt l),I.nofs l,.inr (bY I.sz l),fun x c e z=>?_,fun p y z=>?_⟩
 ·obtain⟨v,q⟩:=I.cell x c e;exact absurd (aC q.lt (by rw[z];exact l)) (gf _)
 ·exact absurd (aC (aA (I.pin p y).1) (by rw[z];exact l)) (gf _)
structure Turn(P:aI)(w:aU)(K:qF)(tg:aT)(J:It)(fp:List ak)(it:ak)(tn:Nat->aS->Prop):Prop where
 mem:it∈fp
 obj:∀i h,tn i h->∀b∈fp,∃o,h.get? b=some o/\∀v,o.data≠.cell v
 keep:∀i h h',tn i h->(∀b∈fp,∀o,h.get? b=some o->h'.get? b=some o)->tn i h'
 item:∀(X:Cx),X.prog=P->X.w=w->X.K=K->X.calm=true->∀(i:Nat) (pins:qO) (s:au) (σ:St) (H:Hp) (E:qV),Inv X pins σ H s->(∀b∈fp,FpOk X pins H b)->tn i s.heap->J.go i H ->
  wpAny (model P w) X.A (pyNext (.ref it)) (fun r s1=>∃u,r=some u /\
   wpAny (model P w) X.A (letOwnedTupleGo tg (.ref it) u) (fun _ s2=>∃x H',Inv X pins σ H' s2/\RelV x u/\J.yld i H x H'/\tn (i+1) s2.heap/\∀b∈fp,H' b=none) E s1) E s
 done:∀(X:Cx),X.prog=P->X.w=w->X.K=K->X.calm=true->∀(i:Nat) (pins:qO) (s:au) (σ:St) (H:Hp) (E:qV),Inv X pins σ H s->(∀b∈fp,FpOk X pins H b)->tn i s.heap->J.stop i H ->
  wpAny (model P w) X.A (pyNext (.ref it)) (fun r s1=>r=none/\Inv X pins σ H s1) E s
 self:∀(A:bw) (i:Nat) (s:au) (Q:qV) (E:qV),tn i s.heap->Q (.ref it) s->wpAny (model P w) A (pyIter (.ref it)) Q E s
abbrev TI:=St->Hp->(It->Hp->Prop)->Prop
def PIE(X:Cx)(pins:qO)(σ:St)(tg:aT)(R:It->Hp->Prop)(u:ah)(s2:au):Prop :=
 ∃(it:ak) (v:List ak) (x:Nat->aS->Prop) (J:It) (l:Hp),u=.ref it/\Inv X pins σ l s2/\Turn X.prog X.w X.K tg J v it x/\x 0 s2.heap/\(∀b∈v,FpOk X pins l b)/\R J l
def PI(X:Cx)(tg iter:aT)(l:TI):Prop :=
 ∀(pins:qO) (s:au) (σ:St) (H:Hp) (R:It->Hp->Prop),Inv X pins σ H s->l σ H R ->
  wpAny (model X.prog X.w) X.A (eval iter X.env) (fun v s1=>wpAny (model X.prog X.w) X.A (pyIter v) (PIE X pins σ tg R) X.xe s1) X.xe s
theorem Vw{M:rO}{A:bw}{E:qV}{s:au}{tg:aT}{it:ak}{u:ah}{o:Obj}{n:String}{x:Array ah}{Q:Unit->au->Prop}(G:s.heap.get? it=some o)(hc:o.cls=.type n)(hd:o.data=.fields x)
  (C:["enumerate","zip","dict_itemiterator","dict_reverseitemiterator","odict_iterator","itertools.zip_longest","itertools.pairwise"].contains n=false) (v:Q () s):wpAny M A (letOwnedTupleGo tg (.ref it) u) Q E s:=by
 unfold letOwnedTupleGo;cases tg <;> first
  | exact aj v
  | (cases u <;> first
    | exact aj v
    | (refine ae (wpAny_load G ?_)
       rw[hc,hd];show wpAny M A (if (["enumerate","zip","dict_itemiterator","dict_reverseitemiterator","odict_iterator","itertools.zip_longest","itertools.pairwise"].contains n&&x[0]? == some (rawInt _))=true then _ else _) Q E s
       rw[if_neg (by intro h;rw[C,cf]at h;cases h)]
       exact aj v))
def Itl(K:qF)(a:ak):It :=
 ⟨fun i H=>∃xs x,SqL K H a xs/\xs[i]?=some x,fun i H x l=>l=H/\∀xs,SqL K H a xs->xs[i]?=some x,fun i H=>∃xs,SqL K H a xs/\xs.length<=i⟩
def Itt(K:qF)(a:ak):It :=
 ⟨fun i H=>∃xs x,SqT K H a xs/\xs[i]?=some x,fun i H x l=>l=H/\∀xs,SqT K H a xs->xs[i]?=some x,fun i H=>∃xs,SqT K H a xs/\xs.length<=i⟩
def Itr(lo:Int)(n:Nat):It:=⟨fun i _=>i<n,fun i H x l=>l=H/\x=.int (lo+i),fun i _=>n<=i⟩
theorem zgX{P:aI}{w:aU}{K:qF}{tg:aT}(a it:ak):Turn P w K tg (Itl K a) [it] it (fun i h=>h.IsListIter it a i) where
 mem:=by simp
 obj:=fun i h st b l=>by
  have e:b=it:=by simpa using l
  subst e;obtain⟨o,e,c,d⟩:=st;exact⟨o,e,fun v z=>by rw[d]at z;cases z⟩
 keep:=fun i h h' st k=>st.at fun o e=>k it (by simp) o e
 item:=by
  intro X N hw U hc i pins s σ H E I hf st R;subst N hw U;obtain⟨xs,x,C,hx⟩:=R;obtain⟨S,J,p,hz⟩:=I.list C;obtain⟨u,hu,ru⟩:=J.get hx;obtain⟨f0,f1,f2,L,f4,G⟩:=hf it (by simp)
  refine wpAny_pyNext_list_item st p.isList (x:=u) (by simpa using hu) fun h' y Z=>?_
  have I1:Inv X pins σ H { s with heap:=h' }:=I.turned (t':=s.toks) (fun b o l e=>(Z.2 b l).trans e) f0 f1 L f4 G
  obtain⟨o,e,c,d⟩:=id y;exact⟨u,rfl,Vw (s:={ s with heap:=h' }) e c d (by decide) ⟨x,H,I1,ru,⟨rfl,fun ys Y=>by rw[I.list_inj Y C];exact hx⟩,y,fun b l=>(hf b l).1⟩⟩
 done:=by
  intro X N hw U hc i pins s σ H E I hf st R;subst N hw U;obtain⟨xs,C,hx⟩:=R;obtain⟨S,J,p,hz⟩:=I.list C;obtain⟨f0,f1,f2,L,f4,G⟩:=hf it (by simp)
  have hl:=J.length;exact wpAny_pyNext_list_end (I.ok.hd hc) st p.isList (by simp;lia) fun h' eb=>⟨rfl,I.turned (t':=s.toks) (fun b o l e=>eb b o l e) f0 f1 L f4 G⟩
 self:=fun _ _ _ _ _ st h=>wpAny_pyIter_listiter st h
theorem zft{P:aI}{w:aU}{K:qF}{tg:aT}(a it:ak):Turn P w K tg (Itt K a) [it] it (fun i h=>h.IsTupleIter it a i) where
 mem:=by simp
 obj:=fun i h st b y=>by
  have e:b=it:=by simpa using y
  subst e;obtain⟨o,e,c,d⟩:=st;exact⟨o,e,fun v z=>by rw[d]at z;cases z⟩
 keep:=fun i h h' st k=>st.at fun o e=>k it (by simp) o e
 item:=by
  intro X R hw U hc i pins s σ H E I hf st S;subst R hw U;obtain⟨xs,x,G,hx⟩:=S;obtain⟨l,L,p,hz⟩:=I.tuple G;obtain⟨u,hu,ru⟩:=L.get hx;obtain⟨f0,f1,f2,N,f4,J⟩:=hf it (by simp)
  refine wpAny_pyNext_tuple_item st (show s.heap.IsTuple a l.toArray from p) (x:=u) (by simpa using hu) fun h' C Z=>?_
  have I1:Inv X pins σ H { s with heap:=h' }:=I.turned (t':=s.toks) (fun b o y e=>(Z.2 b y).trans e) f0 f1 N f4 J
  obtain⟨o,e,c,d⟩:=id C;exact⟨u,rfl,Vw (s:={ s with heap:=h' }) e c d (by decide) ⟨x,H,I1,ru,⟨rfl,fun ys Y=>by rw[I.tuple_inj Y G];exact hx⟩,C,fun b y=>(hf b y).1⟩⟩
 done:=by
  intro X R hw U hc i pins s σ H E I hf st S;subst R hw U;obtain⟨xs,G,hx⟩:=S;obtain⟨l,L,p,hz⟩:=I.tuple G;obtain⟨f0,f1,f2,N,f4,J⟩:=hf it (by simp)
  have hl:=L.length;exact wpAny_pyNext_tuple_end (I.ok.hd hc) st (show s.heap.IsTuple a l.toArray from p) (by simp;lia) fun h' eb=>⟨rfl,I.turned (t':=s.toks) (fun b o y e=>eb b o y e) f0 f1 N f4 J⟩
 self:=fun _ _ _ _ _ st h=>wpAny_pyIter_tupleiter st h
theorem zkj{P:aI}{w:aU}{K:qF}{tg:aT}(it:ak)(lo:Int)(n:Nat):Turn P w K tg (Itr lo n) [it] it (fun i h=>IsRangeIter h it (lo+(i:Nat)*1) ((n:Int) - (i:Nat)) 1) where
 mem:=by simp
 obj:=fun i h st b l=>by
  have e:b=it:=by simpa using l
  subst e;exact⟨_,st,fun v z=>by
   have L:Data.fields _=Data.cell v:=z;cases L⟩
 keep:=fun i h h' st k=>k it (by simp) _ st
 item:=by
  intro X C hw J hc i pins s σ H E I hf st G;subst C hw J;obtain⟨f0,f1,f2,y,f4,x⟩:=hf it (by simp)
  have W:=Walks.range (prog:=X.prog) (w:=X.w) (I.ok.hd hc) it lo 1 n;refine W.item i s _ _ G st fun v h' tk N u R=>?_
  obtain⟨t,rfl⟩:=N;have U:Inv X pins σ H { s with heap:=h',toks:=tk }:=I.turned (fun b o l e=>R b o (by simpa using l) e) f0 f1 y f4 x
  refine⟨_,rfl,Vw (s:={ s with heap:=h',toks:=tk }) (n:="range_iterator") u rfl rfl (by decide) ⟨.int (lo+i),H,U,⟨t,?_⟩,⟨rfl,rfl⟩,u,fun b l=>(hf b l).1⟩⟩
  rw[iO]
 done:=by
  intro X C hw J hc i pins s σ H E I hf st G;subst C hw J;obtain⟨f0,f1,f2,y,f4,x⟩:=hf it (by simp)
  exact wpAny_pyNext_range_end (I.ok.hd hc) st (by have:n<=i:=G;lia) fun h' S=>⟨rfl,I.turned (t':=s.toks) (fun b o l e=>S b o l e) f0 f1 y f4 x⟩
 self:=fun _ _ _ _ _ st h=>wpAny_pyIter_rangeiter st h
section
variable{X:Cx}{tg:aT}
def zwR(K:qF)(u:TE):TI:=fun σ H R=>u σ H fun x l=>∃a,x=.ref a/\(∃xs,SqL K l a xs)/\R (Itl K a) l
def iTup(K:qF)(u:TE):TI:=fun σ H R=>u σ H fun x l=>∃a,x=.ref a/\(∃xs,SqT K l a xs)/\R (Itt K a) l
theorem zlI{l:aT}{y:TE}(C:PE X l y):PI X tg l (zwR X.K y):=by
 intro pins s σ H R I h;refine thn (C pins s σ H _ I h) fun v s1 ⟨x,J,u,S,G⟩=>?_
 obtain⟨a,e,⟨xs,L⟩,q⟩:=G;subst e;cases S;obtain⟨N,Z,p,Y⟩:=u.list L;refine fD p.isList ?_;refine⟨s1.heap.objs.size,[s1.heap.objs.size],_,_,J,rfl,u.kept (t':=s1.toks) fun b o e=>aq _ e,zgX a _,⟨_,aD _ rfl,rfl,rfl⟩,fun b U=>?_,q⟩
 have e:b=s1.heap.objs.size:=by simpa using U
 subst e;exact u.fpOk (ay _) (u.hok.fresh (ay _))
theorem zsk{l:aT}{C:TE}(G:PE X l C):PI X tg l (iTup X.K C):=by
 intro pins s σ H R I h;refine thn (G pins s σ H _ I h) fun v s1 ⟨x,L,u,S,J⟩=>?_
 obtain⟨a,e,⟨xs,N⟩,q⟩:=J;subst e;cases S;obtain⟨y,Z,p,Y⟩:=u.tuple N;refine iw (show s1.heap.IsTuple a y.toArray from p) ?_
 refine⟨s1.heap.objs.size,[s1.heap.objs.size],_,_,L,rfl,u.kept (t':=s1.toks) fun b o e=>aq _ e,zft a _,⟨_,aD _ rfl,rfl,rfl⟩,fun b U=>?_,q⟩
 have e:b=s1.heap.objs.size:=by simpa using U
 subst e;exact u.fpOk (ay _) (u.hok.fresh (ay _))
theorem znY{pins:qO}{σ:St}{H:Hp}{s:au}{R:It->Hp->Prop}{E:qV}{lo hi:Int}{t u v:Tok}{tk:Nat}(I:Inv X pins σ H s)(L:-(2 ^ 62)<=lo)(C:lo<2 ^ 62)(S:-(2 ^ 62)<=hi)(U:hi<2 ^ 62)
  (q:R (Itr lo (hi - lo).toNat) H):wpAny (model X.prog X.w) X.A (pyIter (.ref s.heap.objs.size)) (PIE X pins σ tg R) E { s with heap:=s.heap.push { cls:=.type "range",data:=.fields #[.int lo t,.int hi u,.int 1 v] },toks:=tk }:=by
 refine wpAny_pyIter_range (IsRange.new ..) (small_one L C S U) ?_;have x:Inv X pins σ H { s with heap:=s.heap.push { cls:=.type "range",data:=.fields #[.int lo t,.int hi u,.int 1 v] },toks:=tk }:=I.kept fun b o e=>aq _ e
 refine⟨(s.heap.push { cls:=.type "range",data:=.fields #[.int lo t,.int hi u,.int 1 v] }).objs.size,[(s.heap.push { cls:=.type "range",data:=.fields #[.int lo t,.int hi u,.int 1 v] }).objs.size],_,_,H,rfl,
  x.kept (t':=tk) fun b o e=>aq _ e,zkj _ lo (hi - lo).toNat,?_,fun b Y=>?_,q⟩
 ·have G:lo+((0:Nat):Int)*1=lo:=by simp
  have J:(((hi - lo).toNat:Nat):Int) - ((0:Nat):Int)=rQ lo hi 1:=by rw[rangeSize_one];split <;> lia
  show IsRangeIter _ _ (lo+((0:Nat):Int)*1) ((((hi - lo).toNat:Nat):Int) - ((0:Nat):Int)) 1
  rw[G,J];exact aD _ rfl
 ·have e:b=(s.heap.push { cls:=.type "range",data:=.fields #[.int lo t,.int hi u,.int 1 v] }).objs.size:=by simpa using Y
  subst e;exact x.fpOk (ay _) (x.hok.fresh (ay _))
def zwQ(l:TA):TI:=fun σ H R=>l σ H fun v u=>∃j:Int,v=[.int j]/\-(2 ^ 62)<=j/\j<2 ^ 62/\R (Itr 0 j.toNat) u
theorem zlH{a:aT}{v:TA}{p pos:Pos}(U:Gl X "range") (G:X.mg "range" = none) (S:PA X [a] v) (y:starEach [a] X.env=[(false,eval a X.env)]:=by rfl):PI X tg (.Call (.Name "range" p) [a] [] pos) (zwQ v):=by
 intro pins s σ H R I h;refine Call_ (ZU I U G boot_range (fE (thn (S pos pins s σ H _ I h) fun us s1 ⟨vs,Z,L,Y,u⟩=>?_) y rfl))
 obtain⟨j,e,u,J,q⟩:=u;subst e;cases Y with
 | cons r x =>
  cases x;obtain⟨t,rfl⟩:=r;exact call_range_1 (znY L (by lia) (by lia) u J (by simpa using q))
def tFor(G:TI)(g:TG)(y:TS):TS:=fun D σ H=>G σ H fun J C=>∃W:Nat->Nat->St->Hp->Prop,(∃m,W 0 m σ C)/\∀i m σ H,W i m σ H ->
 (J.stop i H/\D.nx σ H)\/(J.go i H/\∃N:St->Hp->Prop,(∀σ' l,N σ' l->∃v,v<m/\W (i+1) v σ' l)/\∀x l,J.yld i H x l->g x σ l fun u I=>y { D with nx:=N,ct:=N,bk:=D.nx } u I)
def ZM(l:List ak)(h:aS):List (ak×Obj):=l.filterMap fun b=>(h.get? b).map fun o=>(b,o)
theorem Wq{l:List ak}{h:aS}{b:ak}{o:Obj}(u:b∈l)(e:h.get? b=some o):(b,o)∈ZM l h:=fg.mpr ⟨b,u,by rw[e];rfl⟩
theorem zl2{l:List ak}{h:aS}{p:ak×Obj}(u:p∈ZM l h):p.1∈l/\h.get? p.1=some p.2:=by
 obtain⟨b,v,e⟩:=fg.mp u;cases q:h.get? b with
 | none=>rw[q]at e;cases e
 | some o =>
  rw[q]at e;have x:(b,o)=p:=aL e;subst x;exact⟨v,q⟩
theorem Inv.pinned{pins:qO}{σ:St}{H:Hp}{s:au}{u:List ak}(I:Inv X pins σ H s)(hf:∀b∈u,FpOk X pins H b)(G:∀b∈u,∃o,s.heap.get? b=some o/\∀v,o.data≠.cell v):Inv X (pins++ZM u s.heap) σ H s :=
 I.pins_of fun p C=>(aB.mp C).elim (fun z=>I.pin p (bN _ z)) fun z=>by
  obtain⟨y,e⟩:=zl2 z;obtain⟨f0,f1,f2,_⟩:=hf p.1 y;obtain⟨o,x,d⟩:=G p.1 y;rw[e]at x;cases x;exact⟨e,f0,f1,f2,d⟩
theorem Inv.unpinned{pins pl:qO}{σ:St}{H:Hp}{s:au}(I:Inv X (pins++pl) σ H s):Inv X pins σ H s:=I.pins_of fun p l=>I.pin p (bN _ (kS _ l))
theorem zsg{iter:aT}{body:List dg}{wi:TI}{g:TG}{tb:TS}{pos:Pos}(hp:mV (model X.prog X.w) X.A X.env X.xe)(hc:X.calm=true)(hi:PI X tg iter wi)(hg:PG X tg g)(L:PSs X body tb)
  (hs:∀x,foldedSetIterable iter X.env x=pure x:=by intro _;rfl):PS X (.For tg iter body [] pos) (tFor wi g tb):=by
 intro pins s σ H D I h;refine wpAny_For (thn (hi pins s σ H _ I h) fun v s1 h1=>thn h1 fun itv s2 h2=>?_) hs
 obtain⟨it,Z,tn,J,H2,e,I2,T,st2,f2,W,⟨m0,w0⟩,turn⟩:=h2;subst e;have HN:∀{R:Hp},(∀b∈Z,R b=none)->∀b∈Z,FpOk X pins R b:=fun hn b L=>⟨hn b L,(f2 b L).2⟩
 refine codeAny_forLoop_any (fun n s'=>∃i σ' R,Inv X pins σ' R s'/\tn i s'.heap/\(∀b∈Z,R b=none)/\W i n σ' R) ?_ m0 ⟨0,σ,H2,I2,st2,fun b L=>(f2 b L).1,w0⟩
 rintro n s3 ⟨i,y,H3,I3,st3,Y,w3⟩;rcases turn i n y H3 w3 with⟨stop,qn⟩|⟨go,N,hN,step⟩
 ·refine eI hp (thn (T.done X rfl rfl rfl hc i pins s3 y H3 X.xe I3 (HN Y) st3 stop) fun r s4 ⟨hr,I4⟩=>?_)
  subst hr;exact fv ⟨y,H3,I4,qn⟩
 ·refine eI hp (thn (T.item X rfl rfl rfl hc i pins s3 y H3 X.xe I3 (HN Y) st3 go) fun r s4 ⟨u,hr,h4⟩=>?_)
  subst hr;refine eI hp (thn h4 fun _ s5 ⟨x,H5,I5,r5,y5,U,fr5⟩=>?_)
  have I5':=I5.pinned (HN fr5) (T.obj _ _ U);refine eI hp (thn (hg _ s5 y H5 x u _ I5' r5 (step x H5 y5)) fun _ s6 ⟨σ6,H6,I6,q6⟩=>?_)
  refine eI hp (thn (L _ s6 σ6 H6 _ I6 q6) fun f s7 S=>?_)
  have again:∀{l:St} {C:Hp},Inv X (pins++ZM Z s5.heap) l C s7->N l C->∃m,m<n/\∃i σ' R,Inv X pins σ' R s7/\tn i s7.heap/\(∀b∈Z,R b=none)/\W i m σ' R:=fun {l C} G n7=>by
   obtain⟨m',hm,w7⟩:=hN l C n7;refine⟨m',hm,i+1,l,C,G.unpinned,T.keep _ _ _ U fun b L o e=>(G.pin (b,o) (bN _ (bN _ (Wq L e)))).1,fun b L=>?_,w7⟩
   obtain⟨o,e,d⟩:=T.obj _ _ U b L;exact(G.pin (b,o) (bN _ (bN _ (Wq L e)))).2.1
  cases f with
  | next=>obtain⟨l,C,G,n7⟩:=S;exact again G n7
  | cont=>obtain⟨l,C,G,n7⟩:=S;exact again G n7
  | brk=>obtain⟨l,C,G,S⟩:=S;exact⟨l,C,G.unpinned,S⟩
  | ret v=>obtain⟨x7,l,C,G,r7,S⟩:=S;exact⟨x7,l,C,G.unpinned,r7,S⟩
end
abbrev R2:=V->V->Hp->VK->Prop
def OpR(X:Cx)(f:ah->ah->Sem ah)(r:R2):Prop :=
 ∀(pins:qO) (s:au) (σ:St) (H:Hp) (x y:V) (v u:ah) (Q:VK),Inv X pins σ H s->RelV x v->RelV y u->r x y H Q ->
  wpAny (model X.prog X.w) X.A (f v u) (EP X pins σ Q) X.xe s
def UnR(X:Cx)(f:ah->Sem ah)(r:V->Hp->VK->Prop):Prop :=
 ∀(pins:qO) (s:au) (σ:St) (H:Hp) (x:V) (v:ah) (Q:VK),Inv X pins σ H s->RelV x v->r x H Q ->
  wpAny (model X.prog X.w) X.A (f v) (EP X pins σ Q) X.xe s
def JO(X:Cx)(f:ah)(r:List V->Hp->VK->Prop):Prop :=
 ∀(pins:qO) (s:au) (σ:St) (H:Hp) (xs:List V) (l:List ah) (Q:VK),Inv X pins σ H s->Vals xs l->r xs H Q ->
  wpAny (model X.prog X.w) X.A (call f l) (EP X pins σ Q) X.xe s
def TruR(X:Cx)(r:V->Hp->(Bool->Hp->Prop)->Prop):Prop :=
 ∀(pins:qO) (s:au) (σ:St) (H:Hp) (x:V) (v:ah) (Q:Bool->Hp->Prop),Inv X pins σ H s->RelV x v->r x H Q ->
  wpAny (model X.prog X.w) X.A (truthy v) (TP X pins σ Q) X.xe s
def tOp(r:R2)(l u:TE):TE:=fun σ H Q=>l σ H fun x v=>u σ v fun y C=>r x y C Q
def tUn(r:V->Hp->VK->Prop)(l:TE):TE:=fun σ H Q=>l σ H fun x u=>r x u Q
def rI(C:Int->Int->Prop)(g:Int->Int->V):R2:=fun x y H Q=>∃i j,x=.int i/\y=.int j/\C i j/\Q (g i j) H
def rI0(g:Int->Int->V):R2:=fun x y H Q=>∃i j,x=.int i/\y=.int j/\Q (g i j) H
def rU(g:Int->V):V->Hp->VK->Prop:=fun x H Q=>∃i,x=.int i/\Q (g i) H
section
variable{X:Cx}{a b c:aT}{ta tb tc:TE}{pos:Pos}
theorem binT(Z:PE X a ta)(hb:PE X b tb){pins:qO}{s:au}{σ:St}{H:Hp}{R:V->V->Hp->Prop}(I:Inv X pins σ H s)
  (h:ta σ H fun x J=>tb σ J fun y l=>R x y l) {Q:qV} {f:ah->ah->Sem ah}
  (hf:∀v u s2 x y l,Inv X pins σ l s2->RelV x v->RelV y u->R x y l->wpAny (model X.prog X.w) X.A (f v u) Q X.xe s2) :
  wpAny (model X.prog X.w) X.A (eval a X.env) (fun v C=>wpAny (model X.prog X.w) X.A (eval b X.env) (fun u G=>wpAny (model X.prog X.w) X.A (f v u) Q X.xe G) X.xe C) X.xe s:=by
 refine thn (Z pins s σ H _ I h) fun v s1 ⟨x,J,Y,r1,L⟩=>?_
 refine thn (hb pins s1 σ J _ Y L) fun u s2 ⟨y,l,S,N,U⟩=>?_
 exact hf v u s2 x y l S r1 N U
theorem JD{op:Operator}{r:R2}(R:OpR X (binaryOp op) r)(J:PE X a ta)(L:PE X b tb):PE X (.BinOp a op b pos) (tOp r ta tb):=by
 intro pins s σ H Q I h;exact wpAny_BinOp (binT J L I h fun v u s2 x y l C G N q=>R pins s2 σ l x y v u Q C G N q)
theorem zv4{op:UnaryOp}{r:V->Hp->VK->Prop}(L:UnR X (unaryOp op) r)(G:PE X a ta):PE X (.UnaryOp op a pos) (tUn r ta):=by
 intro pins s σ H Q I h;exact UnaryOp_ (thn (G pins s σ H _ I h) fun v s1 ⟨x,J,u,C,l⟩=>L pins s1 σ J x v Q u C l)
theorem opI{f:ah->ah->Sem ah}{C:Int->Int->Prop}{g:Int->Int->Int}
  (rule:∀(i j:Int) (t u:Tok) (s:au) (Q:qV) (E:qV),C i j->Q (.int (g i j) s.toks) { s with toks:=s.toks+1 }->wpAny (model X.prog X.w) X.A (f (.int i t) (.int j u)) Q E s) :
  OpR X f (rI C fun i j=>.int (g i j)):=by
 intro pins s σ H x y v u Q I l G h;obtain⟨i,j,rfl,rfl,hc,q⟩:=h;obtain⟨t,rfl⟩:=l;obtain⟨t',rfl⟩:=G;exact rule i j t t' s _ _ hc ⟨.int (g i j),H,I.tok _,⟨_,rfl⟩,q⟩
theorem opI0{f:ah->ah->Sem ah}{g:Int->Int->Int}
  (rule:∀(i j:Int) (t u:Tok) (s:au) (Q:qV) (E:qV),Q (.int (g i j) s.toks) { s with toks:=s.toks+1 }->wpAny (model X.prog X.w) X.A (f (.int i t) (.int j u)) Q E s) :
  OpR X f (rI0 fun i j=>.int (g i j)):=by
 intro pins s σ H x y v u Q I l C h;obtain⟨i,j,rfl,rfl,q⟩:=h;obtain⟨t,rfl⟩:=l;obtain⟨t',rfl⟩:=C;exact rule i j t t' s _ _ ⟨.int (g i j),H,I.tok _,⟨_,rfl⟩,q⟩
theorem opB0{f:ah->ah->Sem ah}{g:Int->Int->Bool}
  (rule:∀(i j:Int) (t u:Tok) (s:au) (Q:qV) (E:qV),Q (.bool (g i j)) s->wpAny (model X.prog X.w) X.A (f (.int i t) (.int j u)) Q E s) :
  OpR X f (rI0 fun i j=>.bl (g i j)):=by
 intro pins s σ H x y v u Q I C G h;obtain⟨i,j,rfl,rfl,q⟩:=h;obtain⟨t,rfl⟩:=C;obtain⟨t',rfl⟩:=G;exact rule i j t t' s _ _ ⟨.bl (g i j),H,I,rfl,q⟩
def CPow(i j:Int):Prop:=0<=j/\j<=1000000/\i.natAbs<2 ^ 64
def CMul(i j:Int):Prop:=(-(2 ^ 64)<i/\i<2 ^ 64)\/(-(2 ^ 64)<j/\j<2 ^ 64)
theorem CMul.ok{i j:Int}(h:CMul i j):IntMulOk i j:=by
 rcases h with⟨v,u⟩|⟨v,u⟩
 ·exact .of_left (intBits_le_64 v u)
 ·exact .of_right (intBits_le_64 v u)
theorem zki(k:Nat):(0:Int)<=2 ^ k:=by
 rw[two_pow_cast];exact iy _
theorem Uq:OpR X (binaryOp .Add) (rI0 fun i j=>.int (i+j)):=opI0 fun _ _ _ _ _ _ _ q=>add_int q
theorem zsz:OpR X (binaryOp .Sub) (rI0 fun i j=>.int (i - j)):=opI0 fun _ _ _ _ _ _ _ q=>sub_int q
theorem Q7:OpR X (binaryOp .Mult) (rI CMul fun i j=>.int (i*j)):=opI fun _ _ _ _ _ _ _ hc q=>mul_int q hc.ok
theorem U5:OpR X (binaryOp .Mod) (rI (fun _ j=>0<j) fun i j=>.int (i % j)):=opI fun i j _ _ _ _ _ hc q=>by
 have l:(0:Int)<j:=hc;exact mod_int' (by lia) (by rw[Int.fmod_eq_emod_of_nonneg i (by lia)];exact q)
theorem zsC:OpR X (binaryOp .Pow) (rI CPow fun i j=>.int (i ^ j.toNat)):=opI fun _ _ _ _ _ _ _ hc q=>pow_int_small hc.1 hc.2.1 hc.2.2 q
theorem zsB:OpR X (binaryOp .LShift) (rI CPow fun i j=>.int (i*2 ^ j.toNat)):=opI fun _ _ _ _ _ _ _ hc q=>lshift_int_small hc.1 hc.2.1 hc.2.2 q
theorem zsA:OpR X (binaryOp .RShift) (rI (fun _ j=>0<=j) fun i j=>.int (i / 2 ^ j.toNat)):=opI fun i j _ _ _ _ _ hc q =>
 rshift_int hc (by rw[iz i (zki _)];exact q)
theorem zsM:OpR X (binaryOp .BitAnd) (rI0 fun i j=>.int (fI i j)):=opI0 fun _ _ _ _ _ _ _ q=>and_int q
theorem zsy:OpR X (binaryOp .BitXor) (rI0 fun i j=>.int (bH i j)):=opI0 fun _ _ _ _ _ _ _ q=>xor_int q
theorem unI{f:ah->Sem ah}{g:Int->Int}
  (rule:∀(i:Int) (t:Tok) (s:au) (Q:qV) (E:qV),Q (.int (g i) s.toks) { s with toks:=s.toks+1 }->wpAny (model X.prog X.w) X.A (f (.int i t)) Q E s) :
  UnR X f (rU fun i=>.int (g i)):=by
 intro pins s σ H x v Q I l h;obtain⟨i,rfl,q⟩:=h;obtain⟨t,rfl⟩:=l;exact rule i t s _ _ ⟨.int (g i),H,I.tok _,⟨_,rfl⟩,q⟩
theorem zrz:UnR X (unaryOp .USub) (rU fun i=>.int (-i)):=unI fun _ _ _ _ _ q=>neg_int q
end
def scal:V->V->Bool
 | .non,.non=>true|.non,.int _=>true|.int _,.non=>true|.non,.bl _=>true|.bl _,.non=>true|.non,.str _=>true|.str _,.non=>true
 | .int _,.int _=>true|.bl _,.bl _=>true|.str _,.str _=>true|.byt _,.byt _=>true
 | .int _,.str _=>true|.str _,.int _=>true|.bl _,.str _=>true|.str _,.bl _=>true
 | _,_=>false
def rEq:R2:=fun x y H Q=>scal x y=true/\Q (.bl (decide (x=y))) H
def rNe:R2:=fun x y H Q=>scal x y=true/\Q (.bl (!decide (x=y))) H
theorem zmR{i j:Int}:decide (V.int i=V.int j)=(i == j):=by
 rw[dh];simp
theorem zpq{i j:Bool}:decide (V.bl i=V.bl j)=(i == j):=by
 rw[dh];simp
theorem zmQ{i j:Str}:decide (V.str i=V.str j)=(i == j):=by
 rw[dh];simp
theorem zmS{i j:Array UInt8}:decide (V.byt i=V.byt j)=(i.toList == j.toList):=by
 rw[dh];cases i;cases j;simp
section
variable{X:Cx}{a b c:aT}{ta tb tc:TE}{pos:Pos}
theorem Jv{pins:qO}{σ:St}{H:Hp}{s:au}{Q:VK}{k u:Bool}(I:Inv X pins σ H s)(q:Q (.bl k) H)(e:k=u):EP X pins σ Q (.bool u) s:=by
 subst e;exact⟨.bl k,H,I,rfl,q⟩
theorem zwa:OpR X (compareOp .Eq) rEq:=by
 intro pins s σ H x y v u Q I G l h;obtain⟨C,q⟩:=h;cases x with
 | non =>
  cases G;cases y with
  | non=>cases l;exact oW (Jv I q (by simp))
  | bl j=>cases l;exact oX (Jv I q (by simp))
  | int j=>obtain⟨t',rfl⟩:=l;exact pM (Jv I q (by simp))
  | str j=>obtain⟨t',rfl⟩:=l;exact pN (Jv I q (by simp))
  | _=>exact absurd (show false=true from C) aY
 | bl i =>
  cases G;cases y with
  | non=>cases l;exact oY (Jv I q (by simp))
  | bl j=>cases l;exact eq_bool (Jv I q zpq)
  | str j=>obtain⟨t',rfl⟩:=l;exact oZ (Jv I q (by simp))
  | _=>exact absurd (show false=true from C) aY
 | int i =>
  obtain⟨t,rfl⟩:=G;cases y with
  | non=>cases l;exact pO (Jv I q (by simp))
  | int j=>obtain⟨t',rfl⟩:=l;exact eq_int (Jv I q zmR)
  | str j=>obtain⟨t',rfl⟩:=l;exact pP (Jv I q (by simp))
  | _=>exact absurd (show false=true from C) aY
 | str i =>
  obtain⟨t,rfl⟩:=G;cases y with
  | non=>cases l;exact pQ (Jv I q (by simp))
  | bl j=>cases l;exact o5 (Jv I q (by simp))
  | int j=>obtain⟨t',rfl⟩:=l;exact pR (Jv I q (by simp))
  | str j=>obtain⟨t',rfl⟩:=l;exact eq_str (Jv I q zmQ)
  | _=>exact absurd (show false=true from C) aY
 | byt i =>
  obtain⟨t,rfl⟩:=G;cases y with
  | byt j=>obtain⟨t',rfl⟩:=l;exact PySem.W.eq_bytes (Jv I q zmS)
  | _=>exact absurd (show false=true from C) aY
 | _=>cases y <;> exact absurd (show false=true from C) aY
theorem zv8:OpR X (compareOp .NotEq) rNe:=by
 intro pins s σ H x y v u Q I G l h;obtain⟨C,q⟩:=h;cases x with
 | non =>
  cases G;cases y with
  | non=>cases l;exact o6 (Jv I q (by simp))
  | bl j=>cases l;exact o7 (Jv I q (by simp))
  | int j=>obtain⟨t',rfl⟩:=l;exact pS (Jv I q (by simp))
  | str j=>obtain⟨t',rfl⟩:=l;exact pT (Jv I q (by simp))
  | _=>exact absurd (show false=true from C) aY
 | bl i =>
  cases G;cases y with
  | non=>cases l;exact o8 (Jv I q (by simp))
  | bl j=>cases l;exact ne_bool (Jv I q (congrArg not zpq))
  | str j=>obtain⟨t',rfl⟩:=l;exact o9 (Jv I q (by simp))
  | _=>exact absurd (show false=true from C) aY
 | int i =>
  obtain⟨t,rfl⟩:=G;cases y with
  | non=>cases l;exact pU (Jv I q (by simp))
  | int j=>obtain⟨t',rfl⟩:=l;exact ne_int (Jv I q (congrArg not zmR))
  | str j=>obtain⟨t',rfl⟩:=l;exact pV (Jv I q (by simp))
  | _=>exact absurd (show false=true from C) aY
 | str i =>
  obtain⟨t,rfl⟩:=G;cases y with
  | non=>cases l;exact pW (Jv I q (by simp))
  | bl j=>cases l;exact pd (Jv I q (by simp))
  | int j=>obtain⟨t',rfl⟩:=l;exact pX (Jv I q (by simp))
  | str j=>obtain⟨t',rfl⟩:=l;exact ne_str (Jv I q (congrArg not zmQ))
  | _=>exact absurd (show false=true from C) aY
 | byt i =>
  obtain⟨t,rfl⟩:=G;cases y with
  | byt j=>obtain⟨t',rfl⟩:=l;exact PySem.W.ne_bytes (Jv I q (congrArg not zmS))
  | _=>exact absurd (show false=true from C) aY
 | _=>cases y <;> exact absurd (show false=true from C) aY
theorem zsF:OpR X (compareOp .Lt) (rI0 fun i j=>.bl (decide (i<j))):=opB0 fun _ _ _ _ _ _ _ q=>lt_int q
theorem zv9:OpR X (compareOp .LtE) (rI0 fun i j=>.bl (decide (i<=j))):=opB0 fun _ _ _ _ _ _ _ q=>le_int q
theorem Ui:OpR X (compareOp .Gt) (rI0 fun i j=>.bl (decide (j<i))):=opB0 fun _ _ _ _ _ _ _ q=>gt_int q
theorem zsJ:OpR X (compareOp .GtE) (rI0 fun i j=>.bl (decide (j<=i))):=opB0 fun _ _ _ _ _ _ _ q=>ge_int q
theorem zlS:OpR X (compareOp .Lt) (fun x y H Q=>∃i j,x=.str i/\y=.str j/\Q (.bl (decide (i.cps.toList<j.cps.toList))) H):=by
 intro pins s σ H x y v u Q I C G h;obtain⟨i,j,rfl,rfl,q⟩:=h;obtain⟨t,rfl⟩:=C;obtain⟨t',rfl⟩:=G;exact lt_str (Jv I q rfl)
theorem zsG:OpR X (compareOp .Is) (fun x y H Q=>y=.non/\Q (.bl (decide (x=.non))) H):=by
 intro pins s σ H x y v u Q I C G h;obtain⟨rfl,q⟩:=h;cases G;refine is_none_gen (Jv I q ?_);cases x <;> first
  | (cases C;rfl)
  | (obtain⟨t,rfl⟩:=C;rfl)
theorem zp6:OpR X (compareOp .IsNot) (fun x y H Q=>y=.non/\Q (.bl (!decide (x=.non))) H):=by
 intro pins s σ H x y v u Q I C G h;obtain⟨rfl,q⟩:=h;cases G;refine isnot_none_gen (Jv I q ?_);cases x <;> first
  | (cases C;rfl)
  | (obtain⟨t,rfl⟩:=C;rfl)
theorem OpR.or{f:ah->ah->Sem ah}{r G:R2}(h:OpR X f r)(h':OpR X f G):OpR X f (fun x y H Q=>r x y H Q\/G x y H Q):=by
 intro pins s σ H x y v u Q I l C q;rcases q with q|q
 ·exact h pins s σ H x y v u Q I l C q
 ·exact h' pins s σ H x y v u Q I l C q
theorem Jj(b:aT){op:nE}(h:op≠.In:=by decide)(u:op≠.NotIn:=by decide):behindInMarks op b=false:=by
 have l:(op == CmpOp.In)=false:=by cases op <;> first|rfl|exact absurd rfl h
 have v:(op == CmpOp.NotIn)=false:=by cases op <;> first|rfl|exact absurd rfl u
 cases b <;> simp[behindInMarks,l,v]
theorem zlM{op:nE}{r:R2}(U:OpR X (compareOp op) r)(N:PE X a ta)(R:PE X b tb)(L:behindInMarks op b=false):PE X (.Compare a [op] [b] pos) (tOp r ta tb):=by
 intro pins s σ H Q I h;exact wpAny_Compare1 (binT N R I h fun v u s2 x y l G J S q=>U pins s2 σ l x y v u Q G J S q) L
def zrD(t:TE):TT:=fun σ H Q=>t σ H fun x u=>∃k,x=.bl k/\Q k u
theorem ziC{op:nE}{r:R2}(ho:OpR X (compareOp op) r)(ha:PE X a ta)(hb:PE X b tb)(Y:behindInMarks op b=false):PT X (.Compare a [op] [b] pos) (zrD (tOp r ta tb)):=by
 intro pins s σ H Q I h;refine kM (thn (ha pins s σ H _ I h) fun v s1 ⟨x,U,I1,r1,G⟩=>thn (hb pins s1 σ U _ I1 G) fun u s2 ⟨y,R,S,J,Z⟩ =>
  thn (ho pins s2 σ R x y v u _ S r1 J Z) fun c s3 ⟨z,L,l,r3,k,e,N⟩=>?_) Y
 subst e;cases r3;exact bz ⟨L,l,N⟩
def zo1(r G:R2)(ta tb tc:TE):TE:=fun σ H Q=>ta σ H fun x C=>tb σ C fun y I=>r x y I fun z u=>∃k,z=.bl k /\
 (if k=true then tc σ u fun v J=>G y v J Q else Q (.bl false) u)
theorem zn5{op G:nE}{r U:R2}(ho:OpR X (compareOp op) r)(J:OpR X (compareOp G) U)(ha:PE X a ta)(hb:PE X b tb)(hc:PE X c tc)
  (hm:lastMarks [op,G] [b,c]=false:=by with_unfolding_all rfl):PE X (.Compare a [op,G] [b,c] pos) (zo1 r U ta tb tc):=by
 intro pins s σ H Q I h;refine Compare_chain (thn (ha pins s σ H _ I h) fun v s1 ⟨x,H1,I1,r1,Y⟩=>chain_link (thn (hb pins s1 σ H1 _ I1 Y) fun u s2 ⟨y,Z,I2,N,q2⟩ =>
  thn (ho pins s2 σ Z x y v u _ I2 r1 N q2) fun d s3 ⟨z,R,L,r3,k,e,S⟩=>?_)) hm
 subst e;cases r3;refine bz ?_;cases k with
 | false=>exact ite_ff ⟨.bl false,R,L,rfl,S⟩
 | true=>exact ite_tt (chain_last (thn (hc pins s3 σ R _ L S) fun w' s4 ⟨z',H4,I4,r4,q4⟩=>J pins s4 σ H4 y z' u w' Q I4 N r4 q4))
theorem zn0{op l:nE}{r S:R2}(ho:OpR X (compareOp op) r)(G:OpR X (compareOp l) S)(ha:PE X a ta)(hb:PE X b tb)(hc:PE X c tc)
  (hm:lastMarks [op,l] [b,c]=false:=by with_unfolding_all rfl):PT X (.Compare a [op,l] [b,c] pos) (zrD (zo1 r S ta tb tc)):=by
 intro pins s σ H Q I h;refine isTrue_chain (thn (ha pins s σ H _ I h) fun v s1 ⟨x,H1,I1,r1,Y⟩=>test_link (thn (hb pins s1 σ H1 _ I1 Y) fun u s2 ⟨y,Z,I2,L,q2⟩ =>
  thn (ho pins s2 σ Z x y v u _ I2 r1 L q2) fun d s3 ⟨z,N,J,r3,k,e,R⟩=>?_)) hm
 subst e;cases r3;refine bz ?_;cases k with
 | false =>
  obtain⟨k',e',q'⟩:=R;cases e';exact ite_ff ⟨N,J,q'⟩
 | true =>
  refine ite_tt (test_last (thn (hc pins s3 σ N _ J R) fun w' s4 ⟨z',H4,I4,r4,q4⟩=>thn (G pins s4 σ H4 y z' u w' _ I4 L r4 q4) fun d' s5 ⟨z2,H5,I5,U,k2,e2,q5⟩=>?_))
  subst e2;cases U;exact bz ⟨H5,I5,q5⟩
def TruV(K:qF)(x:V)(H:Hp)(k:Bool):Prop :=
 match x with
 | .non=>k=false
 | .bl b=>k=b
 | .int i=>k=(i != 0)
 | .str y=>y.length<=sizeLine/\k=((y.length:Int) != 0)
 | .byt y=>y.size<=sizeLine/\k=((y.size:Int) != 0)
 | .ref p=>(∃xs,SqL K H p xs/\k=!xs.isEmpty)\/(∃xs,SqT K H p xs/\k=!xs.isEmpty)\/∃u,H p=some (.dK u)/\k=!u.isEmpty
 | _=>False
theorem zkV{u:Type}{l:List (u×V)}{v:List (u×ah)}(r:KV l v):(!v.isEmpty)=!l.isEmpty:=by
 cases r <;> rfl
theorem zfV{xs:List V}{l:List ah}(r:Vals xs l):(!l.toArray.isEmpty)=!xs.isEmpty:=by
 cases r <;> simp
theorem U4:(sizeLine:Nat)<2 ^ 63:=by rw[kU];decide
theorem zoZ:TruR X (fun x H Q=>∃k,TruV X.K x H k/\Q k H):=by
 intro pins s σ H x v Q I J h;obtain⟨k,e,q⟩:=h;have Y:=U4;have Z:sizeLine=16777216:=kU;cases x with
 | non =>
  cases J;have u:k=false:=e;subst u;exact truthy_none ⟨H,I,q⟩
 | bl b =>
  cases J;have u:k=b:=e;subst u;exact bz ⟨H,I,q⟩
 | int i =>
  obtain⟨t,rfl⟩:=J;have u:k=(i != 0):=e;subst u;exact PySem.P.truthy_int ⟨H,I,q⟩
 | str y =>
  obtain⟨t,rfl⟩:=J;obtain⟨S,u⟩:y.length<=sizeLine/\k=((y.length:Int) != 0):=e;subst u;exact PySem.P.truthy_str (by lia) ⟨H,I.tok _,q⟩
 | byt y =>
  obtain⟨t,rfl⟩:=J;obtain⟨S,u⟩:y.size<=sizeLine/\k=((y.size:Int) != 0):=e;subst u;exact PySem.W.truthy_bytes (by lia) ⟨H,I.tok _,q⟩
 | ref p =>
  cases J;have u:(∃xs,SqL X.K H p xs/\k=!xs.isEmpty)\/(∃xs,SqT X.K H p xs/\k=!xs.isEmpty)\/∃C,H p=some (.dK C)/\k=!C.isEmpty:=e;rcases u with⟨xs,hx,u⟩|⟨xs,hx,u⟩|⟨C,hx,u⟩
  ·subst u;obtain⟨N,r,pl,R⟩:=I.list hx;have G:=r.length;exact wpAny_truthy_list pl.isList (by simp only[ax];lia) ⟨H,I.tok _,by rw[zfV r];exact q⟩
  ·subst u;obtain⟨N,r,pl,R⟩:=I.tuple hx;have G:=r.length;exact truthy_tuple pl (by simp only[ax];lia) ⟨H,I.tok _,by rw[zfV r];exact q⟩
  ·subst u;obtain⟨R,U,L,r,m⟩:C.length<=sizeLine/\(p == sysModules)=false/\∃L,KV C L/\s.heap.DictOf (Vd X.prog X.w) p L:=I.hok p _ hx;have G:C.length=L.length:=lN r;exact wpAny_truthy_dict U m (by lia) ⟨H,I.tok _,by rw[zkV r];exact q⟩
 | _=>exact(show False from e).elim
theorem znZ(G:PE X a ta)(J:∀whole,isTrue a X.env whole=(do let v <- whole;standAt a.pos;holding [v] (truthy v))) :
  PT X a (fun σ H Q=>ta σ H fun x l=>∃k,TruV X.K x l k/\Q k l):=by
 intro pins s σ H Q I h;exact isTrue_plain (thn (G pins s σ H _ I h) fun v s1 ⟨x,y,C,L,u⟩=>zoZ pins s1 σ y x v Q C L u) (J _)
theorem zkq:OpR X (binaryOp .Add) (fun x y H Q=>∃i j,x=.str i/\y=.str j/\i.length+j.length<=sizeLine/\Q (.str (i++j)) H):=by
 intro pins s σ H x y v u Q I C G h;obtain⟨i,j,rfl,rfl,l,q⟩:=h;obtain⟨t,rfl⟩:=C;obtain⟨t',rfl⟩:=G;exact add_str (fun t' tk=>⟨.str (i++j),H,I.tok _,⟨_,rfl⟩,q⟩) l
theorem vals1{x:V}{l:List ah}(r:Vals [x] l):∃u,l=[u]/\RelV x u:=by
 cases r with
 | cons y v=>cases v;exact⟨_,rfl,y⟩
theorem vals2{x y:V}{v:List ah}(r:Vals [x,y] v):∃u l,v=[u,l]/\RelV x u/\RelV y l:=by
 cases r with
 | cons I C =>
  cases C with
  | cons J G=>cases G;exact⟨_,_,rfl,I,J⟩
theorem Wf(hc:X.calm=true):JO X (.builtin "max") (fun xs H Q=>∃i j,xs=[.int i,.int j]/\Q (.int (if j > i then j else i)) H):=by
 intro pins s σ H xs x Q I r h;obtain⟨i,j,rfl,q⟩:=h;obtain⟨u,v,rfl,⟨t,rfl⟩,⟨t',rfl⟩⟩:=vals2 r;refine max_two_ints (I.ok.hd hc) fun h' tk k=>⟨_,H,I.kept k,?_,q⟩
 by_cases hj:j > i
 ·rw[if_pos hj,if_pos hj];exact⟨_,rfl⟩
 ·rw[if_neg hj,if_neg hj];exact⟨_,rfl⟩
theorem Vo(hc:X.calm=true):JO X (.builtin "min") (fun xs H Q=>∃i j,xs=[.int i,.int j]/\Q (.int (if j<i then j else i)) H):=by
 intro pins s σ H xs x Q I r h;obtain⟨i,j,rfl,q⟩:=h;obtain⟨u,v,rfl,⟨t,rfl⟩,⟨t',rfl⟩⟩:=vals2 r;refine min_two_ints (I.ok.hd hc) fun h' tk k=>⟨_,H,I.kept k,?_,q⟩
 by_cases hj:j<i
 ·rw[if_pos hj,if_pos hj];exact⟨_,rfl⟩
 ·rw[if_neg hj,if_neg hj];exact⟨_,rfl⟩
theorem Vn:JO X (.type "int") (fun xs H Q=>(∃i,xs=[.int i]/\Q (.int i) H)\/∃k,xs=[.bl k]/\Q (.int (if k then 1 else 0)) H):=by
 intro pins s σ H xs x Q I r h;rcases h with⟨i,rfl,q⟩|⟨k,rfl,q⟩
 ·obtain⟨u,rfl,t,rfl⟩:=vals1 r;exact call_int_int ⟨.int i,H,I,⟨_,rfl⟩,q⟩
 ·obtain⟨u,rfl,v⟩:=vals1 r;cases v;exact call_int_bool ⟨.int (if k then 1 else 0),H,I.tok _,⟨_,rfl⟩,q⟩
def LenV(K:qF)(x:V)(H:Hp)(n:Nat):Prop :=
 match x with
 | .str y=>y.length<=sizeLine/\n=y.length
 | .byt y=>y.size<=sizeLine/\n=y.size
 | .ref p=>(∃xs,SqL K H p xs/\n=xs.length)\/∃xs,SqT K H p xs/\n=xs.length
 | _=>False
theorem Uc:JO X (.builtin "len") (fun xs H Q=>∃x n,xs=[x]/\LenV X.K x H n/\Q (.int n) H):=by
 intro pins s σ H xs Y Q I r h;obtain⟨x,n,rfl,e,q⟩:=h;obtain⟨u,rfl,J⟩:=vals1 r;have S:=U4;have U:sizeLine=16777216:=kU;cases x with
 | str y =>
  obtain⟨t,rfl⟩:=J;obtain⟨N,C⟩:y.length<=sizeLine/\n=y.length:=e;subst C;exact len_str (by lia) ⟨.int _,H,I.tok _,⟨_,rfl⟩,q⟩
 | byt y =>
  obtain⟨t,rfl⟩:=J;obtain⟨N,C⟩:y.size<=sizeLine/\n=y.size:=e;subst C;exact PySem.W.len_bytes (by lia) ⟨.int _,H,I.tok _,⟨_,rfl⟩,q⟩
 | ref p =>
  cases J;have C:(∃xs,SqL X.K H p xs/\n=xs.length)\/∃xs,SqT X.K H p xs/\n=xs.length:=e;rcases C with⟨xs,hx,C⟩|⟨xs,hx,C⟩
  ·subst C;obtain⟨L,G,pl,R⟩:=I.list hx;have v:=G.length;exact lG pl.isList (by simp only[ax];lia) ⟨.int xs.length,H,I.tok _,⟨_,by simp only[ax];rw[v]⟩,q⟩
  ·subst C;obtain⟨L,G,pl,R⟩:=I.tuple hx;have v:=G.length;exact len_tuple pl (by simp only[ax];lia) ⟨.int xs.length,H,I.tok _,⟨_,by simp only[ax];rw[v]⟩,q⟩
 | _=>exact(show False from e).elim
end
structure ObjM(h:aS)(x dx C:ak)(mA:qM):Prop where
 obj:h.get? x=some (kH C dx)
 ns:h.Ns1 dx mA
 ne:dx≠x
theorem zmh{h:aS}{v:ak}{x:qM}(n:h.Ns1 v x):∃C,h.get? v=some C/\∀name,kW name C=some (x name):=by
 obtain⟨o,u,R,N,hd,J,_,I⟩:=n;refine⟨o,N,fun name=>?_⟩
 have e:=I name;unfold nsFind findBy at e;rw[<- Array.find?_toList]at e;unfold kW;rw[hd];dsimp only;split
 ·rename_i y q;rw[q]at e;exact congrArg some e
 ·rename_i q;rw[q]at e;have a:u.toList.any (·.refKey)=false:=by
   rw[mf];intro y G;obtain⟨z,t,l⟩:=J y (Array.mem_toList_iff.mp G);simp[DictEntry.refKey,l]
  have L:¬u.toList.any (·.refKey)=true:=by rw[a];exact aY
  rw[if_neg L];exact congrArg some e
theorem ObjM.look{h:aS}{x u C:ak}{v:qM}(I:ObjM h x u C v):∃l,PySem.W.InstAt h x (kH C u) C (some l)/\∀name,kW name l=some (v name) :=
 let ⟨l,ho,hl⟩:=zmh I.ns
 ⟨l,⟨I.obj,rfl,rfl,ho⟩,hl⟩
section
variable{P:aI}{w:aU}{H H':Hp}{h h':aS}{a C dx:ak}{fs fs':List (Str×V)}
theorem zqD(hok:HOk P w H h)(e:H a=some (.ins C dx fs)):∃l,ObjM h a dx C l/\(∀f,RelO (fs.lookup f) (l f))/\sy l (fs.map (·.1))/\fs.length<=1000/\H dx=some (.own a):=by
 obtain⟨d,z,ne,u,l,n,r,q⟩:=(show JL P w H h a (.ins C dx fs) from hok a _ e)
 exact⟨l,⟨u,n,ne⟩,r,q,z,d⟩
end
structure Cls(K:qF)(C:ak):Prop where
 pg:mW K C iq=true
 hd:PySem.W.hasDictIn K C=true
 po:PySem.W.plainOver K C=true
 sa:oq K (.ref C) "__setattr__" = some (some (.builtin "object.__setattr__"))
theorem Cls.get{K:qF}{C:ak}(c:Cls K C)(f:Str):mW K C f=true:=c.pg
section
variable{X:Cx}{pins:qO}{σ:St}{H:Hp}{s:au}{A:bw}{E:qV}{Q:qV}{c:ah}{b:Bool}
inductive TyOf (K:qF)(H:Hp):V->ah->Prop where
 | non:TyOf K H .non (.type "NoneType")
 | bl (x:Bool):TyOf K H (.bl x) (.type "bool")
 | int (i:Int):TyOf K H (.int i) (.type "int")
 | str (x:Str):TyOf K H (.str x) (.type "str")
 | flt (x:UInt64):TyOf K H (.flt x) (.type "float")
 | lst {a:ak} {xs:List V} (e:H a=some (.lst xs)):TyOf K H (.ref a) (.type "list")
 | frz {a:ak} {o:Obj} {xs:List V} (e:H a=some (.frz o (.lst xs))):TyOf K H (.ref a) (.type "list")
 | tup {a:ak} {xs:List V} (e:H a=some (.tup xs)):TyOf K H (.ref a) (.type "tuple")
 | dK {a:ak} {kvs:List (Key×V)} (e:H a=some (.dK kvs)):TyOf K H (.ref a) (.type "dict")
 | dT {a:ak} {kvs:List (List Key×V)} (e:H a=some (.dT kvs)):TyOf K H (.ref a) (.type "dict")
 | ins {a C dx:ak} {fs:List (Str×V)} (e:H a=some (.ins C dx fs)) (cl:Cls K C) (ha:oq K (.ref C) "__class__" = some (some (.builtin "object.__class__")))
   (hn:PySem.W.specialIn K (.builtin "object.__class__") "__get__" = some (some (.builtin "getset_descriptor.__get__"))) (htk:PySem.W.takesIn K (.builtin "object.__class__")=some true)
   (hm:PySem.W.mroIn K C (.type "object")=some true):TyOf K H (.ref a) (.ref C)
theorem zmu{x:V}{u t:ah}(I:Inv X pins σ H s)(v:RelV x u)(ty:TyOf X.K H x t)(e:ot X.K t c=some b)(h:∀tk,Q (.bool b) { s with toks:=tk }) :
  wpAny (model X.prog X.w) A (call (.builtin "isinstance") [u,c]) Q E s:=by
 cases ty with
 | non=>cases(show u=ir from v);exact bG PySem.W.kitx_none I.kIn kh e (fun z=>nomatch z) h
 | bl y=>cases(show u=ee y from v);exact bG PySem.W.kitx_bool I.kIn kh e (fun z=>nomatch z) h
 | int i=>obtain⟨t,q⟩:=(show ∃t,u=rN i t from v);cases q;exact bG PySem.W.kitx_int I.kIn kh e (fun z=>nomatch z) h
 | str y=>obtain⟨t,q⟩:=(show ∃t,u=ip y t from v);cases q;exact bG PySem.W.kitx_str I.kIn kh e (fun z=>nomatch z) h
 | flt y=>obtain⟨t,q⟩:=(show ∃t,u=t8 y t from v);cases q;exact bG PySem.W.kitx_float I.kIn kh e (fun z=>nomatch z) h
 | @lst a xs ea =>
  cases(show u=b5 a from v)
  obtain⟨_,_,n,_,G⟩:=(show JL X.prog X.w H s.heap a (.lst xs) from I.hok a _ ea)
  exact bG mh I.kIn ⟨_,G,rfl⟩ e (fun z=>nomatch z) h
 | @frz a ob xs ea =>
  cases(show u=b5 a from v)
  obtain⟨_,_,_,n,_,G⟩:=(show JL X.prog X.w H s.heap a (.frz ob (.lst xs)) from I.hok a _ ea)
  exact bG mh I.kIn ⟨_,G,rfl⟩ e (fun z=>nomatch z) h
 | @tup a xs ea =>
  cases(show u=b5 a from v)
  obtain⟨_,_,_,p⟩:=(show JL X.prog X.w H s.heap a (.tup xs) from I.hok a _ ea)
  obtain⟨o,G,L,_⟩:=p;exact bG lS I.kIn ⟨o,G,L⟩ e (fun z=>nomatch z) h
 | @dK a kvs ea =>
  cases(show u=b5 a from v)
  obtain⟨_,_,Y,_,p⟩:=(show JL X.prog X.w H s.heap a (.dK kvs) from I.hok a _ ea)
  obtain⟨o,N,R,G,L,_⟩:=p;exact bG eK I.kIn ⟨o,G,L.1⟩ e (fun z=>nomatch z) h
 | @dT a kvs ea =>
  cases(show u=b5 a from v)
  obtain⟨_,_,xs,_,o,N,R,G,L,_⟩:=(show JL X.prog X.w H s.heap a (.dT kvs) from I.hok a _ ea)
  exact bG eK I.kIn ⟨o,G,L.1⟩ e (fun z=>nomatch z) h
 | @ins a C dx fs ea cl ha hn htk hm =>
  cases(show u=b5 a from v)
  obtain⟨S,O,_⟩:=zqD I.hok ea;obtain⟨U,J,_⟩:=O.look;exact bG (PySem.W.kitx_own (cl.get _) cl.hd ha hn htk hm) I.kIn J e (fun z=>nomatch z) h
end
structure Room(k:Nat)(A:bw):Prop where
 hd:A.handled=none
 dp:A.depth+3*k+5<recursionLimit
 un:A.units+16*k+200<cLine
 gd:A.guards=some []
theorem Room.mono{j k:Nat}{A:bw}(r:Room k A)(h:j<=k):Room j A:=⟨r.hd,by have:=r.dp;lia,by have:=r.un;lia,r.gd⟩
theorem Room.deeper{k:Nat}{A:bw}(r:Room (k+1) A)(env:Env):Room k (A.deeper env) :=
 ⟨r.hd,by have:=r.dp;show A.depth+1+3*k+5<_;lia,by have:=r.un;show A.units+3+16*k+200<_;lia,r.gd⟩
theorem Room.depth{k:Nat}{A:bw}(r:Room k A):A.depth<recursionLimit:=by have:=r.dp;lia
theorem Room.units{k:Nat}{A:bw}(r:Room k A):A.units+64<cLine:=by have:=r.un;lia
theorem Room.units0{k:Nat}{A:bw}(r:Room k A):A.units<cLine:=by have:=r.un;lia
def tNil:TA:=fun _ H Q=>Q [] H
def QP(l:TE)(u:TA):TA:=fun σ H Q=>l σ H fun x v=>u σ v fun xs y=>Q (x::xs) y
section
variable{X:Cx}{e:aT}{es:List aT}{te:TE}{t:TA}{pos:Pos}
theorem UM:PA X [] tNil:=fun _ _ _ _ H Q I h=>Calls.spliced_nil ⟨[],H,I,.nil,h⟩
theorem QZ(R:PE X e te)(S:PA X es t)(J:starEach (e::es) X.env=(false,eval e X.env)::starEach es X.env:=by rfl):PA X (e::es) (QP te t):=by
 intro pos pins s σ H Q I h;rw[J];show wpAny _ _ (spliced ((false,eval e X.env)::backTo pos (starEach es X.env))) _ _ s
 refine Calls.spliced_cons (thn (R pins s σ H _ I h) fun u s1 ⟨x,G,N,U,l⟩=>?_)
 exact thn (S pos pins s1 σ G _ N l) fun Y s2 ⟨xs,y,C,v,L⟩=>⟨x::xs,y,C,.cons U v,L⟩
def tTup(t:TA):TE:=fun σ H Q=>t σ H fun xs l=>xs.length<=sizeLine/\∀p,l p=none->Q (.ref p) (upd l p (.tup xs))
def tLst(t:TA):TE:=fun σ H Q=>t σ H fun xs u=>xs.length<=sizeLine/\∀p,u p=none->Q (.ref p) (upd u p (.lst xs))
theorem zpb{x1}(h:PA X es t):PE X (.Tuple es x1 pos) (tTup t):=by
 intro pins s σ H Q I y;refine wpAny_Tuple_spliced (thn (h pos pins s σ H _ I y) fun C s1 ⟨xs,v,x,r,z,q⟩=>⟨by rw[<- r.length];exact z,?_⟩)
 have hf:v s1.heap.objs.size=none:=x.hok.fresh (ay _);refine⟨.ref s1.heap.objs.size,upd v s1.heap.objs.size (.tup xs),x.laid (t':=s1.toks) (fun b u e=>aq _ e) (ay _) ?_,rfl,q _ hf⟩
 exact⟨z,C,r,⟨_,aD _ rfl,rfl,⟨_,rfl⟩,rfl⟩⟩
theorem zsu(h:PA X es t):PE X (.List es pos) (tLst t):=by
 intro pins s σ H Q I y;refine wpAny_List_spliced (thn (h pos pins s σ H _ I y) fun C s1 ⟨xs,v,x,r,z,q⟩=>⟨by rw[<- r.length];exact z,?_⟩)
 have hf:v s1.heap.objs.size=none:=x.hok.fresh (ay _);refine⟨.ref s1.heap.objs.size,upd v s1.heap.objs.size (.lst xs),x.laid (t':=s1.toks) (fun b u e=>aq _ e) (ay _) ?_,rfl,q _ hf⟩
 exact⟨z,C,0,r,aD _ rfl⟩
end
abbrev Sp:=List V->Hp->VK->XK->Prop
abbrev CXT:=List Env->Hp->au->XK->ah->au->Prop
structure Env0(P:aI)(w:aU)(K:qF)(mg:qM)(base:aS)(A:bw)(outer:List Env)(s:au)(H:Hp):Prop where
 frames:A.frames=some outer
 mod:Mod K mg base
 bs:∀b o,base.get? b=some o->s.heap.get? b=some o/\H b=none
 bsz:base.objs.size<=s.heap.objs.size
 funs:s.heap.FunFrames base outer
 frf:∀b∈frs outer,H b=none
 hok:HOk P w H s.heap
 bare:g8 s.gens
def CE(outer:List Env)(P:aI)(w:aU)(H:Hp)(s:au)(Q:VK)(u:ah)(s':au):Prop :=
 ∃v l,s'.os=s.os/\g8 s'.gens/\Un (frs outer) [] H l s.heap s'.heap/\HOk P w l s'.heap/\RelV v u/\Q v l
def CR(l:CXT)(outer:List Env)(P:aI)(w:aU)(H:Hp)(s:au)(Q:VK)(E:XK)(r:mX)(s':au):Prop :=
 match r with
 | .ok (.ret u)=>CE outer P w H s Q u s'
 | .ok _=>False
 | .error e=>l outer H s E e s'
structure FnOk(P:aI)(w:aU)(K:qF)(mg:qM)(base:aS)(CX:CXT)(k:Nat)(f:ak)(fd:cK)(ps:List Str)(sp:Sp):Prop where
 len:∀vs H Q E,sp vs H Q E->vs.length=ps.length
 run:∀(A:bw) (outer:List Env) (s:au) (H:Hp) (args:Args) (us:List ah) (vs:List V) (Q:VK) (E:XK),Room k A->Env0 P w K mg base A outer s H->oh s fd args (ps.zip us)->Vals vs us->sp vs H Q E ->
  codeAny (model P w) A (.call (.ref f) args) (CR CX outer P w H s Q E) s
theorem FnOk.imp{P:aI}{w:aU}{K:qF}{mg:qM}{base:aS}{x:CXT}{k:Nat}{f:ak}{fd:cK}{ps:List Str}{v u:Sp}(F:FnOk P w K mg base x k f fd ps v)
  (h:∀l H Q E,u l H Q E->v l H Q E):FnOk P w K mg base x k f fd ps u :=
 ⟨fun l H Q E q=>F.len l H Q E (h _ _ _ _ q),fun A outer s H args L l Q E G I J y C=>F.run A outer s H args L l Q E G I J y (h _ _ _ _ C)⟩
section
variable{X:Cx}{pins:qO}{σ:St}{H:Hp}{s s':au}
theorem Inv.env0(I:Inv X pins σ H s):Env0 X.prog X.w X.K X.mg X.base X.A X.stack s H :=
 ⟨I.ok.frames,I.ok.mod,I.bs,bY I.ok.bsz I.sz,I.stack,I.stkFree,I.hok,I.bare⟩
theorem Inv.after{Q:VK}{u:ah}(I:Inv X pins σ H s)(h:CE X.stack X.prog X.w H s Q u s'):EP X pins σ Q u s':=by
 obtain⟨v,x,os,bare,un,hok,r,q⟩:=h;obtain⟨y,g,d,t,l⟩:=s';obtain rfl:l=s.os:=os;exact⟨v,x,I.call (h':=y) (g':=g) (d':=d) (t':=t) (ch:=[]) un hok bare (fun b z=>absurd z (by simp)),r,q⟩
end
def zrG(u:Sp)(l:List V)(E:XK)(t:TA):TE:=fun σ H Q=>t σ H fun x v=>u (x++l) v Q E
def Binds(K:qF)(fd:cK)(ps:List Str)(ds:List ah):Prop :=
 ∀(s:au) (u:List ah),K.In s.heap->(u++ds).length=ps.length->oh s fd ⟨u,[]⟩ (ps.zip (u++ds))
theorem Binds.all{K:qF}{fd:cK}{ps:List Str}(h:∀l:List ah,l.length=ps.length->bindArgs fd ⟨l,[]⟩=pure (ps.zip l)):Binds K fd ps []:=fun s l _ u=>by
 rw[bK]at u ⊢;exact .of_eq (h l u)
def Vz(l:CXT)(X:Cx)(E:XK):Prop:=∀(pins:qO) (σ:St) (H:Hp) (s:au) (e:ah) (s':au),Inv X pins σ H s->l X.stack H s E e s'->X.xe e s'
section
variable{X:Cx}{CX:CXT}{k:Nat}{f C:ak}{fd:cK}{ps:List Str}{sp:Sp}{dvs:List V}{ds:List ah}{E:XK}{x m:Str}{p pos apos:Pos}{e o:aT}{es:List aT}{ta:TE}{t:TA}
theorem zo6{pins:qO}{σ:St}{H:Hp}{s:au}{Q:VK}{v:List ah}{G:List V}(F:FnOk X.prog X.w X.K X.mg X.base CX k f fd ps sp)(N:Room k X.A)(R:Binds X.K fd ps ds)(hd:Vals dvs ds)(hx:Vz CX X E)
  (I:Inv X pins σ H s) (r:Vals G v) (h:sp (G++dvs) H Q E):wpAny (model X.prog X.w) X.A (call (.ref f) v) (EP X pins σ Q) X.xe s:=by
 have J:Vals (G++dvs) (v++ds):=r.append hd;have L:(v++ds).length=ps.length:=by rw[<- J.length];exact F.len _ _ _ _ h
 refine lT (gA (F.run X.A X.stack s H ⟨v,[]⟩ (v++ds) (G++dvs) Q E N I.env0 (R s v I.kIn L) J h) fun r s' y=>?_)
 cases r with
 | error e=>exact hx pins σ H s e s' I y
 | ok fl =>
  cases fl with
  | ret u=>exact I.after y
  | next=>exact cc y
  | brk=>exact cc y
  | cont=>exact cc y
theorem zpW(F:FnOk X.prog X.w X.K X.mg X.base CX k f fd ps sp)(U:Room k X.A)(S:Gl X x)(J:X.mg x=some (.ref f))(R:gC X.K (.ref f)=true)(Z:Binds X.K fd ps ds)(hd:Vals dvs ds)(hx:Vz CX X E)
  (L:PA X (e::es) t) (v:(x == ("__debug__":Str))=false:=by decide) (Y:starEach (e::es) X.env=(false,eval e X.env)::starEach es X.env:=by rfl) (u:(backTo pos (starEach es X.env)).any (·.1)=false:=by rfl) :
  PE X (.Call (.Name x p) (e::es) [] pos) (zrG sp dvs E t):=by
 intro pins s σ H Q I h;refine fh (Yd I S J ?_ v);refine iA (h₀:=X.base) I.ok.mod.kin R (thn (L pos pins s σ H _ I h) fun us s1 ⟨vs,H1,G,r,q⟩=>⟨G.kIn,?_⟩) Y u
 exact zo6 F U Z hd hx G r q
end
structure Ur(N P:List Str)(sc:fc):Prop where
 kind:sc.kind=.function
 co:sc.isCoroutine=false
 gen:sc.isGenerator=false
 nd:N.Nodup
 pre:N.take P.length=P
 par:∀x∈P,sc.names.lookup x=some .local\/sc.names.lookup x=some .cell
 nofree:∀y∈sc.names,y.2≠.free
theorem zio{kindOf:Str->Option er}{x:Str}:∀{binds:List (Str×ah)}{m:qM},(∀v,(x,v)∉binds)->bindL kindOf binds m x=m x
 | [],_,_=>rfl
 | (n,v)::r,m,h=>by
  unfold bindL;rw[zio fun w hw=>h w (cF _ hw)]
  split
  ·have:x≠n:=by rintro rfl;exact h v cS
   simp[this]
  ·rfl
theorem zir{kindOf:Str->Option er}{x:Str}:∀{binds:List (Str×ah)}{m:qM},(∀v,(x,v)∉binds)->bindC kindOf binds m x=m x
 | [],_,_=>rfl
 | (n,v)::r,m,h=>by
  unfold bindC;rw[zir fun w hw=>h w (cF _ hw)]
  split
  ·rfl
  ·have:x≠n:=by rintro rfl;exact h v cS
   simp[this]
theorem ziq{kindOf:Str->Option er}{x:Str}{v:ah}:∀{P:List Str}{u:List ah}{i:Nat}{m:qM},P.Nodup->P[i]?=some x->u[i]?=some v->kindOf x=some .local ->
  bindL kindOf (P.zip u) m x=some v
 | [],_,_,_,_,h,_,_=>by simp at h
 | _::_,[],_,_,_,_,h,_=>by simp at h
 | p::P,w::u,0,m,nd,h1,h2,hk=>by
  simp at h1 h2;subst h1;subst h2;show bindL kindOf ((p,w)::P.zip u) m p=_
  unfold bindL;rw[zio fun v y=>(eJ.mp nd).1 (dJ y).1,if_pos hk]
  simp
 | p::P,w::u,i+1,m,nd,h1,h2,hk=>by
  show bindL kindOf ((p,w)::P.zip u) m x=_
  unfold bindL;exact ziq (i:=i) (eJ.mp nd).2 (by simpa using h1) (by simpa using h2) hk
theorem zis{kindOf:Str->Option er}{x:Str}{v:ah}:∀{P:List Str}{u:List ah}{i:Nat}{m:qM},P.Nodup->P[i]?=some x->u[i]?=some v->kindOf x≠some .local ->
  bindC kindOf (P.zip u) m x=some v
 | [],_,_,_,_,h,_,_=>by simp at h
 | _::_,[],_,_,_,_,h,_=>by simp at h
 | p::P,w::u,0,m,nd,h1,h2,hk=>by
  simp at h1 h2;subst h1;subst h2;show bindC kindOf ((p,w)::P.zip u) m p=_
  unfold bindC;rw[zir fun v y=>(eJ.mp nd).1 (dJ y).1,if_neg hk]
  simp
 | p::P,w::u,i+1,m,nd,h1,h2,hk=>by
  show bindC kindOf ((p,w)::P.zip u) m x=_
  unfold bindC;exact zis (i:=i) (eJ.mp nd).2 (by simpa using h1) (by simpa using h2) hk
def start(N:List Str)(l:List V):St:=l.map some++bM (N.length - l.length) none
def cxOf(u:CXT)(P:aI)(w:aU)(K:qF)(mg:qM)(base:aS)(N:List Str)(qual:Str)(scope:fc)(f:ak)(cd:ah)(A:bw)(outer:List Env)(s:au)(H:Hp)(E:XK):Cx where
 prog:=P
 w:=w
 K:=K
 mg:=mg
 base:=base
 A:=A.deeper (envOfC qual scope s.heap.objs.size f cd)
 N:=N
 s₀:=s
 H₀:=H
 env:=envOfC qual scope s.heap.objs.size f cd
 outer:=outer
 stack:=envOfC qual scope s.heap.objs.size f cd::outer
 ex:=[]
 calm:=true
 fn:=fun _=>true
 pn:=[]
 xe:=fun e s'=>wpAny (model P w) (A.deeper (envOfC qual scope s.heap.objs.size f cd)) (leaving (envOfC qual scope s.heap.objs.size f cd) e) (fun _ l=>u outer H s E e l) (fun v l=>u outer H s E v l) s'
theorem zj_{sc:fc}{n:Nat}{x:Str}(h:sc.names.lookup x=some .cell):∃c,(cellsFrom n sc.names []).lookup x=some c:=by
 have q:=ki sc.names n [] (.inl h);exact iU.mp q
theorem zmw{CX:CXT}{P:aI}{w:aU}{K:qF}{mg:qM}{base:aS}{N ps:List Str}{qual:Str}{scope:fc}{f:ak}{cd:ah}{A:bw}{outer:List Env}{s s1:au}{H:Hp}{E:XK}{Z:List ah}{L:List V}
  (S:Ur N ps scope) (hd:A.handled=none) (G:Env0 P w K mg base A outer s H) (hl:L.length=ps.length) (r:Vals L Z)
  (x:InCallC s s.heap.objs.size (bindL (envOfC qual scope s.heap.objs.size f cd).kindOf (ps.zip Z) fun _=>none) (cellsFrom (s.heap.objs.size+1) scope.names []) (bindC (envOfC qual scope s.heap.objs.size f cd).kindOf (ps.zip Z) fun _=>none) s1) :
  Inv (cxOf CX P w K mg base N qual scope f cd A outer s H E) [] (start N L) H s1:=by
 have hpl:ps.length<=N.length:=by have:=congrArg dP S.pre;rw[cU]at this;lia
 obtain⟨Y,tk,rfl,hk⟩:=x.done;have J:∀b:ak,b∉(cxOf CX P w K mg base N qual scope f cd A outer s H E).ex:=fun b z=>absurd (show b∈([]:List ak) from z) (by simp)
 refine⟨⟨G.mod,S.kind,rfl,rfl,ay _,fun y z c Y C=>?_,fun y I=>?_,fun y c _ h=>?_,fun _=>hd,Around.frames_deeper G.frames,.inr ⟨rfl,rfl⟩,fun b z=>absurd z (J b),G.bs,G.bsz,fun b _ _=>J b,fun b z=>absurd z (J b),G.funs,G.frf⟩,
  rfl,G.bare,Un.kept hk,⟨_,x.toInCall.ns,fun i y v Y C h3=>?_⟩,fun y c h=>⟨_,x.cell y c h⟩,G.hok.fresh (ay _),fun y c h=>?_,fun p U=>absurd (show p∈([]:qO) from U) (by simp),G.hok.kept hk,?_⟩
 ·exact name_of_addr x.apart (eS Y) (eS C)
 ·have I:scope.names.lookup y=some .cell\/scope.names.lookup y=some .free:=I;rcases I with I|I
  ·exact zj_ I
  ·exact absurd rfl (S.nofree _ (eS I))
 ·exact l7 (x.above y c (eS h))
 ·have hi:i<L.length:=by
   unfold start at C
   by_cases hi:i<L.length
   ·exact hi
   ·rw[cG (by simpa using hi)]at C
    rw[dF]at C;split at C <;> cases C
  have ha:L[i]?=some v:=by
   unfold start at C;rw[cq (by simpa using hi),aZ]at C
   cases e:L[i]? with
   | none=>rw[e]at C;cases C
   | some a=>rw[e]at C;cases C;rfl
  obtain⟨u,hu,rv⟩:=r.get ha;have U:ps[i]?=some y:=by
   rw[<- S.pre,List.getElem?_take_of_lt (by lia)];exact Y
  have R:ps.Nodup:=by rw[<- S.pre];exact S.nd.sublist (List.take_sublist _ _)
  refine⟨u,rv,?_⟩;rcases S.par y (aV U) with k|k
  ·exact .inl ⟨k,ziq R U hu k⟩
  ·obtain⟨c,e⟩:=zj_ (n:=s.heap.objs.size+1) k;refine .inr ⟨.inl k,c,e,?_⟩;have q:=x.cell y c e;rw[zis R U hu (by show scope.names.lookup y≠_;rw[k];decide)]at q
   exact q
 ·exact G.hok.fresh (l7 (x.above y c (eS h)))
 ·unfold start;show _=N.length
  rw[aK,aM,gT];lia
theorem zua{Z:CXT}{P:aI}{w:aU}{K:qF}{mg:qM}{base:aS}{k:Nat}{f:ak}{name qual:Str}{params:Arguments}{body:List dg}{scope:fc}{dV kV doc pm C ct oc:ah}{an od:Option ak}
  {osl:Array (Option ah)} {N ps:List Str} {sp:Sp} (lk:K.lookup f=some ⟨oc,od,.func (c8 name qual params body scope dV kV doc pm an C ct),osl⟩) (hcd:gD K C qual=true) (S:Ur N ps scope)
  (len:∀G H Q E,sp G H Q E->G.length=ps.length)
  (Il:∀(A:bw) (outer:List Env) (s:au) (H:Hp) (G:List V) (Q:VK) (E:XK),Room k (A.deeper (envOfC qual scope s.heap.objs.size f C))->sp G H Q E ->
   ∃t,PSs (cxOf Z P w K mg base N qual scope f C A outer s H E) body t/\t { nx:=fun _ L=>Q .non L,rt:=Q } (start N G) H) :
  FnOk P w K mg base Z (k+1) f (c8 name qual params body scope dV kV doc pm an C ct) ps sp:=by
 refine⟨len,fun A outer s H args us G Q E hr Y hb r U=>?_⟩
 have hl:=len _ _ _ _ U;have KX:K.In s.heap:=Y.mod.kin.keeps fun b o e=>(Y.bs b o e).1
 have lim:s.heap.NoLimit:=Y.mod.nolimit.keeps fun b o e=>(Y.bs b o e).1
 have Ig:∀y∈ps.zip us,scope.names.lookup y.1=some .local\/(scope.names.lookup y.1=some .cell/\((cellsFrom (s.heap.objs.size+1) scope.names []).lookup y.1).isSome=true):=fun⟨n,v⟩ hy=>by
  rcases S.par n (dJ hy).1 with q|q
  ·exact .inl q
  ·exact .inr ⟨q,ki _ _ _ (.inl q)⟩
 refine codeAny_call_function hr.depth (KX _ _ lk) rfl S.co S.gen rfl (PySem.W.codeRec_of KX hcd) (hb _ _ _ _ ?_);refine wpAny_newFunctionEnv_cells S.kind Ig fun env he s1 x=>?_
 subst he;refine⟨lim.keeps x.toInCall.keep,codeAny_func ?_⟩;obtain⟨t,ht,hq⟩:=Il A outer s H G Q E (hr.deeper _) U;have I:Inv (cxOf Z P w K mg base N qual scope f C A outer s H E) [] (start N G) H s1:=zmw S hr.hd Y hl r x;refine cT (ht [] s1 (start N G) H _ I hq) (fun fl s' R=>?_) fun e s' R=>R
 have fin:∀{σ':St} {L:Hp} {v:V} {u:ah},Inv (cxOf Z P w K mg base N qual scope f C A outer s H E) [] σ' L s'->RelV v u->Q v L->CE outer P w H s Q u s' :=
  fun {σ' L v u} J rv q=>⟨v,L,J.os,J.bare,J.base,J.hok,rv,q⟩
 cases fl with
 | ret u =>
  obtain⟨v,σ',L,J,rv,q⟩:=R;exact fin J rv q
 | next =>
  obtain⟨σ',L,J,q⟩:=R;exact fin (v:=V.non) (u:=ir) J rfl q
 | brk =>
  obtain⟨_,_,_,q⟩:=R;exact cc q
 | cont =>
  obtain⟨_,_,_,q⟩:=R;exact cc q
section
variable{X:Cx}{x:Str}{p pos:Pos}{e:aT}{es:List aT}{t:TA}{id T:String}{r:List V->Hp->VK->Prop}
def tCB(r:List V->Hp->VK->Prop)(t:TA):TE:=fun σ H Q=>t σ H fun u l=>r u l Q
theorem zn7(hc:JO X (.builtin id) r)(hg:Gl X x)(S:X.mg x=none)(L:bootBuiltins x=some (.builtin id))(Y:PA X (e::es) t)(Z:x ≠ "__name__":=by decide) (G:(x == ("__debug__":Str))=false:=by decide)
  (he:starEach (e::es) X.env=(false,eval e X.env)::starEach es X.env:=by rfl) (v:(backTo pos (starEach es X.env)).any (·.1)=false:=by rfl):PE X (.Call (.Name x p) (e::es) [] pos) (tCB r t):=by
 intro pins s σ H Q I h;refine fh (ZU I hg S L ?_ Z G);exact mY (thn (Y pos pins s σ H _ I h) fun us s1 ⟨vs,R,U,r1,J⟩=>hc pins s1 σ R vs us Q U r1 J) he v
theorem zlN(hc:JO X (.type T) r)(Z:Gl X x)(R:X.mg x=none)(J:bootBuiltins x=some (.type T))(U:PA X (e::es) t)(Y:x ≠ "__name__":=by decide) (v:(x == ("__debug__":Str))=false:=by decide)
  (he:starEach (e::es) X.env=(false,eval e X.env)::starEach es X.env:=by rfl) (u:(backTo pos (starEach es X.env)).any (·.1)=false:=by rfl):PE X (.Call (.Name x p) (e::es) [] pos) (tCB r t):=by
 intro pins s σ H Q I h;refine fh (ZU I Z R J ?_ Y v);exact fE (thn (U pos pins s σ H _ I h) fun us s1 ⟨vs,L,S,r1,G⟩=>hc pins s1 σ L vs us Q S r1 G) he u
end
end L2
namespace HT
open PySem PyProof.Rows
def lexLt:List Int->List Int->Bool
 | [],[]=>false
 | [],_::_=>true
 | _::_,[]=>false
 | x::xs,y::ys=>if x=y then lexLt xs ys else decide (x<y)
theorem zkD(x y:Int)(xs ys:List Int):lexLt (x::xs) (y::ys)=if x=y then lexLt xs ys else decide (x<y):=rfl
theorem zgv:lexLt [] []=false:=rfl
theorem zfk(y:Int)(ys:List Int):lexLt [] (y::ys)=true:=rfl
theorem zfl(x:Int)(xs:List Int):lexLt (x::xs) []=false:=rfl
theorem zoH(A:bw)(s:au)(a:Int)(t:Tok)(c:Int)(u:Tok):∃e,lU A s (.int a t) (.int c u) e/\(e=true↔a=c) :=
 ⟨(a == c),iB a t c u,by simp⟩
theorem znX(A:bw)(s:au)(a:Int)(t:Tok)(c:Int)(u:Tok)(prog:aI)(w:aU)(E:qV)(Q:qV)(h:Q (.bool (decide (a<c))) s) :
  wpAny (model prog w) A (richCompare .Lt (.int a t) (.int c u)) Q E s :=
 (u6 h:wpAny (model prog w) A (compareOp .Lt (.int a t) (.int c u)) Q E s)
section
open PySem.SeqAt
open PySem.AutoSeq1 (wpAny_loadPart')
open PySem.MeetsSeq PySem.MeetsSeq2 PySem.MeetsSeq3
theorem zf9(l b:ak)(items Y:Array ah)(n n2:Nat)(dd dd2:Option ak)(sl sl2:Array (Option ah))(ns ms:List Int)(hi:fL items.toList ns)(hj:fL Y.toList ms) :
  Meets (fM.«tuple.__lt__» ⟨[.ref l,.ref b],[]⟩)
   (fun _ R s=>s.heap.get? l=some { cls:=.type "tuple",dict:=dd,data:=.seq items n,slots:=sl }/\s.heap.get? b=some { cls:=.type "tuple",dict:=dd2,data:=.seq Y n2,slots:=sl2 } /\
    R (.ok (.ret (.bool (lexLt ns ms)))) s) :=
 .of_wp fun prog w A R s h=>by
  obtain⟨hp,g,d,tk,os⟩:=s;obtain⟨hl,hb,h⟩:=h;have f2:=AutoSeq1.sub_tuple_tuple;have z1:items.size=ns.length:=by rw[<- hi.length];simp
  have z2:Y.size=ms.length:=by rw[<- hj.length];simp
  wp_walk using nQ hl,nQ hb,wpAny_forIn_list _ (fun rest b s'=>b.1=none/\s'=⟨hp,g,d,tk,os⟩/\∃(vs ws:List ah) (C G:List Int),rest=vs.zip ws /\
   fL vs C/\fL ws G/\C.length+Y.size=G.length+items.size/\R (.ok (.ret (.bool (lexLt C G)))) ⟨hp,g,d,tk,os⟩) _
  case turn =>
   rintro⟨y,x⟩ rest b s' ⟨S,rfl,vs,ws,C,G,I,U,J,v,L⟩;cases U with
   | nil=>rw[mi]at I;cases I
   | cons a t hvi' =>
    cases J with
    | nil=>rw[List.zip_nil_right]at I;cases I
    | cons c u Z =>
     rw[iC]at I
     injection I with hyx hrest
     injection hyx with hy hx
     subst hy hx;rw[zkD]at L;simp only[aO]at v;obtain⟨e,he,N⟩:=zoH A.in1 ⟨hp,g,d,tk,os⟩ a t c u;refine ae (he prog w _ _ ?_);cases e with
     | true =>
      rw[if_pos (N.mp rfl)]at L
      wp_walk
      exact⟨rfl,rfl,_,_,_,_,hrest,hvi',Z,by lia,L⟩
     | false =>
      rw[if_neg (fun q=>absurd (N.mpr q) aY)]at L
      have hri:=znX A.in1 ⟨hp,g,d,tk,os⟩ a t c u prog w
      wp_walk using hri
      exact⟨_,rfl,by simpa using L⟩
  case fin =>
   rintro⟨b1,b2⟩ s' ⟨S,rfl,vs,ws,C,G,I,U,J,v,L⟩;simp only at S;subst S;have hv:lexLt C G=decide (items.size<Y.size):=by
    cases U with
    | nil =>
     cases J with
     | nil =>
      simp only[cx]at v;rw[zgv];exact(decide_eq_false (by lia)).symm
     | cons c u hw =>
      simp only[cx,aO]at v;rw[zfk];exact(decide_eq_true (by lia)).symm
    | cons a t hv =>
     cases J with
     | nil =>
      simp only[cx,aO]at v;rw[zfl];exact(decide_eq_false (by lia)).symm
     | cons c u hw =>
      rw[iC]at I;cases I
   rw[hv]at L
   wp_walk
   exact⟨_,rfl,by simpa[mU] using L⟩
  case h =>
   exact⟨rfl,rfl,items.toList,Y.toList,ns,ms,rfl,hi,hj,by lia,h⟩
end
section
variable{prog:aI}{w:aU}{A:bw}{E:qV}{s:au}
theorem zfE{l b:ak}{items G:Array ah}{ns y:List Int}{Q:qV}(R:l5 s.heap l items)(Y:l5 s.heap b G)(hi:fL items.toList ns)(U:fL G.toList y)
  (hu:A.units<cLine) (h:Q (.bool (lexLt ns y)) s):wpAny (model prog w) A (compareOp .Lt (.ref l) (.ref b)) Q E s:=by
 obtain⟨⟨cls,dd,data,Z⟩,N,hc,n,hd⟩:=id R;obtain⟨⟨J,I,data2,C⟩,u,v,S,hd2⟩:=id Y;simp only at hc hd v hd2;subst hc hd v hd2;exact richCompare_meets_room (op:=.Lt) ⟨_,N,rfl⟩ ⟨_,u,rfl⟩ PySem.F.slot_tuple_lt PySem.F.entry_tuple_lt (PySem.F.args_tuple_lt_2 _ _) (zf9 l b items G n S dd I Z C ns y hi U)
  ⟨N,u,show ee (lexLt ns y)≠Value.notImplemented/\Q (.bool (lexLt ns y)) s from⟨(fun x=>nomatch x),h⟩⟩ hu
theorem zre{t b:ak}{v l:List ah}{Q:qV}(S:l5 s.heap t v.toArray)(Z:l5 s.heap b l.toArray)(L:v≠[])
  (Y:l=[]->Q (.ref t) s) (U:l≠[]->Q (.ref s.heap.objs.size) { s with heap:=s.heap.push { cls:=.type "tuple",data:=.seq (v++l).toArray } })
  (hsz:v.length+l.length<=sizeLine):wpAny (model prog w) A (binaryOp .Add (.ref t) (.ref b)) Q E s:=by
 obtain⟨⟨cls,dd,data,R⟩,I,hc,n,hd⟩:=id S;obtain⟨⟨N,C,data2,x⟩,u,G,J,hd2⟩:=id Z;simp only at hc hd G hd2;subst hc hd G hd2;have e:v.toArray++l.toArray=(v++l).toArray:=by simp
 by_cases hw:l=[]
 ·exact mj ⟨_,I,rfl⟩ ⟨_,u,rfl⟩ i7 lO gE gu (gh _ _)
   (tuple_addW1 t b v.toArray l.toArray n J dd C R x (by simpa using L) (by simp[hw])) ⟨I,u,Y hw⟩
 ·refine mj ⟨_,I,rfl⟩ ⟨_,u,rfl⟩ i7 lO gE gu (gh _ _)
   (tuple_addW2 t b v.toArray l.toArray n J dd C R x (by simpa using L) (by simpa using hw) (by rw[ax,ax];exact hsz)) ⟨I,u,?_⟩
  rw[e];exact U hw
def sIx(n d:Nat):Option Int->Nat
 | none=>d
 | some v=>if v<0 then(v+(n:Int)).toNat else min v.toNat n
theorem zeg(n d:Nat):sIx n d none=d:=rfl
theorem ziB(n d k:Nat):sIx n d (some (k:Int))=min k n:=by
 show(if (k:Int)<0 then((k:Int)+(n:Int)).toNat else min (k:Int).toNat n)=min k n
 rw[if_neg (by lia),fF]
theorem zr2(n d:Nat)(hd:d<=n)(o:Option Int):sIx n d o<=n:=by
 cases o with
 | none=>exact hd
 | some v =>
  show(if v<0 then(v+(n:Int)).toNat else min v.toNat n)<=n
  by_cases hv:v<0
  ·rw[if_pos hv];lia
  ·rw[if_neg hv];exact Nat.min_le_right _ _
theorem zm9(v:Int)(n d:Nat):(if v<0 then max (v+(n:Int)) 0 else min v (n:Int))=((sIx n d (some v):Nat):Int):=by
 show(if v<0 then max (v+(n:Int)) 0 else min v (n:Int))=(((if v<0 then(v+(n:Int)).toNat else min v.toNat n):Nat):Int)
 by_cases hv:v<0
 ·simp only[if_pos hv];lia
 ·simp only[if_neg hv];lia
theorem zk8(lo hi:Option Int)(n:Nat):fT lo hi 1 (n:Int)=(((sIx n 0 lo:Nat):Int),((sIx n n hi:Nat):Int)):=by
 have l:¬((1:Int)<0):=by lia
 unfold fT;simp only[l,if_false];refine iD ?_ ?_
 ·cases lo with
  | none=>rfl
  | some v=>exact zm9 v n 0
 ·cases hi with
  | none=>rfl
  | some v=>exact zm9 v n n
theorem zkp(i j:Nat):eG (i:Int) (j:Int) 1=j - i:=by
 unfold eG;have l:(1:Int) > 0:=by lia
 simp only[l,if_true,Int.ediv_one];split <;> lia
theorem zfv{v:ah}{o:Option Int}{Q:Option Int->au->Prop}(p:iV v o)(h:Q o s):wpAny (model prog w) A (nR v) Q E s:=by
 cases p with
 | none=>exact oz h
 | int i t=>exact slicePart_int h
theorem zci{C:ak}{v y:ah}{lo hi:Option Int}{n:Nat}{Q:Int×Int×Nat->au->Prop}(I:s.heap.IsSliceOf C v y .none)(pl:iV v lo)(G:iV y hi)
  (h:Q (((sIx n 0 lo:Nat):Int),1,sIx n n hi - sIx n 0 lo) s):wpAny (model prog w) A (iE (.ref C) (pure (n:Int))) Q E s:=by
 obtain⟨os,u,J,l⟩:=id I;unfold iE pf;refine ae (ae (cL u l (x:=v) rfl (ae (cL u l (x:=y) rfl (ae (cL u l (x:=.none) rfl (aj ?_)))))));refine ae (oz ?_);show wpAny _ _ (if ((1:Int) == 0)=true then _ else _) _ _ s
 rw[if_neg (by decide)]
 refine ae (zfv pl (ae (zfv G (ae (aj ?_)))));show wpAny _ _ (match fT lo hi 1 (n:Int) with|(lo,hi)=>pure (lo,(1:Int),eG lo hi 1)) _ _ s
 rw[zk8 lo hi n];show wpAny _ _ (pure (((sIx n 0 lo:Nat):Int),(1:Int),eG ((sIx n 0 lo:Nat):Int) ((sIx n n hi:Nat):Int) 1)) _ _ s
 rw[zkp];exact aj h
theorem zn3(xs:Array ah)(i k:Nat):((eO k).filterMap fun(m:Nat)=>xs[((i:Int)+(m:Int)*1).toNat]?).toArray=((xs.toList.drop i).take k).toArray:=by
 have e:(fun(m:Nat)=>xs[((i:Int)+(m:Int)*1).toNat]?)=fun m=>xs[i+m]?:=by
  funext m
  have:((i:Int)+(m:Int)*1).toNat=i+m:=by lia
  rw[this]
 rw[e];have:=uj xs i k;rw[List.filterMap_map]at this;have u:((fun x=>xs[x]?)∘fun x=>i+x)=fun m=>xs[i+m]?:=rfl
 rw[u]at this;rw[this]
theorem zdL{t I:ak}{items:Array ah}{J N:ah}{lo hi:Option Int}{Q:qV}(l:l5 s.heap t items)(L:s.heap.IsSliceOf I J N .none)(pl:iV J lo)(S:iV N hi)
  (hw:¬(sIx items.size 0 lo=0/\sIx items.size items.size hi=items.size))
  (h:Q (.ref s.heap.objs.size) { s with heap:=s.heap.push { cls:=.type "tuple",data:=.seq ((items.toList.drop (sIx items.size 0 lo)).take (sIx items.size items.size hi - sIx items.size 0 lo)).toArray } })
  (hsz:items.size<=sizeLine):wpAny (model prog w) A (getItem (.ref t) (.ref I)) Q E s:=by
 have u:sizeOk (.seq ((items.toList.drop (sIx items.size 0 lo)).take (sIx items.size items.size hi - sIx items.size 0 lo)).toArray):=by
  show((items.toList.drop (sIx items.size 0 lo)).take (sIx items.size items.size hi - sIx items.size 0 lo)).toArray.size<=sizeLine
  rw[ax,cU,dU,dN];lia
 have Y:sIx items.size items.size hi<=items.size:=zr2 _ _ (ay _) hi;obtain⟨os,G,x,R⟩:=id L;have v:s.TypeIs (.ref I) "slice":=⟨os,G,x⟩;unfold getItem
 try with_reducible refine bU ?_
 first|refine ae (aj ?_)|skip
 refine ae (mn l.typeIs (by decide) ?_)
 refine ae (dG (name:=aa "__getitem__") l.typeIs bW
  (dW bW l.typeIs lH ?_ (lV _ _)))
 show wpAny _ _ (iF (.ref t) >>= _) _ _ s
 refine ae (tupleItemsOf_ l ?_);refine ae (fN v ?_);rw[if_pos (by decide)]
 refine ae (zci L pl S ?_);have C:¬((((sIx items.size 0 lo:Nat):Int) == 0&&(1:Int) == 1&&(sIx items.size items.size hi - sIx items.size 0 lo) == items.size)=true):=by
  intro q;rw[aG,aG]at q;have U:((sIx items.size 0 lo:Nat):Int)=0:=eq_of_beq q.1.1;have Z:sIx items.size items.size hi - sIx items.size 0 lo=items.size:=eq_of_beq q.2;exact hw ⟨by lia,by lia⟩
 show wpAny _ _ (if (((sIx items.size 0 lo:Nat):Int) == 0&&(1:Int) == 1&&(sIx items.size items.size hi - sIx items.size 0 lo) == items.size)=true then _ else _) _ _ s
 rw[if_neg C,zn3]
 first
  | exact ae (m:=eQ _) (cZ (aj ⟨_,rfl,aj h⟩) u)
  | exact ae (m:=eQ _) (cZ (ae (aj (aj ⟨_,rfl,aj h⟩))) u)
  | exact ae (ae (m:=eQ _) (cZ (aj (aj ⟨_,rfl,aj h⟩)) u))
  | exact ae (ae (m:=eQ _) (cZ (aj ⟨_,rfl,aj h⟩) u))
end
end HT
namespace L2
open PySem PySem.Spec PyProof.Rows
abbrev TO:=St->Hp->(Option Int->Hp->Prop)->Prop
def PO(X:Cx)(e:Option aT)(t:TO):Prop :=
 ∀(pins:qO) (s:au) (σ:St) (H:Hp) (Q:Option Int->Hp->Prop),Inv X pins σ H s->t σ H Q ->
  wpAny (model X.prog X.w) X.A (evalPart e X.env) (fun u s'=>∃o l,Inv X pins σ l s'/\iV u o/\Q o l) X.xe s
def zpy:TO:=fun _ H Q=>Q none H
def zvi(t:TE):TO:=fun σ H Q=>t σ H fun x l=>∃i,x=.int i/\Q (some i) l
theorem intsAre_of{ns:List Int}:∀{u:List ah},Vals (ns.map V.int) u->fL u ns:=by
 induction ns with
 | nil=>intro u r;rw[fi]at r;cases r;exact .nil
 | cons n ns v =>
  intro u r;rw[bV]at r;cases r with
  | cons y x =>
   obtain⟨t,e⟩:=y;subst e;exact .cons n t (v x)
section
variable{X:Cx}{e:aT}{te:TE}{lo hi:Option aT}{tl th:TO}{pos p2:Pos}
theorem zpQ:PO X none zpy:=by
 intro pins s σ H Q I h;rw[evalPart_none];exact aj ⟨none,H,I,.none,h⟩
theorem zpP(h:PE X e te):PO X (some e) (zvi te):=by
 intro pins s σ H Q I hw;rw[evalPart_some];refine thn (h pins s σ H _ I hw) fun u s1 ⟨x,v,y,C,l⟩=>?_
 obtain⟨i,rfl,q⟩:=l;obtain⟨t,rfl⟩:=C;exact⟨some i,v,y,.int i t,q⟩
def SlR(X:Cx)(r:V->Option Int->Option Int->Hp->VK->Prop):Prop :=
 ∀(pins:qO) (s:au) (σ:St) (H:Hp) (x:V) (v C G:ah) (lo hi:Option Int) (I:ak) (Q:VK),Inv X pins σ H s->RelV x v->s.heap.IsSliceOf I C G .none->iV C lo->iV G hi->r x lo hi H Q ->
  ∃T id,typeLookup (.type T) "__getitem__" = pure (some (.builtin id))/\s.TypeIs v T/\wpAny (model X.prog X.w) X.A (getItem v (.ref I)) (EP X pins σ Q) X.xe s
theorem SlR.or{r l:V->Option Int->Option Int->Hp->VK->Prop}(h:SlR X r)(h':SlR X l):SlR X (fun x lo hi H Q=>r x lo hi H Q\/l x lo hi H Q):=by
 intro pins s σ H x v u J lo hi L Q I y C pl G q;rcases q with q|q
 ·exact h pins s σ H x v u J lo hi L Q I y C pl G q
 ·exact h' pins s σ H x v u J lo hi L Q I y C pl G q
def tSl(r:V->Option Int->Option Int->Hp->VK->Prop)(te:TE)(tl th:TO):TE:=fun σ H Q=>te σ H fun x y=>tl σ y fun l C=>th σ C fun u v=>r x l u v Q
theorem zjv{r:V->Option Int->Option Int->Hp->VK->Prop}(hr:SlR X r)(he:PE X e te)(N:PO X lo tl)(hu:PO X hi th):PE X (.Subscript e (.Slice lo hi none p2) pos) (tSl r te tl th):=by
 intro pins s σ H Q I h;refine oA (thn (he pins s σ H _ I h) fun v s1 ⟨x,H1,I1,r1,R⟩=>?_)
 refine wpAny_Slice (thn (N pins s1 σ H1 _ I1 R) fun C s2 ⟨l,H2,I2,pl,q2⟩=>thn (hu pins s2 σ H2 _ I2 q2) fun G s3 ⟨u,J,L,pu,Y⟩=>?_)
 rw[evalPart_none];refine aj ?_;have I4:Inv X pins σ J { s3 with heap:=s3.heap.push { cls:=.type "slice",data:=.fields #[C,G,.none] } }:=L.kept (t':=s3.toks) fun b ob q=>aq _ q
 obtain⟨T,id,U,Z,hg⟩:=hr pins { s3 with heap:=s3.heap.push { cls:=.type "slice",data:=.fields #[C,G,.none] } } σ J x v C G l u s3.heap.objs.size Q I4 r1 (vL ..) pl pu Y
 show wpAny (model X.prog X.w) X.A (subscriptTail e (.Slice lo hi none p2) v (.ref s3.heap.objs.size)) (EP X pins σ Q) X.xe { s3 with heap:=s3.heap.push { cls:=.type "slice",data:=.fields #[C,G,.none] } }
 exact tail_any (ops:=[.ref s3.heap.objs.size,v]) Z U hg (by with_unfolding_all rfl)
def cutV(xs:List V)(lo hi:Option Int):List V:=(xs.drop (HT.sIx xs.length 0 lo)).take (HT.sIx xs.length xs.length hi - HT.sIx xs.length 0 lo)
theorem ze7(xs:List V)(lo hi:Option Int):(cutV xs lo hi).length<=xs.length:=by
 unfold cutV;rw[cU,dU];lia
def rSlT(K:qF):V->Option Int->Option Int->Hp->VK->Prop:=fun x lo hi H Q=>∃a xs,x=.ref a/\SqT K H a xs /\
 ¬(HT.sIx xs.length 0 lo=0/\HT.sIx xs.length xs.length hi=xs.length)/\∀p,H p=none->Q (.ref p) (upd H p (.tup (cutV xs lo hi)))
theorem zrL:SlR X (rSlT X.K):=by
 intro pins s σ H x v R S lo hi Y Q I J L pl N h;obtain⟨a,xs,rfl,hx,hw,q⟩:=h;cases J;obtain⟨y,r,C,G⟩:=I.tuple hx;have l:y.toArray.size=xs.length:=by rw[ax];exact r.length.symm
 refine⟨"tuple",_,bW.lookup,C.typeIs,?_⟩;refine HT.zdL C L pl N (by rw[l];exact hw) ?_ (by rw[l];exact G)
 rw[l];refine⟨.ref s.heap.objs.size,_,I.laid (t':=s.toks) (o:=.tup (cutV xs lo hi)) (fun b U q=>aq _ q) (ay _) ?_,rfl,q _ (I.hok.fresh (ay _))⟩
 exact⟨bY (ze7 xs lo hi) G,_,(r.drop (HT.sIx xs.length 0 lo)).take (HT.sIx xs.length xs.length hi - HT.sIx xs.length 0 lo),IsTD.new _ _⟩
def rLtT(K:qF):R2:=fun x y H Q=>∃a b ns u,x=.ref a/\y=.ref b/\SqT K H a (ns.map V.int)/\SqT K H b (u.map V.int)/\Q (.bl (HT.lexLt ns u)) H
theorem zsE(hu:X.A.units<cLine):OpR X (compareOp .Lt) (rLtT X.K):=by
 intro pins s σ H x y v u Q I S ry h;obtain⟨a,b,ns,J,rfl,rfl,Y,hb,q⟩:=h;cases S;cases ry;obtain⟨G,r1,U,_⟩:=I.tuple Y;obtain⟨C,N,p2,_⟩:=I.tuple hb;have Z:fL G.toArray.toList ns:=intsAre_of r1;have R:fL C.toArray.toList J:=intsAre_of N;exact HT.zfE U p2 Z R hu ⟨.bl (HT.lexLt ns J),H,I,rfl,q⟩
def zv2(K:qF):R2:=fun x y H Q=>∃a b xs ys,x=.ref a/\y=.ref b/\SqT K H a xs/\SqT K H b ys/\xs≠[]/\xs.length+ys.length<=sizeLine /\
 (ys=[]->Q (.ref a) H)/\(ys≠[]->∀p,H p=none->Q (.ref p) (upd H p (.tup (xs++ys))))
theorem Vals.nil_iff{xs:List V}{l:List ah}(r:Vals xs l):l=[]↔xs=[]:=by
 cases r with
 | nil=>simp
 | cons _ _=>simp
theorem zp9:OpR X (binaryOp .Add) (zv2 X.K):=by
 intro pins s σ H x y v u Q I N ry h;obtain⟨a,b,xs,ys,rfl,rfl,U,Z,hx,G,L,S⟩:=h;cases N;cases ry;obtain⟨Y,C,R,_⟩:=I.tuple U;obtain⟨J,l,p2,_⟩:=I.tuple Z;refine HT.zre R p2 (fun z=>hx (C.nil_iff.mp z)) (fun z=>⟨.ref a,H,I,rfl,L (l.nil_iff.mp z)⟩) (fun z=>?_) (by rw[<- C.length,<- l.length];exact G)
 refine⟨.ref s.heap.objs.size,_,I.laid (t':=s.toks) (o:=.tup (xs++ys)) (fun b ob q=>aq _ q) (ay _) ?_,rfl,S (fun w=>z (l.nil_iff.mpr w)) _ (I.hok.fresh (ay _))⟩
 exact⟨by rw[aK];exact G,_,C.append l,IsTD.new _ _⟩
end
def ixN(n:Nat)(i:Int):Option Nat:=if 0<=i then(if i<n then some i.toNat else none) else if -(n:Int)<=i then some (i+n).toNat else none
def atI{α:Type}(xs:List α)(i:Int):Option α:=(ixN xs.length i).bind fun j=>xs[j]?
theorem zmt{n:Nat}{i:Int}{j:Nat}(h:ixN n i=some j):seqIndex? i n=some j/\j<n/\-(n:Int)<=i/\i<n:=by
 unfold ixN at h
 by_cases h0:0<=i
 ·rw[if_pos h0]at h
  by_cases h1:i<n
  ·rw[if_pos h1]at h;have e:i.toNat=j:=aL h;exact⟨by rw[nF h0 h1,e],by lia,by lia,h1⟩
  ·rw[if_neg h1]at h;cases h
 ·rw[if_neg h0]at h
  by_cases h1:-(n:Int)<=i
  ·rw[if_pos h1]at h;have e:(i+n).toNat=j:=aL h;exact⟨by rw[mw (by lia) h1,e],by lia,h1,by lia⟩
  ·rw[if_neg h1]at h;cases h
theorem zjh{α:Type}{xs:List α}{i:Int}{v:α}(h:atI xs i=some v):∃j,seqIndex? i xs.length=some j/\xs[j]?=some v/\j<xs.length/\-(xs.length:Int)<=i/\i<xs.length:=by
 unfold atI at h;cases e:ixN xs.length i with
 | none=>rw[e]at h;cases h
 | some j =>
  rw[e]at h;obtain⟨u,l,x,y⟩:=zmt e;exact⟨j,u,h,l,x,y⟩
theorem zrj{α:Type}{xs:List α}{j:Nat}{v:α}(h:xs[j]?=some v):atI xs (j:Int)=some v:=by
 have l:j<xs.length:=(av.mp h).1;have e:ixN xs.length (j:Int)=some j:=by
  unfold ixN;rw[if_pos (by lia),if_pos (by lia)];simp
 unfold atI;rw[e];exact h
def zno(b:aT):Prop:=∀o i,subscripted b false o i=operate [o,i] (getItem o i)
def IxR(X:Cx)(r:R2):Prop :=
 ∀(value slice:aT) (pins:qO) (s:au) (σ:St) (H:Hp) (x y:V) (v u:ah) (Q:VK),Inv X pins σ H s->RelV x v->RelV y u->r x y H Q ->
  subscripted slice false v u=operate [v,u] (getItem v u)->wpAny (model X.prog X.w) X.A (subscriptTail value slice v u) (EP X pins σ Q) X.xe s
def MtR(X:Cx)(id:String)(r:V->List V->Hp->VK->Prop):Prop :=
 ∀(pins:qO) (s:au) (σ:St) (H:Hp) (x:V) (xs:List V) (v:ah) (y:List ah) (Q:VK),Inv X pins σ H s->RelV x v->Vals xs y->r x xs H Q ->
  wpAny (model X.prog X.w) X.A (call (.builtin id) (v::y)) (EP X pins σ Q) X.xe s
section
variable{X:Cx}{a b:aT}{ta tb:TE}{pos:Pos}
theorem IxR.or{r l:R2}(h:IxR X r)(h':IxR X l):IxR X (fun x y H Q=>r x y H Q\/l x y H Q):=by
 intro value slice pins s σ H x y v u Q I C J q G;rcases q with q|q
 ·exact h value slice pins s σ H x y v u Q I C J q G
 ·exact h' value slice pins s σ H x y v u Q I C J q G
theorem UH{r:R2}(N:IxR X r)(L:PE X a ta)(R:PE X b tb)(J:zno b):PE X (.Subscript a b pos) (tOp r ta tb):=by
 intro pins s σ H Q I h;exact oA (binT L R I h fun v u s2 x y l C G U q=>N a b pins s2 σ l x y v u Q C G U q (J _ _))
def rIxL(K:qF):R2:=fun x y H Q=>∃p xs i v,x=.ref p/\y=.int i/\SqL K H p xs/\atI xs i=some v/\Q v H
def rIxT(K:qF):R2:=fun x y H Q=>∃p xs i v,x=.ref p/\y=.int i/\SqT K H p xs/\atI xs i=some v/\Q v H
def rIxS:R2:=fun x y H Q=>∃z i c,x=.str z/\y=.int i/\z.length<=sizeLine/\atI z.cps.toList i=some c/\Q (.str ⟨#[c]⟩) H
theorem UP:IxR X (rIxL X.K):=by
 intro value slice pins s σ H x y v u Q I Z ry h L;obtain⟨p,xs,i,z,rfl,rfl,hq,he,q⟩:=h;cases Z;obtain⟨t,rfl⟩:=ry;obtain⟨J,r,pl,hz⟩:=I.list hq;obtain⟨j,l,Y,h3,h4,U⟩:=zjh he;obtain⟨w,R,G⟩:=r.get Y;have S:=r.length;have hn:=U4;have fin:EP X pins σ Q w s:=⟨z,H,I,G,q⟩
 by_cases h0:0<=i
 ·have C:i.toNat=j:=by
   rw[nF h0 U]at l;exact aL l
  exact item_listR pl.isList h0 (by lia) (by rw[C];simpa using R) fin L
 ·have C:(i+(J.toArray.size:Int)).toNat=j:=by
   rw[mw (by lia) h4]at l
   rw[ax,<- S];exact aL l
  exact kj (x:=w) pl.isList.typeIs my.lookup
   (wpAny_getItem_list_neg (Q:=fun r s'=>r=w/\EP X pins σ Q r s') pl.isList (by lia) (by rw[ax] <;> lia) (by lia) (by rw[C];simpa using R) ⟨rfl,fin⟩) L
theorem ztx:IxR X (rIxT X.K):=by
 intro value slice pins s σ H x y v u Q I J Z h L;obtain⟨p,xs,i,z,rfl,rfl,S,U,q⟩:=h;cases J;obtain⟨t,rfl⟩:=Z;obtain⟨Y,r,pl,hz⟩:=I.tuple S;obtain⟨j,R,G,h3,h4,h5⟩:=zjh U;obtain⟨w,N,l⟩:=r.get G;have C:=r.length;have hn:=U4;have fin:EP X pins σ Q w s:=⟨z,H,I,l,q⟩;exact kj (x:=w) pl.typeIs slot_tuple_getitem.lookup
  (getItem_tuple (j:=j) (Q:=fun r s'=>r=w/\EP X pins σ Q r s') pl (by lia) (by lia) (by rw[ax,<- C];exact R) (by simpa using N) ⟨rfl,fin⟩) L
theorem zty:IxR X rIxS:=by
 intro value slice pins s σ H x y v u Q I L Z h N;obtain⟨z,i,c,rfl,rfl,hz,Y,q⟩:=h;obtain⟨t,rfl⟩:=L;obtain⟨t',rfl⟩:=Z;obtain⟨j,l,J,h3,U,G⟩:=zjh Y;have C:z.cps.toList.length=z.length:=by simp[km]
 rw[C]at l U G;have hn:=U4;exact tail_any (oB s z t) slot_str_getitem.lookup (getItem_str (c:=c) (by
  have R:decide (i < -(2 ^ 63:Int))=false:=decide_eq_false (by lia)
  have S:decide (i>=2 ^ 63)=false:=decide_eq_false (by lia)
  rw[R,S,Bool.or_false]) (by rw[l];simpa using J) ⟨.str ⟨#[c]⟩,H,I.tok _,⟨_,rfl⟩,q⟩) N
def rIx(K:qF):R2:=fun x y H Q=>rIxL K x y H Q\/rIxT K x y H Q\/rIxS x y H Q
theorem ztz:IxR X (rIx X.K):=UP.or (ztx.or zty)
theorem zkC(l:List ah)(n j:Nat)(u:ah):eR (·.setIfInBounds j u) { cls:=.type "list",data:=.seq l.toArray n }={ cls:=.type "list",data:=.seq (l.set j u).toArray n }:=by
 simp[eR]
theorem Inv.lst{pins:qO}{σ:St}{H:Hp}{s:au}{p:ak}{xs:List V}(I:Inv X pins σ H s)(h:H p=some (.lst xs)) :
  ∃(u:List ah) (n:Nat),Vals xs u/\s.heap.get? p=some { cls:=.type "list",data:=.seq u.toArray n }/\xs.length<=sizeLine:=by
 obtain⟨z,u,n,r,e⟩:=I.hok p _ h;exact⟨u,n,r,e,z⟩
theorem Inv.lstUpd{pins:qO}{σ:St}{H:Hp}{s:au}{p:ak}{xs ys:List V}{v its':List ah}{n C:Nat}{f:Obj->Obj}(I:Inv X pins σ H s)(h:H p=some (.lst xs))
  (L:s.heap.get? p=some { cls:=.type "list",data:=.seq v.toArray n }) (hf:f { cls:=.type "list",data:=.seq v.toArray n }={ cls:=.type "list",data:=.seq its'.toArray C }) (r:Vals ys its') (G:ys.length<=sizeLine) (t:Nat) :
  Inv X pins σ (upd H p (.lst ys)) { s with heap:=s.heap.update p f,toks:=t }:=by
 have e:(s.heap.update p f).get? p=some { cls:=.type "list",data:=.seq its'.toArray C }:=by
  rw[kN f L (by rw[hf] <;> rfl),hf]
 refine I.write (x:=p) (e:=p) (by rw[h];trivial) (.inl rfl) (fun b u J q=>(ko _ _ (ke J)).trans q) ⟨_,e⟩ ?_
 exact⟨G,its',C,r,e⟩
def zv1:V->V->V->Hp->(Hp->Prop)->Prop:=fun o i v H Q=>∃p xs k j,o=.ref p/\i=.int k/\H p=some (.lst xs)/\ixN xs.length k=some j/\Q (upd H p (.lst (xs.set j v)))
theorem set_list:PSet X zv1:=by
 intro pins s σ H o i v ov iv u Q I Y ri rv h;obtain⟨p,xs,k,j,rfl,rfl,L,hj,q⟩:=h;cases Y;obtain⟨t,rfl⟩:=ri;obtain⟨x,n,r,J,Z⟩:=I.lst L;obtain⟨y,h2,R,S⟩:=zmt hj;have C:=r.length;have hn:=U4;have U:Inv X pins σ (upd H p (.lst (xs.set j v))) { s with heap:=s.heap.update p (eR (·.setIfInBounds j u)) } :=
  I.lstUpd L J (zkC x n j u) (r.set rv j) (by rw[fw];exact Z) s.toks
 by_cases h0:0<=k
 ·have G:k.toNat=j:=by
   rw[nF h0 S]at y;exact aL y
  exact PySem.W.ki_setAt J h0 (by lia) (by rw[ax,<- C];exact S) (by rw[G];exact⟨_,U,q⟩)
 ·have G:(k+(x.toArray.size:Int)).toNat=j:=by
   rw[mw (by lia) R]at y
   rw[ax,<- C];exact aL y
  exact PySem.W.ki_setBack J (by lia) (by rw[ax,<- C];exact R) (by lia) (by rw[G];exact⟨_,U,q⟩)
theorem zg5(lo hi:Option Int)(n:Nat):(sliceBounds lo hi none n).1=((HT.sIx n 0 lo:Nat):Int)/\(sliceBounds lo hi none n).2.1=((HT.sIx n n hi:Nat):Int)/\(sliceBounds lo hi none n).2.2=1:=by
 refine⟨?_,?_,rfl⟩
 ·cases lo with
  | none=>simp[sliceBounds,HT.sIx]
  | some i =>
   simp only[sliceBounds,HT.sIx,mZ,show(1:Int) > 0 by decide,if_true]
   by_cases h:i<0
   ·simp only[h,if_true] <;> lia
   ·simp only[h,if_false] <;> lia
 ·cases hi with
  | none=>simp[sliceBounds,HT.sIx]
  | some i =>
   simp only[sliceBounds,HT.sIx,mZ,show(1:Int) > 0 by decide,if_true]
   by_cases h:i<0
   ·simp only[h,if_true] <;> lia
   ·simp only[h,if_false] <;> lia
theorem zga(l:List ah)(lo hi:Option Int):slicePick l.toArray lo hi none=((l.drop (HT.sIx l.length 0 lo)).take (HT.sIx l.length l.length hi - HT.sIx l.length 0 lo)).toArray:=by
 obtain⟨v,u,x⟩:=zg5 lo hi l.toArray.size;unfold slicePick;rw[v,u,x];simp only[oC,uj,ax] <;> rfl
def rSlL(K:qF):V->Option Int->Option Int->Hp->VK->Prop:=fun x lo hi H Q=>∃a xs,x=.ref a/\SqL K H a xs/\∀p,H p=none->Q (.ref p) (upd H p (.lst (cutV xs lo hi)))
theorem zpB:SlR X (rSlL X.K):=by
 intro pins s σ H x v R S lo hi Y Q I G J pl L h;obtain⟨a,xs,rfl,hx,q⟩:=h;cases G;obtain⟨N,r,y,C⟩:=I.list hx;have u:=r.length;refine⟨"list",_,my.lookup,y.isList.typeIs,?_⟩;refine wpAny_getItem_list_slice y.isList J pl L .none (by simp) ?_ (by rw[ax] <;> lia)
 rw[zga,<- u];refine⟨.ref s.heap.objs.size,_,I.laid (t':=s.toks) (o:=.lst (cutV xs lo hi)) (fun b U q=>aq _ q) (ay _) ?_,rfl,q _ (I.hok.fresh (ay _))⟩
 exact⟨bY (ze7 xs lo hi) C,_,0,(r.drop (HT.sIx xs.length 0 lo)).take (HT.sIx xs.length xs.length hi - HT.sIx xs.length 0 lo),aD _ rfl⟩
theorem zib:JO X (.builtin "len") (fun xs H Q=>∃p ys,xs=[.ref p]/\(SqL X.K H p ys\/SqT X.K H p ys)/\Q (.int ys.length) H):=by
 intro pins s σ H xs N Q I r h;obtain⟨p,ys,rfl,x,q⟩:=h;obtain⟨u,rfl,J⟩:=vals1 r;cases J;have L:=U4;rcases x with x|x
 ·obtain⟨C,y,pl,G⟩:=I.list x;have v:=y.length;exact lG pl.isList (by simp only[ax] <;> lia) ⟨.int ys.length,H,I.tok _,⟨s.toks+1,by rw[ax,v]⟩,q⟩
 ·obtain⟨C,y,pl,G⟩:=I.tuple x;have v:=y.length;exact len_tuple pl (by simp only[ax] <;> lia) ⟨.int ys.length,H,I.tok _,⟨s.toks+1,by rw[ax,v]⟩,q⟩
theorem zia:JO X (.type "list") (fun xs H Q=>∃p ys,xs=[.ref p]/\(SqL X.K H p ys\/SqT X.K H p ys)/\∀l,H l=none->Q (.ref l) (upd H l (.lst ys))):=by
 intro pins s σ H xs U Q I r h;obtain⟨p,ys,rfl,J,q⟩:=h;obtain⟨u,rfl,S⟩:=vals1 r;cases S;have fin:∀(v:List ah),Vals ys v->ys.length<=sizeLine->∀(h':aS) (C:Nat),(∀b R,s.heap.get? b=some R->h'.get? b=some R) ->
   h'.get? s.heap.objs.size=some { cls:=.type "list",dict:=none,data:=.seq v.toArray C,slots:=#[] }->EP X pins σ Q (.ref s.heap.objs.size) { s with heap:=h' }:=fun v x G h' C kp e =>
  ⟨.ref s.heap.objs.size,_,I.laid (t':=s.toks) kp (ay _) (show JL X.prog X.w _ h' _ (.lst ys) from⟨G,v,C,x,e⟩),rfl,q _ (I.hok.fresh (ay _))⟩
 rcases J with J|J
 ·obtain⟨v,x,pl,G⟩:=I.list J;have L:=x.length;obtain⟨o,N,hc,n,hd⟩:=pl.isList;exact call_list_seq p (.inl rfl) N hc hd (fun h' C kp e=>fin v x G h' C kp e) (by simp only[ax] <;> lia)
 ·obtain⟨v,x,pl,G⟩:=I.tuple J;have L:=x.length;obtain⟨o,N,hc,n,hd⟩:=pl;exact call_list_seq p (.inr rfl) N hc hd (fun h' C kp e=>fin v x G h' C kp e) (by simp only[ax] <;> lia)
theorem QE:JO X (.type "tuple") (fun xs H Q=>∃p ys,xs=[.ref p]/\((SqL X.K H p ys/\∀l,H l=none->Q (.ref l) (upd H l (.tup ys)))\/(SqT X.K H p ys/\Q (.ref p) H))):=by
 intro pins s σ H xs S Q I r h;obtain⟨p,ys,rfl,h⟩:=h;obtain⟨u,rfl,R⟩:=vals1 r;cases R;rcases h with⟨C,q⟩|⟨C,q⟩
 ·obtain⟨v,x,pl,G⟩:=I.list C;have L:=x.length;refine call_tuple_list pl.isList (fun h' kp=>?_) (by simp only[ax] <;> lia)
  have J:Inv X pins σ H { s with heap:=h' }:=I.kept (t':=s.toks) kp
  have N:Inv X pins σ (upd H h'.objs.size (.tup ys)) { s with heap:=h'.push { cls:=.type "tuple",data:=.seq v.toArray } } :=
   J.laid (t':=s.toks) (fun b o e=>aq _ e) (ay _) (show JL X.prog X.w _ _ _ (.tup ys) from⟨G,v,x,IsTD.new _ _⟩)
  exact⟨.ref h'.objs.size,_,N,rfl,q _ (J.hok.fresh (ay _))⟩
 ·obtain⟨v,x,pl,G⟩:=I.tuple C;exact call_tuple_same pl ⟨.ref p,H,I,rfl,q⟩
def tyV(K:qF)(T:String)(x:V)(H:Hp):Prop:=match x with
 | .str _=>T = "str"
 | .int _=>T = "int"
 | .ref p=>(T = "list" /\ ∃xs,SqL K H p xs)\/(T = "tuple" /\ ∃o,K.lookup p=some o/\o.cls=.type "tuple" /\ o.dict=none) \/
   (T = "dict" /\ ((∃l,H p=some (.dK l))\/∃l,H p=some (.dT l)))\/(T = "set" /\ ∃S n,H p=some (.set S n))
 | _=>False
theorem zoY{pins:qO}{σ:St}{H:Hp}{s:au}{T:String}{x:V}{v:ah}(I:Inv X pins σ H s)(r:RelV x v)(ty:tyV X.K T x H) :
  s.TypeIs v T/\∀a,v=.ref a->∃C,s.heap.get? a=some C/\C.dict=none:=by
 cases x with
 | str z =>
  obtain⟨t,rfl⟩:=r;cases(show T = "str" from ty)
  exact⟨oB s z t,fun _ e=>nomatch e⟩
 | int i =>
  obtain⟨t,rfl⟩:=r;cases(show T = "int" from ty)
  exact⟨typeIs_int s i t,fun _ e=>nomatch e⟩
 | ref p =>
  cases r;rcases ty with⟨rfl,xs,G⟩|⟨rfl,o,l,hc,hd⟩|⟨rfl,l⟩|⟨rfl,S,n,l⟩
  ·obtain⟨J,_,pl,_⟩:=I.list G;refine⟨pl.isList.typeIs,fun a e=>?_⟩
   cases e;obtain⟨o,n,e,c,hd,_⟩:=pl;exact⟨o,e,hd⟩
  ·refine⟨⟨o,I.kIn p o l,hc⟩,fun a e=>?_⟩
   cases e;exact⟨o,I.kIn _ o l,hd⟩
  ·have z:∃o,s.heap.get? p=some o/\o.ExactDict:=by
    rcases l with⟨y,l⟩|⟨y,l⟩
    ·obtain⟨_,_,_,_,o,_,_,e,ex,_⟩:=I.hok p _ l;exact⟨o,e,ex⟩
    ·obtain⟨_,_,_,_,o,_,_,e,ex,_⟩:=I.hok p _ l;exact⟨o,e,ex⟩
   obtain⟨o,e,ex⟩:=z;refine⟨⟨o,e,ex.1⟩,fun a u=>?_⟩
   cases u;exact⟨o,e,ex.2.1⟩
  ·obtain⟨o,_,_,_,e,ex,_⟩:=I.hok p _ l;refine⟨⟨o,e,ex.1⟩,fun a u=>?_⟩
   cases u;exact⟨o,e,ex.2.1⟩
 | _=>exact cc ty
def tBM0(K:qF)(T:String)(r:V->List V->Hp->VK->Prop)(to:TE):TE:=fun σ H Q=>to σ H fun x l=>tyV K T x l/\r x [] l Q
def tBM(K:qF)(T:String)(r:V->List V->Hp->VK->Prop)(to:TE)(t:TA):TE:=fun σ H Q=>to σ H fun x l=>tyV K T x l/\t σ l fun xs u=>r x xs u Q
variable{o e:aT}{es:List aT}{to:TE}{t:TA}{name:Str}{apos HC:Pos}{T id:String}{r:V->List V->Hp->VK->Prop}
theorem zsv(pa:PlainAttrs T)(slot:Slot T name id)(G:typeOf (.builtin id)=pure (.type "method_descriptor")) (Z:MtR X id r) (ho:PE X o to)
  (S:attributeBase o name X.env (eval o X.env)=eval o X.env:=by rfl) (R:(apos.endLine == HC.line)=true:=by rfl):PE X (.Call (.Attribute o name apos) [] [] HC) (tBM0 X.K T r to):=by
 intro pins s σ H Q I h;refine wpAny_Call_method0_late S R (thn (ho pins s σ H _ I h) fun v s1 ⟨x,Y,J,L,ty,N⟩=>?_)
 obtain⟨h1,U⟩:=zoY J L ty;exact⟨T,id,pa,slot,G,h1,U,ku rfl (PySem.evalArgs_none (Z pins s1 σ Y x [] v [] Q J L .nil N))⟩
theorem zpY(pa:PlainAttrs T)(slot:Slot T name id)(G:typeOf (.builtin id)=pure (.type "method_descriptor")) (hm:MtR X id r) (ho:PE X o to) (ha:PA X (e::es) t)
  (Y:attributeBase o name X.env (eval o X.env)=eval o X.env:=by rfl)
  (Iu:((backTo HC (starEach (e::es) X.env)).all (fun x=>!x.1)&&(backToKw HC (keywordEach [] X.env)).all (fun x=>x.1.isSome)
   && decide ((e::es).length+([]:List sJ).length+(if ([]:List sJ).isEmpty then 0 else 1)<30))=true:=by rfl)
  (U:(apos.endLine == HC.line)=true:=by rfl) (hs:starEach (e::es) X.env=(false,eval e X.env)::starEach es X.env:=by rfl) (Iv:(backTo HC (starEach es X.env)).any (·.1)=false:=by rfl) :
  PE X (.Call (.Attribute o name apos) (e::es) [] HC) (tBM X.K T r to t):=by
 intro pins s σ H Q I h;refine wpAny_Call_method_late Y Iu U rfl (thn (ho pins s σ H _ I h) fun v s1 ⟨x,H1,L,N,ty,R⟩=>?_)
 obtain⟨h1,h2⟩:=zoY L N ty;refine⟨T,id,pa,slot,G,h1,h2,?_⟩;have J:=ha HC pins s1 σ H1 _ L R;rw[hs]at J ⊢;refine ku (by show(false||(backTo HC (starEach es X.env)).any (·.1))=false;rw[Iv] <;> rfl) (Calls.evalArgs_plain ?_)
 exact thn J fun us s2 ⟨vs,Z,I2,S,q2⟩=>hm pins s2 σ Z x vs v us Q I2 N S q2
end
def MtM(X:Cx)(id:String)(r:V->List V->Hp->VK->Prop):Prop :=
 ∀(pins:qO) (s:au) (σ:St) (H:Hp) (x:V) (xs:List V) (v:ah) (y:List ah) (Q:VK),Inv X pins σ H s->RelV x v->Vals xs y->r x xs H Q ->
  wpAny (model X.prog X.w) X.A (call (.builtin id) (v::y)) (EP X pins σ Q) X.xe s
theorem Vals.one{x:V}{l:List ah}(h:Vals [x] l):∃u,l=[u]/\RelV x u:=by
 cases h with
 | cons r t=>cases t;exact⟨_,rfl,r⟩
section
variable{X:Cx}{pins:qO}{σ:St}{H:Hp}{s:au}{l b:ak}{xs ys zs:List V}
theorem Inv.lset{v its':List ah}{n:Nat}{f:Array ah->Array ah}{t':Nat}(I:Inv X pins σ H s)(G:H l=some (.lst xs))
  (e:s.heap.get? l=some { cls:=.type "list",data:=.seq v.toArray n }) (hf:f v.toArray=its'.toArray) (J:Vals ys its') (C:ys.length<=sizeLine) :
  Inv X pins σ (upd H l (.lst ys)) { s with heap:=s.heap.update l (eR f),toks:=t' }:=by
 have q:=PySem.IsL.update e f;rw[hf]at q;refine I.write (x:=l) (e:=l) (by rw[G];exact trivial) (.inl rfl) (fun R u L N=>(ko s.heap (eR f) (ke L)).trans N) ⟨_,q⟩ ?_
 exact⟨C,its',_,J,q⟩
theorem Inv.lnew{u:List ah}{t':Nat}(I:Inv X pins σ H s)(x:Vals ys u)(v:ys.length<=sizeLine) :
  Inv X pins σ (upd H s.heap.objs.size (.lst ys)) { s with heap:=s.heap.push { cls:=.type "list",data:=.seq u.toArray },toks:=t' } :=
 I.laid (fun _ _ q=>aq _ q) (ay _) ⟨v,u,0,x,aD _ rfl⟩
theorem Inv.fresh(I:Inv X pins σ H s):H s.heap.objs.size=none:=I.hok.fresh (ay _)
theorem Inv.lstM(I:Inv X pins σ H s)(v:H l=some (.lst xs)):xs.length<=sizeLine/\∃(u:List ah) (n:Nat),Vals xs u/\xs.length=u.length/\s.heap.get? l=some { cls:=.type "list",data:=.seq u.toArray n }:=by
 obtain⟨z,u,n,r,e⟩:=I.hok l _ v;exact⟨z,u,n,r,r.length,e⟩
end
section
variable{X:Cx}
def zpI:V->List V->Hp->VK->Prop:=fun x u H Q=>∃l xs y,x=.ref l/\u=[y]/\H l=some (.lst xs)/\xs.length<sizeLine/\Q .non (upd H l (.lst (xs++[y])))
theorem zeP:MtM X "list.append" zpI:=by
 intro pins s σ H x Y v U Q I N L h;obtain⟨l,xs,y,rfl,rfl,G,S,q⟩:=h;cases N;obtain⟨u,rfl,J⟩:=L.one;obtain⟨z,C,n,r,R,e⟩:=I.lstM G;refine call_meets F.slot_list_append ⟨_,e,rfl⟩ F.entry_list_append (F.args_list_append_2 _ _) (PySem.list_append l C.toArray n u (by rw[ax];lia)) ⟨e,?_⟩
 refine⟨.non,_,I.lset (its':=C++[u]) G e (by simp) (r.append (.cons J .nil)) ?_,rfl,q⟩
 rw[aK,List.length_singleton];lia
def rCat:R2:=fun x y H Q=>∃l b xs zs,x=.ref l/\y=.ref b/\H l=some (.lst xs)/\H b=some (.lst zs)/\xs.length+zs.length<=sizeLine/\∀p,H p=none->Q (.ref p) (upd H p (.lst (xs++zs)))
theorem zsL:OpR X (binaryOp .Add) rCat:=by
 intro pins s σ H x y v u Q I R Z h;obtain⟨l,b,xs,zs,rfl,rfl,L,Y,hz,q⟩:=h;cases R;cases Z;obtain⟨z,G,n,r,hl,e⟩:=I.lstM L;obtain⟨z2,C,n2,J,S,U⟩:=I.lstM Y;refine PySem.P.add_list e U ?_ (by rw[ax,ax];lia)
 have N:G.toArray++C.toArray=(G++C).toArray:=by simp
 rw[N];exact⟨.ref _,_,I.lnew (t':=s.toks) (r.append J) (by rw[aK];lia),rfl,q _ I.fresh⟩
end
end L2
namespace Att
open PySem PySem.W PySem.Calls PyProof.Rows
theorem zeU{P:oE}{h:aS}:∀(ns:List Int) (u:List ah),WellAll P h u (ns.map xI)->fL u ns:=by
 intro ns;induction ns with
 | nil =>
  intro u w;rw[fi]at w;cases w;exact .nil
 | cons n ns v =>
  intro u w;rw[bV]at w;cases w with
  | cons a b =>
   cases a;exact .cons _ _ (v _ b)
theorem zln{l:OpenLaw}{n:Nat}(Y:l.most=some n){P:oE}{h:aS}{args:List WData}{vals:List ah}
  (I:l.row.toRowW.claim.pre args=true) (C:WellAll P h vals args) :
  ∃a J ns,vals=[b5 a]/\args=[WData.list (ns.map xI)]/\h.get? a=some { cls:=.type "list",data:=.seq J.toArray }/\fL J ns/\ns.length<=n:=by
 have G:WShape.hasAll [] args [.list .int]=true:=(pre_splitW I).1;have hc:l.pre.holds [] { args:=args }=true:=(pre_splitW I).2;obtain⟨d,r,rfl,U,L⟩:=hasAllW_cons G;obtain rfl:=hasAllW_nil L;obtain⟨xs,rfl,Z⟩:=hasW_list U;obtain⟨ns,rfl⟩:=items_int Z;have u:ns.length<=n:=by
  unfold OpenLaw.pre at hc;have x:(WTm.not (.lt (.lit (.int (n:Int))) (.len (.arg 0)))).holds [] { args:=[.list (ns.map .int)] }=true:=by
   have x:=(holds_andW hc).1;rw[Y]at x;exact x
  have v:=condW_of x (w_not (w_lt w_lit (w_len_list (w_arg rfl))));rw[aM]at v;refine m6 fun q=>?_
  have N:(n:Int)<((ns.length:Nat):Int):=by lia
  first
   | (rw[decide_eq_true N]at v;exact absurd v (by decide))
   | (simp at v;lia)
 cases C with
 | cons S R =>
  cases R;cases S with
  | list ho Ij=>exact⟨_,_,ns,rfl,rfl,ho,zeU ns _ Ij,u⟩
theorem zlG(l:OpenLaw)(args:List WData):l.row.toRowW.claim.post args (.bool true) args=true :=
 postW_of (r:=l.row.toRowW) (X:=(true == true))
  (show vS [] (.bool true) .bool=true by first|rfl|decide|simp[vS,WShape.arms,WShape.armsAll])
  (show(WTm.eq .res (.lit (.bool true))).value [] { args:=args,res:=some (.bool true),after:=args }=some (.bool (true == true)) from w_eq_bool (w_res rfl) w_lit) rfl
theorem attach_call{l:OpenLaw}{n:Nat}{q:aI}{loose:List Str}{XP:(Str->Option ah)->aS->Prop}{YP:aU->aS->Prop}{d:DefRec}
  (hn:l.most=some n) (N:d.params.defaults=[])
  (call:∀(w:aU) (s₀ v:au) (mg S:qM) (I:ak) (o:Obj) (pm cd doc:ah) (a:ak) (C:List ah) (ns:List Int),
   Ground q loose [] XP w s₀ mg S v.heap->YP w v.heap ->
   v.heap.get? I=some o->o.data=.func (docDef d.name d.params d.body d.scope pm cd doc)->v.heap.CodeRec cd d.name->mg d.name=some (.ref I) ->
   v.heap.get? a=some { cls:=.type "list",data:=.seq C.toArray }->fL C ns->ns.length<=n->v.gens=#[] ->
   codeAny (model l.prog w) callerA (.call (.ref I) ⟨[.ref a],[]⟩) (fun r s'=>r=.ok (.ret (.bool true))/\OldK v.heap s'.heap/\s'.os=v.os/\g8 s'.gens) v) :
  WalkO q loose XP YP l.row.toRowW d [] (fun f C=>vT f C):=by
 intro w s₀ v mg S G Y I o pm cd doc dV kV ho hd R hD Z hg args vals as Io hlay hrd U hlo;obtain rfl:dV=.none:=Dflts.none hD N;obtain rfl:kV=.none:=Dflts.noKw hD;obtain⟨a,C,ns,rfl,rfl,J,x,L⟩:=zln hn Io U;refine enter_call (gA (call w s₀ v mg S I o pm cd doc a C ns G Y ho (fd_plain hd) R Z J x L hg) fun r s' hq=>?_)
 obtain⟨rfl,h2,h3,h4⟩:=hq;exact⟨.inl ⟨.bool true,.bool true,[],rfl,fun _=>rfl,.bool true,zlG l _,fun _=>⟨wO,fun _ hm=>(nomatch hm)⟩⟩,h2,h3,h4⟩
end Att
namespace L2
open PySem PySem.Spec PyProof.Rows
theorem zgO:∀{u:List ah}{ns:List Int},fL u ns->Vals (ns.map V.int) u
 | _,_,.nil=>.nil
 | _,_,.cons n t h=>.cons ⟨t,rfl⟩ (zgO h)
def Only(H:Hp):Prop:=∀b,H b=none\/∃o xs,H b=some (.frz o (.lst xs))
theorem zoi{P:aI}{w:aU}{K:qF}{mg mb:qM}{CX:CXT}{k:Nat}{fa a:ak}{fd:cK}{x:Str}{sp:Sp}{C:au}{J:List ah}{ns:List Int}
  (KX:K.In C.heap) (hns:C.heap.Ns mainGlobals mg) (G:C.heap.Ns builtinsNs mb) (hbb:∀x:Str,x ≠ "__name__" -> mb x=bootBuiltins x) (R:C.heap.NoLimit) (hg:C.gens=#[])
  (ha:C.heap.get? a=some { cls:=.type "list",data:=.seq J.toArray }) (hi:fL J ns) (hl:ns.length<=sizeLine) (hr:Room k callerA)
  (F:∀base:aS,K.In base->base.Ns mainGlobals mg->FnOk P w K mg base CX k fa fd [x] sp) (IH:∀(s:au) (u:ah),oh s fd ⟨[u],[]⟩ [(x,u)])
  (hsp:∀H:Hp,Only H->SqL K H a (ns.map V.int)->sp [.ref a] H (fun v _=>v=.bl true) fun _ _ _=>False)
  (hCX:∀H e s',CX [] H C (fun _ _ _=>False) e s'->False) :
  codeAny (model P w) callerA (.call (.ref fa) ⟨[.ref a],[]⟩) (fun r s'=>r=.ok (.ret (.bool true))/\OldK C.heap s'.heap/\s'.os=C.os/\g8 s'.gens) C:=by
 have rv:=zgO hi;have S:=hi.length;have core:∀H:Hp,Only H->SqL K H a (ns.map V.int)->HOk P w H C.heap->(∀b,H b≠none->b=a)->(H a≠none->K.lookup a=none) ->
   codeAny (model P w) callerA (.call (.ref fa) ⟨[.ref a],[]⟩) (fun r s'=>r=.ok (.ret (.bool true))/\OldK C.heap s'.heap/\s'.os=C.os/\g8 s'.gens) C:=by
  intro H hO hS hok hA hK;have Ii:∀{b:ak} {o:Obj},C.heap.get? b=some o->H b=none->(hidT C.heap H).get? b=some o:=fun e n=>zoC e n
  have noA:∀{b:ak} {o:Obj} {L:Array dw} {U:Nat},C.heap.get? b=some o->o.data=.dict L U->H b=none:=fun {b o L U} e d=>by
   cases q:H b with
   | none=>rfl
   | some u =>
    have e':b=a:=hA b (by rw[q];simp)
    subst e';rw[ha]at e;cases e;have d':Data.seq J.toArray _=Data.dict L U:=d;cases d'
  have I:∀{b:ak} {m:qM},C.heap.Ns b m->(hidT C.heap H).Ns b m:=fun {b m} ⟨o,L,U,e,d,r⟩=>⟨o,L,U,Ii e (noA e d),d,r⟩
  have Z:K.In (hidT C.heap H):=fun b o e=>Ii (KX b o e) (by
   cases q:H b with
   | none=>rfl
   | some u =>
    have e':b=a:=hA b (by rw[q];simp)
    subst e';rw[hK (by rw[q];simp)]at e;cases e)
  have hM:Mod K mg (hidT C.heap H):=⟨Z,I hns,⟨mb,I G,hbb⟩,let ⟨mc,h1,h2⟩:=R;⟨mc,I h1,h2⟩⟩
  have e0:Env0 P w K mg (hidT C.heap H) callerA [] C H:=⟨rfl,hM,fun b o e=>zqj e,Nat.le_of_eq (zmC _ _),trivial,fun b G=>absurd (show b∈([]:List ak) from G) (by simp),hok,.of_eq hg⟩
  refine gA ((F _ Z (I hns)).run callerA [] C H ⟨[.ref a],[]⟩ [.ref a] [.ref a] _ _ hr e0 (IH C (.ref a)) (.cons rfl .nil) (hsp H hO hS)) fun r s' h=>?_
  cases r with
  | error e=>exact(hCX H e s' h).elim
  | ok fl =>
   cases fl with
   | next=>exact cc h
   | brk=>exact cc h
   | cont=>exact cc h
   | ret u =>
    obtain⟨v,H',os,bare,un,Y,r',q⟩:=h;have q':v=.bl true:=q;subst q';obtain rfl:u=ee true:=r';refine⟨rfl,OldK.of_keep fun b o e=>?_,os,bare⟩
    cases q:H b with
    | none=>exact un.keep b o e q (by intro z;exact absurd (show b∈([]:List ak) from z) (by simp)) (by simp)
    | some u =>
     rcases hO b with z|⟨ob,xs,z⟩
     ·rw[q]at z;cases z
     ·have z2:=un.frzs b ob _ z;obtain⟨e1,_⟩:=hok b _ z;obtain⟨e2,_⟩:=Y b _ z2;rw[e]at e1;cases e1;exact e2
 cases hk:K.lookup a with
 | some o =>
  have e:=KX a o hk;rw[ha]at e;cases e;refine core (fun _=>none) (fun _=>.inl rfl) (.inr ⟨_,J.toArray,_,hk,rfl,rfl,rfl,by rw[ax,S];exact hl,by simpa using rv⟩) (fun b u z=>by have z':(none:Option HO)=some u:=z;cases z') (fun b z=>absurd rfl z) fun z=>absurd rfl z
 | none =>
  refine core (fun b=>if b=a then some (.frz { cls:=.type "list",data:=.seq J.toArray } (.lst (ns.map V.int))) else none) (fun b=>?_) (.inl (.inr ⟨{ cls:=.type "list",data:=.seq J.toArray },if_pos rfl⟩)) (fun b u z=>?_) (fun b z=>?_) fun _=>hk
  ·by_cases G:b=a
   ·exact .inr ⟨_,_,if_pos G⟩
   ·exact .inl (if_neg G)
  ·by_cases G:b=a
   ·have z':=(if_pos G).symm.trans z;cases z';subst G;exact⟨ha,by rw[aM];exact hl,J,_,rv,ha⟩
   ·have z':=(if_neg G).symm.trans z;cases z'
  ·by_cases G:b=a
   ·exact G
   ·exact absurd (if_neg G) z
def QL(s:dg):Arguments:=match s with
 | .FunctionDef _ a _ _ _ _ _ _ _ _=>a
 | _=>{ posonlyargs:=[],args:=[],vararg:=none,kwonlyargs:=[],kw_defaults:=[],kwarg:=none,defaults:=[] }
def Qj(s:dg):List dg:=match s with
 | .FunctionDef _ _ b _ _ _ _ _ _ _=>b
 | _=>[]
def JH(s:dg):fc:=match s with
 | .FunctionDef _ _ _ _ _ _ sc _ _ _=>sc
 | _=>{ kind:=.function,names:=[],isGenerator:=false,isCoroutine:=false }
abbrev CX0:CXT:=fun _ _ _ _ _ _=>False
abbrev E0:XK:=fun _ _ _=>False
theorem zv7{X:Cx}:Vz CX0 X E0:=fun _ _ _ _ _ _ _ h=>h.elim
structure Fun(K:qF)(x qual:Str)(st:dg)(f:ak)(fd:cK):Prop where
 ex:∃(oc:ah) (od:Option ak) (kV doc pm:ah) (an:Option ak) (cdv ct:ah) (osl:Array (Option ah)),
  fd=c8 x qual (QL st) (Qj st) (JH st) .none kV doc pm an cdv ct/\K.lookup f=some ⟨oc,od,.func fd,osl⟩/\gD K cdv qual=true
 kp:gC K (.ref f)=true
section
variable{P:aI}{w:aU}{K:qF}{mg:qM}{base:aS}
theorem Fun.ok{x qual:Str}{st:dg}{f:ak}{fd:cK}{N ps:List Str}{k:Nat}{v:Sp}(F:Fun K x qual st f fd)(S:Ur N ps (JH st))(len:∀u H Q E,v u H Q E->u.length=ps.length)
  (G:∀(l:ah) (A:bw) (outer:List Env) (s:au) (H:Hp) (u:List V) (Q:VK) (E:XK),Room k (A.deeper (envOfC qual (JH st) s.heap.objs.size f l))->v u H Q E ->
   ∃t,PSs (cxOf CX0 P w K mg base N qual (JH st) f l A outer s H E).nox (Qj st) t/\t { nx:=fun _ J=>Q .non J,rt:=Q } (start N u) H):FnOk P w K mg base CX0 (k+1) f fd ps v:=by
 obtain⟨U,Y,kV,doc,pm,an,l,ct,R,rfl,I,y⟩:=F.ex;refine zua I y S len fun A outer s H u Q E L C=>?_
 obtain⟨t,h,q⟩:=G l A outer s H u Q E L C;exact⟨t,h.nox,q⟩
theorem Fun.binds{x qual:Str}{st:dg}{f:ak}{fd:cK}{ps:List Str}(F:Fun K x qual st f fd)
  (h:∀(kV doc pm:ah) (an:Option ak) (u ct:ah) (v:List ah),v.length=ps.length->bindArgs (c8 x qual (QL st) (Qj st) (JH st) .none kV doc pm an u ct) ⟨v,[]⟩=pure (ps.zip v)):Binds K fd ps []:=by
 obtain⟨I,J,kV,doc,pm,an,u,ct,C,rfl,G,y⟩:=F.ex;exact .all (h kV doc pm an u ct)
theorem zpm{x qual:Str}{st:dg}{f:ak}{C:ah}{G an:Option ak}{y:Array (Option ah)}{kV doc pm v ct:ah}(l:K.lookup f=some ⟨C,G,.func (c8 x qual (QL st) (Qj st) (JH st) .none kV doc pm an v ct),y⟩)
  (c:gD K v qual=true) (k:gC K (.ref f)=true):Fun K x qual st f (c8 x qual (QL st) (Qj st) (JH st) .none kV doc pm an v ct):=⟨⟨C,G,kV,doc,pm,an,v,ct,y,rfl,l,c⟩,k⟩
end
section
variable{X:Cx}
theorem pv(i:Nat){x:Str}{pos:Pos}(u:X.N[i]?=some x:=by rfl)(v:Vis X.env.scope x:=by walk_at "V")(hd:(x == ("__debug__":Str))=false:=by decide)
  (l:(x == ("__classdict__":Str))=false:=by decide):PE X (.Name x pos) (tVar i):=Q8 u v hd l
end
theorem iteF{A B:Prop}(h:B):if false=true then A else B:=by
 rw[if_neg aY];exact h
theorem iteT{A B:Prop}(h:A):if true=true then A else B:=by
 rw[if_pos rfl];exact h
def Same(H l:Hp):Prop:=∀b o,H b=some o->l b=some o
theorem Same.refl(H:Hp):Same H H:=fun _ _ h=>h
def closed(env:Env):List (Str×er)->List (Str×ak)->List (Str×ak)
 | [],acc=>acc
 | (n,k)::r,acc=>closed env r (if (k == .free)=true then(n,(env.cells.lookup n).getD 0)::acc else acc)
theorem ze_{env:Env}:∀(l:List (Str×er)) (u:List (Str×ak)),(∀x∈l,x.2=.free->∃c,env.cells.lookup x.1=some c) ->
  (forIn l u fun x __s=>if (x.snd == cj)=true then do
    let c <- cellOf env x.fst
    pure (bZ ((x.fst,c)::__s))
   else pure (bZ __s):Sem (List (Str×ak)))=pure (closed env l u)
 | [],u,_=>rfl
 | (n,k)::r,u,h=>by
  have y:=fun a=>ze_ (env:=env) r a fun x hx=>h x (cF _ hx)
  rw[hW]
  by_cases e:(k == cj)=true
  ·obtain⟨c,hc⟩:=h (n,k) cS (by simpa using e)
   have v:uo n env.cells=some c:=hc;have G:cellOf env n=pure c:=by unfold cellOf;rw[v]
   simp only[e,if_true,G,pure_bind];rw[y]
   conv=>rhs;unfold closed
   simp only[e,if_true,v,dX]
  ·have C:(k == cj)=false:=by simpa using e
   simp only[C,aH,if_false,pure_bind];rw[y]
   conv=>rhs;unfold closed
   simp only[C,aH,if_false]
theorem zbs{scope:fc}{env:Env}(h:∀x∈scope.names,x.2=.free->∃c,env.cells.lookup x.1=some c):closureFor scope env=pure (closed env scope.names []):=by
 simp only[closureFor];rw[ze_ scope.names [] h]
 rfl
theorem Wp{env:Env}:∀(l:List (Str×er)) (v:List (Str×ak)),(∀x∈l,x.2=.free->∃c,env.cells.lookup x.1=some c) ->
  (∀x c,v.lookup x=some c->env.cells.lookup x=some c)->∀x c,(closed env l v).lookup x=some c->env.cells.lookup x=some c
 | [],v,_,ha=>ha
 | (n,k)::r,v,h,ha=>by
  unfold closed;refine Wp r _ (fun x hx=>h x (cF _ hx)) fun x c=>?_
  by_cases e:(k == cj)=true
  ·obtain⟨d,hd⟩:=h (n,k) cS (by simpa using e)
   have y:uo n env.cells=some d:=hd;simp only[e,if_true,y,dX];intro q;rw[cI]at q
   by_cases ex:(x == n)=true
   ·simp only[ex]at q;have C:x=n:=by simpa using ex
    cases q;rw[C];exact y
   ·have G:(x == n)=false:=by simpa using ex
    simp only[G]at q;exact ha x c q
  ·have I:(k == cj)=false:=by simpa using e
   simp only[I,aH,if_false];exact ha x c
theorem zf3{env:Env}:∀(l:List (Str×er)) (v:List (Str×ak)) (x:Str),(∃c,v.lookup x=some c)->∃c,(closed env l v).lookup x=some c
 | [],_,_,h=>h
 | (n,k)::r,v,x,h=>by
  unfold closed;refine zf3 r _ x ?_
  by_cases e:(k == cj)=true
  ·simp only[e,if_true];rw[cI];cases(x == n) with
   | true=>exact⟨_,rfl⟩
   | false=>exact h
  ·have y:(k == cj)=false:=by simpa using e
   simp only[y,aH,if_false];exact h
theorem zdS{env:Env}:∀(l:List (Str×er)) (v:List (Str×ak)) (x:Str),(x,cj)∈l->∃c,(closed env l v).lookup x=some c
 | [],_,_,h=>nomatch h
 | (n,k)::r,v,x,h=>by
  unfold closed;rcases aw.mp h with e|h
  ·cases e;refine zf3 r _ _ ?_;have y:(cj == cj)=true:=rfl;simp only[y,if_true];rw[cI];simp
  ·exact zdS r _ x h
theorem lookup_mem{α:Type}{l:List (Str×α)}{x:Str}{v:α}(h:l.lookup x=some v):(x,v)∈l:=by
 induction l with
 | nil=>simp at h
 | cons p r u =>
  obtain⟨n,w⟩:=p;rw[cI]at h
  by_cases e:(x == n)=true
  ·simp only[e]at h;cases h;have C:x=n:=by simpa using e
   rw[C];exact cS
  ·have y:(x == n)=false:=by simpa using e
   simp only[y]at h;exact cF _ (u h)
def UI(env:Env)(p:Str×er):Str×er:=if (p.2 == cj&&env.scope.kind == .function&&env.kindOf p.1 == some .cell)=true then(p.1,.cell) else p
theorem zlz(env:Env)(p:Str×er):(UI env p).1=p.1:=by
 unfold UI
 by_cases c:(p.2 == cj&&env.scope.kind == .function&&env.kindOf p.1 == some .cell)=true
 ·rw[if_pos c]
 ·rw[if_neg c]
def kin(env:Env)(x:Str):Option er->Option er
 | some .free=>if (env.scope.kind == .function&&env.kindOf x == some .cell)=true then some .cell else some .free
 | o=>o
theorem zly(env:Env)(x:Str)(k:er):some (UI env (x,k)).2=kin env x (some k):=by
 unfold UI
 by_cases c:(k == cj&&env.scope.kind == .function&&env.kindOf x == some .cell)=true
 ·rw[if_pos c];rw[aG,aG]at c;have v:k=.free:=by simpa using c.1.1
  subst v;unfold kin;rw[if_pos (by rw[aG];exact⟨c.1.2,c.2⟩)]
 ·rw[if_neg c];cases k with
  | free =>
   have:¬(env.scope.kind == .function&&env.kindOf x == some .cell)=true:=fun z=>c (by
    have y:(cj == cj)=true:=rfl;rw[y,cO];exact z)
   unfold kin;rw[if_neg this]
  | _=>rfl
theorem zgc(scope:fc)(env:Env):(relabel scope env).names=scope.names.map (UI env):=by
 show scope.names.map _=_
 refine ia fun p _=>?_
 obtain⟨n,k⟩:=p
 rfl
theorem zfx(env:Env):∀(l:List (Str×er)) (x:Str),(l.map (UI env)).lookup x=kin env x (l.lookup x)
 | [],_=>rfl
 | (n,k)::r,x=>by
  have v:=zfx env r x;have C:UI env (n,k)=(n,(UI env (n,k)).2):=iD (zlz env (n,k)) rfl;rw[bV,C,cI,cI]
  by_cases e:(x == n)=true
  ·have G:x=n:=by simpa using e
   subst G;simp only[beq_self_eq_true];exact zly env x k
  ·have y:(x == n)=false:=by simpa using e
   simp only[y];exact v
theorem zdV(scope:fc)(env:Env)(x:Str):(relabel scope env).names.lookup x=kin env x (scope.names.lookup x):=by
 rw[zgc];exact zfx env _ x
abbrev capN(X:Cx)(capt:List Nat):List Str:=capt.map fun i=>X.N.getD i iq
abbrev capS(capt:List Nat)(σ:St):St:=capt.map fun i=>σ.getD i none
abbrev Jw(own:List Str):St:=own.map fun _=>none
abbrev Jm(X:Cx)(scope:fc)(own:List Str)(capt:List Nat)(C:ak)(s₀:au)(H₀:Hp)(fp:List ak):Cx :=
 { X with N:=own++capN X capt,s₀:=s₀,H₀:=H₀,env:=compEnvC scope (closed X.env scope.names []) C X.env,outer:=X.stack,stack:=X.stack,ex:=fp,fn:=fun _=>false,pn:=[],xe:=fun _ _=>False }
structure JJ(scope:fc)(own:List Str)(capt:List Nat)(X:Cx):Prop where
 kind:scope.kind=.function
 nocell:∀y∈scope.names,y.2≠.cell
 names:∀y∈scope.names,y.2=.local->scope.names.lookup y.1=some .local
 frees:∀y∈scope.names,y.2=.free->X.env.kindOf y.1=some .cell\/X.env.kindOf y.1=some .free
 caps:∀k∈capt,scope.names.lookup (X.N.getD k iq)=some .free
theorem getD_some{α:Type}{l:List (Option α)}{k:Nat}{v:α}(h:l.getD k none=some v):l[k]?=some (some v):=by
 rw[bh]at h;cases e:l[k]? with
 | none=>rw[e]at h;cases h
 | some o=>rw[e]at h;simp at h;rw[h]
section
variable{X:Cx}{scope:fc}{own:List Str}{capt:List Nat}
theorem JJ.cells(S:JJ scope own capt X)(ok:X.Ok):∀x∈scope.names,x.2=.free->∃c,X.env.cells.lookup x.1=some c:=fun x hx hf=>ok.has x.1 (S.frees x hx hf)
theorem zrd{pins:qO}{σ:St}{H₀:Hp}{s₀:au}{C:ak}{J:List ak}(S:JJ scope own capt X)(I:Inv X pins σ H₀ s₀)(hf:∀b∈J,FpOk X pins H₀ b)(N:∀b∈J,b<s₀.heap.objs.size)(U:s₀.heap.objs.size<=C) :
  (Jm X scope own capt C s₀ H₀ J).Ok:=by
 have sub:=Wp scope.names [] (S.cells I.ok) (fun x c h=>nomatch (show(none:Option ak)=some c from h))
 refine⟨I.ok.mod,S.kind,I.ok.glob,I.ok.blt,U,fun x y c Z Y=>I.ok.inj x y c (sub x c Z) (sub y c Y),fun x hk=>?_,fun x c z=>absurd (show false=true from z) aY,I.ok.hd,I.ok.frames,.inl rfl,fun b G=>?_,I.bs,bY I.ok.bsz I.sz,fun b o e G=>?_,fun b G z=>?_,I.stack,I.stkFree⟩
 ·have e:=zdV scope X.env x;have v:(relabel scope X.env).names.lookup x=some .cell\/(relabel scope X.env).names.lookup x=some .free:=hk;rw[e]at v;cases q:scope.names.lookup x with
  | none=>rw[q]at v;rcases v with z|z <;> cases z
  | some k =>
   rw[q]at v;cases k with
   | free=>exact zdS scope.names [] x (lookup_mem q)
   | cell=>exact absurd rfl (S.nocell _ (lookup_mem q))
   | _=>rcases v with z|z <;> cases z
 ·obtain⟨f0,f1,f2,L,f4,R⟩:=hf b G;exact⟨aF (aC (N b G) U),fun x c e=>f4 x c (sub x c e)⟩
 ·obtain⟨f0,f1,f2,L,f4,R⟩:=hf b G;rcases L with z|z
  ·exact I.ok.noex b o e z
  ·exact absurd (aC (aA (I.ok.bs b o e).1) z) (gf _)
 ·obtain⟨f0,f1,f2,L,f4,R⟩:=hf b G;rcases aw.mp (I.stkSub b z) with q|q
  ·exact f1 q
  ·exact f2 q
theorem zm7{J:HO}{pins:qO}{σ:St}{H₀:Hp}{s₀:au}{fp:List ak}{h':aS}{D C:ak}{tk:Nat}(S:JJ scope own capt X)(I:Inv X pins σ H₀ s₀)(hf:∀b∈fp,FpOk X pins H₀ b)(hfp:∀b∈fp,b<s₀.heap.objs.size)
  (hD:s₀.heap.objs.size<=D) (hC:s₀.heap.objs.size<=C) (hDC:D≠C) (old:∀b o,s₀.heap.get? b=some o->h'.get? b=some o) (hns:h'.Ns C (fun _=>none)) (U:JL X.prog X.w (upd H₀ D J) h' D J) :
  Inv (Jm X scope own capt C s₀ H₀ fp) [] (Jw own++capS capt σ) (upd H₀ D J) { s₀ with heap:=h',toks:=tk }:=by
 have ok:=zrd S I hf hfp hC;have sub:=Wp scope.names [] (S.cells I.ok) (fun x c h=>nomatch (show(none:Option ak)=some c from h))
 have hn:H₀ D=none:=I.hok.fresh hD;refine⟨ok,rfl,I.bare,Un.laid old hD hn,⟨_,hns,fun i x v e1 L e3=>?_⟩,fun x c e=>?_,?_,fun x c e=>?_,fun p hp=>absurd (show p∈([]:qO) from hp) (by simp),I.hok.laid (o:=J) old hD U,(by show(Jw own++capS capt σ).length=(own++capN X capt).length;simp[Jw,capS,capN])⟩
 ·have N:(Jw own).length=own.length:=aM ..
  by_cases hi:i<own.length
  ·rw[cq (by rw[N];exact hi)]at L
   unfold Jw at L;rw[aZ]at L;cases q:own[i]? with
   | none=>rw[q]at L;cases L
   | some z=>rw[q]at L;cases L
  ·have Z:own.length<=i:=m6 hi;have G:(own++capN X capt)[i]?=some x:=e1;rw[cG Z]at G;rw[cG (by rw[N];exact Z),N]at L
   unfold capN at G;unfold capS at L;rw[aZ]at G L;cases q:capt[i - own.length]? with
   | none=>rw[q]at G;cases G
   | some k =>
    rw[q]at G L;have ex:X.N.getD k iq=x:=aL G;have ev:σ.getD k none=some v:=aL L;have hk:k∈capt:=aV q;have hv:=getD_some ev;have Y:k<X.N.length:=by
     rw[<- I.len];exact(av.mp hv).1
    have hx:X.N[k]?=some x:=by
     rw[bh,aE Y]at ex;rw[aE Y];exact congrArg some ex
    have HM:=S.caps k hk;rw[ex]at HM;have Ig:=S.frees _ (lookup_mem HM) rfl;obtain⟨m,hm,hl⟩:=I.loc;have vis:Vis X.env.scope x:=by
     rcases Ig with z|z
     ·exact .inr (.inl z)
     ·exact .inr (.inr z)
    obtain⟨u,r,l⟩:=hl k x v hx hv vis;refine⟨u,r,.inr ⟨?_,?_⟩⟩
    ·have e:=zdV scope X.env x;rw[HM]at e;show(relabel scope X.env).names.lookup x=some .cell\/(relabel scope X.env).names.lookup x=some .free
     rw[e];unfold kin
     by_cases c:(X.env.scope.kind == .function&&X.env.kindOf x == some .cell)=true
     ·rw[if_pos c];exact .inl rfl
     ·rw[if_neg c];exact .inr rfl
    ·rcases l with⟨z,_⟩|⟨_,c,hc,R⟩
     ·rcases Ig with y|y <;> (have y':X.env.kindOf x=_:=y;rw[z]at y';cases y')
     ·obtain⟨d,hd⟩:=zdS (env:=X.env) scope.names [] x (lookup_mem HM);have:=sub x d hd;rw[hc]at this;cases this;obtain⟨o,U,hod⟩:=R;exact⟨c,hd,o,old _ _ U,hod⟩
 ·obtain⟨v,o,U,hd⟩:=I.cell x c (sub x c e);exact⟨v,o,old _ _ U,hd⟩
 ·show upd H₀ D J C=none
  rw[Js (ke hDC)];exact I.hok.fresh hC
 ·obtain⟨v,o,U,hd⟩:=I.cell x c (sub x c e);show upd H₀ D J c=none
  rw[Js (aF (aC (aA U) hD))];exact I.freeC x c (sub x c e)
theorem zoT{pins:qO}{σ:St}{H₀:Hp}{s₀:au}{v:List ak}{h':aS}{D C:ak}{tk:Nat}(S:JJ scope own capt X)(I:Inv X pins σ H₀ s₀)(hf:∀b∈v,FpOk X pins H₀ b)(G:∀b∈v,b<s₀.heap.objs.size)
  (L:s₀.heap.objs.size<=D) (N:s₀.heap.objs.size<=C) (x:D≠C) (old:∀b o,s₀.heap.get? b=some o->h'.get? b=some o) (u:h'.Ns C (fun _=>none)) (J:h'.get? D=some { cls:=.type "list",data:=.seq ([]:List ah).toArray 0 }) :
  Inv (Jm X scope own capt C s₀ H₀ v) [] (Jw own++capS capt σ) (upd H₀ D (.lst [])) { s₀ with heap:=h',toks:=tk }:=zm7 S I hf G L N x old u ⟨dQ _,[],0,.nil,J⟩
theorem zoS{pins U:qO}{σ σ':St}{H₀ x:Hp}{s₀ s':au}{R:List ak}{h'':aS}{C:ak}(I:Inv X pins σ H₀ s₀)(hf:∀b∈R,FpOk X pins H₀ b)(hC:s₀.heap.objs.size<=C)
  (J:Inv (Jm X scope own capt C s₀ H₀ R) U σ' x s') (N:dO C s'.heap h''):Inv X pins σ x { s' with heap:=h'' }:=by
 have L:x C=none:=J.free;have l:∀b o,s₀.heap.get? b=some o->b≠C:=fun b o e=>aF (aC (aA e) hC)
 have u:Un (frs X.stack) R H₀ x s₀.heap s'.heap:=J.base;have u2:Un (frs X.stack) R H₀ x s₀.heap h'':=by
  refine⟨fun b o q n S G=>(N.2 b (l b o q)).trans (u.keep b o q n S G),fun b o q n S G=>?_,u.free,fun b o q G=>?_,u.tups,u.frzs,u.tbls⟩
  ·obtain⟨sl,e⟩:=u.slot b o q n S G;exact⟨sl,(N.2 b (l b o q)).trans e⟩
  ·obtain⟨Z,e⟩:=u.there b o q G;exact⟨Z,(N.2 b (l b o q)).trans e⟩
 have hok:HOk X.prog X.w x h'':=fun b ob e=>by
  refine(J.hok b ob e).stay (fun c v hc q=>(N.2 c ?_).trans q) (fun _ q=>q) (fun _ _ q=>q) fun _ _ _ q=>q
  rintro rfl;rcases hc with z|z
  ·subst z;rw[L]at e;cases e
  ·rw[L]at z;cases z
 refine I.call' (s':={ s' with heap:=h'' }) J.os u2 hok J.bare fun b hb=>?_
 obtain⟨f0,f1,f2,f3,f4,Y⟩:=hf b hb;exact⟨f3,f1,f4,Y⟩
end
def PTs(Y:Cx)(ifs:List aT)(t:TT):Prop :=
 ∀(pins:qO) (s:au) (σ:St) (H:Hp) (Q:Bool->Hp->Prop),Inv Y pins σ H s->t σ H Q ->
  wpAny (model Y.prog Y.w) Y.A (forIn ifs true fun c r=>if r=true then do let ok <- isTrue c Y.env (eval c Y.env);pure (bZ ok) else pure (bZ r)) (TP Y pins σ Q) Y.xe s
def tYes:TT:=fun _ H Q=>Q true H
theorem zpL{Y:Cx}:PTs Y [] tYes:=fun _ _ _ H _ I h=>wpAny_tests_nil ⟨H,I,h⟩
theorem zpK{Y:Cx}{c:aT}{t:TT}(h:PT Y c t):PTs Y [c] t:=fun pins s σ H Q I q=>wpAny_tests_one (h pins s σ H Q I q)
abbrev NoX:ah->au->Prop:=fun _ _=>False
theorem zk1{prog:aI}{w:aU}{A:bw}{R:mX->au->Prop}{s:au}{elt target iter:aT}{ifs:List aT}{scope:fc}{pos:Pos}{it acc:ah}{env:Env}(I:Nat->au->Prop)
  (turn:∀n s,I n s->wpAny (model prog w) A (pyNext it) (fun r y=>match r with
   | none=>R (.ok .next) y
   | some v=>wpAny (model prog w) A (letOwnedTupleGo target it v) (fun _ Y=>wpAny (model prog w) A (assign target env v) (fun _ U =>
     wpAny (model prog w) A (forIn ifs true fun c r=>if r=true then do let ok <- isTrue c env (eval c env);pure (bZ ok) else pure (bZ r)) (fun ok G =>
      if ok=true then wpAny (model prog w) A (eval elt env) (fun x Z=>wpAny (model prog w) A (call (.builtin "list.append") [acc,x]) (fun _ J=>∃m,m<n/\I m J) NoX Z) NoX G
      else ∃m,m<n/\I m G) NoX U) NoX Y) NoX y) NoX s) (n:Nat) (h:I n s) :
  codeAny (model prog w) A (.compLoop (.ListComp elt [⟨target,iter,ifs,0⟩] scope pos) 0 it acc env) R s:=by
 refine mC rfl I (fun n s hI=>?_) n h
 show wpAny _ A ((compTurn (.ListComp elt [⟨target,iter,ifs,0⟩] scope pos) 0 it acc env).onRaise (fun x=>do noteFrame x env;theTreesLotGoes x)) _ _ s
 refine nG (cT (E:=NoX) ?_ (fun _ _ q=>q) fun _ _ z=>cc z)
 rw[compTurn_list];refine ae (dA (ae (thn (turn n s hI) fun r y N=>?_)))
 cases r with
 | none=>exact aj N
 | some v =>
  refine ae (thn N fun _ Y h₂=>ae (thn h₂ fun _ U h₃=>ae (thn h₃ fun ok G S=>?_)))
  cases ok with
  | false=>exact aj ⟨rfl,S⟩
  | true =>
   refine ae (ae (thn S fun x Z h₅=>ae (thn h₅ fun _ J h₆=>?_)))
   exact aj (aj ⟨rfl,h₆⟩)
def Wk:St->St->Prop
 | [],[]=>True
 | none::r,_::r'=>Wk r r'
 | some v::r,o::r'=>o=some v/\Wk r r'
 | _,_=>False
theorem Wk.weak:∀{σ σ':St},Wk σ σ'->σ.length=σ'.length/\∀(i:Nat) v,σ[i]?=some (some v)->σ'[i]?=some (some v)
 | [],[],_=>⟨rfl,fun _ _ h=>by simp at h⟩
 | none::r,o::r',h=>by
  obtain⟨a,b⟩:=Wk.weak (σ:=r) (σ':=r') h;refine⟨by simp[a],fun i v e=>?_⟩
  cases i with
  | zero=>simp at e
  | succ i=>simpa using b i v (by simpa using e)
 | some w::r,o::r',h=>by
  obtain⟨h0,l⟩:o=some w/\Wk r r':=h;obtain⟨a,b⟩:=Wk.weak l;refine⟨by simp[a],fun i v e=>?_⟩
  cases i with
  | zero=>rw[h0];simpa using e
  | succ i=>simpa using b i v (by simpa using e)
 | none::_,[],h=>cc h
 | some _::_,[],h=>cc h
 | [],_::_,h=>cc h
def zro(own:List Str)(capt:List Nat)(g:TG)(tt:TT)(Y:TE)(σ:St)(J:It)(U:Hp)(D:ak)(Q:VK):Prop:=∃W:Nat->Nat->Hp->Prop,(∃m,W 0 m (upd U D (.lst [])))/\∀i m C,W i m C ->
 (J.stop i C/\Q (.ref D) C)\/(J.go i C/\∃(N:V->Hp->Prop) (R:Hp->Prop),(∀v I,N v I->∃ys,I D=some (.lst ys)/\ys.length<sizeLine/\∃y,y<m/\W (i+1) y (upd I D (.lst (ys++[v]))))/\(∀G,R G->∃y,y<m/\W (i+1) y G) /\
  ∀x L,J.yld i C x L->g x (Jw own++capS capt σ) L fun u S=>Wk (Jw own++capS capt σ) u/\tt u S fun b G=>if b=true then Y u G N else R G)
def tComp(own:List Str)(capt:List Nat)(v:TI)(g:TG)(tt:TT)(u:TE):TE:=fun σ H Q=>v σ H fun J l=>∀D,l D=none->zro own capt g tt u σ J l D Q
def CompI(Y:Cx)(pins:qO)(σ:St)(u:List ak)(v:Nat->aS->Prop)(W:Nat->Nat->Hp->Prop)(n:Nat)(s':au):Prop:=∃i l,Inv Y pins σ l s'/\v i s'.heap/\(∀b∈u,l b=none)/\W i n l
theorem zf8{Y:Cx}{tg:aT}{ifs:List aT}{g:TG}{tt:TT}(hxe:Y.xe=NoX)(hc:Y.calm=true)(hg:PG Y tg g)(ht:PTs Y ifs tt){pins:qO}{σ:St}{it:ak}{I:List ak}{tn:Nat->aS->Prop}{J:It}(T:Turn Y.prog Y.w Y.K tg J I it tn)
  (HN:∀{H':Hp},(∀b∈I,H' b=none)->∀b∈I,FpOk Y pins H' b) {W:Nat->Nat->Hp->Prop} {n i:Nat} {s4:au} {L:Hp} {Dn AC:au->Prop} (I4:Inv Y pins σ L s4) (st4:tn i s4.heap) (fr4:∀b∈I,L b=none)
  (h:(J.stop i L/\∀s5,Inv Y pins σ L s5->Dn s5)\/(J.go i L/\∃(NT:St->Hp->Prop) (NF:Hp->Prop),(∀{p6 l C S},Inv Y (pins++p6) l C S->NT l C->(∀{s9 H9 y},Inv Y (pins++p6) l H9 s9->y<n->W (i+1) y H9->∃m,m<n/\CompI Y pins σ I tn W m s9)->AC S) /\
   (∀H5,NF H5->∃y,y<n/\W (i+1) y H5)/\∀x H3,J.yld i L x H3->g x σ H3 fun R H5=>Wk σ R/\tt R H5 fun b H6=>if b=true then NT R H6 else NF H6)) :
  wpAny (model Y.prog Y.w) Y.A (pyNext (.ref it)) (fun r G=>match r with
   | none=>Dn G
   | some v=>wpAny (model Y.prog Y.w) Y.A (letOwnedTupleGo tg (.ref it) v) (fun _ s₂=>wpAny (model Y.prog Y.w) Y.A (assign tg Y.env v) (fun _ s₃ =>
     wpAny (model Y.prog Y.w) Y.A (forIn ifs true fun c r=>if r=true then do let ok <- isTrue c Y.env (eval c Y.env);pure (bZ ok) else pure (bZ r)) (fun ok N =>
      if ok=true then AC N else ∃m,m<n/\CompI Y pins σ I tn W m N) NoX s₃) NoX s₂) NoX G) NoX s4:=by
 rcases h with⟨stop,dn⟩|⟨go,NT,NF,hT,hF,step⟩
 ·refine thn (T.done Y rfl rfl rfl hc i pins s4 _ L NoX I4 (HN fr4) st4 stop) fun r s5 ⟨hr,I5⟩=>?_
  subst hr;exact dn s5 I5
 ·refine thn (T.item Y rfl rfl rfl hc i pins s4 _ L NoX I4 (HN fr4) st4 go) fun r s5 ⟨u,hr,h5⟩=>?_
  subst hr;refine thn h5 fun _ s6 ⟨x,H6,I6,r6,y6,U,fr6⟩=>?_
  have I6':=I6.pinned (HN fr6) (T.obj _ _ U);have a1:=hg _ s6 _ H6 x u _ I6' r6 (step x H6 y6);rw[hxe]at a1;refine thn a1 fun _ s7 ⟨l,H7,I7,wk,q7⟩=>?_
  obtain⟨wl,wv⟩:=wk.weak;have again:∀{S:au} {C:Hp} {y:Nat},Inv Y (pins++ZM I s6.heap) l C S->y<n->W (i+1) y C->∃m,m<n/\CompI Y pins σ I tn W m S:=fun {S C y} Z hm w8=>by
   refine⟨y,hm,i+1,C,(Z.unpinned).weak wl wv,T.keep _ _ _ U fun b hb o e=>(Z.pin (b,o) (bN _ (bN _ (Wq hb e)))).1,fun b hb=>?_,w8⟩
   obtain⟨o,e,d⟩:=T.obj _ _ U b hb;exact(Z.pin (b,o) (bN _ (bN _ (Wq hb e)))).2.1
  have a2:=ht _ s7 l H7 _ I7 q7;rw[hxe]at a2;refine thn a2 fun ok S ⟨C,Z,q8⟩=>?_
  cases ok with
  | false =>
   obtain⟨y,hm,w8⟩:=hF C (by simpa using q8)
   exact again Z hm w8
  | true=>exact hT Z (by simpa using q8) again
section
variable{X:Cx}{scope:fc}{own:List Str}{capt:List Nat}{elt tg iter:aT}{ifs:List aT}{pos:Pos}{wi:TI}{g:TG}{tt:TT}{te:TE}
theorem zm4(S:JJ scope own capt X){pins:qO}{σ:St}{y:Hp}{s2:au}{u:List ak}{C:ak}(I:Inv X pins σ y s2)(f2:∀b∈u,FpOk X pins y b)(G:∀b∈u,b<s2.heap.objs.size)(U:s2.heap.objs.size<=C){J:Hp}(R:∀b∈u,J b=none):∀b∈u,FpOk (Jm X scope own capt C s2 y u) [] J b:=fun b v=>by
 obtain⟨Y,g1,g2,g3,L,Z⟩:=f2 b v;have sub:=Wp scope.names [] (S.cells I.ok) (fun x c h=>nomatch (show(none:Option ak)=some c from h))
 refine⟨R b v,aF (aC (G b v) U),fun z=>?_,.inl v,fun x c e=>L x c (sub x c e),fun p N=>absurd (show p∈([]:qO) from N) (by simp)⟩
 rcases aw.mp (I.stkSub b z) with q|q
 ·exact g1 q
 ·exact g2 q
theorem zh7(S:JJ scope own capt X){pins:qO}{σ:St}{R:It->Hp->Prop}{Z:ah}{s2:au}{E:qV}{CA:ah->Env->au->Prop}(h2:PIE X pins σ tg R Z s2)
  (k:∀(it:ak) (G:List ak) (tn:Nat->aS->Prop) (J:It) (I:Hp) (D C:ak) (v:aS),Z=.ref it->Turn X.prog X.w X.K tg J G it tn->R J I->I D=none->tn 0 v->(∀b∈G,upd I D (.lst []) b=none) ->
   (∀tk,Inv (Jm X scope own capt C s2 I G) [] (Jw own++capS capt σ) (upd I D (.lst [])) { s2 with heap:=v,toks:=tk })->(∀{H':Hp},(∀b∈G,H' b=none)->∀b∈G,FpOk (Jm X scope own capt C s2 I G) [] H' b) ->
   (∀s5 U,Inv (Jm X scope own capt C s2 I G) [] (Jw own++capS capt σ) U s5->(∃m,s5.heap.Ns C m)/\(∀h'',dO C s5.heap h''->Inv X pins σ U { s5 with heap:=h'' })/\U C=none/\FpOk X pins U C) ->
   CA (.ref D) (compEnvC scope (closed X.env scope.names []) C X.env) { s2 with heap:=v }) :
  wpAny (model X.prog X.w) X.A (newList []) (fun acc s₃=>wpAny (model X.prog X.w) X.A (newFunctionEnv scope X.env.globals (closed X.env scope.names []) [] X.env.qual none .none (some X.env)) (fun cenv N=>CA acc { cenv with scope:=relabel scope X.env } N) E s₃) E s2:=by
 obtain⟨it,G,tn,J,I,e,Y,T,st2,f2,rd⟩:=h2;have L:∀b∈G,b<s2.heap.objs.size:=fun b hb=>by
  obtain⟨o,e,_⟩:=T.obj 0 _ st2 b hb;exact aA e
 refine cZ (wpAny_newFunctionEnv S.nocell (by intro y hy;simp at hy) (fun v x u=>?_) S.kind)
 dsimp only at x u ⊢;generalize hH3:s2.heap.push { cls:=.type "list",dict:=none,data:=.seq ([]:List ah).toArray }=H3 at x u ⊢;have hC:H3.objs.size=s2.heap.objs.size+1:=by rw[<- hH3,eY]
 have hDC:s2.heap.objs.size≠H3.objs.size:=by rw[hC];exact aF (Nat.lt_succ_self _)
 have HZ:s2.heap.objs.size<=H3.objs.size:=by rw[hC];exact iP _
 have neC:∀b o,s2.heap.get? b=some o->b≠H3.objs.size:=fun b o e=>aF (aC (aA e) HZ)
 have old:∀b o,s2.heap.get? b=some o->v.get? b=some o:=fun b o e=>u.extBut b o (neC b o e) (aq _ (hH3▸aq _ e))
 have Iw:v.get? s2.heap.objs.size=some { cls:=.type "list",data:=.seq ([]:List ah).toArray 0 }:=u.extBut _ _ hDC (aq _ (hH3▸aD _ rfl));refine k it G tn J I s2.heap.objs.size H3.objs.size v e T rd (Y.hok.fresh (ay _)) (T.keep _ _ _ st2 fun b hb o e=>old b o e) (fun b hb=>by rw[Js (aF (L b hb))];exact(f2 b hb).1)
  (fun tk=>zoT (tk:=tk) S Y f2 L (ay _) HZ hDC old x Iw) (zm4 S Y f2 L HZ) (fun s5 U I5=>?_)
 obtain⟨m,hn,_⟩:=I5.loc;exact⟨⟨m,hn⟩,fun h'' sb=>zoS Y f2 HZ I5 sb,I5.free,Y.fpOk HZ I5.free⟩
theorem zj8(hc:X.calm=true)(S:JJ scope own capt X)
  (hg:∀C s₀ H₀ R,PG (Jm X scope own capt C s₀ H₀ R) tg g) (ht:∀C s₀ H₀ R,PTs (Jm X scope own capt C s₀ H₀ R) ifs tt) (he:∀C s₀ H₀ R,PE (Jm X scope own capt C s₀ H₀ R) elt te)
  {pins:qO} {σ:St} {Q:VK} {U:ah} {s2:au} {E:qV} {RR:ah->ak->mX->au->Prop}
  (h2:PIE X pins σ tg (fun J H1=>∀D,H1 D=none->zro own capt g tt te σ J H1 D Q) U s2)
  (hR:∀D C s' Z,(∃m,s'.heap.Ns C m)->(∀h'',dO C s'.heap h''->Inv X pins σ Z { s' with heap:=h'' })->Z C=none->FpOk X pins Z C->Q (.ref D) Z->RR (.ref D) C (.ok .next) s') :
  wpAny (model X.prog X.w) X.A (newList []) (fun G s₃=>wpAny (model X.prog X.w) X.A (newFunctionEnv scope X.env.globals (closed X.env scope.names []) [] X.env.qual none .none (some X.env)) (fun u I =>
   codeAny (model X.prog X.w) X.A (.compStart (.ListComp elt [⟨tg,iter,ifs,0⟩] scope pos) 0 U G { u with scope:=relabel scope X.env }) (RR G u.locals) I) E s₃) E s2:=by
 refine zh7 (CA:=fun G u I=>codeAny (model X.prog X.w) X.A (.compStart (.ListComp elt [⟨tg,iter,ifs,0⟩] scope pos) 0 U G u) (RR G u.locals) I) S h2 fun it R tn J H2 D C h₁ e T rd hnD st1 fr0 J0 HN out=>?_
 subst e;obtain⟨W,⟨m0,w0⟩,turn⟩:=rd _ hnD;have loop:∀tk:Tok,codeAny (model X.prog X.w) X.A (.compLoop (.ListComp elt [⟨tg,iter,ifs,0⟩] scope pos) 0 (.ref it) (.ref D) (compEnvC scope (closed X.env scope.names []) C X.env)) (RR (.ref D) C) { s2 with heap:=h₁,toks:=tk }:=fun tk=>by
  refine zk1 (CompI (Jm X scope own capt C s2 H2 R) [] (Jw own++capS capt σ) R tn W) ?_ m0 ⟨0,_,J0 tk,st1,fr0,w0⟩;rintro n s4 ⟨i,H4,I4,st4,fr4,w4⟩;refine zf8 (Y:=Jm X scope own capt C s2 H2 R) rfl hc (hg _ _ _ _) (ht _ _ _ _) T HN I4 st4 fr4 ?_;rcases turn i n H4 w4 with⟨stop,qn⟩|⟨go,N,N',hN,hN',step⟩
  ·exact .inl ⟨stop,fun s5 I5=>let ⟨o1,o2,o3,o4⟩:=out s5 H4 I5;hR _ _ s5 H4 o1 o2 o3 o4 qn⟩
  ·refine .inr ⟨go,fun σ4 H5=>te σ4 H5 N,N',fun {p6 σ7 H8 s8} I8 q8 again=>?_,hN',step⟩
   refine thn (he _ _ _ _ _ s8 σ7 H8 N I8 q8) fun y s9 ⟨v,H9,I9,r9,q9⟩=>?_
   obtain⟨ys,hD,hl,m',hm,w9⟩:=hN v H9 q9;refine thn (zeP (X:=Jm X scope own capt C s2 H2 R) _ s9 σ7 H9 (.ref D) [v] _ [y] (fun _ Z=>Z=upd H9 D (.lst (ys++[v]))) I9 rfl (.cons r9 .nil) ⟨_,ys,v,rfl,rfl,hD,hl,rfl⟩) fun _ s10 ⟨_,H10,I10,_,q10⟩=>?_
   subst q10;exact again I10 hm w9
 exact ky (loop _) (T.self X.A 0 _ _ _ st1 (loop _))
theorem zn4(hc:X.calm=true)(S:JJ scope own capt X)(hi:PI X tg iter wi)
  (hg:∀C s₀ H₀ l,PG (Jm X scope own capt C s₀ H₀ l) tg g) (N:∀C s₀ H₀ l,PTs (Jm X scope own capt C s₀ H₀ l) ifs tt) (he:∀C s₀ H₀ l,PE (Jm X scope own capt C s₀ H₀ l) elt te)
  (Y:∀x,foldedSetIterable iter X.env x=pure x:=by intro _;rfl):PE X (.ListComp elt [⟨tg,iter,ifs,0⟩] scope pos) (tComp own capt wi g tt te):=by
 intro pins s σ H Q I h;rw[eval_ListComp];refine gi (use:=none) rfl Y (zbs (S.cells I.ok)) S.kind S.names (thn (hi pins s σ H _ I h) fun v s1 Z=>thn Z fun U s2 R=>?_)
 refine zj8 (RR:=fun u C=>compPost (model X.prog X.w) X.A X.xe none (EP X pins σ Q) u C) hc S hg N he R fun D C s' H' y J _ _ q=>?_
 obtain⟨m,y⟩:=y;exact⟨m,y,fun h'' G=>⟨.ref D,H',J h'' G,rfl,q⟩⟩
theorem zlD(hc:X.calm=true)(S:JJ scope own capt X)(hi:PI X tg iter wi)
  (hg:∀C s₀ H₀ y,PG (Jm X scope own capt C s₀ H₀ y) tg g) (ht:∀C s₀ H₀ y,PTs (Jm X scope own capt C s₀ H₀ y) ifs tt) (he:∀C s₀ H₀ y,PE (Jm X scope own capt C s₀ H₀ y) elt te)
  {i:Nat} {x:Str} {u HY:Pos} (hN:X.N.Nodup) (hxi:X.N[i]?=some x) (hx:Loc X.env.scope x)
  (hs:∀x,foldedSetIterable iter X.env x=pure x:=by intro _;rfl) (hsw:swapsWith (.ListComp elt [⟨tg,iter,ifs,0⟩] scope pos) (some (.Name x u)) HY.line X.env=pure true:=by rfl)
  (hf:X.fn x=true\/X.env.scope.names.lookup x=some .local:=by walk_at "F") :
  PS X (.Assign [.Name x u] (.ListComp elt [⟨tg,iter,ifs,0⟩] scope pos) HY) (tAsg (tComp own capt wi g tt te) (ZA i)):=by
 intro pins s σ H D I h;rw[exec_Assign_Name_used _ _ _ _ hsw];refine ae (dA (ae ?_));show wpAny _ X.A (do let _ <- comprehension (.ListComp elt [⟨tg,iter,ifs,0⟩] scope pos) scope X.env _ (newList []) false (eval iter X.env) (some (assign (.Name x u) X.env))) _ _ s
 refine ae (cT (gi (use:=some (assign (.Name x u) X.env)) (Q:=fun _ s'=>SP X pins D .next s') rfl hs (zbs (S.cells I.ok)) S.kind S.names (thn (hi pins s σ H _ I h) fun v s1 h1=>thn h1 fun itv s2 h2=>?_)) (fun _ s' hq=>aj (aj hq)) fun _ _ e=>e)
 refine zj8 (RR:=fun R C=>compPost (model X.prog X.w) X.A X.xe (some (assign (.Name x u) X.env)) (fun _ s'=>SP X pins D .next s') R C) hc S hg ht he h2 fun D' C s' H' hn J hCn y q=>?_
 obtain⟨m,hn⟩:=hn;obtain⟨f0,f1,f2,f3,f4,f5⟩:=y;have Is:Inv X pins σ H' s':=J s'.heap (wQ _ _);refine l8 (zg2 Is hN hxi hx (show RelV (.ref D') (.ref D') from rfl) (fun G Y U=>?_) hf)
 obtain⟨a,U,ha⟩:=U;have neA:C≠a:=by
  rcases ha with rfl|ha
  ·exact f1
  ·exact fun z=>f4 x a ha z.symm
 have hn':G.heap.Ns C m:=hn.sameBut U neA;exact⟨m,hn',fun h' Z=>⟨_,H',Y.turned (t':=G.toks) (fun b o hb e=>(Z.2 b hb).trans e) f0 f1 f3 f4 f5,q⟩⟩
end
theorem zm6{J:It}{n:Nat}{own:List Str}{capt:List Nat}{g:TG}{tt:TT}{R:TE}{σ:St}{N:Hp}{D:ak}{Q:VK}(C:Nat->List V->Hp->Prop)(h0:C 0 [] (upd N D (.lst [])))
  (turn:∀i ys u,i<n->u D=some (.lst ys)->C i ys u->J.go i u/\∀x L,J.yld i u x L->g x (Jw own++capS capt σ) L fun y U=>Wk (Jw own++capS capt σ) y/\tt y U fun b G =>
   if b=true then R y G (fun v I=>∃zs,I D=some (.lst zs)/\zs.length<sizeLine/\C (i+1) (zs++[v]) (upd I D (.lst (zs++[v])))) else ∃zs,G D=some (.lst zs)/\C (i+1) zs G)
  (stop:∀ys u,u D=some (.lst ys)->C n ys u->J.stop n u/\Q (.ref D) u) :
  zro own capt g tt R σ J N D Q:=by
 refine⟨fun i m H=>m=n - i/\i<=n/\∃ys,H D=some (.lst ys)/\C i ys H,⟨n,rfl,dQ _,[],JN,h0⟩,?_⟩
 rintro i m u ⟨rfl,hi,ys,S,p⟩
 by_cases hlt:i<n
 ·obtain⟨go,st⟩:=turn i ys u hlt S p;refine .inr ⟨go,_,_,?_,?_,st⟩
  ·rintro v I ⟨zs,e,l,q⟩;exact⟨zs,e,l,n - (i+1),by omega,rfl,hlt,_,JN,q⟩
  ·rintro G ⟨zs,e,q⟩;exact⟨n - (i+1),by omega,rfl,hlt,zs,e,q⟩
 ·have e:i=n:=by omega
  subst e;exact .inl (stop ys u S p)
def Wg(scope outer:fc)(N:List Str)(capt:List Nat):Bool :=
 scope.kind == .function&&scope.names.all (fun y=>!(y.2 == .cell))&&scope.names.all (fun y=>!(y.2 == .local)||scope.names.lookup y.1 == some .local) &&
 scope.names.all (fun y=>!(y.2 == .free)||(outer.names.lookup y.1 == some .cell||outer.names.lookup y.1 == some .free))&&capt.all (fun k=>scope.names.lookup (N.getD k iq) == some .free)
theorem JJ.of{X:Cx}{scope:fc}{own:List Str}{capt:List Nat}(h:Wg scope X.env.scope X.N capt=true):JJ scope own capt X:=by
 unfold Wg at h;simp only[aG]at h;obtain⟨⟨⟨⟨J,C⟩,G⟩,x⟩,v⟩:=h;rw[bp]at C G x v;refine⟨by simpa using J,fun y u=>?_,fun y u I=>?_,fun y u hf=>?_,fun k L=>?_⟩
 ·simpa using C y u
 ·have:=G y u;rw[I]at this;simpa using this
 ·have:=x y u;rw[hf]at this;show X.env.scope.names.lookup y.1=some .cell\/X.env.scope.names.lookup y.1=some .free
  simpa using this
 ·simpa using v k L
section
variable{X:Cx}
theorem zsH:OpR X (compareOp .Is) (fun x y H Q=>∃a b,x=.bl a/\y=.bl b/\Q (.bl (a == b)) H):=by
 intro pins s σ H x y v u Q I C G h;obtain⟨a,b,rfl,rfl,q⟩:=h;cases C;cases G;exact is_bool ⟨.bl (a == b),H,I,rfl,q⟩
theorem zlV:OpR X (compareOp .IsNot) (fun x y H Q=>∃a b,x=.bl a/\y=.bl b/\Q (.bl (a != b)) H):=by
 intro pins s σ H x y v u Q I C G h;obtain⟨a,b,rfl,rfl,q⟩:=h;cases C;cases G;exact isnot_bool ⟨.bl (a != b),H,I,rfl,q⟩
def kitB(t T:String):Option Bool:=if (bu t == bu T)=true then some true else if PySem.W.kitMeta T=true then(fastBuiltinMro t).map (·.contains (.type T)) else none
theorem YL(K:qF)(t T:String):ot K (.type t) (.type T)=kitB t T:=rfl
inductive Ty (H:Hp):V->String->Prop where
 | non:Ty H .non "NoneType"
 | bl (x:Bool):Ty H (.bl x) "bool"
 | int (i:Int):Ty H (.int i) "int"
 | str (x:Str):Ty H (.str x) "str"
 | lst {a:ak} {xs:List V} (e:H a=some (.lst xs)):Ty H (.ref a) "list"
 | tup {a:ak} {xs:List V} (e:H a=some (.tup xs)):Ty H (.ref a) "tuple"
 | dK {a:ak} {kvs:List (Key×V)} (e:H a=some (.dK kvs)):Ty H (.ref a) "dict"
theorem Ty.of{K:qF}{H:Hp}{v:V}{t:String}(h:Ty H v t):TyOf K H v (.type t):=by
 cases h with
 | non=>exact .non
 | bl x=>exact .bl x
 | int i=>exact .int i
 | str x=>exact .str x
 | lst e=>exact .lst e
 | tup e=>exact .tup e
 | dK e=>exact .dK e
theorem V3:bootBuiltins "isinstance" = some (.builtin "isinstance"):=by decide +kernel
theorem boot_int:bootBuiltins "int" = some (.type "int"):=by decide +kernel
theorem zk7:bootBuiltins "bool" = some (.type "bool"):=by decide +kernel
theorem Qp:bootBuiltins "tuple" = some (.type "tuple"):=by decide +kernel
theorem zfd:bootBuiltins "str" = some (.type "str"):=by decide +kernel
theorem Wj:bootBuiltins "all" = some (.builtin "all"):=by decide +kernel
theorem znj:bootBuiltins "any" = some (.builtin "any"):=by decide +kernel
theorem zf6:bootBuiltins "repr" = some (.builtin "repr"):=by decide +kernel
theorem Zm:bootBuiltins "min" = some (.builtin "min"):=by decide +kernel
theorem Wl:bootBuiltins "max" = some (.builtin "max"):=by decide +kernel
theorem Q1:bootBuiltins "len" = some (.builtin "len"):=by decide +kernel
theorem zfe:∀{bs:List Bool}{u:List ah},Vals (bs.map V.bl) u->LSm.BoolsAre u bs
 | [],_,h=>by cases h;exact .nil
 | b::bs,_,h=>by
  cases h with
  | cons r t =>
   cases(show _=ee b from r)
   exact .cons b (zfe t)
theorem We(hc:X.calm=true):JO X (.builtin "all") (fun xs H Q=>∃(a:ak) (bs:List Bool),xs=[.ref a]/\SqL X.K H a (bs.map V.bl)/\Q (.bl (bs.all id)) H):=by
 intro pins s σ H xs us Q I r h;obtain⟨a,bs,rfl,R,q⟩:=h;cases r with
 | cons Y L =>
  cases L;cases(show _=b5 a from Y)
  obtain⟨x,N,p,hz⟩:=I.list R;have J:=zfe N;have y:s.heap.IsList a x.toArray:=p.isList;have C:a<s.heap.objs.size:=by obtain⟨_,e,_⟩:=y;exact aA e
  refine call_all_walk (fD y ?_);refine⟨s.heap.objs.size,[s.heap.objs.size,a],[s.heap.objs.size],x.toArray.size,_,_,fun i=>(bs[i]?).getD true,rfl,vU (A:=X.A.in1) (I.ok.hd hc) _ a (aF C) x.toArray,
   ⟨⟨_,aD _ rfl,rfl,rfl⟩,y.push _⟩,fun i v s' Q' Z S G=>?_,fun h' tk U=>?_⟩
  ·obtain⟨b,e,rfl⟩:=J.get i v (by simpa using S)
   simp only[e,dX]at G;exact bz G
  ·have e:((eO x.toArray.size).all fun i=>(bs[i]?).getD true)=bs.all id:=by
    rw[ax,J.length];exact LSm.range_all bs
   rw[e];exact⟨.bl _,H,I.kept (rh U),rfl,q⟩
theorem znc(hc:X.calm=true):JO X (.builtin "any") (fun xs H Q=>∃(a:ak) (bs:List Bool),xs=[.ref a]/\SqL X.K H a (bs.map V.bl)/\Q (.bl (bs.any id)) H):=by
 intro pins s σ H xs us Q I r h;obtain⟨a,bs,rfl,S,q⟩:=h;cases r with
 | cons Z N =>
  cases N;cases(show _=b5 a from Z)
  obtain⟨x,R,p,hz⟩:=I.list S;have L:=zfe R;have C:s.heap.IsList a x.toArray:=p.isList;have G:a<s.heap.objs.size:=by obtain⟨_,e,_⟩:=C;exact aA e
  refine call_any_walk (fD C ?_);refine⟨s.heap.objs.size,[s.heap.objs.size,a],[s.heap.objs.size],x.toArray.size,_,_,fun i=>(bs[i]?).getD false,rfl,vU (A:=X.A.in1) (I.ok.hd hc) _ a (aF G) x.toArray,
   ⟨⟨_,aD _ rfl,rfl,rfl⟩,C.push _⟩,fun i v s' Q' E' U J=>?_,fun h' tk Y=>?_⟩
  ·obtain⟨b,e,rfl⟩:=L.get i v (by simpa using U)
   simp only[e,dX]at J;exact bz J
  ·have e:((eO x.toArray.size).any fun i=>(bs[i]?).getD false)=bs.any id:=by
    rw[ax,L.length];exact LSm.range_any bs
   rw[e];exact⟨.bl _,H,I.kept (rh Y),rfl,q⟩
mutual
inductive UW (H:Hp):V->af->Prop
 | non:UW H .non .none
 | bl (b:Bool):UW H (.bl b) (.bool b)
 | int (i:Int):UW H (.int i) (.int i)
 | str (x:Str):UW H (.str x) (.str x)
 | lst {a:ak} {xs:List V} {ds:qD}:H a=some (.lst xs)->Vl H xs ds->UW H (.ref a) (.list ds)
 | tup {a:ak} {xs:List V} {ds:qD}:H a=some (.tup xs)->Vl H xs ds->UW H (.ref a) (.tuple ds)
inductive Vl (H:Hp):List V->List af->Prop
 | nil:Vl H [] []
 | cons {v:V} {vs:List V} {d:af} {ds:qD}:UW H v d->Vl H vs ds->Vl H (v::vs) (d::ds)
end
def Zp(i j:Int):Prop:=0<j/\j<2 ^ 128
theorem V8:OpR X (binaryOp .FloorDiv) (rI Zp fun i j=>.int (i / j)):=opI fun i j _ _ _ _ _ hc q=>by
 have y:(0:Int)<j:=hc.1;have x:j<2 ^ 128:=hc.2;refine floordiv_int (by omega) (by rw[iz i (by omega)];exact q) (.inl (PyProof.noPylong_of_log2 ?_))
 have u:j.natAbs<2 ^ 128:=by omega
 have C:j.natAbs.log2<128:=(ur (by omega)).mpr u
 omega
end
def Pl(X:Cx)(l:List aT):Prop:=∀pos,(backTo pos (starEach l X.env)).any (·.1)=false
def Hd(X:Cx):List aT->Prop
 | []=>True
 | e::r=>starEach (e::r) X.env=(false,eval e X.env)::starEach r X.env/\Pl X r
structure PB(X:Cx)(es:List aT)(t:TA):Prop where
 pa:PA X es t
 pl:Pl X es
 hd:Hd X es
section
variable{X:Cx}{es:List aT}{t:TA}{te:TE}
theorem QD:PB X [] tNil:=⟨UM,fun _=>rfl,trivial⟩
theorem Qg(h:PE X e te)(l:PB X es t)(u:starEach (e::es) X.env=(false,eval e X.env)::starEach es X.env):PB X (e::es) (QP te t) :=
 ⟨QZ h l.pa u,fun pos=>by
  rw[u];have:(backTo pos ((false,eval e X.env)::starEach es X.env)).any (·.1)=(false||(backTo pos (starEach es X.env)).any (·.1)):=rfl
  rw[this,l.pl pos];rfl,u,l.pl⟩
theorem pb_i{j pos}(l:PB X es t):PB X (.Constant (.int i) j pos::es) (QP (tC (.int i)) t):=Qg JE l rfl
theorem pb_v(i:Nat){x:Str}{pos:Pos}(v:PB X es t)(u:X.N[i]?=some x:=by rfl)(y:Vis X.env.scope x:=by walk_at "V")(hd:(x == ("__debug__":Str))=false:=by rfl)
  (l:(x == ("__classdict__":Str))=false:=by rfl):PB X (.Name x pos::es) (QP (tVar i) t):=Qg (Q8 u y hd l) v rfl
theorem ziF(h:PE X (.Name x pos) te)(l:PB X es t):PB X (.Name x pos::es) (QP te t):=Qg h l rfl
theorem zpc{a b c d}(h:PE X (.BinOp a b c d) te)(l:PB X es t):PB X (.BinOp a b c d::es) (QP te t):=Qg h l rfl
theorem zsx{a b c d}(h:PE X (.Compare a b c d) te)(l:PB X es t):PB X (.Compare a b c d::es) (QP te t):=Qg h l rfl
variable{e:aT}{x:Str}{p pos:Pos}
theorem zpS{x1}(h:PB X es t):PE X (.Tuple es x1 pos) (tTup t):=zpb h.pa
theorem zlK(h:PB X es t):PE X (.List es pos) (tLst t):=zsu h.pa
theorem UG{id:String}{r:List V->Hp->VK->Prop}(hc:JO X (.builtin id) r)(y:X.mg x=none)(G:bootBuiltins x=some (.builtin id))(h:PB X (e::es) t)(J:Gl X x:=by rfl)(I:x ≠ "__name__":=by decide) (v:(x == ("__debug__":Str))=false:=by rfl) :
  PE X (.Call (.Name x p) (e::es) [] pos) (tCB r t):=zn7 hc J y G h.pa I v h.hd.1 (h.hd.2 pos)
theorem zpX(hc:JO X (.type T) r)(v:X.mg x=none)(G:bootBuiltins x=some (.type T))(h:PB X (e::es) t)(J:Gl X x:=by rfl)(I:x ≠ "__name__":=by decide) (u:(x == ("__debug__":Str))=false:=by rfl) :
  PE X (.Call (.Name x p) (e::es) [] pos) (tCB r t):=zlN hc J v G h.pa I u h.hd.1 (h.hd.2 pos)
end
end L2
namespace Bd
open PySem L2
structure Def(K:qF)(mg:qM)(x:Str)(st:dg)(ps:List Str)(f:ak)(fd:cK):Prop where
 F:Fun K x x st f fd
 b:Binds K fd ps []
 m:mg x=some (.ref f)
section
variable{X:Cx}{k:Nat}{f:ak}{fd:cK}{ps:List Str}{sp:Sp}{x:Str}{p pos:Pos}{e:aT}{es:List aT}{t:TA}{st:dg}
theorem zpU(D:Def X.K X.mg x st ps f fd)(G:FnOk X.prog X.w X.K X.mg X.base CX0 k f fd ps sp)(v:Room k X.A)(h:PB X (e::es) t)(y:Gl X x:=by rfl)
  (u:(x == ("__debug__":Str))=false:=by rfl):PE X (.Call (.Name x p) (e::es) [] pos) (zrG sp [] E0 t):=zpW G v y D.m D.F.kp D.b .nil zv7 h.pa u h.hd.1 (h.hd.2 pos)
theorem zso(l:X.mg x=none)(v:bootBuiltins x=some (.type T))(C:Gl X x:=by rfl)(u:x ≠ "__name__":=by decide) (hd:(x == ("__debug__":Str))=false:=by rfl):PE X (.Name x p) (tC (.ty T)) :=
 zpZ C l v rfl u hd
end
theorem iteP{c A B:Prop}[Decidable c](hc:c)(h:A):if decide c=true then A else B:=by
 rw[decide_eq_true hc];exact iteT h
theorem iteN{c A B:Prop}[Decidable c](hc:¬c)(h:B):if decide c=true then A else B:=by
 rw[decide_eq_false hc];exact iteF h
theorem ztB{c A B:Prop}[Decidable c](u:c->A)(l:¬c->B):if decide c=true then A else B:=by
 by_cases h:c
 ·exact iteP h (u h)
 ·exact iteN h (l h)
theorem zff{α:Type}{xs:List α}{k:Int}{v:α}(h0:0<=k)(h:xs[k.toNat]?=some v):atI xs k=some v:=by
 obtain⟨n,rfl⟩:=i8 h0;exact zrj h
theorem Qz(k:Nat):(0:Int)<2 ^ k:=by
 have:(0:Nat)<2 ^ k:=Nat.two_pow_pos k;have e:((2 ^ k:Nat):Int)=(2:Int) ^ k:=by simp
 omega
theorem zlF(h:k<=64):(2:Int) ^ k<2 ^ 128:=by
 have:(2:Nat) ^ k<2 ^ 128:=Nat.pow_lt_pow_right (by decide) (by omega)
 have e:((2 ^ k:Nat):Int)=(2:Int) ^ k:=by simp
 omega
theorem Ww(h:k<=64):(2:Int) ^ k<=2 ^ 64:=by
 have:(2:Nat) ^ k<=2 ^ 64:=Nat.pow_le_pow_right (by decide) (by omega)
 have e:((2 ^ k:Nat):Int)=(2:Int) ^ k:=by simp
 omega
theorem znL(h:H p=none):Same H (upd H p o):=fun b u e=>by
 rw[Js (QF e h)];exact e
end Bd
namespace L2
open PySem PySem.Spec PyProof.Rows
theorem zrk(k h:Nat):(k*2 ^ h) &&& (2 ^ h)=(k % 2)*2 ^ h:=by
 have l:k*2 ^ h=k <<< h:=(i9 k h).symm;have u:(2:Nat) ^ h=1 <<< h:=by rw[i9,uw]
 have v:(k &&& 1) <<< h=k <<< h &&& 1 <<< h:=Nat.shiftLeft_and_distrib;rw[l]
 conv=>lhs;rw[u]
 rw[<- v,Nat.and_one_is_mod,i9]
theorem zjm(h:Nat)(k0:0<=k):bH (k*2 ^ h) (2 ^ h)=if k % 2=0 then k*2 ^ h+2 ^ h else k*2 ^ h - 2 ^ h:=by
 obtain⟨n,rfl⟩:=i8 k0;have l:((2 ^ h:Nat):Int)=(2:Int) ^ h:=by simp
 have u:((n:Int)*2 ^ h)=((n*2 ^ h:Nat):Int):=by rw[Int.natCast_mul,l]
 rw[bitXor_and,u,<- l,bitAnd_pp (iy _) (iy _)];have v:((n*2 ^ h:Nat):Int).toNat &&& ((2 ^ h:Nat):Int).toNat=(n % 2)*2 ^ h:=by
  rw[fF,fF];exact zrk n h
 rw[v];rcases Nat.mod_two_eq_zero_or_one n with z|z
 ·have:((n:Int)) % 2=0:=by lia
  rw[if_pos this,z];simp
 ·have:¬((n:Int)) % 2=0:=by lia
  rw[if_neg this,z,uw];lia
def HAND:af:=.dict [(.none,.none)]
def SCR(ns:List Int):af:=.dict [(.none,.list (ns.map .int))]
def Vy(H:Hp)(hd:ak)(n:Int):Prop:=∃d m t:Int,H hd=some (.lst [.int d,.int m,.int t])/\0<=m/\m<2 ^ 62/\0<=t/\t<=n
def StT(K:qF)(a:ak)(xs:List V):Prop :=
 ∃(o:Obj) (l:Array ah) (n:Nat),K.lookup a=some o/\o.cls=.type "tuple" /\ o.data=.seq l n/\l.size<=sizeLine/\Vals xs l.toList/\o.dict=none
theorem StT.sq{K:qF}{H:Hp}{a:ak}{xs:List V}(h:StT K a xs):SqT K H a xs:=by
 obtain⟨o,l,n,x,v,y,C,u,_⟩:=h;exact .inr ⟨o,l,n,x,v,y,C,u⟩
def hsT(k:Int×Int):Int:=reduceHash (pE [hashInt k.1,hashInt k.2])
def entZ(z:(Int×Int)×ak×V)(e:dw):Prop:=e.hash=hsT z.1/\e.key=.ref z.2.1/\RelV z.2.2 e.val
abbrev ZT:=List ((Int×Int)×ak×V)
def ZDO(a:ak)(zs:ZT)(v:Nat):HO:=.ext fun h=>(a == sysModules)=false/\zs.length<=sizeLine/\(zs.map (·.1)).Nodup/\∃o l,h.get? a=some o/\o.ExactDict/\o.data=.dict l v/\eh entZ zs l.toList
abbrev KT2:=List ((Int×Int)×af)
def entI(z:Int×V)(e:dw):Prop:=e.hash=hashInt z.1/\(∃t,e.key=.int z.1 t)/\RelV z.2 e.val
def KDO(a:ak)(zs:List (Int×V))(v:Nat):HO:=.ext fun h=>(a == sysModules)=false/\zs.length<=sizeLine/\(zs.map (·.1)).Nodup/\∃o l,h.get? a=some o/\o.ExactDict/\o.data=.dict l v/\eh entI zs l.toList
def blkT(k:Int×Int):af:=.tuple [.int k.1,.int k.2]
def zq1(l:List (Int×af)):List (af×af):=l.map fun q=>(.int q.1,q.2)
def Yn(l:KT2):List (af×af):=l.map fun q=>(blkT q.1,q.2)
def EXC(C:ak):af:=.dict [(.none,.int (C:Int))]
def EXO(a C:ak):HO:=.ext fun h=>∃o,h.get? a=some o/\o.cls=.ref C/\∃u,o.data=.fields u
mutual
inductive Rep (K:qF)(hd:Option ak)(O:ak->Prop)(H:Hp):V->af->Prop
 | non:Rep K hd O H .non .none
 | bl (b:Bool):Rep K hd O H (.bl b) (.bool b)
 | int (i:Int):Rep K hd O H (.int i) (.int i)
 | str (x:Str):Rep K hd O H (.str x) (.str x)
 | tup {a vs ds} (h:H a=some (.tup vs)) (o:¬O a) (r:Reps K hd O H vs ds):Rep K hd O H (.ref a) (.tuple ds)
 | tupS {a vs ds} (h:StT K a vs) (r:Reps K hd O H vs ds):Rep K hd O H (.ref a) (.tuple ds)
 | lst {a vs ds} (h:H a=some (.lst vs)) (o:¬O a) (r:Reps K hd O H vs ds):Rep K hd O H (.ref a) (.list ds)
 | dct {a ep} (h:H a=some (KDO a [] ep)) (o:¬O a):Rep K hd O H (.ref a) (.dict [])
 | dcK {a kvs ep ks ps} (h:H a=some (KDO a kvs ep)) (o:¬O a) (r:Zr K hd O H kvs ks) (e:ps=zq1 ks):Rep K hd O H (.ref a) (.dict ps)
 | dcT {a zs ep ks ps} (h:H a=some (ZDO a zs ep)) (o:¬O a) (r:Qk K hd O H zs ks) (e:ps=Yn ks):Rep K hd O H (.ref a) (.dict ps)
 | hand {a} (h:hd=some a):Rep K hd O H (.ref a) HAND
 | scr {a ns} (h:Rd H a (.lst (ns.map V.int))) (o:¬O a):Rep K hd O H (.ref a) (SCR ns)
 | scrS {a} {ns:List Int} (h:∀H':Hp,SqL K H' a (ns.map V.int)):Rep K hd O H (.ref a) (SCR ns)
 | exc {a C} (h:H a=some (EXO a C)) (o:¬O a):Rep K hd O H (.ref a) (EXC C)
inductive Reps (K:qF)(hd:Option ak)(O:ak->Prop)(H:Hp):List V->List af->Prop
 | nil:Reps K hd O H [] []
 | cons {v d vs ds} (h:Rep K hd O H v d) (r:Reps K hd O H vs ds):Reps K hd O H (v::vs) (d::ds)
inductive Zr (K:qF)(hd:Option ak)(O:ak->Prop)(H:Hp):List (Int×V)->List (Int×af)->Prop
 | nil:Zr K hd O H [] []
 | cons {k v d kvs ks} (h:Rep K hd O H v d) (r:Zr K hd O H kvs ks):Zr K hd O H ((k,v)::kvs) ((k,d)::ks)
inductive Qk (K:qF)(hd:Option ak)(O:ak->Prop)(H:Hp):ZT->KT2->Prop
 | nil:Qk K hd O H [] []
 | cons {k q v d zs ks} (h:Rep K hd O H (.ref q) (.tuple [.int k.1,.int k.2])) (h2:Rep K hd O H v d) (r:Qk K hd O H zs ks):Qk K hd O H ((k,q,v)::zs) ((k,d)::ks)
end
section
variable{K:qF}{hd:Option ak}{O O':ak->Prop}{H H':Hp}
theorem Rep.mono(C:∀a o,H a=some o->O' a->O a)(y:∀a o,¬O a->H a=some o->H' a=some o)(q:Rep K hd O H v d):Rep K hd O' H' v d :=
 Rep.rec (motive_1:=fun v d _=>Rep K hd O' H' v d) (motive_2:=fun v d _=>Reps K hd O' H' v d) (motive_3:=fun v d _=>Zr K hd O' H' v d) (motive_4:=fun v d _=>Qk K hd O' H' v d)
  .non .bl .int .str (fun h o _ r=>.tup (y _ _ o h) (fun z=>o (C _ _ h z)) r) (fun h _ r=>.tupS h r) (fun h o _ r=>.lst (y _ _ o h) (fun z=>o (C _ _ h z)) r) (fun h o=>.dct (y _ _ o h) (fun z=>o (C _ _ h z))) (fun h o _ e r=>.dcK (y _ _ o h) (fun z=>o (C _ _ h z)) r e) (fun h o _ e r=>.dcT (y _ _ o h) (fun z=>o (C _ _ h z)) r e) .hand
  (fun h o=>h.elim (fun h=>.scr (.inl (y _ _ o h)) fun z=>o (C _ _ h z)) fun h=>h.elim fun u h=>.scr (.inr ⟨u,y _ _ o h⟩) fun z=>o (C _ _ h z)) .scrS (fun h o=>.exc (y _ _ o h) (fun z=>o (C _ _ h z)))
  .nil (fun _ _ h r=>.cons h r) .nil (fun _ _ h r=>.cons h r) .nil (fun _ _ _ h k r=>.cons h k r) q
theorem Reps.ind{P:List V->List af->Prop}(n:P [] [])(c:∀{v d vs ds},Rep K hd O H v d->Reps K hd O H vs ds->P vs ds->P (v::vs) (d::ds))(q:Reps K hd O H vs ds):P vs ds:=by
 refine Reps.rec (motive_1:=fun _ _ _=>True) (motive_2:=fun v d _=>P v d) (motive_3:=fun _ _ _=>True) (motive_4:=fun _ _ _=>True) ?_ ?_ ?_ ?_ ?_ ?_ ?_ ?_ ?_ ?_ ?_ ?_ ?_ ?_ n (fun h r _ i=>c h r i) ?_ ?_ ?_ ?_ q <;> intros <;> trivial
theorem Qk.ind{P:ZT->KT2->Prop}(n:P [] [])(c:∀{k q v d vs ds},Rep K hd O H (.ref q) (.tuple [.int k.1,.int k.2])->Rep K hd O H v d->Qk K hd O H vs ds->P vs ds->P ((k,q,v)::vs) ((k,d)::ds))(q:Qk K hd O H vs ds):P vs ds:=by
 refine Qk.rec (motive_1:=fun _ _ _=>True) (motive_4:=fun v d _=>P v d) (motive_2:=fun _ _ _=>True) (motive_3:=fun _ _ _=>True) ?_ ?_ ?_ ?_ ?_ ?_ ?_ ?_ ?_ ?_ ?_ ?_ ?_ ?_ ?_ ?_ ?_ ?_ n (fun h k r _ _ i=>c h k r i) q <;> intros <;> trivial
theorem Reps.mono(v:∀a o,H a=some o->O' a->O a)(u:∀a o,¬O a->H a=some o->H' a=some o)(q:Reps K hd O H vs ds):Reps K hd O' H' vs ds:=q.ind .nil fun h _ r=>.cons (h.mono v u) r
theorem Qk.mono(v:∀a o,H a=some o->O' a->O a)(u:∀a o,¬O a->H a=some o->H' a=some o)(q:Qk K hd O H vs ds):Qk K hd O' H' vs ds:=q.ind .nil fun h k _ r=>.cons (h.mono v u) (k.mono v u) r
theorem dict_noK(e:(kX,v)::r=zq1 l):False:=by
 cases l with
 | nil=>cases e
 | cons q l=>cases e
theorem dict_noT(e:(kX,v)::r=Yn l):False:=by
 cases l with
 | nil=>cases e
 | cons q l=>cases e
theorem Reps.length(q:Reps K hd O H vs ds):vs.length=ds.length:=q.ind (P:=fun a b=>a.length=b.length) rfl fun _ _ e=>congrArg (·+1) e
theorem Reps.get{i:Nat}(q:Reps K hd O H l ds):ds[i]?=some d->∃v,l[i]?=some v/\Rep K hd O H v d :=
 q.ind (P:=fun l ds=>∀(i:Nat),ds[i]?=some d->∃v,l[i]?=some v/\Rep K hd O H v d) (fun _ e=>nomatch e) (fun {v _ _ _} h _ r i=>i.casesOn (fun e=>⟨v,rfl,aL e▸h⟩) fun i e=>r i e) i
theorem Reps.append(q:Reps K hd O H vs ds)(s:Reps K hd O H ws es):Reps K hd O H (vs++ws) (ds++es):=q.ind (P:=fun a b=>Reps K hd O H (a++ws) (b++es)) s fun h _ r=>.cons h r
theorem Reps.take(n:Nat)(q:Reps K hd O H u ds):Reps K hd O H (u.take n) (ds.take n) :=
 q.ind (P:=fun u ds=>∀n:Nat,Reps K hd O H (u.take n) (ds.take n)) (fun n=>by rw[rn,rn];exact .nil) (fun h _ r n=>n.casesOn .nil fun n=>.cons h (r n)) n
theorem Reps.drop(n:Nat)(q:Reps K hd O H u ds):Reps K hd O H (u.drop n) (ds.drop n) :=
 q.ind (P:=fun u ds=>∀n:Nat,Reps K hd O H (u.drop n) (ds.drop n)) (fun n=>by rw[rq,rq];exact .nil) (fun h k r n=>n.casesOn (.cons h k) fun n=>r n) n
theorem Reps.set{v d}(h:Rep K hd O H v d)(n:Nat)(q:Reps K hd O H u ds):Reps K hd O H (u.set n v) (ds.set n d) :=
 q.ind (P:=fun u ds=>∀n:Nat,Reps K hd O H (u.set n v) (ds.set n d)) (fun n=>.nil) (fun k s r n=>n.casesOn (.cons h s) fun n=>.cons k (r n)) n
theorem Rep.tupI(h:Rep K hd O H v (.tuple ds)):∃a x,v=.ref a/\SqT K H a x/\Reps K hd O H x ds:=by
 cases h with
 | tup h o r=>exact⟨_,_,rfl,.inl (.inl h),r⟩
 | tupS h r=>exact⟨_,_,rfl,h.sq,r⟩
theorem Rep.lstI(h:Rep K hd O H v (.list ds)):∃a u,v=.ref a/\H a=some (.lst u)/\¬O a/\Reps K hd O H u ds:=by
 cases h with
 | lst h o r=>exact⟨_,_,rfl,h,o,r⟩
theorem Rep.intI(h:Rep K hd O H v (.int i)):v=.int i:=by cases h;rfl
theorem Rep.blI(h:Rep K hd O H v (.bool b)):v=.bl b:=by cases h;rfl
theorem Rep.strI(h:Rep K hd O H v (.str x)):v=.str x:=by cases h;rfl
theorem Rep.nonI(h:Rep K hd O H v .none):v=.non:=by cases h;rfl
theorem Rep.handI(h:Rep K hd O H v HAND):∃a,v=.ref a/\hd=some a:=by
 generalize e:HAND=d at h;cases h with
 | hand h=>exact⟨_,rfl,h⟩
 | dct _ _=>cases e
 | dcK _ _ _ u=>cases e;exact(dict_noK u).elim
 | dcT _ _ _ u=>cases e;exact(dict_noT u).elim
 | scr _ _=>simp[HAND,SCR]at e
 | scrS _=>simp[HAND,SCR]at e
 | exc _ _=>simp[HAND,EXC]at e
 | _=>cases e
theorem Rep.scrI(h:Rep K hd O H v (SCR ns)):∃a,v=.ref a/\SqL K H a (ns.map V.int):=by
 generalize e:SCR ns=d at h;cases h with
 | hand h=>simp[HAND,SCR]at e
 | dct _ _=>cases e
 | dcK _ _ _ u=>cases e;exact(dict_noK u).elim
 | dcT _ _ _ u=>cases e;exact(dict_noT u).elim
 | @scr a ms h o =>
  have:ns=ms:=by
   have u:(ns.map bR)=ms.map bR:=by simpa[SCR] using e
   have:=congrArg (mD fun x=>match x with|bR i=>i|_=>0) u
   simpa[cQ,gF] using this
  subst this;exact⟨_,rfl,.inl h⟩
 | @scrS a ms h =>
  have:ns=ms:=by
   have u:(ns.map bR)=ms.map bR:=by simpa[SCR] using e
   have:=congrArg (mD fun x=>match x with|bR i=>i|_=>0) u
   simpa[cQ,gF] using this
  subst this;exact⟨_,rfl,h H⟩
 | exc _ _=>simp[SCR,EXC]at e
 | _=>cases e
end
mutual
def JT:af->Bool
 | .list _=>false
 | .tuple ts=>ZK ts
 | .dict [(.none,.none)]=>true
 | .dict _=>false
 | _=>true
def ZK:List af->Bool
 | []=>true
 | t::ts=>JT t&&ZK ts
end
section
variable{K:qF}{hd:Option ak}{O O':ak->Prop}{H:Hp}
theorem zqp(e:JT (.dict (zq1 ks))=true):False:=by
 unfold JT at e;split at e
 ·rename_i h;cases h
 ·rename_i h;cases h
 ·rename_i h;exact dict_noK (kI h).symm
 ·cases e
 ·rename_i h;exact h _ rfl
theorem zqo(e:JT (.dict (Yn ks))=true):False:=by
 unfold JT at e;split at e
 ·rename_i h;cases h
 ·rename_i h;cases h
 ·rename_i h;exact dict_noT (kI h).symm
 ·cases e
 ·rename_i h;exact h _ rfl
def MutO(o:Option HO):Prop:=(∃xs,o=some (.lst xs))\/(∃u,o=some (.dK u))\/∃a zs v,o=some (ZDO a zs v)
theorem Rep.up(y:∀a,O a->MutO (H a))(q:Rep K hd O' H v d):JT d=true->Rep K hd O H v d:=by
 refine Rep.rec (motive_1:=fun v d _=>JT d=true->Rep K hd O H v d) (motive_2:=fun v d _=>ZK d=true->Reps K hd O H v d) (motive_3:=fun _ _ _=>True) (motive_4:=fun _ _ _=>True)
  (fun _=>.non) (fun b _=>.bl b) (fun b _=>.int b) (fun b _=>.str b) (fun h _ _ r e=>.tup h (fun z=>by rcases y _ z with⟨xs,q⟩|⟨xs,q⟩|⟨xs,zs,C,q⟩ <;> (rw[h]at q;cases q)) (r (by simpa[JT] using e))) (fun h _ r e=>.tupS h (r (by simpa[JT] using e)))
  (fun _ _ _ _ e=>by simp[JT]at e) (fun _ _ e=>by simp[JT]at e) (fun _ _ _ x _ e=>by subst x;exact(zqp e).elim) (fun _ _ _ x _ e=>by subst x;exact(zqo e).elim) (fun h _=>.hand h) (fun _ _ e=>by simp[SCR,JT]at e) (fun _ e=>by simp[SCR,JT]at e) (fun _ _ e=>by simp[EXC,JT]at e)
  (fun _=>.nil) (fun _ _ h r e=>by rw[ZK,aG]at e;exact .cons (h e.1) (r e.2)) trivial ?_ trivial ?_ q <;> intros <;> trivial
end
section
variable{X:Cx}{pins:qO}{σ:St}{H:Hp}{s:au}{hd:Option ak}{O:ak->Prop}
theorem Rep.reads(I:Inv X pins σ H s){u:ah}(q:Rep X.K hd O H v d):RelV v u->d.hasDict=false->∃C,Reads s.heap u d C:=by
 refine Rep.rec (motive_1:=fun v d _=>∀u,RelV v u->d.hasDict=false->∃C,Reads s.heap u d C) (motive_2:=fun v d _=>∀u,Vals v u->fG d=false->∃C,oG s.heap u d C) (motive_3:=fun _ _ _=>True) (motive_4:=fun _ _ _=>True)
  (fun _ r _=>by cases r;exact⟨_,.none⟩) (fun b _ r _=>by cases r;exact⟨_,.bool b⟩) (fun i _ r _=>by obtain⟨t,rfl⟩:=r;exact⟨_,.int i t⟩) (fun x _ r _=>by obtain⟨t,rfl⟩:=r;exact⟨_,.str x t⟩)
  (fun {_ vs _} h _ _ q _ r e=>?_) (fun {_ vs _} h _ q _ r e=>?_) (fun {_ vs _} h _ _ q _ r e=>?_) (fun _ _ _ _ e=>by simp[cy]at e) (fun _ _ _ _ _ _ _ e=>by simp[cy]at e) (fun _ _ _ _ _ _ _ e=>by simp[cy]at e)
  (fun _ _ _ e=>by simp[HAND,cy]at e) (fun _ _ _ _ e=>by simp[SCR,cy]at e) (fun _ _ _ e=>by simp[SCR,cy]at e) (fun _ _ _ _ e=>by simp[EXC,cy]at e)
  (fun _ r _=>by cases r;exact⟨_,.nil⟩) (fun _ _ h q _ r e=>?_) trivial (by intros;trivial) trivial (by intros;trivial) q u
 ·cases r;obtain⟨L,J,p,_⟩:=I.tuple (xs:=vs) (.inl (.inl h));obtain⟨o,N,hc,n,y⟩:=p;obtain⟨C,G⟩:=q _ J (by simpa[cy] using e)
  exact⟨_,.tuple N hc y (by simpa using G)⟩
 ·cases r;obtain⟨L,J,p,_⟩:=I.tuple (xs:=vs) h.sq;obtain⟨o,N,hc,n,y⟩:=p;obtain⟨C,G⟩:=q _ J (by simpa[cy] using e)
  exact⟨_,.tuple N hc y (by simpa using G)⟩
 ·cases r;obtain⟨L,J,p,_⟩:=I.list (xs:=vs) (.inl (.inl h));obtain⟨o,n,N,hc,_,y⟩:=p;obtain⟨C,G⟩:=q _ J (by simpa[cy] using e)
  exact⟨_,.list N hc y (by simpa using G)⟩
 ·cases r with
  | cons U R =>
   rw[fG,kY]at e;obtain⟨C,G⟩:=h _ U e.1;obtain⟨bs,S⟩:=q _ R e.2;exact⟨_,.cons G S⟩
theorem Reps.reads(I:Inv X pins σ H s){u:List ah}(q:Reps X.K hd O H x ds):Vals x u->fG ds=false->∃v,oG s.heap u ds v :=
 q.ind (P:=fun x ds=>∀u,Vals x u->fG ds=false->∃v,oG s.heap u ds v) (fun _ r _=>by cases r;exact⟨_,.nil⟩) (fun h _ q _ r e=>by
  cases r with
  | cons C y =>
   rw[fG,kY]at e;obtain⟨v,G⟩:=h.reads I C e.1;obtain⟨bs,J⟩:=q _ y e.2;exact⟨_,.cons G J⟩) u
end
inductive Cell where
 | val (d:af)
 | own (ds:qD)
 | dct (ks:List (Key×af))
 | rdo (ks:List (Key×af))
 | dtt (ks:KT2)
def Cell.mine:Cell->Bool
 | .val _=>false
 | .own _=>true
 | .dct _=>true
 | .rdo _=>false
 | .dtt _=>true
def UV(K:qF)(hd:Option ak)(O:ak->Prop)(H:Hp)(l:List (Key×V))(u:List (Key×af)):Prop:=eh (fun(p:Key×V) (q:Key×af)=>p.1=q.1/\Rep K hd O H p.2 q.2) l u
theorem UV.mono{K:qF}{hd:Option ak}{O u:ak->Prop}{H v:Hp}(C:∀a o,H a=some o->u a->O a)(y:∀a o,¬O a->H a=some o->v a=some o){l:List (Key×V)}{x:List (Key×af)}(r:UV K hd O H l x):UV K hd u v l x :=
 Paired.mapP r fun _ _ z=>⟨z.1,z.2.mono C y⟩
abbrev En:=List (Option Cell)
structure Ctx where
 hd:Option ak
 ext:ak->Prop
def OwnS(l:En)(σ:St)(a:ak):Prop:=∃(i:Nat) (c:Cell),c.mine=true/\l[i]?=some (some c)/\σ[i]?=some (some (V.ref a))
def Own(C:Ctx)(l:En)(σ:St)(a:ak):Prop:=C.ext a\/OwnS l σ a
def Hn(hd:Option ak)(H:Hp)(n:Nat):Prop:=∀a,hd=some a->Vy H a n
structure Stt(K:qF)(C:Ctx)(ρ:En)(σ:St)(H:Hp)(n:Nat):Prop where
 len:ρ.length=σ.length
 val:∀(i:Nat) (d:af),ρ[i]?=some (some (Cell.val d))->∃v,σ[i]?=some (some v)/\Rep K C.hd (Own C ρ σ) H v d
 own:∀(i:Nat) (ds:qD),ρ[i]?=some (some (Cell.own ds))->∃a vs,σ[i]?=some (some (V.ref a))/\H a=some (.lst vs)/\Reps K C.hd (Own C ρ σ) H vs ds/\¬C.ext a
 dct:∀(i:Nat) (ks:List (Key×af)),ρ[i]?=some (some (Cell.dct ks))->∃a kvs,σ[i]?=some (some (V.ref a))/\H a=some (.dK kvs)/\UV K C.hd (Own C ρ σ) H kvs ks/\¬C.ext a
 rdo:∀(i:Nat) (ks:List (Key×af)),ρ[i]?=some (some (Cell.rdo ks))->∃a kvs,σ[i]?=some (some (V.ref a))/\H a=some (.dK kvs)/\UV K C.hd (Own C ρ σ) H kvs ks/\C.ext a/\C.hd≠some a
 dtt:∀(i:Nat) (ks:KT2),ρ[i]?=some (some (Cell.dtt ks))->∃a zs ep,σ[i]?=some (some (V.ref a))/\H a=some (ZDO a zs ep)/\Qk K C.hd (Own C ρ σ) H zs ks/\¬C.ext a
 dif:∀(i j:Nat) (c e:Cell) (a:ak),c.mine=true->e.mine=true->ρ[i]?=some (some c)->ρ[j]?=some (some e)->σ[i]?=some (some (V.ref a))->σ[j]?=some (some (V.ref a))->i=j
 hnd:Hn C.hd H n
 ext:∀a,C.ext a->MutO (H a)
 hx:∀a,C.hd=some a->C.ext a
def ExtE(hd:Option ak)(H l:Hp):Prop:=∀a o,H a=some o->hd≠some a->l a=some o
theorem ExtE.refl:ExtE hd H H:=fun _ _ h _=>h
theorem ExtE.trans(a:ExtE hd H H1)(b:ExtE hd H1 H2):ExtE hd H H2:=fun c o h n=>b c o (a c o h n) n
theorem ExtE.new(h:H p=none):ExtE hd H (upd H p o):=fun b u e _=>by
 rw[Js (QF e h)];exact e
section
variable{K:qF}{C:Ctx}{ρ:En}{σ:St}{H H':Hp}{n n':Nat}
theorem MutO.ne(h:MutO o):o≠none:=by
 rcases h with⟨_,rfl⟩|⟨_,rfl⟩|⟨_,_,_,rfl⟩ <;> exact fun z=>by cases z
theorem Stt.at(S:Stt K C ρ σ H n){i:Nat}{c:Cell}(m:c.mine=true)(G:ρ[i]?=some (some c)):∃a:ak,σ[i]?=some (some (V.ref a))/\MutO (H a)/\¬C.ext a:=by
 cases c with
 | val d=>cases m
 | own ds =>
  obtain⟨a,I,v,x,_,u⟩:=S.own i ds G;exact⟨a,v,.inl ⟨_,x⟩,u⟩
 | dct y =>
  obtain⟨a,I,v,x,_,u⟩:=S.dct i y G;exact⟨a,v,.inr (.inl ⟨_,x⟩),u⟩
 | rdo y=>cases m
 | dtt y =>
  obtain⟨a,I,J,v,x,_,u⟩:=S.dtt i y G;exact⟨a,v,.inr (.inr ⟨_,_,_,x⟩),u⟩
theorem Stt.lst(S:Stt K C ρ σ H n){a:ak}(h:Own C ρ σ a):MutO (H a):=by
 rcases h with h|⟨i,c,m,x,u⟩
 ·exact S.ext a h
 ·obtain⟨b,l,v,_⟩:=S.at m x;rw[u]at l;cases l;exact v
theorem Stt.dom(S:Stt K C ρ σ H n)(h:Own C ρ σ a):H a≠none:=(S.lst h).ne
theorem Stt.free(S:Stt K C ρ σ H n)(h:H a=none):¬Own C ρ σ a:=fun z=>S.dom z h
theorem ExtE.rep(e:ExtE C.hd H H')(hx:∀a,C.hd=some a->C.ext a){v d}(r:Rep K C.hd (Own C ρ σ) H v d):Rep K C.hd (Own C ρ σ) H' v d :=
 r.mono (fun _ _ _ z=>z) fun a o no h=>e a o h fun z=>no (.inl (hx a z))
theorem ExtE.reps(e:ExtE C.hd H H')(hx:∀a,C.hd=some a->C.ext a){v d}(r:Reps K C.hd (Own C ρ σ) H v d):Reps K C.hd (Own C ρ σ) H' v d :=
 r.mono (fun _ _ _ z=>z) fun a o no h=>e a o h fun z=>no (.inl (hx a z))
theorem Stt.on(S:Stt K C ρ σ H n)(e:ExtE C.hd H H')(h:Hn C.hd H' n'):Stt K C ρ σ H' n' where
 len:=S.len
 val:=fun i d hi=>by
  obtain⟨v,y,x⟩:=S.val i d hi;exact⟨v,y,e.rep S.hx x⟩
 own:=fun i ds hi=>by
  obtain⟨a,I,y,x,G,u⟩:=S.own i ds hi;exact⟨a,I,y,e a _ x fun z=>u (S.hx a z),e.reps S.hx G,u⟩
 dct:=fun i J hi=>by
  obtain⟨a,I,y,x,G,u⟩:=S.dct i J hi;exact⟨a,I,y,e a _ x fun z=>u (S.hx a z),Paired.mapP G fun _ _ z=>⟨z.1,e.rep S.hx z.2⟩,u⟩
 rdo:=fun i J hi=>by
  obtain⟨a,I,y,x,G,u,N⟩:=S.rdo i J hi;exact⟨a,I,y,e a _ x N,Paired.mapP G fun _ _ z=>⟨z.1,e.rep S.hx z.2⟩,u,N⟩
 dtt:=fun i J hi=>by
  obtain⟨a,I,L,y,x,G,u⟩:=S.dtt i J hi;exact⟨a,I,L,y,e a _ x fun z=>u (S.hx a z),G.mono (fun _ _ _ z=>z) (fun a o no h=>e a o h fun z=>no (.inl (S.hx a z))),u⟩
 dif:=S.dif
 hnd:=h
 ext:=fun a R=>by
  by_cases z:C.hd=some a
  ·obtain⟨d,m,t,q,_⟩:=h a z;exact .inl ⟨_,q⟩
  ·rcases S.ext a R with⟨xs,q⟩|⟨xs,q⟩|⟨b,xs,L,q⟩
   ·exact .inl ⟨xs,e a _ q z⟩
   ·exact .inr (.inl ⟨xs,e a _ q z⟩)
   ·exact .inr (.inr ⟨b,xs,L,e a _ q z⟩)
 hx:=S.hx
end
abbrev DTE:=En->Nat->(af->Nat->Prop)->Prop
abbrev DTT:=En->Nat->(Bool->Nat->Prop)->Prop
abbrev DTA:=En->Nat->(List af->Nat->Prop)->Prop
def DE(X:Cx)(e:aT)(d:DTE):Prop:=∃x,PE X e x/\∀(C:Ctx) (u:En) (σ:St) (H:Hp) (n:Nat) (Q:VK) (R:qN),Stt X.K C u σ H n->d u n R ->
 (∀t y v l,R t y->ExtE C.hd H l->Hn C.hd l y->Rep X.K C.hd (Own C u σ) l v t->Q v l)->x σ H Q
def RepT(K:qF)(hd:Option ak)(O:ak->Prop)(H:Hp)(v:V)(t:af):Prop :=
 Rep K hd O H v t\/(∃a u ds,v=.ref a/\t=.list ds/\H a=some (.lst u)/\Reps K hd O H u ds/\hd≠some a)\/∃a zs y x,v=.ref a/\t=.dict (Yn x)/\H a=some (ZDO a zs y)/\Qk K hd O H zs x/\hd≠some a
def DL(X:Cx)(e:aT)(d:DTE):Prop:=∃x,PE X e x/\∀(C:Ctx) (u:En) (σ:St) (H:Hp) (n:Nat) (Q:VK) (R:qN),Stt X.K C u σ H n->d u n R ->
 (∀t y v l,R t y->ExtE C.hd H l->Hn C.hd l y->RepT X.K C.hd (Own C u σ) l v t->Q v l)->x σ H Q
def DN(X:Cx)(e:aT)(d:DTA):Prop:=∃x,PE X e x/\∀(C:Ctx) (v:En) (σ:St) (H:Hp) (n:Nat) (Q:VK) (R:List af->Nat->Prop),Stt X.K C v σ H n->d v n R ->
 (∀ts y p G u,R ts y->ExtE C.hd H u->Hn C.hd u y->H p=none->u p=some (.lst G)->Reps X.K C.hd (fun a=>Own C v σ a\/a=p) u G ts->Q (.ref p) u)->x σ H Q
def DT(X:Cx)(e:aT)(d:DTT):Prop:=∃u,PT X e u/\∀(C:Ctx) (x:En) (σ:St) (H:Hp) (n:Nat) (Q:Bool->Hp->Prop) (R:Bool->Nat->Prop),Stt X.K C x σ H n->d x n R ->
 (∀b v l,R b v->ExtE C.hd H l->Hn C.hd l v->Q b l)->u σ H Q
def DW(X:Cx)(e:aT)(d:DTT):Prop:=∃u,PW X e u/\∀(C:Ctx) (x:En) (σ:St) (H:Hp) (n:Nat) (Q:Bool->Hp->Prop) (R:Bool->Nat->Prop),Stt X.K C x σ H n->d x n R ->
 (∀b v l,R b v->ExtE C.hd H l->Hn C.hd l v->Q b l)->u σ H Q
def DB(X:Cx)(v:List aT)(d:DTA):Prop:=∃x,PB X v x/\∀(C:Ctx) (u:En) (σ:St) (H:Hp) (n:Nat) (Q:List V->Hp->Prop) (R:List af->Nat->Prop),Stt X.K C u σ H n->d u n R ->
 (∀ts y G l,R ts y->ExtE C.hd H l->Hn C.hd l y->Reps X.K C.hd (Own C u σ) l G ts->ts.length=v.length->Q G l)->x σ H Q
section
variable{X:Cx}{e a b c:aT}{es:List aT}{d da db dc:DTE}{pos:Pos}
theorem dl(h:DE X e d):DL X e d:=by
 obtain⟨G,p,h⟩:=h;exact⟨G,p,fun C y σ H n Q R S hd J=>h C y σ H n Q R S hd fun t u v I r e L x=>J t u v I r e L (.inl x)⟩
def dNew(d:DTA):DTE:=fun v n R=>d v n fun ts u=>R (.list ts) u
theorem Jl{d:DTA}(h:DN X e d):DE X e (dNew d):=by
 obtain⟨y,p,h⟩:=h;refine⟨y,p,fun C x σ H n Q R S hd I=>h C x σ H n Q _ S hd fun ts u p U G r e J v L N=>I _ u _ G r e J (.lst L (S.free v) (N.mono (fun _ _ _ z=>.inl z) fun _ _ _ z=>z))⟩
def dVar(i:Nat):DTE:=fun l n R=>match l[i]? with|some (some (Cell.val d))=>R d n|_=>False
def dOwn(i:Nat):DTE:=fun u n R=>match u[i]? with|some (some (Cell.own d))=>R (.list d) n|_=>False
def dC(t:af):DTE:=fun _ n R=>R t n
theorem Jk(i:Nat)(u:X.N[i]?=some x:=by rfl)(G:Vis X.env.scope x:=by walk_at "V")(hd:(x == ("__debug__":Str))=false:=by rfl)
  (l:(x == ("__classdict__":Str))=false:=by rfl):DE X (.Name x pos) (dVar i):=by
 refine⟨_,Q8 u G hd l,fun C L σ H n Q R S h J=>?_⟩
 unfold dVar at h;split at h
 ·rename_i d e;obtain⟨v,I,y⟩:=S.val i d e;exact⟨v,I,J d n v H h ExtE.refl S.hnd y⟩
 ·exact h.elim
theorem YK(i:Nat)(v:X.N[i]?=some x:=by rfl)(G:Vis X.env.scope x:=by walk_at "V")(hd:(x == ("__debug__":Str))=false:=by rfl)
  (u:(x == ("__classdict__":Str))=false:=by rfl):DL X (.Name x pos) (dOwn i):=by
 refine⟨_,Q8 v G hd u,fun C Z σ H n Q R S h J=>?_⟩
 unfold dOwn at h;split at h
 ·rename_i ds e;obtain⟨p,Y,I,y,L,U⟩:=S.own i ds e;exact⟨.ref p,I,J _ n _ H h ExtE.refl S.hnd (.inr (.inl ⟨p,Y,ds,rfl,rfl,y,L,fun z=>U (S.hx p z)⟩))⟩
 ·exact h.elim
theorem Jg{i j pos}:DE X (.Constant (.int i) j pos) (dC (.int i)):=⟨_,JE,fun _ _ _ H n _ _ S h l=>l _ n _ H h ExtE.refl S.hnd (.int i)⟩
theorem Q4{b j pos}:DE X (.Constant (.bool b) j pos) (dC (.bool b)):=⟨_,zp0,fun _ _ _ H n _ _ S h u=>u _ n _ H h ExtE.refl S.hnd (.bl b)⟩
theorem Qi{j pos}:DE X (.Constant .none j pos) (dC .none):=⟨_,zst,fun _ _ _ H n _ _ S h l=>l _ n _ H h ExtE.refl S.hnd .non⟩
theorem JK{x j pos}:DE X (.Constant (.str x) j pos) (dC (.str x)):=⟨_,zsp,fun _ _ _ H n _ _ S h l=>l _ n _ H h ExtE.refl S.hnd (.str x)⟩
end
section
variable{K:qF}{hd:Option ak}{O:ak->Prop}{H H':Hp}{v:V}{t:af}{n:Nat}
theorem Same.ext(h:Same H H'):ExtE hd H H':=fun a o e _=>h a o e
theorem Hn.same(h:Hn hd H n)(s:Same H H'):Hn hd H' n:=fun a e=>by
 obtain⟨d,m,t,q,r⟩:=h a e;exact⟨d,m,t,s _ _ q,r⟩
theorem Reps.same{vs ts}(s:Same H H')(r:Reps K hd O H vs ts):Reps K hd O H' vs ts:=r.mono (fun _ _ _ z=>z) fun a o _ h=>s a o h
theorem ExtE.repT(e:ExtE C.hd H H')(hx:∀a,C.hd=some a->C.ext a)(r:RepT K C.hd (Own C ρ σ) H v t):RepT K C.hd (Own C ρ σ) H' v t:=by
 rcases r with r|⟨a,N,ds,y,x,G,I,u⟩|⟨a,zs,L,J,y,x,G,I,u⟩
 ·exact .inl (e.rep hx r)
 ·exact .inr (.inl ⟨a,N,ds,y,x,e _ _ G u,e.reps hx I,u⟩)
 ·exact .inr (.inr ⟨a,zs,L,J,y,x,e _ _ G u,I.mono (fun _ _ _ z=>z) (fun a o no h=>e a o h fun z=>no (.inl (hx a z))),u⟩)
theorem RepT.lstI{ds}(h:RepT K hd O H v (.list ds)):∃a u,v=.ref a/\H a=some (.lst u)/\Reps K hd O H u ds:=by
 rcases h with h|⟨a,u,I,y,x,C,G,_⟩|⟨a,u,J,I,y,x,C,G,_⟩
 ·obtain⟨a,u,y,x,_,C⟩:=h.lstI;exact⟨a,u,y,x,C⟩
 ·cases x;exact⟨a,u,y,C,G⟩
 ·cases x
theorem RepT.tupI{ds}(h:RepT K hd O H v (.tuple ds)):∃a x,v=.ref a/\SqT K H a x/\Reps K hd O H x ds:=by
 rcases h with h|⟨a,x,C,G,y,I,J,_⟩|⟨a,x,L,C,G,y,I,J,_⟩
 ·exact h.tupI
 ·cases y
 ·cases y
theorem RepT.rep(h:RepT K hd O H v t)(nl:∀ds,t≠.list ds)(nd:∀y,t≠.dict (Yn y):=by intro y z;first|cases z|exact dict_noT (kI z)):Rep K hd O H v t:=by
 rcases h with h|⟨a,J,u,G,x,I,C,_⟩|⟨a,J,L,u,G,x,I,C,_⟩
 ·exact h
 ·exact absurd x (nl u)
 ·exact absurd x (nd u)
theorem RepT.intI{i}(h:RepT K hd O H v (.int i)):v=.int i:=(h.rep (by intro _ z;cases z)).intI
theorem RepT.blI{i}(h:RepT K hd O H v (.bool i)):v=.bl i:=(h.rep (by intro _ z;cases z)).blI
theorem RepT.strI{i}(h:RepT K hd O H v (.str i)):v=.str i:=(h.rep (by intro _ z;cases z)).strI
theorem RepT.nonI(h:RepT K hd O H v .none):v=.non:=(h.rep (by intro _ z;cases z)).nonI
theorem Rep.newT{vs ts}(no:¬O p)(h:H p=none)(r:Reps K hd O H vs ts):Rep K hd O (upd H p (.tup vs)) (.ref p) (.tuple ts) :=
 .tup JN no (r.same (fun b u e=>by rw[Js (QF e h)];exact e))
end
theorem JP(h:H p=none):Same H (upd H p o):=fun b u e=>by
 rw[Js (QF e h)];exact e
abbrev G2:=af->af->(af->Prop)->Prop
def dOp(g:G2)(C db:DTE):DTE:=fun l n R=>C l n fun x u=>db l u fun y v=>g x y fun z=>R z v
def Gp2(X:Cx)(r:R2)(g:G2):Prop:=∀(hd:Option ak) (O:ak->Prop) (H:Hp) (x y:V) (t u:af) (Q:VK) (R:af->Prop),(∀p,O p->H p≠none)->RepT X.K hd O H x t->RepT X.K hd O H y u->g t u R ->
 (∀z v l,R z->Same H l->Rep X.K hd O l v z->Q v l)->r x y H Q
section
variable{X:Cx}{a b c:aT}{da db dc:DTE}{pos:Pos}{r r':R2}{g g':G2}
theorem two{C:Ctx}{l:En}{σ:St}{H:Hp}{n:Nat}{ta tb:TE}(ha:∀(C:Ctx) (l:En) (σ:St) (H:Hp) (n:Nat) (Q:VK) (R:qN),Stt X.K C l σ H n->da l n R ->
  (∀t L v I,R t L->ExtE C.hd H I->Hn C.hd I L->RepT X.K C.hd (Own C l σ) I v t->Q v I)->ta σ H Q)
  (hb:∀(C:Ctx) (l:En) (σ:St) (H:Hp) (n:Nat) (Q:VK) (R:qN),Stt X.K C l σ H n->db l n R ->
  (∀t L v I,R t L->ExtE C.hd H I->Hn C.hd I L->RepT X.K C.hd (Own C l σ) I v t->Q v I)->tb σ H Q)
  {Z:V->V->Hp->Prop} {R2:af->af->Nat->Prop} (S:Stt X.K C l σ H n) (h:da l n fun x U=>db l U fun y J=>R2 x y J)
  (hq:∀x y J v w G,R2 x y J->ExtE C.hd H G->Stt X.K C l σ G J->RepT X.K C.hd (Own C l σ) G v x->RepT X.K C.hd (Own C l σ) G w y->Z v w G) :
  ta σ H fun v N=>tb σ N fun w G=>Z v w G:=by
 refine ha C l σ H n _ _ S h fun t U v N r1 e1 h1 q1=>?_
 have S1:=S.on e1 h1;refine hb C l σ N U _ _ S1 r1 fun u J w G r2 Y h2 q2=>?_
 exact hq t u J v w G r2 (e1.trans Y) (S1.on Y h2) (Y.repT S.hx q1) q2
theorem Q5{op:Operator}(ho:OpR X (binaryOp op) r)(hg:Gp2 X r g)(l:DL X a da)(G:DL X b db):DE X (.BinOp a op b pos) (dOp g da db):=by
 obtain⟨ta,pa,l⟩:=l;obtain⟨tb,Z,G⟩:=G;refine⟨_,JD ho pa Z,fun C ρ σ H n Q R S h hq=>?_⟩
 refine two l G S h fun x y U v w Y L e I N q2=>?_
 exact hg C.hd (Own C ρ σ) Y v w x y Q _ (fun p=>I.dom) N q2 L fun z u H' rz J rp=>hq z U u H' rz (e.trans J.ext) (I.hnd.same J) rp
theorem Qh{op:nE}(ho:OpR X (compareOp op) r)(hg:Gp2 X r g)(l:DL X a da)(G:DL X b db)(hm:behindInMarks op b=false):DE X (.Compare a [op] [b] pos) (dOp g da db):=by
 obtain⟨ta,pa,l⟩:=l;obtain⟨tb,Z,G⟩:=G;refine⟨_,zlM ho pa Z hm,fun C ρ σ H n Q R S h hq=>?_⟩
 refine two l G S h fun x y U v w Y L e I N q2=>?_
 exact hg C.hd (Own C ρ σ) Y v w x y Q _ (fun p=>I.dom) N q2 L fun z u H' rz J rp=>hq z U u H' rz (e.trans J.ext) (I.hnd.same J) rp
def Uj(d:DTE):DTT:=fun v n R=>d v n fun t u=>match t with|.bool k=>R k u|_=>False
theorem Jo{op:nE}(ho:OpR X (compareOp op) r)(hg:Gp2 X r g)(l:DL X a da)(G:DL X b db)(hm:behindInMarks op b=false):DT X (.Compare a [op] [b] pos) (Uj (dOp g da db)):=by
 obtain⟨ta,pa,l⟩:=l;obtain⟨tb,pb,G⟩:=G;refine⟨_,ziC ho pa pb hm,fun C ρ σ H n Q R S h hq=>?_⟩
 refine two l G S h fun x y Y v w Z N e I U q2=>?_
 refine hg C.hd (Own C ρ σ) Z v w x y _ _ (fun p=>I.dom) U q2 N fun z u H' J L rp=>?_
 cases z with
 | bool k =>
  cases rp;exact⟨k,rfl,hq k Y H' J (e.trans L.ext) (I.hnd.same L)⟩
 | _=>exact J.elim
def Y1(g g':G2)(da db dc:DTE):DTE:=fun u n R=>da u n fun x C=>db u C fun y v=>g x y fun z=>match z with
 | .bool true=>dc u v fun w G=>g' y w fun z=>R z G
 | .bool false=>R (.bool false) v
 | _=>False
def gI(C:Int->Int->Prop)(f:Int->Int->Int):G2
 | .int i,.int j,R=>C i j/\R (.int (f i j))
 | _,_,_=>False
def gB(f:Int->Int->Bool):G2
 | .int i,.int j,R=>R (.bool (f i j))
 | _,_,_=>False
theorem gp_I:Gp2 X (rI C fun i j=>.int (f i j)) (gI C f):=by
 intro hd O H x y t u Q R dom v G h l;unfold gI at h;split at h
 ·rename_i i j;exact⟨i,j,v.intI,G.intI,h.1,l _ _ H h.2 (Same.refl H) (.int _)⟩
 ·exact h.elim
def gI0(f:Int->Int->Int):G2
 | .int i,.int j,R=>R (.int (f i j))
 | _,_,_=>False
theorem zqT:Gp2 X (rI0 fun i j=>.int (f i j)) (gI0 f):=by
 intro hd O H x y t u Q R dom v C h l;unfold gI0 at h;split at h
 ·rename_i i j;exact⟨i,j,v.intI,C.intI,l _ _ H h (Same.refl H) (.int _)⟩
 ·exact h.elim
theorem gp_B:Gp2 X (rI0 fun i j=>.bl (f i j)) (gB f):=by
 intro hd O H x y t u Q R dom C G h v;unfold gB at h;split at h
 ·rename_i i j;exact⟨i,j,C.intI,G.intI,v _ _ H h (Same.refl H) (.bl _)⟩
 ·exact h.elim
end
section
variable{X:Cx}{a b c:aT}{da db dc:DTE}{pos:Pos}
def oSub:=gI0 fun i j=>i - j
def oMod:=gI (fun _ j=>0<j) fun i j=>i % j
def UF:=gI Zp fun i j=>i / j
def oShl:=gI CPow fun i j=>i*2 ^ j.toNat
def oShr:=gI (fun _ j=>0<=j) fun i j=>i / 2 ^ j.toNat
def oXor:=gI0 bH
def oAnd:=gI0 fI
theorem Um(l:DL X a da)(v:DL X b db):DE X (.BinOp a .Sub b pos) (dOp oSub da db):=Q5 zsz zqT l v
theorem zmT(l:DL X a da)(u:DL X b db):DE X (.BinOp a .Mod b pos) (dOp oMod da db):=Q5 U5 gp_I l u
theorem VX(u:DL X a da)(x:DL X b db):DE X (.BinOp a .FloorDiv b pos) (dOp UF da db):=Q5 V8 gp_I u x
theorem JR(l:DL X a da)(u:DL X b db):DE X (.BinOp a .LShift b pos) (dOp oShl da db):=Q5 zsB gp_I l u
theorem zum(l:DL X a da)(u:DL X b db):DE X (.BinOp a .RShift b pos) (dOp oShr da db):=Q5 zsA gp_I l u
theorem ZY(l:DL X a da)(u:DL X b db):DE X (.BinOp a .BitXor b pos) (dOp oXor da db):=Q5 zsy zqT l u
theorem zur(l:DL X a da)(u:DL X b db):DE X (.BinOp a .BitAnd b pos) (dOp oAnd da db):=Q5 zsM zqT l u
end
section
variable{X:Cx}{pins:qO}{σ:St}{H:Hp}{s:au}{hd:Option ak}{O:ak->Prop}
theorem RepT.reads(I:Inv X pins σ H s)(h:RepT X.K hd O H v d)(r:RelV v u)(e:d.hasDict=false):∃y,Reads s.heap u d y:=by
 rcases h with h|⟨a,N,ds,rfl,rfl,C,G,_⟩|⟨a,zs,Y,U,rfl,rfl,C,G,_⟩
 rotate_left 2
 ·simp[cy]at e
 ·exact h.reads I r e
 ·cases r;obtain⟨R,J,p,_⟩:=I.list (xs:=N) (.inl (.inl C));obtain⟨o,n,S,hc,_,x⟩:=p;obtain⟨y,L⟩:=Reps.reads I G J (by simpa[cy] using e)
  exact⟨_,.list S hc x (by simpa using L)⟩
end
def Okd(t:af):Prop:=t.canLay0=true/\t.depth<=60
section
variable{X:Cx}{a b c:aT}{da db dc:DTE}{pos:Pos}{k:Nat}
def rEqD(K:qF)(neg:Bool):R2:=fun x y H Q=>∃hd O t u,RepT K hd O H x t/\RepT K hd O H y u/\Okd t/\Okd u/\Q (.bl (if neg then !t.eqv u else t.eqv u)) H
theorem zsK(U:Room k X.A):OpR X (compareOp .Eq) (rEqD X.K false):=by
 intro pins s σ H x y v u Q I N Y h;obtain⟨hd,O,t,w,R,L,C,G,q⟩:=h;obtain⟨Z,S⟩:=R.reads I N (bg _ C.1);obtain⟨bs,J⟩:=L.reads I Y (bg _ G.1);refine SeqAt.compareEq_reads S J C.1 G.1 ?_ ⟨.bl _,H,I,rfl,q⟩;have:=U.un;have:=C.2;omega
theorem zsD(Y:Room k X.A):OpR X (compareOp .NotEq) (rEqD X.K true):=by
 intro pins s σ H x y v u Q I R Z h;obtain⟨hd,O,t,w,S,L,C,G,q⟩:=h;obtain⟨as,U⟩:=S.reads I R (bg _ C.1);obtain⟨bs,J⟩:=L.reads I Z (bg _ G.1);refine SeqAt.compareNe_reads U J C.1 G.1 ?_ ⟨.bl _,H,I,rfl,q⟩;have:=Y.un;have:=C.2;omega
theorem Zg:Okd .none:=⟨by simp[bc],by simp[cC]⟩
def oEq:G2
 | .int i,.int j,R=>R (.bool (decide (i=j)))
 | .str i,.str j,R=>R (.bool (decide (i=j)))
 | .bool i,.bool j,R=>R (.bool (decide (i=j)))
 | t,u,R=>Okd t/\Okd u/\R (.bool (t.eqv u))
def oNe:G2
 | .int i,.int j,R=>R (.bool (!decide (i=j)))
 | .str i,.str j,R=>R (.bool (!decide (i=j)))
 | .bool i,.bool j,R=>R (.bool (!decide (i=j)))
 | t,u,R=>Okd t/\Okd u/\R (.bool (!t.eqv u))
def rEqA(K:qF):R2:=fun x y H Q=>rEq x y H Q\/rEqD K false x y H Q
def rNeA(K:qF):R2:=fun x y H Q=>rNe x y H Q\/rEqD K true x y H Q
theorem Qe(l:Room k X.A):OpR X (compareOp .Eq) (rEqA X.K):=OpR.or zwa (zsK l)
theorem QV(l:Room k X.A):OpR X (compareOp .NotEq) (rNeA X.K):=OpR.or zv8 (zsD l)
theorem Qa:Gp2 X (rEqA X.K) oEq:=by
 intro hd O H x y t u Q R dom C G h v;unfold oEq at h;split at h
 ·rename_i i j;rw[C.intI,G.intI];refine .inl ⟨rfl,?_⟩;have e:decide (V.int i=V.int j)=decide (i=j):=decide_eq_decide.mpr ⟨fun z=>by cases z;rfl,fun z=>by rw[z]⟩
  rw[e];exact v _ _ H h (Same.refl H) (.bl _)
 ·rename_i i j;rw[C.strI,G.strI];refine .inl ⟨rfl,?_⟩;have e:decide (V.str i=V.str j)=decide (i=j):=decide_eq_decide.mpr ⟨fun z=>by cases z;rfl,fun z=>by rw[z]⟩
  rw[e];exact v _ _ H h (Same.refl H) (.bl _)
 ·rename_i i j;rw[C.blI,G.blI];refine .inl ⟨rfl,?_⟩;have e:decide (V.bl i=V.bl j)=decide (i=j):=decide_eq_decide.mpr ⟨fun z=>by cases z;rfl,fun z=>by rw[z]⟩
  rw[e];exact v _ _ H h (Same.refl H) (.bl _)
 ·exact .inr ⟨hd,O,_,_,C,G,h.1,h.2.1,v _ _ H h.2.2 (Same.refl H) (.bl _)⟩
theorem QQ:Gp2 X (rNeA X.K) oNe:=by
 intro hd O H x y t u Q R dom C G h v;unfold oNe at h;split at h
 ·rename_i i j;rw[C.intI,G.intI];refine .inl ⟨rfl,?_⟩;have e:decide (V.int i=V.int j)=decide (i=j):=decide_eq_decide.mpr ⟨fun z=>by cases z;rfl,fun z=>by rw[z]⟩
  rw[e];exact v _ _ H h (Same.refl H) (.bl _)
 ·rename_i i j;rw[C.strI,G.strI];refine .inl ⟨rfl,?_⟩;have e:decide (V.str i=V.str j)=decide (i=j):=decide_eq_decide.mpr ⟨fun z=>by cases z;rfl,fun z=>by rw[z]⟩
  rw[e];exact v _ _ H h (Same.refl H) (.bl _)
 ·rename_i i j;rw[C.blI,G.blI];refine .inl ⟨rfl,?_⟩;have e:decide (V.bl i=V.bl j)=decide (i=j):=decide_eq_decide.mpr ⟨fun z=>by cases z;rfl,fun z=>by rw[z]⟩
  rw[e];exact v _ _ H h (Same.refl H) (.bl _)
 ·exact .inr ⟨hd,O,_,_,C,G,h.1,h.2.1,v _ _ H h.2.2 (Same.refl H) (.bl _)⟩
def isNone:af->Bool
 | .none=>true
 | _=>false
def oIs:G2
 | .bool a,.bool b,R=>R (.bool (a == b))
 | t,.none,R=>R (.bool (isNone t))
 | _,_,_=>False
def oIsN:G2
 | .bool a,.bool b,R=>R (.bool (a != b))
 | t,.none,R=>R (.bool (!isNone t))
 | _,_,_=>False
def rIs:R2:=fun x y H Q=>(y=.non/\Q (.bl (decide (x=.non))) H)\/∃a b,x=.bl a/\y=.bl b/\Q (.bl (a == b)) H
def rIsN:R2:=fun x y H Q=>(y=.non/\Q (.bl (!decide (x=.non))) H)\/∃a b,x=.bl a/\y=.bl b/\Q (.bl (a != b)) H
theorem zv_:OpR X (compareOp .Is) rIs:=OpR.or zsG zsH
theorem zlU:OpR X (compareOp .IsNot) rIsN:=OpR.or zp6 zlV
theorem RepT.isN{K:qF}{hd:Option ak}{O:ak->Prop}{H:Hp}{v:V}{t:af}(h:RepT K hd O H v t):decide (v=.non)=(isNone t):=by
 rcases h with h|⟨a,x,ds,rfl,rfl,u,l,_⟩|⟨a,zs,C,y,rfl,rfl,u,l,_⟩
 ·cases h <;> simp[HAND,SCR,EXC,isNone]
 ·simp[isNone]
 ·simp[isNone]
theorem zwT:Gp2 X rIs oIs:=by
 intro hd O H x y t u Q R dom C G h v;unfold oIs at h;split at h
 ·rename_i i j;exact .inr ⟨i,j,C.blI,G.blI,v _ _ H h (Same.refl H) (.bl _)⟩
 ·refine .inl ⟨G.nonI,?_⟩;rw[C.isN];exact v _ _ H h (Same.refl H) (.bl _)
 ·exact h.elim
theorem zmF:Gp2 X rIsN oIsN:=by
 intro hd O H x y t u Q R dom C G h v;unfold oIsN at h;split at h
 ·rename_i i j;exact .inr ⟨i,j,C.blI,G.blI,v _ _ H h (Same.refl H) (.bl _)⟩
 ·refine .inl ⟨G.nonI,?_⟩;rw[C.isN];exact v _ _ H h (Same.refl H) (.bl _)
 ·exact h.elim
def rInD(K:qF)(neg:Bool):R2:=fun x y H Q=>∃hd O t ts,RepT K hd O H x t/\(RepT K hd O H y (.tuple ts)\/RepT K hd O H y (.list ts))/\Okd t/\(∀u∈ts,Okd u)/\Q (.bl (if neg then !ts.any (fun u=>u.eqv t) else ts.any (fun u=>u.eqv t))) H
theorem ziH:∀{ts:qD},(∀u∈ts,Okd u)->bo ts=true
 | [],_=>by simp[bo]
 | t::ts,h=>by
  simp only[bo,aG];exact⟨(h t (by simp)).1,ziH fun u l=>h u (by simp[l])⟩
theorem zsI(Z:Room k X.A):OpR X (compareOp .In) (rInD X.K false):=by
 intro pins s σ H x y v u Q I S N h;obtain⟨hd,O,t,ts,U,C,G,Y,q⟩:=h;obtain⟨as,L⟩:=U.reads I S (bg _ G.1);have cl:=ziH Y;have R:X.A.units+1+min (bL ts) t.depth<cLine:=by
  have:=Z.un;have:=G.2;omega
 rcases C with C|C
 ·obtain⟨bs,J⟩:=C.reads I N (bg _ (by simpa[bc] using cl))
  exact SeqAt.in_tuple_reads J L cl G.1 R ⟨.bl _,H,I,rfl,q⟩
 ·obtain⟨bs,J⟩:=C.reads I N (bg _ (by simpa[bc] using cl))
  exact SeqAt.in_list_reads J L cl G.1 R ⟨.bl _,H,I,rfl,q⟩
theorem Zn(hr:Room k X.A):OpR X (compareOp .NotIn) (rInD X.K true):=by
 intro pins s σ H x y v u Q I U R h;obtain⟨hd,O,t,ts,Y,C,G,Z,q⟩:=h;obtain⟨as,L⟩:=Y.reads I U (bg _ G.1);have cl:=ziH Z;have S:X.A.units+1+min (bL ts) t.depth<cLine:=by
  have:=hr.un;have:=G.2;omega
 rcases C with C|C
 ·obtain⟨bs,J⟩:=C.reads I R (bg _ (by simpa[bc] using cl))
  exact SeqAt.notIn_tuple_reads J L cl G.1 S ⟨.bl _,H,I,rfl,q⟩
 ·obtain⟨bs,J⟩:=C.reads I R (bg _ (by simpa[bc] using cl))
  exact SeqAt.notIn_list_reads J L cl G.1 S ⟨.bl _,H,I,rfl,q⟩
def oIn:G2
 | t,.tuple ts,R=>Okd t/\(∀u∈ts,Okd u)/\R (.bool (ts.any fun u=>u.eqv t))
 | t,.list ts,R=>Okd t/\(∀u∈ts,Okd u)/\R (.bool (ts.any fun u=>u.eqv t))
 | _,_,_=>False
def ZL:G2
 | t,.tuple ts,R=>Okd t/\(∀u∈ts,Okd u)/\R (.bool (!ts.any fun u=>u.eqv t))
 | t,.list ts,R=>Okd t/\(∀u∈ts,Okd u)/\R (.bool (!ts.any fun u=>u.eqv t))
 | _,_,_=>False
theorem zwU:Gp2 X (rInD X.K false) oIn:=by
 intro hd O H x y t u Q R dom C G h v;unfold oIn at h;split at h
 ·exact⟨hd,O,_,_,C,.inl G,h.1,h.2.1,v _ _ H h.2.2 (Same.refl H) (.bl _)⟩
 ·exact⟨hd,O,_,_,C,.inr G,h.1,h.2.1,v _ _ H h.2.2 (Same.refl H) (.bl _)⟩
 ·exact h.elim
theorem Zc:Gp2 X (rInD X.K true) ZL:=by
 intro hd O H x y t u Q R dom C G h v;unfold ZL at h;split at h
 ·exact⟨hd,O,_,_,C,.inl G,h.1,h.2.1,v _ _ H h.2.2 (Same.refl H) (.bl _)⟩
 ·exact⟨hd,O,_,_,C,.inr G,h.1,h.2.1,v _ _ H h.2.2 (Same.refl H) (.bl _)⟩
 ·exact h.elim
def oLtA:G2
 | .int i,.int j,R=>R (.bool (decide (i<j)))
 | .str i,.str j,R=>R (.bool (decide (i.cps.toList<j.cps.toList)))
 | .tuple xs,.tuple ys,R=>∃ns v,xs=ns.map bR/\ys=v.map bR/\R (.bool (HT.lexLt ns v))
 | _,_,_=>False
def rLtA(K:qF):R2:=fun x y H Q=>(rI0 fun i j=>.bl (decide (i<j))) x y H Q\/(∃i j,x=.str i/\y=.str j/\Q (.bl (decide (i.cps.toList<j.cps.toList))) H)\/rLtT K x y H Q
theorem Qy(l:Room k X.A):OpR X (compareOp .Lt) (rLtA X.K):=OpR.or zsF (OpR.or zlS (zsE l.units0))
theorem zeA{K:qF}{hd:Option ak}{O:ak->Prop}{H:Hp}:∀{ns:List Int}{l:List V},Reps K hd O H l (ns.map bR)->l=ns.map V.int
 | [],_,h=>by cases h;rfl
 | n::ns,_,h=>by
  cases h with
  | cons h r=>rw[h.intI,zeA r];rfl
theorem Qx:Gp2 X (rLtA X.K) oLtA:=by
 intro hd O H x y t u Q R dom v G h C;unfold oLtA at h;split at h
 ·exact .inl ⟨_,_,v.intI,G.intI,C _ _ H h (Same.refl H) (.bl _)⟩
 ·exact .inr (.inl ⟨_,_,v.strI,G.strI,C _ _ H h (Same.refl H) (.bl _)⟩)
 ·obtain⟨ns,N,rfl,rfl,h⟩:=h;obtain⟨p,Y,J,s1,S⟩:=v.tupI;obtain⟨q,U,L,s2,I⟩:=G.tupI;rw[zeA S]at s1;rw[zeA I]at s2;exact .inr (.inr ⟨p,q,ns,N,J,L,s1,s2,C _ _ H h (Same.refl H) (.bl _)⟩)
 ·exact h.elim
def oLeA:G2
 | .int i,.int j,R=>R (.bool (decide (i<=j)))
 | .str i,.str j,R=>R (.bool (!decide (j.cps.toList<i.cps.toList)))
 | _,_,_=>False
def rLeA:R2:=fun x y H Q=>(rI0 fun i j=>.bl (decide (i<=j))) x y H Q\/(∃i j,x=.str i/\y=.str j/\Q (.bl (!decide (j.cps.toList<i.cps.toList))) H)
theorem zlT:OpR X (compareOp .LtE) (fun x y H Q=>∃i j,x=.str i/\y=.str j/\Q (.bl (!decide (j.cps.toList<i.cps.toList))) H):=by
 intro pins s σ H x y v u Q I C G h;obtain⟨i,j,rfl,rfl,q⟩:=h;obtain⟨t,rfl⟩:=C;obtain⟨t',rfl⟩:=G;exact PySem.P.le_str ⟨.bl _,H,I,rfl,q⟩
theorem Qf:OpR X (compareOp .LtE) rLeA:=OpR.or zv9 zlT
theorem Qd:Gp2 X rLeA oLeA:=by
 intro hd O H x y t u Q R dom C G h v;unfold oLeA at h;split at h
 ·exact .inl ⟨_,_,C.intI,G.intI,v _ _ H h (Same.refl H) (.bl _)⟩
 ·exact .inr ⟨_,_,C.strI,G.strI,v _ _ H h (Same.refl H) (.bl _)⟩
 ·exact h.elim
variable{r r':R2}{g g':G2}
theorem V5(ho:OpR X (compareOp op) r)(hg:Gp2 X r g)(N:OpR X (compareOp op') r')(Z:Gp2 X r' g')(ha:DL X a da)(hb:DL X b db)(hc:DL X c dc)
  (hm:lastMarks [op,op'] [b,c]=false:=by with_unfolding_all rfl):DE X (.Compare a [op,op'] [b,c] pos) (Y1 g g' da db dc):=by
 obtain⟨ta,pa,ha⟩:=ha;obtain⟨tb,pb,hb⟩:=hb;obtain⟨tc,pc,hc⟩:=hc;refine⟨_,zn5 ho N pa pb pc hm,fun C ρ σ H n Q R S h hq=>?_⟩
 refine two ha hb S h fun x y n2 v w H2 r2 e U q1 q2=>?_
 refine hg C.hd (Own C ρ σ) H2 v w x y _ _ (fun p=>U.dom) q1 q2 r2 fun z u L I J rp=>?_
 have S3:=U.on J.ext (U.hnd.same J);cases z with
 | bool k =>
  cases rp;refine⟨k,rfl,?_⟩;cases k with
  | false=>exact iteF (hq _ n2 _ L I (e.trans J.ext) S3.hnd (.bl _))
  | true =>
   refine iteT (hc C ρ σ L n2 _ _ S3 I fun z2 n3 w2 H4 r4 Y h4 q4=>?_)
   have S4:=S3.on Y h4;have q2':=Y.repT S.hx ((Same.ext J:ExtE C.hd H2 L).repT S.hx q2);exact Z C.hd (Own C ρ σ) H4 w w2 y z2 Q _ (fun p=>S4.dom) q2' q4 r4 fun z u L I G rp=>hq z n3 u L I (((e.trans J.ext).trans Y).trans G.ext) (S4.hnd.same G) rp
 | _=>exact I.elim
end
section
variable{X:Cx}{a b c e:aT}{es rest:List aT}{d da db dc:DTE}{t u:DTT}{pos p:Pos}{k:Nat}
def truD:af->(Bool->Prop)->Prop
 | .none,R=>R false
 | .bool b,R=>R b
 | .int i,R=>R (decide (i≠0))
 | .str x,R=>x.length<=16777216/\R (decide (x.length≠0))
 | .list ts,R=>R (!ts.isEmpty)
 | .tuple ts,R=>R (!ts.isEmpty)
 | _,_=>False
def dTru(d:DTE):DTT:=fun v n R=>d v n fun t l=>truD t fun b=>R b l
theorem zo0{K:qF}{hd:Option ak}{O:ak->Prop}{H:Hp}{v:V}{t:af}{Q:Bool->Hp->Prop}{R:Bool->Prop}(r:RepT K hd O H v t)(h:truD t R)(y:∀b,R b->Q b H):∃k,TruV K v H k/\Q k H:=by
 cases t with
 | none=>exact⟨false,by rw[r.nonI];rfl,y _ h⟩
 | bool b=>exact⟨b,by rw[r.blI];rfl,y _ h⟩
 | int i=>exact⟨decide (i≠0),by rw[r.intI];show _=(i != 0);by_cases z:i=0 <;> simp[z],y _ h⟩
 | str x =>
  refine⟨decide (x.length≠0),by rw[r.strI];exact⟨h.1,by by_cases z:x.length=0 <;> simp[z]⟩,y _ h.2⟩
 | list ts =>
  obtain⟨p,I,e,G,C⟩:=r.lstI;subst e;refine⟨!ts.isEmpty,.inl ⟨I,.of G,?_⟩,y _ h⟩;cases C <;> rfl
 | tuple ts =>
  obtain⟨p,I,e,G,C⟩:=r.tupI;subst e;refine⟨!ts.isEmpty,.inr (.inl ⟨I,G,?_⟩),y _ h⟩;cases C <;> rfl
 | dict _=>exact h.elim
theorem JS(l:DL X a da)(U:∀whole,isTrue a X.env whole=(do let v <- whole;standAt a.pos;holding [v] (truthy v)):=by intro _;rfl):DT X a (dTru da):=by
 obtain⟨Y,pa,l⟩:=l;refine⟨_,znZ pa U,fun C G σ H n Q R S h L=>?_⟩
 refine l C G σ H n _ _ S h fun t x v J r I N q=>?_
 exact zo0 q r fun b y=>L b x J y I N
def dAnd(t u:DTT):DTT:=fun v n R=>t v n fun b l=>if b=true then u v l R else R false l
def dOr(t u:DTT):DTT:=fun v n R=>t v n fun b l=>if b=true then R true l else u v l R
def dNot(t:DTT):DTT:=fun v n R=>t v n fun b l=>R (!b) l
theorem JY(h:DW X a t):DT X a t:=by
 obtain⟨l,pa,h⟩:=h;exact⟨_,pa.pt,h⟩
theorem Yc(h:DT X a t):DW X (.BoolOp .And [a] pos) t:=by
 obtain⟨v,pa,h⟩:=h;exact⟨_,zpJ pa,h⟩
theorem QR(h:DT X a t):DW X (.BoolOp .Or [a] pos) t:=by
 obtain⟨v,pa,h⟩:=h;exact⟨_,zr9 pa,h⟩
theorem U6(h:DT X a t)(h':DW X (.BoolOp .And (b::rest) pos) u):DW X (.BoolOp .And (a::b::rest) pos) (dAnd t u):=by
 obtain⟨ta,pa,h⟩:=h;obtain⟨tb,U,h'⟩:=h';refine⟨_,zr_ pa U,fun C y σ H n Q R S hd J=>?_⟩
 refine h C y σ H n _ _ S hd fun b G x r v I=>?_
 cases b with
 | true=>exact iteT (h' C y σ x G Q R (S.on v I) (by simpa using r) fun b L N r Z Y=>J b L N r (v.trans Z) Y)
 | false=>exact iteF (J _ G x (by simpa using r) v I)
theorem QB(h:DT X a t)(h':DW X (.BoolOp .Or (b::rest) pos) u):DW X (.BoolOp .Or (a::b::rest) pos) (dOr t u):=by
 obtain⟨ta,pa,h⟩:=h;obtain⟨tb,U,h'⟩:=h';refine⟨_,zv3 pa U,fun C y σ H n Q R S hd J=>?_⟩
 refine h C y σ H n _ _ S hd fun b G x r v I=>?_
 cases b with
 | false=>exact iteF (h' C y σ x G Q R (S.on v I) (by simpa using r) fun b L N r Z Y=>J b L N r (v.trans Z) Y)
 | true=>exact iteT (J _ G x (by simpa using r) v I)
theorem JZ(h:DT X a t):DT X (.UnaryOp .Not a pos) (dNot t):=by
 obtain⟨L,pa,h⟩:=h;refine⟨_,zsc pa,fun C v σ H n Q R S hd J=>?_⟩
 exact h C v σ H n _ _ S hd fun b x l r G I=>J _ x l r G I
def bolD:af->(Bool->Prop)->Prop
 | .bool b,R=>R b
 | _,_=>False
def zrb(da db:DTE):DTE:=fun x n R=>da x n fun t v=>bolD t fun b=>if b=true then db x v R else R (.bool false) v
def dOrV(da db:DTE):DTE:=fun x n R=>da x n fun t v=>bolD t fun b=>if b=true then R (.bool true) v else db x v R
def zq_(da:DTE):DTE:=fun x n R=>da x n fun t v=>bolD t fun b=>R (.bool (!b)) v
theorem Ul{op}(h:DE X a d):DE X (.BoolOp op [a] pos) d:=by
 obtain⟨v,pa,h⟩:=h;exact⟨_,zsr pa,h⟩
theorem Y4(h:DE X a da)(h':DE X (.BoolOp .And (b::rest) pos) db):DE X (.BoolOp .And (a::b::rest) pos) (zrb da db):=by
 obtain⟨ta,pa,h⟩:=h;obtain⟨tb,Z,h'⟩:=h';refine⟨_,zsw pa Z,fun C G σ H n Q R S hd L=>?_⟩
 refine h C G σ H n _ _ S hd fun t I v y r x J N=>?_
 cases t with
 | bool b =>
  cases N;refine⟨b,rfl,?_⟩;cases b with
  | true=>exact iteT (h' C G σ y I Q R (S.on x J) (by simpa[bolD] using r) fun t U v Y r e2 h2 q2=>L t U v Y r (x.trans e2) h2 q2)
  | false=>exact iteF (L _ I _ y (by simpa[bolD] using r) x J (.bl _))
 | _=>exact r.elim
theorem zpr(h:DE X a da)(h':DE X (.BoolOp .Or (b::rest) pos) db):DE X (.BoolOp .Or (a::b::rest) pos) (dOrV da db):=by
 obtain⟨ta,pa,h⟩:=h;obtain⟨tb,Z,h'⟩:=h';refine⟨_,zv5 pa Z,fun C G σ H n Q R S hd L=>?_⟩
 refine h C G σ H n _ _ S hd fun t I v y r x J N=>?_
 cases t with
 | bool b =>
  cases N;refine⟨b,rfl,?_⟩;cases b with
  | false=>exact iteF (h' C G σ y I Q R (S.on x J) (by simpa[bolD] using r) fun t U v Y r e2 h2 q2=>L t U v Y r (x.trans e2) h2 q2)
  | true=>exact iteT (L _ I _ y (by simpa[bolD] using r) x J (.bl _))
 | _=>exact r.elim
theorem zq4(h:DE X a da):DE X (.UnaryOp .Not a pos) (zq_ da):=by
 obtain⟨ta,pa,h⟩:=h;refine⟨_,zss pa,fun C I σ H n Q R S hd Z=>?_⟩
 refine h C I σ H n _ _ S hd fun t J v G r L Y x=>?_
 cases t with
 | bool b =>
  cases x;exact⟨b,rfl,Z _ J _ G r L Y (.bl _)⟩
 | _=>exact r.elim
def dNil:DTA:=fun _ n R=>R [] n
def Qm(d:DTE)(ds:DTA):DTA:=fun l n R=>d l n fun t v=>ds l v fun ts x=>R (t::ts) x
theorem Ja:DB X [] dNil:=⟨_,QD,fun C x σ H n Q R S h v=>v [] n [] H h ExtE.refl S.hnd .nil rfl⟩
theorem zmW(h:DE X e d)(l:DB X es ds)(hs:starEach (e::es) X.env=(false,eval e X.env)::starEach es X.env):DB X (e::es) (Qm d ds):=by
 obtain⟨ta,pa,h⟩:=h;obtain⟨tb,U,l⟩:=l;refine⟨_,Qg pa U hs,fun C x σ H n Q R S hd hq=>?_⟩
 refine h C x σ H n _ _ S hd fun t n1 v Z r y h1 I=>?_
 refine l C x σ Z n1 _ _ (S.on y h1) r fun ts L vs N J G Y q2 l2=>?_
 exact hq _ L _ N J (y.trans G) Y (.cons (G.rep S.hx I) q2) (by simp[l2])
def Zq(K:qF)(hd:Option ak)(O:ak->Prop)(H:Hp):List V->List af->Prop:=eh (RepT K hd O H)
def DBL(X:Cx)(es:List aT)(d:DTA):Prop:=∃x,PB X es x/\∀(C:Ctx) (v:En) (σ:St) (H:Hp) (n:Nat) (Q:List V->Hp->Prop) (R:List af->Nat->Prop),Stt X.K C v σ H n->d v n R ->
 (∀ts y G l,R ts y->ExtE C.hd H l->Hn C.hd l y->Zq X.K C.hd (Own C v σ) l G ts->ts.length=es.length->Q G l)->x σ H Q
theorem Jq:DBL X [] dNil:=⟨_,QD,fun C x σ H n Q R S h v=>v [] n [] H h ExtE.refl S.hnd .nil rfl⟩
theorem Jn(h:DL X e d)(l:DBL X es ds)(hs:starEach (e::es) X.env=(false,eval e X.env)::starEach es X.env):DBL X (e::es) (Qm d ds):=by
 obtain⟨ta,pa,h⟩:=h;obtain⟨tb,U,l⟩:=l;refine⟨_,Qg pa U hs,fun C x σ H n Q R S hd hq=>?_⟩
 refine h C x σ H n _ _ S hd fun t n1 v Z r y h1 I=>?_
 refine l C x σ Z n1 _ _ (S.on y h1) r fun ts L vs N J G Y q2 l2=>?_
 exact hq _ L _ N J (y.trans G) Y (.cons (G.repT S.hx I) q2) (by simp[l2])
def dTup(ds:DTA):DTE:=fun x n R=>ds x n fun ts v=>R (.tuple ts) v
theorem Jh(h:DB X es ds)(I:es.length<=sizeLine:=by decide):DE X (.Tuple es x1 pos) (dTup ds):=by
 obtain⟨ta,pa,h⟩:=h;refine⟨_,zpS pa,fun C N σ H n Q R S hd Y=>?_⟩
 refine h C N σ H n _ _ S hd fun ts U vs Z r y G x J=>⟨by rw[x.length,J];exact I,fun p v=>?_⟩
 have L:=S.on y G;exact Y _ U _ _ r (y.trans (ExtE.new v)) (G.same (JP v)) (.newT (L.free v) v x)
theorem JC(h:DB X es ds)(N:es.length<=sizeLine:=by decide):DN X (.List es pos) ds:=by
 obtain⟨ta,pa,h⟩:=h;refine⟨_,zlK pa,fun C Y σ H n Q R S hd hq=>?_⟩
 refine h C Y σ H n _ _ S hd fun ts Z vs H1 r x G J U=>⟨by rw[J.length,U];exact N,fun p l=>?_⟩
 have S1:=S.on x G;have I:H p=none:=by
  cases z:H p with
  | none=>rfl
  | some o =>
   by_cases y:C.hd=some p
   ·obtain⟨d,m,t,q,_⟩:=G p y;rw[l]at q;cases q
   ·rw[x p o z y]at l;cases l
 refine hq ts Z p vs _ r (x.trans (ExtE.new l)) (G.same (JP l)) I JN ?_;refine J.mono (fun b o v z=>z.elim id fun z=>?_) fun b o _ v=>JP l b o v
 subst z;rw[l]at v;cases v
end
section
variable{X:Cx}{a b c e:aT}{es rest:List aT}{d da db dc:DTE}{ds:DTA}{pos p:Pos}{k:Nat}{x:Str}
abbrev GC:=List af->(af->Prop)->Prop
def ZW(g:GC)(ds:DTA):DTE:=fun u n R=>ds u n fun ts l=>g ts fun z=>R z l
def GpC(X:Cx)(r:List V->Hp->VK->Prop)(g:GC):Prop:=∀(hd:Option ak) (O:ak->Prop) (H:Hp) (xs:List V) (ts:qD) (Q:VK) (R:af->Prop),(∀p,O p->H p≠none)->Zq X.K hd O H xs ts->g ts R ->
 (∀z v l,R z->Same H l->Rep X.K hd O l v z->Q v l)->r xs H Q
theorem JF{id:String}{r:List V->Hp->VK->Prop}{g:GC}(hc:JO X (.builtin id) r)(y:GpC X r g)(hm:X.mg x=none)(Z:bootBuiltins x=some (.builtin id))(h:DBL X (e::es) ds)(hg:Gl X x:=by rfl)(hn:x ≠ "__name__":=by decide) (v:(x == ("__debug__":Str))=false:=by rfl) :
  DE X (.Call (.Name x p) (e::es) [] pos) (ZW g ds):=by
 obtain⟨ta,pa,h⟩:=h;refine⟨_,UG hc hm Z pa hg hn v,fun C G σ H n Q R S hd hq=>?_⟩
 refine h C G σ H n _ _ S hd fun ts n1 vs H1 r1 I L U _=>?_
 have Y:=S.on I L;exact y C.hd (Own C G σ) H1 vs ts Q _ (fun p=>Y.dom) U r1 fun z u H' rz J rp=>hq z n1 u H' rz (I.trans J.ext) (L.same J) rp
theorem Qb(hc:JO X (.type T) r)(G:GpC X r g)(hm:X.mg x=none)(hv:bootBuiltins x=some (.type T))(h:DBL X (e::es) ds)(hg:Gl X x:=by rfl)(hn:x ≠ "__name__":=by decide) (v:(x == ("__debug__":Str))=false:=by rfl) :
  DE X (.Call (.Name x p) (e::es) [] pos) (ZW g ds):=by
 obtain⟨ta,pa,h⟩:=h;refine⟨_,zpX hc hm hv pa hg hn v,fun C I σ H n Q R S hd hq=>?_⟩
 refine h C I σ H n _ _ S hd fun ts n1 vs H1 r1 J U Y _=>?_
 have Z:=S.on J U;exact G C.hd (Own C I σ) H1 vs ts Q _ (fun p=>Z.dom) Y r1 fun z u H' rz L rp=>hq z n1 u H' rz (J.trans L.ext) (U.same L) rp
theorem QX{K:qF}{hd:Option ak}{O:ak->Prop}{H:Hp}{xs:List V}{t:af}(h:Zq K hd O H xs [t]):∃v,xs=[v]/\RepT K hd O H v t:=by
 cases h with
 | cons h r=>cases r;exact⟨_,rfl,h⟩
theorem zlx{K:qF}{hd:Option ak}{O:ak->Prop}{H:Hp}{xs:List V}{t u:af}(h:Zq K hd O H xs [t,u]):∃v w,xs=[v,w]/\RepT K hd O H v t/\RepT K hd O H w u:=by
 cases h with
 | cons h r=>cases r with|cons l r=>cases r;exact⟨_,_,rfl,h,l⟩
def bLen:GC:=fun l R=>(∃ts,l=[.list ts]/\R (.int ts.length))\/(∃ts,l=[.tuple ts]/\R (.int ts.length))\/(∃x:Str,l=[.str x]/\x.length<=16777216/\R (.int x.length))\/∃ts,l=[.dict [(.none,.list ts)]]/\R (.int ts.length)
def rLen(K:qF):List V->Hp->VK->Prop:=fun xs H Q=>∃x n,xs=[x]/\LenV K x H n/\Q (.int n) H
theorem Q6:GpC X (rLen X.K) bLen:=by
 intro hd O H xs ts Q R dom rs h y;rcases h with⟨ts,rfl,h⟩|⟨ts,rfl,h⟩|⟨x,rfl,h⟩|⟨ts,rfl,h⟩
 ·obtain⟨v,rfl,r⟩:=QX rs;obtain⟨p,I,rfl,u,G⟩:=r.lstI;exact⟨_,_,rfl,.inl ⟨I,.of u,rfl⟩,by rw[G.length];exact y _ _ H h (Same.refl H) (.int _)⟩
 ·obtain⟨v,rfl,r⟩:=QX rs;obtain⟨p,I,rfl,u,G⟩:=r.tupI;exact⟨_,_,rfl,.inr ⟨I,u,rfl⟩,by rw[G.length];exact y _ _ H h (Same.refl H) (.int _)⟩
 ·obtain⟨v,rfl,r⟩:=QX rs;rw[r.strI];exact⟨_,_,rfl,⟨h.1,rfl⟩,y _ _ H h.2 (Same.refl H) (.int _)⟩
 ·obtain⟨v,rfl,r⟩:=QX rs;have r:=r.rep (by intro _ z;cases z)
  generalize e:(uA [(kX,uB ts)])=t at r;cases r with
  | scr u o =>
   simp only[SCR,iQ,gm,iW,mE,true_and,and_true]at e;subst e;exact⟨_,_,rfl,.inl ⟨_,.inl u,rfl⟩,by simpa using y _ _ H h (Same.refl H) (.int _)⟩
  | scrS u =>
   simp only[SCR,iQ,gm,iW,mE,true_and,and_true]at e;subst e;exact⟨_,_,rfl,.inl ⟨_,u H,rfl⟩,by simpa using y _ _ H h (Same.refl H) (.int _)⟩
  | hand _=>simp[HAND]at e
  | exc _ _=>simp[EXC]at e
  | dct _ _=>cases e
  | dcK _ _ _ C=>cases e;exact(dict_noK C).elim
  | dcT _ _ _ C=>cases e;exact(dict_noT C).elim
  | _=>cases e
def bMin:GC
 | [.int i,.int j],R=>R (.int (if j<i then j else i))
 | _,_=>False
def bMax:GC
 | [.int i,.int j],R=>R (.int (if j > i then j else i))
 | _,_=>False
theorem ZR:GpC X (fun xs H Q=>∃i j,xs=[.int i,.int j]/\Q (.int (if j<i then j else i)) H) bMin:=by
 intro hd O H xs ts Q R dom rs h u;unfold bMin at h;split at h
 ·obtain⟨v,w,rfl,y,l⟩:=zlx rs;rw[y.intI,l.intI];exact⟨_,_,rfl,u _ _ H h (Same.refl H) (.int _)⟩
 ·exact h.elim
theorem VN:GpC X (fun xs H Q=>∃i j,xs=[.int i,.int j]/\Q (.int (if j > i then j else i)) H) bMax:=by
 intro hd O H xs ts Q R dom rs h u;unfold bMax at h;split at h
 ·obtain⟨v,w,rfl,y,l⟩:=zlx rs;rw[y.intI,l.intI];exact⟨_,_,rfl,u _ _ H h (Same.refl H) (.int _)⟩
 ·exact h.elim
def bInt:GC
 | [.int i],R=>R (.int i)
 | [.bool k],R=>R (.int (if k then 1 else 0))
 | _,_=>False
theorem VM:GpC X (fun xs H Q=>(∃i,xs=[.int i]/\Q (.int i) H)\/∃k,xs=[.bl k]/\Q (.int (if k then 1 else 0)) H) bInt:=by
 intro hd O H xs ts Q R dom rs h y;unfold bInt at h;split at h
 ·obtain⟨v,rfl,u⟩:=QX rs;rw[u.intI];exact .inl ⟨_,rfl,y _ _ H h (Same.refl H) (.int _)⟩
 ·obtain⟨v,rfl,u⟩:=QX rs;rw[u.blI];exact .inr ⟨_,rfl,y _ _ H h (Same.refl H) (.int _)⟩
 ·exact h.elim
def bAll:GC
 | [.list ts],R=>∃bs:List Bool,ts=bs.map bO/\R (.bool (bs.all id))
 | _,_=>False
def bAny:GC
 | [.list ts],R=>∃bs:List Bool,ts=bs.map bO/\R (.bool (bs.any id))
 | _,_=>False
theorem Vq{K:qF}{hd:Option ak}{O:ak->Prop}{H:Hp}:∀{ns:List Bool}{l:List V},Reps K hd O H l (ns.map bO)->l=ns.map V.bl
 | [],_,h=>by cases h;rfl
 | n::ns,_,h=>by
  cases h with
  | cons h r=>rw[h.blI,Vq r];rfl
theorem VL:GpC X (fun xs H Q=>∃(a:ak) (bs:List Bool),xs=[.ref a]/\SqL X.K H a (bs.map V.bl)/\Q (.bl (bs.all id)) H) bAll:=by
 intro hd O H xs ts Q R dom rs h C;unfold bAll at h;split at h
 ·obtain⟨bs,rfl,h⟩:=h;obtain⟨v,rfl,G⟩:=QX rs;obtain⟨p,I,rfl,u,y⟩:=G.lstI;rw[Vq y]at u;exact⟨p,bs,rfl,.of u,C _ _ H h (Same.refl H) (.bl _)⟩
 ·exact h.elim
theorem zt3:GpC X (fun xs H Q=>∃(a:ak) (bs:List Bool),xs=[.ref a]/\SqL X.K H a (bs.map V.bl)/\Q (.bl (bs.any id)) H) bAny:=by
 intro hd O H xs ts Q R dom rs h C;unfold bAny at h;split at h
 ·obtain⟨bs,rfl,h⟩:=h;obtain⟨v,rfl,G⟩:=QX rs;obtain⟨p,I,rfl,u,y⟩:=G.lstI;rw[Vq y]at u;exact⟨p,bs,rfl,.of u,C _ _ H h (Same.refl H) (.bl _)⟩
 ·exact h.elim
def ZH:GC
 | [.list ts],R=>R (.tuple ts)
 | [.tuple ts],R=>R (.tuple ts)
 | _,_=>False
theorem QG:GpC X (fun xs H Q=>∃p ys,xs=[.ref p]/\((SqL X.K H p ys/\∀l,H l=none->Q (.ref l) (upd H l (.tup ys)))\/(SqT X.K H p ys/\Q (.ref p) H))) ZH:=by
 intro hd O H xs ts Q R dom rs h L;unfold ZH at h;split at h
 ·obtain⟨v,rfl,y⟩:=QX rs;obtain⟨p,I,rfl,G,J⟩:=y.lstI;refine⟨p,I,rfl,.inl ⟨.of G,fun l C=>?_⟩⟩
  exact L _ _ _ h (JP C) (.newT (fun z=>dom l z C) C J)
 ·obtain⟨v,rfl,y⟩:=QX rs;obtain⟨p,I,rfl,G,J⟩:=y.tupI;exact⟨p,I,rfl,.inr ⟨G,L _ _ H h (Same.refl H) (y.rep (by intro _ z;cases z))⟩⟩
 ·exact h.elim
def JV:af->(List af->Prop)->Prop
 | .list ts,R=>R ts
 | .tuple ts,R=>R ts
 | _,_=>False
def zi9(d:DTE):DTA:=fun u n R=>d u n fun t l=>JV t fun ts=>R ts l
theorem zmO(hm:X.mg "list" = none) (h:DL X e d) (hs:starEach [e] X.env=[(false,eval e X.env)]) (hg:Gl X "list":=by rfl):DN X (.Call (.Name "list" p) [e] [] pos) (zi9 d):=by
 obtain⟨ta,pa,h⟩:=h;refine⟨_,zpX zia hm (by decide +kernel) (Qg pa QD hs) hg,fun C ρ σ H n Q R S hd hq=>?_⟩
 refine h C ρ σ H n _ _ S hd fun t n1 v Y r1 Z h1 q1=>?_
 have S1:=S.on Z h1;have fin:∀p u ts,Reps X.K C.hd (Own C ρ σ) Y u ts->R ts n1->Y p=none->Q (.ref p) (upd Y p (.lst u)):=fun p u ts rp rr I=>by
  have hp0:H p=none:=by
   cases z:H p with
   | none=>rfl
   | some o =>
    by_cases y:C.hd=some p
    ·obtain⟨d,m,t,q,_⟩:=h1 p y;rw[I]at q;cases q
    ·rw[Z p o z y]at I;cases I
  refine hq ts n1 p u _ rr (Z.trans (ExtE.new I)) (h1.same (JP I)) hp0 JN ?_;refine rp.mono (fun b o J z=>z.elim id fun z=>?_) fun b o _ J=>JP I b o J
  subst z;rw[I]at J;cases J
 cases t with
 | list ts =>
  obtain⟨p,u,rfl,G,U⟩:=q1.lstI;exact⟨p,u,rfl,.inl (.of G),fun l L=>fin l u ts U r1 L⟩
 | tuple ts =>
  obtain⟨p,u,rfl,G,U⟩:=q1.tupI;exact⟨p,u,rfl,.inr G,fun l L=>fin l u ts U r1 L⟩
 | _=>exact r1.elim
def tyN:af->Option String
 | .none=>some "NoneType"
 | .bool _=>some "bool"
 | .int _=>some "int"
 | .str _=>some "str"
 | .list _=>some "list"
 | .tuple _=>some "tuple"
 | .dict []=>some "dict"
 | .dict _=>none
def rIsi(K:qF):List V->Hp->VK->Prop:=fun xs H Q=>∃x hd O t T y b,xs=[x,.ty T]/\RepT K hd O H x t/\tyN t=some y/\kitB y T=some b/\Q (.bl b) H
theorem zna:JO X (.builtin "isinstance") (rIsi X.K):=by
 intro pins s σ H xs us Q I r h;obtain⟨x,hd,O,t,T,y,b,rfl,L,ty,e,q⟩:=h;cases r with
 | cons C S =>
  cases S with
  | cons r3 U =>
   cases U;cases(show _=bu T from r3)
   have fin:∀R,tyN t=some R->R=y:=fun R h=>aL (h.symm.trans ty)
   have go:Ty H x y->wpAny (model X.prog X.w) X.A (call (.builtin "isinstance") [_,bu T]) (EP X pins σ Q) X.xe s:=fun ty=>zmu I C ty.of ((YL X.K y T).trans e) fun tk=>⟨.bl b,H,I.tok tk,rfl,q⟩
   rcases L with L|⟨a,vs,ds,rfl,rfl,N,Y,_⟩|⟨a,zs,J,G,rfl,rfl,N,Y,_⟩
   ·cases L with
    | non=>cases ty;exact go .non
    | bl b=>cases ty;exact go (.bl b)
    | int i=>cases ty;exact go (.int i)
    | str i=>cases ty;exact go (.str i)
    | tup h o r=>cases ty;exact go (.tup h)
    | lst h o r=>cases ty;exact go (.lst h)
    | @dct a J h o =>
      cases ty;cases(show _=b5 a from C)
      obtain⟨⟨_,_,_,v,es,g1,g2,_⟩,_⟩:=I.hok a _ h;exact bG eK I.kIn ⟨v,g1,g2.1⟩ ((YL X.K "dict" T).trans e) (fun z=>nomatch z) fun tk=>⟨.bl b,H,I.tok tk,rfl,q⟩
    | @dcK a kvs J G ps h o r e' =>
     cases ps with
     | nil =>
      cases ty;cases(show _=b5 a from C)
      obtain⟨⟨_,_,_,v,es,g1,g2,_⟩,_⟩:=I.hok a _ h;exact bG eK I.kIn ⟨v,g1,g2.1⟩ ((YL X.K "dict" T).trans e) (fun z=>nomatch z) fun tk=>⟨.bl b,H,I.tok tk,rfl,q⟩
     | cons _ _=>simp[tyN]at ty
    | @dcT a zs J G ps h o r e' =>
     cases ps with
     | nil =>
      cases ty;cases(show _=b5 a from C)
      obtain⟨⟨_,_,_,v,es,g1,g2,_⟩,_⟩:=I.hok a _ h;exact bG eK I.kIn ⟨v,g1,g2.1⟩ ((YL X.K "dict" T).trans e) (fun z=>nomatch z) fun tk=>⟨.bl b,H,I.tok tk,rfl,q⟩
     | cons _ _=>simp[tyN]at ty
    | hand h=>simp[HAND,tyN]at ty
    | scr h o=>simp[SCR,tyN]at ty
    | scrS h=>simp[SCR,tyN]at ty
    | exc h o=>simp[EXC,tyN]at ty
    | @tupS a vs ds h r =>
     cases ty;cases(show _=b5 a from C)
     obtain⟨o,its,n,Z,hc,_⟩:=h;exact bG lS I.kIn ⟨o,I.kIn a o Z,hc⟩ ((YL X.K "tuple" T).trans e) (fun z=>nomatch z) fun tk=>⟨.bl b,H,I.tok tk,rfl,q⟩
   ·cases ty;exact go (.lst N)
   ·cases G with
    | nil =>
     cases ty;cases(show _=b5 a from C)
     obtain⟨⟨_,_,_,v,es,g1,g2,_⟩,_⟩:=I.hok a _ N;exact bG eK I.kIn ⟨v,g1,g2.1⟩ ((YL X.K "dict" T).trans e) (fun z=>nomatch z) fun tk=>⟨.bl b,H,I.tok tk,rfl,q⟩
    | cons _ _=>simp[tyN,Yn]at ty
def Shd(t:af):Prop:=t.showable=true/\t.hasDict=false/\t.depth<=60/\t.shown.length<=16777216
def zr6(K:qF):List V->Hp->VK->Prop:=fun xs H Q=>∃x hd O d,xs=[x]/\RepT K hd O H x d/\Shd d/\Q (.str d.shown) H
theorem zf4(G:Room k X.A):JO X (.builtin "repr") (zr6 X.K):=by
 intro pins s σ H xs us Q I r h;obtain⟨x,hd,O,d,rfl,Y,⟨N,C,h3,R⟩,q⟩:=h;cases r with
 | cons r1 S =>
  cases S;have fin:∀h' tk u,(∀b o,s.heap.get? b=some o->h'.get? b=some o)->EP X pins σ Q (.str d.shown u) { s with heap:=h',toks:=tk }:=fun h' tk u v=>⟨.str d.shown,H,I.kept v,⟨_,rfl⟩,q⟩
  have y:∀tk u,EP X pins σ Q (.str d.shown u) { s with toks:=tk }:=fun tk u=>⟨.str d.shown,H,I.tok tk,⟨_,rfl⟩,q⟩
  obtain⟨as,Z⟩:=Y.reads I r1 C;cases Z with
  | none=>exact P.repr_of_none (by simpa only[gG] using y _ _)
  | bool b=>exact P.repr_of_bool (by simpa only[gG] using y _ _)
  | int i=>exact P.repr_of_int (by simpa[gn] using N) (by simpa only[gG] using y _ _)
  | str x=>exact P.repr_of_str (by simpa only[gG] using y _ _) (by have U:_<=sizeLine:=R;simpa only[gG] using U)
  | list a1 a2 J L=>exact oH (.list a1 a2 J L) N (mF C) G.gd (by have:=G.units;omega) (fun _ _ e=>e) (fun h' u tk v=>fin h' tk u v) R
  | tuple a1 a2 J L=>exact oH (.tuple a1 a2 J L) N (mF C) G.gd (by have:=G.units;omega) (fun _ _ e=>e) (fun h' u tk v=>fin h' tk u v) R
  | dict _ _ _ _ _=>simp[cy]at C
def Zs:GC
 | [t],R=>Shd t/\R (.str t.shown)
 | _,_=>False
theorem zmE:GpC X (zr6 X.K) Zs:=by
 intro hd O H xs ts Q R dom rs h l;unfold Zs at h;split at h
 ·obtain⟨v,rfl,u⟩:=QX rs;exact⟨v,hd,O,_,rfl,u,h.1,l _ _ H h.2 (Same.refl H) (.str _)⟩
 ·exact h.elim
end
section
variable{X:Cx}{a b c e:aT}{es rest:List aT}{d da db dc:DTE}{ds:DTA}{pos p:Pos}{k:Nat}{x:Str}
theorem Reps.atI{K:qF}{hd:Option ak}{O:ak->Prop}{H:Hp}{vs ts}{i:Int}{t}(r:Reps K hd O H vs ts)(h:L2.atI ts i=some t):∃v,L2.atI vs i=some v/\Rep K hd O H v t:=by
 unfold L2.atI at h ⊢;rw[r.length];cases e:ixN ts.length i with
 | none=>rw[e]at h;cases h
 | some j =>
  rw[e]at h;have h:ts[j]?=some t:=h;exact r.get h
def oIx:G2
 | .list ts,.int i,R=>match atI ts i with|some t=>R t|none=>False
 | .tuple ts,.int i,R=>match atI ts i with|some t=>R t|none=>False
 | .str x,.int i,R=>x.length<=16777216/\match atI x.cps.toList i with|some c=>R (.str ⟨#[c]⟩)|none=>False
 | _,_,_=>False
theorem zwS:Gp2 X (rIx X.K) oIx:=by
 intro hd O H x y t u Q R dom I U h L;unfold oIx at h;split at h
 ·rename_i ts i;obtain⟨p,N,rfl,J,C⟩:=I.lstI;split at h
  ·rename_i t S;obtain⟨v,ev,G⟩:=C.atI S;exact .inl ⟨p,N,i,v,rfl,U.intI,.of J,ev,L _ _ H h (Same.refl H) G⟩
  ·exact h.elim
 ·rename_i ts i;obtain⟨p,N,rfl,J,C⟩:=I.tupI;split at h
  ·rename_i t S;obtain⟨v,ev,G⟩:=C.atI S;exact .inr (.inl ⟨p,N,i,v,rfl,U.intI,J,ev,L _ _ H h (Same.refl H) G⟩)
  ·exact h.elim
 ·rename_i z i;obtain⟨h0,h⟩:=h;split at h
  ·rename_i c Y;exact .inr (.inr ⟨z,i,c,I.strI,U.intI,h0,Y,L _ _ H h (Same.refl H) (.str _)⟩)
  ·exact h.elim
 ·exact h.elim
theorem Jd(l:DL X a da)(G:DL X b db)(hs:zno b:=by intro _ _;rfl):DE X (.Subscript a b pos) (dOp oIx da db):=by
 obtain⟨ta,pa,l⟩:=l;obtain⟨tb,Z,G⟩:=G;refine⟨_,UH ztz pa Z hs,fun C ρ σ H n Q R S h hq=>?_⟩
 refine two l G S h fun x y U v w Y L e I N q2=>?_
 exact zwS C.hd (Own C ρ σ) Y v w x y Q _ (fun p=>I.dom) N q2 L fun z u H' rz J rp=>hq z U u H' rz (e.trans J.ext) (I.hnd.same J) rp
def dNeg(d:DTE):DTE:=fun u n R=>d u n fun t l=>match t with|.int i=>R (.int (-i)) l|_=>False
theorem Y3(h:DE X a da):DE X (.UnaryOp .USub a pos) (dNeg da):=by
 obtain⟨Z,pa,h⟩:=h;refine⟨_,zv4 zrz pa,fun C I σ H n Q R S hd Y=>?_⟩
 refine h C I σ H n _ _ S hd fun t J v G r L N l=>?_
 cases t with
 | int i=>rw[l.intI];exact⟨i,rfl,Y _ J _ G r L N (.int _)⟩
 | _=>exact r.elim
def zr7(K:qF):R2:=fun x y H Q=>∃a b xs ys,x=.ref a/\y=.ref b/\SqT K H a xs/\SqT K H b ys/\xs.length+ys.length<=sizeLine /\
 (xs=[]->Q (.ref b) H)/\(ys=[]->Q (.ref a) H)/\∀p,H p=none->Q (.ref p) (upd H p (.tup (xs++ys)))
theorem zp_:OpR X (binaryOp .Add) (zr7 X.K):=by
 intro pins s σ H x y v u Q I R Z h;obtain⟨a,b,xs,ys,rfl,rfl,U,Y,hz,q0,q1,q2⟩:=h
 by_cases hx:xs=[]
 ·cases R;cases Z;obtain⟨J,r1,p1,_⟩:=I.tuple U;obtain⟨C,r2,p2,_⟩:=I.tuple Y;have hv:J=[]:=r1.nil_iff.mpr hx;obtain⟨⟨cls,dd,data,sl⟩,ho,hc,n,hd⟩:=id p1;obtain⟨⟨S,N,data2,L⟩,l,G,n2,hd2⟩:=id p2;simp only at hc hd G hd2;subst hc hd G hd2;exact mj ⟨_,ho,rfl⟩ ⟨_,l,rfl⟩ i7 lO gE gu (gh _ _)
   (tuple_addW0 a b J.toArray C.toArray n n2 dd N sl L (by simp[hv])) ⟨ho,l,⟨.ref b,H,I,rfl,q0 hx⟩⟩
 ·exact zp9 pins s σ H _ _ v u Q I R Z ⟨a,b,xs,ys,rfl,rfl,U,Y,hx,hz,q1,fun _=>q2⟩
def oAdd:G2
 | .int i,.int j,R=>R (.int (i+j))
 | .str i,.str j,R=>i.length+j.length<=16777216/\R (.str (i++j))
 | .tuple xs,.tuple ys,R=>xs.length+ys.length<=16777216/\R (.tuple (xs++ys))
 | _,_,_=>False
def zr8(K:qF):R2:=fun x y H Q=>(rI0 fun i j=>.int (i+j)) x y H Q\/(∃i j,x=.str i/\y=.str j/\i.length+j.length<=sizeLine/\Q (.str (i++j)) H)\/zr7 K x y H Q
theorem zqa:OpR X (binaryOp .Add) (zr8 X.K):=OpR.or Uq (OpR.or zkq zp_)
theorem zt4:Gp2 X (zr8 X.K) oAdd:=by
 intro hd O H x y t u Q R dom C G h v;unfold oAdd at h;split at h
 ·exact .inl ⟨_,_,C.intI,G.intI,v _ _ H h (Same.refl H) (.int _)⟩
 ·exact .inr (.inl ⟨_,_,C.strI,G.strI,h.1,v _ _ H h.2 (Same.refl H) (.str _)⟩)
 ·rename_i xs ys;obtain⟨p,Y,rfl,S,J⟩:=C.tupI;obtain⟨q,N,rfl,U,L⟩:=G.tupI;refine .inr (.inr ⟨p,q,Y,N,rfl,rfl,S,U,by rw[J.length,L.length];exact h.1,fun e=>?_,fun e=>?_,fun l I=>?_⟩)
  ·subst e;cases J;exact v _ _ H h.2 (Same.refl H) (G.rep (by intro _ z;cases z))
  ·subst e;cases L;exact v _ _ H h.2 (Same.refl H) (by rw[bK];exact C.rep (by intro _ z;cases z))
  ·exact v _ _ _ h.2 (JP I) (.newT (fun z=>dom l z I) I (J.append L))
 ·exact h.elim
theorem JG(l:DL X a da)(u:DL X b db):DE X (.BinOp a .Add b pos) (dOp oAdd da db):=Q5 zqa zt4 l u
def dCat(da db:DTE):DTA:=fun u n R=>da u n fun x v=>db u v fun y C=>match x,y with|.list xs,.list ys=>xs.length+ys.length<=16777216/\R (xs++ys) C|_,_=>False
theorem VZ{C:Ctx}{H u:Hp}{v:Nat}{p:ak}(G:ExtE C.hd H u)(I:Hn C.hd u v)(l:u p=none):H p=none:=by
 cases z:H p with
 | none=>rfl
 | some o =>
  by_cases y:C.hd=some p
  ·obtain⟨d,m,t,q,_⟩:=I p y;rw[l]at q;cases q
  ·rw[G p o z y]at l;cases l
theorem znV{K:qF}{hd:Option ak}{O:ak->Prop}{H:Hp}{p:ak}{o:HO}{vs ts}(u:H p=none)(r:Reps K hd O H vs ts):Reps K hd (fun a=>O a\/a=p) (upd H p o) vs ts:=by
 refine r.mono (fun b o l z=>z.elim id fun z=>?_) fun b o _ l=>JP u b o l
 subst z;rw[u]at l;cases l
theorem Uo(I:DL X a da)(J:DL X b db):DN X (.BinOp a .Add b pos) (dCat da db):=by
 obtain⟨ta,pa,I⟩:=I;obtain⟨tb,pb,J⟩:=J;refine⟨_,JD zsL pa pb,fun C ρ σ H n Q R S h hq=>?_⟩
 refine two I J S h fun x y Z v w H2 G e L Y q2=>?_
 split at G
 ·obtain⟨p,vs,rfl,h1,N⟩:=Y.lstI;obtain⟨q,ws,rfl,h3,U⟩:=q2.lstI;refine⟨p,q,vs,ws,rfl,rfl,h1,h3,by rw[N.length,U.length];exact G.1,fun l u=>?_⟩
  exact hq _ Z l _ _ G.2 (e.trans (ExtE.new u)) (L.hnd.same (JP u)) (VZ e L.hnd u) JN (znV u (N.append U))
 ·exact G.elim
def oMul:=gI CMul fun i j=>i*j
theorem Y2(v:DL X a da)(y:DL X b db):DE X (.BinOp a .Mult b pos) (dOp oMul da db):=Q5 Q7 gp_I v y
abbrev GD:=List af->Nat->(af->Nat->Prop)->Prop
def spD(K:qF)(m:Nat)(g:GD):Sp:=fun y H Q _=>∃(hd:Option ak) (O:ak->Prop) (ts:qD) (n:Nat) (R:qN),Reps K hd O H y ts/\Hn hd H n/\(∀a,O a->MutO (H a))/\(∀a,hd=some a->O a)/\ts.length=m/\g ts n R /\
 ∀t u v l,R t u->ExtE hd H l->Hn hd l u->Rep K hd O l v t->Q v l
def dFn(g:GD)(ds:DTA):DTE:=fun u n R=>ds u n fun ts l=>g ts l R
theorem zwX{st:dg}{ps:List Str}{f:ak}{fd:cK}{g:GD}{m:Nat}(D:Bd.Def X.K X.mg x st ps f fd)(G:FnOk X.prog X.w X.K X.mg X.base CX0 k f fd ps (spD X.K m g))(hr:Room k X.A)(h:DB X (e::es) ds)(hm:(e::es).length=m:=by rfl)(hg:Gl X x:=by rfl)
  (u:(x == ("__debug__":Str))=false:=by rfl):DE X (.Call (.Name x p) (e::es) [] pos) (dFn g ds):=by
 obtain⟨ta,pa,h⟩:=h;refine⟨_,Bd.zpU D G hr pa hg u,fun C y σ H n Q R S hd hq=>?_⟩
 refine h C y σ H n _ _ S hd fun ts n1 vs H1 r1 I J L U=>?_
 have Z:=S.on I J;rw[bK];exact⟨C.hd,Own C y σ,ts,n1,R,L,J,fun a=>Z.lst,fun a z=>.inl (S.hx a z),U.trans hm,r1,fun t Y v H' rt e2 h2 q2=>hq t Y v H' rt (I.trans e2) h2 q2⟩
def dFnL(g:GD)(ds:DTA):DTE:=fun v n R=>ds v n fun ts l=>g ts l fun t u=>JT t=true/\R t u
theorem zuq{st:dg}{ps:List Str}{f:ak}{fd:cK}{g:GD}{m:Nat}(D:Bd.Def X.K X.mg x st ps f fd)(G:FnOk X.prog X.w X.K X.mg X.base CX0 k f fd ps (spD X.K m g))(hr:Room k X.A)(h:DBL X (e::es) ds)(hm:(e::es).length=m:=by rfl)(hg:Gl X x:=by rfl)
  (I:(x == ("__debug__":Str))=false:=by rfl):DE X (.Call (.Name x p) (e::es) [] pos) (dFnL g ds):=by
 obtain⟨ta,pa,h⟩:=h;refine⟨_,Bd.zpU D G hr pa hg I,fun C ρ σ H n Q R S hd hq=>?_⟩
 refine h C ρ σ H n _ _ S hd fun ts n1 u Z r1 e1 J q1 l1=>?_
 have S1:=S.on e1 J;rw[bK];have lend:∀{u ts},Zq X.K C.hd (Own C ρ σ) Z u ts->Reps X.K C.hd (fun a=>C.hd=some a) Z u ts:=by
  intro u ts q;induction q with
  | nil=>exact .nil
  | cons r _ ih =>
   refine .cons ?_ ih;rcases r with r|⟨a,ws,us,rfl,rfl,L,U,y⟩|⟨a,zs,ep,ks,rfl,rfl,L,U,y⟩
   ·exact r.mono (fun a o _ z=>.inl (S.hx a z)) fun _ _ _ z=>z
   ·exact .lst L y (U.mono (fun a o _ z=>.inl (S.hx a z)) fun _ _ _ z=>z)
   ·exact .dcT L y (U.mono (fun a o _ z=>.inl (S.hx a z)) fun _ _ _ z=>z) rfl
 refine⟨C.hd,fun a=>C.hd=some a,ts,n1,_,lend q1,J,fun a z=>?_,fun a z=>z,l1.trans hm,r1,fun t n' v H' rt e2 Y q2=>?_⟩
 ·obtain⟨d,m,t,q,_⟩:=J a z;exact .inl ⟨_,q⟩
 ·exact hq t n' v H' rt.2 (e1.trans e2) Y (q2.up (fun a z=>(S1.on e2 Y).lst z) rt.1)
end
section
variable{X:Cx}{pins:qO}{σ:St}{H H':Hp}{s s':au}{C e:ak}
theorem Inv.land(I:Inv X pins σ H s)(st:∀b o,s.heap.get? b=some o->b∉frs X.stack->h''.get? b=some o)(up:∀b o,s.heap.get? b=some o->b∈frs X.stack->∃l,h''.get? b=some { o with slots:=l }) :
  Un (frs X.stack) [] H H s.heap h''/\HOk X.prog X.w H h'':=by
 refine⟨⟨fun b o e _ x _=>st b o e x,fun b o e _ hf _=>up b o e hf,fun _ _ _ n _=>n,fun b o e _=>?_,fun _ _ q=>q,fun _ _ _ q=>q,fun _ _ q=>q⟩,fun a u e=>?_⟩
 ·by_cases hf:b∈frs X.stack
  ·obtain⟨l,q⟩:=up b o e hf;exact⟨_,q⟩
  ·exact⟨o,st b o e hf⟩
 ·refine(I.hok a u e).stay (fun c v hc q=>st c v q fun hf=>?_) (fun _ q=>q) (fun _ _ q=>q) fun _ _ _ q=>q
  have n:=I.stkFree c hf;rcases hc with z|z
  ·rw[z]at n;rw[n]at e;cases e
  ·rw[n]at z;cases z
def Fly1(P:aI)(w:aU)(l:List Env)(H H':Hp)(h:aS)(C e:ak)(h':aS):Prop :=
 ∃B u,mG B l e (.ref C) u h'/\H' e=none/\h.get? e=none/\∀h'',B.StaysIn h''->h'.UpToSlots h''->Un (frs l) [] H H' h h''/\HOk P w H' h''
def CX1(P:aI)(w:aU):CXT:=fun outer H s E e s'=>∃l C H',e=.ref l/\s'.os=s.os/\g8 s'.gens/\Fly1 P w outer H H' s.heap C l s'.heap/\E (.ref C) none H'
inductive FlyX (X:Cx)(C:ak)(H':Hp)(e:ak)(s':au):Prop
 | made {HJ:qO} {σ':St} {s h1} (I:Inv X HJ σ' H' s) (m:Heap.MadeExcOf s.heap h1 e (.ref C) []) (hs:s'={ s with heap:=h1 })
 | on {HJ:qO} {σ':St} {H1:Hp} {s} (I:Inv X HJ σ' H1 s) (os:s'.os=s.os) (bare:g8 s'.gens) (f:Fly1 X.prog X.w X.stack H1 H' s.heap C e s'.heap)
def XW(X:Cx)(C:ak)(H':Hp):Prop:=∀e s',FlyX X C H' e s'->X.xe (.ref e) s'
theorem zv6:Vz (CX1 X.prog X.w) X (fun y _ H'=>∃C,y=.ref C/\XW X C H'):=fun pins σ H s e s' I l=>by
 obtain⟨v,C,H',rfl,os,bare,f,G,x,u⟩:=l;cases x;exact u v s' (.on I os bare f)
theorem zmA(x:HOk P w H h)(e:H a=some u):∃o,h.get? a=some o:=by
 have x:=x a u e;cases u with
 | lst xs=>obtain⟨_,_,_,_,e⟩:=x;exact⟨_,e⟩
 | tup xs=>obtain⟨_,_,_,o,e,_⟩:=x;exact⟨_,e⟩
 | dK l=>obtain⟨_,_,_,_,o,_,_,e,_⟩:=x;exact⟨_,e⟩
 | dT l=>obtain⟨_,_,_,_,o,_,_,e,_⟩:=x;exact⟨_,e⟩
 | set S n=>obtain⟨o,_,_,_,e,_⟩:=x;exact⟨_,e⟩
 | ins C v fs=>obtain⟨_,_,_,e,_⟩:=x;exact⟨_,e⟩
 | own y=>obtain⟨_,e⟩:=x;exact⟨_,e⟩
 | xd fs=>obtain⟨_,⟨_,_,_,e,_⟩,_⟩:=x;exact⟨_,e⟩
 | rng lo hi=>obtain⟨_,_,_,e⟩:=x;exact⟨_,e⟩
 | frz I u=>obtain⟨e,_⟩:=x;exact⟨_,e⟩
 | tbl ps=>obtain⟨_,e,_⟩:=x;exact⟨_,e⟩
 | met f y=>exact⟨_,show h.get? a=some _ from x⟩
 | ext G=>obtain⟨_,e,_⟩:=x;exact e
theorem zoB(x:HOk P w H h)(n:h.get? a=none):H a=none:=by
 cases q:H a with
 | none=>rfl
 | some u=>obtain⟨o,e⟩:=zmA x q;rw[n]at e;cases e
end
section
variable{P:aI}{w:aU}{K:qF}{mg:qM}{base:aS}{N:List Str}{qual:Str}{scope:fc}{f:ak}{cd:ah}{A:bw}{outer:List Env}{s₀:au}{H₀:Hp}{E:XK}{C:ak}{H':Hp}
theorem znF(hE:E (.ref C) none H'):XW (cxOf (CX1 P w) P w K mg base N qual scope f cd A outer s₀ H₀ E) C H':=by
 intro e s' fx;generalize hX:cxOf (CX1 P w) P w K mg base N qual scope f cd A outer s₀ H₀ E=X at fx;have S:X.xe=fun e s'=>wpAny (model P w) (A.deeper (envOfC qual scope s₀.heap.objs.size f cd)) (leaving (envOfC qual scope s₀.heap.objs.size f cd) e) (fun _ y=>CX1 P w outer H₀ s₀ E e y) (fun e' y=>CX1 P w outer H₀ s₀ E e' y) s':=by rw[<- hX];rfl
 have l:X.stack=envOfC qual scope s₀.heap.objs.size f cd::outer:=by rw[<- hX];rfl
 have hA:X.A=A.deeper (envOfC qual scope s₀.heap.objs.size f cd):=by rw[<- hX];rfl
 have v:X.s₀=s₀:=by rw[<- hX];rfl
 have U:X.H₀=H₀:=by rw[<- hX];rfl
 have hex:X.ex=[]:=by rw[<- hX];rfl
 have Y:X.fs=frs outer:=by rw[<- hX];rfl
 have hP:X.prog=P:=by rw[<- hX];rfl
 have hw:X.w=w:=by rw[<- hX];rfl
 have fin:∀{pins σ H s} (I:Inv X pins σ H s) {h'':aS},Un (frs X.stack) [] H H' s.heap h''->HOk X.prog X.w H' h''->Un (frs outer) [] H₀ H' s₀.heap h''/\HOk P w H' h'':=fun {pins σ H s} I {h''} u G=>by
  have J:=(I.call (h':=h'') (g':=s.gens) (d':=s.drawn) (t':=s.toks) u G I.bare (fun b z=>absurd z (by simp))).base
  rw[hex,Y,U,v]at J;rw[hP,hw]at G;exact⟨J,G⟩
 have old:∀{pins σ H s} (I:Inv X pins σ H s) {a:ak},s.heap.get? a=none->s₀.heap.get? a=none:=fun {pins σ H s} I {a} n=>by
  cases q:s₀.heap.get? a with
  | none=>rfl
  | some o =>
   have b:=I.base;rw[v]at b;obtain⟨o',z⟩:=b.there a o q (by rw[hex];simp)
   rw[n]at z;cases z
 rw[S];cases fx with
 | @made pins σ s h1 I m hs =>
  subst hs;have fr:(A.deeper (envOfC qual scope s₀.heap.objs.size f cd)).frames=some (envOfC qual scope s₀.heap.objs.size f cd::outer):=by rw[<- hA,<- l];exact I.ok.frames
  have ff:=I.stack;rw[l]at ff;refine wpAny_leaves_madeW (base:=nN s.heap (frs X.stack)) (h:=s.heap) fr rfl (fun b o q=>lR _ q) (PySem.W.funFrames_hide ff fun env he b hb=>by rw[l];exact fg.mpr ⟨env,he,hb⟩) m fun h' t fl tup bt up=>?_
  refine⟨e,C,H',rfl,I.os.trans (by rw[v]),I.bare,⟨_,_,fl,zoB I.hok m.new,old I m.new,fun h'' st x=>?_⟩,hE⟩
  obtain⟨u,G⟩:=I.land (h'':=h'') (fun b o q nf=>st b o (lF _ q nf)) (fun b o q hf=>by
   obtain⟨_,o',L,Z⟩:=I.stack.mem hf;rw[q]at L;cases L;exact(up.trans x) b o (m.keeps b o q) Z)
  exact fin I u G
 | @on pins σ H s I os bare g =>
  obtain⟨B,a0,fl,ne,nn,st⟩:=g;have fr:(A.deeper (envOfC qual scope s₀.heap.objs.size f cd)).frames=some (envOfC qual scope s₀.heap.objs.size f cd::outer):=by rw[<- hA,<- l];exact I.ok.frames
  rw[l]at fl;refine wpAny_leaves_onW fr rfl fl fun h' fl' up=>⟨e,C,H',rfl,(os.trans I.os).trans (by rw[v]),bare,⟨B,a0,fl',ne,old I nn,fun h'' R x=>?_⟩,hE⟩
  obtain⟨u,G⟩:=st h'' R (up.trans x);exact fin I u G
end
def zud:List ah:=[.type "ValueError",.type "Exception",.type "BaseException",.type "object"]
def OwnX(K:qF)(mg:qM)(x:Str)(C:ak):Prop:=∀h:aS,K.In h->OwnCls x C zud "ValueError.__new__" mg h
section
variable{X:Cx}{x:Str}{C:ak}{np HC pos:Pos}
theorem zn2(O:OwnX X.K X.mg x C)(hc:X.calm=true)(G:Gl X x)(hd:(x == ("__debug__":Str))=false:=by rfl):PS X (.Raise (some (.Call (.Name x np) [] [] HC)) none pos) (fun _ _ H=>XW X C H):=by
 intro pins s σ H D I h;have v:=(O X.base I.ok.mod.kin).keeps I.bk;obtain⟨J,N,nm,q,bs,hdct,sn,sub,ab,col,dd,k0,k1,k2,k3,k5,mN,L,y,u,T⟩:=v.obj;refine wpAny_Raise_call_subU (C:=C) (nm:=nm) (q:=q) (N:=N) (bs:=bs) (bm:=J) (hdct:=hdct) (sn:=sn) (sub:=sub) (ab:=ab) (col:=col) (dd:=dd) (k0:=k0) (k1:=k1) (k2:=k2) (k3:=k3) (k5:=k5)
  fJ (by decide) fJ (mN:=mN) (T.hasType fJ.hasBase) (I.ok.hd hc) rfl u (Yd I G v.bound ⟨rfl,?_⟩ hd)
 exact evalArgs_empty ⟨rfl,dQ _,L,y,T,fun h' e m=>h e _ (.made I m rfl)⟩
end
def Keep(C:Ctx)(v:En)(σ:St)(H:Hp)(l:En)(σ':St)(u:Hp):Prop:=∀a o,H a=some o->C.hd≠some a->¬OwnS v σ a->u a=some o/\¬OwnS l σ' a
structure JU where
 nx:En->Nat->Prop
 rt:af->Nat->Prop
 bk:En->Nat->Prop:=fun _ _=>False
 ct:En->Nat->Prop:=fun _ _=>False
 xr:Str->Nat->Prop:=fun _ _=>False
abbrev DTS:=JU->En->Nat->Prop
def XN(X:Cx)(c:Str)(l:Hp):Prop:=∀C,X.mg c=some (.ref C)->XW X C l
structure Good(X:Cx)(C:Ctx)(ρ:En)(σ:St)(H:Hp)(D:Ends)(D':JU):Prop where
 nx:∀ρ' σ' H' n',D'.nx ρ' n'->Stt X.K C ρ' σ' H' n'->Keep C ρ σ H ρ' σ' H'->D.nx σ' H'
 rt:∀t n' v H',D'.rt t n'->Hn C.hd H' n'->(∀a o,H a=some o->C.hd≠some a->¬OwnS ρ σ a->H' a=some o)->Rep X.K C.hd C.ext H' v t->D.rt v H'
 bk:∀ρ' σ' H' n',D'.bk ρ' n'->Stt X.K C ρ' σ' H' n'->Keep C ρ σ H ρ' σ' H'->D.bk σ' H'
 ct:∀ρ' σ' H' n',D'.ct ρ' n'->Stt X.K C ρ' σ' H' n'->Keep C ρ σ H ρ' σ' H'->D.ct σ' H'
 xr:∀c n' H',D'.xr c n'->Hn C.hd H' n'->(∀a o,H a=some o->C.hd≠some a->¬OwnS ρ σ a->H' a=some o)->XN X c H'
def DS(X:Cx)(st:dg)(d:DTS):Prop:=∃ts,PS X st ts/\∀(C:Ctx) (l:En) (σ:St) (H:Hp) (n:Nat) (D:Ends) (u:JU),Stt X.K C l σ H n->d u l n->Good X C l σ H D u->ts D σ H
def DSs(X:Cx)(st:List dg)(d:DTS):Prop:=∃ts,PSs X st ts/\∀(C:Ctx) (l:En) (σ:St) (H:Hp) (n:Nat) (D:Ends) (u:JU),Stt X.K C l σ H n->d u l n->Good X C l σ H D u->ts D σ H
section
variable{K:qF}{C:Ctx}{ρ ρ1 ρ2:En}{σ σ1 σ2:St}{H H1 H2:Hp}{n n1:Nat}{D:Ends}{D':JU}
theorem Keep.refl:Keep C ρ σ H ρ σ H:=fun _ _ h _ no=>⟨h,no⟩
theorem Keep.trans(k1:Keep C ρ σ H ρ1 σ1 H1)(k2:Keep C ρ1 σ1 H1 ρ2 σ2 H2):Keep C ρ σ H ρ2 σ2 H2:=fun a o h u no=>by
 obtain⟨v,l⟩:=k1 a o h u no;exact k2 a o v u l
theorem ExtE.keep(e:ExtE C.hd H H1):Keep C ρ σ H ρ σ H1:=fun a o h l no=>⟨e a o h l,no⟩
theorem Good.on{X:Cx}(g:Good X C ρ σ H D D')(k:Keep C ρ σ H ρ1 σ1 H1):Good X C ρ1 σ1 H1 D D' where
 nx:=fun l σ' y u h S x=>g.nx l σ' y u h S (k.trans x)
 rt:=fun t u v y h L x r=>g.rt t u v y h L (fun a o N I no=>by
  obtain⟨J,G⟩:=k a o N I no;exact x a o J I G) r
 bk:=fun l σ' y u h S x=>g.bk l σ' y u h S (k.trans x)
 ct:=fun l σ' y u h S x=>g.ct l σ' y u h S (k.trans x)
 xr:=fun c u y h L x=>g.xr c u y h L fun a o N I no=>by
  obtain⟨J,G⟩:=k a o N I no;exact x a o J I G
theorem Keep.rep(k:Keep C ρ σ H ρ1 σ1 H1)(hx:∀a,C.hd=some a->C.ext a){v t}(r:Rep K C.hd (Own C ρ σ) H v t):Rep K C.hd (Own C ρ1 σ1) H1 v t :=
 Rep.mono (O:=Own C ρ σ) (fun a o h z=>by
  by_cases q:Own C ρ σ a
  ·exact q
  ·rcases z with z|z
   ·exact .inl z
   ·exact absurd z (k a o h (fun y=>q (.inl (hx a y))) fun y=>q (.inr y)).2) (fun a o no h=>(k a o h (fun y=>no (.inl (hx a y))) fun y=>no (.inr y)).1) r
theorem Keep.reps(k:Keep C ρ σ H ρ1 σ1 H1)(hx:∀a,C.hd=some a->C.ext a){v t}(r:Reps K C.hd (Own C ρ σ) H v t):Reps K C.hd (Own C ρ1 σ1) H1 v t :=
 Reps.mono (O:=Own C ρ σ) (fun a o h z=>by
  by_cases q:Own C ρ σ a
  ·exact q
  ·rcases z with z|z
   ·exact .inl z
   ·exact absurd z (k a o h (fun y=>q (.inl (hx a y))) fun y=>q (.inr y)).2) (fun a o no h=>(k a o h (fun y=>no (.inl (hx a y))) fun y=>no (.inr y)).1) r
theorem Jy{α:Type}{l:List (Option α)}{i j:Nat}{v w:α}(h:(l.set i (some v))[j]?=some (some w)):(i=j/\v=w)\/(i≠j/\l[j]?=some (some w)):=by
 by_cases e:i=j
 ·subst e;rw[gH]at h;simp only[↓reduceIte]at h;split at h
  ·simp at h;exact .inl ⟨rfl,h⟩
  ·cases h
 ·rw[aQ e]at h;exact .inr ⟨e,h⟩
theorem YF{α:Type}{l:List (Option α)}{i j:Nat}{v w:α}(e:i≠j)(h:l[j]?=some (some w)):(l.set i (some v))[j]?=some (some w):=by
 rw[aQ e];exact h
theorem zo5{α:Type}{l:List (Option α)}{i j:Nat}{v:α}{w:Option α}(h:(l.set i (some v))[j]?=some w)(e:i=j):i<l.length:=by
 subst e;rw[gH]at h;simp only[↓reduceIte]at h;split at h
 ·assumption
 ·cases h
theorem zlm{α:Type}{l:List (Option α)}{i:Nat}{v:α}(h:i<l.length):(l.set i (some v))[i]?=some (some v):=by
 rw[gH];simp[h]
theorem V9{i:Nat}{t:af}{v:V}{a:ak}(h:OwnS (ρ.set i (some (.val t))) (σ.set i (some v)) a):OwnS ρ σ a:=by
 obtain⟨j,c,m,x,u⟩:=h;rcases Jy x with⟨_,z⟩|⟨e,x⟩
 ·subst z;cases m
 ·rcases Jy u with⟨z,_⟩|⟨_,u⟩
  ·exact absurd z e
  ·exact⟨j,c,m,x,u⟩
def QY(K:qF)(hd:Option ak)(O:ak->Prop)(H:Hp)(a:ak):Cell->Prop
 | .val _=>False
 | .rdo _=>False
 | .own ts=>∃y,H a=some (.lst y)/\Reps K hd O H y ts
 | .dct x=>∃u,H a=some (.dK u)/\UV K hd O H u x
 | .dtt x=>∃zs G,H a=some (ZDO a zs G)/\Qk K hd O H zs x
theorem QY.mono(x:QY K hd O H a c)(I:∀a o,H a=some o->O' a->O a)(y:∀a o,¬O a->H a=some o->H' a=some o)(G:∀o,H a=some o->H' a=some o):QY K hd O' H' a c:=by
 cases c with
 | val _=>exact x.elim
 | rdo _=>exact x.elim
 | own ts=>obtain⟨v,u,l⟩:=x;exact⟨v,G _ u,l.mono I y⟩
 | dct J=>obtain⟨v,u,l⟩:=x;exact⟨v,G _ u,l.mono I y⟩
 | dtt J=>obtain⟨v,L,u,l⟩:=x;exact⟨v,L,G _ u,l.mono I y⟩
theorem QY.some(x:QY K hd O H a c):∃o,H a=some o:=by
 cases c with
 | val _=>exact x.elim
 | rdo _=>exact x.elim
 | own ts=>obtain⟨v,l,u⟩:=x;exact⟨_,l⟩
 | dct y=>obtain⟨v,l,u⟩:=x;exact⟨_,l⟩
 | dtt y=>obtain⟨v,G,l,u⟩:=x;exact⟨_,l⟩
theorem QY.mine(x:QY K hd O H a c):c.mine=true:=by
 cases c with
 | val _=>exact x.elim
 | rdo _=>exact x.elim
 | own ts=>rfl
 | dct l=>rfl
 | dtt l=>rfl
theorem Stt.cell(S:Stt K C ρ σ H n){i:Nat}{c:Cell}(m:c.mine=true)(h:ρ[i]?=some (some c)):∃a:ak,σ[i]?=some (some (V.ref a))/\QY K C.hd (Own C ρ σ) H a c/\¬C.ext a:=by
 cases c with
 | val _=>cases m
 | rdo _=>cases m
 | own ts=>obtain⟨a,y,v,u,x,l⟩:=S.own i ts h;exact⟨a,v,⟨y,u,x⟩,l⟩
 | dct G=>obtain⟨a,y,v,u,x,l⟩:=S.dct i G h;exact⟨a,v,⟨y,u,x⟩,l⟩
 | dtt G=>obtain⟨a,y,I,v,u,x,l⟩:=S.dtt i G h;exact⟨a,v,⟨y,I,u,x⟩,l⟩
def zrn(K:qF)(C:Ctx)(ρ:En)(σ:St)(H:Hp):Prop:=∀(i:Nat) (u:List (Key×af)),ρ[i]?=some (some (Cell.rdo u))->∃a l,σ[i]?=some (some (V.ref a))/\H a=some (.dK l)/\UV K C.hd (Own C ρ σ) H l u/\C.ext a/\C.hd≠some a
theorem Stt.mk'(len:ρ.length=σ.length)(val:∀(i:Nat) (d:af),ρ[i]?=some (some (Cell.val d))->∃v,σ[i]?=some (some v)/\Rep K C.hd (Own C ρ σ) H v d)
  (cell:∀(i:Nat) (c:Cell),c.mine=true->ρ[i]?=some (some c)->∃a:ak,σ[i]?=some (some (V.ref a))/\QY K C.hd (Own C ρ σ) H a c/\¬C.ext a)
  (rdo:zrn K C ρ σ H) (dif:∀(i j:Nat) (c e:Cell) (a:ak),c.mine=true->e.mine=true->ρ[i]?=some (some c)->ρ[j]?=some (some e)->σ[i]?=some (some (V.ref a))->σ[j]?=some (some (V.ref a))->i=j)
  (hnd:Hn C.hd H n) (ext:∀a,C.ext a->MutO (H a)) (hx:∀a,C.hd=some a->C.ext a):Stt K C ρ σ H n where
 len:=len
 val:=val
 own:=fun i ts h=>by obtain⟨a,u,⟨G,l,x⟩,y⟩:=cell i _ rfl h;exact⟨a,G,u,l,x,y⟩
 dct:=fun i ts h=>by obtain⟨a,u,⟨G,l,x⟩,y⟩:=cell i _ rfl h;exact⟨a,G,u,l,x,y⟩
 rdo:=rdo
 dtt:=fun i ts h=>by obtain⟨a,u,⟨G,I,l,x⟩,y⟩:=cell i _ rfl h;exact⟨a,G,I,u,l,x,y⟩
 dif:=dif
 hnd:=hnd
 ext:=ext
 hx:=hx
theorem Stt.put(S:Stt K C ρ σ H n){i:Nat}{t:af}{v:V}(r:Rep K C.hd (Own C ρ σ) H v t):Stt K C (ρ.set i (some (.val t))) (σ.set i (some v)) H n:=by
 have sub:∀a o,H a=some o->Own C (ρ.set i (some (.val t))) (σ.set i (some v)) a->Own C ρ σ a:=fun a o _ z=>z.elim .inl fun z=>.inr (V9 z)
 have mono:∀{w u},Rep K C.hd (Own C ρ σ) H w u->Rep K C.hd (Own C (ρ.set i (some (.val t))) (σ.set i (some v))) H w u:=fun q=>q.mono sub fun _ _ _ z=>z
 refine .mk' (by simp[S.len]) (fun j d h=>?_) (fun j c m h=>?_) (fun j ks h=>?_) (fun j k c e a Y U y x L h4=>?_) S.hnd S.ext S.hx
 rotate_left 2
 ·rcases Jy h with⟨_,z⟩|⟨e,h'⟩
  ·cases z
  ·obtain⟨a,R,q1,q2,q3,q4⟩:=S.rdo j ks h';exact⟨a,R,YF e q1,q2,q3.mono sub fun _ _ _ z=>z,q4⟩
 rotate_left 1
 ·rcases Jy h with⟨e,z⟩|⟨e,h'⟩
  ·cases z;have:=zo5 h e;subst e;exact⟨v,zlm (by rw[<- S.len];exact this),mono r⟩
  ·obtain⟨w,y,x⟩:=S.val j d h';exact⟨w,YF e y,mono x⟩
 ·rcases Jy h with⟨e,z⟩|⟨e,h'⟩
  ·subst z;cases m
  ·obtain⟨a,y,x,L⟩:=S.cell m h';exact⟨a,YF e y,x.mono sub (fun _ _ _ z=>z) fun _ z=>z,L⟩
 ·rcases Jy y with⟨e,z⟩|⟨e,G⟩
  ·subst z;cases Y
  ·rcases Jy x with⟨Z,z⟩|⟨Z,J⟩
   ·subst z;cases U
   ·rcases Jy L with⟨z,_⟩|⟨_,I⟩
    ·exact absurd z e
    ·rcases Jy h4 with⟨z,_⟩|⟨_,N⟩
     ·exact absurd z Z
     ·exact S.dif j k c _ a Y U G J I N
theorem Ud:Keep C ρ σ H (ρ.set i (some (.val t))) (σ.set i (some v)) H:=fun a o h _ no=>⟨h,fun z=>no (V9 z)⟩
theorem zjz{i:Nat}{c:Cell}{p a:ak}(h:OwnS (ρ.set i (some c)) (σ.set i (some (.ref p))) a):OwnS ρ σ a\/a=p:=by
 obtain⟨j,ds,m,v,u⟩:=h;rcases Jy u with⟨e,z⟩|⟨e,u⟩
 ·cases z;exact .inr rfl
 ·rcases Jy v with⟨z,_⟩|⟨_,v⟩
  ·exact absurd z e
  ·exact .inl ⟨j,ds,m,v,u⟩
theorem Stt.putNew(S:Stt K C ρ σ H n){i:Nat}{c:Cell}{p:ak}{U:Hp}(e:ExtE C.hd H U)(h:Hn C.hd U n1)(hp:H p=none)(r:QY K C.hd (fun a=>Own C ρ σ a\/a=p) U p c) :
  Stt K C (ρ.set i (some c)) (σ.set i (some (.ref p))) U n1:=by
 have S':=S.on e h;have mc:=r.mine;have sub:∀a,Own C (ρ.set i (some c)) (σ.set i (some (.ref p))) a->Own C ρ σ a\/a=p:=fun a z=>z.elim (fun z=>.inl (.inl z)) fun z=>(zjz z).elim (fun z=>.inl (.inr z)) .inr
 have npx:¬C.ext p:=fun z=>S.dom (.inl z) hp
 have sb:∀a o,H a=some o->Own C (ρ.set i (some c)) (σ.set i (some (.ref p))) a->Own C ρ σ a:=fun a o L z=>(sub a z).elim id fun z=>by subst z;rw[hp]at L;cases L
 have kp:∀a o,¬Own C ρ σ a->H a=some o->U a=some o:=fun a o no L=>e a o L fun z=>no (.inl (S.hx a z))
 have II:∀(j:Nat) (d:Cell),d.mine=true->ρ[j]?=some (some d)->σ[j]?≠some (some (V.ref p)):=fun j d m y v=>by
  obtain⟨a,e1,Z,_⟩:=S.cell m y;rw[v]at e1;cases e1;obtain⟨o,Z⟩:=Z.some;rw[hp]at Z;cases Z
 refine .mk' (by simp[S.len]) (fun j d J=>?_) (fun j d m J=>?_) (fun j ks J=>?_) (fun j k c1 c2 a m1 m2 y v h3 Y=>?_) h S'.ext S.hx
 rotate_left 2
 ·rcases Jy J with⟨_,z⟩|⟨u,h'⟩
  ·subst z;cases mc
  ·obtain⟨a,kvs,q1,q2,q3,q4,q5⟩:=S.rdo j ks h';exact⟨a,kvs,YF u q1,e a _ q2 q5,q3.mono sb kp,q4,q5⟩
 rotate_left 1
 ·rcases Jy J with⟨_,z⟩|⟨u,h'⟩
  ·subst z;cases mc
  ·obtain⟨w,y,v⟩:=S.val j d h';exact⟨w,YF u y,v.mono sb kp⟩
 ·rcases Jy J with⟨u,z⟩|⟨u,h'⟩
  ·subst z;have:=zo5 J u;subst u;exact⟨p,zlm (by rw[<- S.len];exact this),r.mono (fun a o _ z=>sub a z) (fun _ _ _ z=>z) fun _ z=>z,npx⟩
  ·obtain⟨a,y,v,Y⟩:=S.cell m h';exact⟨a,YF u y,v.mono sb kp (fun o L=>e a o L fun z=>Y (S.hx a z)),Y⟩
 ·rcases Jy h3 with⟨e3,z3⟩|⟨e3,R⟩
  ·cases z3;rcases Jy Y with⟨I,_⟩|⟨I,G⟩
   ·rw[<- e3,<- I]
   ·rcases Jy v with⟨z,_⟩|⟨_,x⟩
    ·exact absurd z I
    ·exact absurd G (II k _ m2 x)
  ·rcases Jy y with⟨z,_⟩|⟨_,N⟩
   ·exact absurd z e3
   ·rcases Jy Y with⟨I,z4⟩|⟨I,G⟩
    ·cases z4;exact absurd R (II j _ m1 N)
    ·rcases Jy v with⟨z,_⟩|⟨_,x⟩
     ·exact absurd z I
     ·exact S.dif j k _ _ a m1 m2 N x R G
theorem Stt.putOwn(S:Stt K C ρ σ H n)(e:ExtE C.hd H H')(h:Hn C.hd H' n1)(v:H p=none)(u:H' p=some (.lst vs))(r:Reps K C.hd (fun a=>Own C ρ σ a\/a=p) H' vs ts) :
  Stt K C (ρ.set i (some (.own ts))) (σ.set i (some (.ref p))) H' n1:=S.putNew e h v ⟨vs,u,r⟩
theorem ziU(e:ExtE C.hd H H')(u:H p=none):Keep C ρ σ H (ρ.set i (some c)) (σ.set i (some (.ref p))) H':=fun a o h v no =>
 ⟨e a o h v,fun z=>(zjz z).elim no fun z=>by subst z;rw[u]at h;cases h⟩
theorem zeS(e:ExtE C.hd H H')(l:H p=none):Keep C ρ σ H (ρ.set i (some (.own ts))) (σ.set i (some (.ref p))) H':=ziU e l
theorem Stt.chgC(S:Stt K C ρ σ H n){i:Nat}{c y:Cell}{p:ak}{L:HO}(m:c.mine=true)(m':y.mine=true)(Y:ρ[i]?=some (some c))(N:σ[i]?=some (some (.ref p)))
  (r:∀(O':ak->Prop) (H':Hp),(∀a o,H a=some o->O' a->Own C ρ σ a)->(∀a o,¬Own C ρ σ a->H a=some o->H' a=some o)->H' p=some L->QY K C.hd O' H' p y) :
  Stt K C (ρ.set i (some y)) σ (upd H p L) n/\Keep C ρ σ H (ρ.set i (some y)) σ (upd H p L):=by
 have op:OwnS ρ σ p:=⟨i,c,m,Y,N⟩;obtain⟨p',e1,hp,x⟩:=S.cell m Y;rw[N]at e1;cases e1;have Ik:∀a,OwnS (ρ.set i (some y)) σ a->OwnS ρ σ a:=fun a ⟨j,d,G,u,v⟩=>by
  rcases Jy u with⟨e,_⟩|⟨e,u⟩
  ·subst e;rw[N]at v;cases v;exact op
  ·exact⟨j,d,G,u,v⟩
 have sub:∀a o,H a=some o->Own C (ρ.set i (some y)) σ a->Own C ρ σ a:=fun a o _ z=>z.elim .inl fun z=>.inr (Ik a z)
 have kp:∀a o,¬Own C ρ σ a->H a=some o->upd H p L a=some o:=fun a o no ho=>by rw[Js (show a≠p from fun z=>no (by rw[z];exact .inr op))];exact ho
 have rd:zrn K C (ρ.set i (some y)) σ (upd H p L):=fun j ks R=>by
  rcases Jy R with⟨_,z⟩|⟨J,h'⟩
  ·subst z;cases m'
  ·obtain⟨a,kvs,u,v,Z,I,q5⟩:=S.rdo j ks h';exact⟨a,kvs,u,by rw[Js (show a≠p from fun z=>x (by rw[<- z];exact I))];exact v,Z.mono sub kp,I,q5⟩
 refine⟨.mk' (by simp[S.len]) (fun j d R=>?_) (fun j d G R=>?_) rd (fun j k c1 c2 a m1 m2 u v Z I=>?_) (fun a U=>?_) (fun a U=>?_) S.hx,fun a o h nh no=>⟨by rw[Js (show a≠p from fun z=>no (by rw[z];exact op))];exact h,fun z=>no (Ik a z)⟩⟩
 ·rcases Jy R with⟨_,z⟩|⟨J,h'⟩
  ·subst z;cases m'
  ·obtain⟨w,u,v⟩:=S.val j d h';exact⟨w,u,v.mono sub kp⟩
 ·rcases Jy R with⟨J,z⟩|⟨J,h'⟩
  ·subst z;subst J;exact⟨p,N,r _ _ sub kp JN,x⟩
  ·obtain⟨a,u,v,I⟩:=S.cell G h';have:a≠p:=fun z=>by subst z;exact J (S.dif i j c d a m G Y h' N u)
   exact⟨a,u,v.mono sub kp (fun o ho=>by rw[Js this];exact ho),I⟩
 ·have get:∀(j:Nat) (d:Cell),d.mine=true->(ρ.set i (some y))[j]?=some (some d)->∃d':Cell,d'.mine=true/\ρ[j]?=some (some d'):=fun j d G q=>by
   rcases Jy q with⟨e,_⟩|⟨_,q⟩
   ·subst e;exact⟨_,m,Y⟩
   ·exact⟨_,G,q⟩
  obtain⟨d1,md1,g1⟩:=get j c1 m1 u;obtain⟨d2,md2,g2⟩:=get k c2 m2 v;exact S.dif j k d1 d2 a md1 md2 g1 g2 Z I
 ·obtain⟨d,m,t,q,rest⟩:=S.hnd a U;exact⟨d,m,t,by rw[Js (show a≠p from fun z=>x (by rw[<- z];exact S.hx a U))];exact q,rest⟩
 ·by_cases z:a=p
  ·subst z;exact absurd U x
  ·rw[Js z];exact S.ext a U
theorem Stt.chg(S:Stt K C ρ σ H n)(v:ρ[i]?=some (some (.own ts)))(u:σ[i]?=some (some (.ref p)))(r:Reps K C.hd (Own C ρ σ) H ws us) :
  Stt K C (ρ.set i (some (.own us))) σ (upd H p (.lst ws)) n/\Keep C ρ σ H (ρ.set i (some (.own us))) σ (upd H p (.lst ws)):=S.chgC rfl rfl v u fun _ _ a b x=>⟨ws,x,r.mono a b⟩
theorem Stt.freeze(S:Stt K C ρ σ H n){i:Nat}{ts:qD}(h1:ρ[i]?=some (some (.own ts))):Stt K C (ρ.set i (some (.val (.list ts)))) σ H n/\Keep C ρ σ H (ρ.set i (some (.val (.list ts)))) σ H:=by
 obtain⟨p,vs,Y,hp,hr,N⟩:=S.own i ts h1;have L:∀a,OwnS (ρ.set i (some (.val (.list ts)))) σ a->OwnS ρ σ a/\a≠p:=fun a ⟨j,ds,m,u,x⟩=>by
  rcases Jy u with⟨_,z⟩|⟨e,u⟩
  ·subst z;cases m
  ·exact⟨⟨j,ds,m,u,x⟩,fun z=>by subst z;exact e (S.dif i j (.own ts) ds a rfl m h1 u Y x)⟩
 have sub:∀a o,H a=some o->Own C (ρ.set i (some (.val (.list ts)))) σ a->Own C ρ σ a:=fun a o _ z=>z.elim .inl fun z=>.inr (L a z).1
 have rd:zrn K C (ρ.set i (some (.val (.list ts)))) σ H:=fun j ks G=>by
  rcases Jy G with⟨_,z⟩|⟨J,h'⟩
  ·cases z
  ·obtain⟨a,R,u,x,y,I⟩:=S.rdo j ks h';exact⟨a,R,u,x,y.mono sub fun _ _ _ z=>z,I⟩
 refine⟨.mk' (by simp[S.len]) (fun j d G=>?_) (fun j d m G=>?_) rd (fun j k c1 c2 a Z U u x y I=>?_) S.hnd S.ext S.hx,fun a o h _ no=>⟨h,fun z=>no (L a z).1⟩⟩
 ·rcases Jy G with⟨J,z⟩|⟨J,h'⟩
  ·cases z;subst J;exact⟨.ref p,Y,.lst hp (fun z=>z.elim N fun z=>(L p z).2 rfl) (hr.mono sub fun _ _ _ z=>z)⟩
  ·obtain⟨w,u,x⟩:=S.val j d h';exact⟨w,u,x.mono sub fun _ _ _ z=>z⟩
 ·rcases Jy G with⟨_,z⟩|⟨J,h'⟩
  ·subst z;cases m
  ·obtain⟨a,u,y,I⟩:=S.cell m h';exact⟨a,u,y.mono sub (fun _ _ _ z=>z) fun _ z=>z,I⟩
 ·rcases Jy u with⟨_,z⟩|⟨_,g1⟩
  ·subst z;cases Z
  ·rcases Jy x with⟨_,z⟩|⟨_,g2⟩
   ·subst z;cases U
   ·exact S.dif j k _ _ a Z U g1 g2 y I
end
section
variable{X:Cx}{a b c e:aT}{es rest:List aT}{d da db dc:DTE}{ds:DTA}{dt:DTT}{t u:DTS}{st:dg}{sts sa sb:List dg}{pos p:Pos}{k:Nat}{x:Str}
def Vx:DTS:=fun D l n=>D.nx l n
def sSeq(t u:DTS):DTS:=fun D l n=>t { D with nx:=u D } l n
theorem Jr:DSs X [] Vx:=⟨_,ziD,fun C l σ H n D v S h g=>g.nx l σ H n h S Keep.refl⟩
theorem Jb(y:DS X st t)(l:DSs X sts u):DSs X (st::sts) (sSeq t u):=by
 obtain⟨Z,pa,y⟩:=y;obtain⟨Y,I,l⟩:=l;refine⟨_,QH pa I,fun C J σ H n D L S h g=>?_⟩
 exact y C J σ H n _ _ S h ⟨fun v σ' R G U N k=>l C v σ' R G D L N U (g.on k),g.rt,g.bk,g.ct,g.xr⟩
theorem Jc(l:DS X st t):DSs X [st] t:=by
 obtain⟨v,pa,l⟩:=l;exact⟨_,Ye pa,l⟩
def Z9(i:Nat)(t:DTS):DTS:=fun D y n=>match y[i]? with|some (some (.own ts))=>t D (y.set i (some (.val (.list ts)))) n|_=>False
theorem UE(i:Nat)(l:DSs X sts t):DSs X sts (Z9 i t):=by
 obtain⟨I,pa,l⟩:=l;refine⟨_,pa,fun C J σ H n D v S h g=>?_⟩
 unfold Z9 at h;split at h
 ·rename_i ts G;obtain⟨y,kp⟩:=S.freeze G;exact l C _ σ H n D v y h (g.on kp)
 ·exact h.elim
def sRet(d:DTE):DTS:=fun D v n=>d v n fun t l=>D.rt t l
theorem Jf(h:DE X e d):DS X (.Return (some e) pos) (sRet d):=by
 obtain⟨Z,pa,h⟩:=h;refine⟨_,ZO pa,fun C G σ H n D Y S hd g=>?_⟩
 refine h C G σ H n _ _ S hd fun t y v J r I L q=>?_
 exact g.rt t y v J r L (fun a o N U _=>I a o N U) (q.mono (fun _ _ _ z=>.inl z) fun _ _ _ z=>z)
def sIf(c:DTT)(t u:DTS):DTS:=fun D l n=>c l n fun b v=>if b=true then t D l v else u D l v
theorem Jp(hc:DT X c dt)(G:DSs X sa t)(v:DSs X sb u):DS X (.If c sa sb pos) (sIf dt t u):=by
 obtain⟨Z,pc,hc⟩:=hc;obtain⟨ta,pa,G⟩:=G;obtain⟨Y,U,v⟩:=v;refine⟨_,zpM pc pa U,fun C y σ H n D L S hd g=>?_⟩
 refine hc C y σ H n _ _ S hd fun b N J r l R=>?_
 cases b with
 | true=>exact iteT (G C y σ J N D L (S.on l R) (by simpa using r) (g.on l.keep))
 | false=>exact iteF (v C y σ J N D L (S.on l R) (by simpa using r) (g.on l.keep))
def sSet(i:Nat)(d:DTE):DTS:=fun D y n=>d y n fun t C=>D.nx (y.set i (some (.val t))) C
theorem zug(I:X.N.Nodup)(hi:X.N[i]?=some x)(hx:Loc X.env.scope x)(h:DE X e d)(L:swapsWith e (some (.Name x pos')) pos.line X.env=pure false:=by rfl)(hf:X.fn x=true\/X.env.scope.names.lookup x=some .local:=by walk_at "F") :
  DS X (.Assign [.Name x pos'] e pos) (sSet i d):=by
 obtain⟨Z,pa,h⟩:=h;refine⟨_,QK I hi hx pa L hf,fun C J σ H n D Y S hd g=>?_⟩
 refine h C J σ H n _ _ S hd fun t G v R r y U q=>?_
 exact g.nx _ _ R G r ((S.on y U).put q) (y.keep.trans Ud)
def sOwn(i:Nat)(d:DTA):DTS:=fun D l n=>d l n fun ts v=>D.nx (l.set i (some (.own ts))) v
theorem UJ(J:X.N.Nodup)(hi:X.N[i]?=some x)(hx:Loc X.env.scope x)(h:DN X e ds)(R:swapsWith e (some (.Name x pos')) pos.line X.env=pure false:=by rfl)(hf:X.fn x=true\/X.env.scope.names.lookup x=some .local:=by walk_at "F") :
  DS X (.Assign [.Name x pos'] e pos) (sOwn i ds):=by
 obtain⟨ta,pa,h⟩:=h;refine⟨_,QK J hi hx pa R hf,fun C L σ H n D Z S hd g=>?_⟩
 refine h C L σ H n _ _ S hd fun ts I p vs U r G Y y v q=>?_
 exact g.nx _ _ U I r (S.putOwn G Y y v q) (zeS G y)
abbrev DTG:=af->En->(En->Prop)->Prop
abbrev DTGs:=List af->En->(En->Prop)->Prop
def DG(X:Cx)(tg:aT)(is:List Nat)(d:DTG):Prop:=(∀t y R,d t y R->∃l,R l)/\∃g,PG X tg g/\∀(C:Ctx) (y:En) (σ:St) (H:Hp) (n:Nat) (v:V) (t:af) (Q:St->Hp->Prop) (R:En->Prop),Stt X.K C y σ H n->Rep X.K C.hd (Own C y σ) H v t->d t y R ->
 (∀l σ',R l->Stt X.K C l σ' H n->Keep C y σ H l σ' H->(∀j,j∉is->σ'[j]?=σ[j]?)->σ'.length=σ.length->Q σ' H)->g v σ H Q
def DGs(X:Cx)(y:List aT)(is:List Nat)(d:DTGs):Prop:=(∀ts v R,d ts v R->ts.length=y.length)/\(∀t v R,d t v R->∃l,R l)/\∃g,PGs X y g/\∀(C:Ctx) (v:En) (σ:St) (H:Hp) (n:Nat) (G:List V) (ts:qD) (Q:St->Hp->Prop) (R:En->Prop),Stt X.K C v σ H n->Reps X.K C.hd (Own C v σ) H G ts->d ts v R ->
 (∀l σ',R l->Stt X.K C l σ' H n->Keep C v σ H l σ' H->(∀j,j∉is->σ'[j]?=σ[j]?)->σ'.length=σ.length->Q σ' H)->g G σ H Q
def Qo(i:Nat):DTG:=fun t y R=>R (y.set i (some (.val t)))
def UX:DTGs:=fun ts l R=>match ts with|[]=>R l|_=>False
def Ua(d:DTG)(ds:DTGs):DTGs:=fun ts v R=>match ts with|t::ts=>d t v fun l=>ds ts l R|[]=>False
def UY(ds:DTGs):DTG:=fun t v R=>match t with|.tuple ts=>ds ts v R|_=>False
theorem zq2(y:X.N.Nodup)(hi:X.N[i]?=some x)(hx:Loc X.env.scope x)(hf:X.fn x=true\/X.env.scope.names.lookup x=some .local:=by walk_at "F"):DG X (.Name x pos) [i] (Qo i):=by
 refine⟨fun t G R h=>⟨_,h⟩,_,VV y hi hx hf,fun C G σ H n v t Q R S r hd J=>?_⟩
 exact J _ _ hd (S.put r) Ud (fun j I=>by rw[aQ (fun z=>I (by simp[z]))]) (by simp)
theorem Jx:DGs X [] [] UX:=by
 refine⟨fun ts l R h=>?_,fun ts l R h=>?_,_,zlJ,fun C l σ H n y ts Q R S r hd v=>?_⟩
 ·cases ts with
  | nil=>rfl
  | cons _ _=>exact h.elim
 ·cases ts with
  | nil=>exact⟨_,h⟩
  | cons _ _=>exact h.elim
 ·cases r with
  | nil=>exact⟨rfl,v _ _ hd S Keep.refl (fun _ _=>rfl) rfl⟩
  | cons _ _=>exact hd.elim
theorem Ji(Z:DG X e is g)(J:DGs X es js gs)(hs:(assignEach (e::es) X.env).map (·.2)=assign e X.env::(assignEach es X.env).map (·.2):=by rfl):DGs X (e::es) (is++js) (Ua g gs):=by
 obtain⟨w1,ga,pa,Z⟩:=Z;obtain⟨l2,w2,gb,pb,J⟩:=J;refine⟨fun ts y R h=>?_,fun ts y R h=>?_,_,Wb pa pb hs,fun C y σ H n vs ts Q R S r hd hq=>?_⟩
 ·cases ts with
  | nil=>exact h.elim
  | cons t ts =>
   obtain⟨l,h'⟩:=w1 t y _ h;simp[l2 ts l R h']
 ·cases ts with
  | nil=>exact h.elim
  | cons t ts =>
   obtain⟨l,h'⟩:=w1 t y _ h;exact w2 ts l R h'
 ·cases r with
  | nil=>exact hd.elim
  | cons r rs =>
   refine⟨_,_,rfl,Z C y σ H n _ _ _ _ S r hd fun l σ' hr S' kp hj hl=>?_⟩
   refine J C l σ' H n _ _ _ _ S' (kp.reps S.hx rs) hr fun Y I N S2 L G U=>?_
   exact hq Y I N S2 (kp.trans L) (fun j v=>by rw[G j (fun z=>v (by simp[z])),hj j (fun z=>v (by simp[z]))]) (U.trans hl)
theorem Jz(hc:X.calm=true)(h:DGs X es is gs)(Y:(assignEach es X.env).length=es.length:=by rfl)(G:(assignEach es X.env).findIdx? (·.1)=none:=by rfl):DG X (.Tuple es k pos) is (UY gs):=by
 obtain⟨l,w,g,pg,h⟩:=h;refine⟨fun t y R h=>?_,_,zsn hc pg Y G,fun C y σ H n v t Q R S r hd U=>?_⟩
 ·cases t with
  | tuple ts=>exact w ts y R h
  | _=>exact h.elim
 ·cases t with
  | tuple ts =>
   obtain⟨p,L,rfl,N,J⟩:=r.tupI;exact⟨p,L,rfl,N,by rw[J.length];exact l ts y R hd,h C y σ H n L ts Q R S J hd U⟩
  | _=>exact hd.elim
def sAsg(d:DTE)(g:DTG):DTS:=fun D v n=>d v n fun t y=>g t v fun l=>D.nx l y
theorem Qc(h:DE X e d)(y:DG X tg is g)(R:swapsWithSole [tg] e pos.line X.env=pure false:=by rfl)(hw:swappedStores [tg] e X.env=pure none:=by rfl)
  (Y:(assignEach [tg] X.env).map (·.2)=[assign tg X.env]:=by rfl):DS X (.Assign [tg] e pos) (sAsg d g):=by
 obtain⟨ta,pa,h⟩:=h;obtain⟨w,gb,N,y⟩:=y;refine⟨_,ZN pa N R hw Y,fun C I σ H n D D' S hd gd=>?_⟩
 refine h C I σ H n _ _ S hd fun t G v L r J Z q=>?_
 exact y C I σ L G v t _ _ (S.on J Z) q r fun l σ' hr U kp _ _=>gd.nx l σ' L G hr U (J.keep.trans kp)
def Y8(i:Nat)(d:DTE):DTS:=fun D l n=>match l[i]? with
 | some (some (.own ts))=>d l n fun t v=>ts.length<16777216/\D.nx (l.set i (some (.own (ts++[t])))) v
 | _=>False
theorem Qr(i:Nat){J p2 R:Pos}(h:DE X e d)(hN:X.N[i]?=some x:=by rfl)(hv:Vis X.env.scope x:=by walk_at "V")(hd:(x == ("__debug__":Str))=false:=by rfl)
  (U:(x == ("__classdict__":Str))=false:=by rfl) (hs:swapsWith (.Call (.Attribute (.Name x J) "append" p2) [e] [] R) none pos.line X.env=pure false:=by rfl)
  (Hq:attributeBase (.Name x J) "append" X.env (eval (.Name x J) X.env)=eval (.Name x J) X.env:=by rfl)
  (Iu:((backTo R (starEach [e] X.env)).all (fun x=>!x.1)&&(backToKw R (keywordEach [] X.env)).all (fun x=>x.1.isSome)
   && decide ([e].length+([]:List sJ).length+(if ([]:List sJ).isEmpty then 0 else 1)<30))=true:=by rfl)
  (Hr:(p2.endLine == R.line)=true:=by rfl) (I:starEach [e] X.env=[(false,eval e X.env)]:=by rfl):DS X (.Expr (.Call (.Attribute (.Name x J) "append" p2) [e] [] R) pos) (Y8 i d):=by
 obtain⟨ta,pa,h⟩:=h;refine⟨_,zpN (zpY gv PySem.F.slot_list_append PySem.F.type_list_append zeP (Q8 hN hv hd U) (QZ pa UM I) Hq Iu Hr I rfl) hs,fun C ρ σ H n D D' S hd g=>?_⟩
 unfold Y8 at hd;split at hd
 ·rename_i ts et;obtain⟨p,vs,h1,h2,h3,h4⟩:=S.own i ts et;refine⟨.ref p,h1,.inl ⟨rfl,_,SqL.of h2⟩,?_⟩;refine h C ρ σ H n _ _ S hd fun t n' v H' r e1 hn q=>?_
  have S1:=S.on e1 hn;obtain⟨p',Y,G,Z,L,h4'⟩:=S1.own i ts et;rw[h1]at G;cases G;refine⟨p,Y,v,rfl,rfl,Z,by rw[L.length];exact r.1,?_⟩
  obtain⟨S2,k2⟩:=S1.chg et h1 (L.append (.cons q .nil));exact g.nx _ _ _ n' r.2 S2 (e1.keep.trans k2)
 ·exact hd.elim
def sPut(i:Nat)(C d:DTE):DTS:=fun D l n=>d l n fun t v=>match l[i]? with
 | some (some (.own ts))=>C l v fun j y=>match j with|.int j=>(match ixN ts.length j with|some k=>D.nx (l.set i (some (.own (ts.set k t)))) y|none=>False)|_=>False
 | _=>False
theorem zuh(i:Nat){dj:DTE}{l p2:Pos}(U:DE X b dj)(h:DE X e d)(hN:X.N[i]?=some x:=by rfl)(hv:Vis X.env.scope x:=by walk_at "V")(hd:(x == ("__debug__":Str))=false:=by rfl)
  (Z:(x == ("__classdict__":Str))=false:=by rfl) (hs:swapsWithSole [.Subscript (.Name x l) b p2] e pos.line X.env=pure false:=by rfl) (hw:swappedStores [.Subscript (.Name x l) b p2] e X.env=pure none:=by rfl)
  (G:(assignEach [.Subscript (.Name x l) b p2] X.env).map (·.2)=[assign (.Subscript (.Name x l) b p2) X.env]:=by rfl)
  (hsub:PG X (.Subscript (.Name x l) b p2)=PG X (.Subscript (.Name x l) b p2):=rfl) (pg:∀{to ti:TE} {t:TSet},PE X (.Name x l) to->PE X b ti->PSet X t->PG X (.Subscript (.Name x l) b p2) (L2.gSub to ti t):=by intro _ _ _ G h2 h3;exact pg_sub G h2 h3) :
  DS X (.Assign [.Subscript (.Name x l) b p2] e pos) (sPut i dj d):=by
 obtain⟨ta,pa,h⟩:=h;obtain⟨tj,pj,U⟩:=U;refine⟨_,ZN pa (pg (Q8 hN hv hd Z) pj set_list) hs hw G,fun C R σ H n D D' S hd g=>?_⟩
 refine h C R σ H n _ _ S hd fun t n1 v H1 r e1 hn q=>?_
 have L:=S.on e1 hn;split at r
 ·rename_i ts et;obtain⟨p,vs,G,h2,h3,h4⟩:=L.own i ts et;refine⟨.ref p,G,U C R σ H1 n1 _ _ L r fun j n2 w H2 y e2 Y q2=>?_⟩
  have S2:=L.on e2 Y;cases j with
  | int j =>
   have y:(match ixN ts.length j with|some k=>D'.nx (R.set i (some (.own (ts.set k t)))) n2|none=>False):=y
   cases ek:ixN ts.length j with
   | none=>rw[ek]at y;exact y.elim
   | some m =>
    rw[ek]at y;obtain⟨p',vs',I,h2',J,h4'⟩:=S2.own i ts et;rw[G]at I;cases I;refine⟨p,vs',j,m,rfl,q2.intI,h2',by rw[J.length];exact ek,?_⟩
    obtain⟨S3,k3⟩:=S2.chg et G (J.set (e2.rep S.hx q) m);exact g.nx _ _ _ n2 y S3 ((e1.trans e2).keep.trans k3)
  | _=>exact y.elim
 ·exact r.elim
def zls(c:DTT)(I:DTS):DTS:=fun D v n=>∃W:Nat->En->Nat->Prop,(∃m,W m v n)/\∀m v n,W m v n ->
 c v n fun b G=>if b=true then I { D with nx:=fun l C=>∃y,y<m/\W y l C,ct:=fun l C=>∃y,y<m/\W y l C,bk:=D.nx } v G else D.nx v G
theorem zj4(hp:mV (model X.prog X.w) X.A X.env X.xe)(hc:DT X c dt)(hb:DSs X sa t):DS X (.While c sa [] pos) (zls dt t):=by
 obtain⟨tc,pc,hc⟩:=hc;obtain⟨tb,pb,hb⟩:=hb;refine⟨_,zn1 hp pc pb,fun C ρ σ H n D D' S hd g=>?_⟩
 obtain⟨W,⟨m0,w0⟩,turn⟩:=hd;refine⟨fun m L H1=>∃G Y,W m G Y/\Stt X.K C G L H1 Y/\Keep C ρ σ H G L H1,⟨m0,ρ,n,w0,S,Keep.refl⟩,?_⟩
 rintro m L H1 ⟨G,Y,w1,S1,k1⟩;refine hc C G L H1 Y _ _ S1 (turn m G Y w1) fun b n2 H2 r e2 hn2=>?_
 have S2:=S1.on e2 hn2;have k2:=k1.trans e2.keep;cases b with
 | true =>
  refine iteT ⟨fun σ' N=>∃J,J<m/\∃y I,W J y I/\Stt X.K C y σ' N I/\Keep C ρ σ H y σ' N,fun σ' N ⟨J,hm,z⟩=>⟨J,hm,z⟩,?_⟩
  refine hb C G L H2 n2 _ { D' with nx:=fun y I=>∃J,J<m/\W J y I,ct:=fun y I=>∃J,J<m/\W J y I,bk:=D'.nx } S2 (by simpa using r) ⟨?_,fun t I v N h hn R r=>g.rt t I v N h hn (fun a o ha U no=>?_) r,?_,?_,fun c I N h hn R=>g.xr c I N h hn fun a o ha U no=>R a o (k2 a o ha U no).1 U (k2 a o ha U no).2⟩
  ·rintro y σ' N I ⟨J,hm,w'⟩ Z R;exact⟨J,hm,y,I,w',Z,k2.trans R⟩
  ·obtain⟨q1,q2⟩:=k2 a o ha U no;exact R a o q1 U q2
  ·intro y σ' N I h' Z R;exact g.nx y σ' N I h' Z (k2.trans R)
  ·rintro y σ' N I ⟨J,hm,w'⟩ Z R;exact⟨J,hm,y,I,w',Z,k2.trans R⟩
 | false=>exact iteF (g.nx G L H2 n2 (by simpa using r) S2 k2)
end
def ItOk(K:qF)(hd:Option ak)(P O:ak->Prop)(H:Hp)(J:It)(ts:qD):Prop:=∀(u:ak->Prop) (l:Hp),(∀a o,H a=some o->P a->l a=some o)->(∀a o,H a=some o->¬O a->¬u a)->(∀a,u a->l a≠none) ->
 (∀i t,ts[i]?=some t->J.go i l/\∀x v,J.yld i l x v->Same l v/\Rep K hd u v x t)/\J.stop ts.length l
def DI(X:Cx)(tg iter:aT)(d:DTA):Prop:=∃x,PI X tg iter x/\∀(C:Ctx) (u:En) (σ:St) (H:Hp) (n:Nat) (Q:It->Hp->Prop) (R:List af->Nat->Prop),Stt X.K C u σ H n->d u n R ->
 (∀ts v J l,R ts v->ExtE C.hd H l->Hn C.hd l v->ItOk X.K C.hd (fun a=>¬Own C u σ a) (Own C u σ) l J ts->Q J l)->x σ H Q
def DIL(X:Cx)(tg iter:aT)(d:DTA):Prop:=∃x,PI X tg iter x/\∀(C:Ctx) (u:En) (σ:St) (H:Hp) (n:Nat) (Q:It->Hp->Prop) (R:List af->Nat->Prop),Stt X.K C u σ H n->d u n R ->
 (∀ts v J l,R ts v->ExtE C.hd H l->Hn C.hd l v->ItOk X.K C.hd (fun a=>C.hd≠some a) (Own C u σ) l J ts->Q J l)->x σ H Q
section
variable{X:Cx}{a b c e tg iter:aT}{es rest:List aT}{d da db dc:DTE}{ds di:DTA}{dt:DTT}{t u:DTS}{st:dg}{sts sa sb:List dg}{pos p:Pos}{k:Nat}{x:Str}
theorem dil(h:DI X tg iter di):DIL X tg iter di:=by
 obtain⟨G,pi,h⟩:=h;refine⟨G,pi,fun C N σ H n Q R S hd Z=>h C N σ H n Q R S hd fun ts v J Y r U hn it=>Z ts v J Y r U hn ?_⟩
 exact fun I y h1 L h3=>it I y (fun a o ha no=>h1 a o ha fun z=>no (.inl (S.hx a z))) L h3
theorem Reps.getP{K:qF}{hd:Option ak}{O:ak->Prop}{H:Hp}{vs ts}{i:Nat}{t}{x:V}(r:Reps K hd O H vs ts)(h:ts[i]?=some t)(hx:vs[i]?=some x):Rep K hd O H x t:=by
 obtain⟨v,l,y⟩:=r.get h;rw[hx]at l;cases l;exact y
theorem V0{K:qF}{hd:Option ak}{P O:ak->Prop}{H:Hp}{q:ak}{vs ts}(Y:H q=some (.lst vs))(Z:P q)(U:∀a,¬O a->P a)(r:Reps K hd O H vs ts):ItOk K hd P O H (Itl K q) ts:=by
 intro R N J S _;have y:=J q _ Y Z;have I:Reps K hd R N vs ts:=r.mono (fun a o G z=>fU fun no=>S a o G no z) fun a o no G=>J a o G (U a no)
 refine⟨fun i t L=>?_,⟨vs,.of y,by rw[r.length];exact ay _⟩⟩
 obtain⟨v,ev,rv⟩:=I.get L;refine⟨⟨vs,v,.of y,ev⟩,fun x H3 C=>?_⟩
 obtain⟨rfl,C⟩:=C;exact⟨Same.refl _,I.getP L (C vs (.of y))⟩
theorem zpg{K:qF}{hd:Option ak}{P O:ak->Prop}{H:Hp}{v:V}{ts}(U:∀a,¬O a->P a)(r:Rep K hd O H v (.tuple ts)):∃q y,v=.ref q/\SqT K H q y/\ItOk K hd P O H (Itt K q) ts:=by
 have key:∀q y,Reps K hd O H y ts->(∀(I:ak->Prop) (G:Hp),(∀a o,H a=some o->P a->G a=some o)->(∀a o,H a=some o->¬O a->¬I a)->SqT K G q y)->ItOk K hd P O H (Itt K q) ts:=by
  intro q y r Z I G J S _;have C:=Z I G J S;have R:Reps K hd I G y ts:=r.mono (fun a o N z=>fU fun no=>S a o N no z) fun a o no N=>J a o N (U a no)
  refine⟨fun i t Y=>?_,⟨y,C,by rw[r.length];exact ay _⟩⟩
  obtain⟨v,ev,rv⟩:=R.get Y;refine⟨⟨y,v,C,ev⟩,fun x H3 L=>?_⟩
  obtain⟨rfl,L⟩:=L;exact⟨Same.refl _,R.getP Y (L y C)⟩
 cases r with
 | @tup q y ds h o r=>exact⟨q,y,rfl,.inl (.inl h),key q y r fun I G J _=>.inl (.inl (J q _ h (U q o)))⟩
 | @tupS q y ds h r=>exact⟨q,y,rfl,h.sq,key q y r fun I G _ _=>h.sq⟩
def dItL(d:DTE):DTA:=fun y n R=>d y n fun t v=>match t with|.list ts=>R ts v|_=>False
def dItT(d:DTE):DTA:=fun y n R=>d y n fun t v=>match t with|.tuple ts=>R ts v|_=>False
theorem QC(h:DE X iter d):DI X tg iter (dItL d):=by
 obtain⟨Z,pa,h⟩:=h;refine⟨_,zlI pa,fun C I σ H n Q R S hd N=>?_⟩
 refine h C I σ H n _ _ S hd fun t y v L r J U q=>?_
 cases t with
 | list ts =>
  obtain⟨p,Y,rfl,l,no,G⟩:=q.lstI;exact⟨p,rfl,⟨Y,.of l⟩,N ts y _ L r J U (V0 l no (fun _ z=>z) G)⟩
 | _=>exact r.elim
theorem zoN(h:DL X iter d):DIL X tg iter (dItL d):=by
 obtain⟨ta,pa,h⟩:=h;refine⟨_,zlI pa,fun C ρ σ H n Q R S hd Y=>?_⟩
 refine h C ρ σ H n _ _ S hd fun t L v U r N Z q=>?_
 cases t with
 | list ts =>
  rcases q with q|⟨p,I,ds,rfl,J,y,G,nh⟩|⟨p,zs,ep,ks,rfl,J,y,G,nh⟩
  rotate_left 2
  ·cases J
  ·obtain⟨p,I,rfl,y,no,G⟩:=q.lstI;exact⟨p,rfl,⟨I,.of y⟩,Y ts L _ U r N Z (V0 y (fun z=>no (.inl (S.hx p z))) (fun a no z=>no (.inl (S.hx a z))) G)⟩
  ·cases J;exact⟨p,rfl,⟨I,.of y⟩,Y ts L _ U r N Z (V0 y nh (fun a no z=>no (.inl (S.hx a z))) G)⟩
 | _=>exact r.elim
theorem Qw(h:DE X iter d):DI X tg iter (dItT d):=by
 obtain⟨Y,pa,h⟩:=h;refine⟨_,zsk pa,fun C l σ H n Q R S hd J=>?_⟩
 refine h C l σ H n _ _ S hd fun t y v I r G N q=>?_
 cases t with
 | tuple ts =>
  obtain⟨p,U,rfl,L,it⟩:=zpg (P:=fun a=>¬Own C l σ a) (fun _ z=>z) q
  exact⟨p,rfl,⟨U,L⟩,J ts y _ I r G N it⟩
 | _=>exact r.elim
def QW(lo:Int)(n:Nat):List af:=(eO n).map fun(i:Nat)=>bR (lo+(i:Int))
theorem zot{K:qF}{hd:Option ak}{P O:ak->Prop}{H:Hp}{lo:Int}{m:Nat}:ItOk K hd P O H (Itr lo m) (QW lo m):=by
 intro C I _ _ _;refine⟨fun i t v=>?_,by show m<=(QW lo m).length;simp[QW]⟩
 unfold QW at v;rw[aZ]at v
 by_cases hi:i<m
 ·rw[lI hi]at v;cases v;refine⟨hi,fun x G y=>?_⟩
  obtain⟨rfl,rfl⟩:=y;exact⟨Same.refl _,.int _⟩
 ·rw[bX (by simp;omega)]at v
  cases v
def Zy(d:DTE):DTA:=fun v n R=>d v n fun t l=>match t with|.int j=>(-(2 ^ 62)<=j/\j<2 ^ 62)/\R (QW 0 j.toNat) l|_=>False
theorem ze6(L:X.mg "range" = none) (h:DE X a d) (hg:Gl X "range":=by rfl) (y:starEach [a] X.env=[(false,eval a X.env)]:=by rfl):DI X tg (.Call (.Name "range" p) [a] [] pos) (Zy d):=by
 obtain⟨ta,pa,h⟩:=h;refine⟨_,zlH hg L (QZ pa UM y) y,fun C I σ H n Q R S hd Y=>?_⟩
 refine h C I σ H n _ _ S hd fun t G v U r J Z q=>?_
 cases t with
 | int j =>
  rw[q.intI];exact⟨j,rfl,r.1.1,r.1.2,Y _ G _ U r.2 J Z zot⟩
 | _=>exact r.elim
def forP(g:DTG)(l:DTS)(D:JU):List af->En->Nat->Prop
 | [],ρ,n=>D.nx ρ n
 | t::ts,ρ,n=>g t ρ fun v=>l { D with nx:=forP g l D ts,ct:=forP g l D ts,bk:=D.nx } v n
def sFor(di:DTA)(g:DTG)(y:DTS):DTS:=fun D l n=>di l n fun ts v=>forP g y D ts l v
theorem Ub(hp:mV (model X.prog X.w) X.A X.env X.xe)(hc:X.calm=true)(hi:DI X tg iter di)(hg:DG X tg is g)(hb:DSs X sa t)
  (hs:∀x,foldedSetIterable iter X.env x=pure x:=by intro _;rfl):DS X (.For tg iter sa [] pos) (sFor di g t):=by
 obtain⟨wi,pi,hi⟩:=hi;obtain⟨_,gg,pg,hg⟩:=hg;obtain⟨tb,pb,hb⟩:=hb;refine⟨_,zsg hp hc pi pg pb hs,fun C ρ σ H n D D' S hd gd=>?_⟩
 refine hi C ρ σ H n _ _ S hd fun ts n1 J H1 r e1 hn it=>?_
 have S1:=S.on e1 hn;refine⟨fun i m L H2=>m=ts.length - i/\i<=ts.length/\∃I n2,forP g t D' (ts.drop i) I n2/\Stt X.K C I L H2 n2/\Keep C ρ σ H1 I L H2,⟨ts.length,by simp,dQ _,ρ,n1,by simpa using r,S1,Keep.refl⟩,?_⟩
 rintro i m L H2 ⟨rfl,hi',I,n2,f2,S2,k2⟩;have itq:=it (Own C I L) H2 (fun a o Y no=>(k2 a o Y (fun z=>no (.inl (S.hx a z))) fun z=>no (.inr z)).1) (fun a o Y no z=>z.elim (fun z=>no (.inl z)) fun z=>(k2 a o Y (fun y=>no (.inl (S.hx a y))) fun y=>no (.inr y)).2 z) (fun a=>S2.dom)
 by_cases hlt:i<ts.length
 ·have et:ts[i]?=some ts[i]:=aE hlt;obtain⟨go,yl⟩:=itq.1 i _ et;rw[cu hlt]at f2;refine .inr ⟨go,fun σ' R=>∃G N,forP g t D' (ts.drop (i+1)) G N/\Stt X.K C G σ' R N/\Keep C ρ σ H1 G σ' R,fun σ' R z=>⟨ts.length - (i+1),by omega,rfl,hlt,z⟩,fun x H3 hy=>?_⟩
  obtain⟨sm,rx⟩:=yl x H3 hy;have S3:=S2.on sm.ext (S2.hnd.same sm);have k3:Keep C ρ σ H1 I L H3:=k2.trans (Same.ext sm:ExtE C.hd H2 H3).keep;refine hg C I L H3 n2 x _ _ _ S3 rx f2 fun ρ4 σ4 r4 S4 k4 _ _=>?_
  have k5:=k3.trans k4;refine hb C ρ4 σ4 H3 n2 _ { D' with nx:=forP g t D' (ts.drop (i+1)),ct:=forP g t D' (ts.drop (i+1)),bk:=D'.nx } S4 r4 ⟨fun G σ' R N h' S' U=>⟨G,N,h',S',k5.trans U⟩,fun t N v R h Z U rp=>gd.rt t N v R h Z (fun a o Y nh no=>?_) rp,fun G σ' R N h' S' U=>gd.nx G σ' R N h' S' (e1.keep.trans (k5.trans U)),fun G σ' R N h' S' U=>⟨G,N,h',S',k5.trans U⟩,fun c N R h Z U=>gd.xr c N R h Z fun a o Y nh no=>U a o ((e1.keep.trans k5) a o Y nh no).1 nh ((e1.keep.trans k5) a o Y nh no).2⟩
  obtain⟨q1,q2⟩:=(e1.keep.trans k5) a o Y nh no;exact U a o q1 nh q2
 ·have e:i=ts.length:=by omega
  subst e;rw[gU]at f2;exact .inl ⟨itq.2,gd.nx I L H2 n2 f2 S2 (e1.keep.trans k2)⟩
def J1(N:List Str)(ts:qD):En:=ts.map (fun t=>some (.val t))++bM (N.length - ts.length) none
theorem zg1{K:qF}{hd:Option ak}{O:ak->Prop}{H:Hp}{n:Nat}{N:List Str}{y:List V}{ts:qD}(r:Reps K hd O H y ts)(I:Hn hd H n)(dom:∀a,O a->MutO (H a))(hx:∀a,hd=some a->O a) :
  Stt K ⟨hd,O⟩ (J1 N ts) (start N y) H n/\∀a,¬OwnS (J1 N ts) (start N y) a:=by
 have get:∀(i:Nat) c,(J1 N ts)[i]?=some (some c)->∃t,c=.val t/\ts[i]?=some t:=fun i c h=>by
  unfold J1 at h
  by_cases hi:i<ts.length
  ·rw[cq (by simpa using hi),aZ]at h
   cases e:ts[i]? with
   | none=>rw[e]at h;cases h
   | some t=>rw[e]at h;cases h;exact⟨t,rfl,rfl⟩
  ·rw[cG (by simpa using hi),dF]at h
   split at h <;> cases h
 have no:∀a,¬OwnS (J1 N ts) (start N y) a:=fun a ⟨i,ds,m,G,_⟩=>by
  obtain⟨t,e,_⟩:=get i _ G;subst e;cases m
 refine⟨.mk' (by unfold J1 start;simp[r.length]) (fun i d h=>?_) (fun i ds m h=>?_) (fun i L h=>by obtain⟨t,e,_⟩:=get i _ h;cases e) (fun i j ds es a m _ h=>?_) I dom hx,no⟩
 ·obtain⟨t,e,J⟩:=get i _ h;cases e;obtain⟨v,ev,C⟩:=r.get J;refine⟨v,?_,C.mono (fun a o _ z=>z.elim id fun z=>absurd z (no a)) fun _ _ _ z=>z⟩
  unfold start;have hi:i<y.length:=by
   rcases bE i y.length with z|z
   ·exact z
   ·rw[bX z]at ev;cases ev
  rw[cq (by simpa using hi),aZ,ev];rfl
 ·obtain⟨t,e,_⟩:=get i _ h;subst e;cases m
 ·obtain⟨t,e,_⟩:=get i _ h;subst e;cases m
end
end L2
namespace Bd
open PySem L2 PyProof.Rows
theorem Def.okD{P:aI}{w:aU}{K:qF}{mg:qM}{base:aS}{x:Str}{st:dg}{ps N:List Str}{f:ak}{fd:cK}{k m:Nat}{g:GD}(D:Def K mg x st ps f fd)(S:Ur N ps (JH st))(hm:m=ps.length)
  (hb:∀(l:ah) (A:bw) (outer:List Env) (s:au) (H:Hp) (E:XK),Room k (A.deeper (envOfC x (JH st) s.heap.objs.size f l))->∃d,DSs (cxOf CX0 P w K mg base N x (JH st) f l A outer s H E).nox (Qj st) d /\
   ∀ts n R,ts.length=m->g ts n R->d { nx:=fun _ u=>R .none u,rt:=R } (J1 N ts) n):FnOk P w K mg base CX0 (k+1) f fd ps (spD K m g):=by
 refine D.F.ok S (fun vs H Q E h=>?_) (fun l A outer s H vs Q E hr h=>?_)
 ·obtain⟨hd,O,ts,n,R,r,_,_,_,y,_⟩:=h;rw[r.length,y,hm]
 ·obtain⟨hd,O,ts,n,R,r,hn,dom,hx,y,hg,Y⟩:=h;obtain⟨d,⟨t,pt,Z⟩,G⟩:=hb l A outer s H E hr;obtain⟨S0,no⟩:=zg1 (N:=N) r hn dom hx;refine⟨t,pt,Z ⟨hd,O⟩ _ _ H n _ _ S0 (G ts n R y hg) ⟨fun ρ' σ' I u h S' C=>?_,fun t u v I h U C rp=>?_,fun _ _ _ _ h=>h.elim,fun _ _ _ _ h=>h.elim,fun _ _ _ h=>h.elim⟩⟩
  ·exact Y .none u .non I h (fun a o J L=>(C a o J L (no a)).1) S'.hnd .non
  ·exact Y t u v I h (fun a o J L=>C a o J L (no a)) U rp
end Bd
namespace L2
open PySem PySem.Spec PyProof.Rows
def DTs(Y:Cx)(ifs:List aT)(d:DTT):Prop:=∃u,PTs Y ifs u/\∀(C:Ctx) (x:En) (σ:St) (H:Hp) (n:Nat) (Q:Bool->Hp->Prop) (R:Bool->Nat->Prop),Stt Y.K C x σ H n->d x n R ->
 (∀b v l,R b v->ExtE C.hd H l->Hn C.hd l v->Q b l)->u σ H Q
def dYes:DTT:=fun _ n R=>R true n
section
variable{Y:Cx}{c:aT}{d:DTT}
theorem Y5:DTs Y [] dYes:=⟨_,zpL,fun C u σ H n Q R S h l=>l true n H h ExtE.refl S.hnd⟩
theorem UO(h:DT Y c d):DTs Y [c] d:=by
 obtain⟨l,p,h⟩:=h;exact⟨_,zpK p,h⟩
end
theorem DE.uni{J:Type}{Xf:J->Cx}{K:qF}(G:∀i,(Xf i).K=K){e:aT}{d:DTE}(h:∀i,DE (Xf i) e d):∃y:TE,(∀i,PE (Xf i) e y)/\∀(C:Ctx) (u:En) (σ:St) (H:Hp) (n:Nat) (Q:VK) (R:qN),Stt K C u σ H n->d u n R ->
  (∀t x v l,R t x->ExtE C.hd H l->Hn C.hd l x->Rep K C.hd (Own C u σ) l v t->Q v l)->y σ H Q:=by
 refine⟨fun σ H Q=>∀i,(gV (h i)) σ H Q,fun i pins s σ H Q I hw=>(cB (h i)).1 pins s σ H Q I (hw i),fun C u σ H n Q R S hd L i=>?_⟩
 have:=(cB (h i)).2 C u σ H n Q R;exact this (by rw[G i];exact S) hd fun t x v l r e h q=>L t x v l r e h (by rw[<- G i];exact q)
theorem DTs.uni{y:Type}{Xf:y->Cx}{K:qF}(J:∀i,(Xf i).K=K){e:List aT}{d:DTT}(h:∀i,DTs (Xf i) e d):∃x:TT,(∀i,PTs (Xf i) e x)/\∀(C:Ctx) (l:En) (σ:St) (H:Hp) (n:Nat) (Q:Bool->Hp->Prop) (R:Bool->Nat->Prop),Stt K C l σ H n->d l n R ->
  (∀b v u,R b v->ExtE C.hd H u->Hn C.hd u v->Q b u)->x σ H Q:=by
 refine⟨fun σ H Q=>∀i,(gV (h i)) σ H Q,fun i pins s σ H Q I hw=>(cB (h i)).1 pins s σ H Q I (hw i),fun C l σ H n Q R S hd G i=>?_⟩
 have:=(cB (h i)).2 C l σ H n Q R;exact this (by rw[J i];exact S) hd G
theorem DG.uni{J:Type}[Nonempty J]{Xf:J->Cx}{K:qF}(y:∀i,(Xf i).K=K){e:aT}{is:List Nat}{d:DTG}(h:∀i,DG (Xf i) e is d):∃G:TG,(∀i,PG (Xf i) e G)/\∀(C:Ctx) (x:En) (σ:St) (H:Hp) (n:Nat) (v:V) (t:af) (Q:St->Hp->Prop) (R:En->Prop),Stt K C x σ H n->Rep K C.hd (Own C x σ) H v t->d t x R ->
  (∀l σ',R l->Stt K C l σ' H n->Keep C x σ H l σ' H->(∀j,j∉is->σ'[j]?=σ[j]?)->σ'.length=σ.length->Q σ' H)->G v σ H Q:=by
 refine⟨fun v σ H Q=>∀i,(gV (h i).2) v σ H Q,fun i pins s σ H v u Q I r hw=>(cB (h i).2).1 pins s σ H v u Q I r (hw i),fun C x σ H n v t Q R S r hd N i=>?_⟩
 have:=(cB (h i).2).2 C x σ H n v t Q R;exact this (by rw[y i];exact S) (by rw[y i];exact r) hd fun l σ' U L=>N l σ' U (by rw[<- y i];exact L)
theorem Wk.of:∀{σ σ':St},σ.length=σ'.length->(∀(i:Nat) v,σ[i]?=some (some v)->σ'[i]?=some (some v))->Wk σ σ'
 | [],[],_,_=>trivial
 | [],_::_,h,_=>by simp at h
 | _::_,[],h,_=>by simp at h
 | none::r,o::r',h,k=>Wk.of (σ:=r) (σ':=r') (by simpa using h) fun i v e=>by simpa using k (i+1) v (by simpa using e)
 | some w::r,o::r',h,k=>⟨by simpa using k 0 w rfl,Wk.of (by simpa using h) fun i v e=>by simpa using k (i+1) v (by simpa using e)⟩
def capV:Option Cell->Option Cell
 | some (.val d)=>some (.val d)
 | some (.dct ks)=>some (.rdo ks)
 | some (.rdo ks)=>some (.rdo ks)
 | _=>none
def JB(m:Nat)(capt:List Nat)(l:En):En:=bM m none++capt.map fun i=>capV (l.getD i none)
def JQ(g:DTG)(tt:DTT)(u:DTE)(ρ0:En):List af->List af->Nat->(List af->Nat->Prop)->Prop
 | [],acc,n,R=>R acc n
 | x::xs,acc,n,R=>g x ρ0 fun l=>tt l n fun b v=>if b=true then u l v fun t y=>acc.length<16777216/\JQ g tt u ρ0 xs (acc++[t]) y R else JQ g tt u ρ0 xs acc v R
def dComp(m:Nat)(capt:List Nat)(v:DTA)(g:DTG)(tt:DTT)(x:DTE):DTA:=fun l n R=>v l n fun ts u=>JQ g tt x (JB m capt l) ts [] u R
theorem zoX{own:List Str}{capt is:List Nat}{σ u:St}(x:∀i∈is,i<own.length)(y:∀j,j∉is->u[j]?=(Jw own++capS capt σ)[j]?){j:Nat}{v:V}(l:(Jw own++capS capt σ)[j]?=some (some v)):u[j]?=some (some v):=by
 by_cases hjo:j<own.length
 ·rw[cq (by simpa using hjo),aZ]at l
  cases z:own[j]? with
  | none=>rw[z]at l;cases l
  | some q=>rw[z]at l;cases l
 ·rw[y j (fun z=>hjo (x j z))];exact l
theorem ExtE.updR{hd:Option ak}{l x:Hp}{D:ak}{o:HO}(C:l D=none)(e:ExtE hd l x):ExtE hd l (upd x D o):=fun a u v y=>by
 rw[Js (QF v C)];exact e a u v y
theorem Hn.updR{hd:Option ak}{v:Hp}{D:ak}{o:HO}{n:Nat}(l:hd≠some D)(h:Hn hd v n):Hn hd (upd v D o) n:=fun a u=>by
 obtain⟨d,m,t,q,rest⟩:=h a u;exact⟨d,m,t,by rw[Js (show a≠D from fun z=>l (by rw[<- z];exact u))];exact q,rest⟩
section
variable{X:Cx}{scope:fc}{own:List Str}{capt:List Nat}{elt tg iter:aT}{ifs:List aT}{pos:Pos}{di:DTA}{is:List Nat}{g:DTG}{tt:DTT}{te:DTE}
theorem zgD{x:En}{i:Nat}{c:Cell}(h:capV (x.getD i none)=some c):(∃d,c=.val d/\x[i]?=some (some (.val d)))\/∃u,c=.rdo u/\(x[i]?=some (some (.dct u))\/x[i]?=some (some (.rdo u))):=by
 rw[bh]at h;cases e:x[i]? with
 | none=>rw[e]at h;cases h
 | some o =>
  rw[e]at h;cases o with
  | none=>cases h
  | some y =>
   cases y with
   | val d'=>simp[capV]at h;exact .inl ⟨d',h.symm,rfl⟩
   | own _=>simp[capV]at h
   | dct u=>simp[capV]at h;exact .inr ⟨u,h.symm,.inl rfl⟩
   | dtt u=>simp[capV]at h
   | rdo u=>simp[capV]at h;exact .inr ⟨u,h.symm,.inr rfl⟩
theorem zm3{K:qF}{C:Ctx}{u:En}{σ:St}{H L:Hp}{n n2:Nat}{D:ak}(S:Stt K C u σ H n)(e:ExtE C.hd H L)(hn:Hn C.hd L n2)(hD:H D=none)(hy:MutO (L D)) :
  Stt K ⟨C.hd,fun a=>Own C u σ a\/a=D⟩ (JB own.length capt u) (Jw own++capS capt σ) L n2/\∀a,¬OwnS (JB own.length capt u) (Jw own++capS capt σ) a:=by
 have get:∀(i:Nat) c,(JB own.length capt u)[i]?=some (some c)->∃j,capV (u.getD j none)=some c/\own.length<=i/\capt[i - own.length]?=some j:=fun i c h=>by
  unfold JB at h
  by_cases hi:i<own.length
  ·rw[cq (by simpa using hi),dF]at h
   split at h <;> cases h
  ·rw[cG (by simpa using hi),gT,aZ]at h
   cases ej:capt[i - own.length]? with
   | none=>rw[ej]at h;cases h
   | some j =>
    rw[ej]at h;exact⟨j,by simpa using h,by omega,rfl⟩
 have slot:∀(i j:Nat) (v:V),own.length<=i->capt[i - own.length]?=some j->σ[j]?=some (some v)->(Jw own++capS capt σ)[i]?=some (some v):=fun i j v hi J x=>by
  rw[cG (by simpa using hi)]
  simp only[aM,aZ,J,gp];rw[bh,x];rfl
 have nm:∀(i:Nat) (c:Cell),c.mine=true->(JB own.length capt u)[i]?=some (some c)->False:=fun i c m h=>by
  obtain⟨j,U,_⟩:=get i c h;rcases zgD U with⟨d,rfl,_⟩|⟨N,rfl,_⟩ <;> cases m
 have no:∀a,¬OwnS (JB own.length capt u) (Jw own++capS capt σ) a:=fun a ⟨i,c,m,x,_⟩=>nm i c m x
 have S2:=S.on e hn;have sub:∀a o,H a=some o->Own ⟨C.hd,fun a=>Own C u σ a\/a=D⟩ (JB own.length capt u) (Jw own++capS capt σ) a->Own C u σ a:=fun a o y z=>by
  rcases z with z|z
  ·rcases z with z|z
   ·exact z
   ·subst z;rw[hD]at y;cases y
  ·exact absurd z (no a)
 have kp:∀a o,¬Own C u σ a->H a=some o->L a=some o:=fun a o nO y=>e a o y fun z=>nO (.inl (S.hx a z))
 refine⟨.mk' (by unfold JB;simp) (fun i d h=>?_) (fun i ds m h=>(nm i _ m h).elim) (fun i N h=>?_) (fun i j ds es a m _ h=>(nm i _ m h).elim) hn (fun a y=>?_) (fun a y=>.inl (.inl (S.hx a y))),no⟩
 ·obtain⟨j,U,hi,J⟩:=get i _ h;rcases zgD U with⟨d',z,G⟩|⟨N,z,_⟩
  ·cases z;obtain⟨v,x,R⟩:=S.val j d G;exact⟨v,slot i j v hi J x,R.mono sub kp⟩
  ·cases z
 ·obtain⟨j,U,hi,J⟩:=get i _ h;rcases zgD U with⟨d',z,G⟩|⟨ks',z,G⟩
  ·cases z
  ·cases z;rcases G with G|G
   ·obtain⟨a,I,x,R,Z,h4⟩:=S.dct j N G;have Y:C.hd≠some a:=fun z=>h4 (S.hx a z)
    exact⟨a,I,slot i j _ hi J x,e a _ R Y,Z.mono sub kp,.inl (.inr ⟨j,.dct N,rfl,G,x⟩),Y⟩
   ·obtain⟨a,I,x,R,Z,h4,Y⟩:=S.rdo j N G;exact⟨a,I,slot i j _ hi J x,e a _ R Y,Z.mono sub kp,.inl (.inl h4),Y⟩
 ·rcases y with y|rfl
  ·exact S2.lst y
  ·exact hy
theorem zj7{K:qF}{C:Ctx}{v:En}{σ:St}{H u:Hp}{n x:Nat}{D:ak}{ys:List V}(S:Stt K C v σ H n)(e:ExtE C.hd H u)(G:Hn C.hd u x)(I:H D=none)(y:u D=some (.lst ys)) :
  Stt K ⟨C.hd,fun a=>Own C v σ a\/a=D⟩ (JB own.length capt v) (Jw own++capS capt σ) u x/\∀a,¬OwnS (JB own.length capt v) (Jw own++capS capt σ) a:=zm3 S e G I (.inl ⟨_,y⟩)
def zuA(K:qF)(te:TE)(d:DTA):Prop:=∀(C:Ctx) (v:En) (σ:St) (H:Hp) (n:Nat) (Q:VK) (R:List af->Nat->Prop),Stt K C v σ H n->d v n R ->
 (∀ts x p y u,R ts x->ExtE C.hd H u->Hn C.hd u x->H p=none->u p=some (.lst y)->Reps K C.hd (fun a=>Own C v σ a\/a=p) u y ts->Q (.ref p) u)->te σ H Q
theorem zh6(hi:DIL X tg iter di)
  (hg:∀C s₀ H₀ u,DG (Jm X scope own capt C s₀ H₀ u) tg is g) (hin:∀i∈is,i<own.length) (ht:∀C s₀ H₀ u,DTs (Jm X scope own capt C s₀ H₀ u) ifs tt) (he:∀C s₀ H₀ u,DE (Jm X scope own capt C s₀ H₀ u) elt te) :
  ∃(wi:TI) (gg:TG) (gt:TT) (ge:TE),PI X tg iter wi/\(∀C s₀ H₀ u,PG (Jm X scope own capt C s₀ H₀ u) tg gg)/\(∀C s₀ H₀ u,PTs (Jm X scope own capt C s₀ H₀ u) ifs gt)/\(∀C s₀ H₀ u,PE (Jm X scope own capt C s₀ H₀ u) elt ge)/\zuA X.K (tComp own capt wi gg gt ge) (dComp own.length capt di g tt te):=by
 obtain⟨wi,pi,hi⟩:=hi
 let Xf:(ak×au×Hp×List ak)->Cx:=fun q=>Jm X scope own capt q.1 q.2.1 q.2.2.1 q.2.2.2
 have hK:∀q,(Xf q).K=X.K:=fun _=>rfl
 have hne:Nonempty (ak×au×Hp×List ak):=⟨(0,X.s₀,X.H₀,[])⟩;obtain⟨gg,pg,hgg⟩:=DG.uni (Xf:=Xf) hK fun q=>hg q.1 q.2.1 q.2.2.1 q.2.2.2
 obtain⟨gt,pt,hgt⟩:=DTs.uni (Xf:=Xf) hK fun q=>ht q.1 q.2.1 q.2.2.1 q.2.2.2
 obtain⟨ge,pe,hge⟩:=DE.uni (Xf:=Xf) hK fun q=>he q.1 q.2.1 q.2.2.1 q.2.2.2
 refine⟨wi,gg,gt,ge,pi,(fun C s₀ H₀ u=>pg (C,s₀,H₀,u)),(fun C s₀ H₀ u=>pt (C,s₀,H₀,u)),(fun C s₀ H₀ u=>pe (C,s₀,H₀,u)),fun C N σ H n Q R St hd hq=>?_⟩
 refine hi C N σ H n _ _ St hd fun ts n1 J H1 r e1 hn it=>fun D G=>?_
 have St1:=St.on e1 hn;have hD:H D=none:=VZ e1 hn G;have nhd:C.hd≠some D:=fun z=>St.dom (.inl (St.hx D z)) hD
 refine zm6 (n:=ts.length) (fun i ys S=>∃y n2,JQ g tt te (JB own.length capt N) (ts.drop i) y n2 R/\Reps X.K C.hd (fun a=>Own C N σ a\/a=D) S ys y/\ExtE C.hd H1 S/\Hn C.hd S n2)
  ⟨[],n1,by simpa using r,.nil,ExtE.new G,hn.same (JP G)⟩ ?_ ?_
 ·rintro i ys S hlt hy ⟨y,n2,c2,r2,Y,L⟩;have et:ts[i]?=some ts[i]:=aE hlt;rw[cu hlt]at c2;have Z:=it (fun a=>Own C N σ a\/a=D) S (fun a o I nh=>Y a o I nh) (fun a o I no z=>z.elim no fun z=>by subst z;rw[G]at I;cases I) (fun a z=>z.elim (fun z=>(St1.on Y L).dom z) fun z=>by subst z;rw[hy];exact fun z=>by cases z)
  obtain⟨go,yl⟩:=Z.1 i _ et;refine⟨go,fun x H3 hyd=>?_⟩
  obtain⟨U,rx⟩:=yl x H3 hyd;have hn3:=L.same U;have e3:ExtE C.hd H1 H3:=Y.trans U.ext;obtain⟨I3,no3⟩:=zj7 (own:=own) (capt:=capt) (D:=D) (ys:=ys) St (e1.trans e3) hn3 hD (U _ _ hy);have rx':Rep X.K C.hd (Own ⟨C.hd,fun a=>Own C N σ a\/a=D⟩ (JB own.length capt N) (Jw own++capS capt σ)) H3 x ts[i]:=rx.mono (fun a o _ z=>z.elim id fun z=>absurd z (no3 a)) fun _ _ _ z=>z
  refine hgg ⟨C.hd,fun a=>Own C N σ a\/a=D⟩ (JB own.length capt N) (Jw own++capS capt σ) H3 n2 x ts[i] _ _ I3 rx' c2 fun ρ4 σ4 r4 S4 k4 hj hl=>⟨Wk.of hl.symm fun j v ej=>zoX hin hj ej,?_⟩
  ·refine hgt _ ρ4 σ4 H3 n2 _ _ S4 r4 fun b n5 H5 r5 e5 hn5=>?_
   have S5:=S4.on e5 hn5;have hy5:H5 D=some (.lst ys):=e5 D _ (U _ _ hy) nhd;have r25:∀{H6},ExtE C.hd S H6->Reps X.K C.hd (fun a=>Own C N σ a\/a=D) H6 ys y:=fun e=>r2.mono (fun _ _ _ z=>z) fun a o no I=>e a o I fun z=>no (.inl (.inl (St.hx a z)))
   cases b with
   | false =>
    refine iteF ⟨ys,hy5,y,n5,by simpa using r5,r25 ((Same.ext U).trans e5),e3.trans e5,hn5⟩
   | true =>
    refine iteT (hge _ ρ4 σ4 H5 n5 _ _ S5 (by simpa using r5) fun t n6 v H6 r6 e6 hn6 q6=>?_)
    have hy6:H6 D=some (.lst ys):=e6 D _ hy5 nhd;have rl:=(r25 ((Same.ext U).trans (e5.trans e6))).length;refine⟨ys,hy6,by rw[rl];exact r6.1,y++[t],n6,r6.2,?_,?_,?_⟩
    ·have q6':Rep X.K C.hd (fun a=>Own C N σ a\/a=D) H6 v t:=q6.mono (fun _ _ _ z=>.inl z) fun _ _ _ z=>z
     have all:=(r25 ((Same.ext U).trans (e5.trans e6))).append (Reps.cons q6' .nil);exact all.mono (fun _ _ _ z=>z) fun a o no I=>by rw[Js (show a≠D from fun z=>no (.inr z))];exact I
    ·exact ExtE.updR G (e3.trans (e5.trans e6))
    ·exact Hn.updR nhd hn6
 ·rintro ys S hy ⟨y,n2,c2,r2,Y,L⟩;rw[gU]at c2;have Z:=it (fun a=>Own C N σ a\/a=D) S (fun a o I nh=>Y a o I nh) (fun a o I no z=>z.elim no fun z=>by subst z;rw[G]at I;cases I) (fun a z=>z.elim (fun z=>(St1.on Y L).dom z) fun z=>by subst z;rw[hy];exact fun z=>by cases z)
  exact⟨Z.2,hq y n2 D ys S c2 (e1.trans Y) L hD hy r2⟩
theorem zmP(hc:X.calm=true)(S:JJ scope own capt X)(hi:DIL X tg iter di)
  (I:∀C s₀ H₀ l,DG (Jm X scope own capt C s₀ H₀ l) tg is g) (u:∀i∈is,i<own.length) (y:∀C s₀ H₀ l,DTs (Jm X scope own capt C s₀ H₀ l) ifs tt) (J:∀C s₀ H₀ l,DE (Jm X scope own capt C s₀ H₀ l) elt te)
  (G:∀x,foldedSetIterable iter X.env x=pure x:=by intro _;rfl):DN X (.ListComp elt [⟨tg,iter,ifs,0⟩] scope pos) (dComp own.length capt di g tt te):=by
 obtain⟨N,R,gt,ge,a,b,c,d,v⟩:=zh6 hi I u y J;exact⟨_,zn4 hc S a b c d G,v⟩
def DNA(X:Cx)(x:Str)(l:Pos)(e:aT)(pos:Pos)(i:Nat)(d:DTA):Prop:=∃te,PS X (.Assign [.Name x l] e pos) (tAsg te (ZA i))/\zuA X.K te d
theorem Vf{x:Str}{u J:Pos}{i:Nat}(Y:X.N.Nodup)(G:X.N[i]?=some x)(hx:Loc X.env.scope x)(hc:X.calm=true)(S:JJ scope own capt X)(hi:DIL X tg iter di)
  (hg:∀C s₀ H₀ v,DG (Jm X scope own capt C s₀ H₀ v) tg is g) (y:∀i∈is,i<own.length) (U:∀C s₀ H₀ v,DTs (Jm X scope own capt C s₀ H₀ v) ifs tt) (he:∀C s₀ H₀ v,DE (Jm X scope own capt C s₀ H₀ v) elt te)
  (Z:∀x,foldedSetIterable iter X.env x=pure x:=by intro _;rfl) (I:swapsWith (.ListComp elt [⟨tg,iter,ifs,0⟩] scope pos) (some (.Name x u)) J.line X.env=pure true:=by rfl)
  (hf:X.fn x=true\/X.env.scope.names.lookup x=some .local:=by walk_at "F") :
  DNA X x u (.ListComp elt [⟨tg,iter,ifs,0⟩] scope pos) J i (dComp own.length capt di g tt te):=by
 obtain⟨wi,gg,gt,ge,a,b,c,d,R⟩:=zh6 hi hg y U he;exact⟨_,zlD hc S a b c d Y G hx Z I hf,R⟩
theorem Ve{x:Str}{v y:Pos}{e:aT}{i:Nat}{d:DTA}(h:DNA X x v e y i d):DS X (.Assign [.Name x v] e y) (sSet i (dNew d)):=by
 obtain⟨ta,pa,h⟩:=h;refine⟨_,pa,fun C L σ H n D D' S hd g=>?_⟩
 refine h C L σ H n _ _ S hd fun ts I p vs R r G U J Y Z=>?_
 exact g.nx _ _ R I r ((S.on G U).put (.lst Y (S.free J|> fun z=>z) (Z.mono (fun _ _ _ z=>.inl z) fun _ _ _ z=>z))) (G.keep.trans Ud)
end
def VE(K:qF):Sp:=fun u H Q _=>∃(a:ak) (ns:List Int) (k:Int),u=[.ref a,.int k]/\SqL K H a (ns.map V.int)/\ns.length<=63/\0<=k/\k<=100 /\
 ∀hd l,H hd=none->Vy l hd 0->Same H l->Q (.ref hd) l
def zuz(hd:ak)(H l:Hp):Prop:=∀b o,H b=some o->b≠hd->l b=some o
def zo2:Sp:=fun l H Q _=>∃(hd:ak) (many n:Int),l=[.ref hd,.int many]/\Vy H hd n/\n<=1000000000000/\0<many/\many<2 ^ 128 /\
 ∀(r:Int) H',0<=r->r<many->Vy H' hd (n+1)->zuz hd H H'->Q (.int r) H'
def U3:GD:=fun ts n R=>match ts with
 | [h,.int many]=>h=HAND/\0<many/\many<2 ^ 128/\n<=1000000000000/\∀r:Int,0<=r->r<many->R (.int r) (n+1)
 | _=>False
theorem znJ{K:qF}(v:List V)(H:Hp)(Q:VK)(E:XK)(h:spD K 2 U3 v H Q E):zo2 v H Q E:=by
 obtain⟨hd,O,ts,n,R,r,N,dom,hx,hl,g,L⟩:=h;unfold U3 at g;split at g
 ·rename_i x many;obtain⟨rfl,m0,I,S,g⟩:=g;cases r with
  | cons Y r =>
   cases r with
   | cons C r =>
    cases r;obtain⟨a,rfl,l⟩:=Y.handI;rw[C.intI];refine⟨a,many,n,rfl,N a l,by omega,m0,I,fun q J Z y x G=>?_⟩
    refine L _ (n+1) _ J (g q Z y) (fun b o U nb=>G b o U fun z=>nb (by rw[l,z])) (fun b u=>?_) (.int _)
    rw[l]at u;cases u;exact x
 ·exact g.elim
def zrN:Option (Option Cell)->(List af->Prop)->Prop
 | some (some (.val (.dict [(.none,.list ts)]))),R=>R ts
 | _,_=>False
def JM(u:En):En:=match (u[(0:Nat)]?:Option (Option Cell)) with
 | some (some (.val (.dict [(.none,.list ts)])))=>some (.val (.dict [(.none,.list ts)]))::bM (u.length - 1) none
 | _=>bM u.length none
def intOf:Option (Option Cell)->(Int->Prop)->Prop
 | some (some (.val (.int k))),R=>R k
 | _,_=>False
def Yl(i j:Nat)(u:DTS):DTS:=fun D y n=>zrN y[0]? fun ts=>intOf y[j]? fun k=>(∃ns:List Int,ts=ns.map bR/\ns.length<=63)/\0<=k/\k<=100 /\
 u { nx:=fun x _=>D.nx (JM x) n,rt:=fun t _=>∃b,t=.bool b/\D.rt t n,bk:=fun x _=>D.bk (JM x) n,ct:=fun x _=>D.ct (JM x) n } (((JM y).set j (some (.val (.int k)))).set i (some (.val HAND))) 0
theorem U8(h:(JM ρ)[i]?=some (some c)):i=0/\ρ[0]?=some (some c)/\∃ts,c=.val (.dict [(.none,.list ts)]):=by
 unfold JM at h;split at h
 ·rename_i ts e;cases i with
  | zero=>simp at h;subst h;exact⟨rfl,e,ts,rfl⟩
  | succ i =>
   rw[cV,dF]at h;split at h <;> cases h
 ·rw[dF]at h;split at h <;> cases h
theorem zoL:(JM ρ).length=ρ.length:=by
 unfold JM;split
 ·rename_i ts e;cases ρ with
  | nil=>simp at e
  | cons a r=>simp
 ·simp
theorem zgF:¬OwnS (JM ρ) σ a:=fun⟨i,ds,m,h,_⟩=>by
 obtain⟨_,_,ts,e⟩:=U8 h;subst e;cases m
theorem Rep.scrHd{K:qF}{hd G:Option ak}{O I:ak->Prop}{H J:Hp}{v:V}{ts:qD}(h:Rep K hd O H v (.dict [(.none,.list ts)]))(C:∀a o,H a=some o->¬O a->J a=some o/\¬I a):Rep K G I J v (.dict [(.none,.list ts)])/\∃ns:List Int,ts=ns.map bR:=by
 generalize e:(uA [(kX,uB ts)])=t at h;cases h with
 | @scr a ns x o =>
  have y:ts=ns.map bR:=by simpa[SCR] using e
  subst y;refine⟨?_,ns,rfl⟩;rcases x with x|⟨u,x⟩
  ·exact .scr (.inl (C a _ x o).1) (C a _ x o).2
  ·exact .scr (.inr ⟨u,(C a _ x o).1⟩) (C a _ x o).2
 | @scrS a ns x =>
  have y:ts=ns.map bR:=by simpa[SCR] using e
  subst y;exact⟨.scrS x,ns,rfl⟩
 | hand _=>simp[HAND]at e
 | dct _ _=>cases e
 | dcK _ _ _ y=>cases e;exact(dict_noK y).elim
 | dcT _ _ _ y=>cases e;exact(dict_noT y).elim
 | _=>cases e
theorem Stt.drop{K:qF}{C y:Ctx}{u:En}{σ:St}{H l:Hp}{n x:Nat}(S:Stt K y u σ H n)(R:Hn C.hd l x)(J:∀a,C.ext a->MutO (l a))(hx:∀a,C.hd=some a->C.ext a)
  (I:∀a o,H a=some o->¬Own y u σ a->l a=some o/\¬C.ext a):Stt K C (JM u) σ l x where
 len:=by rw[zoL];exact S.len
 val:=fun i d h=>by
  obtain⟨rfl,Y,ts,U⟩:=U8 h;cases U;obtain⟨v,N,L⟩:=S.val 0 _ Y;exact⟨v,N,(L.scrHd fun a o G no=>⟨(I a o G no).1,fun z=>z.elim (I a o G no).2 zgF⟩).1⟩
 own:=fun i ds h=>by
  obtain⟨_,_,ts,e⟩:=U8 h;cases e
 dct:=fun i ds h=>by
  obtain⟨_,_,ts,e⟩:=U8 h;cases e
 rdo:=fun i ds h=>by
  obtain⟨_,_,ts,e⟩:=U8 h;cases e
 dtt:=fun i ds h=>by
  obtain⟨_,_,ts,e⟩:=U8 h;cases e
 dif:=fun i j ds Z a m _ h=>by
  obtain⟨_,_,ts,e⟩:=U8 h;subst e;cases m
 hnd:=R
 ext:=J
 hx:=hx
section
variable{X:Cx}{st:dg}{sts:List dg}{ps:List Str}{f:ak}{fd:cK}{u:DTS}{x s kx hx:Str}{pos pos' p p1 p2 p3:Pos}{k:Nat}
theorem zoJ{i j:Nat}(D:Bd.Def X.K X.mg hx st ps f fd)(G:FnOk X.prog X.w X.K X.mg X.base CX0 k f fd ps (VE X.K))(hr:Room k X.A)(hN:X.N.Nodup)(hi:X.N[i]?=some x)(hlx:Loc X.env.scope x)(hu:DSs X sts u)(hij:i≠0:=by decide)(hj0:j≠0:=by decide)(hji:j≠i:=by decide)
  (h0:X.N[0]?=some s:=by rfl) (hj:X.N[j]?=some kx:=by rfl) (hv0:Vis X.env.scope s:=by walk_at "V") (hvj:Vis X.env.scope kx:=by walk_at "V")
  (hd0:(s == ("__debug__":Str))=false:=by rfl) (Iy:(s == ("__classdict__":Str))=false:=by rfl) (hdj:(kx == ("__debug__":Str))=false:=by rfl) (Iz:(kx == ("__classdict__":Str))=false:=by rfl) (hg:Gl X hx:=by rfl) (hdb:(hx == ("__debug__":Str))=false:=by rfl)
  (hs:swapsWith (.Call (.Name hx p) [.Name s p1,.Name kx p2] [] p3) (some (.Name x pos')) pos.line X.env=pure false:=by rfl) (hf:X.fn x=true\/X.env.scope.names.lookup x=some .local:=by walk_at "F") :
  DSs X (.Assign [.Name x pos'] (.Call (.Name hx p) [.Name s p1,.Name kx p2] [] p3) pos::sts) (Yl i j u):=by
 obtain⟨tu,pu,hu⟩:=hu;refine⟨_,QH (QK hN hi hlx (Bd.zpU D G hr (Qg (Q8 h0 hv0 hd0 Iy) (Qg (Q8 hj hvj hdj Iz) QD rfl) rfl) hg hdb) hs hf) pu,fun C ρ σ H n Dn D' S hd g=>?_⟩
 unfold Yl zrN at hd;split at hd
 ·rename_i ts e0;unfold intOf at hd;split at hd
  ·rename_i R ej;obtain⟨⟨ns,rfl,hl⟩,k0,k1,hd⟩:=hd;obtain⟨v0,s0,r0⟩:=S.val 0 _ e0;obtain⟨vj,sj,rj⟩:=S.val j _ ej;obtain⟨a0,rfl,sq0⟩:=r0.scrI;rw[rj.intI]at sj;refine⟨_,s0,_,sj,?_⟩;refine⟨a0,ns,R,rfl,sq0,hl,k0,k1,fun h H1 Z hok U=>?_⟩
   have S1:=S.on (Same.ext U:ExtE C.hd H H1) (S.hnd.same U);have nx:¬Own C ρ σ h:=fun z=>S.dom z Z
   have Sd:Stt X.K ⟨some h,fun a=>C.ext a\/a=h⟩ (JM ρ) σ H1 0:=S.drop (fun a ea=>by cases ea;exact hok) (fun a z=>z.elim (fun z=>S1.ext a z) fun z=>by subst z;obtain⟨_,_,_,q,_⟩:=hok;exact .inl ⟨_,q⟩) (fun a ea=>.inr (by cases ea;rfl))
    (fun a o J no=>⟨U a o J,fun z=>z.elim (fun z=>no (.inl z)) fun z=>by subst z;rw[Z]at J;cases J⟩)
   have Sd2:=(Sd.put (i:=j) (t:=.int R) (v:=.int R) (.int R)).put (i:=i) (t:=HAND) (v:=.ref h) (.hand rfl);have IA:∀a,¬OwnS (((JM ρ).set j (some (.val (.int R)))).set i (some (.val HAND))) ((σ.set j (some (.int R))).set i (some (.ref h))) a:=fun a z=>zgF (V9 (V9 z))
   have es:(σ.set j (some (V.int R)))=σ:=by
    apply mH
    intro q
    by_cases z:j=q
    ·subst z;have:j<σ.length:=by
      rcases bE j σ.length with w|w
      ·exact w
      ·rw[bX w]at sj;cases sj
     rw[zlm this,sj]
    ·rw[aQ z]
   rw[es]at Sd2 IA;refine hu _ _ _ H1 0 _ _ Sd2 hd ?_;have back:∀{y σ' I n'},Stt X.K ⟨some h,fun a=>C.ext a\/a=h⟩ y σ' I n'->(∀a o,H1 a=some o->some h≠some a->I a=some o)->Stt X.K C (JM y) σ' I n:=fun {y σ' I n'} S' kp =>
    S'.drop (fun a ea=>by
      obtain⟨d,m,t,q,rest⟩:=S.hnd a ea;exact⟨d,m,t,kp a _ (U _ _ q) (fun z=>by cases z;rw[Z]at q;cases q),rest⟩)
     (fun a z=>by
      rcases S.ext a z with⟨xs,q⟩|⟨xs,q⟩|⟨b,xs,ep,q⟩
      ·exact .inl ⟨xs,kp a _ (U _ _ q) (fun z=>by cases z;rw[Z]at q;cases q)⟩
      ·exact .inr (.inl ⟨xs,kp a _ (U _ _ q) (fun z=>by cases z;rw[Z]at q;cases q)⟩)
      ·exact .inr (.inr ⟨b,xs,ep,kp a _ (U _ _ q) (fun z=>by cases z;rw[Z]at q;cases q)⟩)) S.hx (fun a o J no=>⟨J,fun z=>no (.inl (.inl z))⟩)
   have Y:∀{y σ' I},Keep ⟨some h,fun a=>C.ext a\/a=h⟩ (((JM ρ).set j (some (.val (.int R)))).set i (some (.val HAND))) (σ.set i (some (.ref h))) H1 y σ' I->∀a o,H1 a=some o->some h≠some a->I a=some o:=fun k a o J na=>(k a o J na (IA a)).1
   have kp2:∀{y σ' I},Keep ⟨some h,fun a=>C.ext a\/a=h⟩ (((JM ρ).set j (some (.val (.int R)))).set i (some (.val HAND))) (σ.set i (some (.ref h))) H1 y σ' I->Keep C ρ σ H (JM y) σ' I:=fun k a o J _ _=>⟨Y k a o (U a o J) (fun z=>by cases z;rw[Z]at J;cases J),zgF⟩
   refine⟨fun y σ' I n' h' S' L=>g.nx _ _ I n h' (back S' (Y L)) (kp2 L),fun t n' v I h' hn' L rp=>?_,fun y σ' I n' h' S' L=>g.bk _ _ I n h' (back S' (Y L)) (kp2 L),fun y σ' I n' h' S' L=>g.ct _ _ I n h' (back S' (Y L)) (kp2 L),fun _ _ _ h=>h.elim⟩
   obtain⟨b,rfl,h'⟩:=h';rw[rp.blI];have kq:∀a o,H a=some o->I a=some o:=fun a o J=>L a o (U a o J) (fun z=>by cases z;rw[Z]at J;cases J) (IA a)
   refine g.rt _ n _ I h' (fun a ea=>?_) (fun a o J _ _=>kq a o J) (.bl b)
   obtain⟨d,m,t,q,rest⟩:=S.hnd a ea;exact⟨d,m,t,kq a _ q,rest⟩
  ·exact hd.elim
 ·exact hd.elim
end
def zpz(K:qF):Sp:=fun v H Q _=>∃(a:ak) (ns:List Int),v=[.ref a]/\SqL K H a (ns.map V.int)/\ns.length<=63/\∀u,Q (.bl true) u
def zt7:GD:=fun ts n R=>∃ns:List Int,ts=[SCR ns]/\ns.length<=63/\∀u,R (.bool true) u
theorem zqw{K:qF}(u:List V)(H:Hp)(Q:VK)(E:XK)(h:zpz K u H Q E):spD K 1 zt7 u H Q E:=by
 obtain⟨a,ns,rfl,sq,x,q⟩:=h;refine⟨none,fun _=>False,[SCR ns],0,fun t _=>t=.bool true,.cons ?_ .nil,(fun a e=>by cases e),(fun a z=>z.elim),(fun a e=>by cases e),rfl,⟨ns,rfl,x,fun _=>rfl⟩,fun t I v C y _ _ G=>?_⟩
 ·rcases sq with sq|sq
  ·exact .scr sq (fun z=>z)
  ·exact .scrS fun _=>.inr sq
 ·subst y;rw[G.blI];exact q C
section
variable{env:Env}{es:List aT}{a b:aT}{l1 l2:List aT}{p:Pos}{x:Str}
theorem Ju:starEach (.Name x p::es) env=(false,eval (.Name x p) env)::starEach es env:=rfl
theorem zlg{j}:starEach (.Constant (.int i) j p::es) env=(false,eval (.Constant (.int i) j p) env)::starEach es env:=rfl
theorem Q0{c d}:starEach (.Call a l1 c d::es) env=(false,eval (.Call a l1 c d) env)::starEach es env:=rfl
theorem Q9{o}:starEach (.BinOp a o b p::es) env=(false,eval (.BinOp a o b p) env)::starEach es env:=rfl
theorem VG:starEach (.Subscript a b p::es) env=(false,eval (.Subscript a b p) env)::starEach es env:=rfl
theorem VF{o}:starEach (.Compare a o l1 p::es) env=(false,eval (.Compare a o l1 p) env)::starEach es env:=rfl
theorem Ug{g s}:starEach (.ListComp a g s p::es) env=(false,eval (.ListComp a g s p) env)::starEach es env:=rfl
end
section
variable{X:Cx}{a b c e:aT}{da db dc:DTE}{pos p:Pos}{r r':R2}{g g':G2}
theorem zoI(ho:OpR X (compareOp op) r)(hg:Gp2 X r g)(L:OpR X (compareOp op') r')(Y:Gp2 X r' g')(ha:DL X a da)(hb:DL X b db)(hc:DL X c dc)
  (hm:lastMarks [op,op'] [b,c]=false:=by with_unfolding_all rfl):DT X (.Compare a [op,op'] [b,c] pos) (Uj (Y1 g g' da db dc)):=by
 obtain⟨ta,pa,ha⟩:=ha;obtain⟨tb,pb,hb⟩:=hb;obtain⟨tc,pc,hc⟩:=hc;refine⟨_,zn0 ho L pa pb pc hm,fun C Z σ H n Q R S h hq=>?_⟩
 refine two ha hb S h fun x y n2 v w H2 r2 e N q1 q2=>?_
 refine hg C.hd (Own C Z σ) H2 v w x y _ _ (fun p=>N.dom) q1 q2 r2 fun z u J l I rp=>?_
 have S3:=N.on I.ext (N.hnd.same I);cases z with
 | bool k =>
  cases rp;refine⟨k,rfl,?_⟩;cases k with
  | false=>exact iteF ⟨false,rfl,hq _ n2 J l (e.trans I.ext) S3.hnd⟩
  | true =>
   refine iteT (hc C Z σ J n2 _ _ S3 l fun z2 n3 w2 H4 r4 U h4 q4=>?_)
   have S4:=S3.on U h4;have q2':=U.repT S.hx ((Same.ext I:ExtE C.hd H2 J).repT S.hx q2);refine Y C.hd (Own C Z σ) H4 w w2 y z2 _ _ (fun p=>S4.dom) q2' q4 r4 fun z u J l G rp=>?_
   cases z with
   | bool k=>cases rp;exact⟨k,rfl,hq _ n3 J l (((e.trans I.ext).trans U).trans G.ext) (S4.hnd.same G)⟩
   | _=>exact l.elim
 | _=>exact l.elim
def zpH(K:qF):V->List V->Hp->VK->Prop:=fun x xs H Q=>∃(l:ak) (bs:List Bool) (k:Bool),x=.ref l/\xs=[.bl k]/\SqL K H l (bs.map V.bl)/\Q (.int (countIn (.bool k) (bs.map bO))) H
theorem zeB:∀{h:aS}{bs:List Bool}{u:List ah},Vals (bs.map V.bl) u->oG h u (bs.map bO) []
 | _,[],_,r=>by cases r;exact .nil
 | _,b::bs,_,r=>by
  cases r with
  | cons x v =>
   cases(show _=ee b from x)
   exact .cons (.bool b) (zeB v)
theorem zl8:MtR X "list.count" (zpH X.K):=by
 intro pins s σ H x xs v R Q I G rs h;obtain⟨l,bs,k,rfl,rfl,u,q⟩:=h;cases G;cases rs with
 | cons L y =>
  cases y;cases(show _=ee k from L)
  obtain⟨J,C,p,_⟩:=I.list u;exact count_list_bools p.isList (zeB (h:=s.heap) C) (by induction bs with|nil=>rfl|cons b bs N=>simp[Shape.has]) ⟨.int _,H,I.tok _,⟨_,rfl⟩,q⟩
def ZX(k:Bool)(d:DTE):DTE:=fun v n R=>d v n fun t u=>match t with|.list ts=>∃bs:List Bool,ts=bs.map bO/\R (.int (countIn (.bool k) (bs.map bO))) u|_=>False
theorem zoO{k:Bool}{j}{L p2 y:Pos}(h:DL X a da)(J:attributeBase a "count" X.env (eval a X.env)=eval a X.env:=by rfl) (I:(p2.endLine == y.line)=true:=by rfl):DE X (.Call (.Attribute a "count" p2) [.Constant (.bool k) j L] [] y) (ZX k da):=by
 obtain⟨ta,pa,h⟩:=h;refine⟨_,zpY gv PySem.F.slot_list_count PySem.F.type_list_count zl8 pa (QZ zp0 UM rfl) J rfl I rfl rfl,fun C U σ H n Q R S hd hq=>?_⟩
 refine h C U σ H n _ _ S hd fun t Y v N r Z h1 G=>?_
 cases t with
 | list ts =>
  obtain⟨bs,rfl,r⟩:=r;obtain⟨p,vs,rfl,x,h3⟩:=G.lstI;rw[Vq h3]at x;exact⟨.inl ⟨rfl,_,SqL.of x⟩,p,bs,k,rfl,rfl,.of x,hq _ Y _ N r Z h1 (.int _)⟩
 | _=>exact r.elim
end
section
variable{C:Int->Int->Prop}{f:Int->Int->Int}{fb:Int->Int->Bool}{i j k:Int}{R:af->Prop}{Rb:Bool->Prop}{xs ys:qD}{s t:Str}{a b:Bool}{u v:af}
theorem l_gI:gI C f (.int i) (.int j) R=(C i j/\R (.int (f i j))):=propext aP
theorem Zv:gI0 f (.int i) (.int j) R=R (.int (f i j)):=propext aP
theorem YM:oAdd (.int i) (.int j) R=R (.int (i+j)):=propext aP
theorem YN:oAdd (.str s) (.str t) R=(s.length+t.length<=16777216/\R (.str (s++t))):=propext aP
theorem YO:oAdd (.tuple xs) (.tuple ys) R=(xs.length+ys.length<=16777216/\R (.tuple (xs++ys))):=propext aP
theorem Yp:oEq (.int i) (.int j) R=R (.bool (decide (i=j))):=propext aP
theorem Yr:oEq (.str s) (.str t) R=R (.bool (decide (s=t))):=propext aP
theorem Ys:oEq (.tuple xs) (.tuple ys) R=(Okd (.tuple xs)/\Okd (.tuple ys)/\R (.bool (cg (.tuple xs) (.tuple ys)))):=propext aP
theorem Yq:oEq (.list xs) (.list ys) R=(Okd (.list xs)/\Okd (.list ys)/\R (.bool (cg (.list xs) (.list ys)))):=propext aP
theorem YA:oNe (.int i) (.int j) R=R (.bool (!decide (i=j))):=propext aP
theorem YC:oNe (.str s) (.str t) R=R (.bool (!decide (s=t))):=propext aP
theorem YE:oNe (.tuple xs) (.tuple ys) R=(Okd (.tuple xs)/\Okd (.tuple ys)/\R (.bool (!PyData.eqv (.tuple xs) (.tuple ys)))):=propext aP
theorem YB:oNe (.list xs) (.list ys) R=(Okd (.list xs)/\Okd (.list ys)/\R (.bool (!PyData.eqv (.list xs) (.list ys)))):=propext aP
theorem Yu:oIs u .none R=R (.bool (isNone u)):=by cases u <;> exact propext aP
theorem Y6:oIsN u .none R=R (.bool (!isNone u)):=by cases u <;> exact propext aP
theorem Yt:oIn u (.tuple xs) R=(Okd u/\(∀t∈xs,Okd t)/\R (.bool (xs.any fun t=>t.eqv u))):=by cases u <;> exact propext aP
theorem Ze:ZL u (.tuple xs) R=(Okd u/\(∀t∈xs,Okd t)/\R (.bool (!xs.any fun t=>t.eqv u))):=by cases u <;> exact propext aP
theorem Yx:oLtA (.int i) (.int j) R=R (.bool (decide (i<j))):=propext aP
theorem Yv:oLeA (.int i) (.int j) R=R (.bool (decide (i<=j))):=propext aP
theorem Yw:oLeA (.str s) (.str t) R=R (.bool (!decide (t.cps.toList<s.cps.toList))):=propext aP
theorem Zw(h:atI xs i=some x):oIx (.list xs) (.int i) R=R x:=by show(match atI xs i with|some t=>R t|none=>False)=_;rw[h]
theorem Zx(h:atI xs i=some x):oIx (.tuple xs) (.int i) R=R x:=by show(match atI xs i with|some t=>R t|none=>False)=_;rw[h]
theorem YT:oIx (.tuple (u::xs)) (.int 0) R=R u:=Zx (by unfold atI ixN;simp)
theorem YU:oIx (.tuple (u::v::xs)) (.int 1) R=R v:=Zx (by unfold atI ixN;simp;rw[if_pos (by omega)];rfl)
theorem YV:oIx (.tuple (u::v::w::xs)) (.int 2) R=R w:=Zx (by unfold atI ixN;simp;rw[if_pos (by omega)];rfl)
theorem YR:oIx (.list (u::xs)) (.int 0) R=R u:=Zw (by unfold atI ixN;simp)
theorem YS:oIx (.list (u::v::xs)) (.int 1) R=R v:=Zw (by unfold atI ixN;simp;rw[if_pos (by omega)];rfl)
theorem YX:truD (.bool a) Rb=Rb a:=propext aP
theorem YY:truD (.list xs) Rb=Rb (!xs.isEmpty):=propext aP
theorem Yo:bolD (.bool a) Rb=Rb a:=propext aP
theorem Yz:bMin [.int i,.int j] R=R (.int (if j<i then j else i)):=propext aP
theorem Yy:bMax [.int i,.int j] R=R (.int (if j > i then j else i)):=propext aP
theorem YQ:bInt [.bool a] R=R (.int (if a then 1 else 0)):=propext aP
theorem Zf:ZH [.list xs] R=R (.tuple xs):=propext aP
theorem YW:Zs [u] R=(Shd u/\R (.str u.shown)):=propext aP
theorem Y7:JV (.list xs) Rl=Rl xs:=propext aP
theorem Zd:JV (.tuple xs) Rl=Rl xs:=propext aP
theorem ztc(y:String)(h:y∈["NoneType","bool","int","str","list","tuple","dict"]):kitB y "int" = some (decide (y = "int")||decide (y = "bool")):=by
 simp only[aw,aJ,or_false]at h;rcases h with rfl|rfl|rfl|rfl|rfl|rfl|rfl <;> decide +kernel
theorem zqy(y:String)(h:y∈["NoneType","bool","int","str","list","tuple","dict"]):kitB y "bool" = some (decide (y = "bool")):=by
 simp only[aw,aJ,or_false]at h;rcases h with rfl|rfl|rfl|rfl|rfl|rfl|rfl <;> decide +kernel
theorem zom(y:String)(h:y∈["NoneType","bool","int","str","list","tuple","dict"]):kitB y "tuple" = some (decide (y = "tuple")):=by
 simp only[aw,aJ,or_false]at h;rcases h with rfl|rfl|rfl|rfl|rfl|rfl|rfl <;> decide +kernel
theorem ztb(y:String)(h:y∈["NoneType","bool","int","str","list","tuple","dict"]):kitB y "str" = some (decide (y = "str")):=by
 simp only[aw,aJ,or_false]at h;rcases h with rfl|rfl|rfl|rfl|rfl|rfl|rfl <;> decide +kernel
def Pln(t:af):Prop:=tyN t≠none
def isInt:af->Bool|.int _=>true|.bool _=>true|_=>false
def isBool:af->Bool|.bool _=>true|_=>false
def isTup:af->Bool|.tuple _=>true|_=>false
def isStr:af->Bool|.str _=>true|_=>false
variable{d:DTE}{ρ:En}{n:Nat}{Rn:qN}
theorem V1(h:tyN u=some y):y∈["NoneType","bool","int","str","list","tuple","dict"]:=by
 unfold tyN at h;split at h <;> cases h <;> simp
def isiD(f:af->Bool)(d:DTE):DTE:=fun ρ n R=>d ρ n fun t x=>Pln t/\R (.bool (f t)) x
end
section
variable{X:Cx}{e:aT}{d:DTE}{p p2 pos:Pos}
theorem U7(hk:∀t y,tyN t=some y->kitB y T=some (f t))(hm:X.mg "isinstance" = none) (u:X.mg y=none) (J:bootBuiltins y=some (.type T)) (h:DL X e d) (Y:starEach (e::[.Name y p2]) X.env=(false,eval e X.env)::starEach [.Name y p2] X.env) (hg:Gl X "isinstance":=by rfl) (x:Gl X y:=by rfl) (hn:y ≠ "__name__":=by decide) (hd:(y == ("__debug__":Str))=false:=by rfl) :
  DE X (.Call (.Name "isinstance" p) [e,.Name y p2] [] pos) (isiD f d):=by
 obtain⟨ta,pa,h⟩:=h;refine⟨_,UG zna hm V3 (Qg pa (ziF (Bd.zso u J x hn hd) QD) Y) hg,fun C G σ H n Q R S hd hq=>?_⟩
 refine h C G σ H n _ _ S hd fun t Z v U I e1 h1 L=>?_
 cases et:tyN t with
 | none=>exact absurd et I.1
 | some z=>exact⟨v,C.hd,Own C G σ,t,T,z,f t,rfl,L,et,hk t z et,hq _ Z _ U I.2 e1 h1 (.bl _)⟩
theorem zt2:∀t y,tyN t=some y->kitB y "int" = some (isInt t):=fun t y e=>by
 rw[ztc y (V1 e)];unfold tyN at e;split at e <;> cases e <;> rfl
theorem zqQ:∀t y,tyN t=some y->kitB y "bool" = some (isBool t):=fun t y e=>by
 rw[zqy y (V1 e)];unfold tyN at e;split at e <;> cases e <;> rfl
theorem zjQ:∀t y,tyN t=some y->kitB y "tuple" = some (isTup t):=fun t y e=>by
 rw[zom y (V1 e)];unfold tyN at e;split at e <;> cases e <;> rfl
theorem zmB:∀t y,tyN t=some y->kitB y "str" = some (isStr t):=fun t y e=>by
 rw[ztb y (V1 e)];unfold tyN at e;split at e <;> cases e <;> rfl
theorem Uf:Pln (.int i):=by simp[Pln,tyN]
theorem Ue:Pln (.bool i):=by simp[Pln,tyN]
theorem Uw:Pln (.str i):=by simp[Pln,tyN]
theorem Uu:Pln (.tuple i):=by simp[Pln,tyN]
theorem Uz:Pln (.list i):=by simp[Pln,tyN]
theorem UA:Pln .none:=by simp[Pln,tyN]
theorem Uy:Pln (.dict []):=by simp[Pln,tyN]
end
abbrev blk(i h:Int):af:=.tuple [.int i,.int h]
theorem Ux:Okd (.tuple [.int i,.int h]):=⟨by simp[bc,bo],by simp[cC,bL]⟩
theorem zoF:cg (.tuple [.int i,.int h]) (.tuple [.int j,.int g])=(decide (i=j)&&decide (h=g)):=by
 simp only[cg,dB,gj];rw[kO,kO]
def IsBk(bits i h:Int):Prop:=0<=h/\h<=bits/\∃k:Int,0<=k/\i=k*2 ^ h.toNat/\k<2 ^ (bits - h).toNat
theorem UB(k:Nat):(0:Int)<2 ^ k:=Bd.Qz k
theorem zjt:(2:Int) ^ (a+b)=2 ^ a*2 ^ b:=fe 2 a b
theorem IsBk.bounds(l:0<=bits)(H:IsBk bits i h):0<=i/\i+2 ^ h.toNat<=2 ^ bits.toNat:=by
 obtain⟨h0,u,k,k0,rfl,k1⟩:=H;have p:=UB h.toNat;refine⟨Int.mul_nonneg k0 (eM p),?_⟩;have e:bits.toNat=(bits - h).toNat+h.toNat:=by lia
 rw[e,zjt];have:(k+1)*2 ^ h.toNat<=2 ^ (bits - h).toNat*2 ^ h.toNat:=cJ (by lia) (eM p)
 rw[eN,bP]at this;exact this
theorem zlE(h:k<=64):(2:Int) ^ k<=18446744073709551616:=by
 have:=Bd.Ww h;simpa using this
theorem IsBk.lt(l:0<=bits)(u:bits<=64)(H:IsBk bits i h):0<=i/\i<18446744073709551616:=by
 obtain⟨a,b⟩:=H.bounds l;have:=zlE (show bits.toNat<=64 by lia)
 have:=UB h.toNat;lia
theorem cpow(h0:0<=j)(l:j<=1000000):CPow 1 j:=⟨h0,l,by decide⟩
section
variable{t u tb:DTS}{D:JU}{ρ ρ0:En}{n i j m:Nat}{d da db dc d1 d2:DTE}{ds di:DTA}{c c' tt:DTT}{g:G2}{g':G2}{gc:GC}{gd:GD}{tg:DTG}{tgs:DTGs}{R:qN}{Rb:Bool->Nat->Prop}{Rl:List af->Nat->Prop}{Re:En->Prop}{x y:af}{xs ys acc:qD}{f:Int->Int->Int}{fb:af->Bool}{k:Bool}{capt:List Nat}{h:Option Cell}
theorem Z6:(sSeq t u D ρ n)=(t { D with nx:=u D } ρ n):=propext aP
theorem Z5:(sRet d D ρ n)=(d ρ n fun t l=>D.rt t l):=propext aP
theorem Z7:(sSet i d D ρ n)=(d ρ n fun t C=>D.nx (ρ.set i (some (.val t))) C):=propext aP
theorem Z4:(sAsg d tg D ρ n)=(d ρ n fun t v=>tg t ρ fun l=>D.nx l v):=propext aP
theorem u_dC:(dC x ρ n R)=(R x n):=propext aP
theorem ZC:(dOp g da db ρ n R)=(da ρ n fun x l=>db ρ l fun y v=>g x y fun z=>R z v):=propext aP
theorem Z0:(dNew ds ρ n R)=(ds ρ n fun ts v=>R (.list ts) v):=propext aP
theorem Z2:(dTup ds ρ n R)=(ds ρ n fun ts v=>R (.tuple ts) v):=propext aP
theorem Z1:(dNil ρ n Rl)=(Rl [] n):=propext aP
theorem Va:(Qm d ds ρ n Rl)=(d ρ n fun t l=>ds ρ l fun ts v=>Rl (t::ts) v):=propext aP
theorem ZB:(dFn gd ds ρ n R)=(ds ρ n fun ts l=>gd ts l R):=propext aP
theorem Vi:(ZW gc ds ρ n R)=(ds ρ n fun ts l=>gc ts fun z=>R z l):=propext aP
theorem Vk:(Qo i x ρ Re)=(Re (ρ.set i (some (.val x)))):=propext aP
theorem Vc:(UY tgs (.tuple xs) ρ Re)=(tgs xs ρ Re):=propext aP
theorem Vb:(UX [] ρ Re)=(Re ρ):=propext aP
theorem Vj:(Ua tg tgs (x::xs) ρ Re)=(tg x ρ fun l=>tgs xs l Re):=propext aP
def cVal:Option Cell->(af->Prop)->Prop
 | some (.val d),R=>R d
 | _,_=>False
def cOwn:Option Cell->(List af->Prop)->Prop
 | some (.own d),R=>R d
 | _,_=>False
theorem ZS:cVal (some (.val x)) Q=Q x:=propext aP
theorem Z3:dVar i ρ n R=cVal (ρ.getD i none) fun d=>R d n:=by
 unfold dVar;rw[bh];cases e:ρ[i]? with
 | none=>exact propext aP
 | some o=>cases o with
  | none=>exact propext aP
  | some c=>cases c <;> exact propext aP
theorem Za:Uj d ρ n Rb=(d ρ n fun t l=>bolD t fun b=>Rb b l):=by
 unfold Uj;congr 1
 funext t l
 cases t <;> exact propext aP
def lCat:af->af->(List af->Prop)->Prop
 | .list xs,.list ys,R=>xs.length+ys.length<=16777216/\R (xs++ys)
 | _,_,_=>False
theorem YG:dCat da db ρ n Rl=(da ρ n fun x l=>db ρ l fun y v=>lCat x y fun zs=>Rl zs v):=by
 unfold dCat;congr 1
 funext x l
 congr 1
 funext y v
 cases x <;> cases y <;> exact propext aP
def lLst:af->(List af->Prop)->Prop
 | .list xs,R=>R xs
 | _,_=>False
def lTup:af->(List af->Prop)->Prop
 | .tuple xs,R=>R xs
 | _,_=>False
theorem YH:dItL d ρ n Rl=(d ρ n fun t l=>lLst t fun ts=>Rl ts l):=by
 unfold dItL;congr 1
 funext t l
 cases t <;> exact propext aP
theorem YI:dItT d ρ n Rl=(d ρ n fun t l=>lTup t fun ts=>Rl ts l):=by
 unfold dItT;congr 1
 funext t l
 cases t <;> exact propext aP
def lInt:af->(Int->Prop)->Prop
 | .int i,R=>R i
 | _,_=>False
theorem Y9:Zy d ρ n Rl=(d ρ n fun t l=>lInt t fun j=>(-(2 ^ 62)<=j/\j<2 ^ 62)/\Rl (QW 0 j.toNat) l):=by
 unfold Zy;congr 1
 funext t l
 cases t <;> exact propext aP
theorem YJ:dNeg d ρ n R=(d ρ n fun t l=>lInt t fun i=>R (.int (-i)) l):=by
 unfold dNeg;congr 1
 funext t l
 cases t <;> exact propext aP
theorem Zj:ZX k d ρ n R=(d ρ n fun t v=>lLst t fun ts=>∃bs:List Bool,ts=bs.map bO/\R (.int (countIn (.bool k) (bs.map bO))) v):=by
 unfold ZX;congr 1
 funext t v
 cases t <;> exact propext aP
theorem Zi:Y1 g g' da db dc ρ n R=(da ρ n fun x C=>db ρ C fun y v=>g x y fun z=>bolD z fun b=>if b=true then dc ρ v fun w G=>g' y w fun z=>R z G else R (.bool false) v):=by
 unfold Y1;congr 1
 funext x C
 congr 1
 funext y v
 congr 1
 funext z
 cases z with
 | bool b=>cases b <;> simp[bolD]
 | _=>exact propext aP
def U0(ρ:En)(i:Nat)(D:JU)(C:DTE)(t:af)(l:Nat)(ts:qD):Prop:=C ρ l fun j v=>lInt j fun j=>(match ixN ts.length j with|some k=>D.nx (ρ.set i (some (.own (ts.set k t)))) v|none=>False)
theorem Ym:sPut i dj d D ρ n=(d ρ n fun t l=>cOwn (ρ.getD i none) fun xs=>U0 ρ i D dj t l xs):=by
 unfold sPut;congr 1
 funext t l
 rw[bh];cases e:ρ[i]? with
 | none=>exact propext aP
 | some o=>cases o with
  | none=>exact propext aP
  | some c=>cases c with
   | val _=>exact propext aP
   | dct _=>exact propext aP
   | dtt _=>exact propext aP
   | rdo _=>exact propext aP
   | own xs =>
    show(dj ρ l fun j v=>_)=U0 ρ i D dj t l xs
    unfold U0;congr 1
    funext j v
    cases j <;> exact propext aP
end
section
variable{t u tb:DTS}{D:JU}{ρ ρ0:En}{n i j m:Nat}{d da db dc d1 d2:DTE}{ds di:DTA}{c c' tt:DTT}{g:G2}{g':G2}{gc:GC}{gd:GD}{tg:DTG}{tgs:DTGs}{R:qN}{Rb:Bool->Nat->Prop}{Rl:List af->Nat->Prop}{Re:En->Prop}{x y:af}{xs ys acc:qD}{f:Int->Int->Int}{fb:af->Bool}{k:Bool}{capt:List Nat}
theorem ztD(h:t { D with nx:=u D } ρ n):sSeq t u D ρ n:=h
theorem zqG(h:D.nx ρ n):Vx D ρ n:=h
theorem ztE(h:d ρ n fun t l=>D.rt t l):sRet d D ρ n:=h
theorem zwJ(h:c ρ n fun b l=>if b=true then t D ρ l else u D ρ l):sIf c t u D ρ n:=h
theorem ztG(h:d ρ n fun t v=>tg t ρ fun l=>D.nx l v):sAsg d tg D ρ n:=h
theorem ztF(h:di ρ n fun ts l=>forP tg tb D ts ρ l):sFor di tg tb D ρ n:=h
theorem i_dC(h:R x n):dC x ρ n R:=h
theorem zwN(h:da ρ n fun x l=>db ρ l fun y v=>g x y fun z=>R z v):dOp g da db ρ n R:=h
theorem ztT(h:ds ρ n fun ts v=>R (.list ts) v):dNew ds ρ n R:=h
theorem ztN(h:ds ρ n fun ts v=>R (.tuple ts) v):dTup ds ρ n R:=h
theorem ztS(h:Rl [] n):dNil ρ n Rl:=h
theorem zqN(h:d ρ n fun t l=>ds ρ l fun ts v=>Rl (t::ts) v):Qm d ds ρ n Rl:=h
theorem zwO(h:ds ρ n fun ts l=>gd ts l R):dFn gd ds ρ n R:=h
theorem ztX(h:ds ρ n fun ts l=>gd ts l fun t v=>JT t=true/\R t v):dFnL gd ds ρ n R:=h
theorem zoz(h:ds ρ n fun ts l=>gc ts fun z=>R z l):ZW gc ds ρ n R:=h
theorem ztZ(h:c ρ n fun b l=>if b=true then c' ρ l Rb else Rb false l):dAnd c c' ρ n Rb:=h
theorem zwM(h:c ρ n fun b l=>if b=true then Rb true l else c' ρ l Rb):dOr c c' ρ n Rb:=h
theorem ztR(h:c ρ n fun b l=>Rb (!b) l):dNot c ρ n Rb:=h
theorem zqP(h:da ρ n fun t v=>bolD t fun b=>if b=true then db ρ v R else R (.bool false) v):zrb da db ρ n R:=h
theorem ztQ(h:da ρ n fun t v=>bolD t fun b=>if b=true then R (.bool true) v else db ρ v R):dOrV da db ρ n R:=h
theorem zqM(h:da ρ n fun t v=>bolD t fun b=>R (.bool (!b)) v):zq_ da ρ n R:=h
theorem ztO(h:d ρ n fun t l=>truD t fun b=>Rb b l):dTru d ρ n Rb:=h
theorem zmz(h:d ρ n fun t l=>JV t fun ts=>Rl ts l):zi9 d ρ n Rl:=h
theorem zqO(h:di ρ n fun ts l=>JQ tg tt d (JB m capt ρ) ts [] l Rl):dComp m capt di tg tt d ρ n Rl:=h
theorem ztM(h:Rb true n):dYes ρ n Rb:=h
theorem zqE(h:tgs xs ρ Re):UY tgs (.tuple xs) ρ Re:=h
theorem zqF(h:Re ρ):UX [] ρ Re:=h
theorem zov(h:tg x ρ fun l=>tgs xs l Re):Ua tg tgs (x::xs) ρ Re:=h
theorem zqI(h:d ρ n fun t l=>bolD t fun b=>Rb b l):Uj d ρ n Rb:=Za.symm▸h
theorem ztY(h:da ρ n fun x l=>db ρ l fun y v=>lCat x y fun zs=>Rl zs v):dCat da db ρ n Rl:=YG.symm▸h
theorem ztW(h:d ρ n fun t l=>lLst t fun ts=>Rl ts l):dItL d ρ n Rl:=YH.symm▸h
theorem ztV(h:d ρ n fun t l=>lTup t fun ts=>Rl ts l):dItT d ρ n Rl:=YI.symm▸h
theorem zqK(h:d ρ n fun t l=>lInt t fun j=>(-(2 ^ 62)<=j/\j<2 ^ 62)/\Rl (QW 0 j.toNat) l):Zy d ρ n Rl:=Y9.symm▸h
theorem ztU(h:d ρ n fun t l=>lInt t fun i=>R (.int (-i)) l):dNeg d ρ n R:=YJ.symm▸h
theorem zox(h:d ρ n fun t v=>lLst t fun ts=>∃bs:List Bool,ts=bs.map bO/\R (.int (countIn (.bool k) (bs.map bO))) v):ZX k d ρ n R:=Zj.symm▸h
theorem zoy(h:da ρ n fun x C=>db ρ C fun y v=>g x y fun z=>bolD z fun b=>if b=true then dc ρ v fun w G=>g' y w fun z=>R z G else R (.bool false) v):Y1 g g' da db dc ρ n R:=Zi.symm▸h
def lIsi(fb:af->Bool)(t:af)(R:af->Prop):Prop:=Pln t/\R (.bool (fb t))
theorem ztK(h:d ρ n fun t l=>lIsi fb t fun z=>R z l):isiD fb d ρ n R:=h
theorem zpi(e:ρ[i]?=some (some (.val x)))(h:R x n):dVar i ρ n R:=by unfold dVar;rw[e];exact h
theorem zpj(e:ρ[i]?=some (some (.own xs)))(h:R (.list xs) n):dOwn i ρ n R:=by unfold dOwn;rw[e];exact h
theorem zjO(e:ρ[i]?=some (some (.own xs)))(h:d ρ n fun t l=>xs.length<16777216/\D.nx (ρ.set i (some (.own (xs++[t])))) l):Y8 i d D ρ n:=by unfold Y8;rw[e];exact h
theorem zjN(e:ρ[i]?=some (some (.own xs)))(h:t D (ρ.set i (some (.val (.list xs)))) n):Z9 i t D ρ n:=by unfold Z9;rw[e];exact h
theorem zwK(e:ρ[i]?=some (some (.own xs)))(h:d ρ n fun t l=>U0 ρ i D dj t l xs):sPut i dj d D ρ n:=by
 rw[Ym,bh,e];exact h
theorem ztH(h:dj ρ n fun j l=>lInt j fun j=>(match ixN xs.length j with|some k=>D.nx (ρ.set i (some (.own (xs.set k x)))) l|none=>False)):U0 ρ i D dj x n xs:=h
theorem zwL{A B:Prop}(v:b=true->A)(l:b=false->B):if b=true then A else B:=by cases b with|true=>exact iteT (v rfl)|false=>exact iteF (l rfl)
theorem ztJ{p:Prop}[Decidable p]{A B:Prop}(v:p->A)(l:¬p->B):if decide p=true then A else B:=by
 by_cases h:p
 ·rw[decide_eq_true h];exact iteT (v h)
 ·rw[decide_eq_false h];exact iteF (l h)
theorem ztI{A B:Prop}(h:if b=true then B else A):if (!b)=true then A else B:=by
 cases b with|true=>exact iteF h|false=>exact iteT h
end
section
variable{C:Int->Int->Prop}{f:Int->Int->Int}{fb:Int->Int->Bool}{i j k:Int}{R:af->Prop}{Rb:Bool->Prop}{xs ys:qD}{s t:Str}{a b:Bool}{u v x y:af}{Rn:qN}{n:Nat}
theorem ztw(h:R (.int (i+j))):oAdd (.int i) (.int j) R:=YM.symm▸h
theorem ztv(h:(s.length+t.length<=16777216/\R (.str (s++t)))):oAdd (.str s) (.str t) R:=YN.symm▸h
theorem ztu(h:(xs.length+ys.length<=16777216/\R (.tuple (xs++ys)))):oAdd (.tuple xs) (.tuple ys) R:=YO.symm▸h
theorem zwF(h:R (.bool (decide (i=j)))):oEq (.int i) (.int j) R:=Yp.symm▸h
theorem zwD(h:R (.bool (decide (s=t)))):oEq (.str s) (.str t) R:=Yr.symm▸h
theorem zwC(h:(Okd (.tuple xs)/\Okd (.tuple ys)/\R (.bool (cg (.tuple xs) (.tuple ys))))):oEq (.tuple xs) (.tuple ys) R:=Ys.symm▸h
theorem zwE(h:(Okd (.list xs)/\Okd (.list ys)/\R (.bool (cg (.list xs) (.list ys))))):oEq (.list xs) (.list ys) R:=Yq.symm▸h
theorem zwp(h:R (.bool (!decide (i=j)))):oNe (.int i) (.int j) R:=YA.symm▸h
theorem zwn(h:R (.bool (!decide (s=t)))):oNe (.str s) (.str t) R:=YC.symm▸h
theorem zwm(h:(Okd (.tuple xs)/\Okd (.tuple ys)/\R (.bool (!PyData.eqv (.tuple xs) (.tuple ys))))):oNe (.tuple xs) (.tuple ys) R:=YE.symm▸h
theorem zwo(h:(Okd (.list xs)/\Okd (.list ys)/\R (.bool (!PyData.eqv (.list xs) (.list ys))))):oNe (.list xs) (.list ys) R:=YB.symm▸h
theorem zwz(h:R (.bool (isNone u))):oIs u .none R:=Yu.symm▸h
theorem zqB(h:R (.bool (!isNone u))):oIsN u .none R:=Y6.symm▸h
theorem zwB(h:(Okd u/\(∀t∈xs,Okd t)/\R (.bool (xs.any fun t=>t.eqv u)))):oIn u (.tuple xs) R:=Yt.symm▸h
theorem zoo(h:(Okd u/\(∀t∈xs,Okd t)/\R (.bool (!xs.any fun t=>t.eqv u)))):ZL u (.tuple xs) R:=Ze.symm▸h
theorem zwu(h:R (.bool (decide (i<j)))):oLtA (.int i) (.int j) R:=Yx.symm▸h
theorem zwx(h:R (.bool (decide (i<=j)))):oLeA (.int i) (.int j) R:=Yv.symm▸h
theorem zww(h:R (.bool (!decide (t.cps.toList<s.cps.toList)))):oLeA (.str s) (.str t) R:=Yw.symm▸h
theorem ztp(h:R u):oIx (.tuple (u::xs)) (.int 0) R:=YT.symm▸h
theorem zto(h:R v):oIx (.tuple (u::v::xs)) (.int 1) R:=YU.symm▸h
theorem ztn(h:R w):oIx (.tuple (u::v::w::xs)) (.int 2) R:=YV.symm▸h
theorem VS(h:R u):oIx (.list (u::xs)) (.int 0) R:=YR.symm▸h
theorem zpf(h:R v):oIx (.list (u::v::xs)) (.int 1) R:=YS.symm▸h
theorem ztf(h:Rb a):truD (.bool a) Rb:=YX.symm▸h
theorem zte(h:Rb (!xs.isEmpty)):truD (.list xs) Rb:=YY.symm▸h
theorem zwH(h:Rb a):bolD (.bool a) Rb:=Yo.symm▸h
theorem ztm(h:R (.int xs.length)):bLen [.list xs] R:=.inl ⟨xs,rfl,h⟩
theorem ztk(h:R (.int xs.length)):bLen [.tuple xs] R:=.inr (.inl ⟨xs,rfl,h⟩)
theorem ztl(h:(s.length<=16777216/\R (.int s.length))):bLen [.str s] R:=.inr (.inr (.inl ⟨s,rfl,h⟩))
theorem zop(h:R (.int ns.length)):bLen [SCR ns] R:=.inr (.inr (.inr ⟨_,rfl,by rw[aM];exact h⟩))
theorem zws(h:R (.int (if j<i then j else i))):bMin [.int i,.int j] R:=Yz.symm▸h
theorem zwt(h:R (.int (if j > i then j else i))):bMax [.int i,.int j] R:=Yy.symm▸h
theorem zts(h:R (.int (if a then 1 else 0))):bInt [.bool a] R:=YQ.symm▸h
theorem zon(h:R (.tuple xs)):ZH [.list xs] R:=Zf.symm▸h
theorem zth(h:(Shd u/\R (.str u.shown))):Zs [u] R:=YW.symm▸h
theorem zqA(h:Rl xs):JV (.list xs) Rl:=Y7.symm▸h
theorem zos(h:Rl xs):JV (.tuple xs) Rl:=Zd.symm▸h
theorem zwG(h:(xs.length+ys.length<=16777216/\Q (xs++ys))):lCat (.list xs) (.list ys) Q:=h
theorem zwv(h:Q xs):lLst (.list xs) Q:=h
theorem zwi(h:Q xs):lTup (.tuple xs) Q:=h
theorem zwA(h:Q i):lInt (.int i) Q:=h
theorem zwq(c:CMul i j)(h:R (.int (i*j))):oMul (.int i) (.int j) R:=⟨c,h⟩
theorem zwr(c:0<j)(h:R (.int (i % j))):oMod (.int i) (.int j) R:=⟨c,h⟩
theorem ztt(c:Zp i j)(h:R (.int (i / j))):UF (.int i) (.int j) R:=⟨c,h⟩
theorem zwl(c:CPow i j)(h:R (.int (i*2 ^ j.toNat))):oShl (.int i) (.int j) R:=⟨c,h⟩
theorem zwj(h:R (.int (i - j))):oSub (.int i) (.int j) R:=h
theorem zwh(h:R (.int (bH i j))):oXor (.int i) (.int j) R:=h
theorem zwI(h:R (.int (fI i j))):oAnd (.int i) (.int j) R:=h
theorem j_gB(h:R (.bool (fb i j))):gB fb (.int i) (.int j) R:=h
theorem zi1(h:R (.bool true)):lIsi isInt (.int i) R:=⟨Uf,h⟩
theorem zhP(h:R (.bool true)):lIsi isInt (.bool a) R:=⟨Ue,h⟩
theorem zi0(h:R (.bool false)):lIsi isInt (.str s) R:=⟨Uw,h⟩
theorem zgy(h:R (.bool false)):lIsi isInt (.tuple xs) R:=⟨Uu,h⟩
theorem zhN(h:R (.bool false)):lIsi isInt (.list xs) R:=⟨Uz,h⟩
theorem zhM(h:R (.bool false)):lIsi isInt (.none) R:=⟨UA,h⟩
theorem zhO(h:R (.bool false)):lIsi isInt (.dict []) R:=⟨Uy,h⟩
theorem zhQ(h:R (.bool false)):lIsi isBool (.int i) R:=⟨Uf,h⟩
theorem zgz(h:R (.bool true)):lIsi isBool (.bool a) R:=⟨Ue,h⟩
theorem ziX(h:R (.bool false)):lIsi isTup (.int i) R:=⟨Uf,h⟩
theorem zhH(h:R (.bool false)):lIsi isTup (.bool a) R:=⟨Ue,h⟩
theorem ziW(h:R (.bool false)):lIsi isTup (.str s) R:=⟨Uw,h⟩
theorem zgw(h:R (.bool true)):lIsi isTup (.tuple xs) R:=⟨Uu,h⟩
theorem zhF(h:R (.bool false)):lIsi isTup (.list xs) R:=⟨Uz,h⟩
theorem zhE(h:R (.bool false)):lIsi isTup (.none) R:=⟨UA,h⟩
theorem zhG(h:R (.bool false)):lIsi isTup (.dict []) R:=⟨Uy,h⟩
theorem ziZ(h:R (.bool false)):lIsi isStr (.int i) R:=⟨Uf,h⟩
theorem zhL(h:R (.bool false)):lIsi isStr (.bool a) R:=⟨Ue,h⟩
theorem ziY(h:R (.bool true)):lIsi isStr (.str s) R:=⟨Uw,h⟩
theorem zgx(h:R (.bool false)):lIsi isStr (.tuple xs) R:=⟨Uu,h⟩
theorem zhJ(h:R (.bool false)):lIsi isStr (.list xs) R:=⟨Uz,h⟩
theorem zhI(h:R (.bool false)):lIsi isStr (.none) R:=⟨UA,h⟩
theorem zhK(h:R (.bool false)):lIsi isStr (.dict []) R:=⟨Uy,h⟩
end
theorem zpO{h:Int}(h0:0<h):(2:Int) ^ h.toNat=2*2 ^ (h - 1).toNat:=by
 have e:h.toNat=(h - 1).toNat+1:=by lia
 rw[e,bS,cD]
theorem zsh{h:Int}(h0:0<=h):(2:Int) ^ (h+1).toNat=2*2 ^ h.toNat:=by
 have:=zpO (h:=h+1) (by lia)
 rw[this];simp
theorem IsBk.low{bits i h:Int}(B:IsBk bits i h)(l:0<h):IsBk bits i (h - 1):=by
 obtain⟨h0,u,k,k0,rfl,k1⟩:=B;refine⟨by lia,by lia,2*k,by lia,?_,?_⟩
 ·rw[zpO l,<- dR,cD k 2]
 ·have e:(bits - (h - 1)).toNat=(bits - h).toNat+1:=by lia
  rw[e,bS];lia
theorem IsBk.up{bits i h:Int}(B:IsBk bits i h)(l:0<h):IsBk bits (i+2 ^ h.toNat / 2) (h - 1):=by
 obtain⟨h0,u,k,k0,rfl,k1⟩:=B;refine⟨by lia,by lia,2*k+1,by lia,?_,?_⟩
 ·rw[zpO l];have:2*(2:Int) ^ (h - 1).toNat / 2=2 ^ (h - 1).toNat:=by lia
  rw[this,eN,bP,<- dR,cD k 2]
 ·have e:(bits - (h - 1)).toNat=(bits - h).toNat+1:=by lia
  rw[e,bS];lia
theorem zoc(P:Int)(l:0<P):k*P % (2*P)=(k % 2)*P:=by
 rw[cD 2 P,cD k P,Int.mul_emod_mul_of_pos _ _ l,cD]
theorem IsBk.abt{bits i h:Int}(B:IsBk bits i h)(u:h<bits):IsBk bits (i - i % (2*2 ^ h.toNat)) (h+1):=by
 obtain⟨h0,l,k,k0,rfl,k1⟩:=B;refine⟨by lia,by lia,k / 2,by lia,?_,?_⟩
 ·rw[zoc _ (UB _),zsh h0,<- nH];have:k - k % 2=k / 2*2:=by lia
  rw[this,dR]
 ·have e:(bits - h).toNat=(bits - (h+1)).toNat+1:=by lia
  rw[e,bS]at k1;lia
theorem IsBk.oth(B:IsBk bits i h)(u:h<bits):IsBk bits (bH i (2 ^ h.toNat)) h:=by
 obtain⟨h0,l,k,k0,rfl,k1⟩:=B;rw[zjm _ k0];have e:(bits - h).toNat=(bits - (h+1)).toNat+1:=by lia
 split
 ·refine⟨h0,l,k+1,by lia,by rw[eN,bP],?_⟩
  rw[e,bS]at k1 ⊢;lia
 ·refine⟨h0,l,k - 1,by lia,by rw[nH,bP],by lia⟩
theorem IsBk.nxt(B:IsBk bits i h)(l:i+2*2 ^ h.toNat<=2 ^ bits.toNat):IsBk bits (i+2 ^ h.toNat) h:=by
 obtain⟨h0,u,k,k0,rfl,k1⟩:=B;refine⟨h0,u,k+1,by lia,by rw[eN,bP],?_⟩
 have e:bits.toNat=(bits - h).toNat+h.toNat:=by lia
 rw[e,zjt]at l;have p:=UB h.toNat;have:(k+2)*2 ^ h.toNat<=2 ^ (bits - h).toNat*2 ^ h.toNat:=by rw[eN];exact l
 have:=Int.le_of_mul_le_mul_right this p;lia
theorem zwY:CMul 2 j:=.inl ⟨by decide,by decide⟩
theorem zuv:Zp j 2:=⟨by decide,by decide⟩
theorem Qq(h:Nat):(1:Int)*2 ^ h=2 ^ h:=bP _
def BlkN(bits i:Int)(h:Nat):Prop:=(h:Int)<=bits/\∃k:Int,0<=k/\i=k*2 ^ h/\k<2 ^ (bits.toNat - h)
theorem IsBk.n(B:IsBk bits i h):BlkN bits i h.toNat:=by
 obtain⟨h0,l,k,k0,e,k1⟩:=B;refine⟨by lia,k,k0,e,?_⟩
 have:(bits - h).toNat=bits.toNat - h.toNat:=by lia
 rw[<- this];exact k1
theorem znk(b:BlkN bits j g)(l:g<=h):j / 2 ^ h*2 ^ h<=j/\j+2 ^ g<=(j / 2 ^ h+1)*2 ^ h:=by
 obtain⟨_,m,m0,rfl,_⟩:=b;have C:=Bd.Qz h;have y:=Bd.Qz g;have x:=Bd.Qz (h - g);have u:(2:Int) ^ h=2 ^ (h - g)*2 ^ g:=by rw[<- fe];congr 1;lia
 refine⟨Int.ediv_mul_le _ (by lia),?_⟩
 have eq:(m*2 ^ g) / 2 ^ h=m / 2 ^ (h - g):=by rw[u];exact Int.mul_ediv_mul_of_pos_left m _ y
 rw[eq,u,<- dR];have v:m*2 ^ g+2 ^ g=(m+1)*2 ^ g:=by rw[eN,bP]
 rw[v];refine cJ ?_ (by lia)
 have:=Int.lt_ediv_add_one_mul_self m x;lia
theorem zjC{a b A:Int}(p:0<A)(l:a<b):(a+1)*A<=b*A:=cJ (by lia) (by lia)
theorem zi4(y:BlkN bits i h)(v:BlkN bits j g):(g<=h/\j / 2 ^ h*2 ^ h=i)↔(i<=j/\j+2 ^ g<=i+2 ^ h):=by
 have u:=Bd.Qz h;have C:=Bd.Qz g;constructor
 ·rintro⟨l,e⟩;have t:=znk v l;rw[e,eN,bP,e]at t;exact t
 ·rintro⟨x,l2⟩;have l:g<=h:=by
   by_cases z:g<=h
   ·exact z
   ·exfalso;have:(2:Int) ^ h<2 ^ g:=by
     have e:(2:Int) ^ g=2 ^ (g - h)*2 ^ h:=by rw[<- fe];congr 1;lia
     have p2:(2:Int)<=2 ^ (g - h):=by
      obtain⟨d,hd⟩:∃d,g - h=d+1:=⟨g - h - 1,by lia⟩
      rw[hd,bS];have:=Bd.Qz d;lia
     rw[e];have:=cJ p2 (show(0:Int)<=2 ^ h by lia)
     lia
    lia
  refine⟨l,?_⟩;obtain⟨_,k,k0,rfl,_⟩:=y;have e:j / 2 ^ h=k:=by
   have a1:k<=j / 2 ^ h:=(Int.le_ediv_iff_mul_le u).mpr x;have a2:j / 2 ^ h<k+1:=(Int.ediv_lt_iff_lt_mul u).mpr (by rw[eN,bP];lia)
   lia
  rw[e]
theorem zim{bits i j:Int}{h g:Nat}(x:BlkN bits i h)(v:BlkN bits j g)(l:g<=h):(g<=h/\j / 2 ^ h*2 ^ h=i)\/j+2 ^ g<=i\/i+2 ^ h<=j:=by
 have u:=Bd.Qz h;have t:=znk v l;obtain⟨_,k,k0,rfl,_⟩:=x;rcases gJ (j / 2 ^ h) k with z|z|z
 ·have:=zjC u z;exact .inr (.inl (by lia))
 ·exact .inl ⟨l,by rw[z]⟩
 ·have:=zjC u z;rw[eN,bP]at this;exact .inr (.inr (by lia))
def hldD(i h j g:Int):Bool:=decide (g<=h)&&decide (j / 2 ^ h.toNat*2 ^ h.toNat=i)
theorem zpk(A:IsBk bits i h)(B:IsBk bits j g):hldD i h j g=decide (i<=j/\j+2 ^ g.toNat<=i+2 ^ h.toNat):=by
 have:=zi4 A.n B.n;unfold hldD;rw[<- Bool.decide_and];refine decide_eq_decide.mpr ⟨fun z=>this.mp ⟨by have:=A.1;have:=B.1;lia,z.2⟩,fun z=>?_⟩
 obtain⟨l,e⟩:=this.mpr z;exact⟨by have:=A.1;have:=B.1;lia,e⟩
theorem zmK(Inv:Nat->En->Nat->Prop):∀(ts:qD) (i:Nat) {v:En}{n:Nat},Inv i v n ->
  (∀(k:Nat) (t:af) (v:En) (n:Nat) (K:En->Nat->Prop),ts[k]?=some t->Inv (i+k) v n->(∀x y,Inv (i+k+1) x y->K x y)->g t v fun x=>tb { D with nx:=K,ct:=K,bk:=D.nx } x n) ->
  (∀v n,Inv (i+ts.length) v n->D.nx v n)->forP g tb D ts v n
 | [],i,v,n,h0,_,fin=>fin v n (by simpa using h0)
 | t::ts,i,v,n,h0,turn,fin=>by
  refine turn 0 t v n _ rfl (by simpa using h0) fun x y h'=>?_
  refine zmK Inv ts (i+1) (by simpa using h') (fun k u v n K e G C=>?_) (fun v n h=>fin v n ?_)
  ·refine turn (k+1) u v n K (by simpa using e) ?_ fun x y h'=>C x y ?_
   ·have:i+(k+1)=i+1+k:=by lia
    rw[this];exact G
   ·have:i+1+k+1=i+(k+1)+1:=by lia
    rw[this];exact h'
  ·have:i+(t::ts).length=i+1+ts.length:=by simp;lia
   rw[this]at *;exact h
theorem Zb(Inv:Nat->En->Nat->Prop)(h0:Inv 0 u n)
  (turn:∀(k:Nat) (t:af) (u:En) (n:Nat) (K:En->Nat->Prop),ts[k]?=some t->Inv k u n->(∀l v,Inv (k+1) l v->K l v)->g t u fun l=>tb { D with nx:=K,ct:=K,bk:=D.nx } l n)
  (fin:∀u n,Inv ts.length u n->D.nx u n):forP g tb D ts u n:=by
 refine zmK Inv ts 0 h0 (fun k t u n K e y x=>turn k t u n K e (by simpa using y) fun l v h'=>x l v (by simpa using h')) fun u n h=>fin u n (by simpa using h)
theorem zfy{lo:Int}{m i:Nat}{t:af}(h:(QW lo m)[i]?=some t):i<m/\t=.int (lo+(i:Int)):=by
 unfold QW at h;rw[aZ]at h
 by_cases hi:i<m
 ·rw[lI hi]at h;cases h;exact⟨hi,rfl⟩
 ·rw[bX (by simp;lia)]at h
  cases h
theorem zgN(Inv:Nat->En->Nat->Prop)(h0:Inv m u n)
  (turn:∀m u n,Inv m u n->c u n fun b y=>if b=true then tb { D with nx:=fun l x=>∃v,v<m/\Inv v l x,ct:=fun l x=>∃v,v<m/\Inv v l x,bk:=D.nx } u y else D.nx u y):zls c tb D u n :=
 ⟨Inv,⟨m,h0⟩,turn⟩
structure Sm(w k:Nat)(d:af):Prop where
 ls:d.leavesShort 41=true
 sh:d.showable=true
 cl:d.canLay0=true
 dp:d.depth<=k
 wt:d.weight<=w
theorem Sm.shd(h:Sm w k d)(hw:w<=380000)(l:k<=60):Shd d:=by
 refine⟨h.sh,bg _ h.cl,bY h.dp l,?_⟩;have:=PyData.shown_le 41 (by decide) d h.ls
 have:=h.wt;lia
theorem Sm.mono(h:Sm w k d)(hw:w<=w')(l:k<=k'):Sm w' k' d:=⟨h.ls,h.sh,h.cl,bY h.dp l,bY h.wt hw⟩
theorem zlk(h:i.natAbs<10 ^ 40):Sm 140 0 (.int i):=by
 have v:i.natAbs<2 ^ 139:=aC h (by decide)
 have u:i.natAbs≠0->i.natAbs.log2<139:=fun z=>(ur z).mpr v
 refine⟨?_,?_,by simp[bc],by simp[cC],?_⟩
 ·have e:=int_text_length_le10 (k:=40) (by decide) h
  have x:(gG (.int i)).length<=41:=by
   show(aa (toString i)).length<=41
   rw[PySem.ofString_length];exact e
  simp only[fj];exact decide_eq_true x
 ·simp only[gn,decide_eq_true_eq]
  by_cases z:i.natAbs=0
  ·rw[z];decide
  ·have:=u z;lia
 ·simp only[iX];split
  ·lia
  ·rename_i z;have:i.natAbs≠0:=fun y=>z (by simp;lia)
   have:=u this;lia
theorem ziA:Sm 0 0 .none:=⟨by simp[fj],by simp[gn],by simp[bc],by simp[cC],by simp[iX]⟩
theorem zo4:∀{xs:qD},(∀x∈xs,Sm w k x)->fC 41 xs=true/\gr xs=true/\bo xs=true/\bL xs<=k/\gW xs<=(w+1)*xs.length
 | [],_=>⟨by simp[fC],by simp[gr],by simp[bo],by simp[bL],by simp[gW]⟩
 | x::xs,h=>by
  obtain⟨a,b,c,d,e⟩:=zo4 (xs:=xs) fun y l=>h y (by simp[l])
  have hx:=h x (by simp)
  refine⟨by simp[fC,hx.ls,a],by simp[gr,hx.sh,b],by simp[bo,hx.cl,c],?_,?_⟩
  ·simp only[bL];have:=hx.dp;lia
  ·simp only[gW,aO,Nat.mul_add];have:=hx.wt;lia
theorem zf_(h:∀x∈xs,Sm w k x):Sm ((w+1)*xs.length) (k+1) (.tuple xs):=by
 obtain⟨a,b,c,d,e⟩:=zo4 h;exact⟨by simpa[fj] using a,by simpa[gn] using b,by simpa[bc] using c,by simp only[cC];lia,by simpa[iX] using e⟩
theorem zlj(a:i.natAbs<10 ^ 40)(b:h.natAbs<10 ^ 40):Sm 282 1 (.tuple [.int i,.int h]):=by
 have:=zf_ (w:=140) (k:=0) (xs:=[.int i,.int h]) (by intro x hx;simp at hx;rcases hx with rfl|rfl;exact zlk a;exact zlk b)
 exact this.mono (by simp) (by decide)
theorem zo3(a:Sm w k p)(b:Sm w k q):Sm ((w+1)*2) (k+1) (.tuple [p,q]) :=
 zf_ (xs:=[p,q]) (by intro x hx;simp at hx;rcases hx with rfl|rfl;exact a;exact b)
theorem IsBk.x4(B:IsBk bits i h):bH i (2 ^ h.toNat)=if i / 2 ^ h.toNat % 2=0 then i+2 ^ h.toNat else i - 2 ^ h.toNat:=by
 obtain⟨h0,l,k,k0,rfl,k1⟩:=B;rw[zjm _ k0,fX _ (by have:=UB h.toNat;lia)]
theorem zqH(G:ρ[0]?=some (some (.val (SCR ns))))(C:ρ[j]?=some (some (.val (.int k))))(y:ns.length<=63)(k0:0<=k)(k1:k<=100)(I:JM ρ=ρd)
  (h:u { nx:=fun x _=>D.nx (JM x) n,rt:=fun t _=>∃b,t=.bool b/\D.rt t n,bk:=fun x _=>D.bk (JM x) n,ct:=fun x _=>D.ct (JM x) n } ((ρd.set j (some (.val (.int k)))).set i (some (.val HAND))) 0):Yl i j u D ρ n:=by
 subst I;unfold Yl;rw[G,C];exact⟨⟨ns,rfl,y⟩,k0,k1,h⟩
def rkAt(rk:ah->Int)(xs:Array lP)(i:Nat):Int:=((xs[i]?).map fun p=>rk p.1).getD 0
theorem Z8(h:xs[i]?=ys[j]?):rkAt rk xs i=rkAt rk ys j:=by unfold rkAt;rw[h]
theorem zo7(x:u<xs.size)(hd:d<=u)(k:Nat) :
  (k=u - d->rkAt rk (bubble xs u d) k=rkAt rk xs u)/\(u - d<k->k<=u->rkAt rk (bubble xs u d) k=rkAt rk xs (k - 1))/\(k<u - d\/u<k->rkAt rk (bubble xs u d) k=rkAt rk xs k):=by
 have e:=getElem?_bubble x d hd k;refine⟨fun h=>?_,fun v l=>?_,fun h=>?_⟩
 ·rw[if_pos h]at e;exact Z8 e
 ·rw[if_neg (by lia),if_pos ⟨v,l⟩]at e;exact Z8 e
 ·rw[if_neg (by lia),if_neg (by lia)]at e;exact Z8 e
theorem zlv(v:j<=xs.size)(k:Nat) :
  (i<=k->k<j->rkAt rk (mirror xs i j ((j - i) / 2)) k=rkAt rk xs (i+j - 1 - k))/\(k<i\/j<=k->rkAt rk (mirror xs i j ((j - i) / 2)) k=rkAt rk xs k):=by
 have e:=getElem?_mirror_all (i:=i) v k;refine⟨fun u l=>?_,fun h=>?_⟩
 ·rw[if_pos ⟨u,l⟩]at e;exact Z8 e
 ·rw[if_neg (by lia)]at e;exact Z8 e
structure Sb(kd:iG)(a0:Array lP)(z:kZ):Prop where
 pm:(arrOf z).Perm a0
 kn:kindOf z=kd
 fl:failedOf z=none
 pe:pendingOf z=#[]
def Up(rk:ah->Int)(xs:Array lP)(m:Nat):Prop:=∀i j,i<j->j<m->rkAt rk xs i<=rkAt rk xs j
def Dn(rk:ah->Int)(xs:Array lP)(m:Nat):Prop:=∀i j,i<j->j<m->rkAt rk xs j<=rkAt rk xs i
section
variable{prog:aI}{w:aU}{A:bw}{E:qV}{s:au}{kd:iG}{rk:ah->Int}{a0:Array lP}
def Cmp(prog:aI)(w:aU)(A:bw)(s:au)(kd:iG)(rk:ah->Int)(a0:Array lP):Prop :=
 ∀(p q:lP) (E:qV) (Q:Bool->au->Prop),p∈a0.toList->q∈a0.toList->Q (decide (rk p.1<rk q.1)) s->wpAny (model prog w) A (keyLt' kd p.1 q.1) Q E s
theorem Sb.sz(b:Sb kd a0 z):(arrOf z).size=a0.size:=b.pm.size_eq
theorem Sb.arr(b:Sb kd a0 z)(h:xs.Perm (arrOf z)):Sb kd a0 (setArr z xs):=⟨h.trans b.pm,b.kn,b.fl,b.pe⟩
theorem ask(c:Cmp prog w A s kd rk a0)(b:Sb kd a0 z)(hi:i<a0.size)(C:j<a0.size)
  (h:Q (some (decide (rkAt rk (arrOf z) i<rkAt rk (arrOf z) j))) z):wpS (model prog w) A E s (ltAt' i j) Q z:=by
 have mem:∀k,k<a0.size->∃p,(arrOf z)[k]?=some p/\p∈a0.toList:=fun k I=>by
  have l:k<(arrOf z).size:=by rw[b.sz];exact I
  exact⟨(arrOf z)[k],fV l,(fK.mp b.pm).mem_iff.mp (by simp)⟩
 obtain⟨p,u,mp⟩:=mem i hi;obtain⟨q,eq,G⟩:=mem j C;have J:rkAt rk (arrOf z) i=rk p.1:=by unfold rkAt;rw[u];rfl
 have v:rkAt rk (arrOf z) j=rk q.1:=by unfold rkAt;rw[eq];rfl
 rw[J,v]at h;rw[ltAt'_eq];refine bT (mI ?_);show wpS (model prog w) A E s (elem' (arrOf z) i >>= fun x=>elem' (arrOf z) j >>= fun y=>lt' x y) Q z
 simp only[elem'_eq,u,eq,pure_bind];rw[lt'_eq];refine bT (mI (bT (uD (g9 ?_))));rw[b.kn];exact c p q _ _ mp G ⟨rfl,c9 h⟩
theorem zux(c:Cmp prog w A s kd rk a0)(hn:n<=a0.size)(hok:ok<=n)(b:Sb kd a0 z)(up:Up rk (arrOf z) ok)
  (h:∀y,Sb kd a0 y->Up rk (arrOf y) n->Q true y):wpS (model prog w) A E s (binarySort' 0 n ok) Q z:=by
 rw[binarySort'_eq];simp only[fk];refine bT (oJ (gK (Q:=fun c y=>c=(none,())/\Sb kd a0 y/\Up rk (arrOf y) n) (I:=fun k c y=>c=(none,())/\Sb kd a0 y/\Up rk (arrOf y) (min k n)) ?turn ?last ⟨rfl,b,fun i j S h2=>up i j S (by lia)⟩) ?post)
 case post =>
  rintro _ y ⟨rfl,C,u⟩
  exact c9 (h y C u)
 case last =>
  rintro _ y ⟨rfl,C,u⟩
  exact⟨rfl,C,by rwa [show min (max (max ok 1) n) n=n by lia]at u⟩
 case turn =>
  rintro k _ y k1 k2 ⟨rfl,C,u⟩
  rw[show min k n=k by lia]at u
  refine bT (oJ (gK (Q:=fun c U=>U=y/\∃l r,c=(none,l,r)/\l<=k/\(∀i,i<l->rkAt rk (arrOf y) i<=rkAt rk (arrOf y) k)/\∀i,l<=i->i<k->rkAt rk (arrOf y) k<rkAt rk (arrOf y) i)
   (I:=fun x c U=>U=y/\∃l r,c=(none,l,r)/\l<=r/\r<=k/\r - l+x<=k/\(∀i,i<l->rkAt rk (arrOf y) i<=rkAt rk (arrOf y) k)/\∀i,r<=i->i<k->rkAt rk (arrOf y) k<rkAt rk (arrOf y) i) ?t2 ?l2 ⟨rfl,0,k,rfl,by lia,by lia,by lia,fun i hi=>by lia,fun i R J=>by lia⟩) ?p2)
  case l2 =>
   rintro _ v ⟨e,l,r,rfl,q1,q2,q3,L,G⟩;subst e;exact⟨rfl,l,r,rfl,by lia,L,fun i R J=>G i (by lia) J⟩
  case t2 =>
   rintro x _ v _ _ ⟨e,l,r,rfl,q1,q2,q3,L,G⟩;subst e
   by_cases ge:r<=l
   ·simp only[ge_iff_le,ge,if_true];exact c9 ⟨rfl,l,r,rfl,by lia,L,fun i R J=>G i (by lia) J⟩
   ·simp only[ge_iff_le,ge,if_false];refine bT (ask c C (by lia) (by lia) ?_)
    by_cases le:rkAt rk (arrOf v) k<rkAt rk (arrOf v) ((l+r) / 2)
    ·simp only[le,decide_true,if_true];refine c9 ⟨rfl,l,(l+r) / 2,rfl,by lia,by lia,by lia,L,fun i R J=>?_⟩
     rcases bE ((l+r) / 2) i with g|g
     ·have:=u _ _ g J;lia
     ·have:i=(l+r) / 2:=by lia
      rw[this];exact le
    ·simp only[le,decide_false,aH,if_false];refine c9 ⟨rfl,(l+r) / 2+1,r,rfl,by lia,by lia,by lia,fun i R=>?_,G⟩
     rcases bE i ((l+r) / 2) with g|g
     ·have:=u _ _ g (by lia);lia
     ·have:i=(l+r) / 2:=by lia
      rw[this];lia
  case p2 =>
   rintro _ v ⟨e,l,r,rfl,q2,L,G⟩;subst e;show wpS (model prog w) A E s (moveDown' k l >>= fun _=>pure (bZ (none,()))) _ v
   rw[moveDown'_eq];have hk:k<(arrOf v).size:=by rw[C.sz];lia
   refine bT (oK (c9 ⟨rfl,C.arr (bubble_perm _ _ _),fun i j S h2=>?_⟩))
   show rkAt rk (bubble (arrOf v) k (k - l)) i<=rkAt rk (bubble (arrOf v) k (k - l)) j
   have hj:j<=k:=by lia
   obtain⟨a1,a2,N⟩:=zo7 (rk:=rk) hk (show k - l<=k by lia) i
   obtain⟨Z,b2,Y⟩:=zo7 (rk:=rk) hk (show k - l<=k by lia) j
   have el:k - (k - l)=l:=by lia
   rw[el]at a1 a2 N Z b2 Y;rcases cM j l with jl|jl|jl
   ·rw[N (by lia),Y (by lia)];exact u i j S (by lia)
   ·rw[N (by lia),Z jl];exact L i (by lia)
   ·rw[b2 jl hj];rcases cM i l with il|il|il
    ·rw[N (by lia)]
     rcases bE i (j - 1) with g|g
     ·exact u i (j - 1) g (by lia)
     ·exact absurd g (by lia)
    ·rw[a1 il];exact eM (G (j - 1) (by lia) (by lia))
    ·rw[a2 il (by lia)]
     rcases bE (i - 1) (j - 1) with g|g
     ·exact u _ _ g (by lia)
     ·exact absurd g (by lia)
end
section
variable{prog:aI}{w:aU}{A:bw}{E:qV}{s:au}{kd:iG}{rk:ah->Int}{a0:Array lP}
theorem zpt(c:Cmp prog w A s kd rk a0)(L:m<=a0.size)(a1:1<=a)(C:a<=m)(b:Sb kd a0 z)(up:Up rk (arrOf z) a)
  (h:∀n,a<=n->n<=m->Up rk (arrOf z) n->(n<m->rkAt rk (arrOf z) n<rkAt rk (arrOf z) (n - 1))->Q (none,n) z):wpS (model prog w) A E s (ascLoop a m) Q z:=by
 unfold ascLoop;refine gK (I:=fun x c y=>y=z/\c=(none,x)/\Up rk (arrOf z) x) (fun x _ y G N I=>?_) (fun _ y I=>?_) ⟨rfl,rfl,up⟩
 ·obtain⟨e,rfl,u⟩:=I;subst e;refine bT (ask c b (by omega) (by omega) ?_)
  by_cases g:rkAt rk (arrOf y) x<rkAt rk (arrOf y) (x - 1)
  ·simp only[g,decide_true,if_true];exact c9 (h x G (by omega) u fun _=>g)
  ·simp only[g,decide_false,aH,if_false];refine c9 ⟨rfl,rfl,fun i j l J=>?_⟩
   rcases bE j x with jx|jx
   ·exact u i j l jx
   ·have v:j=x:=by omega
    subst v;rcases bE i (j - 1) with ij|ij
    ·have:=u i (j - 1) ij (by omega);omega
    ·have:i=j - 1:=by omega
     rw[this];omega
 ·obtain⟨e,rfl,u⟩:=I;subst e;rw[show max a m=m by omega]at u ⊢
  exact h m C (ay _) u fun g=>absurd g (by omega)
theorem zle(c:Cmp prog w A s kd rk a0)(I:m<=a0.size)(G:1<=n)(nm:n<=m)(b:Sb kd a0 z)(C:Dn rk (arrOf z) n)
  (h:∀k y,Sb kd a0 y->1<=k->k<=m->Up rk (arrOf y) k->Q (some k) y):wpS (model prog w) A E s (tail3 n m) Q z:=by
 unfold tail3;have l:n<=(arrOf z).size:=by rw[b.sz];omega
 refine bT (k8 (bT ?_));have v:=b.arr (lh (arrOf z) 0 n ((n - 0) / 2));refine zpt c I G nm v (fun i j J x=>?_) fun k k1 k2 u _=>c9 (h k _ v (by omega) k2 u)
 show rkAt rk (mirror (arrOf z) 0 n ((n - 0) / 2)) i<=rkAt rk (mirror (arrOf z) 0 n ((n - 0) / 2)) j
 rw[(zlv (rk:=rk) l i).1 (by omega) (by omega),(zlv (rk:=rk) l j).1 (by omega) x]
 exact C _ _ (by omega) (by omega)
theorem Vh(l:j<=xs.size)(al:∀k,i<=k->k<j->rkAt rk xs k=rkAt rk xs (j - 1))(k:Nat):rkAt rk (mirror xs i j ((j - i) / 2)) k=rkAt rk xs k:=by
 obtain⟨p,q⟩:=zlv (rk:=rk) (i:=i) l k
 by_cases g:i<=k/\k<j
 ·rw[p g.1 g.2,al _ (by omega) (by omega),al k g.1 g.2]
 ·exact q (by omega)
theorem zq3(c:Cmp prog w A s kd rk a0)(Y:m<=a0.size)(U:1<=n)(nm:n<=m)(b:Sb kd a0 z)(R:Dn rk (arrOf z) n)
  (h:∀k e y,Sb kd a0 y->n<=k->k<=m->Dn rk (arrOf y) k->e<k->(∀i,k - (e+1)<=i->i<k->rkAt rk (arrOf y) i=rkAt rk (arrOf y) (k - 1))->Q (none,k,e) y) :
  wpS (model prog w) A E s (descLoop n m) Q z:=by
 unfold descLoop;refine gK (I:=fun x c y=>∃e,c=(none,x,e)/\Sb kd a0 y/\Dn rk (arrOf y) x/\e<x/\∀i,x - (e+1)<=i->i<x->rkAt rk (arrOf y) i=rkAt rk (arrOf y) (x - 1)) (fun x _ y S Z I=>?_) (fun _ y I=>?_)
  ⟨0,rfl,b,R,by omega,fun i L G=>by rw[show i=n - 1 by omega]⟩
 ·obtain⟨e,rfl,l,d,ex,al⟩:=I
  have xz:x<=(arrOf y).size:=by rw[l.sz];omega
  refine bT (ask c l (show x<a0.size by omega) (show x - 1<a0.size by omega) ?_)
  by_cases g:rkAt rk (arrOf y) x<rkAt rk (arrOf y) (x - 1)
  ·simp only[g,decide_true,if_true];have J:∀xs:Array lP,(∀k,rkAt rk xs k=rkAt rk (arrOf y) k)->Dn rk xs (x+1):=fun xs hx i j v N=>by
    rw[hx,hx];rcases bE j x with jx|jx
    ·exact d i j v jx
    ·have C:j=x:=by omega
     subst C;rcases bE i (j - 1) with ij|ij
     ·have:=d i (j - 1) ij (by omega);omega
     ·have:i=j - 1:=by omega
      rw[this];omega
   have one:∀xs:Array lP,∀i,x+1 - (0+1)<=i->i<x+1->rkAt rk xs i=rkAt rk xs (x+1 - 1):=fun xs i L G=>by rw[show i=x+1 - 1 by omega]
   by_cases e0:e > 0
   ·simp only[e0,if_true];exact bT (k8 (c9 ⟨0,rfl,l.arr (lh _ _ _ _),J _ (Vh xz al),by omega,one _⟩))
   ·simp only[e0,if_false];exact c9 ⟨0,rfl,l,J _ (fun _=>rfl),by omega,one _⟩
  ·simp only[g,decide_false,aH,if_false];refine bT (ask c l (show x - 1<a0.size by omega) (show x<a0.size by omega) ?_)
   by_cases g2:rkAt rk (arrOf y) (x - 1)<rkAt rk (arrOf y) x
   ·simp only[g2,decide_true,if_true];exact c9 (h x e y l S (by omega) d ex al)
   ·simp only[g2,decide_false,aH,if_false];have u:rkAt rk (arrOf y) x=rkAt rk (arrOf y) (x - 1):=by omega
    refine c9 ⟨e+1,rfl,l,fun i j v N=>?_,by omega,fun i L G=>?_⟩
    ·rcases bE j x with jx|jx
     ·exact d i j v jx
     ·have C:j=x:=by omega
      subst C;rcases bE i (j - 1) with ij|ij
      ·have:=d i (j - 1) ij (by omega);omega
      ·have:i=j - 1:=by omega
       rw[this];omega
    ·rw[show x+1 - 1=x by omega]
     rcases bE i x with ix|ix
     ·rw[al i (by omega) ix,u]
     ·rw[show i=x by omega]
 ·obtain⟨e,rfl,l,d,ex,al⟩:=I
  rw[show max n m=m by omega]at *
  exact h m e y l nm (ay _) d ex al
theorem zlP(c:Cmp prog w A s kd rk a0)(u:m<=a0.size)(nm:n+1<=m)(b:Sb kd a0 z)(C:Dn rk (arrOf z) (n+1))
  (h:∀k y,Sb kd a0 y->1<=k->k<=m->Up rk (arrOf y) k->Q (some k) y):wpS (model prog w) A E s (descPart n m) Q z:=by
 unfold descPart;refine bT (uD (eP ⟨rfl,bT ?_⟩));refine zq3 c u (by omega) nm b C fun k e y l k1 k2 d I al=>?_
 have v:k<=(arrOf y).size:=by rw[l.sz];omega
 by_cases e0:e > 0
 ·simp only[e0,if_true];refine bT (k8 (zle c u (by omega) k2 (l.arr (lh _ _ _ _)) (fun i j G x=>?_) h))
  show rkAt rk (mirror (arrOf y) (k - (e+1)) k ((k - (k - (e+1))) / 2)) j<=rkAt rk (mirror (arrOf y) (k - (e+1)) k ((k - (k - (e+1))) / 2)) i
  rw[Vh v al,Vh v al];exact d i j G x
 ·simp only[e0,if_false];exact zle c u (by omega) k2 l d h
theorem zr4(c:Cmp prog w A s kd rk a0)(x:m<=a0.size)(I:1<=m)(b:Sb kd a0 z)
  (h:∀k y,Sb kd a0 y->1<=k->k<=m->Up rk (arrOf y) k->Q (some k) y):wpS (model prog w) A E s (countRun' 0 m) Q z:=by
 rw[countRun0_eq];refine bT (zpt c x (ay 1) I b (fun i j C G=>absurd C (by omega)) fun n L J u lt=>?_)
 by_cases en:n=m
 ·simp only[en,beq_self_eq_true,if_true];exact c9 (h m z b I (ay _) (en▸u))
 ·have v:(n == m)=false:=by simpa using en
  simp only[v,aH,if_false];have l:=lt (by omega)
  by_cases g:n > 1
  ·simp only[g,if_true];refine bT (ask c b (by omega) (by omega) ?_)
   by_cases rose:rkAt rk (arrOf z) 0<rkAt rk (arrOf z) (n - 1)
   ·simp only[rose,decide_true,if_true];exact c9 (h n z b L J u)
   ·simp only[rose,decide_false,aH,if_false];have zn:n<=(arrOf z).size:=by rw[b.sz];omega
    have al:∀k,0<=k->k<n->rkAt rk (arrOf z) k=rkAt rk (arrOf z) (n - 1):=fun k _ kn=>by
     have p:rkAt rk (arrOf z) 0<=rkAt rk (arrOf z) k:=by
      rcases lW k with k0|k0
      ·rw[k0];exact bf _
      ·exact u 0 k k0 kn
     have q:rkAt rk (arrOf z) k<=rkAt rk (arrOf z) (n - 1):=by
      rcases bE k (n - 1) with kk|kk
      ·exact u k (n - 1) kk (by omega)
      ·rw[show k=n - 1 by omega];exact bf _
     omega
    refine bT (k8 (zlP c x (by omega) (b.arr (lh _ _ _ _)) (fun i j C G=>?_) h))
    show rkAt rk (mirror (arrOf z) 0 n ((n - 0) / 2)) j<=rkAt rk (mirror (arrOf z) 0 n ((n - 0) / 2)) i
    rw[Vh zn al,Vh zn al];have R:=al i (by omega) (by omega)
    rcases bE j n with jn|jn
    ·have:=al j (by omega) jn;omega
    ·rw[show j=n by omega];omega
  ·simp only[g,if_false];have N:n=1:=by omega
   subst N;refine zlP c x (by omega) b (fun i j C G=>?_) h
   rw[show i=0 by omega,show j=1 by omega]
   exact eM l
theorem zpF(c:Cmp prog w A s kd rk a0)(b:Sb kd a0 z)(s2:2<=a0.size)(s64:a0.size<64)
  (h:∀y,(arrOf y).Perm a0->failedOf y=none->Up rk (arrOf y) a0.size->Q () y):wpS (model prog w) A E s sortRuns' Q z:=by
 rw[sortRuns'_eq];refine bT (mI ?_);have mr:minRun' a0.size a0.size 0=a0.size:=by
  obtain⟨q,hq⟩:∃q,a0.size=q+1:=⟨a0.size - 1,by omega⟩
  conv=>lhs;rw[hq]
  rw[minRun'_succ,if_pos (by omega)];omega
 simp only[b.sz,mr];refine bT (oJ (gK (Q:=fun c y=>c=(none,a0.size)/\(arrOf y).Perm a0/\failedOf y=none/\pendingOf y=#[(0,a0.size,0)]/\Up rk (arrOf y) a0.size)
  (I:=fun x c y=>(x=0/\c=(none,0)/\Sb kd a0 y)\/(0<x/\c=(none,a0.size)/\(arrOf y).Perm a0/\failedOf y=none/\pendingOf y=#[(0,a0.size,0)]/\Up rk (arrOf y) a0.size)) ?turn ?last (.inl ⟨rfl,rfl,b⟩)) ?post)
 case last =>
  rintro _ y (⟨x0,_⟩|⟨_,q⟩)
  ·omega
  ·exact q
 case turn =>
  rintro x _ y _ _ (⟨rfl,rfl,N⟩|⟨x1,rfl,q⟩)
  ·simp only[ge_iff_le,show ¬a0.size<=0 by omega,if_false,mJ,Nat.min_self,fk]
   have fin:∀C,Sb kd a0 C->Up rk (arrOf C) a0.size->(arrOf (setPending C ((pendingOf C).push (0,a0.size,0)))).Perm a0/\failedOf (setPending C ((pendingOf C).push (0,a0.size,0)))=none/\pendingOf (setPending C ((pendingOf C).push (0,a0.size,0)))=#[(0,a0.size,0)]/\Up rk (arrOf (setPending C ((pendingOf C).push (0,a0.size,0)))) a0.size :=
    fun C G R=>⟨G.pm,G.fl,by show(pendingOf C).push (0,a0.size,0)=_;rw[G.pe];rfl,R⟩
   refine bT (zr4 c (ay _) (by omega) N fun k S L k1 k2 U=>?_)
   by_cases g:k<a0.size
   ·simp only[g,if_true];refine bT (uD (eP ⟨rfl,bT ?_⟩));refine zux c (ay _) k2 L U fun C G R=>?_
    simp only[dS,aH,if_false];refine bT (mI ?_);have J:(pendingOf C).back?=none:=by rw[G.pe];rfl
    simp only[J];exact bT (oK (c9 (.inr ⟨by omega,rfl,fin C G R⟩)))
   ·simp only[g,if_false];have ek:k=a0.size:=by omega
    subst ek;refine bT (mI ?_);have J:(pendingOf S).back?=none:=by rw[L.pe];rfl
    simp only[J];exact bT (oK (c9 (.inr ⟨by omega,rfl,fin S L U⟩)))
  ·simp only[ge_iff_le,ay,if_true];exact c9 ⟨rfl,q⟩
 case post =>
  rintro _ y ⟨rfl,Y,q2,Z,q4⟩;refine bT (oJ (gK (Q:=fun c v=>v=y/\c=(none,())) (I:=fun _ c v=>v=y/\c=(none,())) (fun x _ v _ _ I=>?_) (fun _ _ I=>I) ⟨rfl,rfl⟩) fun _ v I=>?_)
  ·obtain⟨e,rfl⟩:=I;subst e;refine bT (mI ?_);simp only[Z,ax,aO,cx,ay,if_true];exact c9 ⟨rfl,rfl⟩
  ·obtain⟨e,rfl⟩:=I;subst e;exact c9 (h v Y q2 q4)
end
theorem znT{prog:aI}{w:aU}{A:bw}{E:qV}{s:au}{v:iG}{rk:ah->Int}{l:Array lP}{z:kZ}{Q:Unit->kZ->Prop}(c:Cmp prog w A s v rk l)(b:Sb v l z)(s2:2<=l.size)(u:l.size<64)
  (h:∀y,(arrOf y).Perm l->failedOf y=none->Up rk (arrOf y) l.size->Q () y):wpS (model prog w) A E s sortRuns' Q z:=zpF c b s2 u h
def midH(h:aS)(a:ak)(l:List ah):aS:=((h.update a (eR fun _=>#[])).push (seqObj "tuple" l.toArray 0)).push (seqObj "list" #[] 0)
section
variable{prog:aI}{w:aU}{A:bw}{E:qV}{s:au}{rk:ah->Int}
def Kinds(prog:aI)(w:aU)(A:bw)(s:au)(rk:ah->Int)(l:List ah):Prop:=2<=l.length->∃u,(∀(E:qV) (Q:iG->au->Prop),Q u s->wpAny (model prog w) A (keyKind' l.toArray) Q E s)/\Cmp prog w A s u rk (pairsOf l)
theorem zjD{a:ak}{l:List ah}{n:Nat}{P:Fin->au->Prop}(v:s.heap.get? a=some (seqObj "list" l.toArray n)) (x:l.length<64) (S:Kinds prog w A { s with heap:=midH s.heap a l } rk l)
  (h:∀y:kZ,(arrOf y).Perm (pairsOf l)->Up rk (arrOf y) l.length->P (.done (.ret .none)) { s with heap:=sortedHeap s.heap a l ((arrOf y).map (·.2)) }) :
  wpAny (model prog w) A (fM.«list.sort» ⟨[.ref a],[]⟩) P E s:=by
 rw[list_sort_plain];have L:a<s.heap.objs.size:=aA v;refine ae (fO v rfl (ae (lQ v rfl ?_)));obtain⟨u,I⟩:∃u,(s.heap.update a (eR fun _=>#[])).get? a=some (seqObj "list" #[] u):=⟨_,nU v (fun _=>#[])⟩
 refine ae (seqEpoch_at I rfl (ae (oM (ae (hG (bU ?_))))));have J:(midH s.heap a l).get? a=some (seqObj "list" #[] u):=by
  unfold midH;rw[ck _ _ _ (by rw[dM,cA];exact aF (aC L (iP _))),ck _ _ _ (by rw[cA];exact aF L)]
  exact I
 show wpAny (model prog w) A _ P E { s with heap:=midH s.heap a l }
 have z:l.toArray.size=l.length:=by simp
 have tail:∀(y:kZ),(arrOf y).Perm (pairsOf l)->failedOf y=none->Up rk (arrOf y) l.length->wpAny (model prog w) A (do
   let touched:=(<- seqEpoch a) != u
   rY (.ref a) fun _=>(arrOf y).map (·.2)
   if let some e:=failedOf y then rule "list.sort.comparison-raised";throw e
   if touched then rule "list.sort.modified";raiseError "ValueError" "list modified during sort"
   ret .none) P E { s with heap:=midH s.heap a l }:=fun y pm fl up=>by
  refine ae (seqEpoch_at J rfl (ae (lQ J rfl ?_ (hsz2:=?_))))
  ·rw[fl];simp only[bne_self_eq_false,aH,if_false];exact aj (h y pm up)
  ·rw[Array.size_map,pm.size_eq,kA];show l.length<=sizeLine+1
   have:64<=sizeLine:=by decide
   omega
 by_cases two:l.length<2
 ·simp only[z,two,if_true];refine ae (aj ?_);rw[StateT.run_pure];refine ae (aj ?_);exact tail (vX general' (l.toArray.zip l.toArray) #[] 7 none) (nV _) rfl fun i j U N=>absurd N (by omega)
 ·simp only[z,two,if_false];obtain⟨R,k1,k2⟩:=S (by omega)
  refine ae (k1 _ _ ?_);refine ae (cT (znT (Q:=fun _ y=>(arrOf y).Perm (pairsOf l)/\failedOf y=none/\Up rk (arrOf y) l.length) (z:=vX R (l.toArray.zip l.toArray) #[] 7 none) k2 ⟨nV _,rfl,rfl,rfl⟩ (by rw[kA];omega) (by rw[kA];exact x)
   fun y C p2 G=>⟨C,p2,by rwa [kA]at G⟩) ?_ fun _ _ e=>e)
  rintro⟨⟨⟩,y⟩ s' ⟨rfl,C,p2,G⟩;exact tail y C p2 G
theorem ze9{l:ak}{v:List ah}{o:Obj}{T:String}{n:Nat}{Q:List ah->au->Prop}(N:s.heap.get? l=some o)(hc:o.cls=.type T)(G:T = "list" \/ T = "tuple") (hd:o.data=.seq v.toArray n) (R:v.length<=sizeLine)
  (h:Q v { s with heap:=(s.heap.push (seqObj "list" #[] 0)).update s.heap.objs.size (eR (·++v.toArray)) }):wpAny (model prog w) A (collect (.ref l)) Q E s:=by
 unfold collect;refine ae (wpAny_runValue (kJ entry_proto_collect' ?_));show wpAny (model prog w) _ (newList [] >>= fun x=>again (.builtin "list.__iadd__" ⟨[x,.ref l],[]⟩)) _ _ s
 refine ae (hG (aj ⟨lX _ (by decide +kernel),kJ entry_list_iadd' ?_⟩))
 show wpAny (model prog w) _ (ib (.ref s.heap.objs.size) (.ref l) (.ref s.heap.objs.size)) _ _ { s with heap:=s.heap.push (seqObj "list" #[] 0) }
 unfold ib;have C:(s.heap.push (seqObj "list" #[] 0)).get? l=some o:=aq _ N;refine ae (fN (T:=T) ⟨o,C,hc⟩ ?_);have cond:∀b:Bool,(b||bu T == bu "list" ||bu T == bu "tuple")=true:=by
  intro b;have I:(bu "list" == bu "list")=true:=rfl;have J:(bu "tuple" == bu "tuple")=true:=rfl;rcases G with rfl|rfl
  ·rw[I];simp
  ·rw[J];simp
 rw[if_pos (cond _)];refine ae (fO C hd (ae (fO (xs:=#[]) (n:=0) (aD _ rfl) rfl ?_)));rw[if_neg (by simp)]
 refine ae (lQ (xs:=#[]) (n:=0) (aD _ rfl) rfl (aj ?_) (dQ _) (by simp only[Array.size_append,ax,cx];omega))
 refine ae (m:=load s.heap.objs.size) (wpAny_load (nU (aD _ rfl) _) ?_);show wpAny (model prog w) A (pure ((#[]:Array ah)++v.toArray).toList) Q E _
 have e:((#[]:Array ah)++v.toArray).toList=v:=by simp
 rw[e];exact aj h
def preH(h:aS)(l:List ah):aS:=((h.push (seqObj "list" #[] 0)).update h.objs.size (eR (·++l.toArray))).push (seqObj "list" l.toArray 0)
theorem zkm{l:ak}{v:List ah}{o:Obj}{T:String}{n:Nat}{Q:qV}(N:s.heap.get? l=some o)(hc:o.cls=.type T)(G:T = "list" \/ T = "tuple") (hd:o.data=.seq v.toArray n) (x:v.length<64)
  (L:∀I,Kinds prog w I { s with heap:=midH (preH s.heap v) (s.heap.objs.size+1) v } rk v)
  (h:∀y:kZ,(arrOf y).Perm (pairsOf v)->Up rk (arrOf y) v.length->Q (.ref (s.heap.objs.size+1)) { s with heap:=sortedAll s.heap v ((arrOf y).map (·.2)) }) :
  wpAny (model prog w) A (call (.builtin "sorted") [.ref l]) Q E s:=by
 refine iK kind_sorted plain_sorted entry_sorted (args_sorted1 _) ?_;unfold fM.«sorted»;refine ae (m:=checkCount "sorted" 1 1 _) (aj ?_);refine ae (ze9 N hc G hd (by have:64<=sizeLine:=(by decide);omega) (ae (hG ?_)))
 have z:((s.heap.push (seqObj "list" #[] 0)).update s.heap.objs.size (eR (·++v.toArray))).objs.size=s.heap.objs.size+1:=by rw[cA,dM]
 have C:(preH s.heap v).get? (s.heap.objs.size+1)=some (seqObj "list" v.toArray 0):=by
  unfold preH;rw[<- z];exact aD _ rfl
 show wpAny (model prog w) _ _ _ _ { s with heap:=preH s.heap v }
 rw[z];refine ae (bU (dW oN ⟨_,C,rfl⟩ nW (zjD C x (L _) fun y J p2=>⟨_,rfl,?_⟩) (oO _)))
 exact aj ⟨_,rfl,h y J p2⟩
end
section
variable{prog:aI}{w:aU}{A:bw}{E:qV}{s:au}
theorem zmq(b:Bool)(x y:ah):keyLt' (tuples' b) x y=(do
  let xs <- gL x
  let ys <- gL y
  for ((p,q),i) in (xs.toList.zip ys.toList).zipIdx do
   if !(<- eqBool p q) then return <- oneLt' (b&&i == 0) p q
  return decide (xs.size<ys.size)):=rfl
def LtAt(prog:aI)(w:aU)(A:bw)(s:au)(one:Bool)(p q:ah)(l:Bool):Prop:=∀(E:qV) (Q:Bool->au->Prop),Q l s->wpAny (model prog w) A (oneLt' one p q) Q E s
theorem zhC{b:Bool}{x y:ak}{R S:Obj}{v u C l:ah}{n m:Nat}{J G U N:Bool}{Q:Bool->au->Prop}(hx:s.heap.get? x=some R)(dx:R.data=.seq #[v,u] n)(Z:s.heap.get? y=some S)(Y:S.data=.seq #[C,l] m)
  (e0:lU A s v C J) (e1:lU A s u l G) (t0:J=false->LtAt prog w A s b v C U) (t1:G=false->LtAt prog w A s false u l N) (h:Q (if J=true then(if G=true then false else N) else U) s) :
  wpAny (model prog w) A (keyLt' (tuples' b) (.ref x) (.ref y)) Q E s:=by
 rw[zmq];refine ae (fO hx dx (ae (fO Z Y ?_)));have ez:((#[v,u]:Array ah).toList.zip (#[C,l]:Array ah).toList).zipIdx=[((v,C),0),((u,l),1)]:=rfl;simp only[ez,hW,lx];refine ae (ae ?_);refine ae (e0 prog w E _ ?_);cases J with
 | false =>
  simp only[eZ,if_true];have z0:(b&&(0:Nat) == 0)=b:=by simp
  rw[z0];refine ae (t0 rfl E _ ?_);exact aj (aj (aj (by simpa using h)))
 | true =>
  simp only[dS,aH,if_false];refine aj (ae (ae (e1 prog w E _ ?_)));cases G with
  | false =>
   simp only[eZ,if_true];have z1:(b&&(1:Nat) == 0)=false:=by simp
   rw[z1];refine ae (t1 rfl E _ ?_);exact aj (aj (aj (by simpa using h)))
  | true =>
   simp only[dS,aH,if_false];exact aj (aj (aj (by simpa using h)))
theorem zmf(a b:Int)(t u:Tok):LtAt prog w A s true (.int a t) (.int b u) (decide (a<b)):=fun _ _ q=>oneLt_int q
theorem zof(a b:Int)(t u:Tok):LtAt prog w A s false (.int a t) (.int b u) (decide (a<b)):=fun E Q q=>by
 rw[rZ];simp only[aH,if_false];refine ae (show wpAny (model prog w) A (compareOp .Lt (.int a t) (.int b u)) _ E s from lt_int ?_)
 exact bz q
def PrIn(h:aS)(u:ah)(b k:Int):Prop:=∃(a:ak) (o:Obj) (t t':Tok) (n:Nat),u=.ref a/\h.get? a=some o/\o.cls=.type "tuple" /\ o.data=.seq #[.int b t,.int k t'] n
def two?:List ah->Int
 | [.int b _,.int k _]=>b*1000+k
 | _=>0
def rkC(h:aS)(u:ah):Int:=match u with
 | .ref a=>match h.get? a with
  | some o=>match o.data with
   | .seq xs _=>two? xs.toList
   | _=>0
  | none=>0
 | _=>0
theorem PrIn.rk{h:aS}{u:ah}{b k:Int}(p:PrIn h u b k):rkC h u=b*1000+k:=by
 obtain⟨a,o,t,t',n,rfl,l,_,v⟩:=p;simp only[rkC,l,v,two?]
theorem PrIn.kept{h h':aS}{u:ah}{b k:Int}(p:PrIn h u b k)(kp:∀b o,h.get? b=some o->h'.get? b=some o):PrIn h' u b k:=by
 obtain⟨a,o,t,t',n,y,l,v,x⟩:=p;exact⟨a,o,t,t',n,y,kp _ _ l,v,x⟩
theorem Vg{α u:Type}{f:α->Sem u}{P:α->u->Prop}{M:rO}:∀(l:List α) {Q:List u->au->Prop},(∀v∈l,∀(C:u->au->Prop),(∀r,P v r->C r s)->wpAny M A (f v) C E s)->(∀rs,eh P l rs->Q rs s)->wpAny M A (l.mapM f) Q E s
 | [],_,_,h=>by rw[List.mapM_nil];exact aj (h _ .nil)
 | x::l,Q,hf,h=>by
  rw[List.mapM_cons];exact ae (hf x (.head _) _ fun r G=>ae (Vg l (fun v I=>hf v (.tail _ I)) fun rs y=>aj (h _ (.cons G y))))
theorem zj2(v:ah):firstOfTuple' v=(do
  if (<- typeOf v) != .type "tuple" then return none
  return (<- gL v)[0]?):=rfl
theorem zkU{R:List ah}{Q:iG->au->Prop}(Y:1<=R.length)(L:∀v∈R,∃b k,PrIn s.heap v b k)(h:Q (tuples' true) s):wpAny (model prog w) A (keyKind' R.toArray) Q E s:=by
 rw[keyKind'_eq,gM,map_eq_pure_bind];refine ae (ae (Vg (P:=fun _ r=>∃(b:Int) (t:Tok),r=some (.int b t)) R (fun v hv Q' hq=>?_) fun rs J=>aj ?_))
 ·obtain⟨b,k,a,o,t,t',n,rfl,U,e2,e3⟩:=L v hv;rw[zj2];refine ae (fN (T:="tuple") ⟨o,U,e2⟩ ?_);rw[if_neg (by decide)]
  exact ae (fO U e3 (aj (hq _ ⟨b,t,rfl⟩)))
 ·have al:∀r∈rs,∃(b:Int) (t:Tok),r=some (.int b t):=by
   clear h L Y;induction J with
   | nil=>intro r u;cases u
   | cons x y G =>
    intro r u;rcases aw.mp u with rfl|u
    ·exact x
    ·exact G r u
  have ln:rs.length=R.length:=by
   clear h L Y al;induction J with
   | nil=>rfl
   | cons x y G=>simp[G]
  have Ij:(rs.toArray.all fun x=>x.isSome)=true:=by
   simp only[gX,bp];intro x hx;obtain⟨b,t,rfl⟩:=al x hx
   rfl
  rw[if_pos Ij];refine ae (eP ?_);rw[nX];have N:rs.toArray.filterMap id=(rs.filterMap id).toArray:=by simp
  rw[N,gM,map_eq_pure_bind];refine ae (ae (ae (Vg (P:=fun _ r=>r=bu "int") _ (fun v hv Q' hq=>?_) fun ts C=>aj ?_)))
  ·obtain⟨x,hx,e⟩:=fg.mp hv;obtain⟨b,t,rfl⟩:=al x hx;cases e;exact aj (hq _ rfl)
  ·have I:∀r∈ts,r=bu "int":=by
    clear h L Y;generalize rs.filterMap id=l at C;induction C with
    | nil=>intro r u;cases u
    | cons x y G =>
     intro r u;rcases aw.mp u with rfl|u
     ·exact x
     ·exact G r u
   have ln2:ts.length=rs.length:=by
    have:ts.length=(rs.filterMap id).length:=by
     clear h L Y I;generalize rs.filterMap id=l at C;induction C with
     | nil=>rfl
     | cons x y G=>simp[G]
    rw[this];clear this C N Ij;clear ln J;induction rs with
    | nil=>rfl
    | cons x l G =>
     obtain⟨b,t,rfl⟩:=al x (.head _);simp only[df,id,aO];rw[G fun r u=>al r (.tail _ u)]
   obtain⟨Z,S,rfl⟩:∃Z S,ts=Z::S:=by
    cases ts with
    | nil=>simp at ln2;omega
    | cons a b=>exact⟨a,b,rfl⟩
   have U:Z=bu "int":=I Z (.head _);subst U;have Im:(((bu "int")::S).toArray.all fun x=>x == bu "int")=true:=by
    simp only[gX,bp];intro x hx;rw[I x hx];rfl
   have h0:((bu "int")::S).toArray[0]?=some (bu "int"):=by simp
   rw[h0];simp only[Im,if_true];refine aj (aj ?_);exact h
theorem ziT{l:List ah}{h0:aS}(C:∀v∈l,∃b k,PrIn s.heap v b k/\rkC h0 v=b*1000+k/\0<=k/\k<1000):Kinds prog w A s (rkC h0) l:=fun h2=>by
 refine⟨tuples' true,fun E Q q=>zkU (by omega) (fun v R=>?_) q,fun p q E Q mp U h=>?_⟩
 ·obtain⟨b,k,h,_⟩:=C v R;exact⟨b,k,h⟩
 ·have mem:∀z∈(pairsOf l).toList,z.1∈l:=fun z N=>by
   have:z∈l.zip l:=by simpa[pairsOf] using N
   exact(dJ this).1
  obtain⟨b,k,⟨a,o,t,t',n,e0,Y,e2,J⟩,r1,k0,k1⟩:=C _ (mem p mp);obtain⟨x,y,⟨a',o',u,G,n',f0,f1,f2,S⟩,I,k0',Z⟩:=C _ (mem q U);rw[r1,I]at h;rw[e0,f0];refine zhC Y J f1 S (iB b t x u) (iB k t' y G) (fun _=>zmf b x t u) (fun _=>zof k y t' G) ?_
  have:(if (b == x)=true then(if (k == y)=true then false else decide (k<y)) else decide (b<x))=decide (b*1000+k<x*1000+y):=by
   simp only[beq_iff_eq];split
   ·split
    ·symm;rw[decide_eq_false_iff_not];omega
    ·rw[decide_eq_decide];omega
   ·rw[decide_eq_decide];omega
  rw[this];exact h
end
theorem Wa{α v:Type}{l:List (α×v)}{m:List v}(h:m.Perm (l.map (·.2))):∃u:List (α×v),u.Perm l/\u.map (·.2)=m:=by
 induction m generalizing l with
 | nil =>
  have:l.map (·.2)=[]:=h.symm.eq_nil;cases l with
  | nil=>exact⟨[],.refl _,rfl⟩
  | cons a b=>simp at this
 | cons x m I =>
  have hx:x∈l.map (·.2):=h.mem_iff.mp (.head _);obtain⟨z,C,rfl⟩:=aN.mp hx;obtain⟨y,l2,rfl⟩:=List.append_of_mem C;have G:(z.2::m).Perm (z.2::(y++l2).map (·.2)):=by
   refine h.trans ?_;simp only[cR,bV];exact m7
  obtain⟨u,p,e⟩:=I (List.perm_cons _|>.mp G)
  exact⟨z::u,(p.cons z).trans m7.symm,by simp[e]⟩
theorem zkB{h:aS}{v:List ah}{b:ak}{o:Obj}(u:h.get? b=some o):(midH (preH h v) (h.objs.size+1) v).get? b=some o:=by
 have l:b<h.objs.size:=aA u;unfold midH preH;rw[ck _ _ _ (by rw[dM,cA,dM,cA,dM];exact aF (aC l (by lia))),ck _ _ _ (by rw[cA,dM,cA,dM];exact aF (aC l (by lia))),
  fY _ _ _ _ (by exact aF (aC l (by lia))),ck _ _ _ (by rw[cA,dM];exact aF (aC l (by lia))),fY _ _ _ _ (by exact aF (aC l (by lia))),ck _ _ _ (by exact aF (aC l (by lia)))]
 exact u
def rkD:af->Int
 | .tuple [.int b,.int k]=>b*1000+k
 | _=>0
def PrV(K:qF)(H:Hp)(z:V×af):Prop:=∃q b k,z.1=.ref q/\z.2=.tuple [.int b,.int k]/\SqT K H q [.int b,.int k]/\0<=k/\k<1000
section
variable{X:Cx}
theorem zh_:JO X (.builtin "sorted") (fun xs H Q=>∃(p:ak) (zs:List (V×af)),xs=[.ref p]/\(SqL X.K H p (zs.map (·.1))\/SqT X.K H p (zs.map (·.1)))/\zs.length<64/\(∀z∈zs,PrV X.K H z) /\
  ∀N:List (V×af),N.Perm zs->N.Pairwise (fun a b=>rkD a.2<=rkD b.2)->∀l,H l=none->Q (.ref l) (upd H l (.lst (N.map (·.1))))):=by
 intro pins s σ H xs us Q I r h;obtain⟨p,zs,rfl,Y,h64,hp,q⟩:=h;obtain⟨u,rfl,rx⟩:=vals1 r;cases rx;have key:∀(C:List ah) (o:Obj) (T:String) (n:Nat),Vals (zs.map (·.1)) C->s.heap.get? p=some o->o.cls=.type T->(T = "list" \/ T = "tuple")->o.data=.seq C.toArray n -> 
   wpAny (model X.prog X.w) X.A (call (.builtin "sorted") [.ref p]) (EP X pins σ Q) X.xe s:=fun C o T n rv S hc hT hd=>by
  have hlen:zs.length=C.length:=by simpa using rv.length
  have each:∀x∈zs.zip C,RelV x.1.1 x.2/\∃b k,PrIn s.heap x.2 b k/\x.1.2=.tuple [.int b,.int k]/\0<=k/\k<1000:=by
   have rel:∀(zs:List (V×af)) (C:List ah),Vals (zs.map (·.1)) C->∀x∈zs.zip C,RelV x.1.1 x.2:=by
    intro zs;induction zs with
    | nil=>intro C _ x hx;simp at hx
    | cons z zs ih =>
     intro C r x hx;cases r with
     | cons Z r2 =>
      rcases aw.mp (by simpa using hx) with rfl|hx
      ·exact Z
      ·exact ih _ r2 x hx
   intro x hx;have Z:=rel zs C rv x hx;obtain⟨q',b,k,e1,e2,e3,k0,k1⟩:=hp x.1 (dJ hx).1;refine⟨Z,b,k,?_,e2,k0,k1⟩;rw[e1]at Z;obtain⟨is,rs,⟨o',f1,f2,n',f3⟩,_⟩:=I.tuple e3;cases rs with
   | cons a1 a2 =>
    cases a2 with
    | cons a3 a4 =>
     cases a4;obtain⟨t,rfl⟩:=a1;obtain⟨t',rfl⟩:=a3;exact⟨q',o',t,t',n',Z,f1,f2,f3⟩
  refine zkm (rk:=rkC s.heap) S hc hT hd (by lia) (fun A'=>ziT fun v hv=>?_) fun y pm up=>?_
  ·obtain⟨i,hi,rfl⟩:=aW hv;have hz:i<zs.length:=by lia
   have mem:(zs[i],C[i])∈zs.zip C:=by
    have:(zs.zip C)[i]'(by simp;lia)=(zs[i],C[i]):=by simp
    rw[<- this];exact dz _
   obtain⟨_,b,k,h1,_,k0,k1⟩:=each _ mem;exact⟨b,k,h1.kept fun _ _ e=>zkB e,h1.rk,k0,k1⟩
  ·have J:(arrOf y).toList.Perm (C.zip C):=by
    have:=fK.mp pm;simpa[pairsOf] using this
   have pm1:((arrOf y).toList.map (·.2)).Perm ((zs.zip C).map (·.2)):=by
    refine(J.map _).trans ?_;rw[dY (by lia),dY (by lia)]
   obtain⟨G,p1,p2⟩:=Wa pm1;have HS:∀x∈G,RelV x.1.1 x.2/\∃b k,PrIn s.heap x.2 b k/\x.1.2=.tuple [.int b,.int k]/\0<=k/\k<1000:=fun x hx=>each x (p1.mem_iff.mp hx)
   have pz:(G.map (·.1)).Perm zs:=by
    have:=p1.map (·.1)
    rwa [gY (by lia)]at this
   have rw':Vals ((G.map (·.1)).map (·.1)) (G.map (·.2)):=by
    have:∀G:List ((V×af)×ah),(∀x∈G,RelV x.1.1 x.2)->Vals ((G.map (·.1)).map (·.1)) (G.map (·.2)):=by
     intro G;induction G with
     | nil=>intro _;exact .nil
     | cons a l ih=>intro h;exact .cons (h a (.head _)) (ih fun x hx=>h x (.tail _ hx))
    exact this G fun x hx=>(HS x hx).1
   have U:∀x∈G,rkC s.heap x.2=rkD x.1.2:=fun x hx=>by
    obtain⟨_,b,k,h1,h2,_⟩:=HS x hx;rw[h1.rk,h2];rfl
   have HU:∀z∈(arrOf y).toList,z.1=z.2:=fun z hz=>by
    have:z∈C.zip C:=J.mem_iff.mp hz;obtain⟨i,hi,rfl⟩:=aW this;simp
   have szy:(arrOf y).size=C.length:=by
    have:=J.length_eq;simpa using this
   have pw:(G.map (·.1)).Pairwise (fun a b=>rkD a.2<=rkD b.2):=by
    rw[dH,aR];intro i j hi hj hij;have lw:G.length=C.length:=by
     have:=congrArg dP p2;simpa[szy] using this
    have gw:∀k (hk:k<G.length),rkAt (rkC s.heap) (arrOf y) k=rkD G[k].1.2:=fun k hk=>by
     have R:k<(arrOf y).size:=by lia
     have e1:(arrOf y).toList[k]'(by simpa using R)=(arrOf y)[k]:=by simp
     have e2:G[k].2=(arrOf y)[k].2:=by
      have:(G.map (·.2))[k]'(by simpa using hk)=((arrOf y).toList.map (·.2))[k]'(by simpa using R):=by simp only[p2]
      simpa using this
     have e3:(arrOf y)[k].1=(arrOf y)[k].2:=HU _ (by rw[<- e1];exact dz _)
     unfold rkAt;rw[fV R];simp only[gp,dX];rw[e3,<- e2];exact U _ (dz _)
    have:=up i j hij (by lia)
    rwa [gw i hi,gw j hj]at this
   have ev:(arrOf y).map (·.2)=(G.map (·.2)).toArray:=by
    apply m8.mp;rw[m9,p2]
   rw[ev];obtain⟨e,he⟩:=sortedAll_at s.heap C (G.map (·.2)).toArray;refine⟨.ref (s.heap.objs.size+1),_,I.laid (a:=s.heap.objs.size+1) (o:=.lst ((G.map (·.1)).map (·.1))) (t':=s.toks) (fun _ _=>sortedAll_old) (iP _) ?_,rfl,q _ pz pw _ (I.hok.fresh (iP _))⟩
   refine⟨?_,G.map (·.2),e,rw',he⟩;have:64<=sizeLine:=by decide
   have:=pz.length_eq;simp at this ⊢;lia
 rcases Y with Y|Y
 ·obtain⟨C,r',pl,hz⟩:=I.list Y;obtain⟨o,S,hc,n,hd⟩:=pl.isList;exact key C o "list" n r' S hc (.inl rfl) hd
 ·obtain⟨C,r',pl,hz⟩:=I.tuple Y;obtain⟨o,S,hc,n,hd⟩:=pl;exact key C o "tuple" n r' S hc (.inr rfl) hd
end
def IsPr(t:af):Prop:=∃b k:Int,t=.tuple [.int b,.int k]/\0<=k/\k<1000
def Zu(t:af)(R:List af->Prop):Prop:=JV t fun ts=>ts.length<64/\(∀x∈ts,IsPr x)/\∀l:List af,l.Perm ts->l.Pairwise (fun a b=>rkD a<=rkD b)->R l
def zq8(d:DTE):DTA:=fun u n R=>d u n fun t l=>Zu t fun ts=>R ts l
section
variable{X:Cx}{e:aT}{d:DTE}{pos p:Pos}{k:Nat}
theorem ze5(hr:Room k X.A)(hm:X.mg "sorted" = none) (h:DL X e d) (hs:starEach [e] X.env=[(false,eval e X.env)]) (hg:Gl X "sorted":=by rfl):DN X (.Call (.Name "sorted" p) [e] [] pos) (zq8 d):=by
 obtain⟨ta,pa,h⟩:=h;refine⟨_,UG zh_ hm boot_sorted (Qg pa QD hs) hg,fun C Z σ H n Q R S hd hq=>?_⟩
 refine h C Z σ H n _ _ S hd fun t n1 v G r1 e1 h1 q1=>?_
 have S1:=S.on e1 h1;have fin:∀p u ts,Reps X.K C.hd (Own C Z σ) G u ts->R ts n1->G p=none->Q (.ref p) (upd G p (.lst u)):=fun p u ts rp rr U=>by
  have hp0:H p=none:=by
   cases z:H p with
   | none=>rfl
   | some o =>
    by_cases y:C.hd=some p
    ·obtain⟨d,m,t,q,_⟩:=h1 p y;rw[U]at q;cases q
    ·rw[e1 p o z y]at U;cases U
  refine hq ts n1 p u _ rr (e1.trans (ExtE.new U)) (h1.same (JP U)) hp0 JN ?_;refine rp.mono (fun b o hb z=>z.elim id fun z=>?_) fun b o _ hb=>JP U b o hb
  subst z;rw[U]at hb;cases hb
 have go:∀(p:ak) u ts,(SqL X.K G p u\/SqT X.K G p u)->Reps X.K C.hd (Own C Z σ) G u ts->(ts.length<64/\(∀x∈ts,IsPr x)/\∀L:List af,L.Perm ts->L.Pairwise (fun a b=>rkD a<=rkD b)->R L n1) ->
   ∃(p':ak) (zs:List (V×af)),[V.ref p]=[V.ref p']/\(SqL X.K G p' (zs.map (·.1))\/SqT X.K G p' (zs.map (·.1)))/\zs.length<64/\(∀z∈zs,PrV X.K G z) /\
  ∀I:List (V×af),I.Perm zs->I.Pairwise (fun a b=>rkD a.2<=rkD b.2)->∀l,G l=none->Q (.ref l) (upd G l (.lst (I.map (·.1)))):=fun p u ts hs rp h=>by
  have ln:=rp.length;have rel:∀z∈u.zip ts,Rep X.K C.hd (Own C Z σ) G z.1 z.2:=fun z Y=>by
   obtain⟨i,hi,rfl⟩:=aW Y;have hi2:i<ts.length:=by simp at hi;lia
   obtain⟨v,h1,h2⟩:=rp.get (aE hi2);have hi1:i<u.length:=by lia
   rw[aE hi1]at h1;cases h1;simpa using h2
  refine⟨p,u.zip ts,rfl,?_,by simp;lia,fun z Y=>?_,fun I pm pw l hl=>?_⟩
  ·rw[gY (by lia)];exact hs
  ·obtain⟨b,k,e,k0,k1⟩:=h.2.1 z.2 (dJ Y).2;have r:=rel z Y;rw[e]at r;obtain⟨a,ws,e1,e2,e3⟩:=r.tupI;cases e3 with
   | cons x1 x2 =>
    cases x2 with
    | cons x3 x4 =>
     cases x4;rw[x1.intI,x3.intI]at e2;exact⟨a,b,k,e1,e,e2,k0,k1⟩
  ·refine fin l _ (I.map (·.2)) ?_ (h.2.2 _ ?_ ?_) hl
   ·have:∀zs:List (V×af),(∀z∈zs,Rep X.K C.hd (Own C Z σ) G z.1 z.2)->Reps X.K C.hd (Own C Z σ) G (zs.map (·.1)) (zs.map (·.2)):=by
     intro zs;induction zs with
     | nil=>intro _;exact .nil
     | cons a l ih=>intro h;exact .cons (h a (.head _)) (ih fun x hx=>h x (.tail _ hx))
    exact this I fun z Y=>rel z (pm.mem_iff.mp Y)
   ·have:=pm.map (·.2)
    rwa [dY (by lia)]at this
   ·rw[dH];exact pw
 cases t with
 | list ts =>
  obtain⟨p,u,rfl,J,h2⟩:=q1.lstI;exact go p u ts (.inl (.of J)) h2 r1
 | tuple ts =>
  obtain⟨p,u,rfl,J,h2⟩:=q1.tupI;exact go p u ts (.inr J) h2 r1
 | _=>exact r1.elim
end
abbrev prD(b:Int×Int):af:=.tuple [.int b.1,.int b.2]
def pD(bs:qB):List af:=bs.map prD
theorem JA{bs:qB}:(pD bs).length=bs.length:=by simp[pD]
theorem VC{bs cs:qB}:pD bs++pD cs=pD (bs++cs):=by simp[pD]
theorem UL{i h:Int}{bs:qB}:pD bs++[.tuple [.int i,.int h]]=pD (bs++[(i,h)]):=by simp[pD]
theorem Y0{bs:qB}{k:Nat}{t:af}(h:(pD bs)[k]?=some t):∃i g:Int,bs[k]?=some (i,g)/\t=.tuple [.int i,.int g]:=by
 unfold pD at h;rw[aZ]at h;cases e:bs[k]? with
 | none=>rw[e]at h;cases h
 | some b=>rw[e]at h;cases h;exact⟨b.1,b.2,rfl,rfl⟩
def eB(b:Int×Int):Int:=b.1+2 ^ b.2.toNat
def Bks(bits:Int)(bs:qB):Prop:=∀b∈bs,IsBk bits b.1 b.2
def Ptc(bits:Int)(bs:qB):Prop:=Bks bits bs/\bs.Pairwise fun a b=>eB a<=b.1
theorem QJ(b:Int×Int):b.1<eB b:=by have:=Bd.Qz b.2.toNat;unfold eB;lia
theorem Ptc.ends{bits:Int}{bs:qB}(P:Ptc bits bs):bs.Pairwise fun a b=>eB a<=eB b:=P.2.imp fun {a b} h=>by have:=QJ b;lia
theorem zsO{bs:qB}:Okd (.list (pD bs)):=by
 have:∀bs:List (Int×Int),bo (pD bs)=true/\bL (pD bs)<=1:=by
  intro bs;induction bs with
  | nil=>exact⟨by simp[pD,bo],by simp[pD,bL]⟩
  | cons b l u =>
   refine⟨?_,?_⟩
   ·have:=u.1;simp only[pD,bV,bo,bc,gj,cO]at this ⊢;exact this
   ·have:=u.2;simp only[pD,bV,bL,cC]at this ⊢;lia
 exact⟨by simp only[bc];exact(this bs).1,by simp only[cC];have:=(this bs).2;lia⟩
theorem ziG:Okd (.list []):=⟨by simp[bc,bo],by simp[cC,bL]⟩
theorem zqJ{d:DTE}{l:En}{n:Nat}{Rl:List af->Nat->Prop}(h:d l n fun t u=>Zu t fun ts=>Rl ts u):zq8 d l n Rl:=h
theorem ztg{bits:Int}{bs:qB}{Rl:List af->Prop}(C:bits<=64)(B:Bks bits bs)(L:bs.Pairwise fun a b=>eB a<=b.1\/eB b<=a.1)(I:bs.length<64)
  (h:∀cs,Ptc bits cs->cs.Perm bs->Rl (pD cs)):Zu (.list (pD bs)) Rl:=by
 refine⟨by rw[JA];exact I,fun x hx=>?_,fun y pm pw=>?_⟩
 ·obtain⟨b,G,rfl⟩:=aN.mp hx;have:=B b G;exact⟨b.1,b.2,rfl,this.1,by have:=this.2.1;lia⟩
 ·have N:y.Perm ((bs.map fun b=>(b,prD b)).map (·.2)):=by
   have:(bs.map fun b=>(b,prD b)).map (·.2)=pD bs:=by simp[pD]
   rw[this];exact pm
  obtain⟨zs,S,p2⟩:=Wa N;have Y:∀z∈zs,z.2=prD z.1:=fun z J=>by
   obtain⟨b,_,rfl⟩:=aN.mp (S.mem_iff.mp J)
   rfl
  have e:y=pD (zs.map (·.1)):=by
   rw[<- p2];unfold pD;rw[cQ];exact ia fun z J=>Y z J
  have pc:(zs.map (·.1)).Perm bs:=by
   have:=S.map (·.1);rw[cQ]at this;have Z:bs.map ((fun x:(Int×Int)×af=>x.1)∘fun b=>(b,prD b))=bs:=by
    show bs.map id=bs
    exact uJ _
   rwa [Z]at this
  rw[e];have u:(zs.map (·.1)).Pairwise fun a b=>eB a<=b.1\/eB b<=a.1:=(pc.pairwise_iff (fun {a b} h=>h.symm)).mpr L
  have v:Bks bits (zs.map (·.1)):=fun b C=>B b (pc.mem_iff.mp C)
  rw[e]at pw;unfold pD at pw;rw[dH]at pw;refine h _ ⟨v,?_⟩ pc;have both:=wU u pw;refine gk ?_ both;rintro a b U C ⟨h1,R⟩;have R:a.1*1000+a.2<=b.1*1000+b.2:=R;have a0:=(v a U).1;have a1:=(v a U).2.1;have b0:=(v b C).1;have b1:=(v b C).2.1;have:=QJ a;have:=QJ b;lia
theorem zuu{tg:DTG}{tt:DTT}{d:DTE}{ρ0:En}{Rl:List af->Nat->Prop}(Inv:Nat->List af->Nat->Prop):∀(xs:qD) (i:Nat) {v:qD}{n:Nat},Inv i v n ->
  (∀(k:Nat) (x:af) (v:qD) (n:Nat) (K:List af->Nat->Prop),xs[k]?=some x->Inv (i+k) v n->(∀y C,Inv (i+k+1) y C->K y C) ->
   tg x ρ0 fun G=>tt G n fun b I=>if b=true then d G I fun t J=>v.length<16777216/\K (v++[t]) J else K v I) ->
  (∀v n,Inv (i+xs.length) v n->Rl v n)->JQ tg tt d ρ0 xs v n Rl
 | [],i,v,n,h0,_,fin=>fin v n (by simpa using h0)
 | x::xs,i,v,n,h0,turn,fin=>by
  refine turn 0 x v n (fun v n=>JQ tg tt d ρ0 xs v n Rl) rfl (by simpa using h0) fun y C h'=>?_
  refine zuu Inv xs (i+1) (by simpa using h') (fun k u v n K e L N=>?_) (fun v n h=>fin v n ?_)
  ·refine turn (k+1) u v n K (by simpa using e) ?_ fun y C h'=>N y C ?_
   ·have:i+(k+1)=i+1+k:=by lia
    rw[this];exact L
   ·have:i+1+k+1=i+(k+1)+1:=by lia
    rw[this];exact h'
  ·have:i+(x::xs).length=i+1+xs.length:=by simp;lia
   rw[this]at *;exact h
theorem ZV{tg:DTG}{tt:DTT}{d:DTE}{ρ0:En}{Rl:List af->Nat->Prop}{xs:qD}{n:Nat}(Inv:Nat->List af->Nat->Prop)(h0:Inv 0 [] n)
  (turn:∀(k:Nat) (x:af) (l:qD) (n:Nat) (K:List af->Nat->Prop),xs[k]?=some x->Inv k l n->(∀u y,Inv (k+1) u y->K u y) ->
   tg x ρ0 fun v=>tt v n fun b C=>if b=true then d v C fun t G=>l.length<16777216/\K (l++[t]) G else K l C)
  (fin:∀l n,Inv xs.length l n->Rl l n):JQ tg tt d ρ0 xs [] n Rl :=
 zuu Inv xs 0 h0 (fun k x l n K e I J=>turn k x l n K e (by simpa using I) fun a m h=>J a m (by simpa using h)) fun l n h=>fin l n (by simpa using h)
theorem QN{α:Type}{cs:List α}{D:α->af}{tg:DTG}{tt:DTT}{d:DTE}{ρ0:En}{n:Nat}{Rl:List af->Nat->Prop}(F:α->af)(C:cs.length<=16777216)
  (step:∀b∈cs,∀(K:qN) (X:Nat->Prop),K (F b) n->tg (D b) ρ0 fun u=>tt u n fun c y=>if c=true then d u y K else X y) (fin:Rl (cs.map F) n):JQ tg tt d ρ0 (cs.map D) [] n Rl:=by
 refine ZV (fun j l m=>m=n/\l=(cs.take j).map F) ⟨rfl,rfl⟩ ?_ ?_
 ·rintro j x l m K v ⟨rfl,rfl⟩ hK;rw[aZ]at v;cases eb:cs[j]? with
  | none=>rw[eb]at v;cases v
  | some b =>
   rw[eb]at v;cases v;obtain⟨G,I⟩:=av.mp eb;refine step b (aV eb) _ _ ⟨?_,hK _ _ ⟨rfl,?_⟩⟩
   ·simp;lia
   ·rw[e8,eb];simp
 ·rintro l m ⟨rfl,rfl⟩;rw[aM,dZ];exact fin
theorem zwP{bs:List Bool}{R:af->Prop}(h:R (.bool (bs.all id))):bAll [.list (bs.map bO)] R:=⟨bs,rfl,h⟩
theorem VO{α:Type}{cs:List α}{f:α->Bool}{R:af->Prop}(h:R (.bool (cs.all f))):bAll [.list (cs.map fun b=>bO (f b))] R:=by
 have e:(cs.map fun b=>bO (f b))=(cs.map f).map bO:=by simp
 rw[e];refine zwP ?_;have u:(cs.map f).all id=cs.all f:=by simp[List.all_map,gF]
 rw[u];exact h
theorem zwy{xs:qD}{k:Nat}{x:af}{R:af->Prop}(e:xs[k]?=some x)(h:R x):oIx (.tuple xs) (.int (k:Int)) R:=by
 have v:k<xs.length:=by
  rcases bE k xs.length with z|z
  ·exact z
  ·rw[bX z]at e;cases e
 rw[Zx (x:=x)]
 ·exact h
 ·unfold atI ixN;have:((0:Int)<=(k:Int)):=by lia
  have:((k:Int)<(xs.length:Int)):=by lia
  have y:xs[k]=x:=by rw[aE v]at e;exact aL e
  simp[v,y]
theorem Zt{xs:qD}{i:Int}{k:Nat}{x:af}{R:af->Prop}(hi:i=(k:Int))(e:xs[k]?=some x)(h:R x):oIx (.tuple xs) (.int i) R:=by subst hi;exact zwy e h
theorem zp4{bs:qB}{k:Nat}{b:Int×Int}(h:bs[k]?=some b):(pD bs)[k]?=some (.tuple [.int b.1,.int b.2]):=by
 unfold pD;rw[aZ,h];rfl
theorem zqW{bs:qB}:cg (.list (pD bs)) (.list [])=bs.isEmpty:=by
 cases bs with
 | nil=>simp[pD,cg,dB]
 | cons b l=>simp[pD,cg,dB]
theorem Uk{many:Int}{n:Nat}{R:qN}(h0:0<many)(l:many<2 ^ 128)(u:n<=1000000000000)(h:∀r:Int,0<=r->r<many->R (.int r) (n+1)):U3 [HAND,.int many] n R:=⟨rfl,h0,l,u,h⟩
theorem zkz{i h:Int}:JT (.tuple [.int i,.int h])=true:=by simp[JT,ZK]
theorem Bks.app{bits i h:Int}{bs:qB}(B:Bks bits bs)(C:IsBk bits i h):Bks bits (bs++[(i,h)]):=fun b l=>by
 rcases aB.mp l with z|z
 ·exact B b z
 ·cases az.mp z;exact C
section
variable{prog:aI}{w:aU}{A:bw}{E:qV}{s:au}
open HT in
theorem zc6{t C:ak}{items:Array ah}{G J:ah}{lo hi:Option Int}{Q:qV}(l:l5 s.heap t items)(I:s.heap.IsSliceOf C G J .none)(pl:iV G lo)(N:iV J hi)
  (hw:HT.sIx items.size 0 lo=0/\HT.sIx items.size items.size hi=items.size) (h:Q (.ref t) s):wpAny (model prog w) A (getItem (.ref t) (.ref C)) Q E s:=by
 obtain⟨os,y,x,L⟩:=id I;have v:s.TypeIs (.ref C) "slice":=⟨os,y,x⟩;unfold getItem
 try with_reducible refine bU ?_
 first|refine ae (aj ?_)|skip
 refine ae (mn l.typeIs (by decide) ?_)
 refine ae (dG (name:=aa "__getitem__") l.typeIs bW
  (dW bW l.typeIs lH ?_ (lV _ _)))
 show wpAny _ _ (iF (.ref t) >>= _) _ _ s
 refine ae (tupleItemsOf_ l ?_);refine ae (fN v ?_);rw[if_pos (by decide)]
 refine ae (HT.zci I pl N ?_);have u:(((HT.sIx items.size 0 lo:Nat):Int) == 0&&(1:Int) == 1&&(HT.sIx items.size items.size hi - HT.sIx items.size 0 lo) == items.size)=true:=by
  rw[hw.1,hw.2];simp
 show wpAny _ _ (if (((HT.sIx items.size 0 lo:Nat):Int) == 0&&(1:Int) == 1&&(HT.sIx items.size items.size hi - HT.sIx items.size 0 lo) == items.size)=true then _ else _) _ _ s
 rw[if_pos u];unfold oP;refine ae (ae (fN l.typeIs (aj ?_)));rw[if_pos (by decide)]
 exact ae (eP (aj ⟨_,rfl,aj h⟩))
end
section
variable{X:Cx}
def rSlW(K:qF):V->Option Int->Option Int->Hp->VK->Prop:=fun x lo hi H Q=>∃a xs,x=.ref a/\SqT K H a xs/\(HT.sIx xs.length 0 lo=0/\HT.sIx xs.length xs.length hi=xs.length)/\Q (.ref a) H
theorem zpA:SlR X (rSlW X.K):=by
 intro pins s σ H x v N R lo hi S Q I C G pl J h;obtain⟨a,xs,rfl,hx,hw,q⟩:=h;cases C;obtain⟨u,r,y,L⟩:=I.tuple hx;have l:u.toArray.size=xs.length:=by rw[ax];exact r.length.symm
 refine⟨"tuple",_,bW.lookup,y.typeIs,?_⟩;exact zc6 y G pl J (by rw[l];exact hw) ⟨.ref a,H,I,rfl,q⟩
end
abbrev DTO:=En->Nat->(Option Int->Nat->Prop)->Prop
def DP(X:Cx)(e:Option aT)(d:DTO):Prop:=∃t,PO X e t/\∀(C:Ctx) (v:En) (σ:St) (H:Hp) (n:Nat) (Q:Option Int->Hp->Prop) (R:Option Int->Nat->Prop),Stt X.K C v σ H n->d v n R ->
 (∀o u l,R o u->ExtE C.hd H l->Hn C.hd l u->Q o l)->t σ H Q
def zi8:DTO:=fun l n R=>R none n
def zq9(d:DTE):DTO:=fun u n R=>d u n fun t l=>lInt t fun i=>R (some i) l
def cutD(ts:qD)(lo hi:Option Int):List af:=(ts.drop (HT.sIx ts.length 0 lo)).take (HT.sIx ts.length ts.length hi - HT.sIx ts.length 0 lo)
def lSl(t:af)(lo hi:Option Int)(R:List af->Prop):Prop:=match t with
 | .list ts=>R (cutD ts lo hi)
 | _=>False
def dSlL(d:DTE)(dl v:DTO):DTA:=fun l n R=>d l n fun t u=>dl l u fun lo x=>v l x fun hi y=>lSl t lo hi fun z=>R z y
section
variable{X:Cx}{e:aT}{d:DTE}{lo hi:Option aT}{dlo dhi:DTO}{pos p2:Pos}
theorem Qs:DP X none zi8:=⟨_,zpQ,fun C u σ H n Q R S h l=>l none n H h ExtE.refl S.hnd⟩
theorem Qt(h:DE X e d):DP X (some e) (zq9 d):=by
 obtain⟨N,pa,h⟩:=h;refine⟨_,zpP pa,fun C y σ H n Q R S hd L=>?_⟩
 refine h C y σ H n _ _ S hd fun t G v x l I J u=>?_
 cases t with
 | int i =>
  cases u;exact⟨i,rfl,L (some i) G x l I J⟩
 | _=>exact l.elim
theorem zj6{K:qF}{hd:Option ak}{O:ak->Prop}{H:Hp}{vs ts}(r:Reps K hd O H vs ts)(lo hi:Option Int):Reps K hd O H (cutV vs lo hi) (cutD ts lo hi):=by
 unfold cutV cutD;rw[r.length];exact(r.drop _).take _
theorem zk0{ts:qD}{lo hi:Option Int}(h:HT.sIx ts.length 0 lo=0/\HT.sIx ts.length ts.length hi=ts.length):cutD ts lo hi=ts:=by
 unfold cutD;rw[h.1,h.2];simp
theorem V6(h:DL X e d)(G:DP X lo dlo)(U:DP X hi dhi):DN X (.Subscript e (.Slice lo hi none p2) pos) (dSlL d dlo dhi):=by
 obtain⟨ta,pa,h⟩:=h;obtain⟨tl,pl,G⟩:=G;obtain⟨tu,pu,U⟩:=U;refine⟨_,zjv zpB pa pl pu,fun C J σ H n Q R S hd hq=>?_⟩
 refine h C J σ H n _ _ S hd fun t n1 v H1 r1 e1 h1 q1=>?_
 have Y:=S.on e1 h1;refine G C J σ H1 n1 _ _ Y r1 fun lo n2 H2 r2 L h2=>?_
 have Z:=Y.on L h2;refine U C J σ H2 n2 _ _ Z r2 fun hi n3 H3 r3 I N=>?_
 have S3:=Z.on I N;have q3:=(L.trans I).repT S.hx q1;cases t with
 | list ts =>
  obtain⟨a,vs,rfl,hs,rs⟩:=q3.lstI;refine⟨a,vs,rfl,.of hs,fun p x=>?_⟩
  have e:=e1.trans (L.trans I);refine hq _ n3 p _ _ r3 (e.trans (ExtE.new x)) (N.same (JP x)) (VZ e N x) JN ?_;refine(zj6 rs lo hi).mono (fun b o y z=>z.elim id fun z=>?_) fun b o _ y=>JP x b o y
  subst z;rw[x]at y;cases y
 | _=>exact r3.elim
end
structure NxS(prog:aI)(w:aU)(i a:ak)(IT:Nat->aS->Prop)(SQ:aS->Array ah->Prop):Prop where
 rcd:∀k h,IT k h->∃o,h.get? i=some o/\∀v,o.data≠.cell v
 keep:∀k h h',IT k h->(∀o,h.get? i=some o->h'.get? i=some o)->IT k h'
 sk:∀h h' xs,SQ h xs->(∀o,h.get? a=some o->h'.get? a=some o)->SQ h' xs
 item:∀(A:bw) (E:qV) (k:Nat) (xs:Array ah) (x:ah) (s:au) (Q:qV),IT k s.heap->SQ s.heap xs->xs[k]?=some x ->
  (∀h',IT (k+1) h'->dO i s.heap h'->Q x { s with heap:=h' })->wpAny (model prog w) A (br (.ref i)) Q E s
 done:∀(A:bw) (E:qV) (k:Nat) (xs:Array ah) (s:au) (Q:qV),A.handled=none->IT k s.heap->SQ s.heap xs->xs[k]?=none ->
  (∀h' e,uK i s.heap h'->(∃o,h'.get? e=some o/\o.cls=.type "StopIteration")->E (.ref e) { s with heap:=h' })->wpAny (model prog w) A (br (.ref i)) Q E s
theorem zql{prog:aI}{w:aU}{i a:ak}:NxS prog w i a (fun k h=>h.IsListIter i a k) (fun h xs=>h.IsList a xs) where
 rcd:=fun k h ⟨o,e,c,d⟩=>⟨o,e,fun v z=>by rw[d]at z;cases z⟩
 keep:=fun k h h' x f=>x.at f
 sk:=fun h h' xs x f=>x.at f
 item:=fun A E k xs x s Q u l y h=>wpAny_nextOf_list_item u l y h
 done:=fun A E k xs s Q C u l y h=>wpAny_nextOf_list_end C u l y h
section
variable{prog:aI}{w:aU}{A:bw}{E:qV}{s:au}
theorem zhw{i:ak}{T id:String}{Q:qV}{f:fM}(l:s.TypeIs (.ref i) T)(u:Slot T "__next__" id) (C:entryFor table id=some f) (x:argsOk id ⟨[.ref i],[]⟩)
  (h:wpAny (model prog w) A.in1 (f ⟨[.ref i],[]⟩) (fun fin s'=>∃v,fin=.done (.ret v)/\Q v s') E s):wpAny (model prog w) A (br (.ref i)) Q E s:=by
 unfold br;refine ae (dG (name:=aa "__next__") l u (dW u l C ?_ x));refine cT h (fun fin s' y=>?_) fun _ _ e=>e
 obtain⟨v,e,q⟩:=y;exact⟨v,e,aj q⟩
theorem zgY{i a:ak}{k:Nat}{xs:Array ah}{x:ah}{Q:qV}(v:s.heap.IsTupleIter i a k)(y:s.heap.IsTuple a xs)(I:xs[k]?=some x)
  (h:∀h',h'.IsTupleIter i a (k+1)->dO i s.heap h'->Q x { s with heap:=h' }):wpAny (model prog w) A (br (.ref i)) Q E s:=by
 refine zhw v.typeIs iH ic (hY _) ?_;obtain⟨o,u,G,l⟩:=v;obtain⟨p,f1,_,n,C⟩:=y;refine ae (m:=field (.ref i) 0) (cL u l (x:=.ref a) rfl ?_);have ne:¬((b5 a == ir)=true):=fun z=>by cases z
 rw[if_neg ne];refine ae (m:=field (.ref i) 1) (cL u l (x:=.int k 0) rfl ?_);refine ae (m:=seqItems? (.ref a)) (eu f1 C ?_);simp only[fF,I];refine ae (oQ u l (by simp) (aj ⟨x,rfl,h _ ?_ (lJ ..)⟩))
 refine⟨_,kN _ u (Obj.isFreed_of_fields (lY l _)),?_,?_⟩
 ·rw[Obj.cls_mapFields];exact G
 ·rw[lY l];simp[rawInt]
theorem zgZ{i a:ak}{k:Nat}{xs:Array ah}{Q:qV}(I:A.handled=none)(G:s.heap.IsTupleIter i a k)(J:s.heap.IsTuple a xs)(N:xs[k]?=none)
  (h:∀h' e,uK i s.heap h'->(∃o,h'.get? e=some o/\o.cls=.type "StopIteration")->E (.ref e) { s with heap:=h' }):wpAny (model prog w) A (br (.ref i)) Q E s:=by
 refine zhw G.typeIs iH ic (hY _) ?_;obtain⟨o,C,R,l⟩:=G;obtain⟨p,f1,_,n,L⟩:=J;refine ae (m:=field (.ref i) 0) (cL C l (x:=.ref a) rfl ?_);have ne:¬((b5 a == ir)=true):=fun z=>by cases z
 rw[if_neg ne];refine ae (m:=field (.ref i) 1) (cL C l (x:=.int k 0) rfl ?_);refine ae (m:=seqItems? (.ref a)) (eu f1 L ?_);simp only[fF,N];refine ae (eP (ae (oQ C l (by simp) ?_)))
 refine ae (m:=newExc (.type "StopIteration") []) ?_;simp only[newExc,newTuple];refine ae (cZ ?_ (by size_fits))
 refine ae (m:=firstArgMember _ _) (wpAny_of_eq (a:=ir) (by first|rfl|(simp only[firstArgMember];rfl)) (cZ ?_ (by size_fits)))
 simp only[raiseNew];refine ae (wpAny_handled ?_);have v:A.in1.handled=none:=I
 first|rw[v]|rw[I]
 exact ae (aj (wpAny_throw (h _ _ (((lJ ..).extBut.push _).push _) ⟨_,aD _ rfl,rfl⟩)))
end
theorem Heap.IsTupleIter.at'{h h':aS}{i a:ak}{k:Nat}(x:h.IsTupleIter i a k)(f:∀o,h.get? i=some o->h'.get? i=some o):h'.IsTupleIter i a k:=by
 obtain⟨o,e,r⟩:=x;exact⟨o,f o e,r⟩
theorem Heap.IsTuple.at'{h h':aS}{a:ak}{xs:Array ah}(x:h.IsTuple a xs)(f:∀o,h.get? a=some o->h'.get? a=some o):h'.IsTuple a xs:=by
 obtain⟨o,e,r⟩:=x;exact⟨o,f o e,r⟩
theorem zsR{prog:aI}{w:aU}{i a:ak}:NxS prog w i a (fun k h=>h.IsTupleIter i a k) (fun h xs=>h.IsTuple a xs) where
 rcd:=fun k h ⟨o,e,c,d⟩=>⟨o,e,fun v z=>by rw[d]at z;cases z⟩
 keep:=fun k h h' x f=>Heap.IsTupleIter.at' x f
 sk:=fun h h' xs x f=>Heap.IsTuple.at' x f
 item:=fun A E k xs x s Q u l y h=>zgY u l y h
 done:=fun A E k xs s Q C u l y h=>zgZ C u l y h
structure ZAp(z TI TO i1 i2 a1 a2:ak):Prop where
 p:[z,TI,TO,i1,i2].Nodup
 q:∀a∈[a1,a2],a∉[z,TI,TO,i1,i2]
section
variable{prog:aI}{w:aU}{A:bw}{E:qV}{s:au}{z TI TO i1 i2 a1 a2:ak}{I1 I2:Nat->aS->Prop}{S1 S2:aS->Array ah->Prop}
structure ZSt(z TI TO i1 i2:ak)(I1 I2:Nat->aS->Prop)(f:ah)(k:Nat)(h:aS):Prop where
 zip:nI h z TI TO f
 ti:kB h TI (.ref i1) (.ref i2)
 to:∃a b,kB h TO a b
 it1:I1 k h
 it2:I2 k h
theorem zk9(D:ZAp z TI TO i1 i2 a1 a2):(z≠TI/\z≠TO/\z≠i1/\z≠i2/\TI≠TO/\TI≠i1/\TI≠i2/\TO≠i1/\TO≠i2/\i1≠i2)/\(a1≠z/\a1≠TO/\a1≠i1/\a1≠i2)/\(a2≠z/\a2≠TO/\a2≠i1/\a2≠i2):=by
 have l:=D.p;have x:=D.q;simp only[eJ,aw,aJ,or_false,not_or,List.nodup_nil,and_true,not_false_eq_true]at l;have u:=x a1 (by simp)
 have v:=x a2 (by simp)
 simp only[aw,aJ,or_false,not_or]at u v;exact⟨⟨l.1.1,l.1.2.1,l.1.2.2.1,l.1.2.2.2,l.2.1.1,l.2.1.2.1,l.2.1.2.2,l.2.2.1.1,l.2.2.1.2,l.2.2.2⟩,⟨u.1,u.2.2.1,u.2.2.2.1,u.2.2.2.2⟩,⟨v.1,v.2.2.1,v.2.2.2.1,v.2.2.2.2⟩⟩
theorem z_item{k:Nat}{xs ys:Array ah}{x y:ah}{Q:qV}(D:ZAp z TI TO i1 i2 a1 a2)(N1:NxS prog w i1 a1 I1 S1)(N2:NxS prog w i2 a2 I2 S2)(st:ZSt z TI TO i1 i2 I1 I2 .none k s.heap)(s1:S1 s.heap xs)(s2:S2 s.heap ys)
  (hx:xs[k]?=some x) (hy:ys[k]?=some y)
  (hQ:∀h',ZSt z TI TO i1 i2 I1 I2 (rawInt s.heap.objs.size) (k+1) h'->kB h' s.heap.objs.size x y->h'.objs.size=s.heap.objs.size+1 ->
   (∀c o,c≠z->c≠TO->c≠i1->c≠i2->s.heap.get? c=some o->h'.get? c=some o)->Q (.ref s.heap.objs.size) { s with heap:=h' }) :
  wpAny (model prog w) A (fM.«zip.__next__» ⟨[.ref z],[]⟩) (fun fin s'=>∃v,fin=.done (.ret v)/\Q v s') E s:=by
 obtain⟨⟨d1,d2,d3,d4,d5,d6,d7,d8,d9,d10⟩,⟨e1,e2,e3,e4⟩,⟨g1,g2,g3,g4⟩⟩:=zk9 D;obtain⟨zip,ti,⟨va,vb,to⟩,it1,it2⟩:=st;refine ae (m:=field (.ref z) 2) (cL zip rfl (x:=.bool false) rfl ?_);refine ae (m:=field (.ref z) 3) (cL zip rfl (x:=.ref TI) rfl (ae (eu ti rfl ?_)));refine ae (m:=cP (.ref z)) ?_;unfold cP
 refine ae (cL zip rfl (x:=.none) rfl (aj ?_));simp only[if_true];refine ae (eP (ae (cL zip rfl (x:=.ref TO) rfl (ae (eD zip (by simp) fun hA zA S=>?_)))))
 have zA':nI hA z TI TO .ellipsis:=zA;refine ae ?_;simp only[nc,nY,hW,lx];refine ae (ae (hU (ae (m:=br (.ref i1)) ?_)));refine N1.item _ _ k xs x _ _ (N1.keep _ _ _ it1 fun o e=>S.extBut _ _ d3.symm e) (N1.sk _ _ _ s1 fun o e=>S.extBut _ _ e1 e) hx fun hB it1B bB=>aj ?_
 have U:kB hB TO va vb:=bB.extBut _ _ d8 (S.extBut _ _ d2.symm to);refine ae (eu U rfl (ae (hV U fun hC toC bC=>?_)))
 have R:kB hC TO x vb:=toC;refine ae (nJ (aj ?_));refine ae (ae (hU (ae (m:=br (.ref i2)) ?_)));have I:∀c o,c≠z->c≠TO->c≠i1->s.heap.get? c=some o->hC.get? c=some o:=fun c o C J c3 e=>bC.extBut _ _ J (bB.extBut _ _ c3 (S.extBut _ _ C e))
 refine N2.item _ _ k ys y _ _ (N2.keep _ _ _ it2 fun o e=>I _ _ d4.symm d9.symm d10.symm e) (N2.sk _ _ _ s2 fun o e=>I _ _ g1 g2 g3 e) hy fun hD N bD=>aj ?_
 have toD:kB hD TO x vb:=bD.extBut _ _ d9 R;refine ae (eu toD rfl (ae (hV toD fun u toF bF=>?_)))
 have G:kB u TO x y:=toF;refine ae (nJ (aj (aj ?_)));refine ae (eu G rfl (ae (oM ?_)));have sz:u.objs.size=s.heap.objs.size:=by rw[bF.1,bD.1,bC.1,bB.1,S.1]
 have Y:∀c o,c≠z->c≠TO->c≠i1->c≠i2->s.heap.get? c=some o->u.get? c=some o:=fun c o C J c3 c4 e=>bF.extBut _ _ J (bD.extBut _ _ c4 (I c o C J c3 e))
 have zF:nI u z TI TO .ellipsis:=bF.extBut _ _ d2 (bD.extBut _ _ d4 (bC.extBut _ _ d2 (bB.extBut _ _ d3 zA')));have zlt:z<u.objs.size:=aA zF;refine ae (m:=fZ (.ref z) (.ref u.objs.size)) ?_;unfold fZ;have zG:nI (u.push { cls:=.type "tuple",data:=.seq #[x,y] }) z TI TO .ellipsis:=aq _ zF
 refine ae (eD zG (by simp) fun hI zI bI=>?_)
 have zI':nI hI z TI TO (rawInt u.objs.size):=zI;refine eD zI' (by simp) fun Z zJ bJ=>aj ⟨_,rfl,?_⟩
 have zJ':nI Z z TI TO (rawInt u.objs.size):=zJ;have up:∀c o,c≠z->u.get? c=some o->Z.get? c=some o:=fun c o C e=>bJ.extBut _ _ C (bI.extBut _ _ C (aq _ e))
 have pr:kB Z u.objs.size x y:=bJ.extBut _ _ (ma zlt) (bI.extBut _ _ (ma zlt) (aD _ rfl));have L:Z.objs.size=u.objs.size+1:=by rw[bJ.1,bI.1,eY]
 rw[sz]at zJ' pr L;show Q (.ref u.objs.size) _
 rw[sz];refine hQ Z ⟨zJ',up _ _ d1.symm (Y _ _ d1.symm d5 d6 d7 ti),⟨x,y,up _ _ d2.symm G⟩,?_,?_⟩ pr L fun c o C J c3 c4 e=>up c o C (Y c o C J c3 c4 e)
 ·exact N1.keep _ _ _ it1B fun o e=>up _ _ d3.symm (bF.extBut _ _ d8.symm (bD.extBut _ _ d10 (bC.extBut _ _ d8.symm e)))
 ·exact N2.keep _ _ _ N fun o e=>up _ _ d4.symm (bF.extBut _ _ d9.symm e)
theorem z_end{k:Nat}{xs ys:Array ah}{Q:PySem.Fin->au->Prop}(hh:A.handled=none)(D:ZAp z TI TO i1 i2 a1 a2)(Y:NxS prog w i1 a1 I1 S1)(N2:NxS prog w i2 a2 I2 S2)(st:ZSt z TI TO i1 i2 I1 I2 .none k s.heap)(s1:S1 s.heap xs)(s2:S2 s.heap ys)
  (hxy:xs[k]?=none\/ys[k]?=none)
  (hE:∀h' e,(∀c o,c≠z->c≠TO->c≠i1->c≠i2->s.heap.get? c=some o->h'.get? c=some o)->(∃o,h'.get? e=some o/\o.cls=.type "StopIteration")->E (.ref e) { s with heap:=h' }) :
  wpAny (model prog w) A (fM.«zip.__next__» ⟨[.ref z],[]⟩) Q E s:=by
 obtain⟨⟨d1,d2,d3,d4,d5,d6,d7,d8,d9,d10⟩,⟨e1,e2,e3,e4⟩,⟨g1,g2,g3,g4⟩⟩:=zk9 D;obtain⟨zip,ti,⟨va,vb,to⟩,it1,it2⟩:=st;refine ae (m:=field (.ref z) 2) (cL zip rfl (x:=.bool false) rfl ?_);refine ae (m:=field (.ref z) 3) (cL zip rfl (x:=.ref TI) rfl (ae (eu ti rfl ?_)));refine ae (m:=cP (.ref z)) ?_;unfold cP
 refine ae (cL zip rfl (x:=.none) rfl (aj ?_));simp only[if_true];refine ae (eP (ae (cL zip rfl (x:=.ref TO) rfl (ae (eD zip (by simp) fun hA zA R=>?_)))))
 have N:nI hA z TI TO .ellipsis:=zA;refine ae ?_;simp only[nc,nY,hW,lx];refine ae (ae (hU (ae (m:=br (.ref i1)) ?_)));have S:=Y.keep _ _ _ it1 fun o e=>R.extBut _ _ d3.symm e
 have L:=Y.sk _ _ _ s1 fun o e=>R.extBut _ _ e1 e
 cases hx:xs[k]? with
 | none =>
  refine Y.done _ _ k xs _ _ hh S L hx fun hB e G ⟨oe,C,hc⟩=>?_
  have zB:nI hB z TI TO .ellipsis:=G _ _ d3 N;have Z:e≠z:=fun y=>by subst y;rw[zB]at C;cases C;simp at hc
  exact eD zB (by simp) fun hC _ I=>hE hC e (fun c o v _ J _ y=>I.extBut _ _ v (G _ _ J (R.extBut _ _ v y))) ⟨oe,I.extBut _ _ Z C,hc⟩
 | some x =>
  have hy:ys[k]?=none:=by rcases hxy with h|h;rw[hx]at h;cases h;exact h
  refine Y.item _ _ k xs x _ _ S L hx fun hB it1B G=>aj ?_
  have U:kB hB TO va vb:=G.extBut _ _ d8 (R.extBut _ _ d2.symm to);refine ae (eu U rfl (ae (hV U fun hC toC I=>?_)))
  refine ae (nJ (aj ?_));refine ae (ae (hU (ae (m:=br (.ref i2)) ?_)));have u:∀c o,c≠z->c≠TO->c≠i1->s.heap.get? c=some o->hC.get? c=some o:=fun c o v c2 J e=>I.extBut _ _ c2 (G.extBut _ _ J (R.extBut _ _ v e))
  refine N2.done _ _ k ys _ _ hh (N2.keep _ _ _ it2 fun o e=>u _ _ d4.symm d9.symm d10.symm e) (N2.sk _ _ _ s2 fun o e=>u _ _ g1 g2 g3 e) hy fun hD e bD ⟨oe,C,hc⟩=>?_
  have zD:nI hD z TI TO .ellipsis:=bD _ _ d4 (I.extBut _ _ d2 (G.extBut _ _ d3 N));have Z:e≠z:=fun y=>by subst y;rw[zD]at C;cases C;simp at hc
  exact eD zD (by simp) fun hF _ bF=>hE hF e (fun c o v c2 J c4 y=>bF.extBut _ _ v (bD _ _ c4 (u c o v c2 J y))) ⟨oe,bF.extBut _ _ Z C,hc⟩
theorem zry{k:Nat}{xs ys:Array ah}{x y:ah}{Q:Option ah->au->Prop}(D:ZAp z TI TO i1 i2 a1 a2)(G:NxS prog w i1 a1 I1 S1)(J:NxS prog w i2 a2 I2 S2)(st:ZSt z TI TO i1 i2 I1 I2 .none k s.heap)(s1:S1 s.heap xs)(s2:S2 s.heap ys)
  (hx:xs[k]?=some x) (u:ys[k]?=some y)
  (C:∀h',ZSt z TI TO i1 i2 I1 I2 (rawInt s.heap.objs.size) (k+1) h'->kB h' s.heap.objs.size x y->h'.objs.size=s.heap.objs.size+1 ->
   (∀c o,c≠z->c≠TO->c≠i1->c≠i2->s.heap.get? c=some o->h'.get? c=some o)->Q (some (.ref s.heap.objs.size)) { s with heap:=h' }) :
  wpAny (model prog w) A (pyNext (.ref z)) Q E s:=by
 have l:s.TypeIs (.ref z) "zip":=⟨_,st.zip,rfl⟩;unfold pyNext;exact ae (g9 (dG (name:=aa "__next__") l hZ (dW hZ l nq
  (z_item D G J st s1 s2 hx u fun h' I L v N=>aj (C h' I L v N)) (mK _))))
theorem zrx{k:Nat}{xs ys:Array ah}{Q:Option ah->au->Prop}(G:A.handled=none)(D:ZAp z TI TO i1 i2 a1 a2)(x:NxS prog w i1 a1 I1 S1)(y:NxS prog w i2 a2 I2 S2)(st:ZSt z TI TO i1 i2 I1 I2 .none k s.heap)(s1:S1 s.heap xs)(s2:S2 s.heap ys)
  (l:xs[k]?=none\/ys[k]?=none) (v:∀h',(∀c o,c≠z->c≠TO->c≠i1->c≠i2->s.heap.get? c=some o->h'.get? c=some o)->Q none { s with heap:=h' }):wpAny (model prog w) A (pyNext (.ref z)) Q E s:=by
 have u:s.TypeIs (.ref z) "zip":=⟨_,st.zip,rfl⟩;unfold pyNext;refine ae (g9 (dG (name:=aa "__next__") u hZ (dW hZ u nq
  (z_end G D x y st s1 s2 l fun h' e C ⟨o,I,hc⟩=>?_) (mK _))))
 exact ae (wpAny_isInstance (T:="StopIteration") (b:=true) ⟨o,I,hc⟩ isSubtype_stop (aj (v _ C)))
end
def SqB(t:Bool)(K:qF)(H:Hp)(a:ak)(xs:List V):Prop:=match t with|true=>SqT K H a xs|false=>SqL K H a xs
def ITB(t:Bool)(i a:ak):Nat->aS->Prop:=match t with|true=>fun k h=>h.IsTupleIter i a k|false=>fun k h=>h.IsListIter i a k
def SQB(t:Bool)(a:ak):aS->Array ah->Prop:=match t with|true=>fun h xs=>h.IsTuple a xs|false=>fun h xs=>h.IsList a xs
def itN(t:Bool):String:=match t with|true=>"tuple_iterator" | false=>"list_iterator"
theorem nx_B{prog:aI}{w:aU}{i a:ak}(t:Bool):NxS prog w i a (ITB t i a) (SQB t a):=by
 cases t
 ·exact zql
 ·exact zsR
section
variable{X:Cx}{pins:qO}{σ:St}{H:Hp}{s:au}
theorem Inv.seqB{t:Bool}{a:ak}{xs:List V}(I:Inv X pins σ H s)(h:SqB t X.K H a xs):∃l:List ah,Vals xs l/\SQB t a s.heap l.toArray/\xs.length<=sizeLine:=by
 cases t
 ·obtain⟨l,r,p,z⟩:=I.list h;exact⟨l,r,p.isList,z⟩
 ·obtain⟨l,r,p,z⟩:=I.tuple h;exact⟨l,r,p,z⟩
theorem Inv.injB{t:Bool}{a:ak}{xs ys:List V}(I:Inv X pins σ H s)(h:SqB t X.K H a xs)(h':SqB t X.K H a ys):xs=ys:=by
 cases t
 ·exact I.list_inj h h'
 ·exact I.tuple_inj h h'
theorem Inv.turnedL{h':aS}{t':Nat}(ch:List ak)(I:Inv X pins σ H s)(k:∀b o,b∉ch->s.heap.get? b=some o->h'.get? b=some o)(f:∀b∈ch,FpOk X pins H b):Inv X pins σ H { s with heap:=h',toks:=t' }:=by
 have l:∀b u,H b=some u->b∉ch:=fun b u e z=>by rw[(f b z).1]at e;cases e
 refine I.step (g':=s.gens) (d':=s.drawn) (ch:=ch) (fun b x=>⟨(f b x).2.2.2.1,(f b x).2.1,(f b x).2.2.2.2.1,(f b x).2.2.2.2.2⟩) (fun b o _ _ hc e _=>k b o hc e) (fun b o _ _ hc e _=>⟨o.slots,k b o hc e⟩) (fun _ _ _ _ n=>n) (fun b o hc e=>⟨o,k b o hc e⟩) (fun _ _ e=>e) (fun _ _ _ e=>e)
  (fun _ _ e=>e) (fun m ⟨o,C,G,J,r⟩=>⟨o,C,G,k _ o (fun z=>(f _ z).2.1 rfl) J,r⟩) (fun b u e=>(I.hok b u e).stay (fun c v hc q=>k c v ?_ q) (fun _ q=>q) (fun _ _ q=>q) fun _ _ _ q=>q) I.bare
 rcases hc with z|z
 ·rw[z];exact l b u e
 ·exact l c _ z
end
section
variable{prog:aI}{w:aU}{A:bw}{E:qV}{s:au}
theorem ztA{t:Bool}{a:ak}{xs:Array ah}{Q:qV}(h:SQB t a s.heap xs)(u:Q (.ref s.heap.objs.size) { s with heap:=s.heap.push { cls:=.type (itN t),data:=.fields #[.ref a,.int 0 0] } }):wpAny (model prog w) A (pyIter (.ref a)) Q E s:=by
 cases t
 ·exact fD h u
 ·exact iw h u
theorem SQB.push{t:Bool}{a:ak}{xs:Array ah}{h:aS}(x:SQB t a h xs)(o:Obj):SQB t a (h.push o) xs:=by
 cases t
 ·exact xP x o
 ·exact wW x o
abbrev zA(h:aS)(t:Bool)(a:ak):aS:=h.push { cls:=.type (itN t),data:=.fields #[.ref a,.int 0 0] }
abbrev zB(h:aS)(t u:Bool)(a b:ak):aS:=(zA h t a).push { cls:=.type (itN u),data:=.fields #[.ref b,.int 0 0] }
abbrev zC(h:aS)(t u:Bool)(a b:ak):aS:=(zB h t u a b).push { cls:=.type "tuple",data:=.seq #[.ref h.objs.size,.ref (zA h t a).objs.size] }
abbrev zD(h:aS)(t u:Bool)(a b:ak):aS:=(zC h t u a b).push { cls:=.type "tuple",data:=.seq #[.none,.none] }
abbrev zE(h:aS)(t u:Bool)(a b:ak):aS:=(zD h t u a b).push { cls:=.type "zip",data:=.fields #[.none,.bool false,.bool false,.ref (zB h t u a b).objs.size,.ref (zC h t u a b).objs.size] }
theorem zod(t u:Bool)(a b:ak)(xs ys:Array ah) :
  Meets (fM.«zip.__new__» ⟨[.type "zip",.ref a,.ref b],[]⟩) (fun _ R s=>SQB t a s.heap xs/\SQB u b s.heap ys/\R (.ok (.ret (.ref (zD s.heap t u a b).objs.size))) { s with heap:=zE s.heap t u a b }) :=
 .of_wp fun prog w A R s h=>by
  obtain⟨v,g,d,tk,os⟩:=s;obtain⟨I,C,h⟩:=h;have x:=sub_zip;have G:SQB t a (uM ⟨v,g,d,tk,os⟩) xs:=I;have L2:SQB u b (uM ⟨v.push { cls:=.type (itN t),data:=.fields #[.ref a,.int 0 0] },g,d,tk,os⟩) ys:=SQB.push C _
  wp_walk using ztA G,ztA L2
  exact⟨_,rfl,h⟩
theorem ITB.new{t:Bool}{i a:ak}{h:aS}(e:h.get? i=some { cls:=.type (itN t),data:=.fields #[.ref a,.int 0 0] }):ITB t i a 0 h:=by
 cases t
 ·exact⟨_,e,rfl,rfl⟩
 ·exact⟨_,e,rfl,rfl⟩
theorem zrf{t u:Bool}{a b:ak}{xs ys:Array ah}{Q:qV}(R:SQB t a s.heap xs)(L:SQB u b s.heap ys)
  (h:∀h',ZSt (s.heap.objs.size+4) (s.heap.objs.size+2) (s.heap.objs.size+3) s.heap.objs.size (s.heap.objs.size+1) (ITB t s.heap.objs.size a) (ITB u (s.heap.objs.size+1) b) .none 0 h'->h'.objs.size=s.heap.objs.size+5 ->
   (∀c o,s.heap.get? c=some o->h'.get? c=some o)->Q (.ref (s.heap.objs.size+4)) { s with heap:=h' }) :
  wpAny (model prog w) A (call (.type "zip") [.ref a,.ref b]) Q E s:=by
 refine callType_new F.called_zip (by decide) (F.typeCall_zip_2 _ _) (F.newCall_zip_2 _ _) (fun obj=>F.args_object_init_3 obj _ _) F.entry_zip_new (zod t u a b xs ys) ⟨R,L,?_⟩
 have C:(zA s.heap t a).objs.size=s.heap.objs.size+1:=eY ..;have v:(zB s.heap t u a b).objs.size=s.heap.objs.size+2:=by rw[eY,C]
 have G:(zC s.heap t u a b).objs.size=s.heap.objs.size+3:=by rw[eY,v]
 have l:(zD s.heap t u a b).objs.size=s.heap.objs.size+4:=by rw[eY,G]
 have N:(zE s.heap t u a b).objs.size=s.heap.objs.size+5:=by rw[eY,l]
 have I:(zE s.heap t u a b).get? (zD s.heap t u a b).objs.size=some _:=aD _ rfl;have J:(zE s.heap t u a b).get? (zC s.heap t u a b).objs.size=some _:=aq _ (aD _ rfl);have g3:(zE s.heap t u a b).get? (zB s.heap t u a b).objs.size=some _:=aq _ (aq _ (aD _ rfl));have g2:(zE s.heap t u a b).get? (zA s.heap t a).objs.size=some _:=aq _ (aq _ (aq _ (aD _ rfl)))
 have g1:(zE s.heap t u a b).get? s.heap.objs.size=some _:=aq _ (aq _ (aq _ (aq _ (aD _ rfl))));show _/\_
 rw[v,G,l]at I;rw[C,v]at g3;rw[G]at J;rw[C]at g2;rw[l];refine⟨⟨_,I,rfl⟩,h _ ⟨I,g3,⟨_,_,J⟩,.new g1,.new g2⟩ N fun c o x=>?_⟩
 iterate 5 refine aq _ ?_
 exact x
end
def Itz(t u:Bool)(K:qF)(a b:ak):It :=
 ⟨fun i H=>∃xs ys x y,SqB t K H a xs/\SqB u K H b ys/\xs[i]?=some x/\ys[i]?=some y,
  fun i H v l=>∃p x y,H p=none/\v=.ref p/\(∀xs,SqB t K H a xs->xs[i]?=some x)/\(∀ys,SqB u K H b ys->ys[i]?=some y)/\l=upd H p (.tup [x,y]),
  fun i H=>∃xs ys,SqB t K H a xs/\SqB u K H b ys/\(xs.length<=i\/ys.length<=i)⟩
theorem znH{P:aI}{w:aU}{K:qF}{U:List aT}{x1:_}{pos:Pos}{t u:Bool}{z TI TO C G a b:ak}(D:ZAp z TI TO C G a b) :
  Turn P w K (.Tuple U x1 pos) (Itz t u K a b) [z,TI,TO,C,G] z (fun i h=>ZSt z TI TO C G (ITB t C a) (ITB u G b) .none i h) where
 mem:=by simp
 obj:=fun i h st c hc=>by
  obtain⟨S,ti,⟨Y,vb,to⟩,L,J⟩:=st;simp only[aw,aJ,or_false]at hc;rcases hc with rfl|rfl|rfl|rfl|rfl
  ·exact⟨_,S,fun v y=>by cases y⟩
  ·exact⟨_,ti,fun v y=>by cases y⟩
  ·exact⟨_,to,fun v y=>by cases y⟩
  ·exact(nx_B (prog:=P) (w:=w) t).rcd _ _ L
  ·exact(nx_B (prog:=P) (w:=w) u).rcd _ _ J
 keep:=fun i h h' st k=>by
  obtain⟨S,ti,⟨Y,vb,to⟩,L,J⟩:=st;exact⟨k _ (by simp) _ S,k _ (by simp) _ ti,⟨Y,vb,k _ (by simp) _ to⟩,(nx_B (prog:=P) (w:=w) t).keep _ _ _ L (k _ (by simp)),(nx_B (prog:=P) (w:=w) u).keep _ _ _ J (k _ (by simp))⟩
 item:=by
  intro X hP hw hK hc i pins s σ H E I hf st hg;subst hP hw hK;obtain⟨xs,ys,x,y,q1,q2,hx,hy⟩:=hg;obtain⟨its,r1,p1,z1⟩:=I.seqB q1;obtain⟨jts,r2,p2,z2⟩:=I.seqB q2;obtain⟨N,hux,rux⟩:=r1.get hx;obtain⟨R,huy,ruy⟩:=r2.get hy;refine zry D (nx_B t) (nx_B u) st p1 p2 (x:=N) (y:=R) (by simpa using hux) (by simpa using huy) fun h' st' pr sz kp=>?_
  refine⟨_,rfl,?_⟩;refine wpAny_letOwnedTupleGo_zip (s:={ s with heap:=h' }) st'.zip fun h2 z2' Z=>?_
  obtain⟨⟨d1,d2,d3,d4,d5,d6,d7,d8,d9,d10⟩,_,_⟩:=zk9 D;have big:∀c∈[z,TI,TO,C,G],c<s.heap.objs.size:=fun c hc=>by
   obtain⟨S,ti,⟨Y,vb,to⟩,L,J⟩:=st;simp only[aw,aJ,or_false]at hc;rcases hc with rfl|rfl|rfl|rfl|rfl
   ·exact aA S
   ·exact aA ti
   ·exact aA to
   ·obtain⟨o,e,_⟩:=(nx_B (prog:=X.prog) (w:=X.w) t).rcd _ _ L;exact aA e
   ·obtain⟨o,e,_⟩:=(nx_B (prog:=X.prog) (w:=X.w) u).rcd _ _ J;exact aA e
  have hp:H s.heap.objs.size=none:=I.hok.fresh (ay _);have I1:Inv X pins σ (upd H s.heap.objs.size (.tup [x,y])) { s with heap:=s.heap.push { cls:=.type "tuple",data:=.seq #[N,R] } } :=
   I.laid (t':=s.toks) (fun b o e=>aq _ e) (ay _) (show JL X.prog X.w _ _ _ (.tup [x,y]) from⟨by show 2<=sizeLine;decide,[N,R],.cons rux (.cons ruy .nil),IsTD.new _ _⟩)
  have npos:∀c∈[z,TI,TO,C,G],c≠s.heap.objs.size:=fun c hc=>aF (big c hc)
  have fu:∀c∈[z,TI,TO,C,G],upd H s.heap.objs.size (.tup [x,y]) c=none:=fun c hc=>by rw[Js (npos c hc)];exact(hf c hc).1
  refine⟨.ref s.heap.objs.size,upd H s.heap.objs.size (.tup [x,y]),?_,rfl,⟨_,x,y,hp,rfl,fun xs' h=>by rw[I.injB h q1];exact hx,fun ys' h=>by rw[I.injB h q2];exact hy,rfl⟩,?_,fu⟩
  ·refine Inv.turnedL (s:={ s with heap:=s.heap.push { cls:=.type "tuple",data:=.seq #[N,R] } }) (t':=s.toks) [z,TO,C,G] I1 (fun c o hc e=>?_) fun c hc=>?_
   ·simp only[aw,aJ,or_false,not_or]at hc;refine Z.extBut _ _ hc.1 ?_
    by_cases y:c=s.heap.objs.size
    ·subst y;have e':(s.heap.push { cls:=.type "tuple",data:=.seq #[N,R] }).get? s.heap.objs.size=some _:=aD _ rfl;have e2:some o=some _:=e.symm.trans e';cases e2;exact pr
    ·have e':s.heap.get? c=some o:=by
      have e3:(s.heap.push { cls:=.type "tuple",data:=.seq #[N,R] }).get? c=some o:=e
      rwa [ck _ _ _ y]at e3
     exact kp c o hc.1 hc.2.1 hc.2.2.1 hc.2.2.2 e'
   ·have m:c∈[z,TI,TO,C,G]:=by simp only[aw,aJ,or_false]at hc ⊢;rcases hc with h|h|h|h <;> simp[h]
    exact⟨fu c m,(hf c m).2⟩
  ·obtain⟨S,ti,⟨Y,vb,to⟩,L,J⟩:=st';exact⟨z2',Z.extBut _ _ d1.symm ti,⟨Y,vb,Z.extBut _ _ d2.symm to⟩,(nx_B (prog:=X.prog) (w:=X.w) t).keep _ _ _ L fun o e=>Z.extBut _ _ d3.symm e,(nx_B (prog:=X.prog) (w:=X.w) u).keep _ _ _ J fun o e=>Z.extBut _ _ d4.symm e⟩
 done:=by
  intro X hP hw hK hc i pins s σ H E I hf st hg;subst hP hw hK;obtain⟨xs,ys,q1,q2,hx⟩:=hg;obtain⟨its,r1,p1,z1⟩:=I.seqB q1;obtain⟨jts,r2,p2,z2⟩:=I.seqB q2;have l1:=r1.length;have l2:=r2.length;refine zrx (I.ok.hd hc) D (nx_B t) (nx_B u) st p1 p2 (by rcases hx with h|h;exact .inl (by simp;omega);exact .inr (by simp;omega)) fun h' kp=>⟨rfl,?_⟩
  refine Inv.turnedL (t':=s.toks) [z,TO,C,G] I (fun c o hc e=>?_) fun c hc=>hf c ?_
  ·simp only[aw,aJ,or_false,not_or]at hc;exact kp c o hc.1 hc.2.1 hc.2.2.1 hc.2.2.2 e
  ·simp only[aw,aJ,or_false]at hc ⊢;rcases hc with h|h|h|h <;> simp[h]
 self:=fun _ _ _ _ _ st h=>nt st.zip h
section
variable{X:Cx}{a b:aT}{elts:List aT}{x1:Nat}{p p' pos:Pos}
def iZip(K:qF)(v:TA):TI:=fun σ H R=>v σ H fun x l=>∃(t u:Bool) (c d:ak) (xs ys:List V),x=[.ref c,.ref d]/\SqB t K l c xs/\SqB u K l d ys/\R (Itz t u K c d) l
theorem SQB.lt{t:Bool}{c:ak}{xs:Array ah}{h:aS}(x:SQB t c h xs):c<h.objs.size:=by
 cases t
 ·obtain⟨o,e,_⟩:=x;exact aA e
 ·obtain⟨o,e,_⟩:=x;exact aA e
theorem zpv{n:Nat}{c d:ak}(x:c<n)(v:d<n):ZAp (n+4) (n+2) (n+3) n (n+1) c d:=by
 have ne:∀(e:ak) (k:Nat),e<n->e≠n+k:=fun e k h=>aF (aC h (fP _ _))
 refine⟨by simp,fun e u=>?_⟩
 have l:e<n:=by
  simp only[aw,aJ,or_false]at u;rcases u with rfl|rfl
  ·exact x
  ·exact v
 simp only[aw,aJ,or_false,not_or];exact⟨ne e 4 l,ne e 2 l,ne e 3 l,aF l,ne e 1 l⟩
theorem zsj{S:TA}(hg:Gl X "zip") (hm:X.mg "zip" = none) (ha:PA X [a,b] S) (hs:starEach [a,b] X.env=[(false,eval a X.env),(false,eval b X.env)]) (v:starEach [b] X.env=[(false,eval b X.env)]) :
  PI X (.Tuple elts x1 p') (.Call (.Name "zip" p) [a,b] [] pos) (iZip X.K S):=by
 intro pins s σ H R I h;refine Call_ (ZU I hg hm boot_zip (fE (thn (ha pos pins s σ H _ I h) fun us s1 ⟨vs,H1,x,r1,Y⟩=>?_) (by rw[hs,v]) (by rw[v];rfl)))
 obtain⟨t,u,c,d,xs,ys,rfl,y,J,q⟩:=Y;cases r1 with
 | cons r G =>
  cases G with
  | cons Z G =>
   cases G;cases r;cases Z;obtain⟨its,_,L,_⟩:=x.seqB y;obtain⟨jts,_,p2,_⟩:=x.seqB J;refine zrf L p2 fun h' st sz kp=>?_
   refine nt (s:={ s1 with heap:=h' }) st.zip ?_
   refine⟨_,_,_,_,H1,rfl,x.kept (t':=s1.toks) kp,znH (zpv L.lt p2.lt),st,fun e U=>?_,q⟩
   have ge:s1.heap.objs.size<=e:=by
    simp only[aw,aJ,or_false]at U;rcases U with rfl|rfl|rfl|rfl|rfl
    ·exact fP _ _
    ·exact fP _ _
    ·exact fP _ _
    ·exact ay _
    ·exact fP _ _
   exact x.fpOk ge (x.hok.fresh ge)
theorem srcB{K:qF}{hd:Option ak}{P O:ak->Prop}{H:Hp}{v:V}{t:af}{ts:qD}(N:∀a,¬O a->P a)(r:Rep K hd O H v t)(h:t=.tuple ts\/t=.list ts) :
  ∃(k:Bool) (q:ak) (x:List V),v=.ref q/\SqB k K H q x/\∀(C:ak->Prop) (y:Hp),(∀a o,H a=some o->P a->y a=some o)->(∀a o,H a=some o->¬O a->¬C a)->SqB k K y q x/\Reps K hd C y x ts:=by
 have L:∀x,Reps K hd O H x ts->∀(C:ak->Prop) (y:Hp),(∀a o,H a=some o->P a->y a=some o)->(∀a o,H a=some o->¬O a->¬C a)->Reps K hd C y x ts:=fun x r C y G I =>
  r.mono (fun a o R z=>fU fun no=>I a o R no z) fun a o no R=>G a o R (N a no)
 rcases h with rfl|rfl
 ·cases r with
  | @tup q x ds h o r=>exact⟨true,q,x,rfl,.inl (.inl h),fun C y G I=>⟨.inl (.inl (G q _ h (N q o))),L x r C y G I⟩⟩
  | @tupS q x ds h r=>exact⟨true,q,x,rfl,h.sq,fun C y G I=>⟨h.sq,L x r C y G I⟩⟩
 ·obtain⟨q,x,rfl,J,no,r⟩:=r.lstI;exact⟨false,q,x,rfl,SqL.of J,fun C y G I=>⟨SqL.of (G q _ J (N q no)),L x r C y G I⟩⟩
def zipD(xs ys:qD):List af:=(xs.zip ys).map fun q=>.tuple [q.1,q.2]
def dZip(C db:DTE):DTA:=fun l n R=>C l n fun x u=>db l u fun y v=>JV x fun xs=>JV y fun ys=>R (zipD xs ys) v
theorem zjH{t:af}{R:List af->Prop}(h:JV t R):∃ts,(t=.tuple ts\/t=.list ts)/\R ts:=by
 cases t with
 | list ts=>exact⟨ts,.inr rfl,h⟩
 | tuple ts=>exact⟨ts,.inl rfl,h⟩
 | _=>exact h.elim
theorem zui{da db:DTE}(hm:X.mg "zip" = none) (h:DE X a da) (h':DE X b db) (hg:Gl X "zip":=by rfl) (hs:starEach [a,b] X.env=[(false,eval a X.env),(false,eval b X.env)]:=by rfl) (G:starEach [b] X.env=[(false,eval b X.env)]:=by rfl) :
  DI X (.Tuple elts x1 p') (.Call (.Name "zip" p) [a,b] [] pos) (dZip da db):=by
 obtain⟨ta,pa,h⟩:=h;obtain⟨tb,pb,h'⟩:=h';refine⟨_,zsj hg hm (QZ pa (QZ pb UM G) (by rw[hs,G])) hs G,fun C ρ σ H n Q R S hd hq=>?_⟩
 refine h C ρ σ H n _ _ S hd fun x n1 v H1 r1 e1 hn1 q1=>?_
 have S1:=S.on e1 hn1;refine h' C ρ σ H1 n1 _ _ S1 r1 fun y n2 w H2 Y e2 hn2 q2=>?_
 have q1':=e2.rep S.hx q1;obtain⟨xs,hx,Y⟩:=zjH Y;obtain⟨ys,hy,Y⟩:=zjH Y;obtain⟨k1,c,vs,rfl,s1,f1⟩:=srcB (P:=fun a=>¬Own C ρ σ a) (fun _ z=>z) q1' hx
 obtain⟨k2,d,ws,rfl,s2,f2⟩:=srcB (P:=fun a=>¬Own C ρ σ a) (fun _ z=>z) q2 hy
 refine⟨k1,k2,c,d,vs,ws,rfl,s1,s2,hq _ n2 _ H2 Y (e1.trans e2) hn2 ?_⟩;intro O2 H3 h1 h2 h3;obtain⟨g1,U⟩:=f1 O2 H3 h1 h2;obtain⟨g2,J⟩:=f2 O2 H3 h1 h2;refine⟨fun i t I=>?_,?_⟩
 ·unfold zipD at I;rw[aZ]at I;cases ez:(xs.zip ys)[i]? with
  | none=>rw[ez]at I;cases I
  | some q =>
   rw[ez]at I;cases I;obtain⟨ex,ey⟩:=List.getElem?_zip_eq_some.mp ez;obtain⟨vx,Z,rx⟩:=U.get ex;obtain⟨vy,L,ry⟩:=J.get ey;refine⟨⟨vs,ws,vx,vy,g1,g2,Z,L⟩,fun v H4 hyd=>?_⟩
   obtain⟨pp,x',y',hp,rfl,hx',hy',rfl⟩:=hyd;have e1:x'=vx:=aL ((hx' vs g1).symm.trans Z);have e2:y'=vy:=aL ((hy' ws g2).symm.trans L);subst e1 e2;exact⟨JP hp,.newT (fun z=>h3 pp z hp) hp (.cons rx (.cons ry .nil))⟩
 ·refine⟨vs,ws,g1,g2,?_⟩;have:=U.length;have:=J.length;unfold zipD;simp only[aM,nZ];omega
end
section
variable{d da db:DTE}{dlo dhi:DTO}{ρ:En}{n:Nat}{R:qN}{Ro:Option Int->Nat->Prop}{Rl:List af->Nat->Prop}{xs ys:qD}{lo hi:Option Int}{Q:af->Prop}{Ql:List af->Prop}
theorem ztP(h:d ρ n fun t l=>dlo ρ l fun lo v=>dhi ρ v fun hi u=>lSl t lo hi fun z=>Rl z u):dSlL d dlo dhi ρ n Rl:=h
theorem zmy(h:Ro none n):zi8 ρ n Ro:=h
theorem zqL(h:d ρ n fun t l=>lInt t fun i=>Ro (some i) l):zq9 d ρ n Ro:=h
theorem zwk(h:Ql (cutD xs lo hi)):lSl (.list xs) lo hi Ql:=h
theorem ztL(h:da ρ n fun x l=>db ρ l fun y u=>JV x fun xs=>JV y fun ys=>Rl (zipD xs ys) u):dZip da db ρ n Rl:=h
end
theorem zt0{α:Type}{cs:List α}{f:α->Bool}{R:af->Prop}(h:R (.bool (cs.any f))):bAny [.list (cs.map fun b=>bO (f b))] R:=by
 have e:(cs.map fun b=>bO (f b))=(cs.map f).map bO:=by simp
 rw[e];refine⟨cs.map f,rfl,?_⟩;have u:(cs.map f).any id=cs.any f:=by simp[List.any_map,gF]
 rw[u];exact h
theorem zk2{cs:qD}{tg:DTG}{tt:DTT}{d:DTE}{ρ0:En}{n:Nat}{Rl:List af->Nat->Prop}(F:af->af)(v:cs.length<=16777216)
  (step:∀b∈cs,∀(K:qN) (X:Nat->Prop),K (F b) n->tg b ρ0 fun l=>tt l n fun c u=>if c=true then d l u K else X u) (fin:Rl (cs.map F) n):JQ tg tt d ρ0 cs [] n Rl:=by
 have:=QN (cs:=cs) (D:=fun t=>t) (tg:=tg) (tt:=tt) (d:=d) (ρ0:=ρ0) (n:=n) (Rl:=Rl) F v step fin
 simpa using this
class Stp (P:Prop)(Q:outParam Prop):Prop where
 go:Q->P
section
variable{t u tb:DTS}{D:JU}{ρ ρ0:En}{n i j m:Nat}{d da db dc d1 d2:DTE}{ds di:DTA}{c c' tt:DTT}{g:G2}{g':G2}{gc:GC}{gd:GD}{tg:DTG}{tgs:DTGs}{R:qN}{Rb:Bool->Nat->Prop}{Rl:List af->Nat->Prop}{Re:En->Prop}{x y:af}{xs ys acc:qD}{f:Int->Int->Int}{fb:af->Bool}{k:Bool}{capt:List Nat}
instance zuT :Stp (sSeq t u D ρ n) ((t { D with nx:=u D } ρ n)):=⟨fun h=>ztD h⟩
instance zrS :Stp (Vx D ρ n) ((D.nx ρ n)):=⟨fun h=>zqG h⟩
instance zuU :Stp (sRet d D ρ n) ((d ρ n fun t n'=>D.rt t n')):=⟨fun h=>ztE h⟩
instance zvW :Stp (sIf c t u D ρ n) ((c ρ n fun b n1=>if b=true then t D ρ n1 else u D ρ n1)):=⟨fun h=>zwJ h⟩
instance zuW :Stp (sAsg d tg D ρ n) ((d ρ n fun t n'=>tg t ρ fun ρ'=>D.nx ρ' n')):=⟨fun h=>ztG h⟩
instance zuV :Stp (sFor di tg tb D ρ n) ((di ρ n fun ts n1=>forP tg tb D ts ρ n1)):=⟨fun h=>ztF h⟩
instance zxc :Stp (dC x ρ n R) ((R x n)):=⟨fun h=>i_dC h⟩
instance zvY :Stp (dOp g da db ρ n R) ((da ρ n fun x n1=>db ρ n1 fun y n2=>g x y fun z=>R z n2)):=⟨fun h=>zwN h⟩
instance zu7 :Stp (dNew ds ρ n R) ((ds ρ n fun ts n'=>R (.list ts) n')):=⟨fun h=>ztT h⟩
instance zu1 :Stp (dTup ds ρ n R) ((ds ρ n fun ts n1=>R (.tuple ts) n1)):=⟨fun h=>ztN h⟩
instance zu6 :Stp (dNil ρ n Rl) ((Rl [] n)):=⟨fun h=>ztS h⟩
instance zrY :Stp (Qm d ds ρ n Rl) ((d ρ n fun t n1=>ds ρ n1 fun ts n2=>Rl (t::ts) n2)):=⟨fun h=>zqN h⟩
instance zvZ :Stp (dFn gd ds ρ n R) ((ds ρ n fun ts n1=>gd ts n1 R)):=⟨fun h=>zwO h⟩
instance zva :Stp (dFnL gd ds ρ n R) ((ds ρ n fun ts n1=>gd ts n1 fun t n2=>JT t=true/\R t n2)):=⟨fun h=>ztX h⟩
instance zrw :Stp (ZW gc ds ρ n R) ((ds ρ n fun ts n1=>gc ts fun z=>R z n1)):=⟨fun h=>zoz h⟩
instance zuY :Stp (isiD fb d ρ n R) ((d ρ n fun t n1=>lIsi fb t fun z=>R z n1)):=⟨fun h=>ztK h⟩
instance zvc :Stp (dAnd c c' ρ n Rb) ((c ρ n fun b n1=>if b=true then c' ρ n1 Rb else Rb false n1)):=⟨fun h=>ztZ h⟩
instance zvX :Stp (dOr c c' ρ n Rb) ((c ρ n fun b n1=>if b=true then Rb true n1 else c' ρ n1 Rb)):=⟨fun h=>zwM h⟩
instance zu5 :Stp (dNot c ρ n Rb) ((c ρ n fun b n1=>Rb (!b) n1)):=⟨fun h=>ztR h⟩
instance zrZ :Stp (zrb da db ρ n R) ((da ρ n fun t n1=>bolD t fun b=>if b=true then db ρ n1 R else R (.bool false) n1)):=⟨fun h=>zqP h⟩
instance zu4 :Stp (dOrV da db ρ n R) ((da ρ n fun t n1=>bolD t fun b=>if b=true then R (.bool true) n1 else db ρ n1 R)):=⟨fun h=>ztQ h⟩
instance zrX :Stp (zq_ da ρ n R) ((da ρ n fun t n1=>bolD t fun b=>R (.bool (!b)) n1)):=⟨fun h=>zqM h⟩
instance zu2 :Stp (dTru d ρ n Rb) ((d ρ n fun t n'=>truD t fun b=>Rb b n')):=⟨fun h=>ztO h⟩
instance zpE :Stp (zi9 d ρ n Rl) ((d ρ n fun t n1=>JV t fun ts=>Rl ts n1)):=⟨fun h=>zmz h⟩
instance zu0 :Stp (dYes ρ n Rb) ((Rb true n)):=⟨fun h=>ztM h⟩
instance zrQ :Stp (UY tgs (.tuple xs) ρ Re) ((tgs xs ρ Re)):=⟨fun h=>zqE h⟩
instance zrR :Stp (UX [] ρ Re) ((Re ρ)):=⟨fun h=>zqF h⟩
instance zrt :Stp (Ua tg tgs (x::xs) ρ Re) ((tg x ρ fun ρ'=>tgs xs ρ' Re)):=⟨fun h=>zov h⟩
instance zrT :Stp (Uj d ρ n Rb) ((d ρ n fun t n'=>bolD t fun b=>Rb b n')):=⟨fun h=>zqI h⟩
instance zvb :Stp (dCat da db ρ n Rl) ((da ρ n fun x n1=>db ρ n1 fun y n2=>lCat x y fun zs=>Rl zs n2)):=⟨fun h=>ztY h⟩
instance zu_ :Stp (dItL d ρ n Rl) ((d ρ n fun t n'=>lLst t fun ts=>Rl ts n')):=⟨fun h=>ztW h⟩
instance zu9 :Stp (dItT d ρ n Rl) ((d ρ n fun t n'=>lTup t fun ts=>Rl ts n')):=⟨fun h=>ztV h⟩
instance zrV :Stp (Zy d ρ n Rl) ((d ρ n fun t n'=>lInt t fun j=>(-(2 ^ 62)<=j/\j<2 ^ 62)/\Rl (QW 0 j.toNat) n')):=⟨fun h=>zqK h⟩
instance zu8 :Stp (dNeg d ρ n R) ((d ρ n fun t n'=>lInt t fun i=>R (.int (-i)) n')):=⟨fun h=>ztU h⟩
instance zru :Stp (ZX k d ρ n R) ((d ρ n fun t n'=>lLst t fun ts=>∃bs:List Bool,ts=bs.map bO/\R (.int (countIn (.bool k) (bs.map bO))) n')):=⟨fun h=>zox h⟩
instance zrv :Stp (Y1 g g' da db dc ρ n R) ((da ρ n fun x n1=>db ρ n1 fun y n2=>g x y fun z=>bolD z fun b=>if b=true then dc ρ n2 fun w n3=>g' y w fun z=>R z n3 else R (.bool false) n2)):=⟨fun h=>zoy h⟩
instance zuX {b:Bool}{A B:Prop}:Stp (if (!b)=true then A else B) ((if b=true then B else A)):=⟨fun h=>ztI h⟩
end
section
variable{C:Int->Int->Prop}{f:Int->Int->Int}{fb:Int->Int->Bool}{i j k:Int}{R:af->Prop}{Rb:Bool->Prop}{xs ys:qD}{s t:Str}{a b:Bool}{u v x y:af}{Rn:qN}{n:Nat}
instance zuS :Stp (oAdd (.int i) (.int j) R) ((R (.int (i+j)))):=⟨fun h=>ztw h⟩
instance zuR :Stp (oAdd (.str s) (.str t) R) (((s.length+t.length<=16777216/\R (.str (s++t))))):=⟨fun h=>ztv h⟩
instance zuQ :Stp (oAdd (.tuple xs) (.tuple ys) R) (((xs.length+ys.length<=16777216/\R (.tuple (xs++ys))))):=⟨fun h=>ztu h⟩
instance zvS :Stp (oEq (.int i) (.int j) R) ((R (.bool (decide (i=j))))):=⟨fun h=>zwF h⟩
instance zvQ :Stp (oEq (.str s) (.str t) R) ((R (.bool (decide (s=t))))):=⟨fun h=>zwD h⟩
instance zvP :Stp (oEq (.tuple xs) (.tuple ys) R) (((Okd (.tuple xs)/\Okd (.tuple ys)/\R (.bool (cg (.tuple xs) (.tuple ys)))))):=⟨fun h=>zwC h⟩
instance zvR :Stp (oEq (.list xs) (.list ys) R) (((Okd (.list xs)/\Okd (.list ys)/\R (.bool (cg (.list xs) (.list ys)))))):=⟨fun h=>zwE h⟩
instance zvD :Stp (oNe (.int i) (.int j) R) ((R (.bool (!decide (i=j))))):=⟨fun h=>zwp h⟩
instance zvB :Stp (oNe (.str s) (.str t) R) ((R (.bool (!decide (s=t))))):=⟨fun h=>zwn h⟩
instance zvA :Stp (oNe (.tuple xs) (.tuple ys) R) (((Okd (.tuple xs)/\Okd (.tuple ys)/\R (.bool (!PyData.eqv (.tuple xs) (.tuple ys)))))):=⟨fun h=>zwm h⟩
instance zvC :Stp (oNe (.list xs) (.list ys) R) (((Okd (.list xs)/\Okd (.list ys)/\R (.bool (!PyData.eqv (.list xs) (.list ys)))))):=⟨fun h=>zwo h⟩
instance zvM :Stp (oIs u .none R) ((R (.bool (isNone u)))):=⟨fun h=>zwz h⟩
instance zrP :Stp (oIsN u .none R) ((R (.bool (!isNone u)))):=⟨fun h=>zqB h⟩
instance zvO :Stp (oIn u (.tuple xs) R) (((Okd u/\(∀t∈xs,Okd t)/\R (.bool (xs.any fun t=>t.eqv u))))):=⟨fun h=>zwB h⟩
instance zrq :Stp (ZL u (.tuple xs) R) (((Okd u/\(∀t∈xs,Okd t)/\R (.bool (!xs.any fun t=>t.eqv u))))):=⟨fun h=>zoo h⟩
instance zvI :Stp (oLtA (.int i) (.int j) R) ((R (.bool (decide (i<j))))):=⟨fun h=>zwu h⟩
instance zvL :Stp (oLeA (.int i) (.int j) R) ((R (.bool (decide (i<=j))))):=⟨fun h=>zwx h⟩
instance zvK :Stp (oLeA (.str s) (.str t) R) ((R (.bool (!decide (t.cps.toList<s.cps.toList))))):=⟨fun h=>zww h⟩
instance zuL :Stp (oIx (.tuple (u::xs)) (.int 0) R) ((R u)):=⟨fun h=>ztp h⟩
instance zuK :Stp (oIx (.tuple (u::v::xs)) (.int 1) R) ((R v)):=⟨fun h=>zto h⟩
instance zuJ {w:af}:Stp (oIx (.tuple (u::v::w::xs)) (.int 2) R) ((R w)):=⟨fun h=>ztn h⟩
instance zuN :Stp (oIx (.list (u::xs)) (.int 0) R) ((R u)):=⟨fun h=>VS h⟩
instance zuM :Stp (oIx (.list (u::v::xs)) (.int 1) R) ((R v)):=⟨fun h=>zpf h⟩
instance zuE :Stp (truD (.bool a) Rb) ((Rb a)):=⟨fun h=>ztf h⟩
instance zuD :Stp (truD (.list xs) Rb) ((Rb (!xs.isEmpty))):=⟨fun h=>zte h⟩
instance zvU :Stp (bolD (.bool a) Rb) ((Rb a)):=⟨fun h=>zwH h⟩
instance zuI :Stp (bLen [.list xs] R) ((R (.int xs.length))):=⟨fun h=>ztm h⟩
instance zuG :Stp (bLen [.tuple xs] R) ((R (.int xs.length))):=⟨fun h=>ztk h⟩
instance zuH :Stp (bLen [.str s] R) (((s.length<=16777216/\R (.int s.length)))):=⟨fun h=>ztl h⟩
instance zrr {ns:List Int}:Stp (bLen [SCR ns] R) ((R (.int ns.length))):=⟨fun h=>zop h⟩
instance zvG :Stp (bMin [.int i,.int j] R) ((R (.int (if j<i then j else i)))):=⟨fun h=>zws h⟩
instance zvH :Stp (bMax [.int i,.int j] R) ((R (.int (if j > i then j else i)))):=⟨fun h=>zwt h⟩
instance zuO :Stp (bInt [.bool a] R) ((R (.int (if a then 1 else 0)))):=⟨fun h=>zts h⟩
instance zrp :Stp (ZH [.list xs] R) ((R (.tuple xs))):=⟨fun h=>zon h⟩
instance zuF :Stp (Zs [u] R) (((Shd u/\R (.str u.shown)))):=⟨fun h=>zth h⟩
instance zrO {Rl:List af->Prop}:Stp (JV (.list xs) Rl) ((Rl xs)):=⟨fun h=>zqA h⟩
instance zrs {Rl:List af->Prop}:Stp (JV (.tuple xs) Rl) ((Rl xs)):=⟨fun h=>zos h⟩
instance zvT {Q:List af->Prop}:Stp (lCat (.list xs) (.list ys) Q) (((xs.length+ys.length<=16777216/\Q (xs++ys)))):=⟨fun h=>zwG h⟩
instance zvJ {Q:List af->Prop}:Stp (lLst (.list xs) Q) ((Q xs)):=⟨fun h=>zwv h⟩
instance zvw {Q:List af->Prop}:Stp (lTup (.tuple xs) Q) ((Q xs)):=⟨fun h=>zwi h⟩
instance zvN {i:Int}{Q:Int->Prop}:Stp (lInt (.int i) Q) ((Q i)):=⟨fun h=>zwA h⟩
instance zvE :Stp (oMul (.int i) (.int j) R) ((CMul i j)/\(R (.int (i*j)))):=⟨fun h=>zwq h.1 h.2⟩
instance zvF :Stp (oMod (.int i) (.int j) R) ((0<j)/\(R (.int (i % j)))):=⟨fun h=>zwr h.1 h.2⟩
instance zuP :Stp (UF (.int i) (.int j) R) ((Zp i j)/\(R (.int (i / j)))):=⟨fun h=>ztt h.1 h.2⟩
instance zvz :Stp (oShl (.int i) (.int j) R) ((CPow i j)/\(R (.int (i*2 ^ j.toNat)))):=⟨fun h=>zwl h.1 h.2⟩
instance zvx :Stp (oSub (.int i) (.int j) R) ((R (.int (i - j)))):=⟨fun h=>zwj h⟩
instance zvv :Stp (oXor (.int i) (.int j) R) ((R (.int (bH i j)))):=⟨fun h=>zwh h⟩
instance zvV :Stp (oAnd (.int i) (.int j) R) ((R (.int (fI i j)))):=⟨fun h=>zwI h⟩
instance zw_ :Stp (gB fb (.int i) (.int j) R) ((R (.bool (fb i j)))):=⟨fun h=>j_gB h⟩
instance znR :Stp (lIsi isInt (.int i) R) ((R (.bool true))):=⟨fun h=>zi1 h⟩
instance znC :Stp (lIsi isInt (.bool a) R) ((R (.bool true))):=⟨fun h=>zhP h⟩
instance znQ :Stp (lIsi isInt (.str s) R) ((R (.bool false))):=⟨fun h=>zi0 h⟩
instance zlq :Stp (lIsi isInt (.tuple xs) R) ((R (.bool false))):=⟨fun h=>zgy h⟩
instance znA :Stp (lIsi isInt (.list xs) R) ((R (.bool false))):=⟨fun h=>zhN h⟩
instance znz :Stp (lIsi isInt (.none) R) ((R (.bool false))):=⟨fun h=>zhM h⟩
instance znB :Stp (lIsi isInt (.dict []) R) ((R (.bool false))):=⟨fun h=>zhO h⟩
instance znD :Stp (lIsi isBool (.int i) R) ((R (.bool false))):=⟨fun h=>zhQ h⟩
instance zlr :Stp (lIsi isBool (.bool a) R) ((R (.bool true))):=⟨fun h=>zgz h⟩
instance znN :Stp (lIsi isTup (.int i) R) ((R (.bool false))):=⟨fun h=>ziX h⟩
instance znu :Stp (lIsi isTup (.bool a) R) ((R (.bool false))):=⟨fun h=>zhH h⟩
instance znM :Stp (lIsi isTup (.str s) R) ((R (.bool false))):=⟨fun h=>ziW h⟩
instance zlo :Stp (lIsi isTup (.tuple xs) R) ((R (.bool true))):=⟨fun h=>zgw h⟩
instance zns :Stp (lIsi isTup (.list xs) R) ((R (.bool false))):=⟨fun h=>zhF h⟩
instance znr :Stp (lIsi isTup (.none) R) ((R (.bool false))):=⟨fun h=>zhE h⟩
instance znt :Stp (lIsi isTup (.dict []) R) ((R (.bool false))):=⟨fun h=>zhG h⟩
instance znP :Stp (lIsi isStr (.int i) R) ((R (.bool false))):=⟨fun h=>ziZ h⟩
instance zny :Stp (lIsi isStr (.bool a) R) ((R (.bool false))):=⟨fun h=>zhL h⟩
instance znO :Stp (lIsi isStr (.str s) R) ((R (.bool true))):=⟨fun h=>ziY h⟩
instance zlp :Stp (lIsi isStr (.tuple xs) R) ((R (.bool false))):=⟨fun h=>zgx h⟩
instance znw :Stp (lIsi isStr (.list xs) R) ((R (.bool false))):=⟨fun h=>zhJ h⟩
instance znv :Stp (lIsi isStr (.none) R) ((R (.bool false))):=⟨fun h=>zhI h⟩
instance znx :Stp (lIsi isStr (.dict []) R) ((R (.bool false))):=⟨fun h=>zhK h⟩
end
section
variable{d da db:DTE}{dlo dhi:DTO}{ρ:En}{n:Nat}{R:qN}{Ro:Option Int->Nat->Prop}{Rl:List af->Nat->Prop}{xs ys:qD}{lo hi:Option Int}{Q:af->Prop}{Ql:List af->Prop}
instance zu3 :Stp (dSlL d dlo dhi ρ n Rl) ((d ρ n fun t n1=>dlo ρ n1 fun lo n2=>dhi ρ n2 fun hi n3=>lSl t lo hi fun z=>Rl z n3)):=⟨fun h=>ztP h⟩
instance zpD :Stp (zi8 ρ n Ro) ((Ro none n)):=⟨fun h=>zmy h⟩
instance zrW :Stp (zq9 d ρ n Ro) ((d ρ n fun t n'=>lInt t fun i=>Ro (some i) n')):=⟨fun h=>zqL h⟩
instance zuZ :Stp (dZip da db ρ n Rl) ((da ρ n fun x n1=>db ρ n1 fun y n2=>JV x fun xs=>JV y fun ys=>Rl (zipD xs ys) n2)):=⟨fun h=>ztL h⟩
instance zvy :Stp (lSl (.list xs) lo hi Ql) ((Ql (cutD xs lo hi))):=⟨fun h=>zwk h⟩
end
section
instance zrU {d:DTE}{ρ:En}{n:Nat}{Rl:List af->Nat->Prop}:Stp (zq8 d ρ n Rl) ((d ρ n fun t n1=>Zu t fun ts=>Rl ts n1)):=⟨fun h=>zqJ h⟩
end
section
variable{R:af->Prop}{b:Bool}{A B:Prop}
instance zxa:Stp (if true=true then A else B) A:=⟨fun h=>iteT h⟩
instance zxb:Stp (if false=true then A else B) B:=⟨fun h=>iteF h⟩
end
class GetN (ρ:En)(i:Nat)(c:outParam (Option Cell)):Prop where
 e:ρ[i]?=some c
class SetN (ρ:En)(i:Nat)(c:Option Cell)(ρ':outParam En):Prop where
 e:ρ.set i c=ρ'
instance{a0:Option Cell}{as:En}:GetN (a0::as) 0 a0:=⟨rfl⟩
instance{a0 c:Option Cell}{as:En}:SetN (a0::as) 0 c (c::as):=⟨rfl⟩
instance{a0 a1:Option Cell}{as:En}:GetN (a0::a1::as) 1 a1:=⟨rfl⟩
instance{a0 a1 c:Option Cell}{as:En}:SetN (a0::a1::as) 1 c (a0::c::as):=⟨rfl⟩
instance{a0 a1 a2:Option Cell}{as:En}:GetN (a0::a1::a2::as) 2 a2:=⟨rfl⟩
instance{a0 a1 a2 c:Option Cell}{as:En}:SetN (a0::a1::a2::as) 2 c (a0::a1::c::as):=⟨rfl⟩
instance{a0 a1 a2 a3:Option Cell}{as:En}:GetN (a0::a1::a2::a3::as) 3 a3:=⟨rfl⟩
instance{a0 a1 a2 a3 c:Option Cell}{as:En}:SetN (a0::a1::a2::a3::as) 3 c (a0::a1::a2::c::as):=⟨rfl⟩
instance{a0 a1 a2 a3 c:Option Cell}{as:En}{i:Nat}[h:GetN as i c]:GetN (a0::a1::a2::a3::as) (i+4) c:=⟨h.e⟩
instance{a0 a1 a2 a3 c:Option Cell}{as bs:En}{i:Nat}[h:SetN as i c bs]:SetN (a0::a1::a2::a3::as) (i+4) c (a0::a1::a2::a3::bs):=⟨by rw[<- h.e];rfl⟩
class NormE (ρ:En)(ρ':outParam En):Prop where
 e:ρ=ρ'
instance{a:Option Cell}{as:En}:NormE (a::as) (a::as):=⟨rfl⟩
instance{ρ ρ1 ρ2:En}{i:Nat}{c:Option Cell}[h:NormE ρ ρ1][k:SetN ρ1 i c ρ2]:NormE (ρ.set i c) ρ2:=⟨by rw[h.e];exact k.e⟩
class NoneN (as:En)(nn:outParam En):Prop where
 e:bM as.length none=nn
instance:NoneN [] []:=⟨rfl⟩
instance{a:Option Cell}{as nn:En}[h:NoneN as nn]:NoneN (a::as) (none::nn):=⟨by rw[aO,bQ,h.e]⟩
class StartN (N:List Str)(ts:qD)(ρ:outParam En):Prop where
 e:J1 N ts=ρ
instance:StartN [] [] []:=⟨rfl⟩
instance{x:Str}{N:List Str}{ρ:En}[h:StartN N [] ρ]:StartN (x::N) [] (none::ρ):=⟨by
 have:=h.e;simp only[J1,fi,dm,cx,mJ]at this ⊢;rw[aO,bQ,this]⟩
instance{x:Str}{N:List Str}{t:af}{ts:qD}{ρ:En}[h:StartN N ts ρ]:StartN (x::N) (t::ts) (some (.val t)::ρ):=⟨by
 have:=h.e;simp only[J1]at this ⊢;rw[bV,aO,aO,cW,Nat.add_sub_add_right,this]⟩
theorem zkk{d:DTS}{D:JU}{n:Nat}{N:List Str}{ts:qD}{l:En}[e:StartN N ts l](h:d D l n):d D (J1 N ts) n:=e.e.symm▸h
class CapN (is:List Nat)(ρ:En)(out:outParam En):Prop where
 e:(is.map fun i=>capV (ρ.getD i none))=out
class CapC (c:Option Cell)(c':outParam (Option Cell)):Prop where
 e:capV c=c'
instance{d:af}:CapC (some (.val d)) (some (.val d)):=⟨rfl⟩
instance{d:qD}:CapC (some (.own d)) none:=⟨rfl⟩
instance:CapC none none:=⟨rfl⟩
instance{ρ:En}:CapN [] ρ []:=⟨rfl⟩
instance{i:Nat}{is:List Nat}{ρ out:En}{c c':Option Cell}[g:GetN ρ i c][k:CapC c c'][h:CapN is ρ out]:CapN (i::is) ρ (c'::out):=⟨by
 have ge:=g.e;rw[bV,h.e,bh,ge,dX,k.e]⟩
class CompN (m:Nat)(capt:List Nat)(ρ:En)(ρ':outParam En):Prop where
 e:JB m capt ρ=ρ'
instance{x:Str}{capt:List Nat}{ρ out:En}[h:CapN capt ρ out]:CompN (dP [x]) capt ρ (none::out):=⟨by unfold JB;rw[h.e];rfl⟩
instance{x y:Str}{capt:List Nat}{ρ out:En}[h:CapN capt ρ out]:CompN (dP [x,y]) capt ρ (none::none::out):=⟨by unfold JB;rw[h.e];rfl⟩
instance{x y z:Str}{capt:List Nat}{ρ out:En}[h:CapN capt ρ out]:CompN (dP [x,y,z]) capt ρ (none::none::none::out):=⟨by unfold JB;rw[h.e];rfl⟩
instance{x y z u:Str}{capt:List Nat}{ρ out:En}[h:CapN capt ρ out]:CompN (dP [x,y,z,u]) capt ρ (none::none::none::none::out):=⟨by unfold JB;rw[h.e];rfl⟩
def SetK(i:Nat)(c:Option Cell)(K:En->Nat->Prop)(l:En)(n:Nat):Prop:=K (l.set i c) n
section
variable{t u:DTS}{D:JU}{ρ ρ0 ρ':En}{n i j m:Nat}{d dj:DTE}{ds di:DTA}{tt:DTT}{tg:DTG}{R:qN}{Rl:List af->Nat->Prop}{Re:En->Prop}{x:af}{xs:qD}{f:Int->Int->Int}{capt:List Nat}{c:Option Cell}{K:En->Nat->Prop}{q:Int}
instance zxj [h:SetN ρ i c ρ']:Stp (SetK i c K ρ n) (K ρ' n):=⟨fun k=>by unfold SetK;rw[h.e];exact k⟩
instance zw3:Stp (sSet i d D ρ n) (d ρ n fun t n'=>SetK i (some (.val t)) D.nx ρ n'):=⟨fun h=>h⟩
instance zw4:Stp (sOwn i ds D ρ n) (ds ρ n fun t n'=>SetK i (some (.own t)) D.nx ρ n'):=⟨fun h=>h⟩
instance zuB [h:SetN ρ i (some (.val x)) ρ']:Stp (Qo i x ρ Re) (Re ρ'):=⟨fun k=>by unfold Qo;rw[h.e];exact k⟩
instance zxf [h:GetN ρ i (some (.val x))]:Stp (dVar i ρ n R) (R x n):=⟨fun k=>zpi h.e k⟩
instance zxg [h:GetN ρ i (some (.own xs))]:Stp (dOwn i ρ n R) (R (.list xs) n):=⟨fun k=>zpj h.e k⟩
instance zvf [h:GetN ρ i (some (.own xs))]:Stp (Y8 i d D ρ n) (d ρ n fun t n'=>xs.length<16777216/\SetK i (some (.own (xs++[t]))) D.nx ρ n'):=⟨fun k=>zjO h.e k⟩
instance zvd [h:GetN ρ i (some (.own xs))][h':SetN ρ i (some (.val (.list xs))) ρ']:Stp (Z9 i t D ρ n) (t D ρ' n):=⟨fun k=>zjN h.e (by rw[h'.e];exact k)⟩
instance zxh [h:CompN m capt ρ ρ0]:Stp (dComp m capt di tg tt d ρ n Rl) (di ρ n fun ts n1=>JQ tg tt d ρ0 ts [] n1 Rl):=⟨fun k=>zqO (by rw[h.e];exact k)⟩
theorem zsa{D:JU}{ρ:En}{i:Nat}{xs:qD}{x:af}{n:Nat}{j:Int}{k:Nat}(e:ixN xs.length j=some k)(h:SetK i (some (.own (xs.set k x))) D.nx ρ n) :
  (match ixN xs.length j with|some k=>D.nx (ρ.set i (some (.own (xs.set k x)))) n|none=>False):=by rw[e];exact h
instance zxm [h:GetN ρ i (some (.own xs))]:Stp (sPut i dj d D ρ n) (d ρ n fun t n1=>U0 ρ i D dj t n1 xs):=⟨fun k=>zwK h.e k⟩
instance zw5:Stp (U0 ρ i D dj x n xs) (dj ρ n fun j n2=>lInt j fun j=>(match ixN xs.length j with|some k=>D.nx (ρ.set i (some (.own (xs.set k x)))) n2|none=>False)):=⟨fun h=>ztH h⟩
end
theorem QM{l:En}{i:Nat}:l.set i (l.getD i none)=l:=by
 apply mH
 intro j
 by_cases h:i=j
 ·subst h
  by_cases hl:i<l.length
  ·rw[cw hl,bh,aE hl];rfl
  ·rw[bX (by simp;omega),bX (by omega)]
 ·rw[aQ h]
section
variable{g:DTG}{tb:DTS}{D:JU}{ts:qD}{ρ:En}{n:Nat}
theorem zpn(R J I:Nat)(Inv:Nat->Option Cell->Option Cell->Option Cell->Nat->Prop){v:Option Cell->Option Cell->Option Cell->En}[N:∀l a1 a2,NormE (((ρ.set R l).set J a1).set I a2) (v l a1 a2)](h0:Inv 0 (ρ.getD R none) (ρ.getD J none) (ρ.getD I none) n)
  (turn:∀(k:Nat) (t:af) (l a1 a2:Option Cell) (m:Nat) (K:En->Nat->Prop) (U:qN) (S:En->Nat->Prop),ts[k]?=some t->Inv k l a1 a2 m->(∀y x C G,Inv (k+1) y x C G->K (v y x C) G)->(∀t m,D.rt t m->U t m)->(∀ρ m,D.nx ρ m->S ρ m)->g t (v l a1 a2) fun u=>tb { nx:=K,rt:=U,bk:=S,ct:=K,xr:=D.xr } u m)
  (fin:∀l a1 a2 m,Inv ts.length l a1 a2 m->D.nx (v l a1 a2) m):forP g tb D ts ρ n:=by
 refine Zb (fun k u m=>∃l a1 a2,u=(((ρ.set R l).set J a1).set I a2)/\Inv k l a1 a2 m) ⟨_,_,_,?_,h0⟩ ?_ ?_
 ·rw[QM,QM,QM]
 ·rintro k t u m K e ⟨l,a1,a2,rfl,L⟩ hK;rw[(N l a1 a2).e];exact turn k t l a1 a2 m K D.rt D.nx e L (fun y x C G h=>(N y x C).e▸hK _ _ ⟨y,x,C,rfl,h⟩) (fun _ _ h=>h) (fun _ _ h=>h)
 ·rintro u m ⟨l,a1,a2,rfl,L⟩;rw[(N l a1 a2).e];exact fin l a1 a2 m L
theorem VU(Y S L R:Nat)(Inv:Nat->Option Cell->Option Cell->Option Cell->Option Cell->Nat->Prop){x:Option Cell->Option Cell->Option Cell->Option Cell->En}[N:∀l a1 a2 u,NormE ((((ρ.set Y l).set S a1).set L a2).set R u) (x l a1 a2 u)](h0:Inv 0 (ρ.getD Y none) (ρ.getD S none) (ρ.getD L none) (ρ.getD R none) n)
  (turn:∀(k:Nat) (t:af) (l a1 a2 u:Option Cell) (m:Nat) (K:En->Nat->Prop) (RT:qN) (Z:En->Nat->Prop),ts[k]?=some t->Inv k l a1 a2 u m->(∀G C I y J,Inv (k+1) G C I y J->K (x G C I y) J)->(∀t m,D.rt t m->RT t m)->(∀ρ m,D.nx ρ m->Z ρ m)->g t (x l a1 a2 u) fun v=>tb { nx:=K,rt:=RT,bk:=Z,ct:=K,xr:=D.xr } v m)
  (fin:∀l a1 a2 u m,Inv ts.length l a1 a2 u m->D.nx (x l a1 a2 u) m):forP g tb D ts ρ n:=by
 refine Zb (fun k v m=>∃l a1 a2 u,v=((((ρ.set Y l).set S a1).set L a2).set R u)/\Inv k l a1 a2 u m) ⟨_,_,_,_,?_,h0⟩ ?_ ?_
 ·rw[QM,QM,QM,QM]
 ·rintro k t v m K e ⟨l,a1,a2,u,rfl,U⟩ hK;rw[(N l a1 a2 u).e];exact turn k t l a1 a2 u m K D.rt D.nx e U (fun G C I y J h=>(N G C I y).e▸hK _ _ ⟨G,C,I,y,rfl,h⟩) (fun _ _ h=>h) (fun _ _ h=>h)
 ·rintro v m ⟨l,a1,a2,u,rfl,U⟩;rw[(N l a1 a2 u).e];exact fin l a1 a2 u m U
theorem zt_(i0 Z S U Y:Nat)(Inv:Nat->Option Cell->Option Cell->Option Cell->Option Cell->Option Cell->Nat->Prop){y:Option Cell->Option Cell->Option Cell->Option Cell->Option Cell->En}[N:∀l a1 a2 u v,NormE (((((ρ.set i0 l).set Z a1).set S a2).set U u).set Y v) (y l a1 a2 u v)](h0:Inv 0 (ρ.getD i0 none) (ρ.getD Z none) (ρ.getD S none) (ρ.getD U none) (ρ.getD Y none) n)
  (turn:∀(k:Nat) (t:af) (l a1 a2 u v:Option Cell) (m:Nat) (K:En->Nat->Prop) (RT:qN) (BK:En->Nat->Prop),ts[k]?=some t->Inv k l a1 a2 u v m->(∀I G J C L R,Inv (k+1) I G J C L R->K (y I G J C L) R)->(∀t m,D.rt t m->RT t m)->(∀ρ m,D.nx ρ m->BK ρ m)->g t (y l a1 a2 u v) fun x=>tb { nx:=K,rt:=RT,bk:=BK,ct:=K,xr:=D.xr } x m)
  (fin:∀l a1 a2 u v m,Inv ts.length l a1 a2 u v m->D.nx (y l a1 a2 u v) m):forP g tb D ts ρ n:=by
 refine Zb (fun k x m=>∃l a1 a2 u v,x=(((((ρ.set i0 l).set Z a1).set S a2).set U u).set Y v)/\Inv k l a1 a2 u v m) ⟨_,_,_,_,_,?_,h0⟩ ?_ ?_
 ·rw[QM,QM,QM,QM,QM]
 ·rintro k t x m K e ⟨l,a1,a2,u,v,rfl,hI⟩ hK;rw[(N l a1 a2 u v).e];exact turn k t l a1 a2 u v m K D.rt D.nx e hI (fun I G J C L R h=>(N I G J C L).e▸hK _ _ ⟨I,G,J,C,L,rfl,h⟩) (fun _ _ h=>h) (fun _ _ h=>h)
 ·rintro x m ⟨l,a1,a2,u,v,rfl,hI⟩;rw[(N l a1 a2 u v).e];exact fin l a1 a2 u v m hI
theorem zow{i j:Nat}{u:DTS}{D:JU}{G nn y C:En}{n:Nat}{ns:List Int}{k:Int}[ej:GetN (some (.val (SCR ns))::G) j (some (.val (.int k)))][e1:NoneN G nn][e2:SetN (some (.val (SCR ns))::nn) j (some (.val (.int k))) y][e3:SetN y i (some (.val HAND)) C](R:ns.length<=63)(k0:0<=k)(k1:k<=100)
  (h:∀(I:En->Nat->Prop) (N:qN) (J L:En->Nat->Prop),(∀x m,D.nx (JM x) n->I x m)->(∀b m,D.rt (.bool b) n->N (.bool b) m)->(∀x m,D.bk (JM x) n->J x m)->(∀x m,D.ct (JM x) n->L x m) ->
   u { nx:=I,rt:=N,bk:=J,ct:=L } C 0):Yl i j u D (some (.val (SCR ns))::G) n:=by
 refine zqH (ρd:=some (.val (SCR ns))::nn) rfl ej.e R k0 k1 ?_ ?_
 ·show some (Cell.val (SCR ns))::bM (dP (some (Cell.val (SCR ns))::G) - 1) none=_
  rw[aO,Nat.add_sub_cancel,e1.e]
 ·rw[e2.e,e3.e];exact h _ _ _ _ (fun _ _ h=>h) (fun b _ h=>⟨b,rfl,h⟩) (fun _ _ h=>h) (fun _ _ h=>h)
theorem zpx{c:DTT}{tb:DTS}{D:JU}{ρ:En}{n:Nat}(Inv:Nat->En->Nat->Prop){m:Nat}(h0:Inv m ρ n)
  (turn:∀m ρ n (K:En->Nat->Prop) (C:qN) (x:En->Nat->Prop),Inv m ρ n->(∀u l v,u<m->Inv u l v->K l v)->(∀t m,D.rt t m->C t m)->(∀ρ m,D.nx ρ m->x ρ m) ->
   c ρ n fun b y=>if b=true then tb { nx:=K,rt:=C,bk:=x,ct:=K,xr:=D.xr } ρ y else x ρ y):zls c tb D ρ n :=
 zgN Inv h0 fun m ρ n h=>turn m ρ n (fun l v=>∃u,u<m/\Inv u l v) D.rt D.nx h (fun u _ _ a b=>⟨u,a,b⟩) (fun _ _ h=>h) (fun _ _ h=>h)
end
open Builtin Builtin.Str
def cutS(x:Str)(lo hi:Option Int):Str:=⟨((x.cps.toList.drop (HT.sIx x.length 0 lo)).take (HT.sIx x.length x.length hi - HT.sIx x.length 0 lo)).toArray⟩
theorem VW(n d:Nat)(i:Int):((HT.sIx n d (some i):Nat):Int)=max 0 (min (if i<0 then i+(n:Int) else i) (n:Int)):=by
 simp only[HT.sIx]
 by_cases h:i<0
 ·simp only[h,if_true] <;> lia
 ·simp only[h,if_false] <;> lia
theorem zrH(lo hi:Option Int)(n:Nat):strSliceIndices lo hi 1 n=sliceRange ((HT.sIx n 0 lo:Nat):Int) ((HT.sIx n n hi:Nat):Int) 1:=by
 have l:((HT.sIx n 0 none:Nat):Int)=0:=by simp[HT.sIx]
 have u:((HT.sIx n n none:Nat):Int)=n:=by simp[HT.sIx]
 cases lo with
 | none =>
  cases hi with
  | none=>rw[l,u];rfl
  | some j=>rw[l,VW];rfl
 | some i =>
  cases hi with
  | none=>rw[u,VW];rfl
  | some j=>rw[VW,VW];rfl
theorem zll(x:Str)(lo hi:Option Int):nu x lo hi=cutS x lo hi:=by
 have e:strSliceIndices lo hi 1 x.length=(eO (HT.sIx x.length x.length hi - HT.sIx x.length 0 lo)).map (HT.sIx x.length 0 lo+·):=by rw[zrH,oC]
 have v:(strSliceIndices lo hi 1 x.length).filterMap (x.cps[·]?)=(x.cps.toList.drop (HT.sIx x.length 0 lo)).take (HT.sIx x.length x.length hi - HT.sIx x.length 0 lo):=by rw[e,uj]
 unfold nu;split
 ·rename_i h;have u:(strSliceIndices lo hi 1 x.length).length=x.length:=by simpa using h
  rw[e,aM,List.length_range]at u;unfold cutS;have y:HT.sIx x.length x.length hi<=x.length:=by
   cases hi with
   | none=>simp[HT.sIx]
   | some i=>simp only[HT.sIx];split <;> lia
  have z:HT.sIx x.length 0 lo=0\/x.length=0:=by lia
  have:(x.cps.toList.drop (HT.sIx x.length 0 lo)).take (HT.sIx x.length x.length hi - HT.sIx x.length 0 lo)=x.cps.toList:=by
   have sz:x.cps.toList.length=x.length:=by simp[km]
   rcases z with z|z
   ·rw[z,ly,gN (by lia)]
   ·have:x.cps.toList=[]:=gy.mp (by lia)
    rw[this];simp
  rw[this]
 ·rw[v];rfl
section
variable{X:Cx}
theorem zfU{v:ah}{p:Option Int}(h:iV v p):∃l:Option (Int×Tok),v=partValue l/\l.map (·.1)=p:=by
 cases h with
 | none=>exact⟨none,rfl,rfl⟩
 | int i t=>exact⟨some (i,t),rfl,rfl⟩
def rSlS:V->Option Int->Option Int->Hp->VK->Prop:=fun x lo hi H Q=>∃z,x=.str z/\z.length<=sizeLine/\Q (.str (cutS z lo hi)) H
theorem zrM:SlR X rSlS:=by
 intro pins s σ H x v S U lo hi R Q I J L pl N h;obtain⟨z,rfl,G,q⟩:=h;obtain⟨t,rfl⟩:=J;obtain⟨l,rfl,rfl⟩:=zfU pl;obtain⟨u,rfl,rfl⟩:=zfU N;have C:s.heap.IsSlice R l u none:=L;refine⟨"str",_,F.slot_str_getitem.lookup,oB _ _ _,wpAny_getItem_str_slice (l:=l) (u:=u) (st:=none) C rfl (post_val_or_str ?_)⟩;have e:(if (((none:Option (Int×Tok)).map (·.1)).getD 1 == 1&&(slicePicked z l u none).length == z.length)=true then z else⟨((slicePicked z l u none).filterMap (z.cps[·]?)).toArray⟩)=nu z (l.map (·.1)) (u.map (·.1)):=rfl
 rw[e];refine⟨bY (Txt.slice_le z _ _) G,fun t' k=>⟨.str (nu z (l.map (·.1)) (u.map (·.1))),H,I.tok _,⟨_,rfl⟩,?_⟩⟩
 rw[zll];exact q
def oSlA(t:af)(lo hi:Option Int)(R:af->Prop):Prop:=match t with
 | .tuple ts=>R (.tuple (cutD ts lo hi))
 | .str x=>x.length<=16777216/\R (.str (cutS x lo hi))
 | _=>False
def dSlA(d:DTE)(dl v:DTO):DTE:=fun l n R=>d l n fun t u=>dl l u fun lo x=>v l x fun hi y=>oSlA t lo hi fun z=>R z y
variable{e a b iter tg:aT}{d da db:DTE}{lo hi:Option aT}{dlo dhi:DTO}{pos p2:Pos}
theorem Uh(h:DL X e d)(U:DP X lo dlo)(hu:DP X hi dhi):DE X (.Subscript e (.Slice lo hi none p2) pos) (dSlA d dlo dhi):=by
 obtain⟨ta,pa,h⟩:=h;obtain⟨tl,pl,U⟩:=U;obtain⟨tu,pu,hu⟩:=hu;refine⟨_,zjv (SlR.or (SlR.or zrL zpA) zrM) pa pl pu,fun C Z σ H n Q R S hd hq=>?_⟩
 refine h C Z σ H n _ _ S hd fun t n1 v H1 r1 L h1 q1=>?_
 have S1:=S.on L h1;refine U C Z σ H1 n1 _ _ S1 r1 fun lo n2 H2 r2 G h2=>?_
 have S2:=S1.on G h2;refine hu C Z σ H2 n2 _ _ S2 r2 fun hi n3 H3 I y N=>?_
 have S3:=S2.on y N;have Y:=(G.trans y).repT S.hx q1;cases t with
 | tuple ts =>
  obtain⟨a,x,rfl,hs,rs⟩:=Y.tupI
  by_cases w:HT.sIx x.length 0 lo=0/\HT.sIx x.length x.length hi=x.length
  ·refine .inl (.inr ⟨a,x,rfl,hs,w,hq _ n3 _ H3 I (L.trans (G.trans y)) N ?_⟩);rw[zk0 (by rw[<- rs.length];exact w)]
   exact Y.rep (by intro _ z;cases z)
  ·refine .inl (.inl ⟨a,x,rfl,hs,w,fun p J=>hq _ n3 _ _ I (L.trans (G.trans (y.trans (ExtE.new J)))) (N.same (JP J)) ?_⟩)
   exact .newT (S3.free J) J (zj6 rs lo hi)
 | str z =>
  rw[Y.strI];exact .inr ⟨z,rfl,I.1,hq _ n3 _ H3 I.2 (L.trans (G.trans y)) N (.str _)⟩
 | _=>exact I.elim
def repS(x:Str)(n:Int):Str:=⟨(bM n.toNat x.cps.toList).flatten.toArray⟩
theorem zh0(x:Array Nat):∀(n:Nat) (u:Array Nat),(bM n x).foldl (·++·) u=(u.toList++(bM n x.toList).flatten).toArray
 | 0,u=>by simp
 | n+1,u=>by
  rw[bQ,List.foldl_cons,zh0 x n,bQ,mL];simp
theorem zp7:OpR X (binaryOp .Mult) (fun x y H Q=>∃i j,x=.str i/\y=.int j/\-100000<=j/\j<=100000/\i.length<=100/\Q (.str (repS i j)) H):=by
 intro pins s σ H x y v u Q I J S h;obtain⟨i,j,rfl,rfl,j0,Z,hi,q⟩:=h;obtain⟨t,rfl⟩:=J;obtain⟨t',rfl⟩:=S;have U:decide (j < -(2 ^ 63:Int))=false:=decide_eq_false (by lia)
 have L:decide (j>=2 ^ 63)=false:=decide_eq_false (by lia)
 have C:∀n:Nat,n<=100000->i.length*n<=10000000:=fun n R=>Nat.mul_le_mul hi R
 refine P.mul_str (by rw[U,L];rfl) (fun N _ h2=>?_) (fun N _=>?_) ?_
 ·have h3:(100:Int)<=(2 ^ 63 - 1) / j:=by
   apply Int.le_ediv_of_mul_le (by lia)
   lia
  lia
 ·have:=C j.toNat (by lia)
  unfold tooLong;exact decide_eq_false (by have:sizeLine=16777216:=rfl;lia)
 ·by_cases c1:j<1
  ·rw[if_pos c1];have e:repS i j=iq:=by
    unfold repS;rw[show j.toNat=0 by lia];rfl
   rw[e]at q;exact⟨by decide,.str iq,H,I.tok _,⟨_,rfl⟩,q⟩
  ·rw[if_neg c1]
   by_cases c2:(j == 1||i.length == 0)=true
   ·rw[if_pos c2];have e:repS i j=i:=by
     unfold repS;rw[Bool.or_eq_true,beq_iff_eq,beq_iff_eq]at c2;rcases c2 with c2|c2
     ·subst c2;simp
     ·have z:i.cps.toList=[]:=gy.mp (by simpa[km] using c2)
      have G:i.cps=#[]:=by
       have:=congrArg List.toArray z;simpa using this
      rw[z];have:(bM j.toNat ([]:List Nat)).flatten=[]:=by simp
      rw[this,<- G]
    rw[e]at q;exact⟨.str i,H,I,⟨_,rfl⟩,q⟩
   ·rw[if_neg c2];have e:repS i j=⟨(bM j.toNat i.cps).foldl (·++·) #[]⟩:=by
     unfold repS;rw[zh0];simp
    rw[e]at q;refine⟨?_,.str _,H,I.tok _,⟨_,rfl⟩,q⟩;have:=C j.toNat (by lia)
    show(⟨(bM j.toNat i.cps).foldl (·++·) #[]⟩:Str).length<=sizeLine
    rw[<- e];unfold repS km;rw[ax,List.length_flatten,List.map_replicate,List.sum_replicate_nat,dN];have Y:sizeLine=16777216:=rfl;have e4:j.toNat*i.cps.size=i.length*j.toNat:=by rw[kC];rfl
    lia
def Vu:G2
 | .int i,.int j,R=>CMul i j/\R (.int (i*j))
 | .str i,.int j,R=>-100000<=j/\j<=100000/\i.length<=100/\R (.str (repS i j))
 | _,_,_=>False
theorem zp8:OpR X (binaryOp .Mult) (fun x y H Q=>(rI CMul fun i j=>.int (i*j)) x y H Q\/∃i j,x=.str i/\y=.int j/\-100000<=j/\j<=100000/\i.length<=100/\Q (.str (repS i j)) H):=OpR.or Q7 zp7
theorem zqR:Gp2 X (fun x y H Q=>(rI CMul fun i j=>.int (i*j)) x y H Q\/∃i j,x=.str i/\y=.int j/\-100000<=j/\j<=100000/\i.length<=100/\Q (.str (repS i j)) H) Vu:=by
 intro hd O H x y t u Q R dom C G g v;unfold Vu at g;split at g
 ·rw[C.intI,G.intI];exact .inl ⟨_,_,rfl,rfl,g.1,v _ _ H g.2 (Same.refl _) (.int _)⟩
 ·rw[C.strI,G.intI];exact .inr ⟨_,_,rfl,rfl,g.1,g.2.1,g.2.2.1,v _ _ H g.2.2.2 (Same.refl _) (.str _)⟩
 ·exact g.elim
theorem zq5(v:DL X a da)(x:DL X b db):DE X (.BinOp a .Mult b pos) (dOp Vu da db):=Q5 zp8 zqR v x
end
def Its(z:Str):It:=⟨fun i _=>i<z.cps.size,fun i H x l=>l=H/\∃c,z.cps[i]?=some c/\x=.str ⟨#[c]⟩,fun i _=>z.cps.size<=i⟩
theorem znI{P:aI}{w:aU}{K:qF}{tg:aT}(z:Str)(t:Tok)(it:ak)(T:String)(L:T = "str_ascii_iterator" \/ T = "str_iterator"):Turn P w K tg (Its z) [it] it (fun i h=>h.IsStrIter it T z t i) where
 mem:=by simp
 obj:=fun i h st b C=>by
  have e:b=it:=by simpa using C
  subst e;obtain⟨o,e,c,d⟩:=st;exact⟨o,e,fun v z=>by rw[d]at z;cases z⟩
 keep:=fun i h h' st k=>by
  obtain⟨o,e,r⟩:=st;exact⟨o,k it (by simp) o e,r⟩
 item:=by
  intro X Z hw hK hc i pins s σ H E I hf st G;subst Z hw hK;obtain⟨f0,f1,f2,S,f4,R⟩:=hf it (by simp)
  have G:i<z.cps.size:=G;have J:z.cps[i]?=some z.cps[i]:=by simp[G]
  have fin:∀h',h'.IsStrIter it T z t (i+1)->dO it s.heap h'->∃u,some (ip ⟨#[z.cps[i]]⟩ s.toks)=some u /\
    wpAny (model X.prog X.w) X.A (letOwnedTupleGo tg (.ref it) u) (fun _ s2=>∃x Y,Inv X pins σ Y s2/\RelV x u/\(Its z).yld i H x Y/\s2.heap.IsStrIter it T z t (i+1)/\∀b∈[it],Y b=none) E { s with heap:=h',toks:=s.toks+1 }:=by
   intro h' N sb;have I1:Inv X pins σ H { s with heap:=h',toks:=s.toks+1 }:=I.turned (t':=s.toks+1) (fun b o C e=>(sb.2 b C).trans e) f0 f1 S f4 R
   obtain⟨o,e,c,d⟩:=id N;have ne:(T = "enumerate")=False:=by rcases L with rfl|rfl <;> decide
   refine⟨_,rfl,Vw (s:={ s with heap:=h',toks:=s.toks+1 }) (n:=T) e c d (by rcases L with rfl|rfl <;> decide) ⟨.str ⟨#[z.cps[i]]⟩,H,I1,⟨_,rfl⟩,⟨rfl,_,J,rfl⟩,N,fun b C=>(hf b C).1⟩⟩
  rcases L with rfl|rfl
  ·exact wpAny_pyNext_ascii_item st J fin
  ·exact wpAny_pyNext_wide_item st J fin
 done:=by
  intro X Z hw hK hc i pins s σ H E I hf st G;subst Z hw hK;obtain⟨f0,f1,f2,S,f4,R⟩:=hf it (by simp)
  have G:z.cps.size<=i:=G;have J:z.cps[i]?=none:=by simp[G]
  rcases L with rfl|rfl
  ·exact wpAny_pyNext_ascii_end (I.ok.hd hc) st J fun h' U=>⟨rfl,I.turned (t':=s.toks) (fun b o C e=>U b o C e) f0 f1 S f4 R⟩
  ·exact wpAny_pyNext_wide_end (I.ok.hd hc) st J fun h' U=>⟨rfl,I.turned (t':=s.toks) (fun b o C e=>U b o C e) f0 f1 S f4 R⟩
 self:=fun _ _ _ _ _ st h=>by
  rcases L with rfl|rfl
  ·exact wpAny_pyIter_striter_ascii st h
  ·exact wpAny_pyIter_striter_wide st h
section
variable{X:Cx}{tg iter:aT}{d:DTE}
def iStr(l:TE):TI:=fun σ H R=>l σ H fun x u=>∃z,x=.str z/\R (Its z) u
theorem zsl{l:aT}{C:TE}(J:PE X l C):PI X tg l (iStr C):=by
 intro pins s σ H R I h;refine thn (J pins s σ H _ I h) fun v s1 ⟨x,N,u,S,L⟩=>?_
 obtain⟨z,rfl,q⟩:=L;obtain⟨t,rfl⟩:=S;have key:∀T,(T = "str_ascii_iterator" \/ T = "str_iterator")->PIE X pins σ tg R (.ref s1.heap.objs.size) { s1 with heap:=s1.heap.push { cls:=.type T,data:=.fields #[.str z t,.int 0 0] } }:=by
  intro T G;refine⟨s1.heap.objs.size,[s1.heap.objs.size],_,_,N,rfl,u.kept (t':=s1.toks) fun b o e=>aq _ e,znI z t _ T G,⟨_,aD _ rfl,rfl,rfl⟩,fun b U=>?_,q⟩
  have e:b=s1.heap.objs.size:=by simpa using U
  subst e;exact u.fpOk (ay _) (u.hok.fresh (ay _))
 cases ha:z.cps.all (·<128)
 ·exact wpAny_pyIter_wide ha (key _ (.inr rfl))
 ·exact wpAny_pyIter_ascii ha (key _ (.inl rfl))
def sgnD(z:Str):List af:=z.cps.toList.map fun c=>.str ⟨#[c]⟩
theorem ztC{K:qF}{hd:Option ak}{P O:ak->Prop}{H:Hp}{z:Str}:ItOk K hd P O H (Its z) (sgnD z):=by
 intro R L _ _ _;have sz:z.cps.toList.length=z.cps.size:=by simp
 refine⟨fun i t u=>?_,by show z.cps.size<=(sgnD z).length;unfold sgnD;rw[aM];lia⟩
 unfold sgnD at u;rw[aZ]at u;cases ec:z.cps.toList[i]? with
 | none=>rw[ec]at u;cases u
 | some c =>
  rw[ec]at u;cases u;obtain⟨hi,I⟩:=av.mp ec;have v:i<z.cps.size:=by lia
  have y:z.cps[i]?=some c:=by rw[<- Array.getElem?_toList];exact ec
  refine⟨v,fun x J G=>?_⟩
  obtain⟨rfl,N,C,rfl⟩:=G;rw[y]at C;cases C;exact⟨Same.refl _,.str _⟩
def lStr:af->(Str->Prop)->Prop
 | .str z,R=>R z
 | _,_=>False
def dItS(d:DTE):DTA:=fun u n R=>d u n fun t l=>lStr t fun z=>R (sgnD z) l
theorem zuj(h:DE X iter d):DI X tg iter (dItS d):=by
 obtain⟨J,pa,h⟩:=h;refine⟨_,zsl pa,fun C u σ H n Q R S hd G=>?_⟩
 refine h C u σ H n _ _ S hd fun t l v y r x I q=>?_
 cases t with
 | str z =>
  rw[q.strI];exact⟨z,rfl,G _ l _ y r x I ztC⟩
 | _=>exact r.elim
end
section
variable{X:Cx}{a b:aT}{rest:List aT}{ta tb:TE}{da db:DTE}{pos:Pos}
def tOrA(K:qF)(ta tb:TE):TE:=fun σ H Q=>ta σ H fun x l=>∃k,TruV K x l k/\if k=true then Q x l else tb σ l Q
theorem zsq(S:PE X a ta)(U:PE X (.BoolOp .Or (b::rest) pos) tb):PE X (.BoolOp .Or (a::b::rest) pos) (tOrA X.K ta tb):=by
 intro pins s σ H Q I h;refine BoolOp_or (thn (S pins s σ H _ I h) fun v s1 ⟨x,G,N,J,u⟩=>?_)
 obtain⟨k,e,u⟩:=u;refine thn (zoZ pins s1 σ G x v (fun c R=>c=k/\R=G) N J ⟨k,e,rfl,rfl⟩) fun c s2 L=>?_
 obtain⟨y,C,rfl,rfl⟩:=L;cases c with
 | false=>exact U pins s2 σ y Q C u
 | true=>exact⟨x,y,C,J,u⟩
def dOrA(da db:DTE):DTE:=fun u n R=>da u n fun t l=>truD t fun b=>if b=true then R t l else db u l R
theorem zun(h:DE X a da)(h':DE X (.BoolOp .Or (b::rest) pos) db):DE X (.BoolOp .Or (a::b::rest) pos) (dOrA da db):=by
 obtain⟨ta,pa,h⟩:=h;obtain⟨tb,Z,h'⟩:=h';refine⟨_,zsq pa Z,fun C G σ H n Q R S hd L=>?_⟩
 refine h C G σ H n _ _ S hd fun t I v u r x J y=>?_
 refine zo0 (Q:=fun k u=>if k=true then Q v u else tb σ u Q) (.inl y) r fun b N=>?_
 cases b with
 | true=>exact iteT (L _ I _ u N x J y)
 | false=>exact iteF (h' C G σ u I Q R (S.on x J) N fun t U v Y r e2 h2 q2=>L t U v Y r (x.trans e2) h2 q2)
end
section
variable{ρ:En}{n:Nat}{d da db:DTE}{dlo dhi:DTO}{R:qN}{Rl:List af->Nat->Prop}{Q:af->Prop}{xs:qD}{lo hi:Option Int}{x:Str}{i j:Int}{Ql:List af->Prop}
instance zxn:Stp (dOrA da db ρ n R) (da ρ n fun t n1=>truD t fun b=>if b=true then R t n1 else db ρ n1 R):=⟨fun h=>h⟩
instance zxl:Stp (dSlA d dlo dhi ρ n R) (d ρ n fun t n1=>dlo ρ n1 fun lo n2=>dhi ρ n2 fun hi n3=>oSlA t lo hi fun z=>R z n3):=⟨fun h=>h⟩
instance zw1:Stp (oSlA (.tuple xs) lo hi Q) (Q (.tuple (cutD xs lo hi))):=⟨fun h=>h⟩
instance zw2:Stp (oSlA (.str x) lo hi Q) (x.length<=16777216/\Q (.str (cutS x lo hi))):=⟨fun h=>h⟩
instance zw8:Stp (Vu (.str x) (.int j) Q) (-100000<=j/\j<=100000/\x.length<=100/\Q (.str (repS x j))):=⟨fun h=>h⟩
instance zxo:Stp (dItS d ρ n Rl) (d ρ n fun t n'=>lStr t fun z=>Rl (sgnD z) n'):=⟨fun h=>h⟩
instance zw9 {Rs:Str->Prop}:Stp (lStr (.str x) Rs) (Rs x):=⟨fun h=>h⟩
end
mutual
def plnD:af->Bool
 | .dict []=>true
 | .dict _=>false
 | .tuple ts=>decide (ts.length<=1000000)&&Yk ts
 | .list ts=>decide (ts.length<=1000000)&&Yk ts
 | .str x=>decide (x.length<=1000000)
 | _=>true
def Yk:List af->Bool
 | []=>true
 | t::ts=>plnD t&&Yk ts
end
def PlnD(d:af):Prop:=plnD d=true
theorem zeL:∀{ts:qD},Yk ts=true↔∀t∈ts,PlnD t
 | []=>by simp[Yk]
 | t::ts=>by
  rw[Yk,aG,zeL (ts:=ts)];constructor
  ·rintro⟨a,b⟩ u l;rcases aw.mp l with rfl|l
   ·exact a
   ·exact b u l
  ·intro h;exact⟨h t (by simp),fun u l=>h u (by simp[l])⟩
theorem PlnD.tup{ts:qD}(h:PlnD (.tuple ts)):ts.length<=1000000/\∀t∈ts,PlnD t:=by
 unfold PlnD plnD at h;rw[aG,decide_eq_true_iff,zeL]at h;exact h
theorem PlnD.str{x:Str}(h:PlnD (.str x)):x.length<=1000000:=by
 unfold PlnD plnD at h;exact decide_eq_true_iff.mp h
theorem zge{ts:qD}(l:ts.length<=1000000)(h:∀t∈ts,PlnD t):PlnD (.tuple ts):=by
 unfold PlnD plnD;rw[aG,decide_eq_true_iff,zeL];exact⟨l,h⟩
theorem Wc{x:Str}(h:x.length<=1000000):PlnD (.str x):=by unfold PlnD plnD;exact decide_eq_true h
theorem zju{i:Int}:PlnD (.int i):=by unfold PlnD plnD;rfl
theorem zgf:∀t∈([]:qD),PlnD t:=fun t h=>nomatch h
theorem Ut{x:af}{xs:qD}(h:PlnD x)(h':∀t∈xs,PlnD t):∀t∈x::xs,PlnD t:=fun t l=>by
 rcases aw.mp l with rfl|l
 ·exact h
 ·exact h' t l
theorem PlnD.pln{d:af}(h:PlnD d):Pln d:=by
 cases d with
 | dict l =>
  cases l with
  | nil=>exact Uy
  | cons a b=>cases a with|mk x y=>simp[PlnD,plnD]at h
 | none=>exact UA
 | bool=>exact Ue
 | int=>exact Uf
 | str=>exact Uw
 | list=>exact Uz
 | tuple=>exact Uu
def IsNm(s:Str):Prop:=1<=s.length/\s.length<=8/\∀c∈s.cps.toList,97<=c/\c<=122
def nmS(s:Str):Bool:=decide (1<=s.length)&&decide (s.length<=8)&&s.cps.toList.all fun c=>decide (97<=c)&&decide (c<=122)
theorem zl4{s:Str}:nmS s=true↔IsNm s:=by
 unfold nmS IsNm;simp only[aG,decide_eq_true_iff,bp,and_assoc]
def nmD:af->Bool
 | .str s=>nmS s
 | _=>false
theorem Qu(s:Str):s.cps.toList.length=s.length:=by simp[km]
theorem zlW{a b:Nat}:(([a]:List Nat)<[b])↔a<b:=by
 constructor
 ·intro h;cases h with
  | rel h=>exact h
  | cons h=>cases h
 ·intro h;exact .rel h
theorem zqv{a c:Nat}:(!decide (([c]:List Nat)<[a]))=decide (a<=c):=by
 rw[<- decide_not];exact decide_eq_decide.mpr (by rw[zlW];lia)
theorem zji(a b:Str):(a++b).cps.toList=a.cps.toList++b.cps.toList:=by
 show(a.cps++b.cps).toList=_
 simp
theorem Str.ext'{a b:Str}(h:a.cps.toList=b.cps.toList):a=b:=by
 cases a with|mk a =>
 cases b with|mk b =>
 have:a=b:=m8.mp h;rw[this]
theorem ztq{x:Str}{i:Int}{k c:Nat}{R:af->Prop}(l:x.length<=16777216)(hi:i=(k:Int))(e:x.cps.toList[k]?=some c)(h:R (.str ⟨#[c]⟩)):oIx (.str x) (.int i) R:=by
 subst hi;have a:atI x.cps.toList (k:Int)=some c:=Bd.zff (by lia) (by simpa using e)
 show x.length<=16777216/\(match atI x.cps.toList (k:Int) with|some c=>R (.str ⟨#[c]⟩)|none=>False)
 rw[a];exact⟨l,h⟩
theorem letters{k:Nat}(h:k<26):(aa "abcdefghijklmnopqrstuvwxyz").cps.toList[k]?=some (97+k):=by
 have:∀i:Fin 26,(aa "abcdefghijklmnopqrstuvwxyz").cps.toList[i.val]?=some (97+i.val):=by decide +kernel
 exact this ⟨k,h⟩
theorem ze8{x:Str}{i:Int}{k:Nat}(h:i=(k:Int)):(cutS x none (some i)).cps.toList=x.cps.toList.take k:=by
 subst h;unfold cutS;rw[HT.zeg,HT.ziB];simp only[ly,mJ];rw[<- Qu x];simp[kP]
theorem zh5{x:Str}{i:Int}{k:Nat}(h:i=(k:Int))(l:k<=x.length):(cutS x (some i) none).cps.toList=x.cps.toList.drop k:=by
 subst h;unfold cutS;rw[HT.zeg,HT.ziB,n8 l];show(List.take _ (List.drop k x.cps.toList))=_
 rw[gN (by rw[dU,Qu];lia)]
def OkK(k:Nat)(t:af):Prop:=t.canLay0=true/\t.depth<=k
theorem OkK.okd{k:Nat}{t:af}(h:OkK k t)(l:k<=60:=by decide):Okd t:=⟨h.1,bY h.2 l⟩
theorem zqi{i:Int}:OkK 0 (.int i):=⟨by simp[bc],by simp[cC]⟩
theorem zoa:OkK 0 .none:=⟨by simp[bc],by simp[cC]⟩
theorem zqg{s:Str}(h:bc (.str s)=true):OkK 0 (.str s):=⟨h,by simp[cC]⟩
theorem OkK.mono{k u:Nat}{t:af}(h:OkK k t)(l:k<=u):OkK u t:=⟨h.1,bY h.2 l⟩
theorem ziO{k:Nat}:∀{ts:qD},(∀t∈ts,OkK k t)->bo ts=true/\bL ts<=k
 | [],_=>⟨by simp[bo],by simp[bL]⟩
 | t::ts,h=>by
  obtain⟨a,b⟩:=ziO (ts:=ts) fun u l=>h u (by simp[l])
  have c:=h t (by simp)
  refine⟨by simp[bo,c.1,a],?_⟩
  have:=c.2;simp only[bL];lia
theorem zl1{k:Nat}{ts:qD}(h:∀t∈ts,OkK k t):OkK (k+1) (.tuple ts):=by
 obtain⟨a,b⟩:=ziO h;exact⟨by simpa only[bc] using a,by simp only[cC];lia⟩
theorem zqh{k:Nat}{ts:qD}(h:∀t∈ts,OkK k t):OkK (k+1) (.list ts):=by
 obtain⟨a,b⟩:=ziO h;exact⟨by simpa only[bc] using a,by simp only[cC];lia⟩
theorem zsQ{b:Int×Int}:OkK 1 (prD b):=zl1 fun t l=>by
 simp only[aw,aJ,or_false]at l;rcases l with rfl|rfl <;> exact zqi
theorem ZE{s:Str}(h:IsNm s):OkK 0 (.str s):=zqg (by
 simp only[bc];show(s.cps.all (·<0x110000))=true
 rw[<- Array.all_toList,bp];intro c hc;have:=h.2.2 c hc;exact decide_eq_true (by lia))
theorem zoG{xs:qD}:cg (.list xs) (.list [])=xs.isEmpty:=by
 cases xs with
 | nil=>rfl
 | cons a b=>rfl
theorem UR{α:Type}{cs:List α}{D:α->af}{tg:DTG}{tt:DTT}{d:DTE}{ρ0:En}{n:Nat}{Rl:List af->Nat->Prop}(p:α->Bool)(F:α->af)(I:cs.length<=16777216)
  (step:∀b∈cs,∀(K:qN) (X:Nat->Prop),(p b=true->K (F b) n)->(p b=false->X n)->tg (D b) ρ0 fun v=>tt v n fun c G=>if c=true then d v G K else X G) (fin:Rl ((cs.filter p).map F) n):JQ tg tt d ρ0 (cs.map D) [] n Rl:=by
 refine ZV (fun j u m=>m=n/\u=((cs.take j).filter p).map F) ⟨rfl,rfl⟩ ?_ ?_
 ·rintro j x u m K y ⟨rfl,rfl⟩ hK;rw[aZ]at y;cases eb:cs[j]? with
  | none=>rw[eb]at y;cases y
  | some b =>
   rw[eb]at y;cases y;obtain⟨J,L⟩:=av.mp eb;have tk:cs.take (j+1)=cs.take j++[b]:=by rw[e8,eb];rfl
   refine step b (aV eb) _ _ (fun C=>⟨?_,hK _ _ ⟨rfl,?_⟩⟩) (fun C=>hK _ _ ⟨rfl,?_⟩)
   ·have:=cN p (cs.take j);simp at this ⊢;lia
   ·rw[tk,lZ,cR];simp[C]
   ·rw[tk,lZ,cR];simp[C]
 ·rintro u m ⟨rfl,rfl⟩;rw[aM,dZ];exact fin
theorem znW{x:Str}{n:Int}:(repS x n).cps.toList=(bM n.toNat x.cps.toList).flatten:=rfl
theorem ztr{xs:qD}{r:Int}{R:af->Prop}(v:0<=r)(y:r<xs.length)(h:∀x∈xs,R x):oIx (.list xs) (.int r) R:=by
 have u:r.toNat<xs.length:=by omega
 rw[Zw (Bd.zff v (aE u))];exact h _ (dz u)
theorem zoP{ts:qD}:cutD ts none (some (-1))=ts.take (ts.length - 1):=by
 unfold cutD;have e:HT.sIx ts.length ts.length (some (-1))=ts.length - 1:=by
  have:HT.sIx ts.length ts.length (some (-1))=if (-1:Int)<0 then((-1:Int)+(ts.length:Int)).toNat else min (-1:Int).toNat ts.length:=by
   first|rfl|(unfold HT.sIx;rfl)|(simp[HT.sIx];done)
  rw[this,if_pos (by decide)];omega
 rw[HT.zeg,e];simp
section
variable{prog:aI}{w:aU}{A:bw}{R:mX->au->Prop}{s:au}{elt tg1 it1 tg2 it2:aT}{Hf EZ:List aT}{scope:fc}{pos:Pos}{it acc:ah}{env:Env}
theorem zh8(it acc:ah)(env:Env):compTurn (.ListComp elt [⟨tg1,it1,Hf,0⟩,⟨tg2,it2,EZ,0⟩] scope pos) 0 it acc env=(do
      standAt it1.pos
      match <- pyNext it with
      | none=>pure (.done .next)
      | some v =>
       letOwnedTupleGo tg1 it v
       assign tg1 env v
       let mut ok:=true
       for c in Hf do
        if ok then ok <- isTrue c env (eval c env)
       if ok then
        let x <- eval it2 env
        standAt it2.pos
        let x <- foldedSetIterable it2 env x
        let _ <- runOwn (.compStart (.ListComp elt [⟨tg1,it1,Hf,0⟩,⟨tg2,it2,EZ,0⟩] scope pos) 1 (<- holding [x] (pyIter x)) acc env) env
       again (.compLoop (.ListComp elt [⟨tg1,it1,Hf,0⟩,⟨tg2,it2,EZ,0⟩] scope pos) 0 it acc env)):=by rfl
theorem zja(it acc:ah)(env:Env):compTurn (.ListComp elt [⟨tg1,it1,Hf,0⟩,⟨tg2,it2,EZ,0⟩] scope pos) 1 it acc env=(do
      standAt it2.pos
      match <- pyNext it with
      | none=>pure (.done .next)
      | some v =>
       letOwnedTupleGo tg2 it v
       assign tg2 env v
       let mut ok:=true
       for c in EZ do
        if ok then ok <- isTrue c env (eval c env)
       if ok then
        (do let _ <- call (.builtin "list.append") [acc,<- eval elt env])
       again (.compLoop (.ListComp elt [⟨tg1,it1,Hf,0⟩,⟨tg2,it2,EZ,0⟩] scope pos) 1 it acc env)):=by rfl
theorem znG(I:Nat->au->Prop)
  (turn:∀n s,I n s->wpAny (model prog w) A (pyNext it) (fun r y=>match r with
   | none=>R (.ok .next) y
   | some v=>wpAny (model prog w) A (letOwnedTupleGo tg2 it v) (fun _ Y=>wpAny (model prog w) A (assign tg2 env v) (fun _ U =>
     wpAny (model prog w) A (forIn EZ true fun c r=>if r=true then do let ok <- isTrue c env (eval c env);pure (bZ ok) else pure (bZ r)) (fun ok G =>
      if ok=true then wpAny (model prog w) A (eval elt env) (fun x Z=>wpAny (model prog w) A (call (.builtin "list.append") [acc,x]) (fun _ J=>∃m,m<n/\I m J) NoX Z) NoX G
      else ∃m,m<n/\I m G) NoX U) NoX Y) NoX y) NoX s) (n:Nat) (h:I n s) :
  codeAny (model prog w) A (.compLoop (.ListComp elt [⟨tg1,it1,Hf,0⟩,⟨tg2,it2,EZ,0⟩] scope pos) 1 it acc env) R s:=by
 refine mC rfl I (fun n s hI=>?_) n h
 show wpAny _ A ((compTurn (.ListComp elt [⟨tg1,it1,Hf,0⟩,⟨tg2,it2,EZ,0⟩] scope pos) 1 it acc env).onRaise (fun x=>do noteFrame x env;theTreesLotGoes x)) _ _ s
 refine nG (cT (E:=NoX) ?_ (fun _ _ q=>q) fun _ _ z=>cc z)
 rw[zja];refine ae (dA (ae (thn (turn n s hI) fun r y N=>?_)))
 cases r with
 | none=>exact aj N
 | some v =>
  refine ae (thn N fun _ Y h₂=>ae (thn h₂ fun _ U h₃=>ae (thn h₃ fun ok G S=>?_)))
  cases ok with
  | false=>exact aj ⟨rfl,S⟩
  | true =>
   refine ae (ae (thn S fun x Z h₅=>ae (thn h₅ fun _ J h₆=>?_)))
   exact aj (aj ⟨rfl,h₆⟩)
theorem zld(hs:∀x,foldedSetIterable it2 env x=pure x)(I:Nat->au->Prop)
  (turn:∀n s,I n s->wpAny (model prog w) A (pyNext it) (fun r l=>match r with
   | none=>R (.ok .next) l
   | some v=>wpAny (model prog w) A (letOwnedTupleGo tg1 it v) (fun _ Y=>wpAny (model prog w) A (assign tg1 env v) (fun _ U =>
     wpAny (model prog w) A (forIn Hf true fun c r=>if r=true then do let ok <- isTrue c env (eval c env);pure (bZ ok) else pure (bZ r)) (fun ok u =>
      if ok=true then wpAny (model prog w) A (eval it2 env) (fun x Z=>wpAny (model prog w) A (pyIter x) (fun itv y =>
       codeAny (model prog w) A (.compStart (.ListComp elt [⟨tg1,it1,Hf,0⟩,⟨tg2,it2,EZ,0⟩] scope pos) 1 itv acc env) (fun r N=>r=.ok .next/\∃m,m<n/\I m N) y) NoX Z) NoX u
      else ∃m,m<n/\I m u) NoX U) NoX Y) NoX l) NoX s) (n:Nat) (h:I n s) :
  codeAny (model prog w) A (.compLoop (.ListComp elt [⟨tg1,it1,Hf,0⟩,⟨tg2,it2,EZ,0⟩] scope pos) 0 it acc env) R s:=by
 refine mC rfl I (fun n s hI=>?_) n h
 show wpAny _ A ((compTurn (.ListComp elt [⟨tg1,it1,Hf,0⟩,⟨tg2,it2,EZ,0⟩] scope pos) 0 it acc env).onRaise (fun x=>do noteFrame x env;theTreesLotGoes x)) _ _ s
 refine nG (cT (E:=NoX) ?_ (fun _ _ q=>q) fun _ _ z=>cc z)
 rw[zh8];refine ae (dA (ae (thn (turn n s hI) fun r l G=>?_)))
 cases r with
 | none=>exact aj G
 | some v =>
  refine ae (thn G fun _ Y h₂=>ae (thn h₂ fun _ U h₃=>ae (thn h₃ fun ok u J=>?_)))
  cases ok with
  | false=>exact aj ⟨rfl,J⟩
  | true =>
   refine ae (thn J fun x Z h₅=>ae (dA (ae (wpAny_of_eq (hs x) (ae (bU (thn h₅ fun itv y h₆=>?_)))))))
   refine ae (wpAny_runOwn (gA h₆ fun r N h₇=>?_))
   obtain⟨rfl,m,hm,hI'⟩:=h₇;exact aj ⟨rfl,m,hm,hI'⟩
theorem znK
  (h0:codeAny (model prog w) A (.compLoop (.ListComp elt [⟨tg1,it1,Hf,0⟩,⟨tg2,it2,EZ,0⟩] scope pos) 1 it acc env) R s)
  (h:wpAny (model prog w) A (pyIter it) (fun l s'=>codeAny (model prog w) A (.compLoop (.ListComp elt [⟨tg1,it1,Hf,0⟩,⟨tg2,it2,EZ,0⟩] scope pos) 1 l acc env) R s')
   (notedBy (model prog w) A env fun x s'=>R (.error x) s') s) :
  codeAny (model prog w) A (.compStart (.ListComp elt [⟨tg1,it1,Hf,0⟩,⟨tg2,it2,EZ,0⟩] scope pos) 1 it acc env) R s:=by
 refine codeAny_of_tree ?_;show wpAny _ _ ((compStart (.ListComp elt [⟨tg1,it1,Hf,0⟩,⟨tg2,it2,EZ,0⟩] scope pos) 1 it acc env).onRaise (fun x=>do noteFrame x env;standAt theWindowsPlace)) _ _ s
 refine wpAny_notedAt ?_;unfold compStart;show wpAny _ _ (PySem.ask >>= _) _ _ s
 refine ae (wpAny_askSetting (wpAny_ite ?_));split
 ·first
   | exact ae (aj (aj (lD rfl h0)))
   | exact aj (lD rfl h0)
 ·first
   | exact ae (eP (ae (dA (ae (cT h (fun l s' h'=>aj (lD rfl h')) fun _ _ x=>x)))))
   | (refine ae (eP ?_);show wpAny _ _ (standAt it2.pos >>= _) _ _ s;exact ae (dA (ae (cT h (fun l s' h'=>aj (lD rfl h')) fun _ _ x=>x))))
end
def ZG(g:TG)(tt:TT)(Y:TE)(σ:St)(J:It)(U:Hp)(D:ak)(Q:Hp->Prop):Prop:=∃W:Nat->Nat->Hp->Prop,(∃m,W 0 m U)/\∀i m C,W i m C ->
 (J.stop i C/\Q C)\/(J.go i C/\∃(N:V->Hp->Prop) (R:Hp->Prop),(∀v I,N v I->∃ys,I D=some (.lst ys)/\ys.length<sizeLine/\∃y,y<m/\W (i+1) y (upd I D (.lst (ys++[v]))))/\(∀G,R G->∃y,y<m/\W (i+1) y G) /\
  ∀x L,J.yld i C x L->g x σ L fun u S=>Wk σ u/\tt u S fun b G=>if b=true then Y u G N else R G)
section
variable{Y:Cx}{elt tg1 it1 tg2 it2:aT}{Hf EZ:List aT}{scope:fc}{pos:Pos}{g:TG}{tt:TT}{te:TE}
theorem zmx(u:Y.xe=NoX)(hc:Y.calm=true)(hg:PG Y tg2 g)(ht:PTs Y EZ tt)(he:PE Y elt te){pins:qO}{σ:St}{D:ak}{G:ah}{s:au}{Q:Hp->Prop}{R:mX->au->Prop}
  (h:PIE Y pins σ tg2 (fun J H1=>ZG g tt te σ J H1 D Q) G s) (hR:∀s' U,Inv Y pins σ U s'->Q U->R (.ok .next) s') :
  codeAny (model Y.prog Y.w) Y.A (.compStart (.ListComp elt [⟨tg1,it1,Hf,0⟩,⟨tg2,it2,EZ,0⟩] scope pos) 1 G (.ref D) Y.env) R s:=by
 obtain⟨it,fp,tn,J,H2,e,I2,T,I,f2,W,⟨m0,w0⟩,turn⟩:=h;subst e;have loop:codeAny (model Y.prog Y.w) Y.A (.compLoop (.ListComp elt [⟨tg1,it1,Hf,0⟩,⟨tg2,it2,EZ,0⟩] scope pos) 1 (.ref it) (.ref D) Y.env) R s:=by
  refine znG (CompI Y pins σ fp tn W) ?_ m0 ⟨0,_,I2,I,fun b Z=>(f2 b Z).1,w0⟩
  rintro n s4 ⟨i,H4,I4,st4,fr4,w4⟩;refine zf8 u hc hg ht T (fun hn b Z=>⟨hn b Z,(f2 b Z).2⟩) I4 st4 fr4 ?_
  rcases turn i n H4 w4 with⟨stop,qn⟩|⟨go,N,N',hN,hN',step⟩
  ·exact .inl ⟨stop,fun s5 I5=>hR _ _ I5 qn⟩
  ·refine .inr ⟨go,fun σ4 H5=>te σ4 H5 N,N',fun {p6 σ7 H8 s8} I8 q8 again=>?_,hN',step⟩
   have a3:=he _ s8 σ7 H8 N I8 q8;rw[u]at a3;refine thn a3 fun y s9 ⟨v,H9,I9,r9,q9⟩=>?_
   obtain⟨ys,hD,hl,m',hm,w9⟩:=hN v H9 q9;have a4:=zeP (X:=Y) _ s9 σ7 H9 (.ref D) [v] _ [y] (fun _ U=>U=upd H9 D (.lst (ys++[v]))) I9 rfl (.cons r9 .nil) ⟨_,ys,v,rfl,rfl,hD,hl,rfl⟩
   rw[u]at a4;refine thn a4 fun _ s10 ⟨_,H10,I10,_,q10⟩=>?_
   subst q10;exact again I10 hm w9
 exact znK loop (T.self Y.A 0 _ _ _ I loop)
end
def znp(own:List Str)(capt:List Nat)(g:TG)(tt:TT)(L:TI)(g2:TG)(I:TT)(Z:TE)(σ:St)(J:It)(Y:Hp)(D:ak)(Q:VK):Prop:=∃W:Nat->Nat->Hp->Prop,(∃m,W 0 m (upd Y D (.lst [])))/\∀i m y,W i m y ->
 (J.stop i y/\Q (.ref D) y)\/(J.go i y/\∃(N S:Hp->Prop),(∀G,N G->∃v,v<m/\W (i+1) v G)/\(∀C,S C->∃v,v<m/\W (i+1) v C) /\
  ∀x R,J.yld i y x R->g x (Jw own++capS capt σ) R fun u U=>Wk (Jw own++capS capt σ) u/\tt u U fun b C=>if b=true then L u C (fun J2 G=>ZG g2 I Z u J2 G D N) else S C)
def zrE(own:List Str)(capt:List Nat)(y:TI)(g:TG)(tt:TT)(u:TI)(g2:TG)(l:TT)(x:TE):TE:=fun σ H Q=>y σ H fun J v=>∀D,v D=none->znp own capt g tt u g2 l x σ J v D Q
section
variable{X:Cx}{scope:fc}{own:List Str}{capt:List Nat}{elt tg iter tg2 it2:aT}{ifs EZ:List aT}{pos:Pos}{wi wi2:TI}{g g2:TG}{tt tt2:TT}{te:TE}
theorem zm5(hc:X.calm=true)(S:JJ scope own capt X)
  (hg:∀C s₀ H₀ v,PG (Jm X scope own capt C s₀ H₀ v) tg g) (ht:∀C s₀ H₀ v,PTs (Jm X scope own capt C s₀ H₀ v) ifs tt) (hi2:∀C s₀ H₀ v,PI (Jm X scope own capt C s₀ H₀ v) tg2 it2 wi2)
  (hg2:∀C s₀ H₀ v,PG (Jm X scope own capt C s₀ H₀ v) tg2 g2) (ht2:∀C s₀ H₀ v,PTs (Jm X scope own capt C s₀ H₀ v) EZ tt2) (he:∀C s₀ H₀ v,PE (Jm X scope own capt C s₀ H₀ v) elt te)
  (hs2:∀(C:ak) (x:ah),foldedSetIterable it2 (compEnvC scope (closed X.env scope.names []) C X.env) x=pure x)
  {pins:qO} {σ:St} {Q:VK} {R:ah} {s2:au} {E:qV} {RR:ah->ak->mX->au->Prop}
  (h2:PIE X pins σ tg (fun J H1=>∀D,H1 D=none->znp own capt g tt wi2 g2 tt2 te σ J H1 D Q) R s2)
  (hR:∀D C s' U,(∃m,s'.heap.Ns C m)->(∀h'',dO C s'.heap h''->Inv X pins σ U { s' with heap:=h'' })->U C=none->FpOk X pins U C->Q (.ref D) U->RR (.ref D) C (.ok .next) s') :
  wpAny (model X.prog X.w) X.A (newList []) (fun G s₃=>wpAny (model X.prog X.w) X.A (newFunctionEnv scope X.env.globals (closed X.env scope.names []) [] X.env.qual none .none (some X.env)) (fun u I =>
   codeAny (model X.prog X.w) X.A (.compStart (.ListComp elt [⟨tg,iter,ifs,0⟩,⟨tg2,it2,EZ,0⟩] scope pos) 0 R G { u with scope:=relabel scope X.env }) (RR G u.locals) I) E s₃) E s2:=by
 refine zh7 (CA:=fun G u I=>codeAny (model X.prog X.w) X.A (.compStart (.ListComp elt [⟨tg,iter,ifs,0⟩,⟨tg2,it2,EZ,0⟩] scope pos) 0 R G u) (RR G u.locals) I) S h2 fun it v tn J H2 D C Z e T rd hnD st1 fr0 J0 HN out=>?_
 subst e;obtain⟨W,⟨m0,w0⟩,turn⟩:=rd _ hnD;have loop:∀tk:Tok,codeAny (model X.prog X.w) X.A (.compLoop (.ListComp elt [⟨tg,iter,ifs,0⟩,⟨tg2,it2,EZ,0⟩] scope pos) 0 (.ref it) (.ref D) (compEnvC scope (closed X.env scope.names []) C X.env)) (RR (.ref D) C) { s2 with heap:=Z,toks:=tk }:=fun tk=>by
  refine zld (hs2 _) (CompI (Jm X scope own capt C s2 H2 v) [] (Jw own++capS capt σ) v tn W) ?_ m0 ⟨0,_,J0 tk,st1,fr0,w0⟩;rintro n s4 ⟨i,H4,I4,st4,fr4,w4⟩;refine zf8 (Y:=Jm X scope own capt C s2 H2 v) rfl hc (hg _ _ _ _) (ht _ _ _ _) T HN I4 st4 fr4 ?_;rcases turn i n H4 w4 with⟨stop,qn⟩|⟨go,N,N',hN,hN',step⟩
  ·exact .inl ⟨stop,fun s5 I5=>let ⟨o1,o2,o3,o4⟩:=out s5 H4 I5;hR _ _ s5 H4 o1 o2 o3 o4 qn⟩
  ·refine .inr ⟨go,fun σ4 H5=>wi2 σ4 H5 (fun J2 H6=>ZG g2 tt2 te σ4 J2 H6 D N),N',fun {p6 σ7 H8 s8} I8 q8 again=>?_,hN',step⟩
   refine thn (hi2 _ _ _ _ _ s8 σ7 H8 _ I8 q8) fun y s9 h9=>thn h9 fun itv2 s10 h10=>?_
   refine zmx (Y:=Jm X scope own capt C s2 H2 v) rfl hc (hg2 _ _ _ _) (ht2 _ _ _ _) (he _ _ _ _) h10 fun s' U I' q'=>⟨rfl,?_⟩
   obtain⟨m',hm,w9⟩:=hN U q';exact again I' hm w9
 exact ky (loop _) (T.self X.A 0 _ _ _ st1 (loop _))
theorem zlL(hc:X.calm=true)(S:JJ scope own capt X)(hi:PI X tg iter wi)
  (hg:∀C s₀ H₀ l,PG (Jm X scope own capt C s₀ H₀ l) tg g) (Z:∀C s₀ H₀ l,PTs (Jm X scope own capt C s₀ H₀ l) ifs tt) (G:∀C s₀ H₀ l,PI (Jm X scope own capt C s₀ H₀ l) tg2 it2 wi2)
  (y:∀C s₀ H₀ l,PG (Jm X scope own capt C s₀ H₀ l) tg2 g2) (N:∀C s₀ H₀ l,PTs (Jm X scope own capt C s₀ H₀ l) EZ tt2) (he:∀C s₀ H₀ l,PE (Jm X scope own capt C s₀ H₀ l) elt te)
  (hs:∀x,foldedSetIterable iter X.env x=pure x:=by intro _;rfl) (R:∀(C:ak) (x:ah),foldedSetIterable it2 (compEnvC scope (closed X.env scope.names []) C X.env) x=pure x:=by intro _ _;rfl) :
  PE X (.ListComp elt [⟨tg,iter,ifs,0⟩,⟨tg2,it2,EZ,0⟩] scope pos) (zrE own capt wi g tt wi2 g2 tt2 te):=by
 intro pins s σ H Q I h;rw[eval_ListComp];refine gi (use:=none) rfl hs (zbs (S.cells I.ok)) S.kind S.names (thn (hi pins s σ H _ I h) fun v s1 h1=>thn h1 fun itv s2 h2=>?_)
 refine zm5 (RR:=fun u C=>compPost (model X.prog X.w) X.A X.xe none (EP X pins σ Q) u C) hc S hg Z G y N he R h2 fun D C s' H' U J _ _ q=>?_
 obtain⟨m,U⟩:=U;exact⟨m,U,fun h'' Y=>⟨.ref D,H',J h'' Y,rfl,q⟩⟩
end
theorem zkW{J:It}{n:Nat}{g:TG}{tt:TT}{R:TE}{σ:St}{L:Hp}{D:ak}{Q:Hp->Prop}(C:Nat->List V->Hp->Prop)(h0:∃ys,L D=some (.lst ys)/\C 0 ys L)
  (turn:∀i ys u,i<n->u D=some (.lst ys)->C i ys u->J.go i u/\∀x N,J.yld i u x N->g x σ N fun y U=>Wk σ y/\tt y U fun b G =>
   if b=true then R y G (fun v I=>∃zs,I D=some (.lst zs)/\zs.length<sizeLine/\C (i+1) (zs++[v]) (upd I D (.lst (zs++[v])))) else ∃zs,G D=some (.lst zs)/\C (i+1) zs G)
  (stop:∀ys u,u D=some (.lst ys)->C n ys u->J.stop n u/\Q u):ZG g tt R σ J L D Q:=by
 refine⟨fun i m H=>m=n - i/\i<=n/\∃ys,H D=some (.lst ys)/\C i ys H,⟨n,rfl,dQ _,h0⟩,?_⟩
 rintro i m u ⟨rfl,hi,ys,S,p⟩
 by_cases hlt:i<n
 ·obtain⟨go,st⟩:=turn i ys u hlt S p;refine .inr ⟨go,_,_,?_,?_,st⟩
  ·rintro v I ⟨zs,e,l,q⟩;exact⟨zs,e,l,n - (i+1),by omega,rfl,hlt,_,JN,q⟩
  ·rintro G ⟨zs,e,q⟩;exact⟨n - (i+1),by omega,rfl,hlt,zs,e,q⟩
 ·have e:i=n:=by omega
  subst e;exact .inl (stop ys u S p)
theorem zk3{J:It}{n:Nat}{own:List Str}{capt:List Nat}{g g2:TG}{tt C:TT}{G:TI}{S:TE}{σ:St}{R:Hp}{D:ak}{Q:VK}(y:Nat->List V->Hp->Prop)(h0:y 0 [] (upd R D (.lst [])))
  (turn:∀i ys u,i<n->u D=some (.lst ys)->y i ys u->J.go i u/\∀x L,J.yld i u x L->g x (Jw own++capS capt σ) L fun v Z=>Wk (Jw own++capS capt σ) v/\tt v Z fun b I =>
   if b=true then G v I (fun J2 N=>ZG g2 C S v J2 N D fun Y=>∃zs,Y D=some (.lst zs)/\y (i+1) zs Y) else ∃zs,I D=some (.lst zs)/\y (i+1) zs I)
  (stop:∀ys u,u D=some (.lst ys)->y n ys u->J.stop n u/\Q (.ref D) u) :
  znp own capt g tt G g2 C S σ J R D Q:=by
 refine⟨fun i m H=>m=n - i/\i<=n/\∃ys,H D=some (.lst ys)/\y i ys H,⟨n,rfl,dQ _,[],JN,h0⟩,?_⟩
 rintro i m u ⟨rfl,hi,ys,U,p⟩
 by_cases hlt:i<n
 ·obtain⟨go,st⟩:=turn i ys u hlt U p;refine .inr ⟨go,_,_,?_,?_,st⟩
  ·rintro N ⟨zs,e,q⟩;exact⟨n - (i+1),by omega,rfl,hlt,zs,e,q⟩
  ·rintro I ⟨zs,e,q⟩;exact⟨n - (i+1),by omega,rfl,hlt,zs,e,q⟩
 ·have e:i=n:=by omega
  subst e;exact .inl (stop ys u U p)
theorem DI.uni{G:Type}{Xf:G->Cx}{K:qF}(y:∀i,(Xf i).K=K){tg e:aT}{d:DTA}(h:∀i,DI (Xf i) tg e d):∃x:TI,(∀i,PI (Xf i) tg e x)/\∀(C:Ctx) (l:En) (σ:St) (H:Hp) (n:Nat) (Q:It->Hp->Prop) (R:List af->Nat->Prop),Stt K C l σ H n->d l n R ->
  (∀ts v J u,R ts v->ExtE C.hd H u->Hn C.hd u v->ItOk K C.hd (fun a=>¬Own C l σ a) (Own C l σ) u J ts->Q J u)->x σ H Q:=by
 refine⟨fun σ H Q=>∀i,(gV (h i)) σ H Q,fun i pins s σ H R I hw=>(cB (h i)).1 pins s σ H R I (hw i),fun C l σ H n Q R S hd L i=>?_⟩
 have:=(cB (h i)).2 C l σ H n Q R;exact this (by rw[y i];exact S) hd fun t v J u r e h q=>L t v J u r e h (by rw[<- y i];exact q)
theorem Stt.onX{K:qF}{C:Ctx}{U:En}{σ:St}{H J:Hp}{n L:Nat}(S:Stt K C U σ H n)(k:∀a o,H a=some o->¬C.ext a->J a=some o)(Y:∀a,C.ext a->MutO (J a))(Z:∀a N,H a=some (.dK N)->C.ext a->C.hd≠some a->J a=some (.dK N))(hn:Hn C.hd J L):Stt K C U σ J L where
 len:=S.len
 val:=fun i d hi=>by
  obtain⟨v,y,x⟩:=S.val i d hi;exact⟨v,y,x.mono (fun _ _ _ z=>z) fun a o no h=>k a o h fun z=>no (.inl z)⟩
 own:=fun i ds hi=>by
  obtain⟨a,I,y,x,G,u⟩:=S.own i ds hi;exact⟨a,I,y,k a _ x u,G.mono (fun _ _ _ z=>z) (fun a o no h=>k a o h fun z=>no (.inl z)),u⟩
 dct:=fun i ds hi=>by
  obtain⟨a,I,y,x,G,u⟩:=S.dct i ds hi;exact⟨a,I,y,k a _ x u,G.mono (fun _ _ _ z=>z) (fun a o no h=>k a o h fun z=>no (.inl z)),u⟩
 rdo:=fun i ds hi=>by
  obtain⟨a,I,y,x,G,u,R⟩:=S.rdo i ds hi;exact⟨a,I,y,Z a _ x u R,G.mono (fun _ _ _ z=>z) (fun a o no h=>k a o h fun z=>no (.inl z)),u,R⟩
 dtt:=fun i ds hi=>by
  obtain⟨a,I,ep,y,x,G,u⟩:=S.dtt i ds hi;exact⟨a,I,ep,y,k a _ x u,G.mono (fun _ _ _ z=>z) (fun a o no h=>k a o h fun z=>no (.inl z)),u⟩
 dif:=S.dif
 hnd:=hn
 ext:=Y
 hx:=S.hx
def UQ(g:DTG)(tt:DTT)(u:DTA)(g2:DTG)(v:DTT)(C:DTE)(ρ0:En):List af->List af->Nat->(List af->Nat->Prop)->Prop
 | [],acc,n,R=>R acc n
 | x::xs,acc,n,R=>g x ρ0 fun l=>tt l n fun b G=>if b=true then u l G fun ts J=>JQ g2 v C l ts acc J fun y I=>UQ g tt u g2 v C ρ0 xs y I R else UQ g tt u g2 v C ρ0 xs acc G R
def zmZ(m:Nat)(capt:List Nat)(y:DTA)(g:DTG)(tt:DTT)(l:DTA)(g2:DTG)(u:DTT)(C:DTE):DTA:=fun v n R=>y v n fun ts x=>UQ g tt l g2 u C (JB m capt v) ts [] x R
section
variable{X:Cx}{scope:fc}{own:List Str}{capt:List Nat}{elt tg iter tg2 it2:aT}{ifs EZ:List aT}{pos:Pos}{di di2:DTA}{is is2:List Nat}{g g2:DTG}{tt tt2:DTT}{te:DTE}
theorem zoM(hc:X.calm=true)(S:JJ scope own capt X)(hi:DIL X tg iter di)
  (hg:∀C s₀ H₀ I,DG (Jm X scope own capt C s₀ H₀ I) tg is g) (hin:∀i∈is,i<own.length) (ht:∀C s₀ H₀ I,DTs (Jm X scope own capt C s₀ H₀ I) ifs tt)
  (hi2:∀C s₀ H₀ I,DI (Jm X scope own capt C s₀ H₀ I) tg2 it2 di2) (hg2:∀C s₀ H₀ I,DG (Jm X scope own capt C s₀ H₀ I) tg2 is2 g2) (hin2:∀i∈is2,i<own.length/\i∉is) (ht2:∀C s₀ H₀ I,DTs (Jm X scope own capt C s₀ H₀ I) EZ tt2)
  (he:∀C s₀ H₀ I,DE (Jm X scope own capt C s₀ H₀ I) elt te)
  (hs:∀x,foldedSetIterable iter X.env x=pure x:=by intro _;rfl) (hs2:∀(C:ak) (x:ah),foldedSetIterable it2 (compEnvC scope (closed X.env scope.names []) C X.env) x=pure x:=by intro _ _;rfl) :
  DN X (.ListComp elt [⟨tg,iter,ifs,0⟩,⟨tg2,it2,EZ,0⟩] scope pos) (zmZ own.length capt di g tt di2 g2 tt2 te):=by
 obtain⟨wi,pi,hi⟩:=hi
 let Xf:(ak×au×Hp×List ak)->Cx:=fun q=>Jm X scope own capt q.1 q.2.1 q.2.2.1 q.2.2.2
 have hK:∀q,(Xf q).K=X.K:=fun _=>rfl
 have hne:Nonempty (ak×au×Hp×List ak):=⟨(0,X.s₀,X.H₀,[])⟩;obtain⟨gg,pg,hgg⟩:=DG.uni (Xf:=Xf) hK fun q=>hg q.1 q.2.1 q.2.2.1 q.2.2.2
 obtain⟨gt,pt,hgt⟩:=DTs.uni (Xf:=Xf) hK fun q=>ht q.1 q.2.1 q.2.2.1 q.2.2.2
 obtain⟨wi2,pi2,hwi2⟩:=DI.uni (Xf:=Xf) hK fun q=>hi2 q.1 q.2.1 q.2.2.1 q.2.2.2
 obtain⟨gg2,pg2,hgg2⟩:=DG.uni (Xf:=Xf) hK fun q=>hg2 q.1 q.2.1 q.2.2.1 q.2.2.2
 obtain⟨gt2,pt2,hgt2⟩:=DTs.uni (Xf:=Xf) hK fun q=>ht2 q.1 q.2.1 q.2.2.1 q.2.2.2
 obtain⟨ge,pe,hge⟩:=DE.uni (Xf:=Xf) hK fun q=>he q.1 q.2.1 q.2.2.1 q.2.2.2
 refine⟨_,zlL hc S pi (fun C s₀ H₀ I=>pg (C,s₀,H₀,I)) (fun C s₀ H₀ I=>pt (C,s₀,H₀,I)) (fun C s₀ H₀ I=>pi2 (C,s₀,H₀,I)) (fun C s₀ H₀ I=>pg2 (C,s₀,H₀,I)) (fun C s₀ H₀ I=>pt2 (C,s₀,H₀,I)) (fun C s₀ H₀ I=>pe (C,s₀,H₀,I)) hs hs2,fun C N σ H n Q R St hd hq=>?_⟩
 refine hi C N σ H n _ _ St hd fun ts n1 J H1 r e1 hn it=>fun D hD1=>?_
 have St1:=St.on e1 hn;have hD:H D=none:=VZ e1 hn hD1;have nhd:C.hd≠some D:=fun z=>St.dom (.inl (St.hx D z)) hD
 refine zk3 (n:=ts.length) (fun i ys H2=>∃U n2,UQ g tt di2 g2 tt2 te (JB own.length capt N) (ts.drop i) U n2 R/\Reps X.K C.hd (fun a=>Own C N σ a\/a=D) H2 ys U/\ExtE C.hd H1 H2/\Hn C.hd H2 n2)
  ⟨[],n1,by simpa using r,.nil,ExtE.new hD1,hn.same (JP hD1)⟩ ?_ ?_
 ·rintro i ys H2 hlt hy ⟨U,n2,c2,r2,e2,hn2⟩;have et:ts[i]?=some ts[i]:=aE hlt;rw[cu hlt]at c2;have itq:=it (fun a=>Own C N σ a\/a=D) H2 (fun a o u nh=>e2 a o u nh) (fun a o u no z=>z.elim no fun z=>by subst z;rw[hD1]at u;cases u) (fun a z=>z.elim (fun z=>(St1.on e2 hn2).dom z) fun z=>by subst z;rw[hy];exact fun z=>by cases z)
  obtain⟨go,yl⟩:=itq.1 i _ et;refine⟨go,fun x H3 hyd=>?_⟩
  obtain⟨sm,rx⟩:=yl x H3 hyd;have hn3:=hn2.same sm;have e3:ExtE C.hd H1 H3:=e2.trans sm.ext;obtain⟨I3,no3⟩:=zj7 (own:=own) (capt:=capt) (D:=D) (ys:=ys) St (e1.trans e3) hn3 hD (sm _ _ hy);have rx':Rep X.K C.hd (Own ⟨C.hd,fun a=>Own C N σ a\/a=D⟩ (JB own.length capt N) (Jw own++capS capt σ)) H3 x ts[i]:=rx.mono (fun a o _ z=>z.elim id fun z=>absurd z (no3 a)) fun _ _ _ z=>z
  refine hgg ⟨C.hd,fun a=>Own C N σ a\/a=D⟩ (JB own.length capt N) (Jw own++capS capt σ) H3 n2 x ts[i] _ _ I3 rx' c2 fun Y Z r4 S4 k4 hj hl=>⟨Wk.of hl.symm fun j v ej=>zoX hin hj ej,?_⟩
  ·refine hgt _ Y Z H3 n2 _ _ S4 r4 fun b n5 H5 r5 e5 hn5=>?_
   have S5:=S4.on e5 hn5;have hy5:H5 D=some (.lst ys):=e5 D _ (sm _ _ hy) nhd;have r25:∀{H6},ExtE C.hd H2 H6->Reps X.K C.hd (fun a=>Own C N σ a\/a=D) H6 ys U:=fun e=>r2.mono (fun _ _ _ z=>z) fun a o no u=>e a o u fun z=>no (.inl (.inl (St.hx a z)))
   cases b with
   | false =>
    refine iteF ⟨ys,hy5,U,n5,by simpa using r5,r25 ((Same.ext sm).trans e5),e3.trans e5,hn5⟩
   | true =>
    refine iteT (hwi2 ⟨C.hd,fun a=>Own C N σ a\/a=D⟩ Y Z H5 n5 _ _ S5 (by simpa using r5) fun us n6 J2 H6 r6 e6 hn6 it6=>?_)
    have S6:=S5.on e6 hn6;have hy6:H6 D=some (.lst ys):=e6 D _ hy5 nhd;refine zkW (n:=us.length) (fun k zs H7=>∃G n7,JQ g2 tt2 te Y (us.drop k) G n7 (fun G n4=>UQ g tt di2 g2 tt2 te (JB own.length capt N) (ts.drop (i+1)) G n4 R)/\Reps X.K C.hd (fun a=>Own C N σ a\/a=D) H7 zs G/\ExtE C.hd H1 H7/\Hn C.hd H7 n7/\∀a o,H6 a=some o->¬(Own C N σ a\/a=D)->H7 a=some o)
     ⟨ys,hy6,U,n6,by simpa using r6,r25 ((Same.ext sm).trans (e5.trans e6)),e3.trans (e5.trans e6),hn6,fun _ _ h _=>h⟩ ?_ ?_
    ·rintro k zs H7 hk hz ⟨G,n7,c7,r7,e7,hn7,k7⟩;have et2:us[k]?=some us[k]:=aE hk;rw[cu hk]at c7;have S7:Stt X.K ⟨C.hd,fun a=>Own C N σ a\/a=D⟩ Y Z H7 n7:=S6.onX k7 (fun a z=>z.elim (fun z=>(St1.on e7 hn7).lst z) fun z=>by subst z;exact .inl ⟨_,hz⟩) (fun a ks u z nh=>z.elim (fun z=>by
      have e16:ExtE C.hd H1 H6:=e3.trans (e5.trans e6);rcases St1.lst z with⟨xs,q⟩|⟨xs,q⟩|⟨b,xs,ep,q⟩
      ·rw[e16 a _ q nh]at u;cases u
      ·rw[e16 a _ q nh]at u;cases u;exact e7 a _ q nh
      ·rw[e16 a _ q nh]at u;cases u) (fun z=>by subst z;rw[hy6]at u;cases u)) hn7
     have IB:=it6 (Own ⟨C.hd,fun a=>Own C N σ a\/a=D⟩ Y Z) H7 (fun a o u no=>k7 a o u fun z=>no (.inl z)) (fun a o u no=>no) (fun a z=>S7.dom z)
     obtain⟨go2,yl2⟩:=IB.1 k _ et2;refine⟨go2,fun y H8 hyd2=>?_⟩
     obtain⟨sm8,ry⟩:=yl2 y H8 hyd2;have hn8:=hn7.same sm8;have S8:=S7.on (Same.ext sm8) hn8;refine hgg2 _ Y Z H8 n7 y us[k] _ _ S8 ry c7 fun ρ9 σ9 r9 S9 k9 hj9 hl9=>⟨Wk.of hl9.symm fun j v ej=>?_,?_⟩
     ·by_cases hjo:j∈is2
      ·exfalso;obtain⟨lo,nis⟩:=hin2 j hjo;rw[hj j nis,cq (by simpa using lo),aZ]at ej
       cases z:own[j]? with
       | none=>rw[z]at ej;cases ej
       | some q=>rw[z]at ej;cases ej
      ·rw[hj9 j hjo];exact ej
     ·refine hgt2 _ ρ9 σ9 H8 n7 _ _ S9 r9 fun b n10 H10 r10 e10 hn10=>?_
      have S10:=S9.on e10 hn10;have IJ:H10 D=some (.lst zs):=e10 D _ (sm8 _ _ hz) nhd;have IC:∀{H'},ExtE C.hd H7 H'->Reps X.K C.hd (fun a=>Own C N σ a\/a=D) H' zs G:=fun e=>r7.mono (fun _ _ _ z=>z) fun a o no u=>e a o u fun z=>no (.inl (.inl (St.hx a z)))
      have kk:∀{H'},ExtE C.hd H7 H'->∀a o,H6 a=some o->¬(Own C N σ a\/a=D)->H' a=some o:=fun e a o u no=>e a o (k7 a o u no) fun z=>no (.inl (.inl (St.hx a z)))
      cases b with
      | false=>exact iteF ⟨zs,IJ,G,n10,by simpa using r10,IC ((Same.ext sm8).trans e10),e7.trans ((Same.ext sm8).trans e10),hn10,kk ((Same.ext sm8).trans e10)⟩
      | true =>
       refine iteT (hge _ ρ9 σ9 H10 n10 _ _ S10 (by simpa using r10) fun t n11 v H11 r11 e11 hn11 q11=>?_)
       have hz11:H11 D=some (.lst zs):=e11 D _ IJ nhd;have Iq:ExtE C.hd H7 H11:=(Same.ext sm8).trans (e10.trans e11);have rl:=(IC Iq).length;refine⟨zs,hz11,by rw[rl];exact r11.1,G++[t],n11,r11.2,?_,?_,?_,?_⟩
       ·have q11':Rep X.K C.hd (fun a=>Own C N σ a\/a=D) H11 v t:=q11.mono (fun _ _ _ z=>.inl z) fun _ _ _ z=>z
        have all:=(IC Iq).append (Reps.cons q11' .nil);exact all.mono (fun _ _ _ z=>z) fun a o no u=>by rw[Js (show a≠D from fun z=>no (.inr z))];exact u
       ·exact ExtE.updR hD1 (e7.trans Iq)
       ·exact Hn.updR nhd hn11
       ·exact fun a o u no=>by
         rw[Js (show a≠D from fun z=>no (.inr z))]
         exact kk Iq a o u no
    ·rintro zs H7 hz ⟨G,n7,c7,r7,e7,hn7,k7⟩;rw[gU]at c7;have S7:Stt X.K ⟨C.hd,fun a=>Own C N σ a\/a=D⟩ Y Z H7 n7:=S6.onX k7 (fun a z=>z.elim (fun z=>(St1.on e7 hn7).lst z) fun z=>by subst z;exact .inl ⟨_,hz⟩) (fun a ks u z nh=>z.elim (fun z=>by
      have e16:ExtE C.hd H1 H6:=e3.trans (e5.trans e6);rcases St1.lst z with⟨xs,q⟩|⟨xs,q⟩|⟨b,xs,ep,q⟩
      ·rw[e16 a _ q nh]at u;cases u
      ·rw[e16 a _ q nh]at u;cases u;exact e7 a _ q nh
      ·rw[e16 a _ q nh]at u;cases u) (fun z=>by subst z;rw[hy6]at u;cases u)) hn7
     have IB:=it6 (Own ⟨C.hd,fun a=>Own C N σ a\/a=D⟩ Y Z) H7 (fun a o u no=>k7 a o u fun z=>no (.inl z)) (fun a o u no=>no) (fun a z=>S7.dom z)
     exact⟨IB.2,zs,hz,G,n7,c7,r7,e7,hn7⟩
 ·rintro ys H2 hy ⟨U,n2,c2,r2,e2,hn2⟩;rw[gU]at c2;have itq:=it (fun a=>Own C N σ a\/a=D) H2 (fun a o u nh=>e2 a o u nh) (fun a o u no z=>z.elim no fun z=>by subst z;rw[hD1]at u;cases u) (fun a z=>z.elim (fun z=>(St1.on e2 hn2).dom z) fun z=>by subst z;rw[hy];exact fun z=>by cases z)
  exact⟨itq.2,hq U n2 D ys H2 c2 (e1.trans e2) hn2 hD hy r2⟩
end
section
variable{ρ ρ0:En}{n m:Nat}{di di2:DTA}{g g2:DTG}{tt tt2:DTT}{te:DTE}{capt:List Nat}{Rl:List af->Nat->Prop}
instance zv0 [h:CompN m capt ρ ρ0]:Stp (zmZ m capt di g tt di2 g2 tt2 te ρ n Rl) (di ρ n fun ts n1=>UQ g tt di2 g2 tt2 te ρ0 ts [] n1 Rl):=⟨fun k=>by unfold zmZ;rw[h.e];exact k⟩
end
abbrev Run:=Int×Int
def NR(rs:List Run):Prop:=(∀r∈rs,r.1<r.2)/\rs.Pairwise fun a b=>a.2<b.1
def mR(x:Int)(rs:List Run):Prop:=∃r∈rs,r.1<=x/\x<r.2
def mB(x:Int)(bs:qB):Prop:=∃b∈bs,b.1<=x/\x<eB b
theorem Us{x:Int}{r:Run}{rs:List Run}:mR x (r::rs)↔(r.1<=x/\x<r.2)\/mR x rs:=by
 unfold mR;constructor
 ·rintro⟨s,u,h⟩;rcases aw.mp u with rfl|u
  ·exact .inl h
  ·exact .inr ⟨s,u,h⟩
 ·rintro(h|⟨s,u,h⟩)
  ·exact⟨r,by simp,h⟩
  ·exact⟨s,by simp[u],h⟩
theorem QT{x:Int}:¬mR x []:=fun⟨_,h,_⟩=>nomatch h
theorem UK{x:Int}{rs ss:List Run}:mR x (rs++ss)↔mR x rs\/mR x ss:=by
 unfold mR;constructor
 ·rintro⟨s,u,h⟩;rcases aB.mp u with u|u
  ·exact .inl ⟨s,u,h⟩
  ·exact .inr ⟨s,u,h⟩
 ·rintro(⟨s,u,h⟩|⟨s,u,h⟩)
  ·exact⟨s,by simp[u],h⟩
  ·exact⟨s,by simp[u],h⟩
theorem ziR{x:Int}{b:Int×Int}{bs:qB}:mB x (b::bs)↔(b.1<=x/\x<eB b)\/mB x bs:=by
 unfold mB;constructor
 ·rintro⟨s,u,h⟩;rcases aw.mp u with rfl|u
  ·exact .inl h
  ·exact .inr ⟨s,u,h⟩
 ·rintro(h|⟨s,u,h⟩)
  ·exact⟨b,by simp,h⟩
  ·exact⟨s,by simp[u],h⟩
theorem ZJ{x:Int}:¬mB x []:=fun⟨_,h,_⟩=>nomatch h
theorem ZI{x:Int}{bs cs:qB}:mB x (bs++cs)↔mB x bs\/mB x cs:=by
 unfold mB;constructor
 ·rintro⟨s,u,h⟩;rcases aB.mp u with u|u
  ·exact .inl ⟨s,u,h⟩
  ·exact .inr ⟨s,u,h⟩
 ·rintro(⟨s,u,h⟩|⟨s,u,h⟩)
  ·exact⟨s,by simp[u],h⟩
  ·exact⟨s,by simp[u],h⟩
theorem zmd{x:Int}{bs cs:qB}(h:bs.Perm cs):mB x bs↔mB x cs:=by
 unfold mB;constructor
 ·rintro⟨s,l,q⟩;exact⟨s,h.mem_iff.mp l,q⟩
 ·rintro⟨s,l,q⟩;exact⟨s,h.mem_iff.mpr l,q⟩
theorem NR.tail{r:Run}{rs:List Run}(h:NR (r::rs)):NR rs:=⟨fun s l=>h.1 s (by simp[l]),(eE.mp h.2).2⟩
def QO(lo hi:Int)(h:Nat):Prop:=lo % 2 ^ h=0/\(2:Int) ^ h<=hi - lo/\¬(lo % 2 ^ (h+1)=0/\(2:Int) ^ (h+1)<=hi - lo)
theorem zdI{a b:Nat}(h:a<=b):((2:Int) ^ a)∣2 ^ b:=⟨2 ^ (b - a),by rw[<- fe];congr 1;lia⟩
theorem Uv{a b:Nat}(h:a<=b):(2:Int) ^ a<=2 ^ b:=by
 obtain⟨c,e⟩:=zdI h;have pa:=Bd.Qz a;have l:=Bd.Qz b;have pc:0<c:=by
  rcases gJ c 0 with z|z|z
  ·have:=fW pa z;lia
  ·subst z;lia
  ·exact z
 rw[e];have:=cm (show(1:Int)<=c by lia) (show(0:Int)<=2 ^ a by lia)
 lia
theorem Yg{lo:Int}{a b:Nat}(h:a<=b)(e:lo % 2 ^ b=0):lo % 2 ^ a=0:=by
 have d:((2:Int) ^ b)∣lo:=aX e;exact cX (rC (zdI h) d)
theorem QO.uniq{lo hi:Int}{h g:Nat}(a:QO lo hi h)(b:QO lo hi g):h=g:=by
 rcases cM h g with z|z|z
 ·exfalso;exact a.2.2 ⟨Yg (show h+1<=g by lia) b.1,kD (Uv (show h+1<=g by lia)) b.2.1⟩
 ·exact z
 ·exfalso;exact b.2.2 ⟨Yg (show g+1<=h by lia) a.1,kD (Uv (show g+1<=h by lia)) a.2.1⟩
def Jt:Int->Int->List (Int×Int)->Prop
 | lo,hi,[]=>lo=hi
 | lo,hi,b::r=>lo<hi/\b.1=lo/\0<=b.2/\QO lo hi b.2.toNat/\Jt (lo+2 ^ b.2.toNat) hi r
theorem Jt.le:∀{bs:qB}{lo hi:Int},Jt lo hi bs->lo<=hi
 | [],_,_,h=>by have:_=_:=h;lia
 | b::r,lo,hi,h=>by have:=h.1;lia
theorem Jt.uniq:∀{bs cs:qB}{lo hi:Int},Jt lo hi bs->Jt lo hi cs->bs=cs
 | [],[],_,_,_,_=>rfl
 | [],c::cs,lo,hi,h,k=>by have:lo=hi:=h;have:=k.1;lia
 | b::bs,[],lo,hi,h,k=>by have:lo=hi:=k;have:=h.1;lia
 | b::bs,c::cs,lo,hi,h,k=>by
  obtain⟨G,C,I,x,l⟩:=h;obtain⟨k1,k2,k3,y,k5⟩:=k;have e:=x.uniq y;have v:b.2=c.2:=by lia
  have u:b=c:=iD (by lia) v
  subst u;rw[Jt.uniq l k5]
theorem Jt.mem:∀{bs:qB}{lo hi:Int},Jt lo hi bs->∀x,mB x bs↔lo<=x/\x<hi
 | [],lo,hi,h,x=>by
  have:lo=hi:=h;exact⟨fun z=>absurd z ZJ,fun z=>by lia⟩
 | b::r,lo,hi,h,x=>by
  obtain⟨y,v,C,G,u⟩:=h;have:=Jt.mem u x;have l:=Jt.le u;have p:=Bd.Qz b.2.toNat;rw[ziR,this];unfold eB;rw[v];lia
theorem Jt.blk{bits:Int}(G:0<=bits):∀{bs:qB}{lo hi:Int},Jt lo hi bs->0<=lo->hi<=2 ^ bits.toNat->Bks bits bs
 | [],_,_,_,_,_=>fun b y=>nomatch y
 | b::r,lo,hi,h,l0,l1=>by
  obtain⟨L,C,I,x,u⟩:=h;have p:=Bd.Qz b.2.toNat;have l:=Jt.le u;have J:=Jt.blk G u (by lia) l1
  intro c hc;rcases aw.mp hc with rfl|hc
  ·have y:c.2.toNat<=bits.toNat:=by
    rcases bE bits.toNat c.2.toNat with z|z
    ·exfalso;have:=Uv (show bits.toNat+1<=c.2.toNat by lia)
     have p2:=Bd.Qz bits.toNat;rw[bS]at this;have:=x.2.1;lia
    ·exact z
   obtain⟨k,v⟩:=aX x.1;have k0:0<=k:=by
    rcases ig k 0 with z|z
    ·have:=fW p z;lia
    ·exact z
   refine⟨I,by lia,k,k0,by rw[C,v,cD],?_⟩
   have e:(2:Int) ^ bits.toNat=2 ^ (bits - c.2).toNat*2 ^ c.2.toNat:=by rw[<- fe];congr 1;lia
   have up:k*2 ^ c.2.toNat<2 ^ (bits - c.2).toNat*2 ^ c.2.toNat:=by
    rw[<- e,cD,<- v];lia
   exact iI up (by lia)
  ·exact J c hc
theorem Jt.in:∀{bs:qB}{lo hi:Int},Jt lo hi bs->∀b∈bs,lo<=b.1/\eB b<=hi
 | [],_,_,_=>fun b y=>nomatch y
 | b::r,lo,hi,h=>by
  obtain⟨C,v,G,I,u⟩:=h;have p:=Bd.Qz b.2.toNat;have x:=Jt.in u;have l:=Jt.le u;intro c hc;rcases aw.mp hc with rfl|hc
  ·unfold eB;rw[v];lia
  ·have:=x c hc;lia
theorem Jt.pw:∀{bs:qB}{lo hi:Int},Jt lo hi bs->bs.Pairwise fun a b=>eB a<=b.1
 | [],_,_,_=>.nil
 | b::r,lo,hi,h=>by
  obtain⟨x,v,y,C,u⟩:=h;refine .cons (fun c hc=>?_) (Jt.pw u)
  have:=Jt.in u c hc;unfold eB;rw[v];lia
theorem zg4:∀{bs:qB}{lo hi:Int}{k:Nat},Jt lo hi bs->lo % 2 ^ k=0->hi - lo<2 ^ k->bs.length<=k
 | [],_,_,_,_,_,_=>dQ _
 | b::r,lo,hi,k,h,d,l=>by
  obtain⟨y,x,C,u,v⟩:=h;have G:b.2.toNat<k:=by
   rcases bE b.2.toNat k with z|z
   ·exact z
   ·have:=Uv z;have:=u.2.1;lia
  have up:¬(2:Int) ^ (b.2.toNat+1)<=hi - lo:=fun z=>u.2.2 ⟨Yg (show b.2.toNat+1<=k by lia) d,z⟩
  rw[bS]at up;have:=zg4 (k:=b.2.toNat) v (by rw[mM,u.1];simp) (by lia)
  rw[aO];lia
theorem zg3{K:Nat}:∀{bs:qB}{lo hi:Int}{k:Nat},Jt lo hi bs->lo % 2 ^ k=0->hi - lo<2 ^ K->k<=K->bs.length<=(K - k)+K
 | [],_,_,_,_,_,_,_=>dQ _
 | b::r,lo,hi,k,h,d,l,hkK=>by
  obtain⟨G,C,I,u,v⟩:=h;have p:=Bd.Qz b.2.toNat;have L:b.2.toNat<K:=by
   rcases bE b.2.toNat K with z|z
   ·exact z
   ·have:=Uv z;have:=u.2.1;lia
  rw[aO]
  by_cases up:(2:Int) ^ (b.2.toNat+1)<=hi - lo
  ·have nd:¬lo % 2 ^ (b.2.toNat+1)=0:=fun z=>u.2.2 ⟨z,up⟩
   have J:k<=b.2.toNat:=by
    rcases bE b.2.toNat k with z|z
    ·exact absurd (Yg (show b.2.toNat+1<=k by lia) d) nd
    ·exact z
   have d':(lo+2 ^ b.2.toNat) % 2 ^ (b.2.toNat+1)=0:=by
    obtain⟨q,eq⟩:=aX u.1;have x:(2:Int) ^ (b.2.toNat+1)=2 ^ b.2.toNat*2:=bS _ _;rw[x]at nd ⊢;have odd:q % 2=1:=by
     rcases n9 q with z|z
     ·exfalso;obtain⟨t,y⟩:=aX z;apply nd;apply cX;exact⟨t,by rw[eq,y,dR]⟩
     ·exact z
    apply cX;refine⟨(q+1) / 2,?_⟩;have:q+1=2*((q+1) / 2):=by lia
    rw[eq,dR,<- this,nK,iO]
   have:=zg3 (K:=K) (k:=b.2.toNat+1) v d' (by lia) (by lia)
   lia
  ·rw[bS]at up;have:=zg4 (k:=b.2.toNat) v (by rw[mM,u.1];simp) (by lia)
   lia
theorem Jt.len{bs:qB}{lo hi:Int}(h:Jt lo hi bs)(u:0<=lo)(l:hi<=2 ^ 64):bs.length<=130:=by
 have:=zg3 (K:=65) (k:=0) h (by simp) (by have e:(2:Int) ^ 65=2*2 ^ 64:=(by decide);lia) (by decide)
 lia
theorem zjR{lo hi:Int}(h:lo<hi):∃g,QO lo hi g:=by
 have key:∀(d k:Nat),lo % 2 ^ k=0->(2:Int) ^ k<=hi - lo->(hi - lo).toNat<2 ^ (k+d)->∃g,QO lo hi g:=by
  intro d;induction d with
  | zero =>
   intro k _ b c;exfalso;have:((2 ^ k:Nat):Int)=(2:Int) ^ k:=by rw[fA];rfl
   rw[Nat.add_zero]at c;lia
  | succ d l =>
   intro k a b c
   by_cases z:lo % 2 ^ (k+1)=0/\(2:Int) ^ (k+1)<=hi - lo
   ·exact l (k+1) z.1 z.2 (by rw[show k+1+d=k+(d+1) by lia];exact c)
   ·exact⟨k,a,b,z⟩
 refine key (hi - lo).toNat 0 (by simp) (by simp;lia) ?_
 rw[fk];exact Nat.lt_two_pow_self
theorem zlh:∀(n:Nat) (lo hi:Int),(hi - lo).toNat<=n->lo<=hi->∃bs,Jt lo hi bs:=by
 intro n;induction n with
 | zero =>
  intro lo hi h l;exact⟨[],by show lo=hi;lia⟩
 | succ n u =>
  intro lo hi h l
  by_cases z:lo<hi
  ·obtain⟨g,G⟩:=zjR z;have p:=Bd.Qz g;have:=G.2.1;obtain⟨bs,B⟩:=u (lo+2 ^ g) hi (by lia) (by lia)
   exact⟨(lo,(g:Int))::bs,z,rfl,by show(0:Int)<=(g:Int);lia,by simpa using G,by simpa using B⟩
  ·exact⟨[],by show lo=hi;lia⟩
def PatS:List Run->List (Int×Int)->Prop
 | [],ps=>ps=[]
 | r::rs,ps=>∃a b,ps=a++b/\Jt r.1 r.2 a/\PatS rs b
theorem PatS.mem:∀{rs:List Run}{ps:qB},PatS rs ps->∀x,mB x ps↔mR x rs
 | [],_,h,x=>by
  cases(show _=[] from h)
  exact⟨fun z=>absurd z ZJ,fun z=>absurd z QT⟩
 | r::rs,_,h,x=>by
  obtain⟨a,b,rfl,u,l⟩:=h;rw[ZI,Us,u.mem x,PatS.mem l x]
theorem PatS.blk{bits:Int}(l:0<=bits):∀{rs:List Run}{ps:qB},PatS rs ps->(∀r∈rs,0<=r.1/\r.2<=2 ^ bits.toNat)->Bks bits ps
 | [],_,h,_=>by cases(show _=[] from h);exact fun b C=>nomatch C
 | r::rs,_,h,w=>by
  obtain⟨a,b,rfl,x,v⟩:=h;have u:=w r (by simp)
  intro c hc;rcases aB.mp hc with hc|hc
  ·exact x.blk l u.1 u.2 c hc
  ·exact PatS.blk l v (fun s y=>w s (by simp[y])) c hc
theorem PatS.in:∀{rs:List Run}{ps:qB},PatS rs ps->∀b∈ps,∃r∈rs,r.1<=b.1/\eB b<=r.2
 | [],_,h=>by cases(show _=[] from h);exact fun b x=>nomatch x
 | r::rs,_,h=>by
  obtain⟨a,b,rfl,u,l⟩:=h;intro c hc;rcases aB.mp hc with hc|hc
  ·exact⟨r,by simp,u.in c hc⟩
  ·obtain⟨s,v,q⟩:=PatS.in l c hc;exact⟨s,by simp[v],q⟩
theorem PatS.pw:∀{rs:List Run}{ps:qB},PatS rs ps->NR rs->ps.Pairwise fun a b=>eB a<=b.1
 | [],_,h,_=>by cases(show _=[] from h);exact .nil
 | r::rs,_,h,nr=>by
  obtain⟨a,b,rfl,v,u⟩:=h;rw[cn];refine⟨v.pw,PatS.pw u nr.tail,fun x hx y C=>?_⟩
  have:=v.in x hx;obtain⟨s,G,q⟩:=PatS.in u y C;have:=(eE.mp nr.2).1 s G;lia
theorem PatS.len:∀{rs:List Run}{ps:qB},PatS rs ps->(∀r∈rs,0<=r.1/\r.2<=2 ^ 64)->ps.length<=130*rs.length
 | [],_,h,_=>by cases(show _=[] from h);simp
 | r::rs,_,h,w=>by
  obtain⟨a,b,rfl,v,u⟩:=h;have l:=w r (by simp)
  have:=v.len l.1 l.2;have:=PatS.len u fun s x=>w s (by simp[x])
  rw[aK,aO];lia
def CanP(S:Int->Prop)(ps:qB):Prop:=∃rs,NR rs/\(∀x,mR x rs↔S x)/\PatS rs ps
theorem CanP.mem{S:Int->Prop}{ps:qB}(h:CanP S ps)(x:Int):mB x ps↔S x:=by
 obtain⟨rs,v,l,u⟩:=h;rw[u.mem,l]
theorem CanP.ptc{S:Int->Prop}{ps:qB}{bits:Int}(C:0<=bits)(h:CanP S ps)(w:∀x,S x->0<=x/\x<2 ^ bits.toNat):Ptc bits ps:=by
 obtain⟨rs,v,u,y⟩:=h;refine⟨y.blk C fun r l=>?_,y.pw v⟩
 have lt:=v.1 r l;have a:=w r.1 ((u _).mp ⟨r,l,bf _,lt⟩);have b:=w (r.2 - 1) ((u _).mp ⟨r,l,by lia,by lia⟩)
 lia
section
variable{X:Cx}{a:aT}{da:DTE}{ρ:En}{n:Nat}{R:qN}
theorem zl9:MtR X "int.bit_length" (fun x xs H Q=>∃i,x=.int i/\xs=[]/\Q (.int (eT i)) H):=by
 intro pins s σ H x xs v u Q I l rs h;obtain⟨i,rfl,rfl,q⟩:=h;obtain⟨t,rfl⟩:=l;cases rs;exact call_int_bit_length ⟨.int _,H,I.tok _,⟨_,rfl⟩,q⟩
def zm0(d:DTE):DTE:=fun ρ n R=>d ρ n fun t l=>lInt t fun i=>R (.int (eT i)) l
theorem zh2{p2 x:Pos}(h:DL X a da)(I:attributeBase a "bit_length" X.env (eval a X.env)=eval a X.env:=by rfl) (G:(p2.endLine == x.line)=true:=by rfl):DE X (.Call (.Attribute a "bit_length" p2) [] [] x) (zm0 da):=by
 obtain⟨Z,pa,h⟩:=h;refine⟨_,zsv PySem.F.plainAttrs_int slot_int_bit_length type_int_bit_length zl9 pa I G,fun C ρ σ H n Q R S hd Y=>?_⟩
 refine h C ρ σ H n _ _ S hd fun t L v J r N U y=>?_
 cases t with
 | int i =>
  rw[y.intI];exact⟨rfl,i,rfl,rfl,Y _ L _ J r N U (.int _)⟩
 | _=>exact r.elim
instance zve:Stp (zm0 da ρ n R) (da ρ n fun t n1=>lInt t fun i=>R (.int (eT i)) n1):=⟨fun h=>h⟩
end
theorem zeV{i:Int}(h:0<i):(eT i:Int) - 1=(i.toNat.log2:Int):=by
 unfold eT;have:(i == 0)=false:=by simp;lia
 rw[this];have e:i.natAbs=i.toNat:=by lia
 rw[e];simp
theorem zmi{i:Int}(h:0<i):(2:Int) ^ i.toNat.log2<=i:=by
 have:=Nat.log2_self_le (n:=i.toNat) (by lia)
 have e:((2 ^ i.toNat.log2:Nat):Int)=(2:Int) ^ i.toNat.log2:=by rw[fA];rfl
 lia
theorem zme{i:Int}(h:0<i):i<(2:Int) ^ (i.toNat.log2+1):=by
 have:=Nat.lt_log2_self (n:=i.toNat);have e:((2 ^ (i.toNat.log2+1):Nat):Int)=(2:Int) ^ (i.toNat.log2+1):=by rw[fA];rfl
 lia
theorem zmk(t:Nat):∀x:Nat,x % 2 ^ t=0->¬x % 2 ^ (t+1)=0->x - (x &&& (x - 1))=2 ^ t:=by
 induction t with
 | zero =>
  intro x _ h;have G:x % 2=1:=by
   have:¬x % 2=0:=by simpa using h
   lia
  have e:x &&& (x - 1)=x - 1:=by
   apply lz;intro i;rw[kK];cases i with
   | zero =>
    have:(x - 1).testBit 0=false:=by rw[ka];simp;lia
    rw[this,gO]
   | succ i =>
    have:x / 2=(x - 1) / 2:=by lia
    rw[fQ,fQ,this,Bool.and_self]
  rw[e];simp;lia
 | succ t y =>
  intro x l u;have ev:x % 2=0:=by
   have:2∣2 ^ (t+1):=⟨2 ^ t,by rw[kE,kC]⟩
   exact gP (Nat.dvd_trans this (gQ l))
  have hx:x=2*(x / 2):=by lia
  have v:(x / 2) % 2 ^ t=0:=by
   obtain⟨q,e⟩:=gQ l;apply gP;refine⟨q,?_⟩;rw[kE]at e;have:x=2*(2 ^ t*q):=by rw[e];rw[kC (2 ^ t) 2,rD]
   lia
  have p2:¬(x / 2) % 2 ^ (t+1)=0:=fun z=>by
   obtain⟨q,e⟩:=gQ z;apply u;apply gP;refine⟨q,?_⟩;rw[kE,kC (2 ^ (t+1)) 2,rD,<- e];exact hx
  have:=y (x / 2) v p2;have e:x &&& (x - 1)=2*(x / 2 &&& (x / 2 - 1)):=by
   apply lz;intro i;rw[kK];cases i with
   | zero =>
    have a:x.testBit 0=false:=by rw[ka];simp;lia
    rw[a,cf,ka];simp
   | succ i =>
    have C:0<x / 2:=by
     rcases lW (x / 2) with z|z
     ·rw[z]at p2;simp at p2
     ·exact z
    have b:(x - 1) / 2=x / 2 - 1:=by lia
    rw[fQ,fQ,fQ,b,Nat.mul_div_cancel_left _ (by decide:0<2),kK]
  rw[e,kE];have le:(x / 2 &&& (x / 2 - 1))<=x / 2:=oa;lia
theorem zrl{b:Int}(h:0<b){t:Nat}(u:b % 2 ^ t=0)(l:¬b % 2 ^ (t+1)=0):fI b (-b)=2 ^ t:=by
 have e:fI b (-b)=b - ((b.toNat &&& (b.toNat - 1):Nat):Int):=by
  have h0:decide (0<=b)=true:=decide_eq_true (by lia)
  have v:decide (0<=-b)=false:=decide_eq_false (by lia)
  show(match decide (0<=b),decide (0<=-b) with
   | true,true=>((b.toNat &&& (-b).toNat:Nat):Int)
   | true,false=>b - ((b.toNat &&& (e9 (-b)).toNat:Nat):Int)
   | false,true=>(-b) - (((-b).toNat &&& (e9 b).toNat:Nat):Int)
   | false,false=>e9 (((e9 b).toNat|||(e9 (-b)).toNat:Nat):Int))=_
  rw[h0,v];have:(e9 (-b)).toNat=b.toNat - 1:=by
   have:e9 (-b)=b - 1:=by show -(-b) - 1=b - 1;lia
   rw[this];lia
  rw[this]
 have cast:∀k:Nat,b % (2:Int) ^ k=((b.toNat % 2 ^ k:Nat):Int):=fun k=>by
  rw[Int.natCast_emod,fA,lK (by lia)];rfl
 rw[cast]at u l;have:=zmk t b.toNat (by lia) (by lia)
 have le:(b.toNat &&& (b.toNat - 1))<=b.toNat:=oa;rw[e];have x:((2 ^ t:Nat):Int)=(2:Int) ^ t:=by rw[fA];rfl
 lia
theorem zvh{b:Int}(h:0<b):∃t:Nat,b % 2 ^ t=0/\¬b % 2 ^ (t+1)=0:=by
 obtain⟨g,G⟩:=zjR (lo:=b) (hi:=b+b+1) (by lia)
 refine⟨g,G.1,fun z=>?_⟩
 have d:=aX z;have:=Int.le_of_dvd h d;exact G.2.2 ⟨z,by lia⟩
theorem zjG{xs:qD}{x:af}:ixN (xs++[x]).length (-1)=some xs.length:=by
 unfold ixN;simp;lia
theorem zoq{xs:qD}{x:af}{Q:af->Prop}(h:Q x):oIx (.list (xs++[x])) (.int (-1)) Q:=by
 have e:atI (xs++[x]) (-1)=some x:=by
  unfold atI;rw[zjG];simp
 rw[Zw e];exact h
end L2
namespace Bd
open PySem L2
def ppD(xs:List (af×af)):List af:=xs.map fun p=>.tuple [p.1,p.2]
def oD(os:List ((Int×Int)×Str)):List af:=os.map fun p=>.tuple [prD p.1,.str p.2]
theorem J3{os:List ((Int×Int)×Str)}:(oD os).length=os.length:=by simp[oD]
def Shr(bits:Int)(os:List ((Int×Int)×Str)):Prop:=Ptc bits (os.map (·.1))/\∀p∈os,IsNm p.2
theorem zwb(os:List ((Int×Int)×Str)):oD os=ppD (os.map fun p=>(prD p.1,.str p.2)):=by
 unfold oD ppD;rw[cQ];rfl
def apB(a b:Int×Int):Prop:=eB a<=b.1\/eB b<=a.1
def okPr(p q:(Int×Int)×Str):Prop:=p.2=q.2\/apB p.1 q.1
def Agr(os l:List ((Int×Int)×Str)):Prop:=∀p∈os,∀q∈l,okPr p q
abbrev Deal:=Int×List ((Int×Int)×Str)×List ((Int×Int)×Str)
def dlD(d:Deal):af:=.tuple [.int d.1,.tuple (oD d.2.1),.tuple (oD d.2.2)]
def Dl(d:Deal):Prop:=1<=d.1/\d.1<=64/\Shr d.1 d.2.1/\Shr d.1 d.2.2/\Agr d.2.1 d.2.2
def nD(l:List Str):List af:=l.map .str
theorem zl6{u:List Str}:(nD u).length=u.length:=by simp[nD]
end Bd
namespace L2
open PySem PySem.Spec PyProof.Rows
section
variable{X:Cx}{tg iter:aT}{d:DTE}
def iSeq(K:qF)(u:TE):TI:=fun σ H R=>u σ H fun x l=>∃a,x=.ref a/\(((∃xs,SqL K l a xs)/\R (Itl K a) l)\/((∃xs,SqT K l a xs)/\R (Itt K a) l))
theorem zsm{l:aT}{N:TE}(S:PE X l N):PI X tg l (iSeq X.K N):=by
 intro pins s σ H R I h;refine thn (S pins s σ H _ I h) fun v s1 ⟨x,L,u,Z,C⟩=>?_
 obtain⟨a,e,C⟩:=C;subst e;cases Z;rcases C with⟨⟨xs,G⟩,q⟩|⟨⟨xs,G⟩,q⟩
 ·obtain⟨y,Y,p,U⟩:=u.list G;refine fD p.isList ?_;refine⟨s1.heap.objs.size,[s1.heap.objs.size],_,_,L,rfl,u.kept (t':=s1.toks) fun b o e=>aq _ e,zgX a _,⟨_,aD _ rfl,rfl,rfl⟩,fun b J=>?_,q⟩
  have e:b=s1.heap.objs.size:=by simpa using J
  subst e;exact u.fpOk (ay _) (u.hok.fresh (ay _))
 ·obtain⟨y,Y,p,U⟩:=u.tuple G;refine iw (show s1.heap.IsTuple a y.toArray from p) ?_
  refine⟨s1.heap.objs.size,[s1.heap.objs.size],_,_,L,rfl,u.kept (t':=s1.toks) fun b o e=>aq _ e,zft a _,⟨_,aD _ rfl,rfl,rfl⟩,fun b J=>?_,q⟩
  have e:b=s1.heap.objs.size:=by simpa using J
  subst e;exact u.fpOk (ay _) (u.hok.fresh (ay _))
def dItA(d:DTE):DTA:=fun u n R=>d u n fun t l=>JV t fun ts=>R ts l
theorem zpp(h:DE X iter d):DI X tg iter (dItA d):=by
 obtain⟨Y,pa,h⟩:=h;refine⟨_,zsm pa,fun C G σ H n Q R S hd L=>?_⟩
 refine h C G σ H n _ _ S hd fun t y v J r I N q=>?_
 cases t with
 | tuple ts =>
  obtain⟨p,x,rfl,u,it⟩:=zpg (P:=fun a=>¬Own C G σ a) (fun _ z=>z) q
  exact⟨p,rfl,.inr ⟨⟨x,u⟩,L ts y _ J r I N it⟩⟩
 | list ts =>
  obtain⟨p,x,rfl,u,no,U⟩:=q.lstI;exact⟨p,rfl,.inl ⟨⟨x,SqL.of u⟩,L ts y _ J r I N (V0 u no (fun _ z=>z) U)⟩⟩
 | _=>exact r.elim
end
section
variable{ρ:En}{n:Nat}{d:DTE}{Rl:List af->Nat->Prop}
instance zxp:Stp (dItA d ρ n Rl) (d ρ n fun t n'=>JV t fun ts=>Rl ts n'):=⟨fun h=>h⟩
end
theorem V2{bits:Int}{p q:Int×Int}(P:IsBk bits p.1 p.2)(Q:IsBk bits q.1 q.2){x:Int}(u:p.1<=x/\x<eB p)(v:q.1<=x/\x<eB q):(p.1<=q.1/\eB q<=eB p/\q.2<=p.2)\/(q.1<=p.1/\eB p<=eB q/\p.2<=q.2):=by
 unfold eB at *;rcases sZ q.2.toNat p.2.toNat with l|l
 ·rcases zim P.n Q.n l with z|z|z
  ·left
   have:=(zi4 P.n Q.n).mp z;have:=P.1;have:=Q.1;lia
  ·lia
  ·lia
 ·rcases zim Q.n P.n l with z|z|z
  ·right
   have:=(zi4 Q.n P.n).mp z;have:=P.1;have:=Q.1;lia
  ·lia
  ·lia
theorem zjg{bits i h:Int}(B:IsBk bits i h):i % 2 ^ h.toNat=0:=by
 obtain⟨_,_,k,_,rfl,_⟩:=B;exact mO _ _
theorem Jt.great:∀{bs:qB}{lo hi:Int},Jt lo hi bs->∀b∈bs,QO b.1 hi b.2.toNat/\lo<=b.1
 | [],_,_,_=>fun b v=>nomatch v
 | b::r,lo,hi,h=>by
  obtain⟨y,u,C,x,l⟩:=h;have p:=Bd.Qz b.2.toNat;intro c hc;rcases aw.mp hc with rfl|hc
  ·rw[u];exact⟨x,bf _⟩
  ·have:=Jt.great l c hc;exact⟨this.1,by lia⟩
theorem Jt.max{bits:Int}(Z:0<=bits){bs:qB}{lo hi:Int}(S:Jt lo hi bs)(l0:0<=lo)(l1:hi<=2 ^ bits.toNat){p q:Int×Int}(y:p∈bs)(Q:IsBk bits q.1 q.2)(w:lo<=q.1/\eB q<=hi)(i:q.1<=p.1/\eB p<=eB q):q=p:=by
 have B:=S.blk Z l0 l1;have P:=B p y;have pp:=Bd.Qz p.2.toNat;have pq:=Bd.Qz q.2.toNat;have nest:=V2 P Q (x:=p.1) ⟨bf _,by unfold eB;lia⟩ ⟨i.1,by unfold eB at *;lia⟩
 have hle:p.2<=q.2:=by
  rcases nest with⟨a,b,c⟩|⟨a,b,c⟩
  ·have u:p.1=q.1:=by lia
   have I:eB p=eB q:=by lia
   unfold eB at I;rcases ig q.2 p.2 with z|z
   ·have p0:=P.1;have q0:=Q.1;have:=Uv (show q.2.toNat+1<=p.2.toNat by lia)
    rw[bS]at this;lia
   ·exact z
  ·exact c
 have p0:=P.1;have q0:=Q.1
 by_cases e:p.2=q.2
 ·have u:(2:Int) ^ p.2.toNat=2 ^ q.2.toNat:=by rw[e]
  have:q.1=p.1:=by unfold eB at *;lia
  exact iD this e.symm
 ·exfalso;have v:p.2.toNat+1<=q.2.toNat:=by lia
  have dq:=zjg Q;have J:=Yg v dq;have G:=(S.great p y).1
  by_cases ev:p.1 % 2 ^ (p.2.toNat+1)=0
  ·
   apply G.2.2;refine⟨ev,?_⟩;obtain⟨a,l⟩:=aX ev;have de:eB q % 2 ^ (p.2.toNat+1)=0:=by
    unfold eB;rw[mM,J,cX (zdI v)];simp
   obtain⟨c,L⟩:=aX de;have lt:p.1<eB q:=by have:=i.2;unfold eB at *;lia
   rw[l,L]at lt;have pos:=Bd.Qz (p.2.toNat+1);have ac:a<c:=iL lt (by lia)
   have:=cm (show a+1<=c by lia) (show(0:Int)<=2 ^ (p.2.toNat+1) by lia)
   rw[nK,iO,<- l,<- L]at this;lia
  ·
   have U:(p.1 - 2 ^ p.2.toNat) % 2 ^ (p.2.toNat+1)=0:=by
    obtain⟨k,ek⟩:=aX (zjg P);have I:(2:Int) ^ (p.2.toNat+1)=2 ^ p.2.toNat*2:=bS _ _;rw[I]at ev ⊢;have odd:k % 2=1:=by
     rcases n9 k with z|z
     ·exfalso;obtain⟨t,et⟩:=aX z;apply ev;apply cX;exact⟨t,by rw[ek,et,dR]⟩
     ·exact z
    apply cX;refine⟨(k - 1) / 2,?_⟩;have:k - 1=2*((k - 1) / 2):=by lia
    rw[ek,dR,<- this,Int.mul_sub,iO]
   have lowq:q.1<=p.1 - 2 ^ p.2.toNat:=by
    obtain⟨a,l⟩:=aX U;obtain⟨c,L⟩:=aX J;have pos:=Bd.Qz (p.2.toNat+1);have I:(2:Int) ^ (p.2.toNat+1)=2 ^ p.2.toNat*2:=bS _ _;have lt:q.1<p.1 - 2 ^ p.2.toNat+2 ^ (p.2.toNat+1):=by lia
    rw[l,L]at lt;have:(2:Int) ^ (p.2.toNat+1)*c<2 ^ (p.2.toNat+1)*(a+1):=by rw[nK,iO];exact lt
    have ca:=iL this (by lia)
    have:=cm (show c<=a by lia) (show(0:Int)<=2 ^ (p.2.toNat+1) by lia)
    rw[<- l,<- L]at this;exact this
   obtain⟨c,hc,c1,c2⟩:=(S.mem (p.1 - 2 ^ p.2.toNat)).mpr ⟨by lia,by have:=S.in p y;unfold eB at this;lia⟩
   have C:=B c hc;have pc:=Bd.Qz c.2.toNat;have cp:eB c<=p.1:=by
    obtain⟨i1,h1,rfl⟩:=aW hc;obtain⟨Y,h2,rfl⟩:=aW y;rcases cM i1 Y with z|z|z
    ·exact aR.mp S.pw i1 Y h1 h2 z
    ·subst z;lia
    ·have:=aR.mp S.pw Y i1 h2 h1 z;unfold eB at this;lia
   have LB:IsBk bits (p.1 - 2 ^ p.2.toNat) (p.2+1):=by
    have hq1:=Q.2.1;obtain⟨a,l⟩:=aX U;have u:(p.2+1).toNat=p.2.toNat+1:=by lia
    have pos:=Bd.Qz (p.2.toNat+1);have a0:0<=a:=by
     rcases ig a 0 with z|z
     ·have:=fW pos z;have:=(Q.bounds Z).1;lia
     ·exact z
    refine⟨by lia,by lia,a,a0,by rw[u,l,cD],?_⟩
    have e:(2:Int) ^ bits.toNat=2 ^ (bits - (p.2+1)).toNat*2 ^ (p.2.toNat+1):=by rw[<- fe];congr 1;lia
    have up:a*2 ^ (p.2.toNat+1)<2 ^ (bits - (p.2+1)).toNat*2 ^ (p.2.toNat+1):=by
     rw[<- e,cD,<- l];have:=(P.bounds Z).2;lia
    exact iI up (by lia)
   have u:(p.2+1).toNat=p.2.toNat+1:=by lia
   have n3:=V2 (p:=c) (q:=(p.1 - 2 ^ p.2.toNat,p.2+1)) C LB (x:=p.1 - 2 ^ p.2.toNat) ⟨c1,c2⟩ ⟨bf _,by show _<_+2 ^ (p.2+1).toNat;have:=Bd.Qz (p.2+1).toNat;lia⟩
   have eL:eB (p.1 - 2 ^ p.2.toNat,p.2+1)=p.1+2 ^ p.2.toNat:=by
    show p.1 - 2 ^ p.2.toNat+2 ^ (p.2+1).toNat=_
    rw[u,bS];lia
   rcases n3 with⟨z1,z2,R⟩|⟨z1,z2,R⟩
   ·lia
   ·have z1:p.1 - 2 ^ p.2.toNat<=c.1:=z1;have R:c.2<=p.2+1:=R;have cb:c.1=p.1 - 2 ^ p.2.toNat:=by lia
    have c0:=C.1;have ch:c.2<=p.2:=by
     rcases ig p.2 c.2 with z|z
     ·have:c.2=p.2+1:=by lia
      unfold eB at cp;rw[this,u,bS]at cp;lia
     ·exact z
    have Gc:=(S.great c hc).1;apply Gc.2.2;refine⟨?_,?_⟩
    ·rw[cb];exact Yg (show c.2.toNat+1<=p.2.toNat+1 by lia) U
    ·have:=Uv (show c.2.toNat+1<=p.2.toNat+1 by lia)
     have I:(2:Int) ^ (p.2.toNat+1)=2 ^ p.2.toNat*2:=bS _ _;have:=S.in p y;unfold eB at this;lia
theorem NR.one{rs:List Run}(l:NR rs){a b:Int}(h:a<b)(w:∀x,a<=x->x<b->mR x rs):∃r∈rs,r.1<=a/\b<=r.2:=by
 obtain⟨r,u,G,J⟩:=w a (bf _) h;refine⟨r,u,G,?_⟩;rcases ig r.2 b with z|z
 ·exfalso;obtain⟨s,C,k1,k2⟩:=w r.2 (by lia) z
  obtain⟨i,hi,rfl⟩:=aW u;obtain⟨j,v,rfl⟩:=aW C;have I:=l.1 _ u;have L:=l.1 _ C;rcases cM i j with y|y|y
  ·have:=aR.mp l.2 i j hi v y;lia
  ·subst y;lia
  ·have:=aR.mp l.2 j i v hi y;lia
 ·exact z
theorem PatS.from:∀{rs:List Run}{ps:qB},PatS rs ps->∀p∈ps,∃r∈rs,∃bs,Jt r.1 r.2 bs/\p∈bs
 | [],_,h=>by cases(show _=[] from h);exact fun b u=>nomatch u
 | s::rs,_,h=>by
  obtain⟨a,b,rfl,y,v⟩:=h;intro p l;rcases aB.mp l with l|l
  ·exact⟨s,by simp,a,y,l⟩
  ·obtain⟨r,x,bs,B,u⟩:=PatS.from v p l
   exact⟨r,by simp[x],bs,B,u⟩
theorem CanP.max{bits:Int}(Y:0<=bits){S:Int->Prop}{ps:qB}(h:CanP S ps)(w:∀x,S x->0<=x/\x<2 ^ bits.toNat){p q:Int×Int}(R:p∈ps)(Q:IsBk bits q.1 q.2)(wq:∀x,q.1<=x->x<eB q->S x)(i:q.1<=p.1/\eB p<=eB q):q=p:=by
 obtain⟨rs,u,J,P⟩:=h;obtain⟨r,C,bs,B,N⟩:=P.from p R
 have lt:=u.1 r C;have Z:=w r.1 ((J _).mp ⟨r,C,bf _,lt⟩);have w2:=w (r.2 - 1) ((J _).mp ⟨r,C,by lia,by lia⟩)
 have pin:=B.in p N;have pp:=QJ p;obtain⟨s,U,s1,s2⟩:=u.one (a:=q.1) (b:=eB q) (QJ q) fun x v l=>(J x).mpr (wq x v l)
 have G:r=s:=by
  obtain⟨L,v,rfl⟩:=aW C;obtain⟨I,l,rfl⟩:=aW U;rcases cM L I with y|y|y
  ·have:=aR.mp u.2 L I v l y;lia
  ·subst y;rfl
  ·have:=aR.mp u.2 I L l v y;lia
 subst G;exact B.max Y Z.1 (by lia) N Q ⟨s1,s2⟩ i
theorem zhz:∀{ps bs:qB},(ps.Pairwise fun a b=>eB a<=b.1)->(∀p∈ps,∃b∈bs,p.1<=b.1/\b.1<eB p)->ps.length<=bs.length
 | [],_,_,_=>dQ _
 | p::ps,bs,pw,h=>by
  obtain⟨b,v,G,C⟩:=h p (by simp)
  have l:=eE.mp pw;have:=zhz (ps:=ps) (bs:=bs.erase b) l.2 fun q u=>by
   obtain⟨c,hc,x,y⟩:=h q (by simp[u])
   refine⟨c,(List.mem_erase_of_ne ?_).mpr hc,x,y⟩;rintro rfl;have:=l.1 q u;lia
  have e:=List.length_erase_of_mem v;have:=List.length_pos_of_mem v;rw[aO];lia
theorem CanP.le{bits:Int}(v:0<=bits){bs ps:qB}(B:Bks bits bs)(h:CanP (fun x=>mB x bs) ps):ps.length<=bs.length:=by
 have w:∀x,mB x bs->0<=x/\x<2 ^ bits.toNat:=fun x ⟨b,l,G,y⟩=>by
  have:=(B b l).bounds v;unfold eB at y;lia
 have P:=h.ptc v w;refine zhz P.2 fun p C=>?_
 have pp:=QJ p;obtain⟨b,l,G,y⟩:=(h.mem p.1).mp ⟨p,C,bf _,pp⟩;rcases V2 (P.1 p C) (B b l) (x:=p.1) ⟨bf _,pp⟩ ⟨G,y⟩ with z|z
 ·exact⟨b,l,z.1,by have:=QJ b;lia⟩
 ·have:=h.max v w C (B b l) (fun x I J=>⟨b,l,I,J⟩) ⟨z.1,z.2.1⟩
  subst this;exact⟨b,l,bf _,pp⟩
section
variable{Q:af->Prop}{s t:Str}{i j:Int}{b:Bool}{xs ys:qD}
theorem zlX:Okd .none:=zoa.okd
instance zw7:Stp (oNe (.str s) .none Q) (Okd (.str s)/\Q (.bool true)):=⟨fun h=>⟨h.1,zlX,h.2⟩⟩
end
end L2
namespace Bd
open PySem L2
def QI(nm:af):Prop:=nm=.none\/∃s,nm=.str s/\IsNm s
def who(s:Str):af->Bool
 | .str t=>decide (s=t)
 | _=>false
def JW(d:Deal)(nm:af):List (Int×Int):=(d.2.2.filter fun p=>!who p.2 nm).map (·.1)
end Bd
namespace L2
open PySem PySem.Spec PyProof.Rows
section
variable{X:Cx}{a b e o:aT}{d da db:DTE}{ds:DTA}{pos p:Pos}{x y:Str}
def zr1(i j:Nat)(ds:DTA)(d:DTE):DTS:=fun D u n=>ds u n fun ts C=>d u C fun t G=>JT t=true/\D.nx ((u.set i (some (.own ts))).set j (some (.val t))) G
theorem zq0{i j:Nat}{px py pt:Pos}{kt k2 pt2}(hc:X.calm=true)(hN:X.N.Nodup)(hi:X.N[i]?=some x)(hj:X.N[j]?=some y)(U:i≠j)
  (hx:X.env.scope.names.lookup x=some .local) (hy:X.env.scope.names.lookup y=some .local) (h:DN X a ds) (h':DE X b d)
  (J:starEach [a,b] X.env=(false,eval a X.env)::starEach [b] X.env:=by rfl) (Y:starEach [b] X.env=[(false,eval b X.env)]:=by rfl)
  (hw:swappedStores [.Tuple [.Name x px,.Name y py] kt pt] (.Tuple [a,b] k2 pt2) X.env=pure (some [x,y]):=by rfl)
  (hs:swapsWithSole [.Tuple [.Name x px,.Name y py] kt pt] (.Tuple [a,b] k2 pt2) pos.line X.env=pure false:=by rfl) :
  DS X (.Assign [.Tuple [.Name x px,.Name y py] kt pt] (.Tuple [a,b] k2 pt2) pos) (zr1 i j ds d):=by
 obtain⟨ta,pa,h⟩:=h;obtain⟨tb,pb,h'⟩:=h';refine⟨_,zsf hc hN hi hj U hx hy (QZ pa (QZ pb UM Y) J) hw hs,fun C G σ H n D D' S hd g=>?_⟩
 refine h C G σ H n _ _ S hd fun ts n1 p vs H1 r1 Z h1 R hp' q1=>?_
 have S1:=S.on Z h1;refine h' C G σ H1 n1 _ _ S1 r1 fun t n2 v L r2 I h2 q2=>?_
 refine⟨_,_,rfl,?_⟩;have nhd:C.hd≠some p:=fun z=>S.dom (.inl (S.hx p z)) R
 have q1':Reps X.K C.hd (fun a=>Own C G σ a\/a=p) L vs ts:=q1.mono (fun _ _ _ z=>z) fun a o no ha=>I a o ha fun z=>no (.inl (.inl (S.hx a z)))
 have SO:=S.putOwn (i:=i) (Z.trans I) h2 R (I p _ hp' nhd) q1';have q2':Rep X.K C.hd (Own C (G.set i (some (.own ts))) (σ.set i (some (.ref p)))) L v t:=q2.up (fun a ha=>SO.lst ha) r2.1
 exact g.nx _ _ L n2 r2.2 (SO.put q2') ((zeS (Z.trans I) R).trans Ud)
variable{ρ ρ':En}{n i j l k:Nat}{D:JU}{init us:qD}{t:af}
instance zw6:Stp (zr1 i j ds d D ρ n) (ds ρ n fun ts n1=>d ρ n1 fun t n2=>JT t=true/\SetK i (some (.own ts)) (fun ρ1 n1=>SetK j (some (.val t)) D.nx ρ1 n1) ρ n2):=⟨fun h=>h⟩
end
section
variable{X:Cx}{Q:af->Prop}{i j k:Int}
def min3(i j k:Int):Int:=if j<i then(if k<j then k else j) else(if k<i then k else i)
theorem zm_(hc:X.calm=true):JO X (.builtin "min") (fun xs H Q=>∃i j k,xs=[.int i,.int j,.int k]/\Q (.int (min3 i j k)) H):=by
 intro pins s σ H xs J Q I r h;obtain⟨i,j,k,rfl,q⟩:=h;cases r with
 | cons C r =>
  obtain⟨v,G,rfl,⟨t',rfl⟩,⟨x,rfl⟩⟩:=vals2 r;obtain⟨t,rfl⟩:=C;refine min_three_ints (I.ok.hd hc) fun h' tk y=>⟨_,H,I.kept y,?_,q⟩
  unfold min3
  by_cases h1:j<i <;> by_cases h2:k<j <;> by_cases h3:k<i <;> simp only[h1,h2,h3,if_true,if_false] <;> exact⟨_,rfl⟩
def Vv:GC
 | [.int i,.int j,.int k],R=>R (.int (min3 i j k))
 | _,_=>False
theorem zqS:GpC X (fun xs H Q=>∃i j k,xs=[.int i,.int j,.int k]/\Q (.int (min3 i j k)) H) Vv:=by
 intro hd O H xs ts Q R dom rs h x;unfold Vv at h;split at h
 ·cases rs with
  | cons u rs =>
   obtain⟨v,w,rfl,y,l⟩:=zlx rs;rw[u.intI,y.intI,l.intI];exact⟨_,_,_,rfl,x _ _ H h (Same.refl H) (.int _)⟩
 ·exact h.elim
theorem ztj{R:af->Prop}(h:R (.int (min3 i j k))):Vv [.int i,.int j,.int k] R:=h
instance{R:af->Prop}:Stp (Vv [.int i,.int j,.int k] R) (R (.int (min3 i j k))):=⟨fun h=>ztj h⟩
end
end L2
namespace L2
open PySem Bd
theorem zrm{bits i h:Int}(B:IsBk bits i h)(v:h<bits):IsBk bits (i / 2 ^ (h+1).toNat*2 ^ (h+1).toNat) (h+1)/\i / 2 ^ (h+1).toNat*2 ^ (h+1).toNat<=i/\i+2 ^ h.toNat<=i / 2 ^ (h+1).toNat*2 ^ (h+1).toNat+2 ^ (h+1).toNat:=by
 have h0:=B.1;have e:(h+1).toNat=h.toNat+1:=by lia
 have l:(2:Int) ^ (h+1).toNat=2*2 ^ h.toNat:=by rw[e,bS,cD]
 have a:=B.abt v;have p:=Qz h.toNat;have y:=zjg B;have x:i / 2 ^ (h+1).toNat*2 ^ (h+1).toNat=i - i % (2*2 ^ h.toNat):=by
  rw[l];have:=Int.mul_ediv_add_emod i (2*2 ^ h.toNat);rw[cD]at this;lia
 rw[x,l];refine⟨a,?_,?_⟩
 ·have:=gq i (show(2*2 ^ h.toNat:Int)≠0 by lia);lia
 ·generalize (2:Int) ^ h.toNat=P at *;have m:=fo i (show(0:Int)<2*P by lia)
  have C:P∣i:=aX y;have u:P∣i % (2*P):=by
   rw[Int.emod_def];exact Int.dvd_sub C (rC ⟨2,by lia⟩ (Int.dvd_mul_right _ _))
  obtain⟨c,hc⟩:=u;have:c<2:=by
   by_cases z:c<2
   ·exact z
   ·have:=cm (show(2:Int)<=c by lia) (eM p);lia
  have:P*c<=P*1:=cm (by lia) (eM p)
  lia
theorem CanP.hold{bits:Int}(u:0<=bits){S:Int->Prop}{ps:qB}(h:CanP S ps)(w:∀x,S x->0<=x/\x<2 ^ bits.toNat){b:Int×Int}(B:IsBk bits b.1 b.2)(v:∀x,b.1<=x->x<eB b->S x):∃p∈ps,p.1<=b.1/\eB b<=eB p:=by
 have P:=h.ptc u w;have lt:=QJ b;obtain⟨p,l,y,p2⟩:=(h.mem b.1).mpr (v b.1 (bf _) lt);rcases V2 (P.1 p l) B (x:=b.1) ⟨y,p2⟩ ⟨bf _,lt⟩ with z|z
 ·exact⟨p,l,z.1,z.2.1⟩
 ·have e:=h.max u w l B v ⟨z.1,z.2.1⟩;exact⟨p,l,by rw[e];exact bf _,by rw[e];exact bf _⟩
variable{as bs cs:List Run}{a b:Nat}
end L2
namespace L2
open PySem PySem.Spec PyProof.Rows
abbrev KT(H:Hp):List (List Key×V)->List (List Key×ak×ah)->Prop:=eh fun p q=>p.1=q.1/\H q.2.1=some (.tup (p.1.map kV))/\RelV p.2 q.2.2
def NoSl(i:aT):Prop:=∀l u,subscripted i false l u=operate [l,u] (getItem l u)
theorem zlf{prog:aI}{w:aU}{A:bw}{E:qV}{s:au}{env:Env}{value slice:aT}{pos:Pos}{T id:String}{Q:qV}
  (R:typeLookup (.type T) "__getitem__" = pure (some (.builtin id))) (U:NoSl slice)
  (h:wpAny (model prog w) A (eval value env) (fun o G=>wpAny (model prog w) A (eval slice env) (fun i v=>v.TypeIs o T/\wpAny (model prog w) A (getItem o i) Q E v) E G) E s) :
  wpAny (model prog w) A (eval (.Subscript value slice pos) env) Q E s:=by
 refine oA (cT h (fun o G L=>cT L (fun i v C=>?_) fun _ _ x=>x) fun _ _ x=>x)
 obtain⟨N,C⟩:=C;unfold subscriptTail;refine ae ?_;rw[getitemInPython_of_ne N.not_modules];refine ae (og N R ?_);have fin:wpAny (model prog w) A (subscripted slice false o i) (fun r I=>wpAny (model prog w) A (letTemporaryGo value o r >>= fun _=>pure r) Q E I) E v:=by
  rw[U o i];exact wpAny_operating (cT C (fun r I J=>ae (wpAny_letTemporaryGo (aj J))) fun _ _ x=>x)
 first
  | exact aj (ae fin)
  | exact ae (aj (ae fin))
  | exact ae fin
end L2
namespace L2
open PySem PySem.Spec PyProof PyProof.Rows
abbrev KD:=List (Key×af)
section
variable{D:JU}{ρ ρ':En}{n i j:Nat}{d dk dv:DTE}{R:qN}{ks:KD}
instance{ks:KD}:CapC (some (.dct ks)) (some (.rdo ks)):=⟨rfl⟩
instance{ks:KD}:CapC (some (.rdo ks)) (some (.rdo ks)):=⟨rfl⟩
end
theorem zjK{bits x:Int}(l:0<=bits)(h:0<=x/\x<2 ^ bits.toNat):IsBk bits x 0:=⟨bf _,l,x,h.1,by simp,by simpa using h.2⟩
theorem VB{bits:Int}(l:0<=bits){bs:qB}(B:Bks bits bs){x:Int}(h:mB x bs):0<=x/\x<2 ^ bits.toNat:=by
 obtain⟨b,y,C,v⟩:=h;have:=(B b y).bounds l;unfold eB at v;lia
theorem zqm{bits:Int}(v:0<=bits)(y:bits<=64){S:Int->Prop}{rs:qB}(u:NR rs)(e:∀x,mR x rs↔S x)(w:∀x,S x->0<=x/\x<2 ^ bits.toNat):∀r∈rs,0<=r.1/\r.1<=r.2/\r.2<=2 ^ 64:=fun r l=>by
 have lt:=u.1 r l;have a:=w r.1 ((e _).mp ⟨r,l,bf _,lt⟩);have b:=w (r.2 - 1) ((e _).mp ⟨r,l,by lia,by lia⟩)
 have:=Bd.Ww (k:=bits.toNat) (by lia)
 lia
section
variable{X:Cx}
theorem zc4{α v:Type}{F:α->v->Prop}{l:List α}{u:List v}(r:eh F l u){b:v}(h:b∈u):∃a∈l,F a b:=by
 induction r with
 | nil=>cases h
 | cons f t x =>
  rcases aw.mp h with rfl|h
  ·exact⟨_,cS,f⟩
  ·obtain⟨b,y,g⟩:=x h;exact⟨b,cF _ y,g⟩
end
end L2
namespace Bd
open PySem L2
theorem zrJ{s:Str}(h:bc (.str s)=true)(hc:∀c∈s.cps.toList,c<16 ^ 8):Sm s.cps.size 0 (.str s) :=
 ⟨by
  simp only[fj,bp,decide_eq_true_eq];exact hc,rfl,h,ay _,ay _⟩
theorem zvs{s:Str}(h:IsNm s):Sm 8 0 (.str s):=(zrJ (ZE h).1 fun c hc=>by have:=(h.2.2 c hc).2;lia).mono h.2.1 (ay _)
theorem zoQ{ts:qD}{lo hi:Option Int}{t:af}(h:t∈cutD ts lo hi):t∈ts:=by
 unfold cutD at h;exact lA (dD h)
theorem zoR{ts:qD}{lo hi:Option Int}:(cutD ts lo hi).length<=ts.length:=by
 unfold cutD;rw[cU,dU];lia
end Bd
namespace Bd
open PySem L2
def Dq(K:qF)(mg:qM)(x:Str)(st:dg)(ps:List Str):Prop:=∃f fd,Def K mg x st ps f fd
def Fq(P:aI)(w:aU)(K:qF)(mg:qM)(base:aS)(x:Str)(st:dg)(ps:List Str)(k:Nat)(l:Sp):Prop:=∃f fd,Def K mg x st ps f fd/\FnOk P w K mg base CX0 k f fd ps l
end Bd
namespace L2
open PySem PySem.Spec PyProof.Rows
section
variable{X:Cx}{x:Str}{st:dg}{ps:List Str}{k n m:Nat}{g:GD}{e:aT}{es:List aT}{ds:DTA}{p pos:Pos}
theorem Je(F:Bd.Fq X.prog X.w X.K X.mg X.base x st ps k (spD X.K m g))(y:Room n X.A)(h:DB X (e::es) ds)(I:k<=n:=by decide)(v:(e::es).length=m:=by rfl)(J:Gl X x:=by rfl)
  (u:(x == ("__debug__":Str))=false:=by rfl):DE X (.Call (.Name x p) (e::es) [] pos) (dFn g ds):=by
 obtain⟨f,fd,D,G⟩:=F;exact zwX D G (y.mono I) h v J u
theorem zup(F:Bd.Fq X.prog X.w X.K X.mg X.base x st ps k (spD X.K m g))(y:Room n X.A)(h:DBL X (e::es) ds)(I:k<=n:=by decide)(v:(e::es).length=m:=by rfl)(J:Gl X x:=by rfl)
  (u:(x == ("__debug__":Str))=false:=by rfl):DE X (.Call (.Name x p) (e::es) [] pos) (dFnL g ds):=by
 obtain⟨f,fd,D,G⟩:=F;exact zuq D G (y.mono I) h v J u
end
section
variable{X:Cx}{hx s kx x:Str}{st:dg}{ps:List Str}{k n:Nat}{p p1 p2 p3 pos pos':Pos}{sts:List dg}{u:DTS}
theorem zmN{i j:Nat}(F:Bd.Fq X.prog X.w X.K X.mg X.base hx st ps k (VE X.K))(hr:Room n X.A)(Z:X.N.Nodup)(hi:X.N[i]?=some x)(J:Loc X.env.scope x)(hu:DSs X sts u)(hk:k<=n:=by decide)(I:i≠0:=by decide)(U:j≠0:=by decide)(L:j≠i:=by decide)
  (h0:X.N[0]?=some s:=by rfl) (hj:X.N[j]?=some kx:=by rfl) (S:Vis X.env.scope s:=by walk_at "V") (y:Vis X.env.scope kx:=by walk_at "V")
  (Y:(s == ("__debug__":Str))=false:=by rfl) (Iy:(s == ("__classdict__":Str))=false:=by rfl) (v:(kx == ("__debug__":Str))=false:=by rfl) (Iz:(kx == ("__classdict__":Str))=false:=by rfl) (hg:Gl X hx:=by rfl) (R:(hx == ("__debug__":Str))=false:=by rfl)
  (hs:swapsWith (.Call (.Name hx p) [.Name s p1,.Name kx p2] [] p3) (some (.Name x pos')) pos.line X.env=pure false:=by rfl) (hf:X.fn x=true\/X.env.scope.names.lookup x=some .local:=by walk_at "F") :
  DSs X (.Assign [.Name x pos'] (.Call (.Name hx p) [.Name s p1,.Name kx p2] [] p3) pos::sts) (Yl i j u):=by
 obtain⟨f,fd,D,G⟩:=F;exact zoJ D G (hr.mono hk) Z hi J hu I U L h0 hj S y Y Iy v Iz hg R hs hf
end
end L2
namespace Bd
open PySem L2
section
variable{K:qF}{h:aS}{mg:qM}{x:Str}{st:dg}{ps:List Str}
abbrev BndA(x:Str)(st:dg)(ps:List Str):Prop:=∀(kV doc pm:ah) (an:Option ak) (cdv ct:ah) (us:List ah),us.length=ps.length->bindArgs (c8 x x (QL st) (Qj st) (JH st) .none kV doc pm an cdv ct) ⟨us,[]⟩=pure (ps.zip us)
theorem lenS{l:List ah}{n:Nat}(h:l.length=n+1):∃a t,l=a::t/\t.length=n:=by
 cases l with
 | nil=>cases h
 | cons a t=>exact⟨a,t,rfl,tf h⟩
theorem len1{l:List ah}(h:l.length=1):∃a,l=[a]:=by
 obtain⟨a,t,rfl,e⟩:=lenS h;exact⟨a,by rw[List.eq_nil_of_length_eq_zero e]⟩
theorem len2{l:List ah}(h:l.length=2):∃a b,l=[a,b]:=by
 obtain⟨a,t,rfl,e⟩:=lenS h;obtain⟨b,rfl⟩:=len1 e;exact⟨a,b,rfl⟩
theorem len3{l:List ah}(h:l.length=3):∃a b c,l=[a,b,c]:=by
 obtain⟨a,t,rfl,e⟩:=lenS h;obtain⟨b,c,rfl⟩:=len2 e;exact⟨a,b,c,rfl⟩
theorem len4{l:List ah}(h:l.length=4):∃a b c d,l=[a,b,c,d]:=by
 obtain⟨a,t,rfl,e⟩:=lenS h;obtain⟨b,c,d,rfl⟩:=len3 e;exact⟨a,b,c,d,rfl⟩
end
end Bd
namespace L2
open PySem PySem.Spec PyProof PyProof.Rows
section
variable{prog:aI}{w:aU}{A:bw}{E:qV}{s:au}
theorem zi2{l:ak}{items:Array ah}{Q:List ah->au->Prop}(I:l5 s.heap l items)(Z:A.handled=none)(R:2<=items.size)(N:items.size<=sizeLine)
  (h:∀(h':aS) (tk:Nat),(∀b o,s.heap.get? b=some o->h'.get? b=some o)->Q (items.toList.take 2++[.ref h'.objs.size]) { s with heap:=h'.push { cls:=.type "list",data:=.seq (items.toList.drop 2).toArray },toks:=tk }) :
  wpAny (model prog w) A (unpackItems (.ref l) 3 (some 2)) Q E s:=by
 have G:l≠s.heap.objs.size:=by obtain⟨o,ho,_⟩:=I;exact aF (aA ho)
 unfold unpackItems;refine ae ?_;unfold notIterableAtAll;refine ae (og I.typeIs slot_tuple_iter.lookup (aj ?_));simp only[aH,if_false];refine ae (bU (iter_tuple I ?_));refine ae (bU (draw_tuple G 2 0 _ _ ⟨_,aD _ rfl,rfl,rfl⟩ (I.push _) (by lia) fun v hit L=>?_))
 have C:l5 v l items:=(I.push _).extBut L.extBut G;have a1:∃o,v.get? s.heap.objs.size=some o:=by obtain⟨o,q,_⟩:=hit;exact⟨o,q⟩
 have a2:∃o,v.get? l=some o:=by obtain⟨o,q,_⟩:=C;exact⟨o,q⟩
 obtain⟨o1,a1⟩:=a1;obtain⟨o2,a2⟩:=a2;rw[ly];have fl:(items.toList.take 2).length=2:=by rw[cU,dN];lia
 rw[if_neg (show ¬((items.toList.take 2).length<2) by lia)]
 refine ae (bU (PySem.W.kun_collect (s:={ s with heap:=v }) (T:="tuple_iterator") (.inr (.inr (.inr rfl))) (Walks.tuple (A:=A.in1) Z s.heap.objs.size l G items) (fun j u st=>st.1.typeIs) (k:=2) R ⟨hit,C⟩ (aA a1) (aA a2) (fun J tk Y=>?_) N))
 rw[if_neg (by lia)]
 show wpAny _ _ (newList ((items.toList.drop 2).take ((items.toList.drop 2).length - (3 - 1 - 2))) >>= fun d=>pure (items.toList.take 2++[d]++(items.toList.drop 2).drop ((items.toList.drop 2).length - (3 - 1 - 2)))) _ _ _
 have S:(items.toList.drop 2).take ((items.toList.drop 2).length - (3 - 1 - 2))=items.toList.drop 2:=gN (by lia)
 have U:(items.toList.drop 2).drop ((items.toList.drop 2).length - (3 - 1 - 2))=[]:=List.drop_of_length_le (by lia)
 rw[S,U];refine ae (hG (aj ?_) (by rw[dU,dN];lia))
 rw[bK];exact h J tk fun b o q=>Y b o (aF (aA q)) (L.extBut b o (aF (aA q)) (aq _ q))
end
theorem zp2{xs:List V}{u:List ah}(r:Vals xs u):Vals (xs.drop 2) (u.drop 2):=by
 cases r with
 | nil=>exact .nil
 | cons _ r=>cases r with
  | nil=>exact .nil
  | cons _ r=>exact r
theorem zp1{xs:List V}{x:List ah}{v:V}{u:ah}(r:Vals xs x)(q:RelV v u):Vals (xs.take 2++[v]) (x.take 2++[u]):=by
 cases r with
 | nil=>exact .cons q .nil
 | cons a r=>cases r with
  | nil=>exact .cons a (.cons q .nil)
  | cons b r=>exact .cons a (.cons b (.cons q .nil))
section
variable{X:Cx}{a b c e:aT}{pos p3:Pos}{t:TGs}{te:TE}
def zwV(K:qF)(t:TGs):TG:=fun v σ H Q=>∃a xs,v=.ref a/\SqT K H a xs/\2<=xs.length/\∀p,H p=none->t (xs.take 2++[.ref p]) σ (upd H p (.lst (xs.drop 2))) Q
theorem zpR{k:Nat}(hc:X.calm=true)(h:PGs X [a,b,c] t)(Z:(assignEach [a,b,.Starred c p3] X.env).length=3:=by rfl)(G:(assignEach [a,b,.Starred c p3] X.env).findIdx? (·.1)=some 2:=by rfl)
  (U:(assignEach [a,b,.Starred c p3] X.env).map (·.2)=(assignEach [a,b,c] X.env).map (·.2):=by rfl):PG X (.Tuple [a,b,.Starred c p3] k pos) (zwV X.K t):=by
 intro pins s σ H v u Q I r hw;obtain⟨q,xs,rfl,Y,hl,hw⟩:=hw;cases r;obtain⟨C,J,N,hz⟩:=I.tuple Y;have le:=J.length;rw[assign_Tuple];refine ae (dA ?_);unfold unpack;rw[Z,G,U];refine ae (bU (zi2 N (I.ok.hd hc) (by rw[ax];lia) (by rw[ax];lia) fun h' tk kp=>?_))
 have L:Inv X pins σ H { s with heap:=h',toks:=tk }:=I.kept kp
 have R:Inv X pins σ (upd H h'.objs.size (.lst (xs.drop 2))) { s with heap:=h'.push { cls:=.type "list",data:=.seq (C.drop 2).toArray },toks:=tk }:=L.laid (t':=tk) (fun b o q=>aq _ q) (ay _) ⟨by rw[dU];lia,C.drop 2,0,zp2 J,aD _ rfl⟩
 exact h pins _ σ _ _ _ Q R (zp1 J (show RelV (.ref h'.objs.size) (.ref h'.objs.size) from rfl)) (hw _ (L.hok.fresh (ay _)))
end
section
variable{X:Cx}{e:aT}{x y z:Str}{pos px py pz p3 pt:Pos}{d:DTE}
def Vt(t:af)(Q:af->af->List af->Prop):Prop:=match t with
 | .tuple (x::y::r)=>Q x y r
 | _=>False
def zr0(i j k:Nat)(d:DTE):DTS:=fun D G n=>d G n fun t I=>Vt t fun x y r=>SetK i (some (.val x)) (fun u C=>SetK j (some (.val y)) (fun u C=>SetK k (some (.val (.list r))) D.nx u C) u C) G I
theorem zqZ{i j k kt:Nat}(hc:X.calm=true)(I:X.N.Nodup)(hi:X.N[i]?=some x)(hj:X.N[j]?=some y)(hk:X.N[k]?=some z)(hx:Loc X.env.scope x)(hy:Loc X.env.scope y)(hz:Loc X.env.scope z)(h:DE X e d)
  (fx:X.fn x=true\/X.env.scope.names.lookup x=some .local:=by walk_at "F") (fy:X.fn y=true\/X.env.scope.names.lookup y=some .local:=by walk_at "F") (fz:X.fn z=true\/X.env.scope.names.lookup z=some .local:=by walk_at "F")
  (hs:swapsWithSole [.Tuple [.Name x px,.Name y py,.Starred (.Name z pz) p3] kt pt] e pos.line X.env=pure false:=by rfl) (hw:swappedStores [.Tuple [.Name x px,.Name y py,.Starred (.Name z pz) p3] kt pt] e X.env=pure none:=by rfl) :
  DS X (.Assign [.Tuple [.Name x px,.Name y py,.Starred (.Name z pz) p3] kt pt] e pos) (zr0 i j k d):=by
 obtain⟨ta,pa,h⟩:=h;refine⟨_,ZN pa (zpR hc (Wb (VV I hi hx fx) (Wb (VV I hj hy fy) (Wb (VV I hk hz fz) zlJ)))) hs hw,fun C Y σ H n D D' S hd g=>?_⟩
 refine h C Y σ H n _ _ S hd fun t n' v U r Z hn q=>?_
 unfold Vt at r;split at r
 ·rename_i u w us;obtain⟨p,vs,rfl,h1,J⟩:=q.tupI;cases J with
  | cons ru J =>
   cases J with
   | @cons v2 d2 vr ds2 rw rs =>
    refine⟨p,_,rfl,h1,by simp,fun q L=>?_⟩
    have G:ExtE C.hd U (upd U q (.lst vr)):=ExtE.new L;have R:=S.on Z hn;have S2:=R.on G (hn.same (JP L));have r3:Rep X.K C.hd (Own C Y σ) _ (.ref q) (.list us):=.lst JN (R.free L) (G.reps S.hx rs);have T1:=S2.put (i:=i) (G.rep S.hx ru);have T2:=T1.put (i:=j) (Keep.rep Ud S.hx (G.rep S.hx rw));have T3:=T2.put (i:=k) (Keep.rep (Ud.trans Ud) S.hx r3);exact⟨_,_,rfl,_,_,rfl,_,_,rfl,rfl,g.nx _ _ _ n' r T3 ((Z.keep.trans G.keep).trans ((Ud.trans Ud).trans Ud))⟩
 ·exact r.elim
end
def StD(P:aI)(w:aU)(K:qF)(mg:qM)(x:Str)(y:List (Str×List Str)):Prop :=
 ∃(a:ak) (o:Obj) (l:Array dw) (C:Nat) (v:List (Str×ah)),mg x=some (.ref a)/\(a == sysModules)=false/\K.lookup a=some o/\o.ExactDict/\o.data=.dict l C/\KeysOf (strKind P w) l/\Pairs (strKind P w) l.toList v/\(v.map (·.1)).Nodup /\
  eh (fun(p:Str×List Str) (q:Str×ah)=>p.1=q.1/\∃b,q.2=.ref b/\StT K b (p.2.map V.str)) y v
def getT(l:List (Str×List Str))(z:Str):Option (List Str):=(l.find? fun u=>decide (u.1=z)).map (·.2)
theorem zoE{K:qF}{l:List (Str×List Str)}{v:List (Str×ah)}(r:eh (fun(p:Str×List Str) (q:Str×ah)=>p.1=q.1/\∃b,q.2=.ref b/\StT K b (p.2.map V.str)) l v)(z:Str) :
  (valueAt v z).isSome=(getT l z).isSome/\∀u,getT l z=some u->∃b,valueAt v z=some (.ref b)/\StT K b (u.map V.str):=by
 induction r with
 | nil=>exact⟨rfl,fun u h=>by cases h⟩
 | @cons p q ps qs h t ih =>
  obtain⟨x,b,y,I⟩:=h
  by_cases e:q.1=z
  ·have a1:valueAt (q::qs) z=some q.2:=by simp[valueAt,fB,e]
   have a2:getT (p::ps) z=some p.2:=by simp[getT,fB,x.trans e]
   rw[a1,a2];exact⟨rfl,fun u G=>by cases G;exact⟨b,by rw[y],I⟩⟩
  ·have a1:valueAt (q::qs) z=valueAt qs z:=by simp[valueAt,fB,e]
   have a2:getT (p::ps) z=getT ps z:=by simp[getT,fB,show ¬p.1=z from fun C=>e (x.symm.trans C)]
   rw[a1,a2];exact ih
section
variable{X:Cx}{e:aT}{x:Str}{pos p1:Pos}{d:DTE}{te:TE}{kvs:List (Str×List Str)}
theorem StD.at(h:StD X.prog X.w X.K X.mg x kvs):∃(a:ak) (l:List (Str×ah)),X.mg x=some (.ref a)/\(a == sysModules)=false/\(∀{pins σ H s},Inv X pins σ H s->s.heap.DictOf (strKind X.prog X.w) a l) /\
  ∀z,(valueAt l z).isSome=(getT kvs z).isSome/\∀u,getT kvs z=some u->∃b,valueAt l z=some (.ref b)/\StT X.K b (u.map V.str):=by
 obtain⟨a,o,v,N,l,U,J,Y,Z,C,y,R,G,L⟩:=h;exact⟨a,l,U,J,fun I=>⟨o,v,N,I.kIn a o Y,Z,C,y,R,G⟩,zoE L⟩
def zvl(kvs:List (Str×List Str))(te:TE):TE:=fun σ H Q=>te σ H fun y u=>∃z,y=.str z/\Q (.bl (!(getT kvs z).isSome)) u
theorem zp3(h:StD X.prog X.w X.K X.mg x kvs)(R:Gl X x)(Y:PE X e te)(hd:(x == ("__debug__":Str))=false:=by rfl):PC X .NotIn e (.Name x p1) (zvl kvs te):=by
 obtain⟨a,vs,J,C,S,U⟩:=h.at;intro pins s σ H Q I hw;refine thn (Y pins s σ H _ I hw) fun L s1 ⟨y,G,u,Z,z,v,q⟩=>Yd u R J ?_ hd
 subst v;obtain⟨t,rfl⟩:∃t,L=ip z t:=Z;refine wpAny_notIn_of (knd:=strKind X.prog X.w) (k:=z) (by show cY z (.str z t)=true;simp[cY]) C (S u).mapOf ?_
 rw[(U z).1];exact⟨.bl _,G,u.tok _,rfl,q⟩
def zvm(kvs:List (Str×List Str))(K:qF)(te:TE):TE:=fun σ H Q=>te σ H fun y u=>∃z l,y=.str z/\getT kvs z=some l/\∀b,StT K b (l.map V.str)->Q (.ref b) u
theorem zpT(h:StD X.prog X.w X.K X.mg x kvs)(Y:Gl X x)(he:PE X e te)(L:NoSl e)(hd:(x == ("__debug__":Str))=false:=by rfl):PE X (.Subscript (.Name x p1) e pos) (zvm kvs X.K te):=by
 obtain⟨a,vs,R,h2,v,Z⟩:=h.at;intro pins s σ H Q I hw;refine zlf iM.lookup L (Yd I Y R (thn (he pins s σ H _ I hw) fun U s1 ⟨y,J,l,ry,z,G,C,g,q⟩=>?_) hd)
 subst C;obtain⟨t,rfl⟩:∃t,U=ip z t:=ry;obtain⟨b,g1,g2⟩:=(Z z).2 G g;refine⟨(v l).typeIs,nv (knd:=strKind X.prog X.w) (k:=z) (by show cY z (.str z t)=true;simp[cY]) (v l).mapOf g1 ⟨.ref b,J,l.tok _,rfl,q b g2⟩⟩
def zut(kvs:List (Str×List Str))(d:DTE):DTE:=fun v n R=>d v n fun y u=>lStr y fun z=>R (.bool (!(getT kvs z).isSome)) u
theorem zqY(h:StD X.prog X.w X.K X.mg x kvs)(u:DE X e d)(hg:Gl X x:=by rfl)(hd:(x == ("__debug__":Str))=false:=by rfl) (Y:behindInMarks .NotIn (.Name x p1)=false:=by rfl):DT X (.Compare e [.NotIn] [.Name x p1] pos) (Uj (zut kvs d)):=by
 obtain⟨ta,pa,u⟩:=u;refine⟨_,zsd (zp3 h hg pa hd) Y,fun C J σ H n Q R S hd Z=>?_⟩
 refine u C J σ H n _ _ S hd fun y L v G r U l q=>?_
 cases y with
 | str z=>exact⟨z,q.strI,_,rfl,Z _ L G r U l⟩
 | _=>exact r.elim
def dGGet(kvs:List (Str×List Str))(d:DTE):DTE:=fun G n R=>d G n fun y C=>lStr y fun z=>∃v,getT kvs z=some v/\R (.tuple (v.map eF)) C
theorem zjr{K:qF}{hd:Option ak}{O:ak->Prop}{H:Hp}:∀u:List Str,Reps K hd O H (u.map V.str) (u.map eF)
 | []=>.nil
 | k::u=>.cons (.str k) (zjr u)
theorem zq7(h:StD X.prog X.w X.K X.mg x kvs)(G:DE X e d)(hg:Gl X x:=by rfl)(hd:(x == ("__debug__":Str))=false:=by rfl) (U:NoSl e:=by intro _ _;rfl):DE X (.Subscript (.Name x p1) e pos) (dGGet kvs d):=by
 obtain⟨ta,pa,G⟩:=G;refine⟨_,zpT h hg pa U hd,fun C L σ H n Q R S hd hq=>?_⟩
 refine G C L σ H n _ _ S hd fun y Y v J r Z l q=>?_
 cases y with
 | str z =>
  obtain⟨I,g,r⟩:=r;exact⟨z,I,q.strI,g,fun b hb=>hq _ Y _ J r Z l (.tupS hb (zjr I))⟩
 | _=>exact r.elim
end
section
variable{i j k:Nat}{ρ:En}{n:Nat}{D:JU}{d:DTE}{x y:af}{r:qD}{R:qN}{kvs:List (Str×List Str)}
instance zw0:Stp (zr0 i j k d D ρ n) (d ρ n fun t n'=>Vt t fun x y r=>SetK i (some (.val x)) (fun ρ1 n1=>SetK j (some (.val y)) (fun ρ1 n1=>SetK k (some (.val (.list r))) D.nx ρ1 n1) ρ1 n1) ρ n'):=⟨fun h=>h⟩
instance zvu {Q:af->af->List af->Prop}:Stp (Vt (.tuple (x::y::r)) Q) (Q x y r):=⟨fun h=>h⟩
instance zxd:Stp (zut kvs d ρ n R) (d ρ n fun y n1=>lStr y fun z=>R (.bool (!(getT kvs z).isSome)) n1):=⟨fun h=>h⟩
instance zxe:Stp (dGGet kvs d ρ n R) (d ρ n fun y n1=>lStr y fun z=>∃ks,getT kvs z=some ks/\R (.tuple (ks.map eF)) n1):=⟨fun h=>h⟩
end
def PtE(w:aU)(K:qF)(e:dw)(p:Str×List Str):Prop:=e.hash=hashStr w p.1/\(∃t,e.key=.str p.1 t)/\∃b,e.val=.ref b/\StT K b (p.2.map V.str)
theorem zsb{P:aI}{w:aU}{K:qF}{x:List dw}{u:List (Str×List Str)}(r:eh (PtE w K) x u):∃v,Pairs (strKind P w) x v/\v.map (·.1)=u.map (·.1)/\(∀e∈x,∃k,(strKind P w).is k e.key=true/\e.hash=(strKind P w).hash k) /\
  eh (fun(p:Str×List Str) (q:Str×ah)=>p.1=q.1/\∃b,q.2=.ref b/\StT K b (p.2.map V.str)) u v:=by
 induction r with
 | nil=>exact⟨[],.nil,rfl,(fun e h=>nomatch h),.nil⟩
 | @cons e p x ps h t ih =>
  obtain⟨v,a1,a2,J,L⟩:=ih;obtain⟨N,⟨t,I⟩,b,R,S⟩:=h;have C:(strKind P w).is p.1 e.key=true:=by rw[I];show cY p.1 (.str p.1 t)=true;simp[cY]
  refine⟨(p.1,e.val)::v,.cons C rfl a1,by simp[a2],fun G y=>?_,.cons ⟨rfl,b,R,S⟩ L⟩
  rcases aw.mp y with rfl|y
  ·exact⟨p.1,C,N⟩
  ·exact J G y
theorem zrI{P:aI}{w:aU}{K:qF}{mg:qM}{x:Str}{l:List (Str×List Str)}{a:ak}{v:Array dw}{C:Nat}(L:mg x=some (.ref a))(R:(a == sysModules)=false)(G:K.lookup a=some ⟨.type "dict",none,.dict v C,#[]⟩)
  (r:eh (PtE w K) v.toList l) (nd:(l.map (·.1)).Nodup):StD P w K mg x l:=by
 obtain⟨U,a1,a2,I,J⟩:=zsb (P:=P) r;exact⟨a,_,v,C,U,L,R,G,⟨rfl,rfl,rfl⟩,rfl,fun e S=>I e (by simpa using S),a1,by rw[a2];exact nd,J⟩
section
variable{prog:aI}{w:aU}{A:bw}{E:qV}{s:au}
theorem PrIn.tk{h:aS}{p:ak}{b k:Int}(x:PrIn h (.ref p) b k):IsTupleKey (Vd prog w) h [.inl b,.inl k] p:=by
 obtain⟨a,o,t,t',n,C,u,v,y⟩:=x;cases C;exact⟨o,_,n,u,v,y,.cons (zhD b t) (.cons (zhD k t') .nil)⟩
theorem zqX{p q:ak}{b k l u:Int}(v:A.units<cLine)(x:PrIn s.heap (.ref p) b k)(y:PrIn s.heap (.ref q) l u):lU A s (.ref p) (.ref q) (decide (b=l/\k=u)):=fun prog w E Q h=>by
 refine wpAny_eqBool_tuple (knd:=Vd prog w) v x.tk y.tk ?_;have:decide (([g7 b,g7 k]:List Key)=[g7 l,g7 u])=decide (b=l/\k=u):=by
  rw[decide_eq_decide];constructor
  ·intro z;cases z;exact⟨rfl,rfl⟩
  ·rintro⟨rfl,rfl⟩;rfl
 rw[this];exact h
theorem zqs{p q:ak}{b k v C:Int}(Y:A.units<cLine)(x:PrIn s.heap (.ref p) b k)(y:PrIn s.heap (.ref q) v C):LtAt prog w A s false (.ref p) (.ref q) (HT.lexLt [b,k] [v,C]):=fun E Q h=>by
 obtain⟨a,o,t,t',n,U,R,S,I⟩:=x;obtain⟨a',J,u,Z,G,f0,f1,f2,N⟩:=y;cases U;cases f0;rw[rZ];simp only[aH,if_false];refine ae (show wpAny (model prog w) A (compareOp .Lt (.ref p) (.ref q)) _ E s from HT.zfE ⟨o,R,S,n,I⟩ ⟨J,f1,f2,G,N⟩ (.cons _ _ (.cons _ _ .nil)) (.cons _ _ (.cons _ _ .nil)) Y ?_)
 exact bz h
theorem zqt{a b c d:Int}:HT.lexLt [a,b] [c,d]=decide (a<c\/(a=c/\b<d)):=by
 have e:HT.lexLt [a,b] [c,d]=if a=c then(if b=d then false else decide (b<d)) else decide (a<c):=rfl
 rw[e];split
 ·rename_i h;subst h;split
  ·symm;rw[decide_eq_false_iff_not];lia
  ·rw[decide_eq_decide];lia
 ·rw[decide_eq_decide];lia
end
theorem znU{α:Type}{P:α->ah->Prop}{rk:ah->Int}{f:α->Int}{u:List ah}{J:List α}{y:kZ}(hv:eh P J u)(hr:∀a v,P a v->rk v=f a)(pm:(arrOf y).Perm (pairsOf u))(up:Up rk (arrOf y) u.length) :
  ∃bs:List α,bs.Perm J/\bs.Pairwise (fun a b=>f a<=f b)/\eh P bs ((arrOf y).map (·.2)).toList:=by
 have C:(arrOf y).toList.Perm (u.zip u):=by
  have:=fK.mp pm;simpa[pairsOf] using this
 have hl:J.length=u.length:=lN hv;have each:∀x∈J.zip u,P x.1 x.2:=by
  clear pm up C hl;induction hv with
  | nil=>intro x hx;simp at hx
  | cons h t Z =>
   intro x hx;rcases aw.mp (by simpa using hx) with rfl|hx
   ·exact h
   ·exact Z x hx
 have N:((arrOf y).toList.map (·.2)).Perm ((J.zip u).map (·.2)):=by
  refine(C.map _).trans ?_;rw[dY (ay _),dY (by lia)]
 obtain⟨G,S,p2⟩:=Wa N;have R:∀x∈G,P x.1 x.2:=fun x hx=>each x (S.mem_iff.mp hx)
 have HU:∀z∈(arrOf y).toList,z.1=z.2:=fun z hz=>by
  have:z∈u.zip u:=C.mem_iff.mp hz;obtain⟨i,hi,rfl⟩:=aW this;simp
 have Y:(arrOf y).size=u.length:=by
  have:=C.length_eq;simpa using this
 refine⟨G.map (·.1),?_,?_,?_⟩
 ·have:=S.map (·.1)
  rwa [gY (by lia)]at this
 ·rw[dH,aR];intro i j hi hj U;have lw:G.length=u.length:=by
   have:=congrArg dP p2;simpa[Y] using this
  have gw:∀k (hk:k<G.length),rkAt rk (arrOf y) k=f G[k].1:=fun k hk=>by
   have I:k<(arrOf y).size:=by lia
   have e1:(arrOf y).toList[k]'(by simpa using I)=(arrOf y)[k]:=by simp
   have e2:G[k].2=(arrOf y)[k].2:=by
    have:(G.map (·.2))[k]'(by simpa using hk)=((arrOf y).toList.map (·.2))[k]'(by simpa using I):=by simp only[p2]
    simpa using this
   have e3:(arrOf y)[k].1=(arrOf y)[k].2:=HU _ (by rw[<- e1];exact dz _)
   unfold rkAt;rw[fV I];simp only[gp,dX];rw[e3,<- e2];exact hr _ _ (R _ (dz _))
  have:=up i j U (by lia)
  rwa [gw i hi,gw j hj]at this
 ·rw[m9,<- p2];clear S p2 N pm up;induction G with
  | nil=>exact .nil
  | cons a l Z=>exact .cons (R a (.head _)) (Z fun x hx=>R x (.tail _ hx))
section
variable{prog:aI}{w:aU}{A:bw}{E:qV}{s:au}{rk:ah->Int}
theorem ziQ{h:aS}{v:List ah}{b:ak}{o:Obj}(u:h.get? b=some o):(midH (h.push (seqObj "list" v.toArray 0)) h.objs.size v).get? b=some o:=by
 have l:b<h.objs.size:=aA u;unfold midH;rw[ck _ _ _ (by rw[dM,cA,dM];lia),ck _ _ _ (by rw[cA,dM];lia),fY _ _ _ _ (aF l),ck _ _ _ (aF l)]
 exact u
theorem zli{l:List ah}{P:qV}(u:l.length<64)(J:Kinds prog w A { s with heap:=midH (s.heap.push (seqObj "list" l.toArray 0)) s.heap.objs.size l } rk l)
  (h:∀h' (y:kZ) (e:Nat),(∀b o,s.heap.get? b=some o->h'.get? b=some o)->(arrOf y).Perm (pairsOf l)->Up rk (arrOf y) l.length->h'.get? s.heap.objs.size=some (seqObj "list" ((arrOf y).map (·.2)) e)->P .none { s with heap:=h' }) :
  wpAny (model prog w) A (fM.«list.sort» ⟨[.ref s.heap.objs.size],[]⟩) (fun f s'=>∃v,f=.done (.ret v)/\P v s') E { s with heap:=s.heap.push (seqObj "list" l.toArray 0) }:=by
 have x:(s.heap.push (seqObj "list" l.toArray 0)).get? s.heap.objs.size=some (seqObj "list" l.toArray 0):=aD _ rfl;refine zjD (s:={ s with heap:=s.heap.push (seqObj "list" l.toArray 0) }) x u J fun y I p2=>⟨_,rfl,?_⟩
 obtain⟨e,G⟩:=sortedHeap_at (out:=(arrOf y).map (·.2)) x;refine h _ y e (fun b o C=>?_) I p2 G
 have lt:=aA C;rw[sortedHeap_old (aF lt) (by rw[dM];exact mP lt),ck _ _ _ (aF lt)]
 exact C
end
section
variable{prog:aI}{w:aU}{A:bw}{E:qV}{s:au}{rk:aS->ah->Int}
theorem zkl{x:ah}{C:aS->Nat->List ah->Prop}{Q:qV}(J:∀(G:bw) (S:qV) (R:List ah->au->Prop),G.handled=A.handled->(∀h' tk v,C h' tk v->R v { s with heap:=h',toks:=tk })->wpAny (model prog w) G (collect x) R S s)
  (N:∀h' tk v,C h' tk v->v.length<64)
  (Y:∀h' tk v (G:bw),C h' tk v->G.units<=A.units+16->Kinds prog w G { s with heap:=midH (h'.push (seqObj "list" v.toArray 0)) h'.objs.size v,toks:=tk } (rk h') v)
  (h:∀h' tk v I (y:kZ) (e:Nat),C h' tk v->(∀b o,h'.get? b=some o->I.get? b=some o)->(arrOf y).Perm (pairsOf v)->Up (rk h') (arrOf y) v.length->I.get? h'.objs.size=some (seqObj "list" ((arrOf y).map (·.2)) e)->Q (.ref h'.objs.size) { s with heap:=I,toks:=tk }) :
  wpAny (model prog w) A (call (.builtin "sorted") [x]) Q E s:=by
 have hs:64<=sizeLine:=by decide
 refine iK kind_sorted plain_sorted entry_sorted (args_sorted1 _) ?_;unfold fM.«sorted»;refine ae (m:=checkCount "sorted" 1 1 _) (aj (ae (J _ _ _ rfl fun h' tk v c=>?_)))
 have L:=N h' tk v c;refine ae (hG (hsz:=by show v.toArray.size<=_;rw[ax];lia) ?_)
 have o3:(h'.push (seqObj "list" v.toArray 0)).get? h'.objs.size=some (seqObj "list" v.toArray 0):=aD _ rfl;refine ae (bU (dW oN ⟨_,o3,rfl⟩ nW ?_ (oO _)));refine zli (s:={ s with heap:=h',toks:=tk }) L (Y h' tk v _ c (by show A.units+1+1<=_;lia)) fun I y e kp U p2 Z=>?_
 exact aj ⟨_,rfl,h h' tk v I y e c kp U p2 Z⟩
end
section
variable{X:Cx}
theorem zvr{pins:qO}{σ:St}{H:Hp}{s:au}{q:ak}{b k:Int}(I:Inv X pins σ H s)(h:SqT X.K H q [.int b,.int k]):PrIn s.heap (.ref q) b k:=by
 obtain⟨is,rs,⟨o,f1,f2,n,u⟩,_⟩:=I.tuple h;cases rs with
 | cons a1 a2 =>
  cases a2 with
  | cons l v =>
   cases v;obtain⟨t,rfl⟩:=a1;obtain⟨t',rfl⟩:=l;exact⟨q,o,t,t',n,rfl,f1,f2,u⟩
end
section
variable{K:qF}{hd:Option ak}{O:ak->Prop}{H:Hp}{zs:ZT}{ks:KT2}
theorem Rep.bkI{v:V}{a b:Int}(h:Rep K hd O H v (.tuple [.int a,.int b])):∃q,v=.ref q/\SqT K H q [.int a,.int b]:=by
 obtain⟨q,I,rfl,sq,C⟩:=h.tupI;cases C with
 | cons G y =>
  cases y with
  | cons x x4 =>
   cases x4;rw[G.intI,x.intI]at sq;exact⟨q,rfl,sq⟩
end
end L2
namespace L2
open PySem
abbrev RL:=List ((Int×Int)×Int)
end L2
namespace Bd
open PySem PySem.W PySem.Calls L2 PyProof.Rows
structure ZZ where
 P:aI
 w:aU
 K:qF
 mg:Str->Option ah
 base:aS
def FQ(Z:ZZ)(x:Str)(st:dg)(ps:List Str)(k:Nat)(l:Sp):Prop:=Fq Z.P Z.w Z.K Z.mg Z.base x st ps k l
theorem okQ{Z:ZZ}{x:Str}{st:dg}{ps N:List Str}{k m:Nat}{g:GD}(D:Dq Z.K Z.mg x st ps)(S:Ur N ps (JH st))(v:m=ps.length)
  (C:∀(f:ak) (l:ah) (A:bw) (outer:List Env) (s:au) (H:Hp) (E:XK),Room k (A.deeper (envOfC x (JH st) s.heap.objs.size f l))->∃d,DSs (cxOf CX0 Z.P Z.w Z.K Z.mg Z.base N x (JH st) f l A outer s H E).nox (Qj st) d /\
   ∀ts n R,ts.length=m->g ts n R->d { nx:=fun _ u=>R .none u,rt:=R } (J1 N ts) n):FQ Z x st ps (k+1) (spD Z.K m g):=by
 obtain⟨f,fd,D⟩:=D;exact⟨f,fd,D,D.okD S v fun l A outer s H E y=>C f l A outer s H E y⟩
theorem bnd1{x:Str}{st:dg}{a:Str}(h:∀(kV doc pm:ah) (an:Option ak) (l ct u:ah),bindArgs (c8 x x (QL st) (Qj st) (JH st) .none kV doc pm an l ct) ⟨[u],[]⟩=pure [(a,u)]):BndA x st [a]:=fun _ _ _ _ _ _ y v=>by obtain⟨_,rfl⟩:=len1 v;exact h ..
theorem bnd2{x:Str}{st:dg}{a b:Str}(h:∀(kV doc pm:ah) (an:Option ak) (l ct u v:ah),bindArgs (c8 x x (QL st) (Qj st) (JH st) .none kV doc pm an l ct) ⟨[u,v],[]⟩=pure [(a,u),(b,v)]):BndA x st [a,b]:=fun _ _ _ _ _ _ C y=>by obtain⟨_,_,rfl⟩:=len2 y;exact h ..
theorem bnd3{x:Str}{st:dg}{a b c:Str}(h:∀(kV doc pm:ah) (an:Option ak) (l ct u v y:ah),bindArgs (c8 x x (QL st) (Qj st) (JH st) .none kV doc pm an l ct) ⟨[u,v,y],[]⟩=pure [(a,u),(b,v),(c,y)]):BndA x st [a,b,c]:=fun _ _ _ _ _ _ G C=>by obtain⟨_,_,_,rfl⟩:=len3 C;exact h ..
theorem bnd4{x:Str}{st:dg}{a b c d:Str}(h:∀(kV doc pm:ah) (an:Option ak) (l ct u v y z:ah),bindArgs (c8 x x (QL st) (Qj st) (JH st) .none kV doc pm an l ct) ⟨[u,v,y,z],[]⟩=pure [(a,u),(b,v),(c,y),(d,z)]):BndA x st [a,b,c,d]:=fun _ _ _ _ _ _ G C=>by obtain⟨_,_,_,_,rfl⟩:=len4 C;exact h ..
def JI(h:aS):qF:=(eO h.objs.size).filterMap fun a=>(h.get? a).map fun o=>(a,o)
theorem zmg{h:aS}:∀{x:List ak}{a:ak},a∈x->(x.filterMap fun a=>(h.get? a).map fun o=>(a,o)).lookup a=h.get? a\/h.get? a=none
 | [],_,m=>nomatch m
 | b::x,a,m=>by
  by_cases e:a=b
  ·subst e;cases g:h.get? a with
   | none=>exact .inr rfl
   | some o=>exact .inl (by rw[df];simp[g,cI])
  ·have y:a∈x:=(aw.mp m).resolve_left e;rcases zmg (h:=h) y with z|z
   ·refine .inl ?_;rw[df];cases g:h.get? b with
    | none=>exact z
    | some o =>
     have:(a == b)=false:=by simpa using e
     simp only[gp];rw[cI,this];exact z
   ·exact .inr z
theorem Yj{h:aS}{a:ak}{o:Obj}(e:h.get? a=some o):(JI h).lookup a=some o:=by
 have m:a∈eO h.objs.size:=gz.mpr (aA e);rcases zmg (h:=h) m with z|z
 ·exact z.trans e
 ·rw[e]at z;cases z
theorem zla{h:aS}:(JI h).In h:=fun a o e=>by
 have key:∀(v:List ak),(v.filterMap fun a=>(h.get? a).map fun o=>(a,o)).lookup a=some o->h.get? a=some o:=by
  intro v;induction v with
  | nil=>intro z;cases z
  | cons b v x =>
   intro z;rw[df]at z;cases g:h.get? b with
   | none=>rw[g]at z;exact x z
   | some y =>
    rw[g]at z;simp only[gp,cI]at z;cases q:a == b with
    | true=>rw[q]at z;cases z;rw[eq_of_beq q];exact g
    | false=>rw[q]at z;exact x z
 exact key _ e
def VR:dg->Bool
 | .FunctionDef ..=>true
 | _=>false
def defName:dg->Str
 | .FunctionDef n _ _ _ _ _ _ _ _ _=>n
 | _=>aa ""
def zuk:dg->Pos
 | .FunctionDef _ _ _ _ _ _ _ _ _ p=>p
 | _=>⟨0,0,0,0⟩
def recD(st:dg):DefRec:=⟨defName st,QL st,Qj st,JH st,zuk st⟩
theorem getD_mem{l:List dg}{i:Nat}(h:VR (l.getD i (.Pass ⟨0,0,0,0⟩))=true):l.getD i (.Pass ⟨0,0,0,0⟩)∈l:=by
 rw[bh]at h ⊢;cases e:l[i]? with
 | none=>rw[e]at h;cases h
 | some s=>exact aV e
section
variable{q:aI}{loose:List Str}{HP:mQ->Option ah}{mg mb:qM}{h:aS}{x:Str}{st:dg}{ps:List Str}
theorem zm8{cd:ah}{n:Str}(c:h.CodeRec cd n):gD (JI h) cd n=true:=by
 obtain⟨a,o,l,t,rfl,g,d,e⟩:=c;unfold gD;dsimp only;rw[Yj g];obtain⟨u,v,dd,y⟩:=o;cases(show dd=_ from d)
 have l2:l.toList[1]?=some (.str n t):=by simpa using e
 dsimp only
 match hv:l.toList,l2 with
 | [],l2=>simp at l2
 | [_],l2=>simp at l2
 | a::b::r,l2 =>
  have:b=.str n t:=by simpa using l2
  subst this;simp
theorem dq_g(T:Top q loose HP mg mb h)(hd:recD st∈recsOf q)(G:defName st=x)(L:BndA x st ps):Dq (JI h) mg x st ps:=by
 obtain⟨a,o,pm,cd,doc,y,I,C,v⟩:=T.fn _ hd;have y:mg (defName st)=some (.ref a):=y;have v:h.CodeRec cd (defName st):=v;rw[G]at y v;obtain⟨J,N,dd,R⟩:=o;have C:dd=.func (docDef (defName st) (QL st) (Qj st) (JH st) pm cd doc):=C;rw[G]at C;have l:(JI h).lookup a=some ⟨J,N,.func (c8 x x (QL st) (Qj st) (JH st) .none .none doc pm none cd .none),R⟩:=by
  rw[Yj I,C];rfl
 have kp:gC (JI h) (.ref a)=true:=by
  unfold gC;dsimp only;rw[l]
 exact⟨a,_,zpm l (zm8 v) kp,(zpm l (zm8 v) kp).binds L,y⟩
end
end Bd
namespace L2
open PySem PySem.Spec PyProof PyProof.Rows
abbrev BL:=List (Int×Int)
abbrev PR:=List ((Int×Int)×(Int×Int))
abbrev upH(b:Int×Int):Int×Int:=(bH b.1 (2 ^ (b.2 - 1).toNat),b.2 - 1)
abbrev loH(b:Int×Int):Int×Int:=(b.1,b.2 - 1)
abbrev NP:=(Int×Int)×Str
def PsIn(h:aS)(u:ah)(r:NP):Prop:=∃(a p:ak) (o:Obj) (t:Tok) (n:Nat),u=.ref a/\h.get? a=some o/\o.cls=.type "tuple" /\ o.data=.seq #[.ref p,.str r.2 t] n/\PrIn h (.ref p) r.1.1 r.1.2
theorem PsIn.kept{h h':aS}{u:ah}{r:NP}(p:PsIn h u r)(kp:∀b o,h.get? b=some o->h'.get? b=some o):PsIn h' u r:=by
 obtain⟨a,q,o,t,n,C,v,x,y,l⟩:=p;exact⟨a,q,o,t,n,C,kp _ _ v,x,y,l.kept kp⟩
theorem PsIn.uniq{h:aS}{u:ah}{r C:NP}(p:PsIn h u r)(R:PsIn h u C):r=C:=by
 obtain⟨a,q,o,t,n,rfl,J,_,L,⟨x,ox,t1,t2,m,x0,U,_,N⟩⟩:=p;obtain⟨a',q',o',t',Z,S,f1,_,f2,⟨y,oy,u1,u2,Y,G,v,_,l⟩⟩:=R;cases S;rw[J]at f1;cases f1;rw[L]at f2
 injection f2 with f2 _
 have f2:=congrArg kg f2;simp at f2;obtain⟨I,f4,_⟩:=f2;cases x0;cases G;subst I;rw[U]at v;cases v;rw[N]at l
 injection l with l _
 have l:=congrArg kg l;simp at l;exact iD (iD l.1.1 l.2.1) f4
def npLt(a b:NP):Bool:=if a.1=b.1 then decide (a.2.cps.toList<b.2.cps.toList) else decide (a.1.1<b.1.1\/(a.1.1=b.1.1/\a.1.2<b.1.2))
theorem V7{a b:NP}:npLt a b=true↔(a.1.1<b.1.1\/(a.1.1=b.1.1/\(a.1.2<b.1.2\/(a.1.2=b.1.2/\a.2.cps.toList<b.2.cps.toList)))):=by
 unfold npLt;obtain⟨⟨a1,a2⟩,y⟩:=a;obtain⟨⟨v,u⟩,x⟩:=b;dsimp only
 by_cases e:(a1,a2)=(v,u)
 ·rw[if_pos e];cases e;simp
 ·rw[if_neg e,decide_eq_true_eq];have:¬(a1=v/\a2=u):=fun z=>e (by rw[z.1,z.2])
  constructor
  ·rintro(h|h)
   ·exact .inl h
   ·exact .inr ⟨h.1,.inl h.2⟩
  ·rintro(h|⟨h,h'|h'⟩)
   ·exact .inl h
   ·exact .inr ⟨h,h'⟩
   ·exact absurd ⟨h,h'.1⟩ this
theorem zrc(x y:Str):x.cps.toList<y.cps.toList\/x=y\/y.cps.toList<x.cps.toList:=by
 by_cases h:x.cps.toList<y.cps.toList
 ·exact .inl h
 ·by_cases h':y.cps.toList<x.cps.toList
  ·exact .inr (.inr h')
  ·refine .inr (.inl (L2.Str.ext' ?_));exact List.le_antisymm (uQ.mp h') (uQ.mp h)
theorem zjB(a:NP):npLt a a=false:=by
 rw[mS,ne_eq,V7];rintro(h|⟨_,h|⟨_,h⟩⟩)
 ·omega
 ·omega
 ·exact oS _ h
theorem zjA(a b:NP):npLt a b=true\/a=b\/npLt b a=true:=by
 rw[V7,V7];obtain⟨⟨a1,a2⟩,y⟩:=a;obtain⟨⟨x,v⟩,u⟩:=b;dsimp only;rcases gJ a1 x with h|rfl|h
 ·exact .inl (.inl h)
 ·rcases gJ a2 v with h|rfl|h
  ·exact .inl (.inr ⟨rfl,.inl h⟩)
  ·rcases zrc y u with h|rfl|h
   ·exact .inl (.inr ⟨rfl,.inr ⟨rfl,h⟩⟩)
   ·exact .inr (.inl rfl)
   ·exact .inr (.inr (.inr ⟨rfl,.inr ⟨rfl,h⟩⟩))
  ·exact .inr (.inr (.inr ⟨rfl,.inl h⟩))
 ·exact .inr (.inr (.inl h))
theorem zky{a b c:NP}(h:npLt a b=true)(h':npLt b c=true):npLt a c=true:=by
 rw[V7]at h h' ⊢;rcases h with h|⟨e,h|⟨u,h⟩⟩ <;> rcases h' with h'|⟨f,h'|⟨f2,h'⟩⟩
 ·exact .inl (by omega)
 ·exact .inl (by omega)
 ·exact .inl (by omega)
 ·exact .inl (by omega)
 ·exact .inr ⟨by omega,.inl (by omega)⟩
 ·exact .inr ⟨by omega,.inl (by omega)⟩
 ·exact .inl (by omega)
 ·exact .inr ⟨by omega,.inl (by omega)⟩
 ·exact .inr ⟨by omega,.inr ⟨by omega,List.lt_trans h h'⟩⟩
def npRk(rs:List NP)(r:NP):Int:=((rs.filter fun q=>npLt q r).length:Int)
theorem zmM{α:Type}{p q:α->Bool}{l:List α}(h:∀x,p x=true->q x=true):(l.filter p).length<=(l.filter q).length:=by
 induction l with
 | nil=>exact ay _
 | cons a l u =>
  rw[gZ,gZ];cases e:p a
  ·cases q a
   ·exact u
   ·exact Nat.le_succ_of_le u
  ·rw[h a e];exact Nat.succ_le_succ u
theorem zmL{α:Type}{p q:α->Bool}{l:List α}(h:∀x,p x=true->q x=true){a:α}(u:a∈l)(C:p a=false)(v:q a=true):(l.filter p).length<(l.filter q).length:=by
 induction l with
 | nil=>cases u
 | cons b l y =>
  rw[gZ,gZ];rcases aw.mp u with rfl|u
  ·rw[C,v];exact Nat.lt_succ_of_le (zmM h)
  ·have:=y u;cases e:p b
   ·cases q b
    ·exact this
    ·exact mP this
   ·rw[h b e];exact Nat.succ_lt_succ this
theorem Vm{rs:List NP}{a b:NP}(u:a∈rs)(h:npLt a b=true):npRk rs a<npRk rs b:=by
 unfold npRk;have:=zmL (p:=fun q=>npLt q a) (q:=fun q=>npLt q b) (l:=rs) (fun x hx=>zky hx h) u (zjB a) h
 omega
theorem zqn{rs:List NP}{a b:NP}(l:a∈rs)(u:b∈rs):npLt a b=decide (npRk rs a<npRk rs b):=by
 rcases zjA a b with h|rfl|h
 ·rw[h,decide_eq_true (Vm l h)]
 ·rw[zjB];symm;rw[decide_eq_false_iff_not];exact Int.lt_irrefl _
 ·have:=Vm u h;rw[decide_eq_false (by omega)]
  cases e:npLt a b with
  | false=>rfl
  | true=>have:=Vm l e;omega
open Classical in
noncomputable def rkNP (rs:List NP) (h:aS) (u:ah):Int:=if z:∃r,PsIn h u r then npRk rs z.choose else 0
theorem PsIn.rk{rs:List NP}{h:aS}{u:ah}{r:NP}(p:PsIn h u r):rkNP rs h u=npRk rs r:=by
 unfold rkNP;have z:∃r,PsIn h u r:=⟨r,p⟩;rw[dif_pos z,z.choose_spec.uniq p]
section
variable{prog:aI}{w:aU}{A:bw}{E:qV}{s:au}
theorem zqx{G:List ah}{Q:iG->au->Prop}(h1:1<=G.length)(hp:∀v∈G,∃r,PsIn s.heap v r)(h:Q (tuples' false) s):wpAny (model prog w) A (keyKind' G.toArray) Q E s:=by
 rw[keyKind'_eq,gM,map_eq_pure_bind];refine ae (ae (Vg (P:=fun _ r=>∃(p:ak) (o:Obj),r=some (.ref p)/\s.heap.get? p=some o/\o.cls=.type "tuple") G (fun v I Q' J=>?_) fun rs S=>aj ?_))
 ·obtain⟨r,a,p,o,t,n,rfl,C,e2,e3,a',o',t1,t2,n',e4,e5,Z,e7⟩:=hp v I;cases e4;rw[zj2];refine ae (fN (T:="tuple") ⟨o,C,e2⟩ ?_);rw[if_neg (by decide)]
  exact ae (fO C e3 (aj (J _ ⟨p,o',rfl,e5,Z⟩)))
 ·have al:∀r∈rs,∃(p:ak) (o:Obj),r=some (.ref p)/\s.heap.get? p=some o/\o.cls=.type "tuple":=fun r N=>by
   obtain⟨_,_,h⟩:=zc4 S N;exact h
  have Ij:(rs.toArray.all fun x=>x.isSome)=true:=by
   rw[gX,bp];intro x hx;obtain⟨p,o,rfl,_⟩:=al x hx
   rfl
  rw[if_pos Ij];refine ae (eP ?_);rw[nX];have R:rs.toArray.filterMap id=(rs.filterMap id).toArray:=by simp
  rw[R,gM,map_eq_pure_bind];refine ae (ae (ae (Vg (P:=fun _ r=>r=bu "tuple") _ (fun v I Q' J=>?_) fun ts L=>aj ?_)))
  ·obtain⟨x,hx,e⟩:=fg.mp I;obtain⟨p,o,rfl,g,c⟩:=al x hx;cases e;exact fN (T:="tuple") ⟨o,g,c⟩ (J _ rfl)
  ·have u:∀r∈ts,r=bu "tuple":=fun r N=>by
    obtain⟨_,_,h⟩:=zc4 L N;exact h
   cases ts with
   | nil=>exact aj (aj h)
   | cons Y U =>
    have C:Y=bu "tuple":=u Y (.head _);subst C;have Im:(((bu "tuple")::U).toArray.all fun x=>x == bu "tuple")=true:=by
     rw[gX,bp];intro x hx;rw[u x hx];rfl
    have h0:((bu "tuple")::U).toArray[0]?=some (bu "tuple"):=by simp
    rw[h0];simp only[Im,if_true];refine aj (aj ?_);exact h
theorem zoe(x y:Str)(t u:Tok):LtAt prog w A s false (.str x t) (.str y u) (decide (x.cps.toList<y.cps.toList)):=fun E Q q=>by
 rw[rZ];simp only[aH,if_false];refine ae (show wpAny (model prog w) A (compareOp .Lt (.str x t) (.str y u)) _ E s from vm ?_)
 exact bz q
theorem zok{l:List ah}{h0:aS}{rs:List NP}(G:A.units<cLine)(C:∀v∈l,∃r,r∈rs/\PsIn s.heap v r/\rkNP rs h0 v=npRk rs r):Kinds prog w A s (rkNP rs h0) l:=fun h2=>by
 refine⟨tuples' false,fun E Q q=>zqx (by lia) (fun v Y=>?_) q,fun p q E Q mp mq h=>?_⟩
 ·obtain⟨r,_,h,_⟩:=C v Y;exact⟨r,h⟩
 ·have mem:∀z∈(pairsOf l).toList,z.1∈l:=fun z S=>by
   have:z∈l.zip l:=by simpa[pairsOf] using S
   exact(dJ this).1
  obtain⟨⟨⟨b,k⟩,g⟩,U,⟨a,x,o,t,n,e0,e1,e2,R,I⟩,r1⟩:=C _ (mem p mp);obtain⟨⟨⟨u,y⟩,g'⟩,J,⟨a',x',o',t',n',f0,f1,f2,Z,f4⟩,N⟩:=C _ (mem q mq);rw[r1,N,<- zqn U J]at h;rw[e0,f0];refine zhC e1 R f1 Z (zqX G I f4) (SeqAt.EqAt.str_str g t g' t') (fun _=>zqs G I f4) (fun _=>zoe g g' t t') ?_
  have:(if decide (b=u/\k=y)=true then(if (g == g')=true then false else decide (g.cps.toList<g'.cps.toList)) else HT.lexLt [b,k] [u,y])=npLt ((b,k),g) ((u,y),g'):=by
   rw[zqt];unfold npLt;dsimp only
   by_cases e:b=u/\k=y
   ·obtain⟨rfl,rfl⟩:=e;rw[if_pos (by simp),if_pos rfl]
    by_cases eg:g=g'
    ·subst eg;rw[if_pos (by simp)]
     symm;rw[decide_eq_false_iff_not];exact oS _
    ·rw[if_neg (by simpa using eg)]
   ·rw[if_neg (by simpa using e),if_neg (fun z=>e (by cases z;exact⟨rfl,rfl⟩))]
  rw[this];exact h
end
section
variable{X:Cx}
def PsV(K:qF)(H:Hp)(z:V×NP):Prop:=∃a q,z.1=.ref a/\SqT K H a [.ref q,.str z.2.2]/\SqT K H q [.int z.2.1.1,.int z.2.1.2]
theorem zvq{pins:qO}{σ:St}{H:Hp}{s:au}{a q:ak}{r:NP}(I:Inv X pins σ H s)(h:SqT X.K H a [.ref q,.str r.2])(l:SqT X.K H q [.int r.1.1,.int r.1.2]):PsIn s.heap (.ref a) r:=by
 obtain⟨is,rs,⟨o,f1,f2,n,v⟩,_⟩:=I.tuple h;cases rs with
 | cons a1 a2 =>
  cases a2 with
  | cons u x =>
   cases x;cases(show _=b5 q from a1)
   obtain⟨t,rfl⟩:=u;exact⟨a,q,o,t,n,rfl,f1,f2,v,zvr I l⟩
theorem zgI(hu:X.A.units+64<cLine):JO X (.builtin "sorted") (fun xs H Q=>∃(p:ak) (zs:List (V×NP)),xs=[.ref p]/\(SqL X.K H p (zs.map (·.1))\/SqT X.K H p (zs.map (·.1)))/\zs.length<64/\(∀z∈zs,PsV X.K H z) /\
  ∀G:List (V×NP),G.Perm zs->G.Pairwise (fun a b=>npRk (zs.map (·.2)) a.2<=npRk (zs.map (·.2)) b.2)->∀l,H l=none->Q (.ref l) (upd H l (.lst (G.map (·.1))))):=by
 intro pins s σ H xs us Q I r h;obtain⟨p,zs,rfl,N,h64,hp,q⟩:=h;obtain⟨u,rfl,rx⟩:=vals1 r;cases rx;have hs:64<=sizeLine:=by decide
 have key:∀(v:List ah) (o:Obj) (T:String) (n:Nat),Vals (zs.map (·.1)) v->s.heap.get? p=some o->o.cls=.type T->(T = "list" \/ T = "tuple")->o.data=.seq v.toArray n ->
   wpAny (model X.prog X.w) X.A (call (.builtin "sorted") [.ref p]) (EP X pins σ Q) X.xe s:=fun v o T n rv S hc hT hd=>by
  have hlen:zs.length=v.length:=by simpa using rv.length
  have cell:eh (fun(z:V×NP) (u:ah)=>RelV z.1 u/\PsIn s.heap u z.2) zs v:=by
   have go:∀(zs:List (V×NP)) (v:List ah),(∀z∈zs,PsV X.K H z)->Vals (zs.map (·.1)) v->eh (fun(z:V×NP) (u:ah)=>RelV z.1 u/\PsIn s.heap u z.2) zs v:=by
    intro zs;induction zs with
    | nil=>intro v _ r;cases r;exact .nil
    | cons z zs ih =>
     intro v Y r;cases r with
     | cons Z r2 =>
      obtain⟨a,q,e1,e2,e3⟩:=Y z (.head _);refine .cons ⟨Z,?_⟩ (ih _ (fun y hy=>Y y (.tail _ hy)) r2)
      dsimp only at Z;rw[e1]at Z;cases(show _=b5 a from Z)
      exact zvq I e2 e3
   exact go zs v hp rv
  refine zkl (A:=X.A) (x:=.ref p) (rk:=rkNP (zs.map (·.2))) (C:=fun h' tk R=>R=v/\(∀b o,s.heap.get? b=some o->h'.get? b=some o)/\s.heap.objs.size<=h'.objs.size) ?_ ?_ ?_ ?_
  ·intro A' E' Q' hA N;refine ze9 S hc hT hd (by lia) ?_
   have hq':=N ((s.heap.push (seqObj "list" #[] 0)).update s.heap.objs.size (eR (·++v.toArray))) s.toks v ⟨rfl,fun b ob hb=>?_,?_⟩
   ·exact hq'
   ·rw[fY _ _ _ _ (aF (aA hb))];exact aq _ hb
   ·rw[cA,dM];exact iP _
  ·rintro h' tk R ⟨rfl,_,_⟩;lia
  ·rintro h' tk R A' ⟨rfl,kp,_⟩ hA';refine zok (by lia) fun u hu=>?_
   obtain⟨x,mx,_,rl⟩:=zc4 cell hu;have U:=rl.kept kp;exact⟨x.2,lL mx,U.kept fun b o e=>ziQ e,U.rk⟩
  ·rintro h' tk R h2 y e ⟨rfl,kp,sz⟩ kp2 pm up he;have J:eh (fun(z:V×NP) (u:ah)=>RelV z.1 u/\PsIn h' u z.2) zs R:=Paired.mapP cell fun _ _ h=>⟨h.1,h.2.kept kp⟩
   obtain⟨ws,p1,p2,p3⟩:=znU (f:=fun x=>npRk (zs.map (·.2)) x.2) J (fun x u hx=>hx.2.rk) pm up
   have rv':Vals (ws.map (·.1)) ((arrOf y).map (·.2)).toList:=by
    have:∀{l:List (V×NP)} {m:List ah},eh (fun(z:V×NP) (u:ah)=>RelV z.1 u/\PsIn h' u z.2) l m->Vals (l.map (·.1)) m:=by
     intro l m p;induction p with
     | nil=>exact .nil
     | cons h t ih=>exact .cons h.1 ih
    exact this p3
   refine⟨.ref h'.objs.size,_,I.laid (a:=h'.objs.size) (o:=.lst (ws.map (·.1))) (t':=tk) (fun b o hb=>kp2 b o (kp b o hb)) sz ?_,rfl,q ws p1 p2 _ (I.hok.fresh sz)⟩
   refine⟨?_,_,e,rv',by rw[he]⟩
   have:=p1.length_eq;rw[aM];lia
 rcases N with N|N
 ·obtain⟨v,r',pl,Y⟩:=I.list N;obtain⟨o,S,hc,n,hd⟩:=pl.isList;exact key v o "list" n r' S hc (.inl rfl) hd
 ·obtain⟨v,r',pl,Y⟩:=I.tuple N;obtain⟨o,S,hc,n,hd⟩:=pl;exact key v o "tuple" n r' S hc (.inr rfl) hd
end
section
variable{X:Cx}{e:aT}{d:DTE}{pos p:Pos}{k:Nat}
theorem zlw{K:qF}{hd:Option ak}{O:ak->Prop}{H:Hp}:∀{y:List V}{rs:List NP},Reps K hd O H y (Bd.oD rs)->∀z∈y.zip rs,PsV K H z/\Rep K hd O H z.1 (.tuple [.tuple [.int z.2.1.1,.int z.2.1.2],.str z.2.2])
 | _,[],r=>by cases r;intro z v;simp at v
 | _,a::rs,r=>by
  cases r with
  | cons h r =>
   intro z v;rcases aw.mp (by simpa using v) with rfl|v
   ·refine⟨?_,h⟩;obtain⟨b,L,rfl,sq,I⟩:=h.tupI;cases I with
    | cons J G =>
     cases G with
     | cons C x4 =>
      cases x4;obtain⟨q,rfl,x⟩:=J.bkI;rw[C.strI]at sq;exact⟨b,q,rfl,sq,x⟩
   ·exact zlw r z v
def zmX(d:DTE):DTA:=fun v n R=>d v n fun t u=>JV t fun ts=>∃rs:List NP,ts=Bd.oD rs/\rs.length<64/\∀l:List NP,l.Perm rs->l.Pairwise (fun a b=>npRk rs a<=npRk rs b)->R (Bd.oD l) u
theorem Wn(hr:Room k X.A)(hm:X.mg "sorted" = none) (h:DL X e d) (hs:starEach [e] X.env=[(false,eval e X.env)]) (hg:Gl X "sorted":=by rfl):DN X (.Call (.Name "sorted" p) [e] [] pos) (zmX d):=by
 obtain⟨ta,pa,h⟩:=h;refine⟨_,UG (zgI (by have:=hr.un;lia)) hm boot_sorted (Qg pa QD hs) hg,fun C Z σ H n Q R S hd hq=>?_⟩
 refine h C Z σ H n _ _ S hd fun t n1 v I r1 e1 h1 q1=>?_
 have S1:=S.on e1 h1;have go:∀(p:ak) J ts,(SqL X.K I p J\/SqT X.K I p J)->Reps X.K C.hd (Own C Z σ) I J ts->(∃rs:List NP,ts=Bd.oD rs/\rs.length<64/\∀U:List NP,U.Perm rs->U.Pairwise (fun a b=>npRk rs a<=npRk rs b)->R (Bd.oD U) n1) ->
   ∃(p':ak) (zs:List (V×NP)),[V.ref p]=[V.ref p']/\(SqL X.K I p' (zs.map (·.1))\/SqT X.K I p' (zs.map (·.1)))/\zs.length<64/\(∀z∈zs,PsV X.K I z) /\
  ∀G:List (V×NP),G.Perm zs->G.Pairwise (fun a b=>npRk (zs.map (·.2)) a.2<=npRk (zs.map (·.2)) b.2)->∀l,I l=none->Q (.ref l) (upd I l (.lst (G.map (·.1)))):=fun p J ts hs rp ⟨rs,ets,l64,hR⟩=>by
  subst ets;have ln:=rp.length;rw[Bd.J3]at ln;have rel:=zlw rp;refine⟨p,J.zip rs,rfl,?_,by simp;lia,fun z hz=>(rel z hz).1,fun G pm pw l L=>?_⟩
  ·rw[gY (by lia)];exact hs
  ·have hl0:H l=none:=by
    cases z:H l with
    | none=>rfl
    | some o =>
     by_cases y:C.hd=some l
     ·obtain⟨d,m,t,q,_⟩:=h1 l y;rw[L]at q;cases q
     ·rw[e1 l o z y]at L;cases L
   have pr:(G.map (·.2)).Perm rs:=by
    have:=pm.map (·.2)
    rwa [dY (by lia)]at this
   have rp':∀zs:List (V×NP),(∀z∈zs,Rep X.K C.hd (Own C Z σ) I z.1 (.tuple [.tuple [.int z.2.1.1,.int z.2.1.2],.str z.2.2]))->Reps X.K C.hd (Own C Z σ) I (zs.map (·.1)) (Bd.oD (zs.map (·.2))):=by
    intro zs;induction zs with
    | nil=>intro _;exact .nil
    | cons a l ih=>intro h;exact .cons (h a (.head _)) (ih fun x hx=>h x (.tail _ hx))
   refine hq _ n1 l _ _ (hR _ pr (by rw[dH];rw[dY (by lia)]at pw;exact pw)) (e1.trans (ExtE.new L)) (h1.same (JP L)) hl0 JN ?_
   refine(rp' G fun z hz=>(rel z (pm.mem_iff.mp hz)).2).mono (fun b o hb z=>z.elim id fun z=>?_) fun b o _ hb=>JP L b o hb
   subst z;rw[L]at hb;cases hb
 cases t with
 | list ts =>
  obtain⟨p,J,rfl,Y,h2⟩:=q1.lstI;exact go p J ts (.inl (.of Y)) h2 r1
 | tuple ts =>
  obtain⟨p,J,rfl,Y,h2⟩:=q1.tupI;exact go p J ts (.inr Y) h2 r1
 | _=>exact r1.elim
instance zuC {ρ:En}{n:Nat}{R:List af->Nat->Prop}:Stp (zmX d ρ n R) (d ρ n fun t n1=>JV t fun ts=>∃rs:List NP,ts=Bd.oD rs/\rs.length<64/\∀rs':List NP,rs'.Perm rs->rs'.Pairwise (fun a b=>npRk rs a<=npRk rs b)->R (Bd.oD rs') n1):=⟨fun h=>h⟩
end
def StG(K:qF)(mg:qM)(x:Str)(l:List Str):Prop:=∃a,mg x=some (.ref a)/\StT K a (l.map V.str)
end L2
namespace Bd
open PySem PySem.W PySem.Calls L2 PyProof.Rows
def VT:List ah->List Str->Bool
 | [],[]=>true
 | .str x _::r,y::z=>decide (x=y)&&VT r z
 | _,_=>false
theorem ze2:∀{v:List ah}{u:List Str},VT v u=true->Vals (u.map V.str) v
 | [],[],_=>.nil
 | .str x t::r,y::z,h=>by
  simp only[VT,aG,decide_eq_true_eq]at h;obtain⟨rfl,h⟩:=h;exact .cons ⟨t,rfl⟩ (ze2 h)
def tupO(h:aS)(l:List Str):ah->Bool
 | .ref a=>(match h.get? a with
  | some ⟨.type c,none,.seq vs _,_⟩=>decide (c = "tuple")&&decide (vs.size<=100)&&VT vs.toList l
  | _=>false)
 | _=>false
def UZ(l:List (Str×List Str))(s:au):Bool:=l.all fun q=>(s.heap.nsMap mainGlobals q.1).any (tupO s.heap q.2)
def TupsAre(l:List (Str×List Str))(mg:qM)(h:aS):Prop:=∀q∈l,∃v,mg q.1=some v/\tupO h q.2 v=true
theorem zrB{l:List (Str×List Str)}{s:au}(x:UZ l s=true):TupsAre l (s.heap.nsMap mainGlobals) s.heap:=fun q u=>by
 have e:=bp.mp x q u;cases g:s.heap.nsMap mainGlobals q.1 with
 | none=>rw[g]at e;cases e
 | some v=>rw[g]at e;exact⟨v,rfl,e⟩
theorem zg0{h h':aS}{l:List Str}{v:ah}(x:tupO h l v=true)(k:∀b o,h.get? b=some o->h'.get? b=some o):tupO h' l v=true:=by
 unfold tupO at x ⊢;split at x
 ·rename_i a;cases e:h.get? a with
  | none=>rw[e]at x;cases x
  | some o=>rw[e]at x;rw[k _ _ e];exact x
 ·cases x
theorem TupsAre.keeps{l:List (Str×List Str)}{mg:qM}{h h':aS}(x:TupsAre l mg h)(k:∀b o,h.get? b=some o->h'.get? b=some o):TupsAre l mg h':=fun q u=>by
 obtain⟨v,a,b⟩:=x q u;exact⟨v,a,zg0 b k⟩
theorem TupsAre.st{u:List (Str×List Str)}{mg:qM}{h:aS}(x:TupsAre u mg h){n:Str}{l:List Str}(m:(n,l)∈u):StG (JI h) mg n l:=by
 obtain⟨v,a,b⟩:=x _ m;unfold tupO at b;split at b
 ·rename_i p;split at b
  ·rename_i c I y J e;simp only[aG,decide_eq_true_eq]at b;obtain⟨⟨rfl,G⟩,C⟩:=b;exact⟨p,a,_,I,y,Yj e,rfl,rfl,bY G (by decide),ze2 C,rfl⟩
  ·cases b
 ·cases b
end Bd
namespace L2
open PySem PySem.Spec PyProof.Rows
def ndup:List Str->Bool
 | []=>true
 | x::l=>!l.any (fun y=>decide (x=y))&&ndup l
theorem ndB{l:List Str}(h:ndup l=true):l.Nodup:=by
 induction l with
 | nil=>exact .nil
 | cons x l u =>
  simp only[ndup,aG,iR,mf,decide_eq_true_eq]at h;exact eJ.mpr ⟨fun m=>h.1 x m rfl,u h.2⟩
def fnB(N P:List Str)(sc:fc):Bool:=(match sc.kind with|.function=>true|_=>false)&&!sc.isCoroutine&&!sc.isGenerator&&ndup N&&decide (N.take P.length=P)&&P.all (fun x=>decide (sc.names.lookup x=some .local\/sc.names.lookup x=some .cell))&&sc.names.all fun y=>decide (y.2≠.free)
theorem fnS{N P:List Str}{sc:fc}(h:fnB N P sc=true):Ur N P sc:=by
 simp only[fnB,aG,iR,decide_eq_true_eq,bp]at h;obtain⟨⟨⟨⟨⟨⟨a,b⟩,c⟩,d⟩,e⟩,f⟩,g⟩:=h;exact⟨(by cases q:sc.kind <;> rw[q]at a <;> first|rfl|(exact nomatch a)),b,c,ndB d,e,f,g⟩
section
variable{X:Cx}{x:Str}{e:aT}{es:List aT}{d:DTE}{ds:DTA}{pos pos':Pos}
theorem dlv(i:Nat)(u:X.N[i]?=some x:=by rfl)(v:Vis X.env.scope x:=by walk_at "V")(hd:(x == ("__debug__":Str))=false:=by rfl)
  (l:(x == ("__classdict__":Str))=false:=by rfl):DL X (.Name x pos) (dVar i):=dl (Jk i u v hd l)
theorem dli{i j}:DL X (.Constant (.int i) j pos) (dC (.int i)):=dl Jg
theorem dbc(h:DE X e d)(l:DB X es ds)(u:starEach (e::es) X.env=(false,eval e X.env)::starEach es X.env:=by rfl):DB X (e::es) (Qm d ds):=zmW h l u
theorem dbv(i:Nat)(v:DB X es ds)(u:X.N[i]?=some x:=by rfl)(y:Vis X.env.scope x:=by walk_at "V")(hd:(x == ("__debug__":Str))=false:=by rfl)
  (l:(x == ("__classdict__":Str))=false:=by rfl):DB X (.Name x pos::es) (Qm (dVar i) ds):=zmW (Jk i u y hd l) v rfl
theorem dsv(i:Nat)(u:X.N.Nodup)(h:DE X e d)(hi:X.N[i]?=some x:=by rfl)(hx:Loc X.env.scope x:=by first|exact dE rfl|exact tq rfl)(v:swapsWith e (some (.Name x pos')) pos.line X.env=pure false:=by rfl)
  (hf:X.fn x=true\/X.env.scope.names.lookup x=some .local:=by walk_at "F"):DS X (.Assign [.Name x pos'] e pos) (sSet i d):=zug u hi hx h v hf
theorem dgv(i:Nat)(u:X.N.Nodup)(hi:X.N[i]?=some x:=by rfl)(hx:Loc X.env.scope x:=by first|exact dE rfl|exact tq rfl)(hf:X.fn x=true\/X.env.scope.names.lookup x=some .local:=by walk_at "F"):DG X (.Name x pos) [i] (Qo i):=zq2 u hi hx hf
end
section
variable{X:Cx}{scope:fc}{iter elt:aT}{ifs:List aT}{tg:aT}{pos:Pos}{is:List Nat}{di:DTA}{g:DTG}{tt:DTT}{te:DTE}
theorem dnc(own:List Str)(capt:List Nat)(hi:DIL X tg iter di)(G:∀C s₀ H₀ l,DG (Jm X scope own capt C s₀ H₀ l) tg is g)(v:∀C s₀ H₀ l,DE (Jm X scope own capt C s₀ H₀ l) elt te)
  (hc:X.calm=true:=by rfl) (h:Wg scope X.env.scope X.N capt=true:=by rfl) (u:∀i∈is,i<own.length:=by decide) (y:∀x,foldedSetIterable iter X.env x=pure x:=by intro _;rfl):DN X (.ListComp elt [⟨tg,iter,[],0⟩] scope pos) (dComp own.length capt di g dYes te) :=
 zmP hc (JJ.of h) hi G u (fun _ _ _ _=>Y5) v y
theorem dnf(own:List Str)(capt:List Nat)(hi:DIL X tg iter di)(I:∀C s₀ H₀ l,DG (Jm X scope own capt C s₀ H₀ l) tg is g)(G:∀C s₀ H₀ l,DTs (Jm X scope own capt C s₀ H₀ l) ifs tt)(v:∀C s₀ H₀ l,DE (Jm X scope own capt C s₀ H₀ l) elt te)
  (hc:X.calm=true:=by rfl) (h:Wg scope X.env.scope X.N capt=true:=by rfl) (u:∀i∈is,i<own.length:=by decide) (y:∀x,foldedSetIterable iter X.env x=pure x:=by intro _;rfl):DN X (.ListComp elt [⟨tg,iter,ifs,0⟩] scope pos) (dComp own.length capt di g tt te) :=
 zmP hc (JJ.of h) hi I u G v y
end
end L2
namespace Bd
open PySem PySem.W PySem.Calls L2 PyProof.Rows
def QA(h:aS):ah->Option (List dw)
 | .ref a=>if a == sysModules then none else(match h.get? a with
  | some ⟨.type c,none,.dict es _,sl⟩=>if decide (c = "dict")&&decide (sl.size=0) then some es.toList else none
  | _=>none)
 | _=>none
theorem zdP{h h':aS}{v:ah}{l:List dw}(x:QA h v=some l)(k:∀b o,h.get? b=some o->h'.get? b=some o):QA h' v=some l:=by
 unfold QA at x ⊢;split at x
 ·rename_i a;split at x
  ·cases x
  ·rename_i q;rw[if_neg q];cases e:h.get? a with
   | none=>rw[e]at x;cases x
   | some o=>rw[e]at x;rw[k _ _ e];exact x
 ·cases x
theorem zj5{h:aS}{v:ah}{C:List dw}(x:QA h v=some C):∃a l u,v=.ref a/\(a == sysModules)=false/\h.get? a=some ⟨.type "dict",none,.dict l u,#[]⟩/\l.toList=C:=by
 unfold QA at x;split at x
 ·rename_i a;split at x
  ·cases x
  ·rename_i q;split at x
   ·rename_i c l u G e;split at x
    ·rename_i z;simp only[aG,decide_eq_true_eq]at z;obtain⟨rfl,I⟩:=z;have:G=#[]:=Array.eq_empty_of_size_eq_zero I;subst this;cases x;exact⟨a,l,u,rfl,by simpa using q,e,rfl⟩
    ·cases x
   ·cases x
 ·cases x
def keyO(k:Str):ah->Bool
 | .str x _=>decide (x=k)
 | _=>false
def UN(h:aS):List dw->List (Str×List Str)->Bool
 | [],[]=>true
 | e::r,q::z=>keyO q.1 e.key&&tupO h q.2 e.val&&UN h r z
 | _,_=>false
def zr5:ah->Option ah->Bool
 | .ref a,some (.ref b)=>a == b
 | _,_=>false
def Zz(mg:qM):List dw->List Str->Bool
 | [],[]=>true
 | e::r,k::z=>keyO k e.key&&zr5 e.val (mg k)&&Zz mg r z
 | _,_=>false
abbrev PLs:=List (Str×List (Str×List Str))
abbrev FLs:=List (Str×List Str)
def U1(pl:PLs)(fl:FLs)(s:au):Bool :=
 (pl.all fun q=>(s.heap.nsMap mainGlobals q.1).any fun v=>(QA s.heap v).any fun l=>UN s.heap l q.2)&&fl.all fun q=>(s.heap.nsMap mainGlobals q.1).any fun v=>(QA s.heap v).any fun l=>Zz (s.heap.nsMap mainGlobals) l q.2
structure DctsAre(pl:PLs)(fl:FLs)(mg:qM)(h:aS):Prop where
 p:∀q∈pl,∃v es,mg q.1=some v/\QA h v=some es/\UN h es q.2=true
 f:∀q∈fl,∃v es,mg q.1=some v/\QA h v=some es/\Zz mg es q.2=true
theorem VA{α:Type}{o:Option α}{p:α->Bool}(h:o.any p=true):∃v,o=some v/\p v=true:=by
 cases o with
 | none=>cases h
 | some v=>exact⟨v,rfl,h⟩
theorem zus{pl:PLs}{fl:FLs}{s:au}(x:U1 pl fl s=true):DctsAre pl fl (s.heap.nsMap mainGlobals) s.heap:=by
 obtain⟨a,b⟩:=ba.mp x;refine⟨fun q C=>?_,fun q C=>?_⟩
 ·obtain⟨v,e,y⟩:=VA (bp.mp a q C);obtain⟨l,u,y⟩:=VA y;exact⟨v,l,e,u,y⟩
 ·obtain⟨v,e,y⟩:=VA (bp.mp b q C);obtain⟨l,u,y⟩:=VA y;exact⟨v,l,e,u,y⟩
theorem zeM{h h':aS}(k:∀b o,h.get? b=some o->h'.get? b=some o):∀{es ks},UN h es ks=true->UN h' es ks=true
 | [],[],_=>rfl
 | e::r,q::z,x=>by
  simp only[UN,aG]at x ⊢;exact⟨⟨x.1.1,zg0 x.1.2 k⟩,zeM k x.2⟩
theorem DctsAre.keeps{pl:PLs}{fl:FLs}{mg:qM}{h h':aS}(x:DctsAre pl fl mg h)(k:∀b o,h.get? b=some o->h'.get? b=some o):DctsAre pl fl mg h' :=
 ⟨fun q l=>let ⟨v,es,a,b,c⟩:=x.p q l;⟨v,es,a,zdP b k,zeM k c⟩,fun q l=>let ⟨v,es,a,b,c⟩:=x.f q l;⟨v,es,a,zdP b k,c⟩⟩
def hshs(dl:FLs)(h:aS):List (Option (List Int)):=dl.map fun q=>((globalOf h q.1).bind (QA h)).map (mD (·.hash))
def hshW(dl:FLs)(w:aU):List (Option (List Int)):=dl.map fun q=>some (q.2.map (hashStr w))
def HshOk(dl:FLs)(w:aU)(h:aS):Prop:=∀q∈dl,((globalOf h q.1).bind (QA h)).map (mD (·.hash))=some (q.2.map (hashStr w))
theorem zt1{dl:FLs}(w:aU)(s:au)(e:hshs dl s.heap=hshW dl w):HshOk dl w s.heap:=by
 unfold hshs hshW at e;intro q l;exact List.map_inj_left.mp e q l
theorem zgC{h h':aS}{x:Str}{v:ah}(e:globalOf h x=some v)(k:∀b o,h.get? b=some o->h'.get? b=some o):globalOf h' x=some v:=by
 unfold globalOf at e ⊢;cases g:h.get? mainNs with
 | none=>rw[g]at e;cases e
 | some o=>rw[g]at e;rw[k _ _ g];exact e
theorem zoA{dl:FLs}(w:aU)(h h':aS)(x:HshOk dl w h)(k:∀b o,h.get? b=some o->h'.get? b=some o):HshOk dl w h':=fun q l=>by
 have e:=x q l;cases g:globalOf h q.1 with
 | none=>rw[g]at e;cases e
 | some v =>
  rw[g]at e;rw[zgC g k];simp only[nA]at e ⊢;cases g2:QA h v with
  | none=>rw[g2]at e;cases e
  | some u=>rw[g2]at e;rw[zdP g2 k];exact e
theorem HshOk.at{dl:FLs}{w:aU}{h:aS}{mg:qM}(x:HshOk dl w h)(G:h.Ns mainGlobals mg){n:Str}{u:List Str}(m:(n,u)∈dl){v:ah}{l:List dw}(e:mg n=some v)(d:QA h v=some l):l.map (·.hash)=u.map (hashStr w):=by
 have y:=x _ m;rw[Claim2Try.globalOf_of_ns G,e]at y;simp only[nA]at y;rw[d]at y;exact aL y
theorem zmp{k:Str}{v:ah}(h:keyO k v=true):∃t,v=.str k t:=by
 unfold keyO at h;split at h
 ·rename_i x t;have:x=k:=by simpa using h
  subst this;exact⟨t,rfl⟩
 ·cases h
theorem zjw{w:aU}{h:aS}:∀{u:List dw}{v:List (Str×List Str)},UN h u v=true->u.map (·.hash)=(v.map (·.1)).map (hashStr w)->eh (PtE w (JI h)) u v
 | [],[],_,_=>.nil
 | e::r,q::z,x,y=>by
  simp only[UN,aG]at x;obtain⟨⟨L,J⟩,G⟩:=x;simp only[bV,gm]at y;have s:TupsAre [(q.1,q.2)] (fun _=>some e.val) h:=fun p I=>by
   cases az.mp I;exact⟨_,rfl,J⟩
  obtain⟨b,C,st⟩:=s.st (az.mpr rfl);exact .cons ⟨y.1,zmp L,b,aL C,st⟩ (zjw G y.2)
theorem DctsAre.st{pl:PLs}{fl dl:FLs}{P:aI}{w:aU}{mg:qM}{h:aS}(x:DctsAre pl fl mg h)(y:HshOk dl w h)(G:h.Ns mainGlobals mg){n:Str}{l:List (Str×List Str)}(m:(n,l)∈pl)(C:(n,l.map (·.1))∈dl)(nd:(l.map (·.1)).Nodup):StD P w (JI h) mg n l:=by
 obtain⟨v,J,a,b,c⟩:=x.p _ m;have I:=y.at G C a b;obtain⟨ad,L,R,rfl,ns,e,rfl⟩:=zj5 b;exact zrI a ns (Yj e) (zjw c I) nd
def StF(P:aI)(w:aU)(K:qF)(mg:qM)(x:Str)(C:List Str):Prop :=
 ∃(a:ak) (o:Obj) (l:Array dw) (y:Nat) (v:List (Str×ah)),mg x=some (.ref a)/\(a == sysModules)=false/\K.lookup a=some o/\o.ExactDict/\o.data=.dict l y/\KeysOf (strKind P w) l/\Pairs (strKind P w) l.toList v/\(v.map (·.1)).Nodup /\
  ∀k∈C,∃f,valueAt v k=some (.ref f)/\mg k=some (.ref f)
theorem zmI{P:aI}{w:aU}{mg:qM}:∀{C:List dw}{G:List Str},Zz mg C G=true->C.map (·.hash)=G.map (hashStr w) ->
  ∃v,Pairs (strKind P w) C v/\v.map (·.1)=G/\(∀e∈C,∃k,(strKind P w).is k e.key=true/\e.hash=(strKind P w).hash k)/\∀k∈G,∃f,(k,b5 f)∈v/\mg k=some (.ref f)
 | [],[],_,_=>⟨[],.nil,rfl,(fun e h=>nomatch h),fun k h=>nomatch h⟩
 | e::r,q::z,x,y=>by
  simp only[Zz,aG]at x;obtain⟨⟨x1,I⟩,L⟩:=x;simp only[bV,gm]at y;obtain⟨v,a1,a2,S,U⟩:=zmI (P:=P) L y.2;obtain⟨t,R⟩:=zmp x1;have u:(strKind P w).is q e.key=true:=by rw[R];show cY q (.str q t)=true;simp[cY]
  refine⟨(q,e.val)::v,.cons u rfl a1,by simp[a2],fun N J=>?_,fun k u=>?_⟩
  ·rcases aw.mp J with rfl|J
   ·exact⟨q,u,y.1⟩
   ·exact S N J
  ·rcases aw.mp u with rfl|u
   ·unfold zr5 at I;split at I
    ·rename_i a b Y Z;have:a=b:=by simpa using I
     subst this;exact⟨a,by rw[Y];exact .head _,Z⟩
    ·cases I
   ·obtain⟨f,m,g⟩:=U k u;exact⟨f,.tail _ m,g⟩
theorem ziw{l:List (Str×ah)}(nd:(l.map (·.1)).Nodup){k:Str}{v:ah}(m:(k,v)∈l):valueAt l k=some v:=by
 induction l with
 | nil=>exact nomatch m
 | cons p l x =>
  rw[bV,eJ]at nd;rcases aw.mp m with rfl|m
  ·simp[valueAt,fB]
  ·have ne:¬p.1=k:=fun z=>nd.1 (z▸aN.mpr ⟨_,m,rfl⟩)
   have:=x nd.2 m;simpa[valueAt,fB,ne] using this
theorem DctsAre.sf{pl:PLs}{fl dl:FLs}{P:aI}{w:aU}{mg:qM}{h:aS}(x:DctsAre pl fl mg h)(y:HshOk dl w h)(G:h.Ns mainGlobals mg){n:Str}{C:List Str}(m:(n,C)∈fl)(J:(n,C)∈dl)(nd:C.Nodup):StF P w (JI h) mg n C:=by
 obtain⟨v,es,a,b,c⟩:=x.f _ m;have hh:=y.at G J a b;obtain⟨ad,R,S,rfl,ns,e,rfl⟩:=zj5 b;obtain⟨I,a1,a2,U,Y⟩:=zmI (P:=P) c hh;have l:(I.map (·.1)).Nodup:=by rw[a2];exact nd
 refine⟨ad,_,R,S,I,a,ns,Yj e,⟨rfl,rfl,rfl⟩,rfl,fun L he=>U L (by simpa using he),a1,l,fun k Z=>?_⟩
 obtain⟨f,m,g⟩:=Y k Z;exact⟨f,ziw l m,g⟩
theorem zvg{lw:PySem.W.OpenLaw}{q:aI}{loose:List Str}{XP:(Str->Option ah)->aS->Prop}{YP:aU->aS->Prop}{d:DefRec}{k:Nat}(hk:k<=60)(U:lw.most=some 63)(C:d.params.defaults=[])
  (F:∀(w:aU) (s₀:au) (mg J:qM) (y:ak) (h:aS),Ground q loose [] XP w s₀ mg J h->YP w h->mg d.name=some (.ref y) ->
   ∃fd:cK,(∀(s:au) (u:ah),oh s fd ⟨[u],[]⟩ [("_law_script",u)])/\∀base:aS,(JI h).In base->base.Ns mainGlobals mg->FnOk lw.prog w (JI h) mg base CX0 k y fd ["_law_script"] (zpz (JI h))) :
  PySem.W.WalkO q loose XP YP lw.row.toRowW d [] (fun f R=>vT f R):=by
 refine Att.attach_call U C fun w s₀ N mg J y o pm cd doc a R ns G Y ho hd S L x v l hg=>?_
 obtain⟨fd,hb,Z⟩:=F w s₀ mg J y _ G Y L;exact zoi zla G.T.g G.T.b G.T.builtins G.T.nolimit hg x v (bY l (by decide)) ((show Room 60 callerA from⟨rfl,by decide,by decide,rfl⟩).mono hk) Z hb (fun H hO hS=>⟨a,ns,rfl,hS,l,fun _=>rfl⟩) fun H e s' z=>z
end Bd
namespace L2
open PySem PySem.Spec PyProof.Rows
section
variable{K:qF}{C:Ctx}{ρ:En}{σ:St}{H:Hp}{n:Nat}
theorem zjy{i:Nat}{v:V}(hi:ρ[i]?=some none){a:ak}:Own C ρ (σ.set i (some v)) a↔Own C ρ σ a:=by
 have key:OwnS ρ (σ.set i (some v)) a↔OwnS ρ σ a:=by
  constructor
  ·rintro⟨j,c,m,l,u⟩;have ne:i≠j:=fun z=>by subst z;rw[hi]at l;cases l
   rw[aQ ne]at u;exact⟨j,c,m,l,u⟩
  ·rintro⟨j,c,m,l,u⟩;have ne:i≠j:=fun z=>by subst z;rw[hi]at l;cases l
   exact⟨j,c,m,l,by rw[aQ ne];exact u⟩
 unfold Own;rw[key]
theorem Stt.hole{i:Nat}{v:V}(hi:ρ[i]?=some none)(S:Stt K C ρ σ H n):Stt K C ρ (σ.set i (some v)) H n:=by
 have l:Own C ρ (σ.set i (some v))=Own C ρ σ:=funext fun a=>propext (zjy hi)
 have ne:∀{j:Nat} {c:Cell},ρ[j]?=some (some c)->(σ.set i (some v))[j]?=σ[j]?:=fun {j c} h=>aQ fun z=>by subst z;rw[hi]at h;cases h
 refine⟨by rw[fw];exact S.len,fun j d h=>?_,fun j d h=>?_,fun j d h=>?_,fun j d h=>?_,fun j d h=>?_,fun j k c e a J I x u y G=>?_,S.hnd,S.ext,S.hx⟩
 ·rw[l,ne h];exact S.val j d h
 ·rw[l,ne h];exact S.own j d h
 ·rw[l,ne h];exact S.dct j d h
 ·rw[l,ne h];exact S.rdo j d h
 ·rw[l,ne h];exact S.dtt j d h
 ·rw[ne x]at y;rw[ne u]at G;exact S.dif j k c e a J I x u y G
end
section
variable{X:Cx}{e:aT}{es:List aT}{x y:Str}{pos p1 p2 p3 p4 p5 p6:Pos}{e1:aT}{d:DTE}{te:TE}{t:TA}{ks:List Str}{ds:DTA}{i m n:Nat}
def zvn(X:Cx)(ks:List Str)(te:TE):TE:=fun σ H Q=>te σ H fun y l=>∃z,y=.str z/\z∈ks/\∀f,X.mg z=some (.ref f)->Q (.ref f) l
theorem zpV(h:Bd.StF X.prog X.w X.K X.mg x ks)(hg:Gl X x)(he:PE X e te)(Y:NoSl e)(hd:(x == ("__debug__":Str))=false:=by rfl):PE X (.Subscript (.Name x p1) e pos) (zvn X ks te):=by
 obtain⟨a,o,es,U,vs,h1,h2,h3,h4,G,v,Z,J,L⟩:=h;intro pins s σ H Q I hw;refine zlf iM.lookup Y (Yd I hg h1 (thn (he pins s σ H _ I hw) fun iv s1 ⟨y,R,l,ry,z,C,mz,q⟩=>?_) hd)
 subst C;obtain⟨t,rfl⟩:∃t,iv=ip z t:=ry;obtain⟨f,g1,g2⟩:=L z mz;have dd:s1.heap.DictOf (strKind X.prog X.w) a vs:=⟨o,es,U,l.kIn a o h3,h4,G,v,Z,J⟩;exact⟨dd.typeIs,nv (knd:=strKind X.prog X.w) (k:=z) (by show cY z (.str z t)=true;simp[cY]) dd.mapOf g1 ⟨.ref f,R,l.tok _,rfl,q f g2⟩⟩
end
end L2
namespace Bd
open PySem PySem.W PySem.Calls L2 PyProof.Rows
def JX(u:String->Option fM)(p:aI)(w:aU)(l:Nat)(ann:Option ah):Nat->tv->Thread->Option tv
 | 0,_,_=>none
 | n+1,s,t=>match through t with
  | true=>some s
  | false=>match stepOk l ann t with
   | false=>none
   | true=>match stepT (denote u) p w s t with
    | some (s',t')=>JX u p w l ann n s' t'
    | none=>none
theorem zfu{u:String->Option fM}{p:aI}{w:aU}{l:Nat}{ann:Option ah}:∀{n:Nat}{s s':tv}{t:Thread},JX u p w l ann n s t=some s'->topRun u p w l ann n s.abs t=some s'.abs
 | 0,_,_,_,h=>by cases h
 | n+1,s,s',t,h=>by
  unfold JX at h;unfold topRun;cases he:through t with
  | true=>rw[he]at h;cases h;rfl
  | false =>
   rw[he]at h;cases hk:stepOk l ann t with
   | false=>rw[hk]at h;cases h
   | true =>
    rw[hk]at h;cases hs:stepT (denote u) p w s t with
    | none=>rw[hs]at h;cases h
    | some r=>obtain⟨v,x⟩:=r;rw[hs]at h;dsimp only at h ⊢;rw[stepT_spec hs];exact zfu h
def zph:List Obj->Nat->BT->BT
 | [],_,t=>t
 | o::r,i,t=>zph r (i+1) (t.ins i o)
noncomputable def zri (P:oE):BT:=zph (bq P).objs.toList 0 .nil
noncomputable def zcF (w:aU) (os:eU):tv:=⟨zri w.params,11,(bq w.params).life,#[],kF,lE,os⟩
theorem boot_abs(P:oE):absHeap (zri P) 11 (bq P).life=bq P:=by kernel_rfl
theorem zni(P:oE):(bq P).objs.size=11:=by kernel_rfl
theorem zrh(P:oE):(bq P).isNs mainGlobals=true:=by kernel_rfl
def U2(p:aI)(h₀:aS)(l:au):Bool:=staticsOk (importedModules p.main.body) h₀ l.heap&&namesBound p l.heap&&gensDone l&&laidKept h₀ l.heap
theorem zmj{p q:aI}{loose:List Str}{x:au->Bool}{α:Type}{y:au->α}{v:aU->α}{N:Nat}(e:opening p=plainProg p.main.scope.names)(I:Nat.ble 600 N=true)(S:∀s,fenceModules? p s=some s)
  (run:∀(w:aU) (os:eU),(JX treeTable p w 11 ((bq w.params).nsMap mainGlobals "__annotations__") N (zcF w os) (topStub p)).map (fun s=>(U2 p (bq w.params) s.abs,openSeen q loose (importedModules p.main.body) x true s.abs,y s.abs))=some (true,openGood q loose,v w)) :
  LeftO p q loose x y v N true:=fun w=>by
 obtain⟨⟨h,gs,d,k,os⟩,L,R⟩:=kG.mp (boot_open e I S w);obtain⟨rfl,rfl,rfl,rfl⟩:h=bq w.params/\gs=#[]/\d=kF/\k=lE:=by simpa using R
 obtain⟨u,r,l⟩:=kG.mp (run w os);have G:(zcF w os).abs=⟨bq w.params,#[],kF,lE,os⟩:=by
  show(⟨absHeap (zri w.params) 11 (bq w.params).life,#[],kF,lE,os⟩:au)=_
  rw[boot_abs]
 have r:=zfu r;rw[G]at r;obtain⟨C,l2⟩:=uR l;obtain⟨l2,J⟩:=uR l2;have t:topFrom treeTable p w N ⟨bq w.params,#[],kF,lE,os⟩=some u.abs:=by
  unfold topFrom;dsimp only;rw[zrh,zni,r];show(match U2 p (bq w.params) u.abs with|true=>_|false=>_)=_
  rw[C]
 unfold openEnds;rw[L];show(topFrom treeTable p w N _).map _=_
 rw[t];exact congrArg some (iD l2 J)
theorem zsV{α T1 T2 T3 T4 T5 T6 T7 T8 T9 G C:Type}{o:Option α}{f1:α->T1}{f2:α->T2}{N:α->T3}{f4:α->T4}{L:α->T5}{I:α->T6}{R:α->T7}{f8:α->T8}{J:α->T9}{u:α->G}{l:α->C}{Z:T1}{v2:T2}{v3:T3}{U:T4}{v5:T5}{v6:T6}{Y:T7}{v8:T8}{S:T9}{v:G}{y:C}
  (ha:o.map (fun s=>(f1 s,l s,N s,f8 s,u s,I s))=some (Z,y,v3,v8,v,v6)) (hb:o.map f2=some v2) (hc:o.map f4=some U) (hd:o.map L=some v5) (he:o.map R=some Y) (hf:o.map J=some S) :
  o.map (fun s=>(f1 s,(f2 s,N s,f4 s,L s,I s,R s,f8 s,J s,u s),l s))=some (Z,(v2,v3,U,v5,v6,Y,v8,S,v),y):=by
 cases o with
 | none=>cases hc
 | some x =>
  have a:(f1 x,l x,N x,f8 x,u x,I x)=(Z,y,v3,v8,v,v6):=aL ha;have b:f2 x=v2:=aL hb;have e:R x=Y:=aL he;have f:J x=S:=aL hf;have c:f4 x=U:=aL hc;have d:L x=v5:=aL hd;simp only[iW]at a;show some (f1 x,(f2 x,N x,f4 x,L x,I x,R x,f8 x,J x,u x),l x)=_
  rw[a.1,a.2.1,a.2.2.1,a.2.2.2.1,a.2.2.2.2.1,a.2.2.2.2.2,b,c,d,e,f]
theorem zlu{w:aU}{P:aU->Prop}(row:String)(h0:∀w:aU,P (w.withFollow row false))(l:∀w:aU,P (w.withFollow row true)):P w:=by
 have e:=World.withFollow_self w row;cases hb:w.params.followText row <;> rw[hb]at e
 ·rw[<- e];exact h0 w
 ·rw[<- e];exact l w
end Bd
namespace L2
open PySem PySem.Spec PyProof.Rows
abbrev GX:=List af->Nat->(af->Nat->Prop)->(Str->Nat->Prop)->Prop
def spX(K:qF)(mg:qM)(m:Nat)(g:GX):Sp:=fun y H Q E=>∃(hd:Option ak) (O:ak->Prop) (ts:qD) (n:Nat) (R:qN) (x:Str->Nat->Prop),Reps K hd O H y ts/\Hn hd H n/\(∀a,O a->MutO (H a))/\(∀a,hd=some a->O a)/\ts.length=m/\g ts n R x /\
 (∀t u v l,R t u->ExtE hd H l->Hn hd l u->Rep K hd O l v t->Q v l)/\∀c u l C,x c u->ExtE hd H l->Hn hd l u->mg c=some (.ref C)->E (.ref C) none l
def EX(X:Cx):XK:=fun u _ l=>∃C,u=.ref C/\XW X C l
def OwnE(K:qF)(mg:qM)(x:Str):Prop:=∃C,mg x=some (.ref C)/\OwnX K mg x C
theorem U9{X:Cx}{x:Str}{np y pos:Pos}(O:OwnE X.K X.mg x)(hc:X.calm=true:=by rfl)(v:Gl X x:=by rfl)(hd:(x == ("__debug__":Str))=false:=by rfl):DS X (.Raise (some (.Call (.Name x np) [] [] y)) none pos) (fun D _ n=>D.xr x n):=by
 obtain⟨C,b,O⟩:=O;exact⟨_,zn2 O hc v hd,fun _ _ _ H n D G S h g=>g.xr x n H h S.hnd (fun a o u _ _=>u) C b⟩
section
variable{X:Cx}{e e1:aT}{es:List aT}{x y:Str}{pos p1 p2 p3 p4 p5 p6:Pos}{d:DTE}{t:TA}{ks:List Str}{ds:DTA}{i m n:Nat}
def zrF(X:Cx)(i:Nat)(t:TA):TE:=fun σ H Q=>∃(z:Str) (st:dg) (f:ak) (fd:cK) (k:Nat) (ps:List Str) (l:Sp),σ[i]?=some (some (.ref f))/\Bd.Def X.K X.mg z st ps f fd/\FnOk X.prog X.w X.K X.mg X.base (CX1 X.prog X.w) k f fd ps l/\Room k X.A/\t σ H fun v u=>l v u Q (EX X)
theorem zn6(h:PB X (e::es) t)(Z:X.N[i]?=some y)(hv:Vis X.env.scope y)(hd:(y == ("__debug__":Str))=false:=by rfl) (L:(y == ("__classdict__":Str))=false:=by rfl):PE X (.Call (.Name y p1) (e::es) [] pos) (zrF X i t):=by
 intro pins s σ H Q I hw;obtain⟨z,st,f,fd,k,ps,sp,e1,D,G,hr,hw⟩:=hw;refine fh (thn (Q8 (pos:=p1) Z hv hd L pins s σ H (fun v J=>v=.ref f/\J=H) I ⟨_,e1,rfl,rfl⟩) fun u s1 ⟨v,J,S,r,ev,Y⟩=>?_)
 subst ev Y;cases(show u=.ref f from r)
 refine iA (h₀:=X.base) S.ok.mod.kin D.F.kp (thn (h.pa pos pins s1 σ J _ S hw) fun us s2 ⟨vs,H2,R,U,q⟩=>⟨R.kIn,?_⟩) h.hd.1 (h.hd.2 pos)
 exact zo6 G hr D.b .nil zv6 R U (by rw[bK];exact q)
end
end L2
namespace Bd
open PySem PySem.W PySem.Calls L2 PyProof.Rows
def FqX(P:aI)(w:aU)(K:qF)(mg:qM)(base:aS)(x:Str)(st:dg)(ps:List Str)(k:Nat)(l:Sp):Prop:=∃f fd,Def K mg x st ps f fd/\FnOk P w K mg base (CX1 P w) k f fd ps l
def FQX(Z:ZZ)(x:Str)(st:dg)(ps:List Str)(k m:Nat)(g:GX):Prop:=FqX Z.P Z.w Z.K Z.mg Z.base x st ps k (spX Z.K Z.mg m g)
theorem okX{Z:ZZ}{x:Str}{st:dg}{ps N:List Str}{k m:Nat}{g:GX}(D:Dq Z.K Z.mg x st ps)(S:Ur N ps (JH st))(hm:m=ps.length)
  (hb:∀(f:ak) (l:ah) (A:bw) (outer:List Env) (s:au) (H:Hp) (E:XK),Room k (A.deeper (envOfC x (JH st) s.heap.objs.size f l))->∃d,DSs (cxOf (CX1 Z.P Z.w) Z.P Z.w Z.K Z.mg Z.base N x (JH st) f l A outer s H E) (Qj st) d /\
   ∀ts n R G,ts.length=m->g ts n R G->d { nx:=fun _ u=>R .none u,rt:=R,xr:=G } (J1 N ts) n):FQX Z x st ps (k+1) m g:=by
 obtain⟨f,fd,D⟩:=D;refine⟨f,fd,D,?_⟩;obtain⟨oc,od,kV,doc,pm,an,l,ct,osl,rfl,lk,hcd⟩:=D.F.ex;refine zua lk hcd S (fun vs H Q E h=>?_) fun A outer s H vs Q E hr h=>?_
 ·obtain⟨hd,O,ts,n,R,G,r,_,_,_,Y,_⟩:=h;rw[r.length,Y,hm]
 ·obtain⟨hd,O,ts,n,R,G,r,hn,dom,hx,Y,hg,hq,hE⟩:=h;obtain⟨d,⟨t,pt,ht⟩,hd'⟩:=hb f l A outer s H E hr;obtain⟨S0,no⟩:=zg1 (N:=N) r hn dom hx;refine⟨t,pt,ht ⟨hd,O⟩ _ _ H n _ _ S0 (hd' ts n R G Y hg) ⟨fun ρ' σ' J u h S' I=>?_,fun t u v J h y I rp=>?_,fun _ _ _ _ h=>h.elim,fun _ _ _ _ h=>h.elim,fun c u J h y I C hC=>?_⟩⟩
  ·exact hq .none u .non J h (fun a o L U=>(I a o L U (no a)).1) S'.hnd .non
  ·exact hq t u v J h (fun a o L U=>I a o L U (no a)) y rp
  ·exact znF (hE c u J C h (fun a o L U=>I a o L U (no a)) y hC)
theorem FQX.nox{Z:ZZ}{x:Str}{st:dg}{ps:List Str}{k m:Nat}{g:GX}(F:FQX Z x st ps k m g):FQ Z x st ps k (spD Z.K m fun ts n R=>g ts n R fun _ _=>False):=by
 obtain⟨f,fd,D,G⟩:=F;have up:∀{l H Q E},spD Z.K m (fun ts n R=>g ts n R fun _ _=>False) l H Q E->spX Z.K Z.mg m g l H Q (fun _ _ _=>False):=fun {l H Q E} h=>by
  obtain⟨hd,O,ts,n,R,r,I,dom,hx,u,J,C⟩:=h;exact⟨hd,O,ts,n,R,_,r,I,dom,hx,u,J,C,fun _ _ _ _ h=>h.elim⟩
 refine⟨f,fd,D,⟨fun l H Q E h=>G.len l H Q _ (up h),fun A outer s H args U l Q E L N S v y=>?_⟩⟩
 refine gA (G.run A outer s H args U l Q (fun _ _ _=>False) L N S v (up y)) fun r s' h=>?_
 cases r with
 | error e=>obtain⟨_,_,_,_,_,_,_,z⟩:=h;exact z.elim
 | ok fl=>cases fl <;> exact h
end Bd
namespace L2
open PySem PySem.Spec PyProof.Rows
section
variable{X:Cx}{e e1:aT}{es:List aT}{x y:Str}{pos p1 p2 p3 p4 p5 p6:Pos}{d:DTE}{ks:List Str}{ds:DTA}{i m n:Nat}
def zr3(i:Nat)(v:List (Str×GX))(d:DTE)(ds:DTA):DTS:=fun D l n=>d l n fun t u=>lStr t fun z=>l[i]?=some none/\∃q∈v,q.1=z/\ds l u fun ts C=>q.2 ts C D.rt D.xr
def UU(X:Cx)(ks:List Str)(n m:Nat)(l:List (Str×GX)):Prop:=∀q∈l,q.1∈ks/\∃st ps k,k<=n/\Bd.FqX X.prog X.w X.K X.mg X.base q.1 st ps k (spX X.K X.mg m q.2)
theorem UU.nil{X:Cx}{ks:List Str}{n m:Nat}:UU X ks n m []:=fun _ h=>nomatch h
theorem UU.cons{X:Cx}{ks:List Str}{n m k:Nat}{st:dg}{ps:List Str}{x:Str}{g:GX}{u:List (Str×GX)}(F:Bd.FqX X.prog X.w X.K X.mg X.base x st ps k (spX X.K X.mg m g))(r:UU X ks n m u)(hx:x∈ks:=by decide +kernel)(v:k<=n:=by decide):UU X ks n m ((x,g)::u):=fun q l=>by
 rcases aw.mp l with rfl|l
 ·exact⟨hx,st,ps,k,v,F⟩
 ·exact r q l
theorem zoK(M:Bd.StF X.prog X.w X.K X.mg x ks){tb:List (Str×GX)}(F:UU X ks n m tb)(hr:Room n X.A)(hN:X.N.Nodup)(h:DE X e d)(I:DB X (e1::es) ds)(hm:(e1::es).length=m:=by rfl)(hi:X.N[i]?=some y:=by rfl)(hl:Loc X.env.scope y:=by first|exact dE rfl|exact tq rfl)
  (hs:swapsWith (.Subscript (.Name x p1) e p2) (some (.Name y p3)) p4.line X.env=pure false:=by rfl) (hf:X.fn y=true\/X.env.scope.names.lookup y=some .local:=by walk_at "F") (hg:Gl X x:=by rfl) (hsl:NoSl e:=by intro _ _;rfl)
  (hd:(x == ("__debug__":Str))=false:=by rfl) (hv:Vis X.env.scope y:=by walk_at "V") (hd2:(y == ("__debug__":Str))=false:=by rfl) (hcd:(y == ("__classdict__":Str))=false:=by rfl) :
  DSs X [.Assign [.Name y p3] (.Subscript (.Name x p1) e p2) p4,.Return (some (.Call (.Name y p5) (e1::es) [] p6)) pos] (zr3 i tb d ds):=by
 obtain⟨ta,pa,h⟩:=h;obtain⟨tb',pb,I⟩:=I;refine⟨_,QH (QK hN hi hl (zpV M hg pa hsl hd) hs hf) (Ye (ZO (zn6 pb hi hv hd2 hcd))),fun C J σ H n0 D D' S hw g=>?_⟩
 refine h C J σ H n0 _ _ S hw fun t n1 v H1 U e1 h1 q1=>?_
 cases t with
 | str z =>
  obtain⟨ho,q,mq,rfl,U⟩:=U;obtain⟨mk,st,ps,k,hk,f,fd,Df,G⟩:=F q mq;refine⟨_,q1.strI,mk,fun L ef=>?_⟩
  have:L=f:=by have:=Df.m.symm.trans ef;cases this;rfl
  subst this;have S1:=(S.on e1 h1).hole (v:=.ref L) ho;have li:i<σ.length:=by
   have:i<J.length:=(av.mp ho).1;rw[<- S.len];exact this
  refine⟨q.1,st,L,fd,k,ps,_,by rw[cw li],Df,G,hr.mono hk,?_⟩
  refine I C J _ H1 n1 _ _ S1 U fun ts n2 vs H2 r2 Z h2 q2 l2=>?_
  have S2:=S1.on Z h2;refine⟨C.hd,Own C J (σ.set i (some (V.ref L))),ts,n2,D'.rt,D'.xr,q2,h2,fun a=>S2.lst,fun a z=>.inl (S.hx a z),l2.trans hm,r2,fun t Y v H' rt e3 h3 q3=>?_,fun c Y H' Cc rx e3 h3 hC=>?_⟩
  ·exact g.rt t Y v H' rt h3 (fun a o I nh _=>(e1.trans (Z.trans e3)) a o I nh) (q3.mono (fun _ _ _ z=>.inl z) fun _ _ _ z=>z)
  ·exact⟨Cc,rfl,g.xr c Y H' rx h3 (fun a o I nh _=>(e1.trans (Z.trans e3)) a o I nh) Cc hC⟩
 | _=>exact U.elim
end
section
variable{i:Nat}{tb:List (Str×GX)}{d:DTE}{ds:DTA}{D:JU}{ρ:En}{n:Nat}
instance zxi:Stp (zr3 i tb d ds D ρ n) (d ρ n fun t n1=>lStr t fun z=>ρ[i]?=some none/\∃q∈tb,q.1=z/\ds ρ n1 fun ts n2=>q.2 ts n2 D.rt D.xr):=⟨fun h=>h⟩
end
theorem isiF{f:af->Bool}{b:Bool}{t:af}{R:af->Prop}(p:Pln t)(e:f t=b)(h:R (.bool b)):lIsi f t R:=⟨p,e▸h⟩
theorem zou{d:af}(h:isTup d=true):∃ts,d=.tuple ts:=by
 cases d with
 | tuple ts=>exact⟨ts,rfl⟩
 | _=>cases h
theorem zwd{l:qD}(h:l.length=2):∃a b,l=[a,b]:=by
 cases l with
 | nil=>cases h
 | cons a t =>
  obtain⟨b,e⟩:=List.length_eq_one_iff.mp (tf h);exact⟨a,b,e▸rfl⟩
end L2
namespace L2
open PySem PySem.Spec PySem.W PySem.Calls PyProof.Rows
section
variable{X:Cx}{pins:qO}{σ:St}{H H':Hp}{s:au}
theorem Inv.adopt{a:ak}{o:HO}(I:Inv X pins σ H s)(C:H a=none)(h0:X.s₀.heap.get? a=none)(l:a≠X.env.locals)(hc:∀x c,X.env.cells.lookup x=some c->c≠a)(v:∀p∈X.pn++pins,p.1≠a)
  (new:JL X.prog X.w (upd H a o) s.heap a o):Inv X pins σ (upd H a o) s:=by
 have up:∀b u,H b=some u->upd H a o b=some u:=fun b u e=>by rw[Js (QF e C)];exact e
 refine⟨I.ok,I.os,I.bare,⟨I.base.keep,I.base.slot,fun b u e n hx=>?_,I.base.there,fun b xs e=>up b _ (I.base.tups b xs e),fun b u xs e=>up b _ (I.base.frzs b u xs e),fun b q e=>up b _ (I.base.tbls b q e)⟩,I.loc,I.cell,?_,fun x c e=>?_,fun p h=>?_,fun b u e=>?_,I.len⟩
 ·rw[Js fun z=>by rw[z,h0]at e;cases e]
  exact I.base.free b u e n hx
 ·rw[Js l.symm];exact I.free
 ·rw[Js (hc x c e)];exact I.freeC x c e
 ·have q:=I.pin p h;exact⟨q.1,by rw[Js (v p h)];exact q.2.1,q.2.2⟩
 ·by_cases hb:b=a
  ·subst hb;rw[JN]at e;cases e;exact new
  ·rw[Js hb]at e;exact(I.hok b u e).stay (fun _ _ _ q=>q) (fun d q=>up d _ q) (fun d xs q=>up d _ q) fun d G xs q=>up d _ q
theorem Inv.unbound{i:Nat}{n:Str}{h':aS}{t':Nat}{v:Option ah}{m:qM}(I:Inv X pins σ H s)(hN:X.N.Nodup)(hi:X.N[i]?=some n)(hk:X.env.kindOf n=some .local)(hm:s.heap.Ns X.env.locals m)
  (hn:h'.Ns X.env.locals (fun x=>if x=n then v else m x)) (hs:dO X.env.locals s.heap h'):Inv X pins (σ.set i none) H { s with heap:=h',toks:=t' }:=by
 have Y:Inv X pins (σ.set i none) H s:=I.weak (by simp) fun j u e=>by
  rw[gH]at e;split at e
  ·split at e <;> cases e
  ·exact e
 obtain⟨m0,J,Z⟩:=id Y.loc;have em:m0=m:=by
  obtain⟨o,es,ep,e,d,_,r⟩:=J;obtain⟨L,es',ep',U,d',_,r'⟩:=hm;rw[e]at U;cases U;rw[d]at d';cases d'
  funext n
  rw[<- r n,r' n]
 subst em;have kp:∀b o,b≠X.env.locals->s.heap.get? b=some o->h'.get? b=some o:=fun b o C e=>(hs.2 b C).trans e
 have fr:∀b u,H b=some u->b≠X.env.locals:=fun b u e z=>by rw[z,I.free]at e;cases e
 refine⟨I.ok,I.os,I.bare,⟨fun b o e G C hx=>?_,fun b o e G C hx=>?_,I.base.free,fun b o e hx=>?_,I.base.tups,I.base.frzs,I.base.tbls⟩,⟨_,hn,fun j x u N R e3=>?_⟩,fun x c e=>?_,I.free,I.freeC,fun p hp=>?_,fun b u e=>?_,Y.len⟩
 ·exact kp b o (aF (aC (aA e) I.ok.above)) (I.base.keep b o e G C hx)
 ·obtain⟨sl,q⟩:=I.base.slot b o e G C hx;exact⟨sl,kp b _ (aF (aC (aA e) I.ok.above)) q⟩
 ·obtain⟨L,q⟩:=I.base.there b o e hx;exact⟨L,kp b L (aF (aC (aA e) I.ok.above)) q⟩
 ·obtain⟨w,r,l⟩:=Z j x u N R e3;refine⟨w,r,?_⟩;rcases l with⟨k,e⟩|⟨k,c,e,z⟩
  ·refine .inl ⟨k,?_⟩;have:x≠n:=fun z=>by
    subst z;have:=zgu hN N hi;subst this;rw[cw (by
     have:=(av.mp N).1;rw[I.len];exact this)]at R
    cases R
   show(if x=n then v else m0 x)=some w
   rw[if_neg this];exact e
  ·obtain⟨o,S,hd⟩:=z;exact .inr ⟨k,c,e,o,kp c o (I.cne x c e) S,hd⟩
 ·obtain⟨v',o,S,hd⟩:=I.cell x c e;exact⟨v',o,kp c o (I.cne x c e) S,hd⟩
 ·have q:=I.pin p hp;exact⟨kp p.1 p.2 q.2.2.1 q.1,q.2⟩
 ·refine(I.hok b u e).stay (fun c w hc q=>kp c w ?_ q) (fun _ q=>q) (fun _ _ q=>q) fun _ _ _ q=>q
  rcases hc with rfl|hc
  ·exact fr _ _ e
  ·exact fr _ _ hc
end
def SubK(l K:qF):Prop:=∀a o,l.lookup a=some o->K.lookup a=some o
theorem SubK.in{l K:qF}{h:aS}(s:SubK l K)(x:K.In h):l.In h:=fun a o e=>x a o (s a o e)
def Cx.marked(X:Cx)(e:ah):Cx:={ X with A:=X.A.mark (some e),calm:=false,xe:=fun _ _=>False }
section
variable{X:Cx}{pins:qO}{σ:St}{H H':Hp}{s:au}{e:ah}
theorem Inv.marked(I:Inv X pins σ H s):Inv (X.marked e) pins σ H s :=
 ⟨⟨I.ok.mod,I.ok.kind,I.ok.glob,I.ok.blt,I.ok.above,I.ok.inj,I.ok.has,I.ok.cab,(fun z=>by cases z),I.ok.frames,I.ok.stk,I.ok.exf,I.ok.bs,I.ok.bsz,I.ok.noex,I.ok.exfs,I.ok.funs,I.ok.frf⟩,I.os,I.bare,I.base,I.loc,I.cell,I.free,I.freeC,I.pin,I.hok,I.len⟩
theorem Inv.unmarked(ok:X.Ok)(I:Inv (X.marked e) pins σ H s):Inv X pins σ H s :=
 ⟨ok,I.os,I.bare,I.base,I.loc,I.cell,I.free,I.freeC,I.pin,I.hok,I.len⟩
end
section
variable{X:Cx}{k i ie:Nat}{f Dc:ak}{fd:cK}{ps:List Str}{sp:Sp}{fn T en x:Str}{st:dg}{e:aT}{es:List aT}{t:TA}{p p1 p2 p3 p4 p5 p6 pos:Pos}
def tTry(X:Cx)(i ie:Nat)(Dc:ak)(sp:Sp)(t:TA):TS:=fun D σ H=>t σ H fun I y=>sp I y (fun _ u=>D.nx σ u)
 fun G _ u=>∃C,G=.ref C/\(∃v,SubK v X.K/\exmOne v (.ref C) (.ref Dc)=some true)/\∀l,u l=none->D.nx (((σ.set ie (some (.ref l))).set i (some (.ref l))).set ie none) (upd u l (EXO l C))
theorem zse(D:Bd.Def X.K X.mg fn st ps f fd)(F:FnOk X.prog X.w X.K X.mg X.base (CX1 X.prog X.w) k f fd ps sp)(hr:Room k X.A)(ha:PB X.nox (e::es) t)(hc:X.calm=true)(hst:X.stack=X.env::X.outer)(hfr:X.env.frame=some X.env.locals)
  (hT:X.mg T=some (.ref Dc)) (hN:X.N.Nodup) (hi:X.N[i]?=some x) (L:X.N[ie]?=some en) (hne:i≠ie) (hx:Loc X.env.scope x) (hen:X.env.kindOf en=some .local) (Y:X.env.scope.names.lookup en=some .local) (hx0:X.ex=[]) (hg:Gl X fn) (hgT:Gl X T)
  (hdb:(fn == ("__debug__":Str))=false) (hdT:(T == ("__debug__":Str))=false) (hde:(en == ("__debug__":Str))=false) (hce:(en == ("__classdict__":Str))=false)
  (hsw:swapsWith (.Call (.Name fn p1) (e::es) [] p2) none p3.line X.env=pure false) (ID:swapsWith (.Name en p6) (some (.Name x p5)) p4.line X.env=pure false) (hf:X.fn x=true\/X.env.scope.names.lookup x=some .local) (hfe:X.fn en=true\/X.env.scope.names.lookup en=some .local) :
  PS X (.Try [.Expr (.Call (.Name fn p1) (e::es) [] p2) p3] [.ExceptHandler (some (.Name T p)) (some en) [.Assign [.Name x p5] (.Name en p6) p4] pos] [] [] pos) (tTry X i ie Dc sp t):=by
 intro pins s σ H De I h;have hA:X.A.frames=some (X.env::X.outer):=by rw[<- hst];exact I.ok.frames
 refine wpAny_Try_except ?_;refine i6 (oj ?_ I.quiet hsw);refine fh (Yd I hg D.m ?_ hdb);refine iA (h₀:=X.base) I.ok.mod.kin D.F.kp ?_ ha.hd.1 (ha.hd.2 p2);refine cT (ha.pa p2 pins s σ H _ (I.wish _) h) (fun us s1 hu=>?_) fun _ _ z=>cc z
 obtain⟨vs,H1,U,r,q⟩:=hu;have U:=U.unwish;refine⟨U.kIn,?_⟩;have hl:us.length=ps.length:=by rw[<- r.length];exact F.len _ _ _ _ q
 refine lT (gA (F.run X.A X.stack s1 H1 ⟨us,[]⟩ us vs _ _ hr U.env0 (by have:=D.b s1 us U.kIn (by rw[bK];exact hl);rwa [bK]at this) r q) fun rs s2 hq=>?_)
 cases rs with
 | ok fl =>
  cases fl with
  | ret u =>
   obtain⟨v,H2,J,_,hn⟩:=U.after hq;exact fv (fv ⟨σ,H2,J,hn⟩)
  | next=>exact cc hq
  | brk=>exact cc hq
  | cont=>exact cc hq
 | error ev =>
  obtain⟨G,C,H2,rfl,os,bare,⟨B,a0,fl,ne,nn,st'⟩,C',eC,⟨K0,sK,hex⟩,hnx⟩:=hq;cases eC;have hnx:=hnx G ne;rw[hst]at fl;refine wpAny_looks_onW hA hfr fl fun h3 held up3=>?_
  refine wpAny_landsW held fun h4 fl4 up4=>?_
  have inv:∀R,mG B (X.env::X.outer) G (.ref C) a0 R->s2.heap.UpToSlots R->Inv X pins σ H2 { s2 with heap:=R }:=fun R f5 u5=>by
   obtain⟨un,hk⟩:=st' R f5.1 u5;obtain⟨hh,g,d,tk,os'⟩:=s2;obtain rfl:os'=s1.os:=os;show Inv X pins σ H2 { s1 with heap:=R,gens:=g,drawn:=d,toks:=tk }
   exact U.call (h':=R) (g':=g) (d':=d) (t':=tk) (ch:=[]) un hk bare (fun b z=>absurd z (by simp))
  have J4:=inv h4 fl4 (up3.trans up4);have LT:∀R,mG B (X.env::X.outer) G (.ref C) a0 R->si (model X.prog X.w) R (typeOf (.ref G)) (.ref C):=fun R f5=>by
   obtain⟨ob,ho,hc⟩:=f5.there;exact hc▸(Ae ho).andThen .now
  refine wpAny_handleBy_cons (codeAny_handlers_test ?_) (by intro z;cases z)
  refine fH J4.ok.kind hgT (i5 (by rw[J4.ok.glob];exact J4.mod.glob.keeps J4.bk) hT ?_) hdT
  refine(exm_one (sK.in J4.kIn) (LT h4 fl4) hex).here ?_;refine codeAny_handlers_suite_as (lands_againW fl4 fun R fl5 up5=>?_)
  have J5:=inv R fl5 ((up3.trans up4).trans up5);obtain⟨_,_,_,oe,ws,T',oT,ts,he,⟨hcl,_⟩,hdt,_⟩:=fl5;have nL:G≠X.env.locals:=fun z=>by
   obtain⟨m,⟨o,_,_,q,_⟩,_⟩:=U.loc;rw[<- z,nn]at q;cases q
  have nC:∀y c,X.env.cells.lookup y=some c->c≠G:=fun y c hc z=>by
   obtain⟨v,o,q,_⟩:=U.cell y c hc;rw[z,nn]at q;cases q
  have n0:X.s₀.heap.get? G=none:=by
   cases q:X.s₀.heap.get? G with
   | none=>rfl
   | some o =>
    obtain⟨o',z⟩:=U.base.there G o q (by rw[hx0];simp)
    rw[nn]at z;cases z
  have nP:∀p∈X.pn++pins,p.1≠G:=fun p hp z=>by
   have q:=(U.pin p hp).1;rw[z,nn]at q;cases q
  have J6:=J5.adopt (o:=EXO G C) ne n0 nL nC nP ⟨⟨oe,he,hcl,ws,hdt⟩,⟨oe,he⟩,fun h1 h2 z k=>by
   obtain⟨o,z1,z2⟩:=z;exact⟨o,k o z1,z2⟩⟩
  refine Zh (v:=.ref G) J6 hN L (.inl Y) rfl (fun s6 J7=>?_) hfe
  refine cT (Ye (show PS (X.marked (.ref G)) (.Assign [.Name x p5] (.Name en p6) p4) (tAsg (tVar ie) (ZA i)) from QK hN hi hx (Q8 L (.inl Y) hde hce) ID hf) pins s6 (σ.set ie (some (.ref G))) (upd H2 G (EXO G C))
   { nx:=fun σ' H'=>σ'=(σ.set ie (some (.ref G))).set i (some (.ref G))/\H'=upd H2 G (EXO G C),rt:=fun _ _=>False } J7.marked ⟨.ref G,?_,rfl,rfl⟩) (fun fl s7 hs=>?_) fun _ _ z=>cc z
  ·rw[cw];have:=(av.mp L).1;rw[I.len];exact this
  cases fl with
  | ret u=>obtain⟨_,_,_,_,_,z⟩:=hs;exact z.elim
  | brk=>obtain⟨_,_,_,z⟩:=hs;exact z.elim
  | cont=>obtain⟨_,_,_,z⟩:=hs;exact z.elim
  | next =>
  obtain⟨σ',H',J8,rfl,rfl⟩:=hs;have J8:=J8.unmarked I.ok;refine ae (kT (Zh (v:=.non) J8 hN L (.inl Y) rfl (fun s8 J9=>?_) hfe))
  obtain⟨m,hm,hlo⟩:=id J9.loc;have li:ie<((σ.set ie (some (V.ref G))).set i (some (V.ref G))).length:=by
   have:=(av.mp L).1;rw[fw,fw,I.len];exact this
  have some':(m en).isSome=true:=by
   obtain⟨u,ru,lu⟩:=hlo ie en .non L (by rw[cw li]) (.inl Y)
   rcases lu with⟨_,z⟩|⟨z,_⟩
   ·rw[z];rfl
   ·rw[hen]at z;rcases z with z|z <;> cases z
  have hp:(X.env.scope.kind == .class||(X.env.scope.kind == .module&&X.env.locals != X.env.globals))=false:=by rw[I.ok.kind];rfl
  unfold unbindBehindTheSuite;refine hU ?_;unfold unbindName;refine ae (wpAny_point (ae ?_));unfold deleteName;simp only[hen,hp];rw[if_neg (by decide)]
  refine ae (wpAny_nsDel_keeps hm fun h₂ v hn₂ Z=>?_)
  simp only[some',dS,aH,if_false];refine aj (wpAny_point ?_);have J10:=J9.unbound (t':=s8.toks) hN L hen hm hn₂ Z;rw[List.set_set]at J10;exact⟨_,_,J10,hnx⟩
end
def zkg(K:qF)(mg:qM)(cs:List Str)(T:Str):Prop:=∃u,mg T=some (.ref u)/\∀c∈cs,∀C,mg c=some (.ref C)->∃l,SubK l K/\exmOne l (.ref C) (.ref u)=some true
def sTry(mg:qM)(cs:List Str)(i ie:Nat)(g:GX)(ds:DTA):DTS:=fun D u n=>u[ie]?=some none/\ds u n fun ts y=>g ts y (fun _ x=>D.nx u x) fun c x=>c∈cs/\∀C,mg c=some (.ref C)->D.nx (u.set i (some (.val (EXC C)))) x
section
variable{K:qF}{C:Ctx}{ρ:En}{σ:St}{H:Hp}{n:Nat}
theorem zlQ{i:Nat}(hi:ρ[i]?=some none):Own C ρ (σ.set i none) a↔Own C ρ σ a:=by
 have key:OwnS ρ (σ.set i none) a↔OwnS ρ σ a:=by
  constructor <;> rintro⟨j,c,m,l,u⟩ <;> refine⟨j,c,m,l,?_⟩ <;>
  ·have ne:i≠j:=fun z=>by subst z;rw[hi]at l;cases l
   first|(rw[aQ ne]at u;exact u)|(rw[aQ ne];exact u)
 exact or_congr aP key
theorem Stt.hole0{i:Nat}(hi:ρ[i]?=some none)(S:Stt K C ρ σ H n):Stt K C ρ (σ.set i none) H n:=by
 have l:Own C ρ (σ.set i none)=Own C ρ σ:=funext fun a=>propext (zlQ hi)
 have ne:∀{j:Nat} {c:Cell},ρ[j]?=some (some c)->(σ.set i none)[j]?=σ[j]?:=fun {j c} h=>aQ fun z=>by subst z;rw[hi]at h;cases h
 refine⟨by rw[fw];exact S.len,fun j d h=>?_,fun j d h=>?_,fun j d h=>?_,fun j d h=>?_,fun j d h=>?_,fun j k c e a I G v u x y=>?_,S.hnd,S.ext,S.hx⟩
 ·rw[l,ne h];exact S.val j d h
 ·rw[l,ne h];exact S.own j d h
 ·rw[l,ne h];exact S.dct j d h
 ·rw[l,ne h];exact S.rdo j d h
 ·rw[l,ne h];exact S.dtt j d h
 ·rw[ne v]at x;rw[ne u]at y;exact S.dif j k c e a I G v u x y
end
section
variable{X:Cx}{k n m i ie:Nat}{ps:List Str}{fn T en x:Str}{st:dg}{e:aT}{es:List aT}{ds:DTA}{p p1 p2 p3 p4 p5 p6 pos:Pos}{g:GX}{cs:List Str}
theorem zuf(i ie:Nat)(F:Bd.FqX X.prog X.w X.K X.mg X.base fn st ps k (spX X.K X.mg m g))(M:zkg X.K X.mg cs T)(hr:Room n X.A)(hN:X.N.Nodup)(h:DB X.nox (e::es) ds)(hk:k<=n:=by decide)(hm:(e::es).length=m:=by rfl)(hc:X.calm=true:=by rfl)(hst:X.stack=X.env::X.outer:=by rfl)(hfr:X.env.frame=some X.env.locals:=by rfl)
  (hi:X.N[i]?=some x:=by rfl) (hie:X.N[ie]?=some en:=by rfl) (Y:i≠ie:=by decide) (hx:Loc X.env.scope x:=by first|exact dE rfl|exact tq rfl) (hen:X.env.kindOf en=some .local:=by rfl) (hel:X.env.scope.names.lookup en=some .local:=by rfl) (hx0:X.ex=[]:=by rfl) (hg:Gl X fn:=by rfl) (hgT:Gl X T:=by rfl)
  (hdb:(fn == ("__debug__":Str))=false:=by rfl) (hdT:(T == ("__debug__":Str))=false:=by rfl) (hde:(en == ("__debug__":Str))=false:=by rfl) (hce:(en == ("__classdict__":Str))=false:=by rfl)
  (hsw:swapsWith (.Call (.Name fn p1) (e::es) [] p2) none p3.line X.env=pure false:=by rfl) (ID:swapsWith (.Name en p6) (some (.Name x p5)) p4.line X.env=pure false:=by rfl) (hf:X.fn x=true\/X.env.scope.names.lookup x=some .local:=by walk_at "F") (hfe:X.fn en=true\/X.env.scope.names.lookup en=some .local:=by walk_at "F") :
  DS X (.Try [.Expr (.Call (.Name fn p1) (e::es) [] p2) p3] [.ExceptHandler (some (.Name T p)) (some en) [.Assign [.Name x p5] (.Name en p6) p4] pos] [] [] pos) (sTry X.mg cs i ie g ds):=by
 obtain⟨f,fd,D,G⟩:=F;obtain⟨Dc,hT,hM⟩:=M;obtain⟨ta,pa,h⟩:=h;refine⟨_,zse D G (hr.mono hk) pa hc hst hfr hT hN hi hie Y hx hen hel hx0 hg hgT hdb hdT hde hce hsw ID hf hfe,fun C L σ H n De D' S hw gd=>?_⟩
 obtain⟨ho,hw⟩:=hw;refine h C L σ H n _ _ S hw fun ts n1 vs H1 r1 e1 h1 q1 l1=>?_
 have S1:=S.on e1 h1;refine⟨C.hd,Own C L σ,ts,n1,_,_,q1,h1,fun a=>S1.lst,fun a z=>.inl (S.hx a z),l1.trans hm,r1,fun t n' v H' rt U h2 q2=>gd.nx L σ H' n' rt (S1.on U h2) ((e1.trans U).keep),fun c n' H' J rx U h2 hC=>⟨J,rfl,hM c rx.1 J hC,fun Z u=>?_⟩⟩
 have S2:=S1.on U h2;have e3:ExtE C.hd H (upd H' Z (EXO Z J)):=(e1.trans U).trans (ExtE.new u);have S3:=S2.on (ExtE.new (o:=EXO Z J) u) (h2.same (JP u));have S4:=S3.hole (v:=.ref Z) ho;have li:ie<σ.length:=by
  have:ie<L.length:=(av.mp ho).1;rw[<- S.len];exact this
 have S5:=S4.put (i:=i) (v:=.ref Z) (t:=EXC J) (.exc JN fun z=>S2.free u ((zjy ho).mp z))
 have R:(L.set i (some (Cell.val (EXC J))))[ie]?=some none:=by rw[aQ Y];exact ho
 refine gd.nx _ _ _ n' (rx.2 J hC) (S5.hole0 R) fun a o ha nh no=>⟨e3 a o ha nh,fun⟨j,c',mc,I,z2⟩=>no ⟨j,c',mc,?_,?_⟩⟩
 all_goals
  have nj:ie≠j:=fun z=>by subst z;rw[R]at I;cases I
  have ni:i≠j:=fun z=>by
   subst z
   by_cases hl:i<L.length
   ·rw[cw hl]at I;cases I;cases mc
   ·rw[bX (by rw[fw];omega)]at I;cases I
 ·rw[aQ ni]at I;exact I
 ·rw[aQ nj,aQ ni,aQ nj]at z2;exact z2
end
end L2
namespace L2
open PySem PySem.Spec PySem.W PySem.Calls PyProof.Rows Builtin Builtin.ObjectAttr Builtin.Getset_descriptor
def ExAt(x C:ak)(h:aS):Prop:=∃o,h.get? x=some o/\o.cls=.ref C
def clsB(K:qF)(D:ak):Bool:=(clsIn K D).isSome&&(findIn K (.ref D) "__getattribute__" == some (some (.builtin "BaseException.__getattribute__")))&&(findIn K (.ref D) "__getattr__" == some none)&&(findIn K (.ref D) "__class__" == some (some (.builtin "object.__class__")))
 && (specialIn K (.builtin "object.__class__") "__get__" == some (some (.builtin "getset_descriptor.__get__")))&&(takesIn K (.builtin "object.__class__") == some true)&&(mroIn K D (.type "object") == some true)&&(mroIn K D (.type "BaseException") == some true)
section
variable{K:qF}{x D:ak}
theorem ExAt.type{M:rO}{h:aS}(I:ExAt x D h):si M h (typeOf (.ref x)) (.ref D):=by
 obtain⟨o,l,hc⟩:=I;exact hc▸(Ae l).andThen .now
theorem zk4{prog:aI}{w:aU}{A:bw}{s:au}{R:mX->au->Prop}{C:ah}(X:K.In s.heap)(I:ExAt x D s.heap)(v:mroIn K D (.type "object")=some true)
  (h:R (.ok (.ret (.ref D))) s):codeAny (model prog w) A (.call (.builtin "getset_descriptor.__get__") ⟨[.builtin "object.__class__",.ref x,C],[]⟩) R s:=by
 obtain⟨G,g,L,t,os⟩:=s;have N:si (model prog w) G (typeOf (.ref x)) (.ref D):=I.type;have J:=looks_mroIn (M:=model prog w) X v;refine lB KF.slot_gs.plain KF.entry_gs (KF.slot_gs.check _ _ _ _ _ _ _ _ KF.type_class (KF.args_gs _ _ _) ?_);unfold fM.«getset_descriptor.__get__» descrGet;rw[dga_obj];refine ae (aj ?_);unfold descrGetter descrCheckInstance descrNameAndClass isInstance
 simp only[KF.owner_class]
 repeat lk
 refine⟨lX _ (by decide +kernel),kJ KF.entry_class ?_⟩
 unfold fM.«object.__class__» shownTypeOf
 repeat lk
 exact h
theorem zk_{M:rO}{A:bw}{E:qV}{Q:Unit->au->Prop}{s:au}{m:Sem Unit}(e:m=pure ())(h:Q () s):wpAny M A m Q E s:=by rw[e];exact aj h
theorem zjE(hB:clsB K D=true):KitX K (.ref x) (.ref D) (ExAt x D):=by
 unfold clsB at hB;simp only[aG,beq_iff_eq]at hB;obtain⟨⟨⟨⟨⟨⟨⟨R,Y⟩,hgh⟩,S⟩,U⟩,htk⟩,hm⟩,L⟩:=hB;obtain⟨cdD,v⟩:=iU.mp R;refine⟨fun M h _ I=>I.type,fun M h X _=>?_,fun h tp dd its n sl X Z=>?_,fun {prog w A E Q s} X I k=>?_⟩
 ·unfold clsIn at v;split at v
  ·rename_i c' d' J sl' ho;intro A' Q' E' s' k q;unfold isType loadHead;exact ae (wpAny_loadPart (k _ _ (X _ _ ho)) (aj q))
  ·cases v
 ·refine mS.mpr fun q=>?_
  have e:D=tp:=Value.ref.inj (beq_iff_eq.mp q);subst e;unfold clsIn at v;split at v
  ·rename_i c' d' J sl' ho;have z:=(X _ _ ho).symm.trans Z;cases z
  ·cases v
 ·obtain⟨C,g,d,t,os⟩:=s;have N:si (model prog w) C (typeOf (.ref x)) (.ref D):=I.type;have L1:=mT (M:=model prog w) X Y;have Lf:si (model prog w) C (find (.ref x) (.ref D) "__class__") (.bind (.builtin "getset_descriptor.__get__") (.builtin "object.__class__")):=by
   refine(mT X S).andThen ((show si (model prog w) C (getOf (some (.builtin "object.__class__"))) (some (.builtin "getset_descriptor.__get__")) from looks_specialIn X U).andThen ?_)
   exact(show si (model prog w) C (dataDescriptor? (some (.builtin "object.__class__")) (some (.builtin "getset_descriptor.__get__"))) (some (.builtin "getset_descriptor.__get__",.builtin "object.__class__")) from(looks_takesIn X htk).andThen .now).andThen (Looks.tag .now)
  have Lh:=mT (M:=model prog w) X hgh;have f3:=iJ.ga.bind (.ref x);have L2:=looks_mroIn (M:=model prog w) X L;have hk:builtinKind "BaseException.__getattribute__" = some .slot:=by decide +kernel
  have IE:splitId "BaseException.__getattribute__" = some ("BaseException","__getattribute__"):=by decide +kernel
  unfold getAttr? getAttrBy? getAttrBy;refine ae (wpAny_mkText (ae (g9 (bU (ae (N.at (ae (L1.at ?_))))))));show wpAny _ _ (if (onTheHeap (b5 D)&&iY "BaseException.__getattribute__" == iY "object.__getattribute__")=true then _ else getAttrByItsOwn _ _ _ _ _ _) _ _ _
  have G:(iY "BaseException.__getattribute__" == iY "object.__getattribute__")=false:=by decide +kernel
  rw[if_neg (by rw[G,gO];decide)]
  unfold getAttrByItsOwn;refine ae (show wpAny _ _ (typeLookup (.ref D) "__getattr__") _ _ _ from Lh.at ?_)
  unfold callGetattribute boundAndCalled;rw[if_neg (by decide)]
  refine ae (g9 (bU (ae ?_)));rw[f3];refine aj ?_;refine lT (lB iJ.ga.plain PySem.F.entry_bexc_ga ?_);have ha:=PySem.F.args_bexc_ga (.ref x) (.str "__class__" t);simp only[checkBuiltinCall,hk,IE,cW,dm];unfold isInstance;refine ae (ae (N.at (L2.at ?_)));rw[if_neg (by decide)]
  refine zk_ ha ?_;unfold fM.«object.__getattribute__»;refine ae (aj (ae (aj (ae (N.at (ae (Lf.at ?_)))))));show wpAny _ _ (holding [.builtin "object.__class__"] (call (.builtin "getset_descriptor.__get__") [.builtin "object.__class__",.ref x,.ref D]) >>= ret) _ _ _
  refine ae (bU (lT (zk4 (s:=⟨C,g,d,t+1,os⟩) X I hm ?_)));refine aj ?_;exact handed_on rfl (aj k)
end
end L2
namespace L2
open PySem PySem.Spec PySem.W PySem.Calls PyProof.Rows
def excT(l:qF)(mg:qM)(cs ys:List Str)(T:Str):Bool:=cs.all fun c=>match mg c,mg T with
 | some (.ref C),some (.ref D)=>clsB l C&&(exmOne l (.ref C) (.ref D) == some true)&&(kitOne l (.ref C) (.type "ValueError") == some true)&&ys.all fun y=>match mg y with
  | some (.ref E)=>kitOne l (.ref C) (.ref E) == some (decide (c=y))
  | _=>false
 | _,_=>false
def Q3(K:qF)(mg:qM)(cs ys:List Str)(T:Str):Prop:=∃l,SubK l K/\((∃D,mg T=some (.ref D))/\∀y∈ys,∃E,mg y=some (.ref E))/\excT l mg cs ys T=true
section
variable{K:qF}{mg:qM}{cs ys:List Str}{T:Str}
theorem Q3.at(M:Q3 K mg cs ys T):∃l,SubK l K/\∀c∈cs,∀C,mg c=some (.ref C)->clsB l C=true/\(∀D,mg T=some (.ref D)->exmOne l (.ref C) (.ref D)=some true)/\kitOne l (.ref C) (.type "ValueError")=some true/\∀y∈ys,∃E,mg y=some (.ref E)/\kitOne l (.ref C) (.ref E)=some (decide (c=y)):=by
 obtain⟨l,sK,⟨⟨D,v⟩,_⟩,e⟩:=M;refine⟨l,sK,fun c hc C N=>?_⟩
 have e:=bp.mp e c hc;rw[N,v]at e;simp only[aG,beq_iff_eq]at e;obtain⟨⟨⟨J,L⟩,G⟩,u⟩:=e;refine⟨J,fun R h'=>by rw[v]at h';cases h';exact L,G,fun y x=>?_⟩
 have u:=bp.mp u y x;split at u
 ·rename_i E I;exact⟨E,I,beq_iff_eq.mp u⟩
 ·cases u
theorem Q3.under(M:Q3 K mg cs ys T):zkg K mg cs T:=by
 obtain⟨u,sK,h⟩:=M.at;obtain⟨_,_,⟨⟨D,l⟩,_⟩,_⟩:=M;exact⟨D,l,fun c hc C v=>⟨u,sK,(h c hc C v).2.1 D l⟩⟩
end
theorem Rep.excI{K:qF}{hd:Option ak}{O:ak->Prop}{H:Hp}{v:V}{C:ak}(h:Rep K hd O H v (EXC C)):∃a,v=.ref a/\H a=some (EXO a C):=by
 generalize e:EXC C=d at h;cases h with
 | exc h _ =>
  simp only[EXC,iQ,gm,iW,PyData.int.injEq,true_and,and_true]at e;have e:=Int.ofNat.inj e;subst e;exact⟨_,rfl,h⟩
 | dct _ _=>cases e
 | dcK _ _ _ u=>cases e;exact(dict_noK u).elim
 | dcT _ _ _ u=>cases e;exact(dict_noT u).elim
 | hand _=>simp[HAND,EXC]at e
 | scr _ _=>simp[SCR,EXC]at e
 | scrS _=>simp[SCR,EXC]at e
 | _=>cases e
section
variable{X:Cx}
theorem zue{pins:qO}{σ:St}{H:Hp}{s:au}{a C:ak}(I:Inv X pins σ H s)(h:H a=some (EXO a C)):ExAt a C s.heap:=by
 obtain⟨⟨o,l,hc,_⟩,_⟩:=I.hok a _ h;exact⟨o,l,hc⟩
theorem zka:JO X (.builtin "isinstance") (fun xs H Q=>∃a C c w b v,xs=[.ref a,w]/\(w=.ty "ValueError" /\ c=bu "ValueError" \/ ∃D,w=.ref D/\c=b5 D)/\H a=some (EXO a C)/\SubK v X.K/\clsB v C=true/\kitOne v (.ref C) c=some b/\Q (.bl b) H):=by
 intro pins s σ H xs U Q I r h;obtain⟨a,C,c,w,b,v,rfl,hw,G,sK,L,e,q⟩:=h;cases r with
 | cons N x =>
  cases x with
  | cons R J =>
   cases J;cases N;have key:∀u,u=c->wpAny (model X.prog X.w) X.A (call (.builtin "isinstance") [.ref a,u]) (EP X pins σ Q) X.xe s:=fun u S=>by
    subst S;exact kia_one (zjE L) (sK.in I.kIn) (zue I G) e (fun z=>by cases z) fun tk=>⟨.bl b,H,I.tok tk,rfl,q⟩
   rcases hw with⟨rfl,rfl⟩|⟨D,rfl,rfl⟩ <;> exact key _ R
theorem znb:JO X (.builtin "isinstance") (fun xs H Q=>∃a C p L N v y x,xs=[.ref a,.ref p]/\H p=some (.tup [.ref L,.ref N])/\H a=some (EXO a C)/\SubK x X.K/\clsB x C=true/\kitOne x (.ref C) (.ref L)=some v/\kitOne x (.ref C) (.ref N)=some y/\Q (.bl (v||y)) H):=by
 intro pins s σ H xs us Q I r h;obtain⟨a,C,p,L,N,v,y,x,rfl,Y,S,sK,hB,e1,e2,q⟩:=h;cases r with
 | cons r1 R =>
  cases R with
  | cons r3 U =>
   cases U;cases r1;cases r3;obtain⟨_,its,G,⟨oc,od,dt,sl⟩,ho,hc,⟨n,hd⟩,J⟩:=I.hok p _ Y;cases G with
   | cons Z G =>
    cases G with
    | cons v2 G =>
     cases G;cases Z;cases v2;dsimp only at hc hd J;subst hc hd J;have e:kitAny x (.ref C) [.ref L,.ref N]=some (v||y):=by
      unfold kitAny;rw[e1];cases v with
      | true=>rfl
      | false =>
       dsimp only;unfold kitAny;rw[e2];cases y <;> rfl
     exact kia_tup (zjE hB) (sK.in I.kIn) (zue I S) ho e (fun z=>by cases z) fun tk=>⟨.bl (v||y),H,I.tok tk,rfl,q⟩
end
def lIsE(mg:qM)(cs:List Str)(f:Str->Bool)(t:af)(R:af->Prop):Prop:=∃c C,c∈cs/\mg c=some (.ref C)/\t=EXC C/\R (.bool (f c))
def dIsE(mg:qM)(cs:List Str)(f:Str->Bool)(d:DTE):DTE:=fun u n R=>d u n fun t l=>lIsE mg cs f t fun z=>R z l
theorem isE{mg:qM}{cs:List Str}{f:Str->Bool}{c:Str}{C:ak}{R:af->Prop}(hc:c∈cs)(u:mg c=some (.ref C))(h:R (.bool (f c))):lIsE mg cs f (EXC C) R:=⟨c,C,hc,u,rfl,h⟩
section
variable{X:Cx}{e:aT}{d:DTE}{y y1 y2 T:Str}{cs ys:List Str}{p p2 p3 p4 pos:Pos}{k:Nat}
theorem ziE{D:ak}(l:X.mg y=some (.ref D))(u:Gl X y)(hd:(y == ("__debug__":Str))=false):PE X (.Name y p) (tC (.ref D)):=fun pins s σ H Q I h=>Yd I u l ⟨.ref D,H,I,rfl,h⟩ hd
theorem zmU(M:Q3 X.K X.mg cs ys T)(I:y∈ys)(hm:X.mg "isinstance" = none) (h:DE X e d) (hs:starEach (e::[.Name y p2]) X.env=(false,eval e X.env)::starEach [.Name y p2] X.env) (hg:Gl X "isinstance":=by rfl) (x:Gl X y:=by rfl) (hd:(y == ("__debug__":Str))=false:=by rfl) :
  DE X (.Call (.Name "isinstance" p) [e,.Name y p2] [] pos) (dIsE X.mg cs (fun c=>decide (c=y)) d):=by
 obtain⟨ta,pa,h⟩:=h;obtain⟨K0,sK,hK⟩:=M.at;obtain⟨_,_,⟨_,Y⟩,_⟩:=M;obtain⟨D,L⟩:=Y y I;refine⟨_,UG zka hm V3 (Qg pa (ziF (ziE L x hd) QD) hs) hg,fun C ρ σ H n Q R S hd hq=>?_⟩
 refine h C ρ σ H n _ _ S hd fun t n1 v Z G e1 h1 U=>?_
 obtain⟨c,J,hc,hC,rfl,G⟩:=G;obtain⟨a,rfl,ha⟩:=U.excI;obtain⟨k1,k2,k3,k4⟩:=hK c hc J hC;obtain⟨E,u,k5⟩:=k4 y I;rw[L]at u;cases u;exact⟨a,J,.ref D,.ref D,_,K0,rfl,.inr ⟨D,rfl,rfl⟩,ha,sK,k1,k5,hq _ n1 _ Z G e1 h1 (.bl _)⟩
theorem zoV:bootBuiltins "ValueError" = some (.type "ValueError"):=by decide +kernel
theorem zuo(M:Q3 X.K X.mg cs ys T)(hm:X.mg "isinstance" = none) (J:X.mg "ValueError" = none) (h:DE X e d) (Y:starEach (e::[.Name "ValueError" p2]) X.env=(false,eval e X.env)::starEach [.Name "ValueError" p2] X.env) (hg:Gl X "isinstance":=by rfl) (u:Gl X "ValueError":=by rfl) :
  DE X (.Call (.Name "isinstance" p) [e,.Name "ValueError" p2] [] pos) (dIsE X.mg cs (fun _=>true) d):=by
 obtain⟨ta,pa,h⟩:=h;obtain⟨K0,sK,hK⟩:=M.at;refine⟨_,UG zka hm V3 (Qg pa (ziF (Bd.zso J zoV u) QD) Y) hg,fun C U σ H n Q R S hd hq=>?_⟩
 refine h C U σ H n _ _ S hd fun t Z v L x e1 h1 I=>?_
 obtain⟨c,G,hc,hC,rfl,x⟩:=x;obtain⟨a,rfl,ha⟩:=I.excI;obtain⟨k1,k2,k3,k4⟩:=hK c hc G hC;exact⟨a,G,.type "ValueError",.ty "ValueError",_,K0,rfl,.inl ⟨rfl,rfl⟩,ha,sK,k1,k3,hq _ Z _ L x e1 h1 (.bl _)⟩
theorem zq6(M:Q3 X.K X.mg cs ys T)(I:y1∈ys)(J:y2∈ys)(hm:X.mg "isinstance" = none) (h:DE X e d) (hs:starEach (e::[.Tuple [.Name y1 p2,.Name y2 p3] k p4]) X.env=(false,eval e X.env)::starEach [.Tuple [.Name y1 p2,.Name y2 p3] k p4] X.env)
  (hs2:starEach [.Tuple [.Name y1 p2,.Name y2 p3] k p4] X.env=[(false,eval (.Tuple [.Name y1 p2,.Name y2 p3] k p4) X.env)]:=by rfl) (hs3:starEach [.Name y1 p2,.Name y2 p3] X.env=(false,eval (.Name y1 p2) X.env)::starEach [.Name y2 p3] X.env:=by rfl) (hs4:starEach [.Name y2 p3] X.env=(false,eval (.Name y2 p3) X.env)::starEach [] X.env:=by rfl)
  (hg:Gl X "isinstance":=by rfl) (hg1:Gl X y1:=by rfl) (Z:Gl X y2:=by rfl) (hd1:(y1 == ("__debug__":Str))=false:=by rfl) (hd2:(y2 == ("__debug__":Str))=false:=by rfl) :
  DE X (.Call (.Name "isinstance" p) [e,.Tuple [.Name y1 p2,.Name y2 p3] k p4] [] pos) (dIsE X.mg cs (fun c=>decide (c=y1)||decide (c=y2)) d):=by
 obtain⟨ta,pa,h⟩:=h;obtain⟨K0,sK,hK⟩:=M.at;obtain⟨_,_,⟨_,hE⟩,_⟩:=M;obtain⟨D1,G⟩:=hE y1 I;obtain⟨D2,Y⟩:=hE y2 J;refine⟨_,UG znb hm V3 (Qg pa (Qg (zpb (QZ (ziE G hg1 hd1) (QZ (ziE Y Z hd2) UM hs4) hs3)) QD hs2) hs) hg,fun C ρ σ H n Q R S hd hq=>?_⟩
 refine h C ρ σ H n _ _ S hd fun t n1 v H1 r1 e1 h1 q1=>?_
 obtain⟨c,Cc,hc,hC,rfl,r1⟩:=r1;obtain⟨a,rfl,ha⟩:=q1.excI;obtain⟨k1,k2,k3,k4⟩:=hK c hc Cc hC;obtain⟨E1,U,k5⟩:=k4 y1 I;obtain⟨E2,L,k6⟩:=k4 y2 J;rw[G]at U;cases U;rw[Y]at L;cases L;refine⟨by show 2<=sizeLine;rw[kU];decide,fun q x=>?_⟩
 refine⟨a,Cc,q,D1,D2,_,_,K0,rfl,JN,?_,sK,k1,k5,k6,hq _ n1 _ _ r1 (e1.trans (ExtE.new x)) (h1.same (JP x)) (.bl _)⟩;rw[Js (QF ha x)];exact ha
instance zxq {mg:qM}{f:Str->Bool}{ρ:En}{n:Nat}{R:qN}:Stp (dIsE mg cs f d ρ n R) (d ρ n fun t n1=>lIsE mg cs f t fun z=>R z n1):=⟨fun h=>h⟩
instance zxk {mg:qM}{i ie:Nat}{g:GX}{ds:DTA}{D:JU}{ρ:En}{n:Nat}:Stp (sTry mg cs i ie g ds D ρ n) (ρ[ie]?=some none/\ds ρ n fun ts n1=>g ts n1 (fun _ n2=>D.nx ρ n2) fun c n2=>c∈cs/\∀C,mg c=some (.ref C)->D.nx (ρ.set i (some (.val (EXC C)))) n2):=⟨fun h=>h⟩
end
section
variable{X:Cx}{a:aT}{da:DTE}
theorem zl7:MtR X "list.index" (fun x xs H Q=>∃(l:ak) (bs:List Bool) (k:Bool),x=.ref l/\xs=[.bl k]/\SqL X.K H l (bs.map V.bl)/\k∈bs/\bs.length<=1000000/\Q (.int (bs.idxOf k:Nat)) H):=by
 intro pins s σ H x xs v us Q I rx rs h;obtain⟨l,bs,k,rfl,rfl,N,L,Z,q⟩:=h;cases rx;cases rs with
 | cons r1 Y =>
  cases Y;cases(show _=ee k from r1)
  obtain⟨C,R,p,sz⟩:=I.list N;have e:C=bs.map ee:=by
   clear p N L Z q sz;induction bs generalizing C with
   | nil=>cases R;rfl
   | cons b bs ih =>
    cases R with
    | cons a b=>cases(show _=ee _ from a);rw[ih _ b];rfl
  subst e;obtain⟨⟨cls,dd,data,sl⟩,S,hc,n,hd⟩:=p.isList;simp only at hc hd;subst hc hd;have hj:bs.idxOf k<bs.length:=iZ.mpr L;refine call_meets kb ⟨_,S,rfl⟩ PySem.F.entry_list_index (PySem.F.args_list_index_2 _ _)
   (rH l (bs.map ee).toArray n dd sl (.bool k) (fun u=>match u with|.bool b=>b == k|_=>false) (bs.idxOf k) (by simpa using hj) (by omega) ?_ ?_) ⟨S,fun y U=>?_,⟨.int _,H,I.tok _,⟨_,rfl⟩,q⟩⟩
  ·simp
  ·intro j J G;have hjb:j<bs.length:=by simpa using J
   have:bs[j]≠k:=fun z=>by
    have:=iZ.mpr L;exact absurd (List.not_of_lt_findIdx (p:=(· == k)) (xs:=bs) (i:=j) G) (by simp[z])
   simpa using this
  ·obtain⟨b,_,rfl⟩:=aN.mp (by simpa using U:y∈bs.map ee)
   exact oU b k
def zra(k:Bool)(d:DTE):DTE:=fun v n R=>d v n fun t u=>∃bs:List Bool,t=.list (bs.map bO)/\k∈bs/\bs.length<=1000000/\R (.int (bs.idxOf k:Nat)) u
theorem zmV{k:Bool}{j}{N p2 y:Pos}(h:DL X a da)(J:attributeBase a "index" X.env (eval a X.env)=eval a X.env:=by rfl) (I:(p2.endLine == y.line)=true:=by rfl):DE X (.Call (.Attribute a "index" p2) [.Constant (.bool k) j N] [] y) (zra k da):=by
 obtain⟨ta,pa,h⟩:=h;refine⟨_,zpY gv kb PySem.F.type_list_index zl7 pa (QZ zp0 UM rfl) J rfl I rfl rfl,fun C Y σ H n Q R S hd hq=>?_⟩
 refine h C Y σ H n _ _ S hd fun t Z v U r e1 h1 G=>?_
 obtain⟨bs,rfl,hk,L,r⟩:=r;obtain⟨p,vs,rfl,x,h3⟩:=G.lstI;rw[Vq h3]at x;exact⟨.inl ⟨rfl,_,SqL.of x⟩,p,bs,k,rfl,rfl,.of x,hk,L,hq _ Z _ U r e1 h1 (.int _)⟩
end
end L2
namespace Bd
open PySem PySem.W PySem.Calls L2 PyProof.Rows
def kOne(h:aS)(v:Option ah):qF:=match v with
 | some (.ref C)=>(match h.get? C with
  | some o=>(C,o)::(match o.data with
   | .cls cd=>(match h.get? cd.ns with|some n=>[(cd.ns,n)]|none=>[])
   | _=>[])
  | none=>[])
 | _=>[]
def kOf(h:aS)(mg:qM)(xs:List Str):qF:=xs.flatMap fun x=>kOne h (mg x)
theorem zqz{h:aS}{v:Option ah}{p:ak×Obj}(m:p∈kOne h v):h.get? p.1=some p.2:=by
 unfold kOne at m;split at m
 ·split at m
  ·rename_i C o u;rcases aw.mp m with rfl|m
   ·exact u
   ·split at m
    ·split at m
     ·rename_i n l;cases az.mp m;exact l
     ·cases m
    ·cases m
  ·cases m
 ·cases m
theorem zog{K:qF}{a:ak}{o:Obj}(e:K.lookup a=some o):(a,o)∈K:=by
 induction K with
 | nil=>cases e
 | cons p K v =>
  obtain⟨b,u⟩:=p;rw[cI]at e;cases q:a == b with
  | true=>rw[q]at e;cases e;rw[eq_of_beq q];exact .head _
  | false=>rw[q]at e;exact .tail _ (v e)
theorem ztd{h:aS}{mg:qM}{xs:List Str}:(kOf h mg xs).In h:=fun a o e=>by
 obtain⟨x,_,m⟩:=List.mem_flatMap.mp (zog e);exact zqz m
def isRef:Option ah->Bool
 | some (.ref _)=>true
 | _=>false
def excAt(xs cs ys:List Str)(T:Str)(s:au):Bool:=isRef (s.heap.nsMap mainGlobals T)&&ys.all (fun y=>isRef (s.heap.nsMap mainGlobals y))&&excT (kOf s.heap (s.heap.nsMap mainGlobals) xs) (s.heap.nsMap mainGlobals) cs ys T
def ExcsAre(cs ys:List Str)(T:Str)(mg:qM)(h:aS):Prop:=∃l:qF,l.In h/\((∃D,mg T=some (.ref D))/\∀y∈ys,∃E,mg y=some (.ref E))/\excT l mg cs ys T=true
theorem zjI{v:Option ah}(h:isRef v=true):∃D,v=some (.ref D):=by
 unfold isRef at h;split at h
 ·exact⟨_,rfl⟩
 ·cases h
theorem zuc{xs cs ys:List Str}{T:Str}{s:au}(x:excAt xs cs ys T s=true):ExcsAre cs ys T (s.heap.nsMap mainGlobals) s.heap:=by
 unfold excAt at x;simp only[aG]at x;exact⟨_,ztd,⟨zjI x.1.1,fun y l=>zjI (bp.mp x.1.2 y l)⟩,x.2⟩
theorem ExcsAre.keeps{cs ys:List Str}{T:Str}{mg:qM}{h h':aS}(x:ExcsAre cs ys T mg h)(k:∀b o,h.get? b=some o->h'.get? b=some o):ExcsAre cs ys T mg h':=by
 obtain⟨l,i,r⟩:=x;exact⟨l,fun a o e=>k a o (i a o e),r⟩
theorem ExcsAre.ok{cs ys:List Str}{T:Str}{mg:qM}{h:aS}(x:ExcsAre cs ys T mg h):Q3 (JI h) mg cs ys T:=by
 obtain⟨l,i,r⟩:=x;exact⟨l,fun a o e=>Yj (i a o e),r⟩
theorem zp5{q:aI}{loose:List Str}{v:mQ->Option ah}{mg l:qM}{h:aS}{x:Str}(T:Top q loose v mg l h)(y:specOf q x=some ("ValueError.__new__",zud)):OwnE (JI h) mg x:=by
 obtain⟨C,O,_⟩:=T.ownAt y;exact⟨C,O.bound,fun h' u=>(O.keeps fun b o e=>u b o (Yj e)).own⟩
end Bd
namespace Bd
open PySem L2
theorem ziP{rs u L:List NP}(p:rs.Perm L)(v:u.Perm L)(h:rs.Pairwise fun a b=>npRk rs a<=npRk rs b)(h':u.Pairwise fun a b=>npRk u a<=npRk u b):rs=u:=by
 have q:=p.trans v.symm;have e:∀a,npRk rs a=npRk u a:=fun a=>by unfold npRk;rw[(q.filter _).length_eq]
 refine List.Perm.eq_of_pairwise (le:=fun a b=>npRk rs a<=npRk rs b) (fun a b x y G C=>?_) h (h'.imp fun {a b} z=>by rw[e,e];exact z) q
 rcases zjA a b with z|z|z
 ·have:=Vm x z;lia
 ·exact z
 ·have:=Vm (q.mem_iff.mpr y) z;lia
def Nb(p:NP):Prop:=p.1.1.natAbs<10 ^ 40/\p.1.2.natAbs<10 ^ 40/\IsNm p.2
theorem ZD{bits:Int}{p:NP}(v:1<=bits)(u:bits<=64)(B:IsBk bits p.1.1 p.1.2)(N:IsNm p.2):Nb p:=by
 have x:=B.lt (by lia) u
 have:=B.1;have:=B.2.1;have l:=B.bounds (by lia)
 exact⟨by lia,by lia,N⟩
theorem zrK{os:List NP}{a:Nat}(h:∀p∈os,Nb p)(l:os.length<=a):Sm (567*a) 3 (.tuple (oD os)):=by
 refine(zf_ (w:=566) (k:=2) (xs:=oD os) fun x hx=>?_).mono (by rw[J3];lia) (ay _)
 obtain⟨p,v,rfl⟩:=aN.mp hx;obtain⟨a,b,N⟩:=h p v;exact zo3 (zlj a b) ((zvs N).mono (by decide) (by decide))
theorem zvt{d:Deal}{a b:Nat}(x:1<=d.1)(y:d.1<=64)(v:∀p∈d.2.1,Nb p)(l:d.2.1.length<=a)(u:∀p∈d.2.2,Nb p)(l2:d.2.2.length<=b):Sm (567*a+567*b+143) 4 (dlD d):=by
 have A:=zrK v l;have B:=zrK u l2;have C:Sm 140 0 (.int d.1):=zlk (by lia)
 have:=A.wt;have:=B.wt;have:=C.wt;have:=A.dp;have:=B.dp;have:=C.dp;exact⟨by have a:=A.ls;have b:=B.ls;have c:=C.ls;simp only[dlD,fj,fC,gj,aG]at a b c ⊢;exact⟨c,a,b⟩,by have a:=A.sh;have b:=B.sh;have c:=C.sh;simp only[dlD,gn,gr,gj,aG]at a b c ⊢;exact⟨c,a,b⟩,by have a:=A.cl;have b:=B.cl;have c:=C.cl;simp only[dlD,bc,bo,gj,aG]at a b c ⊢;first|exact⟨c,a,b⟩|exact⟨a,b⟩|simp_all,by simp only[dlD,cC,bL]at *;lia,by simp only[dlD,iX,gW]at *;lia⟩
theorem Dl.o{d:Deal}(D:Dl d):∀p∈d.2.1,Nb p:=fun p l=>ZD D.1 D.2.1 (D.2.2.1.1.1 _ (aN.mpr ⟨p,l,rfl⟩)) (D.2.2.1.2 p l)
theorem Dl.k{d:Deal}(D:Dl d):∀p∈d.2.2,Nb p:=fun p l=>ZD D.1 D.2.1 (D.2.2.2.1.1.1 _ (aN.mpr ⟨p,l,rfl⟩)) (D.2.2.2.1.2 p l)
theorem Qn{p:NP}(h:IsNm p.2):Okd (.tuple [prD p.1,.str p.2]):=by
 have e:=(ZE h).1;exact⟨by simp[prD,bc,bo]at e ⊢;exact e,by simp[prD,cC,bL]⟩
theorem Qv{os:List NP}{p:NP}:((oD os).any fun t=>t.eqv (.tuple [.tuple [.int p.1.1,.int p.1.2],.str p.2]))=decide (p∈os):=by
 rw[dh,kc,decide_eq_true_eq];constructor
 ·rintro⟨t,C,e⟩;obtain⟨q,x,rfl⟩:=aN.mp C;have:q=p:=by
   obtain⟨⟨a,b⟩,c⟩:=p;obtain⟨⟨J,G⟩,I⟩:=q;simpa[prD,cg,dB,ik,and_assoc] using e
  exact this▸x
 ·intro v;exact⟨_,aN.mpr ⟨p,v,rfl⟩,by simp[prD,cg,dB]⟩
theorem QU{os:List NP}(h:∀p∈os,IsNm p.2):∀t∈oD os,Okd t:=fun t u=>by
 obtain⟨q,l,rfl⟩:=aN.mp u;exact Qn (h q l)
end Bd
namespace L2
open PySem PySem.Spec PyProof PyProof.Rows
section
variable{X:Cx}{Q:af->Prop}{i j k:Int}
def max3(i j k:Int):Int:=if j > i then(if k > j then k else j) else(if k > i then k else i)
end
section
variable{prog:aI}{w:aU}{A:bw}{E:qV}{s:au}
abbrev FB:=Int×(Int×Int)
def FbIn(h:aS)(u:ah)(r:FB):Prop:=∃(a p:ak) (o:Obj) (t:Tok) (n:Nat),u=.ref a/\h.get? a=some o/\o.cls=.type "tuple" /\ o.data=.seq #[.int r.1 t,.ref p] n/\PrIn h (.ref p) r.2.1 r.2.2
theorem FbIn.kept{h h':aS}{u:ah}{r:FB}(p:FbIn h u r)(kp:∀b o,h.get? b=some o->h'.get? b=some o):FbIn h' u r:=by
 obtain⟨a,q,o,t,n,C,v,x,y,l⟩:=p;exact⟨a,q,o,t,n,C,kp _ _ v,x,y,l.kept kp⟩
end
end L2
namespace Bd
open PySem L2
def far(a h x:Int):Int:=max3 0 (x - a) (a - x - 2 ^ h.toNat+1)
def kLt(a h y x:Int):Prop:=far a h y<far a h x\/(far a h y=far a h x/\y<x)
def Fb(bits:Int)(S:Int->Prop)(h x:Int):Prop:=IsBk bits x h/\∀y,x<=y->y<x+2 ^ h.toNat->S y
def Best(bits:Int)(S:Int->Prop)(h a x:Int):Prop:=Fb bits S h x/\∀y,Fb bits S h y->¬kLt a h y x
theorem Best.uniq{bits:Int}{S:Int->Prop}{h a x y:Int}(X:Best bits S h a x)(Y:Best bits S h a y):x=y:=by
 have p:=X.2 y Y.1;have q:=Y.2 x X.1;unfold kLt at p q;omega
def ab(i:Int):Int:=if i<0 then -i else i
end Bd
namespace Bd
open PySem L2
def top(i:Nat):dg:=PySem.Challenge.pw_blockdeal_k29_grown_kept_moved.main.body.getD i (.Pass ⟨0,0,0,0⟩)
set_option maxHeartbeats 4000000
local macro_rules | `(tactic| walk_at "S") => `(tactic| first | with_reducible refine zkk ?_ | with_reducible refine Stp.go ?_ | with_reducible refine j_all (by with_unfolding_all rfl) ?_ | with_reducible refine j_any (by with_unfolding_all rfl) ?_ | with_reducible refine zpi (by with_unfolding_all rfl) ?_ | with_reducible refine zpj (by with_unfolding_all rfl) ?_ | with_reducible refine zjO (by with_unfolding_all rfl) ?_ | with_reducible refine zjN (by with_unfolding_all rfl) ?_)
set_option hygiene false in
local macro_rules | `(tactic| walk_at "K") => `(tactic| first | walk_at "S" | with_reducible refine ztJ (fun hc => ?_) (fun hc => ?_) | with_reducible refine zwL (fun hc => ?_) (fun hc => ?_) | with_reducible refine And.intro ?_ ?_)
set_option hygiene false in
local macro_rules | `(tactic| wp_walk using $ts:term,*) => `(tactic| repeat' (first $[| with_reducible refine $ts:term]* | walk_at "K"))
local macro_rules | `(tactic| wp_walk) => `(tactic| repeat' walk_at "K")
structure Txt(mg:qM):Prop where
 isi:mg "isinstance" = none
 int:mg "int" = none
 boo:mg "bool" = none
 tup:mg "tuple" = none
 len:mg "len" = none
 min:mg "min" = none
 max:mg "max" = none
 str:mg "str" = none
 rep:mg "repr" = none
 all:mg "all" = none
 any:mg "any" = none
 ran:mg "range" = none
 sum:mg "sum" = none
 srt:mg "sorted" = none
 lst:mg "list" = none
 abs:mg "abs" = none
 zip:mg "zip" = none
 dct:mg "dict" = none
 rev:mg "reversed" = none
 enu:mg "enumerate" = none
 vae:mg "ValueError" = none
def EXS:List Str:=["NoDeed","NotTheirs","NoRoom"]
def EYS:List Str:=["NoDeed","NotTheirs","NoRoom","NoLine","NoText"]
section
open PySem.W PyProof.Rows
def pw:aI:=PySem.Challenge.pw_blockdeal_k29_grown_kept_moved
def PL:PLs:=[(aa "PARTS",[(aa "take",[aa "height"]),(aa "near",[aa "height",aa "address"]),(aa "give",[aa "block"]),(aa "grow",[aa "block"]),(aa "keep",[aa "block"]),(aa "loose",[aa "block"]),(aa "move",[aa "block",aa "block"])])]
def FL:FLs:=[(aa "DEEDS",["take","near","give","grow","keep","loose","move"])]
def DL:FLs:=[(aa "PARTS",["take","near","give","grow","keep","loose","move"]),(aa "DEEDS",["take","near","give","grow","keep","loose","move"])]
def TL:List (Str×List Str):=[]
def zwg:dg->Bool
 | .FunctionDef ..=>true
 | .ClassDef ..=>true
 | .Assign [.Name x _] _ _=>!(x == aa "__name__")
 | _=>false
def qv:aI:={ pw with main:={ pw.main with body:=pw.main.body.filter zwg } }
theorem zpG:recsOf qv=(pw.main.body.filter VR).map recD:=by kernel_rfl
theorem zpe{i:Nat}(h:VR (top i)=true):recD (top i)∈recsOf qv:=by
 rw[zpG];exact lL (cH.mpr ⟨getD_mem h,h⟩)
theorem dqG{i:Nat}{x:Str}{ps:List Str}{C:mQ->Option ah}{mg l:qM}{h:aS}(T:g6 qv (looseW qv [aa "DEEDS",aa "PARTS"]) C mg l h) (y:BndA x (top i) ps) (v:VR (top i)=true:=by kernel_rfl) (u:defName (top i)=x:=by kernel_rfl):Dq (JI h) mg x (top i) ps:=dq_g T (zpe v) u y
def zt8:List Str:=[aa "isinstance",aa "int",aa "bool",aa "tuple",aa "len",aa "min",aa "max",aa "str",aa "repr",aa "all",aa "any",aa "range",aa "sum",aa "sorted",aa "list",aa "abs",aa "zip",aa "dict",aa "reversed",aa "enumerate",aa "ValueError"]
def zt9(x:Str):Bool:=!startupNames.contains x&&!(looseW qv [aa "DEEDS",aa "PARTS"]).contains x&&!((recsOf qv).map (·.name)).contains x&&!((litsOf qv).map (·.1)).contains x&&!((clssOf qv (looseW qv [aa "DEEDS",aa "PARTS"])).map (·.name)).contains x
theorem zqU:zt8.all zt9=true:=by kernel_rfl
theorem zqV{u:mQ->Option ah}{mg l:qM}{h:aS}(T:g6 qv (looseW qv [aa "DEEDS",aa "PARTS"]) u mg l h) {x:Str} (m:x∈zt8):mg x=none:=by
 have e:=bp.mp zqU x m;unfold zt9 at e;simp only[aG,iR,List.contains_eq_mem,decide_eq_false_iff_not]at e;obtain⟨⟨⟨⟨a,b⟩,c⟩,d⟩,f⟩:=e;exact T.free x a b c d f
theorem zrA{u:mQ->Option ah}{mg l:qM}{h:aS}(T:g6 qv (looseW qv [aa "DEEDS",aa "PARTS"]) u mg l h):Txt mg:=by
 constructor <;> exact zqV T (List.contains_iff_mem.mp (by kernel_rfl))
theorem zpC:PySem.Challenge.rw_blockdeal_k29_grown_kept_moved.wellSaid=true:=by kernel_rfl
theorem zs7(w:aU)(os:eU):(JX treeTable pw (w.withFollow "special-get-raises" false) 11 ((bq ((w.withFollow "special-get-raises" false)).params).nsMap mainGlobals "__annotations__") 20000 (zcF (w.withFollow "special-get-raises" false) os) (topStub pw)).map (fun s=>(U2 pw (bq ((w.withFollow "special-get-raises" false)).params) s.abs,(fun s=>hshs DL s.heap) s.abs,s.abs.heap.bltView,plainSeenD qv [aa "DEEDS",aa "PARTS"] s.abs,clsSeenW qv [aa "DEEDS",aa "PARTS"] s.abs,pinSeenD qv (drecsOf qv) s.abs))=some (true,(hshW DL) (w.withFollow "special-get-raises" false),bltViewBooted,plainGoodD qv [aa "DEEDS",aa "PARTS"],clsGoodW qv [aa "DEEDS",aa "PARTS"],pinGoodD (drecsOf qv)):=by kernel_rfl
theorem zs6(w:aU)(os:eU):(JX treeTable pw (w.withFollow "special-get-raises" false) 11 ((bq ((w.withFollow "special-get-raises" false)).params).nsMap mainGlobals "__annotations__") 20000 (zcF (w.withFollow "special-get-raises" false) os) (topStub pw)).map (fun s=>seen ((recsOf qv).map (·.name)) (ownsOf qv) [] { s.abs with gens:=#[] })=some (expectedOf qv):=by kernel_rfl
theorem zs3(w:aU)(os:eU):(JX treeTable pw (w.withFollow "special-get-raises" false) 11 ((bq ((w.withFollow "special-get-raises" false)).params).nsMap mainGlobals "__annotations__") 20000 (zcF (w.withFollow "special-get-raises" false) os) (topStub pw)).map (fun s=>plainSeenE qv (looseW qv [aa "DEEDS",aa "PARTS"]) s.abs)=some (plainGoodE qv (looseW qv [aa "DEEDS",aa "PARTS"])):=by kernel_rfl
theorem zs2(w:aU)(os:eU):(JX treeTable pw (w.withFollow "special-get-raises" false) 11 ((bq ((w.withFollow "special-get-raises" false)).params).nsMap mainGlobals "__annotations__") 20000 (zcF (w.withFollow "special-get-raises" false) os) (topStub pw)).map (fun s=>wideSeen qv s.abs)=some (wideGood qv):=by kernel_rfl
theorem zs5(w:aU)(os:eU):(JX treeTable pw (w.withFollow "special-get-raises" false) 11 ((bq ((w.withFollow "special-get-raises" false)).params).nsMap mainGlobals "__annotations__") 20000 (zcF (w.withFollow "special-get-raises" false) os) (topStub pw)).map (fun s=>(s.abs.heap.keysOk (looseW qv [aa "DEEDS",aa "PARTS"]) ((recsOf qv).map (·.name)) ((litsOf qv).map (·.1)) ((clssOf qv (looseW qv [aa "DEEDS",aa "PARTS"])).map (·.name))&&s.abs.heap.accountedOkI (importedModules pw.main.body)&&s.abs.heap.isNs mainGlobals&&s.abs.heap.isNs builtinsNs&&tablesOk qv s.abs.heap&&(fun s=>xlAt qv [] s&&recOk (gR PySem.Challenge.rw_blockdeal_k29_grown_kept_moved.row.toRowW) s&&UZ TL s&&U1 PL FL s&&excAt ["DealError","NoDeed","NotTheirs","NoRoom","NoLine","NoText"] EXS EYS (aa "DealError") s) s.abs&&(if true then s.abs.gens.size == 0 else !leftWithCleanup s.abs.gens)))=some true:=by kernel_rfl
theorem zs4(w:aU)(os:eU):(JX treeTable pw (w.withFollow "special-get-raises" false) 11 ((bq ((w.withFollow "special-get-raises" false)).params).nsMap mainGlobals "__annotations__") 20000 (zcF (w.withFollow "special-get-raises" false) os) (topStub pw)).map (fun s=>tabsOk qv s.abs)=some true:=by kernel_rfl
theorem zwf(w:aU)(os:eU):(JX treeTable pw (w.withFollow "special-get-raises" false) 11 ((bq ((w.withFollow "special-get-raises" false)).params).nsMap mainGlobals "__annotations__") 20000 (zcF (w.withFollow "special-get-raises" false) os) (topStub pw)).map (fun s=>(U2 pw (bq ((w.withFollow "special-get-raises" false)).params) s.abs,openSeen qv [aa "DEEDS",aa "PARTS"] (importedModules pw.main.body) (fun s=>xlAt qv [] s&&recOk (gR PySem.Challenge.rw_blockdeal_k29_grown_kept_moved.row.toRowW) s&&UZ TL s&&U1 PL FL s&&excAt ["DealError","NoDeed","NotTheirs","NoRoom","NoLine","NoText"] EXS EYS (aa "DealError") s) true s.abs,(fun s=>hshs DL s.heap) s.abs))=some (true,openGood qv [aa "DEEDS",aa "PARTS"],(hshW DL) (w.withFollow "special-get-raises" false)):=zsV (zs7 w os) (zs6 w os) (zs5 w os) (zs4 w os) (zs3 w os) (zs2 w os)
theorem zs1(w:aU)(os:eU):(JX treeTable pw (w.withFollow "special-get-raises" true) 11 ((bq ((w.withFollow "special-get-raises" true)).params).nsMap mainGlobals "__annotations__") 20000 (zcF (w.withFollow "special-get-raises" true) os) (topStub pw)).map (fun s=>(U2 pw (bq ((w.withFollow "special-get-raises" true)).params) s.abs,(fun s=>hshs DL s.heap) s.abs,s.abs.heap.bltView,plainSeenD qv [aa "DEEDS",aa "PARTS"] s.abs,clsSeenW qv [aa "DEEDS",aa "PARTS"] s.abs,pinSeenD qv (drecsOf qv) s.abs))=some (true,(hshW DL) (w.withFollow "special-get-raises" true),bltViewBooted,plainGoodD qv [aa "DEEDS",aa "PARTS"],clsGoodW qv [aa "DEEDS",aa "PARTS"],pinGoodD (drecsOf qv)):=by kernel_rfl
theorem zs0(w:aU)(os:eU):(JX treeTable pw (w.withFollow "special-get-raises" true) 11 ((bq ((w.withFollow "special-get-raises" true)).params).nsMap mainGlobals "__annotations__") 20000 (zcF (w.withFollow "special-get-raises" true) os) (topStub pw)).map (fun s=>seen ((recsOf qv).map (·.name)) (ownsOf qv) [] { s.abs with gens:=#[] })=some (expectedOf qv):=by kernel_rfl
theorem zsX(w:aU)(os:eU):(JX treeTable pw (w.withFollow "special-get-raises" true) 11 ((bq ((w.withFollow "special-get-raises" true)).params).nsMap mainGlobals "__annotations__") 20000 (zcF (w.withFollow "special-get-raises" true) os) (topStub pw)).map (fun s=>plainSeenE qv (looseW qv [aa "DEEDS",aa "PARTS"]) s.abs)=some (plainGoodE qv (looseW qv [aa "DEEDS",aa "PARTS"])):=by kernel_rfl
theorem zsW(w:aU)(os:eU):(JX treeTable pw (w.withFollow "special-get-raises" true) 11 ((bq ((w.withFollow "special-get-raises" true)).params).nsMap mainGlobals "__annotations__") 20000 (zcF (w.withFollow "special-get-raises" true) os) (topStub pw)).map (fun s=>wideSeen qv s.abs)=some (wideGood qv):=by kernel_rfl
theorem zsZ(w:aU)(os:eU):(JX treeTable pw (w.withFollow "special-get-raises" true) 11 ((bq ((w.withFollow "special-get-raises" true)).params).nsMap mainGlobals "__annotations__") 20000 (zcF (w.withFollow "special-get-raises" true) os) (topStub pw)).map (fun s=>(s.abs.heap.keysOk (looseW qv [aa "DEEDS",aa "PARTS"]) ((recsOf qv).map (·.name)) ((litsOf qv).map (·.1)) ((clssOf qv (looseW qv [aa "DEEDS",aa "PARTS"])).map (·.name))&&s.abs.heap.accountedOkI (importedModules pw.main.body)&&s.abs.heap.isNs mainGlobals&&s.abs.heap.isNs builtinsNs&&tablesOk qv s.abs.heap&&(fun s=>xlAt qv [] s&&recOk (gR PySem.Challenge.rw_blockdeal_k29_grown_kept_moved.row.toRowW) s&&UZ TL s&&U1 PL FL s&&excAt ["DealError","NoDeed","NotTheirs","NoRoom","NoLine","NoText"] EXS EYS (aa "DealError") s) s.abs&&(if true then s.abs.gens.size == 0 else !leftWithCleanup s.abs.gens)))=some true:=by kernel_rfl
theorem zsY(w:aU)(os:eU):(JX treeTable pw (w.withFollow "special-get-raises" true) 11 ((bq ((w.withFollow "special-get-raises" true)).params).nsMap mainGlobals "__annotations__") 20000 (zcF (w.withFollow "special-get-raises" true) os) (topStub pw)).map (fun s=>tabsOk qv s.abs)=some true:=by kernel_rfl
theorem zwe(w:aU)(os:eU):(JX treeTable pw (w.withFollow "special-get-raises" true) 11 ((bq ((w.withFollow "special-get-raises" true)).params).nsMap mainGlobals "__annotations__") 20000 (zcF (w.withFollow "special-get-raises" true) os) (topStub pw)).map (fun s=>(U2 pw (bq ((w.withFollow "special-get-raises" true)).params) s.abs,openSeen qv [aa "DEEDS",aa "PARTS"] (importedModules pw.main.body) (fun s=>xlAt qv [] s&&recOk (gR PySem.Challenge.rw_blockdeal_k29_grown_kept_moved.row.toRowW) s&&UZ TL s&&U1 PL FL s&&excAt ["DealError","NoDeed","NotTheirs","NoRoom","NoLine","NoText"] EXS EYS (aa "DealError") s) true s.abs,(fun s=>hshs DL s.heap) s.abs))=some (true,openGood qv [aa "DEEDS",aa "PARTS"],(hshW DL) (w.withFollow "special-get-raises" true)):=zsV (zs1 w os) (zs0 w os) (zsZ w os) (zsY w os) (zsX w os) (zsW w os)
theorem zqu:LeftO pw qv [aa "DEEDS",aa "PARTS"] (fun s=>xlAt qv [] s&&recOk (gR PySem.Challenge.rw_blockdeal_k29_grown_kept_moved.row.toRowW) s&&UZ TL s&&U1 PL FL s&&excAt ["DealError","NoDeed","NotTheirs","NoRoom","NoLine","NoText"] EXS EYS (aa "DealError") s) (fun s=>hshs DL s.heap) (hshW DL) 20000:=zmj (by kernel_rfl) (by decide) (fun _=>rfl) (fun w=>zlu (w:=w) (P:=fun w=>∀os:eU,(JX treeTable pw w 11 ((bq (w).params).nsMap mainGlobals "__annotations__") 20000 (zcF w os) (topStub pw)).map (fun s=>(U2 pw (bq (w).params) s.abs,openSeen qv [aa "DEEDS",aa "PARTS"] (importedModules pw.main.body) (fun s=>xlAt qv [] s&&recOk (gR PySem.Challenge.rw_blockdeal_k29_grown_kept_moved.row.toRowW) s&&UZ TL s&&U1 PL FL s&&excAt ["DealError","NoDeed","NotTheirs","NoRoom","NoLine","NoText"] EXS EYS (aa "DealError") s) true s.abs,(fun s=>hshs DL s.heap) s.abs))=some (true,openGood qv [aa "DEEDS",aa "PARTS"],(hshW DL) w)) "special-get-raises" zwf zwe)
end
section
variable{P:aI}{w:aU}{K:qF}{mg:qM}{base:aS}{Z:ZZ}
def zqC:af->Bool|.int _=>true|_=>false
def zdM:GD:=fun ts n R=>match ts with
 | [d]=>Pln d/\R (.bool (zqC d)) n
 | _=>False
theorem UC{d:af}{b:Bool}{n:Nat}{R:qN}(e:zqC d=b)(h:Pln d)(h':R (.bool b) n):zdM [d] n R:=⟨h,e▸h'⟩
def Ws(Z:ZZ):Prop:=FQ Z "is_whole" (top 1) ["thing"] 1 (spD Z.K 1 zdM)
theorem ziJ(D:Dq Z.K Z.mg "is_whole" (top 1) ["thing"]) (T:Txt Z.mg):Ws Z:=by
 refine' okQ D (fnS (N:=["thing"]) (by decide +kernel)) rfl fun f u A outer s H E x=>⟨_,(Jc (Jf (Y4 (U7 zt2 T.isi T.int boot_int (dlv 0) Ju) (Ul (zq4 (U7 zqQ T.isi T.boo zk7 (dlv 0) Ju)))))),?_⟩
 intro ts n R v h;unfold zdM at h;split at h
 ·rename_i d;obtain⟨p,h⟩:=h;cases d with
  | dict l =>
   cases l with
   | nil =>
    wp_walk
    exact h
   | cons a b=>exact absurd rfl p
  | _ =>
   wp_walk
   exact h
 ·exact h.elim
def QS(bits:Int):af->Bool
 | .tuple [.int b,.int h]=>decide (0<=h/\h<=bits/\0<=b/\b<2 ^ bits.toNat/\b % 2 ^ h.toNat=0)
 | _=>false
theorem zi3{bits b h:Int}:QS bits (.tuple [.int b,.int h])=decide (0<=h/\h<=bits/\0<=b/\b<2 ^ bits.toNat/\b % 2 ^ h.toNat=0):=rfl
theorem zeT{bits b h:Int}(x:0<=bits):QS bits (.tuple [.int b,.int h])=true↔IsBk bits b h:=by
 unfold QS;rw[decide_eq_true_iff];constructor
 ·rintro⟨h0,v,y,g1,g2⟩;have p:=Qz h.toNat;have e:=kQ b (2 ^ h.toNat);refine⟨h0,v,b / 2 ^ h.toNat,kL y (by lia),?_,?_⟩
  ·rw[cD];lia
  ·apply kR p;rw[<- fe,show(bits - h).toNat+h.toNat=bits.toNat by lia]
   exact g1
 ·intro B;have C:=B.bounds x;obtain⟨h0,v,k,k0,rfl,k1⟩:=B;refine⟨h0,v,C.1,?_,mO _ _⟩;have:=Qz h.toNat;lia
def Pl2(d:af):Prop:=Pln d/\∀ts,d=.tuple ts->∀t∈ts,Pln t
def zfX:GD:=fun ts n R=>∃(bits:Int) (d:af),ts=[.int bits,d]/\0<=bits/\bits<=64/\Pl2 d/\R (.bool (QS bits d)) n
theorem zk5{bits:Int}{d:af}{n:Nat}{R:qN}(u:0<=bits)(v:bits<=64)(h:Pl2 d)(h':R (.bool (QS bits d)) n):zfX [.int bits,d] n R:=⟨bits,d,rfl,u,v,h,h'⟩
theorem zmv{bits:Int}{d:af}(h:∀b g,d≠.tuple [.int b,.int g]):QS bits d=false:=by
 unfold QS;split
 ·exact absurd rfl (h _ _)
 ·rfl
theorem zub{b c:Bool}{n:Nat}{R:qN}(e:b=c)(h:R (.bool c) n):R (.bool b) n:=e▸h
def zfz(Z:ZZ):Prop:=FQ Z "is_block" (top 2) ["bits","thing"] 2 (spD Z.K 2 zfX)
theorem ziK(D:Dq Z.K Z.mg "is_block" (top 2) ["bits","thing"]) (G:Ws Z) (T:Txt Z.mg):zfz Z:=by
 refine' okQ D (fnS (N:=["bits","thing","begin","height"]) (by decide +kernel)) rfl fun f J A outer s H E v=>⟨_,(Jb (Jp (JY (QB (JZ (JS (dl (U7 zjQ T.isi T.tup Qp (dlv 1) Ju)))) (QR (Jo (QV v) QQ (dl (JF Uc Q6 T.len Q1 (Jn (dlv 1) Jq Ju))) dli (Jj _))))) (Jc (Jf Q4)) Jr) (Jb (Qc (Jk 1) (Jz rfl (Ji (dgv 2 (ndB rfl)) (Ji (dgv 3 (ndB rfl)) Jx)))) (Jb (Jp (JY (QB (JZ (JS (dl (Je G v (dbv 2 Ja))))) (QR (JZ (JS (dl (Je G v (dbv 3 Ja)))))))) (Jc (Jf Q4)) Jr) (Jb (Jp (JY (QB (Jo (Qy v) Qx (dlv 3) dli (Jj _)) (QR (Jo Ui gp_B (dlv 3) (dlv 0) (Jj _))))) (Jc (Jf Q4)) Jr) (Jc (Jf (Y4 (V5 Qf Qd (Qy v) Qx dli (dlv 2) (dl (JR dli (dlv 0)))) (Ul (Qh (Qe v) Qa (dl (zmT (dlv 2) (dl (JR dli (dlv 3))))) dli (Jj _)))))))))),?_⟩
 intro ts n R L h;obtain⟨bits,d,rfl,U,S,⟨p,p2⟩,h⟩:=h;have no:(∀b g,d≠.tuple [.int b,.int g])->R (.bool false) n:=fun z=>by rw[zmv z]at h;exact h
 cases hf:isTup d with
 | false =>
  wp_walk using isiF p hf ?_
  exact no fun b g e=>by rw[e]at hf;cases hf
 | true =>
  obtain⟨ts,rfl⟩:=zou hf;have p2:=p2 ts rfl
  by_cases l2:ts.length=2
  ·obtain⟨x,y,rfl⟩:=zwd l2;have C:=p2 x (by simp)
   have py:=p2 y (by simp)
   have I:∀t,(∃b,t=.int b)\/zqC t=false:=fun t=>by
    cases t with
    | int b=>exact .inl ⟨b,rfl⟩
    | _=>exact .inr rfl
   rcases I x with⟨b,rfl⟩|wx
   ·rcases I y with⟨g,rfl⟩|wy
    ·wp_walk using UC (b:=true) rfl C ?_,UC (b:=true) rfl py ?_
     all_goals first
      | exact cpow (by lia) (by lia)
      | (rw[Qq];exact Qz _)
      | skip
     all_goals
      refine zub ?_ h
      try simp only[Qq]at *
      rw[zi3];generalize (2:Int) ^ bits.toNat=X at *;generalize b % (2:Int) ^ g.toNat=Y at *
      first
       | (symm;rw[decide_eq_false_iff_not];lia)
       | (rw[decide_eq_decide];lia)
       | (exfalso;simp at hc;done)
    ·wp_walk using UC (b:=true) rfl C ?_,UC wy py ?_
     all_goals first|exact no fun _ _ e=>by cases e;cases wy|(exfalso;simp at hc;done)
   ·wp_walk using UC wx C ?_
    all_goals first|exact no fun _ _ e=>by cases e;cases wx|(exfalso;simp at hc;done)
  ·wp_walk
   all_goals first|exact no fun _ _ e=>l2 (by cases e;rfl)|(exfalso;lia)
def zhT:GD:=fun ts n R=>∃i h:Int,ts=[.tuple [.int i,.int h]]/\0<=h/\h<=1000/\R (.int (2 ^ h.toNat)) n
theorem znd{i h:Int}{n:Nat}{R:qN}(v:0<=h)(g1:h<=1000)(h':R (.int (2 ^ h.toNat)) n):zhT [.tuple [.int i,.int h]] n R:=⟨_,_,rfl,v,g1,h'⟩
def zg8(Z:ZZ):Prop:=FQ Z "size_of" (top 3) ["block"] 1 (spD Z.K 1 zhT)
theorem zkr(D:Dq Z.K Z.mg "size_of" (top 3) ["block"]) (T:Txt Z.mg):zg8 Z:=by
 refine' okQ D (fnS (N:=["block"]) (by decide +kernel)) rfl fun f u A outer s H E y=>⟨_,(Jc (Jf (JR dli (dl (Jd (dlv 0) dli))))),?_⟩
 intro ts n R v l;obtain⟨i,h,rfl,x,g1,l⟩:=l
 wp_walk
 ·exact cpow (by lia) (by lia)
 ·rw[Qq];exact l
def zj0:GD:=fun ts n R=>∃i h g:Int,ts=[.tuple [.int i,.int h],.int g]/\0<=g/\g<=1000/\0<=i/\i<2 ^ 64/\R (.tuple [.int (i / 2 ^ g.toNat*2 ^ g.toNat),.int g]) n
theorem zkb{i h g:Int}{n:Nat}{R:qN}(x:0<=g)(g1:g<=1000)(y:0<=i)(v:i<2 ^ 64)(h':R (.tuple [.int (i / 2 ^ g.toNat*2 ^ g.toNat),.int g]) n):zj0 [.tuple [.int i,.int h],.int g] n R:=⟨_,_,_,rfl,x,g1,y,v,h'⟩
def zgd(Z:ZZ):Prop:=FQ Z "around" (top 5) ["block","height"] 1 (spD Z.K 2 zj0)
theorem zl0(D:Dq Z.K Z.mg "around" (top 5) ["block","height"]) (T:Txt Z.mg):zgd Z:=by
 refine' okQ D (fnS (N:=["block","height"]) (by decide +kernel)) rfl fun f x A outer s H E G=>⟨_,(Jc (Jf (Jh (dbc (JR (dl (zum (dl (Jd (dlv 0) dli)) (dlv 1))) (dlv 1)) (dbv 1 Ja))))),?_⟩
 intro ts n R y l;obtain⟨i,h,g,rfl,u,g1,v,C,l⟩:=l;simp only[Z6,Z5,Z7,Z4,u_dC,ZC,Z0,Z2,Z1,Va,ZB,Vi,Vk,Vc,Vb,Vj,Z3,ZS,Za,YG,YH,YI,Y9,YJ,Zj,Zi,Ym,oSub,oMul,oMod,UF,oShl,oShr,oXor,oAnd,isNone,isInt,isBool,isTup,isStr,l_gI,Zv,YM,YN,YO,Yp,Yr,Ys,Yq,YA,YC,YE,YB,Yu,Y6,Yt,Ze,Yx,Yv,Yw,YT,YU,YV,YR,YS,YX,YY,Yo,Yz,Yy,YQ,Zf,YW,Y7,Zd,Uf,Ue,Uw,Uu,Uz,UA,Uy,Zg,Ux,J1,JB,capV,bV,fi,aO,cx,bQ,eV,cW,dm,bK,cV,dI,fq,ft,eW,eX,fk,Nat.reduceAdd,Nat.reduceSub,gS,true_and,and_true,aH,if_true,if_false,ite_true,ite_false,dS,eZ,fR]
 refine⟨u,⟨u,by lia,?_⟩,l⟩
 have:i / 2 ^ g.toNat<=i:=Int.ediv_le_self _ v;have:0<=i / 2 ^ g.toNat:=kL v (eM (Qz _));lia
def zmG:GD:=fun ts n R=>∃i h j g:Int,ts=[.tuple [.int i,.int h],.tuple [.int j,.int g]]/\0<=h/\h<=1000/\0<=j/\j<2 ^ 64/\R (.bool (hldD i h j g)) n
theorem zrg{i h j g:Int}{n:Nat}{R:qN}(h0:0<=h)(v:h<=1000)(x:0<=j)(y:j<2 ^ 64)(h':R (.bool (hldD i h j g)) n):zmG [.tuple [.int i,.int h],.tuple [.int j,.int g]] n R:=⟨_,_,_,_,rfl,h0,v,x,y,h'⟩
def zlB(Z:ZZ):Prop:=FQ Z "holds" (top 4) ["one","other"] 2 (spD Z.K 2 zmG)
theorem zn_(D:Dq Z.K Z.mg "holds" (top 4) ["one","other"]) (C:zgd Z) (T:Txt Z.mg):zlB Z:=by
 refine' okQ D (fnS (N:=["one","other"]) (by decide +kernel)) rfl fun f G A outer s H E u=>⟨_,(Jc (Jf (Y4 (Qh zsJ gp_B (dl (Jd (dlv 0) dli)) (dl (Jd (dlv 1) dli)) (Jj _)) (Ul (Qh (Qe u) Qa (dl (Je C u (dbv 1 (dbc (Jd (dlv 0) dli) Ja)))) (dlv 0) (Jj _)))))),?_⟩
 intro ts n R I l;obtain⟨i,h,j,g,rfl,x,g1,y,v,l⟩:=l;unfold hldD at l
 wp_walk using zkb x g1 y v ?_
 ·exact Ux
 ·exact Ux
 ·rw[decide_eq_true hc,cO]at l;rw[zoF];simpa using l
 ·rw[decide_eq_false hc,cf]at l;exact l
def zd9:GD:=fun ts n R=>∃i h:Int,ts=[.tuple [.int i,.int h]]/\0<=h/\h<=1000/\R (.tuple [.int (bH i (2 ^ h.toNat)),.int h]) n
theorem zid{i h:Int}{n:Nat}{R:qN}(v:0<=h)(g1:h<=1000)(h':R (.tuple [.int (bH i (2 ^ h.toNat)),.int h]) n):zd9 [.tuple [.int i,.int h]] n R:=⟨_,_,rfl,v,g1,h'⟩
def zdW(Z:ZZ):Prop:=FQ Z "other_half" (top 6) ["block"] 1 (spD Z.K 1 zd9)
theorem zgk(D:Dq Z.K Z.mg "other_half" (top 6) ["block"]) (T:Txt Z.mg):zdW Z:=by
 refine' okQ D (fnS (N:=["block","begin","height"]) (by decide +kernel)) rfl fun f v A outer s H E y=>⟨_,(Jb (Qc (Jk 0) (Jz rfl (Ji (dgv 1 (ndB rfl)) (Ji (dgv 2 (ndB rfl)) Jx)))) (Jc (Jf (Jh (dbc (ZY (dlv 1) (dl (JR dli (dlv 2)))) (dbv 2 Ja)))))),?_⟩
 intro ts n R x l;obtain⟨i,h,rfl,u,g1,l⟩:=l;simp only[Z6,Z5,Z7,Z4,u_dC,ZC,Z0,Z2,Z1,Va,ZB,Vi,Vk,Vc,Vb,Vj,Z3,ZS,Za,YG,YH,YI,Y9,YJ,Zj,Zi,Ym,oSub,oMul,oMod,UF,oShl,oShr,oXor,oAnd,isNone,isInt,isBool,isTup,isStr,l_gI,Zv,YM,YN,YO,Yp,Yr,Ys,Yq,YA,YC,YE,YB,Yu,Y6,Yt,Ze,Yx,Yv,Yw,YT,YU,YV,YR,YS,YX,YY,Yo,Yz,Yy,YQ,Zf,YW,Y7,Zd,Uf,Ue,Uw,Uu,Uz,UA,Uy,Zg,Ux,J1,JB,capV,bV,fi,aO,cx,bQ,eV,cW,dm,bK,cV,dI,fq,ft,eW,eX,fk,Nat.reduceAdd,Nat.reduceSub,gS,true_and,and_true,aH,if_true,if_false,ite_true,ite_false,dS,eZ,fR]
 refine⟨cpow u (by lia),?_⟩
 rw[bP];exact l
def zhX:GD:=fun ts n R=>∃d,ts=[d]/\PlnD d/\R (.bool (nmD d)) n
theorem zie{d:af}{n:Nat}{R:qN}(p:PlnD d)(h:R (.bool (nmD d)) n):zhX [d] n R:=⟨d,rfl,p,h⟩
def zha(Z:ZZ):Prop:=FQ Z "is_name" (top 8) ["thing"] 1 (spD Z.K 1 zhX)
theorem zkv(D:Dq Z.K Z.mg "is_name" (top 8) ["thing"]) (T:Txt Z.mg):zha Z:=by
 refine' okQ D (fnS (N:=["thing"]) (by decide +kernel)) rfl fun f U A outer s H E hr=>⟨_,(Jb (Jp (JY (QB (JZ (JS (dl (U7 zmB T.isi T.str zfd (dlv 0) Ju)))) (QR (JZ (zoI Qf Qd Qf Qd dli (dl (JF Uc Q6 T.len Q1 (Jn (dlv 0) Jq Ju))) dli))))) (Jc (Jf Q4)) Jr) (Jc (Jf (JF (We rfl) VL T.all Wj (Jn (dl (Jl (dnc ["letter"] [] (dil (zuj (Jk 0))) (fun _ _ _ _=>(dgv 0 (ndB rfl))) (fun _ _ _ _=>(V5 Qf Qd Qf Qd (dl JK) (dlv 0) (dl JK)))))) Jq Ug))))),?_⟩
 intro ts n R Y h;obtain⟨d,rfl,p,h⟩:=h;cases d with
 | str z =>
  have hz:=p.str;have C:(aa "a").cps.toList=[97]:=by decide +kernel
  have G:(aa "z").cps.toList=[122]:=by decide +kernel
  have e:nmD (.str z)=(decide (1<=z.length)&&decide (z.length<=8)&&z.cps.toList.all fun c=>decide (97<=c)&&decide (c<=122)):=rfl
  rw[e]at h
  wp_walk
  ·lia
  ·refine QN (cs:=z.cps.toList) (D:=fun c=>.str ⟨#[c]⟩) (fun c=>.bool (decide (97<=c)&&decide (c<=122))) (by rw[Qu];lia) ?_ ?_
   ·intro c S K2 X2 u
    wp_walk
    ·have z:c<97:=zlW.mp (show([c]:List Nat)<[97] from C▸hc)
     rw[decide_eq_false (show ¬97<=c by lia),cf]at u
     exact u
    ·have z:¬c<97:=fun y=>hc (C.symm▸zlW.mpr y)
     rw[decide_eq_true (show 97<=c by lia),cO]at u
     have J:(!decide ((aa "z").cps.toList<(⟨#[c]⟩:Str).cps.toList))=decide (c<=122):=by
      rw[G];exact zqv
     rw[J];exact u
   ·wp_walk using VO ?_
    have x:1<=z.length:=by lia
    have v:z.length<=8:=by lia
    rw[decide_eq_true x,decide_eq_true v]at h;exact h
  ·have v:¬z.length<=8:=by lia
   rw[decide_eq_false v,gO,cf]at h;exact h
  ·have x:¬1<=z.length:=by lia
   rw[decide_eq_false x,cf,cf]at h;exact h
 | dict I =>
  cases I with
  | nil =>
   wp_walk
   exact h
  | cons a b=>exact absurd rfl (PlnD.pln p)
 | _ =>
  wp_walk
  exact h
def zjZ:GD:=fun ts n R=>∃i h:Int,ts=[.tuple [.int i,.int h]]/\0<=h/\h<=1000/\R (.int (i+2 ^ h.toNat)) n
theorem V4{i h:Int}{n:Nat}{R:qN}(v:0<=h)(g1:h<=1000)(h':R (.int (i+2 ^ h.toNat)) n):zjZ [.tuple [.int i,.int h]] n R:=⟨_,_,rfl,v,g1,h'⟩
def Wd(Z:ZZ):Prop:=FQ Z "end_of" (top 18) ["block"] 2 (spD Z.K 1 zjZ)
theorem zlZ(D:Dq Z.K Z.mg "end_of" (top 18) ["block"]) (v:zg8 Z) (T:Txt Z.mg):Wd Z:=by
 refine' okQ D (fnS (N:=["block"]) (by decide +kernel)) rfl fun f x A outer s H E u=>⟨_,(Jc (Jf (JG (dl (Jd (dlv 0) dli)) (dl (Je v u (dbv 0 Ja)))))),?_⟩
 intro ts n R y l;obtain⟨i,h,rfl,C,g1,l⟩:=l
 wp_walk using znd ?_ ?_ ?_
 ·lia
 ·lia
 ·exact l
theorem zkX{hi:Int}(h:0<hi):QO 0 hi hi.toNat.log2:=⟨by simp,by have:=zmi h;lia,fun z=>by have:=zme h;have:=z.2;lia⟩
theorem zmD{lo hi:Int}{t:Nat}(h:lo<hi)(u:lo % 2 ^ t=0)(v:¬lo % 2 ^ (t+1)=0):QO lo hi (min (hi - lo).toNat.log2 t):=by
 have a:=zmi (i:=hi - lo) (by lia)
 have b:=zme (i:=hi - lo) (by lia)
 rcases sZ (hi - lo).toNat.log2 t with z|z
 ·rw[n8 z];exact⟨Yg z u,a,fun y=>by have:=y.2;lia⟩
 ·rw[Nat.min_eq_right z];exact⟨u,kD (Uv z) a,fun y=>v y.1⟩
theorem zoh(t:Nat):((2:Int) ^ t).toNat.log2=t:=by
 have e:((2:Int) ^ t).toNat=2 ^ t:=by
  have:((2 ^ t:Nat):Int)=(2:Int) ^ t:=by rw[fA];rfl
  rw[<- this];rfl
 rw[e,Nat.log2_two_pow]
def zb5:GD:=fun ts n R=>∃lo hi:Int,ts=[.int lo,.int hi]/\0<=lo/\lo<hi/\∀g:Nat,QO lo hi g->R (.int g) n
theorem zdT{lo hi:Int}{n:Nat}{R:qN}(u:0<=lo)(l:lo<hi)(h:∀g:Nat,QO lo hi g->R (.int g) n):zb5 [.int lo,.int hi] n R:=⟨lo,hi,rfl,u,l,h⟩
def zb2(Z:ZZ):Prop:=FQ Z "greatest_height" (top 19) ["begin","high"] 1 (spD Z.K 2 zb5)
theorem zdn(D:Dq Z.K Z.mg "greatest_height" (top 19) ["begin","high"]) (T:Txt Z.mg):zb2 Z:=by
 refine' okQ D (fnS (N:=["begin","high","room"]) (by decide +kernel)) rfl fun f y A outer s H E x=>⟨_,(Jb (dsv 2 (ndB rfl) (Um (dl (zh2 (dl (Um (dlv 1) (dlv 0))))) dli)) (Jb (Jp (Jo (Qe x) Qa (dlv 0) dli (Jj _)) (Jc (Jf (Jk 2))) Jr) (Jc (Jf (JF (Vo rfl) ZR T.min Zm (Jn (dlv 2) (Jn (dl (Um (dl (zh2 (dl (zur (dlv 0) (dl (Y3 (Jk 0))))))) dli)) Jq Q9) Ju)))))),?_⟩
 intro ts n R C h;obtain⟨lo,hi,rfl,G,u,h⟩:=h;have room:=zeV (i:=hi - lo) (by lia)
 wp_walk
 ·rw[room];subst hc;have:=h _ (zkX u);rw[Int.sub_zero];exact this
 ·obtain⟨t,t1,t2⟩:=zvh (b:=lo) (by lia)
  have an:=zrl (b:=lo) (by lia) t1 t2
  have v:=zeV (i:=(2:Int) ^ t) (Qz t);rw[zoh]at v;rw[an,room,v];have:=h _ (zmD u t1 t2);have e:(if (t:Int)<((hi - lo).toNat.log2:Int) then(t:Int) else((hi - lo).toNat.log2:Int))=((min (hi - lo).toNat.log2 t:Nat):Int):=by
   split <;> lia
  rw[e];exact this
def ZQ:GD:=fun ts n R=>∃lo hi:Int,ts=[.int lo,.int hi]/\0<=lo/\lo<=hi/\hi<=2 ^ 64/\∀bs,Jt lo hi bs->R (.tuple (pD bs)) n
theorem zuw{lo hi:Int}{n:Nat}{R:qN}(x:0<=lo)(v:lo<=hi)(l2:hi<=2 ^ 64)(h:∀bs,Jt lo hi bs->R (.tuple (pD bs)) n):ZQ [.int lo,.int hi] n R:=⟨lo,hi,rfl,x,v,l2,h⟩
def zo8(Z:ZZ):Prop:=FQ Z "span" (top 11) ["low","high"] 3 (spD Z.K 2 ZQ)
theorem zqb(D:Dq Z.K Z.mg "span" (top 11) ["low","high"]) (Y:Wd Z) (U:zb2 Z) (T:Txt Z.mg):zo8 Z:=by
 refine' okQ D (fnS (N:=["low","high","blocks","begin","block"]) (by decide +kernel)) rfl fun f cdv A outer s H E C=>⟨_,(Jb (UJ (i:=2) (ndB rfl) rfl (dE rfl) (JC Ja)) (Jb (dsv 3 (ndB rfl) (Jk 0)) (Jb (zj4 cz (Jo (Qy C) Qx (dlv 3) (dlv 1) (Jj _)) (Jb (dsv 4 (ndB rfl) (Jh (dbv 3 (dbc (Je U C (dbv 3 (dbv 1 Ja))) Ja)))) (Jb (Qr 2 (Jk 4)) (Jc (dsv 3 (ndB rfl) (Je Y C (dbv 4 Ja))))))) (UE 2 (Jc (Jf (Qb QE QG T.tup Qp (Jn (dlv 2) Jq Ju)))))))),?_⟩
 intro ts n R hl h;obtain⟨lo,hi,rfl,l0,l1,l2,h⟩:=h;obtain⟨all,A⟩:=zlh _ lo hi (ay _) l1;have al:=A.len l0 l2
 wp_walk
 refine zpx (fun m J I=>I=n/\∃(bs rest:qB) (y:Int) (L:Option Cell),J=[some (.val (.int lo)),some (.val (.int hi)),some (.own (pD bs)),some (.val (.int y)),L]/\all=bs++rest/\Jt y hi rest/\lo<=y/\m=rest.length) (m:=all.length) ⟨rfl,[],all,lo,_,rfl,rfl,A,bf _,rfl⟩ ?_
 rintro m J I NX RT BK ⟨rfl,bs,rest,y,L,rfl,x,S,lb,rfl⟩ hN hR hB
 wp_walk
 ·cases rest with
  | nil=>have:y=hi:=S;lia
  | cons b r =>
   obtain⟨s1,s2,s3,s4,s5⟩:=S;refine zdT (by lia) hc fun g G=>?_
   have eg:b.2.toNat=g:=s4.uniq G;have eb:b=(y,(g:Int)):=iD s2 (by show b.2=(g:Int);lia)
   have gl:g<=64:=by
    rcases bE 64 g with z|z
    ·have:=Uv (show 65<=g by lia)
     have:=G.2.1;have e:(2:Int) ^ 65=2*2 ^ 64:=by decide
     lia
    ·exact z
   wp_walk using V4 (by lia) (by lia) ?_
   ·rw[JA];have:=congrArg dP x;rw[aK]at this;lia
   ·refine hN r.length _ _ (by simp) ⟨rfl,bs++[b],r,y+2 ^ (g:Int).toNat,some (.val (.tuple [.int y,.int (g:Int)])),by rw[eb,<- UL],by rw[x];simp,?_,?_,rfl⟩
    ·rw[eg]at s5;simpa using s5
    ·have:=Qz (g:Int).toNat;lia
 ·have e:y=hi:=by have:=S.le;lia
  cases rest with
  | cons b r=>have:=S.1;lia
  | nil =>
   refine hB _ _ ?_
   wp_walk
   rw[bK]at x;rw[<- x];exact h _ A
def zfW:GD:=fun ts n R=>∃rs:List (Int×Int),ts=[.list (pD rs)]/\(∀r∈rs,0<=r.1/\r.1<=r.2/\r.2<=2 ^ 64)/\rs.length<=100000/\∀ps,PatS rs ps->R (.tuple (pD ps)) n
theorem zf5{rs:qB}{n:Nat}{R:qN}(w:∀r∈rs,0<=r.1/\r.1<=r.2/\r.2<=2 ^ 64)(l:rs.length<=100000)(h:∀ps,PatS rs ps->R (.tuple (pD ps)) n):zfW [.list (pD rs)] n R:=⟨rs,rfl,w,l,h⟩
theorem zlO:∀{rs:qB},(∀r∈rs,r.1<=r.2)->∃ps,PatS rs ps
 | [],_=>⟨[],rfl⟩
 | r::rs,h=>by
  obtain⟨a,A⟩:=zlh _ r.1 r.2 (ay _) (h r (by simp))
  obtain⟨b,B⟩:=zlO (rs:=rs) fun s l=>h s (by simp[l])
  exact⟨a++b,a,b,rfl,A,B⟩
theorem zj9{g:DTG}{d:DTE}{v:En}{n:Nat}{Rl:List af->Nat->Prop}:∀(xs l:qD),(∀x∈xs,∀K:af->Nat->Prop,K x n->g x v fun u=>d u n K)->l.length+xs.length<=16777216->Rl (l++xs) n->JQ g dYes d v xs l n Rl
 | [],l,_,_,h=>by simpa[JQ] using h
 | x::xs,l,hg,hl,h=>by
  have e:(fun u=>dYes u n fun b C=>if b=true then d u C fun t G=>l.length<16777216/\JQ g dYes d v xs (l++[t]) G Rl else JQ g dYes d v xs l C Rl)=fun u=>d u n fun t G=>l.length<16777216/\JQ g dYes d v xs (l++[t]) G Rl:=by
   funext u
   exact propext ⟨fun z=>by simpa[dYes] using z,fun z=>by simpa[dYes] using z⟩
  show g x v fun u=>dYes u n fun b C=>if b=true then d u C fun t G=>l.length<16777216/\JQ g dYes d v xs (l++[t]) G Rl else JQ g dYes d v xs l C Rl
  rw[e];refine hg x (by simp) _ ⟨by simp at hl;lia,zj9 xs (l++[x]) (fun y I=>hg y (by simp[I])) (by simp at hl ⊢;lia) (by simpa using h)⟩
def zdH(Z:ZZ):Prop:=FQ Z "patch_of" (top 20) ["runs"] 4 (spD Z.K 1 zfW)
theorem ziI(D:Dq Z.K Z.mg "patch_of" (top 20) ["runs"]) (U:zo8 Z) (T:Txt Z.mg):zdH Z:=by
 refine' okQ D (fnS (N:=["runs"]) (by decide +kernel)) rfl fun f cdv A outer s H E J=>⟨_,(Jc (Jf (Qb QE QG T.tup Qp (Jn (dl (Jl (zoM (own:=["low","high","block"]) (capt:=[]) rfl (JJ.of rfl) (dil (zpp (Jk 0))) (fun _ _ _ _=>(Jz rfl (Ji (dgv 0 (ndB rfl)) (Ji (dgv 1 (ndB rfl)) Jx)))) (by decide) (fun _ _ _ _=>Y5) (fun _ _ _ _=>(Qw (Je U J (dbv 0 (dbv 1 Ja))))) (fun _ _ _ _=>(dgv 2 (ndB rfl))) (by decide) (fun _ _ _ _=>Y5) (fun _ _ _ _=>(Jk 2))))) Jq Ug)))),?_⟩
 intro ts n R hl h;obtain⟨rs,rfl,w,l,h⟩:=h
 wp_walk
 have key:∀(rs:qB) (v ps:qB),(∀r∈rs,0<=r.1/\r.1<=r.2/\r.2<=2 ^ 64)->v.length+130*rs.length<=16777216->PatS rs ps->∀K:List af->Nat->Prop,K (pD (v++ps)) n ->
   UQ (UY (Ua (Qo 0) (Ua (Qo 1) UX))) dYes (dItT (dFn ZQ (Qm (dVar 0) (Qm (dVar 1) dNil)))) (Qo 2) dYes (dVar 2) [none,none,none] (pD rs) (pD v) n K:=by
  intro rs;induction rs with
  | nil =>
   intro v ps _ _ P K I;cases(show ps=[] from P)
   rw[bK]at I;exact I
  | cons r rs ih =>
   intro v ps w la P K I;obtain⟨a,b,rfl,S,Pb⟩:=P;have G:=w r (by simp)
   have ll:=S.len G.1 G.2.2;show UY (Ua (Qo 0) (Ua (Qo 1) UX)) (.tuple [.int r.1,.int r.2]) [none,none,none] fun y=>dYes y n fun b n2=>if b=true then dItT (dFn ZQ (Qm (dVar 0) (Qm (dVar 1) dNil))) y n2 fun ts n3=>JQ (Qo 2) dYes (dVar 2) y ts (pD v) n3 fun C Y=>UQ (UY (Ua (Qo 0) (Ua (Qo 1) UX))) dYes (dItT (dFn ZQ (Qm (dVar 0) (Qm (dVar 1) dNil)))) (Qo 2) dYes (dVar 2) [none,none,none] (pD rs) C Y K else _
   rw[aO]at la
   wp_walk using zuw G.1 G.2.1 G.2.2 (fun bs B=>?_)
   rw[B.uniq S];refine zj9 _ _ (fun x hx K2 L=>?_) (by rw[JA,JA];lia) ?_
   ·wp_walk
    exact L
   ·rw[VC];exact ih (v++a) b (fun s hs=>w s (by simp[hs])) (by rw[aK];lia) Pb K (by rw[iS];exact I)
 obtain⟨ps,P⟩:=zlO (rs:=rs) fun r J=>(w r J).2.1
 refine key rs [] ps w (by simp;lia) P _ ?_
 wp_walk
 exact h ps P
theorem zmr{bits:Int}{bs:qB}{t:af}{Rl:List af->Prop}(Y:t=.list (pD bs)\/t=.tuple (pD bs))(y:bits<=64)(B:Bks bits bs)(I:bs.length<64)
  (h:∀cs:List (Int×Int),cs.Perm bs->cs.Pairwise (fun a b=>a.1<=b.1)->Rl (pD cs)):Zu t Rl:=by
 have key:(pD bs).length<64/\(∀x∈pD bs,IsPr x)/\∀v:List af,v.Perm (pD bs)->v.Pairwise (fun a b=>rkD a<=rkD b)->Rl v:=by
  refine⟨by rw[JA];exact I,fun x hx=>?_,fun v pm pw=>?_⟩
  ·obtain⟨b,G,rfl⟩:=aN.mp hx;have:=B b G;exact⟨b.1,b.2,rfl,this.1,by have:=this.2.1;lia⟩
  ·have L:v.Perm ((bs.map fun b=>(b,prD b)).map (·.2)):=by
    have:(bs.map fun b=>(b,prD b)).map (·.2)=pD bs:=by simp[pD]
    rw[this];exact pm
   obtain⟨zs,R,p2⟩:=Wa L;have U:∀z∈zs,z.2=prD z.1:=fun z J=>by
    obtain⟨b,_,rfl⟩:=aN.mp (R.mem_iff.mp J)
    rfl
   have e:v=pD (zs.map (·.1)):=by
    rw[<- p2];unfold pD;rw[cQ];exact ia fun z J=>U z J
   have pc:(zs.map (·.1)).Perm bs:=by
    have:=R.map (·.1);rw[cQ]at this;have e2:bs.map ((fun x:(Int×Int)×af=>x.1)∘fun b=>(b,prD b))=bs:=by
     show bs.map id=bs
     exact uJ _
    rwa [e2]at this
   rw[e];have C:Bks bits (zs.map (·.1)):=fun b y=>B b (pc.mem_iff.mp y)
   rw[e]at pw;unfold pD at pw;rw[dH]at pw;refine h _ pc (gk ?_ pw);intro a b S y N;have N:a.1*1000+a.2<=b.1*1000+b.2:=N;have a0:=(C a S).1;have a1:=(C a S).2.1;have b0:=(C b y).1;have b1:=(C b y).2.1;lia
 rcases Y with rfl|rfl <;> exact key
def zhU:GD:=fun ts n R=>∃(bits:Int) (bs:qB) (t:af),ts=[t]/\(t=.list (pD bs)\/t=.tuple (pD bs))/\0<=bits/\bits<=64/\Bks bits bs/\bs.length<64/\∀rs,NR rs->(∀x,mR x rs↔mB x bs)->rs.length<=bs.length->R (.list (pD rs)) n
theorem zic{bits:Int}{bs:qB}{t:af}{n:Nat}{R:qN}(y:t=.list (pD bs)\/t=.tuple (pD bs))(v:0<=bits)(C:bits<=64)(B:Bks bits bs)(l:bs.length<64)(h:∀rs,NR rs->(∀x,mR x rs↔mB x bs)->rs.length<=bs.length->R (.list (pD rs)) n):zhU [t] n R:=⟨bits,bs,t,rfl,y,v,C,B,l,h⟩
def zeC(Z:ZZ):Prop:=FQ Z "runs_of" (top 21) ["blocks"] 3 (spD Z.K 1 zhU)
theorem zks(D:Dq Z.K Z.mg "runs_of" (top 21) ["blocks"]) (EV:Wd Z) (T:Txt Z.mg):zeC Z:=by
 refine' okQ D (fnS (N:=["blocks","runs","block","low","high"]) (by decide +kernel)) rfl fun f cdv A outer s H E C=>⟨_,(Jb (UJ (i:=1) (ndB rfl) rfl (dE rfl) (JC Ja)) (Jb (Ub cz rfl (QC (Jl (ze5 C T.srt (dlv 0) Ju))) (dgv 2 (ndB rfl)) (Jc (Jp (JY (U6 (JS (YK 1)) (Yc (Jo Qf Qd (dl (Jd (dlv 2) dli)) (dl (Jd (dl (Jd (YK 1) (dl (Y3 Jg)))) dli)) (Jj _))))) (Jb (Qc (Jd (YK 1) (dl (Y3 Jg))) (Jz rfl (Ji (dgv 3 (ndB rfl)) (Ji (dgv 4 (ndB rfl)) Jx)))) (Jc (zuh 1 (Y3 Jg) (Jh (dbv 3 (dbc (JF (Wf rfl) VN T.max Wl (Jn (dlv 4) (Jn (dl (Je EV C (dbv 2 Ja))) Jq Q0) Ju)) Ja)))))) (Jc (Qr 1 (Jh (dbc (Jd (dlv 2) dli) (dbc (Je EV C (dbv 2 Ja)) Ja)))))))) (UE 1 (Jc (Jf (Jk 1)))))),?_⟩
 intro ts n R hl h;obtain⟨bits,bs,t,rfl,ht,b0,b1,B,l,h⟩:=h
 wp_walk
 refine zmr ht b1 B l fun cs pm pw=>?_
 have Bc:Bks bits cs:=fun b G=>B b (pm.mem_iff.mp G)
 have lc:=pm.length_eq;refine VU 1 2 3 4 (fun k a1 _ _ _ m=>m=n/\∃rs:List (Int×Int),a1=some (.own (pD rs))/\NR rs/\(∀x,mR x rs↔mB x (cs.take k))/\rs.length<=k/\∀r∈rs,∀b∈cs.drop k,r.1<=b.1) ⟨rfl,[],rfl,⟨(fun r C=>nomatch C),.nil⟩,(fun x=>⟨fun z=>absurd z QT,fun z=>absurd z ZJ⟩),ay _,fun r C=>nomatch C⟩ ?_ ?_
 ·rintro k t' a1 a2 a3 a4 m K RT BK et ⟨rfl,rs,rfl,J,S,lr,lo⟩ hK hRT hBK;obtain⟨i,g,eb,rfl⟩:=Y0 et;have kl:=(av.mp eb).1;have Bb:=Bc _ (aV eb);have g0:0<=g:=Bb.1;have g1:g<=bits:=Bb.2.1;have pg:=Qz g.toNat;have tk:cs.take (k+1)=cs.take k++[(i,g)]:=by rw[e8,eb];rfl
  have dk:cs.drop k=(i,g)::cs.drop (k+1):=by
   rw[cu kl];congr 1;have:=aE kl;rw[eb]at this;exact(aL this).symm
  have after:∀b∈cs.drop (k+1),i<=b.1:=fun b G=>by
   have:cs.Pairwise fun a b=>a.1<=b.1:=pw
   have:=(this.sublist (iT k cs));rw[dk]at this;exact(eE.mp this).1 b G
  have m1:∀x,mB x (cs.take (k+1))↔mB x (cs.take k)\/(i<=x/\x<i+2 ^ g.toNat):=fun x=>by
   rw[tk,ZI,ziR];constructor
   ·rintro(z|z|z)
    ·exact .inl z
    ·exact .inr z
    ·exact absurd z ZJ
   ·rintro(z|z)
    ·exact .inl z
    ·exact .inr (.inl z)
  have new:(∀r∈rs,r.2<i)->∀c2 c3 c4,K [some (.val t),some (.own (pD rs++[.tuple [.int i,.int (i+2 ^ g.toNat)]])),c2,c3,c4] m:=fun hlt c2 c3 c4 =>
   hK _ _ _ _ _ ⟨rfl,rs++[(i,i+2 ^ g.toNat)],by rw[<- UL],⟨fun r C=>by
    rcases aB.mp C with z|z
    ·exact J.1 r z
    ·cases az.mp z;show i<i+2 ^ g.toNat;lia,by
    rw[cn];exact⟨J.2,cE _ _,fun a ha b G=>by cases az.mp G;exact hlt a ha⟩⟩,(fun x=>by
    rw[UK,S,m1,Us];constructor
    ·rintro(z|z|z)
     ·exact .inl z
     ·exact .inr z
     ·exact absurd z QT
    ·rintro(z|z)
     ·exact .inl z
     ·exact .inr (.inl z)),by simp;lia,fun r C b G=>by
    rcases aB.mp C with z|z
    ·exact lo r z b (by rw[dk];simp[G])
    ·cases az.mp z;exact after b G⟩
  rcases List.eq_nil_or_concat rs with rfl|⟨I,r,rfl⟩
  ·wp_walk using V4 g0 (by lia) ?_
   ·show 0<16777216;decide
   ·exact new (fun r C=>nomatch C) _ _ _
   ·exact absurd hc (by simp[pD])
  ·rw[List.concat_eq_append]at *;have sn:pD (I++[r])=pD I++[.tuple [.int r.1,.int r.2]]:=by simp[pD]
   have lr':I.length+1<=k:=by simpa using lr
   have r12:=J.1 r (by simp)
   have rlo:r.1<=i:=lo r (by simp) (i,g) (by rw[dk];simp)
   have L:=cn.mp J.2;rw[sn]at new ⊢
   wp_walk using zoq ?_,V4 g0 (by lia) ?_
   all_goals first
    | (exfalso;simp at hc;done)
    | (exfalso;rename_i y;simp at y;done)
    | (simp[JA];lia)
    | skip
   ·refine zsa zjG ?_
    wp_walk
    rw[List.set_append_right _ _ (ay _),gS];have mx:(if i+2 ^ g.toNat > r.2 then i+2 ^ g.toNat else r.2)=max r.2 (i+2 ^ g.toNat):=by split <;> lia
    refine hK _ _ _ _ _ ⟨rfl,I++[(r.1,max r.2 (i+2 ^ g.toNat))],?_,⟨fun s Y=>?_,?_⟩,fun x=>?_,by simp;lia,fun s Y b G=>?_⟩
    ·rw[mx];simp[pD]
    ·rcases aB.mp Y with z|z
     ·exact J.1 s (by simp[z])
     ·cases az.mp z;show r.1<max r.2 _;lia
    ·rw[cn];exact⟨L.1,cE _ _,fun a ha b G=>by cases az.mp G;exact L.2.2 a ha r (by simp)⟩
    ·have U:=S x;rw[UK,Us]at U;rw[UK,Us,m1,<- U];have nn:=QT (x:=x);show _\/(r.1<=x/\x<max r.2 (i+2 ^ g.toNat))\/_↔_
     constructor
     ·rintro(z|z|z)
      ·exact .inl (.inl z)
      ·by_cases w:x<r.2
       ·exact .inl (.inr (.inl ⟨z.1,w⟩))
       ·exact .inr (by lia)
      ·exact absurd z nn
     ·rintro((z|z|z)|z)
      ·exact .inl z
      ·exact .inr (.inl (by lia))
      ·exact absurd z nn
      ·exact .inr (.inl (by lia))
    ·rcases aB.mp Y with z|z
     ·exact lo s (by simp[z]) b (by rw[dk];simp[G])
     ·cases az.mp z;exact lo r (by simp) b (by rw[dk];simp[G])
   ·refine new (fun s Y=>?_) _ _ _
    rcases aB.mp Y with z|z
    ·have:=L.2.2 s z r (by simp);have:=J.1 r (by simp);lia
    ·cases az.mp z;lia
 ·rintro a1 a2 a3 a4 m ⟨rfl,rs,rfl,J,S,lr,lo⟩;rw[JA]at S lr;rw[dZ]at S
  wp_walk
  exact h rs J (fun x=>by rw[S x,zmd pm]) (by lia)
def zjY:GD:=fun ts n R=>∃(bits:Int) (bs:qB) (t:af),ts=[t]/\(t=.list (pD bs)\/t=.tuple (pD bs))/\0<=bits/\bits<=64/\Bks bits bs/\bs.length<64/\∀ps,CanP (fun x=>mB x bs) ps->ps.length<=bs.length->R (.tuple (pD ps)) n
theorem zoU{bits:Int}{bs:qB}{t:af}{n:Nat}{R:qN}(y:t=.list (pD bs)\/t=.tuple (pD bs))(v:0<=bits)(C:bits<=64)(B:Bks bits bs)(l:bs.length<64)(h:∀ps,CanP (fun x=>mB x bs) ps->ps.length<=bs.length->R (.tuple (pD ps)) n):zjY [t] n R:=⟨bits,bs,t,rfl,y,v,C,B,l,h⟩
def zjs(Z:ZZ):Prop:=FQ Z "fewest" (top 10) ["blocks"] 5 (spD Z.K 1 zjY)
theorem zlY(D:Dq Z.K Z.mg "fewest" (top 10) ["blocks"]) (S:zdH Z) (L:zeC Z) (T:Txt Z.mg):zjs Z:=by
 refine' okQ D (fnS (N:=["blocks"]) (by decide +kernel)) rfl fun f U A outer s H E I=>⟨_,(Jc (Jf (Je S I (dbc (Je L I (dbv 0 Ja)) Ja)))),?_⟩
 intro ts n R Y h;obtain⟨bits,bs,t,rfl,J,u,v,B,l,h⟩:=h
 wp_walk using zic J u v B l (fun rs y G lr=>?_)
 have w:=zqm u v y G fun x hx=>VB u B hx
 wp_walk using zf5 w ?_ (fun ps P=>?_)
 ·lia
 ·have C:CanP (fun x=>mB x bs) ps:=⟨rs,y,G,P⟩
  exact h ps C (C.le u B)
def zcv:GD:=fun ts n R=>∃(rs:qB) (top:Int),ts=[.list (pD rs),.int top]/\NR rs/\(∀r∈rs,0<=r.1)/\0<=top/\rs.length<=100000/\∀(gs:qB) (B:Int),NR gs->(∀x,mR x gs↔0<=x/\x<B/\¬mR x rs)->gs.length<=rs.length+1->top<=B->(B=top\/∃r∈rs,B=r.2)->R (.list (pD gs)) n
theorem zgJ{rs:qB}{top:Int}{n:Nat}{R:qN}(u:NR rs)(w:∀r∈rs,0<=r.1)(t0:0<=top)(l:rs.length<=100000)(h:∀(gs:qB) (B:Int),NR gs->(∀x,mR x gs↔0<=x/\x<B/\¬mR x rs)->gs.length<=rs.length+1->top<=B->(B=top\/∃r∈rs,B=r.2)->R (.list (pD gs)) n):zcv [.list (pD rs),.int top] n R:=⟨rs,top,rfl,u,w,t0,l,h⟩
theorem zig{rs:qB}{top:Int}{n:Nat}{R:qN}(C:NR rs)(w:∀r∈rs,0<=r.1/\r.2<=top)(t0:0<=top)(l:rs.length<=100000)(h:∀gs,NR gs->(∀x,mR x gs↔0<=x/\x<top/\¬mR x rs)->gs.length<=rs.length+1->R (.list (pD gs)) n):zcv [.list (pD rs),.int top] n R:=zgJ C (fun r u=>(w r u).1) t0 l fun gs B G I v J y=>by
 have:B=top:=by
  rcases y with e|⟨r,u,e⟩
  ·exact e
  ·have:=(w r u).2;lia
 subst this;exact h gs G I v
def zdY(Z:ZZ):Prop:=FQ Z "gaps_below" (top 22) ["runs","top"] 1 (spD Z.K 2 zcv)
theorem zgm(D:Dq Z.K Z.mg "gaps_below" (top 22) ["runs","top"]) (T:Txt Z.mg):zdY Z:=by
 refine' okQ D (fnS (N:=["runs","top","gaps","begin","low","high"]) (by decide +kernel)) rfl fun f cdv A outer s H E C=>⟨_,(Jb (UJ (i:=2) (ndB rfl) rfl (dE rfl) (JC Ja)) (Jb (dsv 3 (ndB rfl) Jg) (Jb (Ub cz rfl (zpp (Jk 0)) (Jz rfl (Ji (dgv 4 (ndB rfl)) (Ji (dgv 5 (ndB rfl)) Jx))) (Jb (Jp (Jo (Qy C) Qx (dlv 3) (dlv 4) (Jj _)) (Jc (Qr 2 (Jh (dbv 3 (dbv 4 Ja))))) Jr) (Jc (dsv 3 (ndB rfl) (Jk 5))))) (Jb (Jp (Jo (Qy C) Qx (dlv 3) (dlv 1) (Jj _)) (Jc (Qr 2 (Jh (dbv 3 (dbv 1 Ja))))) Jr) (UE 2 (Jc (Jf (Jk 2)))))))),?_⟩
 intro ts n R hl h;obtain⟨rs,top,rfl,nr,w,t0,l,h⟩:=h
 wp_walk
 refine VU 2 3 4 5 (fun k a2 a3 _ _ m=>m=n/\∃(gs:qB) (G:Int),a2=some (.own (pD gs))/\a3=some (.val (.int G))/\NR gs/\(∀x,mR x gs↔0<=x/\x<G/\¬mR x (rs.take k))/\gs.length<=k/\0<=G/\(G=0\/∃r∈rs,G=r.2)/\(∀r∈rs.take k,r.2<=G)/\(∀g∈gs,g.2<G)/\(∀r∈rs.drop k,(k=0/\G=0/\G<=r.1)\/G<r.1)) ⟨rfl,[],0,rfl,rfl,⟨(fun r C=>nomatch C),.nil⟩,(fun x=>⟨fun z=>absurd z QT,fun z=>by lia⟩),ay _,bf _,.inl rfl,(fun r C=>nomatch C),(fun r C=>nomatch C),fun r C=>.inl ⟨rfl,rfl,w r C⟩⟩ ?_ ?_
 ·rintro k t' a2 a3 a4 a5 m K RT BK et ⟨rfl,gs,G,rfl,rfl,J,S,lg,be0,U,ti,gl,dr⟩ hK hRT hBK;obtain⟨lo,hi,Y,rfl⟩:=Y0 et;have kl:=(av.mp Y).1;have mr:=aV Y;have L:=nr.1 _ mr;have L:lo<hi:=L;have wr:=w _ mr;have wr1:0<=lo:=wr;have tk:rs.take (k+1)=rs.take k++[(lo,hi)]:=by rw[e8,Y];rfl
  have dk:rs.drop k=(lo,hi)::rs.drop (k+1):=by
   rw[cu kl];congr 1;have:=aE kl;rw[Y]at this;exact(aL this).symm
  have after:∀r∈rs.drop (k+1),hi<r.1:=fun r C=>by
   have:=(nr.2.sublist (iT k rs));rw[dk]at this;exact(eE.mp this).1 r C
  have here:=dr (lo,hi) (by rw[dk];simp)
  have here:G<=lo:=by rcases here with z|z;exact z.2.2;exact eM z
  have mt:∀x,mR x (rs.take (k+1))↔mR x (rs.take k)\/(lo<=x/\x<hi):=fun x=>by
   rw[tk,UK,Us];constructor
   ·rintro(z|z|z)
    ·exact .inl z
    ·exact .inr z
    ·exact absurd z QT
   ·rintro(z|z)
    ·exact .inl z
    ·exact .inr (.inl z)
  have old:∀x,G<=x->¬mR x (rs.take k):=fun x hx ⟨r,C,h1,h2⟩=>by have:=ti r C;lia
  have go:∀(I:qB) (c4 c5:Option Cell),NR I->(∀x,mR x I↔mR x gs\/(G<=x/\x<lo))->I.length<=k+1->(∀g∈I,g.2<hi)->K [some (.val (.list (pD rs))),some (.val (.int top)),some (.own (pD I)),some (.val (.int hi)),c4,c5] m:=fun I c4 c5 n' m' l' g' =>
   hK _ _ _ _ _ ⟨rfl,I,hi,rfl,rfl,n',(fun x=>by
    rw[m',S,mt];have ox:=old x;constructor
    ·rintro(⟨a,b,c⟩|⟨a,b⟩)
     ·exact⟨a,by lia,fun z=>z.elim c fun z=>by lia⟩
     ·exact⟨by lia,by lia,fun z=>z.elim (ox a) fun z=>by lia⟩
    ·rintro⟨a,b,c⟩
     by_cases y:x<G
     ·exact .inl ⟨a,y,fun z=>c (.inl z)⟩
     ·refine .inr ⟨by lia,?_⟩
      by_cases u:x<lo
      ·exact u
      ·exact absurd (.inr ⟨by lia,b⟩) c),l',by lia,.inr ⟨_,mr,rfl⟩,(fun r C=>by
    rw[tk]at C;rcases aB.mp C with z|z
    ·have:=ti r z;lia
    ·cases az.mp z;exact bf _),g',fun r C=>.inr (after r C)⟩
  wp_walk
  ·rw[JA];lia
  ·rw[UL];refine go (gs++[(G,lo)]) _ _ ⟨fun r C=>?_,?_⟩ (fun x=>?_) (by simp;lia) fun g hg=>?_
   ·rcases aB.mp C with z|z
    ·exact J.1 r z
    ·cases az.mp z;exact hc
   ·rw[cn];exact⟨J.2,cE _ _,fun a ha b hb=>by cases az.mp hb;exact gl a ha⟩
   ·rw[UK,Us];constructor
    ·rintro(z|z|z)
     ·exact .inl z
     ·exact .inr z
     ·exact absurd z QT
    ·rintro(z|z)
     ·exact .inl z
     ·exact .inr (.inl z)
   ·rcases aB.mp hg with z|z
    ·have:=gl g z;lia
    ·cases az.mp z;exact L
  ·refine go gs _ _ J (fun x=>⟨.inl,fun z=>z.elim id fun z=>by lia⟩) (by lia) fun g hg=>?_
   have:=gl g hg;lia
 ·rintro a2 a3 a4 a5 m ⟨rfl,gs,G,rfl,rfl,J,S,lg,be0,U,ti,gl,dr⟩;rw[JA]at S lg ti;rw[dZ]at S ti;have old:∀x,G<=x->¬mR x rs:=fun x hx ⟨r,C,h1,h2⟩=>by have:=ti r C;lia
  wp_walk
  ·rw[JA];lia
  ·rw[UL];refine h (gs++[(G,top)]) top ⟨fun r C=>?_,?_⟩ (fun x=>?_) (by simp;lia) (bf _) (.inl rfl)
   ·rcases aB.mp C with z|z
    ·exact J.1 r z
    ·cases az.mp z;exact hc
   ·rw[cn];exact⟨J.2,cE _ _,fun a ha b hb=>by cases az.mp hb;exact gl a ha⟩
   ·rw[UK,Us,S];have ox:=old x;constructor
    ·rintro(⟨a,b,c⟩|z|z)
     ·exact⟨a,by lia,c⟩
     ·exact⟨by have:=z.1;lia,z.2,ox z.1⟩
     ·exact absurd z QT
    ·rintro⟨a,b,c⟩
     by_cases y:x<G
     ·exact .inl ⟨a,y,c⟩
     ·exact .inr (.inl ⟨by show G<=x;lia,b⟩)
  ·refine h gs G J S (by lia) (by lia) ?_
   rcases U with z|z
   ·exact .inl (by lia)
   ·exact .inr z
def zhV:GD:=fun ts n R=>∃(bits:Int) (ps:qB),ts=[.int bits,.tuple (pD ps)]/\1<=bits/\bits<=64/\Bks bits ps/\ps.length<64/\∀v,CanP (fun x=>0<=x/\x<2 ^ bits.toNat/\¬mB x ps) v->v.length<=130*(ps.length+1)->R (.tuple (pD v)) n
theorem zne{bits:Int}{ps:qB}{n:Nat}{R:qN}(y:1<=bits)(C:bits<=64)(B:Bks bits ps)(l:ps.length<64)(h:∀v,CanP (fun x=>0<=x/\x<2 ^ bits.toNat/\¬mB x ps) v->v.length<=130*(ps.length+1)->R (.tuple (pD v)) n):zhV [.int bits,.tuple (pD ps)] n R:=⟨bits,ps,rfl,y,C,B,l,h⟩
def zg9(Z:ZZ):Prop:=FQ Z "rest_of" (top 12) ["bits","patch"] 5 (spD Z.K 2 zhV)
theorem zkt(D:Dq Z.K Z.mg "rest_of" (top 12) ["bits","patch"]) (U:zdH Z) (L:zdY Z) (S:zeC Z) (T:Txt Z.mg):zg9 Z:=by
 refine' okQ D (fnS (N:=["bits","patch"]) (by decide +kernel)) rfl fun f Y A outer s H E u=>⟨_,(Jc (Jf (Je U u (dbc (Je L u (dbc (Je S u (dbv 1 Ja)) (dbc (JR dli (dlv 0)) Ja))) Ja)))),?_⟩
 intro ts n R hl h;obtain⟨bits,ps,rfl,b0,C,B,l,h⟩:=h
 wp_walk using zic (.inr rfl) (by lia) C B l (fun rs G I lr=>?_)
 ·exact cpow (by lia) (by lia)
 have w:=zqm (by lia) C G I fun x hx=>VB (by lia) B hx
 have wt:∀r∈rs,0<=r.1/\r.2<=1*2 ^ bits.toNat:=fun r u=>by
  have lt:=G.1 r u;have:=VB (by lia) B ((I (r.2 - 1)).mp ⟨r,u,by lia,by lia⟩)
  have:=(w r u).1;rw[Qq];lia
 have tp:=Qz bits.toNat
 wp_walk using zig G wt (by lia) (by lia) (fun gs J mg lg=>?_)
 have v:∀x,mR x gs↔0<=x/\x<2 ^ bits.toNat/\¬mB x ps:=fun x=>by rw[mg,Qq,I]
 have y:=zqm (by lia) C J v fun x hx=>⟨hx.1,hx.2.1⟩
 wp_walk using zf5 y ?_ (fun qs P=>?_)
 ·lia
 ·have:=P.len fun r u=>⟨(y r u).1,(y r u).2.2⟩
  exact h qs ⟨gs,J,v,P⟩ (by lia)
def zfY:GD:=fun ts n R=>∃(bits:Int) (bs:qB) (a:Int),ts=[.tuple (pD bs),.int a]/\bits<=64/\Ptc bits bs/\bs.length<1000000/\∀k:Nat,k<=bs.length->(∀(j:Nat) (b:Int×Int),j<k->bs[j]?=some b->eB b<=a)->(∀(j:Nat) (b:Int×Int),k<=j->bs[j]?=some b->a<eB b)->R (.int (k:Int)) n
theorem zk6{bits a:Int}{bs:qB}{n:Nat}{R:qN}(x:bits<=64)(P:Ptc bits bs)(v:bs.length<1000000)(h:∀k:Nat,k<=bs.length->(∀(j:Nat) (b:Int×Int),j<k->bs[j]?=some b->eB b<=a)->(∀(j:Nat) (b:Int×Int),k<=j->bs[j]?=some b->a<eB b)->R (.int (k:Int)) n):zfY [.tuple (pD bs),.int a] n R:=⟨bits,bs,a,rfl,x,P,v,h⟩
def zfA(Z:ZZ):Prop:=FQ Z "ended_by" (top 17) ["patch","address"] 3 (spD Z.K 2 zfY)
theorem ziM(D:Dq Z.K Z.mg "ended_by" (top 17) ["patch","address"]) (EV:Wd Z) (T:Txt Z.mg):zfA Z:=by
 refine' okQ D (fnS (N:=["patch","address","low","high","middle"]) (by decide +kernel)) rfl fun f cdv A outer s H E hr=>⟨_,(Jb (dsv 2 (ndB rfl) Jg) (Jb (dsv 3 (ndB rfl) (JF Uc Q6 T.len Q1 (Jn (dlv 0) Jq Ju))) (Jb (zj4 cz (Jo (Qy hr) Qx (dlv 2) (dlv 3) (Jj _)) (Jb (dsv 4 (ndB rfl) (VX (dl (JG (dlv 2) (dlv 3))) dli)) (Jc (Jp (Jo Qf Qd (dl (Je EV hr (dbc (Jd (dlv 0) (dlv 4)) Ja))) (dlv 1) (Jj _)) (Jc (dsv 2 (ndB rfl) (JG (dlv 4) dli))) (Jc (dsv 3 (ndB rfl) (Jk 4))))))) (Jc (Jf (Jk 2)))))),?_⟩
 intro ts n R hl L;obtain⟨bits,bs,a,rfl,b1,P,hl6,L⟩:=L;have srt:=P.ends
 wp_walk
 rw[JA];refine zgN (m:=bs.length) (fun m ρ S=>S=n/\∃lo hi:Nat,∃c,ρ=[some (.val (.tuple (pD bs))),some (.val (.int a)),some (.val (.int (lo:Int))),some (.val (.int (hi:Int))),c]/\lo<=hi/\hi<=bs.length/\m=hi - lo/\(∀(j:Nat) (b:Int×Int),j<lo->bs[j]?=some b->eB b<=a)/\(∀(j:Nat) (b:Int×Int),hi<=j->bs[j]?=some b->a<eB b)) ?_ ?_
 ·refine⟨rfl,0,bs.length,none,rfl,dQ _,ay _,rfl,fun j b C=>absurd C (Nat.not_lt_zero _),fun j b C e=>?_⟩
  rw[bX C]at e;cases e
 ·rintro m ρ S ⟨rfl,lo,hi,c,rfl,h1,h2,rfl,h3,h4⟩
  wp_walk
  ·exact zuv
  ·have hm:(lo+hi) / 2<bs.length:=by lia
   obtain⟨b,I⟩:∃b,bs[(lo+hi) / 2]?=some b:=⟨_,aE hm⟩;have hb:=P.1 b (aV I);refine Zt (k:=(lo+hi) / 2) (by lia) (zp4 I) ?_
   have Y:∀(i j:Nat) (x y:Int×Int),bs[i]?=some x->bs[j]?=some y->i<=j->eB x<=eB y:=fun i j x y U J hij=>by
    by_cases z:i=j
    ·subst z;rw[U]at J;cases J;exact bf _
    ·obtain⟨l1,rfl⟩:=av.mp U;obtain⟨l2,rfl⟩:=av.mp J;exact aR.mp srt i j l1 l2 (by lia)
   wp_walk using V4 ?_ ?_ ?_
   ·exact hb.1
   ·have:=hb.2.1;lia
   ·have hc:eB b<=a:=hc;refine⟨_,?_,rfl,(lo+hi) / 2+1,hi,some (.val (.int (((lo+hi) / 2:Nat):Int))),?_,by lia,h2,rfl,fun j x C e=>?_,h4⟩
    ·lia
    ·have G:((lo:Int)+hi) / 2=(((lo+hi) / 2:Nat):Int):=by lia
     first|(rw[G];done)|(rw[G];rfl)
    ·exact kD (Y _ _ _ _ e I (by lia)) hc
   ·have hc:¬eB b<=a:=hc;refine⟨_,?_,rfl,lo,(lo+hi) / 2,some (.val (.int (((lo+hi) / 2:Nat):Int))),?_,by lia,by lia,rfl,h3,fun j x C e=>?_⟩
    ·lia
    ·have G:((lo:Int)+hi) / 2=(((lo+hi) / 2:Nat):Int):=by lia
     first|(rw[G];done)|(rw[G];rfl)
    ·have:=Y _ _ _ _ I e (by lia);lia
  ·have e:lo=hi:=by lia
   subst e;exact L lo h2 h3 h4
def zea:GD:=fun ts n R=>∃(bits:Int) (bs:qB) (a:Int),ts=[.tuple (pD bs),.int a]/\bits<=64/\Ptc bits bs/\bs.length<1000000/\(∀b∈bs,b.1<=a->a<eB b->R (.tuple [.int b.1,.int b.2]) n)/\((∀b∈bs,¬(b.1<=a/\a<eB b))->R .none n)
theorem zih{bits a:Int}{bs:qB}{n:Nat}{R:qN}(x:bits<=64)(P:Ptc bits bs)(v:bs.length<1000000)(h:∀b∈bs,b.1<=a->a<eB b->R (.tuple [.int b.1,.int b.2]) n)(h':(∀b∈bs,¬(b.1<=a/\a<eB b))->R .none n):zea [.tuple (pD bs),.int a] n R:=⟨bits,bs,a,rfl,x,P,v,h,h'⟩
def zdZ(Z:ZZ):Prop:=FQ Z "block_with" (top 14) ["patch","address"] 4 (spD Z.K 2 zea)
theorem zgn(D:Dq Z.K Z.mg "block_with" (top 14) ["patch","address"]) (Hz:zfA Z) (T:Txt Z.mg):zdZ Z:=by
 refine' okQ D (fnS (N:=["patch","address","at"]) (by decide +kernel)) rfl fun f cdv A outer s H E L=>⟨_,(Jb (dsv 2 (ndB rfl) (Je Hz L (dbv 0 (dbv 1 Ja)))) (Jb (Jp (JY (U6 (Jo (Qy L) Qx (dlv 2) (dl (JF Uc Q6 T.len Q1 (Jn (dlv 0) Jq Ju))) (Jj _)) (Yc (Jo Qf Qd (dl (Jd (dl (Jd (dlv 0) (dlv 2))) dli)) (dlv 1) (Jj _))))) (Jc (Jf (Jd (dlv 0) (dlv 2)))) Jr) (Jc (Jf Qi)))),?_⟩
 intro ts n R hl I;obtain⟨bits,bs,a,rfl,U,P,G,I,J⟩:=I
 wp_walk using zk6 U P G (fun k k0 k1 k2=>?_)
 ·rw[JA]at hc;have Y:k<bs.length:=by lia
  obtain⟨b,l⟩:∃b,bs[k]?=some b:=⟨_,aE Y⟩;refine Zt (k:=k) rfl (zp4 l) ?_
  wp_walk
  ·refine Zt (k:=k) rfl (zp4 l) ?_;exact I b (aV l) (by assumption) (k2 k b (ay _) l)
  ·have hx:¬b.1<=a:=hc;refine J fun x u ⟨x0,x1⟩=>?_
   obtain⟨j,C,rfl⟩:=aW u;have v:=aE C
   by_cases z:j<k
   ·have:=k1 j _ z v;lia
   ·by_cases y:j=k
    ·subst y;rw[v]at l;cases l;exact hx x0
    ·obtain⟨S,rfl⟩:=av.mp l;have:=aR.mp P.2 k j S C (by lia)
     have:=QJ bs[k];exact hx (by lia)
 ·rw[JA]at hc;refine J fun x u ⟨x0,x1⟩=>?_
  obtain⟨j,C,rfl⟩:=aW u;have:=k1 j _ (by lia) (aE C)
  lia
theorem zsN{bits:Int}{bs:qB}(P:Ptc bits bs){p q:Int×Int}{x:Int}(u:p∈bs)(v:q∈bs)(G:p.1<=x)(p2:x<eB p)(y:q.1<=x)(C:x<eB q):p=q:=by
 obtain⟨i,hi,rfl⟩:=aW u;obtain⟨j,l,rfl⟩:=aW v;rcases cM i j with z|z|z
 ·have:=aR.mp P.2 i j hi l z;lia
 ·subst z;rfl
 ·have:=aR.mp P.2 j i l hi z;lia
def zdq:GD:=fun ts n R=>∃(bits:Int) (bs:qB) (b:Int×Int),ts=[.tuple (pD bs),.tuple [.int b.1,.int b.2]]/\0<=bits/\bits<=64/\Ptc bits bs/\bs.length<1000000/\IsBk bits b.1 b.2/\(∀p∈bs,p.1<=b.1->eB b<=eB p->R (.tuple [.int p.1,.int p.2]) n)/\((∀p∈bs,¬(p.1<=b.1/\eB b<=eB p))->R .none n)
theorem zgK{bits:Int}{bs:qB}{b:Int×Int}{n:Nat}{R:qN}(v:0<=bits)(y:bits<=64)(P:Ptc bits bs)(x:bs.length<1000000)(B:IsBk bits b.1 b.2)(h:∀p∈bs,p.1<=b.1->eB b<=eB p->R (.tuple [.int p.1,.int p.2]) n)(h':(∀p∈bs,¬(p.1<=b.1/\eB b<=eB p))->R .none n):zdq [.tuple (pD bs),.tuple [.int b.1,.int b.2]] n R:=⟨bits,bs,b,rfl,v,y,P,x,B,h,h'⟩
def zdi(Z:ZZ):Prop:=FQ Z "block_about" (top 15) ["patch","block"] 5 (spD Z.K 2 zdq)
theorem zfh(D:Dq Z.K Z.mg "block_about" (top 15) ["patch","block"]) (Y:zdZ Z) (C:zlB Z) (T:Txt Z.mg):zdi Z:=by
 refine' okQ D (fnS (N:=["patch","block","found"]) (by decide +kernel)) rfl fun f cdv A outer s H E y=>⟨_,(Jb (dsv 2 (ndB rfl) (Je Y y (dbv 0 (dbc (Jd (dlv 1) dli) Ja)))) (Jb (Jp (JY (U6 (Jo zlU zmF (dlv 2) (dl Qi) (Jj _)) (Yc (JS (dl (Je C y (dbv 2 (dbv 1 Ja)))))))) (Jc (Jf (Jk 2))) Jr) (Jc (Jf Qi)))),?_⟩
 intro ts n R hl hh;obtain⟨bits,bs,b,rfl,L,J,P,x,B,h,h'⟩:=hh;have bd:=B.bounds L;have pe:=QJ b;have p64:(2:Int) ^ bits.toNat<=2 ^ 64:=Bd.Ww (by lia)
 have pb:=Bd.Qz b.2.toNat;have G:b.1<2 ^ 64:=by lia
 have v:∀p∈bs,p.2<=1000:=fun p l=>by have:=(P.1 p l).2.1;lia
 have u:∀p∈bs,0<=p.2:=fun p l=>(P.1 p l).1
 wp_walk using zih J P x (fun p l U I=>?_) (fun no=>?_),zrg (u _ l) (v _ l) bd.1 G ?_
 ·exact absurd hc (by simp[isNone])
 ·rw[zpk (P.1 p l) B]at hc;have hd:=of_decide_eq_true hc;exact h p l hd.1 hd.2
 ·rw[zpk (P.1 p l) B]at hc;have hd:=of_decide_eq_false hc;refine h' fun q S z=>?_
  have qe:q=p:=zsN P S l z.1 (by lia) U I
  subst qe;exact hd z
 ·exact h' fun p l z=>no p l ⟨z.1,by lia⟩
 ·exact absurd hc (by simp[isNone])
def Yi:GD:=fun ts n R=>∃(bits:Int) (bs:qB) (b:Int×Int),ts=[.tuple (pD bs),.tuple [.int b.1,.int b.2]]/\0<=bits/\bits<=64/\Ptc bits bs/\bs.length<1000000/\IsBk bits b.1 b.2/\∀k:Bool,(k=true↔∃p∈bs,p.1<=b.1/\eB b<=eB p)->R (.bool k) n
theorem zng{bits:Int}{bs:qB}{b:Int×Int}{n:Nat}{R:qN}(v:0<=bits)(y:bits<=64)(P:Ptc bits bs)(x:bs.length<1000000)(B:IsBk bits b.1 b.2)(h:∀k:Bool,(k=true↔∃p∈bs,p.1<=b.1/\eB b<=eB p)->R (.bool k) n):Yi [.tuple (pD bs),.tuple [.int b.1,.int b.2]] n R:=⟨bits,bs,b,rfl,v,y,P,x,B,h⟩
def Wi(Z:ZZ):Prop:=FQ Z "has_all" (top 16) ["patch","block"] 6 (spD Z.K 2 Yi)
theorem zkx(D:Dq Z.K Z.mg "has_all" (top 16) ["patch","block"]) (x:zdi Z) (T:Txt Z.mg):Wi Z:=by
 refine' okQ D (fnS (N:=["patch","block"]) (by decide +kernel)) rfl fun f L A outer s H E I=>⟨_,(Jc (Jf (Qh zlU zmF (dl (Je x I (dbv 0 (dbv 1 Ja)))) (dl Qi) (Jj _)))),?_⟩
 intro ts n R S J;obtain⟨bits,bs,b,rfl,C,y,P,u,B,h⟩:=J
 wp_walk using zgK C y P u B (fun p l G v=>?_) (fun no=>?_)
 ·exact h _ ⟨fun _=>⟨p,l,G,v⟩,fun _=>rfl⟩
 ·exact h _ ⟨fun z=>(nomatch z),fun⟨p,l,z⟩=>absurd z (no p l)⟩
def zcw:GD:=fun ts n R=>∃xs:List (af×af),ts=[.tuple (ppD xs)]/\xs.length<=1000000/\R (.tuple (xs.map (·.1))) n
theorem zii{xs:List (af×af)}{n:Nat}{R:qN}(l:xs.length<=1000000)(h:R (.tuple (xs.map (·.1))) n):zcw [.tuple (ppD xs)] n R:=⟨xs,rfl,l,h⟩
def zd0(Z:ZZ):Prop:=FQ Z "all_blocks" (top 26) ["pairs"] 1 (spD Z.K 1 zcw)
theorem zgo(D:Dq Z.K Z.mg "all_blocks" (top 26) ["pairs"]) (T:Txt Z.mg):zd0 Z:=by
 refine' okQ D (fnS (N:=["pairs"]) (by decide +kernel)) rfl fun f x A outer s H E J=>⟨_,(Jc (Jf (Qb QE QG T.tup Qp (Jn (dl (Jl (dnc ["block","name"] [] (dil (Qw (Jk 0))) (fun _ _ _ _=>(Jz rfl (Ji (dgv 0 (ndB rfl)) (Ji (dgv 1 (ndB rfl)) Jx)))) (fun _ _ _ _=>(Jk 0))))) Jq Ug)))),?_⟩
 intro ts n R y h;obtain⟨xs,rfl,l,h⟩:=h
 wp_walk
 refine QN (cs:=xs) (D:=fun p=>.tuple [p.1,p.2]) (fun p=>p.1) (by lia) ?_ ?_
 ·intro p G C I v
  wp_walk
  exact v
 ·wp_walk
  exact h
def zc7:GD:=fun ts n R=>∃(d:Deal) (nm:af),ts=[dlD d,nm]/\QI nm/\(∀p∈d.2.2,IsNm p.2)/\d.2.2.length<=1000000/\R (.tuple (pD (JW d nm))) n
theorem zjb{d:Deal}{nm:af}{n:Nat}{R:qN}(hw:QI nm)(v:∀p∈d.2.2,IsNm p.2)(l:d.2.2.length<=1000000)(h:R (.tuple (pD (JW d nm))) n):zc7 [dlD d,nm] n R:=⟨d,nm,rfl,hw,v,l,h⟩
def zeD(Z:ZZ):Prop:=FQ Z "kept_from" (top 28) ["deal","name"] 1 (spD Z.K 2 zc7)
theorem zhh(D:Dq Z.K Z.mg "kept_from" (top 28) ["deal","name"]) (T:Txt Z.mg):zeD Z:=by
 refine' okQ D (fnS (N:=["deal","name"]) (by decide +kernel)) rfl fun f J A outer s H E I=>⟨_,(Jc (Jf (Qb QE QG T.tup Qp (Jn (dl (Jl (dnf ["block","theirs"] [1] (dil (Qw (Jd (dlv 0) dli))) (fun _ _ _ _=>(Jz rfl (Ji (dgv 0 (ndB rfl)) (Ji (dgv 1 (ndB rfl)) Jx)))) (fun _ _ _ _=>(UO (Jo (QV I) QQ (dlv 1) (dlv 2) (Jj _)))) (fun _ _ _ _=>(Jk 0))))) Jq Ug)))),?_⟩
 intro ts n R L h;obtain⟨d,nm,rfl,hw,y,l,h⟩:=h;obtain⟨bits,os,v⟩:=d;have l:v.length<=1000000:=l;have y:∀p∈v,IsNm p.2:=y;rw[show dlD (bits,os,v)=.tuple [.int bits,.tuple (oD os),.tuple (oD v)] from rfl]
 wp_walk
 refine UR (cs:=v) (D:=fun p=>.tuple [prD p.1,.str p.2]) (fun p=>!who p.2 nm) (fun p=>prD p.1) (by lia) ?_ ?_
 ·intro p G S U x C;rcases hw with rfl|⟨s,rfl,ns⟩
  ·wp_walk
   ·exact(ZE (y p G)).okd
   ·exact x rfl
  ·wp_walk
   ·exact C (by show(!decide (p.2=s))=false;rw[decide_eq_true hc];rfl)
   ·exact x (by show(!decide (p.2=s))=true;rw[decide_eq_false hc];rfl)
 ·wp_walk
  have:((v.filter fun p=>!who p.2 nm).map fun p=>prD p.1)=pD (JW (bits,os,v) nm):=by
   unfold pD JW;rw[cQ];rfl
  rw[this];exact h
def Free(d:Deal)(nm:af)(x:Int):Prop:=0<=x/\x<2 ^ d.1.toNat/\¬mB x (d.2.1.map (·.1))/\¬mB x (JW d nm)
theorem zfS{d:Deal}{nm:af}:∀b∈JW d nm,b∈d.2.2.map (·.1):=fun b u=>by
 obtain⟨p,l,rfl⟩:=aN.mp u;exact aN.mpr ⟨p,(cH.mp l).1,rfl⟩
theorem zfT{d:Deal}{nm:af}:(JW d nm).length<=d.2.2.length:=by
 unfold JW;rw[aM];exact cN _ _
def Vp:GD:=fun ts n R=>∃(d:Deal) (nm:af),ts=[dlD d,nm]/\Dl d/\QI nm/\d.2.1.length+d.2.2.length<64/\∀v,CanP (Free d nm) v->v.length<=130*(d.2.1.length+d.2.2.length+1)->R (.tuple (pD v)) n
theorem zdU{d:Deal}{nm:af}{n:Nat}{R:qN}(D:Dl d)(hw:QI nm)(l:d.2.1.length+d.2.2.length<64)(h:∀v,CanP (Free d nm) v->v.length<=130*(d.2.1.length+d.2.2.length+1)->R (.tuple (pD v)) n):Vp [dlD d,nm] n R:=⟨d,nm,rfl,D,hw,l,h⟩
def Wr(Z:ZZ):Prop:=FQ Z "free_for" (top 25) ["deal","name"] 6 (spD Z.K 2 Vp)
theorem ziL(D:Dq Z.K Z.mg "free_for" (top 25) ["deal","name"]) (HE:zg9 Z) (HQ:zjs Z) (Hi:zd0 Z) (Hs:zeD Z) (T:Txt Z.mg):Wr Z:=by
 refine' okQ D (fnS (N:=["deal","name","bits","outs","kept"]) (by decide +kernel)) rfl fun f cdv A outer s H E I=>⟨_,(Jb (Qc (Jk 0) (Jz rfl (Ji (dgv 2 (ndB rfl)) (Ji (dgv 3 (ndB rfl)) (Ji (dgv 4 (ndB rfl)) Jx))))) (Jc (Jf (Je HE I (dbv 2 (dbc (Je HQ I (dbc (JG (dl (Je Hi I (dbv 3 Ja))) (dl (Je Hs I (dbv 0 (dbv 1 Ja))))) Ja)) Ja)))))),?_⟩
 intro ts n R hl h;obtain⟨d,nm,rfl,D,hw,l,h⟩:=h;obtain⟨bits,os,v⟩:=d;obtain⟨L,G,J,y,ag⟩:=D;have L:1<=bits:=L;have G:bits<=64:=G;have J:Shr bits os:=J;have y:Shr bits v:=y;have l:os.length+v.length<64:=l;have S:=zfT (d:=(bits,os,v)) (nm:=nm);have S:(JW (bits,os,v) nm).length<=v.length:=S;have eo:(os.map fun p=>(prD p.1,eF p.2)).map (·.1)=pD (os.map (·.1)):=by simp[pD]
 have B:Bks bits (os.map (·.1)++JW (bits,os,v) nm):=fun b hb=>by
  rcases aB.mp hb with z|z
  ·exact J.1.1 b z
  ·exact y.1.1 b (zfS b z)
 rw[show dlD (bits,os,v)=.tuple [.int bits,.tuple (oD os),.tuple (oD v)] from rfl]
 have kf:∀{n:Nat} {R:qN},R (.tuple (pD (JW (bits,os,v) nm))) n->zc7 [.tuple [.int bits,.tuple (oD os),.tuple (oD v)],nm] n R:=fun {n R} z=>zjb (d:=(bits,os,v)) hw (fun p hp=>y.2 p hp) (by show v.length<=_;lia) z
 have ab:∀{n:Nat} {R:qN},R (.tuple (pD (os.map (·.1)))) n->zcw [.tuple (oD os)] n R:=fun {n R} z=>by
  rw[zwb];exact zii (by simp;lia) (by rw[eo];exact z)
 wp_walk using kf ?_,ab ?_
 ·rw[JA,JA,aM];lia
 rw[VC]
 wp_walk using zoU (.inr rfl) (by lia) G B ?_ (fun ps C U=>?_)
 ·simp;lia
 have U:ps.length<=os.length+v.length:=by rw[aK,aM]at U;lia
 have Bp:=(C.ptc (bits:=bits) (by lia) fun x hx=>VB (by lia) B hx).1
 wp_walk using zne L G Bp (by lia) (fun Y Q lq=>?_)
 refine h Y ?_ (by show Y.length<=130*(os.length+v.length+1);lia)
 obtain⟨rs,r1,r2,r3⟩:=Q;refine⟨rs,r1,fun x=>?_,r3⟩
 rw[r2];show(0<=x/\x<2 ^ bits.toNat/\¬mB x ps)↔Free (bits,os,v) nm x
 rw[C.mem,ZI];show _↔0<=x/\x<2 ^ bits.toNat/\¬mB x (os.map (·.1))/\¬mB x (JW (bits,os,v) nm)
 constructor
 ·rintro⟨a,b,c⟩;exact⟨a,b,fun z=>c (.inl z),fun z=>c (.inr z)⟩
 ·rintro⟨a,b,c,e⟩;exact⟨a,b,fun z=>z.elim c e⟩
def htD(bits:Int):af->Bool|.int i=>decide (0<=i)&&decide (i<=bits)|_=>false
def zeY:GD:=fun ts n R=>∃(bits:Int) (d:af),ts=[.int bits,d]/\Pln d/\R (.bool (htD bits d)) n
theorem zjc{bits:Int}{d:af}{n:Nat}{R:qN}(p:Pln d)(h:R (.bool (htD bits d)) n):zeY [.int bits,d] n R:=⟨bits,d,rfl,p,h⟩
def zeE(Z:ZZ):Prop:=FQ Z "is_height" (top 33) ["bits","thing"] 2 (spD Z.K 2 zeY)
theorem zhi(D:Dq Z.K Z.mg "is_height" (top 33) ["bits","thing"]) (u:Ws Z) (T:Txt Z.mg):zeE Z:=by
 refine' okQ D (fnS (N:=["bits","thing"]) (by decide +kernel)) rfl fun f x A outer s H E v=>⟨_,(Jc (Jf (Y4 (Je u v (dbv 1 Ja)) (Ul (V5 Qf Qd Qf Qd dli (dlv 1) (dlv 0)))))),?_⟩
 intro ts n R y h;obtain⟨bits,d,rfl,p,h⟩:=h;cases d with
 | int i =>
  have h:R (.bool (decide (0<=i)&&decide (i<=bits))) n:=h
  wp_walk using UC (b:=true) rfl p ?_
  ·rw[decide_eq_true hc,cO]at h;exact h
  ·rw[decide_eq_false hc,cf]at h;exact h
 | _ =>
  wp_walk using UC (b:=false) rfl p ?_
  exact h
def adD(bits:Int):af->Bool|.int i=>decide (0<=i)&&decide (i<2 ^ bits.toNat)|_=>false
def zd_:GD:=fun ts n R=>∃(bits:Int) (d:af),ts=[.int bits,d]/\0<=bits/\bits<=64/\Pln d/\R (.bool (adD bits d)) n
theorem zif{bits:Int}{d:af}{n:Nat}{R:qN}(u:0<=bits)(v:bits<=64)(p:Pln d)(h:R (.bool (adD bits d)) n):zd_ [.int bits,d] n R:=⟨bits,d,rfl,u,v,p,h⟩
def zdX(Z:ZZ):Prop:=FQ Z "is_address" (top 34) ["bits","thing"] 2 (spD Z.K 2 zd_)
theorem zgl(D:Dq Z.K Z.mg "is_address" (top 34) ["bits","thing"]) (v:Ws Z) (T:Txt Z.mg):zdX Z:=by
 refine' okQ D (fnS (N:=["bits","thing"]) (by decide +kernel)) rfl fun f x A outer s H E u=>⟨_,(Jc (Jf (Y4 (Je v u (dbv 1 Ja)) (Ul (V5 Qf Qd (Qy u) Qx dli (dlv 1) (dl (JR dli (dlv 0)))))))),?_⟩
 intro ts n R y h;obtain⟨bits,d,rfl,G,C,p,h⟩:=h;cases d with
 | int i =>
  have h:R (.bool (decide (0<=i)&&decide (i<2 ^ bits.toNat))) n:=h
  wp_walk using UC (b:=true) rfl p ?_
  all_goals first
   | exact cpow (by lia) (by lia)
   | skip
  ·rw[decide_eq_true hc,cO]at h;rw[Qq];exact h
  ·rw[decide_eq_false hc,cf]at h;exact h
 | _ =>
  wp_walk using UC (b:=false) rfl p ?_
  exact h
def ptD(bits:Int)(k:Str)(d:af):Bool:=if k=aa "height" then htD bits d else if k=aa "address" then adD bits d else QS bits d
def zhW:GD:=fun ts n R=>∃(bits:Int) (k:Str) (d:af),ts=[.int bits,.str k,d]/\0<=bits/\bits<=64/\PlnD d/\R (.bool (ptD bits k d)) n
theorem znf{bits:Int}{k:Str}{d:af}{n:Nat}{R:qN}(u:0<=bits)(v:bits<=64)(p:PlnD d)(h:R (.bool (ptD bits k d)) n):zhW [.int bits,.str k,d] n R:=⟨bits,k,d,rfl,u,v,p,h⟩
theorem zsi{d:af}(h:PlnD d):Pl2 d:=⟨h.pln,fun ts e t u=>by subst e;exact(h.tup.2 t u).pln⟩
def zg_(Z:ZZ):Prop:=FQ Z "is_part" (top 32) ["bits","kind","thing"] 3 (spD Z.K 3 zhW)
theorem zku(D:Dq Z.K Z.mg "is_part" (top 32) ["bits","kind","thing"]) (y:zfz Z) (G:zeE Z) (C:zdX Z) (T:Txt Z.mg):zg_ Z:=by
 refine' okQ D (fnS (N:=["bits","kind","thing"]) (by decide +kernel)) rfl fun f I A outer s H E l=>⟨_,(Jb (Jp (Jo (Qe l) Qa (dlv 1) (dl JK) (Jj _)) (Jc (Jf (Je G l (dbv 0 (dbv 2 Ja))))) Jr) (Jb (Jp (Jo (Qe l) Qa (dlv 1) (dl JK) (Jj _)) (Jc (Jf (Je C l (dbv 0 (dbv 2 Ja))))) Jr) (Jc (Jf (Je y l (dbv 0 (dbv 2 Ja))))))),?_⟩
 intro ts n R J h;obtain⟨bits,k,d,rfl,x,v,p,h⟩:=h;unfold ptD at h
 wp_walk using zjc p.pln ?_,zif x v p.pln ?_,zk5 x v (zsi p) ?_
 ·rw[if_pos hc]at h;exact h
 ·rename_i u;rw[if_neg u,if_pos hc]at h;exact h
 ·rename_i u;rw[if_neg u,if_neg hc]at h;exact h
def Yb:List (Str×List Str):=[(aa "take",[aa "height"]),(aa "near",[aa "height",aa "address"]),(aa "give",[aa "block"]),(aa "grow",[aa "block"]),(aa "keep",[aa "block"]),(aa "loose",[aa "block"]),(aa "move",[aa "block",aa "block"])]
def hEq:List af->Bool
 | [.tuple [_,.int g],.tuple [_,.int h]]=>decide (g=h)
 | _=>false
def prtD(bits:Int)(w:Str)(ps:qD):Bool:=match getT Yb w with
 | none=>false
 | some u=>decide (ps.length=u.length)&&((u.zip ps).all fun q=>ptD bits q.1 q.2)&&(decide (w≠aa "move")||hEq ps)
def dedD(bits:Int):af->Bool
 | .tuple (.str w::nm::ps)=>nmD nm&&prtD bits w ps
 | _=>false
def zhY:GD:=fun ts n R=>∃(bits:Int) (d:af),ts=[.int bits,d]/\0<=bits/\bits<=64/\PlnD d/\R (.bool (dedD bits d)) n
theorem Wm{bits:Int}{d:af}{n:Nat}{R:qN}(u:0<=bits)(v:bits<=64)(p:PlnD d)(h:R (.bool (dedD bits d)) n):zhY [.int bits,d] n R:=⟨bits,d,rfl,u,v,p,h⟩
theorem zin{bits:Int}{d:af}(h:QS bits d=true):∃b g:Int,d=.tuple [.int b,.int g]:=by
 unfold QS at h;split at h
 ·exact⟨_,_,rfl⟩
 ·cases h
theorem znE{l:List Str}{ps:qD}:zipD (l.map eF) ps=(l.zip ps).map fun q=>fS [.str q.1,q.2]:=by
 unfold zipD;rw[List.zip_map_left,cQ]
 rfl
theorem Wh{bits:Int}{d:af}:ptD bits (aa "block") d=QS bits d:=by
 unfold ptD;rw[if_neg (by decide +kernel),if_neg (by decide +kernel)]
theorem zqr:getT Yb (aa "move")=some [aa "block",aa "block"]:=by decide +kernel
def zhb(Z:ZZ):Prop:=FQ Z "is_deed" (top 31) ["bits","thing"] 4 (spD Z.K 2 zhY)
theorem zkw(D:Dq Z.K Z.mg "is_deed" (top 31) ["bits","thing"]) (Y:zha Z) (S:zg_ Z) (L:StD Z.P Z.w Z.K Z.mg "PARTS" Yb) (T:Txt Z.mg):zhb Z:=by
 refine' okQ D (fnS (N:=["bits","thing","word","name","parts","kinds"]) (by decide +kernel)) rfl fun f cdv A outer s H E C=>⟨_,(Jb (Jp (JY (QB (JZ (JS (dl (U7 zjQ T.isi T.tup Qp (dlv 1) Ju)))) (QR (Jo (Qy C) Qx (dl (JF Uc Q6 T.len Q1 (Jn (dlv 1) Jq Ju))) dli (Jj _))))) (Jc (Jf Q4)) Jr) (Jb (zqZ (i:=2) (j:=3) (k:=4) rfl (ndB rfl) rfl rfl rfl (dE rfl) (dE rfl) (dE rfl) (Jk 1)) (Jb (Jp (JY (QB (JZ (JS (dl (U7 zmB T.isi T.str zfd (dlv 2) Ju)))) (QB (zqY L (Jk 2)) (QR (JZ (JS (dl (Je Y C (dbv 3 Ja))))))))) (Jc (Jf Q4)) Jr) (Jb (dsv 5 (ndB rfl) (zq7 L (Jk 2))) (Jb (Jp (Jo (QV C) QQ (dl (JF Uc Q6 T.len Q1 (Jn (dlv 4) Jq Ju))) (dl (JF Uc Q6 T.len Q1 (Jn (dlv 5) Jq Ju))) (Jj _)) (Jc (Jf Q4)) Jr) (Jb (Jp (JZ (JS (dl (JF (We rfl) VL T.all Wj (Jn (dl (Jl (dnc ["kind","part"] [0] (dil (zui T.zip (Jk 5) (Jk 4))) (fun _ _ _ _=>(Jz rfl (Ji (dgv 0 (ndB rfl)) (Ji (dgv 1 (ndB rfl)) Jx)))) (fun _ _ _ _=>(Je S C (dbv 2 (dbv 0 (dbv 1 Ja)))))))) Jq Ug))))) (Jc (Jf Q4)) Jr) (Jc (Jf (zpr (Qh (QV C) QQ (dlv 2) (dl JK) (Jj _)) (Ul (Qh (Qe C) Qa (dl (Jd (dl (Jd (dlv 4) dli)) dli)) (dl (Jd (dl (Jd (dlv 4) dli)) dli)) (Jj _)))))))))))),?_⟩
 intro ts n R hl h;obtain⟨bits,d,rfl,b0,b1,p,h⟩:=h;cases d with
 | dict y =>
  cases y with
  | nil =>
   wp_walk
   exact h
  | cons a b=>exact absurd rfl p.pln
 | tuple ts =>
  obtain⟨U,G⟩:=p.tup
  match ts,G,h with
  | [],_,h =>
   wp_walk
   all_goals first|exact h|(exfalso;simp at hc;done)
  | [x],_,h =>
   have e:dedD bits (.tuple [x])=false:=by unfold dedD;split <;> simp_all
   rw[e]at h
   wp_walk
   all_goals first|exact h|(exfalso;simp at hc;done)
  | x::nm::ps,G,h =>
   have pn:=G nm (by simp)
   cases x with
   | str w =>
    have e:dedD bits (.tuple (.str w::nm::ps))=(nmD nm&&prtD bits w ps):=rfl;rw[e]at h;unfold prtD at h;cases g:getT Yb w with
    | none =>
     rw[g]at h;simp only[gO]at h
     wp_walk using zie pn ?_
     all_goals first|exact h|(exfalso;simp at hc;done)|(exfalso;rw[g]at *;simp at *;done)
    | some y =>
     rw[g]at h;dsimp only at h
     wp_walk using zie pn ?_
     ·exfalso;simp at hc;lia
     ·rename_i h1 h2;rw[hc,cO]at h;refine⟨y,g,?_⟩
      wp_walk
      ·have I:ps.length=y.length:=by simp at hc;lia
       rw[decide_eq_true I,cO]at h;rw[znE];refine QN (cs:=y.zip ps) (D:=fun q:Str×af=>fS [.str q.1,q.2]) (fun q=>.bool (ptD bits q.1 q.2)) (by rw[nZ];simp at U;lia) ?_ ?_
       ·intro q hq K2 X2 J;have pq:=G q.2 (by have:=(dJ hq).2;simp[this])
        wp_walk using znf b0 b1 pq ?_
        exact J
       ·wp_walk using VO ?_
        ·rename_i v;subst hc;rw[v,cO,decide_eq_false (fun z:aa "move" ≠ aa "move"=>z rfl),Bool.false_or]at h
         rw[zqr]at g;cases g
         match ps,I,v,h with
         | [p0,p1],_,v,h =>
          simp only[iC,mi,List.all_cons,List.all_nil,gj,aG,Wh]at v;obtain⟨b',g',rfl⟩:=zin v.1;obtain⟨b'',g'',rfl⟩:=zin v.2
          wp_walk
          exact h
        ·rename_i v;rw[v,cO,decide_eq_true hc,Bool.true_or]at h;exact h
        ·rw[hc,cf]at h;exact h
      ·have I:¬ps.length=y.length:=by simp at hc;lia
       rw[decide_eq_false I,cf,cf]at h;exact h
     ·rw[hc,cf]at h;exact h
     ·exfalso;rw[g]at hc;cases hc
   | dict ds =>
    have px:=G _ (cS ..);cases ds with
    | nil =>
     have h:R (.bool false) n:=h
     wp_walk
     all_goals first|exact h|(exfalso;simp at hc;lia)
    | cons a b=>exact absurd rfl px.pln
   | _ =>
    have h:R (.bool false) n:=h
    wp_walk
    all_goals first|exact h|(exfalso;simp at hc;lia)
 | _ =>
  wp_walk
  exact h
def exO(os:List NP)(nm:Str)(gs cs:BL):List NP:=(os.filter fun p=>decide (p.1∉gs))++cs.map fun b=>(b,nm)
theorem zpu{gs:BL}{b:Int×Int}:((pD gs).any fun t=>t.eqv (prD b))=decide (b∈gs):=by
 rw[dh,kc,decide_eq_true_eq];constructor
 ·rintro⟨t,l,e⟩;obtain⟨c,hc,rfl⟩:=aN.mp l;have:c=b:=by simpa[prD,cg,dB,ik] using e
  exact this▸hc
 ·intro u;exact⟨prD b,aN.mpr ⟨b,u,rfl⟩,by simp[prD,cg,dB]⟩
def Zl:GD:=fun ts n R=>∃(d:Deal) (nm:Str) (gs cs:BL),ts=[dlD d,.str nm,.tuple (pD gs),.tuple (pD cs)]/\d.2.1.length+cs.length<64/\d.2.1.length+cs.length<=1000/\gs.length<=1000 /\
 ∀rs:List NP,rs.Perm (exO d.2.1 nm gs cs)->rs.Pairwise (fun a b=>npRk rs a<=npRk rs b)->R (dlD (d.1,rs,d.2.2)) n
theorem zfa{d:Deal}{nm:Str}{gs cs:BL}{n:Nat}{R:qN}(l:d.2.1.length+cs.length<64)(v:d.2.1.length+cs.length<=1000)(l2:gs.length<=1000)(h:∀rs:List NP,rs.Perm (exO d.2.1 nm gs cs)->rs.Pairwise (fun a b=>npRk rs a<=npRk rs b)->R (dlD (d.1,rs,d.2.2)) n):Zl [dlD d,.str nm,.tuple (pD gs),.tuple (pD cs)] n R:=⟨d,nm,gs,cs,rfl,l,v,l2,h⟩
def zc2(Z:ZZ):Prop:=FQ Z "exchanged" (top 55) ["deal","name","gone","come"] 1 (spD Z.K 4 Zl)
theorem zhj(D:Dq Z.K Z.mg "exchanged" (top 55) ["deal","name","gone","come"]) (T:Txt Z.mg):zc2 Z:=by
 refine' okQ D (fnS (N:=["deal","name","gone","come","bits","outs","kept","staying"]) (by decide +kernel)) rfl fun f S A outer s H E I=>⟨_,(Jb (Qc (Jk 0) (Jz rfl (Ji (dgv 4 (ndB rfl)) (Ji (dgv 5 (ndB rfl)) (Ji (dgv 6 (ndB rfl)) Jx))))) (Jb (Ve (Vf (i:=7) (ndB rfl) rfl (dE rfl) (own:=["pair"]) (capt:=[2]) rfl (JJ.of rfl) (dil (Qw (Jk 5))) (fun _ _ _ _=>(dgv 0 (ndB rfl))) (by decide) (fun _ _ _ _=>(UO (Jo (Zn I) Zc (dl (Jd (dlv 0) dli)) (dlv 1) rfl))) (fun _ _ _ _=>(Jk 0)))) (Jc (Jf (Jh (dbv 4 (dbc (Qb QE QG T.tup Qp (Jn (dl (Jl (Wn I T.srt (dl (Jl (Uo (dlv 7) (dl (Jl (dnc ["block"] [1] (dil (Qw (Jk 3))) (fun _ _ _ _=>(dgv 0 (ndB rfl))) (fun _ _ _ _=>(Jh (dbv 0 (dbv 1 Ja)))))))))) Q9))) Jq Q0)) (dbv 6 Ja)))))))),?_⟩
 intro ts n R U h;obtain⟨⟨bits,os,G⟩,nm,gs,cs,rfl,l,C,l2,h⟩:=h;have l:os.length+cs.length<64:=l;have C:os.length+cs.length<=1000:=C;have e:dlD (bits,os,G)=.tuple [.int bits,.tuple (oD os),.tuple (oD G)]:=rfl;rw[e]
 wp_walk
 refine UR (cs:=os) (D:=fun p=>.tuple [prD p.1,.str p.2]) (fun p=>decide (p.1∉gs)) (fun p=>.tuple [prD p.1,.str p.2]) (by lia) ?_ ?_
 ·intro p hp Y X2 y x
  wp_walk
  ·exact Ux
  ·intro t J;obtain⟨b,_,rfl⟩:=aN.mp J;exact Ux
  ·rw[zpu]at hc;exact x (by simpa using hc)
  ·rw[zpu]at hc;exact y (by simpa using hc)
 ·wp_walk
  refine QN (cs:=cs) (D:=prD) (fun b=>.tuple [prD b,.str nm]) (by lia) ?_ ?_
  ·intro b hb K X L
   wp_walk
   exact L
  ·have lf:(os.filter fun p=>decide (p.1∉gs)).length<=os.length:=cN ..
   wp_walk
   ·simp only[aM];lia
   refine⟨exO os nm gs cs,?_,?_,fun v pm pw=>?_⟩
   ·simp only[oD,exO,cR,cQ];rfl
   ·simp only[exO,aM,aK];lia
   ·wp_walk
    exact h v pm (pw.imp fun {a b} h=>by unfold npRk at h ⊢;rw[(pm.filter _).length_eq,(pm.filter _).length_eq];exact h)
def Whl(d:Deal)(w:af)(b:Int×Int):Prop:=∀x,b.1<=x->x<eB b->Free d w x
theorem zpw{d:Deal}{w:af}{l:BL}{b:Int×Int}(D:Dl d)(C:CanP (Free d w) l)(B:IsBk d.1 b.1 b.2):(∃p∈l,p.1<=b.1/\eB b<=eB p)↔Whl d w b:=by
 constructor
 ·rintro⟨p,u,y,v⟩ x hx1 hx2;exact(C.mem x).mp ⟨p,u,by lia,by lia⟩
 ·exact fun h=>C.hold (bits:=d.1) (by have:=D.1;lia) (fun x hx=>⟨hx.1,hx.2.1⟩) B h
theorem znh{d:Deal}{w:af}{v:BL}{b:Int×Int}{n:Nat}{R:qN}(D:Dl d)(C:CanP (Free d w) v)(G:v.length<1000000)(B:IsBk d.1 b.1 b.2)(h:∀k:Bool,(k=true↔Whl d w b)->R (.bool k) n):Yi [.tuple (pD v),.tuple [.int b.1,.int b.2]] n R :=
 zng (bits:=d.1) (by have:=D.1;lia) D.2.1 (C.ptc (by have:=D.1;lia) fun x hx=>⟨hx.1,hx.2.1⟩) G B fun k y=>h k (y.trans (zpw D C B))
def othB(b:Int×Int):Int×Int:=(bH b.1 (2 ^ b.2.toNat),b.2)
def joiB(b:Int×Int):Int×Int:=(b.1 / 2 ^ (b.2+1).toNat*2 ^ (b.2+1).toNat,b.2+1)
def VH:GX:=fun ts n R v=>∃(d:Deal) (w:af) (nm:Str) (b:Int×Int),ts=[dlD d,.tuple [w,.str nm,.tuple [.int b.1,.int b.2]]]/\Dl d/\IsNm nm/\IsBk d.1 b.1 b.2/\d.2.1.length+d.2.2.length+1<64/\d.2.1.length+d.2.2.length<=900/\((b,nm)∉d.2.1->v (aa "NotTheirs") n)/\((b,nm)∈d.2.1->b.2=d.1\/¬Whl d (.str nm) (othB b)->v (aa "NoRoom") n) /\
 ((b,nm)∈d.2.1->b.2≠d.1->Whl d (.str nm) (othB b)->∀rs:List NP,rs.Perm (exO d.2.1 nm [b] [joiB b])->rs.Pairwise (fun a b=>npRk rs a<=npRk rs b)->R (.tuple [dlD (d.1,rs,d.2.2),.tuple [.int (joiB b).1,.int (joiB b).2]]) n)
def zpa(Z:ZZ):Prop:=FQX Z "grow" (top 46) ["deal","deed"] 7 2 VH
theorem zqe(D:Dq Z.K Z.mg "grow" (top 46) ["deal","deed"]) (He:zgd Z) (EY:zc2 Z) (ET:Wi Z) (ES:Wr Z) (Hk:zdW Z) (E4:OwnE Z.K Z.mg "NoRoom") (EN:OwnE Z.K Z.mg "NotTheirs") (T:Txt Z.mg):zpa Z:=by
 refine' okX D (fnS (N:=["deal","deed","name","block","joined"]) (by decide +kernel)) rfl fun f cdv A outer s H E I=>⟨_,(Jb (Qc (Uh (dlv 1) (Qt Jg) Qs) (Jz rfl (Ji (dgv 2 (ndB rfl)) (Ji (dgv 3 (ndB rfl)) Jx)))) (Jb (Jp (Jo (Zn I) Zc (dl (Jh (dbv 3 (dbv 2 Ja)))) (dl (Jd (dlv 0) dli)) rfl) (Jc (U9 EN)) Jr) (Jb (Jp (JY (QB (Jo (Qe I) Qa (dl (Jd (dlv 3) dli)) (dl (Jd (dlv 0) dli)) (Jj _)) (QR (JZ (JS (dl (Je ET I (dbc (Je ES I (dbv 0 (dbv 2 Ja))) (dbc (Je Hk I (dbv 3 Ja)) Ja))))))))) (Jc (U9 E4)) Jr) (Jb (dsv 4 (ndB rfl) (Je He I (dbv 3 (dbc (JG (dl (Jd (dlv 3) dli)) dli) Ja)))) (Jc (Jf (Jh (dbc (Je EY I (dbv 0 (dbv 2 (dbc (Jh (dbv 3 Ja)) (dbc (Jh (dbv 4 Ja)) Ja))))) (dbv 4 Ja))))))))),?_⟩
 intro ts n R S hl h;obtain⟨d,w,nm,b,rfl,D,U,B,l,l2,k1,k2,k3⟩:=h;have hw:QI (.str nm):=.inr ⟨nm,rfl,U⟩;have ff:∀{n:Nat} {R:qN},(∀v,CanP (Free d (.str nm)) v->v.length<1000000->R (.tuple (pD v)) n)->Vp [dlD d,.str nm] n R:=fun {n R} z=>zdU D hw (by lia) fun v C J=>z v C (by lia)
 have L:∀{v:BL} {n:Nat} {R:qN},CanP (Free d (.str nm)) v->v.length<1000000->b.2≠d.1->(∀k:Bool,(k=true↔Whl d (.str nm) (othB b))->R (.bool k) n)->Yi [.tuple (pD v),.tuple [.int (bH b.1 (2 ^ b.2.toNat)),.int b.2]] n R:=fun {v n R} C J ne z=>znh (b:=othB b) D C J (B.oth (by have:=B.2.1;lia)) z
 have ex:∀{n:Nat} {R:qN},(∀rs:List NP,rs.Perm (exO d.2.1 nm [b] [joiB b])->rs.Pairwise (fun a b=>npRk rs a<=npRk rs b)->R (dlD (d.1,rs,d.2.2)) n)->Zl [dlD d,.str nm,.tuple [.tuple [.int b.1,.int b.2]],.tuple [.tuple [.int (joiB b).1,.int (joiB b).2]]] n R:=fun {n R} z=>zfa (d:=d) (gs:=[b]) (cs:=[joiB b]) (by simp;lia) (by simp;lia) (by simp) z
 have b0:=D.1;have b1:=D.2.1;have g0:=B.1;have g1:=B.2.1;have G:∀p∈d.2.1,IsNm p.2:=fun p hp=>(D.o p hp).2.2
 have i64:=B.lt (by lia) b1
 obtain⟨bits,os,x⟩:=d;have k1:(b,nm)∉os->S (aa "NotTheirs") n:=k1;have k2:(b,nm)∈os->b.2=bits\/¬Whl (bits,os,x) (.str nm) (othB b)->S (aa "NoRoom") n:=k2;have k3:(b,nm)∈os->b.2≠bits->Whl (bits,os,x) (.str nm) (othB b)->∀rs:List NP,rs.Perm (exO os nm [b] [joiB b])->rs.Pairwise (fun a b=>npRk rs a<=npRk rs b)->R (.tuple [dlD (bits,rs,x),.tuple [.int (joiB b).1,.int (joiB b).2]]) n:=k3
 have G:∀p∈os,IsNm p.2:=G;have L:∀{v:BL} {n:Nat} {R:qN},CanP (Free (bits,os,x) (.str nm)) v->v.length<1000000->b.2≠bits->(∀k:Bool,(k=true↔Whl (bits,os,x) (.str nm) (othB b))->R (.bool k) n)->Yi [.tuple (pD v),.tuple [.int (bH b.1 (2 ^ b.2.toNat)),.int b.2]] n R:=L;have ex:∀{n:Nat} {R:qN},(∀rs:List NP,rs.Perm (exO os nm [b] [joiB b])->rs.Pairwise (fun a b=>npRk rs a<=npRk rs b)->R (dlD (bits,rs,x)) n)->Zl [dlD (bits,os,x),.str nm,.tuple [.tuple [.int b.1,.int b.2]],.tuple [.tuple [.int (b.1 / 2 ^ (b.2+1).toNat*2 ^ (b.2+1).toNat),.int (b.2+1)]]] n R:=ex
 rw[show dlD (bits,os,x)=.tuple [.int bits,.tuple (oD os),.tuple (oD x)] from rfl]at *
 wp_walk
 rw[show cutD [w,.str nm,.tuple [.int b.1,.int b.2]] (some 1) none=[.str nm,.tuple [.int b.1,.int b.2]] from rfl]
 wp_walk using ff (fun v C J=>?_)
 ·exact Qn (p:=(b,nm)) U
 ·exact QU G
 ·rename_i y;rw[Qv (p:=(b,nm))]at y;exact k2 (by simpa using y) (.inl hc)
 ·rename_i y;rw[Qv (p:=(b,nm))]at y;have y:(b,nm)∈os:=by simpa using y
  refine zid (by lia) (by lia) ?_
  wp_walk
  have nb:b.2≠bits:=hc;refine L C J nb fun kk Y=>?_
  wp_walk
  ·refine zkb (by lia) (by lia) (by lia) (by lia) ?_
   wp_walk using ex (fun rs pm pw=>?_)
   exact k3 y nb (Y.mp hc) rs pm pw
  ·exact k2 y (.inr fun z=>by rw[Y.mpr z]at hc;cases hc)
 ·rw[Qv (p:=(b,nm))]at hc;exact k1 (by simpa using hc)
def VI:GX:=fun ts n R v=>∃(d:Deal) (w:af) (nm:Str) (b:Int×Int),ts=[dlD d,.tuple [w,.str nm,.tuple [.int b.1,.int b.2]]]/\Dl d/\IsNm nm/\IsBk d.1 b.1 b.2/\d.2.1.length+d.2.2.length+1<64/\d.2.1.length+d.2.2.length<=900/\(¬Whl d .none b->v (aa "NoRoom") n)/\(Whl d .none b->∀rs:List NP,rs.Perm (d.2.2++[(b,nm)])->rs.Pairwise (fun a b=>npRk rs a<=npRk rs b)->R (.tuple [dlD (d.1,d.2.1,rs),.none]) n)
def zo_(Z:ZZ):Prop:=FQX Z "keep" (top 47) ["deal","deed"] 7 2 VI
theorem zqd(D:Dq Z.K Z.mg "keep" (top 47) ["deal","deed"]) (Y:Wi Z) (L:Wr Z) (S:OwnE Z.K Z.mg "NoRoom") (T:Txt Z.mg):zo_ Z:=by
 refine' okX D (fnS (N:=["deal","deed","name","block","bits","outs","kept"]) (by decide +kernel)) rfl fun f cdv A outer s H E I=>⟨_,(Jb (Qc (Uh (dlv 1) (Qt Jg) Qs) (Jz rfl (Ji (dgv 2 (ndB rfl)) (Ji (dgv 3 (ndB rfl)) Jx)))) (Jb (Qc (Jk 0) (Jz rfl (Ji (dgv 4 (ndB rfl)) (Ji (dgv 5 (ndB rfl)) (Ji (dgv 6 (ndB rfl)) Jx))))) (Jb (Jp (JZ (JS (dl (Je Y I (dbc (Je L I (dbv 0 (dbc Qi Ja))) (dbv 3 Ja)))))) (Jc (U9 S)) Jr) (Jc (Jf (Jh (dbc (Jh (dbv 4 (dbv 5 (dbc (Qb QE QG T.tup Qp (Jn (dl (Jl (Wn I T.srt (dl (Jl (Uo (dl (Jl (zmO T.lst (dlv 6) Ju))) (dl (Jl (JC (dbc (Jh (dbv 3 (dbv 2 Ja))) Ja))))))) Q9))) Jq Q0)) Ja)))) (dbc Qi Ja)))))))),?_⟩
 intro ts n R Rx hl h;obtain⟨d,w,nm,b,rfl,D,hn,B,l,l2,k1,k2⟩:=h;have U:∀{n:Nat} {R:qN},(∀v,CanP (Free d .none) v->v.length<1000000->R (.tuple (pD v)) n)->Vp [dlD d,.none] n R:=fun {n R} z=>zdU D (.inl rfl) (by lia) fun v C y=>z v C (by lia)
 have hh:∀{v:BL} {n:Nat} {R:qN},CanP (Free d .none) v->v.length<1000000->(∀k:Bool,(k=true↔Whl d .none b)->R (.bool k) n)->Yi [.tuple (pD v),.tuple [.int b.1,.int b.2]] n R:=fun {v n R} C y z=>znh D C y B z
 obtain⟨bits,os,x⟩:=d;have l:os.length+x.length+1<64:=l;have l2:os.length+x.length<=900:=l2;have k2:Whl (bits,os,x) .none b->∀rs:List NP,rs.Perm (x++[(b,nm)])->rs.Pairwise (fun a b=>npRk rs a<=npRk rs b)->R (.tuple [.tuple [.int bits,.tuple (oD os),.tuple (oD rs)],.none]) n:=k2
 rw[show dlD (bits,os,x)=.tuple [.int bits,.tuple (oD os),.tuple (oD x)] from rfl]at *
 wp_walk
 rw[show cutD [w,.str nm,.tuple [.int b.1,.int b.2]] (some 1) none=[.str nm,.tuple [.int b.1,.int b.2]] from rfl]
 wp_walk using U (fun v C y=>?_)
 refine hh C y fun kk J=>?_
 wp_walk
 ·rw[J3];show _+1<=_;lia
 ·refine⟨x++[(b,nm)],by unfold oD;rw[cR];rfl,by rw[aK];show _+1<_;lia,fun G pm pw=>?_⟩
  wp_walk
  exact k2 (J.mp hc) G pm (pw.imp fun {a b} h=>by unfold npRk at h ⊢;rw[(pm.filter _).length_eq,(pm.filter _).length_eq];exact h)
 ·exact k1 fun z=>by rw[J.mpr z]at hc;cases hc
def VY:GX:=fun ts n R v=>∃(d:Deal) (w:af) (nm:Str) (b:Int×Int),ts=[dlD d,.tuple [w,.str nm,.tuple [.int b.1,.int b.2]]]/\Dl d/\IsNm nm/\d.2.2.length<=900/\((b,nm)∉d.2.2->v (aa "NotTheirs") n)/\((b,nm)∈d.2.2->R (.tuple [dlD (d.1,d.2.1,d.2.2.filter fun p=>decide (p≠(b,nm))),.none]) n)
def zlA(Z:ZZ):Prop:=FQX Z "loose" (top 48) ["deal","deed"] 1 2 VY
theorem zn9(D:Dq Z.K Z.mg "loose" (top 48) ["deal","deed"]) (EN:OwnE Z.K Z.mg "NotTheirs") (T:Txt Z.mg):zlA Z:=by
 refine' okX D (fnS (N:=["deal","deed","name","block","bits","outs","kept"]) (by decide +kernel)) rfl fun f cdv A outer s H E U=>⟨_,(Jb (Qc (Uh (dlv 1) (Qt Jg) Qs) (Jz rfl (Ji (dgv 2 (ndB rfl)) (Ji (dgv 3 (ndB rfl)) Jx)))) (Jb (Qc (Jk 0) (Jz rfl (Ji (dgv 4 (ndB rfl)) (Ji (dgv 5 (ndB rfl)) (Ji (dgv 6 (ndB rfl)) Jx))))) (Jb (Jp (Jo (Zn U) Zc (dl (Jh (dbv 3 (dbv 2 Ja)))) (dlv 6) rfl) (Jc (U9 EN)) Jr) (Jc (Jf (Jh (dbc (Jh (dbv 4 (dbv 5 (dbc (Qb QE QG T.tup Qp (Jn (dl (Jl (dnf ["pair"] [3,2] (dil (Qw (Jk 6))) (fun _ _ _ _=>(dgv 0 (ndB rfl))) (fun _ _ _ _=>(UO (Jo (QV U) QQ (dlv 0) (dl (Jh (dbv 1 (dbv 2 Ja)))) (Jj _)))) (fun _ _ _ _=>(Jk 0))))) Jq Ug)) Ja)))) (dbc Qi Ja)))))))),?_⟩
 intro ts n R Y hl h;obtain⟨d,w,nm,b,rfl,D,S,l,k1,k2⟩:=h;have C:∀p∈d.2.2,IsNm p.2:=fun p L=>(D.k p L).2.2
 obtain⟨bits,os,G⟩:=d;have l:G.length<=900:=l;have C:∀p∈G,IsNm p.2:=C;have k1:(b,nm)∉G->Y (aa "NotTheirs") n:=k1;have k2:(b,nm)∈G->R (.tuple [.tuple [.int bits,.tuple (oD os),.tuple (oD (G.filter fun p=>decide (p≠(b,nm))))],.none]) n:=k2
 rw[show dlD (bits,os,G)=.tuple [.int bits,.tuple (oD os),.tuple (oD G)] from rfl]
 wp_walk
 rw[show cutD [w,.str nm,.tuple [.int b.1,.int b.2]] (some 1) none=[.str nm,.tuple [.int b.1,.int b.2]] from rfl]
 wp_walk
 ·exact Qn (p:=(b,nm)) S
 ·exact QU C
 ·rw[Qv (p:=(b,nm))]at hc;have hm:(b,nm)∈G:=by simpa using hc
  refine UR (cs:=G) (D:=fun p=>.tuple [prD p.1,.str p.2]) (fun p=>decide (p≠(b,nm))) (fun p=>.tuple [prD p.1,.str p.2]) (by lia) ?_ ?_
  ·intro p L K2 X2 J I;have e:(fS [prD p.1,.str p.2]).eqv (.tuple [.tuple [.int b.1,.int b.2],.str nm])=decide (p=(b,nm)):=by
    rw[dh,decide_eq_true_eq];obtain⟨⟨x,y⟩,z⟩:=p;obtain⟨u,v⟩:=b;simp[prD,cg,dB,ik,and_assoc]
   wp_walk
   ·exact Qn (C p L)
   ·exact Qn (p:=(b,nm)) S
   ·rw[e]at hc;first|exact J (by simpa using hc)|exact I (by simpa using hc)
   ·rw[e]at hc;first|exact I (by simpa using hc)|exact J (by simpa using hc)
  ·wp_walk
   exact k2 hm
 ·rw[Qv (p:=(b,nm))]at hc;exact k1 (by simpa using hc)
def VJ:GX:=fun ts n R v=>∃(d:Deal) (w:af) (nm:Str) (b c:Int×Int),ts=[dlD d,.tuple [w,.str nm,.tuple [.int b.1,.int b.2],.tuple [.int c.1,.int c.2]]]/\Dl d/\IsNm nm/\IsBk d.1 c.1 c.2/\d.2.1.length+d.2.2.length+1<64/\d.2.1.length+d.2.2.length<=900/\((b,nm)∉d.2.1->v (aa "NotTheirs") n)/\((b,nm)∈d.2.1->¬Whl d (.str nm) c->v (aa "NoRoom") n) /\
 ((b,nm)∈d.2.1->Whl d (.str nm) c->∀rs:List NP,rs.Perm (exO d.2.1 nm [b] [c])->rs.Pairwise (fun a b=>npRk rs a<=npRk rs b)->R (.tuple [dlD (d.1,rs,d.2.2),.none]) n)
def zo9(Z:ZZ):Prop:=FQX Z "move" (top 49) ["deal","deed"] 7 2 VJ
theorem zqc(D:Dq Z.K Z.mg "move" (top 49) ["deal","deed"]) (ET:Wi Z) (EY:zc2 Z) (Y:Wr Z) (E4:OwnE Z.K Z.mg "NoRoom") (EN:OwnE Z.K Z.mg "NotTheirs") (T:Txt Z.mg):zo9 Z:=by
 refine' okX D (fnS (N:=["deal","deed","name","block","to"]) (by decide +kernel)) rfl fun f cdv A outer s H E I=>⟨_,(Jb (Qc (Uh (dlv 1) (Qt Jg) Qs) (Jz rfl (Ji (dgv 2 (ndB rfl)) (Ji (dgv 3 (ndB rfl)) (Ji (dgv 4 (ndB rfl)) Jx))))) (Jb (Jp (Jo (Zn I) Zc (dl (Jh (dbv 3 (dbv 2 Ja)))) (dl (Jd (dlv 0) dli)) rfl) (Jc (U9 EN)) Jr) (Jb (Jp (JZ (JS (dl (Je ET I (dbc (Je Y I (dbv 0 (dbv 2 Ja))) (dbv 4 Ja)))))) (Jc (U9 E4)) Jr) (Jc (Jf (Jh (dbc (Je EY I (dbv 0 (dbv 2 (dbc (Jh (dbv 3 Ja)) (dbc (Jh (dbv 4 Ja)) Ja))))) (dbc Qi Ja)))))))),?_⟩
 intro ts n R J hl h;obtain⟨d,w,nm,b,c,rfl,D,S,B,l,l2,k1,k2,k3⟩:=h;have hw:QI (.str nm):=.inr ⟨nm,rfl,S⟩;have ff:∀{n:Nat} {R:qN},(∀v,CanP (Free d (.str nm)) v->v.length<1000000->R (.tuple (pD v)) n)->Vp [dlD d,.str nm] n R:=fun {n R} z=>zdU D hw (by lia) fun v C G=>z v C (by lia)
 have hh:∀{v:BL} {n:Nat} {R:qN},CanP (Free d (.str nm)) v->v.length<1000000->(∀k:Bool,(k=true↔Whl d (.str nm) c)->R (.bool k) n)->Yi [.tuple (pD v),.tuple [.int c.1,.int c.2]] n R:=fun {v n R} C G z=>znh D C G B z
 have ex:∀{n:Nat} {R:qN},(∀rs:List NP,rs.Perm (exO d.2.1 nm [b] [c])->rs.Pairwise (fun a b=>npRk rs a<=npRk rs b)->R (dlD (d.1,rs,d.2.2)) n)->Zl [dlD d,.str nm,.tuple [.tuple [.int b.1,.int b.2]],.tuple [.tuple [.int c.1,.int c.2]]] n R:=fun {n R} z=>zfa (d:=d) (gs:=[b]) (cs:=[c]) (by simp;lia) (by simp;lia) (by simp) z
 have y:∀p∈d.2.1,IsNm p.2:=fun p hp=>(D.o p hp).2.2
 obtain⟨bits,os,x⟩:=d;have k1:(b,nm)∉os->J (aa "NotTheirs") n:=k1;have k2:(b,nm)∈os->¬Whl (bits,os,x) (.str nm) c->J (aa "NoRoom") n:=k2;have k3:(b,nm)∈os->Whl (bits,os,x) (.str nm) c->∀rs:List NP,rs.Perm (exO os nm [b] [c])->rs.Pairwise (fun a b=>npRk rs a<=npRk rs b)->R (.tuple [dlD (bits,rs,x),.none]) n:=k3
 have y:∀p∈os,IsNm p.2:=y;have ex:∀{n:Nat} {R:qN},(∀rs:List NP,rs.Perm (exO os nm [b] [c])->rs.Pairwise (fun a b=>npRk rs a<=npRk rs b)->R (dlD (bits,rs,x)) n)->Zl [dlD (bits,os,x),.str nm,.tuple [.tuple [.int b.1,.int b.2]],.tuple [.tuple [.int c.1,.int c.2]]] n R:=ex
 rw[show dlD (bits,os,x)=.tuple [.int bits,.tuple (oD os),.tuple (oD x)] from rfl]at *
 wp_walk
 rw[show cutD [w,.str nm,.tuple [.int b.1,.int b.2],.tuple [.int c.1,.int c.2]] (some 1) none=[.str nm,.tuple [.int b.1,.int b.2],.tuple [.int c.1,.int c.2]] from rfl]
 wp_walk using ff (fun v C G=>?_)
 ·exact Qn (p:=(b,nm)) S
 ·exact QU y
 ·rw[Qv (p:=(b,nm))]at hc;have L:(b,nm)∈os:=by simpa using hc
  refine hh C G fun kk U=>?_
  wp_walk using ex (fun rs pm pw=>?_)
  ·exact k3 L (U.mp hc) rs pm pw
  ·exact k2 L fun z=>by rw[U.mpr z]at hc;cases hc
 ·rw[Qv (p:=(b,nm))]at hc;exact k1 (by simpa using hc)
theorem zps(w:Str)(h:w=aa "grow" \/ w=aa "keep" \/ w=aa "loose"):getT Yb w=some [aa "block"]/\w≠aa "move" /\ w.length<=1000000:=by
 rcases h with rfl|rfl|rfl <;> exact⟨by decide +kernel,by decide +kernel,by decide +kernel⟩
theorem zwc:getT Yb (aa "move")=some [aa "block",aa "block"]:=by decide +kernel
theorem zi6{bits:Int}{w nm:Str}{b:Int×Int}(hw:w=aa "grow" \/ w=aa "keep" \/ w=aa "loose") (x:IsNm nm) (v:0<=bits) (B:IsBk bits b.1 b.2):dedD bits (.tuple [.str w,.str nm,.tuple [.int b.1,.int b.2]])=true:=by
 show(nmD (.str nm)&&prtD bits w [.tuple [.int b.1,.int b.2]])=true
 rw[show nmD (.str nm)=true from zl4.mpr x,cO]
 unfold prtD;rw[(zps w hw).1];have e:ptD bits (aa "block") (.tuple [.int b.1,.int b.2])=true:=Wh.trans ((zeT v).mpr B);simp[e];exact .inl (zps w hw).2.1
theorem zul{bits:Int}{nm:Str}{b c:Int×Int}(G:IsNm nm)(v:0<=bits)(B:IsBk bits b.1 b.2)(C:IsBk bits c.1 c.2)(e:b.2=c.2):dedD bits (.tuple [.str (aa "move"),.str nm,.tuple [.int b.1,.int b.2],.tuple [.int c.1,.int c.2]])=true:=by
 show(nmD (.str nm)&&prtD bits (aa "move") [.tuple [.int b.1,.int b.2],.tuple [.int c.1,.int c.2]])=true
 rw[show nmD (.str nm)=true from zl4.mpr G,cO]
 unfold prtD;rw[zwc];have x:ptD bits (aa "block") (.tuple [.int b.1,.int b.2])=true:=Wh.trans ((zeT v).mpr B);have y:ptD bits (aa "block") (.tuple [.int c.1,.int c.2])=true:=Wh.trans ((zeT v).mpr C);rw[e]at x;simp[x,y,hEq,e]
theorem zpd{nm:Str}(l:IsNm nm):nm.length<=1000000:=by
 have:=l.2.1;lia
def ZP:GX:=fun ts n R v=>∃(d:Deal) (nm:Str) (b:Int×Int),Dl d/\IsNm nm/\IsBk d.1 b.1 b.2 /\
 ((ts=[dlD d,.tuple [.str (aa "grow"),.str nm,.tuple [.int b.1,.int b.2]]]/\VH ts n R v)\/(ts=[dlD d,.tuple [.str (aa "keep"),.str nm,.tuple [.int b.1,.int b.2]]]/\VI ts n R v)\/(ts=[dlD d,.tuple [.str (aa "loose"),.str nm,.tuple [.int b.1,.int b.2]]]/\VY ts n R v)
 \/ ∃c:Int×Int,ts=[dlD d,.tuple [.str (aa "move"),.str nm,.tuple [.int b.1,.int b.2],.tuple [.int c.1,.int c.2]]]/\IsBk d.1 c.1 c.2/\b.2=c.2/\VJ ts n R v)
theorem zmb{ts:qD}{n:Nat}{R x:qN}{X u:Str->Nat->Prop}(h:VH ts n R X)(C:∀t m,R t m->x t m)(v:∀c m,X c m->u c m):VH ts n x u:=by
 obtain⟨d,w,nm,b,e,D,I,B,l,l2,G,J,y⟩:=h;exact⟨d,w,nm,b,e,D,I,B,l,l2,fun a=>v _ _ (G a),fun a c=>v _ _ (J a c),fun a c k rs pm pw=>C _ _ (y a c k rs pm pw)⟩
theorem zma{ts:qD}{n:Nat}{R v:qN}{X u:Str->Nat->Prop}(h:VI ts n R X)(y:∀t m,R t m->v t m)(x:∀c m,X c m->u c m):VI ts n v u:=by
 obtain⟨d,w,nm,b,e,D,G,B,l,l2,C,I⟩:=h;exact⟨d,w,nm,b,e,D,G,B,l,l2,fun a=>x _ _ (C a),fun a rs pm pw=>y _ _ (I a rs pm pw)⟩
theorem zkA{ts:qD}{n:Nat}{R v:qN}{X u:Str->Nat->Prop}(h:VY ts n R X)(y:∀t m,R t m->v t m)(x:∀c m,X c m->u c m):VY ts n v u:=by
 obtain⟨d,w,nm,b,e,D,G,l,C,I⟩:=h;exact⟨d,w,nm,b,e,D,G,l,fun a=>x _ _ (C a),fun a=>y _ _ (I a)⟩
theorem zl_{ts:qD}{n:Nat}{R x:qN}{X u:Str->Nat->Prop}(h:VJ ts n R X)(C:∀t m,R t m->x t m)(v:∀c m,X c m->u c m):VJ ts n x u:=by
 obtain⟨d,w,nm,b,c,e,D,I,B,l,l2,G,J,y⟩:=h;exact⟨d,w,nm,b,c,e,D,I,B,l,l2,fun a=>v _ _ (G a),fun a c=>v _ _ (J a c),fun a c rs pm pw=>C _ _ (y a c rs pm pw)⟩
theorem zmc{ts:qD}{n:Nat}{R y:qN}{X x:Str->Nat->Prop}(h:ZP ts n R X)(v:∀t m,R t m->y t m)(u:∀c m,X c m->x c m):ZP ts n y x:=by
 obtain⟨d,nm,b,D,G,B,h⟩:=h;refine⟨d,nm,b,D,G,B,?_⟩;rcases h with⟨e,z⟩|⟨e,z⟩|⟨e,z⟩|⟨c,e,C,q,z⟩
 ·exact .inl ⟨e,zmb z v u⟩
 ·exact .inr (.inl ⟨e,zma z v u⟩)
 ·exact .inr (.inr (.inl ⟨e,zkA z v u⟩))
 ·exact .inr (.inr (.inr ⟨c,e,C,q,zl_ z v u⟩))
def zlC(Z:ZZ):Prop:=FQX Z "done" (top 51) ["deal","deed"] 8 2 ZP
theorem zqf(D:Dq Z.K Z.mg "done" (top 51) ["deal","deed"]) (Y:zpa Z) (S:zo_ Z) (HW:zlA Z) (J:zo9 Z) (HH:zhb Z) (L:OwnE Z.K Z.mg "NoDeed") (U:StF Z.P Z.w Z.K Z.mg "DEEDS" ["take","near","give","grow","keep","loose","move"]) (T:Txt Z.mg):zlC Z:=by
 refine' okX D (fnS (N:=["deal","deed","act"]) (by decide +kernel)) rfl fun f cdv A outer s H E I=>⟨_,(Jb (Jp (JZ (JS (dl (Je HH I (dbc (Jd (dlv 0) dli) (dbv 1 Ja)))))) (Jc (U9 L)) Jr) (zoK (i:=2) U (.cons Y (.cons S (.cons HW (.cons J UU.nil)))) I (ndB rfl) (Jd (dlv 1) dli) (dbv 0 (dbv 1 Ja)))),?_⟩
 intro ts n R Rx hl h;obtain⟨d,nm,b,D,x,B,h⟩:=h;obtain⟨bits,os,G⟩:=d;have b0:1<=bits:=D.1;have y:bits<=64:=D.2.1;have B:IsBk bits b.1 b.2:=B;have v:∀c:Int×Int,PlnD (.tuple [.int c.1,.int c.2]):=fun c=>zge (by simp) (Ut zju (Ut zju zgf))
 have pl:∀w:Str,w.length<=1000000->PlnD (.tuple [.str w,.str nm,.tuple [.int b.1,.int b.2]]):=fun w hw=>zge (by simp) (Ut (Wc hw) (Ut (Wc (zpd x)) (Ut (v b) zgf)))
 rw[show dlD (bits,os,G)=.tuple [.int bits,.tuple (oD os),.tuple (oD G)] from rfl]at h
 rcases h with⟨rfl,k⟩|⟨rfl,k⟩|⟨rfl,k⟩|⟨c,rfl,C,e,k⟩
 ·wp_walk
  refine Wm (by lia) y (pl _ (by decide +kernel)) ?_
  rw[zi6 (by simp) x (by lia) B]
  wp_walk
  ·rfl
  refine⟨_,.head _,rfl,?_⟩
  wp_walk
  exact k
 ·wp_walk
  refine Wm (by lia) y (pl _ (by decide +kernel)) ?_
  rw[zi6 (by simp) x (by lia) B]
  wp_walk
  ·rfl
  refine⟨_,.tail _ (.head _),rfl,?_⟩
  wp_walk
  exact k
 ·wp_walk
  refine Wm (by lia) y (pl _ (by decide +kernel)) ?_
  rw[zi6 (by simp) x (by lia) B]
  wp_walk
  ·rfl
  refine⟨_,.tail _ (.tail _ (.head _)),rfl,?_⟩
  wp_walk
  exact k
 ·wp_walk
  refine Wm (by lia) y (zge (by simp) (Ut (Wc (by decide +kernel)) (Ut (Wc (zpd x)) (Ut (v b) (Ut (v c) zgf))))) ?_
  rw[zul x (by lia) B C e]
  wp_walk
  ·rfl
  refine⟨_,.tail _ (.tail _ (.tail _ (.head _))),rfl,?_⟩
  wp_walk
  exact k
theorem scH:Ur ["_law_script","_law_k","_law_cell"] ["_law_script","_law_k"] (JH (top 57)):=⟨rfl,rfl,rfl,by decide +kernel,rfl,by decide +kernel,by decide +kernel⟩
theorem zho{f:ak}{fd:cK}(D:Def K mg "_law_hand" (top 57) ["_law_script","_law_k"] f fd) (T:Txt mg):FnOk P w K mg base CX0 1 f fd ["_law_script","_law_k"] (VE K):=by
 refine D.F.ok scH (fun G H Q E h=>?_) (fun C A outer s H G Q E J h=>?_)
 ·obtain⟨a,ns,k,rfl,_⟩:=h
  rfl
 ·obtain⟨a,ns,k,rfl,v,I,k0,k1,q⟩:=h;refine⟨_,QH (QK (i:=2) scH.nd rfl (dE rfl) JE)
   (QH (zpM (ziC zsF (pv 1) (UG zib T.len Q1 (pb_v 0 QD)) (Jj _)) (Ye (QK (i:=2) scH.nd rfl (dE rfl) (UH UP (pv 0) (pv 1) (fun _ _=>rfl)))) ziD)
   (Ye (ZO (zlK (zpc (JD Q7 (pv 2) (zpX Vn T.int boot_int (zsx (zlM zsJ (pv 2) (JD zsC JE JE) (Jj _)) QD)))
    (zpc (JD Uq (JD Uq (JD U5 (pv 2) JE) (JD Q7 JE (pv 1))) JE) (pb_i QD))))))),?_⟩
  refine⟨_,rfl,_,rfl,a,_,rfl,.inl v,_,_,rfl,rfl,_,rfl,?_⟩;have fin:∀c:Int,tRet (tLst (QP (tOp (rI CMul fun i j=>V.int (i*j)) (tVar 2) (tCB (fun xs H Q=>(∃i,xs=[.int i]/\Q (.int i) H)\/∃k,xs=[.bl k]/\Q (.int (if k then 1 else 0)) H) (QP (tOp (rI0 fun i j=>.bl (decide (j<=i))) (tVar 2) (tOp (rI CPow fun i j=>.int (i ^ j.toNat)) (tC (.int 10)) (tC (.int 18)))) tNil)))
    (QP (tOp (rI0 fun i j=>.int (i+j)) (tOp (rI0 fun i j=>.int (i+j)) (tOp (rI (fun _ j=>0<j) fun i j=>.int (i % j)) (tVar 2) (tC (.int 2305843009213693951))) (tOp (rI CMul fun i j=>V.int (i*j)) (tC (.int 7919)) (tVar 1))) (tC (.int 3))) (QP (tC (.int 0)) tNil))))
    { nx:=fun _ x=>Q .non x,rt:=Q } [some (.ref a),some (.int k),some (.int c)] H:=by
   intro c;refine⟨_,rfl,_,rfl,_,_,rfl,rfl,⟨by decide,by decide,by decide⟩,_,_,rfl,rfl,.inr ⟨_,rfl,_,_,rfl,rfl,.inr ?_,?_⟩⟩
   ·split <;> decide
   ·refine⟨_,rfl,_,_,rfl,rfl,(by show(0:Int)<2305843009213693951;decide),_,rfl,_,_,rfl,rfl,.inl ⟨by decide,by decide⟩,_,_,rfl,rfl,_,_,rfl,rfl,(by show 3<=sizeLine;decide),fun l u=>?_⟩
    refine q l _ u ⟨_,_,_,JN,?_,?_,bf _,bf _⟩ (znL u)
    ·lia
    ·lia
  refine ztB (fun c=>?_) (fun c=>?_)
  ·have y:k.toNat<ns.length:=by rw[aM]at c;lia
   refine⟨_,rfl,_,rfl,a,_,_,V.int (ns[k.toNat]),rfl,rfl,v,?_,?_⟩
   ·exact zff k0 (by rw[aZ,aE y];rfl)
   ·exact fin _
  ·exact fin 0
def zeH(Z:ZZ):Prop:=FQ Z "_law_hand" (top 57) ["_law_script","_law_k"] 1 (VE Z.K)
theorem zgj(D:Dq Z.K Z.mg "_law_hand" (top 57) ["_law_script","_law_k"]) (T:Txt Z.mg):zeH Z:=by
 obtain⟨f,fd,D⟩:=D;exact⟨f,fd,D,zho D T⟩
theorem zg6{H:Hp}{hd:ak}{o:HO}:zuz hd H (upd H hd o):=fun b u e n=>by rw[Js n];exact e
theorem scT:Ur ["_law_hand_here","_law_many","_law_digit","_law_turn","_law_mixed","_law_other"] ["_law_hand_here","_law_many"] (JH (top 58)):=⟨rfl,rfl,rfl,by decide +kernel,rfl,by decide +kernel,by decide +kernel⟩
theorem zn8{f:ak}{fd:cK}(D:Def K mg "_law_take" (top 58) ["_law_hand_here","_law_many"] f fd) (T:Txt mg):FnOk P w K mg base CX0 1 f fd ["_law_hand_here","_law_many"] zo2:=by
 refine D.F.ok scT (fun C H Q E h=>?_) (fun G A outer s H C Q E J h=>?_)
 ·obtain⟨hd,many,n,rfl,_⟩:=h
  rfl
 ·obtain⟨hd,many,n,rfl,⟨d,m,t,u,m0,x,t0,t1⟩,I,v,y,q⟩:=h;refine⟨_,QH (zpM (ziC Ui (UH UP (pv 0) JE (fun _ _=>rfl)) JE (Jj _))
    (QH (QK (i:=2) scT.nd rfl (dE rfl) (JD U5 (UH UP (pv 0) JE (fun _ _=>rfl)) (pv 1)))
    (QH (ZN (JD V8 (UH UP (pv 0) JE (fun _ _=>rfl)) (pv 1)) (pg_sub (pv 0) JE set_list))
    (Ye (ZO (pv 2))))) ziD)
   (QH (ZN (JD Uq (UH UP (pv 0) JE (fun _ _=>rfl)) JE) (pg_sub (pv 0) JE set_list))
   (QH (QK (i:=3) scT.nd rfl (dE rfl) (UH UP (pv 0) JE (fun _ _=>rfl)))
   (QH (QK (i:=4) scT.nd rfl (dE rfl) (JD U5 (JD Q7 (UH UP (pv 0) JE (fun _ _=>rfl)) (JD Uq (JD Uq JE (JD Q7 (JD Q7 JE (pv 3)) (pv 3))) (JD Q7 JE (pv 3)))) JE))
   (QH (QK (i:=5) scT.nd rfl (dE rfl) (JD Uq (JD Uq (JD U5 (pv 4) JE) (JD Q7 (pv 3) JE)) JE))
   (QH (QK (i:=4) scT.nd rfl (dE rfl) (JD U5 (JD Q7 (pv 4) (pv 5)) JE))
   (Ye (ZO (JD U5 (JD Uq (JD V8 (pv 4) JE) (JD V8 (pv 4) JE)) (pv 1))))))))),?_⟩
  refine⟨_,rfl,hd,_,_,_,rfl,rfl,.of u,rfl,_,_,rfl,rfl,_,rfl,?_⟩;refine ztB (fun c=>?_) (fun c=>?_)
  ·refine⟨_,rfl,hd,_,_,_,rfl,rfl,.of u,rfl,_,rfl,_,_,rfl,rfl,v,?_⟩;refine⟨_,rfl,hd,_,_,_,rfl,rfl,.of u,rfl,_,rfl,_,_,rfl,rfl,⟨v,y⟩,?_⟩;refine⟨_,rfl,hd,_,_,0,rfl,rfl,u,rfl,?_⟩;refine⟨_,rfl,?_⟩;exact q _ _ (gq _ (by lia)) (fo _ v) ⟨_,_,_,JN,m0,x,t0,by lia⟩ zg6
  ·refine⟨_,rfl,hd,_,_,_,rfl,rfl,.of u,rfl,_,_,rfl,rfl,?_⟩;refine⟨_,rfl,hd,_,_,2,rfl,rfl,u,rfl,?_⟩;refine⟨_,rfl,hd,_,_,_,rfl,rfl,.of JN,rfl,?_⟩;refine⟨_,rfl,hd,_,_,_,rfl,rfl,.of JN,rfl,_,rfl,_,_,rfl,rfl,.inl ⟨by decide,by decide⟩,_,rfl,_,_,rfl,rfl,.inr ⟨by lia,by lia⟩,_,_,rfl,rfl,_,rfl,_,_,rfl,rfl,.inl ⟨by decide,by decide⟩,_,_,rfl,rfl,_,_,rfl,rfl,.inl ⟨by lia,by lia⟩,_,_,rfl,rfl,(by show(0:Int)<2305843009213693921;decide),?_⟩
   refine⟨_,rfl,_,_,rfl,rfl,(by show(0:Int)<1000003;decide),_,rfl,_,_,rfl,rfl,.inr ⟨by decide,by decide⟩,_,_,rfl,rfl,_,_,rfl,rfl,?_⟩
   refine⟨_,rfl,_,rfl,_,_,rfl,rfl,.inl ⟨by lia,by lia⟩,_,_,rfl,rfl,(by show(0:Int)<2305843009213693907;decide),?_⟩
   refine⟨_,rfl,_,_,rfl,rfl,⟨by decide,by decide⟩,_,rfl,_,_,rfl,rfl,⟨by decide,by decide⟩,_,_,rfl,rfl,_,rfl,_,_,rfl,rfl,v,?_⟩
   exact q _ _ (gq _ (by lia)) (fo _ v) ⟨_,_,_,JN,m0,x,by lia,by lia⟩ zg6
theorem zhk{f:ak}{fd:cK}(D:Def K mg "_law_take" (top 58) ["_law_hand_here","_law_many"] f fd) (T:Txt mg):FnOk P w K mg base CX0 1 f fd ["_law_hand_here","_law_many"] (spD K 2 U3) :=
 (zn8 D T).imp znJ
def UT(Z:ZZ):Prop:=FQ Z "_law_take" (top 58) ["_law_hand_here","_law_many"] 1 (spD Z.K 2 U3)
theorem zgi(D:Dq Z.K Z.mg "_law_take" (top 58) ["_law_hand_here","_law_many"]) (T:Txt Z.mg):UT Z:=by
 obtain⟨f,fd,D⟩:=D;exact⟨f,fd,D,zhk D T⟩
def Zk:GD:=fun ts n R=>match ts with
 | [h,.list xs]=>h=HAND/\xs≠[]/\xs.length<=1000000/\n<=1000000000000/\∀x∈xs,R x (n+1)
 | [h,.tuple xs]=>h=HAND/\xs≠[]/\xs.length<=1000000/\n<=1000000000000/\∀x∈xs,R x (n+1)
 | _=>False
theorem Yh{xs:qD}{n:Nat}{R:qN}(h0:xs≠[])(u:xs.length<=1000000)(v:n<=1000000000000)(h:∀x∈xs,R x (n+1)):Zk [HAND,.list xs] n R:=⟨rfl,h0,u,v,h⟩
def US(Z:ZZ):Prop:=FQ Z "_law_pick" (top 59) ["_law_hand_here","_law_some"] 2 (spD Z.K 2 Zk)
theorem zhl(D:Dq Z.K Z.mg "_law_pick" (top 59) ["_law_hand_here","_law_some"]) (x:UT Z) (T:Txt Z.mg):US Z:=by
 refine' okQ D (fnS (N:=["_law_hand_here","_law_some"]) (by decide +kernel)) rfl fun f J A outer s H E G=>⟨_,(Jc (Jf (Jd (dlv 1) (dl (Je x G (dbv 0 (dbc (JF Uc Q6 T.len Q1 (Jn (dlv 1) Jq Ju)) Ja))))))),?_⟩
 intro ts n R L h;unfold Zk at h;split at h
 ·rename_i hd xs;obtain⟨rfl,h0,C,v,h⟩:=h;have y:0<xs.length:=lM.mpr h0
  wp_walk using Uk (by lia) (by lia) v (fun r u I=>?_)
  have l:r.toNat<xs.length:=by lia
  rw[Zw (zff u (aE l))];exact h _ (dz l)
 ·rename_i hd xs;obtain⟨rfl,h0,C,v,h⟩:=h;have y:0<xs.length:=lM.mpr h0
  wp_walk using Uk (by lia) (by lia) v (fun r u I=>?_)
  have l:r.toNat<xs.length:=by lia
  rw[Zx (zff u (aE l))];exact h _ (dz l)
 ·exact h.elim
def zc9:GD:=fun ts n R=>match ts with
 | [h]=>h=HAND/\n<=1000000000000/\∀b:Int,1<=b->b<=64->R (.int b) (n+1)
 | _=>False
theorem zjf{n:Nat}{R:qN}(l:n<=1000000000000)(h:∀b:Int,1<=b->b<=64->R (.int b) (n+1)):zc9 [HAND] n R:=⟨rfl,l,h⟩
def zeK(Z:ZZ):Prop:=FQ Z "_law_bits" (top 60) ["_law_hand_here"] 3 (spD Z.K 1 zc9)
theorem zhs(D:Dq Z.K Z.mg "_law_bits" (top 60) ["_law_hand_here"]) (l:US Z) (T:Txt Z.mg):zeK Z:=by
 refine' okQ D (fnS (N:=["_law_hand_here"]) (by decide +kernel)) rfl fun f y A outer s H E v=>⟨_,(Jc (Jf (Je l v (dbv 0 (dbc (Jl (JC (dbc Jg (dbc Jg (dbc Jg (dbc Jg (dbc Jg (dbc Jg (dbc Jg (dbc Jg (dbc Jg (dbc Jg Ja)))))))))))) Ja))))),?_⟩
 intro ts n R C h;unfold zc9 at h;split at h
 ·obtain⟨rfl,u,h⟩:=h;simp only[Z6,Z5,Z7,Z4,u_dC,ZC,Z0,Z2,Z1,Va,ZB,Vi,Vk,Vc,Vb,Vj,Z3,ZS,Za,YG,YH,YI,Y9,YJ,Zj,Zi,Ym,oSub,oMul,oMod,UF,oShl,oShr,oXor,oAnd,isNone,isInt,isBool,isTup,isStr,l_gI,Zv,YM,YN,YO,Yp,Yr,Ys,Yq,YA,YC,YE,YB,Yu,Y6,Yt,Ze,Yx,Yv,Yw,YT,YU,YV,YR,YS,YX,YY,Yo,Yz,Yy,YQ,Zf,YW,Y7,Zd,Uf,Ue,Uw,Uu,Uz,UA,Uy,Zg,Ux,J1,JB,capV,bV,fi,aO,cx,bQ,eV,cW,dm,bK,cV,dI,fq,ft,eW,eX,fk,Nat.reduceAdd,Nat.reduceSub,gS,true_and,and_true,aH,if_true,if_false,ite_true,ite_false,dS,eZ,fR,Zk]
  refine⟨by simp,by decide,u,fun x hx=>?_⟩
  simp only[aw,aJ,or_false]at hx;rcases hx with rfl|rfl|rfl|rfl|rfl|rfl|rfl|rfl|rfl|rfl <;> exact h _ (by decide) (by decide)
 ·exact h.elim
def zcx:GD:=fun ts n R=>match ts with
 | [h,.int bits]=>h=HAND/\1<=bits/\bits<=64/\n<=1000000000000 - 10/\∀i h:Int,IsBk bits i h->R (.tuple [.int i,.int h]) (n+3)
 | _=>False
theorem zcE{bits:Int}{n:Nat}{R:qN}(v:1<=bits)(y:bits<=64)(x:n<=1000000000000 - 10)(h:∀i h:Int,IsBk bits i h->R (.tuple [.int i,.int h]) (n+3)):zcx [HAND,.int bits] n R:=⟨rfl,v,y,x,h⟩
def Wv(Z:ZZ):Prop:=FQ Z "_law_block" (top 61) ["_law_hand_here","_law_bits_here"] 3 (spD Z.K 2 zcx)
theorem zgt(D:Dq Z.K Z.mg "_law_block" (top 61) ["_law_hand_here","_law_bits_here"]) (C:US Z) (y:UT Z) (T:Txt Z.mg):Wv Z:=by
 refine' okQ D (fnS (N:=["_law_hand_here","_law_bits_here","_law_height"]) (by decide +kernel)) rfl fun f S A outer s H E v=>⟨_,(Jb (dsv 2 (ndB rfl) (JF (Vo rfl) ZR T.min Zm (Jn (dlv 1) (Jn (dl (Je C v (dbv 0 (dbc (Jl (JC (dbc Jg (dbc Jg (dbc Jg (dbc Jg (dbc Jg (dbc Jg (dbc (Je y v (dbv 0 (dbc (JG (dlv 1) dli) Ja))) (dbv 1 Ja)))))))))) Ja)))) Jq Q0) Ju))) (Jc (Jf (Jh (dbc (Y2 (dl (Je y v (dbv 0 (dbc (JR dli (dl (Um (dlv 1) (dlv 2)))) Ja)))) (dl (JR dli (dlv 2)))) (dbv 2 Ja)))))),?_⟩
 intro ts n R U h;unfold zcx at h;split at h
 ·rename_i hd bits;obtain⟨rfl,b0,b1,hn,h⟩:=h;simp only[Z6,Z5,Z7,Z4,u_dC,ZC,Z0,Z2,Z1,Va,ZB,Vi,Vk,Vc,Vb,Vj,Z3,ZS,Za,YG,YH,YI,Y9,YJ,Zj,Zi,Ym,oSub,oMul,oMod,UF,oShl,oShr,oXor,oAnd,isNone,isInt,isBool,isTup,isStr,l_gI,Zv,YM,YN,YO,Yp,Yr,Ys,Yq,YA,YC,YE,YB,Yu,Y6,Yt,Ze,Yx,Yv,Yw,YT,YU,YV,YR,YS,YX,YY,Yo,Yz,Yy,YQ,Zf,YW,Y7,Zd,Uf,Ue,Uw,Uu,Uz,UA,Uy,Zg,Ux,J1,JB,capV,bV,fi,aO,cx,bQ,eV,cW,dm,bK,cV,dI,fq,ft,eW,eX,fk,Nat.reduceAdd,Nat.reduceSub,gS,true_and,and_true,aH,if_true,if_false,ite_true,ite_false,dS,eZ,fR,Zk,U3]
  refine⟨by lia,by lia,by lia,fun r Y r1=>⟨by simp,by decide,by lia,fun x hx=>?_⟩⟩
  have I:∃b:Int,x=.int b/\0<=b:=by
   simp only[aw,aJ,or_false]at hx;rcases hx with h|h|h|h|h|h|h|h <;> first|exact⟨_,h,by decide⟩|exact⟨_,h,by lia⟩
  obtain⟨b,rfl,bb⟩:=I;simp only[Z6,Z5,Z7,Z4,u_dC,ZC,Z0,Z2,Z1,Va,ZB,Vi,Vk,Vc,Vb,Vj,Z3,ZS,Za,YG,YH,YI,Y9,YJ,Zj,Zi,Ym,oSub,oMul,oMod,UF,oShl,oShr,oXor,oAnd,isNone,isInt,isBool,isTup,isStr,l_gI,Zv,YM,YN,YO,Yp,Yr,Ys,Yq,YA,YC,YE,YB,Yu,Y6,Yt,Ze,Yx,Yv,Yw,YT,YU,YV,YR,YS,YX,YY,Yo,Yz,Yy,YQ,Zf,YW,Y7,Zd,Uf,Ue,Uw,Uu,Uz,UA,Uy,Zg,Ux,J1,JB,capV,bV,fi,aO,cx,bQ,eV,cW,dm,bK,cV,dI,fq,ft,eW,eX,fk,Nat.reduceAdd,Nat.reduceSub,gS,true_and,and_true,aH,if_true,if_false,ite_true,ite_false,dS,eZ,fR,U3]
  have key:∀m:Int,0<=m->m<=bits->(CPow 1 (bits - m)/\(0:Int)<1*2 ^ (bits - m).toNat/\1*2 ^ (bits - m).toNat<(2:Int) ^ 128/\n+1+1<=1000000000000/\∀r:Int,0<=r->r<1*2 ^ (bits - m).toNat->CPow 1 m/\CMul r (1*2 ^ m.toNat)/\R (.tuple [.int (r*(1*2 ^ m.toNat)),.int m]) (n+1+1+1)):=by
   intro m m0 G;have J:(1:Int)*2 ^ (bits - m).toNat=2 ^ (bits - m).toNat:=bP _;have L:(1:Int)*2 ^ m.toNat=2 ^ m.toNat:=bP _;rw[J,L];refine⟨cpow (by lia) (by lia),Qz _,zlF (by lia),by lia,fun k k0 k1=>⟨cpow m0 (by lia),.inl ⟨by lia,?_⟩,?_⟩⟩
   ·have:=Ww (k:=(bits - m).toNat) (by lia);lia
   ·exact h _ m ⟨m0,G,k,k0,rfl,k1⟩
  exact key (if b<bits then b else bits) (by split <;> lia) (by split <;> lia)
 ·exact h.elim
def zeZ:GD:=fun ts n R=>∃bits i h:Int,ts=[HAND,.int bits,.tuple [.int i,.int h]]/\1<=bits/\bits<=64/\n<=1000000000000 - 100/\IsBk bits i h/\∀j g:Int,IsBk bits j g->R (.tuple [.int j,.int g]) (n+7)
theorem zfb{bits i h:Int}{n:Nat}{R:qN}(v:1<=bits)(y:bits<=64)(x:n<=1000000000000 - 100)(B:IsBk bits i h)(h':∀j g:Int,IsBk bits j g->R (.tuple [.int j,.int g]) (n+7)):zeZ [HAND,.int bits,.tuple [.int i,.int h]] n R:=⟨_,_,_,rfl,v,y,x,B,h'⟩
def zeG(Z:ZZ):Prop:=FQ Z "_law_near" (top 62) ["_law_hand_here","_law_bits_here","_law_block_here"] 4 (spD Z.K 3 zeZ)
theorem zhn(D:Dq Z.K Z.mg "_law_near" (top 62) ["_law_hand_here","_law_bits_here","_law_block_here"]) (J:US Z) (G:Wv Z) (T:Txt Z.mg):zeG Z:=by
 refine' okQ D (fnS (N:=["_law_hand_here","_law_bits_here","_law_block_here","_law_begin","_law_height","_law_size","_law_some"]) (by decide +kernel)) rfl fun f L A outer s H E y=>⟨_,(Jb (Qc (Jk 2) (Jz rfl (Ji (dgv 3 (ndB rfl)) (Ji (dgv 4 (ndB rfl)) Jx)))) (Jb (dsv 5 (ndB rfl) (JR dli (dlv 4))) (Jb (UJ (i:=6) (ndB rfl) rfl (dE rfl) (JC (dbv 2 (dbc (Jh (dbv 3 (dbc (JF (Wf rfl) VN T.max Wl (Jn dli (Jn (dl (Um (dlv 4) dli)) Jq Q9) zlg)) Ja))) (dbc (Je G y (dbv 0 (dbv 1 Ja))) (dbc (Je G y (dbv 0 (dbv 1 Ja))) Ja)))))) (Jb (Jp (Jo Ui gp_B (dlv 4) dli (Jj _)) (Jc (Qr 6 (Jh (dbc (JG (dlv 3) (dl (VX (dlv 5) dli))) (dbc (Um (dlv 4) dli) Ja))))) Jr) (Jb (Jp (Jo (Qy y) Qx (dlv 4) (dlv 1) (Jj _)) (Jb (Qr 6 (Jh (dbc (Um (dlv 3) (dl (zmT (dlv 3) (dl (Y2 dli (dlv 5)))))) (dbc (JG (dlv 4) dli) Ja)))) (Jc (Qr 6 (Jh (dbc (ZY (dlv 3) (dlv 5)) (dbv 4 Ja)))))) Jr) (Jb (Jp (Jo Qf Qd (dl (JG (dlv 3) (dl (Y2 dli (dlv 5))))) (dl (JR dli (dlv 1))) (Jj _)) (Jc (Qr 6 (Jh (dbc (JG (dlv 3) (dlv 5)) (dbv 4 Ja))))) Jr) (UE 6 (Jc (Jf (Je J y (dbv 0 (dbv 6 Ja)))))))))))),?_⟩
 intro ts n R S C;obtain⟨bits,i,h,rfl,Y,U,hn,B,C⟩:=C;have h0:=B.1;have h1:=B.2.1;have v:∀j g:Int,IsBk bits j g->∀m,m=n+7->R (.tuple [.int j,.int g]) m:=fun j g b m e=>e▸C j g b
 have I:IsBk bits i (if h - 1 > 0 then h - 1 else 0):=by
  split
  ·exact B.low (by lia)
  ·by_cases z:h=0
   ·subst z;exact B
   ·have:h=1:=by lia
    subst this;exact B.low (by decide)
 wp_walk using zcE ?_ ?_ ?_ (fun _ _ _=>?_),Yh ?_ ?_ ?_ ?_
 all_goals first
  | lia
  | exact cpow (by lia) (by lia)
  | exact zwY
  | exact zuv
  | (rw[Qq];exact Int.mul_pos (by decide) (Qz _))
  | (intro z;simp at z;done)
  | (simp only[cW,dm,aO,cx];decide)
  | skip
 all_goals
  simp only[cW,dm,List.forall_mem_cons,Qq]at *
  repeat' (with_reducible refine lD ?_ ?_)
 all_goals first
  | exact v _ _ B _ rfl
  | exact v _ _ I _ rfl
  | exact v _ _ (by assumption) _ rfl
  | exact v _ _ (B.up (by lia)) _ rfl
  | exact v _ _ (B.abt (by lia)) _ rfl
  | exact v _ _ (B.oth (by lia)) _ rfl
  | exact v _ _ (B.nxt (by assumption)) _ rfl
  | (intro x hx;simp at hx)
def zdr:GD:=fun ts n R=>∃bits most:Int,ts=[HAND,.int bits,.int most]/\1<=bits/\bits<=64/\0<=most/\most<=1000/\n<=1000000000000 - 100000/\∀(bs:qB) (m:Nat),Bks bits bs->bs.length<=most.toNat->m<=n+1+12*most.toNat->R (.list (pD bs)) m
theorem zgM{bits most:Int}{n:Nat}{R:qN}(u:1<=bits)(y:bits<=64)(m0:0<=most)(v:most<=1000)(x:n<=1000000000000 - 100000)(h:∀(bs:qB) (m:Nat),Bks bits bs->bs.length<=most.toNat->m<=n+1+12*most.toNat->R (.list (pD bs)) m):zdr [HAND,.int bits,.int most] n R:=⟨bits,most,rfl,u,y,m0,v,x,h⟩
def zdk(Z:ZZ):Prop:=FQ Z "_law_blocks" (top 63) ["_law_hand_here","_law_bits_here","_law_most"] 5 (spD Z.K 3 zdr)
theorem zfj(D:Dq Z.K Z.mg "_law_blocks" (top 63) ["_law_hand_here","_law_bits_here","_law_most"]) (EK:UT Z) (EM:Wv Z) (Hu:zeG Z) (EL:US Z) (T:Txt Z.mg):zdk Z:=by
 refine' okQ D (fnS (N:=["_law_hand_here","_law_bits_here","_law_most","_law_found","_law_k","_law_block_here"]) (by decide +kernel)) rfl fun f cdv A outer s H E G=>⟨_,(Jb (UJ (i:=3) (ndB rfl) rfl (dE rfl) (JC Ja)) (Jb (Ub cz rfl (ze6 T.ran (Je EK G (dbv 0 (dbc (JG (dlv 2) dli) Ja)))) (dgv 4 (ndB rfl)) (Jb (dsv 5 (ndB rfl) (Je EM G (dbv 0 (dbv 1 Ja)))) (Jb (Jp (JY (U6 (Jo (QV G) QQ (YK 3) (dl (Jl (JC Ja))) (Jj _)) (Yc (Jo Ui gp_B (dl (Je EK G (dbv 0 (dbc Jg Ja)))) dli (Jj _))))) (Jc (dsv 5 (ndB rfl) (Je Hu G (dbv 0 (dbv 1 (dbc (zup EL G (Jn (dlv 0) (Jn (YK 3) Jq Ju) Ju)) Ja)))))) Jr) (Jc (Qr 3 (Jk 5)))))) (UE 3 (Jc (Jf (Jk 3)))))),?_⟩
 intro ts n R hl U;obtain⟨bits,most,rfl,b0,b1,m0,m1,hn,U⟩:=U
 wp_walk using Uk ?_ ?_ ?_ (fun r r0 r1=>?_)
 ·lia
 ·lia
 ·lia
 ·lia
 ·lia
 refine Zb (fun k J m=>∃bs:List (Int×Int),∃c4 L,J=[some (.val HAND),some (.val (.int bits)),some (.val (.int most)),some (.own (pD bs)),c4,L]/\Bks bits bs/\bs.length=k/\m<=n+1+12*k) ⟨[],_,_,rfl,(fun b Y=>nomatch Y),rfl,by lia⟩ ?_ ?_
 ·rintro k t J m K et ⟨bs,c4,L,rfl,B,S,hm⟩ hK;obtain⟨hk2,rfl⟩:=zfy et;have hk3:k<1000:=by lia
  have fin:∀(i h:Int) (x4 x5:Option Cell) (I:Nat),IsBk bits i h->I<=m+12->K [some (.val HAND),some (.val (.int bits)),some (.val (.int most)),some (.own (pD bs++[.tuple [.int i,.int h]])),x4,x5] I:=fun i h x4 x5 I C hm' =>
   hK _ _ ⟨bs++[(i,h)],_,_,by rw[<- UL],B.app C,by simp[S],by lia⟩
  wp_walk using zcE ?_ ?_ ?_ (fun i h C=>?_),Uk ?_ ?_ ?_ (fun q q0 q1=>?_),Yh ?_ ?_ ?_ ?_,zfb ?_ ?_ ?_ ?_ (fun j g C'=>?_)
  all_goals first
   | lia
   | exact zsO
   | exact ziG
   | (rw[JA];lia)
   | decide
   | (intro z
      have y:cg (.list (pD bs)) (.list [])=false:=by assumption
      rw[zqW]at y;have y2:bs=[]:=by
       have:=congrArg dP z;rw[JA]at this;exact gy.mp this
      rw[y2]at y;cases y)
   | exact fin _ _ _ _ _ (by assumption) (by lia)
   | skip
  all_goals
   intro x hx;obtain⟨b,Y,rfl⟩:=aN.mp hx;refine⟨zkz,?_⟩;have C0:=B b Y
   wp_walk using zfb ?_ ?_ ?_ ?_ (fun j g C'=>?_)
   all_goals first
    | lia
    | exact C0
    | (rw[JA];lia)
    | exact fin _ _ _ _ _ (by assumption) (by lia)
 ·rintro J m ⟨bs,c4,L,rfl,B,S,hm⟩;have el:bs.length<=most.toNat:=by
   rw[S];unfold QW;simp;lia
  wp_walk
  exact U bs m B el (by lia)
def zeb:GD:=fun ts n R=>∃bits most:Int,ts=[HAND,.int bits,.int most]/\1<=bits/\bits<=64/\0<=most/\most<64/\n<=1000000000000 - 100000/\∀(bs:qB) (m:Nat),Ptc bits bs->bs.length<=most.toNat->m<=n+1+12*most.toNat->R (.tuple (pD bs)) m
theorem zee{bits most:Int}{n:Nat}{R:qN}(v:1<=bits)(C:bits<=64)(m0:0<=most)(x:most<64)(y:n<=1000000000000 - 100000)(h:∀(bs:qB) (m:Nat),Ptc bits bs->bs.length<=most.toNat->m<=n+1+12*most.toNat->R (.tuple (pD bs)) m):zeb [HAND,.int bits,.int most] n R:=⟨bits,most,rfl,v,C,m0,x,y,h⟩
def zd2(Z:ZZ):Prop:=FQ Z "_law_patch" (top 64) ["_law_hand_here","_law_bits_here","_law_most"] 6 (spD Z.K 3 zeb)
theorem zgq(D:Dq Z.K Z.mg "_law_patch" (top 64) ["_law_hand_here","_law_bits_here","_law_most"]) (Hc:zdk Z) (T:Txt Z.mg):zd2 Z:=by
 refine' okQ D (fnS (N:=["_law_hand_here","_law_bits_here","_law_most","_law_found","_law_begin","_law_height"]) (by decide +kernel)) rfl fun f cdv A outer s H E hr=>⟨_,(Jb (UJ (i:=3) (ndB rfl) rfl (dE rfl) (JC Ja)) (Jb (Ub cz rfl (QC (Je Hc hr (dbv 0 (dbv 1 (dbv 2 Ja))))) (Jz rfl (Ji (dgv 4 (ndB rfl)) (Ji (dgv 5 (ndB rfl)) Jx))) (Jc (Jp (JS (dl (JF (We rfl) VL T.all Wj (Jn (dl (Jl (dnc ["_law_one"] [4,5] (zoN (YK 3)) (fun _ _ _ _=>(dgv 0 (ndB rfl))) (fun _ _ _ _=>(zpr (Qh Qf Qd (dl (JG (dlv 1) (dl (JR dli (dlv 2))))) (dl (Jd (dlv 0) dli)) (Jj _)) (Ul (Qh Qf Qd (dl (JG (dl (Jd (dlv 0) dli)) (dl (JR dli (dl (Jd (dlv 0) dli)))))) (dlv 1) (Jj _)))))))) Jq Ug)))) (Jc (Qr 3 (Jh (dbv 4 (dbv 5 Ja))))) Jr))) (UE 3 (Jc (Jf (Qb QE QG T.tup Qp (Jn (dl (Jl (ze5 hr T.srt (dlv 3) Ju))) Jq Q0))))))),?_⟩
 intro ts n R hl S;obtain⟨bits,most,rfl,b0,b1,m0,m1,hn,S⟩:=S
 wp_walk using zgM ?_ ?_ ?_ ?_ ?_ (fun bs m B hlen hm=>?_)
 ·lia
 ·lia
 ·lia
 ·lia
 ·lia
 refine Zb (fun k J I=>I=m/\∃cs:List (Int×Int),∃U L,J=[some (.val HAND),some (.val (.int bits)),some (.val (.int most)),some (.own (pD cs)),U,L]/\Bks bits cs/\(cs.Pairwise fun a b=>eB a<=b.1\/eB b<=a.1)/\cs.length<=k) ⟨rfl,[],_,_,rfl,(fun b y=>nomatch y),.nil,ay _⟩ ?_ ?_
 ·rintro k t J I K et ⟨rfl,cs,U,L,rfl,C,u,hk⟩ hK;obtain⟨i,h,eb,rfl⟩:=Y0 et;have y:=B _ (aV eb);have h0:0<=h:=y.1;have h1:h<=bits:=y.2.1;have hk3:k<64:=by
   have:=(av.mp eb).1;lia
  wp_walk
  refine QN (D:=prD) (fun b=>.bool (decide (i+2 ^ h.toNat<=b.1)||decide (eB b<=i))) (by lia) ?_ ?_
  ·rintro⟨Y,h'⟩ x K2 X2 hK2;have G:=C _ x;have h0':0<=h':=G.1;have h1':h'<=bits:=G.2.1
   wp_walk
   ·exact cpow (by lia) (by lia)
   ·have hc:i+2 ^ h.toNat<=Y:=by rw[Qq]at hc;exact hc
    rw[decide_eq_true hc]at hK2;exact hK2
   ·exact cpow (by lia) (by lia)
   ·have hc:¬i+2 ^ h.toNat<=Y:=by rw[Qq]at hc;exact hc
    rw[decide_eq_false hc]at hK2;rw[Qq];exact hK2
  ·wp_walk using VO ?_
   ·rw[JA];lia
   ·have al:∀b∈cs,i+2 ^ h.toNat<=b.1\/eB b<=i:=fun b y=>by
     have:=bp.mp hc b y;simpa using this
    refine hK _ _ ⟨rfl,cs++[(i,h)],_,_,by rw[<- UL],C.app y,?_,by simp;lia⟩
    rw[cn];refine⟨u,cE _ _,fun a ha b x=>?_⟩
    cases az.mp x;rcases al a ha with z|z
    ·exact .inr z
    ·exact .inl z
   ·exact hK _ _ ⟨rfl,cs,_,_,rfl,C,u,by lia⟩
 ·rintro J I ⟨rfl,cs,U,L,rfl,C,u,hk⟩;rw[JA]at hk
  wp_walk
  refine ztg b1 C u (by lia) fun es P pm=>?_
  wp_walk
  exact S es _ P (by have:=pm.length_eq;lia) (by lia)
def nmL(l:List Nat)(k c:Nat):Str:=⟨(l.take k++[c]++l.drop k).toArray⟩
theorem zsU{u:List Nat}{k c:Nat}(y:u.length<=7)(v:∀x∈u,97<=x/\x<=122)(hc:97<=c/\c<=122):IsNm (nmL u k c):=by
 have e:(nmL u k c).cps.toList=u.take k++[c]++u.drop k:=rfl;have l:(nmL u k c).length=u.length+1:=by
  rw[<- Qu,e];simp;lia
 refine⟨by lia,by lia,fun x hx=>?_⟩
 rw[e]at hx;simp only[aB,az]at hx;rcases hx with(hx|rfl)|hx
 ·exact v x (dD hx)
 ·exact hc
 ·exact v x (lA hx)
theorem zqq{l:List Nat}{k c d:Nat}(h:nmL l k c=nmL l k d):c=d:=by
 have e:l.take k++[c]++l.drop k=l.take k++[d]++l.drop k:=congrArg (fun s:Str=>s.cps.toList) h
 rw[iS,iS]at e;have:=List.append_cancel_left e;simpa using this
theorem zm2{step:Int}(h:step=1\/step=3\/step=5\/step=7\/step=9\/step=11){first i j:Int}(l:0<=i)(x:i<26)(u:0<=j)(v:j<26)(e:(first+step*i) % 26=(first+step*j) % 26):i=j:=by
 rcases h with rfl|rfl|rfl|rfl|rfl|rfl <;> lia
def zec:GD:=fun ts n R=>∃many:Int,ts=[HAND,.int many]/\0<=many/\many<=26/\n<=1000000000000 - 1000/\∀u:List Str,u.length=many.toNat->(∀s∈u,IsNm s)->u.Nodup->R (.list (u.map .str)) (n+5)
theorem zik{many:Int}{n:Nat}{R:qN}(m0:0<=many)(v:many<=26)(x:n<=1000000000000 - 1000)(h:∀u:List Str,u.length=many.toNat->(∀s∈u,IsNm s)->u.Nodup->R (.list (u.map .str)) (n+5)):zec [HAND,.int many] n R:=⟨many,rfl,m0,v,x,h⟩
def zd3(Z:ZZ):Prop:=FQ Z "_law_names" (top 65) ["_law_hand_here","_law_many"] 3 (spD Z.K 2 zec)
theorem zgr(D:Dq Z.K Z.mg "_law_names" (top 65) ["_law_hand_here","_law_many"]) (I:UT Z) (EL:US Z) (T:Txt Z.mg):zd3 Z:=by
 refine' okQ D (fnS (N:=["_law_hand_here","_law_many","_law_letters","_law_first","_law_step","_law_stem","_law_at"]) (by decide +kernel)) rfl fun f cdv A outer s H E G=>⟨_,(Jb (dsv 2 (ndB rfl) JK) (Jb (Qc (Jh (dbc (Je I G (dbv 0 (dbc Jg Ja))) (dbc (Je EL G (dbv 0 (dbc (Jl (JC (dbc Jg (dbc Jg (dbc Jg (dbc Jg (dbc Jg (dbc Jg Ja)))))))) Ja))) Ja))) (Jz rfl (Ji (dgv 3 (ndB rfl)) (Ji (dgv 4 (ndB rfl)) Jx)))) (Jb (dsv 5 (ndB rfl) (zq5 (dl (Jd (dlv 2) (dl (Je I G (dbv 0 (dbc Jg Ja)))))) (dl (Je EL G (dbv 0 (dbc (Jl (JC (dbc Jg (dbc Jg (dbc Jg (dbc Jg (dbc Jg Ja))))))) Ja)))))) (Jb (dsv 6 (ndB rfl) (Je I G (dbv 0 (dbc (JG (dl (JF Uc Q6 T.len Q1 (Jn (dlv 5) Jq Ju))) dli) Ja)))) (Jc (Jf (Jl (dnc ["_law_k"] [5,2,6,3,4] (dil (ze6 T.ran (Jk 1))) (fun _ _ _ _=>(dgv 0 (ndB rfl))) (fun _ _ _ _=>(JG (dl (JG (dl (Uh (dlv 1) Qs (Qt (Jk 3)))) (dl (Jd (dlv 2) (dl (zmT (dl (JG (dlv 4) (dl (Y2 (dlv 5) (dlv 0))))) dli)))))) (dl (Uh (dlv 1) (Qt (Jk 3)) Qs)))))))))))),?_⟩
 intro ts n R hl h;obtain⟨many,rfl,m0,m1,hn,h⟩:=h
 wp_walk using Uk ?_ ?_ ?_ (fun r r0 r1=>?_),Yh ?_ ?_ ?_ (fun x hx=>?_)
 all_goals first|lia|exact cpow (by lia) (by lia)|(simp;done)|skip
 rename_i first f0 f1
 revert r r0 r1;intro l l0 l1;obtain⟨step,rfl,C⟩:∃s:Int,x=.int s/\(s=1\/s=3\/s=5\/s=7\/s=9\/s=11):=by
  simp only[aw,aJ,or_false]at hx;rcases hx with rfl|rfl|rfl|rfl|rfl|rfl <;> exact⟨_,rfl,by simp⟩
 refine ztq (k:=l.toNat) (by decide) (by lia) (letters (by lia)) ?_
 wp_walk using Yh ?_ ?_ ?_ (fun y Y=>?_)
 all_goals first|lia|exact cpow (by lia) (by lia)|(simp;done)|skip
 obtain⟨m,rfl,mm0,mm7⟩:∃m:Int,y=.int m/\0<=m/\m<=7:=by
  simp only[aw,aJ,or_false]at Y;rcases Y with rfl|rfl|rfl|rfl|rfl <;> exact⟨_,rfl,by decide,by decide⟩
 have v:(repS (⟨#[97+l.toNat]⟩:Str) m).cps.toList=bM m.toNat (97+l.toNat):=by
  rw[znW];show(bM m.toNat [97+l.toNat]).flatten=_
  generalize m.toNat=k;induction k with
  | zero=>rfl
  | succ k ih=>rw[bQ,mL,ih,bQ];rfl
 have u:(repS (⟨#[97+l.toNat]⟩:Str) m).length=m.toNat:=by rw[<- Qu,v,gT]
 wp_walk using Uk ?_ ?_ ?_ (fun a a0 a1=>?_)
 ·lia
 ·lia
 ·show 1<=100;decide
 ·rw[u];lia
 ·rw[u];lia
 ·rw[u];lia
 ·lia
 ·lia
 ·lia
 rw[u]at a1;generalize repS (⟨#[97+l.toNat]⟩:Str) m=EU at v u;have S:∀x∈EU.cps.toList,97<=x/\x<=122:=fun x hx=>by
  rw[v]at hx;have:=List.eq_of_mem_replicate hx;lia
 refine QN (cs:=eO many.toNat) (D:=fun(i:Nat)=>.int (0+(i:Int))) (fun i=>.str (nmL EU.cps.toList a.toNat (97+((first+step*(i:Int)) % 26).toNat))) (by simp;lia) ?_ ?_
 ·intro i hi K2 X2 U;have hi:=gz.mp hi;have q0:0<=(first+step*(0+(i:Int))) % 26:=gq _ (by decide)
  have q1:(first+step*(0+(i:Int))) % 26<26:=fo _ (by decide)
  wp_walk using ztq (k:=((first+step*(0+(i:Int))) % 26).toNat) (by decide) (by lia) (letters (by lia)) ?_
  all_goals first
   | lia
   | exact .inl ⟨by lia,by lia⟩
   | skip
  ·have l3:(cutS EU none (some a)).length<=7:=by
    rw[<- Qu,ze8 (k:=a.toNat) (by lia)]
    have:=Qu EU;simp;lia
   show(cutS EU none (some a)).length+1<=16777216
   lia
  ·have l3:(cutS EU none (some a)).length<=7:=by
    rw[<- Qu,ze8 (k:=a.toNat) (by lia)]
    have:=Qu EU;simp;lia
   have l4:(cutS EU (some a) none).length<=7:=by
    rw[<- Qu,zh5 (k:=a.toNat) (by lia) (by lia),dU]
    have:=Qu EU;lia
   rw[<- Qu,zji,aK,Qu];show _+1+_<=_
   lia
  ·have e:(cutS EU none (some a)++(⟨#[97+((first+step*(0+(i:Int))) % 26).toNat]⟩:Str)++cutS EU (some a) none)=nmL EU.cps.toList a.toNat (97+((first+step*(i:Int)) % 26).toNat):=by
    apply L2.Str.ext';rw[zji,zji,ze8 (k:=a.toNat) (by lia),zh5 (k:=a.toNat) (by lia) (by lia),Int.zero_add]
    rfl
   rw[e];exact U
 ·have e:((eO many.toNat).map fun(i:Nat)=>eF (nmL EU.cps.toList a.toNat (97+((first+step*(i:Int)) % 26).toNat)))=((eO many.toNat).map fun(i:Nat)=>nmL EU.cps.toList a.toNat (97+((first+step*(i:Int)) % 26).toNat)).map .str:=by rw[cQ];rfl
  rw[e];have J:∀i:Nat,0<=(first+step*(i:Int)) % 26/\(first+step*(i:Int)) % 26<26:=fun i=>⟨gq _ (by decide),fo _ (by decide)⟩
  refine h _ (by simp) (fun s hs=>?_) ?_
  ·obtain⟨i,hi,rfl⟩:=aN.mp hs;have:=J i;have:=Qu EU;exact zsU (by lia) S (by lia)
  ·rw[List.Nodup,dH];refine gk ?_ (List.nodup_range (n:=many.toNat));intro i j hi hj ne e;have hi:=gz.mp hi;have hj:=gz.mp hj;have e':=zqq e;have:=J i;have:=J j;have:=zm2 C (first:=first) (i:=i) (j:=j) (by lia) (by lia) (by lia) (by lia) (by lia)
   exact ne (by lia)
def ze0:GD:=fun ts n R=>∃(bits most:Int) (u:List Str),ts=[HAND,.int bits,.list (nD u),.int most]/\1<=bits/\bits<=64/\0<=most/\most<64/\u≠[]/\u.length<=1000/\(∀s∈u,IsNm s)/\n<=1000000000000 - 200000 /\
 ∀(d:Deal) (m:Nat),Dl d->d.1=bits->d.2.1.length<=most.toNat->d.2.2.length<=most.toNat->(∀p∈d.2.1++d.2.2,p.2∈u)->m<=n+10000->R (dlD d) m
theorem zfc{bits most:Int}{u:List Str}{n:Nat}{R:qN}(v:1<=bits)(G:bits<=64)(m0:0<=most)(y:most<64)(ne:u≠[])(l:u.length<=1000)(x:∀s∈u,IsNm s)(C:n<=1000000000000 - 200000)
 (h:∀(d:Deal) (m:Nat),Dl d->d.1=bits->d.2.1.length<=most.toNat->d.2.2.length<=most.toNat->(∀p∈d.2.1++d.2.2,p.2∈u)->m<=n+10000->R (dlD d) m):ze0 [HAND,.int bits,.list (nD u),.int most] n R:=⟨bits,most,u,rfl,v,G,m0,y,ne,l,x,C,h⟩
def zeI(Z:ZZ):Prop:=FQ Z "_law_deal" (top 66) ["_law_hand_here","_law_bits_here","_law_names_here","_law_most"] 7 (spD Z.K 4 ze0)
theorem zhq(D:Dq Z.K Z.mg "_law_deal" (top 66) ["_law_hand_here","_law_bits_here","_law_names_here","_law_most"]) (E6:zd2 Z) (EL:US Z) (EK:UT Z) (T:Txt Z.mg):zeI Z:=by
 refine' okQ D (fnS (N:=["_law_hand_here","_law_bits_here","_law_names_here","_law_most","_law_outs_here","_law_kept","_law_block_here","_law_name","_law_size","_law_there"]) (by decide +kernel)) rfl fun f cdv A outer s H E U=>⟨_,(Jb (Ve (Vf (i:=4) (ndB rfl) rfl (dE rfl) (own:=["_law_block_here"]) (capt:=[0,2]) rfl (JJ.of rfl) (dil (Qw (Je E6 U (dbv 0 (dbv 1 (dbv 3 Ja)))))) (fun _ _ _ _=>(dgv 0 (ndB rfl))) (by decide) (fun _ _ _ _=>Y5) (fun _ _ _ _=>(Jh (dbv 0 (dbc (Je EL U (dbv 1 (dbv 2 Ja))) Ja)))))) (Jb (UJ (i:=5) (ndB rfl) rfl (dE rfl) (JC Ja)) (Jb (Ub cz rfl (Qw (Je E6 U (dbv 0 (dbv 1 (dbv 3 Ja))))) (dgv 6 (ndB rfl)) (Jb (dsv 7 (ndB rfl) (Je EL U (dbv 0 (dbv 2 Ja)))) (Jb (dsv 8 (ndB rfl) (JR dli (dl (Jd (dlv 6) dli)))) (Jb (Ve (Vf (i:=9) (ndB rfl) rfl (dE rfl) (own:=["_law_one"]) (capt:=[8,6]) rfl (JJ.of rfl) (dil (QC (Jk 4))) (fun _ _ _ _=>(dgv 0 (ndB rfl))) (by decide) (fun _ _ _ _=>(UO (JY (U6 (Jo (Qy U) Qx (dl (Jd (dl (Jd (dlv 0) dli)) dli)) (dl (JG (dl (Jd (dlv 2) dli)) (dlv 1))) (Jj _)) (Yc (Jo (Qy U) Qx (dl (Jd (dlv 2) dli)) (dl (JG (dl (Jd (dl (Jd (dlv 0) dli)) dli)) (dl (JR dli (dl (Jd (dl (Jd (dlv 0) dli)) dli)))))) (Jj _))))))) (fun _ _ _ _=>(Jk 0)))) (Jb (Jp (JY (QB (Jo (Qe U) Qa (dlv 9) (dl (Jl (JC Ja))) (Jj _)) (QR (Jo (Qe U) Qa (dl (Je EK U (dbv 0 (dbc Jg Ja)))) dli (Jj _))))) (Jc (dsv 7 (ndB rfl) (Jd (dl (Jl (Uo (dl (Jl (dnc ["_law_one"] [] (dil (QC (Jk 9))) (fun _ _ _ _=>(dgv 0 (ndB rfl))) (fun _ _ _ _=>(Jd (dlv 0) dli))))) (dl (Jl (JC (dbv 7 Ja))))))) dli))) Jr) (Jc (Jp (Jo (Qe U) Qa (dl (Jl (dnf ["_law_one"] [7] (dil (QC (Jk 9))) (fun _ _ _ _=>(dgv 0 (ndB rfl))) (fun _ _ _ _=>(UO (Jo (QV U) QQ (dl (Jd (dlv 0) dli)) (dlv 1) (Jj _)))) (fun _ _ _ _=>(Jk 0))))) (dl (Jl (JC Ja))) (Jj _)) (Jc (Qr 5 (Jh (dbv 6 (dbv 7 Ja))))) Jr))))))) (UE 5 (Jc (Jf (Jh (dbv 1 (dbc (Qb QE QG T.tup Qp (Jn (dlv 4) Jq Ju)) (dbc (Qb QE QG T.tup Qp (Jn (dlv 5) Jq Ju)) Ja)))))))))),?_⟩
 intro ts n R hl h;obtain⟨bits,most,G,rfl,b0,b1,m0,m1,ne,l,hm,hn,h⟩:=h;have pick:∀{n:Nat} {Q:qN},n<=1000000000000->(∀s∈G,Q (.str s) (n+1))->Zk [HAND,.list (nD G)] n Q:=fun {n Q} hn L=>Yh (by intro z;cases G with|nil=>exact ne rfl|cons a b=>cases z) (by simp[nD];lia) hn fun x hx=>by
  obtain⟨s,hs,rfl⟩:=aN.mp hx;exact L s hs
 wp_walk using zee b0 b1 m0 m1 ?_ (fun bs m P hlen hm1=>?_)
 ·lia
 refine ZV (fun j acc m'=>m'=m+j/\∃os:List ((Int×Int)×Str),acc=oD os/\os.map (·.1)=bs.take j/\∀p∈os,p.2∈G) ⟨rfl,[],rfl,by simp,fun p C=>nomatch C⟩ ?_ ?_
 ·rintro j x acc m' K ej ⟨rfl,os,rfl,e1,e2⟩ hK;obtain⟨i,g,eb,rfl⟩:=Y0 ej;have jl:=(av.mp eb).1;have lo:os.length=j:=by
   have:=congrArg dP e1;simp at this;lia
  wp_walk using pick ?_ (fun s hs=>?_)
  ·lia
  ·rw[J3];lia
  ·refine hK _ _ ⟨by lia,os++[((i,g),s)],by simp[oD],?_,?_⟩
   ·rw[cR,e1,e8,eb];rfl
   ·intro p C;rcases aB.mp C with z|z
    ·exact e2 p z
    ·cases az.mp z;exact hs
 ·rintro acc m' ⟨rfl,os,rfl,e1,e2⟩;rw[JA,dZ]at e1
  wp_walk using zee b0 b1 m0 m1 ?_ (fun cs m2 P2 hlen2 hm2=>?_)
  ·rw[JA];lia
  rw[JA]at hm2;have lo:os.length=bs.length:=by rw[<- aM (f:=(·.1)),e1]
  have Bo:∀p∈os,IsBk bits p.1.1 p.1.2:=fun p C=>P.1 _ (by rw[<- e1];exact aN.mpr ⟨p,C,rfl⟩)
  refine zt_ 5 6 7 8 9 (fun k a5 _ _ _ _ m'=>m'<=m2+2*k/\∃J:List ((Int×Int)×Str),a5=some (.own (oD J))/\(J.map (·.1)).Sublist (cs.take k)/\(∀q∈J,q.2∈G)/\Agr os J) ⟨by lia,[],rfl,by simp,fun q L=>(nomatch L),fun p C q L=>(nomatch L)⟩ ?_ ?_
  ·rintro k t a5 a6 a7 a8 a9 m' K RT BK et ⟨hm',J,rfl,sb,kn,ag⟩ hK hRT hBK;obtain⟨i,g,eb,rfl⟩:=Y0 et;have kl:=(av.mp eb).1;have Bb:=P2.1 _ (aV eb);have g0:0<=g:=Bb.1;have g1:g<=bits:=Bb.2.1;have pg:=Qz g.toNat;have tk:cs.take (k+1)=cs.take k++[(i,g)]:=by rw[e8,eb];rfl
   have lks:J.length<=64:=by
    have:=sb.length_le;simp at this;lia
   have skip:∀(I:Nat) (b6 b7 b8 b9:Option Cell),I<=m'+2->K [some (.val HAND),some (.val (.int bits)),some (.val (.list (nD G))),some (.val (.int most)),some (.val (.list (oD os))),some (.own (oD J)),b6,b7,b8,b9] I:=fun I b6 b7 b8 b9 h2 =>
    hK _ _ _ _ _ _ ⟨by lia,J,rfl,by rw[tk];exact sb.trans (List.sublist_append_left _ _),kn,ag⟩
   have put:∀(I:Nat) (b6 b7 b8 b9:Option Cell) (s:Str),I<=m'+2->s∈G->(∀p∈os,p.1.1<i+2 ^ g.toNat->i<p.1.1+2 ^ p.1.2.toNat->p.2=s)->K [some (.val HAND),some (.val (.int bits)),some (.val (.list (nD G))),some (.val (.int most)),some (.val (.list (oD os))),some (.own (oD J++[.tuple [.tuple [.int i,.int g],.str s]])),b6,b7,b8,b9] I:=fun I b6 b7 b8 b9 s h2 hs al =>
    hK _ _ _ _ _ _ ⟨by lia,J++[((i,g),s)],by simp[oD],by rw[tk,cR];exact sb.append (xf _),(fun q L=>by
     rcases aB.mp L with z|z
     ·exact kn q z
     ·cases az.mp z;exact hs),fun p C q L=>by
     rcases aB.mp L with z|z
     ·exact ag p C q z
     ·cases az.mp z
      by_cases y:p.1.1<i+2 ^ g.toNat/\i<p.1.1+2 ^ p.1.2.toNat
      ·exact .inl (al p C y.1 y.2)
      ·right
       show eB p.1<=i\/i+2 ^ g.toNat<=p.1.1
       unfold eB;lia⟩
   wp_walk using pick ?_ (fun s hs=>?_)
   ·lia
   ·exact cpow (by lia) (by lia)
   refine UR (cs:=os) (D:=fun p=>.tuple [prD p.1,.str p.2]) (fun p=>decide (p.1.1<i+2 ^ g.toNat)&&decide (i<p.1.1+2 ^ p.1.2.toNat)) (fun p=>.tuple [prD p.1,.str p.2]) (by lia) ?_ ?_
   ·intro p C K2 X2 Y hX2;have Bp:=Bo p C;have p0:=Bp.1;have p1:=Bp.2.1
    wp_walk
    ·exact cpow (by lia) (by lia)
    all_goals simp only[Qq]at *
    ·rename_i y;exact Y (by rw[decide_eq_true y,decide_eq_true hc];rfl)
    ·exact hX2 (by rw[decide_eq_false hc,gO])
    ·exact hX2 (by rw[decide_eq_false hc,cf])
   ·rw[show((os.filter fun p=>decide (p.1.1<i+2 ^ g.toNat)&&decide (i<p.1.1+2 ^ p.1.2.toNat)).map fun p=>fS [prD p.1,eF p.2])=oD (os.filter fun p=>decide (p.1.1<i+2 ^ g.toNat)&&decide (i<p.1.1+2 ^ p.1.2.toNat)) from rfl]
    generalize ets:(os.filter fun p=>decide (p.1.1<i+2 ^ g.toNat)&&decide (i<p.1.1+2 ^ p.1.2.toNat))=us
    have IF:∀p∈us,p∈os:=fun p C=>by rw[<- ets]at C;exact(cH.mp C).1
    have uin:∀p∈os,p.1.1<i+2 ^ g.toNat->i<p.1.1+2 ^ p.1.2.toNat->p∈us:=fun p C y z=>by
     rw[<- ets];exact cH.mpr ⟨C,by rw[decide_eq_true y,decide_eq_true z];rfl⟩
    have lus:us.length<=64:=by
     have:=cN (fun p:(Int×Int)×Str=>decide (p.1.1<i+2 ^ g.toNat)&&decide (i<p.1.1+2 ^ p.1.2.toNat)) os
     rw[ets]at this;lia
    have ok3:∀vs:List ((Int×Int)×Str),(∀p∈vs,p∈os)->Okd (.list (oD vs)):=fun vs hv=>(zqh (k:=2) fun t ht=>by
     obtain⟨p,C,rfl⟩:=aN.mp ht;refine zl1 fun u hu=>?_
     simp only[aw,aJ,or_false]at hu;rcases hu with rfl|rfl
     ·exact zsQ
     ·exact(ZE (hm _ (e2 _ (hv p C)))).mono (by decide)).okd
    have tail:∀(I:Nat) (s':Str) (b8:Option Cell),I<=m'+2->s'∈G ->
      sIf (Uj (dOp oEq (dNew (dComp [aa "_law_one"].length [7] (dItL (dVar 9)) (Qo 0) (Uj (dOp oNe (dOp oIx (dVar 0) (dC (bR 1))) (dVar 1))) (dVar 0))) (dNew dNil))) (Y8 5 (dTup (Qm (dVar 6) (Qm (dVar 7) dNil)))) Vx { nx:=K,rt:=RT,bk:=BK,ct:=K }
       [some (.val HAND),some (.val (.int bits)),some (.val (.list (nD G))),some (.val (.int most)),some (.val (.list (oD os))),some (.own (oD J)),some (.val (.tuple [.int i,.int g])),some (.val (.str s')),b8,some (.val (.list (oD us)))] I:=by
     intro I s' b8 hm'' hs'
     wp_walk
     refine UR (cs:=us) (D:=fun p=>.tuple [prD p.1,.str p.2]) (fun p=>!decide (p.2=s')) (fun p=>.tuple [prD p.1,.str p.2]) (by lia) ?_ ?_
     ·intro p C K2 X2 Y hX2
      wp_walk
      ·exact hX2 (by rw[decide_eq_true hc];rfl)
      ·exact Y (by rw[decide_eq_false hc];rfl)
     ·wp_walk
      ·exact ok3 _ fun p C=>IF p (cH.mp C).1
      ·exact ziG
      ·rw[J3];lia
      ·rw[zoG]at hc;refine put _ _ _ _ _ s' hm'' hs' fun p C y z=>?_
       by_cases w:p.2=s'
       ·exact w
       ·exfalso;have:p∈us.filter fun p=>!decide (p.2=s'):=cH.mpr ⟨uin p C y z,by rw[decide_eq_false w];rfl⟩
        have e0:us.filter (fun p=>!decide (p.2=s'))=[]:=by simpa using hc
        rw[e0]at this;cases this
      ·exact skip _ _ _ _ _ hm''
    have nm:∀{Q:af->Prop},(∀s'∈G,Q (.str s'))->oIx (.list ((us.map fun p=>eF p.2)++[.str s])) (.int 0) Q:=fun {Q} L=>by
     cases us with
     | nil=>exact VS (L s hs)
     | cons u v=>exact VS (L u.2 (e2 u (IF u (by simp))))
    wp_walk using Uk ?_ ?_ ?_ (fun r r0 r1=>?_),tail _ _ _ ?_ ?_
    all_goals first
     | exact ok3 _ IF
     | exact ziG
     | exact hs
     | lia
     | skip
    all_goals
     refine QN (cs:=us) (D:=fun p=>.tuple [prD p.1,.str p.2]) (fun p=>.str p.2) (by lia) ?_ ?_
     ·intro p C K2 X2 Y
      wp_walk
      exact Y
     ·wp_walk using nm (fun s' hs'=>?_),tail _ _ _ ?_ ?_
      ·simp;lia
      ·lia
      ·exact hs'
  ·rintro a5 a6 a7 a8 a9 m' ⟨hm',J,rfl,sb,kn,ag⟩;rw[JA,dZ]at sb
   wp_walk
   refine h (bits,os,J) _ ⟨b0,b1,⟨by rw[e1];exact P,fun p C=>hm _ (e2 p C)⟩,⟨⟨fun b hb=>P2.1 b (sb.subset hb),P2.2.sublist sb⟩,fun q L=>hm _ (kn q L)⟩,ag⟩ rfl (by show os.length<=_;lia) ?_ ?_ ?_
   ·have:=sb.length_le;rw[aM]at this;show J.length<=_
    lia
   ·intro p C;rcases aB.mp C with z|z
    ·exact e2 p z
    ·exact kn p z
   ·rw[JA]at hm';lia
theorem Vr{a b:Int}{c:Prop}[Decidable c]{R:af->Prop}(h:∀z:Int,z=a\/z=b->R (.int z)):oIx (.list [.int a,.int b]) (.int (if decide c=true then 1 else 0)) R:=by
 by_cases hc:c
 ·rw[if_pos (decide_eq_true hc)];exact zpf (h b (.inr rfl))
 ·rw[if_neg (by simp[hc])];exact VS (h a (.inl rfl))
def ze1:GD:=fun ts n R=>∃x:Int,ts=[HAND,.int x]/\0<=x/\n<=1000000000000 - 400000/\∀(d:Deal) (v:List Str) (m:Nat),Dl d->v≠[]->v.length<=4->(∀s∈v,IsNm s)->d.2.1.length<=20->d.2.2.length<=20->m<=n+20000->R (.tuple [dlD d,.list (nD v)]) m
theorem zje{x:Int}{n:Nat}{R:qN}(k0:0<=x)(y:n<=1000000000000 - 400000)(h:∀(d:Deal) (v:List Str) (m:Nat),Dl d->v≠[]->v.length<=4->(∀s∈v,IsNm s)->d.2.1.length<=20->d.2.2.length<=20->m<=n+20000->R (.tuple [dlD d,.list (nD v)]) m):ze1 [HAND,.int x] n R:=⟨x,rfl,k0,y,h⟩
def zeJ(Z:ZZ):Prop:=FQ Z "_law_case" (top 67) ["_law_hand_here","_law_k"] 8 (spD Z.K 2 ze1)
theorem zhr(D:Dq Z.K Z.mg "_law_case" (top 67) ["_law_hand_here","_law_k"]) (Hl:zd3 Z) (Hv:zeK Z) (L:UT Z) (Hw:zeI Z) (T:Txt Z.mg):zeJ Z:=by
 refine' okQ D (fnS (N:=["_law_hand_here","_law_k","_law_bits_here","_law_names_here","_law_most"]) (by decide +kernel)) rfl fun f cdv A outer s H E v=>⟨_,(Jb (dsv 2 (ndB rfl) (JF (Vo rfl) ZR T.min Zm (Jn (dl (Je Hv v (dbv 0 Ja))) (Jn (dl (Jd (dl (Jl (JC (dbc Jg (dbc Jg Ja))))) (dl (Qb Vn VM T.int boot_int (Jn (dl (Qh Ui gp_B (dlv 1) dli (Jj _))) Jq VF))))) Jq VG) Q0))) (Jb (dsv 3 (ndB rfl) (Je Hl v (dbv 0 (dbc (JG dli (dl (Je L v (dbv 0 (dbc Jg Ja))))) Ja)))) (Jb (dsv 4 (ndB rfl) (Jd (dl (Jl (JC (dbc Jg (dbc Jg (dbc Jg (dbc Jg (dbc Jg (dbc Jg (dbc Jg (dbc Jg Ja))))))))))) (dl (Je L v (dbv 0 (dbc Jg Ja)))))) (Jb (dsv 4 (ndB rfl) (JF (zm_ rfl) zqS T.min Zm (Jn (dlv 4) (Jn (dl (Jd (dl (Jl (JC (dbc Jg (dbc Jg Ja))))) (dl (Qb Vn VM T.int boot_int (Jn (dl (Qh Ui gp_B (dlv 1) dli (Jj _))) Jq VF))))) (Jn (dl (Jd (dl (Jl (JC (dbc Jg (dbc Jg Ja))))) (dl (Qb Vn VM T.int boot_int (Jn (dl (Qh Ui gp_B (dlv 2) dli (Jj _))) Jq VF))))) Jq VG) VG) Ju))) (Jc (Jf (Jh (dbc (Je Hw v (dbv 0 (dbv 2 (dbc (zun (Jl (V6 (dlv 3) Qs (Qt (Y3 Jg)))) (Ul (Jk 3))) (dbv 4 Ja))))) (dbv 3 Ja))))))))),?_⟩
 intro ts n R hl h;obtain⟨kk,rfl,k0,hn,h⟩:=h;have ml:∀x∈[bR 5,bR 5,bR 5,bR 5,bR 5,bR 5,bR 5,bR 20],∃most:Int,x=.int most/\0<=most/\most<=20:=fun x hx=>by
  simp only[aw,aJ,or_false]at hx;rcases hx with rfl|rfl|rfl|rfl|rfl|rfl|rfl|rfl <;> exact⟨_,rfl,by decide,by decide⟩
 wp_walk using zjf ?_ (fun bits b0 b1=>?_),Uk ?_ ?_ ?_ (fun r r0 r1=>?_),zik ?_ ?_ ?_ (fun l nl C nd=>?_),Vr (fun z hz=>?_)
 all_goals first|lia|exact cpow (by lia) (by lia)|(simp;done)|skip
 all_goals
  refine ztr (by lia) (by simp;lia) fun x hx=>?_
  obtain⟨most,rfl,m0,m1⟩:=ml x hx
  wp_walk using Vr (fun y hy=>?_)
 all_goals
  rename_i G Y;have ne:l≠[]:=fun z=>by rw[z]at nl;simp at nl;lia
  have I:0<=min3 most G y/\min3 most G y<=20:=by unfold min3;lia
  have u:1<=(if z<bits then z else bits)/\(if z<bits then z else bits)<=64:=by lia
  generalize min3 most G y=mo at I ⊢;generalize (if z<bits then z else bits)=bt at u ⊢
 ·refine zfc u.1 u.2 I.1 (by lia) ne (by lia) C (by lia) fun d m D e S l2 pn hm=>?_
  wp_walk
  exact h d l m D ne (by lia) C (by lia) (by lia) (by lia)
 ·have e0:cutD (mD eF l) none (some (-1))=nD (l.take (l.length - 1)):=by
   rw[zoP,aM,<- rM];rfl
  rw[e0]at hc ⊢;have U:∀s∈l.take (l.length - 1),s∈l:=fun s J=>dD J
  refine zfc u.1 u.2 I.1 (by lia) (fun z=>by rw[z]at hc;cases hc) (by simp;lia) (fun s J=>C s (U s J)) (by lia) fun d m D e S l2 pn hm=>?_
  wp_walk
  exact h d l m D ne (by lia) C (by lia) (by lia) (by lia)
def Wo:GD:=fun ts n R=>∃(d:Deal) (nm:af),ts=[dlD d,nm]/\Dl d/\QI nm/\d.2.1.length+d.2.2.length<64/\∀gs,NR gs->(∀x,mR x gs↔Free d nm x)->gs.length<=100->R (.list (pD gs)) n
theorem zdc{d:Deal}{nm:af}{n:Nat}{R:qN}(D:Dl d)(hw:QI nm)(l:d.2.1.length+d.2.2.length<64)(h:∀gs,NR gs->(∀x,mR x gs↔Free d nm x)->gs.length<=100->R (.list (pD gs)) n):Wo [dlD d,nm] n R:=⟨d,nm,rfl,D,hw,l,h⟩
def Wx(Z:ZZ):Prop:=FQ Z "_law_gaps" (top 68) ["_law_deal_here","_law_name"] 1 (spD Z.K 2 Wo)
theorem zhp(D:Dq Z.K Z.mg "_law_gaps" (top 68) ["_law_deal_here","_law_name"]) (T:Txt Z.mg):Wx Z:=by
 refine' okQ D (fnS (N:=["_law_deal_here","_law_name","_law_taken","_law_found","_law_low","_law_begin","_law_height"]) (by decide +kernel)) rfl fun f cdv A outer s H E C=>⟨_,(Jb (dsv 2 (ndB rfl) (Jl (ze5 C T.srt (dl (Jl (Uo (dl (Jl (dnc ["_law_block_here","_law_owner"] [] (dil (Qw (Jd (dlv 0) dli))) (fun _ _ _ _=>(Jz rfl (Ji (dgv 0 (ndB rfl)) (Ji (dgv 1 (ndB rfl)) Jx)))) (fun _ _ _ _=>(Jk 0))))) (dl (Jl (dnf ["_law_block_here","_law_owner"] [1] (dil (Qw (Jd (dlv 0) dli))) (fun _ _ _ _=>(Jz rfl (Ji (dgv 0 (ndB rfl)) (Ji (dgv 1 (ndB rfl)) Jx)))) (fun _ _ _ _=>(UO (Jo (QV C) QQ (dlv 1) (dlv 2) (Jj _)))) (fun _ _ _ _=>(Jk 0)))))))) Q9))) (Jb (zq0 (i:=3) (j:=4) rfl (ndB rfl) rfl rfl (by decide) rfl rfl (JC Ja) Jg) (Jb (Ub cz rfl (QC (Jk 2)) (Jz rfl (Ji (dgv 5 (ndB rfl)) (Ji (dgv 6 (ndB rfl)) Jx))) (Jb (Jp (Jo Ui gp_B (dlv 5) (dlv 4) (Jj _)) (Jc (Qr 3 (Jh (dbv 4 (dbv 5 Ja))))) Jr) (Jc (dsv 4 (ndB rfl) (JF (Wf rfl) VN T.max Wl (Jn (dlv 4) (Jn (dl (JG (dlv 5) (dl (JR dli (dlv 6))))) Jq Q9) Ju)))))) (Jb (Jp (Jo (Qy C) Qx (dlv 4) (dl (JR dli (dl (Jd (dlv 0) dli)))) (Jj _)) (Jc (Qr 3 (Jh (dbv 4 (dbc (JR dli (dl (Jd (dlv 0) dli))) Ja))))) Jr) (UE 3 (Jc (Jf (Jk 3)))))))),?_⟩
 intro ts n R hl h;obtain⟨d,nm,rfl,D,hw,l,h⟩:=h;obtain⟨bits,os,I⟩:=d;obtain⟨b0,b1,S1,S2,ag⟩:=D;have b0:1<=bits:=b0;have b1:bits<=64:=b1;have S1:Shr bits os:=S1;have S2:Shr bits I:=S2;have l:os.length+I.length<64:=l;have hn:∀p∈I,IsNm p.2:=S2.2;have lk:=zfT (d:=(bits,os,I)) (nm:=nm);have lk:(JW (bits,os,I) nm).length<=I.length:=lk;rw[show dlD (bits,os,I)=.tuple [.int bits,.tuple (oD os),.tuple (oD I)] from rfl]
 have B:Bks bits (os.map (·.1)++JW (bits,os,I) nm):=fun b S=>by
  rcases aB.mp S with z|z
  ·exact S1.1.1 b z
  ·exact S2.1.1 b (zfS b z)
 have top:=Qz bits.toNat
 wp_walk
 refine QN (cs:=os) (D:=fun p=>.tuple [prD p.1,.str p.2]) (fun p=>prD p.1) (by lia) ?_ ?_
 ·intro p hp K2 X2 U
  wp_walk
  exact U
 wp_walk
 refine UR (cs:=I) (D:=fun p=>.tuple [prD p.1,.str p.2]) (fun p=>!who p.2 nm) (fun p=>prD p.1) (by lia) ?_ ?_
 ·intro p hp K2 X2 U hX2;rcases hw with rfl|⟨s,rfl,ns⟩
  ·wp_walk
   ·exact(ZE (hn p hp)).okd
   ·exact U rfl
  ·wp_walk
   ·exact hX2 (by show(!decide (p.2=s))=false;rw[decide_eq_true hc];rfl)
   ·exact U (by show(!decide (p.2=s))=true;rw[decide_eq_false hc];rfl)
 have e1:(os.map fun p=>prD p.1)=pD (os.map (·.1)):=by
  unfold pD;rw[cQ];rfl
 have e2:((I.filter fun p=>!who p.2 nm).map fun p=>prD p.1)=pD (JW (bits,os,I) nm):=by
  unfold pD JW;rw[cQ];rfl
 rw[e1,e2]
 wp_walk
 ·rw[JA,JA,aM];lia
 rw[VC];have ll:(os.map (·.1)++JW (bits,os,I) nm).length<64:=by rw[aK,aM];lia
 have fr:∀x,Free (bits,os,I) nm x↔0<=x/\x<2 ^ bits.toNat/\¬mB x (os.map (·.1)++JW (bits,os,I) nm):=fun x=>by
  rw[ZI];show 0<=x/\x<2 ^ bits.toNat/\¬mB x (os.map (·.1))/\¬mB x (JW (bits,os,I) nm)↔_
  constructor
  ·rintro⟨a,b,c,e⟩;exact⟨a,b,fun z=>z.elim c e⟩
  ·rintro⟨a,b,c⟩;exact⟨a,b,fun z=>c (.inl z),fun z=>c (.inr z)⟩
 generalize os.map (·.1)++JW (bits,os,I) nm=bs at B ll fr;refine zmr (.inl rfl) b1 B (by lia) fun cs pm pw=>?_
 have Bc:Bks bits cs:=fun b S=>B b (pm.mem_iff.mp S)
 have lc:=pm.length_eq;have fr:∀x,Free (bits,os,I) nm x↔0<=x/\x<2 ^ bits.toNat/\¬mB x cs:=fun x=>by rw[fr,zmd pm]
 wp_walk
 ·rfl
 refine VU 3 4 5 6 (fun k a3 a4 _ _ m=>m=n/\∃(gs:qB) (G:Int),a3=some (.own (pD gs))/\a4=some (.val (.int G))/\NR gs/\(∀x,mR x gs↔0<=x/\x<G/\¬mB x (cs.take k))/\gs.length<=k/\0<=G/\G<=2 ^ bits.toNat/\(∀b∈cs.take k,eB b<=G)/\(∀g∈gs,g.2<G)/\(∀g∈gs,∀b∈cs.drop k,g.2<=b.1)) ⟨rfl,[],0,rfl,rfl,⟨(fun r C=>nomatch C),.nil⟩,(fun x=>⟨fun z=>absurd z QT,fun z=>by lia⟩),ay _,bf _,by lia,(fun r C=>nomatch C),(fun r C=>nomatch C),fun r C=>nomatch C⟩ ?_ ?_
 ·rintro k t' a3 a4 a5 a6 m K RT BK et ⟨rfl,gs,G,rfl,rfl,Y,me,lg,be0,be1,ti,gl,dr⟩ hK hRT hBK;obtain⟨i,g,eb,rfl⟩:=Y0 et;have kl:=(av.mp eb).1;have Bb:=Bc _ (aV eb);have g0:0<=g:=Bb.1;have g1:g<=bits:=Bb.2.1;have i0:0<=i:=(Bb.bounds (by lia)).1
  have i1:i+2 ^ g.toNat<=2 ^ bits.toNat:=(Bb.bounds (by lia)).2
  have pg:=Qz g.toNat;have tk:cs.take (k+1)=cs.take k++[(i,g)]:=by rw[e8,eb];rfl
  have dk:cs.drop k=(i,g)::cs.drop (k+1):=by
   rw[cu kl];congr 1;have:=aE kl;rw[eb]at this;exact(aL this).symm
  have after:∀b∈cs.drop (k+1),i<=b.1:=fun b S=>by
   have:=(pw.sublist (iT k cs));rw[dk]at this;exact(eE.mp this).1 b S
  have m1:∀x,mB x (cs.take (k+1))↔mB x (cs.take k)\/(i<=x/\x<i+2 ^ g.toNat):=fun x=>by
   rw[tk,ZI,ziR];constructor
   ·rintro(z|z|z)
    ·exact .inl z
    ·exact .inr z
    ·exact absurd z ZJ
   ·rintro(z|z)
    ·exact .inl z
    ·exact .inr (.inl z)
  have old:∀x,G<=x->¬mB x (cs.take k):=fun x hx ⟨r,C,h1,h2⟩=>by have:=ti r C;lia
  have gb:∀x,mR x gs->x<i:=fun x ⟨r,C,h1,h2⟩=>by
   have:r.2<=i:=dr r C (i,g) (by rw[dk];simp)
   lia
  have go:∀(J:qB) (c5 c6:Option Cell) (L:Int),L=max G (i+2 ^ g.toNat)->NR J->(∀x,mR x J↔mR x gs\/(G<=x/\x<i))->J.length<=k+1->(∀g'∈J,g'.2<L)->(∀g'∈J,g'.2<=i)->K [some (.val (.tuple [.int bits,.tuple (oD os),.tuple (oD I)])),some (.val nm),some (.val (.list (pD cs))),some (.own (pD J)),some (.val (.int L)),c5,c6] m:=fun J c5 c6 L eb' n' m' l' g' g'' =>
   hK _ _ _ _ _ ⟨rfl,J,L,rfl,rfl,n',(fun x=>by
    rw[m',me,m1];have ox:=old x;have gx:=gb x;rw[me]at gx;constructor
    ·rintro(z|⟨a,b⟩)
     ·have:=gx z;obtain⟨a,b,c⟩:=z;exact⟨a,by lia,fun z=>z.elim c fun z=>by lia⟩
     ·exact⟨by lia,by lia,fun z=>z.elim (ox a) fun z=>by lia⟩
    ·rintro⟨a,b,c⟩
     by_cases y:x<G
     ·exact .inl ⟨a,y,fun z=>c (.inl z)⟩
     ·refine .inr ⟨by lia,?_⟩
      by_cases u:x<i
      ·exact u
      ·exact absurd (.inr ⟨by lia,by lia⟩) c),l',by lia,by lia,(fun r C=>by
    rw[tk]at C;rcases aB.mp C with z|z
    ·have:=ti r z;lia
    ·cases az.mp z;show i+2 ^ g.toNat<=_;lia),g',fun r C b S=>by
    have:=g'' r C;have:=after b S;lia⟩
  have mx:(if i+1*2 ^ g.toNat > G then i+1*2 ^ g.toNat else G)=max G (i+2 ^ g.toNat):=by rw[Qq];split <;> lia
  wp_walk
  ·rw[JA];lia
  ·exact cpow (by lia) (by lia)
  ·rw[UL];refine go (gs++[(G,i)]) _ _ _ mx ⟨fun r C=>?_,?_⟩ (fun x=>?_) (by simp;lia) (fun g' hg=>?_) fun g' hg=>?_
   ·rcases aB.mp C with z|z
    ·exact Y.1 r z
    ·cases az.mp z;exact hc
   ·rw[cn];exact⟨Y.2,cE _ _,fun a ha b S=>by cases az.mp S;exact gl a ha⟩
   ·rw[UK,Us];constructor
    ·rintro(z|z|z)
     ·exact .inl z
     ·exact .inr z
     ·exact absurd z QT
    ·rintro(z|z)
     ·exact .inl z
     ·exact .inr (.inl z)
   ·rw[mx];rcases aB.mp hg with z|z
    ·have:=gl g' z;lia
    ·cases az.mp z;show i<_;lia
   ·rcases aB.mp hg with z|z
    ·exact dr g' z (i,g) (by rw[dk];simp)
    ·cases az.mp z;exact bf _
  ·exact cpow (by lia) (by lia)
  ·refine go gs _ _ _ mx Y (fun x=>⟨.inl,fun z=>z.elim id fun z=>by lia⟩) (by lia) (fun g' hg=>?_) fun g' hg=>dr g' hg (i,g) (by rw[dk];simp)
   have:=gl g' hg;rw[mx];lia
 ·rintro a3 a4 a5 a6 m ⟨rfl,gs,G,rfl,rfl,Y,me,lg,be0,be1,ti,gl,dr⟩;rw[JA]at me lg ti;rw[dZ]at me ti;have old:∀x,G<=x->¬mB x cs:=fun x hx ⟨r,C,h1,h2⟩=>by have:=ti r C;lia
  wp_walk
  ·exact cpow (by lia) (by lia)
  ·exact cpow (by lia) (by lia)
  ·rw[JA];lia
  ·rw[UL,Qq]at *;refine h (gs++[(G,2 ^ bits.toNat)]) ⟨fun r C=>?_,?_⟩ (fun x=>?_) (by simp;lia)
   ·rcases aB.mp C with z|z
    ·exact Y.1 r z
    ·cases az.mp z;exact hc
   ·rw[cn];exact⟨Y.2,cE _ _,fun a ha b S=>by cases az.mp S;exact gl a ha⟩
   ·rw[UK,Us,me,fr];have ox:=old x;constructor
    ·rintro(⟨a,b,c⟩|z|z)
     ·exact⟨a,by lia,c⟩
     ·exact⟨by have:=z.1;lia,z.2,ox z.1⟩
     ·exact absurd z QT
    ·rintro⟨a,b,c⟩
     by_cases y:x<G
     ·exact .inl ⟨a,y,c⟩
     ·exact .inr (.inl ⟨by show G<=x;lia,b⟩)
  ·rw[Qq]at *;refine h gs Y (fun x=>?_) (by lia)
   rw[me,fr];constructor
   ·rintro⟨a,b,c⟩;exact⟨a,by lia,c⟩
   ·rintro⟨a,b,c⟩;exact⟨a,by lia,c⟩
def msg(c:Str):Str:=if c=aa "NoDeed" then aa "no deed" else if c=aa "NotTheirs" then aa "not theirs" else aa "no room"
def zc0:GD:=fun ts n R=>∃a b,ts=[a,b]/\ZP [a,b] n (fun _ m=>R .none m) fun c m=>c∈EXS/\R (.str (msg c)) m
theorem Zo{a b:af}{n:Nat}{R:qN}(h:ZP [a,b] n (fun _ m=>R .none m) fun c m=>c∈EXS/\R (.str (msg c)) m):zc0 [a,b] n R:=⟨a,b,rfl,h⟩
def zcW(Z:ZZ):Prop:=FQ Z "_law_refused" (top 69) ["_law_deal_here","_law_deed"] 9 (spD Z.K 2 zc0)
theorem zeO(D:Dq Z.K Z.mg "_law_refused" (top 69) ["_law_deal_here","_law_deed"]) (J:zlC Z) (x:Q3 Z.K Z.mg EXS EYS "DealError") (T:Txt Z.mg):zcW Z:=by
 refine' okQ D (fnS (N:=["_law_deal_here","_law_deed","_law_caught","e","_law_marks"]) (by decide +kernel)) rfl fun f L A outer s H E G=>⟨_,(Jb (dsv 2 (ndB rfl) Qi) (Jb (zuf (i:=2) (ie:=3) J x.under G (ndB rfl) (dbv 0 (dbv 1 Ja))) (Jb (Jp (Jo zv_ zwT (dlv 2) (dl Qi) (Jj _)) (Jc (Jf Qi)) Jr) (Jb (dsv 4 (ndB rfl) (Jl (JC (dbc (zmU x (by decide +kernel) T.isi (Jk 2) Ju) (dbc (zmU x (by decide +kernel) T.isi (Jk 2) Ju) (dbc (zmU x (by decide +kernel) T.isi (Jk 2) Ju) Ja)))))) (Jb (Jp (JY (QB (Jo (QV G) QQ (dl (zoO (dlv 4))) dli (Jj _)) (QB (JS (dl (zq6 x (by decide +kernel) (by decide +kernel) T.isi (Jk 2) Ju))) (QR (JZ (JS (dl (zuo x T.isi T.vae (Jk 2) Ju)))))))) (Jc (Jf JK)) Jr) (Jc (Jf (Jd (dl (Jl (JC (dbc JK (dbc JK (dbc JK Ja)))))) (dl (zmV (dlv 4))))))))))),?_⟩
 intro ts n R S h;obtain⟨a,b,rfl,h⟩:=h
 wp_walk
 ·rfl
 wp_walk
 refine zmc h (fun t m z=>?_) fun c m z=>⟨z.1,fun C I=>?_⟩
 ·wp_walk
  ·exact z
  ·exact absurd hc (by simp[isNone])
 ·obtain⟨u,z⟩:=z;have e:c=aa "NoDeed" \/ c=aa "NotTheirs" \/ c=aa "NoRoom":=by
   simpa[EXS] using u
  have y:(decide (c=aa "NoLine")||decide (c=aa "NoText"))=false:=by rcases e with rfl|rfl|rfl <;> decide +kernel
  change SetK 2 (some (.val (EXC C))) _ _ _
  wp_walk using isE u I ?_
  ·exact absurd hc (by simp[isNone,EXC])
  refine⟨[_,_,_],rfl,?_⟩
  wp_walk using isE u I ?_
  ·rw[y]at hc;cases hc
  ·change dVar 4 _ _ _
   wp_walk
   refine⟨[_,_,_],rfl,?_,(by simp),?_⟩
   ·rcases e with rfl|rfl|rfl <;> decide +kernel
   ·rcases e with rfl|rfl|rfl
    ·rw[show oV true [decide (aa "NoDeed" = aa "NoDeed"),decide (aa "NoDeed" = aa "NotTheirs"),decide (aa "NoDeed" = aa "NoRoom")]=0 from by decide +kernel]
     wp_walk
     exact z
    ·rw[show oV true [decide (aa "NotTheirs" = aa "NoDeed"),decide (aa "NotTheirs" = aa "NotTheirs"),decide (aa "NotTheirs" = aa "NoRoom")]=1 from by decide +kernel]
     wp_walk
     exact z
    ·rw[show oV true [decide (aa "NoRoom" = aa "NoDeed"),decide (aa "NoRoom" = aa "NotTheirs"),decide (aa "NoRoom" = aa "NoRoom")]=2 from by decide +kernel]
     wp_walk
     exact z
  ·exfalso;refine hc ?_;rcases e with rfl|rfl|rfl <;> decide +kernel
def goD:Option NP->af
 | none=>.none
 | some p=>.tuple [prD p.1,.str p.2]
def outO(os:List NP)(g:Option NP)(cs:List NP):List NP:=(os.filter fun p=>decide (some p≠g))++cs
theorem zt6{p:NP}{g:Option NP}:(fS [prD p.1,.str p.2]).eqv (goD g)=decide (some p=g):=by
 cases g with
 | none=>simp[goD,cg]
 | some q =>
  rw[dh,decide_eq_true_eq];obtain⟨⟨a,b⟩,c⟩:=p;obtain⟨⟨x,l⟩,u⟩:=q;simp[goD,prD,cg,dB,ik,and_assoc]
theorem zt5{g:Option NP}(h:∀p,g=some p->IsNm p.2):Okd (goD g):=by
 cases g with
 | none=>exact Zg
 | some q=>exact Qn (h q rfl)
theorem zti{p:NP}{g:Option NP}{R:af->Prop}(x:IsNm p.2)(y:∀p,g=some p->IsNm p.2)(h:R (.bool (decide (some p≠g)))):oNe (.tuple [prD p.1,.str p.2]) (goD g) R:=by
 have e:(!(fS [prD p.1,.str p.2]).eqv (goD g))=decide (some p≠g):=by rw[zt6];simp
 have o:=zt5 y;cases g with
 | none=>exact⟨Qn x,o,by rw[e];exact h⟩
 | some q=>exact⟨Qn x,o,by rw[e];exact h⟩
def zc8:GD:=fun ts n R=>∃(d:Deal) (g:Option NP) (cs:List NP),ts=[dlD d,goD g,.list (oD cs)]/\d.2.1.length+cs.length<64/\(∀p∈d.2.1,IsNm p.2)/\(∀p,g=some p->IsNm p.2)/\∀rs:List NP,rs.Perm (outO d.2.1 g cs)->rs.Pairwise (fun a b=>npRk rs a<=npRk rs b)->R (dlD (d.1,rs,d.2.2)) n
theorem zjd{d:Deal}(g:Option NP){cs:List NP}{n:Nat}{R:qN}(l:d.2.1.length+cs.length<64)(u:∀p∈d.2.1,IsNm p.2)(v:∀p,g=some p->IsNm p.2)(h:∀rs:List NP,rs.Perm (outO d.2.1 g cs)->rs.Pairwise (fun a b=>npRk rs a<=npRk rs b)->R (dlD (d.1,rs,d.2.2)) n):zc8 [dlD d,goD g,.list (oD cs)] n R:=⟨d,g,cs,rfl,l,u,v,h⟩
def zeF(Z:ZZ):Prop:=FQ Z "_law_outs" (top 70) ["_law_deal_here","_law_gone","_law_come"] 1 (spD Z.K 3 zc8)
theorem zhm(D:Dq Z.K Z.mg "_law_outs" (top 70) ["_law_deal_here","_law_gone","_law_come"]) (T:Txt Z.mg):zeF Z:=by
 refine' okQ D (fnS (N:=["_law_deal_here","_law_gone","_law_come"]) (by decide +kernel)) rfl fun f S A outer s H E G=>⟨_,(Jc (Jf (Jh (dbc (Jd (dlv 0) dli) (dbc (Qb QE QG T.tup Qp (Jn (dl (Jl (Wn G T.srt (dl (Jl (Uo (dl (Jl (dnf ["_law_pair"] [1] (dil (Qw (Jd (dlv 0) dli))) (fun _ _ _ _=>(dgv 0 (ndB rfl))) (fun _ _ _ _=>(UO (Jo (QV G) QQ (dlv 0) (dlv 1) (Jj _)))) (fun _ _ _ _=>(Jk 0))))) (dlv 2)))) Q9))) Jq Q0)) (dbc (Jd (dlv 0) dli) Ja)))))),?_⟩
 intro ts n R U h;obtain⟨⟨bits,os,C⟩,g,cs,rfl,l,L,I,h⟩:=h;have l:os.length+cs.length<64:=l;have e:dlD (bits,os,C)=.tuple [.int bits,.tuple (oD os),.tuple (oD C)]:=rfl;rw[e]
 wp_walk
 refine UR (cs:=os) (D:=fun p=>.tuple [prD p.1,.str p.2]) (fun p=>decide (some p≠g)) (fun p=>.tuple [prD p.1,.str p.2]) (by lia) ?_ ?_
 ·intro p J Y X2 y x
  wp_walk using zti (L p J) I ?_
  ·exact y (by simpa using hc)
  ·exact x (by simpa using hc)
 ·have lf:(os.filter fun p=>decide (some p≠g)).length<=os.length:=cN ..
  wp_walk
  ·simp only[aM,oD];lia
  refine⟨outO os g cs,?_,?_,fun v pm pw=>?_⟩
  ·simp only[oD,outO,cR]
  ·simp only[outO,aK];lia
  ·wp_walk
   exact h v pm (pw.imp fun {a b} h=>by unfold npRk at h ⊢;rw[(pm.filter _).length_eq,(pm.filter _).length_eq];exact h)
theorem zsS{rs:List L2.Run}{lo hi:Int}(N:NR rs)(h:lo<hi)(w:∀x,lo<=x->x<hi->mR x rs):∃r∈rs,r.1<=lo/\hi<=r.2:=by
 obtain⟨r,u,C,G⟩:=w lo (bf _) h;refine⟨r,u,C,?_⟩
 by_cases e:hi<=r.2
 ·exact e
 ·exfalso;obtain⟨q,y,I,J⟩:=w r.2 (by lia) (by lia)
  obtain⟨i,l,rfl⟩:=aW u;obtain⟨j,v,rfl⟩:=aW y;have pw:=aR.mp N.2;rcases cM i j with z|z|z
  ·have:=pw i j l v z;lia
  ·subst z;lia
  ·have:=pw j i v l z;have:=N.1 _ u;lia
def zcc:GD:=fun ts n R=>∃(d:Deal) (w:af) (b:Int×Int),ts=[dlD d,w,.tuple [.int b.1,.int b.2]]/\Dl d/\QI w/\IsBk d.1 b.1 b.2/\d.2.1.length+d.2.2.length<64/\∀k:Bool,(k=true↔Whl d w b)->R (.bool k) n
theorem zgL{d:Deal}{w:af}{b:Int×Int}{n:Nat}{R:qN}(D:Dl d)(hw:QI w)(B:IsBk d.1 b.1 b.2)(l:d.2.1.length+d.2.2.length<64)(h:∀k:Bool,(k=true↔Whl d w b)->R (.bool k) n):zcc [dlD d,w,.tuple [.int b.1,.int b.2]] n R:=⟨d,w,b,rfl,D,hw,B,l,h⟩
def zdj(Z:ZZ):Prop:=FQ Z "_law_wholly" (top 71) ["_law_deal_here","_law_name","_law_block_here"] 2 (spD Z.K 3 zcc)
theorem zfi(D:Dq Z.K Z.mg "_law_wholly" (top 71) ["_law_deal_here","_law_name","_law_block_here"]) (I:Wx Z) (T:Txt Z.mg):zdj Z:=by
 refine' okQ D (fnS (N:=["_law_deal_here","_law_name","_law_block_here","_law_begin","_law_end"]) (by decide +kernel)) rfl fun f L A outer s H E u=>⟨_,(Jb (Qc (Jh (dbc (Jd (dlv 2) dli) (dbc (JG (dl (Jd (dlv 2) dli)) (dl (JR dli (dl (Jd (dlv 2) dli))))) Ja))) (Jz rfl (Ji (dgv 3 (ndB rfl)) (Ji (dgv 4 (ndB rfl)) Jx)))) (Jc (Jf (JF (znc rfl) zt3 T.any znj (Jn (dl (Jl (dnc ["_law_low","_law_high"] [3,4] (dil (QC (Je I u (dbv 0 (dbv 1 Ja))))) (fun _ _ _ _=>(Jz rfl (Ji (dgv 0 (ndB rfl)) (Ji (dgv 1 (ndB rfl)) Jx)))) (fun _ _ _ _=>(Y4 (Qh Qf Qd (dlv 0) (dlv 2) (Jj _)) (Ul (Qh Qf Qd (dlv 3) (dlv 1) (Jj _)))))))) Jq Ug))))),?_⟩
 intro ts n R U h;obtain⟨d,w,b,rfl,D,hw,B,l,h⟩:=h;have b1:=D.2.1;have Y:=B.1;have g1:=B.2.1
 wp_walk using zdc D hw l (fun gs N M S=>?_)
 ·exact cpow (by lia) (by lia)
 refine QN (cs:=gs) (D:=prD) (fun r=>.bool (decide (r.1<=b.1/\eB b<=r.2))) (by lia) ?_ ?_
 ·intro r u K X v;have e:b.1+1*2 ^ b.2.toNat=eB b:=by unfold eB;rw[bP]
  rw[e]
  wp_walk
  ·rw[show decide (r.1<=b.1/\eB b<=r.2)=decide (eB b<=r.2) from by simp[hc]]at v;exact v
  ·rw[show decide (r.1<=b.1/\eB b<=r.2)=false from by simp[hc]]at v;exact v
 ·wp_walk
  refine zt0 (cs:=gs) (f:=fun r=>decide (r.1<=b.1/\eB b<=r.2)) ?_
  refine h _ ?_;rw[kc];constructor
  ·rintro⟨r,u,z⟩ x C y;obtain⟨z1,z2⟩:=of_decide_eq_true z;exact(M x).mp ⟨r,u,by lia,by lia⟩
  ·intro z;obtain⟨r,u,J,G⟩:=zsS N (QJ b) fun x C y=>(M x).mpr (z x C y)
   exact⟨r,u,decide_eq_true ⟨J,G⟩⟩
theorem VQ{b:Bool}{A B:Prop}(e:b=true)(h:A):if b=true then A else B:=by rw[if_pos e];exact h
theorem VP{b:Bool}{A B:Prop}(e:b=false)(h:B):if b=true then A else B:=by rw[if_neg (by rw[e];decide)];exact h
def greB(b:Int×Int):Int×Int:=(if bH b.1 (2 ^ b.2.toNat)<b.1 then bH b.1 (2 ^ b.2.toNat) else b.1,b.2+1)
def NT:af:=.str (aa "not theirs")
def NRm:af:=.str (aa "no room")
def zkY:GD:=fun ts n R=>∃(d:Deal) (nm:Str) (b:Int×Int),Dl d/\IsNm nm/\IsBk d.1 b.1 b.2/\d.2.1.length<=20/\d.2.2.length<=20 /\
 ((ts=[dlD d,.tuple [.str (aa "grow"),.str nm,.tuple [.int b.1,.int b.2]]]/\((b,nm)∉d.2.1->R NT n)/\((b,nm)∈d.2.1->b.2=d.1\/¬Whl d (.str nm) (othB b)->R NRm n)/\((b,nm)∈d.2.1->b.2≠d.1->Whl d (.str nm) (othB b)->∀rs:List NP,rs.Perm (outO d.2.1 (some (b,nm)) [(greB b,nm)])->rs.Pairwise (fun a b=>npRk rs a<=npRk rs b)->R (.tuple [dlD (d.1,rs,d.2.2),.tuple [.int (greB b).1,.int (greB b).2]]) n))
 \/ (ts=[dlD d,.tuple [.str (aa "keep"),.str nm,.tuple [.int b.1,.int b.2]]]/\(¬Whl d .none b->R NRm n)/\(Whl d .none b->∀rs:List NP,rs.Perm (d.2.2++[(b,nm)])->rs.Pairwise (fun a b=>npRk rs a<=npRk rs b)->R (.tuple [dlD (d.1,d.2.1,rs),.none]) n))
 \/ (ts=[dlD d,.tuple [.str (aa "loose"),.str nm,.tuple [.int b.1,.int b.2]]]/\((b,nm)∉d.2.2->R NT n)/\((b,nm)∈d.2.2->R (.tuple [dlD (d.1,d.2.1,d.2.2.filter fun p=>decide (p≠(b,nm))),.none]) n))
 \/ ∃c:Int×Int,ts=[dlD d,.tuple [.str (aa "move"),.str nm,.tuple [.int b.1,.int b.2],.tuple [.int c.1,.int c.2]]]/\IsBk d.1 c.1 c.2/\((b,nm)∉d.2.1->R NT n)/\((b,nm)∈d.2.1->¬Whl d (.str nm) c->R NRm n)/\((b,nm)∈d.2.1->Whl d (.str nm) c->∀rs:List NP,rs.Perm (outO d.2.1 (some (b,nm)) [(c,nm)])->rs.Pairwise (fun a b=>npRk rs a<=npRk rs b)->R (.tuple [dlD (d.1,rs,d.2.2),.none]) n))
def zfB(Z:ZZ):Prop:=FQ Z "_law_due" (top 72) ["_law_deal_here","_law_deed"] 3 (spD Z.K 2 zkY)
theorem ziN(D:Dq Z.K Z.mg "_law_due" (top 72) ["_law_deal_here","_law_deed"]) (E9:zeF Z) (EW:zdj Z) (T:Txt Z.mg):zfB Z:=by
 refine' okQ D (fnS (N:=["_law_deal_here","_law_deed","_law_word","_law_name","_law_block_here","_law_bits_here","_law_outs_here","_law_kept","_law_size","_law_great"]) (by decide +kernel)) rfl fun f cdv A outer s H E J=>⟨_,(Jb (Qc (Uh (dlv 1) Qs (Qt Jg)) (Jz rfl (Ji (dgv 2 (ndB rfl)) (Ji (dgv 3 (ndB rfl)) (Ji (dgv 4 (ndB rfl)) Jx))))) (Jb (Qc (Jk 0) (Jz rfl (Ji (dgv 5 (ndB rfl)) (Ji (dgv 6 (ndB rfl)) (Ji (dgv 7 (ndB rfl)) Jx))))) (Jb (Jp (JY (QB (JY (U6 (Jo (zsI J) zwU (dlv 2) (dl (Jh (dbc JK (dbc JK Ja)))) rfl) (Yc (Jo (Zn J) Zc (dl (Jh (dbv 4 (dbv 3 Ja)))) (dlv 6) rfl)))) (QR (JY (U6 (Jo (Qe J) Qa (dlv 2) (dl JK) (Jj _)) (Yc (Jo (Zn J) Zc (dl (Jh (dbv 4 (dbv 3 Ja)))) (dlv 7) rfl))))))) (Jc (Jf JK)) Jr) (Jb (Jp (Jo (Qe J) Qa (dlv 2) (dl JK) (Jj _)) (Jc (Jf (Jh (dbc (Jh (dbv 5 (dbv 6 (dbc (Qb QE QG T.tup Qp (Jn (dl (Jl (dnf ["_law_pair"] [4,3] (dil (Qw (Jk 7))) (fun _ _ _ _=>(dgv 0 (ndB rfl))) (fun _ _ _ _=>(UO (Jo (QV J) QQ (dlv 0) (dl (Jh (dbv 1 (dbv 2 Ja)))) (Jj _)))) (fun _ _ _ _=>(Jk 0))))) Jq Ug)) Ja)))) (dbc Qi Ja))))) Jr) (Jb (Jp (Jo (Qe J) Qa (dlv 2) (dl JK) (Jj _)) (Jb (Jp (JZ (JS (dl (Je EW J (dbv 0 (dbc Qi (dbv 4 Ja))))))) (Jc (Jf JK)) Jr) (Jc (Jf (Jh (dbc (Jh (dbv 5 (dbv 6 (dbc (Qb QE QG T.tup Qp (Jn (dl (Jl (Wn J T.srt (dl (JG (dlv 7) (dl (Jh (dbc (Jh (dbv 4 (dbv 3 Ja))) Ja))))) Q9))) Jq Q0)) Ja)))) (dbc Qi Ja)))))) Jr) (Jb (Jp (Jo (Qe J) Qa (dlv 2) (dl JK) (Jj _)) (Jb (Jp (JZ (JS (dl (Je EW J (dbv 0 (dbv 3 (dbc (Jd (dlv 1) dli) Ja))))))) (Jc (Jf JK)) Jr) (Jc (Jf (Jh (dbc (Je E9 J (dbv 0 (dbc (Jh (dbv 4 (dbv 3 Ja))) (dbc (Jl (JC (dbc (Jh (dbc (Jd (dlv 1) dli) (dbv 3 Ja))) Ja))) Ja)))) (dbc Qi Ja)))))) Jr) (Jb (dsv 8 (ndB rfl) (JR dli (dl (Jd (dlv 4) dli)))) (Jb (Jp (JY (QB (Jo (Qe J) Qa (dl (Jd (dlv 4) dli)) (dlv 5) (Jj _)) (QR (JZ (JS (dl (Je EW J (dbv 0 (dbv 3 (dbc (Jh (dbc (ZY (dl (Jd (dlv 4) dli)) (dlv 8)) (dbc (Jd (dlv 4) dli) Ja))) Ja)))))))))) (Jc (Jf JK)) Jr) (Jb (dsv 9 (ndB rfl) (Jh (dbc (JF (Vo rfl) ZR T.min Zm (Jn (dl (Jd (dlv 4) dli)) (Jn (dl (ZY (dl (Jd (dlv 4) dli)) (dlv 8))) Jq Q9) VG)) (dbc (JG (dl (Jd (dlv 4) dli)) dli) Ja)))) (Jc (Jf (Jh (dbc (Je E9 J (dbv 0 (dbc (Jh (dbv 4 (dbv 3 Ja))) (dbc (Jl (JC (dbc (Jh (dbv 9 (dbv 3 Ja))) Ja))) Ja)))) (dbv 9 Ja)))))))))))))),?_⟩
 intro ts n R hl h;obtain⟨d,nm,b,D,Y,B,l1,l2,h⟩:=h;have hw:QI (.str nm):=.inr ⟨nm,rfl,Y⟩;have I:∀p∈d.2.1,IsNm p.2:=fun p hp=>(D.o p hp).2.2
 have G:∀p∈d.2.2,IsNm p.2:=fun p hp=>(D.k p hp).2.2
 have wh:∀{w:af} {c:Int×Int} {n:Nat} {R:qN},QI w->IsBk d.1 c.1 c.2->(∀k:Bool,(k=true↔Whl d w c)->R (.bool k) n)->zcc [dlD d,w,.tuple [.int c.1,.int c.2]] n R:=fun {w c n R} hw C z=>zgL D hw C (by lia) z
 have ou:∀{c:Int×Int} {n:Nat} {R:qN},(∀rs:List NP,rs.Perm (outO d.2.1 (some (b,nm)) [(c,nm)])->rs.Pairwise (fun a b=>npRk rs a<=npRk rs b)->R (dlD (d.1,rs,d.2.2)) n)->zc8 [dlD d,.tuple [.tuple [.int b.1,.int b.2],.str nm],.list [.tuple [.tuple [.int c.1,.int c.2],.str nm]]] n R:=fun {c n R} z=>zjd (d:=d) (some (b,nm)) (cs:=[(c,nm)]) (by simp;lia) I (fun p e=>by cases e;exact Y) z
 have b0:=D.1;have b1:=D.2.1;have g0:=B.1;have g1:=B.2.1;obtain⟨bits,os,U⟩:=d;have I:∀p∈os,IsNm p.2:=I;have G:∀p∈U,IsNm p.2:=G;have l1:os.length<=20:=l1;have l2:U.length<=20:=l2;rw[show dlD (bits,os,U)=.tuple [.int bits,.tuple (oD os),.tuple (oD U)] from rfl]at *
 have Ir:∀t∈[eF (aa "grow"),eF (aa "move")],Okd t:=fun t ht=>by
  simp only[aw,aJ,or_false]at ht;rcases ht with rfl|rfl <;> exact⟨by decide +kernel,by decide +kernel⟩
 rcases h with⟨rfl,k1,k2,k3⟩|⟨rfl,k1,k2⟩|⟨rfl,k1,k2⟩|⟨c,rfl,C,k1,k2,k3⟩
 ·wp_walk
  rw[show cutD [.str (aa "grow"),.str nm,.tuple [.int b.1,.int b.2]] none (some 3)=[.str (aa "grow"),.str nm,.tuple [.int b.1,.int b.2]] from rfl]
  wp_walk using VQ (by decide +kernel) ?_,VP (by decide +kernel) ?_
  all_goals first
   | exact Qn (p:=(b,nm)) Y
   | exact QU I
   | exact QU G
   | exact Ir
   | exact⟨by decide +kernel,by decide +kernel⟩
   | skip
  ·exact cpow (by lia) (by lia)
  ·rename_i L;rw[Qv (p:=(b,nm))]at L;exact k2 (by simpa using L) (.inl hc)
  ·rename_i L;rw[Qv (p:=(b,nm))]at L;have L:(b,nm)∈os:=by simpa using L
   have ne:b.2≠bits:=hc;rw[bP];refine wh (c:=othB b) hw (B.oth (by show b.2<bits;lia)) fun kk S=>?_
   wp_walk
   ·refine ou (c:=greB b) fun rs pm pw=>?_
    wp_walk
    exact k3 L ne (S.mp hc) rs pm pw
   ·exact k2 L (.inr fun z=>by rw[S.mpr z]at hc;cases hc)
  ·rw[Qv (p:=(b,nm))]at hc;exact k1 (by simpa using hc)
 ·wp_walk
  rw[show cutD [.str (aa "keep"),.str nm,.tuple [.int b.1,.int b.2]] none (some 3)=[.str (aa "keep"),.str nm,.tuple [.int b.1,.int b.2]] from rfl]
  wp_walk using VQ (by decide +kernel) ?_,VP (by decide +kernel) ?_
  all_goals first
   | exact Qn (p:=(b,nm)) Y
   | exact QU I
   | exact QU G
   | exact Ir
   | exact⟨by decide +kernel,by decide +kernel⟩
   | skip
  refine wh (c:=b) (.inl rfl) B fun kk S=>?_
  wp_walk
  ·rw[J3];show _+1<=_;lia
  ·refine⟨U++[(b,nm)],by unfold oD;rw[cR];rfl,by rw[aK];show _+1<_;lia,fun rs' pm pw=>?_⟩
   wp_walk
   exact k2 (S.mp hc) rs' pm (pw.imp fun {a b} h=>by unfold npRk at h ⊢;rw[(pm.filter _).length_eq,(pm.filter _).length_eq];exact h)
  ·exact k1 fun z=>by rw[S.mpr z]at hc;cases hc
 ·wp_walk
  rw[show cutD [.str (aa "loose"),.str nm,.tuple [.int b.1,.int b.2]] none (some 3)=[.str (aa "loose"),.str nm,.tuple [.int b.1,.int b.2]] from rfl]
  wp_walk using VQ (by decide +kernel) ?_,VP (by decide +kernel) ?_
  all_goals first
   | exact Qn (p:=(b,nm)) Y
   | exact QU I
   | exact QU G
   | exact Ir
   | exact⟨by decide +kernel,by decide +kernel⟩
   | skip
  ·rw[Qv (p:=(b,nm))]at hc;have L:(b,nm)∈U:=by simpa using hc
   refine UR (cs:=U) (D:=fun p=>.tuple [prD p.1,.str p.2]) (fun p=>decide (p≠(b,nm))) (fun p=>.tuple [prD p.1,.str p.2]) (by lia) ?_ ?_
   ·intro p hp K2 X2 hK2 hX2;have e:(fS [prD p.1,.str p.2]).eqv (.tuple [.tuple [.int b.1,.int b.2],.str nm])=decide (p=(b,nm)):=by
     rw[dh,decide_eq_true_eq];obtain⟨⟨x,y⟩,z⟩:=p;obtain⟨u,v⟩:=b;simp[prD,cg,dB,ik,and_assoc]
    wp_walk
    ·exact Qn (G p hp)
    ·exact Qn (p:=(b,nm)) Y
    ·rw[e]at hc;first|exact hK2 (by simpa using hc)|exact hX2 (by simpa using hc)
    ·rw[e]at hc;first|exact hX2 (by simpa using hc)|exact hK2 (by simpa using hc)
   ·wp_walk
    exact k2 L
  ·rw[Qv (p:=(b,nm))]at hc;exact k1 (by simpa using hc)
 ·wp_walk
  rw[show cutD [.str (aa "move"),.str nm,.tuple [.int b.1,.int b.2],.tuple [.int c.1,.int c.2]] none (some 3)=[.str (aa "move"),.str nm,.tuple [.int b.1,.int b.2]] from rfl]
  wp_walk using VQ (by decide +kernel) ?_,VP (by decide +kernel) ?_
  all_goals first
   | exact Qn (p:=(b,nm)) Y
   | exact QU I
   | exact QU G
   | exact Ir
   | exact⟨by decide +kernel,by decide +kernel⟩
   | skip
  ·rw[Qv (p:=(b,nm))]at hc;have L:(b,nm)∈os:=by simpa using hc
   refine Zt (k:=3) rfl rfl ?_
   wp_walk
   refine wh (c:=c) hw C fun kk S=>?_
   wp_walk
   ·refine Zt (k:=3) rfl rfl ?_
    wp_walk
    refine ou (c:=c) fun rs pm pw=>?_
    wp_walk
    exact k3 L (S.mp hc) rs pm pw
   ·exact k2 L fun z=>by rw[S.mpr z]at hc;cases hc
  ·rw[Qv (p:=(b,nm))]at hc;exact k1 (by simpa using hc)
theorem zsT{bits x:Int}{os:List NP}(S:Shr bits os){p q:NP}(u:p∈os)(v:q∈os)(C:p.1.1<=x)(p2:x<eB p.1)(y:q.1.1<=x)(G:x<eB q.1):p=q:=by
 have P:=S.1;obtain⟨i,hi,rfl⟩:=aW u;obtain⟨j,l,rfl⟩:=aW v;have pw:=aR.mp P.2;rcases cM i j with z|z|z
 ·have:=pw i j (by simpa using hi) (by simpa using l) z;simp only[nB]at this;lia
 ·subst z;rfl
 ·have:=pw j i (by simpa using l) (by simpa using hi) z;simp only[nB]at this;lia
theorem zpo{bits:Int}{os:List NP}(S:Shr bits os){p:NP}(u:p∈os){cs:BL}:exO os p.2 [p.1] cs=outO os (some p) (cs.map fun b=>(b,p.2)):=by
 unfold exO outO;congr 1;refine List.filter_congr fun q v=>?_
 rw[decide_eq_decide];have l:=QJ p.1;constructor
 ·intro h e;cases e;exact h (by simp)
 ·intro h e;have e:q.1=p.1:=by simpa using e
  exact h (by rw[zsT S v u (x:=p.1.1) (by rw[e];lia) (by rw[e];exact l) (by lia) l])
theorem ziV{bits:Int}{b:Int×Int}(B:IsBk bits b.1 b.2):joiB b=greB b:=by
 have x4:=B.x4;obtain⟨h0,v,k,k0,e,k1⟩:=B;have x:=UB b.2.toNat;have l:(b.2+1).toNat=b.2.toNat+1:=by lia
 unfold joiB greB;rw[x4,l,bS,e];generalize (2:Int) ^ b.2.toNat=p at *;rw[fX _ (by lia),<- Int.ediv_ediv_of_nonneg (by lia),fX _ (by lia)]
 congr 1;have u:=kQ k 2;rw[cD p 2,<- dR,cD (k / 2) 2]
 by_cases z:k % 2=0
 ·rw[if_pos z,if_neg (by lia)]
  congr 1;lia
 ·rw[if_neg z,if_pos (by lia),show 2*(k / 2)=k - 1 by lia,nH,bP]
theorem zlR{os rs:List NP}{p q:NP}(pm:rs.Perm (outO os (some p) [q]))(l:os.length<=20):rs.length<=21:=by
 have z:=pm.length_eq;unfold outO at z;rw[aK]at z;have z:rs.length=_+1:=z;have:=cN (fun q=>decide (some q≠some p)) os
 lia
def ZF(d:Deal)(nm:Str)(b:Int×Int)(t:af):Prop:=t=.tuple [.str (aa "grow"),.str nm,.tuple [.int b.1,.int b.2]]\/t=.tuple [.str (aa "keep"),.str nm,.tuple [.int b.1,.int b.2]]\/t=.tuple [.str (aa "loose"),.str nm,.tuple [.int b.1,.int b.2]]\/∃c:Int×Int,t=.tuple [.str (aa "move"),.str nm,.tuple [.int b.1,.int b.2],.tuple [.int c.1,.int c.2]]/\IsBk d.1 c.1 c.2/\b.2=c.2
def Wu:GD:=fun ts n R=>∃(d:Deal) (nm:Str) (b:Int×Int) (t:af),ts=[dlD d,t]/\Dl d/\IsNm nm/\IsBk d.1 b.1 b.2/\d.2.1.length<=20/\d.2.2.length<=20/\ZF d nm b t/\R (.bool true) n
theorem zij{d:Deal}{nm:Str}{b:Int×Int}{t:af}{n:Nat}{R:qN}(D:Dl d)(v:IsNm nm)(B:IsBk d.1 b.1 b.2)(u:d.2.1.length<=20)(l2:d.2.2.length<=20)(h:ZF d nm b t)(k:R (.bool true) n):Wu [dlD d,t] n R:=⟨d,nm,b,t,rfl,D,v,B,u,l2,h,k⟩
theorem VD{d:Deal}{z:af}(v:1<=d.1)(I:d.1<=64)(G:∀p∈d.2.1,Nb p)(y:d.2.1.length<=21)(C:∀p∈d.2.2,Nb p)(l2:d.2.2.length<=21)(x:Sm 282 1 z):Shd (.tuple [dlD d,z]):=(zo3 (zvt v I G y C l2) (x.mono (by decide) (by decide))).shd (by decide) (by decide)
def zd1(Z:ZZ):Prop:=FQ Z "_law_right" (top 73) ["_law_deal_here","_law_deed"] 10 (spD Z.K 2 Wu)
theorem zgp(D:Dq Z.K Z.mg "_law_right" (top 73) ["_law_deal_here","_law_deed"]) (HB:zfB Z) (E8:zcW Z) (HI:zlC Z) (T:Txt Z.mg):zd1 Z:=by
 refine' okQ D (fnS (N:=["_law_deal_here","_law_deed","_law_due_here"]) (by decide +kernel)) rfl fun f cdv A outer s H E L=>⟨_,(Jb (dsv 2 (ndB rfl) (Je HB L (dbv 0 (dbv 1 Ja)))) (Jb (Jp (JS (dl (U7 zmB T.isi T.str zfd (dlv 2) Ju))) (Jc (Jf (Qh (Qe L) Qa (dl (Je E8 L (dbv 0 (dbv 1 Ja)))) (dlv 2) (Jj _)))) Jr) (Jc (Jf (Qh (Qe L) Qa (dl (JF (zf4 L) zmE T.rep zf6 (Jn (dl (Je (FQX.nox HI) L (dbv 0 (dbv 1 Ja)))) Jq Q0))) (dl (JF (zf4 L) zmE T.rep zf6 (Jn (dlv 2) Jq Ju))) (Jj _)))))),?_⟩
 intro ts n R hl h;obtain⟨d,nm,b,t,rfl,D,v,B,U,l2,h,k⟩:=h;have J:msg (aa "NotTheirs")=aa "not theirs":=by decide +kernel
 have S:msg (aa "NoRoom")=aa "no room":=by decide +kernel
 rcases h with rfl|rfl|rfl|⟨c,rfl,C,e⟩
 ·wp_walk
  refine⟨d,nm,b,D,v,B,U,l2,.inl ⟨rfl,fun no=>?_,fun hi nw=>?_,fun hi nb hw rs pm pw=>?_⟩⟩
  ·unfold NT
   wp_walk
   refine Zo ⟨d,nm,b,D,v,B,.inl ⟨rfl,d,_,nm,b,rfl,D,v,B,by lia,by lia,fun _=>⟨by decide +kernel,?_⟩,fun z=>absurd z no,fun z=>absurd z no⟩⟩
   rw[J]
   wp_walk
   simpa using k
  ·unfold NRm
   wp_walk
   refine Zo ⟨d,nm,b,D,v,B,.inl ⟨rfl,d,_,nm,b,rfl,D,v,B,by lia,by lia,fun z=>absurd hi z,fun _ _=>⟨by decide +kernel,?_⟩,fun _ z1 z2=>absurd nw fun z=>z.elim z1 fun z=>z z2⟩⟩
   rw[S]
   wp_walk
   simpa using k
  ·wp_walk
   refine⟨d,nm,b,D,v,B,.inl ⟨rfl,d,_,nm,b,rfl,D,v,B,by lia,by lia,fun z=>absurd hi z,fun _ z=>absurd z fun z=>z.elim nb fun z=>z hw,fun _ _ _ Y x y=>?_⟩⟩
   rw[ziV B,zpo (p:=(b,nm)) D.2.2.1 hi]at x;cases ziP pm x pw y;rw[ziV B];have G:IsBk d.1 (greB b).1 (greB b).2:=by rw[<- ziV B];exact(zrm B (by have:=B.2.1;lia)).1
   have Nq:=ZD (p:=(greB b,nm)) D.1 D.2.1 G v;have I:Shd (.tuple [dlD (d.1,rs,d.2.2),.tuple [.int (greB b).1,.int (greB b).2]]):=VD D.1 D.2.1 (fun q hq=>by
    rcases aB.mp (pm.mem_iff.mp hq) with z|z
    ·exact D.o q (cH.mp z).1
    ·cases az.mp z;exact Nq) (zlR pm U) D.k (by show d.2.2.length<=21;lia) (zlj Nq.1 Nq.2.1)
   wp_walk
   ·exact I
   ·exact I
   ·rw[decide_eq_true rfl];exact k
 ·wp_walk
  refine⟨d,nm,b,D,v,B,U,l2,.inr (.inl ⟨rfl,fun nw=>?_,fun hw rs pm pw=>?_⟩)⟩
  ·unfold NRm
   wp_walk
   refine Zo ⟨d,nm,b,D,v,B,.inr (.inl ⟨rfl,d,_,nm,b,rfl,D,v,B,by lia,by lia,fun _=>⟨by decide +kernel,?_⟩,fun z=>absurd z nw⟩)⟩
   rw[S]
   wp_walk
   simpa using k
  ·wp_walk
   refine⟨d,nm,b,D,v,B,.inr (.inl ⟨rfl,d,_,nm,b,rfl,D,v,B,by lia,by lia,fun z=>absurd hw z,fun _ Y x y=>?_⟩)⟩
   cases ziP pm x pw y;have lr:rs.length<=21:=by have z:=pm.length_eq;rw[aK]at z;have z:rs.length=d.2.2.length+1:=z;lia
   have I:Shd (.tuple [dlD (d.1,d.2.1,rs),.none]):=VD D.1 D.2.1 D.o (by show d.2.1.length<=21;lia) (fun p hp=>by
    rcases aB.mp (pm.mem_iff.mp hp) with z|z
    ·exact D.k p z
    ·cases az.mp z;exact ZD D.1 D.2.1 B v) lr (ziA.mono (by decide) (by decide))
   wp_walk
   ·exact I
   ·exact I
   ·rw[decide_eq_true rfl];exact k
 ·wp_walk
  refine⟨d,nm,b,D,v,B,U,l2,.inr (.inr (.inl ⟨rfl,fun nm'=>?_,fun hm=>?_⟩))⟩
  ·unfold NT
   wp_walk
   refine Zo ⟨d,nm,b,D,v,B,.inr (.inr (.inl ⟨rfl,d,_,nm,b,rfl,D,v,by lia,fun _=>⟨by decide +kernel,?_⟩,fun z=>absurd z nm'⟩))⟩
   rw[J]
   wp_walk
   simpa using k
  ·wp_walk
   refine⟨d,nm,b,D,v,B,.inr (.inr (.inl ⟨rfl,d,_,nm,b,rfl,D,v,by lia,fun z=>absurd hm z,fun _=>?_⟩))⟩
   have lf:=cN (fun p=>decide (p≠(b,nm))) d.2.2
   have I:Shd (.tuple [dlD (d.1,d.2.1,d.2.2.filter fun p=>decide (p≠(b,nm))),.none]):=VD D.1 D.2.1 D.o (by show d.2.1.length<=21;lia) (fun p hp=>D.k p (cH.mp hp).1) (by show(d.2.2.filter _).length<=21;lia) (ziA.mono (by decide) (by decide))
   wp_walk
   ·exact I
   ·exact I
   ·rw[decide_eq_true rfl];exact k
 ·wp_walk
  refine⟨d,nm,b,D,v,B,U,l2,.inr (.inr (.inr ⟨c,rfl,C,fun no=>?_,fun hi nw=>?_,fun hi hw rs pm pw=>?_⟩))⟩
  ·unfold NT
   wp_walk
   refine Zo ⟨d,nm,b,D,v,B,.inr (.inr (.inr ⟨c,rfl,C,e,d,_,nm,b,c,rfl,D,v,C,by lia,by lia,fun _=>⟨by decide +kernel,?_⟩,fun z=>absurd z no,fun z=>absurd z no⟩))⟩
   rw[J]
   wp_walk
   simpa using k
  ·unfold NRm
   wp_walk
   refine Zo ⟨d,nm,b,D,v,B,.inr (.inr (.inr ⟨c,rfl,C,e,d,_,nm,b,c,rfl,D,v,C,by lia,by lia,fun z=>absurd hi z,fun _ _=>⟨by decide +kernel,?_⟩,fun _ z=>absurd z nw⟩))⟩
   rw[S]
   wp_walk
   simpa using k
  ·wp_walk
   refine⟨d,nm,b,D,v,B,.inr (.inr (.inr ⟨c,rfl,C,e,d,_,nm,b,c,rfl,D,v,C,by lia,by lia,fun z=>absurd hi z,fun _ z=>absurd hw z,fun _ _ Y x y=>?_⟩))⟩
   rw[zpo (p:=(b,nm)) D.2.2.1 hi]at x;cases ziP pm x pw y;have I:Shd (.tuple [dlD (d.1,rs,d.2.2),.none]):=VD D.1 D.2.1 (fun q hq=>by
    rcases aB.mp (pm.mem_iff.mp hq) with z|z
    ·exact D.o q (cH.mp z).1
    ·cases az.mp z;exact ZD D.1 D.2.1 C v) (zlR pm U) D.k (by show d.2.2.length<=21;lia) (ziA.mono (by decide) (by decide))
   wp_walk
   ·exact I
   ·exact I
   ·rw[decide_eq_true rfl];exact k
theorem zi_{ts:qD}{k:Nat}:cutD ts none (some (k:Int))=ts.take k:=by
 unfold cutD;rw[HT.zeg,HT.ziB];simp[kP]
theorem zwZ{bits h k:Int}(h0:0<=h)(l:h<=bits)(k0:0<=k)(k1:k*2 ^ h.toNat+2 ^ h.toNat<=2 ^ bits.toNat):IsBk bits (k*2 ^ h.toNat) h:=by
 refine⟨h0,l,k,k0,rfl,?_⟩;have p:=UB h.toNat;have e:(2:Int) ^ bits.toNat=2 ^ (bits - h).toNat*2 ^ h.toNat:=by rw[<- fe];congr 1;lia
 refine Int.lt_of_not_ge fun z=>?_
 have:=cJ z (eM p);lia
theorem zpl{d:Deal}{nm:af}{gs:List L2.Run}(N:NR gs)(h:∀x,mR x gs↔Free d nm x){g:L2.Run}(l:g∈gs):0<=g.1/\g.1<g.2/\g.2<=2 ^ d.1.toNat:=by
 have lt:=N.1 g l;have a:=(h g.1).mp ⟨g,l,by lia,lt⟩
 have b:=(h (g.2 - 1)).mp ⟨g,l,by lia,by lia⟩
 have:=a.1;have:=b.2.1;lia
def Wt:GD:=fun ts n R=>∃(d:Deal) (nm:Str) (b:Int×Int),ts=[HAND,dlD d,.str nm,.tuple [.int b.1,.int b.2]]/\Dl d/\IsNm nm/\IsBk d.1 b.1 b.2/\d.2.1.length+d.2.2.length<64/\n<=1000000000000 - 100/\∀cs:BL,cs.length<=6->(∀c∈cs,IsBk d.1 c.1 c.2/\b.2=c.2)->R (.list (pD cs)) (n+1)
theorem zil{d:Deal}{nm:Str}{b:Int×Int}{n:Nat}{R:qN}(D:Dl d)(v:IsNm nm)(B:IsBk d.1 b.1 b.2)(l:d.2.1.length+d.2.2.length<64)(l2:n<=1000000000000 - 100)(h:∀cs:BL,cs.length<=6->(∀c∈cs,IsBk d.1 c.1 c.2/\b.2=c.2)->R (.list (pD cs)) (n+1)):Wt [HAND,dlD d,.str nm,.tuple [.int b.1,.int b.2]] n R:=⟨d,nm,b,rfl,D,v,B,l,l2,h⟩
def zd4(Z:ZZ):Prop:=FQ Z "_law_goals" (top 74) ["_law_hand_here","_law_deal_here","_law_name","_law_block_here"] 2 (spD Z.K 4 Wt)
theorem zgs(D:Dq Z.K Z.mg "_law_goals" (top 74) ["_law_hand_here","_law_deal_here","_law_name","_law_block_here"]) (EO:Wx Z) (EK:UT Z) (T:Txt Z.mg):zd4 Z:=by
 refine' okQ D (fnS (N:=["_law_hand_here","_law_deal_here","_law_name","_law_block_here","_law_size","_law_found","_law_low","_law_high","_law_first"]) (by decide +kernel)) rfl fun f cdv A outer s H E I=>⟨_,(Jb (dsv 4 (ndB rfl) (JR dli (dl (Jd (dlv 3) dli)))) (Jb (UJ (i:=5) (ndB rfl) rfl (dE rfl) (JC (dbv 3 (dbc (Jh (dbc (Y2 (dl (Je EK I (dbv 0 (dbc (VX (dl (JR dli (dl (Jd (dlv 1) dli)))) (dlv 4)) Ja)))) (dlv 4)) (dbc (Jd (dlv 3) dli) Ja))) Ja)))) (Jb (Jp (Jo (Qy I) Qx (dl (Jd (dlv 3) dli)) (dl (Jd (dlv 1) dli)) (Jj _)) (Jc (Qr 5 (Jh (dbc (ZY (dl (Jd (dlv 3) dli)) (dlv 4)) (dbc (Jd (dlv 3) dli) Ja))))) Jr) (Jb (Ub cz rfl (QC (Jl (V6 (dl (Je EO I (dbv 1 (dbv 2 Ja)))) Qs (Qt Jg)))) (Jz rfl (Ji (dgv 6 (ndB rfl)) (Ji (dgv 7 (ndB rfl)) Jx))) (Jb (dsv 8 (ndB rfl) (Y2 (dl (VX (dl (Um (dl (JG (dlv 6) (dlv 4))) dli)) (dlv 4))) (dlv 4))) (Jc (Jp (Jo Qf Qd (dl (JG (dlv 8) (dlv 4))) (dlv 7) (Jj _)) (Jc (Qr 5 (Jh (dbv 8 (dbc (Jd (dlv 3) dli) Ja))))) Jr)))) (UE 5 (Jc (Jf (Jk 5)))))))),?_⟩
 intro ts n R hl h;obtain⟨⟨bits,os,y⟩,nm,b,rfl,D,hn,B,l,l2,h⟩:=h;have b0:1<=bits:=D.1;have b1:bits<=64:=D.2.1;have B:IsBk bits b.1 b.2:=B;have Y:=B.1;have g1:=B.2.1;have pb:=UB b.2.toNat;have p64:=Ww (k:=bits.toNat) (by lia)
 have pm:(2:Int) ^ bits.toNat=2 ^ (bits - b.2).toNat*2 ^ b.2.toNat:=by rw[<- fe];congr 1;lia
 have h:∀cs:BL,cs.length<=6->(∀c∈cs,IsBk bits c.1 c.2/\b.2=c.2)->R (.list (pD cs)) (n+1):=h;have lg:∀{n:Nat} {R:qN},(∀gs:List L2.Run,(∀g∈gs,0<=g.1/\g.1<g.2/\g.2<=2 ^ bits.toNat)->gs.length<=100->R (.list (pD gs)) n)->Wo [.tuple [.int bits,.tuple (oD os),.tuple (oD y)],.str nm] n R:=fun {n R} z=>zdc (d:=(bits,os,y)) D (.inr ⟨nm,rfl,hn⟩) l fun gs N hx l3=>z gs (fun g J=>zpl (d:=(bits,os,y)) N hx J) l3
 rw[show dlD (bits,os,y)=.tuple [.int bits,.tuple (oD os),.tuple (oD y)] from rfl]
 have dv:(1:Int)*2 ^ bits.toNat / (1*2 ^ b.2.toNat)=2 ^ (bits - b.2).toNat:=by rw[bP,bP,pm];exact fX _ (by lia)
 have pp:=UB (bits - b.2).toNat;have p65:=Ww (k:=(bits - b.2).toNat) (by lia)
 have p66:=Ww (k:=b.2.toNat) (by lia)
 wp_walk using Uk ?_ ?_ ?_ (fun r r0 r1=>?_),lg (fun gs G lg3=>?_)
 ·exact cpow (by lia) (by lia)
 ·exact cpow (by lia) (by lia)
 ·exact⟨by lia,by lia⟩
 ·lia
 ·lia
 ·lia
 ·exact .inl ⟨by lia,by lia⟩
 ·show 2<16777216;decide
 all_goals
  rw[dv]at r1;have L:IsBk bits (r*(1*2 ^ b.2.toNat)) b.2:=by rw[bP];exact⟨Y,g1,r,r0,rfl,r1⟩
  rw[show cutD (pD gs) none (some 3)=(pD gs).take 3 from zi_ (k:=3)]
  refine VU 5 6 7 8 (fun j C _ _ _ m=>m=n+1/\∃cs:BL,C=some (.own (pD cs))/\cs.length<=3+j/\∀c∈cs,IsBk bits c.1 c.2/\b.2=c.2) ?_ ?_ ?_
  ·have i2:∀c∈[b,(r*(1*2 ^ b.2.toNat),b.2)],IsBk bits c.1 c.2/\b.2=c.2:=fun c x=>by
    simp only[aw,aJ,or_false]at x;rcases x with rfl|rfl
    ·exact⟨B,rfl⟩
    ·exact⟨L,rfl⟩
   have i3:b.2<bits->∀c∈[b,(r*(1*2 ^ b.2.toNat),b.2),(bH b.1 (1*2 ^ b.2.toNat),b.2)],IsBk bits c.1 c.2/\b.2=c.2:=fun hb c x=>by
    simp only[aw,aJ,or_false]at x;rcases x with rfl|rfl|rfl
    ·exact⟨B,rfl⟩
    ·exact⟨L,rfl⟩
    ·exact⟨by rw[bP];exact B.oth hb,rfl⟩
   first|exact⟨rfl,[b,(r*(1*2 ^ b.2.toNat),b.2),(bH b.1 (1*2 ^ b.2.toNat),b.2)],rfl,by simp,i3 (by assumption)⟩|exact⟨rfl,[b,(r*(1*2 ^ b.2.toNat),b.2)],rfl,by simp,i2⟩
  ·rintro j t C a6 a7 a8 m K RT BK et ⟨rfl,cs,rfl,S,v⟩ hK hRT hBK;have jl:=(av.mp et).1;rw[cU]at jl;obtain⟨g,J,rfl⟩:=aN.mp (dD (aV et));obtain⟨x0,x1,x2⟩:=G g J;have U:0<=(g.1+1*2 ^ b.2.toNat - 1) / (1*2 ^ b.2.toNat):=kL (by lia) (by lia)
   have q1:(g.1+1*2 ^ b.2.toNat - 1) / (1*2 ^ b.2.toNat)<g.1+1:=by
    refine kR (by lia) ?_
    have:=cm (show 1<=1*(2:Int) ^ b.2.toNat by lia) x0
    rw[eN];lia
   wp_walk
   ·exact⟨by lia,by lia⟩
   ·exact .inl ⟨by lia,by lia⟩
   ·rw[JA];lia
   ·refine hK _ _ _ _ _ ⟨rfl,cs++[(_,b.2)],by rw[<- VC];rfl,by rw[aK];show cs.length+1<=_;lia,fun c x=>?_⟩
    rcases aB.mp x with z|z
    ·exact v c z
    ·cases az.mp z;rw[bP]at hc U ⊢;exact⟨zwZ Y g1 U (by lia),rfl⟩
   ·exact hK _ _ _ _ _ ⟨rfl,cs,rfl,by lia,v⟩
  ·rintro C a6 a7 a8 m ⟨rfl,cs,rfl,S,v⟩
   wp_walk
   exact h cs (by rw[cU]at S;lia) v
def Okn(bits:Int)(p:NP):Prop:=IsBk bits p.1.1 p.1.2/\IsNm p.2
theorem YZ{a b:List NP}:oD (a++b)=oD a++oD b:=by unfold oD;exact cR
theorem zqk{a:List NP}{k:Nat}:(oD a).take k=oD (a.take k):=by unfold oD;rw[rM]
theorem zm1{os:List NP}{y:Int}(v:0<=y):∃l:List NP,cutD (oD os) none (some y)=oD l/\l.length<=y.toNat/\∀q∈l,q∈os:=by
 refine⟨os.take y.toNat,?_,by rw[cU];lia,fun q u=>dD u⟩
 have e:=zi_ (ts:=oD os) (k:=y.toNat);rw[lK v]at e;rw[e,zqk]
theorem zsP{f:ak}{fd:cK}(D:Def Z.K Z.mg "law" (top 75) ["_law_script"] f fd) (Hx:zeH Z) (Hy:zeJ Z) (EO:Wx Z) (EM:Wv Z) (EL:US Z) (Hm:zd4 Z) (Ho:zd1 Z) (T:Txt Z.mg):FnOk Z.P Z.w Z.K Z.mg Z.base CX0 11 f fd ["_law_script"] (spD Z.K 1 zt7):=by
 refine D.okD (fnS (N:=["_law_script","_law_k","_law_hand_here","_law_deal_here","_law_names_here","_law_wide","_law_some","_law_low","_law_high","_law_block_here","_law_name","_law_deeds"]) (by decide +kernel)) rfl fun cdv A outer s H E hr=>?_
 refine'⟨_,(Jb (Ub cz rfl (ze6 T.ran (JF (Wf rfl) VN T.max Wl (Jn dli (Jn (dl (JF (Vo rfl) ZR T.min Zm (Jn dli (Jn (dl (JF Uc Q6 T.len Q1 (Jn (dlv 0) Jq Ju))) Jq Q0) zlg))) Jq Q0) zlg))) (dgv 1 (ndB rfl)) (zmN (i:=2) (j:=1) Hx hr (ndB rfl) rfl (tq rfl) (Jb (Qc (Je Hy hr (dbv 2 (dbv 1 Ja))) (Jz rfl (Ji (dgv 3 (ndB rfl)) (Ji (dgv 4 (ndB rfl)) Jx)))) (Jb (dsv 5 (ndB rfl) (Qb Vn VM T.int boot_int (Jn (dl (Qh Ui gp_B (dl (Jd (dlv 3) dli)) dli (Jj _))) Jq VF))) (Jb (Ve (Vf (i:=6) (ndB rfl) rfl (dE rfl) (own:=["_law_name"]) (capt:=[2,3]) rfl (JJ.of rfl) (dil (QC (Jl (V6 (dlv 4) (Qt (Jd (dl (Jl (JC (dbc Jg (dbc (Y3 Jg) Ja))))) (dlv 5))) Qs)))) (fun _ _ _ _=>(dgv 0 (ndB rfl))) (by decide) (fun _ _ _ _=>Y5) (fun _ _ _ _=>(Jh (dbc (Je EM hr (dbv 1 (dbc (Jd (dlv 2) dli) Ja))) (dbv 0 Ja)))))) (Jb (dsv 6 (ndB rfl) (Jl (Uo (dlv 6) (dl (Jl (zmO T.lst (dl (JG (dl (Uh (dl (Jd (dlv 3) dli)) Qs (Qt (Jd (dl (Jl (JC (dbc Jg (dbc Jg Ja))))) (dlv 5))))) (dl (Uh (dl (Jd (dlv 3) dli)) Qs (Qt (Jd (dl (Jl (JC (dbc Jg (dbc Jg Ja))))) (dlv 5))))))) Q9)))))) (Jb (dsv 6 (ndB rfl) (Jl (Uo (dlv 6) (dl (Jl (dnc ["_law_block_here","_law_name"] [2,4] (dil (Qw (Uh (dl (Jd (dlv 3) dli)) Qs (Qt Jg)))) (fun _ _ _ _=>(Jz rfl (Ji (dgv 0 (ndB rfl)) (Ji (dgv 1 (ndB rfl)) Jx)))) (fun _ _ _ _=>(Jh (dbv 0 (dbc (Je EL hr (dbv 2 (dbv 3 Ja))) Ja)))))))))) (Jb (Ub cz rfl (QC (Jl (V6 (dl (Je EO hr (dbv 3 (dbc Qi Ja)))) Qs (Qt Jg)))) (Jz rfl (Ji (dgv 7 (ndB rfl)) (Ji (dgv 8 (ndB rfl)) Jx))) (Jc (dsv 6 (ndB rfl) (Jl (Uo (dlv 6) (dl (Jl (JC (dbc (Jh (dbc (Jh (dbv 7 (dbc Jg Ja))) (dbc (Je EL hr (dbv 2 (dbv 4 Ja))) Ja))) (dbc (Jh (dbc (Jh (dbc (Um (dlv 8) dli) (dbc Jg Ja))) (dbc (Jd (dlv 4) dli) Ja))) Ja)))))))))) (Jc (Ub cz rfl (QC (Jk 6)) (Jz rfl (Ji (dgv 9 (ndB rfl)) (Ji (dgv 10 (ndB rfl)) Jx))) (Jb (Ve (Vf (i:=11) (ndB rfl) rfl (dE rfl) (own:=["_law_word"]) (capt:=[10,9]) rfl (JJ.of rfl) (dil (Qw (Jh (dbc JK (dbc JK (dbc JK Ja)))))) (fun _ _ _ _=>(dgv 0 (ndB rfl))) (by decide) (fun _ _ _ _=>Y5) (fun _ _ _ _=>(Jh (dbv 0 (dbv 1 (dbv 2 Ja))))))) (Jb (dsv 11 (ndB rfl) (Jl (Uo (dlv 11) (dl (Jl (dnc ["_law_goal"] [10,9] (dil (QC (Je Hm hr (dbv 2 (dbv 3 (dbv 10 (dbv 9 Ja))))))) (fun _ _ _ _=>(dgv 0 (ndB rfl))) (fun _ _ _ _=>(Jh (dbc JK (dbv 1 (dbv 2 (dbv 0 Ja)))))))))))) (Jc (Jp (JZ (JS (dl (JF (We rfl) VL T.all Wj (Jn (dl (Jl (dnc ["_law_deed"] [3] (dil (QC (Jk 11))) (fun _ _ _ _=>(dgv 0 (ndB rfl))) (fun _ _ _ _=>(Je Ho hr (dbv 1 (dbv 0 Ja))))))) Jq Ug))))) (Jc (Jf Q4)) Jr)))))))))))))) (Jc (Jf Q4))),?_⟩
 intro ts n R hl hh;obtain⟨ns,rfl,hl63,hh⟩:=hh
 wp_walk
 ·split <;> (try split) <;> lia
 ·split <;> (try split) <;> lia
 refine Zb (fun _ ρ m=>∃a1 a2 a3 a4 a5 a6 a7 a8 a9 a10 a11,ρ=[some (.val (SCR ns)),a1,a2,a3,a4,a5,a6,a7,a8,a9,a10,a11]/\m=n) ⟨_,_,_,_,_,_,_,_,_,_,_,rfl,rfl⟩ ?_ ?_
 ·rintro k t ρ m K et ⟨a1,a2,a3,a4,a5,a6,a7,a8,a9,a10,a11,rfl,rfl⟩ hK;obtain⟨hk,rfl⟩:=zfy et;have hk8:k<8:=by
   revert hk;split <;> (try split) <;> lia
  with_reducible refine Stp.go ?_
  refine zow hl63 (by lia) (by lia) fun NX RT BK CT hNX hRT hBK hCT=>?_
  wp_walk using zje ?_ ?_ (fun d J m3 D ne ln nk l1 l2 hm3=>?_)
  ·lia
  ·lia
  have rt:∀{p:NP} {t:af} {n:Nat} {R:qN},Okn d.1 p->ZF d p.2 p.1 t->R (.bool true) n->Wu [dlD d,t] n R:=fun {p t n R} h h2 z=>zij D h.2 h.1 l1 l2 h2 z
  have lgo:∀{p:NP} {n:Nat} {R:qN},Okn d.1 p->n<=1000000000000 - 100->(∀cs:BL,cs.length<=6->(∀c∈cs,IsBk d.1 c.1 c.2/\p.1.2=c.2)->R (.list (pD cs)) (n+1))->Wt [HAND,dlD d,.str p.2,.tuple [.int p.1.1,.int p.1.2]] n R:=fun {p n R} h l z=>zil D h.2 h.1 (by lia) l z
  have oo:∀p∈d.2.1,Okn d.1 p:=fun p I=>⟨D.2.2.1.1.1 _ (aN.mpr ⟨p,I,rfl⟩),(D.o p I).2.2⟩
  have ok:∀p∈d.2.2,Okn d.1 p:=fun p I=>⟨D.2.2.2.1.1.1 _ (aN.mpr ⟨p,I,rfl⟩),(D.k p I).2.2⟩
  obtain⟨bits,os,Y⟩:=d;have b0:1<=bits:=D.1;have b1:bits<=64:=D.2.1;have rt:∀{p:NP} {t:af} {n:Nat} {R:qN},Okn bits p->ZF (bits,os,Y) p.2 p.1 t->R (.bool true) n->Wu [dlD (bits,os,Y),t] n R:=rt;have lgo:∀{p:NP} {n:Nat} {R:qN},Okn bits p->n<=1000000000000 - 100->(∀cs:BL,cs.length<=6->(∀c∈cs,IsBk bits c.1 c.2/\p.1.2=c.2)->R (.list (pD cs)) (n+1))->Wt [HAND,dlD (bits,os,Y),.str p.2,.tuple [.int p.1.1,.int p.1.2]] n R:=lgo
  have lg:∀{n:Nat} {R:qN},(∀gs:List L2.Run,(∀g∈gs,0<=g.1/\g.1<g.2/\g.2<=2 ^ bits.toNat)->gs.length<=100->R (.list (pD gs)) n)->Wo [dlD (bits,os,Y),.none] n R:=fun {n R} z=>zdc (d:=(bits,os,Y)) D (.inl rfl) (by show os.length+Y.length<64;have l1:os.length<=20:=l1;have l2:Y.length<=20:=l2;lia) fun gs N hx l3=>z gs (fun g hg=>zpl (d:=(bits,os,Y)) N hx hg) l3
  have oo:∀p∈os,Okn bits p:=oo;have ok:∀p∈Y,Okn bits p:=ok;have l1:os.length<=20:=l1;have l2:Y.length<=20:=l2;rw[show dlD (bits,os,Y)=.tuple [.int bits,.tuple (oD os),.tuple (oD Y)] from rfl]at *
  wp_walk using Vr (fun z hz=>?_)
  have ws:∀t∈cutD (nD J) (some z) none,∃nm∈J,t=.str nm:=fun t ht=>by
   obtain⟨s,hs,rfl⟩:=aN.mp (zoQ ht);exact⟨s,hs,rfl⟩
  have wl:(cutD (nD J) (some z) none).length<=4:=bY zoR (by rw[zl6];exact ln)
  generalize cutD (nD J) (some z) none=us at ws wl;refine ZV (fun j L m=>m=m3+3*j/\∃ps:List NP,L=oD ps/\ps.length=j/\∀p∈ps,Okn bits p) ⟨rfl,[],rfl,rfl,by simp⟩ ?_ ?_
  ·rintro j x L m K2 ex ⟨rfl,ps,rfl,lp,C⟩ S;have jl:=(av.mp ex).1;obtain⟨s,hs,rfl⟩:=ws x (aV ex)
   wp_walk using zcE b0 b1 ?_ (fun i g B=>?_)
   ·lia
   ·rw[J3];lia
   ·exact S _ _ ⟨by lia,ps++[((i,g),s)],by rw[YZ];rfl,by simp[lp],fun p I=>by
     rcases aB.mp I with z|z
     ·exact C p z
     ·cases az.mp z;exact⟨B,nk s hs⟩⟩
  ·rintro L m ⟨rfl,ps,rfl,lp,C⟩;have hm4:m3+3*us.length<=30000:=by lia
   generalize m3+3*us.length=m4 at *
   wp_walk using Vr (fun y hy=>?_)
   all_goals
    rename_i y' hy';have y0:0<=y/\y<=5:=by rcases hy with rfl|rfl <;> decide
    have y0':0<=y'/\y'<=5:=by rcases hy' with rfl|rfl <;> decide
    obtain⟨qs,eq,lq,hq⟩:=zm1 (os:=os) y0'.1;obtain⟨qs2,eq2,lq2,hq2⟩:=zm1 (os:=Y) y0.1;rw[eq,eq2]
   ·rw[J3,J3];lia
   ·rw[aK,J3,J3,J3];lia
   obtain⟨qs3,eq3,lq3,hq3⟩:=zm1 (os:=os) (y:=2) (by decide)
   rw[eq3,<- YZ,<- YZ];obtain⟨ps2,U⟩:∃ps2:List NP,ps2=ps++(qs++qs2):=⟨_,rfl⟩;rw[<- U];have lp2:ps2.length<=14:=by rw[U,aK,aK];lia
   have hps2:∀p∈ps2,Okn bits p:=fun p I=>by
    rw[U]at I;rcases aB.mp I with z|z
    ·exact C p z
    ·rcases aB.mp z with z|z
     ·exact oo p (hq p z)
     ·exact ok p (hq2 p z)
   clear U eq eq2 eq3;refine ZV (fun j L m=>m=m4+j/\∃ps:List NP,L=oD ps/\ps.length=j/\∀p∈ps,Okn bits p) ⟨rfl,[],rfl,rfl,by simp⟩ ?_ ?_
   ·rintro j x L m K2 ex ⟨rfl,ps,rfl,lp,C⟩ S;have jl:=(av.mp ex).1;rw[J3]at jl;obtain⟨q,hq,rfl⟩:=aN.mp (aV ex)
    wp_walk using Yh ?_ ?_ ?_ (fun x hx=>?_)
    ·cases J with|nil=>exact absurd rfl ne|cons a l=>simp[nD]
    ·rw[zl6];lia
    ·lia
    ·rw[J3];lia
    ·obtain⟨s,hs,rfl⟩:=aN.mp hx;exact S _ _ ⟨by lia,ps++[(q.1,s)],by rw[YZ];rfl,by simp[lp],fun p I=>by
      rcases aB.mp I with z|z
      ·exact C p z
      ·cases az.mp z;exact⟨(oo q (hq3 q hq)).1,nk s hs⟩⟩
   ·rintro L m ⟨rfl,ps3,rfl,lp3,hps3⟩;rw[J3]at *;have hm5:m4+qs3.length<=40000:=by have:qs3.length<=2:=lq3;lia
    generalize m4+qs3.length=m5 at *
    wp_walk using lg (fun gs G lg3=>?_)
    ·rw[J3,J3];lia
    rw[show cutD (pD gs) none (some 2)=(pD gs).take 2 from zi_ (k:=2),<- YZ]
    obtain⟨s0,r0,rfl⟩:∃s r,J=s::r:=by
     cases J with
     | nil=>exact absurd rfl ne
     | cons s r=>exact⟨s,r,rfl⟩
    refine zpn 6 7 8 (fun j a6 _ _ m=>m=m5+j/\∃ps:List NP,a6=some (.val (.list (oD ps)))/\ps.length<=16+2*j/\∀p∈ps,Okn bits p) ⟨rfl,ps2++ps3,rfl,by rw[aK];lia,fun p I=>(aB.mp I).elim (hps2 p) (hps3 p)⟩ ?_ ?_
    ·rintro j t a6 a7 a8 m K2 RT2 BK2 et2 ⟨rfl,ps,rfl,lp,C⟩ S hRT2 hBK2;have jl:=(av.mp et2).1;rw[cU]at jl;obtain⟨g,hg,rfl⟩:=aN.mp (dD (aV et2));obtain⟨x0,x1,x2⟩:=G g hg;rw[show nD (s0::r0)=.str s0::nD r0 from rfl]at *
     wp_walk using Yh ?_ ?_ ?_ (fun x hx=>?_)
     ·simp
     ·rw[aO,zl6];rw[aO]at ln;lia
     ·lia
     ·rw[J3];show ps.length+2<=_;lia
     ·obtain⟨s,hs,rfl⟩:=aN.mp (show x∈nD (s0::r0) from hx)
      exact S _ _ _ _ ⟨by lia,ps++[((g.1,0),s),((g.2 - 1,0),s0)],by rw[YZ];rfl,by rw[aK];show ps.length+2<=_;lia,fun p I=>by
       rcases aB.mp I with z|z
       ·exact C p z
       ·simp only[aw,aJ,or_false]at z;rcases z with rfl|rfl
        ·exact⟨zjK (by lia) ⟨x0,by show g.1<_;lia⟩,nk s hs⟩
        ·exact⟨zjK (by lia) ⟨by show 0<=g.2 - 1;lia,by show g.2 - 1<_;lia⟩,nk s0 (.head _)⟩⟩
    ·rintro a6 a7 a8 m ⟨rfl,ps,rfl,lp,C⟩;have lt:=List.length_take_le 2 (pD gs);generalize ((pD gs).take 2).length=j2 at *
     wp_walk
     refine zpn 9 10 11 (fun j _ _ _ m=>m=m5+j2+j) rfl ?_ ?_
     ·rintro j t a9 a10 a11 m' K2 RT2 BK2 et2 rfl S hRT2 hBK2;have jl:=(av.mp et2).1;rw[J3]at jl;obtain⟨p,I,rfl⟩:=aN.mp (aV et2);have O:=C p I
      wp_walk
      refine QN (cs:=[aa "grow",aa "keep",aa "loose"]) (D:=eF) (fun w=>.tuple [.str w,.str p.2,.tuple [.int p.1.1,.int p.1.2]]) (by decide) ?_ ?_
      ·intro w hw K4 X4 hK4
       wp_walk
       exact hK4
      ·wp_walk using lgo O ?_ (fun cs lc hcs=>?_)
       ·lia
       refine QN (cs:=cs) (D:=prD) (fun c=>.tuple [.str (aa "move"),.str p.2,.tuple [.int p.1.1,.int p.1.2],.tuple [.int c.1,.int c.2]]) (by lia) ?_ ?_
       ·intro c hm K4 X4 hK4
        wp_walk
        exact hK4
       ·wp_walk
        ·rw[aM,aM];show 3+cs.length<=_;lia
        refine zk2 (fun _=>.bool true) (by rw[aK,aM,aM];show 3+cs.length<=_;lia) ?_ ?_
        ·intro u hu K4 X4 hK4;have du:ZF (bits,os,Y) p.2 p.1 u:=by
          rcases aB.mp hu with z|z
          ·obtain⟨w,hw,rfl⟩:=aN.mp z;simp only[aw,aJ,or_false]at hw;rcases hw with rfl|rfl|rfl
           ·exact .inl rfl
           ·exact .inr (.inl rfl)
           ·exact .inr (.inr (.inl rfl))
          ·obtain⟨c,hm,rfl⟩:=aN.mp z;exact .inr (.inr (.inr ⟨c,rfl,(hcs c hm).1,(hcs c hm).2⟩))
         wp_walk using rt O du ?_
         exact hK4
        ·wp_walk using VO (f:=fun _=>true) ?_
         ·exact S _ _ _ _ (by lia)
         ·exact absurd hc (by simp)
     ·rintro a9 a10 a11 m' rfl
      wp_walk
      exact hNX _ _ (hK _ _ ⟨_,_,_,_,_,_,_,_,_,_,_,rfl,rfl⟩)
 ·rintro ρ m ⟨a1,a2,a3,a4,a5,a6,a7,a8,a9,a10,a11,rfl,rfl⟩
  wp_walk
  exact hh _
end
section
open PySem.W PyProof.Rows
theorem zuy{HP:mQ->Option ah}{mg mb:qM}{h:aS}{w:aU}{fa:ak}(T0:g6 qv (looseW qv [aa "DEEDS",aa "PARTS"]) HP mg mb h) (L:mg (defName (top 75))=some (.ref fa)) (XT:TupsAre TL mg h) (XD:DctsAre PL FL mg h) (YD:HshOk DL w h) (XE:ExcsAre EXS EYS (aa "DealError") mg h) :
  ∃fd:cK,(∀(s:au) (v:ah),oh s fd ⟨[v],[]⟩ [("_law_script",v)])/\∀base:aS,(JI h).In base->base.Ns mainGlobals mg->FnOk PySem.Challenge.rw_blockdeal_k29_grown_kept_moved.prog w (JI h) mg base CX0 11 fa fd ["_law_script"] (zpz (JI h)):=by
 have T:=zrA T0;have HL:StD PySem.Challenge.rw_blockdeal_k29_grown_kept_moved.prog w (JI h) mg (aa "PARTS") Yb:=XD.st YD T0.g (by repeat (first|exact .head _|refine .tail _ ?_)) (by repeat (first|exact .head _|refine .tail _ ?_)) (by decide +kernel)
 have HX:StF PySem.Challenge.rw_blockdeal_k29_grown_kept_moved.prog w (JI h) mg (aa "DEEDS") ["take","near","give","grow","keep","loose","move"]:=XD.sf YD T0.g (by repeat (first|exact .head _|refine .tail _ ?_)) (by repeat (first|exact .head _|refine .tail _ ?_)) (by decide +kernel)
 have HR:OwnE (JI h) mg (aa "NoDeed"):=zp5 T0 (by kernel_rfl)
 have S:OwnE (JI h) mg (aa "NoRoom"):=zp5 T0 (by kernel_rfl)
 have J:OwnE (JI h) mg (aa "NotTheirs"):=zp5 T0 (by kernel_rfl)
 have HK:Q3 (JI h) mg EXS EYS (aa "DealError"):=XE.ok;obtain⟨f,fd,DL⟩:=dq_g (x:="law") (ps:=["_law_script"]) T0 (zpe (i:=75) (by kernel_rfl)) (by kernel_rfl) fun _ _ _ _ _ _ us hl=>by obtain⟨_,rfl⟩:=len1 hl;rfl
 have e0:b5 f=b5 fa:=aL (DL.m.symm.trans L);cases e0;refine⟨fd,fun s v=>?_,fun base _ _=>?_⟩
 ·obtain⟨oc,od,kV,doc,pm,an,cdv,ct,osl,rfl,_,_⟩:=DL.F.ex;exact .of_eq rfl
 let Z:ZZ:=⟨PySem.Challenge.rw_blockdeal_k29_grown_kept_moved.prog,w,JI h,mg,base⟩
 have Y:=ziJ (Z:=Z) (dqG (i:=1) T0 (bnd1 fun _ _ _ _ _ _ _=>rfl))  T
 have HA:=ziK (Z:=Z) (dqG (i:=2) T0 (bnd2 fun _ _ _ _ _ _ _ _=>rfl)) Y T
 have HD:=zkr (Z:=Z) (dqG (i:=3) T0 (bnd1 fun _ _ _ _ _ _ _=>rfl))  T
 have He:=zl0 (Z:=Z) (dqG (i:=5) T0 (bnd2 fun _ _ _ _ _ _ _ _=>rfl))  T
 have HV:=zn_ (Z:=Z) (dqG (i:=4) T0 (bnd2 fun _ _ _ _ _ _ _ _=>rfl)) He T
 have Hk:=zgk (Z:=Z) (dqG (i:=6) T0 (bnd1 fun _ _ _ _ _ _ _=>rfl))  T
 have HF:=zkv (Z:=Z) (dqG (i:=8) T0 (bnd1 fun _ _ _ _ _ _ _=>rfl))  T
 have C:=zlZ (Z:=Z) (dqG (i:=18) T0 (bnd1 fun _ _ _ _ _ _ _=>rfl)) HD T
 have E3:=zdn (Z:=Z) (dqG (i:=19) T0 (bnd2 fun _ _ _ _ _ _ _ _=>rfl))  T
 have Ia:=zqb (Z:=Z) (dqG (i:=11) T0 (bnd2 fun _ _ _ _ _ _ _ _=>rfl)) C E3 T
 have E5:=ziI (Z:=Z) (dqG (i:=20) T0 (bnd1 fun _ _ _ _ _ _ _=>rfl)) Ia T
 have E7:=zks (Z:=Z) (dqG (i:=21) T0 (bnd1 fun _ _ _ _ _ _ _=>rfl)) C T
 have HQ:=zlY (Z:=Z) (dqG (i:=10) T0 (bnd1 fun _ _ _ _ _ _ _=>rfl)) E5 E7 T
 have Hg:=zgm (Z:=Z) (dqG (i:=22) T0 (bnd2 fun _ _ _ _ _ _ _ _=>rfl))  T
 have HE:=zkt (Z:=Z) (dqG (i:=12) T0 (bnd2 fun _ _ _ _ _ _ _ _=>rfl)) E5 Hg E7 T
 have Hz:=ziM (Z:=Z) (dqG (i:=17) T0 (bnd2 fun _ _ _ _ _ _ _ _=>rfl)) C T
 have Hh:=zgn (Z:=Z) (dqG (i:=14) T0 (bnd2 fun _ _ _ _ _ _ _ _=>rfl)) Hz T
 have Hb:=zfh (Z:=Z) (dqG (i:=15) T0 (bnd2 fun _ _ _ _ _ _ _ _=>rfl)) Hh HV T
 have U:=zkx (Z:=Z) (dqG (i:=16) T0 (bnd2 fun _ _ _ _ _ _ _ _=>rfl)) Hb T
 have Hi:=zgo (Z:=Z) (dqG (i:=26) T0 (bnd1 fun _ _ _ _ _ _ _=>rfl))  T
 have Hs:=zhh (Z:=Z) (dqG (i:=28) T0 (bnd2 fun _ _ _ _ _ _ _ _=>rfl))  T
 have N:=ziL (Z:=Z) (dqG (i:=25) T0 (bnd2 fun _ _ _ _ _ _ _ _=>rfl)) HE HQ Hi Hs T
 have Ht:=zhi (Z:=Z) (dqG (i:=33) T0 (bnd2 fun _ _ _ _ _ _ _ _=>rfl)) Y T
 have Hj:=zgl (Z:=Z) (dqG (i:=34) T0 (bnd2 fun _ _ _ _ _ _ _ _=>rfl)) Y T
 have HG:=zku (Z:=Z) (dqG (i:=32) T0 (bnd3 fun _ _ _ _ _ _ _ _ _=>rfl)) HA Ht Hj T
 have HH:=zkw (Z:=Z) (dqG (i:=31) T0 (bnd2 fun _ _ _ _ _ _ _ _=>rfl)) HF HG HL T
 have EY:=zhj (Z:=Z) (dqG (i:=55) T0 (bnd4 fun _ _ _ _ _ _ _ _ _ _=>rfl))  T
 have Ib:=zqe (Z:=Z) (dqG (i:=46) T0 (bnd2 fun _ _ _ _ _ _ _ _=>rfl)) He EY U N Hk S J T
 have Ic:=zqd (Z:=Z) (dqG (i:=47) T0 (bnd2 fun _ _ _ _ _ _ _ _=>rfl)) U N S T
 have HW:=zn9 (Z:=Z) (dqG (i:=48) T0 (bnd2 fun _ _ _ _ _ _ _ _=>rfl)) J T
 have Ie:=zqc (Z:=Z) (dqG (i:=49) T0 (bnd2 fun _ _ _ _ _ _ _ _=>rfl)) U EY N S J T
 have HI:=zqf (Z:=Z) (dqG (i:=51) T0 (bnd2 fun _ _ _ _ _ _ _ _=>rfl)) Ib Ic HW Ie HH HR HX T
 have Hx:=zgj (Z:=Z) (dqG (i:=57) T0 (bnd2 fun _ _ _ _ _ _ _ _=>rfl))  T
 have u:=zgi (Z:=Z) (dqG (i:=58) T0 (bnd2 fun _ _ _ _ _ _ _ _=>rfl))  T
 have y:=zhl (Z:=Z) (dqG (i:=59) T0 (bnd2 fun _ _ _ _ _ _ _ _=>rfl)) u T
 have Hv:=zhs (Z:=Z) (dqG (i:=60) T0 (bnd1 fun _ _ _ _ _ _ _=>rfl)) y T
 have R:=zgt (Z:=Z) (dqG (i:=61) T0 (bnd2 fun _ _ _ _ _ _ _ _=>rfl)) y u T
 have Hu:=zhn (Z:=Z) (dqG (i:=62) T0 (bnd3 fun _ _ _ _ _ _ _ _ _=>rfl)) y R T
 have Hc:=zfj (Z:=Z) (dqG (i:=63) T0 (bnd3 fun _ _ _ _ _ _ _ _ _=>rfl)) u R Hu y T
 have E6:=zgq (Z:=Z) (dqG (i:=64) T0 (bnd3 fun _ _ _ _ _ _ _ _ _=>rfl)) Hc T
 have Hl:=zgr (Z:=Z) (dqG (i:=65) T0 (bnd2 fun _ _ _ _ _ _ _ _=>rfl)) u y T
 have Hw:=zhq (Z:=Z) (dqG (i:=66) T0 (bnd4 fun _ _ _ _ _ _ _ _ _ _=>rfl)) E6 y u T
 have Hy:=zhr (Z:=Z) (dqG (i:=67) T0 (bnd2 fun _ _ _ _ _ _ _ _=>rfl)) Hl Hv u Hw T
 have G:=zhp (Z:=Z) (dqG (i:=68) T0 (bnd2 fun _ _ _ _ _ _ _ _=>rfl))  T
 have E8:=zeO (Z:=Z) (dqG (i:=69) T0 (bnd2 fun _ _ _ _ _ _ _ _=>rfl)) HI HK T
 have E9:=zhm (Z:=Z) (dqG (i:=70) T0 (bnd3 fun _ _ _ _ _ _ _ _ _=>rfl))  T
 have EW:=zfi (Z:=Z) (dqG (i:=71) T0 (bnd3 fun _ _ _ _ _ _ _ _ _=>rfl)) G T
 have HB:=ziN (Z:=Z) (dqG (i:=72) T0 (bnd2 fun _ _ _ _ _ _ _ _=>rfl)) E9 EW T
 have Ho:=zgp (Z:=Z) (dqG (i:=73) T0 (bnd2 fun _ _ _ _ _ _ _ _=>rfl)) HB E8 HI T
 have Hm:=zgs (Z:=Z) (dqG (i:=74) T0 (bnd4 fun _ _ _ _ _ _ _ _ _ _=>rfl)) G u T
 exact(zsP (Z:=Z) DL Hx Hy G R y Hm Ho T).imp zqw
end
end Bd
open PySem PySem.W PyProof.Rows
set_option maxRecDepth 100000 in
set_option maxHeartbeats 0 in
theorem PySem.Challenge.cw_blockdeal_k29_grown_kept_moved_holds : PySem.Challenge.rw_blockdeal_k29_grown_kept_moved.Holds := by
 w_on
 refine holds_law Bd.zpC fun l=>?_
 refine holds_open (r:=PySem.Challenge.rw_blockdeal_k29_grown_kept_moved.row) (d:=Bd.recD (Bd.top 75)) (kwd:=[]) Bd.zqu (YP:=Bd.HshOk Bd.DL) Bd.zt1 Bd.zoA (XP:=fun mg h=>XL Bd.qv [] mg h/\Bd.TupsAre Bd.TL mg h/\Bd.DctsAre Bd.PL Bd.FL mg h/\Bd.ExcsAre Bd.EXS Bd.EYS (aa "DealError") mg h) (fun s e=>⟨xl_of s (ba.mp (ba.mp (ba.mp (ba.mp e).1).1).1).1,Bd.zrB (ba.mp (ba.mp (ba.mp e).1).1).2,Bd.zus (ba.mp (ba.mp e).1).2,Bd.zuc (ba.mp e).2⟩) (fun mg h h' x k=>⟨XL.keeps mg h h' x.1 k,x.2.1.keeps k,x.2.2.1.keeps k,x.2.2.2.keeps k⟩) (by kernel_rfl) (by kernel_rfl) (by kernel_rfl) (fun s e=>recFacts_of (ba.mp (ba.mp (ba.mp (ba.mp e).1).1).1).2) (by kernel_rfl) l (by kernel_rfl) ⟨rfl,rfl,rfl,rfl,rfl,by decide +kernel⟩ ?hw ?hc
 case hw=>w_witness2
 case hc=>exact Bd.zvg (lw:=PySem.Challenge.rw_blockdeal_k29_grown_kept_moved) (k:=11) (by decide) rfl rfl fun w s₀ mg y v h G Y u=>Bd.zuy G.T u G.X.2.1 G.X.2.2.1 Y G.X.2.2.2
