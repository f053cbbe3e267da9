import PyProof.Rows.All
import Wide.All
import OpenK.AllK
import Wide.FinOn
import Lean
import PyProof.EqAt
import PyProof.EqKinds
import PyProof.TupleCall
import PySem.Challenge.RW_blockdeal_k32_papers_spoilt
open PySem renaming wpAny_bind->aa,PyData->ae,Value->ah,wpAny_pure->aj,Addr->au,Shared->aw,Program->aQ,Expr->aZ,Heap->bq,Around->br,World->bz,wpAny_newObj_type->bS,wpAny_holding->cf,wpAny_truthy_bool->ck,Paired->cw,wpAny_field->cI,wpAny_seqItems->cX,wpAny_rule->dw,wpAny_standAt->dE,FuncData->dJ,wpAny_callSpecial?_slot->dM,wpAny_mono->eu,wpAny_call_entry->eC,wpAny_typeOf->eG,wpAny_pyIter_list->eN,Stmt->eS,NameKind->fh,wpAny_setField_rec->fq,wpAny_passesOwn->fv,codeAny_builtin->fz,Scope->fA,wpAny_comprehension_free->fG,mem_of_lookup->fK,Builtin->gm,wpAny_letGo->h6,wpAny_tryCatch->iA,IsTupleKey->iJ,wpAny_updateSeq_pair->iQ,wpAny_execs_nil->iS,wpAny_pyIter_tuple->kj,wpAny_Call_Name_kw->kA,IsPart->kD,wpAny_assign_Name->kU,wpAny_sequenceKey->kX,wpAny_of_eq->k6,Result->lh,Builtin->ly,wpAny_newList->lA,wpAny_onRaise->lB,plainId_quiet->lD,noFill_tuple_add->lE,wpAny_pyNext_list_item->lQ,codeAny_mono->lR,codeAny_loop->lW,codeAny_compStart_list->lX,IsPair->mh,wpAny_updateSeq->mI,wpAny_pyNext_list_end->mJ,exec_Assign_Name_used->mK,builtinLookup_eq_fast->mO,wpAny_loadName_local->mT,wpAny_noted->mV,wpAny_newFunctionEnv->mW,DictEntry->nu,wpAny_loadName_cell->nA,seq_tuple_add->nI,evalPart_none->nK,wpAny_attempt->nN,sub_AttributeError->n0,wpAny_dictSet_heap->n8,concat_meets->ot,seqIndex_neg->ou,slot_list_getitem->oz,OsState->oK,wpAny_execs_cons->oQ,PassesOwn->oR,wpAny_pyIter_zip->o6,Model->pf,sizeLine_eq->ph,seqIndex_of->pE,IsZip->pH,wpAny_loadPart'->pK,typeLookup_type->pV,BindsTo->pX,ExcName->pY,wpAny_Name->pZ,Operator->p5,wpAny_bindName->p7,typeIs_str->rm,sliceRange_one->rn,Params->rq,wpAny_newTuple->rJ,wpAny_setField->rN,KeyKind->sv,PyData->tZ,Within->t5,Keyword->ud,Value->uZ,CmpOp->vd,pick_run->vk,ReadsAll->vz,call->xh
open PySem.Str renaming ofString->af,empty->kc,length->lU
open List renaming getElem?_eq_getElem->ak,getElem?_eq_some_iff->av,mem_append->ax,mem_cons->az,mem_singleton->aA,size_toArray->aB,length_cons->aF,mem_of_getElem?->aH,length_append->aJ,length_map->aM,not_mem_nil->aO,mem_map->aS,pairwise_iff_getElem->aT,map_cons->aV,getD_eq_getElem?_getD->aX,drop_eq_getElem_cons->bf,getElem_of_mem->bg,length_nil->bo,getElem?_map->bp,getElem?_append_right->bG,append_assoc->bL,all_eq_true->bM,map_map->bT,getElem?_append_left->bW,mem_cons_of_mem->bX,replicate->bZ,mem_append_right->b5,replicate_succ->cg,pairwise_append->cq,take_of_length_le->cu,mem_filter->cC,append_nil->cD,mem_cons_self->cL,pairwise_cons->cM,getElem?_eq_none->cP,mem_iff_getElem?->cS,getElem_mem->c9,filterMap_cons->dh,take_succ->dF,getElem?_set_ne->dI,lookup_cons->dN,getElem?_cons_succ->dP,mem_of_mem_take->dQ,cons_append->dR,pairwise_singleton->dU,range->dW,of_mem_zip->ef,map_append->eh,length->eJ,getElem?_replicate->eO,pairwise_map->eP,length_eq_zero_iff->eQ,getElem?_cons_zero->eR,nodup_cons->eT,nil_append->eW,map_eq_nil_iff->eY,map_nil->e8,map_snd_zip->fc,take_length->fe,set_cons_succ->fk,take_append_drop->ft,mem_of_mem_drop->fC,length_pos_iff->fM,replicate_zero->fN,getD_cons_succ->fO,getD_cons_zero->fP,getElem?_set_self->fV,drop_of_length_le->fW,set_cons_zero->fY,foldl_cons->fZ,mem_range->gz,length_take->gE,length_drop->gG,drop_length->gH,map_fst_zip->gK,mem_take_iff_getElem->gP,map_congr_left->gR,mem_filterMap->g9,getElem?_set->ik,mapM_toArray->ir,reverse_cons->iu,length_replicate->iE,length_filter_le->iF,all_toArray->iI,filter_cons->iK,any_cons->iP,forIn_cons->iT,mem_map_of_mem->iY,perm_append_comm_assoc->i5,any_map->i8,zip_cons_cons->kC,getElem?_drop->kG,drop_zero->kI,forIn_nil->kK,getElem?_zip_eq_some->kQ,mem_drop_iff_getElem->kS,ext_getElem?->kY,drop_sublist->kZ,flatten_cons->k8,getElem?_take_of_lt->lu,zipIdx_cons->lI,any_eq_true->lL,append_eq_nil_iff->mw,length_zip->mD,find?_cons->mH,perm_append_comm->mN,eq_nil_or_concat->mP,concat_eq_append->mQ,mem_append_left->mS,forall_mem_cons->m9,getElem?_range->nC,length_reverse->nG,all_cons->nR,filter_append->nZ,any_eq_false->oj,take_sublist->oo,perm_middle->oX,mem_flatten->pd,zipIdx_nil->pS,map->rE,nodup_nil->rO,lt_irrefl->rR,take_nil->sY,drop_nil->sZ,sum_cons->tI,lookup->vq,map_id->vK,not_lt->vU
open PySem.Heap renaming get?_push_of_some->aq,lt_size->aD,get?_push_size->aG,get?_update_other->cm,get?_push_ne->cH,size_update->cO,size_push->dY,SameBut->eZ,get?_update_self->f9,get?_update_ne->gS,NewAttrErr->mG,ExtBut->vL
open PyProof.Rows renaming wpS_bind->aC,wpS_pure->aI,slot_tuple_getitem->bu,Keyed->bO,SortSt->bR,wpS_forRange->cn,wpS_mono->eM,size_push'->eV,SortKind->fj,callWith_type1->gj,IntsAre->gF,listItems_at->gJ,wpS_modify->iH,Top->iL,wpS_get->iO,entry_tuple_getitem->iX,AllBare->iZ,assignInOrder_cons->kh,slicePart_none->kE,args_tuple_getitem->kF,wpS_lift->lH,subscriptTail_builtinR->lT,pairsOf_size->ma,wpS_reverse->m7,mirror_perm->m8,IsTup->nH,tupleItemsOf_->nJ,listUpdate_at->nQ,assignInOrder_nil->oh,callWith_builtin1->oT,get?_update_seq->pO,entry_list_sort->pQ,oneTypeOnly'_eq->pR,Subscript_->rh,slot_list_sort->rK,args_list_sort->rL,oneLt'_eq->tS,tail_any->vn,elem'_eq->vD,lt_int->wa,lt_str->wB
open Nat renaming le_refl->aE,ne_of_lt->aK,lt_of_lt_of_le->aL,le_trans->cy,lt_or_ge->cz,zero_le->cJ,zero_add->dZ,lt_trichotomy->ee,add_sub_of_le->fD,le_succ->fS,lt_irrefl->f7,le_add_right->gL,testBit_succ->gM,lt_succ_iff_lt_or_eq->g7,lt_of_lt_of_eq->hV,mod_eq_zero_of_dvd->iy,dvd_of_mod_eq_zero->iz,sub_self->iC,pow_succ->ka,shiftLeft_eq->lG,testBit_zero->lJ,ne_of_gt->lP,mul_comm->mi,min_eq_left->mC,testBit_and->mF,pow_le_pow_right->mX,eq_of_testBit_eq->ni,add_assoc->nP,eq_or_lt_of_le->nV,lt_of_le_of_lt->nX,lt_or_eq_of_le->n9,le_of_lt->og,lt_succ_of_lt->oI,le_of_not_lt->oV,lt_succ_self->oW,and_le_left->pU,mul_assoc->tB,sub_zero->um,le_total->ur,lt_trans->uw,one_mul->vw
open Bool renaming false_eq_true->aN,false_ne_true->aP,and_eq_true->aY,eq_false_iff->dz,noConfusion->eF,not_true->eI,not_false->fo,eq_iff_iff->fw,and_eq_true_iff->fE,false_and->fQ,not_eq_true'->gr,true_and->gY,or_eq_true->mE,beq_eq_decide_eq->mL,or_eq_false_iff->mY,and_false->nj,not_eq_false'->nW,or_false->sS,and_true->tw
open PySem.Challenge renaming rw_blockdeal_k32_papers_spoilt->aR,pw_blockdeal_k32_papers_spoilt->fJ
open Iff renaming rfl->aU
open Array renaming toList->aW,getElem?_eq_getElem->bH,toList_append->cB,getElem?_toList->cR,perm_iff_toList_perm->cW,length_toList->eX,push->hU,getElem?_extract->lZ,toList_extract->mZ,toList_reverse->m6,toList_modify->nE,toList_push->oE,toList_inj->oY,toList_map->oZ
open Option.some renaming inj->ba
open Int renaming le_refl->bh,dvd_of_emod_eq_zero->bE,pow_succ->cA,one_mul->cK,le_trans->cT,le_of_lt->dH,emod_eq_zero_of_dvd->dS,mul_le_mul_of_nonneg_right->eE,mul_comm->eH,mul_assoc->fH,add_mul->fT,mul_le_mul_of_nonneg_left->fU,natCast_pow->f6,toNat_natCast->gn,natCast_zero->gN,mul_neg_of_pos_of_neg->gQ,emod_nonneg->g8,emod_lt_of_pos->hW,pow_add->hZ,lt_trichotomy->ip,lt_or_le->i9,natCast_nonneg->km,fdiv_eq_ediv_of_nonneg->ko,not_lt->kH,lt_of_mul_lt_mul_right->kN,lt_of_mul_lt_mul_left->kR,mul_one->kW,eq_ofNat_of_zero_le->lF,add_emod->oG,mul_emod_left->oH,mul_add->pI,emod_two_eq->pT,ediv_nonneg->pW,sub_mul->vC
open PySem.PassesOwn renaming never->bw
open PySem.Builtin.SmallTypes renaming nextOf->bK,ownedTupleIsFree->dG,ownedTupleHandOut->gT
open PySem.PyData renaming int->bN,canLayAll0->bU,canLay0->cE,str->cF,hasDict_of_canLay->cN,hasDict->cV,depthAll->cZ,bool->dO,eqv->eD,none->eK,depth->e9,hasDictAll->gq,tuple->iD,eqvAll->nM,dict->pF,list->vB
open PySem.Value renaming ref->bP,type->bQ,none->ke,bool->lO,int->oO,str->oP,isStrOf->su,isInt->u0,float->u3
open PySem.W renaming kia_one->bV,boot_heap->dD,fnOf->dX,kitx_dict->fB,keepIn->h7,codeIn->h8,methodObj->kT,cellsFrom_some->lS,boot_drawn->mj,instObj->mz,lookIn->mU,boot_toks->ny,kitx_tuple->nS,kitx_list->om,plainGet->oS,findIn->p9,kitOne->rf,SharedT->uD
open ForInStep renaming yield->bY
open PySem.Builtin.Slice renaming slicePlaces->cj,sliceAdjust->dg,sliceApplied->gC,sliceFields->kO,slicePartIndex->pL
open PySem.Builtin.Tuple renaming tupleExact->cx,tupleItemsOf->gD,tupleCompareSizes->oM,tupleIsExact->rM,tupleHashOf->si
open PySem.NameKind renaming free->cG
open Classical renaming choose_spec->cQ,byContradiction->gO,choose->iG
open PySem.Builtin renaming bitXor->cU,bitNot->fR,bitAnd->gA
open PySem.PyData.dict renaming inj->cY,injEq->oB
open Option renaming getD_some->c8,map_some->fx,map_eq_some_iff->mn,isSome_map->oJ,getD_none->oU
open Or renaming inl->df
open False renaming elim->dm
open List.cons renaming injEq->eU,inj->g6
open PySem.PyData.tuple renaming inj->ff,injEq->fX
open PySem.F renaming plain_min_loop->fg,slot_list_getattribute->fI,args_tuple_add_2->gV,entry_tuple_add->hY,slot_tuple_add->ic,slot_list_iadd->iB,args_tuple_iterator_next_1->iV,slot_zip_next->iW,entry_tuple_iterator_next->i7,slot_tuple_iterator_next->kM,entry_min_loop->lN,args_zip_next_1->oF,entry_zip_next->o5
open PySem.Obj renaming mapSeq->fF,data_mapFields->nY
open PySem.Builtin.Int renaming intBits->fL
open List.Perm renaming append_left->gf,trans->iU,append_right->lY,refl->rG
open Ne renaming symm->gh
open PySem.Paired renaming length->gU
open Prod renaming ext->gW
open PySem.Builtin.List renaming listTooLong->gX,listItems->iq,listExtendWith->i6,listUpdate->tR
open List.Pairwise renaming imp_of_mem->gZ,nil->ie,sublist->mM,and->xT
open Function renaming comp_def->ig
open PySem.W.Hook renaming none->iM,obs->vX,val->vY
open Sum renaming inl->iN,inr->nt
open PySem.Around renaming under_plainId->iR
open PySem.Builtin.Builtins renaming bindParams->kb
open PySem.Calls renaming Name_function_global->kg,call_function_entry->kP,callWith_builtin->lV,call_len_list->nB
open True renaming intro->ku
open PySem.SeqAt.EqAt renaming int_int->kB
open PySem.Code renaming quiet_builtin->kJ
open PySem.Builtin.Dict renaming addKeywords->lC,updateFrom->lK,selfAndRest->tE,pairItems->uB
open PySem.W.RowW renaming records->my
open Prod.mk renaming inj->nq,injEq->td
open And renaming intro->nv
open PySem.Heap.SameBut renaming update->nF,refl->oA
open PyProof.Rows.LSm renaming kept_iter->nL
open PySem.SeqAt renaming EqAt->nT
open PySem.Heap.IsSliceOf renaming new->nU
open PySem.PyData.list renaming injEq->oC
open PySem.Txt renaming slice->o7
open PySem.PyData.int renaming injEq->o8,inj->rQ
open PySem.Heap.DictOfH renaming new->o9
open Array.Perm renaming refl->pP
open PySem.Walks renaming list->rC
open PySem.EqNone renaming eq_none_none->rS,eq_none_bool->rT,eq_bool_none->rV,ne_none_none->rY,ne_none_bool->rZ,ne_bool_none->r8,eq_none_int->sD,eq_none_str->sE,eq_int_none->sF,eq_str_none->sH,ne_none_int->sJ,ne_none_str->sL,ne_int_none->sM,ne_str_none->sO
open PySem.EqMixed renaming eq_bool_str->rW,eq_str_bool->rX,ne_bool_str->se,ne_str_bool->sf,eq_int_str->sG,eq_str_int->sI,ne_int_str->sN,ne_str_int->sP
open PySem.Builtin.Range renaming rangeSize->tL
open Nat.succ renaming inj->uz
open PySem.Shared renaming heap->vM
open PySem.W.WShape renaming has->xg
open PyProof.Rows.SortSt renaming mk'->xk
open PySem.Heap.IsTuple renaming push->xV
open List.Sublist renaming refl->x8
open PySem.Flow renaming next->yg
open PySem.W.WData renaming int->yy
open PySem.Heap.IsList renaming push->yC
local macro_rules | `(tactic| walk_at "V") => `(tactic| first | exact Or.inl rfl | exact Or.inr (Or.inl rfl) | exact Or.inr (Or.inr rfl))
local macro_rules | `(tactic| walk_at "F") => `(tactic| first | exact .inl rfl | exact .inr rfl | assumption)
abbrev qF:=PySem.W.Frag
abbrev qB:=List (Int×Int)
abbrev qN:=tZ->Nat->Prop
abbrev qM:=PySem.Str->Option uZ
abbrev qV:=uZ->PySem.Shared->Prop
abbrev qD:=List tZ
abbrev qO:=List (PySem.Addr×PySem.Obj)
set_option Elab.async false
set_option linter.all false
set_option maxRecDepth 100000
set_option maxHeartbeats 4000000
namespace L2
open PySem PySem.Spec PyProof.Rows
abbrev Key:=Sum Int Str
def Yn:Key->ah->Bool
 | .inl k,v=>u0 k v
 | .inr x,v=>su x v
def keyH(w:bz):Key->Int
 | .inl k=>hashInt k
 | .inr x=>hashStr w x
theorem UF:∀{k:Key}{v:ah},Yn k v=true->(∃i t,k=iN i/\v=oO i t)\/(∃x t,k=nt x/\v=oP x t)
 | .inl i,v,h=>by
  obtain⟨t,e⟩:=Value.isInt_shape (k:=i) (v:=v) h;exact .inl ⟨i,t,rfl,e⟩
 | .inr x,v,h=>by
  obtain⟨t,e⟩:=Value.isStrOf_shape (x:=x) (v:=v) h;exact .inr ⟨x,t,rfl,e⟩
theorem zfc(i:Int)(t:Tok):Yn (.inl i) (.int i t)=true:=by simp[Yn,u0]
theorem zna(x:Str)(t:Tok):Yn (.inr x) (.str x t)=true:=by simp[Yn,su]
theorem ztw(a b:Int):decide ((iN a:Key)=iN b)=(a == b):=by
 by_cases e:a=b
 ·subst e;simp
 ·have h:¬(iN a:Key)=iN b:=fun q=>e (Sum.inl.inj q)
  rw[decide_eq_false h];exact(beq_eq_false_iff_ne.mpr e).symm
theorem ztt(a b:Str):decide ((nt a:Key)=nt b)=decide (a=b):=by
 by_cases e:a=b
 ·subst e;simp
 ·have h:¬(nt a:Key)=nt b:=fun q=>e (Sum.inr.inj q)
  rw[decide_eq_false h,decide_eq_false e]
theorem ztv(a:Int)(b:Str):decide ((iN a:Key)=nt b)=false:=decide_eq_false (fun q=>nomatch q)
theorem ztu(a:Str)(b:Int):decide ((nt a:Key)=iN b)=false:=decide_eq_false (fun q=>nomatch q)
def JJ(prog:aQ)(w:bz):sv prog w Key where
 is:=Yn
 hash:=keyH w
 inj:=fun v a b C o=>by
  rcases UF C with⟨i,t,rfl,rfl⟩|⟨x,t,rfl,rfl⟩
  ·rcases UF o with⟨j,u,rfl,e⟩|⟨y,u,rfl,e⟩
   ·injection e with e1 _;rw[e1]
   ·exact nomatch e
  ·rcases UF o with⟨j,u,rfl,e⟩|⟨y,u,rfl,e⟩
   ·exact nomatch e
   ·injection e with e1 _;rw[e1]
 byValue:=fun k v h=>by
  rcases UF h with⟨i,t,rfl,rfl⟩|⟨x,t,rfl,rfl⟩ <;> rfl
 pyHash:=fun l h=>by
  rcases UF l with⟨i,t,rfl,rfl⟩|⟨x,t,rfl,rfl⟩
  ·exact wpAny_pyHash_int h
  ·exact wpAny_pyHash_str h
 eqBool:=fun G l h=>by
  rcases UF G with⟨i,t,rfl,rfl⟩|⟨x,t,rfl,rfl⟩
  ·rcases UF l with⟨j,u,rfl,rfl⟩|⟨y,u,rfl,rfl⟩
   ·rw[ztw]at h;exact wpAny_eqBool_int h
   ·rw[ztv]at h;exact SeqAt.EqAt.int_str i t y u _ _ _ _ h
  ·rcases UF l with⟨j,u,rfl,rfl⟩|⟨y,u,rfl,rfl⟩
   ·rw[ztu]at h;exact SeqAt.EqAt.str_int x t j u _ _ _ _ h
   ·rw[ztt]at h;exact wpAny_eqBool_str h
 «strs»:=fun k x t v h=>by
  rcases UF h with⟨i,u,rfl,e⟩|⟨y,u,rfl,e⟩
  ·exact nomatch e
  ·injection e with e1 _
   subst e1;cases v <;> rfl
theorem zje(prog:aQ)(w:bz)(i:Int)(t:Tok):(JJ prog w).is (.inl i) (.int i t)=true:=zfc i t
theorem zjd(prog:aQ)(w:bz)(x:Str)(t:Tok):(JJ prog w).is (.inr x) (.str x t)=true:=zna x t
inductive V where
 | non|bl (b:Bool)|int (i:Int)|str (x:Str)|byt (b:Array UInt8)|flt (b:UInt64)|ref (a:au)|ty (n:String)
 deriving DecidableEq
def RelV:V->ah->Prop
 | .non,u=>u=ke
 | .bl b,u=>u=lO b
 | .int i,u=>∃t,u=oO i t
 | .str x,u=>∃t,u=oP x t
 | .byt b,u=>∃t,u=Value.bytes b t
 | .flt b,u=>∃t,u=u3 b t
 | .ref a,u=>u=bP a
 | .ty n,u=>u=bQ n
abbrev Vals:List V->List ah->Prop:=cw RelV
theorem Vals.length{xs:List V}{l:List ah}(r:Vals xs l):xs.length=l.length:=gU r
theorem Vals.get:∀{xs:List V}{v:List ah}{i:Nat}{x:V},Vals xs v->xs[i]?=some x->∃u,v[i]?=some u/\RelV x u
 | _,_,_,_,.nil,e=>by simp at e
 | _,_,0,_,.cons r _,e=>by simp at e;subst e;exact⟨_,rfl,r⟩
 | _,_,i+1,x,.cons _ t,e=>by
  obtain⟨u,y,C⟩:=Vals.get (i:=i) (x:=x) t (by simpa using e)
  exact⟨u,by simpa using y,C⟩
theorem Vals.set{x:V}{u:ah}(r:RelV x u):∀{xs:List V}{v:List ah} (i:Nat),Vals xs v->Vals (xs.set i x) (v.set i u)
 | _,_,_,.nil=>.nil
 | _,_,0,.cons _ t=>.cons r t
 | _,_,i+1,.cons q t=>.cons q (Vals.set r i t)
theorem Vals.append{xs ys:List V}{l u:List ah}(h:Vals xs l)(s:Vals ys u):Vals (xs++ys) (l++u):=by
 induction h with
 | nil=>exact s
 | cons r _ v=>exact .cons r v
theorem Vals.take:∀{xs:List V}{u:List ah} (n:Nat),Vals xs u->Vals (xs.take n) (u.take n)
 | _,_,0,_=>.nil
 | _,_,_+1,.nil=>.nil
 | _,_,n+1,.cons r t=>.cons r (Vals.take n t)
theorem Vals.drop:∀{xs:List V}{u:List ah} (n:Nat),Vals xs u->Vals (xs.drop n) (u.drop n)
 | _,_,0,r=>r
 | _,_,_+1,.nil=>.nil
 | _,_,n+1,.cons _ t=>Vals.drop n t
def RelO:Option V->Option ah->Prop
 | some v,some u=>RelV v u
 | none,none=>True
 | _,_=>False
def KV{l:Type}:List (l×V)->List (l×ah)->Prop:=cw fun(p:l×V) (q:l×ah)=>p.1=q.1/\RelV p.2 q.2
def kV:Key->V
 | .inl i=>.int i
 | .inr x=>.str x
inductive HO where
 | lst (xs:List V)
 | tup (xs:List V)
 | dK (kvs:List (Key×V))|dT (kvs:List (List Key×V))
 | set (S:Int->Bool) (n:Nat)
 | ins (C dx:au) (fs:List (Str×V))
 | own (x:au)
 | xd (fs:List (Str×V))
 | met (f x:au)
 | rng (lo hi:Int)
 | frz (o:Obj) (u:HO)
 | tbl (q:Str)
 | ext (φ:bq->Prop)
abbrev Hp:=au->Option HO
def upd(H:Hp)(a:au)(o:HO):Hp:=fun b=>if b=a then some o else H b
theorem J3{H:Hp}{a:au}{o:HO}:upd H a o a=some o:=by unfold upd;rw[if_pos rfl]
theorem Ju{H:Hp}{a b:au}{o:HO}(h:b≠a):upd H a o b=H b:=by unfold upd;rw[if_neg h]
theorem Q8{H:Hp}{a b:au}{o:HO}(h:H a=some o)(h':H b=none):a≠b:=by
 intro e;subst e;rw[h]at h';cases h'
def IsTD(h:bq)(a:au)(items:Array ah):Prop:=∃o,h.get? a=some o/\o.cls=.type "tuple" /\ (∃n,o.data=.seq items n)/\o.dict=none
theorem IsTD.tup{h:bq}{a:au}{items:Array ah}(x:IsTD h a items):nH h a items:=by
 obtain⟨o,e,c,d,_⟩:=x;exact⟨o,e,c,d⟩
theorem IsTD.lt{h:bq}{a:au}{items:Array ah}(x:IsTD h a items):a<h.objs.size:=x.tup.lt
theorem IsTD.new(h:bq)(items:Array ah):IsTD (h.push { cls:=.type "tuple",data:=.seq items }) h.objs.size items:=⟨_,aG _ rfl,rfl,⟨_,rfl⟩,rfl⟩
def TabOk(H:Hp)(q:Str)(ps:Array ah):Prop:=TriplesOk ps.toList/\∀(pos:Pos) (x:ah),codeAmong pos ps.toList=some x->∃(c:au) (o:Obj) (u:HO) (v:Array ah) (t:Tok),x=.ref c/\H c=some (.frz o u)/\o.data=.fields v/\v[1]?=some (.str q t)
section
variable(P:aQ)(w:bz)
def JP(H:Hp)(h:bq)(a:au):HO->Prop
 | .lst xs=>xs.length<=sizeLine/\∃(its:List ah) (n:Nat),Vals xs its/\h.get? a=some { cls:=.type "list",data:=.seq its.toArray n }
 | .tup xs=>xs.length<=sizeLine/\∃its:List ah,Vals xs its/\IsTD h a its.toArray
 | .dK G=>G.length<=sizeLine/\(a == sysModules)=false/\∃U,KV G U/\h.DictOf (JJ P w) a U
 | .dT G=>G.length<=sizeLine/\(a == sysModules)=false/\∃xs:List (List Key×au×ah),
   cw (fun(p:List Key×V) (q:List Key×au×ah)=>p.1=q.1/\H q.2.1=some (.tup (p.1.map kV))/\RelV p.2 q.2.2) G xs /\
   ∃o Y ep,h.get? a=some o/\o.ExactDict/\o.data=.dict Y ep/\Y.toList=xs.map (entryOfKey (tupleKind (JJ P w)))/\(xs.map (·.1)).Nodup
 | .set S n=>h.SetOf (intKind P w) a S n
 | .ins C J fs=>H J=some (.own a)/\fs.length<=1000/\J≠a/\h.get? a=some (mz C J) /\
   ∃I,h.Ns1 J I/\(∀f,RelO (fs.lookup f) (I f))/\t5 I (fs.map (·.1))
 | .own _=>∃o,h.get? a=some o
 | .xd fs=>∃I,h.Ns1 a I/\∀f,RelO (fs.lookup f) (I f)
 | .rng lo hi=>∃t u v,h.get? a=some { cls:=.type "range",data:=.fields #[.int lo t,.int hi u,.int 1 v] }
 | .frz o u=>h.get? a=some o/\JP H h a u
 | .tbl q=>∃ps:Array ah,h.get? a=some { cls:=.none,data:=.fields ps }/\TabOk H q ps
 | .met f x=>h.get? a=some (kT (.ref f) (.ref x))
 | .ext L=>L h/\(∃o,h.get? a=some o)/\∀Z R:bq,L Z->(∀o,Z.get? a=some o->R.get? a=some o)->L R
def HOk(H:Hp)(h:bq):Prop:=∀a o,H a=some o->JP P w H h a o
end
section
variable{P:aQ}{w:bz}{H H':Hp}{h h':bq}{a:au}{o:HO}
theorem JP.lt(x:JP P w H h a o):a<h.objs.size:=by
 cases o with
 | lst xs=>obtain⟨_,_,_,_,e⟩:=x;exact aD e
 | tup xs=>obtain⟨_,_,_,p⟩:=x;exact p.lt
 | dK l=>obtain⟨_,_,_,_,o,_,_,e,_⟩:=x;exact aD e
 | dT l=>obtain⟨_,_,_,_,o,_,_,e,_⟩:=x;exact aD e
 | set S n=>obtain⟨o,_,_,_,e,_⟩:=x;exact aD e
 | ins C I fs=>obtain⟨_,_,_,e,_⟩:=x;exact aD e
 | own y=>obtain⟨_,e⟩:=x;exact aD e
 | xd fs=>obtain⟨_,⟨_,_,_,e,_⟩,_⟩:=x;exact aD e
 | rng lo hi=>obtain⟨_,_,_,e⟩:=x;exact aD e
 | frz G u=>obtain⟨e,_⟩:=x;exact aD e
 | tbl q=>obtain⟨_,e,_⟩:=x;exact aD e
 | met f y=>exact aD (show h.get? a=some _ from x)
 | ext v=>obtain⟨_,⟨_,e⟩,_⟩:=x;exact aD e
theorem Paired.mapP{α x:Type}{F G:α->x->Prop}{v:List α}{u:List x}(h:cw F v u)(f:∀a b,F a b->G a b):cw G v u:=by
 induction h with
 | nil=>exact .nil
 | cons r _ y=>exact .cons (f _ _ r) y
theorem JP.stay(x:JP P w H h a o)(k:∀b u,(b=a\/H b=some (.own a))->h.get? b=some u->h'.get? b=some u)
  (ho:∀b,H b=some (.own a)->H' b=some (.own a)) (ht:∀b xs,H b=some (.tup xs)->H' b=some (.tup xs)) (hf:∀b G u,H b=some (.frz G u)->H' b=some (.frz G u)):JP P w H' h' a o:=by
 induction o with
 | lst xs=>obtain⟨z,its,n,r,e⟩:=x;exact⟨z,its,n,r,k _ _ (.inl rfl) e⟩
 | tup xs=>obtain⟨z,its,r,G,e,c⟩:=x;exact⟨z,its,r,G,k _ _ (.inl rfl) e,c⟩
 | dK L=>obtain⟨z,y,U,r,G,J,I,e,c⟩:=x;exact⟨z,y,U,r,G,J,I,k _ _ (.inl rfl) e,c⟩
 | dT L =>
  obtain⟨z,y,xs,r,G,J,I,e,c⟩:=x;exact⟨z,y,xs,Paired.mapP r fun p q z=>⟨z.1,ht _ _ z.2.1,z.2.2⟩,G,J,I,k _ _ (.inl rfl) e,c⟩
 | set S n=>obtain⟨G,J,I,t,e,c⟩:=x;exact⟨G,J,I,t,k _ _ (.inl rfl) e,c⟩
 | ins C dx fs =>
  obtain⟨d,z,ne,e,R,⟨N,J,I,Y,c⟩,r⟩:=x;exact⟨ho _ d,z,ne,k _ _ (.inl rfl) e,R,⟨N,J,I,k _ _ (.inr d) Y,c⟩,r⟩
 | own y=>obtain⟨G,e⟩:=x;exact⟨G,k _ _ (.inl rfl) e⟩
 | xd fs=>obtain⟨R,⟨N,J,I,e,c⟩,r⟩:=x;exact⟨R,⟨N,J,I,k _ _ (.inl rfl) e,c⟩,r⟩
 | rng lo hi=>obtain⟨t,u,v,e⟩:=x;exact⟨t,u,v,k _ _ (.inl rfl) e⟩
 | frz G u ih=>obtain⟨e,q⟩:=x;exact⟨k _ _ (.inl rfl) e,ih q⟩
 | tbl q =>
  obtain⟨ps,e,z,r⟩:=x;refine⟨ps,k a _ (.inl rfl) e,z,fun pos cv m=>?_⟩
  obtain⟨c,o,u,U,t,e1,Y,Z⟩:=r pos cv m;exact⟨c,o,u,U,t,e1,hf _ _ _ Y,Z⟩
 | met f y =>
  have e:h.get? a=some (kT (.ref f) (.ref y)):=x;show h'.get? a=some (kT (.ref f) (.ref y))
  exact k a _ (.inl rfl) e
 | ext φ=>obtain⟨p,⟨o,e⟩,st⟩:=x;exact⟨st _ _ p fun o q=>k _ _ (.inl rfl) q,⟨o,k _ _ (.inl rfl) e⟩,st⟩
theorem HOk.lt(x:HOk P w H h)(e:H a=some o):a<h.objs.size:=(x a o e).lt
theorem HOk.fresh(x:HOk P w H h)(e:h.objs.size<=a):H a=none:=by
 cases q:H a with
 | none=>rfl
 | some u=>exact absurd (aL (x.lt q) e) (f7 _)
theorem HOk.kept(x:HOk P w H h)(k:∀b u,h.get? b=some u->h'.get? b=some u):HOk P w H h':=fun a o e =>
 (x a o e).stay (fun b u _ q=>k b u q) (fun _ q=>q) (fun _ _ q=>q) fun _ _ _ q=>q
theorem HOk.laid(x:HOk P w H h)(k:∀b u,h.get? b=some u->h'.get? b=some u)(C:h.objs.size<=a)(new:JP P w (upd H a o) h' a o):HOk P w (upd H a o) h':=fun b u e=>by
 have l:=x.fresh C
 by_cases hb:b=a
 ·subst hb;rw[J3]at e;cases e;exact new
 ·rw[Ju hb]at e;exact(x b u e).stay (fun c v _ q=>k c v q) (fun c q=>by rw[Ju (Q8 q l)];exact q) (fun c xs q=>by rw[Ju (Q8 q l)];exact q) fun c G xs q=>by rw[Ju (Q8 q l)];exact q
end
def Rd(H:Hp)(a:au)(u:HO):Prop:=H a=some u\/∃o,H a=some (.frz o u)
theorem Rd.ok{P:aQ}{w:bz}{H:Hp}{h:bq}{a:au}{u:HO}(r:Rd H a u)(x:HOk P w H h):JP P w H h a u:=by
 rcases r with r|⟨o,r⟩
 ·exact x a u r
 ·obtain⟨_,q⟩:=x a _ r;exact q
def Mut:Option HO->Prop
 | some (.lst _)=>True
 | some (.dK _)=>True
 | some (.dT _)=>True
 | some (.set _ _)=>True
 | some (.ins _ _ _)=>True
 | some (.ext _)=>True
 | _=>False
section
variable{P:aQ}{w:bz}{H:Hp}{h h':bq}{x e:au}{o':HO}
theorem HOk.write(ok:HOk P w H h)(l:Mut (H x))(he:e=x\/H e=some (.own x))(k:∀b u,b≠e->h.get? b=some u->h'.get? b=some u)(J:∃u,h'.get? e=some u)
  (new:JP P w (upd H x o') h' x o'):HOk P w (upd H x o') h':=fun b u q=>by
 have N:∀c y,H c=some (.own y)->c≠x:=fun c y r z=>by subst z;rw[r]at l;exact l
 have G:∀c xs,H c=some (.tup xs)->c≠x:=fun c xs r z=>by subst z;rw[r]at l;exact l
 have C:∀c I xs,H c=some (.frz I xs)->c≠x:=fun c I xs r z=>by subst z;rw[r]at l;exact l
 by_cases hb:b=x
 ·subst hb;rw[J3]at q;cases q;exact new
 ·rw[Ju hb]at q
  by_cases hbe:b=e
  ·have L:H b=some (.own x):=by
    rcases he with z|z
    ·exact absurd (hbe.trans z) hb
    ·rw[hbe];exact z
   rw[q]at L;cases L;obtain⟨v,R⟩:=J;exact⟨v,by rw[hbe];exact R⟩
  ·refine(ok b u q).stay (fun c v hc r=>k c v ?_ r) (fun c r=>by rw[Ju (N c b r)];exact r) (fun c xs r=>by rw[Ju (G c xs r)];exact r) fun c I xs r=>by rw[Ju (C c I xs r)];exact r
   rcases hc with rfl|hc
   ·exact hbe
   ·rintro rfl;rcases he with z|z
    ·exact N c b hc z
    ·rw[hc]at z;cases z;exact hb rfl
end
structure Un(fs ex:List au)(H H':Hp)(h h':bq):Prop where
 keep:∀b o,h.get? b=some o->H b=none->b∉fs->b∉ex->h'.get? b=some o
 slot:∀b o,h.get? b=some o->H b=none->b∈fs->b∉ex->∃sl,h'.get? b=some { o with slots:=sl }
 free:∀b o,h.get? b=some o->H b=none->b∉ex->H' b=none
 there:∀b o,h.get? b=some o->b∉ex->∃o',h'.get? b=some o'
 tups:∀b xs,H b=some (.tup xs)->H' b=some (.tup xs)
 frzs:∀b o u,H b=some (.frz o u)->H' b=some (.frz o u)
 tbls:∀b q,H b=some (.tbl q)->H' b=some (.tbl q)
section
variable{fs fs' ex ex':List au}{H H1 H2:Hp}{h h1 h2 h':bq}{a x e:au}{o:HO}
theorem Un.any(u:Un fs ex H H1 h h1){b:au}{l:Obj}(q:h.get? b=some l)(n:H b=none)(hx:b∉ex):∃v,h1.get? b=some { l with slots:=v }:=by
 by_cases hb:b∈fs
 ·exact u.slot b l q n hb hx
 ·exact⟨l.slots,u.keep b l q n hb hx⟩
theorem Un.kept(k:∀b u,h.get? b=some u->h'.get? b=some u):Un fs ex H H h h' :=
 ⟨fun b l q _ _ _=>k b l q,fun b l q _ _ _=>⟨l.slots,k b l q⟩,fun _ _ _ n _=>n,fun b l q _=>⟨l,k b l q⟩,fun _ _ q=>q,fun _ _ _ q=>q,fun _ _ q=>q⟩
theorem Un.refl:Un fs ex H H h h:=Un.kept fun _ _ q=>q
theorem Un.laid(k:∀b u,h.get? b=some u->h'.get? b=some u)(v:h.objs.size<=a)(l:H a=none):Un fs ex H (upd H a o) h h' where
 keep:=fun b u q _ _ _=>k b u q
 slot:=fun b u q _ _ _=>⟨u.slots,k b u q⟩
 free:=fun b u q n _=>by rw[Ju (aK (aL (aD q) v))];exact n
 there:=fun b u q _=>⟨u,k b u q⟩
 tups:=fun b xs q=>by rw[Ju (Q8 q l)];exact q
 frzs:=fun b u xs q=>by rw[Ju (Q8 q l)];exact q
 tbls:=fun b ps q=>by rw[Ju (Q8 q l)];exact q
theorem Un.write(l:Mut (H x))(he:e=x\/H e=some (.own x))(k:∀b u,b≠e->h.get? b=some u->h'.get? b=some u)(y:∃u,h'.get? e=some u):Un fs ex H (upd H x o) h h':=by
 have hx:∀b,H b=none->b≠x:=fun b n z=>by subst z;rw[n]at l;exact l
 have C:∀b,H b=none->b≠e:=fun b n z=>by
  subst z;rcases he with r|r
  ·exact hx b n r
  ·rw[n]at r;cases r
 have v:∀b u,H b=some u->¬Mut (some u)->b≠x:=fun b u q nm z=>by subst z;rw[q]at l;exact nm l
 refine⟨fun b u q n _ _=>k b u (C b n) q,fun b u q n _ _=>⟨u.slots,k b u (C b n) q⟩,fun b u q n _=>by rw[Ju (hx b n)];exact n,fun b u q _=>?_,
  fun b xs q=>by rw[Ju (v b _ q fun z=>z)];exact q,fun b u xs q=>by rw[Ju (v b _ q fun z=>z)];exact q,fun b ps q=>by rw[Ju (v b _ q fun z=>z)];exact q⟩
 by_cases hbe:b=e
 ·subst hbe;exact y
 ·exact⟨u,k b u hbe q⟩
end
def trk(h:bq)(H:Hp):List au:=(dW h.objs.size).filter fun a=>(H a).isSome
def hidT(h:bq)(H:Hp):bq:=PySem.W.hideAll h (trk h H)
theorem znk(h:bq)(H:Hp):(hidT h H).objs.size=h.objs.size:=PySem.W.hideAll_size _ _
theorem zpm{h:bq}{H:Hp}{b:au}{o:Obj}(e:h.get? b=some o)(n:H b=none):(hidT h H).get? b=some o :=
 PySem.W.hideAll_get _ e fun l=>by
  have q:(H b).isSome=true:=(cC.mp l).2;rw[n]at q;simp at q
theorem zqV{h:bq}{H:Hp}{b:au}{o:Obj}(e:(hidT h H).get? b=some o):h.get? b=some o/\H b=none:=by
 have l:h.get? b=some o:=PySem.W.of_hideAll (trk h H) e;refine⟨l,?_⟩;cases q:H b with
 | none=>rfl
 | some x =>
  have u:b∈trk h H:=cC.mpr ⟨gz.mpr (aD l),by simp[q]⟩
  have z:(hidT h H).get? b=none:=PySem.W.hideAll_none (trk h H) u;rw[z]at e;cases e
structure Mod(K:qF)(mg:qM)(base:bq):Prop where
 kin:K.In base
 glob:base.Ns mainGlobals mg
 blt:∃mb,base.Ns builtinsNs mb/\∀x:Str,x ≠ "__name__" -> mb x=bootBuiltins x
 nolimit:base.NoLimit
structure Cx where
 prog:aQ
 w:bz
 K:qF
 mg:Str->Option ah
 base:bq
 A:br
 N:List Str
 s₀:aw
 H₀:Hp
 env:Env
 outer:List Env
 stack:List Env
 ex:List au
 fn:Str->Bool
 calm:Bool
 pn:List (au×Obj)
 xe:ah->aw->Prop
def frs(l:List Env):List au:=l.filterMap (·.frame)
abbrev Cx.fs(X:Cx):List au:=frs X.outer
def Vis(sc:fA)(x:Str):Prop:=sc.names.lookup x=some .local\/sc.names.lookup x=some .cell\/sc.names.lookup x=some .free
def Loc(sc:fA)(x:Str):Prop:=sc.names.lookup x=some .local\/sc.names.lookup x=some .cell
def Look(env:Env)(h:bq)(m:qM)(x:Str)(u:ah):Prop :=
 (env.kindOf x=some .local/\m x=some u)\/((env.kindOf x=some .cell\/env.kindOf x=some .free)/\∃c,env.cells.lookup x=some c/\h.IsCell c (some u))
structure Cx.Ok(X:Cx):Prop where
 mod:Mod X.K X.mg X.base
 kind:X.env.scope.kind=.function
 glob:X.env.globals=mainGlobals
 blt:X.env.builtins=builtinsNs
 above:X.s₀.heap.objs.size<=X.env.locals
 inj:∀x y c,X.env.cells.lookup x=some c->X.env.cells.lookup y=some c->x=y
 has:∀x,(X.env.kindOf x=some .cell\/X.env.kindOf x=some .free)->∃c,X.env.cells.lookup x=some c
 cab:∀x c,X.fn x=true->X.env.cells.lookup x=some c->X.s₀.heap.objs.size<=c
 hd:X.calm=true->X.A.handled=none
 frames:X.A.frames=some X.stack
 stk:X.stack=X.outer\/(X.stack=X.env::X.outer/\X.env.frame=some X.env.locals)
 exf:∀b∈X.ex,b≠X.env.locals/\∀x c,X.env.cells.lookup x=some c->c≠b
 bs:∀b o,X.base.get? b=some o->X.s₀.heap.get? b=some o/\X.H₀ b=none
 bsz:X.base.objs.size<=X.s₀.heap.objs.size
 noex:∀b o,X.base.get? b=some o->b∉X.ex
 exfs:∀b∈X.ex,b∉X.fs
 funs:X.s₀.heap.FunFrames X.base X.outer
 frf:∀b∈X.fs,X.H₀ b=none
structure Inv(X:Cx)(ad:qO)(σ:List (Option V))(H:Hp)(s:aw):Prop where
 ok:X.Ok
 os:s.os=X.s₀.os
 bare:iZ s.gens
 base:Un X.fs X.ex X.H₀ H X.s₀.heap s.heap
 loc:∃m,s.heap.Ns X.env.locals m/\∀(i:Nat) (x:Str) (v:V),X.N[i]?=some x->σ[i]?=some (some v)->Vis X.env.scope x->∃u,RelV v u/\Look X.env s.heap m x u
 cell:∀x c,X.env.cells.lookup x=some c->∃v,s.heap.IsCell c v
 free:H X.env.locals=none
 freeC:∀x c,X.env.cells.lookup x=some c->H c=none
 pin:∀p∈X.pn++ad,s.heap.get? p.1=some p.2/\H p.1=none/\p.1≠X.env.locals/\p.1∉X.fs/\∀v,p.2.data≠.cell v
 hok:HOk X.prog X.w H s.heap
 len:σ.length=X.N.length
section
variable{X:Cx}{ad:qO}{σ:List (Option V)}{H H':Hp}{s:aw}{h':bq}
theorem Cx.Ok.nofr(ok:X.Ok){b:au}{o:Obj}(e:X.base.get? b=some o):b∉X.fs:=fun l=>by
 have:=(ok.funs.mem l).1;rw[e]at this;cases this
theorem Inv.bs(I:Inv X ad σ H s):∀b o,X.base.get? b=some o->s.heap.get? b=some o/\H b=none:=fun b o e =>
 ⟨I.base.keep b o (I.ok.bs b o e).1 (I.ok.bs b o e).2 (I.ok.nofr e) (I.ok.noex b o e),I.base.free b o (I.ok.bs b o e).1 (I.ok.bs b o e).2 (I.ok.noex b o e)⟩
theorem Inv.bk(I:Inv X ad σ H s):∀b o,X.base.get? b=some o->s.heap.get? b=some o:=fun b o e=>(I.bs b o e).1
theorem Inv.mod(I:Inv X ad σ H s):Mod X.K X.mg X.base:=I.ok.mod
theorem Inv.kIn(I:Inv X ad σ H s):X.K.In s.heap:=I.ok.mod.kin.keeps I.bk
theorem Inv.lt(I:Inv X ad σ H s):X.env.locals<s.heap.objs.size:=let ⟨_,hn,_⟩:=I.loc;hn.lt
theorem Inv.sz(I:Inv X ad σ H s):X.s₀.heap.objs.size<=s.heap.objs.size:=cy I.ok.above (og I.lt)
theorem Inv.nofs(I:Inv X ad σ H s){a:au}(h:s.heap.objs.size<=a):a∉X.fs:=fun l=>by
 obtain⟨_,o,u,_⟩:=I.ok.funs.mem l;exact absurd (aL (aD u) (cy I.sz h)) (f7 _)
theorem Inv.cne(I:Inv X ad σ H s):∀x c,X.env.cells.lookup x=some c->c≠X.env.locals:=fun x c e z=>by
 obtain⟨v,o,y,hd⟩:=I.cell x c e;obtain⟨m,⟨G,J,C,l,u,_⟩,_⟩:=I.loc;rw[z,l]at y;cases y;rw[u]at hd;cases hd
theorem Inv.funs(I:Inv X ad σ H s):s.heap.FunFrames X.base X.outer:=by
 have all:∀(l:List Env),(∀b∈frs l,b∈X.fs)->X.s₀.heap.FunFrames X.base l->s.heap.FunFrames X.base l:=by
  intro l;induction l with
  | nil=>intro _ _;trivial
  | cons env r C =>
   intro x R;obtain⟨G,⟨L,o,hf,y,J,hd⟩,N⟩:=R;have v:L∈X.fs:=x L (by unfold frs;rw[dh,hf];exact cL)
   obtain⟨S,e⟩:=I.base.slot L o J (I.ok.frf L v) v fun z=>I.ok.exfs L z v
   exact⟨G,⟨L,_,hf,y,e,hd⟩,C (fun b u=>x b (by unfold frs;rw[dh,hf];exact bX _ u)) N⟩
 exact all X.outer (fun _ u=>u) I.ok.funs
theorem Inv.stack(I:Inv X ad σ H s):s.heap.FunFrames X.base X.stack:=by
 rcases I.ok.stk with e|⟨e,hf⟩
 ·rw[e];exact I.funs
 ·rw[e];obtain⟨m,l,_⟩:=I.loc;refine .cons (by rw[I.ok.kind];decide) hf l ?_ I.funs
  exact Heap.get?_none_of_le (cy I.ok.bsz I.ok.above)
theorem Inv.stkSub(I:Inv X ad σ H s):∀b∈frs X.stack,b∈X.env.locals::X.fs:=fun b l=>by
 rcases I.ok.stk with e|⟨e,hf⟩
 ·rw[e]at l;exact bX _ l
 ·rw[e]at l;unfold frs at l;rw[dh,hf]at l;exact l
theorem Inv.stkFree(I:Inv X ad σ H s):∀b∈frs X.stack,H b=none:=fun b l=>by
 rcases az.mp (I.stkSub b l) with e|l
 ·rw[e];exact I.free
 ·obtain⟨_,o,u,_⟩:=I.ok.funs.mem l;exact I.base.free b o u (I.ok.frf b l) fun z=>I.ok.exfs b z l
theorem Inv.step{g':Array GenState}{t':Nat}{d':Drawn}{ch:List au}(I:Inv X ad σ H s)
  (y:∀b∈ch,(b∈X.ex\/X.s₀.heap.objs.size<=b)/\b≠X.env.locals/\(∀x c,X.env.cells.lookup x=some c->c≠b)/\∀p∈X.pn++ad,p.1≠b)
  (keep:∀b o,b≠X.env.locals->b∉X.fs->b∉ch->s.heap.get? b=some o->H b=none->h'.get? b=some o)
  (slot:∀b o,b≠X.env.locals->b∈X.fs->b∉ch->s.heap.get? b=some o->H b=none->∃U,h'.get? b=some { o with slots:=U }) (free:∀b o,b∉ch->s.heap.get? b=some o->H b=none->H' b=none)
  (there:∀b o,b∉ch->s.heap.get? b=some o->∃S,h'.get? b=some S)
  (tups:∀b xs,H b=some (.tup xs)->H' b=some (.tup xs)) (frzs:∀b o u,H b=some (.frz o u)->H' b=some (.frz o u)) (tbls:∀b q,H b=some (.tbl q)->H' b=some (.tbl q))
  (ns:∀m,s.heap.Ns X.env.locals m->h'.Ns X.env.locals m) (hok:HOk X.prog X.w H' h') (hg:iZ g') :
  Inv X ad σ H' { s with heap:=h',gens:=g',drawn:=d',toks:=t' }:=by
 have R:∀b o,X.s₀.heap.get? b=some o->b≠X.env.locals:=fun b o e=>aK (aL (aD e) I.ok.above)
 have G:∀b o,X.s₀.heap.get? b=some o->b∉X.ex->b∉ch:=fun b o e hx J=>by
  rcases(y b J).1 with z|z
  ·exact hx z
  ·exact absurd (aL (aD e) z) (f7 _)
 have cellK:∀x c,X.env.cells.lookup x=some c->∀v,s.heap.IsCell c v->h'.IsCell c v:=fun x c e v ⟨o,N,hd⟩=>by
  have C:c∉ch:=fun z=>(y c z).2.2.1 x c e rfl
  by_cases hc:c∈X.fs
  ·obtain⟨U,q⟩:=slot c o (I.cne x c e) hc C N (I.freeC x c e);exact⟨_,q,hd⟩
  ·exact⟨o,keep c o (I.cne x c e) hc C N (I.freeC x c e),hd⟩
 refine⟨I.ok,I.os,hg,⟨fun b o e n J hx=>?_,fun b o e n J hx=>?_,fun b o e n hx=>?_,fun b o e hx=>?_,fun b xs e=>tups b xs (I.base.tups b xs e),fun b o xs e=>frzs b o xs (I.base.frzs b o xs e),fun b ps e=>?_⟩,?_,fun x c e=>?_,?_,fun x c e=>?_,fun p hp=>?_,hok,I.len⟩
 ·exact keep b o (R b o e) J (G b o e hx) (I.base.keep b o e n J hx) (I.base.free b o e n hx)
 ·obtain⟨U,L⟩:=I.base.slot b o e n J hx;obtain⟨Y,Z⟩:=slot b _ (R b o e) J (G b o e hx) L (I.base.free b o e n hx);exact⟨Y,Z⟩
 ·obtain⟨S,L⟩:=I.base.there b o e hx;exact free b S (G b o e hx) L (I.base.free b o e n hx)
 ·obtain⟨S,L⟩:=I.base.there b o e hx;exact there b S (G b o e hx) L
 ·exact tbls b ps (I.base.tbls b ps e)
 ·obtain⟨m,hn,hl⟩:=I.loc;refine⟨m,ns m hn,fun i x v L Z e3=>?_⟩
  obtain⟨u,r,l⟩:=hl i x v L Z e3;refine⟨u,r,?_⟩;rcases l with l|⟨k,c,e,z⟩
  ·exact .inl l
  ·exact .inr ⟨k,c,e,cellK x c e _ z⟩
 ·obtain⟨v,z⟩:=I.cell x c e;exact⟨v,cellK x c e v z⟩
 ·obtain⟨m,⟨o,_,_,N,_⟩,_⟩:=I.loc;exact free _ o (fun z=>(y _ z).2.1 rfl) N I.free
 ·obtain⟨v,o,N,hd⟩:=I.cell x c e;exact free c o (fun z=>(y c z).2.2.1 x c e rfl) N (I.freeC x c e)
 ·obtain⟨e,n,ne,nf,d⟩:=I.pin p hp;have C:p.1∉ch:=fun z=>(y p.1 z).2.2.2 p hp rfl
  exact⟨keep p.1 p.2 ne nf C e n,free p.1 p.2 C e n,ne,nf,d⟩
theorem Inv.un{t':Nat}(I:Inv X ad σ H s)(u:Un X.fs [] H H' s.heap h')(hok:HOk X.prog X.w H' h'):Inv X ad σ H' { s with heap:=h',toks:=t' }:=by
 obtain⟨m,⟨o,S,R,C,r⟩,_⟩:=id I.loc;obtain⟨N,G⟩:=u.any C I.free (by simp)
 exact I.step (g':=s.gens) (d':=s.drawn) (ch:=[]) (fun _ z=>nomatch z) (fun b o _ y _ e n=>u.keep b o e n y (by simp)) (fun b o _ y _ e n=>u.slot b o e n y (by simp)) (fun b o _ e n=>u.free b o e n (by simp)) (fun b o _ e=>u.there b o e (by simp)) u.tups u.frzs u.tbls (fun U L=>by
  obtain⟨Y,x,v,l,J⟩:=L;rw[C]at l;cases l;exact⟨_,x,v,G,J⟩) hok I.bare
theorem Inv.call{g':Array GenState}{t':Nat}{d':Drawn}{ch:List au}(I:Inv X ad σ H s)(u:Un (frs X.stack) ch H H' s.heap h')(hok:HOk X.prog X.w H' h')(N:iZ g')
  (v:∀b∈ch,(b∈X.ex\/X.s₀.heap.objs.size<=b)/\b≠X.env.locals/\(∀x c,X.env.cells.lookup x=some c->c≠b)/\∀p∈X.pn++ad,p.1≠b) :
  Inv X ad σ H' { s with heap:=h',gens:=g',drawn:=d',toks:=t' }:=by
 obtain⟨m,⟨o,es,Z,L,r⟩,_⟩:=id I.loc;obtain⟨Y,J⟩:=u.any L I.free fun z=>(v _ z).2.1 rfl
 exact I.step (ch:=ch) v (fun b o J R hc e n=>u.keep b o e n (fun z=>(az.mp (I.stkSub b z)).elim J R) hc) (fun b o _ _ hc e n=>u.any e n hc) (fun b o hc e n=>u.free b o e n hc) (fun b o hc e=>u.there b o e hc) u.tups u.frzs u.tbls (fun m' U=>by
  obtain⟨o',G,C,y,S⟩:=U;rw[L]at y;cases y;exact⟨_,G,C,J,S⟩) hok N
theorem Inv.turned{t':Nat}{it:au}(I:Inv X ad σ H s)(k:∀b o,b≠it->s.heap.get? b=some o->h'.get? b=some o)(J:H it=none)(C:it≠X.env.locals)
  (Z:it∈X.ex\/X.s₀.heap.objs.size<=it) (G:∀x c,X.env.cells.lookup x=some c->c≠it) (R:∀p∈X.pn++ad,p.1≠it):Inv X ad σ H { s with heap:=h',toks:=t' }:=by
 have l:∀b u,H b=some u->b≠it:=fun b u e z=>by rw[z,J]at e;cases e
 refine I.step (g':=s.gens) (d':=s.drawn) (ch:=[it]) (fun b L=>?_) (fun b o _ _ hc e _=>k b o (fun z=>hc (by simp[z])) e) (fun b o _ _ hc e _=>⟨o.slots,k b o (fun z=>hc (by simp[z])) e⟩) (fun _ _ _ _ n=>n)
  (fun b o hc e=>⟨o,k b o (fun z=>hc (by simp[z])) e⟩) (fun _ _ e=>e) (fun _ _ _ e=>e) (fun _ _ e=>e) (fun m Y=>?_) (fun b u e=>?_) I.bare
 ·have e:b=it:=by simpa using L
  subst e;exact⟨Z,C,G,R⟩
 ·obtain⟨o,S,N,U,r⟩:=Y;exact⟨o,S,N,k _ o (gh C) U,r⟩
 ·refine(I.hok b u e).stay (fun c v hc q=>k c v ?_ q) (fun _ q=>q) (fun _ _ q=>q) fun _ _ _ q=>q
  rcases hc with z|z
  ·rw[z];exact l b u e
  ·exact l c _ z
theorem Inv.tok(I:Inv X ad σ H s)(t:Nat):Inv X ad σ H { s with toks:=t }:=I.un (h':=s.heap) (t':=t) Un.refl I.hok
theorem Inv.kept{t':Nat}(I:Inv X ad σ H s)(k:∀b u,s.heap.get? b=some u->h'.get? b=some u):Inv X ad σ H { s with heap:=h',toks:=t' }:=I.un (Un.kept k) (I.hok.kept k)
theorem Inv.laid{a:au}{o:HO}{t':Nat}(I:Inv X ad σ H s)(k:∀b u,s.heap.get? b=some u->h'.get? b=some u)(l:s.heap.objs.size<=a)(new:JP X.prog X.w (upd H a o) h' a o) :
  Inv X ad σ (upd H a o) { s with heap:=h',toks:=t' }:=I.un (Un.laid k l (I.hok.fresh l)) (I.hok.laid k l new)
theorem Inv.write{x e:au}{o:HO}{t':Nat}(I:Inv X ad σ H s)(v:Mut (H x))(he:e=x\/H e=some (.own x))(k:∀b u,b≠e->s.heap.get? b=some u->h'.get? b=some u)(l:∃u,h'.get? e=some u)
  (new:JP X.prog X.w (upd H x o) h' x o):Inv X ad σ (upd H x o) { s with heap:=h',toks:=t' }:=I.un (Un.write v he k l) (I.hok.write v he k l new)
theorem Inv.weak{σ':List (Option V)}(I:Inv X ad σ H s)(u:σ'.length=σ.length)(w:∀(i:Nat) v,σ'[i]?=some (some v)->σ[i]?=some (some v)):Inv X ad σ' H s :=
 ⟨I.ok,I.os,I.bare,I.base,let ⟨m,hn,hl'⟩:=I.loc;⟨m,hn,fun i x v o l y=>hl' i x v o (w i v l) y⟩,I.cell,I.free,I.freeC,I.pin,I.hok,u.trans I.len⟩
theorem Inv.pins_of{o:qO}(I:Inv X ad σ H s)(h:∀p∈o,s.heap.get? p.1=some p.2/\H p.1=none/\p.1≠X.env.locals/\p.1∉X.fs/\∀v,p.2.data≠.cell v):Inv X o σ H s :=
 ⟨I.ok,I.os,I.bare,I.base,I.loc,I.cell,I.free,I.freeC,fun p u=>(ax.mp u).elim (fun z=>I.pin p (mS _ z)) (h p),I.hok,I.len⟩
theorem zj7{N:List Str}(u:N.Nodup){i j:Nat}{x:Str}(a:N[i]?=some x)(b:N[j]?=some x):i=j:=by
 obtain⟨v,o⟩:=av.mp a;obtain⟨y,l⟩:=av.mp b;exact(List.getElem_inj u).mp (o.trans l.symm)
theorem zeY{M:pf}{A:br}{E:qV}{i:Nat}{x:Str}{v:V}{u:ah}{Q:Unit->aw->Prop}(I:Inv X ad σ H s)(hN:X.N.Nodup)(hi:X.N[i]?=some x)(hx:Loc X.env.scope x)(r:RelV v u)
  (h:∀s',Inv X ad (σ.set i (some v)) H s'->(∃a,eZ a s.heap s'.heap/\(a=X.env.locals\/X.env.cells.lookup x=some a))->Q () s') (hf:X.fn x=true\/X.env.scope.names.lookup x=some .local:=by walk_at "F"):wpAny M A (storeName X.env x u) Q E s:=by
 obtain⟨m,hn,hl⟩:=id I.loc;have Z:(X.env.scope.kind == .class||(X.env.scope.kind == .module&&X.env.locals != X.env.globals))=false:=by rw[I.ok.kind];rfl
 have L:i<σ.length:=by rw[I.len];exact(av.mp hi).1
 have cne:=I.cne;have tracked:∀{a:au} {h':bq},(∃o,s.heap.get? a=some o/\H a=none)->eZ a s.heap h'->HOk X.prog X.w H h':=fun {a h'} ha C b ob e=>by
  obtain⟨_,_,Io⟩:=ha;refine(I.hok b ob e).stay (fun c w' hc q=>(C.2 c ?_).trans q) (fun _ q=>q) (fun _ _ q=>q) fun _ _ _ q=>q
  rintro rfl;rcases hc with rfl|hc
  ·rw[Io]at e;cases e
  ·rw[Io]at hc;cases hc
 rcases hx with hk|hk
 ·refine wpAny_storeName_local hk hn (fun h' hn' C=>?_) Z
  obtain⟨oL,_,_,hoL,_⟩:=id hn;refine h _ ⟨I.ok,I.os,I.bare,⟨fun b o e n N hx=>?_,fun b o e n N hx=>?_,I.base.free,fun b o e hx=>?_,I.base.tups,I.base.frzs,I.base.tbls⟩,⟨_,hn',fun j y v' G J e3=>?_⟩,fun y c e=>?_,I.free,I.freeC,fun p hp=>?_,tracked ⟨oL,hoL,I.free⟩ C,by simpa using I.len⟩ ⟨_,C,.inl rfl⟩
  ·exact(C.2 b (aK (aL (aD e) I.ok.above))).trans (I.base.keep b o e n N hx)
  ·obtain⟨sl,G⟩:=I.base.slot b o e n N hx;exact⟨sl,(C.2 b (aK (aL (aD e) I.ok.above))).trans G⟩
  ·obtain⟨o',G⟩:=I.base.there b o e hx;exact⟨o',(C.2 b (aK (aL (aD e) I.ok.above))).trans G⟩
  ·by_cases hj:j=i
   ·subst hj;rw[hi]at G;cases G;rw[fV L]at J;cases J;exact⟨u,r,.inl ⟨hk,by simp⟩⟩
   ·rw[dI (gh hj)]at J;obtain⟨u',r',q⟩:=hl j y v' G J e3;refine⟨u',r',?_⟩;rcases q with⟨k,e⟩|⟨k,c,e,z⟩
    ·refine .inl ⟨k,?_⟩;have:y≠x:=fun e=>hj (zj7 hN G (e▸hi))
     simp[this,e]
    ·exact .inr ⟨k,c,e,z.sameBut C (cne y c e)⟩
  ·obtain⟨w',z⟩:=I.cell y c e;exact⟨w',z.sameBut C (cne y c e)⟩
  ·obtain⟨e,n,ne,nf,d⟩:=I.pin p hp;exact⟨(C.2 p.1 ne).trans e,n,ne,nf,d⟩
 ·have R:X.fn x=true:=by
   rcases hf with z|z
   ·exact z
   ·rw[z]at hk;cases hk
  obtain⟨c,hc⟩:=I.ok.has x (.inl hk);obtain⟨w',z⟩:=I.cell x c hc;refine wpAny_storeName_cell I.ok.kind hk hc z (fun h' Y C=>?_)
  obtain⟨oc,S,U⟩:=id z;refine h { s with heap:=h' } ⟨I.ok,I.os,I.bare,⟨fun b o e n N hx=>?_,fun b o e n N hx=>?_,I.base.free,fun b o e hx=>?_,I.base.tups,I.base.frzs,I.base.tbls⟩,⟨m,hn.sameBut C (gh (cne x c hc)),fun j y v' G J e3=>?_⟩,fun y c' e=>?_,I.free,I.freeC,fun p hp=>?_,tracked ⟨oc,S,I.freeC x c hc⟩ C,by simpa using I.len⟩ ⟨c,C,.inr hc⟩
  ·exact(C.2 b (aK (aL (aD e) (I.ok.cab x c R hc)))).trans (I.base.keep b o e n N hx)
  ·obtain⟨sl,G⟩:=I.base.slot b o e n N hx;exact⟨sl,(C.2 b (aK (aL (aD e) (I.ok.cab x c R hc)))).trans G⟩
  ·obtain⟨o',G⟩:=I.base.there b o e hx;exact⟨o',(C.2 b (aK (aL (aD e) (I.ok.cab x c R hc)))).trans G⟩
  ·by_cases hj:j=i
   ·subst hj;rw[hi]at G;cases G;rw[fV L]at J;cases J;exact⟨u,r,.inr ⟨.inl hk,c,hc,Y⟩⟩
   ·rw[dI (gh hj)]at J;obtain⟨u',r',q⟩:=hl j y v' G J e3;refine⟨u',r',?_⟩;rcases q with q|⟨k,c',e,z'⟩
    ·exact .inl q
    ·refine .inr ⟨k,c',e,z'.sameBut C ?_⟩;rintro rfl;exact hj (zj7 hN G (I.ok.inj _ _ _ e hc▸hi))
  ·by_cases hcc:c'=c
   ·subst hcc;exact⟨_,Y⟩
   ·obtain⟨w2,z2⟩:=I.cell y c' e;exact⟨w2,z2.sameBut C hcc⟩
  ·obtain⟨e,n,ne,nf,d⟩:=I.pin p hp;refine⟨(C.2 p.1 ?_).trans e,n,ne,nf,d⟩;intro q;rw[q,S]at e;have q':oc=p.2:=ba e;exact d w' (by rw[<- q'];exact U)
theorem Va{M:pf}{A:br}{E:qV}{i:Nat}{x:Str}{v:V}{u:ah}{Q:Unit->aw->Prop}(I:Inv X ad σ H s)(C:X.N.Nodup)(hi:X.N[i]?=some x)(hx:Loc X.env.scope x)(r:RelV v u)
  (h:∀s',Inv X ad (σ.set i (some v)) H s'->Q () s') (hf:X.fn x=true\/X.env.scope.names.lookup x=some .local:=by walk_at "F"):wpAny M A (storeName X.env x u) Q E s :=
 zeY I C hi hx r (fun s' y _=>h s' y) hf
theorem Inv.call'{s':aw}{ch:List au}(I:Inv X ad σ H s)(v:s'.os=s.os)(u:Un (frs X.stack) ch H H' s.heap s'.heap)(hok:HOk X.prog X.w H' s'.heap)(y:iZ s'.gens)
  (l:∀b∈ch,(b∈X.ex\/X.s₀.heap.objs.size<=b)/\b≠X.env.locals/\(∀x c,X.env.cells.lookup x=some c->c≠b)/\∀p∈X.pn++ad,p.1≠b):Inv X ad σ H' s':=by
 obtain⟨h',g',d',t',o⟩:=s';have e:o=s.os:=v;subst e;exact I.call (g':=g') (t':=t') (d':=d') u hok y l
end
abbrev XK:=ah->Option au->Hp->Prop
abbrev St:=List (Option V)
abbrev VK:=V->Hp->Prop
abbrev TE:=St->Hp->VK->Prop
abbrev TT:=St->Hp->(Bool->Hp->Prop)->Prop
abbrev TA:=St->Hp->(List V->Hp->Prop)->Prop
structure Ends where
 nx:St->Hp->Prop
 rt:VK
 bk:St->Hp->Prop:=fun _ _=>False
 ct:St->Hp->Prop:=fun _ _=>False
abbrev TS:=Ends->St->Hp->Prop
def EP(X:Cx)(ad:qO)(σ:St)(Q:VK)(u:ah)(s':aw):Prop:=∃v H',Inv X ad σ H' s'/\RelV v u/\Q v H'
def TP(X:Cx)(ad:qO)(σ:St)(Q:Bool->Hp->Prop)(b:Bool)(s':aw):Prop:=∃H',Inv X ad σ H' s'/\Q b H'
def AP(X:Cx)(ad:qO)(σ:St)(Q:List V->Hp->Prop)(o:List ah)(s':aw):Prop:=∃l H',Inv X ad σ H' s'/\Vals l o/\Q l H'
def SP(X:Cx)(ad:qO)(D:Ends)(f:Flow)(s':aw):Prop :=
 match f with
 | .next=>∃σ' H',Inv X ad σ' H' s'/\D.nx σ' H'
 | .brk=>∃σ' H',Inv X ad σ' H' s'/\D.bk σ' H'
 | .cont=>∃σ' H',Inv X ad σ' H' s'/\D.ct σ' H'
 | .ret u=>∃v σ' H',Inv X ad σ' H' s'/\RelV v u/\D.rt v H'
def PE(X:Cx)(e:aZ)(t:TE):Prop :=
 ∀(ad:qO) (s:aw) (σ:St) (H:Hp) (Q:VK),Inv X ad σ H s->t σ H Q->wpAny (model X.prog X.w) X.A (eval e X.env) (EP X ad σ Q) X.xe s
def PT(X:Cx)(e:aZ)(t:TT):Prop :=
 ∀(ad:qO) (s:aw) (σ:St) (H:Hp) (Q:Bool->Hp->Prop),Inv X ad σ H s->t σ H Q->wpAny (model X.prog X.w) X.A (isTrue e X.env (eval e X.env)) (TP X ad σ Q) X.xe s
def PW(X:Cx)(e:aZ)(t:TT):Prop :=
 ∀(whole:Sem ah) (ad:qO) (s:aw) (σ:St) (H:Hp) (Q:Bool->Hp->Prop),Inv X ad σ H s->t σ H Q->wpAny (model X.prog X.w) X.A (isTrue e X.env whole) (TP X ad σ Q) X.xe s
theorem PW.pt{X:Cx}{e:aZ}{t:TT}(h:PW X e t):PT X e t:=h _
def PA(X:Cx)(l:List aZ)(t:TA):Prop :=
 ∀(pos:Pos) (ad:qO) (s:aw) (σ:St) (H:Hp) (Q:List V->Hp->Prop),Inv X ad σ H s->t σ H Q->wpAny (model X.prog X.w) X.A (spliced (backTo pos (starEach l X.env))) (AP X ad σ Q) X.xe s
def PS(X:Cx)(st:eS)(t:TS):Prop :=
 ∀(ad:qO) (s:aw) (σ:St) (H:Hp) (D:Ends),Inv X ad σ H s->t D σ H->wpAny (model X.prog X.w) X.A (exec st X.env) (SP X ad D) X.xe s
def PSs(X:Cx)(st:List eS)(t:TS):Prop :=
 ∀(ad:qO) (s:aw) (σ:St) (H:Hp) (D:Ends),Inv X ad σ H s->t D σ H->wpAny (model X.prog X.w) X.A (execs st X.env) (SP X ad D) X.xe s
theorem thn{α:Type}{t:Sem α}{Q l:α->aw->Prop}{M:pf}{A:br}{E:qV}{s:aw}(h:wpAny M A t Q E s)(o:∀a s,Q a s->l a s):wpAny M A t l E s:=eu h o fun _ _ x=>x
section
variable{X:Cx}
def tVar(i:Nat):TE:=fun σ H Q=>∃v,σ[i]?=some (some v)/\Q v H
def tC(v:V):TE:=fun _ H Q=>Q v H
theorem UL{i:Nat}{x:Str}{pos:Pos}(L:X.N[i]?=some x)(G:Vis X.env.scope x)(hd:(x == ("__debug__":Str))=false:=by decide) (C:(x == ("__classdict__":Str))=false:=by decide):PE X (.Name x pos) (tVar i):=by
 intro ad s σ H Q I h;obtain⟨v,e,h⟩:=h;obtain⟨m,J,S⟩:=I.loc;obtain⟨u,r,l⟩:=S i x v L e G;have fin:EP X ad σ Q u s:=⟨v,H,I,r,h⟩;rcases l with⟨y,R⟩|⟨y,c,hc,o⟩
 ·exact pZ (mT I.ok.kind y J R fin) hd
 ·rcases y with y|y
  ·exact pZ (nA I.ok.kind y hc o fin) hd
  ·exact pZ (wpAny_loadName_free I.ok.kind y hc o fin C) hd
theorem JN{i j pos}:PE X (.Constant (.int i) j pos) (tC (.int i)):=fun _ _ _ H _ I h=>wpAny_Constant_int ⟨.int i,H,I.tok _,⟨_,rfl⟩,h⟩
theorem zwq{b j pos}:PE X (.Constant (.bool b) j pos) (tC (.bl b)):=fun _ _ _ H _ I h=>Constant_bool ⟨.bl b,H,I,rfl,h⟩
theorem zsX{j pos}:PE X (.Constant .none j pos) (tC .non):=fun _ _ _ H _ I h=>Constant_none ⟨.non,H,I,rfl,h⟩
theorem zsS{x j pos}:PE X (.Constant (.str x) j pos) (tC (.str x)):=fun _ _ _ H _ I h=>Calls.Constant_str ⟨.str x,H,I.tok _,⟨_,rfl⟩,h⟩
def Gl(X:Cx)(x:Str):Prop:=X.env.kindOf x=some .globalImplicit
theorem zm4{E:qV}{ad:qO}{s:aw}{σ:St}{H:Hp}{x:Str}{u:ah}{pos:Pos}{Q:qV}(I:Inv X ad σ H s)(o:Gl X x)(l:X.mg x=some u)(h:Q u s)
  (hd:(x == ("__debug__":Str))=false:=by decide):wpAny (model X.prog X.w) X.A (eval (.Name x pos) X.env) Q E s :=
 kg I.ok.kind o (Calls.loadGlobal_global (by rw[I.ok.glob];exact I.mod.glob.keeps I.bk) l h) hd
theorem ZU{E:qV}{ad:qO}{s:aw}{σ:St}{H:Hp}{x:Str}{u:ah}{pos:Pos}{Q:qV}(I:Inv X ad σ H s)(y:Gl X x)(C:X.mg x=none)(l:bootBuiltins x=some u)(h:Q u s)
  (v:x ≠ "__name__":=by decide) (hd:(x == ("__debug__":Str))=false:=by decide):wpAny (model X.prog X.w) X.A (eval (.Name x pos) X.env) Q E s:=by
 obtain⟨J,G,o⟩:=I.mod.blt;exact kg I.ok.kind y (Calls.loadGlobal_builtin (by rw[I.ok.glob];exact I.mod.glob.keeps I.bk) C (by rw[I.ok.blt];exact G.keeps I.bk) ((o x v).trans l) h) hd
theorem zqL{x:Str}{v:V}{u:ah}{pos:Pos}(C:Gl X x)(o:X.mg x=none)(l:bootBuiltins x=some u)(r:RelV v u)(y:x ≠ "__name__":=by decide) (hd:(x == ("__debug__":Str))=false:=by decide):PE X (.Name x pos) (tC v) :=
 fun _ _ _ H _ I h=>ZU I C o l ⟨v,H,I,r,h⟩ y hd
variable{a b:aZ}{ta tb:TE}{pos:Pos}
variable{tA tB':TT}{rest:List aZ}
def tAnd(t u:TT):TT:=fun σ H Q=>t σ H fun c l=>if c=true then u σ l Q else Q false l
def tOr(t u:TT):TT:=fun σ H Q=>t σ H fun c l=>if c=true then Q true l else u σ l Q
def tNot(t:TT):TT:=fun σ H Q=>t σ H fun c l=>Q (!c) l
theorem zqx(u:PT X a tA):PW X (.BoolOp .And [a] pos) tA:=by
 intro v ad s σ H Q I h;refine isTrue_and (thn (u ad s σ H Q I h) fun c s1 e=>?_)
 cases c with
 | true=>exact isTrue_and_nil e
 | false=>exact e
theorem zsG(u:PT X a tA):PW X (.BoolOp .Or [a] pos) tA:=by
 intro v ad s σ H Q I h;refine isTrue_or (thn (u ad s σ H Q I h) fun c s1 e=>?_)
 cases c with
 | false=>exact isTrue_or_nil e
 | true=>exact e
theorem zsH(G:PT X a tA)(y:PW X (.BoolOp .And (b::rest) pos) tB'):PW X (.BoolOp .And (a::b::rest) pos) (tAnd tA tB'):=by
 intro C ad s σ H Q I h;refine isTrue_and (thn (G ad s σ H _ I h) fun c s1 ⟨v,u,x⟩=>?_)
 cases c with
 | true=>exact y C ad s1 σ v Q u x
 | false=>exact⟨v,u,x⟩
theorem zwl(G:PT X a tA)(y:PW X (.BoolOp .Or (b::rest) pos) tB'):PW X (.BoolOp .Or (a::b::rest) pos) (tOr tA tB'):=by
 intro C ad s σ H Q I h;refine isTrue_or (thn (G ad s σ H _ I h) fun c s1 ⟨v,u,x⟩=>?_)
 cases c with
 | true=>exact⟨v,u,x⟩
 | false=>exact y C ad s1 σ v Q u x
theorem zsJ(u:PT X a tA):PT X (.UnaryOp .Not a pos) (tNot tA):=by
 intro ad s σ H Q I h;exact isTrue_not (u ad s σ H (fun c l=>Q (!c) l) I h)
def zvL(ta tb:TE):TE:=fun σ H Q=>ta σ H fun x o=>∃c,x=.bl c/\if c=true then tb σ o Q else Q (.bl false) o
def tOrV(ta tb:TE):TE:=fun σ H Q=>ta σ H fun x o=>∃c,x=.bl c/\if c=true then Q (.bl true) o else tb σ o Q
def zvI(ta:TE):TE:=fun σ H Q=>ta σ H fun x o=>∃c,x=.bl c/\Q (.bl (!c)) o
theorem zsV{op}{t:TE}(h:PE X a t):PE X (.BoolOp op [a] pos) t:=fun ad s σ H Q I hw=>BoolOp_one (h ad s σ H Q I hw)
theorem zs0(J:PE X a ta)(G:PE X (.BoolOp .And (b::rest) pos) tb):PE X (.BoolOp .And (a::b::rest) pos) (zvL ta tb):=by
 intro ad s σ H Q I h;refine BoolOp_and (thn (J ad s σ H _ I h) fun v s1 ⟨x,C,y,L,u⟩=>?_)
 obtain⟨c,rfl,u⟩:=u;cases L;refine ck ?_;cases c with
 | true=>exact G ad s1 σ C Q y u
 | false=>exact⟨.bl false,C,y,rfl,u⟩
theorem zwo(J:PE X a ta)(G:PE X (.BoolOp .Or (b::rest) pos) tb):PE X (.BoolOp .Or (a::b::rest) pos) (tOrV ta tb):=by
 intro ad s σ H Q I h;refine BoolOp_or (thn (J ad s σ H _ I h) fun v s1 ⟨x,C,y,L,u⟩=>?_)
 obtain⟨c,rfl,u⟩:=u;cases L;refine ck ?_;cases c with
 | false=>exact G ad s1 σ C Q y u
 | true=>exact⟨.bl true,C,y,rfl,u⟩
theorem zsW(L:PE X a ta):PE X (.UnaryOp .Not a pos) (zvI ta):=by
 intro ad s σ H Q I h;refine UnaryOp_ (thn (L ad s σ H _ I h) fun v s1 ⟨x,J,C,G,u⟩=>?_)
 obtain⟨c,rfl,u⟩:=u;cases G;exact not_of (ck ⟨.bl (!c),J,C,rfl,u⟩)
def tIf(t:TT)(ta tb:TE):TE:=fun σ H Q=>t σ H fun c l=>if c=true then ta σ l Q else tb σ l Q
theorem zoY{c:aZ}(hc:PT X c tA)(y:PE X a ta)(v:PE X b tb):PE X (.IfExp c a b pos) (tIf tA ta tb):=by
 intro ad s σ H Q I h;refine wpAny_IfExp (thn (hc ad s σ H _ I h) fun d s1 ⟨o,l,u⟩=>?_)
 cases d with
 | true=>exact y ad s1 σ o Q l u
 | false=>exact v ad s1 σ o Q l u
end
def SqL(K:qF)(H:Hp)(a:au)(xs:List V):Prop :=
 Rd H a (.lst xs) \/
  ∃(o:Obj) (its:Array ah) (n:Nat),K.lookup a=some o/\o.cls=.type "list" /\ o.dict=none/\o.data=.seq its n/\its.size<=sizeLine/\Vals xs its.toList
def SqT(K:qF)(H:Hp)(a:au)(xs:List V):Prop :=
 Rd H a (.tup xs) \/
  ∃(o:Obj) (its:Array ah) (n:Nat),K.lookup a=some o/\o.cls=.type "tuple" /\ o.data=.seq its n/\its.size<=sizeLine/\Vals xs its.toList
def absV:ah->Option V
 | .none=>some .non
 | .bool b=>some (.bl b)
 | .int i _=>some (.int i)
 | .str x _=>some (.str x)
 | .bytes b _=>some (.byt b)
 | .float b _=>some (.flt b)
 | .ref a=>some (.ref a)
 | .type n=>some (.ty n)
 | _=>none
theorem RelV.abs{x:V}{u:ah}(r:RelV x u):absV u=some x:=by
 cases x with
 | non=>cases r;rfl
 | bl _=>cases r;rfl
 | int _=>obtain⟨t,rfl⟩:=r;rfl
 | str _=>obtain⟨t,rfl⟩:=r;rfl
 | byt _=>obtain⟨t,rfl⟩:=r;rfl
 | flt _=>obtain⟨t,rfl⟩:=r;rfl
 | ref _=>cases r;rfl
 | ty _=>cases r;rfl
theorem RelV.inj{x y:V}{u:ah}(r:RelV x u)(q:RelV y u):x=y:=ba (r.abs.symm.trans q.abs)
theorem Vals.inj{xs ys:List V}{l:List ah}(h:Vals xs l)(k:Vals ys l):xs=ys:=by
 induction h generalizing ys with
 | nil=>cases k;rfl
 | cons r t o =>
  cases k with
  | cons u t'=>rw[r.inj u,o t']
section
variable{X:Cx}{ad:qO}{σ:St}{H:Hp}{s:aw}{a:au}{xs ys:List V}
theorem SqL.of{K:qF}(h:H a=some (.lst xs)):SqL K H a xs:=.inl (.inl h)
theorem Inv.list(I:Inv X ad σ H s)(h:SqL X.K H a xs):∃its:List ah,Vals xs its/\PlainL s.heap a its.toArray/\xs.length<=sizeLine:=by
 rcases h with h|⟨o,its,n,l,hc,hd,u,v,r⟩
 ·obtain⟨z,its,n,r,e⟩:=h.ok I.hok;exact⟨its,r,⟨_,n,e,rfl,rfl,rfl⟩,z⟩
 ·refine⟨its.toList,r,⟨o,n,I.kIn a o l,hc,hd,by simpa using u⟩,?_⟩
  have e:=r.length;simp only[eX]at e;lia
theorem Inv.tuple(I:Inv X ad σ H s)(h:SqT X.K H a xs):∃its:List ah,Vals xs its/\nH s.heap a its.toArray/\xs.length<=sizeLine:=by
 rcases h with h|⟨o,its,n,l,hc,u,v,r⟩
 ·obtain⟨z,its,r,p⟩:=h.ok I.hok;exact⟨its,r,p.tup,z⟩
 ·refine⟨its.toList,r,⟨o,I.kIn a o l,hc,n,by simpa using u⟩,?_⟩
  have e:=r.length;simp only[eX]at e;lia
theorem Inv.list_inj(I:Inv X ad σ H s)(h:SqL X.K H a xs)(h':SqL X.K H a ys):xs=ys:=by
 obtain⟨its,r,⟨o,n,e,_,_,d⟩,_⟩:=I.list h;obtain⟨its',u,⟨x,v,l,_,_,d'⟩,_⟩:=I.list h';rw[e]at l;cases l;rw[d]at d'
 injection d' with d1 _
 have:its=its':=by simpa using congrArg aW d1
 subst this;exact r.inj u
theorem Inv.tuple_inj(I:Inv X ad σ H s)(h:SqT X.K H a xs)(h':SqT X.K H a ys):xs=ys:=by
 obtain⟨its,r,⟨o,e,_,n,d⟩,_⟩:=I.tuple h;obtain⟨its',u,⟨x,l,_,v,d'⟩,_⟩:=I.tuple h';rw[e]at l;cases l;rw[d]at d'
 injection d' with d1 _
 have:its=its':=by simpa using congrArg aW d1
 subst this;exact r.inj u
end
abbrev Cx.wish(X:Cx)(E:qV):Cx:={ X with xe:=E }
abbrev Cx.nox(X:Cx):Cx:=X.wish fun _ _=>False
theorem Cx.Ok.wish{X:Cx}(ok:X.Ok)(E:qV):(X.wish E).Ok :=
 ⟨ok.mod,ok.kind,ok.glob,ok.blt,ok.above,ok.inj,ok.has,ok.cab,ok.hd,ok.frames,ok.stk,ok.exf,ok.bs,ok.bsz,ok.noex,ok.exfs,ok.funs,ok.frf⟩
theorem Cx.Ok.unwish{X:Cx}{E:qV}(ok:(X.wish E).Ok):X.Ok :=
 ⟨ok.mod,ok.kind,ok.glob,ok.blt,ok.above,ok.inj,ok.has,ok.cab,ok.hd,ok.frames,ok.stk,ok.exf,ok.bs,ok.bsz,ok.noex,ok.exfs,ok.funs,ok.frf⟩
section
variable{X:Cx}{ad:qO}{σ:St}{H:Hp}{s:aw}{E:qV}
theorem Inv.wish(I:Inv X ad σ H s)(E:qV):Inv (X.wish E) ad σ H s:=⟨I.ok.wish E,I.os,I.bare,I.base,I.loc,I.cell,I.free,I.freeC,I.pin,I.hok,I.len⟩
theorem Inv.unwish(I:Inv (X.wish E) ad σ H s):Inv X ad σ H s:=⟨I.ok.unwish,I.os,I.bare,I.base,I.loc,I.cell,I.free,I.freeC,I.pin,I.hok,I.len⟩
theorem SP.unwish{D:Ends}{f:Flow}{s':aw}(h:SP (X.wish E) ad D f s'):SP X ad D f s':=by
 cases f with
 | next=>obtain⟨σ',H',I,q⟩:=h;exact⟨σ',H',I.unwish,q⟩
 | brk=>obtain⟨σ',H',I,q⟩:=h;exact⟨σ',H',I.unwish,q⟩
 | cont=>obtain⟨σ',H',I,q⟩:=h;exact⟨σ',H',I.unwish,q⟩
 | ret u=>obtain⟨v,σ',H',I,r,q⟩:=h;exact⟨v,σ',H',I.unwish,r,q⟩
theorem PSs.nox{st:List eS}{t:TS}(h:PSs X.nox st t):PSs X st t:=fun ad s σ H D I hw =>
 eu (h ad s σ H D (I.wish _) hw) (fun _ _ q=>q.unwish) fun _ _ z=>dm z
end
section
variable{X:Cx}{st:eS}{rest:List eS}{t u:TS}{e:aZ}{te:TE}{pos:Pos}
def zvJ:TS:=fun D σ H=>D.nx σ H
def tSeq(t u:TS):TS:=fun D σ H=>t { D with nx:=u D } σ H
theorem zi1:PSs X [] zvJ:=fun _ _ σ H _ I h=>iS ⟨σ,H,I,h⟩
theorem QQ(l:PS X st t)(x:PSs X rest u):PSs X (st::rest) (tSeq t u):=by
 intro ad s σ H D I h;refine oQ (thn (l ad s σ H { D with nx:=u D } I h) fun f s1 q=>?_)
 cases f with
 | next =>
  obtain⟨σ',H',o,q⟩:=q;exact x ad s1 σ' H' D o q
 | ret v=>exact q
 | brk=>exact q
 | cont=>exact q
theorem Z8(l:PS X st t):PSs X [st] t:=by
 intro ad s σ H D I h;refine oQ (thn (l ad s σ H D I h) fun f s1 q=>?_)
 cases f with
 | next=>exact iS q
 | ret v=>exact q
 | brk=>exact q
 | cont=>exact q
theorem Inv.quiet{ad:qO}{σ:St}{H:Hp}{s:aw}(I:Inv X ad σ H s):interactive X.env=false:=by simp[interactive,I.ok.kind]
def zvK(te:TE):TS:=fun D σ H=>te σ H fun _ l=>D.nx σ l
theorem zqB(he:PE X e te)(C:swapsWith e none pos.line X.env=pure false:=by rfl):PS X (.Expr e pos) (zvK te):=by
 intro ad s σ H D I h;exact wpAny_Expr_any (thn (he ad s σ H _ I h) fun v s1 ⟨x,o,l,G,y⟩=>⟨σ,o,l,y⟩) I.quiet C
def tRet(te:TE):TS:=fun D σ H=>te σ H D.rt
theorem VP(he:PE X e te):PS X (.Return (some e) pos) (tRet te):=by
 intro ad s σ H D I h;exact wpAny_Return_some (thn (he ad s σ H _ I h) fun v s1 ⟨x,y,l,o,C⟩=>⟨x,σ,y,l,o,C⟩)
def tIfS(c:TT)(t u:TS):TS:=fun D σ H=>c σ H fun b l=>if b=true then t D σ l else u D σ l
theorem zqA{c:aZ}{a b:List eS}{o:TT}(hc:PT X c o)(C:PSs X a t)(y:PSs X b u):PS X (.If c a b pos) (tIfS o t u):=by
 intro ad s σ H D I h;refine wpAny_If (thn (hc ad s σ H _ I h) fun d s1 ⟨v,l,x⟩=>?_)
 cases d with
 | true=>exact C ad s1 σ v D l x
 | false=>exact y ad s1 σ v D l x
end
abbrev TG:=V->St->Hp->(St->Hp->Prop)->Prop
abbrev TGs:=List V->St->Hp->(St->Hp->Prop)->Prop
def PG(X:Cx)(target:aZ)(t:TG):Prop :=
 ∀(ad:qO) (s:aw) (σ:St) (H:Hp) (v:V) (u:ah) (Q:St->Hp->Prop),Inv X ad σ H s->RelV v u->t v σ H Q ->
  wpAny (model X.prog X.w) X.A (assign target X.env u) (fun _ s'=>∃σ' H',Inv X ad σ' H' s'/\Q σ' H') X.xe s
def PGs(X:Cx)(ts:List aZ)(t:TGs):Prop :=
 ∀(ad:qO) (s:aw) (σ:St) (H:Hp) (o:List V) (l:List ah) (Q:St->Hp->Prop),Inv X ad σ H s->Vals o l->t o σ H Q ->
  wpAny (model X.prog X.w) X.A (assignInOrder ((assignEach ts X.env).map (·.2)) l) (fun _ s'=>∃σ' H',Inv X ad σ' H' s'/\Q σ' H') X.xe s
abbrev TSet:=V->V->V->Hp->(Hp->Prop)->Prop
def PSet(X:Cx)(t:TSet):Prop :=
 ∀(ad:qO) (s:aw) (σ:St) (H:Hp) (o i v:V) (l x u:ah) (Q:Hp->Prop),Inv X ad σ H s->RelV o l->RelV i x->RelV v u->t o i v H Q ->
  wpAny (model X.prog X.w) X.A (setItem l x u) (fun _ s'=>∃H',Inv X ad σ H' s'/\Q H') X.xe s
abbrev TIp:=V->V->Hp->VK->Prop
def PIp(X:Cx)(op:p5)(t:TIp):Prop :=
 ∀(ad:qO) (s:aw) (σ:St) (H:Hp) (x y:V) (v u:ah) (Q:VK),Inv X ad σ H s->RelV x v->RelV y u->t x y H Q ->
  wpAny (model X.prog X.w) X.A (inplaceOp op v u) (EP X ad σ Q) X.xe s
section
variable{X:Cx}{pos:Pos}
def Zq(i:Nat):TG:=fun v σ H Q=>Q (σ.set i (some v)) H
theorem zqG{i:Nat}{x:Str}(C:X.N.Nodup)(hi:X.N[i]?=some x)(hx:Loc X.env.scope x)(hf:X.fn x=true\/X.env.scope.names.lookup x=some .local:=by walk_at "F"):PG X (.Name x pos) (Zq i):=by
 intro ad s σ H v u Q I r h;exact kU (Va I C hi hx r (fun s' y=>⟨_,H,y,h⟩) hf)
def gNil:TGs:=fun l σ H Q=>l=[]/\Q σ H
def zxa(t:TG)(u:TGs):TGs:=fun l σ H Q=>∃v r,l=v::r/\t v σ H fun σ' H'=>u r σ' H' Q
theorem zqF:PGs X [] gNil:=by
 intro ad s σ H o l Q I r h;obtain⟨e,h⟩:=h;subst e;cases r;exact oh ⟨σ,H,I,h⟩
theorem zoW{e:aZ}{l:List aZ}{t:TG}{u:TGs}(R:PG X e t)(x:PGs X l u)
  (J:(assignEach (e::l) X.env).map (·.2)=assign e X.env::(assignEach l X.env).map (·.2):=by rfl):PGs X (e::l) (zxa t u):=by
 intro ad s σ H U Y Q I r h;obtain⟨v,S,C,h⟩:=h;subst C;cases r with
 | cons r y =>
  rw[J];refine kh (thn (R ad s σ H _ _ _ I r h) fun _ s1 ⟨o,L,G,N⟩=>?_)
  exact x ad s1 o L _ _ Q G y N
def gTup(K:qF)(n:Nat)(t:TGs):TG:=fun v σ H Q=>∃a xs,v=.ref a/\SqT K H a xs/\xs.length=n/\t xs σ H Q
theorem zsQ{y:List aZ}{k:Nat}{t:TGs}{n:Nat}(hc:X.calm=true)(h:PGs X y t)
  (J:(assignEach y X.env).length=n:=by rfl) (C:(assignEach y X.env).findIdx? (·.1)=none:=by rfl):PG X (.Tuple y k pos) (gTup X.K n t):=by
 intro ad s σ H v u Q I r hw;obtain⟨a,xs,L,N,U,hw⟩:=hw;subst L;cases r;obtain⟨its,G,S,Y⟩:=I.tuple N;refine assign_Tuple_tuple (I.ok.hd hc) S (by simp[J,<- U,G.length]) C fun h' hx=>?_
 have R:Inv X ad σ H { s with heap:=h' }:=I.kept (t':=s.toks) fun b o e=>hx b o (aK (aD e)) e
 exact h ad _ σ H xs _ Q R (by simpa using G) hw
def gSub(to ti:TE)(t:TSet):TG:=fun v σ H Q=>to σ H fun o l=>ti σ l fun i u=>t o i v u fun x=>Q σ x
theorem pg_sub{o i:aZ}{to ti:TE}{t:TSet}(N:PE X o to)(hi:PE X i ti)(Z:PSet X t)
  (R:∀v,assign (.Subscript o i pos) X.env v=(do
   let l <- holding [v] (eval o X.env)
   let C <- holding [v,l] (eval i X.env)
   standAt pos
   holding [v,l,C] (setItem l C v)
   release [v,l,C] []):=by intro _;rfl):PG X (.Subscript o i pos) (gSub to ti t):=by
 intro ad s σ H v u Q I r h;rw[R];refine aa (cf (thn (N ad s σ H _ I h) fun l s1 ⟨x,H1,U,Y,q1⟩=>?_))
 refine aa (cf (thn (hi ad s1 σ H1 _ U q1) fun C s2 ⟨y,G,I2,J,q2⟩=>?_))
 refine aa (dE (aa (cf (thn (Z ad s2 σ G x y v l C u _ I2 Y J r q2) fun _ s3 ⟨L,I3,q3⟩=>?_))))
 exact wpAny_release ⟨σ,L,I3,q3⟩
def tAsg(o:TE)(g:TG):TS:=fun D σ H=>o σ H fun x l=>g x σ l D.nx
theorem VO{tg e:aZ}{l:TE}{g:TG}(he:PE X e l)(o:PG X tg g)(C:swapsWithSole [tg] e pos.line X.env=pure false:=by rfl)(hw:swappedStores [tg] e X.env=pure none:=by rfl)
  (L:(assignEach [tg] X.env).map (·.2)=[assign tg X.env]:=by rfl):PS X (.Assign [tg] e pos) (tAsg l g):=by
 intro ad s σ H D I h;refine wpAny_Assign_stores (thn (he ad s σ H _ I h) fun v s1 ⟨x,G,u,y,J⟩=>?_) C hw
 rw[L];exact thn (o ad s1 σ G x v _ u y J) fun _ s2 q=>q
theorem Um{i:Nat}{x:Str}{e:aZ}{C:TE}{u:Pos}(G:X.N.Nodup)(hi:X.N[i]?=some x)(hx:Loc X.env.scope x)(he:PE X e C)(R:swapsWith e (some (.Name x u)) pos.line X.env=pure false:=by rfl)(hf:X.fn x=true\/X.env.scope.names.lookup x=some .local:=by walk_at "F") :
  PS X (.Assign [.Name x u] e pos) (tAsg C (Zq i)):=by
 intro ad s σ H D I h;refine wpAny_Assign_Name (thn (he ad s σ H _ I h) fun v s1 ⟨y,U,J,L,Y⟩=>?_) R
 exact Va J G hi hx L (fun s2 S=>⟨_,U,S,Y⟩) hf
def tPar(i j:Nat)(o:TA):TS:=fun D σ H=>o σ H fun u l=>∃v w,u=[v,w]/\D.nx ((σ.set i (some v)).set j (some w)) l
theorem zsK{i j:Nat}{x y:Str}{a b:aZ}{ta:TA}{L py pt:Pos}{kt k2 pt2}(hc:X.calm=true)(Z:X.N.Nodup)(hi:X.N[i]?=some x)(hj:X.N[j]?=some y)(S:i≠j)
  (hx:X.env.scope.names.lookup x=some .local) (Y:X.env.scope.names.lookup y=some .local) (ha:PA X [a,b] ta)
  (hw:swappedStores [.Tuple [.Name x L,.Name y py] kt pt] (.Tuple [a,b] k2 pt2) X.env=pure (some [x,y]))
  (hs:swapsWithSole [.Tuple [.Name x L,.Name y py] kt pt] (.Tuple [a,b] k2 pt2) pos.line X.env=pure false:=by rfl) :
  PS X (.Assign [.Tuple [.Name x L,.Name y py] kt pt] (.Tuple [a,b] k2 pt2) pos) (tPar i j ta):=by
 intro ad s σ H D I h;rw[exec_Assign_arm];refine aa (dE ?_);rw[hs];refine aa (aj ?_);rw[if_neg (by decide)]
 refine aa (Tuple_ (thn (ha _ ad s σ H _ I h) fun us s1 ⟨vs,H1,I1,r1,R⟩=>?_))
 obtain⟨v,w,e1,R⟩:=R;subst e1;obtain⟨C,G,rfl,rv,U⟩:∃C G,us=[C,G]/\RelV v C/\RelV w G:=by
  cases r1 with
  | cons p q =>
   cases q with
   | cons p' q' =>
    cases q';exact⟨_,_,rfl,p,p'⟩
 refine bS ?_ (by show 2<=sizeLine;decide)
 have I2:Inv X ad σ H1 { s1 with heap:=s1.heap.push { cls:=.type "tuple",data:=.seq [C,G].toArray } }:=I1.kept (t':=s1.toks) fun b o e=>aq _ e
 rw[hw];refine aa (aj ?_);show wpAny (model X.prog X.w) X.A (do rule "assign.swapped-stores";let items <- unpackItems (.ref s1.heap.objs.size) 2 none;assignInOrder [fun v=>bindName X.env y v,fun v=>bindName X.env x v] items.reverse;pure yg) _ _ _
 refine aa (dw (aa (unpackItems_tuple (items:=#[C,G]) (I.ok.hd hc) (IsTup.new s1.heap _) fun h' J=>?_)))
 have I3:=I2.kept (h':=h') (t':=s1.toks) fun b o e=>J b o (aK (aD e)) e
 show wpAny _ _ (assignInOrder [fun v=>bindName X.env y v,fun v=>bindName X.env x v] [G,C] >>= fun _=>pure yg) _ _ _
 refine aa (kh (p7 (Va I3 Z hj (.inl Y) U (fun s2 I4=>?_) (.inr Y))))
 refine kh (p7 (Va I4 Z hi (.inl hx) rv (fun s3 I5=>oh (aj ?_)) (.inr hx)))
 rw[List.set_comm _ _ (gh S)]at I5;exact⟨_,H1,I5,R⟩
def tAug(i:Nat)(u:TE)(ti:TIp):TS:=fun D σ H=>∃x,σ[i]?=some (some x)/\u σ H fun y l=>ti x y l fun z o=>D.nx (σ.set i (some z)) o
theorem zpU{i:Nat}{x:Str}{e:aZ}{U:TE}{op:p5}{ti:TIp}{L:Pos}(Y:X.N.Nodup)(hi:X.N[i]?=some x)(hx:Loc X.env.scope x)(he:PE X e U)(ho:PIp X op ti)(hf:X.fn x=true\/X.env.scope.names.lookup x=some .local:=by walk_at "F") :
  PS X (.AugAssign (.Name x L) op e pos) (tAug i U ti):=by
 intro ad s σ H D I h;obtain⟨v,e1,h⟩:=h;obtain⟨m,hn,hl⟩:=I.loc;have S:Vis X.env.scope x:=by rcases hx with k|k;exact .inl k;exact .inr (.inl k)
 obtain⟨u,r,l⟩:=hl i x v hi e1 S;refine wpAny_AugAssign_Name ?_;have go:wpAny (model X.prog X.w) X.A (eval e X.env) (fun w R=>wpAny (model X.prog X.w) X.A (inplaceOp op u w) (fun r J=>wpAny (model X.prog X.w) X.A (storeName X.env x r) (fun _=>SP X ad D .next) X.xe J) X.xe R) X.xe s:=by
  refine thn (he ad s σ H _ I h) fun w s1 ⟨y,H1,I1,r1,q1⟩=>?_
  refine thn (ho ad s1 σ H1 v y u w _ I1 r r1 q1) fun z s2 ⟨zv,Z,I2,r2,q2⟩=>?_
  exact Va I2 Y hi hx r2 (fun s3 I3=>⟨_,Z,I3,q2⟩) hf
 rcases l with⟨C,hm⟩|⟨C,c,hc,G⟩
 ·exact mT I.ok.kind C hn hm go
 ·rcases C with C|C
  ·exact nA I.ok.kind C hc G go
  ·rcases hx with k|k
   ·have:X.env.scope.names.lookup x=some .free:=C;rw[k]at this;cases this
   ·have:X.env.scope.names.lookup x=some .free:=C;rw[k]at this;cases this
def ipI(f:Int->Int->Int):TIp:=fun x y H Q=>∃i j,x=.int i/\y=.int j/\Q (.int (f i j)) H
theorem zp4:PIp X .Add (ipI fun i j=>i+j):=by
 intro ad s σ H x y v u Q I C o h;obtain⟨i,j,l,G,q⟩:=h;subst l;subst G;obtain⟨t,rfl⟩:=C;obtain⟨t',rfl⟩:=o;exact iadd_int ⟨.int _,H,I.tok _,⟨_,rfl⟩,q⟩
end
section
variable{X:Cx}{pos:Pos}
def zse(c:TT)(u:TS):TS:=fun D σ H=>∃W:Nat->St->Hp->Prop,(∃m,W m σ H)/\∀m σ H,W m σ H ->
 c σ H fun b l=>if b=true then ∃N:St->Hp->Prop,(∀σ' H',N σ' H'->∃o,o<m/\W o σ' H')/\u { D with nx:=N,ct:=N,bk:=D.nx } σ l else D.nx σ l
theorem zoR{c:aZ}{body:List eS}{tc:TT}{Z:TS}(hp:oR (model X.prog X.w) X.A X.env X.xe)(hc:PT X c tc)(hb:PSs X body Z):PS X (.While c body [] pos) (zse tc Z):=by
 intro ad s σ H D I h;obtain⟨W,⟨m0,w0⟩,turn⟩:=h;refine wpAny_While (codeAny_whileLoop (fun n s'=>∃σ' H',Inv X ad σ' H' s'/\W n σ' H') ?_ m0 ⟨σ,H,I,w0⟩)
 rintro n s1 ⟨u,H1,I1,w1⟩;refine fv hp (thn (hc ad s1 u H1 _ I1 (turn n u H1 w1)) fun b s2 ⟨U,I2,C⟩=>?_)
 cases b with
 | true =>
  obtain⟨N,Y,C⟩:=C;rw[if_pos rfl];refine fv hp (thn (hb ad s2 u U _ I2 C) fun f s3 y=>?_)
  cases f with
  | next =>
   obtain⟨o,x,S,L⟩:=y;obtain⟨G,J,R⟩:=Y o x L;exact⟨G,J,o,x,S,R⟩
  | cont =>
   obtain⟨o,x,S,L⟩:=y;obtain⟨G,J,R⟩:=Y o x L;exact⟨G,J,o,x,S,R⟩
  | brk=>exact y
  | ret v=>exact y
 | false =>
  rw[if_neg aP];exact iS ⟨u,U,I2,C⟩
end
structure It where
 go:Nat->Hp->Prop
 yld:Nat->Hp->V->Hp->Prop
 stop:Nat->Hp->Prop
def FpOk(X:Cx)(ad:qO)(H:Hp)(b:au):Prop :=
 H b=none/\b≠X.env.locals/\b∉X.fs/\(b∈X.ex\/X.s₀.heap.objs.size<=b)/\(∀x c,X.env.cells.lookup x=some c->c≠b)/\∀p∈X.pn++ad,p.1≠b
theorem Inv.fpOk{X:Cx}{ad:qO}{σ:St}{H H':Hp}{s:aw}{b:au}(I:Inv X ad σ H s)(l:s.heap.objs.size<=b)(u:H' b=none):FpOk X ad H' b:=by
 refine⟨u,lP (aL I.lt l),I.nofs l,.inr (cy I.sz l),fun x c e z=>?_,fun p o z=>?_⟩
 ·obtain⟨v,q⟩:=I.cell x c e;exact absurd (aL q.lt (by rw[z];exact l)) (f7 _)
 ·exact absurd (aL (aD (I.pin p o).1) (by rw[z];exact l)) (f7 _)
structure Turn(P:aQ)(w:bz)(K:qF)(tg:aZ)(J:It)(fp:List au)(it:au)(tn:Nat->bq->Prop):Prop where
 mem:it∈fp
 obj:∀i h,tn i h->∀b∈fp,∃o,h.get? b=some o/\∀v,o.data≠.cell v
 keep:∀i h h',tn i h->(∀b∈fp,∀o,h.get? b=some o->h'.get? b=some o)->tn i h'
 item:∀(X:Cx),X.prog=P->X.w=w->X.K=K->X.calm=true->∀(i:Nat) (ad:qO) (s:aw) (σ:St) (H:Hp) (E:qV),Inv X ad σ H s->(∀b∈fp,FpOk X ad H b)->tn i s.heap->J.go i H ->
  wpAny (model P w) X.A (pyNext (.ref it)) (fun r s1=>∃u,r=some u /\
   wpAny (model P w) X.A (letOwnedTupleGo tg (.ref it) u) (fun _ s2=>∃x H',Inv X ad σ H' s2/\RelV x u/\J.yld i H x H'/\tn (i+1) s2.heap/\∀b∈fp,H' b=none) E s1) E s
 done:∀(X:Cx),X.prog=P->X.w=w->X.K=K->X.calm=true->∀(i:Nat) (ad:qO) (s:aw) (σ:St) (H:Hp) (E:qV),Inv X ad σ H s->(∀b∈fp,FpOk X ad H b)->tn i s.heap->J.stop i H ->
  wpAny (model P w) X.A (pyNext (.ref it)) (fun r s1=>r=none/\Inv X ad σ H s1) E s
 self:∀(A:br) (i:Nat) (s:aw) (Q:qV) (E:qV),tn i s.heap->Q (.ref it) s->wpAny (model P w) A (pyIter (.ref it)) Q E s
abbrev TI:=St->Hp->(It->Hp->Prop)->Prop
def PIE(X:Cx)(ad:qO)(σ:St)(tg:aZ)(R:It->Hp->Prop)(l:ah)(s2:aw):Prop :=
 ∃(it:au) (u:List au) (o:Nat->bq->Prop) (J:It) (H':Hp),l=.ref it/\Inv X ad σ H' s2/\Turn X.prog X.w X.K tg J u it o/\o 0 s2.heap/\(∀b∈u,FpOk X ad H' b)/\R J H'
def PI(X:Cx)(tg iter:aZ)(l:TI):Prop :=
 ∀(ad:qO) (s:aw) (σ:St) (H:Hp) (R:It->Hp->Prop),Inv X ad σ H s->l σ H R ->
  wpAny (model X.prog X.w) X.A (eval iter X.env) (fun v s1=>wpAny (model X.prog X.w) X.A (pyIter v) (PIE X ad σ tg R) X.xe s1) X.xe s
theorem zrw{M:pf}{A:br}{E:qV}{s:aw}{tg:aZ}{it:au}{u:ah}{o:Obj}{n:String}{x:Array ah}{Q:Unit->aw->Prop}(C:s.heap.get? it=some o)(hc:o.cls=.type n)(hd:o.data=.fields x)
  (G:["enumerate","zip","dict_itemiterator","dict_reverseitemiterator","odict_iterator","itertools.zip_longest","itertools.pairwise"].contains n=false) (v:Q () s):wpAny M A (letOwnedTupleGo tg (.ref it) u) Q E s:=by
 unfold letOwnedTupleGo;cases tg <;> first
  | exact aj v
  | (cases u <;> first
    | exact aj v
    | (refine aa (wpAny_load C ?_)
       rw[hc,hd];show wpAny M A (if (["enumerate","zip","dict_itemiterator","dict_reverseitemiterator","odict_iterator","itertools.zip_longest","itertools.pairwise"].contains n&&x[0]? == some (rawInt _))=true then _ else _) Q E s
       rw[if_neg (by intro h;rw[G,fQ]at h;cases h)]
       exact aj v))
def Itl(K:qF)(a:au):It :=
 ⟨fun i H=>∃xs x,SqL K H a xs/\xs[i]?=some x,fun i H x H'=>H'=H/\∀xs,SqL K H a xs->xs[i]?=some x,fun i H=>∃xs,SqL K H a xs/\xs.length<=i⟩
def Itt(K:qF)(a:au):It :=
 ⟨fun i H=>∃xs x,SqT K H a xs/\xs[i]?=some x,fun i H x H'=>H'=H/\∀xs,SqT K H a xs->xs[i]?=some x,fun i H=>∃xs,SqT K H a xs/\xs.length<=i⟩
def Itr(lo:Int)(n:Nat):It:=⟨fun i _=>i<n,fun i H x H'=>H'=H/\x=.int (lo+i),fun i _=>n<=i⟩
theorem zhq{P:aQ}{w:bz}{K:qF}{tg:aZ}(a it:au):Turn P w K tg (Itl K a) [it] it (fun i h=>h.IsListIter it a i) where
 mem:=by simp
 obj:=fun i h st b l=>by
  have e:b=it:=by simpa using l
  subst e;obtain⟨o,e,c,d⟩:=st;exact⟨o,e,fun v z=>by rw[d]at z;cases z⟩
 keep:=fun i h h' st k=>st.at fun o e=>k it (by simp) o e
 item:=by
  intro X N hw S hc i ad s σ H E I hf st L;subst N hw S;obtain⟨xs,x,C,hx⟩:=L;obtain⟨its,R,p,hz⟩:=I.list C;obtain⟨u,hu,ru⟩:=R.get hx;obtain⟨f0,f1,f2,G,f4,J⟩:=hf it (by simp)
  refine lQ st p.isList (x:=u) (by simpa using hu) fun h' y sb=>?_
  have Z:Inv X ad σ H { s with heap:=h' }:=I.turned (t':=s.toks) (fun b o l e=>(sb.2 b l).trans e) f0 f1 G f4 J
  obtain⟨o,e,c,d⟩:=id y;exact⟨u,rfl,zrw (s:={ s with heap:=h' }) e c d (by decide) ⟨x,H,Z,ru,⟨rfl,fun ys U=>by rw[I.list_inj U C];exact hx⟩,y,fun b l=>(hf b l).1⟩⟩
 done:=by
  intro X N hw S hc i ad s σ H E I hf st L;subst N hw S;obtain⟨xs,C,hx⟩:=L;obtain⟨its,R,p,hz⟩:=I.list C;obtain⟨f0,f1,f2,G,f4,J⟩:=hf it (by simp)
  have hl:=R.length;exact mJ (I.ok.hd hc) st p.isList (by simp;lia) fun h' Y=>⟨rfl,I.turned (t':=s.toks) (fun b o l e=>Y b o l e) f0 f1 G f4 J⟩
 self:=fun _ _ _ _ _ st h=>wpAny_pyIter_listiter st h
theorem zfW{P:aQ}{w:bz}{K:qF}{tg:aZ}(a it:au):Turn P w K tg (Itt K a) [it] it (fun i h=>h.IsTupleIter it a i) where
 mem:=by simp
 obj:=fun i h st b l=>by
  have e:b=it:=by simpa using l
  subst e;obtain⟨o,e,c,d⟩:=st;exact⟨o,e,fun v z=>by rw[d]at z;cases z⟩
 keep:=fun i h h' st k=>st.at fun o e=>k it (by simp) o e
 item:=by
  intro X N hw S hc i ad s σ H E I hf st L;subst N hw S;obtain⟨xs,x,C,hx⟩:=L;obtain⟨its,R,p,hz⟩:=I.tuple C;obtain⟨u,hu,ru⟩:=R.get hx;obtain⟨f0,f1,f2,G,f4,J⟩:=hf it (by simp)
  refine wpAny_pyNext_tuple_item st (show s.heap.IsTuple a its.toArray from p) (x:=u) (by simpa using hu) fun h' y sb=>?_
  have Z:Inv X ad σ H { s with heap:=h' }:=I.turned (t':=s.toks) (fun b o l e=>(sb.2 b l).trans e) f0 f1 G f4 J
  obtain⟨o,e,c,d⟩:=id y;exact⟨u,rfl,zrw (s:={ s with heap:=h' }) e c d (by decide) ⟨x,H,Z,ru,⟨rfl,fun ys U=>by rw[I.tuple_inj U C];exact hx⟩,y,fun b l=>(hf b l).1⟩⟩
 done:=by
  intro X N hw S hc i ad s σ H E I hf st L;subst N hw S;obtain⟨xs,C,hx⟩:=L;obtain⟨its,R,p,hz⟩:=I.tuple C;obtain⟨f0,f1,f2,G,f4,J⟩:=hf it (by simp)
  have hl:=R.length;exact wpAny_pyNext_tuple_end (I.ok.hd hc) st (show s.heap.IsTuple a its.toArray from p) (by simp;lia) fun h' Y=>⟨rfl,I.turned (t':=s.toks) (fun b o l e=>Y b o l e) f0 f1 G f4 J⟩
 self:=fun _ _ _ _ _ st h=>wpAny_pyIter_tupleiter st h
theorem zkM{P:aQ}{w:bz}{K:qF}{tg:aZ}(it:au)(lo:Int)(n:Nat):Turn P w K tg (Itr lo n) [it] it (fun i h=>IsRangeIter h it (lo+(i:Nat)*1) ((n:Int) - (i:Nat)) 1) where
 mem:=by simp
 obj:=fun i h st b l=>by
  have e:b=it:=by simpa using l
  subst e;exact⟨_,st,fun v z=>by
   have U:Data.fields _=Data.cell v:=z;cases U⟩
 keep:=fun i h h' st k=>k it (by simp) _ st
 item:=by
  intro X G hw J hc i ad s σ H E I hf st C;subst G hw J;obtain⟨f0,f1,f2,x,f4,y⟩:=hf it (by simp)
  have W:=Walks.range (prog:=X.prog) (w:=X.w) (I.ok.hd hc) it lo 1 n;refine W.item i s _ _ C st fun v h' tk L u N=>?_
  obtain⟨t,rfl⟩:=L;have S:Inv X ad σ H { s with heap:=h',toks:=tk }:=I.turned (fun b o l e=>N b o (by simpa using l) e) f0 f1 x f4 y
  refine⟨_,rfl,zrw (s:={ s with heap:=h',toks:=tk }) (n:="range_iterator") u rfl rfl (by decide) ⟨.int (lo+i),H,S,⟨t,?_⟩,⟨rfl,rfl⟩,u,fun b l=>(hf b l).1⟩⟩
  rw[kW]
 done:=by
  intro X G hw J hc i ad s σ H E I hf st C;subst G hw J;obtain⟨f0,f1,f2,x,f4,y⟩:=hf it (by simp)
  exact wpAny_pyNext_range_end (I.ok.hd hc) st (by have:n<=i:=C;lia) fun h' R=>⟨rfl,I.turned (t':=s.toks) (fun b o l e=>R b o l e) f0 f1 x f4 y⟩
 self:=fun _ _ _ _ _ st h=>wpAny_pyIter_rangeiter st h
section
variable{X:Cx}{tg:aZ}
def zw9(K:qF)(o:TE):TI:=fun σ H R=>o σ H fun x l=>∃a,x=.ref a/\(∃xs,SqL K l a xs)/\R (Itl K a) l
def iTup(K:qF)(o:TE):TI:=fun σ H R=>o σ H fun x l=>∃a,x=.ref a/\(∃xs,SqT K l a xs)/\R (Itt K a) l
theorem zmu{l:aZ}{y:TE}(S:PE X l y):PI X tg l (zw9 X.K y):=by
 intro ad s σ H R I h;refine thn (S ad s σ H _ I h) fun v s1 ⟨x,L,u,J,N⟩=>?_
 obtain⟨a,e,⟨xs,G⟩,q⟩:=N;subst e;cases J;obtain⟨its,U,p,Y⟩:=u.list G;refine eN p.isList ?_;refine⟨s1.heap.objs.size,[s1.heap.objs.size],_,_,L,rfl,u.kept (t':=s1.toks) fun b o e=>aq _ e,zhq a _,⟨_,aG _ rfl,rfl,rfl⟩,fun b C=>?_,q⟩
 have e:b=s1.heap.objs.size:=by simpa using C
 subst e;exact u.fpOk (aE _) (u.hok.fresh (aE _))
theorem zsO{l:aZ}{y:TE}(S:PE X l y):PI X tg l (iTup X.K y):=by
 intro ad s σ H R I h;refine thn (S ad s σ H _ I h) fun v s1 ⟨x,L,u,J,N⟩=>?_
 obtain⟨a,e,⟨xs,G⟩,q⟩:=N;subst e;cases J;obtain⟨its,U,p,Y⟩:=u.tuple G;refine kj (show s1.heap.IsTuple a its.toArray from p) ?_
 refine⟨s1.heap.objs.size,[s1.heap.objs.size],_,_,L,rfl,u.kept (t':=s1.toks) fun b o e=>aq _ e,zfW a _,⟨_,aG _ rfl,rfl,rfl⟩,fun b C=>?_,q⟩
 have e:b=s1.heap.objs.size:=by simpa using C
 subst e;exact u.fpOk (aE _) (u.hok.fresh (aE _))
theorem zoP{ad:qO}{σ:St}{H:Hp}{s:aw}{R:It->Hp->Prop}{E:qV}{lo hi:Int}{t u v:Tok}{tk:Nat}(I:Inv X ad σ H s)(Y:-(2 ^ 62)<=lo)(C:lo<2 ^ 62)(L:-(2 ^ 62)<=hi)(S:hi<2 ^ 62)
  (q:R (Itr lo (hi - lo).toNat) H):wpAny (model X.prog X.w) X.A (pyIter (.ref s.heap.objs.size)) (PIE X ad σ tg R) E { s with heap:=s.heap.push { cls:=.type "range",data:=.fields #[.int lo t,.int hi u,.int 1 v] },toks:=tk }:=by
 refine wpAny_pyIter_range (IsRange.new ..) (small_one Y C L S) ?_;have x:Inv X ad σ H { s with heap:=s.heap.push { cls:=.type "range",data:=.fields #[.int lo t,.int hi u,.int 1 v] },toks:=tk }:=I.kept fun b o e=>aq _ e
 refine⟨(s.heap.push { cls:=.type "range",data:=.fields #[.int lo t,.int hi u,.int 1 v] }).objs.size,[(s.heap.push { cls:=.type "range",data:=.fields #[.int lo t,.int hi u,.int 1 v] }).objs.size],_,_,H,rfl,
  x.kept (t':=tk) fun b o e=>aq _ e,zkM _ lo (hi - lo).toNat,?_,fun b G=>?_,q⟩
 ·have J:lo+((0:Nat):Int)*1=lo:=by simp
  have U:(((hi - lo).toNat:Nat):Int) - ((0:Nat):Int)=tL lo hi 1:=by rw[rangeSize_one];split <;> lia
  show IsRangeIter _ _ (lo+((0:Nat):Int)*1) ((((hi - lo).toNat:Nat):Int) - ((0:Nat):Int)) 1
  rw[J,U];exact aG _ rfl
 ·have e:b=(s.heap.push { cls:=.type "range",data:=.fields #[.int lo t,.int hi u,.int 1 v] }).objs.size:=by simpa using G
  subst e;exact x.fpOk (aE _) (x.hok.fresh (aE _))
def zw8(o:TA):TI:=fun σ H R=>o σ H fun u l=>∃j:Int,u=[.int j]/\-(2 ^ 62)<=j/\j<2 ^ 62/\R (Itr 0 j.toNat) l
theorem zmt{a:aZ}{u:TA}{p pos:Pos}(v:Gl X "range") (S:X.mg "range" = none) (y:PA X [a] u) (L:starEach [a] X.env=[(false,eval a X.env)]:=by rfl):PI X tg (.Call (.Name "range" p) [a] [] pos) (zw8 u):=by
 intro ad s σ H R I h;refine Call_ (ZU I v S boot_range (gj (thn (y pos ad s σ H _ I h) fun Z s1 ⟨Y,H1,G,J,o⟩=>?_) L rfl))
 obtain⟨j,e,o,U,q⟩:=o;subst e;cases J with
 | cons r x =>
  cases x;obtain⟨t,rfl⟩:=r;exact call_range_1 (zoP G (by lia) (by lia) o U (by simpa using q))
def tFor(y:TI)(g:TG)(v:TS):TS:=fun D σ H=>y σ H fun J u=>∃W:Nat->Nat->St->Hp->Prop,(∃m,W 0 m σ u)/\∀i m σ H,W i m σ H ->
 (J.stop i H/\D.nx σ H)\/(J.go i H/\∃N:St->Hp->Prop,(∀σ' H',N σ' H'->∃o,o<m/\W (i+1) o σ' H')/\∀x H',J.yld i H x H'->g x σ H' fun l C=>v { D with nx:=N,ct:=N,bk:=D.nx } l C)
def Z0(l:List au)(h:bq):List (au×Obj):=l.filterMap fun b=>(h.get? b).map fun o=>(b,o)
theorem Wu{l:List au}{h:bq}{b:au}{o:Obj}(u:b∈l)(e:h.get? b=some o):(b,o)∈Z0 l h:=g9.mpr ⟨b,u,by rw[e];rfl⟩
theorem zmO{l:List au}{h:bq}{p:au×Obj}(v:p∈Z0 l h):p.1∈l/\h.get? p.1=some p.2:=by
 obtain⟨b,u,e⟩:=g9.mp v;cases q:h.get? b with
 | none=>rw[q]at e;cases e
 | some o =>
  rw[q]at e;have x:(b,o)=p:=ba e;subst x;exact⟨u,q⟩
theorem Inv.pinned{ad:qO}{σ:St}{H:Hp}{s:aw}{u:List au}(I:Inv X ad σ H s)(hf:∀b∈u,FpOk X ad H b)(C:∀b∈u,∃o,s.heap.get? b=some o/\∀v,o.data≠.cell v):Inv X (ad++Z0 u s.heap) σ H s :=
 I.pins_of fun p G=>(ax.mp G).elim (fun z=>I.pin p (b5 _ z)) fun z=>by
  obtain⟨x,e⟩:=zmO z;obtain⟨f0,f1,f2,_⟩:=hf p.1 x;obtain⟨o,y,d⟩:=C p.1 x;rw[e]at y;cases y;exact⟨e,f0,f1,f2,d⟩
theorem Inv.unpinned{ad pl:qO}{σ:St}{H:Hp}{s:aw}(I:Inv X (ad++pl) σ H s):Inv X ad σ H s:=I.pins_of fun p l=>I.pin p (b5 _ (mS _ l))
theorem zsL{iter:aZ}{body:List eS}{wi:TI}{g:TG}{tb:TS}{pos:Pos}(hp:oR (model X.prog X.w) X.A X.env X.xe)(hc:X.calm=true)(hi:PI X tg iter wi)(hg:PG X tg g)(L:PSs X body tb)
  (hs:∀x,foldedSetIterable iter X.env x=pure x:=by intro _;rfl):PS X (.For tg iter body [] pos) (tFor wi g tb):=by
 intro ad s σ H D I h;refine wpAny_For (thn (hi ad s σ H _ I h) fun v s1 h1=>thn h1 fun itv s2 h2=>?_) hs
 obtain⟨it,Z,tn,J,H2,e,I2,T,st2,f2,W,⟨m0,w0⟩,turn⟩:=h2;subst e;have Ip:∀{H':Hp},(∀b∈Z,H' b=none)->∀b∈Z,FpOk X ad H' b:=fun hn b L=>⟨hn b L,(f2 b L).2⟩
 refine codeAny_forLoop_any (fun n s'=>∃i σ' H',Inv X ad σ' H' s'/\tn i s'.heap/\(∀b∈Z,H' b=none)/\W i n σ' H') ?_ m0 ⟨0,σ,H2,I2,st2,fun b L=>(f2 b L).1,w0⟩
 rintro n s3 ⟨i,C,H3,I3,U,fr3,w3⟩;rcases turn i n C H3 w3 with⟨stop,qn⟩|⟨go,N,hN,step⟩
 ·refine fv hp (thn (T.done X rfl rfl rfl hc i ad s3 C H3 X.xe I3 (Ip fr3) U stop) fun r s4 ⟨hr,I4⟩=>?_)
  subst hr;exact iS ⟨C,H3,I4,qn⟩
 ·refine fv hp (thn (T.item X rfl rfl rfl hc i ad s3 C H3 X.xe I3 (Ip fr3) U go) fun r s4 ⟨u,hr,h4⟩=>?_)
  subst hr;refine fv hp (thn h4 fun _ s5 ⟨x,H5,I5,r5,y5,S,fr5⟩=>?_)
  have I5':=I5.pinned (Ip fr5) (T.obj _ _ S);refine fv hp (thn (hg _ s5 C H5 x u _ I5' r5 (step x H5 y5)) fun _ s6 ⟨σ6,H6,I6,q6⟩=>?_)
  refine fv hp (thn (L _ s6 σ6 H6 _ I6 q6) fun f s7 R=>?_)
  have again:∀{l:St} {G:Hp},Inv X (ad++Z0 Z s5.heap) l G s7->N l G->∃m,m<n/\∃i σ' H',Inv X ad σ' H' s7/\tn i s7.heap/\(∀b∈Z,H' b=none)/\W i m σ' H':=fun {l G} y Y=>by
   obtain⟨m',hm,w7⟩:=hN l G Y;refine⟨m',hm,i+1,l,G,y.unpinned,T.keep _ _ _ S fun b L o e=>(y.pin (b,o) (b5 _ (b5 _ (Wu L e)))).1,fun b L=>?_,w7⟩
   obtain⟨o,e,d⟩:=T.obj _ _ S b L;exact(y.pin (b,o) (b5 _ (b5 _ (Wu L e)))).2.1
  cases f with
  | next=>obtain⟨l,G,y,Y⟩:=R;exact again y Y
  | cont=>obtain⟨l,G,y,Y⟩:=R;exact again y Y
  | brk=>obtain⟨l,G,y,R⟩:=R;exact⟨l,G,y.unpinned,R⟩
  | ret v=>obtain⟨x7,l,G,y,r7,R⟩:=R;exact⟨x7,l,G,y.unpinned,r7,R⟩
end
abbrev R2:=V->V->Hp->VK->Prop
def OpR(X:Cx)(f:ah->ah->Sem ah)(r:R2):Prop :=
 ∀(ad:qO) (s:aw) (σ:St) (H:Hp) (x y:V) (v u:ah) (Q:VK),Inv X ad σ H s->RelV x v->RelV y u->r x y H Q ->
  wpAny (model X.prog X.w) X.A (f v u) (EP X ad σ Q) X.xe s
def UnR(X:Cx)(f:ah->Sem ah)(r:V->Hp->VK->Prop):Prop :=
 ∀(ad:qO) (s:aw) (σ:St) (H:Hp) (x:V) (v:ah) (Q:VK),Inv X ad σ H s->RelV x v->r x H Q ->
  wpAny (model X.prog X.w) X.A (f v) (EP X ad σ Q) X.xe s
def J1(X:Cx)(f:ah)(r:List V->Hp->VK->Prop):Prop :=
 ∀(ad:qO) (s:aw) (σ:St) (H:Hp) (xs:List V) (l:List ah) (Q:VK),Inv X ad σ H s->Vals xs l->r xs H Q ->
  wpAny (model X.prog X.w) X.A (call f l) (EP X ad σ Q) X.xe s
def TruR(X:Cx)(r:V->Hp->(Bool->Hp->Prop)->Prop):Prop :=
 ∀(ad:qO) (s:aw) (σ:St) (H:Hp) (x:V) (v:ah) (Q:Bool->Hp->Prop),Inv X ad σ H s->RelV x v->r x H Q ->
  wpAny (model X.prog X.w) X.A (truthy v) (TP X ad σ Q) X.xe s
def tOp(r:R2)(u o:TE):TE:=fun σ H Q=>u σ H fun x l=>o σ l fun y v=>r x y v Q
def tUn(r:V->Hp->VK->Prop)(o:TE):TE:=fun σ H Q=>o σ H fun x l=>r x l Q
def rI(C:Int->Int->Prop)(g:Int->Int->V):R2:=fun x y H Q=>∃i j,x=.int i/\y=.int j/\C i j/\Q (g i j) H
def rI0(g:Int->Int->V):R2:=fun x y H Q=>∃i j,x=.int i/\y=.int j/\Q (g i j) H
def rU(g:Int->V):V->Hp->VK->Prop:=fun x H Q=>∃i,x=.int i/\Q (g i) H
section
variable{X:Cx}{a b c:aZ}{ta tb tc:TE}{pos:Pos}
theorem binT(N:PE X a ta)(J:PE X b tb){ad:qO}{s:aw}{σ:St}{H:Hp}{R:V->V->Hp->Prop}(I:Inv X ad σ H s)
  (h:ta σ H fun x G=>tb σ G fun y l=>R x y l) {Q:qV} {f:ah->ah->Sem ah}
  (hf:∀v u s2 x y l,Inv X ad σ l s2->RelV x v->RelV y u->R x y l->wpAny (model X.prog X.w) X.A (f v u) Q X.xe s2) :
  wpAny (model X.prog X.w) X.A (eval a X.env) (fun v o=>wpAny (model X.prog X.w) X.A (eval b X.env) (fun u C=>wpAny (model X.prog X.w) X.A (f v u) Q X.xe C) X.xe o) X.xe s:=by
 refine thn (N ad s σ H _ I h) fun v s1 ⟨x,G,S,U,q1⟩=>?_
 refine thn (J ad s1 σ G _ S q1) fun u s2 ⟨y,l,Y,L,Z⟩=>?_
 exact hf v u s2 x y l Y U L Z
theorem JL{op:p5}{r:R2}(J:OpR X (binaryOp op) r)(L:PE X a ta)(G:PE X b tb):PE X (.BinOp a op b pos) (tOp r ta tb):=by
 intro ad s σ H Q I h;exact wpAny_BinOp (binT L G I h fun v u s2 x y o N C l q=>J ad s2 σ o x y v u Q N C l q)
theorem zwm{op:UnaryOp}{r:V->Hp->VK->Prop}(G:UnR X (unaryOp op) r)(J:PE X a ta):PE X (.UnaryOp op a pos) (tUn r ta):=by
 intro ad s σ H Q I h;exact UnaryOp_ (thn (J ad s σ H _ I h) fun v s1 ⟨x,u,l,o,C⟩=>G ad s1 σ u x v Q l o C)
theorem opI{f:ah->ah->Sem ah}{C:Int->Int->Prop}{g:Int->Int->Int}
  (rule:∀(i j:Int) (t u:Tok) (s:aw) (Q:qV) (E:qV),C i j->Q (.int (g i j) s.toks) { s with toks:=s.toks+1 }->wpAny (model X.prog X.w) X.A (f (.int i t) (.int j u)) Q E s) :
  OpR X f (rI C fun i j=>.int (g i j)):=by
 intro ad s σ H x y v u Q I o l h;obtain⟨i,j,rfl,rfl,hc,q⟩:=h;obtain⟨t,rfl⟩:=o;obtain⟨t',rfl⟩:=l;exact rule i j t t' s _ _ hc ⟨.int (g i j),H,I.tok _,⟨_,rfl⟩,q⟩
theorem opI0{f:ah->ah->Sem ah}{g:Int->Int->Int}
  (rule:∀(i j:Int) (t u:Tok) (s:aw) (Q:qV) (E:qV),Q (.int (g i j) s.toks) { s with toks:=s.toks+1 }->wpAny (model X.prog X.w) X.A (f (.int i t) (.int j u)) Q E s) :
  OpR X f (rI0 fun i j=>.int (g i j)):=by
 intro ad s σ H x y v u Q I o l h;obtain⟨i,j,rfl,rfl,q⟩:=h;obtain⟨t,rfl⟩:=o;obtain⟨t',rfl⟩:=l;exact rule i j t t' s _ _ ⟨.int (g i j),H,I.tok _,⟨_,rfl⟩,q⟩
theorem opB0{f:ah->ah->Sem ah}{g:Int->Int->Bool}
  (rule:∀(i j:Int) (t u:Tok) (s:aw) (Q:qV) (E:qV),Q (.bool (g i j)) s->wpAny (model X.prog X.w) X.A (f (.int i t) (.int j u)) Q E s) :
  OpR X f (rI0 fun i j=>.bl (g i j)):=by
 intro ad s σ H x y v u Q I G C h;obtain⟨i,j,rfl,rfl,q⟩:=h;obtain⟨t,rfl⟩:=G;obtain⟨t',rfl⟩:=C;exact rule i j t t' s _ _ ⟨.bl (g i j),H,I,rfl,q⟩
def CPow(i j:Int):Prop:=0<=j/\j<=1000000/\i.natAbs<2 ^ 64
def CMul(i j:Int):Prop:=(-(2 ^ 64)<i/\i<2 ^ 64)\/(-(2 ^ 64)<j/\j<2 ^ 64)
theorem CMul.ok{i j:Int}(h:CMul i j):IntMulOk i j:=by
 rcases h with⟨u,v⟩|⟨u,v⟩
 ·exact .of_left (intBits_le_64 u v)
 ·exact .of_right (intBits_le_64 u v)
theorem zkL(k:Nat):(0:Int)<=2 ^ k:=by
 rw[two_pow_cast];exact km _
theorem Uv:OpR X (binaryOp .Add) (rI0 fun i j=>.int (i+j)):=opI0 fun _ _ _ _ _ _ _ q=>add_int q
theorem zs3:OpR X (binaryOp .Sub) (rI0 fun i j=>.int (i - j)):=opI0 fun _ _ _ _ _ _ _ q=>sub_int q
theorem Uj:OpR X (binaryOp .Mult) (rI CMul fun i j=>.int (i*j)):=opI fun _ _ _ _ _ _ _ hc q=>mul_int q hc.ok
theorem U9:OpR X (binaryOp .Mod) (rI (fun _ j=>0<j) fun i j=>.int (i % j)):=opI fun i j _ _ _ _ _ hc q=>by
 have l:(0:Int)<j:=hc;exact mod_int' (by lia) (by rw[Int.fmod_eq_emod_of_nonneg i (by lia)];exact q)
theorem zs6:OpR X (binaryOp .Pow) (rI CPow fun i j=>.int (i ^ j.toNat)):=opI fun _ _ _ _ _ _ _ hc q=>pow_int_small hc.1 hc.2.1 hc.2.2 q
theorem zs5:OpR X (binaryOp .LShift) (rI CPow fun i j=>.int (i*2 ^ j.toNat)):=opI fun _ _ _ _ _ _ _ hc q=>lshift_int_small hc.1 hc.2.1 hc.2.2 q
theorem zs4:OpR X (binaryOp .RShift) (rI (fun _ j=>0<=j) fun i j=>.int (i / 2 ^ j.toNat)):=opI fun i j _ _ _ _ _ hc q =>
 rshift_int hc (by rw[ko i (zkL _)];exact q)
theorem zte:OpR X (binaryOp .BitAnd) (rI0 fun i j=>.int (gA i j)):=opI0 fun _ _ _ _ _ _ _ q=>and_int q
theorem zs2:OpR X (binaryOp .BitXor) (rI0 fun i j=>.int (cU i j)):=opI0 fun _ _ _ _ _ _ _ q=>xor_int q
theorem unI{f:ah->Sem ah}{g:Int->Int}
  (rule:∀(i:Int) (t:Tok) (s:aw) (Q:qV) (E:qV),Q (.int (g i) s.toks) { s with toks:=s.toks+1 }->wpAny (model X.prog X.w) X.A (f (.int i t)) Q E s) :
  UnR X f (rU fun i=>.int (g i)):=by
 intro ad s σ H x v Q I l h;obtain⟨i,rfl,q⟩:=h;obtain⟨t,rfl⟩:=l;exact rule i t s _ _ ⟨.int (g i),H,I.tok _,⟨_,rfl⟩,q⟩
theorem zsb:UnR X (unaryOp .USub) (rU fun i=>.int (-i)):=unI fun _ _ _ _ _ q=>neg_int q
end
def scal:V->V->Bool
 | .non,.non=>true|.non,.int _=>true|.int _,.non=>true|.non,.bl _=>true|.bl _,.non=>true|.non,.str _=>true|.str _,.non=>true
 | .int _,.int _=>true|.bl _,.bl _=>true|.str _,.str _=>true|.byt _,.byt _=>true
 | .int _,.str _=>true|.str _,.int _=>true|.bl _,.str _=>true|.str _,.bl _=>true
 | _,_=>false
def rEq:R2:=fun x y H Q=>scal x y=true/\Q (.bl (decide (x=y))) H
def rNe:R2:=fun x y H Q=>scal x y=true/\Q (.bl (!decide (x=y))) H
theorem znD{i j:Int}:decide (V.int i=V.int j)=(i == j):=by
 rw[fw];simp
theorem zqi{i j:Bool}:decide (V.bl i=V.bl j)=(i == j):=by
 rw[fw];simp
theorem znC{i j:Str}:decide (V.str i=V.str j)=(i == j):=by
 rw[fw];simp
theorem znE{i j:Array UInt8}:decide (V.byt i=V.byt j)=(i.toList == j.toList):=by
 rw[fw];cases i;cases j;simp
section
variable{X:Cx}{a b c:aZ}{ta tb tc:TE}{pos:Pos}
theorem JC{ad:qO}{σ:St}{H:Hp}{s:aw}{Q:VK}{k u:Bool}(I:Inv X ad σ H s)(q:Q (.bl k) H)(e:k=u):EP X ad σ Q (.bool u) s:=by
 subst e;exact⟨.bl k,H,I,rfl,q⟩
theorem zwu:OpR X (compareOp .Eq) rEq:=by
 intro ad s σ H x y v u Q I C l h;obtain⟨o,q⟩:=h;cases x with
 | non =>
  cases C;cases y with
  | non=>cases l;exact rS (JC I q (by simp))
  | bl j=>cases l;exact rT (JC I q (by simp))
  | int j=>obtain⟨t',rfl⟩:=l;exact sD (JC I q (by simp))
  | str j=>obtain⟨t',rfl⟩:=l;exact sE (JC I q (by simp))
  | _=>exact absurd (show false=true from o) aP
 | bl i =>
  cases C;cases y with
  | non=>cases l;exact rV (JC I q (by simp))
  | bl j=>cases l;exact eq_bool (JC I q zqi)
  | str j=>obtain⟨t',rfl⟩:=l;exact rW (JC I q (by simp))
  | _=>exact absurd (show false=true from o) aP
 | int i =>
  obtain⟨t,rfl⟩:=C;cases y with
  | non=>cases l;exact sF (JC I q (by simp))
  | int j=>obtain⟨t',rfl⟩:=l;exact eq_int (JC I q znD)
  | str j=>obtain⟨t',rfl⟩:=l;exact sG (JC I q (by simp))
  | _=>exact absurd (show false=true from o) aP
 | str i =>
  obtain⟨t,rfl⟩:=C;cases y with
  | non=>cases l;exact sH (JC I q (by simp))
  | bl j=>cases l;exact rX (JC I q (by simp))
  | int j=>obtain⟨t',rfl⟩:=l;exact sI (JC I q (by simp))
  | str j=>obtain⟨t',rfl⟩:=l;exact eq_str (JC I q znC)
  | _=>exact absurd (show false=true from o) aP
 | byt i =>
  obtain⟨t,rfl⟩:=C;cases y with
  | byt j=>obtain⟨t',rfl⟩:=l;exact PySem.W.eq_bytes (JC I q znE)
  | _=>exact absurd (show false=true from o) aP
 | _=>cases y <;> exact absurd (show false=true from o) aP
theorem zws:OpR X (compareOp .NotEq) rNe:=by
 intro ad s σ H x y v u Q I G l h;obtain⟨C,q⟩:=h;cases x with
 | non =>
  cases G;cases y with
  | non=>cases l;exact rY (JC I q (by simp))
  | bl j=>cases l;exact rZ (JC I q (by simp))
  | int j=>obtain⟨t',rfl⟩:=l;exact sJ (JC I q (by simp))
  | str j=>obtain⟨t',rfl⟩:=l;exact sL (JC I q (by simp))
  | _=>exact absurd (show false=true from C) aP
 | bl i =>
  cases G;cases y with
  | non=>cases l;exact r8 (JC I q (by simp))
  | bl j=>cases l;exact ne_bool (JC I q (congrArg not zqi))
  | str j=>obtain⟨t',rfl⟩:=l;exact se (JC I q (by simp))
  | _=>exact absurd (show false=true from C) aP
 | int i =>
  obtain⟨t,rfl⟩:=G;cases y with
  | non=>cases l;exact sM (JC I q (by simp))
  | int j=>obtain⟨t',rfl⟩:=l;exact ne_int (JC I q (congrArg not znD))
  | str j=>obtain⟨t',rfl⟩:=l;exact sN (JC I q (by simp))
  | _=>exact absurd (show false=true from C) aP
 | str i =>
  obtain⟨t,rfl⟩:=G;cases y with
  | non=>cases l;exact sO (JC I q (by simp))
  | bl j=>cases l;exact sf (JC I q (by simp))
  | int j=>obtain⟨t',rfl⟩:=l;exact sP (JC I q (by simp))
  | str j=>obtain⟨t',rfl⟩:=l;exact ne_str (JC I q (congrArg not znC))
  | _=>exact absurd (show false=true from C) aP
 | byt i =>
  obtain⟨t,rfl⟩:=G;cases y with
  | byt j=>obtain⟨t',rfl⟩:=l;exact PySem.W.ne_bytes (JC I q (congrArg not znE))
  | _=>exact absurd (show false=true from C) aP
 | _=>cases y <;> exact absurd (show false=true from C) aP
theorem zs9:OpR X (compareOp .Lt) (rI0 fun i j=>.bl (decide (i<j))):=opB0 fun _ _ _ _ _ _ _ q=>lt_int q
theorem zwt:OpR X (compareOp .LtE) (rI0 fun i j=>.bl (decide (i<=j))):=opB0 fun _ _ _ _ _ _ _ q=>le_int q
theorem Ue:OpR X (compareOp .Gt) (rI0 fun i j=>.bl (decide (j<i))):=opB0 fun _ _ _ _ _ _ _ q=>gt_int q
theorem YE:OpR X (compareOp .GtE) (rI0 fun i j=>.bl (decide (j<=i))):=opB0 fun _ _ _ _ _ _ _ q=>ge_int q
theorem zmD:OpR X (compareOp .Lt) (fun x y H Q=>∃i j,x=.str i/\y=.str j/\Q (.bl (decide (i.cps.toList<j.cps.toList))) H):=by
 intro ad s σ H x y v u Q I C o h;obtain⟨i,j,rfl,rfl,q⟩:=h;obtain⟨t,rfl⟩:=C;obtain⟨t',rfl⟩:=o;exact lt_str (JC I q rfl)
theorem zs_:OpR X (compareOp .Is) (fun x y H Q=>y=.non/\Q (.bl (decide (x=.non))) H):=by
 intro ad s σ H x y v u Q I C G h;obtain⟨rfl,q⟩:=h;cases G;refine is_none_gen (JC I q ?_);cases x <;> first
  | (cases C;rfl)
  | (obtain⟨t,rfl⟩:=C;rfl)
theorem zqO:OpR X (compareOp .IsNot) (fun x y H Q=>y=.non/\Q (.bl (!decide (x=.non))) H):=by
 intro ad s σ H x y v u Q I C G h;obtain⟨rfl,q⟩:=h;cases G;refine isnot_none_gen (JC I q ?_);cases x <;> first
  | (cases C;rfl)
  | (obtain⟨t,rfl⟩:=C;rfl)
theorem OpR.or{f:ah->ah->Sem ah}{r o:R2}(h:OpR X f r)(h':OpR X f o):OpR X f (fun x y H Q=>r x y H Q\/o x y H Q):=by
 intro ad s σ H x y v u Q I C l q;rcases q with q|q
 ·exact h ad s σ H x y v u Q I C l q
 ·exact h' ad s σ H x y v u Q I C l q
theorem Jh(b:aZ){op:vd}(h:op≠.In:=by decide)(v:op≠.NotIn:=by decide):behindInMarks op b=false:=by
 have u:(op == CmpOp.In)=false:=by cases op <;> first|rfl|exact absurd rfl h
 have l:(op == CmpOp.NotIn)=false:=by cases op <;> first|rfl|exact absurd rfl v
 cases b <;> simp[behindInMarks,u,l]
theorem zmx{op:vd}{r:R2}(N:OpR X (compareOp op) r)(R:PE X a ta)(L:PE X b tb)(U:behindInMarks op b=false):PE X (.Compare a [op] [b] pos) (tOp r ta tb):=by
 intro ad s σ H Q I h;exact wpAny_Compare1 (binT R L I h fun v u s2 x y G S J l q=>N ad s2 σ G x y v u Q S J l q) U
def zvG(t:TE):TT:=fun σ H Q=>t σ H fun x H'=>∃k,x=.bl k/\Q k H'
theorem zi0{op:vd}{r:R2}(R:OpR X (compareOp op) r)(S:PE X a ta)(J:PE X b tb)(hm:behindInMarks op b=false):PT X (.Compare a [op] [b] pos) (zvG (tOp r ta tb)):=by
 intro ad s σ H Q I h;refine wpAny_isTrue_Compare1 (thn (S ad s σ H _ I h) fun v s1 ⟨x,H1,U,Y,q1⟩=>thn (J ad s1 σ H1 _ U q1) fun u s2 ⟨y,G,I2,L,q2⟩ =>
  thn (R ad s2 σ G x y v u _ I2 Y L q2) fun c s3 ⟨z,N,I3,l,k,e,Z⟩=>?_) hm
 subst e;cases l;exact ck ⟨N,I3,Z⟩
def zsg(r I:R2)(ta tb tc:TE):TE:=fun σ H Q=>ta σ H fun x u=>tb σ u fun y v=>r x y v fun z o=>∃k,z=.bl k /\
 (if k=true then tc σ o fun G C=>I y G C Q else Q (.bl false) o)
theorem zoZ{op G:vd}{r S:R2}(ho:OpR X (compareOp op) r)(J:OpR X (compareOp G) S)(ha:PE X a ta)(hb:PE X b tb)(hc:PE X c tc)
  (hm:lastMarks [op,G] [b,c]=false:=by with_unfolding_all rfl):PE X (.Compare a [op,G] [b,c] pos) (zsg r S ta tb tc):=by
 intro ad s σ H Q I h;refine Compare_chain (thn (ha ad s σ H _ I h) fun v s1 ⟨x,H1,I1,r1,q1⟩=>chain_link (thn (hb ad s1 σ H1 _ I1 q1) fun u s2 ⟨y,H2,I2,L,q2⟩ =>
  thn (ho ad s2 σ H2 x y v u _ I2 r1 L q2) fun d s3 ⟨z,N,U,Y,k,e,R⟩=>?_)) hm
 subst e;cases Y;refine ck ?_;cases k with
 | false=>exact ite_ff ⟨.bl false,N,U,rfl,R⟩
 | true=>exact ite_tt (chain_last (thn (hc ad s3 σ N _ U R) fun Z s4 ⟨z',H4,I4,r4,q4⟩=>J ad s4 σ H4 y z' u Z Q I4 L r4 q4))
def TruV(K:qF)(x:V)(H:Hp)(k:Bool):Prop :=
 match x with
 | .non=>k=false
 | .bl b=>k=b
 | .int i=>k=(i != 0)
 | .str y=>y.length<=sizeLine/\k=((y.length:Int) != 0)
 | .byt y=>y.size<=sizeLine/\k=((y.size:Int) != 0)
 | .ref p=>(∃xs,SqL K H p xs/\k=!xs.isEmpty)\/(∃xs,SqT K H p xs/\k=!xs.isEmpty)\/∃u,H p=some (.dK u)/\k=!u.isEmpty
 | _=>False
theorem zls{u:Type}{l:List (u×V)}{o:List (u×ah)}(r:KV l o):(!o.isEmpty)=!l.isEmpty:=by
 cases r <;> rfl
theorem zgn{xs:List V}{its:List ah}(r:Vals xs its):(!its.toArray.isEmpty)=!xs.isEmpty:=by
 cases r <;> simp
theorem U8:(sizeLine:Nat)<2 ^ 63:=by rw[ph];decide
theorem zpN:TruR X (fun x H Q=>∃k,TruV X.K x H k/\Q k H):=by
 intro ad s σ H x v Q I G h;obtain⟨k,e,q⟩:=h;have U:=U8;have S:sizeLine=16777216:=ph;cases x with
 | non =>
  cases G;have o:k=false:=e;subst o;exact truthy_none ⟨H,I,q⟩
 | bl b =>
  cases G;have o:k=b:=e;subst o;exact ck ⟨H,I,q⟩
 | int i =>
  obtain⟨t,rfl⟩:=G;have o:k=(i != 0):=e;subst o;exact PySem.P.truthy_int ⟨H,I,q⟩
 | str y =>
  obtain⟨t,rfl⟩:=G;obtain⟨R,o⟩:y.length<=sizeLine/\k=((y.length:Int) != 0):=e;subst o;exact PySem.P.truthy_str (by lia) ⟨H,I.tok _,q⟩
 | byt y =>
  obtain⟨t,rfl⟩:=G;obtain⟨R,o⟩:y.size<=sizeLine/\k=((y.size:Int) != 0):=e;subst o;exact PySem.W.truthy_bytes (by lia) ⟨H,I.tok _,q⟩
 | ref p =>
  cases G;have o:(∃xs,SqL X.K H p xs/\k=!xs.isEmpty)\/(∃xs,SqT X.K H p xs/\k=!xs.isEmpty)\/∃u,H p=some (.dK u)/\k=!u.isEmpty:=e;rcases o with⟨xs,hx,o⟩|⟨xs,hx,o⟩|⟨u,hx,o⟩
  ·subst o;obtain⟨its,r,pl,L⟩:=I.list hx;have C:=r.length;exact wpAny_truthy_list pl.isList (by simp only[aB];lia) ⟨H,I.tok _,by rw[zgn r];exact q⟩
  ·subst o;obtain⟨its,r,pl,L⟩:=I.tuple hx;have C:=r.length;exact truthy_tuple pl (by simp only[aB];lia) ⟨H,I.tok _,by rw[zgn r];exact q⟩
  ·subst o;obtain⟨L,N,J,r,m⟩:u.length<=sizeLine/\(p == sysModules)=false/\∃J,KV u J/\s.heap.DictOf (JJ X.prog X.w) p J:=I.hok p _ hx;have C:u.length=J.length:=gU r;exact wpAny_truthy_dict N m (by lia) ⟨H,I.tok _,by rw[zls r];exact q⟩
 | _=>exact(show False from e).elim
theorem zoQ(l:PE X a ta)(he:∀whole,isTrue a X.env whole=(do let v <- whole;standAt a.pos;holding [v] (truthy v))) :
  PT X a (fun σ H Q=>ta σ H fun x H'=>∃k,TruV X.K x H' k/\Q k H'):=by
 intro ad s σ H Q I h;exact isTrue_plain (thn (l ad s σ H _ I h) fun v s1 ⟨x,y,o,u,C⟩=>zpN ad s1 σ y x v Q o u C) (he _)
theorem zkV:OpR X (binaryOp .Add) (fun x y H Q=>∃i j,x=.str i/\y=.str j/\i.length+j.length<=sizeLine/\Q (.str (i++j)) H):=by
 intro ad s σ H x y v u Q I o l h;obtain⟨i,j,rfl,rfl,C,q⟩:=h;obtain⟨t,rfl⟩:=o;obtain⟨t',rfl⟩:=l;exact add_str (fun t' tk=>⟨.str (i++j),H,I.tok _,⟨_,rfl⟩,q⟩) C
theorem vals1{x:V}{l:List ah}(r:Vals [x] l):∃u,l=[u]/\RelV x u:=by
 cases r with
 | cons o v=>cases v;exact⟨_,rfl,o⟩
theorem vals2{x y:V}{l:List ah}(r:Vals [x,y] l):∃u o,l=[u,o]/\RelV x u/\RelV y o:=by
 cases r with
 | cons v I =>
  cases I with
  | cons C G=>cases G;exact⟨_,_,rfl,v,C⟩
theorem Zi(hc:X.calm=true):J1 X (.builtin "max") (fun xs H Q=>∃i j,xs=[.int i,.int j]/\Q (.int (if j > i then j else i)) H):=by
 intro ad s σ H xs v Q I r h;obtain⟨i,j,rfl,q⟩:=h;obtain⟨u,o,rfl,⟨t,rfl⟩,⟨t',rfl⟩⟩:=vals2 r;refine max_two_ints (I.ok.hd hc) fun h' tk k=>⟨_,H,I.kept k,?_,q⟩
 by_cases hj:j > i
 ·rw[if_pos hj,if_pos hj];exact⟨_,rfl⟩
 ·rw[if_neg hj,if_neg hj];exact⟨_,rfl⟩
theorem Vm(hc:X.calm=true):J1 X (.builtin "min") (fun xs H Q=>∃i j,xs=[.int i,.int j]/\Q (.int (if j<i then j else i)) H):=by
 intro ad s σ H xs v Q I r h;obtain⟨i,j,rfl,q⟩:=h;obtain⟨u,o,rfl,⟨t,rfl⟩,⟨t',rfl⟩⟩:=vals2 r;refine min_two_ints (I.ok.hd hc) fun h' tk k=>⟨_,H,I.kept k,?_,q⟩
 by_cases hj:j<i
 ·rw[if_pos hj,if_pos hj];exact⟨_,rfl⟩
 ·rw[if_neg hj,if_neg hj];exact⟨_,rfl⟩
theorem Vl:J1 X (.type "int") (fun xs H Q=>(∃i,xs=[.int i]/\Q (.int i) H)\/∃k,xs=[.bl k]/\Q (.int (if k then 1 else 0)) H):=by
 intro ad s σ H xs v Q I r h;rcases h with⟨i,rfl,q⟩|⟨k,rfl,q⟩
 ·obtain⟨u,rfl,t,rfl⟩:=vals1 r;exact call_int_int ⟨.int i,H,I,⟨_,rfl⟩,q⟩
 ·obtain⟨u,rfl,o⟩:=vals1 r;cases o;exact call_int_bool ⟨.int (if k then 1 else 0),H,I.tok _,⟨_,rfl⟩,q⟩
def LenV(K:qF)(x:V)(H:Hp)(n:Nat):Prop :=
 match x with
 | .str y=>y.length<=sizeLine/\n=y.length
 | .byt y=>y.size<=sizeLine/\n=y.size
 | .ref p=>(∃xs,SqL K H p xs/\n=xs.length)\/∃xs,SqT K H p xs/\n=xs.length
 | _=>False
theorem QP:J1 X (.builtin "len") (fun xs H Q=>∃x n,xs=[x]/\LenV X.K x H n/\Q (.int n) H):=by
 intro ad s σ H xs R Q I r h;obtain⟨x,n,rfl,e,q⟩:=h;obtain⟨u,rfl,C⟩:=vals1 r;have S:=U8;have N:sizeLine=16777216:=ph;cases x with
 | str y =>
  obtain⟨t,rfl⟩:=C;obtain⟨J,v⟩:y.length<=sizeLine/\n=y.length:=e;subst v;exact len_str (by lia) ⟨.int _,H,I.tok _,⟨_,rfl⟩,q⟩
 | byt y =>
  obtain⟨t,rfl⟩:=C;obtain⟨J,v⟩:y.size<=sizeLine/\n=y.size:=e;subst v;exact PySem.W.len_bytes (by lia) ⟨.int _,H,I.tok _,⟨_,rfl⟩,q⟩
 | ref p =>
  cases C;have v:(∃xs,SqL X.K H p xs/\n=xs.length)\/∃xs,SqT X.K H p xs/\n=xs.length:=e;rcases v with⟨xs,hx,v⟩|⟨xs,hx,v⟩
  ·subst v;obtain⟨its,G,pl,L⟩:=I.list hx;have o:=G.length;exact nB pl.isList (by simp only[aB];lia) ⟨.int xs.length,H,I.tok _,⟨_,by simp only[aB];rw[o]⟩,q⟩
  ·subst v;obtain⟨its,G,pl,L⟩:=I.tuple hx;have o:=G.length;exact len_tuple pl (by simp only[aB];lia) ⟨.int xs.length,H,I.tok _,⟨_,by simp only[aB];rw[o]⟩,q⟩
 | _=>exact(show False from e).elim
end
structure ObjM(h:bq)(x dx C:au)(mA:qM):Prop where
 obj:h.get? x=some (mz C dx)
 ns:h.Ns1 dx mA
 ne:dx≠x
theorem zm1{h:bq}{C:au}{v:qM}(n:h.Ns1 C v):∃u,h.get? C=some u/\∀name,mU name u=some (v name):=by
 obtain⟨o,x,R,J,hd,I,_,L⟩:=n;refine⟨o,J,fun name=>?_⟩
 have e:=L name;unfold nsFind findBy at e;rw[<- Array.find?_toList]at e;unfold mU;rw[hd];dsimp only;split
 ·rename_i y q;rw[q]at e;exact congrArg some e
 ·rename_i q;rw[q]at e;have a:x.toList.any (·.refKey)=false:=by
   rw[oj];intro y G;obtain⟨z,t,l⟩:=I y (Array.mem_toList_iff.mp G);simp[DictEntry.refKey,l]
  have N:¬x.toList.any (·.refKey)=true:=by rw[a];exact aP
  rw[if_neg N];exact congrArg some e
theorem ObjM.look{h:bq}{x u C:au}{o:qM}(I:ObjM h x u C o):∃l,PySem.W.InstAt h x (mz C u) C (some l)/\∀name,mU name l=some (o name) :=
 let ⟨l,ho,hl⟩:=zm1 I.ns
 ⟨l,⟨I.obj,rfl,rfl,ho⟩,hl⟩
section
variable{P:aQ}{w:bz}{H H':Hp}{h h':bq}{a C dx:au}{fs fs':List (Str×V)}
theorem zrf(hok:HOk P w H h)(e:H a=some (.ins C dx fs)):∃l,ObjM h a dx C l/\(∀f,RelO (fs.lookup f) (l f))/\t5 l (fs.map (·.1))/\fs.length<=1000/\H dx=some (.own a):=by
 obtain⟨d,z,ne,u,l,n,r,q⟩:=(show JP P w H h a (.ins C dx fs) from hok a _ e)
 exact⟨l,⟨u,n,ne⟩,r,q,z,d⟩
end
structure Cls(K:qF)(C:au):Prop where
 pg:oS K C kc=true
 hd:PySem.W.hasDictIn K C=true
 po:PySem.W.plainOver K C=true
 sa:p9 K (.ref C) "__setattr__" = some (some (.builtin "object.__setattr__"))
theorem Cls.get{K:qF}{C:au}(c:Cls K C)(f:Str):oS K C f=true:=c.pg
section
variable{X:Cx}{ad:qO}{σ:St}{H:Hp}{s:aw}{A:br}{E:qV}{Q:qV}{c:ah}{b:Bool}
inductive TyOf (K:qF)(H:Hp):V->ah->Prop where
 | non:TyOf K H .non (.type "NoneType")
 | bl (x:Bool):TyOf K H (.bl x) (.type "bool")
 | int (i:Int):TyOf K H (.int i) (.type "int")
 | str (x:Str):TyOf K H (.str x) (.type "str")
 | flt (x:UInt64):TyOf K H (.flt x) (.type "float")
 | lst {a:au} {xs:List V} (e:H a=some (.lst xs)):TyOf K H (.ref a) (.type "list")
 | frz {a:au} {o:Obj} {xs:List V} (e:H a=some (.frz o (.lst xs))):TyOf K H (.ref a) (.type "list")
 | tup {a:au} {xs:List V} (e:H a=some (.tup xs)):TyOf K H (.ref a) (.type "tuple")
 | dK {a:au} {kvs:List (Key×V)} (e:H a=some (.dK kvs)):TyOf K H (.ref a) (.type "dict")
 | dT {a:au} {kvs:List (List Key×V)} (e:H a=some (.dT kvs)):TyOf K H (.ref a) (.type "dict")
 | ins {a C dx:au} {fs:List (Str×V)} (e:H a=some (.ins C dx fs)) (cl:Cls K C) (ha:p9 K (.ref C) "__class__" = some (some (.builtin "object.__class__")))
   (hn:PySem.W.specialIn K (.builtin "object.__class__") "__get__" = some (some (.builtin "getset_descriptor.__get__"))) (htk:PySem.W.takesIn K (.builtin "object.__class__")=some true)
   (hm:PySem.W.mroIn K C (.type "object")=some true):TyOf K H (.ref a) (.ref C)
theorem zne{x:V}{u t:ah}(I:Inv X ad σ H s)(v:RelV x u)(ty:TyOf X.K H x t)(e:rf X.K t c=some b)(h:∀tk,Q (.bool b) { s with toks:=tk }) :
  wpAny (model X.prog X.w) A (call (.builtin "isinstance") [u,c]) Q E s:=by
 cases ty with
 | non=>cases(show u=ke from v);exact bV PySem.W.kitx_none I.kIn ku e (fun z=>nomatch z) h
 | bl y=>cases(show u=lO y from v);exact bV PySem.W.kitx_bool I.kIn ku e (fun z=>nomatch z) h
 | int i=>obtain⟨t,q⟩:=(show ∃t,u=oO i t from v);cases q;exact bV PySem.W.kitx_int I.kIn ku e (fun z=>nomatch z) h
 | str y=>obtain⟨t,q⟩:=(show ∃t,u=oP y t from v);cases q;exact bV PySem.W.kitx_str I.kIn ku e (fun z=>nomatch z) h
 | flt y=>obtain⟨t,q⟩:=(show ∃t,u=u3 y t from v);cases q;exact bV PySem.W.kitx_float I.kIn ku e (fun z=>nomatch z) h
 | @lst a xs ea =>
  cases(show u=bP a from v)
  obtain⟨_,_,n,_,G⟩:=(show JP X.prog X.w H s.heap a (.lst xs) from I.hok a _ ea)
  exact bV om I.kIn ⟨_,G,rfl⟩ e (fun z=>nomatch z) h
 | @frz a ob xs ea =>
  cases(show u=bP a from v)
  obtain⟨_,_,_,n,_,G⟩:=(show JP X.prog X.w H s.heap a (.frz ob (.lst xs)) from I.hok a _ ea)
  exact bV om I.kIn ⟨_,G,rfl⟩ e (fun z=>nomatch z) h
 | @tup a xs ea =>
  cases(show u=bP a from v)
  obtain⟨_,_,_,p⟩:=(show JP X.prog X.w H s.heap a (.tup xs) from I.hok a _ ea)
  obtain⟨o,G,L,_⟩:=p;exact bV nS I.kIn ⟨o,G,L⟩ e (fun z=>nomatch z) h
 | @dK a kvs ea =>
  cases(show u=bP a from v)
  obtain⟨_,_,Y,_,p⟩:=(show JP X.prog X.w H s.heap a (.dK kvs) from I.hok a _ ea)
  obtain⟨o,R,N,G,L,_⟩:=p;exact bV fB I.kIn ⟨o,G,L.1⟩ e (fun z=>nomatch z) h
 | @dT a kvs ea =>
  cases(show u=bP a from v)
  obtain⟨_,_,xs,_,o,R,N,G,L,_⟩:=(show JP X.prog X.w H s.heap a (.dT kvs) from I.hok a _ ea)
  exact bV fB I.kIn ⟨o,G,L.1⟩ e (fun z=>nomatch z) h
 | @ins a C dx fs ea cl ha hn htk hm =>
  cases(show u=bP a from v)
  obtain⟨U,O,_⟩:=zrf I.hok ea;obtain⟨S,J,_⟩:=O.look;exact bV (PySem.W.kitx_own (cl.get _) cl.hd ha hn htk hm) I.kIn J e (fun z=>nomatch z) h
end
structure Room(k:Nat)(A:br):Prop where
 hd:A.handled=none
 dp:A.depth+3*k+5<recursionLimit
 un:A.units+16*k+200<cLine
 gd:A.guards=some []
theorem Room.mono{j k:Nat}{A:br}(r:Room k A)(h:j<=k):Room j A:=⟨r.hd,by have:=r.dp;lia,by have:=r.un;lia,r.gd⟩
theorem Room.deeper{k:Nat}{A:br}(r:Room (k+1) A)(env:Env):Room k (A.deeper env) :=
 ⟨r.hd,by have:=r.dp;show A.depth+1+3*k+5<_;lia,by have:=r.un;show A.units+3+16*k+200<_;lia,r.gd⟩
theorem Room.depth{k:Nat}{A:br}(r:Room k A):A.depth<recursionLimit:=by have:=r.dp;lia
theorem Room.units{k:Nat}{A:br}(r:Room k A):A.units+64<cLine:=by have:=r.un;lia
theorem Room.units0{k:Nat}{A:br}(r:Room k A):A.units<cLine:=by have:=r.un;lia
def tNil:TA:=fun _ H Q=>Q [] H
def QU(u:TE)(o:TA):TA:=fun σ H Q=>u σ H fun x l=>o σ l fun xs v=>Q (x::xs) v
section
variable{X:Cx}{e:aZ}{es:List aZ}{te:TE}{t:TA}{pos:Pos}
theorem ZY:PA X [] tNil:=fun _ _ _ _ H Q I h=>Calls.spliced_nil ⟨[],H,I,.nil,h⟩
theorem Za(y:PE X e te)(U:PA X es t)(J:starEach (e::es) X.env=(false,eval e X.env)::starEach es X.env:=by rfl):PA X (e::es) (QU te t):=by
 intro pos ad s σ H Q I h;rw[J];show wpAny _ _ (spliced ((false,eval e X.env)::backTo pos (starEach es X.env))) _ _ s
 refine Calls.spliced_cons (thn (y ad s σ H _ I h) fun u s1 ⟨x,R,C,G,S⟩=>?_)
 exact thn (U pos ad s1 σ R _ C S) fun Y s2 ⟨xs,l,L,v,N⟩=>⟨x::xs,l,L,.cons G v,N⟩
def tTup(t:TA):TE:=fun σ H Q=>t σ H fun xs l=>xs.length<=sizeLine/\∀p,l p=none->Q (.ref p) (upd l p (.tup xs))
def tLst(t:TA):TE:=fun σ H Q=>t σ H fun xs o=>xs.length<=sizeLine/\∀p,o p=none->Q (.ref p) (upd o p (.lst xs))
theorem zsR{x1}(h:PA X es t):PE X (.Tuple es x1 pos) (tTup t):=by
 intro ad s σ H Q I x;refine wpAny_Tuple_spliced (thn (h pos ad s σ H _ I x) fun y s1 ⟨xs,v,o,r,z,q⟩=>⟨by rw[<- r.length];exact z,?_⟩)
 have hf:v s1.heap.objs.size=none:=o.hok.fresh (aE _);refine⟨.ref s1.heap.objs.size,upd v s1.heap.objs.size (.tup xs),o.laid (t':=s1.toks) (fun b u e=>aq _ e) (aE _) ?_,rfl,q _ hf⟩
 exact⟨z,y,r,⟨_,aG _ rfl,rfl,⟨_,rfl⟩,rfl⟩⟩
theorem zsY(h:PA X es t):PE X (.List es pos) (tLst t):=by
 intro ad s σ H Q I x;refine wpAny_List_spliced (thn (h pos ad s σ H _ I x) fun y s1 ⟨xs,v,o,r,z,q⟩=>⟨by rw[<- r.length];exact z,?_⟩)
 have hf:v s1.heap.objs.size=none:=o.hok.fresh (aE _);refine⟨.ref s1.heap.objs.size,upd v s1.heap.objs.size (.lst xs),o.laid (t':=s1.toks) (fun b u e=>aq _ e) (aE _) ?_,rfl,q _ hf⟩
 exact⟨z,y,0,r,aG _ rfl⟩
end
abbrev Sp:=List V->Hp->VK->XK->Prop
abbrev CXT:=List Env->Hp->aw->XK->ah->aw->Prop
structure Env0(P:aQ)(w:bz)(K:qF)(mg:qM)(base:bq)(A:br)(outer:List Env)(s:aw)(H:Hp):Prop where
 frames:A.frames=some outer
 mod:Mod K mg base
 bs:∀b o,base.get? b=some o->s.heap.get? b=some o/\H b=none
 bsz:base.objs.size<=s.heap.objs.size
 funs:s.heap.FunFrames base outer
 frf:∀b∈frs outer,H b=none
 hok:HOk P w H s.heap
 bare:iZ s.gens
def CE(outer:List Env)(P:aQ)(w:bz)(H:Hp)(s:aw)(Q:VK)(u:ah)(s':aw):Prop :=
 ∃v H',s'.os=s.os/\iZ s'.gens/\Un (frs outer) [] H H' s.heap s'.heap/\HOk P w H' s'.heap/\RelV v u/\Q v H'
def CR(l:CXT)(outer:List Env)(P:aQ)(w:bz)(H:Hp)(s:aw)(Q:VK)(E:XK)(r:lh)(s':aw):Prop :=
 match r with
 | .ok (.ret u)=>CE outer P w H s Q u s'
 | .ok _=>False
 | .error e=>l outer H s E e s'
structure FnOk(P:aQ)(w:bz)(K:qF)(mg:qM)(base:bq)(CX:CXT)(k:Nat)(f:au)(fd:dJ)(ps:List Str)(sp:Sp):Prop where
 len:∀vs H Q E,sp vs H Q E->vs.length=ps.length
 run:∀(A:br) (outer:List Env) (s:aw) (H:Hp) (args:Args) (us:List ah) (vs:List V) (Q:VK) (E:XK),Room k A->Env0 P w K mg base A outer s H->pX s fd args (ps.zip us)->Vals vs us->sp vs H Q E ->
  codeAny (model P w) A (.call (.ref f) args) (CR CX outer P w H s Q E) s
theorem FnOk.imp{P:aQ}{w:bz}{K:qF}{mg:qM}{base:bq}{v:CXT}{k:Nat}{f:au}{fd:dJ}{ps:List Str}{u o:Sp}(F:FnOk P w K mg base v k f fd ps u)
  (h:∀l H Q E,o l H Q E->u l H Q E):FnOk P w K mg base v k f fd ps o :=
 ⟨fun l H Q E q=>F.len l H Q E (h _ _ _ _ q),fun A outer s H args G l Q E I he y x C=>F.run A outer s H args G l Q E I he y x (h _ _ _ _ C)⟩
section
variable{X:Cx}{ad:qO}{σ:St}{H:Hp}{s s':aw}
theorem Inv.env0(I:Inv X ad σ H s):Env0 X.prog X.w X.K X.mg X.base X.A X.stack s H :=
 ⟨I.ok.frames,I.ok.mod,I.bs,cy I.ok.bsz I.sz,I.stack,I.stkFree,I.hok,I.bare⟩
theorem Inv.after{Q:VK}{u:ah}(I:Inv X ad σ H s)(h:CE X.stack X.prog X.w H s Q u s'):EP X ad σ Q u s':=by
 obtain⟨v,H',os,bare,un,hok,r,q⟩:=h;obtain⟨o,g,d,t,l⟩:=s';obtain rfl:l=s.os:=os;exact⟨v,H',I.call (h':=o) (g':=g) (d':=d) (t':=t) (ch:=[]) un hok bare (fun b z=>absurd z (by simp)),r,q⟩
end
def zsh(o:Sp)(l:List V)(E:XK)(t:TA):TE:=fun σ H Q=>t σ H fun v u=>o (v++l) u Q E
def Binds(K:qF)(fd:dJ)(ps:List Str)(ds:List ah):Prop :=
 ∀(s:aw) (o:List ah),K.In s.heap->(o++ds).length=ps.length->pX s fd ⟨o,[]⟩ (ps.zip (o++ds))
theorem Binds.all{K:qF}{fd:dJ}{ps:List Str}(h:∀l:List ah,l.length=ps.length->bindArgs fd ⟨l,[]⟩=pure (ps.zip l)):Binds K fd ps []:=fun s l _ u=>by
 rw[cD]at u ⊢;exact .of_eq (h l u)
def zoc(l:CXT)(X:Cx)(E:XK):Prop:=∀(ad:qO) (σ:St) (H:Hp) (s:aw) (e:ah) (s':aw),Inv X ad σ H s->l X.stack H s E e s'->X.xe e s'
section
variable{X:Cx}{CX:CXT}{k:Nat}{f C:au}{fd:dJ}{ps:List Str}{sp:Sp}{dvs:List V}{ds:List ah}{E:XK}{x m:Str}{p pos apos:Pos}{e o:aZ}{es:List aZ}{ta:TE}{t:TA}
theorem zsB{ad:qO}{σ:St}{H:Hp}{s:aw}{Q:VK}{v:List ah}{G:List V}(F:FnOk X.prog X.w X.K X.mg X.base CX k f fd ps sp)(N:Room k X.A)(L:Binds X.K fd ps ds)(hd:Vals dvs ds)(hx:zoc CX X E)
  (I:Inv X ad σ H s) (r:Vals G v) (h:sp (G++dvs) H Q E):wpAny (model X.prog X.w) X.A (call (.ref f) v) (EP X ad σ Q) X.xe s:=by
 have J:Vals (G++dvs) (v++ds):=r.append hd;have R:(v++ds).length=ps.length:=by rw[<- J.length];exact F.len _ _ _ _ h
 refine wpAny_call (lR (F.run X.A X.stack s H ⟨v,[]⟩ (v++ds) (G++dvs) Q E N I.env0 (L s v I.kIn R) J h) fun r s' y=>?_)
 cases r with
 | error e=>exact hx ad σ H s e s' I y
 | ok fl =>
  cases fl with
  | ret u=>exact I.after y
  | next=>exact dm y
  | brk=>exact dm y
  | cont=>exact dm y
theorem zqJ(F:FnOk X.prog X.w X.K X.mg X.base CX k f fd ps sp)(Y:Room k X.A)(J:Gl X x)(U:X.mg x=some (.ref f))(L:h7 X.K (.ref f)=true)(R:Binds X.K fd ps ds)(hd:Vals dvs ds)(hx:zoc CX X E)
  (S:PA X (e::es) t) (v:(x == ("__debug__":Str))=false:=by decide) (he:starEach (e::es) X.env=(false,eval e X.env)::starEach es X.env:=by rfl) (u:(backTo pos (starEach es X.env)).any (·.1)=false:=by rfl) :
  PE X (.Call (.Name x p) (e::es) [] pos) (zsh sp dvs E t):=by
 intro ad s σ H Q I h;refine kA (zm4 I J U ?_ v);refine PySem.W.callWith_K (h₀:=X.base) I.ok.mod.kin L (thn (S pos ad s σ H _ I h) fun us s1 ⟨Z,H1,G,r,q⟩=>⟨G.kIn,?_⟩) he u
 exact zsB F Y R hd hx G r q
end
structure UQ(N P:List Str)(sc:fA):Prop where
 kind:sc.kind=.function
 co:sc.isCoroutine=false
 gen:sc.isGenerator=false
 nd:N.Nodup
 pre:N.take P.length=P
 par:∀x∈P,sc.names.lookup x=some .local\/sc.names.lookup x=some .cell
 nofree:∀y∈sc.names,y.2≠.free
theorem ziQ{kindOf:Str->Option fh}{x:Str}:∀{binds:List (Str×ah)}{m:qM},(∀v,(x,v)∉binds)->bindL kindOf binds m x=m x
 | [],_,_=>rfl
 | (n,v)::r,m,h=>by
  unfold bindL;rw[ziQ fun w hw=>h w (bX _ hw)]
  split
  ·have:x≠n:=by rintro rfl;exact h v cL
   simp[this]
  ·rfl
theorem ziS{kindOf:Str->Option fh}{x:Str}:∀{binds:List (Str×ah)}{m:qM},(∀v,(x,v)∉binds)->bindC kindOf binds m x=m x
 | [],_,_=>rfl
 | (n,v)::r,m,h=>by
  unfold bindC;rw[ziS fun w hw=>h w (bX _ hw)]
  split
  ·rfl
  ·have:x≠n:=by rintro rfl;exact h v cL
   simp[this]
theorem ziR{kindOf:Str->Option fh}{x:Str}{v:ah}:∀{P:List Str}{u:List ah}{i:Nat}{m:qM},P.Nodup->P[i]?=some x->u[i]?=some v->kindOf x=some .local ->
  bindL kindOf (P.zip u) m x=some v
 | [],_,_,_,_,h,_,_=>by simp at h
 | _::_,[],_,_,_,_,h,_=>by simp at h
 | p::P,w::u,0,m,nd,h1,h2,hk=>by
  simp at h1 h2;subst h1;subst h2;show bindL kindOf ((p,w)::P.zip u) m p=_
  unfold bindL;rw[ziQ fun v y=>(eT.mp nd).1 (ef y).1,if_pos hk]
  simp
 | p::P,w::u,i+1,m,nd,h1,h2,hk=>by
  show bindL kindOf ((p,w)::P.zip u) m x=_
  unfold bindL;exact ziR (i:=i) (eT.mp nd).2 (by simpa using h1) (by simpa using h2) hk
theorem ziT{kindOf:Str->Option fh}{x:Str}{v:ah}:∀{P:List Str}{u:List ah}{i:Nat}{m:qM},P.Nodup->P[i]?=some x->u[i]?=some v->kindOf x≠some .local ->
  bindC kindOf (P.zip u) m x=some v
 | [],_,_,_,_,h,_,_=>by simp at h
 | _::_,[],_,_,_,_,h,_=>by simp at h
 | p::P,w::u,0,m,nd,h1,h2,hk=>by
  simp at h1 h2;subst h1;subst h2;show bindC kindOf ((p,w)::P.zip u) m p=_
  unfold bindC;rw[ziS fun v y=>(eT.mp nd).1 (ef y).1,if_neg hk]
  simp
 | p::P,w::u,i+1,m,nd,h1,h2,hk=>by
  show bindC kindOf ((p,w)::P.zip u) m x=_
  unfold bindC;exact ziT (i:=i) (eT.mp nd).2 (by simpa using h1) (by simpa using h2) hk
def start(N:List Str)(l:List V):St:=l.map some++bZ (N.length - l.length) none
def cxOf(o:CXT)(P:aQ)(w:bz)(K:qF)(mg:qM)(base:bq)(N:List Str)(qual:Str)(scope:fA)(f:au)(cd:ah)(A:br)(outer:List Env)(s:aw)(H:Hp)(E:XK):Cx where
 prog:=P
 w:=w
 K:=K
 mg:=mg
 base:=base
 A:=A.deeper (envOfC qual scope s.heap.objs.size f cd)
 N:=N
 s₀:=s
 H₀:=H
 env:=envOfC qual scope s.heap.objs.size f cd
 outer:=outer
 stack:=envOfC qual scope s.heap.objs.size f cd::outer
 ex:=[]
 calm:=true
 fn:=fun _=>true
 pn:=[]
 xe:=fun e s'=>wpAny (model P w) (A.deeper (envOfC qual scope s.heap.objs.size f cd)) (leaving (envOfC qual scope s.heap.objs.size f cd) e) (fun _ l=>o outer H s E e l) (fun u l=>o outer H s E u l) s'
theorem zkG{sc:fA}{n:Nat}{x:Str}(h:sc.names.lookup x=some .cell):∃c,(cellsFrom n sc.names []).lookup x=some c:=by
 have q:=lS sc.names n [] (.inl h);exact Option.isSome_iff_exists.mp q
theorem zng{CX:CXT}{P:aQ}{w:bz}{K:qF}{mg:qM}{base:bq}{N ps:List Str}{qual:Str}{scope:fA}{f:au}{cd:ah}{A:br}{outer:List Env}{s s1:aw}{H:Hp}{E:XK}{Y:List ah}{J:List V}
  (S:UQ N ps scope) (hd:A.handled=none) (C:Env0 P w K mg base A outer s H) (hl:J.length=ps.length) (r:Vals J Y)
  (x:InCallC s s.heap.objs.size (bindL (envOfC qual scope s.heap.objs.size f cd).kindOf (ps.zip Y) fun _=>none) (cellsFrom (s.heap.objs.size+1) scope.names []) (bindC (envOfC qual scope s.heap.objs.size f cd).kindOf (ps.zip Y) fun _=>none) s1) :
  Inv (cxOf CX P w K mg base N qual scope f cd A outer s H E) [] (start N J) H s1:=by
 have hpl:ps.length<=N.length:=by have:=congrArg eJ S.pre;rw[gE]at this;lia
 obtain⟨U,tk,rfl,Z⟩:=x.done;have G:∀b:au,b∉(cxOf CX P w K mg base N qual scope f cd A outer s H E).ex:=fun b z=>absurd (show b∈([]:List au) from z) (by simp)
 refine⟨⟨C.mod,S.kind,rfl,rfl,aE _,fun y z c U o=>?_,fun y I=>?_,fun y c _ h=>?_,fun _=>hd,Around.frames_deeper C.frames,.inr ⟨rfl,rfl⟩,fun b z=>absurd z (G b),C.bs,C.bsz,fun b _ _=>G b,fun b z=>absurd z (G b),C.funs,C.frf⟩,
  rfl,C.bare,Un.kept Z,⟨_,x.toInCall.ns,fun i y v U o h3=>?_⟩,fun y c h=>⟨_,x.cell y c h⟩,C.hok.fresh (aE _),fun y c h=>?_,fun p L=>absurd (show p∈([]:qO) from L) (by simp),C.hok.kept Z,?_⟩
 ·exact name_of_addr x.apart (fK U) (fK o)
 ·have I:scope.names.lookup y=some .cell\/scope.names.lookup y=some .free:=I;rcases I with I|I
  ·exact zkG I
  ·exact absurd rfl (S.nofree _ (fK I))
 ·exact og (x.above y c (fK h))
 ·have hi:i<J.length:=by
   unfold start at o
   by_cases hi:i<J.length
   ·exact hi
   ·rw[bG (by simpa using hi)]at o
    rw[eO]at o;split at o <;> cases o
  have ha:J[i]?=some v:=by
   unfold start at o;rw[bW (by simpa using hi),bp]at o
   cases e:J[i]? with
   | none=>rw[e]at o;cases o
   | some a=>rw[e]at o;cases o;rfl
  obtain⟨u,hu,rv⟩:=r.get ha;have L:ps[i]?=some y:=by
   rw[<- S.pre,lu (by lia)];exact U
  have R:ps.Nodup:=by rw[<- S.pre];exact S.nd.sublist (oo _ _)
  refine⟨u,rv,?_⟩;rcases S.par y (aH L) with k|k
  ·exact .inl ⟨k,ziR R L hu k⟩
  ·obtain⟨c,e⟩:=zkG (n:=s.heap.objs.size+1) k;refine .inr ⟨.inl k,c,e,?_⟩;have q:=x.cell y c e;rw[ziT R L hu (by show scope.names.lookup y≠_;rw[k];decide)]at q
   exact q
 ·exact C.hok.fresh (og (x.above y c (fK h)))
 ·unfold start;show _=N.length
  rw[aJ,aM,iE];lia
theorem zxb{Y:CXT}{P:aQ}{w:bz}{K:qF}{mg:qM}{base:bq}{k:Nat}{f:au}{name qual:Str}{params:Arguments}{body:List eS}{scope:fA}{dV kV doc pm C ct oc:ah}{an od:Option au}
  {Z:Array (Option ah)} {N ps:List Str} {sp:Sp} (lk:K.lookup f=some ⟨oc,od,.func (dX name qual params body scope dV kV doc pm an C ct),Z⟩) (hcd:h8 K C qual=true) (S:UQ N ps scope)
  (len:∀G H Q E,sp G H Q E->G.length=ps.length)
  (IR:∀(A:br) (outer:List Env) (s:aw) (H:Hp) (G:List V) (Q:VK) (E:XK),Room k (A.deeper (envOfC qual scope s.heap.objs.size f C))->sp G H Q E ->
   ∃t,PSs (cxOf Y P w K mg base N qual scope f C A outer s H E) body t/\t { nx:=fun _ H'=>Q .non H',rt:=Q } (start N G) H) :
  FnOk P w K mg base Y (k+1) f (dX name qual params body scope dV kV doc pm an C ct) ps sp:=by
 refine⟨len,fun A outer s H args us G Q E hr R hb r U=>?_⟩
 have hl:=len _ _ _ _ U;have KX:K.In s.heap:=R.mod.kin.keeps fun b o e=>(R.bs b o e).1
 have lim:s.heap.NoLimit:=R.mod.nolimit.keeps fun b o e=>(R.bs b o e).1
 have IK:∀y∈ps.zip us,scope.names.lookup y.1=some .local\/(scope.names.lookup y.1=some .cell/\((cellsFrom (s.heap.objs.size+1) scope.names []).lookup y.1).isSome=true):=fun⟨n,v⟩ hy=>by
  rcases S.par n (ef hy).1 with q|q
  ·exact .inl q
  ·exact .inr ⟨q,lS _ _ _ (.inl q)⟩
 refine codeAny_call_function hr.depth (KX _ _ lk) rfl S.co S.gen rfl (PySem.W.codeRec_of KX hcd) (hb _ _ _ _ ?_);refine wpAny_newFunctionEnv_cells S.kind IK fun env he s1 x=>?_
 subst he;refine⟨lim.keeps x.toInCall.keep,codeAny_func ?_⟩;obtain⟨t,ht,hq⟩:=IR A outer s H G Q E (hr.deeper _) U;have I:Inv (cxOf Y P w K mg base N qual scope f C A outer s H E) [] (start N G) H s1:=zng S hr.hd R hl r x;refine eu (ht [] s1 (start N G) H _ I hq) (fun fl s' L=>?_) fun e s' L=>L
 have fin:∀{σ':St} {H':Hp} {v:V} {u:ah},Inv (cxOf Y P w K mg base N qual scope f C A outer s H E) [] σ' H' s'->RelV v u->Q v H'->CE outer P w H s Q u s' :=
  fun {σ' H' v u} J rv q=>⟨v,H',J.os,J.bare,J.base,J.hok,rv,q⟩
 cases fl with
 | ret u =>
  obtain⟨v,σ',H',J,rv,q⟩:=L;exact fin J rv q
 | next =>
  obtain⟨σ',H',J,q⟩:=L;exact fin (v:=V.non) (u:=ke) J rfl q
 | brk =>
  obtain⟨_,_,_,q⟩:=L;exact dm q
 | cont =>
  obtain⟨_,_,_,q⟩:=L;exact dm q
section
variable{X:Cx}{x:Str}{p pos:Pos}{e:aZ}{es:List aZ}{t:TA}{id T:String}{r:List V->Hp->VK->Prop}
def tCB(r:List V->Hp->VK->Prop)(t:TA):TE:=fun σ H Q=>t σ H fun o l=>r o l Q
theorem zo0(hc:J1 X (.builtin id) r)(L:Gl X x)(Z:X.mg x=none)(G:bootBuiltins x=some (.builtin id))(S:PA X (e::es) t)(J:x ≠ "__name__":=by decide) (v:(x == ("__debug__":Str))=false:=by decide)
  (he:starEach (e::es) X.env=(false,eval e X.env)::starEach es X.env:=by rfl) (o:(backTo pos (starEach es X.env)).any (·.1)=false:=by rfl):PE X (.Call (.Name x p) (e::es) [] pos) (tCB r t):=by
 intro ad s σ H Q I h;refine kA (ZU I L Z G ?_ J v);exact oT (thn (S pos ad s σ H _ I h) fun us s1 ⟨R,H1,U,Y,q1⟩=>hc ad s1 σ H1 R us Q U Y q1) he o
theorem zhG(hc:J1 X (.type T) r)(J:Gl X x)(Y:X.mg x=none)(v:bootBuiltins x=some (.type T))(R:PA X (e::es) t)(G:x ≠ "__name__":=by decide) (u:(x == ("__debug__":Str))=false:=by decide)
  (he:starEach (e::es) X.env=(false,eval e X.env)::starEach es X.env:=by rfl) (o:(backTo pos (starEach es X.env)).any (·.1)=false:=by rfl):PE X (.Call (.Name x p) (e::es) [] pos) (tCB r t):=by
 intro ad s σ H Q I h;refine kA (ZU I J Y v ?_ G u);exact gj (thn (R pos ad s σ H _ I h) fun Z s1 ⟨L,H1,S,U,q1⟩=>hc ad s1 σ H1 L Z Q S U q1) he o
end
end L2
namespace HT
open PySem PyProof.Rows
def lexLt:List Int->List Int->Bool
 | [],[]=>false
 | [],_::_=>true
 | _::_,[]=>false
 | x::xs,y::ys=>if x=y then lexLt xs ys else decide (x<y)
theorem zk_(x y:Int)(xs ys:List Int):lexLt (x::xs) (y::ys)=if x=y then lexLt xs ys else decide (x<y):=rfl
theorem zgZ:lexLt [] []=false:=rfl
theorem zfL(y:Int)(ys:List Int):lexLt [] (y::ys)=true:=rfl
theorem zfM(x:Int)(xs:List Int):lexLt (x::xs) []=false:=rfl
theorem zpq(A:br)(s:aw)(a:Int)(t:Tok)(c:Int)(u:Tok):∃e,nT A s (.int a t) (.int c u) e/\(e=true↔a=c) :=
 ⟨(a == c),kB a t c u,by simp⟩
theorem zoO(A:br)(s:aw)(a:Int)(t:Tok)(c:Int)(u:Tok)(prog:aQ)(w:bz)(E:qV)(Q:qV)(h:Q (.bool (decide (a<c))) s) :
  wpAny (model prog w) A (richCompare .Lt (.int a t) (.int c u)) Q E s :=
 (wa h:wpAny (model prog w) A (compareOp .Lt (.int a t) (.int c u)) Q E s)
section
open PySem.SeqAt
open PySem.AutoSeq1 (wpAny_loadPart')
open PySem.MeetsSeq PySem.MeetsSeq2 PySem.MeetsSeq3
theorem zgD(l b:au)(items Y:Array ah)(n n2:Nat)(dd dd2:Option au)(sl sl2:Array (Option ah))(ns ms:List Int)(hi:gF items.toList ns)(hj:gF Y.toList ms) :
  Meets (gm.«tuple.__lt__» ⟨[.ref l,.ref b],[]⟩)
   (fun _ R s=>s.heap.get? l=some { cls:=.type "tuple",dict:=dd,data:=.seq items n,slots:=sl }/\s.heap.get? b=some { cls:=.type "tuple",dict:=dd2,data:=.seq Y n2,slots:=sl2 } /\
    R (.ok (.ret (.bool (lexLt ns ms)))) s) :=
 .of_wp fun prog w A R s h=>by
  obtain⟨hp,g,d,tk,os⟩:=s;obtain⟨hl,hb,h⟩:=h;have f2:=AutoSeq1.sub_tuple_tuple;have z1:items.size=ns.length:=by rw[<- hi.length];simp
  have z2:Y.size=ms.length:=by rw[<- hj.length];simp
  wp_walk using pK hl,pK hb,wpAny_forIn_list _ (fun rest b s'=>b.1=none/\s'=⟨hp,g,d,tk,os⟩/\∃(vs ws:List ah) (G C:List Int),rest=vs.zip ws /\
   gF vs G/\gF ws C/\G.length+Y.size=C.length+items.size/\R (.ok (.ret (.bool (lexLt G C)))) ⟨hp,g,d,tk,os⟩) _
  case turn =>
   rintro⟨y,x⟩ rest b s' ⟨U,rfl,vs,ws,G,C,J,S,I,v,L⟩;cases S with
   | nil=>rw[List.zip_nil_left]at J;cases J
   | cons a t hvi' =>
    cases I with
    | nil=>rw[List.zip_nil_right]at J;cases J
    | cons c u Z =>
     rw[kC]at J
     injection J with hyx hrest
     injection hyx with hy hx
     subst hy hx;rw[zk_]at L;simp only[aF]at v;obtain⟨e,he,N⟩:=zpq A.in1 ⟨hp,g,d,tk,os⟩ a t c u;refine aa (he prog w _ _ ?_);cases e with
     | true =>
      rw[if_pos (N.mp rfl)]at L
      wp_walk
      exact⟨rfl,rfl,_,_,_,_,hrest,hvi',Z,by lia,L⟩
     | false =>
      rw[if_neg (fun q=>absurd (N.mpr q) aP)]at L
      have hri:=zoO A.in1 ⟨hp,g,d,tk,os⟩ a t c u prog w
      wp_walk using hri
      exact⟨_,rfl,by simpa using L⟩
  case fin =>
   rintro⟨b1,b2⟩ s' ⟨U,rfl,vs,ws,G,C,J,S,I,v,L⟩;simp only at U;subst U;have hv:lexLt G C=decide (items.size<Y.size):=by
    cases S with
    | nil =>
     cases I with
     | nil =>
      simp only[bo]at v;rw[zgZ];exact(decide_eq_false (by lia)).symm
     | cons c u hw =>
      simp only[bo,aF]at v;rw[zfL];exact(decide_eq_true (by lia)).symm
    | cons a t hv =>
     cases I with
     | nil =>
      simp only[bo,aF]at v;rw[zfM];exact(decide_eq_false (by lia)).symm
     | cons c u hw =>
      rw[kC]at J;cases J
   rw[hv]at L
   wp_walk
   exact⟨_,rfl,by simpa[oM] using L⟩
  case h =>
   exact⟨rfl,rfl,items.toList,Y.toList,ns,ms,rfl,hi,hj,by lia,h⟩
end
section
variable{prog:aQ}{w:bz}{A:br}{E:qV}{s:aw}
theorem zed{l b:au}{items G:Array ah}{ns v:List Int}{Q:qV}(hl:nH s.heap l items)(U:nH s.heap b G)(hi:gF items.toList ns)(Y:gF G.toList v)
  (hu:A.units<cLine) (h:Q (.bool (lexLt ns v)) s):wpAny (model prog w) A (compareOp .Lt (.ref l) (.ref b)) Q E s:=by
 obtain⟨⟨cls,R,data,S⟩,J,hc,n,hd⟩:=id hl;obtain⟨⟨N,I,data2,C⟩,y,u,Z,hd2⟩:=id U;simp only at hc hd u hd2;subst hc hd u hd2;exact richCompare_meets_room (op:=.Lt) ⟨_,J,rfl⟩ ⟨_,y,rfl⟩ PySem.F.slot_tuple_lt PySem.F.entry_tuple_lt (PySem.F.args_tuple_lt_2 _ _) (zgD l b items G n Z R I S C ns v hi Y)
  ⟨J,y,show lO (lexLt ns v)≠Value.notImplemented/\Q (.bool (lexLt ns v)) s from⟨(fun x=>nomatch x),h⟩⟩ hu
theorem zrR{t b:au}{v l:List ah}{Q:qV}(Z:nH s.heap t v.toArray)(Y:nH s.heap b l.toArray)(J:v≠[])
  (h1:l=[]->Q (.ref t) s) (U:l≠[]->Q (.ref s.heap.objs.size) { s with heap:=s.heap.push { cls:=.type "tuple",data:=.seq (v++l).toArray } })
  (hsz:v.length+l.length<=sizeLine):wpAny (model prog w) A (binaryOp .Add (.ref t) (.ref b)) Q E s:=by
 obtain⟨⟨cls,L,data,N⟩,I,hc,n,hd⟩:=id Z;obtain⟨⟨S,G,data2,C⟩,u,x,R,hd2⟩:=id Y;simp only at hc hd x hd2;subst hc hd x hd2;have e:v.toArray++l.toArray=(v++l).toArray:=by simp
 by_cases hw:l=[]
 ·exact ot ⟨_,I,rfl⟩ ⟨_,u,rfl⟩ lE nI ic hY (gV _ _)
   (tuple_addW1 t b v.toArray l.toArray n R L G N C (by simpa using J) (by simp[hw])) ⟨I,u,h1 hw⟩
 ·refine ot ⟨_,I,rfl⟩ ⟨_,u,rfl⟩ lE nI ic hY (gV _ _)
   (tuple_addW2 t b v.toArray l.toArray n R L G N C (by simpa using J) (by simpa using hw) (by rw[aB,aB];exact hsz)) ⟨I,u,?_⟩
  rw[e];exact U hw
def sIx(n d:Nat):Option Int->Nat
 | none=>d
 | some v=>if v<0 then(v+(n:Int)).toNat else min v.toNat n
theorem zeK(n d:Nat):sIx n d none=d:=rfl
theorem ziZ(n d k:Nat):sIx n d (some (k:Int))=min k n:=by
 show(if (k:Int)<0 then((k:Int)+(n:Int)).toNat else min (k:Int).toNat n)=min k n
 rw[if_neg (by lia),gn]
theorem zsz(n d:Nat)(hd:d<=n)(o:Option Int):sIx n d o<=n:=by
 cases o with
 | none=>exact hd
 | some v =>
  show(if v<0 then(v+(n:Int)).toNat else min v.toNat n)<=n
  by_cases hv:v<0
  ·rw[if_pos hv];lia
  ·rw[if_neg hv];exact Nat.min_le_right _ _
theorem znT(v:Int)(n d:Nat):(if v<0 then max (v+(n:Int)) 0 else min v (n:Int))=((sIx n d (some v):Nat):Int):=by
 show(if v<0 then max (v+(n:Int)) 0 else min v (n:Int))=(((if v<0 then(v+(n:Int)).toNat else min v.toNat n):Nat):Int)
 by_cases hv:v<0
 ·simp only[if_pos hv];lia
 ·simp only[if_neg hv];lia
theorem zlJ(lo hi:Option Int)(n:Nat):dg lo hi 1 (n:Int)=(((sIx n 0 lo:Nat):Int),((sIx n n hi:Nat):Int)):=by
 have l:¬((1:Int)<0):=by lia
 unfold dg;simp only[l,if_false];refine gW ?_ ?_
 ·cases lo with
  | none=>rfl
  | some v=>exact znT v n 0
 ·cases hi with
  | none=>rfl
  | some v=>exact znT v n n
theorem zkT(i j:Nat):cj (i:Int) (j:Int) 1=j - i:=by
 unfold cj;have l:(1:Int) > 0:=by lia
 simp only[l,if_true,Int.ediv_one];split <;> lia
theorem zd7{v:ah}{o:Option Int}{Q:Option Int->aw->Prop}(p:kD v o)(h:Q o s):wpAny (model prog w) A (pL v) Q E s:=by
 cases p with
 | none=>exact kE h
 | int i t=>exact slicePart_int h
theorem zcy{C:au}{v y:ah}{lo hi:Option Int}{n:Nat}{Q:Int×Int×Nat->aw->Prop}(G:s.heap.IsSliceOf C v y .none)(pl:kD v lo)(I:kD y hi)
  (h:Q (((sIx n 0 lo:Nat):Int),1,sIx n n hi - sIx n 0 lo) s):wpAny (model prog w) A (gC (.ref C) (pure (n:Int))) Q E s:=by
 obtain⟨os,u,J,l⟩:=id G;unfold gC kO;refine aa (aa (cI u l (x:=v) rfl (aa (cI u l (x:=y) rfl (aa (cI u l (x:=.none) rfl (aj ?_)))))));refine aa (kE ?_);show wpAny _ _ (if ((1:Int) == 0)=true then _ else _) _ _ s
 rw[if_neg (by decide)]
 refine aa (zd7 pl (aa (zd7 I (aa (aj ?_)))));show wpAny _ _ (match dg lo hi 1 (n:Int) with|(lo,hi)=>pure (lo,(1:Int),cj lo hi 1)) _ _ s
 rw[zlJ lo hi n];show wpAny _ _ (pure (((sIx n 0 lo:Nat):Int),(1:Int),cj ((sIx n 0 lo:Nat):Int) ((sIx n n hi:Nat):Int) 1)) _ _ s
 rw[zkT];exact aj h
theorem zoV(xs:Array ah)(i k:Nat):((dW k).filterMap fun(m:Nat)=>xs[((i:Int)+(m:Int)*1).toNat]?).toArray=((xs.toList.drop i).take k).toArray:=by
 have e:(fun(m:Nat)=>xs[((i:Int)+(m:Int)*1).toNat]?)=fun m=>xs[i+m]?:=by
  funext m
  have:((i:Int)+(m:Int)*1).toNat=i+m:=by lia
  rw[this]
 rw[e];have:=vk xs i k;rw[List.filterMap_map]at this;have u:((fun x=>xs[x]?)∘fun x=>i+x)=fun m=>xs[i+m]?:=rfl
 rw[u]at this;rw[this]
theorem zei{t x:au}{items:Array ah}{J L:ah}{lo hi:Option Int}{Q:qV}(l:nH s.heap t items)(N:s.heap.IsSliceOf x J L .none)(pl:kD J lo)(S:kD L hi)
  (hw:¬(sIx items.size 0 lo=0/\sIx items.size items.size hi=items.size))
  (h:Q (.ref s.heap.objs.size) { s with heap:=s.heap.push { cls:=.type "tuple",data:=.seq ((items.toList.drop (sIx items.size 0 lo)).take (sIx items.size items.size hi - sIx items.size 0 lo)).toArray } })
  (hsz:items.size<=sizeLine):wpAny (model prog w) A (getItem (.ref t) (.ref x)) Q E s:=by
 have u:sizeOk (.seq ((items.toList.drop (sIx items.size 0 lo)).take (sIx items.size items.size hi - sIx items.size 0 lo)).toArray):=by
  show((items.toList.drop (sIx items.size 0 lo)).take (sIx items.size items.size hi - sIx items.size 0 lo)).toArray.size<=sizeLine
  rw[aB,gE,gG,eX];lia
 have U:sIx items.size items.size hi<=items.size:=zsz _ _ (aE _) hi;obtain⟨os,C,G,R⟩:=id N;have I:s.TypeIs (.ref x) "slice":=⟨os,C,G⟩;unfold getItem
 try with_reducible refine cf ?_
 first|refine aa (aj ?_)|skip
 refine aa (kX l.typeIs (by decide) ?_)
 refine aa (dM (name:=af "__getitem__") l.typeIs bu
  (eC bu l.typeIs iX ?_ (kF _ _)))
 show wpAny _ _ (gD (.ref t) >>= _) _ _ s
 refine aa (nJ l ?_);refine aa (eG I ?_);rw[if_pos (by decide)]
 refine aa (zcy N pl S ?_);have v:¬((((sIx items.size 0 lo:Nat):Int) == 0&&(1:Int) == 1&&(sIx items.size items.size hi - sIx items.size 0 lo) == items.size)=true):=by
  intro q;rw[aY,aY]at q;have Z:((sIx items.size 0 lo:Nat):Int)=0:=eq_of_beq q.1.1;have Y:sIx items.size items.size hi - sIx items.size 0 lo=items.size:=eq_of_beq q.2;exact hw ⟨by lia,by lia⟩
 show wpAny _ _ (if (((sIx items.size 0 lo:Nat):Int) == 0&&(1:Int) == 1&&(sIx items.size items.size hi - sIx items.size 0 lo) == items.size)=true then _ else _) _ _ s
 rw[if_neg v,zoV]
 first
  | exact aa (m:=cx _) (bS (aj ⟨_,rfl,aj h⟩) u)
  | exact aa (m:=cx _) (bS (aa (aj (aj ⟨_,rfl,aj h⟩))) u)
  | exact aa (aa (m:=cx _) (bS (aj (aj ⟨_,rfl,aj h⟩)) u))
  | exact aa (aa (m:=cx _) (bS (aj ⟨_,rfl,aj h⟩) u))
end
end HT
namespace L2
open PySem PySem.Spec PyProof.Rows
abbrev TO:=St->Hp->(Option Int->Hp->Prop)->Prop
def PO(X:Cx)(e:Option aZ)(t:TO):Prop :=
 ∀(ad:qO) (s:aw) (σ:St) (H:Hp) (Q:Option Int->Hp->Prop),Inv X ad σ H s->t σ H Q ->
  wpAny (model X.prog X.w) X.A (evalPart e X.env) (fun u s'=>∃o H',Inv X ad σ H' s'/\kD u o/\Q o H') X.xe s
def zqn:TO:=fun _ H Q=>Q none H
def zvH(t:TE):TO:=fun σ H Q=>t σ H fun x l=>∃i,x=.int i/\Q (some i) l
theorem intsAre_of{ns:List Int}:∀{u:List ah},Vals (ns.map V.int) u->gF u ns:=by
 induction ns with
 | nil=>intro u r;rw[e8]at r;cases r;exact .nil
 | cons n ns x =>
  intro u r;rw[aV]at r;cases r with
  | cons v y =>
   obtain⟨t,e⟩:=v;subst e;exact .cons n t (x y)
section
variable{X:Cx}{e:aZ}{te:TE}{lo hi:Option aZ}{tl th:TO}{pos p2:Pos}
theorem zqE:PO X none zqn:=by
 intro ad s σ H Q I h;rw[nK];exact aj ⟨none,H,I,.none,h⟩
theorem zqD(h:PE X e te):PO X (some e) (zvH te):=by
 intro ad s σ H Q I hw;rw[evalPart_some];refine thn (h ad s σ H _ I hw) fun u s1 ⟨x,v,l,o,y⟩=>?_
 obtain⟨i,rfl,q⟩:=y;obtain⟨t,rfl⟩:=o;exact⟨some i,v,l,.int i t,q⟩
def SlR(X:Cx)(r:V->Option Int->Option Int->Hp->VK->Prop):Prop :=
 ∀(ad:qO) (s:aw) (σ:St) (H:Hp) (x:V) (v G I:ah) (lo hi:Option Int) (C:au) (Q:VK),Inv X ad σ H s->RelV x v->s.heap.IsSliceOf C G I .none->kD G lo->kD I hi->r x lo hi H Q ->
  ∃T id,typeLookup (.type T) "__getitem__" = pure (some (.builtin id))/\s.TypeIs v T/\wpAny (model X.prog X.w) X.A (getItem v (.ref C)) (EP X ad σ Q) X.xe s
theorem SlR.or{r G:V->Option Int->Option Int->Hp->VK->Prop}(h:SlR X r)(h':SlR X G):SlR X (fun x lo hi H Q=>r x lo hi H Q\/G x lo hi H Q):=by
 intro ad s σ H x v u y lo hi o Q I l C pl J q;rcases q with q|q
 ·exact h ad s σ H x v u y lo hi o Q I l C pl J q
 ·exact h' ad s σ H x v u y lo hi o Q I l C pl J q
def tSl(r:V->Option Int->Option Int->Hp->VK->Prop)(te:TE)(tl th:TO):TE:=fun σ H Q=>te σ H fun x o=>tl σ o fun l y=>th σ y fun u v=>r x l u v Q
theorem zjZ{r:V->Option Int->Option Int->Hp->VK->Prop}(hr:SlR X r)(he:PE X e te)(hl:PO X lo tl)(hu:PO X hi th):PE X (.Subscript e (.Slice lo hi none p2) pos) (tSl r te tl th):=by
 intro ad s σ H Q I h;refine rh (thn (he ad s σ H _ I h) fun v s1 ⟨x,H1,U,Y,q1⟩=>?_)
 refine wpAny_Slice (thn (hl ad s1 σ H1 _ U q1) fun C s2 ⟨l,N,I2,pl,q2⟩=>thn (hu ad s2 σ N _ I2 q2) fun G s3 ⟨u,J,I3,pu,q3⟩=>?_)
 rw[nK];refine aj ?_;have Z:Inv X ad σ J { s3 with heap:=s3.heap.push { cls:=.type "slice",data:=.fields #[C,G,.none] } }:=I3.kept (t':=s3.toks) fun b ob q=>aq _ q
 obtain⟨T,id,L,ht,R⟩:=hr ad { s3 with heap:=s3.heap.push { cls:=.type "slice",data:=.fields #[C,G,.none] } } σ J x v C G l u s3.heap.objs.size Q Z Y (nU ..) pl pu q3
 show wpAny (model X.prog X.w) X.A (subscriptTail e (.Slice lo hi none p2) v (.ref s3.heap.objs.size)) (EP X ad σ Q) X.xe { s3 with heap:=s3.heap.push { cls:=.type "slice",data:=.fields #[C,G,.none] } }
 exact vn (ops:=[.ref s3.heap.objs.size,v]) ht L R (by with_unfolding_all rfl)
def cutV(xs:List V)(lo hi:Option Int):List V:=(xs.drop (HT.sIx xs.length 0 lo)).take (HT.sIx xs.length xs.length hi - HT.sIx xs.length 0 lo)
theorem zft(xs:List V)(lo hi:Option Int):(cutV xs lo hi).length<=xs.length:=by
 unfold cutV;rw[gE,gG];lia
def rSlT(K:qF):V->Option Int->Option Int->Hp->VK->Prop:=fun x lo hi H Q=>∃a xs,x=.ref a/\SqT K H a xs /\
 ¬(HT.sIx xs.length 0 lo=0/\HT.sIx xs.length xs.length hi=xs.length)/\∀p,H p=none->Q (.ref p) (upd H p (.tup (cutV xs lo hi)))
theorem zsk:SlR X (rSlT X.K):=by
 intro ad s σ H x v R S lo hi N Q I G J pl L h;obtain⟨a,xs,rfl,hx,hw,q⟩:=h;cases G;obtain⟨its,r,y,C⟩:=I.tuple hx;have l:its.toArray.size=xs.length:=by rw[aB];exact r.length.symm
 refine⟨"tuple",_,bu.lookup,y.typeIs,?_⟩;refine HT.zei y J pl L (by rw[l];exact hw) ?_ (by rw[l];exact C)
 rw[l];refine⟨.ref s.heap.objs.size,_,I.laid (t':=s.toks) (o:=.tup (cutV xs lo hi)) (fun b U q=>aq _ q) (aE _) ?_,rfl,q _ (I.hok.fresh (aE _))⟩
 exact⟨cy (zft xs lo hi) C,_,(r.drop (HT.sIx xs.length 0 lo)).take (HT.sIx xs.length xs.length hi - HT.sIx xs.length 0 lo),IsTD.new _ _⟩
def rLtT(K:qF):R2:=fun x y H Q=>∃a b ns o,x=.ref a/\y=.ref b/\SqT K H a (ns.map V.int)/\SqT K H b (o.map V.int)/\Q (.bl (HT.lexLt ns o)) H
theorem zs8(hu:X.A.units<cLine):OpR X (compareOp .Lt) (rLtT X.K):=by
 intro ad s σ H x y v u Q I J G h;obtain⟨a,b,ns,C,rfl,rfl,S,N,q⟩:=h;cases J;cases G;obtain⟨its,U,Y,_⟩:=I.tuple S;obtain⟨o,R,p2,_⟩:=I.tuple N;have Z:gF its.toArray.toList ns:=intsAre_of U;have i2:gF o.toArray.toList C:=intsAre_of R;exact HT.zed Y p2 Z i2 hu ⟨.bl (HT.lexLt ns C),H,I,rfl,q⟩
def zwk(K:qF):R2:=fun x y H Q=>∃a b xs ys,x=.ref a/\y=.ref b/\SqT K H a xs/\SqT K H b ys/\xs≠[]/\xs.length+ys.length<=sizeLine /\
 (ys=[]->Q (.ref a) H)/\(ys≠[]->∀p,H p=none->Q (.ref p) (upd H p (.tup (xs++ys))))
theorem Vals.nil_iff{xs:List V}{l:List ah}(r:Vals xs l):l=[]↔xs=[]:=by
 cases r with
 | nil=>simp
 | cons _ _=>simp
theorem zqR:OpR X (binaryOp .Add) (zwk X.K):=by
 intro ad s σ H x y v u Q I N L h;obtain⟨a,b,xs,ys,rfl,rfl,S,R,hx,J,Z,Y⟩:=h;cases N;cases L;obtain⟨its,C,U,_⟩:=I.tuple S;obtain⟨G,l,p2,_⟩:=I.tuple R;refine HT.zrR U p2 (fun z=>hx (C.nil_iff.mp z)) (fun z=>⟨.ref a,H,I,rfl,Z (l.nil_iff.mp z)⟩) (fun z=>?_) (by rw[<- C.length,<- l.length];exact J)
 refine⟨.ref s.heap.objs.size,_,I.laid (t':=s.toks) (o:=.tup (xs++ys)) (fun b ob q=>aq _ q) (aE _) ?_,rfl,Y (fun w=>z (l.nil_iff.mpr w)) _ (I.hok.fresh (aE _))⟩
 exact⟨by rw[aJ];exact J,_,C.append l,IsTD.new _ _⟩
end
def ixN(n:Nat)(i:Int):Option Nat:=if 0<=i then(if i<n then some i.toNat else none) else if -(n:Int)<=i then some (i+n).toNat else none
def atI{α:Type}(xs:List α)(i:Int):Option α:=(ixN xs.length i).bind fun j=>xs[j]?
theorem znd{n:Nat}{i:Int}{j:Nat}(h:ixN n i=some j):seqIndex? i n=some j/\j<n/\-(n:Int)<=i/\i<n:=by
 unfold ixN at h
 by_cases h0:0<=i
 ·rw[if_pos h0]at h
  by_cases h1:i<n
  ·rw[if_pos h1]at h;have e:i.toNat=j:=ba h;exact⟨by rw[pE h0 h1,e],by lia,by lia,h1⟩
  ·rw[if_neg h1]at h;cases h
 ·rw[if_neg h0]at h
  by_cases h1:-(n:Int)<=i
  ·rw[if_pos h1]at h;have e:(i+n).toNat=j:=ba h;exact⟨by rw[ou (by lia) h1,e],by lia,h1,by lia⟩
  ·rw[if_neg h1]at h;cases h
theorem zjF{α:Type}{xs:List α}{i:Int}{v:α}(h:atI xs i=some v):∃j,seqIndex? i xs.length=some j/\xs[j]?=some v/\j<xs.length/\-(xs.length:Int)<=i/\i<xs.length:=by
 unfold atI at h;cases e:ixN xs.length i with
 | none=>rw[e]at h;cases h
 | some j =>
  rw[e]at h;obtain⟨u,x,o,l⟩:=znd e;exact⟨j,u,h,x,o,l⟩
theorem zrY{α:Type}{xs:List α}{j:Nat}{v:α}(h:xs[j]?=some v):atI xs (j:Int)=some v:=by
 have l:j<xs.length:=(av.mp h).1;have e:ixN xs.length (j:Int)=some j:=by
  unfold ixN;rw[if_pos (by lia),if_pos (by lia)];simp
 unfold atI;rw[e];exact h
def zob(b:aZ):Prop:=∀o i,subscripted b false o i=operate [o,i] (getItem o i)
def IxR(X:Cx)(r:R2):Prop :=
 ∀(value slice:aZ) (ad:qO) (s:aw) (σ:St) (H:Hp) (x y:V) (v u:ah) (Q:VK),Inv X ad σ H s->RelV x v->RelV y u->r x y H Q ->
  subscripted slice false v u=operate [v,u] (getItem v u)->wpAny (model X.prog X.w) X.A (subscriptTail value slice v u) (EP X ad σ Q) X.xe s
def MtR(X:Cx)(id:String)(r:V->List V->Hp->VK->Prop):Prop :=
 ∀(ad:qO) (s:aw) (σ:St) (H:Hp) (x:V) (xs:List V) (v:ah) (o:List ah) (Q:VK),Inv X ad σ H s->RelV x v->Vals xs o->r x xs H Q ->
  wpAny (model X.prog X.w) X.A (call (.builtin id) (v::o)) (EP X ad σ Q) X.xe s
section
variable{X:Cx}{a b:aZ}{ta tb:TE}{pos:Pos}
theorem IxR.or{r G:R2}(h:IxR X r)(h':IxR X G):IxR X (fun x y H Q=>r x y H Q\/G x y H Q):=by
 intro value slice ad s σ H x y v u Q I o l q C;rcases q with q|q
 ·exact h value slice ad s σ H x y v u Q I o l q C
 ·exact h' value slice ad s σ H x y v u Q I o l q C
theorem UJ{r:R2}(R:IxR X r)(J:PE X a ta)(G:PE X b tb)(L:zob b):PE X (.Subscript a b pos) (tOp r ta tb):=by
 intro ad s σ H Q I h;exact rh (binT J G I h fun v u s2 x y o N C l q=>R a b ad s2 σ o x y v u Q N C l q (L _ _))
def rIxL(K:qF):R2:=fun x y H Q=>∃p xs i v,x=.ref p/\y=.int i/\SqL K H p xs/\atI xs i=some v/\Q v H
def rIxT(K:qF):R2:=fun x y H Q=>∃p xs i v,x=.ref p/\y=.int i/\SqT K H p xs/\atI xs i=some v/\Q v H
def rIxS:R2:=fun x y H Q=>∃z i c,x=.str z/\y=.int i/\z.length<=sizeLine/\atI z.cps.toList i=some c/\Q (.str ⟨#[c]⟩) H
theorem UO:IxR X (rIxL X.K):=by
 intro value slice ad s σ H x y v u Q I Y S h L;obtain⟨p,xs,i,z,rfl,rfl,Z,he,q⟩:=h;cases Y;obtain⟨t,rfl⟩:=S;obtain⟨its,r,pl,hz⟩:=I.list Z;obtain⟨j,l,U,h3,h4,R⟩:=zjF he;obtain⟨w,J,G⟩:=r.get U;have hl:=r.length;have hn:=U8;have fin:EP X ad σ Q w s:=⟨z,H,I,G,q⟩
 by_cases h0:0<=i
 ·have C:i.toNat=j:=by
   rw[pE h0 R]at l;exact ba l
  exact item_listR pl.isList h0 (by lia) (by rw[C];simpa using J) fin L
 ·have C:(i+(its.toArray.size:Int)).toNat=j:=by
   rw[ou (by lia) h4]at l
   rw[aB,<- hl];exact ba l
  exact lT (x:=w) pl.isList.typeIs oz.lookup
   (wpAny_getItem_list_neg (Q:=fun r s'=>r=w/\EP X ad σ Q r s') pl.isList (by lia) (by rw[aB] <;> lia) (by lia) (by rw[C];simpa using J) ⟨rfl,fin⟩) L
theorem ztU:IxR X (rIxT X.K):=by
 intro value slice ad s σ H x y v u Q I J C h N;obtain⟨p,xs,i,z,rfl,rfl,L,he,q⟩:=h;cases J;obtain⟨t,rfl⟩:=C;obtain⟨its,r,pl,hz⟩:=I.tuple L;obtain⟨j,R,G,Z,h4,U⟩:=zjF he;obtain⟨w,o,l⟩:=r.get G;have S:=r.length;have Y:=U8;have fin:EP X ad σ Q w s:=⟨z,H,I,l,q⟩;exact lT (x:=w) pl.typeIs slot_tuple_getitem.lookup
  (getItem_tuple (j:=j) (Q:=fun r s'=>r=w/\EP X ad σ Q r s') pl (by lia) (by lia) (by rw[aB,<- S];exact R) (by simpa using o) ⟨rfl,fin⟩) N
theorem ztV:IxR X rIxS:=by
 intro value slice ad s σ H x y v u Q I J C h N;obtain⟨z,i,c,rfl,rfl,hz,he,q⟩:=h;obtain⟨t,rfl⟩:=J;obtain⟨t',rfl⟩:=C;obtain⟨j,l,G,Z,R,o⟩:=zjF he;have U:z.cps.toList.length=z.length:=by simp[lU]
 rw[U]at l R o;have Y:=U8;exact vn (rm s z t) slot_str_getitem.lookup (getItem_str (c:=c) (by
  have L:decide (i < -(2 ^ 63:Int))=false:=decide_eq_false (by lia)
  have S:decide (i>=2 ^ 63)=false:=decide_eq_false (by lia)
  rw[L,S,sS]) (by rw[l];simpa using G) ⟨.str ⟨#[c]⟩,H,I.tok _,⟨_,rfl⟩,q⟩) N
def rIx(K:qF):R2:=fun x y H Q=>rIxL K x y H Q\/rIxT K x y H Q\/rIxS x y H Q
theorem ztW:IxR X (rIx X.K):=UO.or (ztU.or ztV)
theorem zk9(its:List ah)(n j:Nat)(u:ah):fF (·.setIfInBounds j u) { cls:=.type "list",data:=.seq its.toArray n }={ cls:=.type "list",data:=.seq (its.set j u).toArray n }:=by
 simp[fF]
theorem Inv.lst{ad:qO}{σ:St}{H:Hp}{s:aw}{p:au}{xs:List V}(I:Inv X ad σ H s)(h:H p=some (.lst xs)) :
  ∃(its:List ah) (n:Nat),Vals xs its/\s.heap.get? p=some { cls:=.type "list",data:=.seq its.toArray n }/\xs.length<=sizeLine:=by
 obtain⟨z,its,n,r,e⟩:=I.hok p _ h;exact⟨its,n,r,e,z⟩
theorem Inv.lstUpd{ad:qO}{σ:St}{H:Hp}{s:aw}{p:au}{xs ys:List V}{its its':List ah}{n o:Nat}{f:Obj->Obj}(I:Inv X ad σ H s)(h:H p=some (.lst xs))
  (C:s.heap.get? p=some { cls:=.type "list",data:=.seq its.toArray n }) (hf:f { cls:=.type "list",data:=.seq its.toArray n }={ cls:=.type "list",data:=.seq its'.toArray o }) (r:Vals ys its') (G:ys.length<=sizeLine) (t:Nat) :
  Inv X ad σ (upd H p (.lst ys)) { s with heap:=s.heap.update p f,toks:=t }:=by
 have e:(s.heap.update p f).get? p=some { cls:=.type "list",data:=.seq its'.toArray o }:=by
  rw[f9 f C (by rw[hf] <;> rfl),hf]
 refine I.write (x:=p) (e:=p) (by rw[h];trivial) (.inl rfl) (fun b u v q=>(cm _ _ (gh v)).trans q) ⟨_,e⟩ ?_
 exact⟨G,its',o,r,e⟩
def zwj:V->V->V->Hp->(Hp->Prop)->Prop:=fun o i v H Q=>∃p xs k j,o=.ref p/\i=.int k/\H p=some (.lst xs)/\ixN xs.length k=some j/\Q (upd H p (.lst (xs.set j v)))
theorem set_list:PSet X zwj:=by
 intro ad s σ H o i v ov iv u Q I U ri Z h;obtain⟨p,xs,k,j,rfl,rfl,S,Y,q⟩:=h;cases U;obtain⟨t,rfl⟩:=ri;obtain⟨its,n,r,G,hz⟩:=I.lst S;obtain⟨x,h2,L,R⟩:=znd Y;have y:=r.length;have hn:=U8;have J:Inv X ad σ (upd H p (.lst (xs.set j v))) { s with heap:=s.heap.update p (fF (·.setIfInBounds j u)) } :=
  I.lstUpd S G (zk9 its n j u) (r.set Z j) (by rw[List.length_set];exact hz) s.toks
 by_cases h0:0<=k
 ·have C:k.toNat=j:=by
   rw[pE h0 R]at x;exact ba x
  exact PySem.W.ki_setAt G h0 (by lia) (by rw[aB,<- y];exact R) (by rw[C];exact⟨_,J,q⟩)
 ·have C:(k+(its.toArray.size:Int)).toNat=j:=by
   rw[ou (by lia) L]at x
   rw[aB,<- y];exact ba x
  exact PySem.W.ki_setBack G (by lia) (by rw[aB,<- y];exact L) (by lia) (by rw[C];exact⟨_,J,q⟩)
theorem zhw(lo hi:Option Int)(n:Nat):(sliceBounds lo hi none n).1=((HT.sIx n 0 lo:Nat):Int)/\(sliceBounds lo hi none n).2.1=((HT.sIx n n hi:Nat):Int)/\(sliceBounds lo hi none n).2.2=1:=by
 refine⟨?_,?_,rfl⟩
 ·cases lo with
  | none=>simp[sliceBounds,HT.sIx]
  | some i =>
   simp only[sliceBounds,HT.sIx,oU,show(1:Int) > 0 by decide,if_true]
   by_cases h:i<0
   ·simp only[h,if_true] <;> lia
   ·simp only[h,if_false] <;> lia
 ·cases hi with
  | none=>simp[sliceBounds,HT.sIx]
  | some i =>
   simp only[sliceBounds,HT.sIx,oU,show(1:Int) > 0 by decide,if_true]
   by_cases h:i<0
   ·simp only[h,if_true] <;> lia
   ·simp only[h,if_false] <;> lia
theorem zgF(its:List ah)(lo hi:Option Int):slicePick its.toArray lo hi none=((its.drop (HT.sIx its.length 0 lo)).take (HT.sIx its.length its.length hi - HT.sIx its.length 0 lo)).toArray:=by
 obtain⟨u,v,l⟩:=zhw lo hi its.toArray.size;unfold slicePick;rw[u,v,l];simp only[rn,vk,aB] <;> rfl
def rSlL(K:qF):V->Option Int->Option Int->Hp->VK->Prop:=fun x lo hi H Q=>∃a xs,x=.ref a/\SqL K H a xs/\∀p,H p=none->Q (.ref p) (upd H p (.lst (cutV xs lo hi)))
theorem zqq:SlR X (rSlL X.K):=by
 intro ad s σ H x v R S lo hi N Q I C G pl L h;obtain⟨a,xs,rfl,hx,q⟩:=h;cases C;obtain⟨its,r,y,J⟩:=I.list hx;have u:=r.length;refine⟨"list",_,oz.lookup,y.isList.typeIs,?_⟩;refine wpAny_getItem_list_slice y.isList G pl L .none (by simp) ?_ (by rw[aB] <;> lia)
 rw[zgF,<- u];refine⟨.ref s.heap.objs.size,_,I.laid (t':=s.toks) (o:=.lst (cutV xs lo hi)) (fun b U q=>aq _ q) (aE _) ?_,rfl,q _ (I.hok.fresh (aE _))⟩
 exact⟨cy (zft xs lo hi) J,_,0,(r.drop (HT.sIx xs.length 0 lo)).take (HT.sIx xs.length xs.length hi - HT.sIx xs.length 0 lo),aG _ rfl⟩
theorem ziH:J1 X (.builtin "len") (fun xs H Q=>∃p ys,xs=[.ref p]/\(SqL X.K H p ys\/SqT X.K H p ys)/\Q (.int ys.length) H):=by
 intro ad s σ H xs J Q I r h;obtain⟨p,ys,rfl,v,q⟩:=h;obtain⟨u,rfl,y⟩:=vals1 r;cases y;have G:=U8;rcases v with v|v
 ·obtain⟨its,x,pl,C⟩:=I.list v;have o:=x.length;exact nB pl.isList (by simp only[aB] <;> lia) ⟨.int ys.length,H,I.tok _,⟨s.toks+1,by rw[aB,o]⟩,q⟩
 ·obtain⟨its,x,pl,C⟩:=I.tuple v;have o:=x.length;exact len_tuple pl (by simp only[aB] <;> lia) ⟨.int ys.length,H,I.tok _,⟨s.toks+1,by rw[aB,o]⟩,q⟩
theorem ziG:J1 X (.type "list") (fun xs H Q=>∃p ys,xs=[.ref p]/\(SqL X.K H p ys\/SqT X.K H p ys)/\∀l,H l=none->Q (.ref l) (upd H l (.lst ys))):=by
 intro ad s σ H xs S Q I r h;obtain⟨p,ys,rfl,C,q⟩:=h;obtain⟨u,rfl,R⟩:=vals1 r;cases R;have fin:∀(its:List ah),Vals ys its->ys.length<=sizeLine->∀(h':bq) (x:Nat),(∀b N,s.heap.get? b=some N->h'.get? b=some N) ->
   h'.get? s.heap.objs.size=some { cls:=.type "list",dict:=none,data:=.seq its.toArray x,slots:=#[] }->EP X ad σ Q (.ref s.heap.objs.size) { s with heap:=h' }:=fun its v J h' x kp e =>
  ⟨.ref s.heap.objs.size,_,I.laid (t':=s.toks) kp (aE _) (show JP X.prog X.w _ h' _ (.lst ys) from⟨J,its,x,v,e⟩),rfl,q _ (I.hok.fresh (aE _))⟩
 rcases C with C|C
 ·obtain⟨its,v,pl,J⟩:=I.list C;have G:=v.length;obtain⟨o,L,hc,n,hd⟩:=pl.isList;exact call_list_seq p (.inl rfl) L hc hd (fun h' x kp e=>fin its v J h' x kp e) (by simp only[aB] <;> lia)
 ·obtain⟨its,v,pl,J⟩:=I.tuple C;have G:=v.length;obtain⟨o,L,hc,n,hd⟩:=pl;exact call_list_seq p (.inr rfl) L hc hd (fun h' x kp e=>fin its v J h' x kp e) (by simp only[aB] <;> lia)
theorem Ub:J1 X (.type "tuple") (fun xs H Q=>∃p ys,xs=[.ref p]/\((SqL X.K H p ys/\∀l,H l=none->Q (.ref l) (upd H l (.tup ys)))\/(SqT X.K H p ys/\Q (.ref p) H))):=by
 intro ad s σ H xs R Q I r h;obtain⟨p,ys,rfl,h⟩:=h;obtain⟨u,rfl,L⟩:=vals1 r;cases L;rcases h with⟨v,q⟩|⟨v,q⟩
 ·obtain⟨its,x,pl,J⟩:=I.list v;have G:=x.length;refine call_tuple_list pl.isList (fun h' kp=>?_) (by simp only[aB] <;> lia)
  have C:Inv X ad σ H { s with heap:=h' }:=I.kept (t':=s.toks) kp
  have N:Inv X ad σ (upd H h'.objs.size (.tup ys)) { s with heap:=h'.push { cls:=.type "tuple",data:=.seq its.toArray } } :=
   C.laid (t':=s.toks) (fun b o e=>aq _ e) (aE _) (show JP X.prog X.w _ _ _ (.tup ys) from⟨J,its,x,IsTD.new _ _⟩)
  exact⟨.ref h'.objs.size,_,N,rfl,q _ (C.hok.fresh (aE _))⟩
 ·obtain⟨its,x,pl,J⟩:=I.tuple v;exact call_tuple_same pl ⟨.ref p,H,I,rfl,q⟩
def tyV(K:qF)(T:String)(x:V)(H:Hp):Prop:=match x with
 | .str _=>T = "str"
 | .int _=>T = "int"
 | .ref p=>(T = "list" /\ ∃xs,SqL K H p xs)\/(T = "tuple" /\ ∃o,K.lookup p=some o/\o.cls=.type "tuple" /\ o.dict=none) \/
   (T = "dict" /\ ((∃l,H p=some (.dK l))\/∃l,H p=some (.dT l)))\/(T = "set" /\ ∃S n,H p=some (.set S n))
 | _=>False
theorem zpM{ad:qO}{σ:St}{H:Hp}{s:aw}{T:String}{x:V}{v:ah}(I:Inv X ad σ H s)(r:RelV x v)(ty:tyV X.K T x H) :
  s.TypeIs v T/\∀a,v=.ref a->∃C,s.heap.get? a=some C/\C.dict=none:=by
 cases x with
 | str z =>
  obtain⟨t,rfl⟩:=r;cases(show T = "str" from ty)
  exact⟨rm s z t,fun _ e=>nomatch e⟩
 | int i =>
  obtain⟨t,rfl⟩:=r;cases(show T = "int" from ty)
  exact⟨typeIs_int s i t,fun _ e=>nomatch e⟩
 | ref p =>
  cases r;rcases ty with⟨rfl,xs,G⟩|⟨rfl,o,l,hc,hd⟩|⟨rfl,l⟩|⟨rfl,S,n,l⟩
  ·obtain⟨its,_,pl,_⟩:=I.list G;refine⟨pl.isList.typeIs,fun a e=>?_⟩
   cases e;obtain⟨o,n,e,c,hd,_⟩:=pl;exact⟨o,e,hd⟩
  ·refine⟨⟨o,I.kIn p o l,hc⟩,fun a e=>?_⟩
   cases e;exact⟨o,I.kIn _ o l,hd⟩
  ·have z:∃o,s.heap.get? p=some o/\o.ExactDict:=by
    rcases l with⟨u,l⟩|⟨u,l⟩
    ·obtain⟨_,_,_,_,o,_,_,e,ex,_⟩:=I.hok p _ l;exact⟨o,e,ex⟩
    ·obtain⟨_,_,_,_,o,_,_,e,ex,_⟩:=I.hok p _ l;exact⟨o,e,ex⟩
   obtain⟨o,e,ex⟩:=z;refine⟨⟨o,e,ex.1⟩,fun a y=>?_⟩
   cases y;exact⟨o,e,ex.2.1⟩
  ·obtain⟨o,_,_,_,e,ex,_⟩:=I.hok p _ l;refine⟨⟨o,e,ex.1⟩,fun a y=>?_⟩
   cases y;exact⟨o,e,ex.2.1⟩
 | _=>exact dm ty
def tBM0(K:qF)(T:String)(r:V->List V->Hp->VK->Prop)(to:TE):TE:=fun σ H Q=>to σ H fun x l=>tyV K T x l/\r x [] l Q
def tBM(K:qF)(T:String)(r:V->List V->Hp->VK->Prop)(to:TE)(t:TA):TE:=fun σ H Q=>to σ H fun x l=>tyV K T x l/\t σ l fun xs o=>r x xs o Q
variable{o e:aZ}{es:List aZ}{to:TE}{t:TA}{name:Str}{apos Iz:Pos}{T id:String}{r:V->List V->Hp->VK->Prop}
theorem zsZ(pa:PlainAttrs T)(slot:Slot T name id)(G:typeOf (.builtin id)=pure (.type "method_descriptor")) (Y:MtR X id r) (S:PE X o to)
  (R:attributeBase o name X.env (eval o X.env)=eval o X.env:=by rfl) (U:(apos.endLine == Iz.line)=true:=by rfl):PE X (.Call (.Attribute o name apos) [] [] Iz) (tBM0 X.K T r to):=by
 intro ad s σ H Q I h;refine wpAny_Call_method0_late R U (thn (S ad s σ H _ I h) fun v s1 ⟨x,Z,J,L,ty,q1⟩=>?_)
 obtain⟨h1,N⟩:=zpM J L ty;exact⟨T,id,pa,slot,G,h1,N,lV rfl (PySem.evalArgs_none (Y ad s1 σ Z x [] v [] Q J L .nil q1))⟩
theorem zwp(pa:PlainAttrs T)(slot:Slot T name id)(G:typeOf (.builtin id)=pure (.type "method_descriptor")) (hm:MtR X id r) (ho:PE X o to) (ha:PA X (e::es) t)
  (Z:attributeBase o name X.env (eval o X.env)=eval o X.env:=by rfl)
  (IY:((backTo Iz (starEach (e::es) X.env)).all (fun x=>!x.1)&&(backToKw Iz (keywordEach [] X.env)).all (fun x=>x.1.isSome)
   && decide ((e::es).length+([]:List ud).length+(if ([]:List ud).isEmpty then 0 else 1)<30))=true:=by rfl)
  (Ir:(apos.endLine == Iz.line)=true:=by rfl) (hs:starEach (e::es) X.env=(false,eval e X.env)::starEach es X.env:=by rfl) (IZ:(backTo Iz (starEach es X.env)).any (·.1)=false:=by rfl) :
  PE X (.Call (.Attribute o name apos) (e::es) [] Iz) (tBM X.K T r to t):=by
 intro ad s σ H Q I h;refine wpAny_Call_method_late Z IY Ir rfl (thn (ho ad s σ H _ I h) fun v s1 ⟨x,H1,L,N,ty,q1⟩=>?_)
 obtain⟨h1,S⟩:=zpM L N ty;refine⟨T,id,pa,slot,G,h1,S,?_⟩;have J:=ha Iz ad s1 σ H1 _ L q1;rw[hs]at J ⊢;refine lV (by show(false||(backTo Iz (starEach es X.env)).any (·.1))=false;rw[IZ] <;> rfl) (Calls.evalArgs_plain ?_)
 exact thn J fun us s2 ⟨Y,R,I2,U,q2⟩=>hm ad s2 σ R x Y v us Q I2 N U q2
end
def MtM(X:Cx)(id:String)(r:V->List V->Hp->VK->Prop):Prop :=
 ∀(ad:qO) (s:aw) (σ:St) (H:Hp) (x:V) (xs:List V) (v:ah) (o:List ah) (Q:VK),Inv X ad σ H s->RelV x v->Vals xs o->r x xs H Q ->
  wpAny (model X.prog X.w) X.A (call (.builtin id) (v::o)) (EP X ad σ Q) X.xe s
theorem Vals.one{x:V}{l:List ah}(h:Vals [x] l):∃u,l=[u]/\RelV x u:=by
 cases h with
 | cons r t=>cases t;exact⟨_,rfl,r⟩
section
variable{X:Cx}{ad:qO}{σ:St}{H:Hp}{s:aw}{l b:au}{xs ys zs:List V}
theorem Inv.lset{its its':List ah}{n:Nat}{f:Array ah->Array ah}{t':Nat}(I:Inv X ad σ H s)(o:H l=some (.lst xs))
  (e:s.heap.get? l=some { cls:=.type "list",data:=.seq its.toArray n }) (hf:f its.toArray=its'.toArray) (G:Vals ys its') (C:ys.length<=sizeLine) :
  Inv X ad σ (upd H l (.lst ys)) { s with heap:=s.heap.update l (fF f),toks:=t' }:=by
 have q:=PySem.IsL.update e f;rw[hf]at q;refine I.write (x:=l) (e:=l) (by rw[o];exact trivial) (.inl rfl) (fun L u v J=>(cm s.heap (fF f) (gh v)).trans J) ⟨_,q⟩ ?_
 exact⟨C,its',_,G,q⟩
theorem Inv.lnew{its:List ah}{t':Nat}(I:Inv X ad σ H s)(u:Vals ys its)(o:ys.length<=sizeLine) :
  Inv X ad σ (upd H s.heap.objs.size (.lst ys)) { s with heap:=s.heap.push { cls:=.type "list",data:=.seq its.toArray },toks:=t' } :=
 I.laid (fun _ _ q=>aq _ q) (aE _) ⟨o,its,0,u,aG _ rfl⟩
theorem Inv.fresh(I:Inv X ad σ H s):H s.heap.objs.size=none:=I.hok.fresh (aE _)
theorem Inv.lstM(I:Inv X ad σ H s)(o:H l=some (.lst xs)):xs.length<=sizeLine/\∃(its:List ah) (n:Nat),Vals xs its/\xs.length=its.length/\s.heap.get? l=some { cls:=.type "list",data:=.seq its.toArray n }:=by
 obtain⟨z,its,n,r,e⟩:=I.hok l _ o;exact⟨z,its,n,r,r.length,e⟩
theorem zo5{n:Nat}(h:n<=sizeLine):gX n=false:=by
 unfold gX;exact decide_eq_false (by lia)
end
section
variable{X:Cx}
def zqw:V->List V->Hp->VK->Prop:=fun x u H Q=>∃l xs y,x=.ref l/\u=[y]/\H l=some (.lst xs)/\xs.length<sizeLine/\Q .non (upd H l (.lst (xs++[y])))
theorem zfa:MtM X "list.append" zqw:=by
 intro ad s σ H x N v R Q I G L h;obtain⟨l,xs,y,rfl,rfl,C,S,q⟩:=h;cases G;obtain⟨u,rfl,J⟩:=L.one;obtain⟨z,its,n,r,U,e⟩:=I.lstM C;refine call_meets F.slot_list_append ⟨_,e,rfl⟩ F.entry_list_append (F.args_list_append_2 _ _) (PySem.list_append l its.toArray n u (by rw[aB];lia)) ⟨e,?_⟩
 refine⟨.non,_,I.lset (its':=its++[u]) C e (by simp) (r.append (.cons J .nil)) ?_,rfl,q⟩
 rw[aJ,List.length_singleton];lia
def rCat:R2:=fun x y H Q=>∃l b xs zs,x=.ref l/\y=.ref b/\H l=some (.lst xs)/\H b=some (.lst zs)/\xs.length+zs.length<=sizeLine/\∀p,H p=none->Q (.ref p) (upd H p (.lst (xs++zs)))
theorem ztd:OpR X (binaryOp .Add) rCat:=by
 intro ad s σ H x y v u Q I J G h;obtain⟨l,b,xs,zs,rfl,rfl,L,U,hz,q⟩:=h;cases J;cases G;obtain⟨z,its,n,r,hl,e⟩:=I.lstM L;obtain⟨Z,C,n2,N,S,Y⟩:=I.lstM U;refine PySem.P.add_list e Y ?_ (by rw[aB,aB];lia)
 have R:its.toArray++C.toArray=(its++C).toArray:=by simp
 rw[R];exact⟨.ref _,_,I.lnew (t':=s.toks) (r.append N) (by rw[aJ];lia),rfl,q _ I.fresh⟩
end
end L2
namespace Att
open PySem PySem.W PySem.Calls PyProof.Rows
theorem zff{P:rq}{h:bq}:∀(ns:List Int) (u:List ah),WellAll P h u (ns.map yy)->gF u ns:=by
 intro ns;induction ns with
 | nil =>
  intro u w;rw[e8]at w;cases w;exact .nil
 | cons n ns v =>
  intro u w;rw[aV]at w;cases w with
  | cons a b =>
   cases a;exact .cons _ _ (v _ b)
theorem zl5{l:OpenLaw}{n:Nat}(R:l.most=some n){P:rq}{h:bq}{args:List WData}{vals:List ah}
  (I:l.row.toRowW.claim.pre args=true) (C:WellAll P h vals args) :
  ∃a J ns,vals=[bP a]/\args=[WData.list (ns.map yy)]/\h.get? a=some { cls:=.type "list",data:=.seq J.toArray }/\gF J ns/\ns.length<=n:=by
 have G:WShape.hasAll [] args [.list .int]=true:=(pre_splitW I).1;have hc:l.pre.holds [] { args:=args }=true:=(pre_splitW I).2;obtain⟨d,r,rfl,h1,N⟩:=hasAllW_cons G;obtain rfl:=hasAllW_nil N;obtain⟨xs,rfl,U⟩:=hasW_list h1;obtain⟨ns,rfl⟩:=items_int U;have u:ns.length<=n:=by
  unfold OpenLaw.pre at hc;have x:(WTm.not (.lt (.lit (.int (n:Int))) (.len (.arg 0)))).holds [] { args:=[.list (ns.map .int)] }=true:=by
   have x:=(holds_andW hc).1;rw[R]at x;exact x
  have v:=condW_of x (w_not (w_lt w_lit (w_len_list (w_arg rfl))));rw[aM]at v;refine oV fun q=>?_
  have L:(n:Int)<((ns.length:Nat):Int):=by lia
  first
   | (rw[decide_eq_true L]at v;exact absurd v (by decide))
   | (simp at v;lia)
 cases C with
 | cons w1 Z =>
  cases Z;cases w1 with
  | list Y S=>exact⟨_,_,ns,rfl,rfl,Y,zff ns _ S,u⟩
theorem zmp(l:OpenLaw)(args:List WData):l.row.toRowW.claim.post args (.bool true) args=true :=
 postW_of (r:=l.row.toRowW) (X:=(true == true))
  (show xg [] (.bool true) .bool=true by first|rfl|decide|simp[xg,WShape.arms,WShape.armsAll])
  (show(WTm.eq .res (.lit (.bool true))).value [] { args:=args,res:=some (.bool true),after:=args }=some (.bool (true == true)) from w_eq_bool (w_res rfl) w_lit) rfl
theorem attach_call{l:OpenLaw}{n:Nat}{q:aQ}{loose:List Str}{XP:(Str->Option ah)->bq->Prop}{YP:bz->bq->Prop}{d:DefRec}
  (hn:l.most=some n) (Z:d.params.defaults=[])
  (call:∀(w:bz) (s₀ v:aw) (mg S:qM) (L:au) (o:Obj) (pm cd doc:ah) (a:au) (C:List ah) (ns:List Int),
   Ground q loose [] XP w s₀ mg S v.heap->YP w v.heap ->
   v.heap.get? L=some o->o.data=.func (docDef d.name d.params d.body d.scope pm cd doc)->v.heap.CodeRec cd d.name->mg d.name=some (.ref L) ->
   v.heap.get? a=some { cls:=.type "list",data:=.seq C.toArray }->gF C ns->ns.length<=n->v.gens=#[] ->
   codeAny (model l.prog w) callerA (.call (.ref L) ⟨[.ref a],[]⟩) (fun r s'=>r=.ok (.ret (.bool true))/\OldK v.heap s'.heap/\s'.os=v.os/\iZ s'.gens) v) :
  WalkO q loose XP YP l.row.toRowW d [] (fun f C=>xh f C):=by
 intro w s₀ v mg S G Y L o pm cd doc dV kV ho hd U hD R hg args vals as IW hlay hrd N hlo;obtain rfl:dV=.none:=Dflts.none hD Z;obtain rfl:kV=.none:=Dflts.noKw hD;obtain⟨a,C,ns,rfl,rfl,I,x,J⟩:=zl5 hn IW N;refine enter_call (lR (call w s₀ v mg S L o pm cd doc a C ns G Y ho (fd_plain hd) U R I x J hg) fun r s' hq=>?_)
 obtain⟨rfl,h2,h3,h4⟩:=hq;exact⟨.inl ⟨.bool true,.bool true,[],rfl,fun _=>rfl,.bool true,zmp l _,fun _=>⟨ie,fun _ hm=>(nomatch hm)⟩⟩,h2,h3,h4⟩
end Att
namespace L2
open PySem PySem.Spec PyProof.Rows
theorem zhg:∀{u:List ah}{ns:List Int},gF u ns->Vals (ns.map V.int) u
 | _,_,.nil=>.nil
 | _,_,.cons n t h=>.cons ⟨t,rfl⟩ (zhg h)
def Only(H:Hp):Prop:=∀b,H b=none\/∃o xs,H b=some (.frz o (.lst xs))
theorem zpa{P:aQ}{w:bz}{K:qF}{mg mb:qM}{CX:CXT}{k:Nat}{fa a:au}{fd:dJ}{x:Str}{sp:Sp}{C:aw}{J:List ah}{ns:List Int}
  (KX:K.In C.heap) (L:C.heap.Ns mainGlobals mg) (G:C.heap.Ns builtinsNs mb) (hbb:∀x:Str,x ≠ "__name__" -> mb x=bootBuiltins x) (U:C.heap.NoLimit) (hg:C.gens=#[])
  (ha:C.heap.get? a=some { cls:=.type "list",data:=.seq J.toArray }) (hi:gF J ns) (hl:ns.length<=sizeLine) (hr:Room k callerA)
  (F:∀base:bq,K.In base->base.Ns mainGlobals mg->FnOk P w K mg base CX k fa fd [x] sp) (Ki:∀(s:aw) (u:ah),pX s fd ⟨[u],[]⟩ [(x,u)])
  (hsp:∀H:Hp,Only H->SqL K H a (ns.map V.int)->sp [.ref a] H (fun v _=>v=.bl true) fun _ _ _=>False)
  (hCX:∀H e s',CX [] H C (fun _ _ _=>False) e s'->False) :
  codeAny (model P w) callerA (.call (.ref fa) ⟨[.ref a],[]⟩) (fun r s'=>r=.ok (.ret (.bool true))/\OldK C.heap s'.heap/\s'.os=C.os/\iZ s'.gens) C:=by
 have rv:=zhg hi;have R:=hi.length;have core:∀H:Hp,Only H->SqL K H a (ns.map V.int)->HOk P w H C.heap->(∀b,H b≠none->b=a)->(H a≠none->K.lookup a=none) ->
   codeAny (model P w) callerA (.call (.ref fa) ⟨[.ref a],[]⟩) (fun r s'=>r=.ok (.ret (.bool true))/\OldK C.heap s'.heap/\s'.os=C.os/\iZ s'.gens) C:=by
  intro H hO hS hok hA hK;have IM:∀{b:au} {o:Obj},C.heap.get? b=some o->H b=none->(hidT C.heap H).get? b=some o:=fun e n=>zpm e n
  have noA:∀{b:au} {o:Obj} {es:Array nu} {ep:Nat},C.heap.get? b=some o->o.data=.dict es ep->H b=none:=fun {b o es ep} e d=>by
   cases q:H b with
   | none=>rfl
   | some u =>
    have e':b=a:=hA b (by rw[q];simp)
    subst e';rw[ha]at e;cases e;have d':Data.seq J.toArray _=Data.dict es ep:=d;cases d'
  have I:∀{b:au} {m:qM},C.heap.Ns b m->(hidT C.heap H).Ns b m:=fun {b m} ⟨o,es,ep,e,d,r⟩=>⟨o,es,ep,IM e (noA e d),d,r⟩
  have Z:K.In (hidT C.heap H):=fun b o e=>IM (KX b o e) (by
   cases q:H b with
   | none=>rfl
   | some u =>
    have e':b=a:=hA b (by rw[q];simp)
    subst e';rw[hK (by rw[q];simp)]at e;cases e)
  have hM:Mod K mg (hidT C.heap H):=⟨Z,I L,⟨mb,I G,hbb⟩,let ⟨mc,h1,h2⟩:=U;⟨mc,I h1,h2⟩⟩
  have e0:Env0 P w K mg (hidT C.heap H) callerA [] C H:=⟨rfl,hM,fun b o e=>zqV e,Nat.le_of_eq (znk _ _),trivial,fun b G=>absurd (show b∈([]:List au) from G) (by simp),hok,.of_eq hg⟩
  refine lR ((F _ Z (I L)).run callerA [] C H ⟨[.ref a],[]⟩ [.ref a] [.ref a] _ _ hr e0 (Ki C (.ref a)) (.cons rfl .nil) (hsp H hO hS)) fun r s' h=>?_
  cases r with
  | error e=>exact(hCX H e s' h).elim
  | ok fl =>
   cases fl with
   | next=>exact dm h
   | brk=>exact dm h
   | cont=>exact dm h
   | ret u =>
    obtain⟨v,H',os,bare,un,S,r',q⟩:=h;have q':v=.bl true:=q;subst q';obtain rfl:u=lO true:=r';refine⟨rfl,OldK.of_keep fun b o e=>?_,os,bare⟩
    cases q:H b with
    | none=>exact un.keep b o e q (by intro z;exact absurd (show b∈([]:List au) from z) (by simp)) (by simp)
    | some u =>
     rcases hO b with z|⟨ob,xs,z⟩
     ·rw[q]at z;cases z
     ·have z2:=un.frzs b ob _ z;obtain⟨e1,_⟩:=hok b _ z;obtain⟨e2,_⟩:=S b _ z2;rw[e]at e1;cases e1;exact e2
 cases hk:K.lookup a with
 | some o =>
  have e:=KX a o hk;rw[ha]at e;cases e;refine core (fun _=>none) (fun _=>.inl rfl) (.inr ⟨_,J.toArray,_,hk,rfl,rfl,rfl,by rw[aB,R];exact hl,by simpa using rv⟩) (fun b u z=>by have Y:(none:Option HO)=some u:=z;cases Y) (fun b z=>absurd rfl z) fun z=>absurd rfl z
 | none =>
  refine core (fun b=>if b=a then some (.frz { cls:=.type "list",data:=.seq J.toArray } (.lst (ns.map V.int))) else none) (fun b=>?_) (.inl (.inr ⟨{ cls:=.type "list",data:=.seq J.toArray },if_pos rfl⟩)) (fun b u z=>?_) (fun b z=>?_) fun _=>hk
  ·by_cases G:b=a
   ·exact .inr ⟨_,_,if_pos G⟩
   ·exact .inl (if_neg G)
  ·by_cases G:b=a
   ·have Y:=(if_pos G).symm.trans z;cases Y;subst G;exact⟨ha,by rw[aM];exact hl,J,_,rv,ha⟩
   ·have Y:=(if_neg G).symm.trans z;cases Y
  ·by_cases G:b=a
   ·exact G
   ·exact absurd (if_neg G) z
def QR(s:eS):Arguments:=match s with
 | .FunctionDef _ a _ _ _ _ _ _ _ _=>a
 | _=>{ posonlyargs:=[],args:=[],vararg:=none,kwonlyargs:=[],kw_defaults:=[],kwarg:=none,defaults:=[] }
def Qr(s:eS):List eS:=match s with
 | .FunctionDef _ _ b _ _ _ _ _ _ _=>b
 | _=>[]
def JZ(s:eS):fA:=match s with
 | .FunctionDef _ _ _ _ _ _ sc _ _ _=>sc
 | _=>{ kind:=.function,names:=[],isGenerator:=false,isCoroutine:=false }
abbrev CX0:CXT:=fun _ _ _ _ _ _=>False
abbrev E0:XK:=fun _ _ _=>False
theorem zwr{X:Cx}:zoc CX0 X E0:=fun _ _ _ _ _ _ _ h=>h.elim
structure Fun(K:qF)(x qual:Str)(st:eS)(f:au)(fd:dJ):Prop where
 ex:∃(oc:ah) (od:Option au) (kV doc pm:ah) (an:Option au) (am ct:ah) (osl:Array (Option ah)),
  fd=dX x qual (QR st) (Qr st) (JZ st) .none kV doc pm an am ct/\K.lookup f=some ⟨oc,od,.func fd,osl⟩/\h8 K am qual=true
 kp:h7 K (.ref f)=true
section
variable{P:aQ}{w:bz}{K:qF}{mg:qM}{base:bq}
theorem Fun.ok{x qual:Str}{st:eS}{f:au}{fd:dJ}{N ps:List Str}{k:Nat}{v:Sp}(F:Fun K x qual st f fd)(S:UQ N ps (JZ st))(len:∀u H Q E,v u H Q E->u.length=ps.length)
  (J:∀(l:ah) (A:br) (outer:List Env) (s:aw) (H:Hp) (u:List V) (Q:VK) (E:XK),Room k (A.deeper (envOfC qual (JZ st) s.heap.objs.size f l))->v u H Q E ->
   ∃t,PSs (cxOf CX0 P w K mg base N qual (JZ st) f l A outer s H E).nox (Qr st) t/\t { nx:=fun _ H'=>Q .non H',rt:=Q } (start N u) H):FnOk P w K mg base CX0 (k+1) f fd ps v:=by
 obtain⟨U,R,kV,doc,pm,an,l,ct,I,rfl,G,y⟩:=F.ex;refine zxb G y S len fun A outer s H u Q E L C=>?_
 obtain⟨t,h,q⟩:=J l A outer s H u Q E L C;exact⟨t,h.nox,q⟩
theorem Fun.binds{x qual:Str}{st:eS}{f:au}{fd:dJ}{ps:List Str}(F:Fun K x qual st f fd)
  (h:∀(kV doc pm:ah) (an:Option au) (u ct:ah) (v:List ah),v.length=ps.length->bindArgs (dX x qual (QR st) (Qr st) (JZ st) .none kV doc pm an u ct) ⟨v,[]⟩=pure (ps.zip v)):Binds K fd ps []:=by
 obtain⟨J,I,kV,doc,pm,an,u,ct,y,rfl,G,C⟩:=F.ex;exact .all (h kV doc pm an u ct)
theorem zqc{x qual:Str}{st:eS}{f:au}{C:ah}{G an:Option au}{y:Array (Option ah)}{kV doc pm v ct:ah}(l:K.lookup f=some ⟨C,G,.func (dX x qual (QR st) (Qr st) (JZ st) .none kV doc pm an v ct),y⟩)
  (c:h8 K v qual=true) (k:h7 K (.ref f)=true):Fun K x qual st f (dX x qual (QR st) (Qr st) (JZ st) .none kV doc pm an v ct):=⟨⟨C,G,kV,doc,pm,an,v,ct,y,rfl,l,c⟩,k⟩
end
section
variable{X:Cx}
theorem pv(i:Nat){x:Str}{pos:Pos}(u:X.N[i]?=some x:=by rfl)(o:Vis X.env.scope x:=by walk_at "V")(hd:(x == ("__debug__":Str))=false:=by decide)
  (l:(x == ("__classdict__":Str))=false:=by decide):PE X (.Name x pos) (tVar i):=UL u o hd l
end
theorem iteF{A B:Prop}(h:B):if false=true then A else B:=by
 rw[if_neg aP];exact h
theorem iteT{A B:Prop}(h:A):if true=true then A else B:=by
 rw[if_pos rfl];exact h
def Same(H H':Hp):Prop:=∀b o,H b=some o->H' b=some o
theorem Same.refl(H:Hp):Same H H:=fun _ _ h=>h
def closed(env:Env):List (Str×fh)->List (Str×au)->List (Str×au)
 | [],acc=>acc
 | (n,k)::r,acc=>closed env r (if (k == .free)=true then(n,(env.cells.lookup n).getD 0)::acc else acc)
theorem zfw{env:Env}:∀(l:List (Str×fh)) (acc:List (Str×au)),(∀x∈l,x.2=.free->∃c,env.cells.lookup x.1=some c) ->
  (forIn l acc fun x __s=>if (x.snd == cG)=true then do
    let c <- cellOf env x.fst
    pure (bY ((x.fst,c)::__s))
   else pure (bY __s):Sem (List (Str×au)))=pure (closed env l acc)
 | [],acc,_=>rfl
 | (n,k)::r,acc,h=>by
  have u:=fun a=>zfw (env:=env) r a fun x hx=>h x (bX _ hx)
  rw[iT]
  by_cases e:(k == cG)=true
  ·obtain⟨c,hc⟩:=h (n,k) cL (by simpa using e)
   have o:vq n env.cells=some c:=hc;have y:cellOf env n=pure c:=by unfold cellOf;rw[o]
   simp only[e,if_true,y,pure_bind];rw[u]
   conv=>rhs;unfold closed
   simp only[e,if_true,o,c8]
  ·have v:(k == cG)=false:=by simpa using e
   simp only[v,aN,if_false,pure_bind];rw[u]
   conv=>rhs;unfold closed
   simp only[v,aN,if_false]
theorem Ww{scope:fA}{env:Env}(h:∀x∈scope.names,x.2=.free->∃c,env.cells.lookup x.1=some c):closureFor scope env=pure (closed env scope.names []):=by
 simp only[closureFor];rw[zfw scope.names [] h]
 rfl
theorem Wr{env:Env}:∀(l:List (Str×fh)) (acc:List (Str×au)),(∀x∈l,x.2=.free->∃c,env.cells.lookup x.1=some c) ->
  (∀x c,acc.lookup x=some c->env.cells.lookup x=some c)->∀x c,(closed env l acc).lookup x=some c->env.cells.lookup x=some c
 | [],acc,_,ha=>ha
 | (n,k)::r,acc,h,ha=>by
  unfold closed;refine Wr r _ (fun x hx=>h x (bX _ hx)) fun x c=>?_
  by_cases e:(k == cG)=true
  ·obtain⟨d,hd⟩:=h (n,k) cL (by simpa using e)
   have v:vq n env.cells=some d:=hd;simp only[e,if_true,v,c8];intro q;rw[dN]at q
   by_cases ex:(x == n)=true
   ·simp only[ex]at q;have y:x=n:=by simpa using ex
    cases q;rw[y];exact v
   ·have C:(x == n)=false:=by simpa using ex
    simp only[C]at q;exact ha x c q
  ·have G:(k == cG)=false:=by simpa using e
   simp only[G,aN,if_false];exact ha x c
theorem zgA{env:Env}:∀(l:List (Str×fh)) (acc:List (Str×au)) (x:Str),(∃c,acc.lookup x=some c)->∃c,(closed env l acc).lookup x=some c
 | [],_,_,h=>h
 | (n,k)::r,acc,x,h=>by
  unfold closed;refine zgA r _ x ?_
  by_cases e:(k == cG)=true
  ·simp only[e,if_true];rw[dN];cases(x == n) with
   | true=>exact⟨_,rfl⟩
   | false=>exact h
  ·have v:(k == cG)=false:=by simpa using e
   simp only[v,aN,if_false];exact h
theorem zel{env:Env}:∀(l:List (Str×fh)) (acc:List (Str×au)) (x:Str),(x,cG)∈l->∃c,(closed env l acc).lookup x=some c
 | [],_,_,h=>nomatch h
 | (n,k)::r,acc,x,h=>by
  unfold closed;rcases az.mp h with e|h
  ·cases e;refine zgA r _ _ ?_;have v:(cG == cG)=true:=rfl;simp only[v,if_true];rw[dN];simp
  ·exact zel r _ x h
theorem lookup_mem{α:Type}{l:List (Str×α)}{x:Str}{v:α}(h:l.lookup x=some v):(x,v)∈l:=by
 induction l with
 | nil=>simp at h
 | cons p r o =>
  obtain⟨n,w⟩:=p;rw[dN]at h
  by_cases e:(x == n)=true
  ·simp only[e]at h;cases h;have y:x=n:=by simpa using e
   rw[y];exact cL
  ·have u:(x == n)=false:=by simpa using e
   simp only[u]at h;exact bX _ (o h)
def UG(env:Env)(p:Str×fh):Str×fh:=if (p.2 == cG&&env.scope.kind == .function&&env.kindOf p.1 == some .cell)=true then(p.1,.cell) else p
theorem zmh(env:Env)(p:Str×fh):(UG env p).1=p.1:=by
 unfold UG
 by_cases c:(p.2 == cG&&env.scope.kind == .function&&env.kindOf p.1 == some .cell)=true
 ·rw[if_pos c]
 ·rw[if_neg c]
def kin(env:Env)(x:Str):Option fh->Option fh
 | some .free=>if (env.scope.kind == .function&&env.kindOf x == some .cell)=true then some .cell else some .free
 | o=>o
theorem zmg(env:Env)(x:Str)(k:fh):some (UG env (x,k)).2=kin env x (some k):=by
 unfold UG
 by_cases c:(k == cG&&env.scope.kind == .function&&env.kindOf x == some .cell)=true
 ·rw[if_pos c];rw[aY,aY]at c;have v:k=.free:=by simpa using c.1.1
  subst v;unfold kin;rw[if_pos (by rw[aY];exact⟨c.1.2,c.2⟩)]
 ·rw[if_neg c];cases k with
  | free =>
   have:¬(env.scope.kind == .function&&env.kindOf x == some .cell)=true:=fun z=>c (by
    have y:(cG == cG)=true:=rfl;rw[y,gY];exact z)
   unfold kin;rw[if_neg this]
  | _=>rfl
theorem zgI(scope:fA)(env:Env):(relabel scope env).names=scope.names.map (UG env):=by
 show scope.names.map _=_
 refine gR fun p _=>?_
 obtain⟨n,k⟩:=p
 rfl
theorem zfZ(env:Env):∀(l:List (Str×fh)) (x:Str),(l.map (UG env)).lookup x=kin env x (l.lookup x)
 | [],_=>rfl
 | (n,k)::r,x=>by
  have v:=zfZ env r x;have C:UG env (n,k)=(n,(UG env (n,k)).2):=gW (zmh env (n,k)) rfl;rw[aV,C,dN,dN]
  by_cases e:(x == n)=true
  ·have G:x=n:=by simpa using e
   subst G;simp only[beq_self_eq_true];exact zmg env x k
  ·have y:(x == n)=false:=by simpa using e
   simp only[y];exact v
theorem zes(scope:fA)(env:Env)(x:Str):(relabel scope env).names.lookup x=kin env x (scope.names.lookup x):=by
 rw[zgI];exact zfZ env _ x
abbrev capN(X:Cx)(capt:List Nat):List Str:=capt.map fun i=>X.N.getD i kc
abbrev capS(capt:List Nat)(σ:St):St:=capt.map fun i=>σ.getD i none
abbrev Jx(own:List Str):St:=own.map fun _=>none
abbrev Jf(X:Cx)(scope:fA)(own:List Str)(capt:List Nat)(C:au)(s₀:aw)(H₀:Hp)(fp:List au):Cx :=
 { X with N:=own++capN X capt,s₀:=s₀,H₀:=H₀,env:=compEnvC scope (closed X.env scope.names []) C X.env,outer:=X.stack,stack:=X.stack,ex:=fp,fn:=fun _=>false,pn:=[],xe:=fun _ _=>False }
structure JB(scope:fA)(own:List Str)(capt:List Nat)(X:Cx):Prop where
 kind:scope.kind=.function
 nocell:∀y∈scope.names,y.2≠.cell
 names:∀y∈scope.names,y.2=.local->scope.names.lookup y.1=some .local
 frees:∀y∈scope.names,y.2=.free->X.env.kindOf y.1=some .cell\/X.env.kindOf y.1=some .free
 caps:∀k∈capt,scope.names.lookup (X.N.getD k kc)=some .free
theorem getD_some{α:Type}{l:List (Option α)}{k:Nat}{v:α}(h:l.getD k none=some v):l[k]?=some (some v):=by
 rw[aX]at h;cases e:l[k]? with
 | none=>rw[e]at h;cases h
 | some o=>rw[e]at h;simp at h;rw[h]
section
variable{X:Cx}{scope:fA}{own:List Str}{capt:List Nat}
theorem JB.cells(S:JB scope own capt X)(ok:X.Ok):∀x∈scope.names,x.2=.free->∃c,X.env.cells.lookup x.1=some c:=fun x hx hf=>ok.has x.1 (S.frees x hx hf)
theorem zrQ{ad:qO}{σ:St}{H₀:Hp}{s₀:aw}{C:au}{L:List au}(S:JB scope own capt X)(I:Inv X ad σ H₀ s₀)(hf:∀b∈L,FpOk X ad H₀ b)(N:∀b∈L,b<s₀.heap.objs.size)(U:s₀.heap.objs.size<=C) :
  (Jf X scope own capt C s₀ H₀ L).Ok:=by
 have sub:=Wr scope.names [] (S.cells I.ok) (fun x c h=>nomatch (show(none:Option au)=some c from h))
 refine⟨I.ok.mod,S.kind,I.ok.glob,I.ok.blt,U,fun x y c h1 Y=>I.ok.inj x y c (sub x c h1) (sub y c Y),fun x Z=>?_,fun x c z=>absurd (show false=true from z) aP,I.ok.hd,I.ok.frames,.inl rfl,fun b G=>?_,I.bs,cy I.ok.bsz I.sz,fun b o e G=>?_,fun b G z=>?_,I.stack,I.stkFree⟩
 ·have e:=zes scope X.env x;have v:(relabel scope X.env).names.lookup x=some .cell\/(relabel scope X.env).names.lookup x=some .free:=Z;rw[e]at v;cases q:scope.names.lookup x with
  | none=>rw[q]at v;rcases v with z|z <;> cases z
  | some k =>
   rw[q]at v;cases k with
   | free=>exact zel scope.names [] x (lookup_mem q)
   | cell=>exact absurd rfl (S.nocell _ (lookup_mem q))
   | _=>rcases v with z|z <;> cases z
 ·obtain⟨f0,f1,f2,J,f4,R⟩:=hf b G;exact⟨aK (aL (N b G) U),fun x c e=>f4 x c (sub x c e)⟩
 ·obtain⟨f0,f1,f2,J,f4,R⟩:=hf b G;rcases J with z|z
  ·exact I.ok.noex b o e z
  ·exact absurd (aL (aD (I.ok.bs b o e).1) z) (f7 _)
 ·obtain⟨f0,f1,f2,J,f4,R⟩:=hf b G;rcases az.mp (I.stkSub b z) with q|q
  ·exact f1 q
  ·exact f2 q
theorem ziC{J:HO}{ad:qO}{σ:St}{H₀:Hp}{s₀:aw}{fp:List au}{h':bq}{D C:au}{tk:Nat}(S:JB scope own capt X)(I:Inv X ad σ H₀ s₀)(hf:∀b∈fp,FpOk X ad H₀ b)(hfp:∀b∈fp,b<s₀.heap.objs.size)
  (hD:s₀.heap.objs.size<=D) (hC:s₀.heap.objs.size<=C) (hDC:D≠C) (old:∀b o,s₀.heap.get? b=some o->h'.get? b=some o) (hns:h'.Ns C (fun _=>none)) (R:JP X.prog X.w (upd H₀ D J) h' D J) :
  Inv (Jf X scope own capt C s₀ H₀ fp) [] (Jx own++capS capt σ) (upd H₀ D J) { s₀ with heap:=h',toks:=tk }:=by
 have ok:=zrQ S I hf hfp hC;have sub:=Wr scope.names [] (S.cells I.ok) (fun x c h=>nomatch (show(none:Option au)=some c from h))
 have hn:H₀ D=none:=I.hok.fresh hD;refine⟨ok,rfl,I.bare,Un.laid old hD hn,⟨_,hns,fun i x v e1 L e3=>?_⟩,fun x c e=>?_,?_,fun x c e=>?_,fun p hp=>absurd (show p∈([]:qO) from hp) (by simp),I.hok.laid (o:=J) old hD R,(by show(Jx own++capS capt σ).length=(own++capN X capt).length;simp[Jx,capS,capN])⟩
 ·have N:(Jx own).length=own.length:=aM ..
  by_cases hi:i<own.length
  ·rw[bW (by rw[N];exact hi)]at L
   unfold Jx at L;rw[bp]at L;cases q:own[i]? with
   | none=>rw[q]at L;cases L
   | some z=>rw[q]at L;cases L
  ·have Z:own.length<=i:=oV hi;have G:(own++capN X capt)[i]?=some x:=e1;rw[bG Z]at G;rw[bG (by rw[N];exact Z),N]at L
   unfold capN at G;unfold capS at L;rw[bp]at G L;cases q:capt[i - own.length]? with
   | none=>rw[q]at G;cases G
   | some k =>
    rw[q]at G L;have ex:X.N.getD k kc=x:=ba G;have ev:σ.getD k none=some v:=ba L;have hk:k∈capt:=aH q;have hv:=getD_some ev;have Y:k<X.N.length:=by
     rw[<- I.len];exact(av.mp hv).1
    have hx:X.N[k]?=some x:=by
     rw[aX,ak Y]at ex;rw[ak Y];exact congrArg some ex
    have Io:=S.caps k hk;rw[ex]at Io;have IK:=S.frees _ (lookup_mem Io) rfl;obtain⟨m,hm,hl⟩:=I.loc;have vis:Vis X.env.scope x:=by
     rcases IK with z|z
     ·exact .inr (.inl z)
     ·exact .inr (.inr z)
    obtain⟨u,r,l⟩:=hl k x v hx hv vis;refine⟨u,r,.inr ⟨?_,?_⟩⟩
    ·have e:=zes scope X.env x;rw[Io]at e;show(relabel scope X.env).names.lookup x=some .cell\/(relabel scope X.env).names.lookup x=some .free
     rw[e];unfold kin
     by_cases c:(X.env.scope.kind == .function&&X.env.kindOf x == some .cell)=true
     ·rw[if_pos c];exact .inl rfl
     ·rw[if_neg c];exact .inr rfl
    ·rcases l with⟨z,_⟩|⟨_,c,hc,U⟩
     ·rcases IK with y|y <;> (have y':X.env.kindOf x=_:=y;rw[z]at y';cases y')
     ·obtain⟨d,hd⟩:=zel (env:=X.env) scope.names [] x (lookup_mem Io);have:=sub x d hd;rw[hc]at this;cases this;obtain⟨o,R,hod⟩:=U;exact⟨c,hd,o,old _ _ R,hod⟩
 ·obtain⟨v,o,R,hd⟩:=I.cell x c (sub x c e);exact⟨v,o,old _ _ R,hd⟩
 ·show upd H₀ D J C=none
  rw[Ju (gh hDC)];exact I.hok.fresh hC
 ·obtain⟨v,o,R,hd⟩:=I.cell x c (sub x c e);show upd H₀ D J c=none
  rw[Ju (aK (aL (aD R) hD))];exact I.freeC x c (sub x c e)
theorem zpD{ad:qO}{σ:St}{H₀:Hp}{s₀:aw}{x:List au}{h':bq}{D C:au}{tk:Nat}(S:JB scope own capt X)(I:Inv X ad σ H₀ s₀)(hf:∀b∈x,FpOk X ad H₀ b)(G:∀b∈x,b<s₀.heap.objs.size)
  (N:s₀.heap.objs.size<=D) (L:s₀.heap.objs.size<=C) (v:D≠C) (old:∀b o,s₀.heap.get? b=some o->h'.get? b=some o) (u:h'.Ns C (fun _=>none)) (J:h'.get? D=some { cls:=.type "list",data:=.seq ([]:List ah).toArray 0 }) :
  Inv (Jf X scope own capt C s₀ H₀ x) [] (Jx own++capS capt σ) (upd H₀ D (.lst [])) { s₀ with heap:=h',toks:=tk }:=ziC S I hf G N L v old u ⟨cJ _,[],0,.nil,J⟩
theorem zkE{ad Im:qO}{σ σ':St}{H₀ H':Hp}{s₀ s':aw}{N:List au}{l:bq}{C:au}(I:Inv X ad σ H₀ s₀)(hf:∀b∈N,FpOk X ad H₀ b)(hC:s₀.heap.objs.size<=C)
  (J:Inv (Jf X scope own capt C s₀ H₀ N) Im σ' H' s') (R:eZ C s'.heap l):Inv X ad σ H' { s' with heap:=l }:=by
 have G:H' C=none:=J.free;have x:∀b o,s₀.heap.get? b=some o->b≠C:=fun b o e=>aK (aL (aD e) hC)
 have u:Un (frs X.stack) N H₀ H' s₀.heap s'.heap:=J.base;have u2:Un (frs X.stack) N H₀ H' s₀.heap l:=by
  refine⟨fun b o q n S L=>(R.2 b (x b o q)).trans (u.keep b o q n S L),fun b o q n S L=>?_,u.free,fun b o q L=>?_,u.tups,u.frzs,u.tbls⟩
  ·obtain⟨Z,e⟩:=u.slot b o q n S L;exact⟨Z,(R.2 b (x b o q)).trans e⟩
  ·obtain⟨o',e⟩:=u.there b o q L;exact⟨o',(R.2 b (x b o q)).trans e⟩
 have hok:HOk X.prog X.w H' l:=fun b ob e=>by
  refine(J.hok b ob e).stay (fun c v hc q=>(R.2 c ?_).trans q) (fun _ q=>q) (fun _ _ q=>q) fun _ _ _ q=>q
  rintro rfl;rcases hc with z|z
  ·subst z;rw[G]at e;cases e
  ·rw[G]at z;cases z
 refine I.call' (s':={ s' with heap:=l }) J.os u2 hok J.bare fun b hb=>?_
 obtain⟨f0,f1,f2,U,f4,Y⟩:=hf b hb;exact⟨U,f1,f4,Y⟩
end
def PTs(Y:Cx)(ifs:List aZ)(t:TT):Prop :=
 ∀(ad:qO) (s:aw) (σ:St) (H:Hp) (Q:Bool->Hp->Prop),Inv Y ad σ H s->t σ H Q ->
  wpAny (model Y.prog Y.w) Y.A (forIn ifs true fun c r=>if r=true then do let ok <- isTrue c Y.env (eval c Y.env);pure (bY ok) else pure (bY r)) (TP Y ad σ Q) Y.xe s
def tYes:TT:=fun _ H Q=>Q true H
theorem zqz{Y:Cx}:PTs Y [] tYes:=fun _ _ _ H _ I h=>wpAny_tests_nil ⟨H,I,h⟩
theorem zqy{Y:Cx}{c:aZ}{t:TT}(h:PT Y c t):PTs Y [c] t:=fun ad s σ H Q I q=>wpAny_tests_one (h ad s σ H Q I q)
abbrev NoX:ah->aw->Prop:=fun _ _=>False
theorem zlz{prog:aQ}{w:bz}{A:br}{R:lh->aw->Prop}{s:aw}{elt target iter:aZ}{ifs:List aZ}{scope:fA}{pos:Pos}{it acc:ah}{env:Env}(I:Nat->aw->Prop)
  (turn:∀n s,I n s->wpAny (model prog w) A (pyNext it) (fun r y=>match r with
   | none=>R (.ok .next) y
   | some v=>wpAny (model prog w) A (letOwnedTupleGo target it v) (fun _ U=>wpAny (model prog w) A (assign target env v) (fun _ J =>
     wpAny (model prog w) A (forIn ifs true fun c r=>if r=true then do let ok <- isTrue c env (eval c env);pure (bY ok) else pure (bY r)) (fun ok G =>
      if ok=true then wpAny (model prog w) A (eval elt env) (fun x S=>wpAny (model prog w) A (call (.builtin "list.append") [acc,x]) (fun _ Z=>∃m,m<n/\I m Z) NoX S) NoX G
      else ∃m,m<n/\I m G) NoX J) NoX U) NoX y) NoX s) (n:Nat) (h:I n s) :
  codeAny (model prog w) A (.compLoop (.ListComp elt [⟨target,iter,ifs,0⟩] scope pos) 0 it acc env) R s:=by
 refine lW rfl I (fun n s hI=>?_) n h
 show wpAny _ A ((compTurn (.ListComp elt [⟨target,iter,ifs,0⟩] scope pos) 0 it acc env).onRaise (fun x=>do noteFrame x env;theTreesLotGoes x)) _ _ s
 refine mV (eu (E:=NoX) ?_ (fun _ _ q=>q) fun _ _ z=>dm z)
 rw[compTurn_list];refine aa (dE (aa (thn (turn n s hI) fun r y N=>?_)))
 cases r with
 | none=>exact aj N
 | some v =>
  refine aa (thn N fun _ U h₂=>aa (thn h₂ fun _ J h₃=>aa (thn h₃ fun ok G Y=>?_)))
  cases ok with
  | false=>exact aj ⟨rfl,Y⟩
  | true =>
   refine aa (aa (thn Y fun x S h₅=>aa (thn h₅ fun _ Z h₆=>?_)))
   exact aj (aj ⟨rfl,h₆⟩)
def Wk:St->St->Prop
 | [],[]=>True
 | none::r,_::r'=>Wk r r'
 | some v::r,o::r'=>o=some v/\Wk r r'
 | _,_=>False
theorem Wk.weak:∀{σ σ':St},Wk σ σ'->σ.length=σ'.length/\∀(i:Nat) v,σ[i]?=some (some v)->σ'[i]?=some (some v)
 | [],[],_=>⟨rfl,fun _ _ h=>by simp at h⟩
 | none::r,o::r',h=>by
  obtain⟨a,b⟩:=Wk.weak (σ:=r) (σ':=r') h;refine⟨by simp[a],fun i v e=>?_⟩
  cases i with
  | zero=>simp at e
  | succ i=>simpa using b i v (by simpa using e)
 | some w::r,o::r',h=>by
  obtain⟨h0,l⟩:o=some w/\Wk r r':=h;obtain⟨a,b⟩:=Wk.weak l;refine⟨by simp[a],fun i v e=>?_⟩
  cases i with
  | zero=>rw[h0];simpa using e
  | succ i=>simpa using b i v (by simpa using e)
 | none::_,[],h=>dm h
 | some _::_,[],h=>dm h
 | [],_::_,h=>dm h
def zr2(own:List Str)(capt:List Nat)(g:TG)(tt:TT)(R:TE)(σ:St)(J:It)(S:Hp)(D:au)(Q:VK):Prop:=∃W:Nat->Nat->Hp->Prop,(∃m,W 0 m (upd S D (.lst [])))/\∀i m u,W i m u ->
 (J.stop i u/\Q (.ref D) u)\/(J.go i u/\∃(N:V->Hp->Prop) (I:Hp->Prop),(∀v G,N v G->∃ys,G D=some (.lst ys)/\ys.length<sizeLine/\∃C,C<m/\W (i+1) C (upd G D (.lst (ys++[v]))))/\(∀y,I y->∃C,C<m/\W (i+1) C y) /\
  ∀x L,J.yld i u x L->g x (Jx own++capS capt σ) L fun o U=>Wk (Jx own++capS capt σ) o/\tt o U fun b y=>if b=true then R o y N else I y)
def tComp(own:List Str)(capt:List Nat)(o:TI)(g:TG)(tt:TT)(u:TE):TE:=fun σ H Q=>o σ H fun J l=>∀D,l D=none->zr2 own capt g tt u σ J l D Q
def CompI(Y:Cx)(ad:qO)(σ:St)(o:List au)(l:Nat->bq->Prop)(W:Nat->Nat->Hp->Prop)(n:Nat)(s':aw):Prop:=∃i H',Inv Y ad σ H' s'/\l i s'.heap/\(∀b∈o,H' b=none)/\W i n H'
theorem Wc{Y:Cx}{tg:aZ}{ifs:List aZ}{g:TG}{tt:TT}(hxe:Y.xe=NoX)(hc:Y.calm=true)(hg:PG Y tg g)(ht:PTs Y ifs tt){ad:qO}{σ:St}{it:au}{L:List au}{tn:Nat->bq->Prop}{J:It}(T:Turn Y.prog Y.w Y.K tg J L it tn)
  (Ip:∀{H':Hp},(∀b∈L,H' b=none)->∀b∈L,FpOk Y ad H' b) {W:Nat->Nat->Hp->Prop} {n i:Nat} {s4:aw} {I:Hp} {Dn AC:aw->Prop} (I4:Inv Y ad σ I s4) (st4:tn i s4.heap) (fr4:∀b∈L,I b=none)
  (h:(J.stop i I/\∀s5,Inv Y ad σ I s5->Dn s5)\/(J.go i I/\∃(NT:St->Hp->Prop) (NF:Hp->Prop),(∀{p6 l C S},Inv Y (ad++p6) l C S->NT l C->(∀{s9 H9 y},Inv Y (ad++p6) l H9 s9->y<n->W (i+1) y H9->∃m,m<n/\CompI Y ad σ L tn W m s9)->AC S) /\
   (∀H5,NF H5->∃y,y<n/\W (i+1) y H5)/\∀x H3,J.yld i I x H3->g x σ H3 fun R H5=>Wk σ R/\tt R H5 fun b H6=>if b=true then NT R H6 else NF H6)) :
  wpAny (model Y.prog Y.w) Y.A (pyNext (.ref it)) (fun r G=>match r with
   | none=>Dn G
   | some v=>wpAny (model Y.prog Y.w) Y.A (letOwnedTupleGo tg (.ref it) v) (fun _ s₂=>wpAny (model Y.prog Y.w) Y.A (assign tg Y.env v) (fun _ s₃ =>
     wpAny (model Y.prog Y.w) Y.A (forIn ifs true fun c r=>if r=true then do let ok <- isTrue c Y.env (eval c Y.env);pure (bY ok) else pure (bY r)) (fun ok N =>
      if ok=true then AC N else ∃m,m<n/\CompI Y ad σ L tn W m N) NoX s₃) NoX s₂) NoX G) NoX s4:=by
 rcases h with⟨stop,dn⟩|⟨go,NT,NF,hT,hF,step⟩
 ·refine thn (T.done Y rfl rfl rfl hc i ad s4 _ I NoX I4 (Ip fr4) st4 stop) fun r s5 ⟨hr,I5⟩=>?_
  subst hr;exact dn s5 I5
 ·refine thn (T.item Y rfl rfl rfl hc i ad s4 _ I NoX I4 (Ip fr4) st4 go) fun r s5 ⟨u,hr,h5⟩=>?_
  subst hr;refine thn h5 fun _ s6 ⟨x,H6,I6,r6,y6,U,fr6⟩=>?_
  have I6':=I6.pinned (Ip fr6) (T.obj _ _ U);have a1:=hg _ s6 _ H6 x u _ I6' r6 (step x H6 y6);rw[hxe]at a1;refine thn a1 fun _ s7 ⟨l,H7,I7,wk,q7⟩=>?_
  obtain⟨wl,wv⟩:=wk.weak;have again:∀{S:aw} {C:Hp} {y:Nat},Inv Y (ad++Z0 L s6.heap) l C S->y<n->W (i+1) y C->∃m,m<n/\CompI Y ad σ L tn W m S:=fun {S C y} Z hm w8=>by
   refine⟨y,hm,i+1,C,(Z.unpinned).weak wl wv,T.keep _ _ _ U fun b hb o e=>(Z.pin (b,o) (b5 _ (b5 _ (Wu hb e)))).1,fun b hb=>?_,w8⟩
   obtain⟨o,e,d⟩:=T.obj _ _ U b hb;exact(Z.pin (b,o) (b5 _ (b5 _ (Wu hb e)))).2.1
  have a2:=ht _ s7 l H7 _ I7 q7;rw[hxe]at a2;refine thn a2 fun ok S ⟨C,Z,q8⟩=>?_
  cases ok with
  | false =>
   obtain⟨y,hm,w8⟩:=hF C (by simpa using q8)
   exact again Z hm w8
  | true=>exact hT Z (by simpa using q8) again
section
variable{X:Cx}{scope:fA}{own:List Str}{capt:List Nat}{elt tg iter:aZ}{ifs:List aZ}{pos:Pos}{wi:TI}{g:TG}{tt:TT}{te:TE}
theorem ziz(S:JB scope own capt X){ad:qO}{σ:St}{v:Hp}{s2:aw}{o:List au}{C:au}(G:Inv X ad σ v s2)(f2:∀b∈o,FpOk X ad v b)(y:∀b∈o,b<s2.heap.objs.size)(I:s2.heap.objs.size<=C){H':Hp}(J:∀b∈o,H' b=none):∀b∈o,FpOk (Jf X scope own capt C s2 v o) [] H' b:=fun b u=>by
 obtain⟨R,g1,g2,g3,N,U⟩:=f2 b u;have sub:=Wr scope.names [] (S.cells G.ok) (fun x c h=>nomatch (show(none:Option au)=some c from h))
 refine⟨J b u,aK (aL (y b u) I),fun z=>?_,.inl u,fun x c e=>N x c (sub x c e),fun p L=>absurd (show p∈([]:qO) from L) (by simp)⟩
 rcases az.mp (G.stkSub b z) with q|q
 ·exact g1 q
 ·exact g2 q
theorem ziB(S:JB scope own capt X){ad:qO}{σ:St}{R:It->Hp->Prop}{Y:ah}{s2:aw}{E:qV}{CA:ah->Env->aw->Prop}(h2:PIE X ad σ tg R Y s2)
  (k:∀(it:au) (G:List au) (tn:Nat->bq->Prop) (J:It) (I:Hp) (D C:au) (v:bq),Y=.ref it->Turn X.prog X.w X.K tg J G it tn->R J I->I D=none->tn 0 v->(∀b∈G,upd I D (.lst []) b=none) ->
   (∀tk,Inv (Jf X scope own capt C s2 I G) [] (Jx own++capS capt σ) (upd I D (.lst [])) { s2 with heap:=v,toks:=tk })->(∀{H':Hp},(∀b∈G,H' b=none)->∀b∈G,FpOk (Jf X scope own capt C s2 I G) [] H' b) ->
   (∀s5 H4,Inv (Jf X scope own capt C s2 I G) [] (Jx own++capS capt σ) H4 s5->(∃m,s5.heap.Ns C m)/\(∀L,eZ C s5.heap L->Inv X ad σ H4 { s5 with heap:=L })/\H4 C=none/\FpOk X ad H4 C) ->
   CA (.ref D) (compEnvC scope (closed X.env scope.names []) C X.env) { s2 with heap:=v }) :
  wpAny (model X.prog X.w) X.A (newList []) (fun acc U=>wpAny (model X.prog X.w) X.A (newFunctionEnv scope X.env.globals (closed X.env scope.names []) [] X.env.qual none .none (some X.env)) (fun cenv s₄=>CA acc { cenv with scope:=relabel scope X.env } s₄) E U) E s2:=by
 obtain⟨it,G,tn,J,I,e,I2,T,st2,f2,rd⟩:=h2;have N:∀b∈G,b<s2.heap.objs.size:=fun b hb=>by
  obtain⟨o,e,_⟩:=T.obj 0 _ st2 b hb;exact aD e
 refine bS (mW S.nocell (by intro y hy;simp at hy) (fun v x u=>?_) S.kind)
 dsimp only at x u ⊢;generalize hH3:s2.heap.push { cls:=.type "list",dict:=none,data:=.seq ([]:List ah).toArray }=H3 at x u ⊢;have hC:H3.objs.size=s2.heap.objs.size+1:=by rw[<- hH3,dY]
 have hDC:s2.heap.objs.size≠H3.objs.size:=by rw[hC];exact aK (oW _)
 have Z:s2.heap.objs.size<=H3.objs.size:=by rw[hC];exact fS _
 have neC:∀b o,s2.heap.get? b=some o->b≠H3.objs.size:=fun b o e=>aK (aL (aD e) Z)
 have old:∀b o,s2.heap.get? b=some o->v.get? b=some o:=fun b o e=>u.extBut b o (neC b o e) (aq _ (hH3▸aq _ e))
 have IA:v.get? s2.heap.objs.size=some { cls:=.type "list",data:=.seq ([]:List ah).toArray 0 }:=u.extBut _ _ hDC (aq _ (hH3▸aG _ rfl));refine k it G tn J I s2.heap.objs.size H3.objs.size v e T rd (I2.hok.fresh (aE _)) (T.keep _ _ _ st2 fun b hb o e=>old b o e) (fun b hb=>by rw[Ju (aK (N b hb))];exact(f2 b hb).1)
  (fun tk=>zpD (tk:=tk) S I2 f2 N (aE _) Z hDC old x IA) (ziz S I2 f2 N Z) (fun s5 H4 I5=>?_)
 obtain⟨m,hn,_⟩:=I5.loc;exact⟨⟨m,hn⟩,fun L sb=>zkE I2 f2 Z I5 sb,I5.free,I2.fpOk Z I5.free⟩
theorem zkC(hc:X.calm=true)(S:JB scope own capt X)
  (hg:∀C s₀ H₀ I,PG (Jf X scope own capt C s₀ H₀ I) tg g) (ht:∀C s₀ H₀ I,PTs (Jf X scope own capt C s₀ H₀ I) ifs tt) (he:∀C s₀ H₀ I,PE (Jf X scope own capt C s₀ H₀ I) elt te)
  {ad:qO} {σ:St} {Q:VK} {R:ah} {s2:aw} {E:qV} {RR:ah->au->lh->aw->Prop}
  (h2:PIE X ad σ tg (fun J H1=>∀D,H1 D=none->zr2 own capt g tt te σ J H1 D Q) R s2)
  (hR:∀D C s' H',(∃m,s'.heap.Ns C m)->(∀h'',eZ C s'.heap h''->Inv X ad σ H' { s' with heap:=h'' })->H' C=none->FpOk X ad H' C->Q (.ref D) H'->RR (.ref D) C (.ok .next) s') :
  wpAny (model X.prog X.w) X.A (newList []) (fun acc U=>wpAny (model X.prog X.w) X.A (newFunctionEnv scope X.env.globals (closed X.env scope.names []) [] X.env.qual none .none (some X.env)) (fun u G =>
   codeAny (model X.prog X.w) X.A (.compStart (.ListComp elt [⟨tg,iter,ifs,0⟩] scope pos) 0 R acc { u with scope:=relabel scope X.env }) (RR acc u.locals) G) E U) E s2:=by
 refine ziB (CA:=fun acc u G=>codeAny (model X.prog X.w) X.A (.compStart (.ListComp elt [⟨tg,iter,ifs,0⟩] scope pos) 0 R acc u) (RR acc u.locals) G) S h2 fun it I tn J H2 D C h₁ e T rd hnD Z fr0 J0 Ip out=>?_
 subst e;obtain⟨W,⟨m0,w0⟩,turn⟩:=rd _ hnD;have loop:∀tk:Tok,codeAny (model X.prog X.w) X.A (.compLoop (.ListComp elt [⟨tg,iter,ifs,0⟩] scope pos) 0 (.ref it) (.ref D) (compEnvC scope (closed X.env scope.names []) C X.env)) (RR (.ref D) C) { s2 with heap:=h₁,toks:=tk }:=fun tk=>by
  refine zlz (CompI (Jf X scope own capt C s2 H2 I) [] (Jx own++capS capt σ) I tn W) ?_ m0 ⟨0,_,J0 tk,Z,fr0,w0⟩;rintro n s4 ⟨i,H4,I4,st4,fr4,w4⟩;refine Wc (Y:=Jf X scope own capt C s2 H2 I) rfl hc (hg _ _ _ _) (ht _ _ _ _) T Ip I4 st4 fr4 ?_;rcases turn i n H4 w4 with⟨stop,qn⟩|⟨go,N,N',hN,hN',step⟩
  ·exact .inl ⟨stop,fun s5 I5=>let ⟨o1,o2,o3,o4⟩:=out s5 H4 I5;hR _ _ s5 H4 o1 o2 o3 o4 qn⟩
  ·refine .inr ⟨go,fun σ4 H5=>te σ4 H5 N,N',fun {p6 σ7 H8 s8} I8 q8 again=>?_,hN',step⟩
   refine thn (he _ _ _ _ _ s8 σ7 H8 N I8 q8) fun y s9 ⟨v,H9,I9,r9,q9⟩=>?_
   obtain⟨ys,hD,hl,m',hm,w9⟩:=hN v H9 q9;refine thn (zfa (X:=Jf X scope own capt C s2 H2 I) _ s9 σ7 H9 (.ref D) [v] _ [y] (fun _ H'=>H'=upd H9 D (.lst (ys++[v]))) I9 rfl (.cons r9 .nil) ⟨_,ys,v,rfl,rfl,hD,hl,rfl⟩) fun _ s10 ⟨_,H10,I10,_,q10⟩=>?_
   subst q10;exact again I10 hm w9
 exact lX (loop _) (T.self X.A 0 _ _ _ Z (loop _))
theorem zoX(hc:X.calm=true)(S:JB scope own capt X)(hi:PI X tg iter wi)
  (R:∀C s₀ H₀ l,PG (Jf X scope own capt C s₀ H₀ l) tg g) (Z:∀C s₀ H₀ l,PTs (Jf X scope own capt C s₀ H₀ l) ifs tt) (he:∀C s₀ H₀ l,PE (Jf X scope own capt C s₀ H₀ l) elt te)
  (Y:∀x,foldedSetIterable iter X.env x=pure x:=by intro _;rfl):PE X (.ListComp elt [⟨tg,iter,ifs,0⟩] scope pos) (tComp own capt wi g tt te):=by
 intro ad s σ H Q I h;rw[eval_ListComp];refine fG (use:=none) rfl Y (Ww (S.cells I.ok)) S.kind S.names (thn (hi ad s σ H _ I h) fun v s1 h1=>thn h1 fun G s2 N=>?_)
 refine zkC (RR:=fun acc C=>compPost (model X.prog X.w) X.A X.xe none (EP X ad σ Q) acc C) hc S R Z he N fun D C s' H' u J _ _ q=>?_
 obtain⟨m,u⟩:=u;exact⟨m,u,fun y U=>⟨.ref D,H',J y U,rfl,q⟩⟩
theorem zml(hc:X.calm=true)(S:JB scope own capt X)(hi:PI X tg iter wi)
  (hg:∀C s₀ H₀ y,PG (Jf X scope own capt C s₀ H₀ y) tg g) (ht:∀C s₀ H₀ y,PTs (Jf X scope own capt C s₀ H₀ y) ifs tt) (he:∀C s₀ H₀ y,PE (Jf X scope own capt C s₀ H₀ y) elt te)
  {i:Nat} {x:Str} {u H0:Pos} (hN:X.N.Nodup) (hxi:X.N[i]?=some x) (hx:Loc X.env.scope x)
  (hs:∀x,foldedSetIterable iter X.env x=pure x:=by intro _;rfl) (hsw:swapsWith (.ListComp elt [⟨tg,iter,ifs,0⟩] scope pos) (some (.Name x u)) H0.line X.env=pure true:=by rfl)
  (hf:X.fn x=true\/X.env.scope.names.lookup x=some .local:=by walk_at "F") :
  PS X (.Assign [.Name x u] (.ListComp elt [⟨tg,iter,ifs,0⟩] scope pos) H0) (tAsg (tComp own capt wi g tt te) (Zq i)):=by
 intro ad s σ H D I h;rw[mK _ _ _ _ hsw];refine aa (dE (aa ?_));show wpAny _ X.A (do let _ <- comprehension (.ListComp elt [⟨tg,iter,ifs,0⟩] scope pos) scope X.env _ (newList []) false (eval iter X.env) (some (assign (.Name x u) X.env))) _ _ s
 refine aa (eu (fG (use:=some (assign (.Name x u) X.env)) (Q:=fun _ s'=>SP X ad D .next s') rfl hs (Ww (S.cells I.ok)) S.kind S.names (thn (hi ad s σ H _ I h) fun v s1 h1=>thn h1 fun itv s2 h2=>?_)) (fun _ s' hq=>aj (aj hq)) fun _ _ e=>e)
 refine zkC (RR:=fun acc C=>compPost (model X.prog X.w) X.A X.xe (some (assign (.Name x u) X.env)) (fun _ s'=>SP X ad D .next s') acc C) hc S hg ht he h2 fun D' C s' H' Y J hCn y q=>?_
 obtain⟨m,Y⟩:=Y;obtain⟨f0,f1,f2,f3,f4,f5⟩:=y;have Is:Inv X ad σ H' s':=J s'.heap (oA _ _);refine kU (zeY Is hN hxi hx (show RelV (.ref D') (.ref D') from rfl) (fun G I'' sb=>?_) hf)
 obtain⟨a,sb,Z⟩:=sb;have U:C≠a:=by
  rcases Z with rfl|Z
  ·exact f1
  ·exact fun z=>f4 x a Z z.symm
 have R:G.heap.Ns C m:=Y.sameBut sb U;exact⟨m,R,fun h' sb'=>⟨_,H',I''.turned (t':=G.toks) (fun b o hb e=>(sb'.2 b hb).trans e) f0 f1 f3 f4 f5,q⟩⟩
end
theorem znO{J:It}{n:Nat}{own:List Str}{capt:List Nat}{g:TG}{tt:TT}{I:TE}{σ:St}{R:Hp}{D:au}{Q:VK}(y:Nat->List V->Hp->Prop)(h0:y 0 [] (upd R D (.lst [])))
  (turn:∀i ys o,i<n->o D=some (.lst ys)->y i ys o->J.go i o/\∀x L,J.yld i o x L->g x (Jx own++capS capt σ) L fun u S=>Wk (Jx own++capS capt σ) u/\tt u S fun b C =>
   if b=true then I u C (fun v G=>∃zs,G D=some (.lst zs)/\zs.length<sizeLine/\y (i+1) (zs++[v]) (upd G D (.lst (zs++[v])))) else ∃zs,C D=some (.lst zs)/\y (i+1) zs C)
  (stop:∀ys o,o D=some (.lst ys)->y n ys o->J.stop n o/\Q (.ref D) o) :
  zr2 own capt g tt I σ J R D Q:=by
 refine⟨fun i m H=>m=n - i/\i<=n/\∃ys,H D=some (.lst ys)/\y i ys H,⟨n,rfl,cJ _,[],J3,h0⟩,?_⟩
 rintro i m o ⟨rfl,hi,ys,N,p⟩
 by_cases hlt:i<n
 ·obtain⟨go,st⟩:=turn i ys o hlt N p;refine .inr ⟨go,_,_,?_,?_,st⟩
  ·rintro v G ⟨zs,e,l,q⟩;exact⟨zs,e,l,n - (i+1),by omega,rfl,hlt,_,J3,q⟩
  ·rintro C ⟨zs,e,q⟩;exact⟨n - (i+1),by omega,rfl,hlt,zs,e,q⟩
 ·have e:i=n:=by omega
  subst e;exact .inl (stop ys o N p)
def Wm(scope outer:fA)(N:List Str)(capt:List Nat):Bool :=
 scope.kind == .function&&scope.names.all (fun y=>!(y.2 == .cell))&&scope.names.all (fun y=>!(y.2 == .local)||scope.names.lookup y.1 == some .local) &&
 scope.names.all (fun y=>!(y.2 == .free)||(outer.names.lookup y.1 == some .cell||outer.names.lookup y.1 == some .free))&&capt.all (fun k=>scope.names.lookup (N.getD k kc) == some .free)
theorem JB.of{X:Cx}{scope:fA}{own:List Str}{capt:List Nat}(h:Wm scope X.env.scope X.N capt=true):JB scope own capt X:=by
 unfold Wm at h;simp only[aY]at h;obtain⟨⟨⟨⟨I,C⟩,x⟩,v⟩,u⟩:=h;rw[bM]at C x v u;refine⟨by simpa using I,fun y o=>?_,fun y o J=>?_,fun y o hf=>?_,fun k G=>?_⟩
 ·simpa using C y o
 ·have:=x y o;rw[J]at this;simpa using this
 ·have:=v y o;rw[hf]at this;show X.env.scope.names.lookup y.1=some .cell\/X.env.scope.names.lookup y.1=some .free
  simpa using this
 ·simpa using u k G
section
variable{X:Cx}
theorem zta:OpR X (compareOp .Is) (fun x y H Q=>∃a b,x=.bl a/\y=.bl b/\Q (.bl (a == b)) H):=by
 intro ad s σ H x y v u Q I C o h;obtain⟨a,b,rfl,rfl,q⟩:=h;cases C;cases o;exact is_bool ⟨.bl (a == b),H,I,rfl,q⟩
theorem zmG:OpR X (compareOp .IsNot) (fun x y H Q=>∃a b,x=.bl a/\y=.bl b/\Q (.bl (a != b)) H):=by
 intro ad s σ H x y v u Q I G C h;obtain⟨a,b,rfl,rfl,q⟩:=h;cases G;cases C;exact isnot_bool ⟨.bl (a != b),H,I,rfl,q⟩
def kitB(t T:String):Option Bool:=if (bQ t == bQ T)=true then some true else if PySem.W.kitMeta T=true then(fastBuiltinMro t).map (·.contains (.type T)) else none
theorem YO(K:qF)(t T:String):rf K (.type t) (.type T)=kitB t T:=rfl
inductive Ty (H:Hp):V->String->Prop where
 | non:Ty H .non "NoneType"
 | bl (x:Bool):Ty H (.bl x) "bool"
 | int (i:Int):Ty H (.int i) "int"
 | str (x:Str):Ty H (.str x) "str"
 | lst {a:au} {xs:List V} (e:H a=some (.lst xs)):Ty H (.ref a) "list"
 | tup {a:au} {xs:List V} (e:H a=some (.tup xs)):Ty H (.ref a) "tuple"
 | dK {a:au} {kvs:List (Key×V)} (e:H a=some (.dK kvs)):Ty H (.ref a) "dict"
theorem Ty.of{K:qF}{H:Hp}{v:V}{t:String}(h:Ty H v t):TyOf K H v (.type t):=by
 cases h with
 | non=>exact .non
 | bl x=>exact .bl x
 | int i=>exact .int i
 | str x=>exact .str x
 | lst e=>exact .lst e
 | tup e=>exact .tup e
 | dK e=>exact .dK e
theorem zpG:bootBuiltins "isinstance" = some (.builtin "isinstance"):=by decide +kernel
theorem boot_int:bootBuiltins "int" = some (.type "int"):=by decide +kernel
theorem zeq:bootBuiltins "bool" = some (.type "bool"):=by decide +kernel
theorem Qa:bootBuiltins "tuple" = some (.type "tuple"):=by decide +kernel
theorem ziO:bootBuiltins "str" = some (.type "str"):=by decide +kernel
theorem Zf:bootBuiltins "all" = some (.builtin "all"):=by decide +kernel
theorem zn6:bootBuiltins "any" = some (.builtin "any"):=by decide +kernel
theorem Yk:bootBuiltins "min" = some (.builtin "min"):=by decide +kernel
theorem Zg:bootBuiltins "max" = some (.builtin "max"):=by decide +kernel
theorem QJ:bootBuiltins "len" = some (.builtin "len"):=by decide +kernel
theorem zn4:bootBuiltins "sum" = some (.builtin "sum"):=by decide +kernel
theorem zfC:∀{bs:List Bool}{u:List ah},Vals (bs.map V.bl) u->LSm.BoolsAre u bs
 | [],_,h=>by cases h;exact .nil
 | b::bs,_,h=>by
  cases h with
  | cons r t =>
   cases(show _=lO b from r)
   exact .cons b (zfC t)
theorem Zh(hc:X.calm=true):J1 X (.builtin "all") (fun xs H Q=>∃(a:au) (bs:List Bool),xs=[.ref a]/\SqL X.K H a (bs.map V.bl)/\Q (.bl (bs.all id)) H):=by
 intro ad s σ H xs Z Q I r h;obtain⟨a,bs,rfl,L,q⟩:=h;cases r with
 | cons N J =>
  cases J;cases(show _=bP a from N)
  obtain⟨its,S,p,hz⟩:=I.list L;have C:=zfC S;have x:s.heap.IsList a its.toArray:=p.isList;have o:a<s.heap.objs.size:=by obtain⟨_,e,_⟩:=x;exact aD e
  refine call_all_walk (eN x ?_);refine⟨s.heap.objs.size,[s.heap.objs.size,a],[s.heap.objs.size],its.toArray.size,_,_,fun i=>(bs[i]?).getD true,rfl,rC (A:=X.A.in1) (I.ok.hd hc) _ a (aK o) its.toArray,
   ⟨⟨_,aG _ rfl,rfl,rfl⟩,x.push _⟩,fun i v s' U Y R y=>?_,fun h' tk G=>?_⟩
  ·obtain⟨b,e,rfl⟩:=C.get i v (by simpa using R)
   simp only[e,c8]at y;exact ck y
  ·have e:((dW its.toArray.size).all fun i=>(bs[i]?).getD true)=bs.all id:=by
    rw[aB,C.length];exact LSm.range_all bs
   rw[e];exact⟨.bl _,H,I.kept (nL G),rfl,q⟩
theorem znZ(hc:X.calm=true):J1 X (.builtin "any") (fun xs H Q=>∃(a:au) (bs:List Bool),xs=[.ref a]/\SqL X.K H a (bs.map V.bl)/\Q (.bl (bs.any id)) H):=by
 intro ad s σ H xs us Q I r h;obtain⟨a,bs,rfl,N,q⟩:=h;cases r with
 | cons R L =>
  cases L;cases(show _=bP a from R)
  obtain⟨its,U,p,hz⟩:=I.list N;have G:=zfC U;have x:s.heap.IsList a its.toArray:=p.isList;have o:a<s.heap.objs.size:=by obtain⟨_,e,_⟩:=x;exact aD e
  refine call_any_walk (eN x ?_);refine⟨s.heap.objs.size,[s.heap.objs.size,a],[s.heap.objs.size],its.toArray.size,_,_,fun i=>(bs[i]?).getD false,rfl,rC (A:=X.A.in1) (I.ok.hd hc) _ a (aK o) its.toArray,
   ⟨⟨_,aG _ rfl,rfl,rfl⟩,x.push _⟩,fun i v s' Y Z S C=>?_,fun h' tk J=>?_⟩
  ·obtain⟨b,e,rfl⟩:=G.get i v (by simpa using S)
   simp only[e,c8]at C;exact ck C
  ·have e:((dW its.toArray.size).any fun i=>(bs[i]?).getD false)=bs.any id:=by
    rw[aB,G.length];exact LSm.range_any bs
   rw[e];exact⟨.bl _,H,I.kept (nL J),rfl,q⟩
mutual
inductive U2 (H:Hp):V->ae->Prop
 | non:U2 H .non .none
 | bl (b:Bool):U2 H (.bl b) (.bool b)
 | int (i:Int):U2 H (.int i) (.int i)
 | str (x:Str):U2 H (.str x) (.str x)
 | lst {a:au} {xs:List V} {ds:qD}:H a=some (.lst xs)->Vi H xs ds->U2 H (.ref a) (.list ds)
 | tup {a:au} {xs:List V} {ds:qD}:H a=some (.tup xs)->Vi H xs ds->U2 H (.ref a) (.tuple ds)
inductive Vi (H:Hp):List V->List ae->Prop
 | nil:Vi H [] []
 | cons {v:V} {vs:List V} {d:ae} {ds:qD}:U2 H v d->Vi H vs ds->Vi H (v::vs) (d::ds)
end
def Zo(i j:Int):Prop:=0<j/\j<2 ^ 128
theorem V8:OpR X (binaryOp .FloorDiv) (rI Zo fun i j=>.int (i / j)):=opI fun i j _ _ _ _ _ hc q=>by
 have y:(0:Int)<j:=hc.1;have C:j<2 ^ 128:=hc.2;refine floordiv_int (by omega) (by rw[ko i (by omega)];exact q) (.inl (PyProof.noPylong_of_log2 ?_))
 have u:j.natAbs<2 ^ 128:=by omega
 have x:j.natAbs.log2<128:=(Nat.log2_lt (by omega)).mpr u
 omega
end
def Pl(X:Cx)(l:List aZ):Prop:=∀pos,(backTo pos (starEach l X.env)).any (·.1)=false
def Hd(X:Cx):List aZ->Prop
 | []=>True
 | e::r=>starEach (e::r) X.env=(false,eval e X.env)::starEach r X.env/\Pl X r
structure PB(X:Cx)(es:List aZ)(t:TA):Prop where
 pa:PA X es t
 pl:Pl X es
 hd:Hd X es
section
variable{X:Cx}{es:List aZ}{t:TA}{te:TE}
theorem Ul:PB X [] tNil:=⟨ZY,fun _=>rfl,trivial⟩
theorem QF(h:PE X e te)(o:PB X es t)(l:starEach (e::es) X.env=(false,eval e X.env)::starEach es X.env):PB X (e::es) (QU te t) :=
 ⟨Za h o.pa l,fun pos=>by
  rw[l];have:(backTo pos ((false,eval e X.env)::starEach es X.env)).any (·.1)=(false||(backTo pos (starEach es X.env)).any (·.1)):=rfl
  rw[this,o.pl pos];rfl,l,o.pl⟩
theorem pb_i{j pos}(l:PB X es t):PB X (.Constant (.int i) j pos::es) (QU (tC (.int i)) t):=QF JN l rfl
theorem pb_v(i:Nat){x:Str}{pos:Pos}(o:PB X es t)(v:X.N[i]?=some x:=by rfl)(u:Vis X.env.scope x:=by walk_at "V")(hd:(x == ("__debug__":Str))=false:=by rfl)
  (l:(x == ("__classdict__":Str))=false:=by rfl):PB X (.Name x pos::es) (QU (tVar i) t):=QF (UL v u hd l) o rfl
theorem zqM(h:PE X (.Name x pos) te)(l:PB X es t):PB X (.Name x pos::es) (QU te t):=QF h l rfl
theorem zpV{a b c d}(h:PE X (.BinOp a b c d) te)(l:PB X es t):PB X (.BinOp a b c d::es) (QU te t):=QF h l rfl
theorem zs1{a b c d}(h:PE X (.Compare a b c d) te)(l:PB X es t):PB X (.Compare a b c d::es) (QU te t):=QF h l rfl
variable{e:aZ}{x:Str}{p pos:Pos}
theorem zqH{x1}(h:PB X es t):PE X (.Tuple es x1 pos) (tTup t):=zsR h.pa
theorem zmv(h:PB X es t):PE X (.List es pos) (tLst t):=zsY h.pa
theorem Zu{id:String}{r:List V->Hp->VK->Prop}(hc:J1 X (.builtin id) r)(y:X.mg x=none)(v:bootBuiltins x=some (.builtin id))(h:PB X (e::es) t)(I:Gl X x:=by rfl)(G:x ≠ "__name__":=by decide) (o:(x == ("__debug__":Str))=false:=by rfl) :
  PE X (.Call (.Name x p) (e::es) [] pos) (tCB r t):=zo0 hc I y v h.pa G o h.hd.1 (h.hd.2 pos)
theorem zqK(hc:J1 X (.type T) r)(v:X.mg x=none)(u:bootBuiltins x=some (.type T))(h:PB X (e::es) t)(I:Gl X x:=by rfl)(G:x ≠ "__name__":=by decide) (o:(x == ("__debug__":Str))=false:=by rfl) :
  PE X (.Call (.Name x p) (e::es) [] pos) (tCB r t):=zhG hc I v u h.pa G o h.hd.1 (h.hd.2 pos)
end
end L2
namespace Bd
open PySem L2
structure Def(K:qF)(mg:qM)(x:Str)(st:eS)(ps:List Str)(f:au)(fd:dJ):Prop where
 F:Fun K x x st f fd
 b:Binds K fd ps []
 m:mg x=some (.ref f)
section
variable{X:Cx}{k:Nat}{f:au}{fd:dJ}{ps:List Str}{sp:Sp}{x:Str}{p pos:Pos}{e:aZ}{es:List aZ}{t:TA}{st:eS}
theorem zqI(D:Def X.K X.mg x st ps f fd)(G:FnOk X.prog X.w X.K X.mg X.base CX0 k f fd ps sp)(u:Room k X.A)(h:PB X (e::es) t)(v:Gl X x:=by rfl)
  (o:(x == ("__debug__":Str))=false:=by rfl):PE X (.Call (.Name x p) (e::es) [] pos) (zsh sp [] E0 t):=zqJ G u v D.m D.F.kp D.b .nil zwr h.pa o h.hd.1 (h.hd.2 pos)
theorem zwn(o:X.mg x=none)(l:bootBuiltins x=some (.type T))(v:Gl X x:=by rfl)(u:x ≠ "__name__":=by decide) (hd:(x == ("__debug__":Str))=false:=by rfl):PE X (.Name x p) (tC (.ty T)) :=
 zqL v o l rfl u hd
end
theorem iteP{c A B:Prop}[Decidable c](hc:c)(h:A):if decide c=true then A else B:=by
 rw[decide_eq_true hc];exact iteT h
theorem iteN{c A B:Prop}[Decidable c](hc:¬c)(h:B):if decide c=true then A else B:=by
 rw[decide_eq_false hc];exact iteF h
theorem ztY{c A B:Prop}[Decidable c](l:c->A)(o:¬c->B):if decide c=true then A else B:=by
 by_cases h:c
 ·exact iteP h (l h)
 ·exact iteN h (o h)
theorem Ve{α:Type}{xs:List α}{k:Int}{v:α}(h0:0<=k)(h:xs[k.toNat]?=some v):atI xs k=some v:=by
 obtain⟨n,rfl⟩:=lF h0;exact zrY h
theorem Qw(k:Nat):(0:Int)<2 ^ k:=by
 have:(0:Nat)<2 ^ k:=Nat.two_pow_pos k;have e:((2 ^ k:Nat):Int)=(2:Int) ^ k:=by simp
 omega
theorem zmo(h:k<=64):(2:Int) ^ k<2 ^ 128:=by
 have:(2:Nat) ^ k<2 ^ 128:=Nat.pow_lt_pow_right (by decide) (by omega)
 have e:((2 ^ k:Nat):Int)=(2:Int) ^ k:=by simp
 omega
theorem zgL(h:k<=64):(2:Int) ^ k<=2 ^ 64:=by
 have:(2:Nat) ^ k<=2 ^ 64:=mX (by decide) (by omega)
 have e:((2 ^ k:Nat):Int)=(2:Int) ^ k:=by simp
 omega
theorem zoA(h:H p=none):Same H (upd H p o):=fun b u e=>by
 rw[Ju (Q8 e h)];exact e
end Bd
namespace L2
open PySem PySem.Spec PyProof.Rows
theorem zrZ(k h:Nat):(k*2 ^ h) &&& (2 ^ h)=(k % 2)*2 ^ h:=by
 have o:k*2 ^ h=k <<< h:=(lG k h).symm;have l:(2:Nat) ^ h=1 <<< h:=by rw[lG,vw]
 have u:(k &&& 1) <<< h=k <<< h &&& 1 <<< h:=Nat.shiftLeft_and_distrib;rw[o]
 conv=>lhs;rw[l]
 rw[<- u,Nat.and_one_is_mod,lG]
theorem zos(h:Nat)(u:0<=k):cU (k*2 ^ h) (2 ^ h)=if k % 2=0 then k*2 ^ h+2 ^ h else k*2 ^ h - 2 ^ h:=by
 obtain⟨n,rfl⟩:=lF u;have l:((2 ^ h:Nat):Int)=(2:Int) ^ h:=by simp
 have x:((n:Int)*2 ^ h)=((n*2 ^ h:Nat):Int):=by rw[Int.natCast_mul,l]
 rw[bitXor_and,x,<- l,bitAnd_pp (km _) (km _)];have v:((n*2 ^ h:Nat):Int).toNat &&& ((2 ^ h:Nat):Int).toNat=(n % 2)*2 ^ h:=by
  rw[gn,gn];exact zrZ n h
 rw[v];rcases Nat.mod_two_eq_zero_or_one n with z|z
 ·have:((n:Int)) % 2=0:=by lia
  rw[if_pos this,z];simp
 ·have:¬((n:Int)) % 2=0:=by lia
  rw[if_neg this,z,vw];lia
def HAND:ae:=.dict [(.none,.none)]
def SCR(ns:List Int):ae:=.dict [(.none,.list (ns.map .int))]
def VM(H:Hp)(hd:au)(n:Int):Prop:=∃d m t:Int,H hd=some (.lst [.int d,.int m,.int t])/\0<=m/\m<2 ^ 62/\0<=t/\t<=n
def StT(K:qF)(a:au)(xs:List V):Prop :=
 ∃(o:Obj) (its:Array ah) (n:Nat),K.lookup a=some o/\o.cls=.type "tuple" /\ o.data=.seq its n/\its.size<=sizeLine/\Vals xs its.toList/\o.dict=none
theorem StT.sq{K:qF}{H:Hp}{a:au}{xs:List V}(h:StT K a xs):SqT K H a xs:=by
 obtain⟨o,its,n,x,y,v,u,l,_⟩:=h;exact .inr ⟨o,its,n,x,y,v,u,l⟩
def hsT(k:Int×Int):Int:=reduceHash (si [hashInt k.1,hashInt k.2])
def entZ(z:(Int×Int)×au×V)(e:nu):Prop:=e.hash=hsT z.1/\e.key=.ref z.2.1/\RelV z.2.2 e.val
abbrev ZT:=List ((Int×Int)×au×V)
def ZDO(a:au)(zs:ZT)(v:Nat):HO:=.ext fun h=>(a == sysModules)=false/\zs.length<=sizeLine/\(zs.map (·.1)).Nodup/\∃o l,h.get? a=some o/\o.ExactDict/\o.data=.dict l v/\cw entZ zs l.toList
abbrev KT2:=List ((Int×Int)×ae)
def entI(z:Int×V)(e:nu):Prop:=e.hash=hashInt z.1/\(∃t,e.key=.int z.1 t)/\RelV z.2 e.val
def KDO(a:au)(zs:List (Int×V))(v:Nat):HO:=.ext fun h=>(a == sysModules)=false/\zs.length<=sizeLine/\(zs.map (·.1)).Nodup/\∃o l,h.get? a=some o/\o.ExactDict/\o.data=.dict l v/\cw entI zs l.toList
def blkT(k:Int×Int):ae:=.tuple [.int k.1,.int k.2]
def Zt(l:List (Int×ae)):List (ae×ae):=l.map fun q=>(.int q.1,q.2)
def JV(l:KT2):List (ae×ae):=l.map fun q=>(blkT q.1,q.2)
def EXC(C:au):ae:=.dict [(.none,.int (C:Int))]
def EXO(a C:au):HO:=.ext fun h=>∃o,h.get? a=some o/\o.cls=.ref C/\∃u,o.data=.fields u
mutual
inductive Rep (K:qF)(hd:Option au)(O:au->Prop)(H:Hp):V->ae->Prop
 | non:Rep K hd O H .non .none
 | bl (b:Bool):Rep K hd O H (.bl b) (.bool b)
 | int (i:Int):Rep K hd O H (.int i) (.int i)
 | str (x:Str):Rep K hd O H (.str x) (.str x)
 | tup {a vs ds} (h:H a=some (.tup vs)) (o:¬O a) (r:Reps K hd O H vs ds):Rep K hd O H (.ref a) (.tuple ds)
 | tupS {a vs ds} (h:StT K a vs) (r:Reps K hd O H vs ds):Rep K hd O H (.ref a) (.tuple ds)
 | lst {a vs ds} (h:H a=some (.lst vs)) (o:¬O a) (r:Reps K hd O H vs ds):Rep K hd O H (.ref a) (.list ds)
 | dct {a ep} (h:H a=some (KDO a [] ep)) (o:¬O a):Rep K hd O H (.ref a) (.dict [])
 | dcK {a kvs ep ks ps} (h:H a=some (KDO a kvs ep)) (o:¬O a) (r:Zr K hd O H kvs ks) (e:ps=Zt ks):Rep K hd O H (.ref a) (.dict ps)
 | dcT {a zs ep ks ps} (h:H a=some (ZDO a zs ep)) (o:¬O a) (r:Jq K hd O H zs ks) (e:ps=JV ks):Rep K hd O H (.ref a) (.dict ps)
 | hand {a} (h:hd=some a):Rep K hd O H (.ref a) HAND
 | scr {a ns} (h:Rd H a (.lst (ns.map V.int))) (o:¬O a):Rep K hd O H (.ref a) (SCR ns)
 | scrS {a} {ns:List Int} (h:∀H':Hp,SqL K H' a (ns.map V.int)):Rep K hd O H (.ref a) (SCR ns)
 | exc {a C} (h:H a=some (EXO a C)) (o:¬O a):Rep K hd O H (.ref a) (EXC C)
inductive Reps (K:qF)(hd:Option au)(O:au->Prop)(H:Hp):List V->List ae->Prop
 | nil:Reps K hd O H [] []
 | cons {v d vs ds} (h:Rep K hd O H v d) (r:Reps K hd O H vs ds):Reps K hd O H (v::vs) (d::ds)
inductive Zr (K:qF)(hd:Option au)(O:au->Prop)(H:Hp):List (Int×V)->List (Int×ae)->Prop
 | nil:Zr K hd O H [] []
 | cons {k v d kvs ks} (h:Rep K hd O H v d) (r:Zr K hd O H kvs ks):Zr K hd O H ((k,v)::kvs) ((k,d)::ks)
inductive Jq (K:qF)(hd:Option au)(O:au->Prop)(H:Hp):ZT->KT2->Prop
 | nil:Jq K hd O H [] []
 | cons {k q v d zs ks} (h:Rep K hd O H (.ref q) (.tuple [.int k.1,.int k.2])) (h2:Rep K hd O H v d) (r:Jq K hd O H zs ks):Jq K hd O H ((k,q,v)::zs) ((k,d)::ks)
end
section
variable{K:qF}{hd:Option au}{O O':au->Prop}{H H':Hp}
theorem Rep.mono(C:∀a o,H a=some o->O' a->O a)(y:∀a o,¬O a->H a=some o->H' a=some o)(q:Rep K hd O H v d):Rep K hd O' H' v d :=
 Rep.rec (motive_1:=fun v d _=>Rep K hd O' H' v d) (motive_2:=fun v d _=>Reps K hd O' H' v d) (motive_3:=fun v d _=>Zr K hd O' H' v d) (motive_4:=fun v d _=>Jq K hd O' H' v d)
  .non .bl .int .str (fun h o _ r=>.tup (y _ _ o h) (fun z=>o (C _ _ h z)) r) (fun h _ r=>.tupS h r) (fun h o _ r=>.lst (y _ _ o h) (fun z=>o (C _ _ h z)) r) (fun h o=>.dct (y _ _ o h) (fun z=>o (C _ _ h z))) (fun h o _ e r=>.dcK (y _ _ o h) (fun z=>o (C _ _ h z)) r e) (fun h o _ e r=>.dcT (y _ _ o h) (fun z=>o (C _ _ h z)) r e) .hand
  (fun h o=>h.elim (fun h=>.scr (.inl (y _ _ o h)) fun z=>o (C _ _ h z)) fun h=>h.elim fun u h=>.scr (.inr ⟨u,y _ _ o h⟩) fun z=>o (C _ _ h z)) .scrS (fun h o=>.exc (y _ _ o h) (fun z=>o (C _ _ h z)))
  .nil (fun _ _ h r=>.cons h r) .nil (fun _ _ h r=>.cons h r) .nil (fun _ _ _ h k r=>.cons h k r) q
theorem Reps.ind{P:List V->List ae->Prop}(n:P [] [])(c:∀{v d vs ds},Rep K hd O H v d->Reps K hd O H vs ds->P vs ds->P (v::vs) (d::ds))(q:Reps K hd O H vs ds):P vs ds:=by
 refine Reps.rec (motive_1:=fun _ _ _=>True) (motive_2:=fun v d _=>P v d) (motive_3:=fun _ _ _=>True) (motive_4:=fun _ _ _=>True) ?_ ?_ ?_ ?_ ?_ ?_ ?_ ?_ ?_ ?_ ?_ ?_ ?_ ?_ n (fun h r _ i=>c h r i) ?_ ?_ ?_ ?_ q <;> intros <;> trivial
theorem Jq.ind{P:ZT->KT2->Prop}(n:P [] [])(c:∀{k q v d vs ds},Rep K hd O H (.ref q) (.tuple [.int k.1,.int k.2])->Rep K hd O H v d->Jq K hd O H vs ds->P vs ds->P ((k,q,v)::vs) ((k,d)::ds))(q:Jq K hd O H vs ds):P vs ds:=by
 refine Jq.rec (motive_1:=fun _ _ _=>True) (motive_4:=fun v d _=>P v d) (motive_2:=fun _ _ _=>True) (motive_3:=fun _ _ _=>True) ?_ ?_ ?_ ?_ ?_ ?_ ?_ ?_ ?_ ?_ ?_ ?_ ?_ ?_ ?_ ?_ ?_ ?_ n (fun h k r _ _ i=>c h k r i) q <;> intros <;> trivial
theorem Reps.mono(v:∀a o,H a=some o->O' a->O a)(u:∀a o,¬O a->H a=some o->H' a=some o)(q:Reps K hd O H vs ds):Reps K hd O' H' vs ds:=q.ind .nil fun h _ r=>.cons (h.mono v u) r
theorem Jq.mono(v:∀a o,H a=some o->O' a->O a)(u:∀a o,¬O a->H a=some o->H' a=some o)(q:Jq K hd O H vs ds):Jq K hd O' H' vs ds:=q.ind .nil fun h k _ r=>.cons (h.mono v u) (k.mono v u) r
theorem dict_noK(e:(eK,v)::r=Zt l):False:=by
 cases l with
 | nil=>cases e
 | cons q l=>cases e
theorem dict_noT(e:(eK,v)::r=JV l):False:=by
 cases l with
 | nil=>cases e
 | cons q l=>cases e
theorem Reps.length(q:Reps K hd O H vs ds):vs.length=ds.length:=q.ind (P:=fun a b=>a.length=b.length) rfl fun _ _ e=>congrArg (·+1) e
theorem Reps.get{i:Nat}(q:Reps K hd O H l ds):ds[i]?=some d->∃v,l[i]?=some v/\Rep K hd O H v d :=
 q.ind (P:=fun l ds=>∀(i:Nat),ds[i]?=some d->∃v,l[i]?=some v/\Rep K hd O H v d) (fun _ e=>nomatch e) (fun {v _ _ _} h _ r i=>i.casesOn (fun e=>⟨v,rfl,ba e▸h⟩) fun i e=>r i e) i
theorem Reps.append(q:Reps K hd O H vs ds)(s:Reps K hd O H ws es):Reps K hd O H (vs++ws) (ds++es):=q.ind (P:=fun a b=>Reps K hd O H (a++ws) (b++es)) s fun h _ r=>.cons h r
theorem Reps.take(n:Nat)(q:Reps K hd O H u ds):Reps K hd O H (u.take n) (ds.take n) :=
 q.ind (P:=fun u ds=>∀n:Nat,Reps K hd O H (u.take n) (ds.take n)) (fun n=>by rw[sY,sY];exact .nil) (fun h _ r n=>n.casesOn .nil fun n=>.cons h (r n)) n
theorem Reps.drop(n:Nat)(q:Reps K hd O H u ds):Reps K hd O H (u.drop n) (ds.drop n) :=
 q.ind (P:=fun u ds=>∀n:Nat,Reps K hd O H (u.drop n) (ds.drop n)) (fun n=>by rw[sZ,sZ];exact .nil) (fun h k r n=>n.casesOn (.cons h k) fun n=>r n) n
theorem Reps.set{v d}(h:Rep K hd O H v d)(n:Nat)(q:Reps K hd O H u ds):Reps K hd O H (u.set n v) (ds.set n d) :=
 q.ind (P:=fun u ds=>∀n:Nat,Reps K hd O H (u.set n v) (ds.set n d)) (fun n=>.nil) (fun k s r n=>n.casesOn (.cons h s) fun n=>.cons k (r n)) n
theorem Rep.tupI(h:Rep K hd O H v (.tuple ds)):∃a x,v=.ref a/\SqT K H a x/\Reps K hd O H x ds:=by
 cases h with
 | tup h o r=>exact⟨_,_,rfl,.inl (.inl h),r⟩
 | tupS h r=>exact⟨_,_,rfl,h.sq,r⟩
theorem Rep.lstI(h:Rep K hd O H v (.list ds)):∃a u,v=.ref a/\H a=some (.lst u)/\¬O a/\Reps K hd O H u ds:=by
 cases h with
 | lst h o r=>exact⟨_,_,rfl,h,o,r⟩
theorem Rep.intI(h:Rep K hd O H v (.int i)):v=.int i:=by cases h;rfl
theorem Rep.blI(h:Rep K hd O H v (.bool b)):v=.bl b:=by cases h;rfl
theorem Rep.strI(h:Rep K hd O H v (.str x)):v=.str x:=by cases h;rfl
theorem Rep.nonI(h:Rep K hd O H v .none):v=.non:=by cases h;rfl
theorem Rep.handI(h:Rep K hd O H v HAND):∃a,v=.ref a/\hd=some a:=by
 generalize e:HAND=d at h;cases h with
 | hand h=>exact⟨_,rfl,h⟩
 | dct _ _=>cases e
 | dcK _ _ _ o=>cases e;exact(dict_noK o).elim
 | dcT _ _ _ o=>cases e;exact(dict_noT o).elim
 | scr _ _=>simp[HAND,SCR]at e
 | scrS _=>simp[HAND,SCR]at e
 | exc _ _=>simp[HAND,EXC]at e
 | _=>cases e
theorem Rep.scrI(h:Rep K hd O H v (SCR ns)):∃a,v=.ref a/\SqL K H a (ns.map V.int):=by
 generalize e:SCR ns=d at h;cases h with
 | hand h=>simp[HAND,SCR]at e
 | dct _ _=>cases e
 | dcK _ _ _ u=>cases e;exact(dict_noK u).elim
 | dcT _ _ _ u=>cases e;exact(dict_noT u).elim
 | @scr a ms h o =>
  have:ns=ms:=by
   have u:(ns.map bN)=ms.map bN:=by simpa[SCR] using e
   have:=congrArg (rE fun x=>match x with|bN i=>i|_=>0) u
   simpa[bT,ig] using this
  subst this;exact⟨_,rfl,.inl h⟩
 | @scrS a ms h =>
  have:ns=ms:=by
   have u:(ns.map bN)=ms.map bN:=by simpa[SCR] using e
   have:=congrArg (rE fun x=>match x with|bN i=>i|_=>0) u
   simpa[bT,ig] using this
  subst this;exact⟨_,rfl,h H⟩
 | exc _ _=>simp[SCR,EXC]at e
 | _=>cases e
end
mutual
def J9:ae->Bool
 | .list _=>false
 | .tuple ts=>ZV ts
 | .dict [(.none,.none)]=>true
 | .dict _=>false
 | _=>true
def ZV:List ae->Bool
 | []=>true
 | t::ts=>J9 t&&ZV ts
end
section
variable{K:qF}{hd:Option au}{O O':au->Prop}{H:Hp}
theorem zqZ(e:J9 (.dict (Zt ks))=true):False:=by
 unfold J9 at e;split at e
 ·rename_i h;cases h
 ·rename_i h;cases h
 ·rename_i h;exact dict_noK (cY h).symm
 ·cases e
 ·rename_i h;exact h _ rfl
theorem zqY(e:J9 (.dict (JV ks))=true):False:=by
 unfold J9 at e;split at e
 ·rename_i h;cases h
 ·rename_i h;cases h
 ·rename_i h;exact dict_noT (cY h).symm
 ·cases e
 ·rename_i h;exact h _ rfl
def MutO(o:Option HO):Prop:=(∃xs,o=some (.lst xs))\/(∃u,o=some (.dK u))\/∃a zs v,o=some (ZDO a zs v)
theorem Rep.up(y:∀a,O a->MutO (H a))(q:Rep K hd O' H v d):J9 d=true->Rep K hd O H v d:=by
 refine Rep.rec (motive_1:=fun v d _=>J9 d=true->Rep K hd O H v d) (motive_2:=fun v d _=>ZV d=true->Reps K hd O H v d) (motive_3:=fun _ _ _=>True) (motive_4:=fun _ _ _=>True)
  (fun _=>.non) (fun b _=>.bl b) (fun b _=>.int b) (fun b _=>.str b) (fun h _ _ r e=>.tup h (fun z=>by rcases y _ z with⟨xs,q⟩|⟨xs,q⟩|⟨xs,zs,C,q⟩ <;> (rw[h]at q;cases q)) (r (by simpa[J9] using e))) (fun h _ r e=>.tupS h (r (by simpa[J9] using e)))
  (fun _ _ _ _ e=>by simp[J9]at e) (fun _ _ e=>by simp[J9]at e) (fun _ _ _ x _ e=>by subst x;exact(zqZ e).elim) (fun _ _ _ x _ e=>by subst x;exact(zqY e).elim) (fun h _=>.hand h) (fun _ _ e=>by simp[SCR,J9]at e) (fun _ e=>by simp[SCR,J9]at e) (fun _ _ e=>by simp[EXC,J9]at e)
  (fun _=>.nil) (fun _ _ h r e=>by rw[ZV,aY]at e;exact .cons (h e.1) (r e.2)) trivial ?_ trivial ?_ q <;> intros <;> trivial
end
section
variable{X:Cx}{ad:qO}{σ:St}{H:Hp}{s:aw}{hd:Option au}{O:au->Prop}
theorem Rep.reads(I:Inv X ad σ H s){u:ah}(q:Rep X.K hd O H v d):RelV v u->d.hasDict=false->∃C,Reads s.heap u d C:=by
 refine Rep.rec (motive_1:=fun v d _=>∀u,RelV v u->d.hasDict=false->∃C,Reads s.heap u d C) (motive_2:=fun v d _=>∀u,Vals v u->gq d=false->∃C,vz s.heap u d C) (motive_3:=fun _ _ _=>True) (motive_4:=fun _ _ _=>True)
  (fun _ r _=>by cases r;exact⟨_,.none⟩) (fun b _ r _=>by cases r;exact⟨_,.bool b⟩) (fun i _ r _=>by obtain⟨t,rfl⟩:=r;exact⟨_,.int i t⟩) (fun x _ r _=>by obtain⟨t,rfl⟩:=r;exact⟨_,.str x t⟩)
  (fun {_ vs _} h _ _ q _ r e=>?_) (fun {_ vs _} h _ q _ r e=>?_) (fun {_ vs _} h _ _ q _ r e=>?_) (fun _ _ _ _ e=>by simp[cV]at e) (fun _ _ _ _ _ _ _ e=>by simp[cV]at e) (fun _ _ _ _ _ _ _ e=>by simp[cV]at e)
  (fun _ _ _ e=>by simp[HAND,cV]at e) (fun _ _ _ _ e=>by simp[SCR,cV]at e) (fun _ _ _ e=>by simp[SCR,cV]at e) (fun _ _ _ _ e=>by simp[EXC,cV]at e)
  (fun _ r _=>by cases r;exact⟨_,.nil⟩) (fun _ _ h q _ r e=>?_) trivial (by intros;trivial) trivial (by intros;trivial) q u
 ·cases r;obtain⟨its,L,p,_⟩:=I.tuple (xs:=vs) (.inl (.inl h));obtain⟨o,J,hc,n,y⟩:=p;obtain⟨C,G⟩:=q _ L (by simpa[cV] using e)
  exact⟨_,.tuple J hc y (by simpa using G)⟩
 ·cases r;obtain⟨its,L,p,_⟩:=I.tuple (xs:=vs) h.sq;obtain⟨o,J,hc,n,y⟩:=p;obtain⟨C,G⟩:=q _ L (by simpa[cV] using e)
  exact⟨_,.tuple J hc y (by simpa using G)⟩
 ·cases r;obtain⟨its,L,p,_⟩:=I.list (xs:=vs) (.inl (.inl h));obtain⟨o,n,J,hc,_,y⟩:=p;obtain⟨C,G⟩:=q _ L (by simpa[cV] using e)
  exact⟨_,.list J hc y (by simpa using G)⟩
 ·cases r with
  | cons S N =>
   rw[gq,mY]at e;obtain⟨C,G⟩:=h _ S e.1;obtain⟨bs,R⟩:=q _ N e.2;exact⟨_,.cons G R⟩
theorem Reps.reads(I:Inv X ad σ H s){u:List ah}(q:Reps X.K hd O H x ds):Vals x u->gq ds=false->∃v,vz s.heap u ds v :=
 q.ind (P:=fun x ds=>∀u,Vals x u->gq ds=false->∃v,vz s.heap u ds v) (fun _ r _=>by cases r;exact⟨_,.nil⟩) (fun h _ q _ r e=>by
  cases r with
  | cons y G =>
   rw[gq,mY]at e;obtain⟨v,J⟩:=h.reads I y e.1;obtain⟨bs,C⟩:=q _ G e.2;exact⟨_,.cons J C⟩) u
end
inductive Cell where
 | val (d:ae)
 | own (ds:qD)
 | dct (ks:List (Key×ae))
 | rdo (ks:List (Key×ae))
 | dtt (ks:KT2)
def Cell.mine:Cell->Bool
 | .val _=>false
 | .own _=>true
 | .dct _=>true
 | .rdo _=>false
 | .dtt _=>true
def U1(K:qF)(hd:Option au)(O:au->Prop)(H:Hp)(l:List (Key×V))(o:List (Key×ae)):Prop:=cw (fun(p:Key×V) (q:Key×ae)=>p.1=q.1/\Rep K hd O H p.2 q.2) l o
theorem U1.mono{K:qF}{hd:Option au}{O v:au->Prop}{H H':Hp}(y:∀a o,H a=some o->v a->O a)(x:∀a o,¬O a->H a=some o->H' a=some o){l:List (Key×V)}{u:List (Key×ae)}(r:U1 K hd O H l u):U1 K hd v H' l u :=
 Paired.mapP r fun _ _ z=>⟨z.1,z.2.mono y x⟩
abbrev En:=List (Option Cell)
structure Ctx where
 hd:Option au
 ext:au->Prop
def OwnS(l:En)(σ:St)(a:au):Prop:=∃(i:Nat) (c:Cell),c.mine=true/\l[i]?=some (some c)/\σ[i]?=some (some (V.ref a))
def Own(C:Ctx)(l:En)(σ:St)(a:au):Prop:=C.ext a\/OwnS l σ a
def Hn(hd:Option au)(H:Hp)(n:Nat):Prop:=∀a,hd=some a->VM H a n
structure Stt(K:qF)(C:Ctx)(ρ:En)(σ:St)(H:Hp)(n:Nat):Prop where
 len:ρ.length=σ.length
 val:∀(i:Nat) (d:ae),ρ[i]?=some (some (Cell.val d))->∃v,σ[i]?=some (some v)/\Rep K C.hd (Own C ρ σ) H v d
 own:∀(i:Nat) (ds:qD),ρ[i]?=some (some (Cell.own ds))->∃a vs,σ[i]?=some (some (V.ref a))/\H a=some (.lst vs)/\Reps K C.hd (Own C ρ σ) H vs ds/\¬C.ext a
 dct:∀(i:Nat) (ks:List (Key×ae)),ρ[i]?=some (some (Cell.dct ks))->∃a kvs,σ[i]?=some (some (V.ref a))/\H a=some (.dK kvs)/\U1 K C.hd (Own C ρ σ) H kvs ks/\¬C.ext a
 rdo:∀(i:Nat) (ks:List (Key×ae)),ρ[i]?=some (some (Cell.rdo ks))->∃a kvs,σ[i]?=some (some (V.ref a))/\H a=some (.dK kvs)/\U1 K C.hd (Own C ρ σ) H kvs ks/\C.ext a/\C.hd≠some a
 dtt:∀(i:Nat) (ks:KT2),ρ[i]?=some (some (Cell.dtt ks))->∃a zs ep,σ[i]?=some (some (V.ref a))/\H a=some (ZDO a zs ep)/\Jq K C.hd (Own C ρ σ) H zs ks/\¬C.ext a
 dif:∀(i j:Nat) (c e:Cell) (a:au),c.mine=true->e.mine=true->ρ[i]?=some (some c)->ρ[j]?=some (some e)->σ[i]?=some (some (V.ref a))->σ[j]?=some (some (V.ref a))->i=j
 hnd:Hn C.hd H n
 ext:∀a,C.ext a->MutO (H a)
 hx:∀a,C.hd=some a->C.ext a
def ExtE(hd:Option au)(H H':Hp):Prop:=∀a o,H a=some o->hd≠some a->H' a=some o
theorem ExtE.refl:ExtE hd H H:=fun _ _ h _=>h
theorem ExtE.trans(a:ExtE hd H H1)(b:ExtE hd H1 H2):ExtE hd H H2:=fun c o h n=>b c o (a c o h n) n
theorem ExtE.new(h:H p=none):ExtE hd H (upd H p o):=fun b u e _=>by
 rw[Ju (Q8 e h)];exact e
section
variable{K:qF}{C:Ctx}{ρ:En}{σ:St}{H H':Hp}{n n':Nat}
theorem MutO.ne(h:MutO o):o≠none:=by
 rcases h with⟨_,rfl⟩|⟨_,rfl⟩|⟨_,_,_,rfl⟩ <;> exact fun z=>by cases z
theorem Stt.at(S:Stt K C ρ σ H n){i:Nat}{c:Cell}(m:c.mine=true)(y:ρ[i]?=some (some c)):∃a:au,σ[i]?=some (some (V.ref a))/\MutO (H a)/\¬C.ext a:=by
 cases c with
 | val d=>cases m
 | own ds =>
  obtain⟨a,G,v,o,_,u⟩:=S.own i ds y;exact⟨a,v,.inl ⟨_,o⟩,u⟩
 | dct x =>
  obtain⟨a,G,v,o,_,u⟩:=S.dct i x y;exact⟨a,v,.inr (.inl ⟨_,o⟩),u⟩
 | rdo x=>cases m
 | dtt x =>
  obtain⟨a,G,I,v,o,_,u⟩:=S.dtt i x y;exact⟨a,v,.inr (.inr ⟨_,_,_,o⟩),u⟩
theorem Stt.lst(S:Stt K C ρ σ H n){a:au}(h:Own C ρ σ a):MutO (H a):=by
 rcases h with h|⟨i,c,m,u,v⟩
 ·exact S.ext a h
 ·obtain⟨b,l,o,_⟩:=S.at m u;rw[v]at l;cases l;exact o
theorem Stt.dom(S:Stt K C ρ σ H n)(h:Own C ρ σ a):H a≠none:=(S.lst h).ne
theorem Stt.free(S:Stt K C ρ σ H n)(h:H a=none):¬Own C ρ σ a:=fun z=>S.dom z h
theorem ExtE.rep(e:ExtE C.hd H H')(hx:∀a,C.hd=some a->C.ext a){v d}(r:Rep K C.hd (Own C ρ σ) H v d):Rep K C.hd (Own C ρ σ) H' v d :=
 r.mono (fun _ _ _ z=>z) fun a o no h=>e a o h fun z=>no (.inl (hx a z))
theorem ExtE.reps(e:ExtE C.hd H H')(hx:∀a,C.hd=some a->C.ext a){v d}(r:Reps K C.hd (Own C ρ σ) H v d):Reps K C.hd (Own C ρ σ) H' v d :=
 r.mono (fun _ _ _ z=>z) fun a o no h=>e a o h fun z=>no (.inl (hx a z))
theorem Stt.on(S:Stt K C ρ σ H n)(e:ExtE C.hd H H')(h:Hn C.hd H' n'):Stt K C ρ σ H' n' where
 len:=S.len
 val:=fun i d hi=>by
  obtain⟨v,y,x⟩:=S.val i d hi;exact⟨v,y,e.rep S.hx x⟩
 own:=fun i ds hi=>by
  obtain⟨a,I,y,x,G,u⟩:=S.own i ds hi;exact⟨a,I,y,e a _ x fun z=>u (S.hx a z),e.reps S.hx G,u⟩
 dct:=fun i J hi=>by
  obtain⟨a,I,y,x,G,u⟩:=S.dct i J hi;exact⟨a,I,y,e a _ x fun z=>u (S.hx a z),Paired.mapP G fun _ _ z=>⟨z.1,e.rep S.hx z.2⟩,u⟩
 rdo:=fun i J hi=>by
  obtain⟨a,I,y,x,G,u,N⟩:=S.rdo i J hi;exact⟨a,I,y,e a _ x N,Paired.mapP G fun _ _ z=>⟨z.1,e.rep S.hx z.2⟩,u,N⟩
 dtt:=fun i J hi=>by
  obtain⟨a,I,L,y,x,G,u⟩:=S.dtt i J hi;exact⟨a,I,L,y,e a _ x fun z=>u (S.hx a z),G.mono (fun _ _ _ z=>z) (fun a o no h=>e a o h fun z=>no (.inl (S.hx a z))),u⟩
 dif:=S.dif
 hnd:=h
 ext:=fun a R=>by
  by_cases z:C.hd=some a
  ·obtain⟨d,m,t,q,_⟩:=h a z;exact .inl ⟨_,q⟩
  ·rcases S.ext a R with⟨xs,q⟩|⟨xs,q⟩|⟨b,xs,L,q⟩
   ·exact .inl ⟨xs,e a _ q z⟩
   ·exact .inr (.inl ⟨xs,e a _ q z⟩)
   ·exact .inr (.inr ⟨b,xs,L,e a _ q z⟩)
 hx:=S.hx
end
abbrev DTE:=En->Nat->(ae->Nat->Prop)->Prop
abbrev DTT:=En->Nat->(Bool->Nat->Prop)->Prop
abbrev DTA:=En->Nat->(List ae->Nat->Prop)->Prop
def DE(X:Cx)(e:aZ)(d:DTE):Prop:=∃u,PE X e u/\∀(C:Ctx) (l:En) (σ:St) (H:Hp) (n:Nat) (Q:VK) (R:qN),Stt X.K C l σ H n->d l n R ->
 (∀t o v H',R t o->ExtE C.hd H H'->Hn C.hd H' o->Rep X.K C.hd (Own C l σ) H' v t->Q v H')->u σ H Q
def RepT(K:qF)(hd:Option au)(O:au->Prop)(H:Hp)(v:V)(t:ae):Prop :=
 Rep K hd O H v t\/(∃a u ds,v=.ref a/\t=.list ds/\H a=some (.lst u)/\Reps K hd O H u ds/\hd≠some a)\/∃a zs x o,v=.ref a/\t=.dict (JV o)/\H a=some (ZDO a zs x)/\Jq K hd O H zs o/\hd≠some a
def DL(X:Cx)(e:aZ)(d:DTE):Prop:=∃u,PE X e u/\∀(C:Ctx) (l:En) (σ:St) (H:Hp) (n:Nat) (Q:VK) (R:qN),Stt X.K C l σ H n->d l n R ->
 (∀t o v H',R t o->ExtE C.hd H H'->Hn C.hd H' o->RepT X.K C.hd (Own C l σ) H' v t->Q v H')->u σ H Q
def DN(X:Cx)(e:aZ)(d:DTA):Prop:=∃x,PE X e x/\∀(C:Ctx) (o:En) (σ:St) (H:Hp) (n:Nat) (Q:VK) (R:List ae->Nat->Prop),Stt X.K C o σ H n->d o n R ->
 (∀ts u p v H',R ts u->ExtE C.hd H H'->Hn C.hd H' u->H p=none->H' p=some (.lst v)->Reps X.K C.hd (fun a=>Own C o σ a\/a=p) H' v ts->Q (.ref p) H')->x σ H Q
def DT(X:Cx)(e:aZ)(d:DTT):Prop:=∃u,PT X e u/\∀(C:Ctx) (o:En) (σ:St) (H:Hp) (n:Nat) (Q:Bool->Hp->Prop) (R:Bool->Nat->Prop),Stt X.K C o σ H n->d o n R ->
 (∀b l H',R b l->ExtE C.hd H H'->Hn C.hd H' l->Q b H')->u σ H Q
def DW(X:Cx)(e:aZ)(d:DTT):Prop:=∃u,PW X e u/\∀(C:Ctx) (o:En) (σ:St) (H:Hp) (n:Nat) (Q:Bool->Hp->Prop) (R:Bool->Nat->Prop),Stt X.K C o σ H n->d o n R ->
 (∀b l H',R b l->ExtE C.hd H H'->Hn C.hd H' l->Q b H')->u σ H Q
def DB(X:Cx)(x:List aZ)(d:DTA):Prop:=∃u,PB X x u/\∀(C:Ctx) (l:En) (σ:St) (H:Hp) (n:Nat) (Q:List V->Hp->Prop) (R:List ae->Nat->Prop),Stt X.K C l σ H n->d l n R ->
 (∀ts o v H',R ts o->ExtE C.hd H H'->Hn C.hd H' o->Reps X.K C.hd (Own C l σ) H' v ts->ts.length=x.length->Q v H')->u σ H Q
section
variable{X:Cx}{e a b c:aZ}{es:List aZ}{d da db dc:DTE}{pos:Pos}
theorem dl(h:DE X e d):DL X e d:=by
 obtain⟨y,p,h⟩:=h;exact⟨y,p,fun C x σ H n Q R S hd G=>h C x σ H n Q R S hd fun t o v H' r e I u=>G t o v H' r e I (.inl u)⟩
def dNew(d:DTA):DTE:=fun u n R=>d u n fun ts o=>R (.list ts) o
theorem Jp{d:DTA}(h:DN X e d):DE X e (dNew d):=by
 obtain⟨y,p,h⟩:=h;refine⟨y,p,fun C x σ H n Q R S hd G=>h C x σ H n Q _ S hd fun ts o p L H' r e J u v I=>G _ o _ H' r e J (.lst v (S.free u) (I.mono (fun _ _ _ z=>.inl z) fun _ _ _ z=>z))⟩
def dVar(i:Nat):DTE:=fun l n R=>match l[i]? with|some (some (Cell.val d))=>R d n|_=>False
def dOwn(i:Nat):DTE:=fun o n R=>match o[i]? with|some (some (Cell.own d))=>R (.list d) n|_=>False
def dC(t:ae):DTE:=fun _ n R=>R t n
theorem Jj(i:Nat)(y:X.N[i]?=some x:=by rfl)(o:Vis X.env.scope x:=by walk_at "V")(hd:(x == ("__debug__":Str))=false:=by rfl)
  (l:(x == ("__classdict__":Str))=false:=by rfl):DE X (.Name x pos) (dVar i):=by
 refine⟨_,UL y o hd l,fun C J σ H n Q R S h G=>?_⟩
 unfold dVar at h;split at h
 ·rename_i d e;obtain⟨v,I,u⟩:=S.val i d e;exact⟨v,I,G d n v H h ExtE.refl S.hnd u⟩
 ·exact h.elim
theorem U6(i:Nat)(y:X.N[i]?=some x:=by rfl)(u:Vis X.env.scope x:=by walk_at "V")(hd:(x == ("__debug__":Str))=false:=by rfl)
  (o:(x == ("__classdict__":Str))=false:=by rfl):DL X (.Name x pos) (dOwn i):=by
 refine⟨_,UL y u hd o,fun C Y σ H n Q R S h J=>?_⟩
 unfold dOwn at h;split at h
 ·rename_i ds e;obtain⟨p,I,U,v,G,L⟩:=S.own i ds e;exact⟨.ref p,U,J _ n _ H h ExtE.refl S.hnd (.inr (.inl ⟨p,I,ds,rfl,rfl,v,G,fun z=>L (S.hx p z)⟩))⟩
 ·exact h.elim
theorem Ji{i j pos}:DE X (.Constant (.int i) j pos) (dC (.int i)):=⟨_,JN,fun _ _ _ H n _ _ S h l=>l _ n _ H h ExtE.refl S.hnd (.int i)⟩
theorem JQ{b j pos}:DE X (.Constant (.bool b) j pos) (dC (.bool b)):=⟨_,zwq,fun _ _ _ H n _ _ S h u=>u _ n _ H h ExtE.refl S.hnd (.bl b)⟩
theorem QW{j pos}:DE X (.Constant .none j pos) (dC .none):=⟨_,zsX,fun _ _ _ H n _ _ S h l=>l _ n _ H h ExtE.refl S.hnd .non⟩
theorem JK{x j pos}:DE X (.Constant (.str x) j pos) (dC (.str x)):=⟨_,zsS,fun _ _ _ H n _ _ S h l=>l _ n _ H h ExtE.refl S.hnd (.str x)⟩
end
section
variable{K:qF}{hd:Option au}{O:au->Prop}{H H':Hp}{v:V}{t:ae}{n:Nat}
theorem Same.ext(h:Same H H'):ExtE hd H H':=fun a o e _=>h a o e
theorem Hn.same(h:Hn hd H n)(s:Same H H'):Hn hd H' n:=fun a e=>by
 obtain⟨d,m,t,q,r⟩:=h a e;exact⟨d,m,t,s _ _ q,r⟩
theorem Reps.same{vs ts}(s:Same H H')(r:Reps K hd O H vs ts):Reps K hd O H' vs ts:=r.mono (fun _ _ _ z=>z) fun a o _ h=>s a o h
theorem ExtE.repT(e:ExtE C.hd H H')(hx:∀a,C.hd=some a->C.ext a)(r:RepT K C.hd (Own C ρ σ) H v t):RepT K C.hd (Own C ρ σ) H' v t:=by
 rcases r with r|⟨a,L,ds,I,x,y,G,u⟩|⟨a,zs,J,N,I,x,y,G,u⟩
 ·exact .inl (e.rep hx r)
 ·exact .inr (.inl ⟨a,L,ds,I,x,e _ _ y u,e.reps hx G,u⟩)
 ·exact .inr (.inr ⟨a,zs,J,N,I,x,e _ _ y u,G.mono (fun _ _ _ z=>z) (fun a o no h=>e a o h fun z=>no (.inl (hx a z))),u⟩)
theorem RepT.lstI{ds}(h:RepT K hd O H v (.list ds)):∃a o,v=.ref a/\H a=some (.lst o)/\Reps K hd O H o ds:=by
 rcases h with h|⟨a,o,G,x,u,y,C,_⟩|⟨a,o,I,G,x,u,y,C,_⟩
 ·obtain⟨a,o,x,u,_,y⟩:=h.lstI;exact⟨a,o,x,u,y⟩
 ·cases u;exact⟨a,o,x,y,C⟩
 ·cases u
theorem RepT.tupI{ds}(h:RepT K hd O H v (.tuple ds)):∃a o,v=.ref a/\SqT K H a o/\Reps K hd O H o ds:=by
 rcases h with h|⟨a,o,I,y,x,G,C,_⟩|⟨a,o,J,I,y,x,G,C,_⟩
 ·exact h.tupI
 ·cases x
 ·cases x
theorem RepT.rep(h:RepT K hd O H v t)(nl:∀ds,t≠.list ds)(nd:∀x,t≠.dict (JV x):=by intro x z;first|cases z|exact dict_noT (cY z)):Rep K hd O H v t:=by
 rcases h with h|⟨a,I,o,y,u,G,C,_⟩|⟨a,I,J,o,y,u,G,C,_⟩
 ·exact h
 ·exact absurd u (nl o)
 ·exact absurd u (nd o)
theorem RepT.intI{i}(h:RepT K hd O H v (.int i)):v=.int i:=(h.rep (by intro _ z;cases z)).intI
theorem RepT.blI{i}(h:RepT K hd O H v (.bool i)):v=.bl i:=(h.rep (by intro _ z;cases z)).blI
theorem RepT.strI{i}(h:RepT K hd O H v (.str i)):v=.str i:=(h.rep (by intro _ z;cases z)).strI
theorem RepT.nonI(h:RepT K hd O H v .none):v=.non:=(h.rep (by intro _ z;cases z)).nonI
theorem Rep.newT{vs ts}(no:¬O p)(h:H p=none)(r:Reps K hd O H vs ts):Rep K hd O (upd H p (.tup vs)) (.ref p) (.tuple ts) :=
 .tup J3 no (r.same (fun b u e=>by rw[Ju (Q8 e h)];exact e))
end
theorem JY(h:H p=none):Same H (upd H p o):=fun b u e=>by
 rw[Ju (Q8 e h)];exact e
abbrev G2:=ae->ae->(ae->Prop)->Prop
def dOp(g:G2)(o db:DTE):DTE:=fun l n R=>o l n fun x u=>db l u fun y v=>g x y fun z=>R z v
def Gp2(X:Cx)(r:R2)(g:G2):Prop:=∀(hd:Option au) (O:au->Prop) (H:Hp) (x y:V) (t u:ae) (Q:VK) (R:ae->Prop),(∀p,O p->H p≠none)->RepT X.K hd O H x t->RepT X.K hd O H y u->g t u R ->
 (∀z v H',R z->Same H H'->Rep X.K hd O H' v z->Q v H')->r x y H Q
section
variable{X:Cx}{a b c:aZ}{da db dc:DTE}{pos:Pos}{r r':R2}{g g':G2}
theorem two{C:Ctx}{l:En}{σ:St}{H:Hp}{n:Nat}{ta Z:TE}(ha:∀(C:Ctx) (l:En) (σ:St) (H:Hp) (n:Nat) (Q:VK) (R:qN),Stt X.K C l σ H n->da l n R ->
  (∀t I v H',R t I->ExtE C.hd H H'->Hn C.hd H' I->RepT X.K C.hd (Own C l σ) H' v t->Q v H')->ta σ H Q)
  (hb:∀(C:Ctx) (l:En) (σ:St) (H:Hp) (n:Nat) (Q:VK) (R:qN),Stt X.K C l σ H n->db l n R ->
  (∀t I v H',R t I->ExtE C.hd H H'->Hn C.hd H' I->RepT X.K C.hd (Own C l σ) H' v t->Q v H')->Z σ H Q)
  {Y:V->V->Hp->Prop} {R2:ae->ae->Nat->Prop} (S:Stt X.K C l σ H n) (h:da l n fun x J=>db l J fun y G=>R2 x y G)
  (hq:∀x y G v w o,R2 x y G->ExtE C.hd H o->Stt X.K C l σ o G->RepT X.K C.hd (Own C l σ) o v x->RepT X.K C.hd (Own C l σ) o w y->Y v w o) :
  ta σ H fun v L=>Z σ L fun w o=>Y v w o:=by
 refine ha C l σ H n _ _ S h fun t J v L r1 U h1 q1=>?_
 have S1:=S.on U h1;refine hb C l σ L J _ _ S1 r1 fun u G w o r2 N h2 q2=>?_
 exact hq t u G v w o r2 (U.trans N) (S1.on N h2) (N.repT S.hx q1) q2
theorem Uc{op:p5}(ho:OpR X (binaryOp op) r)(N:Gp2 X r g)(o:DL X a da)(l:DL X b db):DE X (.BinOp a op b pos) (dOp g da db):=by
 obtain⟨ta,pa,o⟩:=o;obtain⟨tb,Z,l⟩:=l;refine⟨_,JL ho pa Z,fun C Y σ H n Q R S h hq=>?_⟩
 refine two o l S h fun x y n2 v w L U e G q1 q2=>?_
 exact N C.hd (Own C Y σ) L v w x y Q _ (fun p=>G.dom) q1 q2 U fun z u H' rz I J=>hq z n2 u H' rz (e.trans I.ext) (G.hnd.same I) J
theorem Qi{op:vd}(ho:OpR X (compareOp op) r)(U:Gp2 X r g)(G:DL X a da)(l:DL X b db)(hm:behindInMarks op b=false):DE X (.Compare a [op] [b] pos) (dOp g da db):=by
 obtain⟨ta,pa,G⟩:=G;obtain⟨tb,pb,l⟩:=l;refine⟨_,zmx ho pa pb hm,fun C Z σ H n Q R S h hq=>?_⟩
 refine two G l S h fun x y n2 v w N Y e I q1 q2=>?_
 exact U C.hd (Own C Z σ) N v w x y Q _ (fun p=>I.dom) q1 q2 Y fun z u H' rz J L=>hq z n2 u H' rz (e.trans J.ext) (I.hnd.same J) L
def UX(d:DTE):DTT:=fun v n R=>d v n fun t u=>match t with|.bool k=>R k u|_=>False
theorem Jn{op:vd}(ho:OpR X (compareOp op) r)(Y:Gp2 X r g)(G:DL X a da)(l:DL X b db)(hm:behindInMarks op b=false):DT X (.Compare a [op] [b] pos) (UX (dOp g da db)):=by
 obtain⟨ta,pa,G⟩:=G;obtain⟨tb,pb,l⟩:=l;refine⟨_,zi0 ho pa pb hm,fun C ρ σ H n Q R S h hq=>?_⟩
 refine two G l S h fun x y n2 v w U Z e I q1 q2=>?_
 refine Y C.hd (Own C ρ σ) U v w x y _ _ (fun p=>I.dom) q1 q2 Z fun z u H' L J N=>?_
 cases z with
 | bool k =>
  cases N;exact⟨k,rfl,hq k n2 H' L (e.trans J.ext) (I.hnd.same J)⟩
 | _=>exact L.elim
def ZE(g g':G2)(da db dc:DTE):DTE:=fun u n R=>da u n fun x G=>db u G fun y v=>g x y fun z=>match z with
 | .bool true=>dc u v fun w C=>g' y w fun z=>R z C
 | .bool false=>R (.bool false) v
 | _=>False
def gI(C:Int->Int->Prop)(f:Int->Int->Int):G2
 | .int i,.int j,R=>C i j/\R (.int (f i j))
 | _,_,_=>False
def gB(f:Int->Int->Bool):G2
 | .int i,.int j,R=>R (.bool (f i j))
 | _,_,_=>False
theorem gp_I:Gp2 X (rI C fun i j=>.int (f i j)) (gI C f):=by
 intro hd O H x y t u Q R dom v l h o;unfold gI at h;split at h
 ·rename_i i j;exact⟨i,j,v.intI,l.intI,h.1,o _ _ H h.2 (Same.refl H) (.int _)⟩
 ·exact h.elim
def gI0(f:Int->Int->Int):G2
 | .int i,.int j,R=>R (.int (f i j))
 | _,_,_=>False
theorem zrv:Gp2 X (rI0 fun i j=>.int (f i j)) (gI0 f):=by
 intro hd O H x y t u Q R dom v l h o;unfold gI0 at h;split at h
 ·rename_i i j;exact⟨i,j,v.intI,l.intI,o _ _ H h (Same.refl H) (.int _)⟩
 ·exact h.elim
theorem gp_B:Gp2 X (rI0 fun i j=>.bl (f i j)) (gB f):=by
 intro hd O H x y t u Q R dom C o h v;unfold gB at h;split at h
 ·rename_i i j;exact⟨i,j,C.intI,o.intI,v _ _ H h (Same.refl H) (.bl _)⟩
 ·exact h.elim
end
section
variable{X:Cx}{a b c:aZ}{da db dc:DTE}{pos:Pos}
def oSub:=gI0 fun i j=>i - j
def oMod:=gI (fun _ j=>0<j) fun i j=>i % j
def UI:=gI Zo fun i j=>i / j
def oShl:=gI CPow fun i j=>i*2 ^ j.toNat
def oShr:=gI (fun _ j=>0<=j) fun i j=>i / 2 ^ j.toNat
def oXor:=gI0 cU
def oAnd:=gI0 gA
theorem Qz(o:DL X a da)(l:DL X b db):DE X (.BinOp a .Sub b pos) (dOp oSub da db):=Uc zs3 zrv o l
theorem VA(u:DL X a da)(l:DL X b db):DE X (.BinOp a .Mod b pos) (dOp oMod da db):=Uc U9 gp_I u l
theorem znG(x:DL X a da)(u:DL X b db):DE X (.BinOp a .FloorDiv b pos) (dOp UI da db):=Uc V8 gp_I x u
theorem JW(o:DL X a da)(l:DL X b db):DE X (.BinOp a .LShift b pos) (dOp oShl da db):=Uc zs5 gp_I o l
theorem zuI(o:DL X a da)(l:DL X b db):DE X (.BinOp a .RShift b pos) (dOp oShr da db):=Uc zs4 gp_I o l
theorem znF(u:DL X a da)(l:DL X b db):DE X (.BinOp a .BitXor b pos) (dOp oXor da db):=Uc zs2 zrv u l
theorem zuO(o:DL X a da)(l:DL X b db):DE X (.BinOp a .BitAnd b pos) (dOp oAnd da db):=Uc zte zrv o l
end
section
variable{X:Cx}{ad:qO}{σ:St}{H:Hp}{s:aw}{hd:Option au}{O:au->Prop}
theorem RepT.reads(I:Inv X ad σ H s)(h:RepT X.K hd O H v d)(r:RelV v u)(e:d.hasDict=false):∃G,Reads s.heap u d G:=by
 rcases h with h|⟨a,L,ds,rfl,rfl,y,C,_⟩|⟨a,zs,S,U,rfl,rfl,y,C,_⟩
 rotate_left 2
 ·simp[cV]at e
 ·exact h.reads I r e
 ·cases r;obtain⟨its,R,p,_⟩:=I.list (xs:=L) (.inl (.inl y));obtain⟨o,n,N,hc,_,x⟩:=p;obtain⟨G,J⟩:=Reps.reads I C R (by simpa[cV] using e)
  exact⟨_,.list N hc x (by simpa using J)⟩
end
def Okd(t:ae):Prop:=t.canLay0=true/\t.depth<=60
section
variable{X:Cx}{a b c:aZ}{da db dc:DTE}{pos:Pos}{k:Nat}
def rEqD(K:qF)(neg:Bool):R2:=fun x y H Q=>∃hd O t u,RepT K hd O H x t/\RepT K hd O H y u/\Okd t/\Okd u/\Q (.bl (if neg then !t.eqv u else t.eqv u)) H
theorem ztc(S:Room k X.A):OpR X (compareOp .Eq) (rEqD X.K false):=by
 intro ad s σ H x y v u Q I N G h;obtain⟨hd,O,t,w,U,L,o,C,q⟩:=h;obtain⟨Y,J⟩:=U.reads I N (cN _ o.1);obtain⟨bs,R⟩:=L.reads I G (cN _ C.1);refine SeqAt.compareEq_reads J R o.1 C.1 ?_ ⟨.bl _,H,I,rfl,q⟩;have:=S.un;have:=o.2;omega
theorem zs7(Y:Room k X.A):OpR X (compareOp .NotEq) (rEqD X.K true):=by
 intro ad s σ H x y v u Q I S J h;obtain⟨hd,O,t,w,Z,R,C,G,q⟩:=h;obtain⟨as,L⟩:=Z.reads I S (cN _ C.1);obtain⟨bs,U⟩:=R.reads I J (cN _ G.1);refine SeqAt.compareNe_reads L U C.1 G.1 ?_ ⟨.bl _,H,I,rfl,q⟩;have:=Y.un;have:=C.2;omega
def oEq:G2
 | .int i,.int j,R=>R (.bool (decide (i=j)))
 | .str i,.str j,R=>R (.bool (decide (i=j)))
 | .bool i,.bool j,R=>R (.bool (decide (i=j)))
 | t,u,R=>Okd t/\Okd u/\R (.bool (t.eqv u))
def oNe:G2
 | .int i,.int j,R=>R (.bool (!decide (i=j)))
 | .str i,.str j,R=>R (.bool (!decide (i=j)))
 | .bool i,.bool j,R=>R (.bool (!decide (i=j)))
 | t,u,R=>Okd t/\Okd u/\R (.bool (!t.eqv u))
def rEqA(K:qF):R2:=fun x y H Q=>rEq x y H Q\/rEqD K false x y H Q
def rNeA(K:qF):R2:=fun x y H Q=>rNe x y H Q\/rEqD K true x y H Q
theorem J7(l:Room k X.A):OpR X (compareOp .Eq) (rEqA X.K):=OpR.or zwu (ztc l)
theorem Uk(l:Room k X.A):OpR X (compareOp .NotEq) (rNeA X.K):=OpR.or zws (zs7 l)
theorem J6:Gp2 X (rEqA X.K) oEq:=by
 intro hd O H x y t u Q R dom C o h v;unfold oEq at h;split at h
 ·rename_i i j;rw[C.intI,o.intI];refine .inl ⟨rfl,?_⟩;have e:decide (V.int i=V.int j)=decide (i=j):=decide_eq_decide.mpr ⟨fun z=>by cases z;rfl,fun z=>by rw[z]⟩
  rw[e];exact v _ _ H h (Same.refl H) (.bl _)
 ·rename_i i j;rw[C.strI,o.strI];refine .inl ⟨rfl,?_⟩;have e:decide (V.str i=V.str j)=decide (i=j):=decide_eq_decide.mpr ⟨fun z=>by cases z;rfl,fun z=>by rw[z]⟩
  rw[e];exact v _ _ H h (Same.refl H) (.bl _)
 ·rename_i i j;rw[C.blI,o.blI];refine .inl ⟨rfl,?_⟩;have e:decide (V.bl i=V.bl j)=decide (i=j):=decide_eq_decide.mpr ⟨fun z=>by cases z;rfl,fun z=>by rw[z]⟩
  rw[e];exact v _ _ H h (Same.refl H) (.bl _)
 ·exact .inr ⟨hd,O,_,_,C,o,h.1,h.2.1,v _ _ H h.2.2 (Same.refl H) (.bl _)⟩
theorem Ud:Gp2 X (rNeA X.K) oNe:=by
 intro hd O H x y t u Q R dom C o h v;unfold oNe at h;split at h
 ·rename_i i j;rw[C.intI,o.intI];refine .inl ⟨rfl,?_⟩;have e:decide (V.int i=V.int j)=decide (i=j):=decide_eq_decide.mpr ⟨fun z=>by cases z;rfl,fun z=>by rw[z]⟩
  rw[e];exact v _ _ H h (Same.refl H) (.bl _)
 ·rename_i i j;rw[C.strI,o.strI];refine .inl ⟨rfl,?_⟩;have e:decide (V.str i=V.str j)=decide (i=j):=decide_eq_decide.mpr ⟨fun z=>by cases z;rfl,fun z=>by rw[z]⟩
  rw[e];exact v _ _ H h (Same.refl H) (.bl _)
 ·rename_i i j;rw[C.blI,o.blI];refine .inl ⟨rfl,?_⟩;have e:decide (V.bl i=V.bl j)=decide (i=j):=decide_eq_decide.mpr ⟨fun z=>by cases z;rfl,fun z=>by rw[z]⟩
  rw[e];exact v _ _ H h (Same.refl H) (.bl _)
 ·exact .inr ⟨hd,O,_,_,C,o,h.1,h.2.1,v _ _ H h.2.2 (Same.refl H) (.bl _)⟩
def isNone:ae->Bool
 | .none=>true
 | _=>false
def oIs:G2
 | .bool a,.bool b,R=>R (.bool (a == b))
 | t,.none,R=>R (.bool (isNone t))
 | _,_,_=>False
def oIsN:G2
 | .bool a,.bool b,R=>R (.bool (a != b))
 | t,.none,R=>R (.bool (!isNone t))
 | _,_,_=>False
def rIs:R2:=fun x y H Q=>(y=.non/\Q (.bl (decide (x=.non))) H)\/∃a b,x=.bl a/\y=.bl b/\Q (.bl (a == b)) H
def rIsN:R2:=fun x y H Q=>(y=.non/\Q (.bl (!decide (x=.non))) H)\/∃a b,x=.bl a/\y=.bl b/\Q (.bl (a != b)) H
theorem ztb:OpR X (compareOp .Is) rIs:=OpR.or zs_ zta
theorem zmF:OpR X (compareOp .IsNot) rIsN:=OpR.or zqO zmG
theorem RepT.isN{K:qF}{hd:Option au}{O:au->Prop}{H:Hp}{v:V}{t:ae}(h:RepT K hd O H v t):decide (v=.non)=(isNone t):=by
 rcases h with h|⟨a,C,ds,rfl,rfl,u,l,_⟩|⟨a,zs,y,x,rfl,rfl,u,l,_⟩
 ·cases h <;> simp[HAND,SCR,EXC,isNone]
 ·simp[isNone]
 ·simp[isNone]
theorem zur:Gp2 X rIs oIs:=by
 intro hd O H x y t u Q R dom C o h v;unfold oIs at h;split at h
 ·rename_i i j;exact .inr ⟨i,j,C.blI,o.blI,v _ _ H h (Same.refl H) (.bl _)⟩
 ·refine .inl ⟨o.nonI,?_⟩;rw[C.isN];exact v _ _ H h (Same.refl H) (.bl _)
 ·exact h.elim
theorem znm:Gp2 X rIsN oIsN:=by
 intro hd O H x y t u Q R dom C o h v;unfold oIsN at h;split at h
 ·rename_i i j;exact .inr ⟨i,j,C.blI,o.blI,v _ _ H h (Same.refl H) (.bl _)⟩
 ·refine .inl ⟨o.nonI,?_⟩;rw[C.isN];exact v _ _ H h (Same.refl H) (.bl _)
 ·exact h.elim
def rInD(K:qF)(neg:Bool):R2:=fun x y H Q=>∃hd O t ts,RepT K hd O H x t/\(RepT K hd O H y (.tuple ts)\/RepT K hd O H y (.list ts))/\Okd t/\(∀u∈ts,Okd u)/\Q (.bl (if neg then !ts.any (fun u=>u.eqv t) else ts.any (fun u=>u.eqv t))) H
theorem zmI:∀{ts:qD},(∀u∈ts,Okd u)->bU ts=true
 | [],_=>by simp[bU]
 | t::ts,h=>by
  simp only[bU,aY];exact⟨(h t (by simp)).1,zmI fun u l=>h u (by simp[l])⟩
theorem zpX(U:Room k X.A):OpR X (compareOp .In) (rInD X.K false):=by
 intro ad s σ H x y v u Q I R J h;obtain⟨hd,O,t,ts,Y,o,C,S,q⟩:=h;obtain⟨Z,L⟩:=Y.reads I R (cN _ C.1);have cl:=zmI S;have N:X.A.units+1+min (cZ ts) t.depth<cLine:=by
  have:=U.un;have:=C.2;omega
 rcases o with o|o
 ·obtain⟨bs,G⟩:=o.reads I J (cN _ (by simpa[cE] using cl))
  exact SeqAt.in_tuple_reads G L cl C.1 N ⟨.bl _,H,I,rfl,q⟩
 ·obtain⟨bs,G⟩:=o.reads I J (cN _ (by simpa[cE] using cl))
  exact SeqAt.in_list_reads G L cl C.1 N ⟨.bl _,H,I,rfl,q⟩
def oIn:G2
 | t,.tuple ts,R=>Okd t/\(∀u∈ts,Okd u)/\R (.bool (ts.any fun u=>u.eqv t))
 | t,.list ts,R=>Okd t/\(∀u∈ts,Okd u)/\R (.bool (ts.any fun u=>u.eqv t))
 | _,_,_=>False
theorem zus:Gp2 X (rInD X.K false) oIn:=by
 intro hd O H x y t u Q R dom C o h v;unfold oIn at h;split at h
 ·exact⟨hd,O,_,_,C,.inl o,h.1,h.2.1,v _ _ H h.2.2 (Same.refl H) (.bl _)⟩
 ·exact⟨hd,O,_,_,C,.inr o,h.1,h.2.1,v _ _ H h.2.2 (Same.refl H) (.bl _)⟩
 ·exact h.elim
def oLtA:G2
 | .int i,.int j,R=>R (.bool (decide (i<j)))
 | .str i,.str j,R=>R (.bool (decide (i.cps.toList<j.cps.toList)))
 | .tuple xs,.tuple ys,R=>∃ns v,xs=ns.map bN/\ys=v.map bN/\R (.bool (HT.lexLt ns v))
 | _,_,_=>False
def rLtA(K:qF):R2:=fun x y H Q=>(rI0 fun i j=>.bl (decide (i<j))) x y H Q\/(∃i j,x=.str i/\y=.str j/\Q (.bl (decide (i.cps.toList<j.cps.toList))) H)\/rLtT K x y H Q
theorem Qu(l:Room k X.A):OpR X (compareOp .Lt) (rLtA X.K):=OpR.or zs9 (OpR.or zmD (zs8 l.units0))
theorem Wj{K:qF}{hd:Option au}{O:au->Prop}{H:Hp}:∀{ns:List Int}{l:List V},Reps K hd O H l (ns.map bN)->l=ns.map V.int
 | [],_,h=>by cases h;rfl
 | n::ns,_,h=>by
  cases h with
  | cons h r=>rw[h.intI,Wj r];rfl
theorem Qt:Gp2 X (rLtA X.K) oLtA:=by
 intro hd O H x y t u Q R dom v o h C;unfold oLtA at h;split at h
 ·exact .inl ⟨_,_,v.intI,o.intI,C _ _ H h (Same.refl H) (.bl _)⟩
 ·exact .inr (.inl ⟨_,_,v.strI,o.strI,C _ _ H h (Same.refl H) (.bl _)⟩)
 ·obtain⟨ns,G,rfl,rfl,h⟩:=h;obtain⟨p,S,I,s1,L⟩:=v.tupI;obtain⟨q,U,N,s2,J⟩:=o.tupI;rw[Wj L]at s1;rw[Wj J]at s2;exact .inr (.inr ⟨p,q,ns,G,I,N,s1,s2,C _ _ H h (Same.refl H) (.bl _)⟩)
 ·exact h.elim
def oLeA:G2
 | .int i,.int j,R=>R (.bool (decide (i<=j)))
 | .str i,.str j,R=>R (.bool (!decide (j.cps.toList<i.cps.toList)))
 | _,_,_=>False
def rLeA:R2:=fun x y H Q=>(rI0 fun i j=>.bl (decide (i<=j))) x y H Q\/(∃i j,x=.str i/\y=.str j/\Q (.bl (!decide (j.cps.toList<i.cps.toList))) H)
theorem zmE:OpR X (compareOp .LtE) (fun x y H Q=>∃i j,x=.str i/\y=.str j/\Q (.bl (!decide (j.cps.toList<i.cps.toList))) H):=by
 intro ad s σ H x y v u Q I C o h;obtain⟨i,j,rfl,rfl,q⟩:=h;obtain⟨t,rfl⟩:=C;obtain⟨t',rfl⟩:=o;exact PySem.P.le_str ⟨.bl _,H,I,rfl,q⟩
theorem Ui:OpR X (compareOp .LtE) rLeA:=OpR.or zwt zmE
theorem Uh:Gp2 X rLeA oLeA:=by
 intro hd O H x y t u Q R dom C o h v;unfold oLeA at h;split at h
 ·exact .inl ⟨_,_,C.intI,o.intI,v _ _ H h (Same.refl H) (.bl _)⟩
 ·exact .inr ⟨_,_,C.strI,o.strI,v _ _ H h (Same.refl H) (.bl _)⟩
 ·exact h.elim
variable{r r':R2}{g g':G2}
theorem zpy(ho:OpR X (compareOp op) r)(hg:Gp2 X r g)(ho':OpR X (compareOp op') r')(U:Gp2 X r' g')(ha:DL X a da)(Y:DL X b db)(hc:DL X c dc)
  (hm:lastMarks [op,op'] [b,c]=false:=by with_unfolding_all rfl):DE X (.Compare a [op,op'] [b,c] pos) (ZE g g' da db dc):=by
 obtain⟨ta,pa,ha⟩:=ha;obtain⟨tb,pb,Y⟩:=Y;obtain⟨tc,pc,hc⟩:=hc;refine⟨_,zoZ ho ho' pa pb pc hm,fun C ρ σ H n Q R S h hq=>?_⟩
 refine two ha Y S h fun x y n2 v w H2 r2 e N q1 q2=>?_
 refine hg C.hd (Own C ρ σ) H2 v w x y _ _ (fun p=>N.dom) q1 q2 r2 fun z u H' J G L=>?_
 have S3:=N.on G.ext (N.hnd.same G);cases z with
 | bool k =>
  cases L;refine⟨k,rfl,?_⟩;cases k with
  | false=>exact iteF (hq _ n2 _ H' J (e.trans G.ext) S3.hnd (.bl _))
  | true =>
   refine iteT (hc C ρ σ H' n2 _ _ S3 J fun z2 n3 w2 H4 r4 e4 h4 q4=>?_)
   have S4:=S3.on e4 h4;have Z:=e4.repT S.hx ((Same.ext G:ExtE C.hd H2 H').repT S.hx q2);exact U C.hd (Own C ρ σ) H4 w w2 y z2 Q _ (fun p=>S4.dom) Z q4 r4 fun z u H' J I L=>hq z n3 u H' J (((e.trans G.ext).trans e4).trans I.ext) (S4.hnd.same I) L
 | _=>exact J.elim
end
section
variable{X:Cx}{a b c e:aZ}{es rest:List aZ}{d da db dc:DTE}{t u:DTT}{pos p:Pos}{k:Nat}
def truD:ae->(Bool->Prop)->Prop
 | .none,R=>R false
 | .bool b,R=>R b
 | .int i,R=>R (decide (i≠0))
 | .str x,R=>x.length<=16777216/\R (decide (x.length≠0))
 | .list ts,R=>R (!ts.isEmpty)
 | .tuple ts,R=>R (!ts.isEmpty)
 | _,_=>False
def dTru(d:DTE):DTT:=fun o n R=>d o n fun t l=>truD t fun b=>R b l
theorem zpO{K:qF}{hd:Option au}{O:au->Prop}{H:Hp}{v:V}{t:ae}{Q:Bool->Hp->Prop}{R:Bool->Prop}(r:RepT K hd O H v t)(h:truD t R)(y:∀b,R b->Q b H):∃k,TruV K v H k/\Q k H:=by
 cases t with
 | none=>exact⟨false,by rw[r.nonI];rfl,y _ h⟩
 | bool b=>exact⟨b,by rw[r.blI];rfl,y _ h⟩
 | int i=>exact⟨decide (i≠0),by rw[r.intI];show _=(i != 0);by_cases z:i=0 <;> simp[z],y _ h⟩
 | str x =>
  refine⟨decide (x.length≠0),by rw[r.strI];exact⟨h.1,by by_cases z:x.length=0 <;> simp[z]⟩,y _ h.2⟩
 | list ts =>
  obtain⟨p,G,e,I,C⟩:=r.lstI;subst e;refine⟨!ts.isEmpty,.inl ⟨G,.of I,?_⟩,y _ h⟩;cases C <;> rfl
 | tuple ts =>
  obtain⟨p,G,e,I,C⟩:=r.tupI;subst e;refine⟨!ts.isEmpty,.inr (.inl ⟨G,I,?_⟩),y _ h⟩;cases C <;> rfl
 | dict _=>exact h.elim
theorem JU(l:DL X a da)(he:∀whole,isTrue a X.env whole=(do let v <- whole;standAt a.pos;holding [v] (truthy v)):=by intro _;rfl):DT X a (dTru da):=by
 obtain⟨L,pa,l⟩:=l;refine⟨_,zoQ pa he,fun C y σ H n Q R S h I=>?_⟩
 refine l C y σ H n _ _ S h fun t o v H' r x J q=>?_
 exact zpO q r fun b G=>I b o H' G x J
def dAnd(t u:DTT):DTT:=fun o n R=>t o n fun b l=>if b=true then u o l R else R false l
def dOr(t u:DTT):DTT:=fun o n R=>t o n fun b l=>if b=true then R true l else u o l R
def dNot(t:DTT):DTT:=fun o n R=>t o n fun b l=>R (!b) l
theorem JT(h:DW X a t):DT X a t:=by
 obtain⟨l,pa,h⟩:=h;exact⟨_,pa.pt,h⟩
theorem Q6(h:DT X a t):DW X (.BoolOp .And [a] pos) t:=by
 obtain⟨v,pa,h⟩:=h;exact⟨_,zqx pa,h⟩
theorem QB(h:DT X a t):DW X (.BoolOp .Or [a] pos) t:=by
 obtain⟨v,pa,h⟩:=h;exact⟨_,zsG pa,h⟩
theorem QX(h:DT X a t)(h':DW X (.BoolOp .And (b::rest) pos) u):DW X (.BoolOp .And (a::b::rest) pos) (dAnd t u):=by
 obtain⟨ta,pa,h⟩:=h;obtain⟨tb,U,h'⟩:=h';refine⟨_,zsH pa U,fun C y σ H n Q R S hd G=>?_⟩
 refine h C y σ H n _ _ S hd fun b x I r v J=>?_
 cases b with
 | true=>exact iteT (h' C y σ I x Q R (S.on v J) (by simpa using r) fun b Y L r Z N=>G b Y L r (v.trans Z) N)
 | false=>exact iteF (G _ x I (by simpa using r) v J)
theorem Qf(h:DT X a t)(h':DW X (.BoolOp .Or (b::rest) pos) u):DW X (.BoolOp .Or (a::b::rest) pos) (dOr t u):=by
 obtain⟨ta,pa,h⟩:=h;obtain⟨tb,U,h'⟩:=h';refine⟨_,zwl pa U,fun C y σ H n Q R S hd G=>?_⟩
 refine h C y σ H n _ _ S hd fun b x I r v J=>?_
 cases b with
 | false=>exact iteF (h' C y σ I x Q R (S.on v J) (by simpa using r) fun b Y L r Z N=>G b Y L r (v.trans Z) N)
 | true=>exact iteT (G _ x I (by simpa using r) v J)
theorem Qc(h:DT X a t):DT X (.UnaryOp .Not a pos) (dNot t):=by
 obtain⟨L,pa,h⟩:=h;refine⟨_,zsJ pa,fun C x σ H n Q R S hd G=>?_⟩
 exact h C x σ H n _ _ S hd fun b l I r v J=>G _ l I r v J
def bolD:ae->(Bool->Prop)->Prop
 | .bool b,R=>R b
 | _,_=>False
def zrO(da db:DTE):DTE:=fun x n R=>da x n fun t v=>bolD t fun b=>if b=true then db x v R else R (.bool false) v
def dOrV(da db:DTE):DTE:=fun x n R=>da x n fun t v=>bolD t fun b=>if b=true then R (.bool true) v else db x v R
def zrN(da:DTE):DTE:=fun x n R=>da x n fun t v=>bolD t fun b=>R (.bool (!b)) v
theorem Uf{op}(h:DE X a d):DE X (.BoolOp op [a] pos) d:=by
 obtain⟨v,pa,h⟩:=h;exact⟨_,zsV pa,h⟩
theorem UM(h:DE X a da)(h':DE X (.BoolOp .And (b::rest) pos) db):DE X (.BoolOp .And (a::b::rest) pos) (zrO da db):=by
 obtain⟨ta,pa,h⟩:=h;obtain⟨tb,Y,h'⟩:=h';refine⟨_,zs0 pa Y,fun C G σ H n Q R S hd I=>?_⟩
 refine h C G σ H n _ _ S hd fun t y v J r x L q1=>?_
 cases t with
 | bool b =>
  cases q1;refine⟨b,rfl,?_⟩;cases b with
  | true=>exact iteT (h' C G σ J y Q R (S.on x L) (by simpa[bolD] using r) fun t Z v N r e2 U q2=>I t Z v N r (x.trans e2) U q2)
  | false=>exact iteF (I _ y _ J (by simpa[bolD] using r) x L (.bl _))
 | _=>exact r.elim
theorem zuK(h:DE X a da)(h':DE X (.BoolOp .Or (b::rest) pos) db):DE X (.BoolOp .Or (a::b::rest) pos) (dOrV da db):=by
 obtain⟨ta,pa,h⟩:=h;obtain⟨tb,Y,h'⟩:=h';refine⟨_,zwo pa Y,fun C G σ H n Q R S hd I=>?_⟩
 refine h C G σ H n _ _ S hd fun t y v J r x L q1=>?_
 cases t with
 | bool b =>
  cases q1;refine⟨b,rfl,?_⟩;cases b with
  | false=>exact iteF (h' C G σ J y Q R (S.on x L) (by simpa[bolD] using r) fun t Z v N r e2 U q2=>I t Z v N r (x.trans e2) U q2)
  | true=>exact iteT (I _ y _ J (by simpa[bolD] using r) x L (.bl _))
 | _=>exact r.elim
theorem zrI(h:DE X a da):DE X (.UnaryOp .Not a pos) (zrN da):=by
 obtain⟨ta,pa,h⟩:=h;refine⟨_,zsW pa,fun C I σ H n Q R S hd J=>?_⟩
 refine h C I σ H n _ _ S hd fun t x v L r G Z Y=>?_
 cases t with
 | bool b =>
  cases Y;exact⟨b,rfl,J _ x _ L r G Z (.bl _)⟩
 | _=>exact r.elim
def dIfE(t:DTT)(da db:DTE):DTE:=fun l n R=>t l n fun b o=>if b=true then da l o R else db l o R
theorem V3(hc:DT X c t)(h:DE X a da)(h':DE X b db):DE X (.IfExp c a b pos) (dIfE t da db):=by
 obtain⟨tc,pc,hc⟩:=hc;obtain⟨ta,pa,h⟩:=h;obtain⟨tb,pb,h'⟩:=h';refine⟨_,zoY pc pa pb,fun C G σ H n Q R S hd Y=>?_⟩
 refine hc C G σ H n _ _ S hd fun b U Z r l h1=>?_
 cases b with
 | true=>exact iteT (h C G σ Z U Q R (S.on l h1) (by simpa using r) fun t J v o r N y L=>Y t J v o r (l.trans N) y L)
 | false=>exact iteF (h' C G σ Z U Q R (S.on l h1) (by simpa using r) fun t J v o r N y L=>Y t J v o r (l.trans N) y L)
def dNil:DTA:=fun _ n R=>R [] n
def Qo(d:DTE)(ds:DTA):DTA:=fun l n R=>d l n fun t v=>ds l v fun ts o=>R (t::ts) o
theorem Ja:DB X [] dNil:=⟨_,Ul,fun C v σ H n Q R S h o=>o [] n [] H h ExtE.refl S.hnd .nil rfl⟩
theorem znH(h:DE X e d)(l:DB X es ds)(Z:starEach (e::es) X.env=(false,eval e X.env)::starEach es X.env):DB X (e::es) (Qo d ds):=by
 obtain⟨ta,pa,h⟩:=h;obtain⟨tb,U,l⟩:=l;refine⟨_,QF pa U Z,fun C y σ H n Q R S hd Y=>?_⟩
 refine h C y σ H n _ _ S hd fun t I v H1 r x h1 q1=>?_
 refine l C y σ H1 I _ _ (S.on x h1) r fun ts n2 vs J N G L q2 l2=>?_
 exact Y _ n2 _ J N (x.trans G) L (.cons (G.rep S.hx q1) q2) (by simp[l2])
def Zp(K:qF)(hd:Option au)(O:au->Prop)(H:Hp):List V->List ae->Prop:=cw (RepT K hd O H)
def DBL(X:Cx)(es:List aZ)(d:DTA):Prop:=∃v,PB X es v/\∀(C:Ctx) (l:En) (σ:St) (H:Hp) (n:Nat) (Q:List V->Hp->Prop) (R:List ae->Nat->Prop),Stt X.K C l σ H n->d l n R ->
 (∀ts o x H',R ts o->ExtE C.hd H H'->Hn C.hd H' o->Zp X.K C.hd (Own C l σ) H' x ts->ts.length=es.length->Q x H')->v σ H Q
theorem Jo:DBL X [] dNil:=⟨_,Ul,fun C v σ H n Q R S h o=>o [] n [] H h ExtE.refl S.hnd .nil rfl⟩
theorem Jm(h:DL X e d)(l:DBL X es ds)(Z:starEach (e::es) X.env=(false,eval e X.env)::starEach es X.env):DBL X (e::es) (Qo d ds):=by
 obtain⟨ta,pa,h⟩:=h;obtain⟨tb,U,l⟩:=l;refine⟨_,QF pa U Z,fun C y σ H n Q R S hd Y=>?_⟩
 refine h C y σ H n _ _ S hd fun t I v H1 r x h1 q1=>?_
 refine l C y σ H1 I _ _ (S.on x h1) r fun ts n2 vs J N G L q2 l2=>?_
 exact Y _ n2 _ J N (x.trans G) L (.cons (G.repT S.hx q1) q2) (by simp[l2])
def dTup(ds:DTA):DTE:=fun v n R=>ds v n fun ts o=>R (.tuple ts) o
theorem Jk(h:DB X es ds)(U:es.length<=sizeLine:=by decide):DE X (.Tuple es x1 pos) (dTup ds):=by
 obtain⟨ta,pa,h⟩:=h;refine⟨_,zqH pa,fun C J σ H n Q R S hd L=>?_⟩
 refine h C J σ H n _ _ S hd fun ts I Y Z r v y x G=>⟨by rw[x.length,G];exact U,fun p o=>?_⟩
 have N:=S.on v y;exact L _ I _ _ r (v.trans (ExtE.new o)) (y.same (JY o)) (.newT (N.free o) o x)
theorem JH(h:DB X es ds)(hl:es.length<=sizeLine:=by decide):DN X (.List es pos) ds:=by
 obtain⟨ta,pa,h⟩:=h;refine⟨_,zmv pa,fun C Y σ H n Q R S hd hq=>?_⟩
 refine h C Y σ H n _ _ S hd fun ts U Z H1 r G I J N=>⟨by rw[J.length,N];exact hl,fun p l=>?_⟩
 have S1:=S.on G I;have x:H p=none:=by
  cases z:H p with
  | none=>rfl
  | some o =>
   by_cases y:C.hd=some p
   ·obtain⟨d,m,t,q,_⟩:=I p y;rw[l]at q;cases q
   ·rw[G p o z y]at l;cases l
 refine hq ts U p Z _ r (G.trans (ExtE.new l)) (I.same (JY l)) x J3 ?_;refine J.mono (fun b o v z=>z.elim id fun z=>?_) fun b o _ v=>JY l b o v
 subst z;rw[l]at v;cases v
end
section
variable{X:Cx}{a b c e:aZ}{es rest:List aZ}{d da db dc:DTE}{ds:DTA}{pos p:Pos}{k:Nat}{x:Str}
abbrev GC:=List ae->(ae->Prop)->Prop
def ZD(g:GC)(ds:DTA):DTE:=fun o n R=>ds o n fun ts l=>g ts fun z=>R z l
def GpC(X:Cx)(r:List V->Hp->VK->Prop)(g:GC):Prop:=∀(hd:Option au) (O:au->Prop) (H:Hp) (xs:List V) (ts:qD) (Q:VK) (R:ae->Prop),(∀p,O p->H p≠none)->Zp X.K hd O H xs ts->g ts R ->
 (∀z v H',R z->Same H H'->Rep X.K hd O H' v z->Q v H')->r xs H Q
theorem JA{id:String}{r:List V->Hp->VK->Prop}{g:GC}(hc:J1 X (.builtin id) r)(v:GpC X r g)(hm:X.mg x=none)(U:bootBuiltins x=some (.builtin id))(h:DBL X (e::es) ds)(hg:Gl X x:=by rfl)(Z:x ≠ "__name__":=by decide) (o:(x == ("__debug__":Str))=false:=by rfl) :
  DE X (.Call (.Name x p) (e::es) [] pos) (ZD g ds):=by
 obtain⟨ta,pa,h⟩:=h;refine⟨_,Zu hc hm U pa hg Z o,fun C G σ H n Q R S hd hq=>?_⟩
 refine h C G σ H n _ _ S hd fun ts Y vs H1 r1 y J q1 _=>?_
 have S1:=S.on y J;exact v C.hd (Own C G σ) H1 vs ts Q _ (fun p=>S1.dom) q1 r1 fun z u H' rz I L=>hq z Y u H' rz (y.trans I.ext) (J.same I) L
theorem Qp(hc:J1 X (.type T) r)(v:GpC X r g)(hm:X.mg x=none)(Y:bootBuiltins x=some (.type T))(h:DBL X (e::es) ds)(hg:Gl X x:=by rfl)(hn:x ≠ "__name__":=by decide) (o:(x == ("__debug__":Str))=false:=by rfl) :
  DE X (.Call (.Name x p) (e::es) [] pos) (ZD g ds):=by
 obtain⟨ta,pa,h⟩:=h;refine⟨_,zqK hc hm Y pa hg hn o,fun C I σ H n Q R S hd hq=>?_⟩
 refine h C I σ H n _ _ S hd fun ts Z vs H1 r1 G L q1 _=>?_
 have S1:=S.on G L;exact v C.hd (Own C I σ) H1 vs ts Q _ (fun p=>S1.dom) q1 r1 fun z u H' rz J U=>hq z Z u H' rz (G.trans J.ext) (L.same J) U
theorem QK{K:qF}{hd:Option au}{O:au->Prop}{H:Hp}{xs:List V}{t:ae}(h:Zp K hd O H xs [t]):∃v,xs=[v]/\RepT K hd O H v t:=by
 cases h with
 | cons h r=>cases r;exact⟨_,rfl,h⟩
theorem zmf{K:qF}{hd:Option au}{O:au->Prop}{H:Hp}{xs:List V}{t u:ae}(h:Zp K hd O H xs [t,u]):∃v w,xs=[v,w]/\RepT K hd O H v t/\RepT K hd O H w u:=by
 cases h with
 | cons h r=>cases r with|cons l r=>cases r;exact⟨_,_,rfl,h,l⟩
def bLen:GC:=fun l R=>(∃ts,l=[.list ts]/\R (.int ts.length))\/(∃ts,l=[.tuple ts]/\R (.int ts.length))\/(∃x:Str,l=[.str x]/\x.length<=16777216/\R (.int x.length))\/∃ts,l=[.dict [(.none,.list ts)]]/\R (.int ts.length)
def rLen(K:qF):List V->Hp->VK->Prop:=fun xs H Q=>∃x n,xs=[x]/\LenV K x H n/\Q (.int n) H
theorem QN:GpC X (rLen X.K) bLen:=by
 intro hd O H xs ts Q R dom rs h y;rcases h with⟨ts,rfl,h⟩|⟨ts,rfl,h⟩|⟨x,rfl,h⟩|⟨ts,rfl,h⟩
 ·obtain⟨v,rfl,r⟩:=QK rs;obtain⟨p,G,rfl,u,C⟩:=r.lstI;exact⟨_,_,rfl,.inl ⟨G,.of u,rfl⟩,by rw[C.length];exact y _ _ H h (Same.refl H) (.int _)⟩
 ·obtain⟨v,rfl,r⟩:=QK rs;obtain⟨p,G,rfl,u,C⟩:=r.tupI;exact⟨_,_,rfl,.inr ⟨G,u,rfl⟩,by rw[C.length];exact y _ _ H h (Same.refl H) (.int _)⟩
 ·obtain⟨v,rfl,r⟩:=QK rs;rw[r.strI];exact⟨_,_,rfl,⟨h.1,rfl⟩,y _ _ H h.2 (Same.refl H) (.int _)⟩
 ·obtain⟨v,rfl,r⟩:=QK rs;have r:=r.rep (by intro _ z;cases z)
  generalize e:(pF [(eK,vB ts)])=t at r;cases r with
  | scr u o =>
   simp only[SCR,oB,eU,td,oC,true_and,and_true]at e;subst e;exact⟨_,_,rfl,.inl ⟨_,.inl u,rfl⟩,by simpa using y _ _ H h (Same.refl H) (.int _)⟩
  | scrS u =>
   simp only[SCR,oB,eU,td,oC,true_and,and_true]at e;subst e;exact⟨_,_,rfl,.inl ⟨_,u H,rfl⟩,by simpa using y _ _ H h (Same.refl H) (.int _)⟩
  | hand _=>simp[HAND]at e
  | exc _ _=>simp[EXC]at e
  | dct _ _=>cases e
  | dcK _ _ _ I=>cases e;exact(dict_noK I).elim
  | dcT _ _ _ I=>cases e;exact(dict_noT I).elim
  | _=>cases e
def bMin:GC
 | [.int i,.int j],R=>R (.int (if j<i then j else i))
 | _,_=>False
def bMax:GC
 | [.int i,.int j],R=>R (.int (if j > i then j else i))
 | _,_=>False
theorem ZH:GpC X (fun xs H Q=>∃i j,xs=[.int i,.int j]/\Q (.int (if j<i then j else i)) H) bMin:=by
 intro hd O H xs ts Q R dom rs h u;unfold bMin at h;split at h
 ·obtain⟨v,w,rfl,l,o⟩:=zmf rs;rw[l.intI,o.intI];exact⟨_,_,rfl,u _ _ H h (Same.refl H) (.int _)⟩
 ·exact h.elim
theorem YM:GpC X (fun xs H Q=>∃i j,xs=[.int i,.int j]/\Q (.int (if j > i then j else i)) H) bMax:=by
 intro hd O H xs ts Q R dom rs h u;unfold bMax at h;split at h
 ·obtain⟨v,w,rfl,l,o⟩:=zmf rs;rw[l.intI,o.intI];exact⟨_,_,rfl,u _ _ H h (Same.refl H) (.int _)⟩
 ·exact h.elim
def bInt:GC
 | [.int i],R=>R (.int i)
 | [.bool k],R=>R (.int (if k then 1 else 0))
 | _,_=>False
theorem VH:GpC X (fun xs H Q=>(∃i,xs=[.int i]/\Q (.int i) H)\/∃k,xs=[.bl k]/\Q (.int (if k then 1 else 0)) H) bInt:=by
 intro hd O H xs ts Q R dom rs h u;unfold bInt at h;split at h
 ·obtain⟨v,rfl,o⟩:=QK rs;rw[o.intI];exact .inl ⟨_,rfl,u _ _ H h (Same.refl H) (.int _)⟩
 ·obtain⟨v,rfl,o⟩:=QK rs;rw[o.blI];exact .inr ⟨_,rfl,u _ _ H h (Same.refl H) (.int _)⟩
 ·exact h.elim
def bAll:GC
 | [.list ts],R=>∃bs:List Bool,ts=bs.map dO/\R (.bool (bs.all id))
 | _,_=>False
def bAny:GC
 | [.list ts],R=>∃bs:List Bool,ts=bs.map dO/\R (.bool (bs.any id))
 | _,_=>False
theorem zd_{K:qF}{hd:Option au}{O:au->Prop}{H:Hp}:∀{ns:List Bool}{l:List V},Reps K hd O H l (ns.map dO)->l=ns.map V.bl
 | [],_,h=>by cases h;rfl
 | n::ns,_,h=>by
  cases h with
  | cons h r=>rw[h.blI,zd_ r];rfl
theorem YL:GpC X (fun xs H Q=>∃(a:au) (bs:List Bool),xs=[.ref a]/\SqL X.K H a (bs.map V.bl)/\Q (.bl (bs.all id)) H) bAll:=by
 intro hd O H xs ts Q R dom rs h C;unfold bAll at h;split at h
 ·obtain⟨bs,rfl,h⟩:=h;obtain⟨v,rfl,G⟩:=QK rs;obtain⟨p,I,rfl,u,y⟩:=G.lstI;rw[zd_ y]at u;exact⟨p,bs,rfl,.of u,C _ _ H h (Same.refl H) (.bl _)⟩
 ·exact h.elim
theorem zut:GpC X (fun xs H Q=>∃(a:au) (bs:List Bool),xs=[.ref a]/\SqL X.K H a (bs.map V.bl)/\Q (.bl (bs.any id)) H) bAny:=by
 intro hd O H xs ts Q R dom rs h C;unfold bAny at h;split at h
 ·obtain⟨bs,rfl,h⟩:=h;obtain⟨v,rfl,G⟩:=QK rs;obtain⟨p,I,rfl,u,y⟩:=G.lstI;rw[zd_ y]at u;exact⟨p,bs,rfl,.of u,C _ _ H h (Same.refl H) (.bl _)⟩
 ·exact h.elim
def ZJ:GC
 | [.list ts],R=>R (.tuple ts)
 | [.tuple ts],R=>R (.tuple ts)
 | _,_=>False
theorem Q1:GpC X (fun xs H Q=>∃p ys,xs=[.ref p]/\((SqL X.K H p ys/\∀l,H l=none->Q (.ref l) (upd H l (.tup ys)))\/(SqT X.K H p ys/\Q (.ref p) H))) ZJ:=by
 intro hd O H xs ts Q R dom rs h L;unfold ZJ at h;split at h
 ·obtain⟨v,rfl,y⟩:=QK rs;obtain⟨p,C,rfl,G,J⟩:=y.lstI;refine⟨p,C,rfl,.inl ⟨.of G,fun l I=>?_⟩⟩
  exact L _ _ _ h (JY I) (.newT (fun z=>dom l z I) I J)
 ·obtain⟨v,rfl,y⟩:=QK rs;obtain⟨p,C,rfl,G,J⟩:=y.tupI;exact⟨p,C,rfl,.inr ⟨G,L _ _ H h (Same.refl H) (y.rep (by intro _ z;cases z))⟩⟩
 ·exact h.elim
def J4:ae->(List ae->Prop)->Prop
 | .list ts,R=>R ts
 | .tuple ts,R=>R ts
 | _,_=>False
def zjy(d:DTE):DTA:=fun o n R=>d o n fun t l=>J4 t fun ts=>R ts l
theorem znz(hm:X.mg "list" = none) (h:DL X e d) (hs:starEach [e] X.env=[(false,eval e X.env)]) (hg:Gl X "list":=by rfl):DN X (.Call (.Name "list" p) [e] [] pos) (zjy d):=by
 obtain⟨ta,pa,h⟩:=h;refine⟨_,zqK ziG hm (by decide +kernel) (QF pa Ul hs) hg,fun C ρ σ H n Q R S hd hq=>?_⟩
 refine h C ρ σ H n _ _ S hd fun t n1 v H1 Z Y h1 q1=>?_
 have S1:=S.on Y h1;have fin:∀p u ts,Reps X.K C.hd (Own C ρ σ) H1 u ts->R ts n1->H1 p=none->Q (.ref p) (upd H1 p (.lst u)):=fun p u ts rp rr I=>by
  have L:H p=none:=by
   cases z:H p with
   | none=>rfl
   | some o =>
    by_cases y:C.hd=some p
    ·obtain⟨d,m,t,q,_⟩:=h1 p y;rw[I]at q;cases q
    ·rw[Y p o z y]at I;cases I
  refine hq ts n1 p u _ rr (Y.trans (ExtE.new I)) (h1.same (JY I)) L J3 ?_;refine rp.mono (fun b o J z=>z.elim id fun z=>?_) fun b o _ J=>JY I b o J
  subst z;rw[I]at J;cases J
 cases t with
 | list ts =>
  obtain⟨p,u,rfl,G,U⟩:=q1.lstI;exact⟨p,u,rfl,.inl (.of G),fun l hl=>fin l u ts U Z hl⟩
 | tuple ts =>
  obtain⟨p,u,rfl,G,U⟩:=q1.tupI;exact⟨p,u,rfl,.inr G,fun l hl=>fin l u ts U Z hl⟩
 | _=>exact Z.elim
def tyN:ae->Option String
 | .none=>some "NoneType"
 | .bool _=>some "bool"
 | .int _=>some "int"
 | .str _=>some "str"
 | .list _=>some "list"
 | .tuple _=>some "tuple"
 | .dict []=>some "dict"
 | .dict _=>none
def rIsi(K:qF):List V->Hp->VK->Prop:=fun xs H Q=>∃x hd O t T y b,xs=[x,.ty T]/\RepT K hd O H x t/\tyN t=some y/\kitB y T=some b/\Q (.bl b) H
theorem znY:J1 X (.builtin "isinstance") (rIsi X.K):=by
 intro ad s σ H xs us Q I r h;obtain⟨x,hd,O,t,T,y,b,rfl,G,ty,e,q⟩:=h;cases r with
 | cons C Z =>
  cases Z with
  | cons S Y =>
   cases Y;cases(show _=bQ T from S)
   have fin:∀R,tyN t=some R->R=y:=fun R h=>ba (h.symm.trans ty)
   have go:Ty H x y->wpAny (model X.prog X.w) X.A (call (.builtin "isinstance") [_,bQ T]) (EP X ad σ Q) X.xe s:=fun ty=>zne I C ty.of ((YO X.K y T).trans e) fun tk=>⟨.bl b,H,I.tok tk,rfl,q⟩
   rcases G with G|⟨a,vs,ds,rfl,rfl,L,h4,_⟩|⟨a,zs,J,N,rfl,rfl,L,h4,_⟩
   ·cases G with
    | non=>cases ty;exact go .non
    | bl b=>cases ty;exact go (.bl b)
    | int i=>cases ty;exact go (.int i)
    | str i=>cases ty;exact go (.str i)
    | tup h o r=>cases ty;exact go (.tup h)
    | lst h o r=>cases ty;exact go (.lst h)
    | @dct a J h o =>
      cases ty;cases(show _=bP a from C)
      obtain⟨⟨_,_,_,v,es,g1,g2,_⟩,_⟩:=I.hok a _ h;exact bV fB I.kIn ⟨v,g1,g2.1⟩ ((YO X.K "dict" T).trans e) (fun z=>nomatch z) fun tk=>⟨.bl b,H,I.tok tk,rfl,q⟩
    | @dcK a kvs J N ps h o r e' =>
     cases ps with
     | nil =>
      cases ty;cases(show _=bP a from C)
      obtain⟨⟨_,_,_,v,es,g1,g2,_⟩,_⟩:=I.hok a _ h;exact bV fB I.kIn ⟨v,g1,g2.1⟩ ((YO X.K "dict" T).trans e) (fun z=>nomatch z) fun tk=>⟨.bl b,H,I.tok tk,rfl,q⟩
     | cons _ _=>simp[tyN]at ty
    | @dcT a zs J N ps h o r e' =>
     cases ps with
     | nil =>
      cases ty;cases(show _=bP a from C)
      obtain⟨⟨_,_,_,v,es,g1,g2,_⟩,_⟩:=I.hok a _ h;exact bV fB I.kIn ⟨v,g1,g2.1⟩ ((YO X.K "dict" T).trans e) (fun z=>nomatch z) fun tk=>⟨.bl b,H,I.tok tk,rfl,q⟩
     | cons _ _=>simp[tyN]at ty
    | hand h=>simp[HAND,tyN]at ty
    | scr h o=>simp[SCR,tyN]at ty
    | scrS h=>simp[SCR,tyN]at ty
    | exc h o=>simp[EXC,tyN]at ty
    | @tupS a vs ds h r =>
     cases ty;cases(show _=bP a from C)
     obtain⟨o,its,n,U,hc,_⟩:=h;exact bV nS I.kIn ⟨o,I.kIn a o U,hc⟩ ((YO X.K "tuple" T).trans e) (fun z=>nomatch z) fun tk=>⟨.bl b,H,I.tok tk,rfl,q⟩
   ·cases ty;exact go (.lst L)
   ·cases N with
    | nil =>
     cases ty;cases(show _=bP a from C)
     obtain⟨⟨_,_,_,v,es,g1,g2,_⟩,_⟩:=I.hok a _ L;exact bV fB I.kIn ⟨v,g1,g2.1⟩ ((YO X.K "dict" T).trans e) (fun z=>nomatch z) fun tk=>⟨.bl b,H,I.tok tk,rfl,q⟩
    | cons _ _=>simp[tyN,JV]at ty
end
section
variable{X:Cx}{a b c e:aZ}{es rest:List aZ}{d da db dc:DTE}{ds:DTA}{pos p:Pos}{k:Nat}{x:Str}
theorem Reps.atI{K:qF}{hd:Option au}{O:au->Prop}{H:Hp}{vs ts}{i:Int}{t}(r:Reps K hd O H vs ts)(h:L2.atI ts i=some t):∃v,L2.atI vs i=some v/\Rep K hd O H v t:=by
 unfold L2.atI at h ⊢;rw[r.length];cases e:ixN ts.length i with
 | none=>rw[e]at h;cases h
 | some j =>
  rw[e]at h;have h:ts[j]?=some t:=h;exact r.get h
def oIx:G2
 | .list ts,.int i,R=>match atI ts i with|some t=>R t|none=>False
 | .tuple ts,.int i,R=>match atI ts i with|some t=>R t|none=>False
 | .str x,.int i,R=>x.length<=16777216/\match atI x.cps.toList i with|some c=>R (.str ⟨#[c]⟩)|none=>False
 | _,_,_=>False
theorem zw_:Gp2 X (rIx X.K) oIx:=by
 intro hd O H x y t u Q R dom J C h N;unfold oIx at h;split at h
 ·rename_i ts i;obtain⟨p,L,rfl,U,I⟩:=J.lstI;split at h
  ·rename_i t G;obtain⟨v,ev,S⟩:=I.atI G;exact .inl ⟨p,L,i,v,rfl,C.intI,.of U,ev,N _ _ H h (Same.refl H) S⟩
  ·exact h.elim
 ·rename_i ts i;obtain⟨p,L,rfl,U,I⟩:=J.tupI;split at h
  ·rename_i t G;obtain⟨v,ev,S⟩:=I.atI G;exact .inr (.inl ⟨p,L,i,v,rfl,C.intI,U,ev,N _ _ H h (Same.refl H) S⟩)
  ·exact h.elim
 ·rename_i z i;obtain⟨h0,h⟩:=h;split at h
  ·rename_i c Y;exact .inr (.inr ⟨z,i,c,J.strI,C.intI,h0,Y,N _ _ H h (Same.refl H) (.str _)⟩)
  ·exact h.elim
 ·exact h.elim
theorem Je(o:DL X a da)(l:DL X b db)(hs:zob b:=by intro _ _;rfl):DE X (.Subscript a b pos) (dOp oIx da db):=by
 obtain⟨ta,pa,o⟩:=o;obtain⟨tb,Y,l⟩:=l;refine⟨_,UJ ztW pa Y hs,fun C U σ H n Q R S h Z=>?_⟩
 refine two o l S h fun x y n2 v w L N e G q1 q2=>?_
 exact zw_ C.hd (Own C U σ) L v w x y Q _ (fun p=>G.dom) q1 q2 N fun z u H' rz I J=>Z z n2 u H' rz (e.trans I.ext) (G.hnd.same I) J
def dNeg(d:DTE):DTE:=fun o n R=>d o n fun t l=>match t with|.int i=>R (.int (-i)) l|_=>False
theorem U5(h:DE X a da):DE X (.UnaryOp .USub a pos) (dNeg da):=by
 obtain⟨Y,pa,h⟩:=h;refine⟨_,zwm zsb pa,fun C G σ H n Q R S hd I=>?_⟩
 refine h C G σ H n _ _ S hd fun t l v J r o N L=>?_
 cases t with
 | int i=>rw[L.intI];exact⟨i,rfl,I _ l _ J r o N (.int _)⟩
 | _=>exact r.elim
def zsD(K:qF):R2:=fun x y H Q=>∃a b xs ys,x=.ref a/\y=.ref b/\SqT K H a xs/\SqT K H b ys/\xs.length+ys.length<=sizeLine /\
 (xs=[]->Q (.ref b) H)/\(ys=[]->Q (.ref a) H)/\∀p,H p=none->Q (.ref p) (upd H p (.tup (xs++ys)))
theorem zqS:OpR X (binaryOp .Add) (zsD X.K):=by
 intro ad s σ H x y v u Q I N L h;obtain⟨a,b,xs,ys,rfl,rfl,U,R,hz,q0,q1,q2⟩:=h
 by_cases hx:xs=[]
 ·cases N;cases L;obtain⟨its,r1,p1,_⟩:=I.tuple U;obtain⟨l,r2,p2,_⟩:=I.tuple R;have Z:its=[]:=r1.nil_iff.mpr hx;obtain⟨⟨cls,dd,data,sl⟩,S,hc,n,hd⟩:=id p1;obtain⟨⟨Y,J,data2,G⟩,C,o,n2,hd2⟩:=id p2;simp only at hc hd o hd2;subst hc hd o hd2;exact ot ⟨_,S,rfl⟩ ⟨_,C,rfl⟩ lE nI ic hY (gV _ _)
   (tuple_addW0 a b its.toArray l.toArray n n2 dd J sl G (by simp[Z])) ⟨S,C,⟨.ref b,H,I,rfl,q0 hx⟩⟩
 ·exact zqR ad s σ H _ _ v u Q I N L ⟨a,b,xs,ys,rfl,rfl,U,R,hx,hz,q1,fun _=>q2⟩
def oAdd:G2
 | .int i,.int j,R=>R (.int (i+j))
 | .str i,.str j,R=>i.length+j.length<=16777216/\R (.str (i++j))
 | .tuple xs,.tuple ys,R=>xs.length+ys.length<=16777216/\R (.tuple (xs++ys))
 | _,_,_=>False
def zsE(K:qF):R2:=fun x y H Q=>(rI0 fun i j=>.int (i+j)) x y H Q\/(∃i j,x=.str i/\y=.str j/\i.length+j.length<=sizeLine/\Q (.str (i++j)) H)\/zsD K x y H Q
theorem zqT:OpR X (binaryOp .Add) (zsE X.K):=OpR.or Uv (OpR.or zkV zqS)
theorem zuu:Gp2 X (zsE X.K) oAdd:=by
 intro hd O H x y t u Q R dom C v h o;unfold oAdd at h;split at h
 ·exact .inl ⟨_,_,C.intI,v.intI,o _ _ H h (Same.refl H) (.int _)⟩
 ·exact .inr (.inl ⟨_,_,C.strI,v.strI,h.1,o _ _ H h.2 (Same.refl H) (.str _)⟩)
 ·rename_i xs ys;obtain⟨p,N,rfl,U,G⟩:=C.tupI;obtain⟨q,S,rfl,L,I⟩:=v.tupI;refine .inr (.inr ⟨p,q,N,S,rfl,rfl,U,L,by rw[G.length,I.length];exact h.1,fun e=>?_,fun e=>?_,fun l J=>?_⟩)
  ·subst e;cases G;exact o _ _ H h.2 (Same.refl H) (v.rep (by intro _ z;cases z))
  ·subst e;cases I;exact o _ _ H h.2 (Same.refl H) (by rw[cD];exact C.rep (by intro _ z;cases z))
  ·exact o _ _ _ h.2 (JY J) (.newT (fun z=>dom l z J) J (G.append I))
 ·exact h.elim
theorem Jr(o:DL X a da)(l:DL X b db):DE X (.BinOp a .Add b pos) (dOp oAdd da db):=Uc zqT zuu o l
def dCat(da db:DTE):DTA:=fun o n R=>da o n fun x u=>db o u fun y v=>match x,y with|.list xs,.list ys=>xs.length+ys.length<=16777216/\R (xs++ys) v|_,_=>False
theorem Z2{C:Ctx}{H l:Hp}{G:Nat}{p:au}(v:ExtE C.hd H l)(I:Hn C.hd l G)(u:l p=none):H p=none:=by
 cases z:H p with
 | none=>rfl
 | some o =>
  by_cases y:C.hd=some p
  ·obtain⟨d,m,t,q,_⟩:=I p y;rw[u]at q;cases q
  ·rw[v p o z y]at u;cases u
theorem zoM{K:qF}{hd:Option au}{O:au->Prop}{H:Hp}{p:au}{o:HO}{vs ts}(u:H p=none)(r:Reps K hd O H vs ts):Reps K hd (fun a=>O a\/a=p) (upd H p o) vs ts:=by
 refine r.mono (fun b o l z=>z.elim id fun z=>?_) fun b o _ l=>JY u b o l
 subst z;rw[u]at l;cases l
theorem VC(I:DL X a da)(G:DL X b db):DN X (.BinOp a .Add b pos) (dCat da db):=by
 obtain⟨ta,pa,I⟩:=I;obtain⟨tb,Z,G⟩:=G;refine⟨_,JL ztd pa Z,fun C ρ σ H n Q R S h hq=>?_⟩
 refine two I G S h fun x y n2 v w H2 o e J q1 q2=>?_
 split at o
 ·obtain⟨p,Y,rfl,h1,L⟩:=q1.lstI;obtain⟨q,ws,rfl,U,N⟩:=q2.lstI;refine⟨p,q,Y,ws,rfl,rfl,h1,U,by rw[L.length,N.length];exact o.1,fun l u=>?_⟩
  exact hq _ n2 l _ _ o.2 (e.trans (ExtE.new u)) (J.hnd.same (JY u)) (Z2 e J.hnd u) J3 (zoM u (L.append N))
 ·exact o.elim
def oMul:=gI CMul fun i j=>i*j
theorem ZF(v:DL X a da)(o:DL X b db):DE X (.BinOp a .Mult b pos) (dOp oMul da db):=Uc Uj gp_I v o
abbrev GD:=List ae->Nat->(ae->Nat->Prop)->Prop
def spD(K:qF)(m:Nat)(g:GD):Sp:=fun o H Q _=>∃(hd:Option au) (O:au->Prop) (ts:qD) (n:Nat) (R:qN),Reps K hd O H o ts/\Hn hd H n/\(∀a,O a->MutO (H a))/\(∀a,hd=some a->O a)/\ts.length=m/\g ts n R /\
 ∀t l v H',R t l->ExtE hd H H'->Hn hd H' l->Rep K hd O H' v t->Q v H'
def dFn(g:GD)(ds:DTA):DTE:=fun o n R=>ds o n fun ts l=>g ts l R
theorem zxd{st:eS}{ps:List Str}{f:au}{fd:dJ}{g:GD}{m:Nat}(D:Bd.Def X.K X.mg x st ps f fd)(G:FnOk X.prog X.w X.K X.mg X.base CX0 k f fd ps (spD X.K m g))(hr:Room k X.A)(h:DB X (e::es) ds)(hm:(e::es).length=m:=by rfl)(Z:Gl X x:=by rfl)
  (o:(x == ("__debug__":Str))=false:=by rfl):DE X (.Call (.Name x p) (e::es) [] pos) (dFn g ds):=by
 obtain⟨ta,pa,h⟩:=h;refine⟨_,Bd.zqI D G hr pa Z o,fun C I σ H n Q R S hd hq=>?_⟩
 refine h C I σ H n _ _ S hd fun ts U vs H1 r1 y u q1 L=>?_
 have S1:=S.on y u;rw[cD];exact⟨C.hd,Own C I σ,ts,U,R,q1,u,fun a=>S1.lst,fun a z=>.inl (S.hx a z),L.trans hm,r1,fun t J v H' rt e2 Y q2=>hq t J v H' rt (y.trans e2) Y q2⟩
def dFnL(g:GD)(ds:DTA):DTE:=fun u n R=>ds u n fun ts o=>g ts o fun t l=>J9 t=true/\R t l
theorem zuN{st:eS}{ps:List Str}{f:au}{fd:dJ}{g:GD}{m:Nat}(D:Bd.Def X.K X.mg x st ps f fd)(G:FnOk X.prog X.w X.K X.mg X.base CX0 k f fd ps (spD X.K m g))(hr:Room k X.A)(h:DBL X (e::es) ds)(hm:(e::es).length=m:=by rfl)(hg:Gl X x:=by rfl)
  (U:(x == ("__debug__":Str))=false:=by rfl):DE X (.Call (.Name x p) (e::es) [] pos) (dFnL g ds):=by
 obtain⟨ta,pa,h⟩:=h;refine⟨_,Bd.zqI D G hr pa hg U,fun C ρ σ H n Q R S hd hq=>?_⟩
 refine h C ρ σ H n _ _ S hd fun ts n1 u H1 r1 Z I q1 l1=>?_
 have S1:=S.on Z I;rw[cD];have lend:∀{u ts},Zp X.K C.hd (Own C ρ σ) H1 u ts->Reps X.K C.hd (fun a=>C.hd=some a) H1 u ts:=by
  intro u ts q;induction q with
  | nil=>exact .nil
  | cons r _ ih =>
   refine .cons ?_ ih;rcases r with r|⟨a,ws,us,rfl,rfl,J,L,y⟩|⟨a,zs,ep,ks,rfl,rfl,J,L,y⟩
   ·exact r.mono (fun a o _ z=>.inl (S.hx a z)) fun _ _ _ z=>z
   ·exact .lst J y (L.mono (fun a o _ z=>.inl (S.hx a z)) fun _ _ _ z=>z)
   ·exact .dcT J y (L.mono (fun a o _ z=>.inl (S.hx a z)) fun _ _ _ z=>z) rfl
 refine⟨C.hd,fun a=>C.hd=some a,ts,n1,_,lend q1,I,fun a z=>?_,fun a z=>z,l1.trans hm,r1,fun t n' v H' rt e2 Y q2=>?_⟩
 ·obtain⟨d,m,t,q,_⟩:=I a z;exact .inl ⟨_,q⟩
 ·exact hq t n' v H' rt.2 (Z.trans e2) Y (q2.up (fun a z=>(S1.on e2 Y).lst z) rt.1)
end
section
variable{X:Cx}{ad:qO}{σ:St}{H H':Hp}{s s':aw}{C e:au}
def Fly1(P:aQ)(w:bz)(l:List Env)(H H':Hp)(h:bq)(C e:au)(h':bq):Prop :=
 ∃B u,Heap.FlyingW B l e (.ref C) u h'/\H' e=none/\h.get? e=none/\∀o,B.StaysIn o->h'.UpToSlots o->Un (frs l) [] H H' h o/\HOk P w H' o
inductive FlyX (X:Cx)(C:au)(H':Hp)(e:au)(s':aw):Prop
 | made {Im:qO} {σ':St} {s h1} (I:Inv X Im σ' H' s) (m:Heap.MadeExcOf s.heap h1 e (.ref C) []) (hs:s'={ s with heap:=h1 })
 | on {Im:qO} {σ':St} {H1:Hp} {s} (I:Inv X Im σ' H1 s) (os:s'.os=s.os) (bare:iZ s'.gens) (f:Fly1 X.prog X.w X.stack H1 H' s.heap C e s'.heap)
def XW(X:Cx)(C:au)(H':Hp):Prop:=∀e s',FlyX X C H' e s'->X.xe (.ref e) s'
end
def Keep(C:Ctx)(u:En)(σ:St)(H:Hp)(l:En)(σ':St)(H':Hp):Prop:=∀a o,H a=some o->C.hd≠some a->¬OwnS u σ a->H' a=some o/\¬OwnS l σ' a
structure Qb where
 nx:En->Nat->Prop
 rt:ae->Nat->Prop
 bk:En->Nat->Prop:=fun _ _=>False
 ct:En->Nat->Prop:=fun _ _=>False
 xr:Str->Nat->Prop:=fun _ _=>False
abbrev DTS:=Qb->En->Nat->Prop
def XN(X:Cx)(c:Str)(H':Hp):Prop:=∀C,X.mg c=some (.ref C)->XW X C H'
structure Good(X:Cx)(C:Ctx)(ρ:En)(σ:St)(H:Hp)(D:Ends)(D':Qb):Prop where
 nx:∀ρ' σ' H' n',D'.nx ρ' n'->Stt X.K C ρ' σ' H' n'->Keep C ρ σ H ρ' σ' H'->D.nx σ' H'
 rt:∀t n' v H',D'.rt t n'->Hn C.hd H' n'->(∀a o,H a=some o->C.hd≠some a->¬OwnS ρ σ a->H' a=some o)->Rep X.K C.hd C.ext H' v t->D.rt v H'
 bk:∀ρ' σ' H' n',D'.bk ρ' n'->Stt X.K C ρ' σ' H' n'->Keep C ρ σ H ρ' σ' H'->D.bk σ' H'
 ct:∀ρ' σ' H' n',D'.ct ρ' n'->Stt X.K C ρ' σ' H' n'->Keep C ρ σ H ρ' σ' H'->D.ct σ' H'
 xr:∀c n' H',D'.xr c n'->Hn C.hd H' n'->(∀a o,H a=some o->C.hd≠some a->¬OwnS ρ σ a->H' a=some o)->XN X c H'
def DS(X:Cx)(st:eS)(d:DTS):Prop:=∃ts,PS X st ts/\∀(C:Ctx) (l:En) (σ:St) (H:Hp) (n:Nat) (D:Ends) (o:Qb),Stt X.K C l σ H n->d o l n->Good X C l σ H D o->ts D σ H
def DSs(X:Cx)(st:List eS)(d:DTS):Prop:=∃ts,PSs X st ts/\∀(C:Ctx) (l:En) (σ:St) (H:Hp) (n:Nat) (D:Ends) (o:Qb),Stt X.K C l σ H n->d o l n->Good X C l σ H D o->ts D σ H
section
variable{K:qF}{C:Ctx}{ρ ρ1 ρ2:En}{σ σ1 σ2:St}{H H1 H2:Hp}{n n1:Nat}{D:Ends}{D':Qb}
theorem Keep.refl:Keep C ρ σ H ρ σ H:=fun _ _ h _ no=>⟨h,no⟩
theorem Keep.trans(v:Keep C ρ σ H ρ1 σ1 H1)(x:Keep C ρ1 σ1 H1 ρ2 σ2 H2):Keep C ρ σ H ρ2 σ2 H2:=fun a o h u no=>by
 obtain⟨y,l⟩:=v a o h u no;exact x a o y u l
theorem ExtE.keep(e:ExtE C.hd H H1):Keep C ρ σ H ρ σ H1:=fun a o h l no=>⟨e a o h l,no⟩
theorem Good.on{X:Cx}(g:Good X C ρ σ H D D')(k:Keep C ρ σ H ρ1 σ1 H1):Good X C ρ1 σ1 H1 D D' where
 nx:=fun l σ' H' u h S x=>g.nx l σ' H' u h S (k.trans x)
 rt:=fun t u v H' h I x r=>g.rt t u v H' h I (fun a o J G no=>by
  obtain⟨L,y⟩:=k a o J G no;exact x a o L G y) r
 bk:=fun l σ' H' u h S x=>g.bk l σ' H' u h S (k.trans x)
 ct:=fun l σ' H' u h S x=>g.ct l σ' H' u h S (k.trans x)
 xr:=fun c u H' h I x=>g.xr c u H' h I fun a o J G no=>by
  obtain⟨L,y⟩:=k a o J G no;exact x a o L G y
theorem Keep.rep(k:Keep C ρ σ H ρ1 σ1 H1)(hx:∀a,C.hd=some a->C.ext a){v t}(r:Rep K C.hd (Own C ρ σ) H v t):Rep K C.hd (Own C ρ1 σ1) H1 v t :=
 Rep.mono (O:=Own C ρ σ) (fun a o h z=>by
  by_cases q:Own C ρ σ a
  ·exact q
  ·rcases z with z|z
   ·exact .inl z
   ·exact absurd z (k a o h (fun y=>q (.inl (hx a y))) fun y=>q (.inr y)).2) (fun a o no h=>(k a o h (fun y=>no (.inl (hx a y))) fun y=>no (.inr y)).1) r
theorem Keep.reps(k:Keep C ρ σ H ρ1 σ1 H1)(hx:∀a,C.hd=some a->C.ext a){v t}(r:Reps K C.hd (Own C ρ σ) H v t):Reps K C.hd (Own C ρ1 σ1) H1 v t :=
 Reps.mono (O:=Own C ρ σ) (fun a o h z=>by
  by_cases q:Own C ρ σ a
  ·exact q
  ·rcases z with z|z
   ·exact .inl z
   ·exact absurd z (k a o h (fun y=>q (.inl (hx a y))) fun y=>q (.inr y)).2) (fun a o no h=>(k a o h (fun y=>no (.inl (hx a y))) fun y=>no (.inr y)).1) r
theorem JG{α:Type}{l:List (Option α)}{i j:Nat}{v w:α}(h:(l.set i (some v))[j]?=some (some w)):(i=j/\v=w)\/(i≠j/\l[j]?=some (some w)):=by
 by_cases e:i=j
 ·subst e;rw[ik]at h;simp only[↓reduceIte]at h;split at h
  ·simp at h;exact .inl ⟨rfl,h⟩
  ·cases h
 ·rw[dI e]at h;exact .inr ⟨e,h⟩
theorem Y2{α:Type}{l:List (Option α)}{i j:Nat}{v w:α}(e:i≠j)(h:l[j]?=some (some w)):(l.set i (some v))[j]?=some (some w):=by
 rw[dI e];exact h
theorem zpS{α:Type}{l:List (Option α)}{i j:Nat}{v:α}{w:Option α}(h:(l.set i (some v))[j]?=some w)(e:i=j):i<l.length:=by
 subst e;rw[ik]at h;simp only[↓reduceIte]at h;split at h
 ·assumption
 ·cases h
theorem zl4{α:Type}{l:List (Option α)}{i:Nat}{v:α}(h:i<l.length):(l.set i (some v))[i]?=some (some v):=by
 rw[ik];simp[h]
theorem V9{i:Nat}{t:ae}{v:V}{a:au}(h:OwnS (ρ.set i (some (.val t))) (σ.set i (some v)) a):OwnS ρ σ a:=by
 obtain⟨j,c,m,o,u⟩:=h;rcases JG o with⟨_,z⟩|⟨e,o⟩
 ·subst z;cases m
 ·rcases JG u with⟨z,_⟩|⟨_,u⟩
  ·exact absurd z e
  ·exact⟨j,c,m,o,u⟩
def Q0(K:qF)(hd:Option au)(O:au->Prop)(H:Hp)(a:au):Cell->Prop
 | .val _=>False
 | .rdo _=>False
 | .own ts=>∃y,H a=some (.lst y)/\Reps K hd O H y ts
 | .dct x=>∃u,H a=some (.dK u)/\U1 K hd O H u x
 | .dtt x=>∃zs G,H a=some (ZDO a zs G)/\Jq K hd O H zs x
theorem Q0.mono(x:Q0 K hd O H a c)(G:∀a o,H a=some o->O' a->O a)(y:∀a o,¬O a->H a=some o->H' a=some o)(I:∀o,H a=some o->H' a=some o):Q0 K hd O' H' a c:=by
 cases c with
 | val _=>exact x.elim
 | rdo _=>exact x.elim
 | own ts=>obtain⟨l,u,v⟩:=x;exact⟨l,I _ u,v.mono G y⟩
 | dct J=>obtain⟨l,u,v⟩:=x;exact⟨l,I _ u,v.mono G y⟩
 | dtt J=>obtain⟨l,L,u,v⟩:=x;exact⟨l,L,I _ u,v.mono G y⟩
theorem Q0.some(x:Q0 K hd O H a c):∃o,H a=some o:=by
 cases c with
 | val _=>exact x.elim
 | rdo _=>exact x.elim
 | own ts=>obtain⟨u,l,v⟩:=x;exact⟨_,l⟩
 | dct y=>obtain⟨u,l,v⟩:=x;exact⟨_,l⟩
 | dtt y=>obtain⟨u,G,l,v⟩:=x;exact⟨_,l⟩
theorem Q0.mine(x:Q0 K hd O H a c):c.mine=true:=by
 cases c with
 | val _=>exact x.elim
 | rdo _=>exact x.elim
 | own ts=>rfl
 | dct l=>rfl
 | dtt l=>rfl
theorem Stt.cell(S:Stt K C ρ σ H n){i:Nat}{c:Cell}(m:c.mine=true)(h:ρ[i]?=some (some c)):∃a:au,σ[i]?=some (some (V.ref a))/\Q0 K C.hd (Own C ρ σ) H a c/\¬C.ext a:=by
 cases c with
 | val _=>cases m
 | rdo _=>cases m
 | own ts=>obtain⟨a,u,v,x,o,l⟩:=S.own i ts h;exact⟨a,v,⟨u,x,o⟩,l⟩
 | dct y=>obtain⟨a,u,v,x,o,l⟩:=S.dct i y h;exact⟨a,v,⟨u,x,o⟩,l⟩
 | dtt y=>obtain⟨a,u,G,v,x,o,l⟩:=S.dtt i y h;exact⟨a,v,⟨u,G,x,o⟩,l⟩
def zr1(K:qF)(C:Ctx)(ρ:En)(σ:St)(H:Hp):Prop:=∀(i:Nat) (o:List (Key×ae)),ρ[i]?=some (some (Cell.rdo o))->∃a l,σ[i]?=some (some (V.ref a))/\H a=some (.dK l)/\U1 K C.hd (Own C ρ σ) H l o/\C.ext a/\C.hd≠some a
theorem Stt.mk'(len:ρ.length=σ.length)(val:∀(i:Nat) (d:ae),ρ[i]?=some (some (Cell.val d))->∃v,σ[i]?=some (some v)/\Rep K C.hd (Own C ρ σ) H v d)
  (cell:∀(i:Nat) (c:Cell),c.mine=true->ρ[i]?=some (some c)->∃a:au,σ[i]?=some (some (V.ref a))/\Q0 K C.hd (Own C ρ σ) H a c/\¬C.ext a)
  (rdo:zr1 K C ρ σ H) (dif:∀(i j:Nat) (c e:Cell) (a:au),c.mine=true->e.mine=true->ρ[i]?=some (some c)->ρ[j]?=some (some e)->σ[i]?=some (some (V.ref a))->σ[j]?=some (some (V.ref a))->i=j)
  (hnd:Hn C.hd H n) (ext:∀a,C.ext a->MutO (H a)) (hx:∀a,C.hd=some a->C.ext a):Stt K C ρ σ H n where
 len:=len
 val:=val
 own:=fun i ts h=>by obtain⟨a,y,⟨u,l,o⟩,x⟩:=cell i _ rfl h;exact⟨a,u,y,l,o,x⟩
 dct:=fun i ts h=>by obtain⟨a,y,⟨u,l,o⟩,x⟩:=cell i _ rfl h;exact⟨a,u,y,l,o,x⟩
 rdo:=rdo
 dtt:=fun i ts h=>by obtain⟨a,y,⟨u,G,l,o⟩,x⟩:=cell i _ rfl h;exact⟨a,u,G,y,l,o,x⟩
 dif:=dif
 hnd:=hnd
 ext:=ext
 hx:=hx
theorem Stt.put(S:Stt K C ρ σ H n){i:Nat}{t:ae}{v:V}(r:Rep K C.hd (Own C ρ σ) H v t):Stt K C (ρ.set i (some (.val t))) (σ.set i (some v)) H n:=by
 have sub:∀a o,H a=some o->Own C (ρ.set i (some (.val t))) (σ.set i (some v)) a->Own C ρ σ a:=fun a o _ z=>z.elim .inl fun z=>.inr (V9 z)
 have mono:∀{w u},Rep K C.hd (Own C ρ σ) H w u->Rep K C.hd (Own C (ρ.set i (some (.val t))) (σ.set i (some v))) H w u:=fun q=>q.mono sub fun _ _ _ z=>z
 refine .mk' (by simp[S.len]) (fun j d h=>?_) (fun j c m h=>?_) (fun j ks h=>?_) (fun j k c e a m1 m2 y x L Z=>?_) S.hnd S.ext S.hx
 rotate_left 2
 ·rcases JG h with⟨_,z⟩|⟨e,h'⟩
  ·cases z
  ·obtain⟨a,I,q1,q2,q3,Y⟩:=S.rdo j ks h';exact⟨a,I,Y2 e q1,q2,q3.mono sub fun _ _ _ z=>z,Y⟩
 rotate_left 1
 ·rcases JG h with⟨e,z⟩|⟨e,h'⟩
  ·cases z;have:=zpS h e;subst e;exact⟨v,zl4 (by rw[<- S.len];exact this),mono r⟩
  ·obtain⟨w,y,x⟩:=S.val j d h';exact⟨w,Y2 e y,mono x⟩
 ·rcases JG h with⟨e,z⟩|⟨e,h'⟩
  ·subst z;cases m
  ·obtain⟨a,y,x,L⟩:=S.cell m h';exact⟨a,Y2 e y,x.mono sub (fun _ _ _ z=>z) fun _ z=>z,L⟩
 ·rcases JG y with⟨e,z⟩|⟨e,G⟩
  ·subst z;cases m1
  ·rcases JG x with⟨U,z⟩|⟨U,J⟩
   ·subst z;cases m2
   ·rcases JG L with⟨z,_⟩|⟨_,N⟩
    ·exact absurd z e
    ·rcases JG Z with⟨z,_⟩|⟨_,R⟩
     ·exact absurd z U
     ·exact S.dif j k c _ a m1 m2 G J N R
theorem UV:Keep C ρ σ H (ρ.set i (some (.val t))) (σ.set i (some v)) H:=fun a o h _ no=>⟨h,fun z=>no (V9 z)⟩
theorem zj1{i:Nat}{c:Cell}{p a:au}(h:OwnS (ρ.set i (some c)) (σ.set i (some (.ref p))) a):OwnS ρ σ a\/a=p:=by
 obtain⟨j,ds,m,o,u⟩:=h;rcases JG u with⟨e,z⟩|⟨e,u⟩
 ·cases z;exact .inr rfl
 ·rcases JG o with⟨z,_⟩|⟨_,o⟩
  ·exact absurd z e
  ·exact .inl ⟨j,ds,m,o,u⟩
theorem Stt.putNew(S:Stt K C ρ σ H n){i:Nat}{c:Cell}{p:au}{H':Hp}(e:ExtE C.hd H H')(h:Hn C.hd H' n1)(hp:H p=none)(r:Q0 K C.hd (fun a=>Own C ρ σ a\/a=p) H' p c) :
  Stt K C (ρ.set i (some c)) (σ.set i (some (.ref p))) H' n1:=by
 have S':=S.on e h;have mc:=r.mine;have sub:∀a,Own C (ρ.set i (some c)) (σ.set i (some (.ref p))) a->Own C ρ σ a\/a=p:=fun a z=>z.elim (fun z=>.inl (.inl z)) fun z=>(zj1 z).elim (fun z=>.inl (.inr z)) .inr
 have npx:¬C.ext p:=fun z=>S.dom (.inl z) hp
 have sb:∀a o,H a=some o->Own C (ρ.set i (some c)) (σ.set i (some (.ref p))) a->Own C ρ σ a:=fun a o I z=>(sub a z).elim id fun z=>by subst z;rw[hp]at I;cases I
 have kp:∀a o,¬Own C ρ σ a->H a=some o->H' a=some o:=fun a o no I=>e a o I fun z=>no (.inl (S.hx a z))
 have Kj:∀(j:Nat) (d:Cell),d.mine=true->ρ[j]?=some (some d)->σ[j]?≠some (some (V.ref p)):=fun j d m G u=>by
  obtain⟨a,e1,Y,_⟩:=S.cell m G;rw[u]at e1;cases e1;obtain⟨o,Y⟩:=Y.some;rw[hp]at Y;cases Y
 refine .mk' (by simp[S.len]) (fun j d J=>?_) (fun j d m J=>?_) (fun j ks J=>?_) (fun j k c1 c2 a m1 m2 G u h3 U=>?_) h S'.ext S.hx
 rotate_left 2
 ·rcases JG J with⟨_,z⟩|⟨v,h'⟩
  ·subst z;cases mc
  ·obtain⟨a,Z,q1,q2,q3,q4,q5⟩:=S.rdo j ks h';exact⟨a,Z,Y2 v q1,e a _ q2 q5,q3.mono sb kp,q4,q5⟩
 rotate_left 1
 ·rcases JG J with⟨_,z⟩|⟨v,h'⟩
  ·subst z;cases mc
  ·obtain⟨w,G,u⟩:=S.val j d h';exact⟨w,Y2 v G,u.mono sb kp⟩
 ·rcases JG J with⟨v,z⟩|⟨v,h'⟩
  ·subst z;have:=zpS J v;subst v;exact⟨p,zl4 (by rw[<- S.len];exact this),r.mono (fun a o _ z=>sub a z) (fun _ _ _ z=>z) fun _ z=>z,npx⟩
  ·obtain⟨a,G,u,U⟩:=S.cell m h';exact⟨a,Y2 v G,u.mono sb kp (fun o I=>e a o I fun z=>U (S.hx a z)),U⟩
 ·rcases JG h3 with⟨e3,z3⟩|⟨e3,R⟩
  ·cases z3;rcases JG U with⟨L,_⟩|⟨L,y⟩
   ·rw[<- e3,<- L]
   ·rcases JG u with⟨z,_⟩|⟨_,x⟩
    ·exact absurd z L
    ·exact absurd y (Kj k _ m2 x)
  ·rcases JG G with⟨z,_⟩|⟨_,N⟩
   ·exact absurd z e3
   ·rcases JG U with⟨L,z4⟩|⟨L,y⟩
    ·cases z4;exact absurd R (Kj j _ m1 N)
    ·rcases JG u with⟨z,_⟩|⟨_,x⟩
     ·exact absurd z L
     ·exact S.dif j k _ _ a m1 m2 N x R y
theorem Stt.putOwn(S:Stt K C ρ σ H n)(e:ExtE C.hd H H')(h:Hn C.hd H' n1)(v:H p=none)(u:H' p=some (.lst vs))(r:Reps K C.hd (fun a=>Own C ρ σ a\/a=p) H' vs ts) :
  Stt K C (ρ.set i (some (.own ts))) (σ.set i (some (.ref p))) H' n1:=S.putNew e h v ⟨vs,u,r⟩
theorem zjk(e:ExtE C.hd H H')(v:H p=none):Keep C ρ σ H (ρ.set i (some c)) (σ.set i (some (.ref p))) H':=fun a o h u no =>
 ⟨e a o h u,fun z=>(zj1 z).elim no fun z=>by subst z;rw[v]at h;cases h⟩
theorem zfd(e:ExtE C.hd H H')(l:H p=none):Keep C ρ σ H (ρ.set i (some (.own ts))) (σ.set i (some (.ref p))) H':=zjk e l
theorem Stt.chgC(S:Stt K C ρ σ H n){i:Nat}{c y:Cell}{p:au}{U:HO}(m:c.mine=true)(m':y.mine=true)(Y:ρ[i]?=some (some c))(J:σ[i]?=some (some (.ref p)))
  (r:∀(O':au->Prop) (H':Hp),(∀a o,H a=some o->O' a->Own C ρ σ a)->(∀a o,¬Own C ρ σ a->H a=some o->H' a=some o)->H' p=some U->Q0 K C.hd O' H' p y) :
  Stt K C (ρ.set i (some y)) σ (upd H p U) n/\Keep C ρ σ H (ρ.set i (some y)) σ (upd H p U):=by
 have op:OwnS ρ σ p:=⟨i,c,m,Y,J⟩;obtain⟨p',e1,hp,x⟩:=S.cell m Y;rw[J]at e1;cases e1;have IQ:∀a,OwnS (ρ.set i (some y)) σ a->OwnS ρ σ a:=fun a ⟨j,d,I,u,v⟩=>by
  rcases JG u with⟨e,_⟩|⟨e,u⟩
  ·subst e;rw[J]at v;cases v;exact op
  ·exact⟨j,d,I,u,v⟩
 have sub:∀a o,H a=some o->Own C (ρ.set i (some y)) σ a->Own C ρ σ a:=fun a o _ z=>z.elim .inl fun z=>.inr (IQ a z)
 have kp:∀a o,¬Own C ρ σ a->H a=some o->upd H p U a=some o:=fun a o no ho=>by rw[Ju (show a≠p from fun z=>no (by rw[z];exact .inr op))];exact ho
 have rd:zr1 K C (ρ.set i (some y)) σ (upd H p U):=fun j ks R=>by
  rcases JG R with⟨_,z⟩|⟨L,h'⟩
  ·subst z;cases m'
  ·obtain⟨a,Z,u,v,q3,G,q5⟩:=S.rdo j ks h';exact⟨a,Z,u,by rw[Ju (show a≠p from fun z=>x (by rw[<- z];exact G))];exact v,q3.mono sub kp,G,q5⟩
 refine⟨.mk' (by simp[S.len]) (fun j d R=>?_) (fun j d I R=>?_) rd (fun j k c1 c2 a m1 m2 u v q3 G=>?_) (fun a N=>?_) (fun a N=>?_) S.hx,fun a o h nh no=>⟨by rw[Ju (show a≠p from fun z=>no (by rw[z];exact op))];exact h,fun z=>no (IQ a z)⟩⟩
 ·rcases JG R with⟨_,z⟩|⟨L,h'⟩
  ·subst z;cases m'
  ·obtain⟨w,u,v⟩:=S.val j d h';exact⟨w,u,v.mono sub kp⟩
 ·rcases JG R with⟨L,z⟩|⟨L,h'⟩
  ·subst z;subst L;exact⟨p,J,r _ _ sub kp J3,x⟩
  ·obtain⟨a,u,v,G⟩:=S.cell I h';have:a≠p:=fun z=>by subst z;exact L (S.dif i j c d a m I Y h' J u)
   exact⟨a,u,v.mono sub kp (fun o ho=>by rw[Ju this];exact ho),G⟩
 ·have get:∀(j:Nat) (d:Cell),d.mine=true->(ρ.set i (some y))[j]?=some (some d)->∃d':Cell,d'.mine=true/\ρ[j]?=some (some d'):=fun j d I q=>by
   rcases JG q with⟨e,_⟩|⟨_,q⟩
   ·subst e;exact⟨_,m,Y⟩
   ·exact⟨_,I,q⟩
  obtain⟨d1,md1,g1⟩:=get j c1 m1 u;obtain⟨d2,md2,g2⟩:=get k c2 m2 v;exact S.dif j k d1 d2 a md1 md2 g1 g2 q3 G
 ·obtain⟨d,m,t,q,rest⟩:=S.hnd a N;exact⟨d,m,t,by rw[Ju (show a≠p from fun z=>x (by rw[<- z];exact S.hx a N))];exact q,rest⟩
 ·by_cases z:a=p
  ·subst z;exact absurd N x
  ·rw[Ju z];exact S.ext a N
theorem Stt.chg(S:Stt K C ρ σ H n)(v:ρ[i]?=some (some (.own ts)))(x:σ[i]?=some (some (.ref p)))(r:Reps K C.hd (Own C ρ σ) H ws us) :
  Stt K C (ρ.set i (some (.own us))) σ (upd H p (.lst ws)) n/\Keep C ρ σ H (ρ.set i (some (.own us))) σ (upd H p (.lst ws)):=S.chgC rfl rfl v x fun _ _ a b u=>⟨ws,u,r.mono a b⟩
theorem Stt.freeze(S:Stt K C ρ σ H n){i:Nat}{ts:qD}(Y:ρ[i]?=some (some (.own ts))):Stt K C (ρ.set i (some (.val (.list ts)))) σ H n/\Keep C ρ σ H (ρ.set i (some (.val (.list ts)))) σ H:=by
 obtain⟨p,vs,U,hp,hr,N⟩:=S.own i ts Y;have R:∀a,OwnS (ρ.set i (some (.val (.list ts)))) σ a->OwnS ρ σ a/\a≠p:=fun a ⟨j,ds,m,u,x⟩=>by
  rcases JG u with⟨_,z⟩|⟨e,u⟩
  ·subst z;cases m
  ·exact⟨⟨j,ds,m,u,x⟩,fun z=>by subst z;exact e (S.dif i j (.own ts) ds a rfl m Y u U x)⟩
 have sub:∀a o,H a=some o->Own C (ρ.set i (some (.val (.list ts)))) σ a->Own C ρ σ a:=fun a o _ z=>z.elim .inl fun z=>.inr (R a z).1
 have rd:zr1 K C (ρ.set i (some (.val (.list ts)))) σ H:=fun j Z G=>by
  rcases JG G with⟨_,z⟩|⟨J,h'⟩
  ·cases z
  ·obtain⟨a,L,u,x,I,y⟩:=S.rdo j Z h';exact⟨a,L,u,x,I.mono sub fun _ _ _ z=>z,y⟩
 refine⟨.mk' (by simp[S.len]) (fun j d G=>?_) (fun j d m G=>?_) rd (fun j k c1 c2 a m1 m2 u x I y=>?_) S.hnd S.ext S.hx,fun a o h _ no=>⟨h,fun z=>no (R a z).1⟩⟩
 ·rcases JG G with⟨J,z⟩|⟨J,h'⟩
  ·cases z;subst J;exact⟨.ref p,U,.lst hp (fun z=>z.elim N fun z=>(R p z).2 rfl) (hr.mono sub fun _ _ _ z=>z)⟩
  ·obtain⟨w,u,x⟩:=S.val j d h';exact⟨w,u,x.mono sub fun _ _ _ z=>z⟩
 ·rcases JG G with⟨_,z⟩|⟨J,h'⟩
  ·subst z;cases m
  ·obtain⟨a,u,I,y⟩:=S.cell m h';exact⟨a,u,I.mono sub (fun _ _ _ z=>z) fun _ z=>z,y⟩
 ·rcases JG u with⟨_,z⟩|⟨_,g1⟩
  ·subst z;cases m1
  ·rcases JG x with⟨_,z⟩|⟨_,g2⟩
   ·subst z;cases m2
   ·exact S.dif j k _ _ a m1 m2 g1 g2 I y
end
section
variable{X:Cx}{a b c e:aZ}{es rest:List aZ}{d da db dc:DTE}{ds:DTA}{dt:DTT}{t u:DTS}{st:eS}{sts sa sb:List eS}{pos p:Pos}{k:Nat}{x:Str}
def Vx:DTS:=fun D l n=>D.nx l n
def sSeq(t u:DTS):DTS:=fun D l n=>t { D with nx:=u D } l n
theorem Jy:DSs X [] Vx:=⟨_,zi1,fun C l σ H n D o S h g=>g.nx l σ H n h S Keep.refl⟩
theorem Jb(v:DS X st t)(l:DSs X sts u):DSs X (st::sts) (sSeq t u):=by
 obtain⟨U,pa,v⟩:=v;obtain⟨R,J,l⟩:=l;refine⟨_,QQ pa J,fun C I σ H n D L S h g=>?_⟩
 exact v C I σ H n _ _ S h ⟨fun o σ' H' y G N k=>l C o σ' H' y D L N G (g.on k),g.rt,g.bk,g.ct,g.xr⟩
theorem Jc(l:DS X st t):DSs X [st] t:=by
 obtain⟨o,pa,l⟩:=l;exact⟨_,Z8 pa,l⟩
def Z9(i:Nat)(t:DTS):DTS:=fun D y n=>match y[i]? with|some (some (.own ts))=>t D (y.set i (some (.val (.list ts)))) n|_=>False
theorem QS(i:Nat)(l:DSs X sts t):DSs X sts (Z9 i t):=by
 obtain⟨G,pa,l⟩:=l;refine⟨_,pa,fun C I σ H n D o S h g=>?_⟩
 unfold Z9 at h;split at h
 ·rename_i ts y;obtain⟨v,kp⟩:=S.freeze y;exact l C _ σ H n D o v h (g.on kp)
 ·exact h.elim
def sRet(d:DTE):DTS:=fun D o n=>d o n fun t l=>D.rt t l
theorem Jg(h:DE X e d):DS X (.Return (some e) pos) (sRet d):=by
 obtain⟨Y,pa,h⟩:=h;refine⟨_,VP pa,fun C J σ H n D U S hd g=>?_⟩
 refine h C J σ H n _ _ S hd fun t y v H' r I N q=>?_
 exact g.rt t y v H' r N (fun a o L G _=>I a o L G) (q.mono (fun _ _ _ z=>.inl z) fun _ _ _ z=>z)
def sIf(c:DTT)(t u:DTS):DTS:=fun D l n=>c l n fun b o=>if b=true then t D l o else u D l o
theorem Js(hc:DT X c dt)(y:DSs X sa t)(o:DSs X sb u):DS X (.If c sa sb pos) (sIf dt t u):=by
 obtain⟨Y,pc,hc⟩:=hc;obtain⟨Z,pa,y⟩:=y;obtain⟨U,R,o⟩:=o;refine⟨_,zqA pc pa R,fun C v σ H n D L S hd g=>?_⟩
 refine hc C v σ H n _ _ S hd fun b G N r l J=>?_
 cases b with
 | true=>exact iteT (y C v σ N G D L (S.on l J) (by simpa using r) (g.on l.keep))
 | false=>exact iteF (o C v σ N G D L (S.on l J) (by simpa using r) (g.on l.keep))
def sSet(i:Nat)(d:DTE):DTS:=fun D o n=>d o n fun t y=>D.nx (o.set i (some (.val t))) y
theorem zuE(I:X.N.Nodup)(hi:X.N[i]?=some x)(hx:Loc X.env.scope x)(h:DE X e d)(L:swapsWith e (some (.Name x pos')) pos.line X.env=pure false:=by rfl)(hf:X.fn x=true\/X.env.scope.names.lookup x=some .local:=by walk_at "F") :
  DS X (.Assign [.Name x pos'] e pos) (sSet i d):=by
 obtain⟨Y,pa,h⟩:=h;refine⟨_,Um I hi hx pa L hf,fun C J σ H n D U S hd g=>?_⟩
 refine h C J σ H n _ _ S hd fun t G v H' r y R q=>?_
 exact g.nx _ _ H' G r ((S.on y R).put q) (y.keep.trans UV)
def sOwn(i:Nat)(d:DTA):DTS:=fun D l n=>d l n fun ts v=>D.nx (l.set i (some (.own ts))) v
theorem QM(J:X.N.Nodup)(hi:X.N[i]?=some x)(hx:Loc X.env.scope x)(h:DN X e ds)(R:swapsWith e (some (.Name x pos')) pos.line X.env=pure false:=by rfl)(hf:X.fn x=true\/X.env.scope.names.lookup x=some .local:=by walk_at "F") :
  DS X (.Assign [.Name x pos'] e pos) (sOwn i ds):=by
 obtain⟨ta,pa,h⟩:=h;refine⟨_,Um J hi hx pa R hf,fun C L σ H n D Z S hd g=>?_⟩
 refine h C L σ H n _ _ S hd fun ts I p Y H' r y U G v q=>?_
 exact g.nx _ _ H' I r (S.putOwn y U G v q) (zfd y G)
def sAug(i:Nat)(f:Int->Int->Int)(d:DTE):DTS:=fun D o n=>match o[i]? with
 | some (some (.val (.int j)))=>d o n fun t y=>match t with|.int k=>D.nx (o.set i (some (.val (.int (f j k))))) y|_=>False
 | _=>False
theorem zqg(J:X.N.Nodup)(hi:X.N[i]?=some x)(hx:Loc X.env.scope x)(h:DE X e d)(Y:PIp X op (ipI f))(hf:X.fn x=true\/X.env.scope.names.lookup x=some .local:=by walk_at "F") :
  DS X (.AugAssign (.Name x pos') op e pos) (sAug i f d):=by
 obtain⟨ta,pa,h⟩:=h;refine⟨_,zpU J hi hx pa Y hf,fun C U σ H n D D' S hd g=>?_⟩
 unfold sAug at hd;split at hd
 ·rename_i j R;obtain⟨v,Z,I⟩:=S.val i _ R;refine⟨v,Z,h C U σ H n _ _ S hd fun t G w H' r y L q=>?_⟩
  cases t with
  | int k=>exact⟨j,k,I.intI,q.intI,g.nx _ _ H' G r ((S.on y L).put (.int _)) (y.keep.trans UV)⟩
  | _=>exact r.elim
 ·exact hd.elim
abbrev DTG:=ae->En->(En->Prop)->Prop
abbrev DTGs:=List ae->En->(En->Prop)->Prop
def DG(X:Cx)(tg:aZ)(is:List Nat)(d:DTG):Prop:=(∀t o R,d t o R->∃l,R l)/\∃g,PG X tg g/\∀(C:Ctx) (o:En) (σ:St) (H:Hp) (n:Nat) (v:V) (t:ae) (Q:St->Hp->Prop) (R:En->Prop),Stt X.K C o σ H n->Rep X.K C.hd (Own C o σ) H v t->d t o R ->
 (∀l σ',R l->Stt X.K C l σ' H n->Keep C o σ H l σ' H->(∀j,j∉is->σ'[j]?=σ[j]?)->σ'.length=σ.length->Q σ' H)->g v σ H Q
def DGs(X:Cx)(v:List aZ)(is:List Nat)(d:DTGs):Prop:=(∀ts o R,d ts o R->ts.length=v.length)/\(∀t o R,d t o R->∃l,R l)/\∃g,PGs X v g/\∀(C:Ctx) (o:En) (σ:St) (H:Hp) (n:Nat) (y:List V) (ts:qD) (Q:St->Hp->Prop) (R:En->Prop),Stt X.K C o σ H n->Reps X.K C.hd (Own C o σ) H y ts->d ts o R ->
 (∀l σ',R l->Stt X.K C l σ' H n->Keep C o σ H l σ' H->(∀j,j∉is->σ'[j]?=σ[j]?)->σ'.length=σ.length->Q σ' H)->g y σ H Q
def Qv(i:Nat):DTG:=fun t o R=>R (o.set i (some (.val t)))
def U3:DTGs:=fun ts l R=>match ts with|[]=>R l|_=>False
def Uo(d:DTG)(ds:DTGs):DTGs:=fun ts o R=>match ts with|t::ts=>d t o fun l=>ds ts l R|[]=>False
def U4(ds:DTGs):DTG:=fun t o R=>match t with|.tuple ts=>ds ts o R|_=>False
theorem zrH(y:X.N.Nodup)(hi:X.N[i]?=some x)(hx:Loc X.env.scope x)(hf:X.fn x=true\/X.env.scope.names.lookup x=some .local:=by walk_at "F"):DG X (.Name x pos) [i] (Qv i):=by
 refine⟨fun t G R h=>⟨_,h⟩,_,zqG y hi hx hf,fun C G σ H n v t Q R S r hd I=>?_⟩
 exact I _ _ hd (S.put r) UV (fun j J=>by rw[dI (fun z=>J (by simp[z]))]) (by simp)
theorem JD:DGs X [] [] U3:=by
 refine⟨fun ts l R h=>?_,fun ts l R h=>?_,_,zqF,fun C l σ H n v ts Q R S r hd o=>?_⟩
 ·cases ts with
  | nil=>rfl
  | cons _ _=>exact h.elim
 ·cases ts with
  | nil=>exact⟨_,h⟩
  | cons _ _=>exact h.elim
 ·cases r with
  | nil=>exact⟨rfl,o _ _ hd S Keep.refl (fun _ _=>rfl) rfl⟩
  | cons _ _=>exact hd.elim
theorem Jl(Y:DG X e is g)(G:DGs X es js gs)(hs:(assignEach (e::es) X.env).map (·.2)=assign e X.env::(assignEach es X.env).map (·.2):=by rfl):DGs X (e::es) (is++js) (Uo g gs):=by
 obtain⟨Z,ga,pa,Y⟩:=Y;obtain⟨l2,w2,gb,pb,G⟩:=G;refine⟨fun ts v R h=>?_,fun ts v R h=>?_,_,zoW pa pb hs,fun C v σ H n vs ts Q R S r hd hq=>?_⟩
 ·cases ts with
  | nil=>exact h.elim
  | cons t ts =>
   obtain⟨l,h'⟩:=Z t v _ h;simp[l2 ts l R h']
 ·cases ts with
  | nil=>exact h.elim
  | cons t ts =>
   obtain⟨l,h'⟩:=Z t v _ h;exact w2 ts l R h'
 ·cases r with
  | nil=>exact hd.elim
  | cons r rs =>
   refine⟨_,_,rfl,Y C v σ H n _ _ _ _ S r hd fun l σ' hr S' kp hj hl=>?_⟩
   refine G C l σ' H n _ _ _ _ S' (kp.reps S.hx rs) hr fun L I J S2 y U N=>?_
   exact hq L I J S2 (kp.trans y) (fun j o=>by rw[U j (fun z=>o (by simp[z])),hj j (fun z=>o (by simp[z]))]) (N.trans hl)
theorem JE(hc:X.calm=true)(h:DGs X es is gs)(L:(assignEach es X.env).length=es.length:=by rfl)(y:(assignEach es X.env).findIdx? (·.1)=none:=by rfl):DG X (.Tuple es k pos) is (U4 gs):=by
 obtain⟨l,w,g,pg,h⟩:=h;refine⟨fun t o R h=>?_,_,zsQ hc pg L y,fun C o σ H n v t Q R S r hd N=>?_⟩
 ·cases t with
  | tuple ts=>exact w ts o R h
  | _=>exact h.elim
 ·cases t with
  | tuple ts =>
   obtain⟨p,J,rfl,U,G⟩:=r.tupI;exact⟨p,J,rfl,U,by rw[G.length];exact l ts o R hd,h C o σ H n J ts Q R S G hd N⟩
  | _=>exact hd.elim
def sAsg(d:DTE)(g:DTG):DTS:=fun D o n=>d o n fun t v=>g t o fun l=>D.nx l v
theorem QA(h:DE X e d)(l:DG X tg is g)(N:swapsWithSole [tg] e pos.line X.env=pure false:=by rfl)(hw:swappedStores [tg] e X.env=pure none:=by rfl)
  (Y:(assignEach [tg] X.env).map (·.2)=[assign tg X.env]:=by rfl):DS X (.Assign [tg] e pos) (sAsg d g):=by
 obtain⟨ta,pa,h⟩:=h;obtain⟨w,Z,L,l⟩:=l;refine⟨_,VO pa L N hw Y,fun C I σ H n D D' S hd gd=>?_⟩
 refine h C I σ H n _ _ S hd fun t y v H' r G J q=>?_
 exact l C I σ H' y v t _ _ (S.on G J) q r fun o σ' U R kp _ _=>gd.nx o σ' H' y U R (G.keep.trans kp)
def sPar(i j:Nat)(ds:DTA):DTS:=fun D o n=>ds o n fun ts y=>match ts with|[t,u]=>D.nx ((o.set i (some (.val t))).set j (some (.val u))) y|_=>False
theorem zqf{kt k2 pt2}(hc:X.calm=true)(R:X.N.Nodup)(hi:X.N[i]?=some x)(hj:X.N[j]?=some y)(G:i≠j)
  (hx:X.env.scope.names.lookup x=some .local) (L:X.env.scope.names.lookup y=some .local) (h:DB X [a,b] ds)
  (hw:swappedStores [.Tuple [.Name x px,.Name y py] kt pt] (.Tuple [a,b] k2 pt2) X.env=pure (some [x,y]):=by rfl)
  (hs:swapsWithSole [.Tuple [.Name x px,.Name y py] kt pt] (.Tuple [a,b] k2 pt2) pos.line X.env=pure false:=by rfl) :
  DS X (.Assign [.Tuple [.Name x px,.Name y py] kt pt] (.Tuple [a,b] k2 pt2) pos) (sPar i j ds):=by
 obtain⟨ta,pa,h⟩:=h;refine⟨_,zsK hc R hi hj G hx L pa.pa hw hs,fun C Y σ H n D D' S hd g=>?_⟩
 refine h C Y σ H n _ _ S hd fun ts J vs H1 r I h1 v _=>?_
 cases v with
 | nil=>exact r.elim
 | cons Z v =>
  cases v with
  | nil=>exact r.elim
  | cons U v =>
   cases v with
   | cons _ _=>exact r.elim
   | nil =>
    have S1:=(S.on I h1).put (i:=i) Z;exact⟨_,_,rfl,g.nx _ _ H1 J r (S1.put (Keep.rep UV S.hx U)) ((I.keep.trans UV).trans UV)⟩
def Zc(i:Nat)(d:DTE):DTS:=fun D l n=>match l[i]? with
 | some (some (.own ts))=>d l n fun t v=>ts.length<16777216/\D.nx (l.set i (some (.own (ts++[t])))) v
 | _=>False
theorem Qm(i:Nat){L p2 I:Pos}(h:DE X e d)(hN:X.N[i]?=some x:=by rfl)(hv:Vis X.env.scope x:=by walk_at "V")(hd:(x == ("__debug__":Str))=false:=by rfl)
  (Z:(x == ("__classdict__":Str))=false:=by rfl) (hs:swapsWith (.Call (.Attribute (.Name x L) "append" p2) [e] [] I) none pos.line X.env=pure false:=by rfl)
  (Iq:attributeBase (.Name x L) "append" X.env (eval (.Name x L) X.env)=eval (.Name x L) X.env:=by rfl)
  (IY:((backTo I (starEach [e] X.env)).all (fun x=>!x.1)&&(backToKw I (keywordEach [] X.env)).all (fun x=>x.1.isSome)
   && decide ([e].length+([]:List ud).length+(if ([]:List ud).isEmpty then 0 else 1)<30))=true:=by rfl)
  (Ir:(p2.endLine == I.line)=true:=by rfl) (R:starEach [e] X.env=[(false,eval e X.env)]:=by rfl):DS X (.Expr (.Call (.Attribute (.Name x L) "append" p2) [e] [] I) pos) (Zc i d):=by
 obtain⟨ta,pa,h⟩:=h;refine⟨_,zqB (zwp PySem.F.plainAttrs_list PySem.F.slot_list_append PySem.F.type_list_append zfa (UL hN hv hd Z) (Za pa ZY R) Iq IY Ir R rfl) hs,fun C ρ σ H n D D' S hd g=>?_⟩
 unfold Zc at hd;split at hd
 ·rename_i ts U;obtain⟨p,vs,h1,h2,h3,h4⟩:=S.own i ts U;refine⟨.ref p,h1,.inl ⟨rfl,_,SqL.of h2⟩,?_⟩;refine h C ρ σ H n _ _ S hd fun t n' v H' r e1 hn q=>?_
  have S1:=S.on e1 hn;obtain⟨p',vs',G,Y,J,h4'⟩:=S1.own i ts U;rw[h1]at G;cases G;refine⟨p,vs',v,rfl,rfl,Y,by rw[J.length];exact r.1,?_⟩
  obtain⟨S2,k2⟩:=S1.chg U h1 (J.append (.cons q .nil));exact g.nx _ _ _ n' r.2 S2 (e1.keep.trans k2)
 ·exact hd.elim
def sPut(i:Nat)(v d:DTE):DTS:=fun D l n=>d l n fun t y=>match l[i]? with
 | some (some (.own ts))=>v l y fun j C=>match j with|.int j=>(match ixN ts.length j with|some k=>D.nx (l.set i (some (.own (ts.set k t)))) C|none=>False)|_=>False
 | _=>False
theorem zuF(i:Nat){dj:DTE}{l p2:Pos}(Z:DE X b dj)(h:DE X e d)(hN:X.N[i]?=some x:=by rfl)(hv:Vis X.env.scope x:=by walk_at "V")(hd:(x == ("__debug__":Str))=false:=by rfl)
  (hcd:(x == ("__classdict__":Str))=false:=by rfl) (hs:swapsWithSole [.Subscript (.Name x l) b p2] e pos.line X.env=pure false:=by rfl) (hw:swappedStores [.Subscript (.Name x l) b p2] e X.env=pure none:=by rfl)
  (G:(assignEach [.Subscript (.Name x l) b p2] X.env).map (·.2)=[assign (.Subscript (.Name x l) b p2) X.env]:=by rfl)
  (hsub:PG X (.Subscript (.Name x l) b p2)=PG X (.Subscript (.Name x l) b p2):=rfl) (pg:∀{to ti:TE} {t:TSet},PE X (.Name x l) to->PE X b ti->PSet X t->PG X (.Subscript (.Name x l) b p2) (L2.gSub to ti t):=by intro _ _ _ G h2 h3;exact pg_sub G h2 h3) :
  DS X (.Assign [.Subscript (.Name x l) b p2] e pos) (sPut i dj d):=by
 obtain⟨ta,pa,h⟩:=h;obtain⟨tj,pj,Z⟩:=Z;refine⟨_,VO pa (pg (UL hN hv hd hcd) pj set_list) hs hw G,fun C U σ H n D D' S hd g=>?_⟩
 refine h C U σ H n _ _ S hd fun t n1 v H1 r e1 hn q=>?_
 have S1:=S.on e1 hn;split at r
 ·rename_i ts L;obtain⟨p,vs,G,h2,h3,h4⟩:=S1.own i ts L;refine⟨.ref p,G,Z C U σ H1 n1 _ _ S1 r fun j n2 w H2 y e2 Y q2=>?_⟩
  have S2:=S1.on e2 Y;cases j with
  | int j =>
   have y:(match ixN ts.length j with|some k=>D'.nx (U.set i (some (.own (ts.set k t)))) n2|none=>False):=y
   cases ek:ixN ts.length j with
   | none=>rw[ek]at y;exact y.elim
   | some m =>
    rw[ek]at y;obtain⟨p',vs',I,R,J,h4'⟩:=S2.own i ts L;rw[G]at I;cases I;refine⟨p,vs',j,m,rfl,q2.intI,R,by rw[J.length];exact ek,?_⟩
    obtain⟨S3,k3⟩:=S2.chg L G (J.set (e2.rep S.hx q) m);exact g.nx _ _ _ n2 y S3 ((e1.trans e2).keep.trans k3)
  | _=>exact y.elim
 ·exact r.elim
def zl_(c:DTT)(G:DTS):DTS:=fun D o n=>∃W:Nat->En->Nat->Prop,(∃m,W m o n)/\∀m o n,W m o n ->
 c o n fun b C=>if b=true then G { D with nx:=fun l y=>∃v,v<m/\W v l y,ct:=fun l y=>∃v,v<m/\W v l y,bk:=D.nx } o C else D.nx o C
theorem zg8(hp:oR (model X.prog X.w) X.A X.env X.xe)(hc:DT X c dt)(hb:DSs X sa t):DS X (.While c sa [] pos) (zl_ dt t):=by
 obtain⟨tc,pc,hc⟩:=hc;obtain⟨tb,pb,hb⟩:=hb;refine⟨_,zoR hp pc pb,fun C ρ σ H n D D' S hd g=>?_⟩
 obtain⟨W,⟨m0,w0⟩,turn⟩:=hd;refine⟨fun m L H1=>∃G Y,W m G Y/\Stt X.K C G L H1 Y/\Keep C ρ σ H G L H1,⟨m0,ρ,n,w0,S,Keep.refl⟩,?_⟩
 rintro m L H1 ⟨G,Y,w1,S1,k1⟩;refine hc C G L H1 Y _ _ S1 (turn m G Y w1) fun b n2 H2 r e2 hn2=>?_
 have S2:=S1.on e2 hn2;have R:=k1.trans e2.keep;cases b with
 | true =>
  refine iteT ⟨fun σ' H'=>∃J,J<m/\∃y I,W J y I/\Stt X.K C y σ' H' I/\Keep C ρ σ H y σ' H',fun σ' H' ⟨J,Z,z⟩=>⟨J,Z,z⟩,?_⟩
  refine hb C G L H2 n2 _ { D' with nx:=fun y I=>∃J,J<m/\W J y I,ct:=fun y I=>∃J,J<m/\W J y I,bk:=D'.nx } S2 (by simpa using r) ⟨?_,fun t I v H' h hn N r=>g.rt t I v H' h hn (fun a o ha U no=>?_) r,?_,?_,fun c I H' h hn N=>g.xr c I H' h hn fun a o ha U no=>N a o (R a o ha U no).1 U (R a o ha U no).2⟩
  ·rintro y σ' H' I ⟨J,Z,w'⟩ S' N;exact⟨J,Z,y,I,w',S',R.trans N⟩
  ·obtain⟨q1,q2⟩:=R a o ha U no;exact N a o q1 U q2
  ·intro y σ' H' I h' S' N;exact g.nx y σ' H' I h' S' (R.trans N)
  ·rintro y σ' H' I ⟨J,Z,w'⟩ S' N;exact⟨J,Z,y,I,w',S',R.trans N⟩
 | false=>exact iteF (g.nx G L H2 n2 (by simpa using r) S2 R)
end
def ItOk(K:qF)(hd:Option au)(P O:au->Prop)(H:Hp)(J:It)(ts:qD):Prop:=∀(u:au->Prop) (l:Hp),(∀a o,H a=some o->P a->l a=some o)->(∀a o,H a=some o->¬O a->¬u a)->(∀a,u a->l a≠none) ->
 (∀i t,ts[i]?=some t->J.go i l/\∀x v,J.yld i l x v->Same l v/\Rep K hd u v x t)/\J.stop ts.length l
def DI(X:Cx)(tg iter:aZ)(d:DTA):Prop:=∃u,PI X tg iter u/\∀(C:Ctx) (l:En) (σ:St) (H:Hp) (n:Nat) (Q:It->Hp->Prop) (R:List ae->Nat->Prop),Stt X.K C l σ H n->d l n R ->
 (∀ts o J H',R ts o->ExtE C.hd H H'->Hn C.hd H' o->ItOk X.K C.hd (fun a=>¬Own C l σ a) (Own C l σ) H' J ts->Q J H')->u σ H Q
def DIL(X:Cx)(tg iter:aZ)(d:DTA):Prop:=∃u,PI X tg iter u/\∀(C:Ctx) (l:En) (σ:St) (H:Hp) (n:Nat) (Q:It->Hp->Prop) (R:List ae->Nat->Prop),Stt X.K C l σ H n->d l n R ->
 (∀ts o J H',R ts o->ExtE C.hd H H'->Hn C.hd H' o->ItOk X.K C.hd (fun a=>C.hd≠some a) (Own C l σ) H' J ts->Q J H')->u σ H Q
section
variable{X:Cx}{a b c e tg iter:aZ}{es rest:List aZ}{d da db dc:DTE}{ds di:DTA}{dt:DTT}{t u:DTS}{st:eS}{sts sa sb:List eS}{pos p:Pos}{k:Nat}{x:Str}
theorem dil(h:DI X tg iter di):DIL X tg iter di:=by
 obtain⟨N,pi,h⟩:=h;refine⟨N,pi,fun C Z σ H n Q R S hd hq=>h C Z σ H n Q R S hd fun ts v J H' r U I it=>hq ts v J H' r U I ?_⟩
 exact fun y G h1 L Y=>it y G (fun a o ha no=>h1 a o ha fun z=>no (.inl (S.hx a z))) L Y
theorem Reps.getP{K:qF}{hd:Option au}{O:au->Prop}{H:Hp}{vs ts}{i:Nat}{t}{x:V}(r:Reps K hd O H vs ts)(h:ts[i]?=some t)(hx:vs[i]?=some x):Rep K hd O H x t:=by
 obtain⟨v,l,o⟩:=r.get h;rw[hx]at l;cases l;exact o
theorem V2{K:qF}{hd:Option au}{P O:au->Prop}{H:Hp}{q:au}{vs ts}(U:H q=some (.lst vs))(Y:P q)(Z:∀a,¬O a->P a)(r:Reps K hd O H vs ts):ItOk K hd P O H (Itl K q) ts:=by
 intro N R L S _;have y:=L q _ U Y;have J:Reps K hd N R vs ts:=r.mono (fun a o G z=>gO fun no=>S a o G no z) fun a o no G=>L a o G (Z a no)
 refine⟨fun i t I=>?_,⟨vs,.of y,by rw[r.length];exact aE _⟩⟩
 obtain⟨v,ev,rv⟩:=J.get I;refine⟨⟨vs,v,.of y,ev⟩,fun x H3 C=>?_⟩
 obtain⟨rfl,C⟩:=C;exact⟨Same.refl _,J.getP I (C vs (.of y))⟩
theorem zp3{K:qF}{hd:Option au}{P O:au->Prop}{H:Hp}{v:V}{ts}(Y:∀a,¬O a->P a)(r:Rep K hd O H v (.tuple ts)):∃q y,v=.ref q/\SqT K H q y/\ItOk K hd P O H (Itt K q) ts:=by
 have key:∀q y,Reps K hd O H y ts->(∀(I:au->Prop) (G:Hp),(∀a o,H a=some o->P a->G a=some o)->(∀a o,H a=some o->¬O a->¬I a)->SqT K G q y)->ItOk K hd P O H (Itt K q) ts:=by
  intro q y r Z I G J S _;have C:=Z I G J S;have U:Reps K hd I G y ts:=r.mono (fun a o N z=>gO fun no=>S a o N no z) fun a o no N=>J a o N (Y a no)
  refine⟨fun i t R=>?_,⟨y,C,by rw[r.length];exact aE _⟩⟩
  obtain⟨v,ev,rv⟩:=U.get R;refine⟨⟨y,v,C,ev⟩,fun x H3 L=>?_⟩
  obtain⟨rfl,L⟩:=L;exact⟨Same.refl _,U.getP R (L y C)⟩
 cases r with
 | @tup q y ds h o r=>exact⟨q,y,rfl,.inl (.inl h),key q y r fun I G J _=>.inl (.inl (J q _ h (Y q o)))⟩
 | @tupS q y ds h r=>exact⟨q,y,rfl,h.sq,key q y r fun I G _ _=>h.sq⟩
def dItL(d:DTE):DTA:=fun v n R=>d v n fun t o=>match t with|.list ts=>R ts o|_=>False
def dItT(d:DTE):DTA:=fun v n R=>d v n fun t o=>match t with|.tuple ts=>R ts o|_=>False
theorem Yb(h:DE X iter d):DI X tg iter (dItL d):=by
 obtain⟨Y,pa,h⟩:=h;refine⟨_,zmu pa,fun C L σ H n Q R S hd U=>?_⟩
 refine h C L σ H n _ _ S hd fun t y v H' r J I q=>?_
 cases t with
 | list ts =>
  obtain⟨p,N,rfl,l,no,G⟩:=q.lstI;exact⟨p,rfl,⟨N,.of l⟩,U ts y _ H' r J I (V2 l no (fun _ z=>z) G)⟩
 | _=>exact r.elim
theorem zpv(h:DL X iter d):DIL X tg iter (dItL d):=by
 obtain⟨ta,pa,h⟩:=h;refine⟨_,zmu pa,fun C ρ σ H n Q R S hd Z=>?_⟩
 refine h C ρ σ H n _ _ S hd fun t L v H' r Y N q=>?_
 cases t with
 | list ts =>
  rcases q with q|⟨p,J,ds,rfl,I,y,G,U⟩|⟨p,zs,ep,ks,rfl,I,y,G,U⟩
  rotate_left 2
  ·cases I
  ·obtain⟨p,J,rfl,y,no,G⟩:=q.lstI;exact⟨p,rfl,⟨J,.of y⟩,Z ts L _ H' r Y N (V2 y (fun z=>no (.inl (S.hx p z))) (fun a no z=>no (.inl (S.hx a z))) G)⟩
  ·cases I;exact⟨p,rfl,⟨J,.of y⟩,Z ts L _ H' r Y N (V2 y U (fun a no z=>no (.inl (S.hx a z))) G)⟩
 | _=>exact r.elim
theorem JR(h:DE X iter d):DI X tg iter (dItT d):=by
 obtain⟨N,pa,h⟩:=h;refine⟨_,zsO pa,fun C l σ H n Q R S hd J=>?_⟩
 refine h C l σ H n _ _ S hd fun t o v H' r G y q=>?_
 cases t with
 | tuple ts =>
  obtain⟨p,I,rfl,L,it⟩:=zp3 (P:=fun a=>¬Own C l σ a) (fun _ z=>z) q
  exact⟨p,rfl,⟨I,L⟩,J ts o _ H' r G y it⟩
 | _=>exact r.elim
def Qj(lo:Int)(n:Nat):List ae:=(dW n).map fun(i:Nat)=>bN (lo+(i:Int))
theorem zpg{K:qF}{hd:Option au}{P O:au->Prop}{H:Hp}{lo:Int}{m:Nat}:ItOk K hd P O H (Itr lo m) (Qj lo m):=by
 intro G C _ _ _;refine⟨fun i t o=>?_,by show m<=(Qj lo m).length;simp[Qj]⟩
 unfold Qj at o;rw[bp]at o
 by_cases hi:i<m
 ·rw[nC hi]at o;cases o;refine⟨hi,fun x y v=>?_⟩
  obtain⟨rfl,rfl⟩:=v;exact⟨Same.refl _,.int _⟩
 ·rw[cP (by simp;omega)]at o
  cases o
def Zs(d:DTE):DTA:=fun o n R=>d o n fun t l=>match t with|.int j=>(-(2 ^ 62)<=j/\j<2 ^ 62)/\R (Qj 0 j.toNat) l|_=>False
theorem Vn(Y:X.mg "range" = none) (h:DE X a d) (I:Gl X "range":=by rfl) (o:starEach [a] X.env=[(false,eval a X.env)]:=by rfl):DI X tg (.Call (.Name "range" p) [a] [] pos) (Zs d):=by
 obtain⟨Z,pa,h⟩:=h;refine⟨_,zmt I Y (Za pa ZY o) o,fun C L σ H n Q R S hd U=>?_⟩
 refine h C L σ H n _ _ S hd fun t y v H' r J G q=>?_
 cases t with
 | int j =>
  rw[q.intI];exact⟨j,rfl,r.1.1,r.1.2,U _ y _ H' r.2 J G zpg⟩
 | _=>exact r.elim
def forP(g:DTG)(l:DTS)(D:Qb):List ae->En->Nat->Prop
 | [],ρ,n=>D.nx ρ n
 | t::ts,ρ,n=>g t ρ fun o=>l { D with nx:=forP g l D ts,ct:=forP g l D ts,bk:=D.nx } o n
def sFor(di:DTA)(g:DTG)(o:DTS):DTS:=fun D l n=>di l n fun ts v=>forP g o D ts l v
theorem Qg(hp:oR (model X.prog X.w) X.A X.env X.xe)(hc:X.calm=true)(hi:DI X tg iter di)(hg:DG X tg is g)(hb:DSs X sa t)
  (hs:∀x,foldedSetIterable iter X.env x=pure x:=by intro _;rfl):DS X (.For tg iter sa [] pos) (sFor di g t):=by
 obtain⟨wi,pi,hi⟩:=hi;obtain⟨_,gg,pg,hg⟩:=hg;obtain⟨tb,pb,hb⟩:=hb;refine⟨_,zsL hp hc pi pg pb hs,fun C ρ σ H n D D' S hd gd=>?_⟩
 refine hi C ρ σ H n _ _ S hd fun ts n1 J H1 r e1 hn it=>?_
 have S1:=S.on e1 hn;refine⟨fun i m L Z=>m=ts.length - i/\i<=ts.length/\∃I n2,forP g t D' (ts.drop i) I n2/\Stt X.K C I L Z n2/\Keep C ρ σ H1 I L Z,⟨ts.length,by simp,cJ _,ρ,n1,by simpa using r,S1,Keep.refl⟩,?_⟩
 rintro i m L Z ⟨rfl,hi',I,n2,f2,S2,k2⟩;have itq:=it (Own C I L) Z (fun a o U no=>(k2 a o U (fun z=>no (.inl (S.hx a z))) fun z=>no (.inr z)).1) (fun a o U no z=>z.elim (fun z=>no (.inl z)) fun z=>(k2 a o U (fun y=>no (.inl (S.hx a y))) fun y=>no (.inr y)).2 z) (fun a=>S2.dom)
 by_cases hlt:i<ts.length
 ·have et:ts[i]?=some ts[i]:=ak hlt;obtain⟨go,yl⟩:=itq.1 i _ et;rw[bf hlt]at f2;refine .inr ⟨go,fun σ' H'=>∃G N,forP g t D' (ts.drop (i+1)) G N/\Stt X.K C G σ' H' N/\Keep C ρ σ H1 G σ' H',fun σ' H' z=>⟨ts.length - (i+1),by omega,rfl,hlt,z⟩,fun x H3 hy=>?_⟩
  obtain⟨sm,rx⟩:=yl x H3 hy;have S3:=S2.on sm.ext (S2.hnd.same sm);have k3:Keep C ρ σ H1 I L H3:=k2.trans (Same.ext sm:ExtE C.hd Z H3).keep;refine hg C I L H3 n2 x _ _ _ S3 rx f2 fun ρ4 σ4 r4 S4 k4 _ _=>?_
  have k5:=k3.trans k4;refine hb C ρ4 σ4 H3 n2 _ { D' with nx:=forP g t D' (ts.drop (i+1)),ct:=forP g t D' (ts.drop (i+1)),bk:=D'.nx } S4 r4 ⟨fun G σ' H' N h' S' R=>⟨G,N,h',S',k5.trans R⟩,fun t N v H' h Y R rp=>gd.rt t N v H' h Y (fun a o U nh no=>?_) rp,fun G σ' H' N h' S' R=>gd.nx G σ' H' N h' S' (e1.keep.trans (k5.trans R)),fun G σ' H' N h' S' R=>⟨G,N,h',S',k5.trans R⟩,fun c N H' h Y R=>gd.xr c N H' h Y fun a o U nh no=>R a o ((e1.keep.trans k5) a o U nh no).1 nh ((e1.keep.trans k5) a o U nh no).2⟩
  obtain⟨q1,q2⟩:=(e1.keep.trans k5) a o U nh no;exact R a o q1 nh q2
 ·have e:i=ts.length:=by omega
  subst e;rw[gH]at f2;exact .inl ⟨itq.2,gd.nx I L Z n2 f2 S2 (e1.keep.trans k2)⟩
def Qh(N:List Str)(ts:qD):En:=ts.map (fun t=>some (.val t))++bZ (N.length - ts.length) none
theorem zlZ{K:qF}{hd:Option au}{O:au->Prop}{H:Hp}{n:Nat}{N:List Str}{y:List V}{ts:qD}(r:Reps K hd O H y ts)(G:Hn hd H n)(dom:∀a,O a->MutO (H a))(hx:∀a,hd=some a->O a) :
  Stt K ⟨hd,O⟩ (Qh N ts) (start N y) H n/\∀a,¬OwnS (Qh N ts) (start N y) a:=by
 have get:∀(i:Nat) c,(Qh N ts)[i]?=some (some c)->∃t,c=.val t/\ts[i]?=some t:=fun i c h=>by
  unfold Qh at h
  by_cases hi:i<ts.length
  ·rw[bW (by simpa using hi),bp]at h
   cases e:ts[i]? with
   | none=>rw[e]at h;cases h
   | some t=>rw[e]at h;cases h;exact⟨t,rfl,rfl⟩
  ·rw[bG (by simpa using hi),eO]at h
   split at h <;> cases h
 have no:∀a,¬OwnS (Qh N ts) (start N y) a:=fun a ⟨i,ds,m,J,_⟩=>by
  obtain⟨t,e,_⟩:=get i _ J;subst e;cases m
 refine⟨.mk' (by unfold Qh start;simp[r.length]) (fun i d h=>?_) (fun i ds m h=>?_) (fun i L h=>by obtain⟨t,e,_⟩:=get i _ h;cases e) (fun i j ds es a m _ h=>?_) G dom hx,no⟩
 ·obtain⟨t,e,C⟩:=get i _ h;cases e;obtain⟨v,ev,I⟩:=r.get C;refine⟨v,?_,I.mono (fun a o _ z=>z.elim id fun z=>absurd z (no a)) fun _ _ _ z=>z⟩
  unfold start;have hi:i<y.length:=by
   rcases cz i y.length with z|z
   ·exact z
   ·rw[cP z]at ev;cases ev
  rw[bW (by simpa using hi),bp,ev];rfl
 ·obtain⟨t,e,_⟩:=get i _ h;subst e;cases m
 ·obtain⟨t,e,_⟩:=get i _ h;subst e;cases m
end
end L2
namespace Bd
open PySem L2 PyProof.Rows
theorem Def.okD{P:aQ}{w:bz}{K:qF}{mg:qM}{base:bq}{x:Str}{st:eS}{ps N:List Str}{f:au}{fd:dJ}{k m:Nat}{g:GD}(D:Def K mg x st ps f fd)(S:UQ N ps (JZ st))(hm:m=ps.length)
  (hb:∀(l:ah) (A:br) (outer:List Env) (s:aw) (H:Hp) (E:XK),Room k (A.deeper (envOfC x (JZ st) s.heap.objs.size f l))->∃d,DSs (cxOf CX0 P w K mg base N x (JZ st) f l A outer s H E).nox (Qr st) d /\
   ∀ts n R,ts.length=m->g ts n R->d { nx:=fun _ u=>R .none u,rt:=R } (Qh N ts) n):FnOk P w K mg base CX0 (k+1) f fd ps (spD K m g):=by
 refine D.F.ok S (fun vs H Q E h=>?_) (fun l A outer s H vs Q E hr h=>?_)
 ·obtain⟨hd,O,ts,n,R,r,_,_,_,L,_⟩:=h;rw[r.length,L,hm]
 ·obtain⟨hd,O,ts,n,R,r,Z,dom,hx,L,hg,U⟩:=h;obtain⟨d,⟨t,pt,ht⟩,J⟩:=hb l A outer s H E hr;obtain⟨S0,no⟩:=zlZ (N:=N) r Z dom hx;refine⟨t,pt,ht ⟨hd,O⟩ _ _ H n _ _ S0 (J ts n R L hg) ⟨fun ρ' σ' H' u h S' I=>?_,fun t u v H' h y I Y=>?_,fun _ _ _ _ h=>h.elim,fun _ _ _ _ h=>h.elim,fun _ _ _ h=>h.elim⟩⟩
  ·exact U .none u .non H' h (fun a o G C=>(I a o G C (no a)).1) S'.hnd .non
  ·exact U t u v H' h (fun a o G C=>I a o G C (no a)) y Y
end Bd
namespace L2
open PySem PySem.Spec PyProof.Rows
def DTs(Y:Cx)(ifs:List aZ)(d:DTT):Prop:=∃u,PTs Y ifs u/\∀(C:Ctx) (o:En) (σ:St) (H:Hp) (n:Nat) (Q:Bool->Hp->Prop) (R:Bool->Nat->Prop),Stt Y.K C o σ H n->d o n R ->
 (∀b l H',R b l->ExtE C.hd H H'->Hn C.hd H' l->Q b H')->u σ H Q
def dYes:DTT:=fun _ n R=>R true n
section
variable{Y:Cx}{c:aZ}{d:DTT}
theorem Uw:DTs Y [] dYes:=⟨_,zqz,fun C o σ H n Q R S h l=>l true n H h ExtE.refl S.hnd⟩
theorem UN(h:DT Y c d):DTs Y [c] d:=by
 obtain⟨l,p,h⟩:=h;exact⟨_,zqy p,h⟩
end
theorem DE.uni{y:Type}{Xf:y->Cx}{K:qF}(x:∀i,(Xf i).K=K){e:aZ}{d:DTE}(h:∀i,DE (Xf i) e d):∃u:TE,(∀i,PE (Xf i) e u)/\∀(C:Ctx) (l:En) (σ:St) (H:Hp) (n:Nat) (Q:VK) (R:qN),Stt K C l σ H n->d l n R ->
  (∀t o v H',R t o->ExtE C.hd H H'->Hn C.hd H' o->Rep K C.hd (Own C l σ) H' v t->Q v H')->u σ H Q:=by
 refine⟨fun σ H Q=>∀i,(iG (h i)) σ H Q,fun i ad s σ H Q I hw=>(cQ (h i)).1 ad s σ H Q I (hw i),fun C l σ H n Q R S hd G i=>?_⟩
 have:=(cQ (h i)).2 C l σ H n Q R;exact this (by rw[x i];exact S) hd fun t o v H' r e h q=>G t o v H' r e h (by rw[<- x i];exact q)
theorem DTs.uni{v:Type}{Xf:v->Cx}{K:qF}(y:∀i,(Xf i).K=K){e:List aZ}{d:DTT}(h:∀i,DTs (Xf i) e d):∃u:TT,(∀i,PTs (Xf i) e u)/\∀(C:Ctx) (l:En) (σ:St) (H:Hp) (n:Nat) (Q:Bool->Hp->Prop) (R:Bool->Nat->Prop),Stt K C l σ H n->d l n R ->
  (∀b o H',R b o->ExtE C.hd H H'->Hn C.hd H' o->Q b H')->u σ H Q:=by
 refine⟨fun σ H Q=>∀i,(iG (h i)) σ H Q,fun i ad s σ H Q I hw=>(cQ (h i)).1 ad s σ H Q I (hw i),fun C l σ H n Q R S hd x i=>?_⟩
 have:=(cQ (h i)).2 C l σ H n Q R;exact this (by rw[y i];exact S) hd x
theorem DG.uni{G:Type}[Nonempty G]{Xf:G->Cx}{K:qF}(x:∀i,(Xf i).K=K){e:aZ}{is:List Nat}{d:DTG}(h:∀i,DG (Xf i) e is d):∃y:TG,(∀i,PG (Xf i) e y)/\∀(C:Ctx) (o:En) (σ:St) (H:Hp) (n:Nat) (v:V) (t:ae) (Q:St->Hp->Prop) (R:En->Prop),Stt K C o σ H n->Rep K C.hd (Own C o σ) H v t->d t o R ->
  (∀l σ',R l->Stt K C l σ' H n->Keep C o σ H l σ' H->(∀j,j∉is->σ'[j]?=σ[j]?)->σ'.length=σ.length->Q σ' H)->y v σ H Q:=by
 refine⟨fun v σ H Q=>∀i,(iG (h i).2) v σ H Q,fun i ad s σ H v u Q I r hw=>(cQ (h i).2).1 ad s σ H v u Q I r (hw i),fun C o σ H n v t Q R S r hd J i=>?_⟩
 have:=(cQ (h i).2).2 C o σ H n v t Q R;exact this (by rw[x i];exact S) (by rw[x i];exact r) hd fun l σ' N L=>J l σ' N (by rw[<- x i];exact L)
theorem Wk.of:∀{σ σ':St},σ.length=σ'.length->(∀(i:Nat) v,σ[i]?=some (some v)->σ'[i]?=some (some v))->Wk σ σ'
 | [],[],_,_=>trivial
 | [],_::_,h,_=>by simp at h
 | _::_,[],h,_=>by simp at h
 | none::r,o::r',h,k=>Wk.of (σ:=r) (σ':=r') (by simpa using h) fun i v e=>by simpa using k (i+1) v (by simpa using e)
 | some w::r,o::r',h,k=>⟨by simpa using k 0 w rfl,Wk.of (by simpa using h) fun i v e=>by simpa using k (i+1) v (by simpa using e)⟩
def capV:Option Cell->Option Cell
 | some (.val d)=>some (.val d)
 | some (.dct ks)=>some (.rdo ks)
 | some (.rdo ks)=>some (.rdo ks)
 | _=>none
def Jz(m:Nat)(capt:List Nat)(l:En):En:=bZ m none++capt.map fun i=>capV (l.getD i none)
def JS(g:DTG)(tt:DTT)(o:DTE)(ρ0:En):List ae->List ae->Nat->(List ae->Nat->Prop)->Prop
 | [],acc,n,R=>R acc n
 | x::xs,acc,n,R=>g x ρ0 fun l=>tt l n fun b u=>if b=true then o l u fun t v=>acc.length<16777216/\JS g tt o ρ0 xs (acc++[t]) v R else JS g tt o ρ0 xs acc u R
def dComp(m:Nat)(capt:List Nat)(v:DTA)(g:DTG)(tt:DTT)(u:DTE):DTA:=fun l n R=>v l n fun ts o=>JS g tt u (Jz m capt l) ts [] o R
theorem zlP{own:List Str}{capt is:List Nat}{σ o:St}(u:∀i∈is,i<own.length)(x:∀j,j∉is->o[j]?=(Jx own++capS capt σ)[j]?){j:Nat}{v:V}(l:(Jx own++capS capt σ)[j]?=some (some v)):o[j]?=some (some v):=by
 by_cases hjo:j<own.length
 ·rw[bW (by simpa using hjo),bp]at l
  cases z:own[j]? with
  | none=>rw[z]at l;cases l
  | some q=>rw[z]at l;cases l
 ·rw[x j (fun z=>hjo (u j z))];exact l
theorem ExtE.updR{hd:Option au}{l v:Hp}{D:au}{o:HO}(C:l D=none)(e:ExtE hd l v):ExtE hd l (upd v D o):=fun a u x y=>by
 rw[Ju (Q8 x C)];exact e a u x y
theorem Hn.updR{hd:Option au}{u:Hp}{D:au}{o:HO}{n:Nat}(l:hd≠some D)(h:Hn hd u n):Hn hd (upd u D o) n:=fun a v=>by
 obtain⟨d,m,t,q,rest⟩:=h a v;exact⟨d,m,t,by rw[Ju (show a≠D from fun z=>l (by rw[<- z];exact v))];exact q,rest⟩
section
variable{X:Cx}{scope:fA}{own:List Str}{capt:List Nat}{elt tg iter:aZ}{ifs:List aZ}{pos:Pos}{di:DTA}{is:List Nat}{g:DTG}{tt:DTT}{te:DTE}
theorem zg6{x:En}{i:Nat}{c:Cell}(h:capV (x.getD i none)=some c):(∃d,c=.val d/\x[i]?=some (some (.val d)))\/∃u,c=.rdo u/\(x[i]?=some (some (.dct u))\/x[i]?=some (some (.rdo u))):=by
 rw[aX]at h;cases e:x[i]? with
 | none=>rw[e]at h;cases h
 | some o =>
  rw[e]at h;cases o with
  | none=>cases h
  | some y =>
   cases y with
   | val d'=>simp[capV]at h;exact .inl ⟨d',h.symm,rfl⟩
   | own _=>simp[capV]at h
   | dct u=>simp[capV]at h;exact .inr ⟨u,h.symm,.inl rfl⟩
   | dtt u=>simp[capV]at h
   | rdo u=>simp[capV]at h;exact .inr ⟨u,h.symm,.inr rfl⟩
theorem ziy{K:qF}{C:Ctx}{u:En}{σ:St}{H L:Hp}{n n2:Nat}{D:au}(S:Stt K C u σ H n)(e:ExtE C.hd H L)(hn:Hn C.hd L n2)(hD:H D=none)(hy:MutO (L D)) :
  Stt K ⟨C.hd,fun a=>Own C u σ a\/a=D⟩ (Jz own.length capt u) (Jx own++capS capt σ) L n2/\∀a,¬OwnS (Jz own.length capt u) (Jx own++capS capt σ) a:=by
 have get:∀(i:Nat) c,(Jz own.length capt u)[i]?=some (some c)->∃j,capV (u.getD j none)=some c/\own.length<=i/\capt[i - own.length]?=some j:=fun i c h=>by
  unfold Jz at h
  by_cases hi:i<own.length
  ·rw[bW (by simpa using hi),eO]at h
   split at h <;> cases h
  ·rw[bG (by simpa using hi),iE,bp]at h
   cases ej:capt[i - own.length]? with
   | none=>rw[ej]at h;cases h
   | some j =>
    rw[ej]at h;exact⟨j,by simpa using h,by omega,rfl⟩
 have slot:∀(i j:Nat) (v:V),own.length<=i->capt[i - own.length]?=some j->σ[j]?=some (some v)->(Jx own++capS capt σ)[i]?=some (some v):=fun i j v hi J y=>by
  rw[bG (by simpa using hi)]
  simp only[aM,bp,J,fx];rw[aX,y];rfl
 have nm:∀(i:Nat) (c:Cell),c.mine=true->(Jz own.length capt u)[i]?=some (some c)->False:=fun i c m h=>by
  obtain⟨j,U,_⟩:=get i c h;rcases zg6 U with⟨d,rfl,_⟩|⟨Y,rfl,_⟩ <;> cases m
 have no:∀a,¬OwnS (Jz own.length capt u) (Jx own++capS capt σ) a:=fun a ⟨i,c,m,y,_⟩=>nm i c m y
 have S2:=S.on e hn;have sub:∀a o,H a=some o->Own ⟨C.hd,fun a=>Own C u σ a\/a=D⟩ (Jz own.length capt u) (Jx own++capS capt σ) a->Own C u σ a:=fun a o x z=>by
  rcases z with z|z
  ·rcases z with z|z
   ·exact z
   ·subst z;rw[hD]at x;cases x
  ·exact absurd z (no a)
 have kp:∀a o,¬Own C u σ a->H a=some o->L a=some o:=fun a o nO x=>e a o x fun z=>nO (.inl (S.hx a z))
 refine⟨.mk' (by unfold Jz;simp) (fun i d h=>?_) (fun i ds m h=>(nm i _ m h).elim) (fun i Y h=>?_) (fun i j ds es a m _ h=>(nm i _ m h).elim) hn (fun a x=>?_) (fun a x=>.inl (.inl (S.hx a x))),no⟩
 ·obtain⟨j,U,hi,J⟩:=get i _ h;rcases zg6 U with⟨d',z,G⟩|⟨Y,z,_⟩
  ·cases z;obtain⟨v,y,N⟩:=S.val j d G;exact⟨v,slot i j v hi J y,N.mono sub kp⟩
  ·cases z
 ·obtain⟨j,U,hi,J⟩:=get i _ h;rcases zg6 U with⟨d',z,G⟩|⟨ks',z,G⟩
  ·cases z
  ·cases z;rcases G with G|G
   ·obtain⟨a,I,y,N,Z,h4⟩:=S.dct j Y G;have R:C.hd≠some a:=fun z=>h4 (S.hx a z)
    exact⟨a,I,slot i j _ hi J y,e a _ N R,Z.mono sub kp,.inl (.inr ⟨j,.dct Y,rfl,G,y⟩),R⟩
   ·obtain⟨a,I,y,N,Z,h4,R⟩:=S.rdo j Y G;exact⟨a,I,slot i j _ hi J y,e a _ N R,Z.mono sub kp,.inl (.inl h4),R⟩
 ·rcases x with x|rfl
  ·exact S2.lst x
  ·exact hy
theorem zkB{K:qF}{C:Ctx}{o:En}{σ:St}{H u:Hp}{n v:Nat}{D:au}{ys:List V}(S:Stt K C o σ H n)(e:ExtE C.hd H u)(y:Hn C.hd u v)(G:H D=none)(x:u D=some (.lst ys)) :
  Stt K ⟨C.hd,fun a=>Own C o σ a\/a=D⟩ (Jz own.length capt o) (Jx own++capS capt σ) u v/\∀a,¬OwnS (Jz own.length capt o) (Jx own++capS capt σ) a:=ziy S e y G (.inl ⟨_,x⟩)
def zuW(K:qF)(te:TE)(d:DTA):Prop:=∀(C:Ctx) (o:En) (σ:St) (H:Hp) (n:Nat) (Q:VK) (R:List ae->Nat->Prop),Stt K C o σ H n->d o n R ->
 (∀ts u p v H',R ts u->ExtE C.hd H H'->Hn C.hd H' u->H p=none->H' p=some (.lst v)->Reps K C.hd (fun a=>Own C o σ a\/a=p) H' v ts->Q (.ref p) H')->te σ H Q
theorem ziA(hi:DIL X tg iter di)
  (hg:∀C s₀ H₀ u,DG (Jf X scope own capt C s₀ H₀ u) tg is g) (hin:∀i∈is,i<own.length) (ht:∀C s₀ H₀ u,DTs (Jf X scope own capt C s₀ H₀ u) ifs tt) (he:∀C s₀ H₀ u,DE (Jf X scope own capt C s₀ H₀ u) elt te) :
  ∃(wi:TI) (gg:TG) (gt:TT) (ge:TE),PI X tg iter wi/\(∀C s₀ H₀ u,PG (Jf X scope own capt C s₀ H₀ u) tg gg)/\(∀C s₀ H₀ u,PTs (Jf X scope own capt C s₀ H₀ u) ifs gt)/\(∀C s₀ H₀ u,PE (Jf X scope own capt C s₀ H₀ u) elt ge)/\zuW X.K (tComp own capt wi gg gt ge) (dComp own.length capt di g tt te):=by
 obtain⟨wi,pi,hi⟩:=hi
 let Xf:(au×aw×Hp×List au)->Cx:=fun q=>Jf X scope own capt q.1 q.2.1 q.2.2.1 q.2.2.2
 have hK:∀q,(Xf q).K=X.K:=fun _=>rfl
 have hne:Nonempty (au×aw×Hp×List au):=⟨(0,X.s₀,X.H₀,[])⟩;obtain⟨gg,pg,hgg⟩:=DG.uni (Xf:=Xf) hK fun q=>hg q.1 q.2.1 q.2.2.1 q.2.2.2
 obtain⟨gt,pt,hgt⟩:=DTs.uni (Xf:=Xf) hK fun q=>ht q.1 q.2.1 q.2.2.1 q.2.2.2
 obtain⟨ge,pe,hge⟩:=DE.uni (Xf:=Xf) hK fun q=>he q.1 q.2.1 q.2.2.1 q.2.2.2
 refine⟨wi,gg,gt,ge,pi,(fun C s₀ H₀ u=>pg (C,s₀,H₀,u)),(fun C s₀ H₀ u=>pt (C,s₀,H₀,u)),(fun C s₀ H₀ u=>pe (C,s₀,H₀,u)),fun C I σ H n Q R St hd hq=>?_⟩
 refine hi C I σ H n _ _ St hd fun ts n1 J H1 r e1 hn it=>fun D G=>?_
 have St1:=St.on e1 hn;have hD:H D=none:=Z2 e1 hn G;have Y:C.hd≠some D:=fun z=>St.dom (.inl (St.hx D z)) hD
 refine znO (n:=ts.length) (fun i ys N=>∃acc n2,JS g tt te (Jz own.length capt I) (ts.drop i) acc n2 R/\Reps X.K C.hd (fun a=>Own C I σ a\/a=D) N ys acc/\ExtE C.hd H1 N/\Hn C.hd N n2)
  ⟨[],n1,by simpa using r,.nil,ExtE.new G,hn.same (JY G)⟩ ?_ ?_
 ·rintro i ys N hlt hy ⟨acc,n2,c2,r2,S,L⟩;have et:ts[i]?=some ts[i]:=ak hlt;rw[bf hlt]at c2;have U:=it (fun a=>Own C I σ a\/a=D) N (fun a o y nh=>S a o y nh) (fun a o y no z=>z.elim no fun z=>by subst z;rw[G]at y;cases y) (fun a z=>z.elim (fun z=>(St1.on S L).dom z) fun z=>by subst z;rw[hy];exact fun z=>by cases z)
  obtain⟨go,yl⟩:=U.1 i _ et;refine⟨go,fun x H3 hyd=>?_⟩
  obtain⟨sm,rx⟩:=yl x H3 hyd;have hn3:=L.same sm;have e3:ExtE C.hd H1 H3:=S.trans sm.ext;obtain⟨I3,no3⟩:=zkB (own:=own) (capt:=capt) (D:=D) (ys:=ys) St (e1.trans e3) hn3 hD (sm _ _ hy);have rx':Rep X.K C.hd (Own ⟨C.hd,fun a=>Own C I σ a\/a=D⟩ (Jz own.length capt I) (Jx own++capS capt σ)) H3 x ts[i]:=rx.mono (fun a o _ z=>z.elim id fun z=>absurd z (no3 a)) fun _ _ _ z=>z
  refine hgg ⟨C.hd,fun a=>Own C I σ a\/a=D⟩ (Jz own.length capt I) (Jx own++capS capt σ) H3 n2 x ts[i] _ _ I3 rx' c2 fun ρ4 σ4 r4 S4 k4 hj hl=>⟨Wk.of hl.symm fun j v ej=>zlP hin hj ej,?_⟩
  ·refine hgt _ ρ4 σ4 H3 n2 _ _ S4 r4 fun b n5 H5 r5 e5 hn5=>?_
   have S5:=S4.on e5 hn5;have hy5:H5 D=some (.lst ys):=e5 D _ (sm _ _ hy) Y;have Z:∀{H6},ExtE C.hd N H6->Reps X.K C.hd (fun a=>Own C I σ a\/a=D) H6 ys acc:=fun e=>r2.mono (fun _ _ _ z=>z) fun a o no y=>e a o y fun z=>no (.inl (.inl (St.hx a z)))
   cases b with
   | false =>
    refine iteF ⟨ys,hy5,acc,n5,by simpa using r5,Z ((Same.ext sm).trans e5),e3.trans e5,hn5⟩
   | true =>
    refine iteT (hge _ ρ4 σ4 H5 n5 _ _ S5 (by simpa using r5) fun t n6 v H6 r6 e6 hn6 q6=>?_)
    have hy6:H6 D=some (.lst ys):=e6 D _ hy5 Y;have rl:=(Z ((Same.ext sm).trans (e5.trans e6))).length;refine⟨ys,hy6,by rw[rl];exact r6.1,acc++[t],n6,r6.2,?_,?_,?_⟩
    ·have q6':Rep X.K C.hd (fun a=>Own C I σ a\/a=D) H6 v t:=q6.mono (fun _ _ _ z=>.inl z) fun _ _ _ z=>z
     have all:=(Z ((Same.ext sm).trans (e5.trans e6))).append (Reps.cons q6' .nil);exact all.mono (fun _ _ _ z=>z) fun a o no y=>by rw[Ju (show a≠D from fun z=>no (.inr z))];exact y
    ·exact ExtE.updR G (e3.trans (e5.trans e6))
    ·exact Hn.updR Y hn6
 ·rintro ys N hy ⟨acc,n2,c2,r2,S,L⟩;rw[gH]at c2;have U:=it (fun a=>Own C I σ a\/a=D) N (fun a o y nh=>S a o y nh) (fun a o y no z=>z.elim no fun z=>by subst z;rw[G]at y;cases y) (fun a z=>z.elim (fun z=>(St1.on S L).dom z) fun z=>by subst z;rw[hy];exact fun z=>by cases z)
  exact⟨U.2,hq acc n2 D ys N c2 (e1.trans S) L hD hy r2⟩
theorem znA(hc:X.calm=true)(S:JB scope own capt X)(hi:DIL X tg iter di)
  (v:∀C s₀ H₀ l,DG (Jf X scope own capt C s₀ H₀ l) tg is g) (u:∀i∈is,i<own.length) (I:∀C s₀ H₀ l,DTs (Jf X scope own capt C s₀ H₀ l) ifs tt) (he:∀C s₀ H₀ l,DE (Jf X scope own capt C s₀ H₀ l) elt te)
  (G:∀x,foldedSetIterable iter X.env x=pure x:=by intro _;rfl):DN X (.ListComp elt [⟨tg,iter,ifs,0⟩] scope pos) (dComp own.length capt di g tt te):=by
 obtain⟨J,N,gt,ge,a,b,c,d,y⟩:=ziA hi v u I he;exact⟨_,zoX hc S a b c d G,y⟩
def DNA(X:Cx)(x:Str)(l:Pos)(e:aZ)(pos:Pos)(i:Nat)(d:DTA):Prop:=∃te,PS X (.Assign [.Name x l] e pos) (tAsg te (Zq i))/\zuW X.K te d
theorem US{x:Str}{u J:Pos}{i:Nat}(R:X.N.Nodup)(I:X.N[i]?=some x)(hx:Loc X.env.scope x)(hc:X.calm=true)(S:JB scope own capt X)(hi:DIL X tg iter di)
  (U:∀C s₀ H₀ v,DG (Jf X scope own capt C s₀ H₀ v) tg is g) (y:∀i∈is,i<own.length) (ht:∀C s₀ H₀ v,DTs (Jf X scope own capt C s₀ H₀ v) ifs tt) (he:∀C s₀ H₀ v,DE (Jf X scope own capt C s₀ H₀ v) elt te)
  (Z:∀x,foldedSetIterable iter X.env x=pure x:=by intro _;rfl) (G:swapsWith (.ListComp elt [⟨tg,iter,ifs,0⟩] scope pos) (some (.Name x u)) J.line X.env=pure true:=by rfl)
  (hf:X.fn x=true\/X.env.scope.names.lookup x=some .local:=by walk_at "F") :
  DNA X x u (.ListComp elt [⟨tg,iter,ifs,0⟩] scope pos) J i (dComp own.length capt di g tt te):=by
 obtain⟨wi,gg,gt,ge,a,b,c,d,Y⟩:=ziA hi U y ht he;exact⟨_,zml hc S a b c d R I hx Z G hf,Y⟩
theorem zrF{x:Str}{l v:Pos}{e:aZ}{i:Nat}{d:DTA}(h:DNA X x l e v i d):DS X (.Assign [.Name x l] e v) (sOwn i d):=by
 obtain⟨U,pa,h⟩:=h;refine⟨_,pa,fun C I σ H n D R S hd g=>?_⟩
 refine h C I σ H n _ _ S hd fun ts G p L H' r u J y o q=>?_
 exact g.nx _ _ H' G r (S.putOwn u J y o q) (zfd u y)
theorem Yc{x:Str}{o y:Pos}{e:aZ}{i:Nat}{d:DTA}(h:DNA X x o e y i d):DS X (.Assign [.Name x o] e y) (sSet i (dNew d)):=by
 obtain⟨ta,pa,h⟩:=h;refine⟨_,pa,fun C L σ H n D Z S hd g=>?_⟩
 refine h C L σ H n _ _ S hd fun ts G p Y H' r v U I J R=>?_
 exact g.nx _ _ H' G r ((S.on v U).put (.lst J (S.free I|> fun z=>z) (R.mono (fun _ _ _ z=>.inl z) fun _ _ _ z=>z))) (v.keep.trans UV)
end
def VR(K:qF):Sp:=fun l H Q _=>∃(a:au) (ns:List Int) (k:Int),l=[.ref a,.int k]/\SqL K H a (ns.map V.int)/\ns.length<=63/\0<=k/\k<=100 /\
 ∀hd H',H hd=none->VM H' hd 0->Same H H'->Q (.ref hd) H'
def zuV(hd:au)(H H':Hp):Prop:=∀b o,H b=some o->b≠hd->H' b=some o
def zpR:Sp:=fun l H Q _=>∃(hd:au) (many n:Int),l=[.ref hd,.int many]/\VM H hd n/\n<=1000000000000/\0<many/\many<2 ^ 128 /\
 ∀(r:Int) H',0<=r->r<many->VM H' hd (n+1)->zuV hd H H'->Q (.int r) H'
def U7:GD:=fun ts n R=>match ts with
 | [h,.int many]=>h=HAND/\0<many/\many<2 ^ 128/\n<=1000000000000/\∀r:Int,0<=r->r<many->R (.int r) (n+1)
 | _=>False
theorem zoy{K:qF}(x:List V)(H:Hp)(Q:VK)(E:XK)(h:spD K 2 U7 x H Q E):zpR x H Q E:=by
 obtain⟨hd,O,ts,n,R,r,G,dom,hx,Y,g,N⟩:=h;unfold U7 at g;split at g
 ·rename_i u many;obtain⟨rfl,m0,m1,y,g⟩:=g;cases r with
  | cons S r =>
   cases r with
   | cons L r =>
    cases r;obtain⟨a,rfl,l⟩:=S.handI;rw[L.intI];refine⟨a,many,n,rfl,G a l,by omega,m0,m1,fun q H' C U u J=>?_⟩
    refine N _ (n+1) _ H' (g q C U) (fun b o I nb=>J b o I fun z=>nb (by rw[l,z])) (fun b v=>?_) (.int _)
    rw[l]at v;cases v;exact u
 ·exact g.elim
def zsm:Option (Option Cell)->(List ae->Prop)->Prop
 | some (some (.val (.dict [(.none,.list ts)]))),R=>R ts
 | _,_=>False
def JX(u:En):En:=match (u[(0:Nat)]?:Option (Option Cell)) with
 | some (some (.val (.dict [(.none,.list ts)])))=>some (.val (.dict [(.none,.list ts)]))::bZ (u.length - 1) none
 | _=>bZ u.length none
def intOf:Option (Option Cell)->(Int->Prop)->Prop
 | some (some (.val (.int k))),R=>R k
 | _,_=>False
def YG(i j:Nat)(u:DTS):DTS:=fun D y n=>zsm y[0]? fun ts=>intOf y[j]? fun k=>(∃ns:List Int,ts=ns.map bN/\ns.length<=63)/\0<=k/\k<=100 /\
 u { nx:=fun x _=>D.nx (JX x) n,rt:=fun t _=>∃b,t=.bool b/\D.rt t n,bk:=fun x _=>D.bk (JX x) n,ct:=fun x _=>D.ct (JX x) n } (((JX y).set j (some (.val (.int k)))).set i (some (.val HAND))) 0
theorem Yg(h:(JX ρ)[i]?=some (some c)):i=0/\ρ[0]?=some (some c)/\∃ts,c=.val (.dict [(.none,.list ts)]):=by
 unfold JX at h;split at h
 ·rename_i ts e;cases i with
  | zero=>simp at h;subst h;exact⟨rfl,e,ts,rfl⟩
  | succ i =>
   rw[dP,eO]at h;split at h <;> cases h
 ·rw[eO]at h;split at h <;> cases h
theorem zpt:(JX ρ).length=ρ.length:=by
 unfold JX;split
 ·rename_i ts e;cases ρ with
  | nil=>simp at e
  | cons a r=>simp
 ·simp
theorem zg9:¬OwnS (JX ρ) σ a:=fun⟨i,ds,m,h,_⟩=>by
 obtain⟨_,_,ts,e⟩:=Yg h;subst e;cases m
theorem Rep.scrHd{K:qF}{hd G:Option au}{O I:au->Prop}{H H':Hp}{v:V}{ts:qD}(h:Rep K hd O H v (.dict [(.none,.list ts)]))(C:∀a o,H a=some o->¬O a->H' a=some o/\¬I a):Rep K G I H' v (.dict [(.none,.list ts)])/\∃ns:List Int,ts=ns.map bN:=by
 generalize e:(pF [(eK,vB ts)])=t at h;cases h with
 | @scr a ns x o =>
  have y:ts=ns.map bN:=by simpa[SCR] using e
  subst y;refine⟨?_,ns,rfl⟩;rcases x with x|⟨u,x⟩
  ·exact .scr (.inl (C a _ x o).1) (C a _ x o).2
  ·exact .scr (.inr ⟨u,(C a _ x o).1⟩) (C a _ x o).2
 | @scrS a ns x =>
  have y:ts=ns.map bN:=by simpa[SCR] using e
  subst y;exact⟨.scrS x,ns,rfl⟩
 | hand _=>simp[HAND]at e
 | dct _ _=>cases e
 | dcK _ _ _ y=>cases e;exact(dict_noK y).elim
 | dcT _ _ _ y=>cases e;exact(dict_noT y).elim
 | _=>cases e
theorem Stt.drop{K:qF}{C u:Ctx}{l:En}{σ:St}{H H':Hp}{n x:Nat}(S:Stt K u l σ H n)(L:Hn C.hd H' x)(U:∀a,C.ext a->MutO (H' a))(hx:∀a,C.hd=some a->C.ext a)
  (y:∀a o,H a=some o->¬Own u l σ a->H' a=some o/\¬C.ext a):Stt K C (JX l) σ H' x where
 len:=by rw[zpt];exact S.len
 val:=fun i d h=>by
  obtain⟨rfl,N,ts,I⟩:=Yg h;cases I;obtain⟨v,R,J⟩:=S.val 0 _ N;exact⟨v,R,(J.scrHd fun a o G no=>⟨(y a o G no).1,fun z=>z.elim (y a o G no).2 zg9⟩).1⟩
 own:=fun i ds h=>by
  obtain⟨_,_,ts,e⟩:=Yg h;cases e
 dct:=fun i ds h=>by
  obtain⟨_,_,ts,e⟩:=Yg h;cases e
 rdo:=fun i ds h=>by
  obtain⟨_,_,ts,e⟩:=Yg h;cases e
 dtt:=fun i ds h=>by
  obtain⟨_,_,ts,e⟩:=Yg h;cases e
 dif:=fun i j ds Y a m _ h=>by
  obtain⟨_,_,ts,e⟩:=Yg h;subst e;cases m
 hnd:=L
 ext:=U
 hx:=hx
section
variable{X:Cx}{st:eS}{sts:List eS}{ps:List Str}{f:au}{fd:dJ}{u:DTS}{x s kx hx:Str}{pos pos' p p1 p2 p3:Pos}{k:Nat}
theorem zps{i j:Nat}(D:Bd.Def X.K X.mg hx st ps f fd)(G:FnOk X.prog X.w X.K X.mg X.base CX0 k f fd ps (VR X.K))(hr:Room k X.A)(hN:X.N.Nodup)(hi:X.N[i]?=some x)(hlx:Loc X.env.scope x)(hu:DSs X sts u)(hij:i≠0:=by decide)(hj0:j≠0:=by decide)(hji:j≠i:=by decide)
  (h0:X.N[0]?=some s:=by rfl) (hj:X.N[j]?=some kx:=by rfl) (hv0:Vis X.env.scope s:=by walk_at "V") (hvj:Vis X.env.scope kx:=by walk_at "V")
  (hd0:(s == ("__debug__":Str))=false:=by rfl) (I0:(s == ("__classdict__":Str))=false:=by rfl) (hdj:(kx == ("__debug__":Str))=false:=by rfl) (Ka:(kx == ("__classdict__":Str))=false:=by rfl) (hg:Gl X hx:=by rfl) (hdb:(hx == ("__debug__":Str))=false:=by rfl)
  (hs:swapsWith (.Call (.Name hx p) [.Name s p1,.Name kx p2] [] p3) (some (.Name x pos')) pos.line X.env=pure false:=by rfl) (hf:X.fn x=true\/X.env.scope.names.lookup x=some .local:=by walk_at "F") :
  DSs X (.Assign [.Name x pos'] (.Call (.Name hx p) [.Name s p1,.Name kx p2] [] p3) pos::sts) (YG i j u):=by
 obtain⟨tu,pu,hu⟩:=hu;refine⟨_,QQ (Um hN hi hlx (Bd.zqI D G hr (QF (UL h0 hv0 hd0 I0) (QF (UL hj hvj hdj Ka) Ul rfl) rfl) hg hdb) hs hf) pu,fun C ρ σ H n Dn D' S hd g=>?_⟩
 unfold YG zsm at hd;split at hd
 ·rename_i ts e0;unfold intOf at hd;split at hd
  ·rename_i L ej;obtain⟨⟨ns,rfl,hl⟩,k0,k1,hd⟩:=hd;obtain⟨v0,s0,r0⟩:=S.val 0 _ e0;obtain⟨vj,sj,rj⟩:=S.val j _ ej;obtain⟨a0,rfl,sq0⟩:=r0.scrI;rw[rj.intI]at sj;refine⟨_,s0,_,sj,?_⟩;refine⟨a0,ns,L,rfl,sq0,hl,k0,k1,fun h Z Y hok R=>?_⟩
   have S1:=S.on (Same.ext R:ExtE C.hd H Z) (S.hnd.same R);have nx:¬Own C ρ σ h:=fun z=>S.dom z Y
   have Sd:Stt X.K ⟨some h,fun a=>C.ext a\/a=h⟩ (JX ρ) σ Z 0:=S.drop (fun a ea=>by cases ea;exact hok) (fun a z=>z.elim (fun z=>S1.ext a z) fun z=>by subst z;obtain⟨_,_,_,q,_⟩:=hok;exact .inl ⟨_,q⟩) (fun a ea=>.inr (by cases ea;rfl))
    (fun a o I no=>⟨R a o I,fun z=>z.elim (fun z=>no (.inl z)) fun z=>by subst z;rw[Y]at I;cases I⟩)
   have Sd2:=(Sd.put (i:=j) (t:=.int L) (v:=.int L) (.int L)).put (i:=i) (t:=HAND) (v:=.ref h) (.hand rfl);have Kb:∀a,¬OwnS (((JX ρ).set j (some (.val (.int L)))).set i (some (.val HAND))) ((σ.set j (some (.int L))).set i (some (.ref h))) a:=fun a z=>zg9 (V9 (V9 z))
   have es:(σ.set j (some (V.int L)))=σ:=by
    apply kY
    intro q
    by_cases z:j=q
    ·subst z;have:j<σ.length:=by
      rcases cz j σ.length with w|w
      ·exact w
      ·rw[cP w]at sj;cases sj
     rw[zl4 this,sj]
    ·rw[dI z]
   rw[es]at Sd2 Kb;refine hu _ _ _ Z 0 _ _ Sd2 hd ?_;have back:∀{y σ' H' n'},Stt X.K ⟨some h,fun a=>C.ext a\/a=h⟩ y σ' H' n'->(∀a o,Z a=some o->some h≠some a->H' a=some o)->Stt X.K C (JX y) σ' H' n:=fun {y σ' H' n'} S' kp =>
    S'.drop (fun a ea=>by
      obtain⟨d,m,t,q,rest⟩:=S.hnd a ea;exact⟨d,m,t,kp a _ (R _ _ q) (fun z=>by cases z;rw[Y]at q;cases q),rest⟩)
     (fun a z=>by
      rcases S.ext a z with⟨xs,q⟩|⟨xs,q⟩|⟨b,xs,ep,q⟩
      ·exact .inl ⟨xs,kp a _ (R _ _ q) (fun z=>by cases z;rw[Y]at q;cases q)⟩
      ·exact .inr (.inl ⟨xs,kp a _ (R _ _ q) (fun z=>by cases z;rw[Y]at q;cases q)⟩)
      ·exact .inr (.inr ⟨b,xs,ep,kp a _ (R _ _ q) (fun z=>by cases z;rw[Y]at q;cases q)⟩)) S.hx (fun a o I no=>⟨I,fun z=>no (.inl (.inl z))⟩)
   have U:∀{y σ' H'},Keep ⟨some h,fun a=>C.ext a\/a=h⟩ (((JX ρ).set j (some (.val (.int L)))).set i (some (.val HAND))) (σ.set i (some (.ref h))) Z y σ' H'->∀a o,Z a=some o->some h≠some a->H' a=some o:=fun k a o I na=>(k a o I na (Kb a)).1
   have kp2:∀{y σ' H'},Keep ⟨some h,fun a=>C.ext a\/a=h⟩ (((JX ρ).set j (some (.val (.int L)))).set i (some (.val HAND))) (σ.set i (some (.ref h))) Z y σ' H'->Keep C ρ σ H (JX y) σ' H':=fun k a o I _ _=>⟨U k a o (R a o I) (fun z=>by cases z;rw[Y]at I;cases I),zg9⟩
   refine⟨fun y σ' H' n' h' S' J=>g.nx _ _ H' n h' (back S' (U J)) (kp2 J),fun t n' v H' h' hn' J rp=>?_,fun y σ' H' n' h' S' J=>g.bk _ _ H' n h' (back S' (U J)) (kp2 J),fun y σ' H' n' h' S' J=>g.ct _ _ H' n h' (back S' (U J)) (kp2 J),fun _ _ _ h=>h.elim⟩
   obtain⟨b,rfl,h'⟩:=h';rw[rp.blI];have kq:∀a o,H a=some o->H' a=some o:=fun a o I=>J a o (R a o I) (fun z=>by cases z;rw[Y]at I;cases I) (Kb a)
   refine g.rt _ n _ H' h' (fun a ea=>?_) (fun a o I _ _=>kq a o I) (.bl b)
   obtain⟨d,m,t,q,rest⟩:=S.hnd a ea;exact⟨d,m,t,kq a _ q,rest⟩
  ·exact hd.elim
 ·exact hd.elim
end
def zqo(K:qF):Sp:=fun o H Q _=>∃(a:au) (ns:List Int),o=[.ref a]/\SqL K H a (ns.map V.int)/\ns.length<=63/\∀H',Q (.bl true) H'
def zuw:GD:=fun ts n R=>∃ns:List Int,ts=[SCR ns]/\ns.length<=63/\∀u,R (.bool true) u
theorem zq7{K:qF}(u:List V)(H:Hp)(Q:VK)(E:XK)(h:zqo K u H Q E):spD K 1 zuw u H Q E:=by
 obtain⟨a,ns,rfl,sq,C,q⟩:=h;refine⟨none,fun _=>False,[SCR ns],0,fun t _=>t=.bool true,.cons ?_ .nil,(fun a e=>by cases e),(fun a z=>z.elim),(fun a e=>by cases e),rfl,⟨ns,rfl,C,fun _=>rfl⟩,fun t G v H' y _ _ x=>?_⟩
 ·rcases sq with sq|sq
  ·exact .scr sq (fun z=>z)
  ·exact .scrS fun _=>.inr sq
 ·subst y;rw[x.blI];exact q H'
section
variable{env:Env}{es:List aZ}{a b:aZ}{l1 l2:List aZ}{p:Pos}{x:Str}
theorem Jt:starEach (.Name x p::es) env=(false,eval (.Name x p) env)::starEach es env:=rfl
theorem ZK{j}:starEach (.Constant (.int i) j p::es) env=(false,eval (.Constant (.int i) j p) env)::starEach es env:=rfl
theorem Uy{c d}:starEach (.Call a l1 c d::es) env=(false,eval (.Call a l1 c d) env)::starEach es env:=rfl
theorem VS{o}:starEach (.BinOp a o b p::es) env=(false,eval (.BinOp a o b p) env)::starEach es env:=rfl
theorem QZ:starEach (.Subscript a b p::es) env=(false,eval (.Subscript a b p) env)::starEach es env:=rfl
theorem zl0{o}:starEach (.Compare a o l1 p::es) env=(false,eval (.Compare a o l1 p) env)::starEach es env:=rfl
theorem Q7{g s}:starEach (.ListComp a g s p::es) env=(false,eval (.ListComp a g s p) env)::starEach es env:=rfl
end
section
variable{C:Int->Int->Prop}{f:Int->Int->Int}{fb:Int->Int->Bool}{i j k:Int}{R:ae->Prop}{Rb:Bool->Prop}{xs ys:qD}{s t:Str}{a b:Bool}{u v:ae}
theorem l_gI:gI C f (.int i) (.int j) R=(C i j/\R (.int (f i j))):=propext aU
theorem Zz:gI0 f (.int i) (.int j) R=R (.int (f i j)):=propext aU
theorem YQ:oAdd (.int i) (.int j) R=R (.int (i+j)):=propext aU
theorem YR:oAdd (.str s) (.str t) R=(s.length+t.length<=16777216/\R (.str (s++t))):=propext aU
theorem YS:oAdd (.tuple xs) (.tuple ys) R=(xs.length+ys.length<=16777216/\R (.tuple (xs++ys))):=propext aU
theorem Yp:oEq (.int i) (.int j) R=R (.bool (decide (i=j))):=propext aU
theorem Yr:oEq (.str s) (.str t) R=R (.bool (decide (s=t))):=propext aU
theorem Ys:oEq (.tuple xs) (.tuple ys) R=(Okd (.tuple xs)/\Okd (.tuple ys)/\R (.bool (eD (.tuple xs) (.tuple ys)))):=propext aU
theorem Yq:oEq (.list xs) (.list ys) R=(Okd (.list xs)/\Okd (.list ys)/\R (.bool (eD (.list xs) (.list ys)))):=propext aU
theorem YB:oNe (.int i) (.int j) R=R (.bool (!decide (i=j))):=propext aU
theorem YA:oNe (.bool a) (.bool b) R=R (.bool (!decide (a=b))):=propext aU
theorem YD:oNe (.str s) (.str t) R=R (.bool (!decide (s=t))):=propext aU
theorem YC:oNe (.list xs) (.list ys) R=(Okd (.list xs)/\Okd (.list ys)/\R (.bool (!PyData.eqv (.list xs) (.list ys)))):=propext aU
theorem Yu:oIs u .none R=R (.bool (isNone u)):=by cases u <;> exact propext aU
theorem Y8:oIsN u .none R=R (.bool (!isNone u)):=by cases u <;> exact propext aU
theorem Yt:oIn u (.tuple xs) R=(Okd u/\(∀t∈xs,Okd t)/\R (.bool (xs.any fun t=>t.eqv u))):=by cases u <;> exact propext aU
theorem Yx:oLtA (.int i) (.int j) R=R (.bool (decide (i<j))):=propext aU
theorem Yw:oLeA (.int i) (.int j) R=R (.bool (decide (i<=j))):=propext aU
theorem Yv(h:atI xs i=some x):oIx (.list xs) (.int i) R=R x:=by show(match atI xs i with|some t=>R t|none=>False)=_;rw[h]
theorem U0(h:atI xs i=some x):oIx (.tuple xs) (.int i) R=R x:=by show(match atI xs i with|some t=>R t|none=>False)=_;rw[h]
theorem YW:oIx (.tuple (u::xs)) (.int 0) R=R u:=U0 (by unfold atI ixN;simp)
theorem YX:oIx (.tuple (u::v::xs)) (.int 1) R=R v:=U0 (by unfold atI ixN;simp;rw[if_pos (by omega)];rfl)
theorem YY:oIx (.tuple (u::v::w::xs)) (.int 2) R=R w:=U0 (by unfold atI ixN;simp;rw[if_pos (by omega)];rfl)
theorem YU:oIx (.list (u::xs)) (.int 0) R=R u:=Yv (by unfold atI ixN;simp)
theorem YV:oIx (.list (u::v::xs)) (.int 1) R=R v:=Yv (by unfold atI ixN;simp;rw[if_pos (by omega)];rfl)
theorem YZ:truD (.bool a) Rb=Rb a:=propext aU
theorem Y0:truD (.list xs) Rb=Rb (!xs.isEmpty):=propext aU
theorem Yo:bolD (.bool a) Rb=Rb a:=propext aU
theorem Yz:bMin [.int i,.int j] R=R (.int (if j<i then j else i)):=propext aU
theorem Yy:bMax [.int i,.int j] R=R (.int (if j > i then j else i)):=propext aU
theorem YT:bInt [.bool a] R=R (.int (if a then 1 else 0)):=propext aU
theorem Zl:ZJ [.list xs] R=R (.tuple xs):=propext aU
theorem Y9:J4 (.list xs) Rl=Rl xs:=propext aU
theorem Zk:J4 (.tuple xs) Rl=Rl xs:=propext aU
theorem zty(y:String)(h:y∈["NoneType","bool","int","str","list","tuple","dict"]):kitB y "int" = some (decide (y = "int")||decide (y = "bool")):=by
 simp only[az,aO,or_false]at h;rcases h with rfl|rfl|rfl|rfl|rfl|rfl|rfl <;> decide +kernel
theorem zq9(y:String)(h:y∈["NoneType","bool","int","str","list","tuple","dict"]):kitB y "bool" = some (decide (y = "bool")):=by
 simp only[az,aO,or_false]at h;rcases h with rfl|rfl|rfl|rfl|rfl|rfl|rfl <;> decide +kernel
theorem zpc(y:String)(h:y∈["NoneType","bool","int","str","list","tuple","dict"]):kitB y "tuple" = some (decide (y = "tuple")):=by
 simp only[az,aO,or_false]at h;rcases h with rfl|rfl|rfl|rfl|rfl|rfl|rfl <;> decide +kernel
theorem ztx(y:String)(h:y∈["NoneType","bool","int","str","list","tuple","dict"]):kitB y "str" = some (decide (y = "str")):=by
 simp only[az,aO,or_false]at h;rcases h with rfl|rfl|rfl|rfl|rfl|rfl|rfl <;> decide +kernel
def Pln(t:ae):Prop:=tyN t≠none
def isInt:ae->Bool|.int _=>true|.bool _=>true|_=>false
def isBool:ae->Bool|.bool _=>true|_=>false
def isTup:ae->Bool|.tuple _=>true|_=>false
def isStr:ae->Bool|.str _=>true|_=>false
variable{d:DTE}{ρ:En}{n:Nat}{Rn:qN}
theorem V1(h:tyN u=some y):y∈["NoneType","bool","int","str","list","tuple","dict"]:=by
 unfold tyN at h;split at h <;> cases h <;> simp
def isiD(f:ae->Bool)(d:DTE):DTE:=fun ρ n R=>d ρ n fun t x=>Pln t/\R (.bool (f t)) x
end
section
variable{X:Cx}{e:aZ}{d:DTE}{p p2 pos:Pos}
theorem Qq(Y:∀t y,tyN t=some y->kitB y T=some (f t))(hm:X.mg "isinstance" = none) (o:X.mg y=none) (I:bootBuiltins y=some (.type T)) (h:DL X e d) (hs:starEach (e::[.Name y p2]) X.env=(false,eval e X.env)::starEach [.Name y p2] X.env) (U:Gl X "isinstance":=by rfl) (u:Gl X y:=by rfl) (L:y ≠ "__name__":=by decide) (hd:(y == ("__debug__":Str))=false:=by rfl) :
  DE X (.Call (.Name "isinstance" p) [e,.Name y p2] [] pos) (isiD f d):=by
 obtain⟨ta,pa,h⟩:=h;refine⟨_,Zu znY hm zpG (QF pa (zqM (Bd.zwn o I u L hd) Ul) hs) U,fun C x σ H n Q R S hd hq=>?_⟩
 refine h C x σ H n _ _ S hd fun t J v H1 G Z h1 q1=>?_
 cases et:tyN t with
 | none=>exact absurd et G.1
 | some z=>exact⟨v,C.hd,Own C x σ,t,T,z,f t,rfl,q1,et,Y t z et,hq _ J _ H1 G.2 Z h1 (.bl _)⟩
theorem zp_:∀t y,tyN t=some y->kitB y "int" = some (isInt t):=fun t y e=>by
 rw[zty y (V1 e)];unfold tyN at e;split at e <;> cases e <;> rfl
theorem zjt:∀t y,tyN t=some y->kitB y "bool" = some (isBool t):=fun t y e=>by
 rw[zq9 y (V1 e)];unfold tyN at e;split at e <;> cases e <;> rfl
theorem UU:∀t y,tyN t=some y->kitB y "tuple" = some (isTup t):=fun t y e=>by
 rw[zpc y (V1 e)];unfold tyN at e;split at e <;> cases e <;> rfl
theorem zp9:∀t y,tyN t=some y->kitB y "str" = some (isStr t):=fun t y e=>by
 rw[ztx y (V1 e)];unfold tyN at e;split at e <;> cases e <;> rfl
theorem Ur:Pln (.int i):=by simp[Pln,tyN]
theorem Uq:Pln (.bool i):=by simp[Pln,tyN]
theorem Ux:Pln (.str i):=by simp[Pln,tyN]
theorem Uz:Pln (.tuple i):=by simp[Pln,tyN]
theorem UC:Pln (.list i):=by simp[Pln,tyN]
theorem UD:Pln .none:=by simp[Pln,tyN]
theorem UB:Pln (.dict []):=by simp[Pln,tyN]
end
abbrev blk(i h:Int):ae:=.tuple [.int i,.int h]
theorem Yh:Okd (.tuple [.int i,.int h]):=⟨by simp[cE,bU],by simp[e9,cZ]⟩
theorem zpo:eD (.tuple [.int i,.int h]) (.tuple [.int j,.int g])=(decide (i=j)&&decide (h=g)):=by
 simp only[eD,nM,tw];rw[mL,mL]
def IsBk(bits i h:Int):Prop:=0<=h/\h<=bits/\∃k:Int,0<=k/\i=k*2 ^ h.toNat/\k<2 ^ (bits - h).toNat
theorem zgK(k:Nat):(0:Int)<2 ^ k:=Bd.Qw k
theorem zjX:(2:Int) ^ (a+b)=2 ^ a*2 ^ b:=hZ 2 a b
theorem IsBk.bounds(v:0<=bits)(H:IsBk bits i h):0<=i/\i+2 ^ h.toNat<=2 ^ bits.toNat:=by
 obtain⟨h0,x,k,l,rfl,u⟩:=H;have p:=zgK h.toNat;refine⟨Int.mul_nonneg l (dH p),?_⟩;have e:bits.toNat=(bits - h).toNat+h.toNat:=by lia
 rw[e,zjX];have:(k+1)*2 ^ h.toNat<=2 ^ (bits - h).toNat*2 ^ h.toNat:=eE (by lia) (dH p)
 rw[fT,cK]at this;exact this
theorem cpow(h0:0<=j)(l:j<=1000000):CPow 1 j:=⟨h0,l,by decide⟩
section
variable{t u tb:DTS}{D:Qb}{ρ ρ0:En}{n i j m:Nat}{d da db dc d1 d2:DTE}{ds di:DTA}{c c' tt:DTT}{g:G2}{g':G2}{gc:GC}{gd:GD}{tg:DTG}{tgs:DTGs}{R:qN}{Rb:Bool->Nat->Prop}{Rl:List ae->Nat->Prop}{Re:En->Prop}{x y:ae}{xs ys acc:qD}{f:Int->Int->Int}{fb:ae->Bool}{k:Bool}{capt:List Nat}{h:Option Cell}
theorem ZR:(sSeq t u D ρ n)=(t { D with nx:=u D } ρ n):=propext aU
theorem ZQ:(sRet d D ρ n)=(d ρ n fun t l=>D.rt t l):=propext aU
theorem ZS:(sSet i d D ρ n)=(d ρ n fun t o=>D.nx (ρ.set i (some (.val t))) o):=propext aU
theorem ZP:(sAsg d tg D ρ n)=(d ρ n fun t o=>tg t ρ fun l=>D.nx l o):=propext aU
theorem u_dC:(dC x ρ n R)=(R x n):=propext aU
theorem ZC:(dOp g da db ρ n R)=(da ρ n fun x l=>db ρ l fun y o=>g x y fun z=>R z o):=propext aU
theorem ZL:(dNew ds ρ n R)=(ds ρ n fun ts o=>R (.list ts) o):=propext aU
theorem ZN:(dTup ds ρ n R)=(ds ρ n fun ts o=>R (.tuple ts) o):=propext aU
theorem ZM:(dNil ρ n Rl)=(Rl [] n):=propext aU
theorem Z5:(Qo d ds ρ n Rl)=(d ρ n fun t o=>ds ρ o fun ts l=>Rl (t::ts) l):=propext aU
theorem ZB:(dFn gd ds ρ n R)=(ds ρ n fun ts l=>gd ts l R):=propext aU
theorem Vb:(ZD gc ds ρ n R)=(ds ρ n fun ts l=>gc ts fun z=>R z l):=propext aU
theorem Vd:(Qv i x ρ Re)=(Re (ρ.set i (some (.val x)))):=propext aU
theorem Z7:(U4 tgs (.tuple xs) ρ Re)=(tgs xs ρ Re):=propext aU
theorem Z6:(U3 [] ρ Re)=(Re ρ):=propext aU
theorem Vc:(Uo tg tgs (x::xs) ρ Re)=(tg x ρ fun l=>tgs xs l Re):=propext aU
def cVal:Option Cell->(ae->Prop)->Prop
 | some (.val d),R=>R d
 | _,_=>False
def cOwn:Option Cell->(List ae->Prop)->Prop
 | some (.own d),R=>R d
 | _,_=>False
theorem Z1:cVal (some (.val x)) Q=Q x:=propext aU
theorem ZO:dVar i ρ n R=cVal (ρ.getD i none) fun d=>R d n:=by
 unfold dVar;rw[aX];cases e:ρ[i]? with
 | none=>exact propext aU
 | some o=>cases o with
  | none=>exact propext aU
  | some c=>cases c <;> exact propext aU
theorem Ze:UX d ρ n Rb=(d ρ n fun t l=>bolD t fun b=>Rb b l):=by
 unfold UX;congr 1
 funext t l
 cases t <;> exact propext aU
def lCat:ae->ae->(List ae->Prop)->Prop
 | .list xs,.list ys,R=>xs.length+ys.length<=16777216/\R (xs++ys)
 | _,_,_=>False
theorem Y3:dCat da db ρ n Rl=(da ρ n fun x l=>db ρ l fun y o=>lCat x y fun zs=>Rl zs o):=by
 unfold dCat;congr 1
 funext x l
 congr 1
 funext y o
 cases x <;> cases y <;> exact propext aU
def lLst:ae->(List ae->Prop)->Prop
 | .list xs,R=>R xs
 | _,_=>False
def lTup:ae->(List ae->Prop)->Prop
 | .tuple xs,R=>R xs
 | _,_=>False
theorem Y4:dItL d ρ n Rl=(d ρ n fun t l=>lLst t fun ts=>Rl ts l):=by
 unfold dItL;congr 1
 funext t l
 cases t <;> exact propext aU
theorem Y5:dItT d ρ n Rl=(d ρ n fun t l=>lTup t fun ts=>Rl ts l):=by
 unfold dItT;congr 1
 funext t l
 cases t <;> exact propext aU
def lInt:ae->(Int->Prop)->Prop
 | .int i,R=>R i
 | _,_=>False
theorem Zd:Zs d ρ n Rl=(d ρ n fun t l=>lInt t fun j=>(-(2 ^ 62)<=j/\j<2 ^ 62)/\Rl (Qj 0 j.toNat) l):=by
 unfold Zs;congr 1
 funext t l
 cases t <;> exact propext aU
theorem Y6:dNeg d ρ n R=(d ρ n fun t l=>lInt t fun i=>R (.int (-i)) l):=by
 unfold dNeg;congr 1
 funext t l
 cases t <;> exact propext aU
def Zx:List ae->(ae->ae->Prop)->Prop
 | [x,y],R=>R x y
 | _,_=>False
theorem Y7:sPar i j ds D ρ n=(ds ρ n fun ts o=>Zx ts fun t u=>D.nx ((ρ.set i (some (.val t))).set j (some (.val u))) o):=by
 unfold sPar;congr 1
 funext ts o
 rcases ts with _|⟨a,_|⟨b,_|⟨c,r⟩⟩⟩ <;> exact propext aU
theorem YH:sAug i f d D ρ n=cVal (ρ.getD i none) fun v=>lInt v fun q=>d ρ n fun t C=>lInt t fun k=>D.nx (ρ.set i (some (.val (.int (f q k))))) C:=by
 unfold sAug;rw[aX];cases e:ρ[i]? with
 | none=>exact propext aU
 | some o=>cases o with
  | none=>exact propext aU
  | some c=>cases c with
   | own _=>exact propext aU
   | dct _=>exact propext aU
   | dtt _=>exact propext aU
   | rdo _=>exact propext aU
   | val v=>cases v with
    | int q =>
     show(d ρ n fun t C=>_)=(d ρ n fun t C=>_)
     congr 1
     funext t C
     cases t <;> exact propext aU
    | _=>exact propext aU
theorem Zm:ZE g g' da db dc ρ n R=(da ρ n fun x C=>db ρ C fun y v=>g x y fun z=>bolD z fun b=>if b=true then dc ρ v fun w G=>g' y w fun z=>R z G else R (.bool false) v):=by
 unfold ZE;congr 1
 funext x C
 congr 1
 funext y v
 congr 1
 funext z
 cases z with
 | bool b=>cases b <;> simp[bolD]
 | _=>exact propext aU
def UZ(ρ:En)(i:Nat)(D:Qb)(v:DTE)(t:ae)(C:Nat)(ts:qD):Prop:=v ρ C fun j l=>lInt j fun j=>(match ixN ts.length j with|some k=>D.nx (ρ.set i (some (.own (ts.set k t)))) l|none=>False)
theorem YI:sPut i dj d D ρ n=(d ρ n fun t l=>cOwn (ρ.getD i none) fun xs=>UZ ρ i D dj t l xs):=by
 unfold sPut;congr 1
 funext t l
 rw[aX];cases e:ρ[i]? with
 | none=>exact propext aU
 | some o=>cases o with
  | none=>exact propext aU
  | some c=>cases c with
   | val _=>exact propext aU
   | dct _=>exact propext aU
   | dtt _=>exact propext aU
   | rdo _=>exact propext aU
   | own xs =>
    show(dj ρ l fun j v=>_)=UZ ρ i D dj t l xs
    unfold UZ;congr 1
    funext j v
    cases j <;> exact propext aU
end
section
variable{t u tb:DTS}{D:Qb}{ρ ρ0:En}{n i j m:Nat}{d da db dc d1 d2:DTE}{ds di:DTA}{c c' tt:DTT}{g:G2}{g':G2}{gc:GC}{gd:GD}{tg:DTG}{tgs:DTGs}{R:qN}{Rb:Bool->Nat->Prop}{Rl:List ae->Nat->Prop}{Re:En->Prop}{x y:ae}{xs ys acc:qD}{f:Int->Int->Int}{fb:ae->Bool}{k:Bool}{capt:List Nat}
theorem ztZ(h:t { D with nx:=u D } ρ n):sSeq t u D ρ n:=h
theorem zri(h:D.nx ρ n):Vx D ρ n:=h
theorem zt0(h:d ρ n fun t l=>D.rt t l):sRet d D ρ n:=h
theorem zw0(h:c ρ n fun b l=>if b=true then t D ρ l else u D ρ l):sIf c t u D ρ n:=h
theorem zt3(h:d ρ n fun t o=>tg t ρ fun l=>D.nx l o):sAsg d tg D ρ n:=h
theorem zt2(h:di ρ n fun ts l=>forP tg tb D ts ρ l):sFor di tg tb D ρ n:=h
theorem i_dC(h:R x n):dC x ρ n R:=h
theorem zw4(h:da ρ n fun x l=>db ρ l fun y o=>g x y fun z=>R z o):dOp g da db ρ n R:=h
theorem zuh(h:ds ρ n fun ts o=>R (.list ts) o):dNew ds ρ n R:=h
theorem zua(h:ds ρ n fun ts o=>R (.tuple ts) o):dTup ds ρ n R:=h
theorem zug(h:Rl [] n):dNil ρ n Rl:=h
theorem zrp(h:d ρ n fun t l=>ds ρ l fun ts o=>Rl (t::ts) o):Qo d ds ρ n Rl:=h
theorem zw5(h:ds ρ n fun ts l=>gd ts l R):dFn gd ds ρ n R:=h
theorem zum(h:ds ρ n fun ts l=>gd ts l fun t o=>J9 t=true/\R t o):dFnL gd ds ρ n R:=h
theorem zpl(h:ds ρ n fun ts l=>gc ts fun z=>R z l):ZD gc ds ρ n R:=h
theorem zuo(h:c ρ n fun b l=>if b=true then c' ρ l Rb else Rb false l):dAnd c c' ρ n Rb:=h
theorem zw3(h:c ρ n fun b l=>if b=true then Rb true l else c' ρ l Rb):dOr c c' ρ n Rb:=h
theorem zuf(h:c ρ n fun b l=>Rb (!b) l):dNot c ρ n Rb:=h
theorem zrr(h:da ρ n fun t v=>bolD t fun b=>if b=true then db ρ v R else R (.bool false) v):zrO da db ρ n R:=h
theorem zue(h:da ρ n fun t v=>bolD t fun b=>if b=true then R (.bool true) v else db ρ v R):dOrV da db ρ n R:=h
theorem zro(h:da ρ n fun t v=>bolD t fun b=>R (.bool (!b)) v):zrN da ρ n R:=h
theorem zul(h:c ρ n fun b l=>if b=true then da ρ l R else db ρ l R):dIfE c da db ρ n R:=h
theorem zub(h:d ρ n fun t l=>truD t fun b=>Rb b l):dTru d ρ n Rb:=h
theorem znj(h:d ρ n fun t l=>J4 t fun ts=>Rl ts l):zjy d ρ n Rl:=h
theorem zrq(h:di ρ n fun ts l=>JS tg tt d (Jz m capt ρ) ts [] l Rl):dComp m capt di tg tt d ρ n Rl:=h
theorem zt_(h:Rb true n):dYes ρ n Rb:=h
theorem zrg(h:tgs xs ρ Re):U4 tgs (.tuple xs) ρ Re:=h
theorem zrh(h:Re ρ):U3 [] ρ Re:=h
theorem zpi(h:tg x ρ fun l=>tgs xs l Re):Uo tg tgs (x::xs) ρ Re:=h
theorem zrk(h:d ρ n fun t l=>bolD t fun b=>Rb b l):UX d ρ n Rb:=Ze.symm▸h
theorem zun(h:da ρ n fun x l=>db ρ l fun y o=>lCat x y fun zs=>Rl zs o):dCat da db ρ n Rl:=Y3.symm▸h
theorem zuk(h:d ρ n fun t l=>lLst t fun ts=>Rl ts l):dItL d ρ n Rl:=Y4.symm▸h
theorem zuj(h:d ρ n fun t l=>lTup t fun ts=>Rl ts l):dItT d ρ n Rl:=Y5.symm▸h
theorem zrm(h:d ρ n fun t l=>lInt t fun j=>(-(2 ^ 62)<=j/\j<2 ^ 62)/\Rl (Qj 0 j.toNat) l):Zs d ρ n Rl:=Zd.symm▸h
theorem zui(h:d ρ n fun t l=>lInt t fun i=>R (.int (-i)) l):dNeg d ρ n R:=Y6.symm▸h
theorem zpk(h:da ρ n fun x G=>db ρ G fun y v=>g x y fun z=>bolD z fun b=>if b=true then dc ρ v fun w C=>g' y w fun z=>R z C else R (.bool false) v):ZE g g' da db dc ρ n R:=Zm.symm▸h
theorem zt1(h:ds ρ n fun ts o=>Zx ts fun t u=>D.nx ((ρ.set i (some (.val t))).set j (some (.val u))) o):sPar i j ds D ρ n:=Y7.symm▸h
def lIsi(fb:ae->Bool)(t:ae)(R:ae->Prop):Prop:=Pln t/\R (.bool (fb t))
theorem zt7(h:d ρ n fun t l=>lIsi fb t fun z=>R z l):isiD fb d ρ n R:=h
theorem zp6(e:ρ[i]?=some (some (.val x)))(h:R x n):dVar i ρ n R:=by unfold dVar;rw[e];exact h
theorem zp7(e:ρ[i]?=some (some (.own xs)))(h:R (.list xs) n):dOwn i ρ n R:=by unfold dOwn;rw[e];exact h
theorem zki(e:ρ[i]?=some (some (.own xs)))(h:d ρ n fun t l=>xs.length<16777216/\D.nx (ρ.set i (some (.own (xs++[t])))) l):Zc i d D ρ n:=by unfold Zc;rw[e];exact h
theorem zkh(e:ρ[i]?=some (some (.own xs)))(h:t D (ρ.set i (some (.val (.list xs)))) n):Z9 i t D ρ n:=by unfold Z9;rw[e];exact h
theorem zw6(e:ρ[i]?=some (some (.val (.int q))))(h:d ρ n fun t o=>lInt t fun k=>D.nx (ρ.set i (some (.val (.int (f q k))))) o):sAug i f d D ρ n:=by
 rw[YH,aX,e];exact h
theorem zw1(e:ρ[i]?=some (some (.own xs)))(h:d ρ n fun t l=>UZ ρ i D dj t l xs):sPut i dj d D ρ n:=by
 rw[YI,aX,e];exact h
theorem zt4(h:dj ρ n fun j l=>lInt j fun j=>(match ixN xs.length j with|some k=>D.nx (ρ.set i (some (.own (xs.set k x)))) l|none=>False)):UZ ρ i D dj x n xs:=h
theorem zw2{A B:Prop}(l:b=true->A)(o:b=false->B):if b=true then A else B:=by cases b with|true=>exact iteT (l rfl)|false=>exact iteF (o rfl)
theorem zt6{p:Prop}[Decidable p]{A B:Prop}(l:p->A)(o:¬p->B):if decide p=true then A else B:=by
 by_cases h:p
 ·rw[decide_eq_true h];exact iteT (l h)
 ·rw[decide_eq_false h];exact iteF (o h)
theorem zt5{A B:Prop}(h:if b=true then B else A):if (!b)=true then A else B:=by
 cases b with|true=>exact iteF h|false=>exact iteT h
end
section
variable{C:Int->Int->Prop}{f:Int->Int->Int}{fb:Int->Int->Bool}{i j k:Int}{R:ae->Prop}{Rb:Bool->Prop}{xs ys:qD}{s t:Str}{a b:Bool}{u v x y:ae}{Rn:qN}{n:Nat}
theorem ztT(h:R (.int (i+j))):oAdd (.int i) (.int j) R:=YQ.symm▸h
theorem ztS(h:(s.length+t.length<=16777216/\R (.str (s++t)))):oAdd (.str s) (.str t) R:=YR.symm▸h
theorem ztR(h:(xs.length+ys.length<=16777216/\R (.tuple (xs++ys)))):oAdd (.tuple xs) (.tuple ys) R:=YS.symm▸h
theorem zwV(h:R (.bool (decide (i=j)))):oEq (.int i) (.int j) R:=Yp.symm▸h
theorem zwT(h:R (.bool (decide (s=t)))):oEq (.str s) (.str t) R:=Yr.symm▸h
theorem zwS(h:(Okd (.tuple xs)/\Okd (.tuple ys)/\R (.bool (eD (.tuple xs) (.tuple ys))))):oEq (.tuple xs) (.tuple ys) R:=Ys.symm▸h
theorem zwU(h:(Okd (.list xs)/\Okd (.list ys)/\R (.bool (eD (.list xs) (.list ys))))):oEq (.list xs) (.list ys) R:=Yq.symm▸h
theorem zwF(h:R (.bool (!decide (i=j)))):oNe (.int i) (.int j) R:=YB.symm▸h
theorem zwG(h:R (.bool (!decide (a=b)))):oNe (.bool a) (.bool b) R:=YA.symm▸h
theorem zwD(h:R (.bool (!decide (s=t)))):oNe (.str s) (.str t) R:=YD.symm▸h
theorem zwE(h:(Okd (.list xs)/\Okd (.list ys)/\R (.bool (!PyData.eqv (.list xs) (.list ys))))):oNe (.list xs) (.list ys) R:=YC.symm▸h
theorem zwP(h:R (.bool (isNone u))):oIs u .none R:=Yu.symm▸h
theorem zrc(h:R (.bool (!isNone u))):oIsN u .none R:=Y8.symm▸h
theorem zwR(h:(Okd u/\(∀t∈xs,Okd t)/\R (.bool (xs.any fun t=>t.eqv u)))):oIn u (.tuple xs) R:=Yt.symm▸h
theorem zwL(h:R (.bool (decide (i<j)))):oLtA (.int i) (.int j) R:=Yx.symm▸h
theorem zwN(h:R (.bool (decide (i<=j)))):oLeA (.int i) (.int j) R:=Yw.symm▸h
theorem ztK(h:R u):oIx (.tuple (u::xs)) (.int 0) R:=YW.symm▸h
theorem ztJ(h:R v):oIx (.tuple (u::v::xs)) (.int 1) R:=YX.symm▸h
theorem ztI(h:R w):oIx (.tuple (u::v::w::xs)) (.int 2) R:=YY.symm▸h
theorem znc(h:R u):oIx (.list (u::xs)) (.int 0) R:=YU.symm▸h
theorem ztN(h:R v):oIx (.list (u::v::xs)) (.int 1) R:=YV.symm▸h
theorem ztA(h:Rb a):truD (.bool a) Rb:=YZ.symm▸h
theorem ztz(h:Rb (!xs.isEmpty)):truD (.list xs) Rb:=Y0.symm▸h
theorem zwX(h:Rb a):bolD (.bool a) Rb:=Yo.symm▸h
theorem ztH(h:R (.int xs.length)):bLen [.list xs] R:=.inl ⟨xs,rfl,h⟩
theorem ztF(h:R (.int xs.length)):bLen [.tuple xs] R:=.inr (.inl ⟨xs,rfl,h⟩)
theorem ztG(h:(s.length<=16777216/\R (.int s.length))):bLen [.str s] R:=.inr (.inr (.inl ⟨s,rfl,h⟩))
theorem zpe(h:R (.int ns.length)):bLen [SCR ns] R:=.inr (.inr (.inr ⟨_,rfl,by rw[aM];exact h⟩))
theorem zwJ(h:R (.int (if j<i then j else i))):bMin [.int i,.int j] R:=Yz.symm▸h
theorem zwK(h:R (.int (if j > i then j else i))):bMax [.int i,.int j] R:=Yy.symm▸h
theorem ztP(h:R (.int (if a then 1 else 0))):bInt [.bool a] R:=YT.symm▸h
theorem zpd(h:R (.tuple xs)):ZJ [.list xs] R:=Zl.symm▸h
theorem zrb(h:Rl xs):J4 (.list xs) Rl:=Y9.symm▸h
theorem zpf(h:Rl xs):J4 (.tuple xs) Rl:=Zk.symm▸h
theorem zwW(h:(xs.length+ys.length<=16777216/\Q (xs++ys))):lCat (.list xs) (.list ys) Q:=h
theorem zwM(h:Q xs):lLst (.list xs) Q:=h
theorem zwz(h:Q xs):lTup (.tuple xs) Q:=h
theorem zwQ(h:Q i):lInt (.int i) Q:=h
theorem ztC(h:Q x y):Zx [x,y] Q:=h
theorem zwH(c:CMul i j)(h:R (.int (i*j))):oMul (.int i) (.int j) R:=⟨c,h⟩
theorem zwI(c:0<j)(h:R (.int (i % j))):oMod (.int i) (.int j) R:=⟨c,h⟩
theorem ztQ(c:Zo i j)(h:R (.int (i / j))):UI (.int i) (.int j) R:=⟨c,h⟩
theorem zwC(c:CPow i j)(h:R (.int (i*2 ^ j.toNat))):oShl (.int i) (.int j) R:=⟨c,h⟩
theorem zwA(h:R (.int (i - j))):oSub (.int i) (.int j) R:=h
theorem zwy(h:R (.int (cU i j))):oXor (.int i) (.int j) R:=h
theorem zwY(h:R (.int (gA i j))):oAnd (.int i) (.int j) R:=h
theorem j_gB(h:R (.bool (fb i j))):gB fb (.int i) (.int j) R:=h
theorem zjq(h:R (.bool true)):lIsi isInt (.int i) R:=⟨Ur,h⟩
theorem zie(h:R (.bool true)):lIsi isInt (.bool a) R:=⟨Uq,h⟩
theorem zjp(h:R (.bool false)):lIsi isInt (.str s) R:=⟨Ux,h⟩
theorem zg2(h:R (.bool false)):lIsi isInt (.tuple xs) R:=⟨Uz,h⟩
theorem zic(h:R (.bool false)):lIsi isInt (.list xs) R:=⟨UC,h⟩
theorem zib(h:R (.bool false)):lIsi isInt (.none) R:=⟨UD,h⟩
theorem zid(h:R (.bool false)):lIsi isInt (.dict []) R:=⟨UB,h⟩
theorem zif(h:R (.bool false)):lIsi isBool (.int i) R:=⟨Ur,h⟩
theorem zg3(h:R (.bool true)):lIsi isBool (.bool a) R:=⟨Uq,h⟩
theorem zjm(h:R (.bool false)):lIsi isTup (.int i) R:=⟨Ur,h⟩
theorem zh7(h:R (.bool false)):lIsi isTup (.bool a) R:=⟨Uq,h⟩
theorem zjl(h:R (.bool false)):lIsi isTup (.str s) R:=⟨Ux,h⟩
theorem zg0(h:R (.bool true)):lIsi isTup (.tuple xs) R:=⟨Uz,h⟩
theorem zh5(h:R (.bool false)):lIsi isTup (.list xs) R:=⟨UC,h⟩
theorem zh4(h:R (.bool false)):lIsi isTup (.none) R:=⟨UD,h⟩
theorem zh6(h:R (.bool false)):lIsi isTup (.dict []) R:=⟨UB,h⟩
theorem zjo(h:R (.bool false)):lIsi isStr (.int i) R:=⟨Ur,h⟩
theorem zia(h:R (.bool false)):lIsi isStr (.bool a) R:=⟨Uq,h⟩
theorem zjn(h:R (.bool true)):lIsi isStr (.str s) R:=⟨Ux,h⟩
theorem zg1(h:R (.bool false)):lIsi isStr (.tuple xs) R:=⟨Uz,h⟩
theorem zh9(h:R (.bool false)):lIsi isStr (.list xs) R:=⟨UC,h⟩
theorem zh8(h:R (.bool false)):lIsi isStr (.none) R:=⟨UD,h⟩
theorem zh_(h:R (.bool false)):lIsi isStr (.dict []) R:=⟨UB,h⟩
end
theorem zqC{h:Int}(h0:0<h):(2:Int) ^ h.toNat=2*2 ^ (h - 1).toNat:=by
 have e:h.toNat=(h - 1).toNat+1:=by lia
 rw[e,cA,eH]
theorem zsM{h:Int}(h0:0<=h):(2:Int) ^ (h+1).toNat=2*2 ^ h.toNat:=by
 have:=zqC (h:=h+1) (by lia)
 rw[this];simp
theorem IsBk.low{bits i h:Int}(B:IsBk bits i h)(l:0<h):IsBk bits i (h - 1):=by
 obtain⟨h0,u,k,v,rfl,x⟩:=B;refine⟨by lia,by lia,2*k,by lia,?_,?_⟩
 ·rw[zqC l,<- fH,eH k 2]
 ·have e:(bits - (h - 1)).toNat=(bits - h).toNat+1:=by lia
  rw[e,cA];lia
theorem IsBk.up{bits i h:Int}(B:IsBk bits i h)(l:0<h):IsBk bits (i+2 ^ h.toNat / 2) (h - 1):=by
 obtain⟨h0,u,k,v,rfl,x⟩:=B;refine⟨by lia,by lia,2*k+1,by lia,?_,?_⟩
 ·rw[zqC l];have:2*(2:Int) ^ (h - 1).toNat / 2=2 ^ (h - 1).toNat:=by lia
  rw[this,fT,cK,<- fH,eH k 2]
 ·have e:(bits - (h - 1)).toNat=(bits - h).toNat+1:=by lia
  rw[e,cA];lia
theorem zo6(P:Int)(l:0<P):k*P % (2*P)=(k % 2)*P:=by
 rw[eH 2 P,eH k P,Int.mul_emod_mul_of_pos _ _ l,eH]
theorem IsBk.abt{bits i h:Int}(B:IsBk bits i h)(x:h<bits):IsBk bits (i - i % (2*2 ^ h.toNat)) (h+1):=by
 obtain⟨h0,u,k,v,rfl,l⟩:=B;refine⟨by lia,by lia,k / 2,by lia,?_,?_⟩
 ·rw[zo6 _ (zgK _),zsM h0,<- vC];have:k - k % 2=k / 2*2:=by lia
  rw[this,fH]
 ·have e:(bits - h).toNat=(bits - (h+1)).toNat+1:=by lia
  rw[e,cA]at l;lia
theorem IsBk.oth(B:IsBk bits i h)(x:h<bits):IsBk bits (cU i (2 ^ h.toNat)) h:=by
 obtain⟨h0,l,k,u,rfl,v⟩:=B;rw[zos _ u];have e:(bits - h).toNat=(bits - (h+1)).toNat+1:=by lia
 split
 ·refine⟨h0,l,k+1,by lia,by rw[fT,cK],?_⟩
  rw[e,cA]at v ⊢;lia
 ·refine⟨h0,l,k - 1,by lia,by rw[vC,cK],by lia⟩
theorem IsBk.nxt(B:IsBk bits i h)(l:i+2*2 ^ h.toNat<=2 ^ bits.toNat):IsBk bits (i+2 ^ h.toNat) h:=by
 obtain⟨h0,u,k,v,rfl,x⟩:=B;refine⟨h0,u,k+1,by lia,by rw[fT,cK],?_⟩
 have e:bits.toNat=(bits - h).toNat+h.toNat:=by lia
 rw[e,zjX]at l;have p:=zgK h.toNat;have:(k+2)*2 ^ h.toNat<=2 ^ (bits - h).toNat*2 ^ h.toNat:=by rw[fT];exact l
 have:=Int.le_of_mul_le_mul_right this p;lia
theorem zxe:CMul 2 j:=.inl ⟨by decide,by decide⟩
theorem zuQ:Zo j 2:=⟨by decide,by decide⟩
theorem Q3(h:Nat):(1:Int)*2 ^ h=2 ^ h:=cK _
def BlkN(bits i:Int)(h:Nat):Prop:=(h:Int)<=bits/\∃k:Int,0<=k/\i=k*2 ^ h/\k<2 ^ (bits.toNat - h)
theorem IsBk.n(B:IsBk bits i h):BlkN bits i h.toNat:=by
 obtain⟨h0,v,k,l,e,u⟩:=B;refine⟨by lia,k,l,e,?_⟩
 have:(bits - h).toNat=bits.toNat - h.toNat:=by lia
 rw[<- this];exact u
theorem zn8(b:BlkN bits j g)(l:g<=h):j / 2 ^ h*2 ^ h<=j/\j+2 ^ g<=(j / 2 ^ h+1)*2 ^ h:=by
 obtain⟨_,m,m0,rfl,_⟩:=b;have y:=Bd.Qw h;have x:=Bd.Qw g;have u:=Bd.Qw (h - g);have o:(2:Int) ^ h=2 ^ (h - g)*2 ^ g:=by rw[<- hZ];congr 1;lia
 refine⟨Int.ediv_mul_le _ (by lia),?_⟩
 have eq:(m*2 ^ g) / 2 ^ h=m / 2 ^ (h - g):=by rw[o];exact Int.mul_ediv_mul_of_pos_left m _ x
 rw[eq,o,<- fH];have v:m*2 ^ g+2 ^ g=(m+1)*2 ^ g:=by rw[fT,cK]
 rw[v];refine eE ?_ (by lia)
 have:=Int.lt_ediv_add_one_mul_self m u;lia
theorem zj8{a b A:Int}(p:0<A)(l:a<b):(a+1)*A<=b*A:=eE (by lia) (by lia)
theorem zjs(v:BlkN bits i h)(u:BlkN bits j g):(g<=h/\j / 2 ^ h*2 ^ h=i)↔(i<=j/\j+2 ^ g<=i+2 ^ h):=by
 have o:=Bd.Qw h;have C:=Bd.Qw g;constructor
 ·rintro⟨l,e⟩;have t:=zn8 u l;rw[e,fT,cK,e]at t;exact t
 ·rintro⟨x,l2⟩;have l:g<=h:=by
   by_cases z:g<=h
   ·exact z
   ·exfalso;have:(2:Int) ^ h<2 ^ g:=by
     have e:(2:Int) ^ g=2 ^ (g - h)*2 ^ h:=by rw[<- hZ];congr 1;lia
     have p2:(2:Int)<=2 ^ (g - h):=by
      obtain⟨d,hd⟩:∃d,g - h=d+1:=⟨g - h - 1,by lia⟩
      rw[hd,cA];have:=Bd.Qw d;lia
     rw[e];have:=eE p2 (show(0:Int)<=2 ^ h by lia)
     lia
    lia
  refine⟨l,?_⟩;obtain⟨_,k,y,rfl,_⟩:=v;have e:j / 2 ^ h=k:=by
   have a1:k<=j / 2 ^ h:=(Int.le_ediv_iff_mul_le o).mpr x;have a2:j / 2 ^ h<k+1:=(Int.ediv_lt_iff_lt_mul o).mpr (by rw[fT,cK];lia)
   lia
  rw[e]
theorem ziP{bits i j:Int}{h g:Nat}(v:BlkN bits i h)(u:BlkN bits j g)(l:g<=h):(g<=h/\j / 2 ^ h*2 ^ h=i)\/j+2 ^ g<=i\/i+2 ^ h<=j:=by
 have o:=Bd.Qw h;have t:=zn8 u l;obtain⟨_,k,x,rfl,_⟩:=v;rcases ip (j / 2 ^ h) k with z|z|z
 ·have:=zj8 o z;exact .inr (.inl (by lia))
 ·exact .inl ⟨l,by rw[z]⟩
 ·have:=zj8 o z;rw[fT,cK]at this;exact .inr (.inr (by lia))
def hldD(i h j g:Int):Bool:=decide (g<=h)&&decide (j / 2 ^ h.toNat*2 ^ h.toNat=i)
theorem zp8(A:IsBk bits i h)(B:IsBk bits j g):hldD i h j g=decide (i<=j/\j+2 ^ g.toNat<=i+2 ^ h.toNat):=by
 have:=zjs A.n B.n;unfold hldD;rw[<- Bool.decide_and];refine decide_eq_decide.mpr ⟨fun z=>this.mp ⟨by have:=A.1;have:=B.1;lia,z.2⟩,fun z=>?_⟩
 obtain⟨l,e⟩:=this.mpr z;exact⟨by have:=A.1;have:=B.1;lia,e⟩
theorem zns(Inv:Nat->En->Nat->Prop):∀(ts:qD) (i:Nat) {o:En}{n:Nat},Inv i o n ->
  (∀(k:Nat) (t:ae) (o:En) (n:Nat) (K:En->Nat->Prop),ts[k]?=some t->Inv (i+k) o n->(∀v x,Inv (i+k+1) v x->K v x)->g t o fun v=>tb { D with nx:=K,ct:=K,bk:=D.nx } v n) ->
  (∀o n,Inv (i+ts.length) o n->D.nx o n)->forP g tb D ts o n
 | [],i,o,n,h0,_,fin=>fin o n (by simpa using h0)
 | t::ts,i,o,n,h0,turn,fin=>by
  refine turn 0 t o n _ rfl (by simpa using h0) fun v x h'=>?_
  refine zns Inv ts (i+1) (by simpa using h') (fun k u o n K e y C=>?_) (fun o n h=>fin o n ?_)
  ·refine turn (k+1) u o n K (by simpa using e) ?_ fun v x h'=>C v x ?_
   ·have:i+(k+1)=i+1+k:=by lia
    rw[this];exact y
   ·have:i+1+k+1=i+(k+1)+1:=by lia
    rw[this];exact h'
  ·have:i+(t::ts).length=i+1+ts.length:=by simp;lia
   rw[this]at *;exact h
theorem UT(Inv:Nat->En->Nat->Prop)(h0:Inv 0 o n)
  (turn:∀(k:Nat) (t:ae) (o:En) (n:Nat) (K:En->Nat->Prop),ts[k]?=some t->Inv k o n->(∀l u,Inv (k+1) l u->K l u)->g t o fun l=>tb { D with nx:=K,ct:=K,bk:=D.nx } l n)
  (fin:∀o n,Inv ts.length o n->D.nx o n):forP g tb D ts o n:=by
 refine zns Inv ts 0 h0 (fun k t o n K e v x=>turn k t o n K e (by simpa using v) fun l u h'=>x l u (by simpa using h')) fun o n h=>fin o n (by simpa using h)
theorem zf2{lo:Int}{m i:Nat}{t:ae}(h:(Qj lo m)[i]?=some t):i<m/\t=.int (lo+(i:Int)):=by
 unfold Qj at h;rw[bp]at h
 by_cases hi:i<m
 ·rw[nC hi]at h;cases h;exact⟨hi,rfl⟩
 ·rw[cP (by simp;lia)]at h
  cases h
theorem zf1{lo:Int}{m:Nat}:(Qj lo m).length=m:=by simp[Qj]
theorem zhf(Inv:Nat->En->Nat->Prop)(h0:Inv m o n)
  (turn:∀m o n,Inv m o n->c o n fun b x=>if b=true then tb { D with nx:=fun l v=>∃u,u<m/\Inv u l v,ct:=fun l v=>∃u,u<m/\Inv u l v,bk:=D.nx } o x else D.nx o x):zl_ c tb D o n :=
 ⟨Inv,⟨m,h0⟩,turn⟩
theorem zrj(I:ρ[0]?=some (some (.val (SCR ns))))(G:ρ[j]?=some (some (.val (.int k))))(J:ns.length<=63)(y:0<=k)(C:k<=100)(L:JX ρ=ρd)
  (h:u { nx:=fun x _=>D.nx (JX x) n,rt:=fun t _=>∃b,t=.bool b/\D.rt t n,bk:=fun x _=>D.bk (JX x) n,ct:=fun x _=>D.ct (JX x) n } ((ρd.set j (some (.val (.int k)))).set i (some (.val HAND))) 0):YG i j u D ρ n:=by
 subst L;unfold YG;rw[I,G];exact⟨⟨ns,rfl,J⟩,y,C,h⟩
def rkAt(rk:ah->Int)(xs:Array bO)(i:Nat):Int:=((xs[i]?).map fun p=>rk p.1).getD 0
theorem Zb(h:xs[i]?=ys[j]?):rkAt rk xs i=rkAt rk ys j:=by unfold rkAt;rw[h]
theorem zsC(l:u<xs.size)(hd:d<=u)(k:Nat) :
  (k=u - d->rkAt rk (bubble xs u d) k=rkAt rk xs u)/\(u - d<k->k<=u->rkAt rk (bubble xs u d) k=rkAt rk xs (k - 1))/\(k<u - d\/u<k->rkAt rk (bubble xs u d) k=rkAt rk xs k):=by
 have e:=getElem?_bubble l d hd k;refine⟨fun h=>?_,fun o v=>?_,fun h=>?_⟩
 ·rw[if_pos h]at e;exact Zb e
 ·rw[if_neg (by lia),if_pos ⟨o,v⟩]at e;exact Zb e
 ·rw[if_neg (by lia),if_neg (by lia)]at e;exact Zb e
theorem VQ(l:j<=xs.size)(k:Nat) :
  (i<=k->k<j->rkAt rk (mirror xs i j ((j - i) / 2)) k=rkAt rk xs (i+j - 1 - k))/\(k<i\/j<=k->rkAt rk (mirror xs i j ((j - i) / 2)) k=rkAt rk xs k):=by
 have e:=getElem?_mirror_all (i:=i) l k;refine⟨fun o u=>?_,fun h=>?_⟩
 ·rw[if_pos ⟨o,u⟩]at e;exact Zb e
 ·rw[if_neg (by lia)]at e;exact Zb e
structure Sb(kd:fj)(a0:Array bO)(z:bR):Prop where
 pm:(arrOf z).Perm a0
 kn:kindOf z=kd
 fl:failedOf z=none
 pe:pendingOf z=#[]
def Up(rk:ah->Int)(xs:Array bO)(m:Nat):Prop:=∀i j,i<j->j<m->rkAt rk xs i<=rkAt rk xs j
section
variable{prog:aQ}{w:bz}{A:br}{E:qV}{s:aw}{kd:fj}{rk:ah->Int}{a0:Array bO}
def Cmp(prog:aQ)(w:bz)(A:br)(s:aw)(kd:fj)(rk:ah->Int)(a0:Array bO):Prop :=
 ∀(p q:bO) (E:qV) (Q:Bool->aw->Prop),p∈a0.toList->q∈a0.toList->Q (decide (rk p.1<rk q.1)) s->wpAny (model prog w) A (keyLt' kd p.1 q.1) Q E s
theorem Sb.sz(b:Sb kd a0 z):(arrOf z).size=a0.size:=b.pm.size_eq
end
section
variable{prog:aQ}{w:bz}{A:br}{E:qV}{s:aw}{kd:fj}{rk:ah->Int}{a0:Array bO}
theorem UW(l:j<=xs.size)(al:∀k,i<=k->k<j->rkAt rk xs k=rkAt rk xs (j - 1))(k:Nat):rkAt rk (mirror xs i j ((j - i) / 2)) k=rkAt rk xs k:=by
 obtain⟨p,q⟩:=VQ (rk:=rk) (i:=i) l k
 by_cases g:i<=k/\k<j
 ·rw[p g.1 g.2,al _ (by omega) (by omega),al k g.1 g.2]
 ·exact q (by omega)
end
def zju:Bool->bO->Array bO->Nat->Nat->Nat->StateT bR Sem (Option Nat):=sortPriv% PySem.Builtin.gallop
section
variable{prog:aQ}{w:bz}{A:br}{E:qV}{s:aw}{kd:fj}{rk:ah->Int}{a0:Array bO}
theorem Zv(c:Cmp prog w A s kd rk a0)(k:kindOf z=kd)(l:p∈a0.toList)(o:q∈a0.toList)
  (h:Q (some (decide (rk p.1<rk q.1))) z):wpS (model prog w) A E s (lt' p q) Q z:=by
 rw[lt'_eq];refine aC (iO (aC (lH (nN ?_))));rw[k];exact c p q _ _ l o ⟨rfl,aI h⟩
def bey(rk:ah->Int)(left:Bool)(key:bO)(arr:Array bO)(base i:Nat):Bool:=if left then decide (rkAt rk arr (base+i)<rk key.1) else !decide (rk key.1<rkAt rk arr (base+i))
theorem Zj(c:Cmp prog w A s kd rk a0)(k:kindOf z=kd)(hk:key∈a0.toList)
  (ha:∀i,i<n->∃p,arr[base+i]?=some p/\p∈a0.toList) (hn:hint<n) (up:∀i j,i<j->j<n->rkAt rk arr (base+i)<=rkAt rk arr (base+j))
  (h:∀m,m<=n->(∀i,i<m->bey rk left key arr base i=true)->(∀i,m<=i->i<n->bey rk left key arr base i=false)->Q (some m) z):wpS (model prog w) A E s (zju left key arr base n hint) Q z:=by
 have e_:zju=zju:=rfl
 conv at e_=>rhs;whnf
 rw[e_];dsimp only;clear e_;have U:∀(i:Nat) (Q:Option Bool->bR->Prop),i<n->Q (some (bey rk left key arr base i)) z->wpS (model prog w) A E s (do
   let x <- elem' arr (base+i)
   if left then lt' x key else return (<- lt' key x).map (!·)) Q z:=by
  intro i Q hi Y;obtain⟨p,ep,mp⟩:=ha i hi;have r:rkAt rk arr (base+i)=rk p.1:=by unfold rkAt;rw[ep];rfl
  simp only[vD,ep,pure_bind];unfold bey at Y;rw[r]at Y;cases left with
  | true=>exact Zv c k mp hk (by simpa using Y)
  | false =>
   refine aC (Zv c k hk mp ?_);exact aI (by simpa using Y)
 have mono:∀i j,i<=j->j<n->bey rk left key arr base j=true->bey rk left key arr base i=true:=by
  intro i j hij hj L;rcases nV hij with rfl|hlt
  ·exact L
  ·have:=up i j hlt hj;unfold bey at *;cases left <;> simp at * <;> omega
 refine aC (U hint _ hn ?_);dsimp only;cases hr:bey rk left key arr base hint with
 | true =>
  rw[if_pos rfl];refine aC (eM (cn (I:=fun x c G=>G=z/\∃l r,c=(none,l,r)/\l<r/\x<r/\hint+l<n/\bey rk left key arr base (hint+l)=true)
   (Q:=fun c G=>G=z/\∃l r,c=(none,l,r)/\l<r/\hint+l<n/\bey rk left key arr base (hint+l)=true/\(n - hint<=r\/(hint+r<n/\bey rk left key arr base (hint+r)=false))) ?turn ?last ⟨rfl,0,1,rfl,by omega,by omega,by omega,hr⟩) ?post)
  case post =>
   rintro c G ⟨rfl,l,r,rfl,R,J,C,v⟩;dsimp only;have b1:∀i,i<hint+l+1->bey rk left key arr base i=true:=fun i hi=>mono i (hint+l) (by omega) J C
   have Z:∀i,hint+min r (n - hint)<=i->i<n->bey rk left key arr base i=false:=fun i hi N=>by
    rcases v with v|⟨v,S⟩
    ·omega
    ·cases hb':bey rk left key arr base i with
     | false=>rfl
     | true=>rw[mono (hint+r) i (by omega) N hb']at S;cases S
   refine aC (eM (cn (I:=fun x c y=>y=G/\∃l r,c=(none,l,r)/\l<=r/\r<=n/\r - l<=n - x/\(∀i,i<l->bey rk left key arr base i=true)/\(∀i,r<=i->i<n->bey rk left key arr base i=false))
    (Q:=fun c y=>y=G/\∃r,c=(none,r,r)/\r<=n/\(∀i,i<r->bey rk left key arr base i=true)/\(∀i,r<=i->i<n->bey rk left key arr base i=false)) ?turn2 ?last2 ⟨rfl,hint+l+1,hint+min r (n - hint),rfl,by omega,by omega,by omega,b1,Z⟩) ?post2)
   case post2 =>
    rintro c y ⟨rfl,r,rfl,q1,q2,q3⟩;exact aI (h r q1 q2 q3)
   case last2 =>
    rintro c y ⟨rfl,l,r,rfl,R,J,C,v,S⟩;have:l=r:=by omega
    subst this;exact⟨rfl,l,rfl,J,v,S⟩
   case turn2 =>
    rintro x c y _ hx ⟨rfl,l,r,rfl,R,J,C,v,S⟩;dsimp only
    by_cases hge:l>=r
    ·rw[if_pos hge];have:l=r:=by omega
     subst this;exact aI ⟨rfl,l,rfl,J,v,S⟩
    ·rw[if_neg hge];refine aC (U _ _ (by omega) ?_)
     dsimp only;cases L:bey rk left key arr base (l+(r - l) / 2) with
     | true =>
      rw[if_pos rfl];exact aI ⟨rfl,_,_,rfl,by omega,J,by omega,fun i hi=>mono i _ (by omega) (by omega) L,S⟩
     | false =>
      rw[if_neg (by simp)]
      refine aI ⟨rfl,_,_,rfl,by omega,by omega,by omega,v,fun i hi N=>?_⟩
      cases hb':bey rk left key arr base i with
      | false=>rfl
      | true=>rw[mono _ i hi N hb']at L;cases L
  case last =>
   rintro c G ⟨rfl,l,r,rfl,R,J,C,v⟩;exact⟨rfl,l,r,rfl,R,C,v,.inl (by omega)⟩
  case turn =>
   rintro x c G _ hx ⟨rfl,l,r,rfl,R,J,C,v⟩;dsimp only
   by_cases hge:r>=n - hint
   ·rw[if_pos hge];exact aI ⟨rfl,l,r,rfl,R,C,v,.inl hge⟩
   ·rw[if_neg hge];refine aC (U _ _ (by omega) ?_)
    dsimp only;cases L:bey rk left key arr base (hint+r) with
    | true =>
     rw[if_neg (by simp)]
     exact aI ⟨rfl,r,_,rfl,by omega,by omega,by omega,L⟩
    | false =>
     rw[if_pos (by simp)]
     exact aI ⟨rfl,l,r,rfl,R,C,v,.inr ⟨by omega,L⟩⟩
 | false =>
  rw[if_neg (by simp)]
  refine aC (eM (cn (I:=fun x c G=>G=z/\∃l r,c=(none,l,r)/\l<r/\x<r/\l<=hint/\bey rk left key arr base (hint - l)=false)
   (Q:=fun c G=>G=z/\∃l r,c=(none,l,r)/\l<r/\l<=hint/\bey rk left key arr base (hint - l)=false/\(hint+1<=r\/(r<=hint/\bey rk left key arr base (hint - r)=true))) ?turn ?last ⟨rfl,0,1,rfl,by omega,by omega,by omega,hr⟩) ?post)
  case post =>
   rintro c G ⟨rfl,l,r,rfl,R,J,C,v⟩;dsimp only;have b1:∀i,i<hint+1 - min r (hint+1)->bey rk left key arr base i=true:=fun i hi=>by
    rcases v with v|⟨v,S⟩
    ·omega
    ·exact mono i (hint - r) (by omega) (by omega) S
   have Z:∀i,hint - l<=i->i<n->bey rk left key arr base i=false:=fun i hi N=>by
    cases hb':bey rk left key arr base i with
    | false=>rfl
    | true=>rw[mono (hint - l) i (by omega) N hb']at C;cases C
   refine aC (eM (cn (I:=fun x c y=>y=G/\∃l r,c=(none,l,r)/\l<=r/\r<=n/\r - l<=n - x/\(∀i,i<l->bey rk left key arr base i=true)/\(∀i,r<=i->i<n->bey rk left key arr base i=false))
    (Q:=fun c y=>y=G/\∃r,c=(none,r,r)/\r<=n/\(∀i,i<r->bey rk left key arr base i=true)/\(∀i,r<=i->i<n->bey rk left key arr base i=false)) ?turn2 ?last2 ⟨rfl,hint+1 - min r (hint+1),hint - l,rfl,by omega,by omega,by omega,b1,Z⟩) ?post2)
   case post2 =>
    rintro c y ⟨rfl,r,rfl,q1,q2,q3⟩;exact aI (h r q1 q2 q3)
   case last2 =>
    rintro c y ⟨rfl,l,r,rfl,R,J,C,v,S⟩;have:l=r:=by omega
    subst this;exact⟨rfl,l,rfl,J,v,S⟩
   case turn2 =>
    rintro x c y _ hx ⟨rfl,l,r,rfl,R,J,C,v,S⟩;dsimp only
    by_cases hge:l>=r
    ·rw[if_pos hge];have:l=r:=by omega
     subst this;exact aI ⟨rfl,l,rfl,J,v,S⟩
    ·rw[if_neg hge];refine aC (U _ _ (by omega) ?_)
     dsimp only;cases L:bey rk left key arr base (l+(r - l) / 2) with
     | true =>
      rw[if_pos rfl];exact aI ⟨rfl,_,_,rfl,by omega,J,by omega,fun i hi=>mono i _ (by omega) (by omega) L,S⟩
     | false =>
      rw[if_neg (by simp)]
      refine aI ⟨rfl,_,_,rfl,by omega,by omega,by omega,v,fun i hi N=>?_⟩
      cases hb':bey rk left key arr base i with
      | false=>rfl
      | true=>rw[mono _ i hi N hb']at L;cases L
  case last =>
   rintro c G ⟨rfl,l,r,rfl,R,J,C,v⟩;exact⟨rfl,l,r,rfl,R,C,v,.inl (by omega)⟩
  case turn =>
   rintro x c G _ hx ⟨rfl,l,r,rfl,R,J,C,v⟩;dsimp only
   by_cases hge:r>=hint+1
   ·rw[if_pos hge];exact aI ⟨rfl,l,r,rfl,R,C,v,.inl hge⟩
   ·rw[if_neg hge];refine aC (U _ _ (by omega) ?_)
    dsimp only;cases L:bey rk left key arr base (hint - r) with
    | true =>
     rw[if_pos rfl];exact aI ⟨rfl,l,r,rfl,R,C,v,.inr ⟨by omega,L⟩⟩
    | false =>
     rw[if_neg (by simp)]
     exact aI ⟨rfl,r,_,rfl,by omega,by omega,by omega,L⟩
end
end L2
namespace L2
section
variable{α:Type}{r:α->Int}{a b out:List α}{ia ib na nb k:Nat}
theorem m1{x:α}{l m:List α}(h:x∈l):x∈l++m:=ax.mpr (.inl h)
theorem m2{x:α}{l m:List α}(h:x∈m):x∈l++m:=ax.mpr (.inr h)
def Ris(r:α->Int)(l:List α):Prop:=l.Pairwise fun x y=>r x<=r y
structure MLo(r:α->Int)(a b out:List α)(ia ib:Nat):Prop where
 pm:(out++(a.drop ia++b.drop ib)).Perm (a++b)
 so:Ris r out
 le:∀x∈out,∀y∈a.drop ia++b.drop ib,r x<=r y
theorem J5{l m:List α}:Ris r (l++m)↔Ris r l/\Ris r m/\∀x∈l,∀y∈m,r x<=r y:=cq
theorem Ris.drop{l:List α}(h:Ris r l)(k:Nat):Ris r (l.drop k):=mM (kZ k l) h
theorem Ris.take{l:List α}(h:Ris r l)(k:Nat):Ris r (l.take k):=mM (oo k l) h
theorem cut2(l:List α)(i k:Nat):l.drop i=(l.drop i).take k++l.drop (i+k):=by rw[<- List.drop_drop];exact(ft k _).symm
theorem MLo.takeB(h:MLo r a b out ia ib)(C:Ris r b)(c:∀y∈(b.drop ib).take k,∀x∈a.drop ia,r y<=r x):MLo r a b (out++(b.drop ib).take k) ia (ib+k):=by
 have e:=cut2 b ib k;obtain⟨v,G,u⟩:=h;have l:=C.drop ib;rw[e]at v u l;have l:=J5.mp l;refine⟨?_,J5.mpr ⟨G,l.1,fun x hx y o=>u x hx y (m2 (m1 o))⟩,fun x hx y o=>?_⟩
 ·refine iU ?_ v;rw[bL];exact gf _ (i5 _ _ _)
 ·rcases ax.mp hx with z|z
  ·refine u x z y ?_;rcases ax.mp o with w|w
   ·exact m1 w
   ·exact m2 (m2 w)
  ·rcases ax.mp o with w|w
   ·exact c x z y w
   ·exact l.2.2 x z y w
theorem MLo.takeA(h:MLo r a b out ia ib)(G:Ris r a)(c:∀x∈(a.drop ia).take k,∀y∈b.drop ib,r x<=r y):MLo r a b (out++(a.drop ia).take k) (ia+k) ib:=by
 have e:=cut2 a ia k;obtain⟨v,C,u⟩:=h;have l:=G.drop ia;rw[e]at v u l;have l:=J5.mp l;refine⟨?_,J5.mpr ⟨C,l.1,fun x hx y o=>u x hx y (m1 (m1 o))⟩,fun x hx y o=>?_⟩
 ·refine iU ?_ v;simp only[bL];exact rG _
 ·rcases ax.mp hx with z|z
  ·refine u x z y ?_;rcases ax.mp o with w|w
   ·exact m1 (m2 w)
   ·exact m2 w
  ·rcases ax.mp o with w|w
   ·exact l.2.2 x z y w
   ·exact c x z y w
theorem take1{l:List α}{i:Nat}{y:α}(h:l[i]?=some y):(l.drop i).take 1=[y]:=by
 have hi:=(av.mp h).1;rw[bf hi];have:=(av.mp h).2;simp[this]
theorem MLo.pushB{y:α}(h:MLo r a b out ia ib)(l:Ris r b)(e:b[ib]?=some y)(c:∀x∈a.drop ia,r y<=r x):MLo r a b (out++[y]) ia (ib+1):=by
 have:=h.takeB (k:=1) l (by rw[take1 e];intro z o x hx;cases aA.mp o;exact c x hx)
 rwa [take1 e]at this
theorem MLo.pushA{x:α}(h:MLo r a b out ia ib)(u:Ris r a)(e:a[ia]?=some x)(c:∀y∈b.drop ib,r x<=r y):MLo r a b (out++[x]) (ia+1) ib:=by
 have:=h.takeA (k:=1) u (by rw[take1 e];intro z l y o;cases aA.mp l;exact c y o)
 rwa [take1 e]at this
theorem MLo.done(h:MLo r a b out ia ib)(o:Ris r a)(l:Ris r b)(c:∀x∈a.drop ia,∀y∈b.drop ib,r x<=r y):(out++a.drop ia++b.drop ib).Perm (a++b)/\Ris r (out++a.drop ia++b.drop ib):=by
 refine⟨by rw[bL];exact h.pm,?_⟩
 rw[bL];exact J5.mpr ⟨h.so,J5.mpr ⟨o.drop _,l.drop _,c⟩,h.le⟩
theorem MLo.last(h:MLo r a b out ia ib)(u:Ris r a)(l:Ris r b)(c:∀y∈b.drop ib,∀x∈a.drop ia,r y<=r x):(out++b.drop ib++a.drop ia).Perm (a++b)/\Ris r (out++b.drop ib++a.drop ia):=by
 refine⟨?_,?_⟩
 ·rw[bL];exact(gf _ mN).trans h.pm
 ·rw[bL];refine J5.mpr ⟨h.so,J5.mpr ⟨l.drop _,u.drop _,c⟩,fun x hx y o=>h.le x hx y ?_⟩
  rcases ax.mp o with w|w
  ·exact m2 w
  ·exact m1 w
structure MHi(r:α->Int)(a b out:List α)(na nb:Nat):Prop where
 pm:((a.take na++b.take nb)++out).Perm (a++b)
 so:Ris r out
 le:∀x∈a.take na++b.take nb,∀y∈out,r x<=r y
theorem cut3(l:List α){n k:Nat}(h:k<=n):l.take n=l.take k++(l.take n).drop k:=by
 have:=ft k (l.take n);rw[List.take_take,mC h]at this;exact this.symm
theorem MHi.takeB(h:MHi r a b out na nb)(I:Ris r b)(G:k<=nb)(c:∀x∈a.take na,∀y∈(b.take nb).drop k,r x<=r y):MHi r a b ((b.take nb).drop k++out) na k:=by
 have e:=cut3 b G;obtain⟨C,J,u⟩:=h;have l:=I.take nb;rw[e]at C u l;have l:=J5.mp l;refine⟨?_,J5.mpr ⟨l.2.1,J,fun x hx y v=>u x (m2 (m2 hx)) y v⟩,fun x hx y v=>?_⟩
 ·refine iU ?_ C;simp only[bL];exact rG _
 ·rcases ax.mp v with z|z
  ·rcases ax.mp hx with w|w
   ·exact c x w y z
   ·exact l.2.2 x w y z
  ·refine u x ?_ y z;rcases ax.mp hx with w|w
   ·exact m1 w
   ·exact m2 (m1 w)
theorem MHi.takeA(h:MHi r a b out na nb)(J:Ris r a)(G:k<=na)(c:∀x∈b.take nb,∀y∈(a.take na).drop k,r x<=r y):MHi r a b ((a.take na).drop k++out) k nb:=by
 have e:=cut3 a G;obtain⟨C,I,u⟩:=h;have l:=J.take na;rw[e]at C u l;have l:=J5.mp l;refine⟨?_,J5.mpr ⟨l.2.1,I,fun x hx y v=>u x (m1 (m2 hx)) y v⟩,fun x hx y v=>?_⟩
 ·refine iU ?_ C;simp only[bL];exact gf _ (i5 _ _ _)
 ·rcases ax.mp v with z|z
  ·rcases ax.mp hx with w|w
   ·exact l.2.2 x w y z
   ·exact c x w y z
  ·refine u x ?_ y z;rcases ax.mp hx with w|w
   ·exact m1 (m1 w)
   ·exact m2 w
theorem UK{l:List α}{n:Nat}{y:α}(h:l[n]?=some y):(l.take (n+1)).drop n=[y]:=by
 have hi:=(av.mp h).1;have e:(l.take (n+1))=l.take n++[y]:=by rw[dF,h];rfl
 rw[e,List.drop_append_of_le_length (by simp;omega),fW (by simp;omega)]
 rfl
theorem MHi.pushB{y:α}(h:MHi r a b out na (nb+1))(l:Ris r b)(e:b[nb]?=some y)(c:∀x∈a.take na,r x<=r y):MHi r a b (y::out) na nb:=by
 have:=h.takeB (k:=nb) l (by omega) (by rw[UK e];intro x hx z o;cases aA.mp o;exact c x hx)
 rwa [UK e]at this
theorem MHi.pushA{x:α}(h:MHi r a b out (na+1) nb)(u:Ris r a)(e:a[na]?=some x)(c:∀y∈b.take nb,r y<=r x):MHi r a b (x::out) na nb:=by
 have:=h.takeA (k:=na) u (by omega) (by rw[UK e];intro y o z l;cases aA.mp l;exact c y o)
 rwa [UK e]at this
theorem MHi.done(h:MHi r a b out na nb)(o:Ris r a)(l:Ris r b)(c:∀x∈a.take na,∀y∈b.take nb,r x<=r y):(a.take na++b.take nb++out).Perm (a++b)/\Ris r (a.take na++b.take nb++out) :=
 ⟨h.pm,J5.mpr ⟨J5.mpr ⟨o.take _,l.take _,c⟩,h.so,h.le⟩⟩
theorem MHi.first(h:MHi r a b out na nb)(u:Ris r a)(l:Ris r b)(c:∀y∈b.take nb,∀x∈a.take na,r y<=r x):(b.take nb++a.take na++out).Perm (a++b)/\Ris r (b.take nb++a.take na++out):=by
 refine⟨(lY _ mN).trans h.pm,J5.mpr ⟨J5.mpr ⟨l.take _,u.take _,c⟩,h.so,fun x hx y o=>h.le x ?_ y o⟩⟩
 rcases ax.mp hx with w|w
 ·exact m2 w
 ·exact m1 w
end
section
open PySem PySem.Spec PyProof.Rows
theorem ex4{C:Type}{y:Type}{v:Type}{G:Type}{A R:Prop}{X:C->y->v->G->Prop}(h:A/\∃x0 u l o,X x0 u l o)(k:A->∀x0 u l o,X x0 u l o->R):R:=by
 obtain⟨a,x0,u,l,o,x⟩:=h;exact k a x0 u l o x
theorem ex5{I:Type}{C:Type}{y:Type}{J:Type}{G:Type}{A R:Prop}{X:I->C->y->J->G->Prop}(h:A/\∃x0 v o u l,X x0 v o u l)(k:A->∀x0 v o u l,X x0 v o u l->R):R:=by
 obtain⟨a,x0,v,o,u,l,x⟩:=h;exact k a x0 v o u l x
theorem eo5{C:Type}{J:Type}{G:Type}{I:Type}{L:Type}{U N:Type}{A R:Prop}{X:C->J->G->I->L->Prop}{Y:U->N->Prop}(h:A/\((∃x0 u l o v,X x0 u l o v)\/∃m r,Y m r))(k:A->∀x0 u l o v,X x0 u l o v->R)(S:A->∀m r,Y m r->R):R:=by
 obtain⟨a,⟨x0,u,l,o,v,x⟩|⟨m,r,y⟩⟩:=h
 ·exact k a x0 u l o v x
 ·exact S a m r y
theorem ex6{C:Type}{L:Type}{G:Type}{J:Type}{N:Type}{I:Type}{A R:Prop}{X:C->L->G->J->N->I->Prop}(h:A/\∃x0 u l o y v,X x0 u l o y v)(k:A->∀x0 u l o y v,X x0 u l o y v->R):R:=by
 obtain⟨a,x0,u,l,o,y,v,x⟩:=h;exact k a x0 u l o y v x
theorem eo6{G:Type}{N:Type}{I:Type}{L:Type}{S:Type}{J:Type}{β U:Type}{A R:Prop}{X:G->N->I->L->S->J->Prop}{Y:β->U->Prop}(h:A/\((∃x0 u l o C v,X x0 u l o C v)\/∃m r,Y m r))(k:A->∀x0 u l o C v,X x0 u l o C v->R)(Z:A->∀m r,Y m r->R):R:=by
 obtain⟨a,⟨x0,u,l,o,C,v,x⟩|⟨m,r,y⟩⟩:=h
 ·exact k a x0 u l o C v x
 ·exact Z a m r y
theorem JO{M:pf}{A:br}{E:qV}{s:aw}{σ α:Type}{c:Prop}{_:Decidable c}{t e:StateT σ Sem α}{Q:α->σ->Prop}{z:σ}(l:c->wpS M A E s t Q z)(o:¬c->wpS M A E s e Q z):wpS M A E s (if c then t else e) Q z:=by
 by_cases h:c
 ·rw[if_pos h];exact l h
 ·rw[if_neg h];exact o h
theorem zpL{M:pf}{A:br}{E:qV}{s:aw}{σ α u:Type}{c:u->Prop}{_:∀o,Decidable (c o)}{t F:u->StateT σ Sem α}{Q:α->σ->Prop}{z:σ}(l:u)(P:u->Prop)
  (v:∀o,P o->wpS M A E s (F o) Q z) (y:c l->(∀o,P o->wpS M A E s (F o) Q z)->wpS M A E s (t l) Q z) (x:¬c l->P l):∀o,l=o->wpS M A E s (if c o then t o else F o) Q z:=by
 rintro o rfl;exact JO (fun h=>y h v) (fun h=>v _ (x h))
theorem VT{M:pf}{A:br}{E:qV}{s:aw}{σ α x v:Type}{c:x->v->Prop}{_:∀o i,Decidable (c o i)}{t F:x->v->StateT σ Sem α}{Q:α->σ->Prop}{z:σ}(l:x)(u:v)(P:x->v->Prop)
  (y:∀o i,P o i->wpS M A E s (F o i) Q z) (G:c l u->(∀o i,P o i->wpS M A E s (F o i) Q z)->wpS M A E s (t l u) Q z) (C:¬c l u->P l u):∀o,l=o->∀i,u=i->wpS M A E s (if c o i then t o i else F o i) Q z:=by
 rintro o rfl i rfl;exact JO (fun h=>G h y) (fun h=>y _ _ (C h))
end
end L2
namespace L2
open PySem PySem.Spec PyProof.Rows
def zgW:Array bO->Array bO->StateT bR Sem (Array bO):=sortPriv% PySem.Builtin.mergeLo
def zcn:Nat->StateT bR Sem Unit:=sortPriv% PySem.Builtin.setMinGallop
section
variable{prog:aQ}{w:bz}{A:br}{E:qV}{s:aw}{kd:fj}{rk:ah->Int}{a0:Array bO}
structure SmS(z z':bR):Prop where
 kn:kindOf z'=kindOf z
 ar:arrOf z'=arrOf z
 pe:pendingOf z'=pendingOf z
 fl:failedOf z'=failedOf z
theorem SmS.refl(z:bR):SmS z z:=⟨rfl,rfl,rfl,rfl⟩
theorem SmS.trans{x y z:bR}(h:SmS x y)(k:SmS y z):SmS x z:=⟨k.kn.trans h.kn,k.ar.trans h.ar,k.pe.trans h.pe,k.fl.trans h.fl⟩
theorem Wl{g:Nat}{z:bR}{Q:Unit->bR->Prop}(h:∀o,SmS z o->Q () o):wpS (model prog w) A E s (zcn g) Q z:=by
 have l:zcn=zcn:=rfl
 conv at l=>rhs;whnf
 rw[l];dsimp only;clear l;exact iH (h _ ⟨rfl,rfl,rfl,rfl⟩)
theorem J8{x:Array bO}{i:Nat}{p:bO}{z:bR}{Q:bO->bR->Prop}(e:x[i]?=some p)(h:Q p z):wpS (model prog w) A E s (elem' x i) Q z:=by
 rw[vD,e];exact aI h
abbrev rkP(rk:ah->Int)(p:bO):Int:=rk p.1
theorem V4{x:Array bO}{i:Nat}:(x.extract i x.size).toList=x.toList.drop i:=by
 rw[mZ];exact cu (by simp)
theorem V5{x:Array bO}{i k:Nat}:(x.extract i (i+k)).toList=(x.toList.drop i).take k:=by simp
theorem zmU{l:List bO}{i k:Nat}{x:bO}(h:x∈(l.drop i).take k):∃j,j<k/\l[i+j]?=some x:=by
 obtain⟨j,o,e⟩:=gP.mp h;refine⟨j,by omega,?_⟩
 have:=ak (l:=l.drop i) (i:=j) (by omega)
 rw[kG,e]at this;exact this
theorem zjg{l:List bO}{i:Nat}{x:bO}(h:x∈l.drop i):∃j,i+j<l.length/\l[i+j]?=some x:=by
 obtain⟨j,o,e⟩:=bg h;have:=ak o;rw[kG,e]at this;exact⟨j,by simp at o;omega,this⟩
theorem Qn{x:Array bO}{i:Nat}{p:bO}(h:x.toList[i]?=some p):rkAt rk x i=rkP rk p:=by
 unfold rkAt;rw[cR]at h;rw[h];rfl
theorem Vv{x:Array bO}(h:Ris (rkP rk) x.toList){i j:Nat}(o:i<j)(u:j<x.size):rkAt rk x i<=rkAt rk x j:=by
 have hi:i<x.toList.length:=by simp;omega
 have l:j<x.toList.length:=by simpa using u
 rw[Qn (ak hi),Qn (ak l)];exact aT.mp h i j hi l o
theorem zk6{a b:Array bO}{z:bR}{Q:Array bO->bR->Prop}(c0:Cmp prog w A s kd rk a0)(k:kindOf z=kd)(ha:∀p∈a.toList,p∈a0.toList)(hb:∀p∈b.toList,p∈a0.toList)
  (sa:Ris (rkP rk) a.toList) (sb:Ris (rkP rk) b.toList) (na:0<a.size) (nb:0<b.size) (f1:∀y,b.toList[0]?=some y->∀x∈a.toList,rkP rk y<=rkP rk x)
  (f2:∀x,a.toList[a.size - 1]?=some x->∀y∈b.toList,rkP rk y<=rkP rk x)
  (h:∀m N,m.toList.Perm (a.toList++b.toList)->Ris (rkP rk) m.toList->SmS z N->Q m N):wpS (model prog w) A E s (zgW a b) Q z:=by
 have e_:zgW=zgW:=rfl
 conv at e_=>rhs;whnf
 rw[e_];clear e_;have gb:∀i,i<b.size->∃p,b[i]?=some p/\b.toList[i]?=some p/\p∈a0.toList:=fun i hi=>⟨b[i],bH hi,by simp[hi],hb _ (by simp)⟩
 have ga:∀i,i<a.size->∃p,a[i]?=some p/\a.toList[i]?=some p/\p∈a0.toList:=fun i hi=>⟨a[i],bH hi,by simp[hi],ha _ (by simp)⟩
 have gaA:∀u i,i<a.size - u->∃p,a[u+i]?=some p/\p∈a0.toList:=fun u i hi=>by
  obtain⟨p,e,_,m⟩:=ga (u+i) (by omega)
  exact⟨p,e,m⟩
 have gbA:∀u i,i<b.size - u->∃p,b[u+i]?=some p/\p∈a0.toList:=fun u i hi=>by
  obtain⟨p,e,_,m⟩:=gb (u+i) (by omega)
  exact⟨p,e,m⟩
 have upA:∀u i j,i<j->j<a.size - u->rkAt rk a (u+i)<=rkAt rk a (u+j):=fun u i j hij hj=>Vv sa (by omega) (by omega)
 have upB:∀u i j,i<j->j<b.size - u->rkAt rk b (u+i)<=rkAt rk b (u+j):=fun u i j hij hj=>Vv sb (by omega) (by omega)
 have Kk:∀i p,b.toList[i]?=some p->∀y∈b.toList.drop i,rkP rk p<=rkP rk y:=fun i p lp y J=>by
  have e:=cut2 b.toList i 1;rw[take1 lp]at e;have:=sb.drop i;rw[e]at this J;rcases ax.mp J with z|z
  ·cases aA.mp z;exact bh _
  ·exact(J5.mp this).2.2 p (by simp) y z
 have Kl:∀i p,a.toList[i]?=some p->∀y∈a.toList.drop i,rkP rk p<=rkP rk y:=fun i p lp y J=>by
  have e:=cut2 a.toList i 1;rw[take1 lp]at e;have:=sa.drop i;rw[e]at this J;rcases ax.mp J with z|z
  ·cases aA.mp z;exact bh _
  ·exact(J5.mp this).2.2 p (by simp) y z
 obtain⟨b0,eb0,lb0,mb0⟩:=gb 0 nb;have M0:MLo (rkP rk) a.toList b.toList [b0] 0 1:=by
  have:MLo (rkP rk) a.toList b.toList [] 0 0:=⟨by simp,ie,fun x hx=>nomatch hx⟩
  have:=this.pushB sb lb0 (by simpa using f1 b0 lb0)
  simpa using this
 refine aC (lH (dw ⟨rfl,?_⟩));refine aC (J8 eb0 ?_);have Iu:∀(out:Array bO) (v C:Nat) (N:bR),SmS z N->MLo (rkP rk) a.toList b.toList out.toList v C->(v=a.size\/C=b.size)->(out++a.extract v a.size++b.extract C b.size).toList.Perm (a.toList++b.toList)/\Ris (rkP rk) (out++a.extract v a.size++b.extract C b.size).toList:=fun out v C N S M e=>by
  rw[cB,cB,V4,V4];refine M.done sa sb fun x hx y J=>?_
  rcases e with rfl|rfl
  ·rw[fW (by simp)]at hx;cases hx
  ·rw[fW (by simp)]at J;cases J
 have IB:∀(out:Array bO) (v C:Nat) (N:bR),SmS z N->MLo (rkP rk) a.toList b.toList out.toList v C->v+1=a.size->(out++b.extract C b.size++a.extract v a.size).toList.Perm (a.toList++b.toList)/\Ris (rkP rk) (out++b.extract C b.size++a.extract v a.size).toList:=fun out v C N S M e=>by
  rw[cB,cB,V4,V4];refine M.last sa sb fun y J x hx=>?_
  obtain⟨p,ep,lp,mp⟩:=ga v (by omega)
  have:x=p:=by
   have R:=take1 lp;rw[cu (by simp;omega)]at R
   rw[R]at hx;exact aA.mp hx
  subst this;exact f2 x (by rw[show a.size - 1=v by omega];exact lp) y (fC J)
 refine JO (fun h1=>?_) (fun h1=>?_)
 ·have:=Iu #[b0] 0 1 z (.refl z) (by simpa using M0) (.inr (by simpa using h1))
  exact aI (h _ z this.1 this.2 (.refl z))
 refine JO (fun h2=>?_) (fun h2=>?_)
 ·have:=IB #[b0] 0 1 z (.refl z) (by simpa using M0) (by simpa using h2)
  exact aI (h _ z this.1 this.2 (.refl z))
 have h1:b.size≠1:=fun e=>h1 (by simp[e])
 have h2:a.size≠1:=fun e=>h2 (by simp[e])
 refine aC (iO ?_);refine aC (eM (cn (I:=fun X c N=>SmS z N/\∃out v C mg,c=(none,out,v,C,mg)/\MLo (rkP rk) a.toList b.toList (aW out) v C/\v+1<a.size/\C<b.size/\X+1<=v+C)
  (Q:=fun c N=>SmS z N/\∃m rest,c=(some m,rest)/\(aW m).Perm (a.toList++b.toList)/\Ris (rkP rk) (aW m)) ?turn ?last ⟨.refl z,#[b0],0,1,_,rfl,by simpa using M0,by omega,by omega,by omega⟩) ?post)
 case post =>
  rintro c N ⟨S,m,rest,rfl,q1,q2⟩;exact aI (h m N q1 q2 S)
 case last =>
  intro c N hI;refine ex4 hI fun S out v C mg q=>?_
  obtain rfl:=q.1;have M:=q.2.1;have l1:=q.2.2.1;have l2:=q.2.2.2.1;have l3:=q.2.2.2.2;omega
 case turn =>
  intro X c N _ hX hI;refine ex4 hI fun S out v C mg q=>?_
  obtain rfl:=q.1;have M:=q.2.1;have l1:=q.2.2.1;have l2:=q.2.2.2.1;have l3:=q.2.2.2.2;have kz:kindOf N=kd:=S.kn.trans k;refine aC (eM (cn (I:=fun x c G=>SmS z G/\∃out v C Z bc,c=(none,out,v,C,Z,bc)/\MLo (rkP rk) a.toList b.toList (aW out) v C/\v+1<a.size/\C<b.size/\X+1+x<=v+C)
   (Q:=fun c G=>SmS z G/\((∃out v C Z bc,c=(none,out,v,C,Z,bc)/\MLo (rkP rk) a.toList b.toList (aW out) v C/\v+1<a.size/\C<b.size/\X+2<=v+C)\/∃m rest,c=(some m,rest)/\(aW m).Perm (a.toList++b.toList)/\Ris (rkP rk) (aW m))) ?turn1 ?UK ⟨S,out,v,C,0,0,rfl,M,l1,l2,by omega⟩) ?post1)
  case UK =>
   intro c G hI;refine ex5 hI fun S out v C Z bc q=>?_
   obtain rfl:=q.1;have M:=q.2.1;have l1:=q.2.2.1;have l2:=q.2.2.2.1;have l3:=q.2.2.2.2;exact⟨S,.inl ⟨out,v,C,Z,bc,rfl,M,l1,l2,by omega⟩⟩
  case turn1 =>
   intro x c G _ hx hI;refine ex5 hI fun S out v C Z bc q=>?_
   obtain rfl:=q.1;have M:=q.2.1;have l1:=q.2.2.1;have l2:=q.2.2.2.1;have l3:=q.2.2.2.2;have kz:kindOf G=kd:=S.kn.trans k;dsimp only;obtain⟨p,ep,lp,mp⟩:=gb C l2;obtain⟨q,eq,lq,mq⟩:=ga v (by omega)
   have dB:∀y∈b.toList.drop C,rkP rk p<=rkP rk y:=fun y J=>by
    have e:=cut2 b.toList C 1;rw[take1 lp]at e;have:=sb.drop C;rw[e]at this J;rcases ax.mp J with z|z
    ·cases aA.mp z;exact bh _
    ·exact(J5.mp this).2.2 p (by simp) y z
   have dA:∀y∈a.toList.drop v,rkP rk q<=rkP rk y:=fun y J=>by
    have e:=cut2 a.toList v 1;rw[take1 lq]at e;have:=sa.drop v;rw[e]at this J;rcases ax.mp J with z|z
    ·cases aA.mp z;exact bh _
    ·exact(J5.mp this).2.2 q (by simp) y z
   refine aC (J8 ep (aC (J8 eq (aC (Zv c0 kz mp mq ?_)))));dsimp only;refine JO (fun Y=>?_) fun Y=>?_
   ·have Y:=of_decide_eq_true Y;have M':=M.pushB sb lp fun x hx=>cT (dH Y) (dA x hx)
    refine aC (J8 ep ?_);refine JO (fun R=>?_) (fun R=>?_)
    ·have:=Iu (out.push p) v (C+1) G S (by simpa using M') (.inr (by simpa using R))
     exact aI ⟨S,.inr ⟨_,_,rfl,this.1,this.2⟩⟩
    ·have R:C+1≠b.size:=fun e=>R (by simp[e])
     refine JO (fun e2=>?_) (fun e2=>?_)
     ·exact aI ⟨S,.inl ⟨_,_,_,_,_,rfl,by simpa using M',l1,by omega,by omega⟩⟩
     ·exact aI ⟨S,_,_,_,_,_,rfl,by simpa using M',l1,by omega,by omega⟩
   ·have Y:=of_decide_eq_false (dz.mpr Y);have M':=M.pushA sa lq fun y J=>cT (kH.mp Y) (dB y J)
    refine aC (J8 eq ?_);refine JO (fun R=>?_) (fun R=>?_)
    ·have:=IB (out.push q) (v+1) C G S (by simpa using M') (by simpa using R)
     exact aI ⟨S,.inr ⟨_,_,rfl,this.1,this.2⟩⟩
    ·have R:v+1+1≠a.size:=fun e=>R (by simp[e])
     refine JO (fun e2=>?_) (fun e2=>?_)
     ·exact aI ⟨S,.inl ⟨_,_,_,_,_,rfl,by simpa using M',by omega,l2,by omega⟩⟩
     ·exact aI ⟨S,_,_,_,_,_,rfl,by simpa using M',by omega,l2,by omega⟩
  case post1 =>
   intro c G hI;refine eo5 hI (fun S out v C Z bc q=>?_) (fun S m rest q=>?_)
   ·obtain rfl:=q.1;have M:=q.2.1;have l1:=q.2.2.1;have l2:=q.2.2.2.1;have l3:=q.2.2.2.2;refine aC (lH (dw ⟨rfl,?_⟩));refine aC (eM (cn (I:=fun x c G=>SmS z G/\∃out v C mg Z bc,c=(none,out,v,C,mg,Z,bc)/\MLo (rkP rk) a.toList b.toList (aW out) v C/\v+1<a.size/\C<b.size/\X+2<=v+C)
     (Q:=fun c G=>SmS z G/\((∃out v C mg Z bc,c=(none,out,v,C,mg,Z,bc)/\MLo (rkP rk) a.toList b.toList (aW out) v C/\v+1<a.size/\C<b.size/\X+2<=v+C)\/∃m rest,c=(some m,rest)/\(aW m).Perm (a.toList++b.toList)/\Ris (rkP rk) (aW m))) ?turn2 ?last2 ⟨S,out,v,C,_,Z,bc,rfl,M,l1,l2,by omega⟩) ?post2)
    case last2 =>
     rintro c G ⟨S,r⟩;exact⟨S,.inl r⟩
    case post2 =>
     intro c G hI;refine eo6 hI (fun S out v C mg Z bc q=>?_) (fun S m rest q=>?_)
     ·obtain rfl:=q.1;have M:=q.2.1;have l1:=q.2.2.1;have l2:=q.2.2.2.1;have l3:=q.2.2.2.2;dsimp only;refine aC (Wl fun z3 S3=>?_)
      exact aI ⟨S.trans S3,out,v,C,_,rfl,M,l1,l2,by omega⟩
     ·obtain rfl:=q.1;have q1:=q.2.1;have q2:=q.2.2;exact aI ⟨S,m,_,rfl,q1,q2⟩
    case turn2 =>
     intro x c G _ hx hI;refine ex6 hI fun S out v C mg Z bc q=>?_
     obtain rfl:=q.1;have M:=q.2.1;have l1:=q.2.2.1;have l2:=q.2.2.2.1;have l3:=q.2.2.2.2;obtain⟨p,ep,lp,mp⟩:=gb C l2;have dB:=Kk C p lp;dsimp only;generalize hg:mg=g0;revert g0;refine zpL mg (fun _=>True) ?_ ?_ (fun _=>trivial)
     rotate_left
     ·exact fun _ hF=>hF _ trivial
     intro mg _;refine aC (Wl fun z3 S3=>?_)
     have S':=S.trans S3;have kz:kindOf z3=kd:=S'.kn.trans k;refine aC (J8 ep (aC (Zj c0 kz mp (gaA v) (by omega) (upA v) fun k1 k1n k1t k1f=>?_)))
     dsimp only;have gA1:∀x∈(a.toList.drop v).take k1,∀y∈b.toList.drop C,rkP rk x<=rkP rk y:=fun x hx y J=>by
      obtain⟨j,jk,ej⟩:=zmU hx;have:=k1t j jk;unfold bey at this;rw[if_neg (by simp),Qn ej,gr,decide_eq_false_iff_not]at this
      exact cT (kH.mp this) (dB y J)
     have gA2:∀x∈a.toList.drop (v+k1),rkP rk p<=rkP rk x:=fun x hx=>by
      obtain⟨j,jl,ej⟩:=zjg hx;have:=k1f (k1+j) (by omega) (by simp at jl;omega)
      unfold bey at this;rw[if_neg (by simp),show v+(k1+j)=v+k1+j by omega,Qn ej,nW,decide_eq_true_iff]at this
      exact dH this
     generalize ho:out=o0;generalize hi:v=i0;revert i0;revert o0;refine VT out v (fun o i=>MLo (rkP rk) a.toList b.toList (aW o) i C/\i+1<a.size/\X+2<=i+C/\∀x∈a.toList.drop i,rkP rk p<=rkP rk x) ?_ ?_ ?_
     rotate_left
     ·intro hk1 hF;have M2:=M.takeA (k:=k1) sa gA1;rw[<- V5,<- cB]at M2;refine JO (fun e0=>?_) (fun e0=>JO (fun R=>?_) (fun R=>?_))
      ·have:=IB (out++a.extract v (v+k1)) (v+k1) C z3 S' M2 (by simpa using e0)
       exact aI ⟨S',.inr ⟨_,_,rfl,this.1,this.2⟩⟩
      ·have:=Iu (out++a.extract v (v+k1)) (v+k1) C z3 S' M2 (.inl (by simpa using R))
       exact aI ⟨S',.inr ⟨_,_,rfl,this.1,this.2⟩⟩
      ·have e0:v+k1+1≠a.size:=fun e=>e0 (by simp[e])
       have R:v+k1≠a.size:=fun e=>R (by simp[e])
       exact hF _ _ ⟨M2,by omega,by omega,gA2⟩
     ·intro hk1;have hk0:k1=0:=by omega
      subst hk0;exact⟨M,l1,l3,gA2⟩
     intro o i ⟨M2,i1,i2,g⟩;have M3:=M2.pushB sb lp g;rw[<- oE]at M3;refine aC (J8 ep ?_);refine JO (fun e2=>?_) (fun e2=>?_)
     ·have:=Iu (hU o p) i (C+1) z3 S' M3 (.inr (by simpa using e2))
      exact aI ⟨S',.inr ⟨_,_,rfl,this.1,this.2⟩⟩
     have e2:C+1≠b.size:=fun e=>e2 (by simp[e])
     obtain⟨q,eq,lq,mq⟩:=ga i (by omega)
     have dA:=Kl i q lq;refine aC (J8 eq (aC (Zj c0 kz mq (gbA (C+1)) (by omega) (upB (C+1)) fun k2 k2n k2t k2f=>?_)))
     dsimp only;have gB1:∀y∈(b.toList.drop (C+1)).take k2,∀x∈a.toList.drop i,rkP rk y<=rkP rk x:=fun y J x hx=>by
      obtain⟨j,jk,ej⟩:=zmU J;have:=k2t j jk;unfold bey at this;rw[if_pos rfl,Qn ej,decide_eq_true_iff]at this;exact cT (dH this) (dA x hx)
     have gB2:∀y∈b.toList.drop (C+1+k2),rkP rk q<=rkP rk y:=fun y J=>by
      obtain⟨j,jl,ej⟩:=zjg J;have:=k2f (k2+j) (by omega) (by simp at jl;omega)
      unfold bey at this;rw[if_pos rfl,show C+1+(k2+j)=C+1+k2+j by omega,Qn ej,decide_eq_false_iff_not]at this
      exact kH.mp this
     have l4:C+1<b.size:=by omega
     have l5:X+2<=i+(C+1):=by omega
     clear k2t k2f k1t k1f gA1 gA2 l3 M dB e2 l2;generalize hU o p=o2 at M3 ⊢;generalize C+1=j2 at M3 gB1 gB2 l4 l5 k2n ⊢;generalize ho:o2=o0;generalize hi:j2=i0;revert i0;revert o0;refine VT o2 j2 (fun o' j=>MLo (rkP rk) a.toList b.toList (aW o') i j/\j<b.size/\X+2<=i+j/\∀y∈b.toList.drop j,rkP rk q<=rkP rk y) ?_ ?_ ?_
     rotate_left
     ·intro hk2 hF;have M4:=M3.takeB (k:=k2) sb gB1;rw[<- V5,<- cB]at M4;refine JO (fun e3=>?_) (fun e3=>?_)
      ·have:=Iu (o2++b.extract j2 (j2+k2)) i (j2+k2) z3 S' M4 (.inr (by simpa using e3))
       exact aI ⟨S',.inr ⟨_,_,rfl,this.1,this.2⟩⟩
      ·have e3:j2+k2≠b.size:=fun e=>e3 (by simp[e])
       exact hF _ _ ⟨M4,by omega,by omega,gB2⟩
     ·intro hk2;have hk0:k2=0:=by omega
      subst hk0;exact⟨M3,l4,l5,gB2⟩
     intro o3 j ⟨M4,j1,j3,g'⟩;have M5:=M4.pushA sa lq g';rw[<- oE]at M5;refine aC (J8 eq ?_);refine JO (fun e4=>?_) (fun e4=>?_)
     ·have:=IB (hU o3 q) (i+1) j z3 S' M5 (by simpa using e4)
      exact aI ⟨S',.inr ⟨_,_,rfl,this.1,this.2⟩⟩
     have e4:i+1+1≠a.size:=fun e=>e4 (by simp[e])
     refine JO (fun _=>?_) fun _=>?_
     ·exact aI ⟨S',.inl ⟨_,_,_,_,_,_,rfl,M5,by omega,by omega,by omega⟩⟩
     ·exact aI ⟨S',_,_,_,_,_,_,rfl,M5,by omega,by omega,by omega⟩
   ·obtain rfl:=q.1;have q1:=q.2.1;have q2:=q.2.2;exact aI ⟨S,m,_,rfl,q1,q2⟩
end
def zgX:Array bO->Array bO->StateT bR Sem (Array bO):=sortPriv% PySem.Builtin.mergeHi
section
variable{prog:aQ}{w:bz}{A:br}{E:qV}{s:aw}{kd:fj}{rk:ah->Int}{a0:Array bO}
theorem VF{x:Array bO}{k:Nat}:(x.extract 0 k).toList=x.toList.take k:=by simp
theorem VE{x:Array bO}{i k:Nat}:(x.extract i k).toList=(x.toList.take k).drop i:=by
 rw[mZ,List.drop_take]
theorem zp0{l:List bO}{n:Nat}{x:bO}(h:x∈l.take n):∃j,j<n/\l[j]?=some x:=by
 obtain⟨j,o,e⟩:=gP.mp h;exact⟨j,by omega,by rw[ak (by omega),e]⟩
theorem zmT{l:List bO}{n i:Nat}{x:bO}(h:x∈(l.take n).drop i):∃j,i<=j/\j<n/\l[j]?=some x:=by
 obtain⟨j,u,e⟩:=zjg h;rw[gE]at u;rw[lu (by omega)]at e
 exact⟨i+j,by omega,by omega,e⟩
theorem MHi.pushB'{r:bO->Int}{a b out:List bO}{na nb:Nat}{y:bO}(h:MHi r a b out na nb)(l:Ris r b)(p:1<=nb)(e:b[nb - 1]?=some y)(c:∀x∈a.take na,r x<=r y):MHi r a b (y::out) na (nb - 1):=by
 obtain⟨m,rfl⟩:∃m,nb=m+1:=⟨nb - 1,by omega⟩
 exact h.pushB l e c
theorem MHi.pushA'{r:bO->Int}{a b out:List bO}{na nb:Nat}{x:bO}(h:MHi r a b out na nb)(l:Ris r a)(p:1<=na)(e:a[na - 1]?=some x)(c:∀y∈b.take nb,r y<=r x):MHi r a b (x::out) (na - 1) nb:=by
 obtain⟨m,rfl⟩:∃m,na=m+1:=⟨na - 1,by omega⟩
 exact h.pushA l e c
theorem zk7{a b:Array bO}{z:bR}{Q:Array bO->bR->Prop}(c0:Cmp prog w A s kd rk a0)(k:kindOf z=kd)(ha:∀p∈a.toList,p∈a0.toList)(hb:∀p∈b.toList,p∈a0.toList)
  (sa:Ris (rkP rk) a.toList) (sb:Ris (rkP rk) b.toList) (na:0<a.size) (nb:0<b.size) (f1:∀y,b.toList[0]?=some y->∀x∈a.toList,rkP rk y<=rkP rk x)
  (f2:∀x,a.toList[a.size - 1]?=some x->∀y∈b.toList,rkP rk y<=rkP rk x)
  (h:∀m z',m.toList.Perm (a.toList++b.toList)->Ris (rkP rk) m.toList->SmS z z'->Q m z'):wpS (model prog w) A E s (zgX a b) Q z:=by
 have e_:zgX=zgX:=rfl
 conv at e_=>rhs;whnf
 rw[e_];clear e_;have gb:∀i,i<b.size->∃p,b[i]?=some p/\b.toList[i]?=some p/\p∈a0.toList:=fun i hi=>⟨b[i],bH hi,by simp[hi],hb _ (by simp)⟩
 have ga:∀i,i<a.size->∃p,a[i]?=some p/\a.toList[i]?=some p/\p∈a0.toList:=fun i hi=>⟨a[i],bH hi,by simp[hi],ha _ (by simp)⟩
 have gaA:∀u i,i<u->u<=a.size->∃p,a[0+i]?=some p/\p∈a0.toList:=fun u i hi hu=>by
  obtain⟨p,e,_,m⟩:=ga i (by omega)
  exact⟨p,by rw[dZ];exact e,m⟩
 have gbA:∀u i,i<u->u<=b.size->∃p,b[0+i]?=some p/\p∈a0.toList:=fun u i hi hu=>by
  obtain⟨p,e,_,m⟩:=gb i (by omega)
  exact⟨p,by rw[dZ];exact e,m⟩
 have upA:∀u i j,u<=a.size->i<j->j<u->rkAt rk a (0+i)<=rkAt rk a (0+j):=fun u i j hu hij hj=>Vv sa (by omega) (by omega)
 have upB:∀u i j,u<=b.size->i<j->j<u->rkAt rk b (0+i)<=rkAt rk b (0+j):=fun u i j hu hij hj=>Vv sb (by omega) (by omega)
 have IC:∀(l:List bO),Ris (rkP rk) l->∀n p,l[n]?=some p->∀y∈l.take (n+1),rkP rk y<=rkP rk p:=fun l sl n p lp y J=>by
  have e:l.take (n+1)=l.take n++[p]:=by rw[dF,lp];rfl
  have:=sl.take (n+1);rw[e]at this J;rcases ax.mp J with z|z
  ·exact(J5.mp this).2.2 y z p (by simp)
  ·cases aA.mp z;exact bh _
 obtain⟨x0,ex0,lx0,mx0⟩:=ga (a.size - 1) (by omega)
 have M0:MHi (rkP rk) a.toList b.toList [x0] (a.size - 1) b.size:=by
  have:MHi (rkP rk) a.toList b.toList [] (a.size - 1+1) b.size:=⟨by rw[cu (by simp;omega),cu (by simp)];simp,ie,fun x _ y J=>nomatch J⟩
  exact this.pushA sa lx0 fun y J=>f2 x0 lx0 y (dQ J)
 refine aC (lH (dw ⟨rfl,?_⟩));refine aC (J8 ex0 ?_);have Iu:∀(out:Array bO) (na nb:Nat),MHi (rkP rk) a.toList b.toList out.toList.reverse na nb->(na=0\/nb=0)->(a.extract 0 na++b.extract 0 nb++out.reverse).toList.Perm (a.toList++b.toList)/\Ris (rkP rk) (a.extract 0 na++b.extract 0 nb++out.reverse).toList:=fun out na nb M e=>by
  rw[cB,cB,VF,VF,m6];refine M.done sa sb fun x hx y J=>?_
  rcases e with rfl|rfl
  ·simp at hx
  ·simp at J
 have IB:∀(out:Array bO) (na nb:Nat),MHi (rkP rk) a.toList b.toList out.toList.reverse na nb->nb=1->(b.extract 0 nb++a.extract 0 na++out.reverse).toList.Perm (a.toList++b.toList)/\Ris (rkP rk) (b.extract 0 nb++a.extract 0 na++out.reverse).toList:=fun out na nb M e=>by
  rw[cB,cB,VF,VF,m6];refine M.first sa sb fun y J x hx=>?_
  subst e;obtain⟨p,ep,lp,mp⟩:=gb 0 (by omega)
  have N:=take1 lp;rw[kI]at N;rw[N]at J;cases aA.mp J;exact f1 _ lp x (dQ hx)
 refine JO (fun h1=>?_) (fun h1=>?_)
 ·have:=Iu #[x0] (a.size - 1) b.size (by simpa using M0) (.inl (by simpa using h1))
  exact aI (h _ z this.1 this.2 (.refl z))
 refine JO (fun h2=>?_) (fun h2=>?_)
 ·have:=IB #[x0] (a.size - 1) b.size (by simpa using M0) (by simpa using h2)
  exact aI (h _ z this.1 this.2 (.refl z))
 have h1:a.size - 1≠0:=fun e=>h1 (by simp[e])
 have h2:b.size≠1:=fun e=>h2 (by simp[e])
 refine aC (iO ?_);refine aC (eM (cn (I:=fun X c z'=>SmS z z'/\∃na nb out mg,c=(none,na,nb,out,mg)/\MHi (rkP rk) a.toList b.toList (aW out).reverse na nb/\1<=na/\2<=nb/\na<=a.size/\nb<=b.size/\na+nb+X+1<=a.size+b.size)
  (Q:=fun c z'=>SmS z z'/\∃m rest,c=(some m,rest)/\(aW m).Perm (a.toList++b.toList)/\Ris (rkP rk) (aW m)) ?turn ?last ⟨.refl z,a.size - 1,b.size,#[x0],_,rfl,by simpa using M0,by omega,by omega,by omega,by omega,by omega⟩) ?post)
 case post =>
  rintro c z' ⟨S,m,rest,rfl,q1,q2⟩;exact aI (h m z' q1 q2 S)
 case last =>
  intro c z' hI;refine ex4 hI fun S na nb out mg q=>?_
  obtain rfl:=q.1;have M:=q.2.1;have l1:=q.2.2.1;have l2:=q.2.2.2.1;have l4:=q.2.2.2.2.1;have l5:=q.2.2.2.2.2.1;have l3:=q.2.2.2.2.2.2;omega
 case turn =>
  intro X c z' _ hX hI;refine ex4 hI fun S na nb out mg q=>?_
  obtain rfl:=q.1;have M:=q.2.1;have l1:=q.2.2.1;have l2:=q.2.2.2.1;have l4:=q.2.2.2.2.1;have l5:=q.2.2.2.2.2.1;have l3:=q.2.2.2.2.2.2;have kz:kindOf z'=kd:=S.kn.trans k;refine aC (eM (cn (I:=fun x c C=>SmS z C/\∃na nb out Y Z,c=(none,na,nb,out,Y,Z)/\MHi (rkP rk) a.toList b.toList (aW out).reverse na nb/\1<=na/\2<=nb/\na<=a.size/\nb<=b.size/\na+nb+X+1+x<=a.size+b.size)
   (Q:=fun c C=>SmS z C/\((∃na nb out Y Z,c=(none,na,nb,out,Y,Z)/\MHi (rkP rk) a.toList b.toList (aW out).reverse na nb/\1<=na/\2<=nb/\na<=a.size/\nb<=b.size/\na+nb+X+2<=a.size+b.size)\/∃m rest,c=(some m,rest)/\(aW m).Perm (a.toList++b.toList)/\Ris (rkP rk) (aW m))) ?turn1 ?UK ⟨S,na,nb,out,0,0,rfl,M,l1,l2,l4,l5,by omega⟩) ?post1)
  case UK =>
   intro c C hI;refine ex5 hI fun S na nb out Y Z q=>?_
   obtain rfl:=q.1;have M:=q.2.1;have l1:=q.2.2.1;have l2:=q.2.2.2.1;have l4:=q.2.2.2.2.1;have l5:=q.2.2.2.2.2.1;have l3:=q.2.2.2.2.2.2;exact⟨S,.inl ⟨na,nb,out,Y,Z,rfl,M,l1,l2,l4,l5,by omega⟩⟩
  case turn1 =>
   intro x c C _ hx hI;refine ex5 hI fun S na nb out Y Z q=>?_
   obtain rfl:=q.1;have M:=q.2.1;have l1:=q.2.2.1;have l2:=q.2.2.2.1;have l4:=q.2.2.2.2.1;have l5:=q.2.2.2.2.2.1;have l3:=q.2.2.2.2.2.2;have kz:kindOf C=kd:=S.kn.trans k;dsimp only;obtain⟨p,ep,lp,mp⟩:=gb (nb - 1) (by omega)
   obtain⟨q,eq,lq,mq⟩:=ga (na - 1) (by omega)
   have dB:=IC b.toList sb (nb - 1) p lp;rw[show nb - 1+1=nb by omega]at dB
   have dA:=IC a.toList sa (na - 1) q lq;rw[show na - 1+1=na by omega]at dA
   refine aC (J8 ep (aC (J8 eq (aC (Zv c0 kz mp mq ?_)))));dsimp only;refine JO (fun R=>?_) fun R=>?_
   ·have R:=of_decide_eq_true R;have M':=M.pushA' sa (by omega) lq fun y J=>cT (dB y J) (dH R)
    refine aC (J8 eq ?_);refine JO (fun N=>?_) (fun N=>?_)
    ·have:=Iu (out.push q) (na - 1) nb (by simpa using M') (.inl (by simpa using N))
     exact aI ⟨S,.inr ⟨_,_,rfl,this.1,this.2⟩⟩
    ·have N:na - 1≠0:=fun e=>N (by simp[e])
     refine JO (fun e2=>?_) (fun e2=>?_)
     ·exact aI ⟨S,.inl ⟨_,_,_,_,_,rfl,by simpa using M',by omega,by omega,by omega,by omega,by omega⟩⟩
     ·exact aI ⟨S,_,_,_,_,_,rfl,by simpa using M',by omega,by omega,by omega,by omega,by omega⟩
   ·have R:=of_decide_eq_false (dz.mpr R);have M':=M.pushB' sb (by omega) lp fun x hx=>cT (dA x hx) (kH.mp R)
    refine aC (J8 ep ?_);refine JO (fun N=>?_) (fun N=>?_)
    ·have:=IB (out.push p) na (nb - 1) (by simpa using M') (by simpa using N)
     exact aI ⟨S,.inr ⟨_,_,rfl,this.1,this.2⟩⟩
    ·have N:nb - 1≠1:=fun e=>N (by simp[e])
     refine JO (fun e2=>?_) (fun e2=>?_)
     ·exact aI ⟨S,.inl ⟨_,_,_,_,_,rfl,by simpa using M',by omega,by omega,by omega,by omega,by omega⟩⟩
     ·exact aI ⟨S,_,_,_,_,_,rfl,by simpa using M',by omega,by omega,by omega,by omega,by omega⟩
  case post1 =>
   intro c C hI;refine eo5 hI (fun S na nb out Y Z q=>?_) (fun S m rest q=>?_)
   ·obtain rfl:=q.1;have M:=q.2.1;have l1:=q.2.2.1;have l2:=q.2.2.2.1;have l4:=q.2.2.2.2.1;have l5:=q.2.2.2.2.2.1;have l3:=q.2.2.2.2.2.2;refine aC (lH (dw ⟨rfl,?_⟩));refine aC (eM (cn (I:=fun x c C=>SmS z C/\∃na nb out mg Y Z,c=(none,na,nb,out,mg,Y,Z)/\MHi (rkP rk) a.toList b.toList (aW out).reverse na nb/\1<=na/\2<=nb/\na<=a.size/\nb<=b.size/\na+nb+X+2<=a.size+b.size)
     (Q:=fun c C=>SmS z C/\((∃na nb out mg Y Z,c=(none,na,nb,out,mg,Y,Z)/\MHi (rkP rk) a.toList b.toList (aW out).reverse na nb/\1<=na/\2<=nb/\na<=a.size/\nb<=b.size/\na+nb+X+2<=a.size+b.size)\/∃m rest,c=(some m,rest)/\(aW m).Perm (a.toList++b.toList)/\Ris (rkP rk) (aW m))) ?turn2 ?last2 ⟨S,na,nb,out,_,Y,Z,rfl,M,l1,l2,l4,l5,by omega⟩) ?post2)
    case last2 =>
     rintro c C ⟨S,r⟩;exact⟨S,.inl r⟩
    case post2 =>
     intro c C hI;refine eo6 hI (fun S na nb out mg Y Z q=>?_) (fun S m rest q=>?_)
     ·obtain rfl:=q.1;have M:=q.2.1;have l1:=q.2.2.1;have l2:=q.2.2.2.1;have l4:=q.2.2.2.2.1;have l5:=q.2.2.2.2.2.1;have l3:=q.2.2.2.2.2.2;dsimp only;refine aC (Wl fun z3 S3=>?_)
      exact aI ⟨S.trans S3,na,nb,out,_,rfl,M,l1,l2,l4,l5,by omega⟩
     ·obtain rfl:=q.1;have q1:=q.2.1;have q2:=q.2.2;exact aI ⟨S,m,_,rfl,q1,q2⟩
    case turn2 =>
     intro x c C _ hx hI;refine ex6 hI fun S na nb out mg Y Z q=>?_
     obtain rfl:=q.1;have M:=q.2.1;have l1:=q.2.2.1;have l2:=q.2.2.2.1;have l4:=q.2.2.2.2.1;have l5:=q.2.2.2.2.2.1;have l3:=q.2.2.2.2.2.2;obtain⟨p,ep,lp,mp⟩:=gb (nb - 1) (by omega)
     have dB:=IC b.toList sb (nb - 1) p lp;rw[show nb - 1+1=nb by omega]at dB
     dsimp only;generalize hg:mg=g0;revert g0;refine zpL mg (fun _=>True) ?_ ?_ (fun _=>trivial)
     rotate_left
     ·exact fun _ hF=>hF _ trivial
     intro mg _;refine aC (Wl fun z3 S3=>?_)
     have S':=S.trans S3;have kz:kindOf z3=kd:=S'.kn.trans k;refine aC (J8 ep (aC (Zj c0 kz mp (fun i hi=>gaA na i hi (by omega)) (by omega) (fun i j=>upA na i j (by omega)) fun G k1n k1t k1f=>?_)))
     dsimp only;have gA1:∀x∈b.toList.take nb,∀y∈(a.toList.take na).drop G,rkP rk x<=rkP rk y:=fun x hx y J=>by
      obtain⟨j,j1,j2,ej⟩:=zmT J;have:=k1f j j1 j2;unfold bey at this;rw[if_neg (by simp),dZ,Qn ej,nW,decide_eq_true_iff]at this
      exact cT (dB x hx) (dH this)
     have gA2:∀x∈a.toList.take G,rkP rk x<=rkP rk p:=fun x hx=>by
      obtain⟨j,j1,ej⟩:=zp0 hx;have:=k1t j j1;unfold bey at this;rw[if_neg (by simp),dZ,Qn ej,gr,decide_eq_false_iff_not]at this
      exact kH.mp this
     generalize hk:na - G=k1;generalize ho:out=o0;generalize hi:na=i0;revert i0;revert o0;refine VT out na (fun o i=>MHi (rkP rk) a.toList b.toList (aW o).reverse i nb/\1<=i/\i<=na/\∀x∈a.toList.take i,rkP rk x<=rkP rk p) ?_ ?_ ?_
     rotate_left
     ·intro hk1 hF;have M2:=M.takeA (k:=G) sa k1n gA1;rw[<- VE]at M2;have M2':MHi (rkP rk) a.toList b.toList (aW (out++(a.extract G na).reverse)).reverse G nb:=by simpa using M2
      refine JO (fun N=>?_) (fun N=>?_)
      ·have:=Iu (out++(a.extract G na).reverse) G nb M2' (.inl (by simpa using N))
       exact aI ⟨S',.inr ⟨_,_,rfl,this.1,this.2⟩⟩
      ·have N:G≠0:=fun e=>N (by simp[e])
       exact hF _ _ ⟨M2',by omega,k1n,gA2⟩
     ·intro hk1;have hk0:G=na:=by omega
      rw[hk0]at gA2;exact⟨M,l1,aE _,gA2⟩
     intro o i ⟨M2,i1,i2,g⟩;have M3:=M2.pushB' sb (by omega) lp g
     have M3':MHi (rkP rk) a.toList b.toList (aW (hU o p)).reverse i (nb - 1):=by simpa using M3
     refine aC (J8 ep ?_);refine JO (fun e2=>?_) (fun e2=>?_)
     ·have:=IB (hU o p) i (nb - 1) M3' (by simpa using e2)
      exact aI ⟨S',.inr ⟨_,_,rfl,this.1,this.2⟩⟩
     have e2:nb - 1≠1:=fun e=>e2 (by simp[e])
     obtain⟨q,eq,lq,mq⟩:=ga (i - 1) (by omega)
     have dA:=IC a.toList sa (i - 1) q lq;rw[show i - 1+1=i by omega]at dA
     refine aC (J8 eq (aC (Zj c0 kz mq (fun i hi=>gbA (nb - 1) i hi (by omega)) (by omega) (fun i j=>upB (nb - 1) i j (by omega)) fun at2 k2n k2t k2f=>?_)))
     dsimp only;have gB1:∀x∈a.toList.take i,∀y∈(b.toList.take (nb - 1)).drop at2,rkP rk x<=rkP rk y:=fun x hx y J=>by
      obtain⟨j,j1,j2,ej⟩:=zmT J;have:=k2f j j1 j2;unfold bey at this;rw[if_pos rfl,dZ,Qn ej,decide_eq_false_iff_not]at this;exact cT (dA x hx) (kH.mp this)
     have gB2:∀y∈b.toList.take at2,rkP rk y<=rkP rk q:=fun y J=>by
      obtain⟨j,j1,ej⟩:=zp0 J;have:=k2t j j1;unfold bey at this;rw[if_pos rfl,dZ,Qn ej,decide_eq_true_iff]at this;exact dH this
     have l6:2<=nb - 1:=by omega
     have l7:nb - 1<=b.size:=by omega
     have l8:i+(nb - 1)+X+2<=a.size+b.size:=by omega
     have l9:i<=a.size:=by omega
     clear k2t k2f k1t k1f gA1 gA2 dB e2 M M2 M3 hk k1n l1 l2 l3 l4 l5 i2;generalize hU o p=o2 at M3' ⊢;generalize nb - 1=j2 at M3' gB1 l6 l7 l8 k2n ⊢;generalize hk2:j2 - at2=k2;generalize ho:o2=o0;generalize hi:j2=i0;revert i0;revert o0;refine VT o2 j2 (fun o' j=>MHi (rkP rk) a.toList b.toList (aW o').reverse i j/\2<=j/\j<=j2/\∀y∈b.toList.take j,rkP rk y<=rkP rk q) ?_ ?_ ?_
     rotate_left
     ·intro hk2 hF;have M4:=M3'.takeB (k:=at2) sb k2n gB1;rw[<- VE]at M4;have M4':MHi (rkP rk) a.toList b.toList (aW (o2++(b.extract at2 j2).reverse)).reverse i at2:=by simpa using M4
      refine JO (fun e3=>?_) (fun e3=>JO (fun e5=>?_) (fun e5=>?_))
      ·have:=IB (o2++(b.extract at2 j2).reverse) i at2 M4' (by simpa using e3)
       exact aI ⟨S',.inr ⟨_,_,rfl,this.1,this.2⟩⟩
      ·have:=Iu (o2++(b.extract at2 j2).reverse) i at2 M4' (.inr (by simpa using e5))
       exact aI ⟨S',.inr ⟨_,_,rfl,this.1,this.2⟩⟩
      ·have e3:at2≠1:=fun e=>e3 (by simp[e])
       have e5:at2≠0:=fun e=>e5 (by simp[e])
       exact hF _ _ ⟨M4',by omega,k2n,gB2⟩
     ·intro hk2;have hk0:at2=j2:=by omega
      rw[hk0]at gB2;exact⟨M3',l6,aE _,gB2⟩
     intro o3 j ⟨M4,j1,j3,g'⟩;have M5:=M4.pushA' sa (by omega) lq g'
     have M5':MHi (rkP rk) a.toList b.toList (aW (hU o3 q)).reverse (i - 1) j:=by simpa using M5
     refine aC (J8 eq ?_);refine JO (fun e4=>?_) (fun e4=>?_)
     ·have:=Iu (hU o3 q) (i - 1) j M5' (.inl (by simpa using e4))
      exact aI ⟨S',.inr ⟨_,_,rfl,this.1,this.2⟩⟩
     have e4:i - 1≠0:=fun e=>e4 (by simp[e])
     refine JO (fun _=>?_) fun _=>?_
     ·exact aI ⟨S',.inl ⟨_,_,_,_,_,_,rfl,M5',by omega,by omega,by omega,by omega,by omega⟩⟩
     ·exact aI ⟨S',_,_,_,_,_,_,rfl,M5',by omega,by omega,by omega,by omega,by omega⟩
   ·obtain rfl:=q.1;have q1:=q.2.1;have q2:=q.2.2;exact aI ⟨S,m,_,rfl,q1,q2⟩
end
theorem zlY{α:Type}{l:List α}{i:Nat}{p:α}(h:i<l.length):(l.set i p).take (i+1)=l.take i++[p]:=by
 rw[dF,fV h,List.take_set_of_le (aE _)]
 rfl
theorem zny{α:Type}{l:List α}{i j:Nat}{p:α}(h:i<j):(l.set i p).drop j=l.drop j:=by
 rw[List.drop_set];rw[if_pos h]
theorem zmj{α:Type}(o:Nat):∀(m:List α) (n:Nat) (x:Array α),o+n+m.length<=x.size ->
  ((m.zipIdx n).foldl (fun a (q:α×Nat)=>a.setIfInBounds (o+q.2) q.1) x).toList=x.toList.take (o+n)++m++x.toList.drop (o+n+m.length)
 | [],n,x,h=>by simp
 | p::ms,n,x,h=>by
  rw[aF]at h;rw[lI,fZ,zmj o ms (n+1) _ (by rw[Array.size_setIfInBounds];omega)]
  have e:(x.setIfInBounds (o+n) p).toList=x.toList.set (o+n) p:=by simp
  have u:o+n<x.toList.length:=by simp;omega
  dsimp only;rw[e,show o+(n+1)=o+n+1 by omega,zlY u,zny (by omega),aF,show o+n+1+ms.length=o+n+(ms.length+1) by omega]
  simp
def UpL(rk:ah->Int)(xs:Array bO)(lo m:Nat):Prop:=∀i j,i<j->j<m->rkAt rk xs (lo+i)<=rkAt rk xs (lo+j)
section
variable{prog:aQ}{w:bz}{A:br}{E:qV}{s:aw}{kd:fj}{rk:ah->Int}{a0:Array bO}
theorem zqm{z l:bR}{Q:PUnit->bR->Prop}(h:Q ⟨⟩ l):wpS (model prog w) A E s (set l:StateT bR Sem PUnit) Q z:=by
 unfold wpS;rw[StateT.run_set];exact aj ⟨rfl,h⟩
theorem zmc{x:Array bO}{lo m:Nat}(h:UpL rk x lo m)(hx:lo+m<=x.size):Ris (rkP rk) (x.extract lo (lo+m)).toList:=by
 refine aT.mpr fun i j hi v l=>?_
 have y:i<m:=by simp at hi;lia
 have u:j<m:=by simp at v;lia
 have:=h i j l u;rw[Qn (p:=(x.extract lo (lo+m)).toList[i]) (by simp),Qn (p:=(x.extract lo (lo+m)).toList[j]) (by simp)]at this
 exact this
theorem VW{x:Array bO}{lo hi:Nat}{p:bO}(h:p∈(x.extract lo hi).toList):∃j,lo<=j/\j<hi/\j<x.size/\rkAt rk x j=rkP rk p:=by
 obtain⟨i,u,e⟩:=bg h;have l:i<hi - lo/\i+lo<x.size:=by simp at u;lia
 refine⟨lo+i,by lia,by lia,by lia,Qn ?_⟩
 rw[<- e];simp
theorem ix1{s n y:Nat}(h:n<=y):s+n+(y - n)=s+y:=by lia
theorem zk8{i sa na nb pw pw2:Nat}{z:bR}{Q:Bool->bR->Prop}(c:Cmp prog w A s kd rk a0)(k:kindOf z=kd)(fl:failedOf z=none)(pm:(arrOf z).Perm a0)
  (p1:(pendingOf z)[i]?=some (sa,na,pw)) (p2:(pendingOf z)[i+1]?=some (sa+na,nb,pw2)) (hna:0<na) (hnb:0<nb) (hs:sa+na+nb<=a0.size) (u1:UpL rk (arrOf z) sa na) (u2:UpL rk (arrOf z) (sa+na) nb)
  (h:∀y,kindOf y=kd->failedOf y=none->(arrOf y).Perm a0->pendingOf y=((pendingOf z).setIfInBounds i (sa,na+nb,pw)).eraseIdxIfInBounds (i+1)->UpL rk (arrOf y) sa (na+nb)->(∀j,j<sa\/sa+na+nb<=j->rkAt rk (arrOf y) j=rkAt rk (arrOf z) j)->Q true y) :
  wpS (model prog w) A E s (mergeAt' i) Q z:=by
 have sz:(arrOf z).size=a0.size:=pm.size_eq;have mem:∀j,j<a0.size->∃p,(arrOf z)[j]?=some p/\p∈a0.toList:=fun j C=>by
  have Y:j<(arrOf z).size:=by lia
  exact⟨(arrOf z)[j],bH Y,(cW.mp pm).mem_iff.mp (by simp)⟩
 have Km:∀p∈(arrOf z).toList,p∈a0.toList:=fun p hp=>(cW.mp pm).mem_iff.mp hp
 have e_:mergeAt'=mergeAt':=rfl
 conv at e_=>rhs;whnf
 rw[e_];dsimp only;clear e_;refine aC (iO ?_);change (arrOf z).size=_ at sz;have p1':=p1;have p2':=p2;unfold pendingOf at p1' p2';rw[p1',p2'];dsimp only;refine aC (zqm ?_);obtain⟨v0,ev0,mv0⟩:=mem (sa+na) (by lia)
 refine aC (J8 ev0 ?_);have rv0:rkAt rk (arrOf z) (sa+na)=rk v0.1:=by unfold rkAt;rw[ev0];rfl
 refine aC (Zj c k mv0 (fun j C=>mem _ (by lia)) hna u1 fun k hk t1 t2=>?_)
 have b1:∀j,j<k->rkAt rk (arrOf z) (sa+j)<=rkAt rk (arrOf z) (sa+na):=fun j C=>by
  have:=t1 j C;rw[rv0];unfold bey at this;simp at this;exact this
 have b2:∀j,k<=j->j<na->rkAt rk (arrOf z) (sa+na)<rkAt rk (arrOf z) (sa+j):=fun j C Y=>by
  have:=t2 j C Y;rw[rv0];unfold bey at this;simp at this;exact this
 dsimp only
 by_cases e1:(na - k == 0)=true
 ·rw[if_pos e1];have ek:k=na:=by simp at e1;lia
  refine aI (h _ (by assumption) fl pm rfl ?_ (fun _ _=>rfl))
  intro x y v R;change rkAt rk (arrOf z) (sa+x)<=rkAt rk (arrOf z) (sa+y)
  by_cases hy2:y<na
  ·exact u1 x y v hy2
  ·by_cases hx2:x<na
   ·have q1:=b1 x (by lia)
    by_cases hy3:y=na
    ·rw[hy3];exact q1
    ·have J:=u2 0 (y - na) (by lia) (by lia)
     rw[ix1 (show na<=y by lia)]at J
     simp at J;lia
   ·have J:=u2 (x - na) (y - na) (by lia) (by lia)
    rw[ix1 (show na<=y by lia),ix1 (show na<=x by lia)]at J
    exact J
 rw[if_neg e1];have hk2:k<na:=by simp at e1;lia
 obtain⟨ul,eul,mul⟩:=mem (sa+k+(na - k) - 1) (by lia)
 refine aC (J8 eul ?_);have rul:rkAt rk (arrOf z) (sa+na - 1)=rk ul.1:=by unfold rkAt;rw[show sa+na - 1=sa+k+(na - k) - 1 by lia,eul];rfl
 refine aC (Zj c (by assumption) mul (fun j C=>mem _ (by lia)) (by lia) u2 fun m hm t3 t4=>?_)
 have b3:∀j,j<m->rkAt rk (arrOf z) (sa+na+j)<rkAt rk (arrOf z) (sa+na - 1):=fun j C=>by
  have:=t3 j C;rw[rul];unfold bey at this;simp at this;exact this
 have b4:∀j,m<=j->j<nb->rkAt rk (arrOf z) (sa+na - 1)<=rkAt rk (arrOf z) (sa+na+j):=fun j C Y=>by
  have:=t4 j C Y;rw[rul];unfold bey at this;simp at this;exact this
 dsimp only;have le1:∀x y,x<=y->y<na->rkAt rk (arrOf z) (sa+x)<=rkAt rk (arrOf z) (sa+y):=fun x y v R=>by
  by_cases e:x=y
  ·rw[e];exact bh _
  ·exact u1 x y (by lia) R
 have le2:∀x y,x<=y->y<nb->rkAt rk (arrOf z) (sa+na+x)<=rkAt rk (arrOf z) (sa+na+y):=fun x y v R=>by
  by_cases e:x=y
  ·rw[e];exact bh _
  ·exact u2 x y (by lia) R
 by_cases e2:(m == 0)=true
 ·rw[if_pos e2];have em:m=0:=by simpa using e2
  refine aI (h _ (by assumption) fl pm rfl ?_ (fun _ _=>rfl))
  intro x y v R;change rkAt rk (arrOf z) (sa+x)<=rkAt rk (arrOf z) (sa+y)
  by_cases hy2:y<na
  ·exact u1 x y v hy2
  ·by_cases hx2:x<na
   ·have q1:=b4 (y - na) (by lia) (by lia)
    have J:=le1 x (na - 1) (by lia) (by lia)
    rw[show sa+(na - 1)=sa+na - 1 by lia]at J
    rw[ix1 (show na<=y by lia)]at q1
    lia
   ·have J:=u2 (x - na) (y - na) (by lia) (by lia)
    rw[ix1 (show na<=y by lia),ix1 (show na<=x by lia)]at J
    exact J
 rw[if_neg e2];have hm2:0<m:=by simp at e2;lia
 have exA:(arrOf z).extract (sa+k) (sa+na)=(arrOf z).extract (sa+k) (sa+k+(na - k)):=by rw[ix1 (show k<=na by lia)]
 have rA:Ris (rkP rk) ((arrOf z).extract (sa+k) (sa+na)).toList:=by
  rw[exA];refine zmc (fun x y v R=>?_) (by lia)
  have:=u1 (k+x) (k+y) (by lia) (by lia)
  rw[<- nP,<- nP]at this;exact this
 have rB:Ris (rkP rk) ((arrOf z).extract (sa+na) (sa+na+m)).toList:=zmc (fun x y v R=>u2 x y v (by lia)) (by lia)
 have Z:((arrOf z).extract (sa+k) (sa+na)).size=na - k:=by simp;lia
 have szB:((arrOf z).extract (sa+na) (sa+na+m)).size=m:=by simp;lia
 have mA:∀p∈((arrOf z).extract (sa+k) (sa+na)).toList,p∈a0.toList:=fun p hp=>Km p (by
  rw[VE]at hp;exact dQ (fC hp))
 have mB:∀p∈((arrOf z).extract (sa+na) (sa+na+m)).toList,p∈a0.toList:=fun p hp=>Km p (by
  rw[VE]at hp;exact dQ (fC hp))
 have f1:∀y,((arrOf z).extract (sa+na) (sa+na+m)).toList[0]?=some y->∀x∈((arrOf z).extract (sa+k) (sa+na)).toList,rkP rk y<=rkP rk x:=fun y R x hx=>by
  obtain⟨j,j1,j2,j3,e⟩:=VW (rk:=rk) hx;have:=b2 (j - sa) (by lia) (by lia)
  rw[fD (show sa<=j by lia),e]at this
  have ey:rkAt rk (arrOf z) (sa+na)=rkP rk y:=Qn (by rw[<- R];simp only[cR,lZ];rw[if_pos (by lia)];rfl)
  lia
 have f2:∀x,((arrOf z).extract (sa+k) (sa+na)).toList[((arrOf z).extract (sa+k) (sa+na)).size - 1]?=some x->∀y∈((arrOf z).extract (sa+na) (sa+na+m)).toList,rkP rk y<=rkP rk x:=fun x hx y R=>by
  obtain⟨j,j1,j2,j3,e⟩:=VW (rk:=rk) R;have:=b3 (j - (sa+na)) (by lia)
  rw[fD (show sa+na<=j by lia),e]at this
  have ex:rkAt rk (arrOf z) (sa+na - 1)=rkP rk x:=Qn (by
   rw[<- hx,Z];simp only[cR,lZ];rw[if_pos (by lia),show sa+k+(na - k - 1)=sa+na - 1 by lia])
  lia
 have fin:∀(M:Array bO) (z2 y:bR),M.toList.Perm (((arrOf z).extract (sa+k) (sa+na)).toList++((arrOf z).extract (sa+na) (sa+na+m)).toList)->Ris (rkP rk) M.toList->arrOf z2=arrOf z->kindOf y=kd->failedOf y=none->pendingOf y=((pendingOf z).setIfInBounds i (sa,na+nb,pw)).eraseIdxIfInBounds (i+1) ->
   arrOf y=(M.toList.zipIdx.foldl (fun a (q:bO×Nat)=>a.setIfInBounds (sa+k+q.2) q.1) (arrOf z2))->Q true y:=by
  intro M z2 y PM RM ez ky fy py ay;have lM:M.toList.length=na - k+m:=by
   have:=PM.length_eq;rw[aJ,eX (xs:=(arrOf z).extract _ _),eX (xs:=(arrOf z).extract _ _),Z,szB]at this;exact this
  have ayl:(arrOf y).toList=(arrOf z).toList.take (sa+k)++M.toList++(arrOf z).toList.drop (sa+na+m):=by
   rw[ay,ez];have:=zmj (sa+k) M.toList 0 (arrOf z) (by rw[lM];lia)
   rw[show sa+k+0=sa+k by lia,lM,show sa+k+(na - k+m)=sa+na+m by lia]at this
   exact this
  have split0:(arrOf z).toList=(arrOf z).toList.take (sa+k)++(((arrOf z).extract (sa+k) (sa+na)).toList++((arrOf z).extract (sa+na) (sa+na+m)).toList)++(arrOf z).toList.drop (sa+na+m):=by
   rw[exA,V5,V5];have c1:=cut2 (arrOf z).toList (sa+k) (na - k);rw[ix1 (show k<=na by lia)]at c1
   have c2:=cut2 (arrOf z).toList (sa+na) m;rw[bL,bL,<- c2,<- c1,ft]
  have PY:(arrOf y).Perm a0:=by
   refine Array.Perm.trans ?_ pm;rw[cW,ayl]
   conv=>rhs;rw[split0]
   exact lY _ (gf _ PM)
  have U:((arrOf z).toList.take (sa+k)).length=sa+k:=by simp;lia
  have outer:∀j,j<sa+k\/sa+na+m<=j->rkAt rk (arrOf y) j=rkAt rk (arrOf z) j:=by
   intro j C;refine Zb ?_;rw[<- cR,<- cR,ayl];rcases C with C|C
   ·rw[bL,bW (by lia),List.getElem?_take,if_pos (by lia)]
   ·rw[bG (by rw[aJ,lM,U];lia),aJ,lM,U,kG]
    congr 1;lia
  have inner:∀j,sa+k<=j->j<sa+na+m->∃p,M.toList[j - (sa+k)]?=some p/\rkAt rk (arrOf y) j=rkP rk p:=by
   intro j j1 j2;have C:j - (sa+k)<M.toList.length:=by lia
   refine⟨M.toList[j - (sa+k)],ak C,Qn ?_⟩;rw[ayl,bW (by rw[aJ,lM,U];lia),bG (by lia),U]
   exact ak C
  have inM:∀p∈M.toList,∃j,sa+k<=j/\j<sa+na+m/\rkAt rk (arrOf z) j=rkP rk p:=by
   intro p hp;rcases ax.mp (PM.mem_iff.mp hp) with q|q
   ·obtain⟨j,j1,j2,_,e⟩:=VW (rk:=rk) q;exact⟨j,j1,by lia,e⟩
   ·obtain⟨j,j1,j2,_,e⟩:=VW (rk:=rk) q;exact⟨j,by lia,j2,e⟩
  refine h y ky fy PY py ?_ fun j C=>outer j (by lia)
  clear PY ayl split0 Z szB U sz exA rv0 rul;intro x G v R
  by_cases x1:x<k
  ·rw[outer (sa+x) (by lia)]
   by_cases y1:G<k
   ·rw[outer (sa+G) (by lia)];exact u1 x G v (by lia)
   ·have low:∀j,sa+k<=j->j<sa+na+nb->rkAt rk (arrOf z) (sa+x)<=rkAt rk (arrOf z) j:=fun j j1 j2=>by
     by_cases j3:j<sa+na
     ·have:=u1 x (j - sa) (by lia) (by lia)
      rw[fD (show sa<=j by lia)]at this;exact this
     ·have q1:=b1 x x1;have J:=le2 0 (j - (sa+na)) (by lia) (by lia)
      rw[fD (show sa+na<=j by lia)]at J
      simp at J;lia
    by_cases y2:sa+G<sa+na+m
    ·obtain⟨p,ep,er⟩:=inner (sa+G) (by lia) y2
     rw[er];obtain⟨j,j1,j2,e⟩:=inM p (aH ep);rw[<- e];exact low j j1 (by lia)
    ·rw[outer (sa+G) (by lia)];exact low _ (by lia) (by lia)
  ·by_cases x2:sa+x<sa+na+m
   ·obtain⟨p,ep,er⟩:=inner (sa+x) (by lia) x2
    rw[er]
    by_cases y2:sa+G<sa+na+m
    ·obtain⟨q,eq,er2⟩:=inner (sa+G) (by lia) y2
     rw[er2];have h1:sa+x - (sa+k)<M.toList.length:=by lia
     have h2:sa+G - (sa+k)<M.toList.length:=by lia
     rw[ak h1]at ep;rw[ak h2]at eq;cases ep;cases eq;exact aT.mp RM _ _ h1 h2 (by lia)
    ·rw[outer (sa+G) (by lia)]
     obtain⟨j,j1,j2,e⟩:=inM p (aH ep);rw[<- e];have q4:=b4 (G - na) (by lia) (by lia)
     rw[ix1 (show na<=G by lia)]at q4
     by_cases j3:j<sa+na
     ·have:=le1 (j - sa) (na - 1) (by lia) (by lia)
      rw[fD (show sa<=j by lia),show sa+(na - 1)=sa+na - 1 by lia]at this
      lia
     ·have:=le2 (j - (sa+na)) (G - na) (by lia) (by lia)
      rw[fD (show sa+na<=j by lia),ix1 (show na<=G by lia)]at this
      exact this
   ·rw[outer (sa+x) (by lia),outer (sa+G) (by lia)]
    have:=u2 (x - na) (G - na) (by lia) (by lia)
    rw[ix1 (show na<=x by lia),ix1 (show na<=G by lia)]at this
    exact this
 by_cases le:na - k<=m
 ·rw[if_pos le];refine aC (zk6 c (by assumption) mA mB rA rB (hV (by lia) Z.symm) (hV hm2 szB.symm) f1 f2 fun M z2 PM RM S=>?_)
  refine aC (iH (aC (iO (aI ?_))));have f2':failedOf z2=none:=S.fl.trans fl;show Q (failedOf z2).isNone _
  rw[f2'];exact fin M z2 _ PM RM S.ar (S.kn.trans (by assumption)) f2' S.pe rfl
 ·rw[if_neg le];refine aC (zk7 c (by assumption) mA mB rA rB (hV (by lia) Z.symm) (hV hm2 szB.symm) f1 f2 fun M z2 PM RM S=>?_)
  refine aC (iH (aC (iO (aI ?_))));have f2':failedOf z2=none:=S.fl.trans fl;show Q (failedOf z2).isNone _
  rw[f2'];exact fin M z2 _ PM RM S.ar (S.kn.trans (by assumption)) f2' S.pe rfl
end
structure Sl(rk:ah->Int)(kd:fj)(a0:Array bO)(z0:bR)(lo:Nat)(z:bR):Prop where
 pm:(arrOf z).Perm a0
 kn:kindOf z=kd
 fl:failedOf z=none
 pe:pendingOf z=pendingOf z0
 lw:∀j,j<lo->rkAt rk (arrOf z) j=rkAt rk (arrOf z0) j
def DnL(rk:ah->Int)(xs:Array bO)(lo m:Nat):Prop:=∀i j,i<j->j<m->rkAt rk xs (lo+j)<=rkAt rk xs (lo+i)
section
variable{prog:aQ}{w:bz}{A:br}{E:qV}{s:aw}{kd:fj}{rk:ah->Int}{a0:Array bO}{z0:bR}{lo:Nat}
theorem Sl.sz{z:bR}(b:Sl rk kd a0 z0 lo z):(arrOf z).size=a0.size:=b.pm.size_eq
theorem Sl.arr{z:bR}(b:Sl rk kd a0 z0 lo z){xs:Array bO}(h:xs.Perm (arrOf z))(l:∀j,j<lo->rkAt rk xs j=rkAt rk (arrOf z) j):Sl rk kd a0 z0 lo (setArr z xs):=⟨h.trans b.pm,b.kn,b.fl,b.pe,fun j o=>(l j o).trans (b.lw j o)⟩
theorem askL{z:bR}{i j:Nat}{Q:Option Bool->bR->Prop}(c:Cmp prog w A s kd rk a0)(b:Sl rk kd a0 z0 lo z)(hi:i<a0.size)(I:j<a0.size)
  (h:Q (some (decide (rkAt rk (arrOf z) i<rkAt rk (arrOf z) j))) z):wpS (model prog w) A E s (ltAt' i j) Q z:=by
 have mem:∀k,k<a0.size->∃p,(arrOf z)[k]?=some p/\p∈a0.toList:=fun k u=>by
  have l:k<(arrOf z).size:=by rw[b.sz];exact u
  exact⟨(arrOf z)[k],bH l,(cW.mp b.pm).mem_iff.mp (by simp)⟩
 obtain⟨p,o,mp⟩:=mem i hi;obtain⟨q,eq,v⟩:=mem j I;have G:rkAt rk (arrOf z) i=rk p.1:=by unfold rkAt;rw[o];rfl
 have C:rkAt rk (arrOf z) j=rk q.1:=by unfold rkAt;rw[eq];rfl
 rw[G,C]at h;rw[ltAt'_eq];refine aC (iO ?_);show wpS (model prog w) A E s (elem' (arrOf z) i >>= fun x=>elem' (arrOf z) j >>= fun y=>lt' x y) Q z
 simp only[vD,o,eq,pure_bind];exact Zv c b.kn mp v h
theorem zrW{z:bR}{n ok:Nat}{Q:Bool->bR->Prop}(c:Cmp prog w A s kd rk a0)(hn:lo+n<=a0.size)(hok:ok<=n)(b:Sl rk kd a0 z0 lo z)(up:UpL rk (arrOf z) lo ok)
  (h:∀y,Sl rk kd a0 z0 lo y->UpL rk (arrOf y) lo n->Q true y):wpS (model prog w) A E s (binarySort' lo n ok) Q z:=by
 rw[binarySort'_eq];refine aC (eM (cn (Q:=fun c y=>c=(none,())/\Sl rk kd a0 z0 lo y/\UpL rk (arrOf y) lo n) (I:=fun k c y=>c=(none,())/\Sl rk kd a0 z0 lo y/\UpL rk (arrOf y) lo (min k n)) ?turn ?last ⟨rfl,b,fun i j Y h2=>up i j Y (by lia)⟩) ?post)
 case post =>
  rintro _ y ⟨rfl,C,u⟩
  exact aI (h y C u)
 case last =>
  rintro _ y ⟨rfl,C,u⟩
  exact⟨rfl,C,by rwa [show min (max (max ok 1) n) n=n by lia]at u⟩
 case turn =>
  rintro k _ y k1 k2 ⟨rfl,C,u⟩
  rw[show min k n=k by lia]at u
  refine aC (eM (cn (Q:=fun c U=>U=y/\∃l r,c=(none,l,r)/\l<=k/\(∀i,i<l->rkAt rk (arrOf y) (lo+i)<=rkAt rk (arrOf y) (lo+k))/\∀i,l<=i->i<k->rkAt rk (arrOf y) (lo+k)<rkAt rk (arrOf y) (lo+i))
   (I:=fun x c U=>U=y/\∃l r,c=(none,l,r)/\l<=r/\r<=k/\r - l+x<=k/\(∀i,i<l->rkAt rk (arrOf y) (lo+i)<=rkAt rk (arrOf y) (lo+k))/\∀i,r<=i->i<k->rkAt rk (arrOf y) (lo+k)<rkAt rk (arrOf y) (lo+i)) ?t2 ?l2 ⟨rfl,0,k,rfl,by lia,by lia,by lia,fun i hi=>by lia,fun i R N=>by lia⟩) ?p2)
  case l2 =>
   rintro _ v ⟨e,l,r,rfl,q1,Z,q3,J,L⟩;subst e;exact⟨rfl,l,r,rfl,by lia,J,fun i R N=>L i (by lia) N⟩
  case t2 =>
   rintro x _ v _ _ ⟨e,l,r,rfl,q1,Z,q3,J,L⟩;subst e
   by_cases ge:r<=l
   ·simp only[ge_iff_le,ge,if_true];exact aI ⟨rfl,l,r,rfl,by lia,J,fun i R N=>L i (by lia) N⟩
   ·simp only[ge_iff_le,ge,if_false];refine aC (askL c C (by lia) (by lia) ?_)
    by_cases le:rkAt rk (arrOf v) (lo+k)<rkAt rk (arrOf v) (lo+(l+r) / 2)
    ·simp only[le,decide_true,if_true];refine aI ⟨rfl,l,(l+r) / 2,rfl,by lia,by lia,by lia,J,fun i R N=>?_⟩
     rcases cz ((l+r) / 2) i with g|g
     ·have:=u _ _ g N;lia
     ·have:i=(l+r) / 2:=by lia
      rw[this];exact le
    ·simp only[le,decide_false,aN,if_false];refine aI ⟨rfl,(l+r) / 2+1,r,rfl,by lia,by lia,by lia,fun i R=>?_,L⟩
     rcases cz i ((l+r) / 2) with g|g
     ·have:=u _ _ g (by lia);lia
     ·have:i=(l+r) / 2:=by lia
      rw[this];lia
  case p2 =>
   rintro _ v ⟨e,l,r,rfl,Z,J,L⟩;subst e;show wpS (model prog w) A E s (moveDown' (lo+k) (lo+l) >>= fun _=>pure (bY (none,()))) _ v
   rw[moveDown'_eq];have hk:lo+k<(arrOf v).size:=by rw[C.sz];lia
   have G:∀j,_:=fun j=>zsC (rk:=rk) hk (show lo+k - (lo+l)<=lo+k by lia) j
   have el:lo+k - (lo+k - (lo+l))=lo+l:=by lia
   rw[el]at G;refine aC (iH (aI ⟨rfl,C.arr (bubble_perm _ _ _) (fun j hj=>(G j).2.2 (by lia)),fun i j Y h2=>?_⟩))
   show rkAt rk (bubble (arrOf v) (lo+k) (lo+k - (lo+l))) (lo+i)<=rkAt rk (bubble (arrOf v) (lo+k) (lo+k - (lo+l))) (lo+j)
   have hj:j<=k:=by lia
   obtain⟨a1,a2,S⟩:=G (lo+i);obtain⟨b1,b2,b3⟩:=G (lo+j);rcases ee j l with jl|jl|jl
   ·rw[S (by lia),b3 (by lia)];exact u i j Y (by lia)
   ·rw[S (by lia),b1 (by lia)];exact J i (by lia)
   ·rw[b2 (by lia) (by lia),show lo+j - 1=lo+(j - 1) by lia]
    rcases ee i l with il|il|il
    ·rw[S (by lia)]
     exact u i (j - 1) (by lia) (by lia)
    ·rw[a1 (by lia)];exact dH (L (j - 1) (by lia) (by lia))
    ·rw[a2 (by lia) (by lia),show lo+i - 1=lo+(i - 1) by lia]
     exact u _ _ (by lia) (by lia)
theorem UpL.more{xs:Array bO}{x:Nat}(u:UpL rk xs lo x)(v:1<=x)(g:¬rkAt rk xs (lo+x)<rkAt rk xs (lo+x - 1)):UpL rk xs lo (x+1):=fun i j o y=>by
 rw[show lo+x - 1=lo+(x - 1) by lia]at g
 rcases cz j x with jx|jx
 ·exact u i j o jx
 ·have l:j=x:=by lia
  subst l;rcases cz i (j - 1) with ij|ij
  ·have:=u i (j - 1) ij (by lia);lia
  ·have:i=j - 1:=by lia
   rw[this];lia
theorem DnL.more{xs:Array bO}{x:Nat}(u:DnL rk xs lo x)(v:1<=x)(g:rkAt rk xs (lo+x)<=rkAt rk xs (lo+x - 1)):DnL rk xs lo (x+1):=fun i j o y=>by
 rw[show lo+x - 1=lo+(x - 1) by lia]at g
 rcases cz j x with jx|jx
 ·exact u i j o jx
 ·have l:j=x:=by lia
  subst l;rcases cz i (j - 1) with ij|ij
  ·have:=u i (j - 1) ij (by lia);lia
  ·have:i=j - 1:=by lia
   rw[this];lia
theorem zqu{z:bR}{m:Nat}{Q:Option Nat->bR->Prop}(c:Cmp prog w A s kd rk a0)(hm:lo+m<=a0.size)(m1:1<=m)(b:Sl rk kd a0 z0 lo z)
  (h:∀k y,Sl rk kd a0 z0 lo y->1<=k->k<=m->UpL rk (arrOf y) lo k->Q (some k) y):wpS (model prog w) A E s (countRun' lo m) Q z:=by
 rw[countRun'_eq];refine aC (eM (cn (I:=fun x c y=>y=z/\c=(none,x)/\UpL rk (arrOf z) lo x) (Q:=fun c y=>y=z/\∃n,c=(none,n)/\1<=n/\n<=m/\UpL rk (arrOf z) lo n/\(n<m->rkAt rk (arrOf z) (lo+n)<rkAt rk (arrOf z) (lo+n - 1))) ?turn ?last ⟨rfl,rfl,fun i j J L=>absurd J (by lia)⟩) ?post)
 case last =>
  rintro _ y ⟨rfl,rfl,u⟩;rw[show max 1 m=m by lia]at u ⊢
  exact⟨rfl,m,rfl,m1,aE _,u,fun g=>absurd g (by lia)⟩
 case turn =>
  rintro x _ y S Y ⟨rfl,rfl,u⟩;dsimp only;refine aC (askL c b (by lia) (by lia) ?_)
  by_cases g:rkAt rk (arrOf y) (lo+x)<rkAt rk (arrOf y) (lo+x - 1)
  ·simp only[g,decide_true,if_true];exact aI ⟨rfl,x,rfl,S,by lia,u,fun _=>g⟩
  ·simp only[g,decide_false,aN,if_false];exact aI ⟨rfl,rfl,u.more S g⟩
 case post =>
  rintro _ y ⟨rfl,n,rfl,n1,n2,u,lt⟩;dsimp only
  by_cases en:n=m
  ·simp only[en,beq_self_eq_true,if_true];exact aI (h m y b m1 (aE _) (en▸u))
  have en':(n == m)=false:=by simpa using en
  simp only[en',aN,if_false];have l:=lt (by lia)
  have zn:lo+n<=(arrOf y).size:=by rw[b.sz];lia
  have pre:n<=1\/1<n:=by lia
  have both:∀(F:StateT bR Sem (Option Nat)) ,(∀N,Sl rk kd a0 z0 lo N->DnL rk (arrOf N) lo (n+1)->wpS (model prog w) A E s F Q N)->wpS (model prog w) A E s (if n > 1 then ltAt' lo (lo+n - 1) >>= fun x=>match x with
    | some G=>if G=true then pure (some n) else reverseSlice' lo (lo+n) >>= fun _=>F
    | _=>pure none
   else F) Q y:=by
   intro F R
   by_cases g:n > 1
   ·simp only[g,if_true];refine aC (askL c b (by lia) (by lia) ?_)
    by_cases G:rkAt rk (arrOf y) lo<rkAt rk (arrOf y) (lo+n - 1)
    ·simp only[G,decide_true,if_true];exact aI (h n y b n1 n2 u)
    ·simp only[G,decide_false,aN,if_false];have al:∀k,lo<=k->k<lo+n->rkAt rk (arrOf y) k=rkAt rk (arrOf y) (lo+n - 1):=fun k k1 kn=>by
      have p:rkAt rk (arrOf y) lo<=rkAt rk (arrOf y) k:=by
       rcases nV k1 with k0|k0
       ·rw[k0];exact bh _
       ·have:=u 0 (k - lo) (by lia) (by lia)
        rw[show lo+(k - lo)=k by lia]at this
        exact this
      have q:rkAt rk (arrOf y) k<=rkAt rk (arrOf y) (lo+n - 1):=by
       rcases cz k (lo+n - 1) with kk|kk
       ·have:=u (k - lo) (n - 1) (by lia) (by lia)
        rw[show lo+(k - lo)=k by lia,show lo+(n - 1)=lo+n - 1 by lia]at this
        exact this
       ·rw[show k=lo+n - 1 by lia];exact bh _
      lia
     refine aC (m7 (R _ (b.arr (m8 _ _ _ _) fun j U=>UW zn al j) fun i j J L=>?_))
     show rkAt rk (mirror (arrOf y) lo (lo+n) ((lo+n - lo) / 2)) (lo+j)<=rkAt rk (mirror (arrOf y) lo (lo+n) ((lo+n - lo) / 2)) (lo+i)
     rw[UW zn al,UW zn al];have ai:=al (lo+i) (by lia) (by lia)
     rcases cz j n with jn|jn
     ·have:=al (lo+j) (by lia) (by lia);lia
     ·rw[show j=n by lia];lia
   ·simp only[g,if_false];have e1:n=1:=by lia
    subst e1;refine R y b fun i j J L=>?_
    rw[show i=0 by lia,show j=1 by lia]
    exact dH l
  refine both _ fun y b dn=>?_
  clear both;refine aC (lH (dw ⟨rfl,aC ?_⟩));refine eM (cn (I:=fun x c y=>∃e,c=(none,x,e)/\Sl rk kd a0 z0 lo y/\DnL rk (arrOf y) lo x/\e<x/\∀i,lo+x - (e+1)<=i->i<lo+x->rkAt rk (arrOf y) i=rkAt rk (arrOf y) (lo+x - 1))
   (Q:=fun c y=>∃x e,c=(none,x,e)/\1<=x/\x<=m/\Sl rk kd a0 z0 lo y/\DnL rk (arrOf y) lo x/\e<x/\∀i,lo+x - (e+1)<=i->i<lo+x->rkAt rk (arrOf y) i=rkAt rk (arrOf y) (lo+x - 1)) ?turn2 ?last2 ⟨0,rfl,b,dn,by lia,fun i i1 i2=>by rw[show i=lo+(n+1) - 1 by lia]⟩) ?post2
  case last2 =>
   rintro _ y ⟨e,rfl,q⟩;rw[show max (n+1) m=m by lia]at *
   exact⟨m,e,rfl,m1,aE _,q⟩
  case turn2 =>
   rintro x _ y S Y ⟨e,rfl,C,d,ex,al⟩
   have xz:lo+x<=(arrOf y).size:=by rw[C.sz];lia
   dsimp only;refine aC (askL c C (show lo+x<a0.size by lia) (show lo+x - 1<a0.size by lia) ?_)
   have one:∀xs:Array bO,∀i,lo+(x+1) - (0+1)<=i->i<lo+(x+1)->rkAt rk xs i=rkAt rk xs (lo+(x+1) - 1):=fun xs i i1 i2=>by rw[show i=lo+(x+1) - 1 by lia]
   by_cases g:rkAt rk (arrOf y) (lo+x)<rkAt rk (arrOf y) (lo+x - 1)
   ·simp only[g,decide_true,if_true];have d2:∀xs:Array bO,(∀k,rkAt rk xs k=rkAt rk (arrOf y) k)->DnL rk xs lo (x+1):=fun xs hx i j J L=>by
     rw[hx,hx];exact d.more (by lia) (dH g) i j J L
    by_cases e0:e > 0
    ·simp only[e0,if_true];exact aC (m7 (aI ⟨0,rfl,C.arr (m8 _ _ _ _) (fun j U=>UW xz al j),d2 _ (UW xz al),by lia,one _⟩))
    ·simp only[e0,if_false];exact aI ⟨0,rfl,C,d2 _ (fun _=>rfl),by lia,one _⟩
   ·simp only[g,decide_false,aN,if_false];refine aC (askL c C (show lo+x - 1<a0.size by lia) (show lo+x<a0.size by lia) ?_)
    by_cases g2:rkAt rk (arrOf y) (lo+x - 1)<rkAt rk (arrOf y) (lo+x)
    ·simp only[g2,decide_true,if_true];exact aI ⟨x,e,rfl,by lia,by lia,C,d,ex,al⟩
    ·simp only[g2,decide_false,aN,if_false];have eqx:rkAt rk (arrOf y) (lo+x)=rkAt rk (arrOf y) (lo+x - 1):=by lia
     refine aI ⟨e+1,rfl,C,d.more (by lia) (by lia),by lia,fun i i1 i2=>?_⟩
     rw[show lo+(x+1) - 1=lo+x by lia]
     rcases cz i (lo+x) with ix|ix
     ·rw[al i (by lia) ix,eqx]
     ·rw[show i=lo+x by lia]
  case post2 =>
   rintro _ y ⟨x,e,rfl,S,Y,C,d,ex,al⟩
   have kz:lo+x<=(arrOf y).size:=by rw[C.sz];lia
   dsimp only;have fin:∀(F:StateT bR Sem (Option Nat)),(∀N,Sl rk kd a0 z0 lo N->DnL rk (arrOf N) lo x->wpS (model prog w) A E s F Q N)->wpS (model prog w) A E s (if e > 0 then reverseSlice' (lo+x - (e+1)) (lo+x) >>= fun _=>F else F) Q y:=by
    intro F R
    by_cases e0:e > 0
    ·simp only[e0,if_true];refine aC (m7 (R _ (C.arr (m8 _ _ _ _) fun j U=>UW kz al j) fun i j J L=>?_))
     show rkAt rk (mirror (arrOf y) (lo+x - (e+1)) (lo+x) ((lo+x - (lo+x - (e+1))) / 2)) (lo+j)<=rkAt rk (mirror (arrOf y) (lo+x - (e+1)) (lo+x) ((lo+x - (lo+x - (e+1))) / 2)) (lo+i)
     rw[UW kz al,UW kz al];exact d i j J L
    ·simp only[e0,if_false];exact R y C d
   refine fin _ fun y C d=>?_
   clear fin;have hz:lo+x<=(arrOf y).size:=by rw[C.sz];lia
   have Z:=C.arr (m8 (arrOf y) lo (lo+x) ((lo+x - lo) / 2)) fun j U=>(VQ (rk:=rk) hz j).2 (.inl U)
   refine aC (m7 (aC ?_));have u2:UpL rk (mirror (arrOf y) lo (lo+x) ((lo+x - lo) / 2)) lo x:=fun i j J L=>by
    rw[(VQ (rk:=rk) hz (lo+i)).1 (by lia) (by lia),(VQ (rk:=rk) hz (lo+j)).1 (by lia) (by lia)]
    have:=d (x - 1 - j) (x - 1 - i) (by lia) (by lia)
    rw[show lo+(x - 1 - j)=lo+(lo+x) - 1 - (lo+j) by lia,show lo+(x - 1 - i)=lo+(lo+x) - 1 - (lo+i) by lia]at this
    exact this
   change UpL rk (arrOf (setArr y (mirror (arrOf y) lo (lo+x) ((lo+x - lo) / 2)))) lo x at u2;generalize setArr y (mirror (arrOf y) lo (lo+x) ((lo+x - lo) / 2))=v at Z u2 ⊢;refine eM (cn (I:=fun x c y=>y=v/\c=(none,x)/\UpL rk (arrOf v) lo x) (Q:=fun c y=>y=v/\∃n,c=(none,n)/\1<=n/\n<=m/\UpL rk (arrOf v) lo n) ?turn3 ?last3 ⟨rfl,rfl,u2⟩) ?post3
   case last3 =>
    rintro _ y ⟨rfl,rfl,u⟩;rw[show max x m=m by lia]at u ⊢
    exact⟨rfl,m,rfl,m1,aE _,u⟩
   case turn3 =>
    rintro x' _ y S Y ⟨rfl,rfl,u⟩;dsimp only;refine aC (askL c Z (by lia) (by lia) ?_)
    by_cases g:rkAt rk (arrOf y) (lo+x')<rkAt rk (arrOf y) (lo+x' - 1)
    ·simp only[g,decide_true,if_true];exact aI ⟨rfl,x',rfl,by lia,by lia,u⟩
    ·simp only[g,decide_false,aN,if_false];exact aI ⟨rfl,rfl,u.more (by lia) g⟩
   case post3 =>
    rintro _ y ⟨rfl,n,rfl,n1,n2,u⟩;exact aI (h n y Z n1 n2 u)
end
abbrev Run3:=Nat×Nat×Nat
def Side:List Run3->Nat->Nat->Prop
 | [],a,b=>a=b
 | q::r,a,b=>q.1=a/\0<q.2.1/\Side r (a+q.2.1) b
theorem Vh:∀{l m:List Run3}{a b:Nat},Side (l++m) a b↔∃c,Side l a c/\Side m c b
 | [],m,a,b=>⟨fun h=>⟨a,rfl,h⟩,fun⟨c,e,h⟩=>by cases e;exact h⟩
 | q::l,m,a,b=>by
  constructor
  ·rintro⟨v,x,y⟩;obtain⟨c,o,u⟩:=Vh.mp y;exact⟨c,⟨v,x,o⟩,u⟩
  ·rintro⟨c,⟨v,x,o⟩,u⟩;exact⟨v,x,Vh.mpr ⟨c,o,u⟩⟩
theorem Z4:∀{l:List Run3}{a b:Nat},Side l a b->a+l.length<=b/\∀q∈l,a<=q.1/\q.1+q.2.1<=b
 | [],a,b,h=>⟨by cases h;simp,fun q o=>nomatch o⟩
 | p::l,a,b,⟨h1,h2,h3⟩=>by
  obtain⟨v,u⟩:=Z4 h3;refine⟨by simp only[aF];lia,fun q o=>?_⟩
  rcases az.mp o with rfl|m
  ·lia
  ·have:=u q m;lia
theorem zjO{f:Run3->Run3}(hf:∀q,(f q).1=q.1/\(f q).2.1=q.2.1):∀{l:List Run3}{i a b:Nat},Side l a b->Side (l.modify i f) a b/\∀u∈l.modify i f,∃q∈l,u.1=q.1/\u.2.1=q.2.1
 | [],i,a,b,h=>by simp only[List.modify_nil];exact⟨h,fun q o=>nomatch o⟩
 | p::l,0,a,b,⟨h1,h2,h3⟩=>by
  rw[List.modify_zero_cons];refine⟨⟨(hf p).1.trans h1,(hf p).2▸h2,(hf p).2▸h3⟩,fun q o=>?_⟩
  rcases az.mp o with rfl|m
  ·exact⟨p,cL,hf p⟩
  ·exact⟨q,bX _ m,rfl,rfl⟩
 | p::l,i+1,a,b,⟨h1,h2,h3⟩=>by
  rw[List.modify_succ_cons];obtain⟨v,x⟩:=zjO hf (i:=i) h3;refine⟨⟨h1,h2,v⟩,fun q o=>?_⟩
  rcases az.mp o with rfl|m
  ·exact⟨q,cL,rfl,rfl⟩
  ·obtain⟨u,y,e⟩:=x q m;exact⟨u,bX _ y,e⟩
theorem zhx{α:Type}{x y v:α}:∀(l r:List α),((l++x::y::r).set l.length v).eraseIdx (l.length+1)=l++v::r
 | [],r=>rfl
 | a::l,r=>by
  have:=zhx (x:=x) (y:=y) (v:=v) l r;simp only[dR,aF,fk,List.eraseIdx_cons_succ,this]
structure Rn(rk:ah->Int)(kd:fj)(a0:Array bO)(lo:Nat)(z:bR):Prop where
 pm:(arrOf z).Perm a0
 kn:kindOf z=kd
 fl:failedOf z=none
 sd:Side (pendingOf z).toList 0 lo
 ls:lo<=a0.size
 up:∀q∈(pendingOf z).toList,UpL rk (arrOf z) q.1 q.2.1
theorem UpL.same{rk:ah->Int}{xs ys:Array bO}{lo m:Nat}(u:UpL rk xs lo m)(e:∀j,lo<=j->j<lo+m->rkAt rk ys j=rkAt rk xs j):UpL rk ys lo m:=fun i j l o=>by
 rw[e (lo+i) (by lia) (by lia),e (lo+j) (by lia) (by lia)]
 exact u i j l o
section
variable{prog:aQ}{w:bz}{A:br}{E:qV}{s:aw}{kd:fj}{rk:ah->Int}{a0:Array bO}{z0:bR}{lo:Nat}
theorem zpZ{i:Nat}{z:bR}{Q:Bool->bR->Prop}(c:Cmp prog w A s kd rk a0)(R:Rn rk kd a0 lo z)(hi:i+1<(pendingOf z).size)
  (h:∀y,Rn rk kd a0 lo y->(pendingOf y).size+1=(pendingOf z).size->(∀j,lo<=j->rkAt rk (arrOf y) j=rkAt rk (arrOf z) j)->Q true y):wpS (model prog w) A E s (mergeAt' i) Q z:=by
 obtain⟨l,x,y,r,v,ei⟩:∃l x y r,(pendingOf z).toList=l++x::y::r/\l.length=i:=by
  have h1:i<(pendingOf z).toList.length:=by simp;lia
  have Y:i+1<(pendingOf z).toList.length:=by simp;lia
  refine⟨(pendingOf z).toList.take i,(pendingOf z).toList[i],(pendingOf z).toList[i+1],(pendingOf z).toList.drop (i+2),?_,by simp;lia⟩
  rw[<- bf Y,<- bf h1,ft]
 obtain⟨sa,na,pw⟩:=x;obtain⟨sb,nb,pw2⟩:=y;have sd:=R.sd;rw[v]at sd;obtain⟨a,s1,S,N,J,I,G⟩:=Vh.mp sd;dsimp only at S N J I G;subst S;subst J;have up:=R.up;rw[v]at up;obtain⟨t1,t2⟩:=Z4 G;have t3:=Z4 s1;have ls:=R.ls;refine zk8 (sa:=sa) (na:=na) (nb:=nb) (pw:=pw) (pw2:=pw2) c R.kn R.fl R.pm ?_ ?_ N I (by lia) (up (sa,na,pw) (by simp)) (up (sa+na,nb,pw2) (by simp)) fun C ky U py pe u out=>?_
 ·rw[<- cR,v,bG (by lia),show i - l.length=0 by lia];rfl
 ·rw[<- cR,v,bG (by lia),show i+1 - l.length=1 by lia];rfl
 ·have pl:(pendingOf C).toList=l++(sa,na+nb,pw)::r:=by
   rw[pe];subst ei;rw[Array.toList_eraseIdxIfInBounds,Array.toList_setIfInBounds,v];exact zhx l r
  refine h C ⟨py,ky,U,?_,R.ls,?_⟩ ?_ fun j hj=>out j (.inr (by lia))
  ·rw[pl];refine Vh.mpr ⟨sa,s1,rfl,by show 0<na+nb;lia,?_⟩
   show Side r (sa+(na+nb)) lo
   rw[<- nP];exact G
  ·rw[pl];intro q hq;rcases ax.mp hq with m|m
   ·exact(up q (by simp[m])).same fun j j1 j2=>out j (.inl (by have:=t3.2 q m;lia))
   ·rcases az.mp m with rfl|m
    ·exact u
    ·exact(up q (by simp[m])).same fun j j1 j2=>out j (.inr (by have:=t2 q m;lia))
  ·have Z:(pendingOf C).size=(pendingOf C).toList.length:=by simp
   have e2:(pendingOf z).size=(pendingOf z).toList.length:=by simp
   rw[Z,e2,pl,v];simp;lia
theorem zoK{z:bR}{Q:Unit->bR->Prop}(c:Cmp prog w A s kd rk a0)(b:Sb kd a0 z)(s2:2<=a0.size)
  (h:∀y,(arrOf y).Perm a0->failedOf y=none->Up rk (arrOf y) a0.size->Q () y):wpS (model prog w) A E s sortRuns' Q z:=by
 rw[sortRuns'_eq];refine aC (iO ?_);rw[b.sz];dsimp only;generalize minRun' a0.size a0.size 0=mr;refine aC (eM (cn (Q:=fun c y=>∃lo,c=(none,lo)/\Rn rk kd a0 lo y/\a0.size<=lo)
  (I:=fun x c y=>∃lo,c=(none,lo)/\Rn rk kd a0 lo y/\x<=lo) ?turn ?last ⟨0,rfl,⟨b.pm,b.kn,b.fl,by rw[b.pe];rfl,by lia,by rw[b.pe];intro q U;simp at U⟩,by lia⟩) ?post)
 case last =>
  rintro _ y ⟨lo,rfl,R,hx⟩;exact⟨lo,rfl,R,by lia⟩
 case turn =>
  rintro x _ y _ hx ⟨lo,rfl,R,hl⟩;dsimp only
  by_cases ge:lo>=a0.size
  ·rw[if_pos ge];exact aI ⟨lo,rfl,R,ge⟩
  rw[if_neg ge];have rest:∀(n:Nat) (G:bR),1<=n->lo+n<=a0.size->Sl rk kd a0 y lo G->UpL rk (arrOf G) lo n->Rn rk kd a0 lo G:=fun n G J N S u=>by
   refine⟨S.pm,S.kn,S.fl,S.pe▸R.sd,R.ls,?_⟩;rw[S.pe];intro q U;exact(R.up q U).same fun j j1 j2=>S.lw j (by have:=(Z4 R.sd).2 q U;lia)
  have push:∀(n:Nat) (G:bR),1<=n->lo+n<=a0.size->Rn rk kd a0 lo G->UpL rk (arrOf G) lo n->Rn rk kd a0 (lo+n) (setPending G ((pendingOf G).push (lo,n,0))):=fun n G J N S u=>by
   have e:(pendingOf (setPending G ((pendingOf G).push (lo,n,0)))).toList=(pendingOf G).toList++[(lo,n,0)]:=by
    show((pendingOf G).push (lo,n,0)).toList=_
    simp
   refine⟨S.pm,S.kn,S.fl,?_,N,?_⟩
   ·rw[e];exact Vh.mpr ⟨lo,S.sd,rfl,J,rfl⟩
   ·rw[e];intro q U;rcases ax.mp U with m|m
    ·exact S.up q m
    ·cases aA.mp m;exact u
  refine aC (zqu (z0:=y) (lo:=lo) c (by lia) (by lia) ⟨R.pm,R.kn,R.fl,rfl,fun _ _=>rfl⟩ fun k G S1 k1 k2 u1=>?_)
  dsimp only
  by_cases g:k<mr
  rw[if_pos g];refine aC (lH (dw ⟨rfl,aC (zrW c (n:=min (a0.size - lo) mr) (by lia) (by lia) S1 u1 fun y2 S2 Y=>?_)⟩))
  simp only[eI,aN,if_false];have J:1<=min (a0.size - lo) mr:=by lia
  have N:lo+min (a0.size - lo) mr<=a0.size:=by lia
  generalize min (a0.size - lo) mr=n at Y J N ⊢
  rotate_left 1
  rw[if_neg g];have J:1<=k:=k1;have N:lo+k<=a0.size:=by lia
  have S2:=S1;have Y:=u1;revert S1 u1 S2 Y;generalize G=y2;generalize k=n at J N ⊢;intro _ _ S2 Y
  all_goals
   have R2:=rest n y2 J N S2 Y;refine aC (iO ?_);cases hb:(pendingOf y2).back? with
   | none =>
    dsimp only;exact aC (iH (aI ⟨_,rfl,push n y2 J N R2 Y,by lia⟩))
   | some q =>
    obtain⟨q1,q2,q3⟩:=q;dsimp only;generalize power' a0.size (2*q1+q2) (2*q1+q2+q2+n) a0.size=pw;refine aC (eM (cn (I:=fun _ c v=>c=(none,())/\Rn rk kd a0 lo v/\UpL rk (arrOf v) lo n) (Q:=fun c v=>c=(none,())/\Rn rk kd a0 lo v/\UpL rk (arrOf v) lo n) ?_ (fun _ _ I=>I) ⟨rfl,R2,Y⟩) ?_)
    ·rintro x' _ v _ _ ⟨rfl,C,Z⟩;refine aC (iO ?_)
     by_cases big:(pendingOf v).size > 1
     ·rw[if_pos big,bH (by lia)]
      generalize (pendingOf v)[(pendingOf v).size - 2]'(by lia)=o
      obtain⟨o1,o2,o3⟩:=o;dsimp only
      by_cases po:o3<=pw
      ·rw[if_pos po];exact aI ⟨rfl,C,Z⟩
      ·rw[if_neg po];refine aC (zpZ c C (by lia) fun y' R' _ out=>?_)
       simp only[eI,aN,if_false];exact aI ⟨rfl,R',Z.same fun j j1 _=>out j j1⟩
     ·rw[if_neg big];exact aI ⟨rfl,C,Z⟩
    ·rintro _ v ⟨rfl,C,Z⟩;dsimp only;have m:=zjO (f:=fun x=>(x.1,x.2.1,pw)) (fun q=>⟨rfl,rfl⟩) (i:=(pendingOf v).size - 1) C.sd
     refine aC (iH (aC (iH (aI ⟨_,rfl,push n _ J N ⟨C.pm,C.kn,C.fl,?_,C.ls,?_⟩ Z,by lia⟩))))
     ·show Side ((pendingOf v).modify _ _).toList 0 lo
      rw[nE];exact m.1
     ·show ∀q∈((pendingOf v).modify _ _).toList,UpL rk (arrOf v) q.1 q.2.1
      rw[nE];intro q U;obtain⟨q',m',e1,e2⟩:=m.2 q U;rw[e1,e2];exact C.up q' m'
 case post =>
  rintro _ y ⟨lo,rfl,R,hl⟩;have el:lo=a0.size:=by have:=R.ls;lia
  subst el;dsimp only;have p0:=(Z4 R.sd).1;have ps:(pendingOf y).toList.length=(pendingOf y).size:=by simp
  refine aC (eM (cn (I:=fun x c v=>c=(none,())/\Rn rk kd a0 a0.size v/\((pendingOf v).size<=1\/(pendingOf v).size+x<=a0.size)) (Q:=fun c v=>c=(none,())/\Rn rk kd a0 a0.size v/\(pendingOf v).size<=1) ?_ ?_ ⟨rfl,R,.inr (by lia)⟩) ?_)
  ·rintro x _ v _ hx ⟨rfl,C,sz⟩;refine aC (iO ?_)
   by_cases le:(pendingOf v).size<=1
   ·rw[if_pos le];exact aI ⟨rfl,C,le⟩
   rw[if_neg le];refine aC (zpZ c C ?_ fun y' R' e _=>?_)
   ·have ile:∀(p:Prop) [Decidable p] (a b n:Nat),a<=n->b<=n->(if p then a else b)<=n:=by intros;split <;> assumption
    exact nX (Nat.add_le_add_right (ile _ _ _ ((pendingOf v).size - 2) (by lia) (aE _)) 1) (by lia)
   ·simp only[eI,aN,if_false];exact aI ⟨rfl,R',.inr (by lia)⟩
  ·rintro _ v ⟨rfl,C,sz⟩;exact⟨rfl,C,by lia⟩
  ·rintro _ v ⟨rfl,C,sz⟩;refine aI (h v C.pm C.fl ?_);have sd:=C.sd;have up:=C.up;have ps:(pendingOf v).toList.length=(pendingOf v).size:=by simp
   generalize (pendingOf v).toList=L at sd up ps
   match L,sd,up,ps with
   | [],sd,_,_ =>
    have:(0:Nat)=a0.size:=sd;lia
   | [q],sd,up,_ =>
    obtain⟨e1,_,e2⟩:=sd;have e2:0+q.2.1=a0.size:=e2;have u:=up q (by simp)
    intro i j h1 h2;have:=u i j h1 (by lia)
    rw[e1]at this;simpa using this
   | _::_::_,_,_,ps=>simp at ps;lia
end
theorem zoJ{prog:aQ}{w:bz}{A:br}{E:qV}{s:aw}{o:fj}{rk:ah->Int}{l:Array bO}{z:bR}{Q:Unit->bR->Prop}(c:Cmp prog w A s o rk l)(b:Sb o l z)(s2:2<=l.size)(_:l.size<100000)
  (h:∀y,(arrOf y).Perm l->failedOf y=none->Up rk (arrOf y) l.size->Q () y):wpS (model prog w) A E s sortRuns' Q z:=zoK c b s2 h
def midH(h:bq)(a:au)(l:List ah):bq:=((h.update a (fF fun _=>#[])).push (seqObj "tuple" l.toArray 0)).push (seqObj "list" #[] 0)
section
variable{prog:aQ}{w:bz}{A:br}{E:qV}{s:aw}{rk:ah->Int}
def Kinds(prog:aQ)(w:bz)(A:br)(s:aw)(rk:ah->Int)(l:List ah):Prop:=2<=l.length->∃o,(∀(E:qV) (Q:fj->aw->Prop),Q o s->wpAny (model prog w) A (keyKind' l.toArray) Q E s)/\Cmp prog w A s o rk (pairsOf l)
theorem zkb{a:au}{l:List ah}{n:Nat}{P:Fin->aw->Prop}(v:s.heap.get? a=some (seqObj "list" l.toArray n)) (G:l.length<100000) (R:Kinds prog w A { s with heap:=midH s.heap a l } rk l)
  (h:∀y:bR,(arrOf y).Perm (pairsOf l)->Up rk (arrOf y) l.length->P (.done (.ret .none)) { s with heap:=sortedHeap s.heap a l ((arrOf y).map (·.2)) }) :
  wpAny (model prog w) A (gm.«list.sort» ⟨[.ref a],[]⟩) P E s:=by
 rw[list_sort_plain];have J:a<s.heap.objs.size:=aD v;refine aa (gJ v rfl (aa (nQ v rfl ?_)));obtain⟨u,L⟩:∃u,(s.heap.update a (fF fun _=>#[])).get? a=some (seqObj "list" #[] u):=⟨_,pO v (fun _=>#[])⟩
 refine aa (seqEpoch_at L rfl (aa (rJ (aa (lA (cf ?_))))));have I:(midH s.heap a l).get? a=some (seqObj "list" #[] u):=by
  unfold midH;rw[cH _ _ _ (by rw[eV,cO];exact aK (aL J (fS _))),cH _ _ _ (by rw[cO];exact aK J)]
  exact L
 show wpAny (model prog w) A _ P E { s with heap:=midH s.heap a l }
 have z:l.toArray.size=l.length:=by simp
 have tail:∀(y:bR),(arrOf y).Perm (pairsOf l)->failedOf y=none->Up rk (arrOf y) l.length->wpAny (model prog w) A (do
   let touched:=(<- seqEpoch a) != u
   tR (.ref a) fun _=>(arrOf y).map (·.2)
   if let some e:=failedOf y then rule "list.sort.comparison-raised";throw e
   if touched then rule "list.sort.modified";raiseError "ValueError" "list modified during sort"
   ret .none) P E { s with heap:=midH s.heap a l }:=fun y pm fl up=>by
  refine aa (seqEpoch_at I rfl (aa (nQ I rfl ?_ (hsz2:=?_))))
  ·rw[fl];simp only[bne_self_eq_false,aN,if_false];exact aj (h y pm up)
  ·rw[Array.size_map,pm.size_eq,ma];show l.length<=sizeLine+1
   have:100000<=sizeLine:=by decide
   omega
 by_cases two:l.length<2
 ·simp only[z,two,if_true];refine aa (aj ?_);rw[StateT.run_pure];refine aa (aj ?_);exact tail (xk general' (l.toArray.zip l.toArray) #[] 7 none) (pP _) rfl fun i j Z N=>absurd N (by omega)
 ·simp only[z,two,if_false];obtain⟨Y,S,U⟩:=R (by omega)
  refine aa (S _ _ ?_);refine aa (eu (zoJ (Q:=fun _ y=>(arrOf y).Perm (pairsOf l)/\failedOf y=none/\Up rk (arrOf y) l.length) (z:=xk Y (l.toArray.zip l.toArray) #[] 7 none) U ⟨pP _,rfl,rfl,rfl⟩ (by rw[ma];omega) (by rw[ma];exact G)
   fun y C p2 x=>⟨C,p2,by rwa [ma]at x⟩) ?_ fun _ _ e=>e)
  rintro⟨⟨⟩,y⟩ s' ⟨rfl,C,p2,x⟩;exact tail y C p2 x
theorem zfv{l:au}{v:List ah}{o:Obj}{T:String}{n:Nat}{Q:List ah->aw->Prop}(I:s.heap.get? l=some o)(hc:o.cls=.type T)(G:T = "list" \/ T = "tuple") (hd:o.data=.seq v.toArray n) (R:v.length<=sizeLine)
  (h:Q v { s with heap:=(s.heap.push (seqObj "list" #[] 0)).update s.heap.objs.size (fF (·++v.toArray)) }):wpAny (model prog w) A (collect (.ref l)) Q E s:=by
 unfold collect;refine aa (wpAny_runValue (fz entry_proto_collect' ?_));show wpAny (model prog w) _ (newList [] >>= fun x=>again (.builtin "list.__iadd__" ⟨[x,.ref l],[]⟩)) _ _ s
 refine aa (lA (aj ⟨kJ _ (by decide +kernel),fz entry_list_iadd' ?_⟩))
 show wpAny (model prog w) _ (i6 (.ref s.heap.objs.size) (.ref l) (.ref s.heap.objs.size)) _ _ { s with heap:=s.heap.push (seqObj "list" #[] 0) }
 unfold i6;have C:(s.heap.push (seqObj "list" #[] 0)).get? l=some o:=aq _ I;refine aa (eG (T:=T) ⟨o,C,hc⟩ ?_);have cond:∀b:Bool,(b||bQ T == bQ "list" ||bQ T == bQ "tuple")=true:=by
  intro b;have J:(bQ "list" == bQ "list")=true:=rfl;have N:(bQ "tuple" == bQ "tuple")=true:=rfl;rcases G with rfl|rfl
  ·rw[J];simp
  ·rw[N];simp
 rw[if_pos (cond _)];refine aa (gJ C hd (aa (gJ (xs:=#[]) (n:=0) (aG _ rfl) rfl ?_)));rw[if_neg (by simp)]
 refine aa (nQ (xs:=#[]) (n:=0) (aG _ rfl) rfl (aj ?_) (cJ _) (by simp only[Array.size_append,aB,bo];omega))
 refine aa (m:=load s.heap.objs.size) (wpAny_load (pO (aG _ rfl) _) ?_);show wpAny (model prog w) A (pure ((#[]:Array ah)++v.toArray).toList) Q E _
 have e:((#[]:Array ah)++v.toArray).toList=v:=by simp
 rw[e];exact aj h
def preH(h:bq)(l:List ah):bq:=((h.push (seqObj "list" #[] 0)).update h.objs.size (fF (·++l.toArray))).push (seqObj "list" l.toArray 0)
theorem zkP{l:au}{v:List ah}{o:Obj}{T:String}{n:Nat}{Q:qV}(J:s.heap.get? l=some o)(hc:o.cls=.type T)(G:T = "list" \/ T = "tuple") (hd:o.data=.seq v.toArray n) (x:v.length<100000)
  (I:∀N,Kinds prog w N { s with heap:=midH (preH s.heap v) (s.heap.objs.size+1) v } rk v)
  (h:∀y:bR,(arrOf y).Perm (pairsOf v)->Up rk (arrOf y) v.length->Q (.ref (s.heap.objs.size+1)) { s with heap:=sortedAll s.heap v ((arrOf y).map (·.2)) }) :
  wpAny (model prog w) A (call (.builtin "sorted") [.ref l]) Q E s:=by
 refine kP kind_sorted plain_sorted entry_sorted (args_sorted1 _) ?_;unfold gm.«sorted»;refine aa (m:=checkCount "sorted" 1 1 _) (aj ?_);refine aa (zfv J hc G hd (by have:100000<=sizeLine:=(by decide);omega) (aa (lA ?_)))
 have z:((s.heap.push (seqObj "list" #[] 0)).update s.heap.objs.size (fF (·++v.toArray))).objs.size=s.heap.objs.size+1:=by rw[cO,eV]
 have C:(preH s.heap v).get? (s.heap.objs.size+1)=some (seqObj "list" v.toArray 0):=by
  unfold preH;rw[<- z];exact aG _ rfl
 show wpAny (model prog w) _ _ _ _ { s with heap:=preH s.heap v }
 rw[z];refine aa (cf (eC rK ⟨_,C,rfl⟩ pQ (zkb C x (I _) fun y L p2=>⟨_,rfl,?_⟩) (rL _)))
 exact aj ⟨_,rfl,h y L p2⟩
end
section
variable{prog:aQ}{w:bz}{A:br}{E:qV}{s:aw}
theorem zm_(b:Bool)(x y:ah):keyLt' (tuples' b) x y=(do
  let xs <- iq x
  let ys <- iq y
  for ((p,q),i) in (xs.toList.zip ys.toList).zipIdx do
   if !(<- eqBool p q) then return <- oneLt' (b&&i == 0) p q
  return decide (xs.size<ys.size)):=rfl
def LtAt(prog:aQ)(w:bz)(A:br)(s:aw)(one:Bool)(p q:ah)(l:Bool):Prop:=∀(E:qV) (Q:Bool->aw->Prop),Q l s->wpAny (model prog w) A (oneLt' one p q) Q E s
theorem zh3{b:Bool}{x y:au}{R S:Obj}{l v u C:ah}{n m:Nat}{G J U N:Bool}{Q:Bool->aw->Prop}(hx:s.heap.get? x=some R)(dx:R.data=.seq #[l,v] n)(Z:s.heap.get? y=some S)(Y:S.data=.seq #[u,C] m)
  (e0:nT A s l u G) (e1:nT A s v C J) (t0:G=false->LtAt prog w A s b l u U) (t1:J=false->LtAt prog w A s false v C N) (h:Q (if G=true then(if J=true then false else N) else U) s) :
  wpAny (model prog w) A (keyLt' (tuples' b) (.ref x) (.ref y)) Q E s:=by
 rw[zm_];refine aa (gJ hx dx (aa (gJ Z Y ?_)));have ez:((#[l,v]:Array ah).toList.zip (#[u,C]:Array ah).toList).zipIdx=[((l,u),0),((v,C),1)]:=rfl;simp only[ez,iT,kK];refine aa (aa ?_);refine aa (e0 prog w E _ ?_);cases G with
 | false =>
  simp only[fo,if_true];have z0:(b&&(0:Nat) == 0)=b:=by simp
  rw[z0];refine aa (t0 rfl E _ ?_);exact aj (aj (aj (by simpa using h)))
 | true =>
  simp only[eI,aN,if_false];refine aj (aa (aa (e1 prog w E _ ?_)));cases J with
  | false =>
   simp only[fo,if_true];have z1:(b&&(1:Nat) == 0)=false:=by simp
   rw[z1];refine aa (t1 rfl E _ ?_);exact aj (aj (aj (by simpa using h)))
  | true =>
   simp only[eI,aN,if_false];exact aj (aj (aj (by simpa using h)))
theorem zmZ(a b:Int)(t u:Tok):LtAt prog w A s true (.int a t) (.int b u) (decide (a<b)):=fun _ _ q=>oneLt_int q
theorem zo9(a b:Int)(t u:Tok):LtAt prog w A s false (.int a t) (.int b u) (decide (a<b)):=fun E Q q=>by
 rw[tS];simp only[aN,if_false];refine aa (show wpAny (model prog w) A (compareOp .Lt (.int a t) (.int b u)) _ E s from lt_int ?_)
 exact ck q
def PrIn(h:bq)(u:ah)(b k:Int):Prop:=∃(a:au) (o:Obj) (t t':Tok) (n:Nat),u=.ref a/\h.get? a=some o/\o.cls=.type "tuple" /\ o.data=.seq #[.int b t,.int k t'] n
def two?:List ah->Int
 | [.int b _,.int k _]=>b*1000+k
 | _=>0
def rkC(h:bq)(u:ah):Int:=match u with
 | .ref a=>match h.get? a with
  | some o=>match o.data with
   | .seq xs _=>two? xs.toList
   | _=>0
  | none=>0
 | _=>0
theorem PrIn.rk{h:bq}{u:ah}{b k:Int}(p:PrIn h u b k):rkC h u=b*1000+k:=by
 obtain⟨a,o,t,t',n,rfl,v,_,l⟩:=p;simp only[rkC,v,l,two?]
theorem PrIn.kept{h h':bq}{u:ah}{b k:Int}(p:PrIn h u b k)(kp:∀b o,h.get? b=some o->h'.get? b=some o):PrIn h' u b k:=by
 obtain⟨a,o,t,t',n,x,v,l,y⟩:=p;exact⟨a,o,t,t',n,x,kp _ _ v,l,y⟩
theorem Vf{α u:Type}{f:α->Sem u}{P:α->u->Prop}{M:pf}:∀(l:List α) {Q:List u->aw->Prop},(∀v∈l,∀(C:u->aw->Prop),(∀r,P v r->C r s)->wpAny M A (f v) C E s)->(∀rs,cw P l rs->Q rs s)->wpAny M A (l.mapM f) Q E s
 | [],_,_,h=>by rw[List.mapM_nil];exact aj (h _ .nil)
 | x::l,Q,hf,h=>by
  rw[List.mapM_cons];exact aa (hf x (.head _) _ fun r G=>aa (Vf l (fun v I=>hf v (.tail _ I)) fun rs y=>aj (h _ (.cons G y))))
theorem zkq(v:ah):firstOfTuple' v=(do
  if (<- typeOf v) != .type "tuple" then return none
  return (<- iq v)[0]?):=rfl
theorem zlq{L:List ah}{Q:fj->aw->Prop}(Z:1<=L.length)(R:∀v∈L,∃b k,PrIn s.heap v b k)(h:Q (tuples' true) s):wpAny (model prog w) A (keyKind' L.toArray) Q E s:=by
 rw[keyKind'_eq,ir,map_eq_pure_bind];refine aa (aa (Vf (P:=fun _ r=>∃(b:Int) (t:Tok),r=some (.int b t)) L (fun v hv Q' hq=>?_) fun rs I=>aj ?_))
 ·obtain⟨b,k,a,o,t,t',n,rfl,U,e2,e3⟩:=R v hv;rw[zkq];refine aa (eG (T:="tuple") ⟨o,U,e2⟩ ?_);rw[if_neg (by decide)]
  exact aa (gJ U e3 (aj (hq _ ⟨b,t,rfl⟩)))
 ·have al:∀r∈rs,∃(b:Int) (t:Tok),r=some (.int b t):=by
   clear h R Z;induction I with
   | nil=>intro r u;cases u
   | cons x y G =>
    intro r u;rcases az.mp u with rfl|u
    ·exact x
    ·exact G r u
  have ln:rs.length=L.length:=by
   clear h R Z al;induction I with
   | nil=>rfl
   | cons x y G=>simp[G]
  have IP:(rs.toArray.all fun x=>x.isSome)=true:=by
   simp only[iI,bM];intro x hx;obtain⟨b,t,rfl⟩:=al x hx
   rfl
  rw[if_pos IP];refine aa (dw ?_);rw[pR];have N:rs.toArray.filterMap id=(rs.filterMap id).toArray:=by simp
  rw[N,ir,map_eq_pure_bind];refine aa (aa (aa (Vf (P:=fun _ r=>r=bQ "int") _ (fun v hv Q' hq=>?_) fun ts C=>aj ?_)))
  ·obtain⟨x,hx,e⟩:=g9.mp hv;obtain⟨b,t,rfl⟩:=al x hx;cases e;exact aj (hq _ rfl)
  ·have J:∀r∈ts,r=bQ "int":=by
    clear h R Z;generalize rs.filterMap id=l at C;induction C with
    | nil=>intro r u;cases u
    | cons x y G =>
     intro r u;rcases az.mp u with rfl|u
     ·exact x
     ·exact G r u
   have ln2:ts.length=rs.length:=by
    have:ts.length=(rs.filterMap id).length:=by
     clear h R Z J;generalize rs.filterMap id=l at C;induction C with
     | nil=>rfl
     | cons x y G=>simp[G]
    rw[this];clear this C N IP;clear ln I;induction rs with
    | nil=>rfl
    | cons x l G =>
     obtain⟨b,t,rfl⟩:=al x (.head _);simp only[dh,id,aF];rw[G fun r u=>al r (.tail _ u)]
   obtain⟨Y,S,rfl⟩:∃Y S,ts=Y::S:=by
    cases ts with
    | nil=>simp at ln2;omega
    | cons a b=>exact⟨a,b,rfl⟩
   have U:Y=bQ "int":=J Y (.head _);subst U;have IS:(((bQ "int")::S).toArray.all fun x=>x == bQ "int")=true:=by
    simp only[iI,bM];intro x hx;rw[J x hx];rfl
   have h0:((bQ "int")::S).toArray[0]?=some (bQ "int"):=by simp
   rw[h0];simp only[IS,if_true];refine aj (aj ?_);exact h
theorem zjj{l:List ah}{h0:bq}(C:∀v∈l,∃b k,PrIn s.heap v b k/\rkC h0 v=b*1000+k/\0<=k/\k<1000):Kinds prog w A s (rkC h0) l:=fun h2=>by
 refine⟨tuples' true,fun E Q q=>zlq (by omega) (fun v J=>?_) q,fun p q E Q mp R h=>?_⟩
 ·obtain⟨b,k,h,_⟩:=C v J;exact⟨b,k,h⟩
 ·have mem:∀z∈(pairsOf l).toList,z.1∈l:=fun z hz=>by
   have:z∈l.zip l:=by simpa[pairsOf] using hz
   exact(ef this).1
  obtain⟨b,k,⟨a,o,t,t',n,e0,U,e2,N⟩,Z,k0,k1⟩:=C _ (mem p mp);obtain⟨x,y,⟨a',o',u,G,n',f0,f1,f2,I⟩,Y,k0',S⟩:=C _ (mem q R);rw[Z,Y]at h;rw[e0,f0];refine zh3 U N f1 I (kB b t x u) (kB k t' y G) (fun _=>zmZ b x t u) (fun _=>zo9 k y t' G) ?_
  have:(if (b == x)=true then(if (k == y)=true then false else decide (k<y)) else decide (b<x))=decide (b*1000+k<x*1000+y):=by
   simp only[beq_iff_eq];split
   ·split
    ·symm;rw[decide_eq_false_iff_not];omega
    ·rw[decide_eq_decide];omega
   ·rw[decide_eq_decide];omega
  rw[this];exact h
end
theorem Wa{α u:Type}{l:List (α×u)}{m:List u}(h:m.Perm (l.map (·.2))):∃o:List (α×u),o.Perm l/\o.map (·.2)=m:=by
 induction m generalizing l with
 | nil =>
  have:l.map (·.2)=[]:=h.symm.eq_nil;cases l with
  | nil=>exact⟨[],.refl _,rfl⟩
  | cons a b=>simp at this
 | cons x m C =>
  have hx:x∈l.map (·.2):=h.mem_iff.mp (.head _);obtain⟨z,G,rfl⟩:=aS.mp hx;obtain⟨v,l2,rfl⟩:=List.append_of_mem G;have y:(z.2::m).Perm (z.2::(v++l2).map (·.2)):=by
   refine h.trans ?_;simp only[eh,aV];exact oX
  obtain⟨o,p,e⟩:=C (List.perm_cons _|>.mp y)
  exact⟨z::o,(p.cons z).trans oX.symm,by simp[e]⟩
theorem zk5{h:bq}{v:List ah}{b:au}{o:Obj}(u:h.get? b=some o):(midH (preH h v) (h.objs.size+1) v).get? b=some o:=by
 have l:b<h.objs.size:=aD u;unfold midH preH;rw[cH _ _ _ (by rw[eV,cO,eV,cO,eV];exact aK (aL l (by lia))),cH _ _ _ (by rw[cO,eV,cO,eV];exact aK (aL l (by lia))),
  gS _ _ _ _ (by exact aK (aL l (by lia))),cH _ _ _ (by rw[cO,eV];exact aK (aL l (by lia))),gS _ _ _ _ (by exact aK (aL l (by lia))),cH _ _ _ (by exact aK (aL l (by lia)))]
 exact u
def rkD:ae->Int
 | .tuple [.int b,.int k]=>b*1000+k
 | _=>0
def PrV(K:qF)(H:Hp)(z:V×ae):Prop:=∃q b k,z.1=.ref q/\z.2=.tuple [.int b,.int k]/\SqT K H q [.int b,.int k]/\0<=k/\k<1000
section
variable{X:Cx}
theorem ziF:J1 X (.builtin "sorted") (fun xs H Q=>∃(p:au) (zs:List (V×ae)),xs=[.ref p]/\(SqL X.K H p (zs.map (·.1))\/SqT X.K H p (zs.map (·.1)))/\zs.length<100000/\(∀z∈zs,PrV X.K H z) /\
  ∀G:List (V×ae),G.Perm zs->G.Pairwise (fun a b=>rkD a.2<=rkD b.2)->∀l,H l=none->Q (.ref l) (upd H l (.lst (G.map (·.1))))):=by
 intro ad s σ H xs us Q I r h;obtain⟨p,zs,rfl,R,h64,hp,q⟩:=h;obtain⟨u,rfl,rx⟩:=vals1 r;cases rx;have key:∀(its:List ah) (o:Obj) (T:String) (n:Nat),Vals (zs.map (·.1)) its->s.heap.get? p=some o->o.cls=.type T->(T = "list" \/ T = "tuple")->o.data=.seq its.toArray n -> 
   wpAny (model X.prog X.w) X.A (call (.builtin "sorted") [.ref p]) (EP X ad σ Q) X.xe s:=fun its o T n rv U hc hT hd=>by
  have hlen:zs.length=its.length:=by simpa using rv.length
  have each:∀x∈zs.zip its,RelV x.1.1 x.2/\∃b k,PrIn s.heap x.2 b k/\x.1.2=.tuple [.int b,.int k]/\0<=k/\k<1000:=by
   have rel:∀(zs:List (V×ae)) (its:List ah),Vals (zs.map (·.1)) its->∀x∈zs.zip its,RelV x.1.1 x.2:=by
    intro zs;induction zs with
    | nil=>intro its _ x hx;simp at hx
    | cons z zs ih =>
     intro its r x hx;cases r with
     | cons Y r2 =>
      rcases az.mp (by simpa using hx) with rfl|hx
      ·exact Y
      ·exact ih _ r2 x hx
   intro x hx;have Y:=rel zs its rv x hx;obtain⟨q',b,k,e1,e2,e3,k0,k1⟩:=hp x.1 (ef hx).1;refine⟨Y,b,k,?_,e2,k0,k1⟩;rw[e1]at Y;obtain⟨is,rs,⟨o',f1,f2,n',f3⟩,_⟩:=I.tuple e3;cases rs with
   | cons a1 a2 =>
    cases a2 with
    | cons a3 a4 =>
     cases a4;obtain⟨t,rfl⟩:=a1;obtain⟨t',rfl⟩:=a3;exact⟨q',o',t,t',n',Y,f1,f2,f3⟩
  refine zkP (rk:=rkC s.heap) U hc hT hd (by lia) (fun A'=>zjj fun v hv=>?_) fun y pm up=>?_
  ·obtain⟨i,hi,rfl⟩:=bg hv;have hz:i<zs.length:=by lia
   have mem:(zs[i],its[i])∈zs.zip its:=by
    have:(zs.zip its)[i]'(by simp;lia)=(zs[i],its[i]):=by simp
    rw[<- this];exact c9 _
   obtain⟨_,b,k,Z,_,k0,k1⟩:=each _ mem;exact⟨b,k,Z.kept fun _ _ e=>zk5 e,Z.rk,k0,k1⟩
  ·have J:(arrOf y).toList.Perm (its.zip its):=by
    have:=cW.mp pm;simpa[pairsOf] using this
   have pm1:((arrOf y).toList.map (·.2)).Perm ((zs.zip its).map (·.2)):=by
    refine(J.map _).trans ?_;rw[fc (by lia),fc (by lia)]
   obtain⟨C,p1,p2⟩:=Wa pm1;have Iy:∀x∈C,RelV x.1.1 x.2/\∃b k,PrIn s.heap x.2 b k/\x.1.2=.tuple [.int b,.int k]/\0<=k/\k<1000:=fun x hx=>each x (p1.mem_iff.mp hx)
   have pz:(C.map (·.1)).Perm zs:=by
    have:=p1.map (·.1)
    rwa [gK (by lia)]at this
   have rw':Vals ((C.map (·.1)).map (·.1)) (C.map (·.2)):=by
    have:∀C:List ((V×ae)×ah),(∀x∈C,RelV x.1.1 x.2)->Vals ((C.map (·.1)).map (·.1)) (C.map (·.2)):=by
     intro C;induction C with
     | nil=>intro _;exact .nil
     | cons a l ih=>intro h;exact .cons (h a (.head _)) (ih fun x hx=>h x (.tail _ hx))
    exact this C fun x hx=>(Iy x hx).1
   have S:∀x∈C,rkC s.heap x.2=rkD x.1.2:=fun x hx=>by
    obtain⟨_,b,k,Z,h2,_⟩:=Iy x hx;rw[Z.rk,h2];rfl
   have ID:∀z∈(arrOf y).toList,z.1=z.2:=fun z hz=>by
    have:z∈its.zip its:=J.mem_iff.mp hz;obtain⟨i,hi,rfl⟩:=bg this;simp
   have szy:(arrOf y).size=its.length:=by
    have:=J.length_eq;simpa using this
   have pw:(C.map (·.1)).Pairwise (fun a b=>rkD a.2<=rkD b.2):=by
    rw[eP,aT];intro i j hi hj hij;have lw:C.length=its.length:=by
     have:=congrArg eJ p2;simpa[szy] using this
    have gw:∀k (hk:k<C.length),rkAt (rkC s.heap) (arrOf y) k=rkD C[k].1.2:=fun k hk=>by
     have N:k<(arrOf y).size:=by lia
     have e1:(arrOf y).toList[k]'(by simpa using N)=(arrOf y)[k]:=by simp
     have e2:C[k].2=(arrOf y)[k].2:=by
      have:(C.map (·.2))[k]'(by simpa using hk)=((arrOf y).toList.map (·.2))[k]'(by simpa using N):=by simp only[p2]
      simpa using this
     have e3:(arrOf y)[k].1=(arrOf y)[k].2:=ID _ (by rw[<- e1];exact c9 _)
     unfold rkAt;rw[bH N];simp only[fx,c8];rw[e3,<- e2];exact S _ (c9 _)
    have:=up i j hij (by lia)
    rwa [gw i hi,gw j hj]at this
   have ev:(arrOf y).map (·.2)=(C.map (·.2)).toArray:=by
    apply oY.mp;rw[oZ,p2]
   rw[ev];obtain⟨e,he⟩:=sortedAll_at s.heap its (C.map (·.2)).toArray;refine⟨.ref (s.heap.objs.size+1),_,I.laid (a:=s.heap.objs.size+1) (o:=.lst ((C.map (·.1)).map (·.1))) (t':=s.toks) (fun _ _=>sortedAll_old) (fS _) ?_,rfl,q _ pz pw _ (I.hok.fresh (fS _))⟩
   refine⟨?_,C.map (·.2),e,rw',he⟩;have:100000<=sizeLine:=by decide
   have:=pz.length_eq;simp at this ⊢;lia
 rcases R with R|R
 ·obtain⟨its,r',pl,hz⟩:=I.list R;obtain⟨o,U,hc,n,hd⟩:=pl.isList;exact key its o "list" n r' U hc (.inl rfl) hd
 ·obtain⟨its,r',pl,hz⟩:=I.tuple R;obtain⟨o,U,hc,n,hd⟩:=pl;exact key its o "tuple" n r' U hc (.inr rfl) hd
end
def IsPr(t:ae):Prop:=∃b k:Int,t=.tuple [.int b,.int k]/\0<=k/\k<1000
def Zy(t:ae)(R:List ae->Prop):Prop:=J4 t fun ts=>ts.length<100000/\(∀x∈ts,IsPr x)/\∀l:List ae,l.Perm ts->l.Pairwise (fun a b=>rkD a<=rkD b)->R l
def zrL(d:DTE):DTA:=fun o n R=>d o n fun t l=>Zy t fun ts=>R ts l
section
variable{X:Cx}{e:aZ}{d:DTE}{pos p:Pos}{k:Nat}
theorem zis(hr:Room k X.A)(hm:X.mg "sorted" = none) (h:DL X e d) (hs:starEach [e] X.env=[(false,eval e X.env)]) (hg:Gl X "sorted":=by rfl):DN X (.Call (.Name "sorted" p) [e] [] pos) (zrL d):=by
 obtain⟨ta,pa,h⟩:=h;refine⟨_,Zu ziF hm boot_sorted (QF pa Ul hs) hg,fun C Z σ H n Q R S hd hq=>?_⟩
 refine h C Z σ H n _ _ S hd fun t n1 v G r1 e1 Y q1=>?_
 have S1:=S.on e1 Y;have fin:∀p u ts,Reps X.K C.hd (Own C Z σ) G u ts->R ts n1->G p=none->Q (.ref p) (upd G p (.lst u)):=fun p u ts rp rr U=>by
  have hp0:H p=none:=by
   cases z:H p with
   | none=>rfl
   | some o =>
    by_cases y:C.hd=some p
    ·obtain⟨d,m,t,q,_⟩:=Y p y;rw[U]at q;cases q
    ·rw[e1 p o z y]at U;cases U
  refine hq ts n1 p u _ rr (e1.trans (ExtE.new U)) (Y.same (JY U)) hp0 J3 ?_;refine rp.mono (fun b o hb z=>z.elim id fun z=>?_) fun b o _ hb=>JY U b o hb
  subst z;rw[U]at hb;cases hb
 have go:∀(p:au) u ts,(SqL X.K G p u\/SqT X.K G p u)->Reps X.K C.hd (Own C Z σ) G u ts->(ts.length<100000/\(∀x∈ts,IsPr x)/\∀L:List ae,L.Perm ts->L.Pairwise (fun a b=>rkD a<=rkD b)->R L n1) ->
   ∃(p':au) (zs:List (V×ae)),[V.ref p]=[V.ref p']/\(SqL X.K G p' (zs.map (·.1))\/SqT X.K G p' (zs.map (·.1)))/\zs.length<100000/\(∀z∈zs,PrV X.K G z) /\
  ∀I:List (V×ae),I.Perm zs->I.Pairwise (fun a b=>rkD a.2<=rkD b.2)->∀l,G l=none->Q (.ref l) (upd G l (.lst (I.map (·.1)))):=fun p u ts hs rp h=>by
  have ln:=rp.length;have rel:∀z∈u.zip ts,Rep X.K C.hd (Own C Z σ) G z.1 z.2:=fun z hz=>by
   obtain⟨i,hi,rfl⟩:=bg hz;have hi2:i<ts.length:=by simp at hi;lia
   obtain⟨v,Y,h2⟩:=rp.get (ak hi2);have hi1:i<u.length:=by lia
   rw[ak hi1]at Y;cases Y;simpa using h2
  refine⟨p,u.zip ts,rfl,?_,by simp;lia,fun z hz=>?_,fun I pm pw l hl=>?_⟩
  ·rw[gK (by lia)];exact hs
  ·obtain⟨b,k,e,k0,k1⟩:=h.2.1 z.2 (ef hz).2;have r:=rel z hz;rw[e]at r;obtain⟨a,ws,e1,e2,e3⟩:=r.tupI;cases e3 with
   | cons x1 x2 =>
    cases x2 with
    | cons x3 x4 =>
     cases x4;rw[x1.intI,x3.intI]at e2;exact⟨a,b,k,e1,e,e2,k0,k1⟩
  ·refine fin l _ (I.map (·.2)) ?_ (h.2.2 _ ?_ ?_) hl
   ·have:∀zs:List (V×ae),(∀z∈zs,Rep X.K C.hd (Own C Z σ) G z.1 z.2)->Reps X.K C.hd (Own C Z σ) G (zs.map (·.1)) (zs.map (·.2)):=by
     intro zs;induction zs with
     | nil=>intro _;exact .nil
     | cons a l ih=>intro h;exact .cons (h a (.head _)) (ih fun x hx=>h x (.tail _ hx))
    exact this I fun z hz=>rel z (pm.mem_iff.mp hz)
   ·have:=pm.map (·.2)
    rwa [fc (by lia)]at this
   ·rw[eP];exact pw
 cases t with
 | list ts =>
  obtain⟨p,u,rfl,J,h2⟩:=q1.lstI;exact go p u ts (.inl (.of J)) h2 r1
 | tuple ts =>
  obtain⟨p,u,rfl,J,h2⟩:=q1.tupI;exact go p u ts (.inr J) h2 r1
 | _=>exact r1.elim
end
abbrev prD(b:Int×Int):ae:=.tuple [.int b.1,.int b.2]
def pD(bs:qB):List ae:=bs.map prD
theorem JI{bs:qB}:(pD bs).length=bs.length:=by simp[pD]
theorem VV{bs cs:qB}:pD bs++pD cs=pD (bs++cs):=by simp[pD]
theorem Y1{i h:Int}{bs:qB}:pD bs++[.tuple [.int i,.int h]]=pD (bs++[(i,h)]):=by simp[pD]
theorem ZW{bs:qB}{k:Nat}{t:ae}(h:(pD bs)[k]?=some t):∃i g:Int,bs[k]?=some (i,g)/\t=.tuple [.int i,.int g]:=by
 unfold pD at h;rw[bp]at h;cases e:bs[k]? with
 | none=>rw[e]at h;cases h
 | some b=>rw[e]at h;cases h;exact⟨b.1,b.2,rfl,rfl⟩
def eB(b:Int×Int):Int:=b.1+2 ^ b.2.toNat
def Bks(bits:Int)(bs:qB):Prop:=∀b∈bs,IsBk bits b.1 b.2
def Ptc(bits:Int)(bs:qB):Prop:=Bks bits bs/\bs.Pairwise fun a b=>eB a<=b.1
theorem Ug(b:Int×Int):b.1<eB b:=by have:=Bd.Qw b.2.toNat;unfold eB;lia
theorem Ptc.ends{bits:Int}{bs:qB}(P:Ptc bits bs):bs.Pairwise fun a b=>eB a<=eB b:=P.2.imp fun {a b} h=>by have:=Ug b;lia
theorem ztg{bs:qB}:Okd (.list (pD bs)):=by
 have:∀bs:List (Int×Int),bU (pD bs)=true/\cZ (pD bs)<=1:=by
  intro bs;induction bs with
  | nil=>exact⟨by simp[pD,bU],by simp[pD,cZ]⟩
  | cons b l o =>
   refine⟨?_,?_⟩
   ·have:=o.1;simp only[pD,aV,bU,cE,tw,gY]at this ⊢;exact this
   ·have:=o.2;simp only[pD,aV,cZ,e9]at this ⊢;lia
 exact⟨by simp only[cE];exact(this bs).1,by simp only[e9];have:=(this bs).2;lia⟩
theorem zi2:Okd (.list []):=⟨by simp[cE,bU],by simp[e9,cZ]⟩
theorem zrl{d:DTE}{l:En}{n:Nat}{Rl:List ae->Nat->Prop}(h:d l n fun t o=>Zy t fun ts=>Rl ts o):zrL d l n Rl:=h
theorem ztB{bits:Int}{bs:qB}{Rl:List ae->Prop}(v:bits<=64)(B:Bks bits bs)(I:bs.Pairwise fun a b=>eB a<=b.1\/eB b<=a.1)(L:bs.length<100000)
  (h:∀cs,Ptc bits cs->cs.Perm bs->Rl (pD cs)):Zy (.list (pD bs)) Rl:=by
 refine⟨by rw[JI];exact L,fun x hx=>?_,fun o pm pw=>?_⟩
 ·obtain⟨b,C,rfl⟩:=aS.mp hx;have:=B b C;exact⟨b.1,b.2,rfl,this.1,by have:=this.2.1;lia⟩
 ·have G:o.Perm ((bs.map fun b=>(b,prD b)).map (·.2)):=by
   have:(bs.map fun b=>(b,prD b)).map (·.2)=pD bs:=by simp[pD]
   rw[this];exact pm
  obtain⟨zs,S,p2⟩:=Wa G;have U:∀z∈zs,z.2=prD z.1:=fun z J=>by
   obtain⟨b,_,rfl⟩:=aS.mp (S.mem_iff.mp J)
   rfl
  have e:o=pD (zs.map (·.1)):=by
   rw[<- p2];unfold pD;rw[bT];exact gR fun z J=>U z J
  have pc:(zs.map (·.1)).Perm bs:=by
   have:=S.map (·.1);rw[bT]at this;have Y:bs.map ((fun x:(Int×Int)×ae=>x.1)∘fun b=>(b,prD b))=bs:=by
    show bs.map id=bs
    exact vK _
   rwa [Y]at this
  rw[e];have y:(zs.map (·.1)).Pairwise fun a b=>eB a<=b.1\/eB b<=a.1:=(pc.pairwise_iff (fun {a b} h=>h.symm)).mpr I
  have u:Bks bits (zs.map (·.1)):=fun b v=>B b (pc.mem_iff.mp v)
  rw[e]at pw;unfold pD at pw;rw[eP]at pw;refine h _ ⟨u,?_⟩ pc;have both:=xT y pw;refine gZ ?_ both;rintro a b R v ⟨h1,N⟩;have N:a.1*1000+a.2<=b.1*1000+b.2:=N;have Z:=(u a R).1;have a1:=(u a R).2.1;have b0:=(u b v).1;have b1:=(u b v).2.1;have:=Ug a;have:=Ug b;lia
theorem zuP{tg:DTG}{tt:DTT}{d:DTE}{ρ0:En}{Rl:List ae->Nat->Prop}(Inv:Nat->List ae->Nat->Prop):∀(xs:qD) (i:Nat) {acc:qD}{n:Nat},Inv i acc n ->
  (∀(k:Nat) (x:ae) (acc:qD) (n:Nat) (K:List ae->Nat->Prop),xs[k]?=some x->Inv (i+k) acc n->(∀o v,Inv (i+k+1) o v->K o v) ->
   tg x ρ0 fun y=>tt y n fun b C=>if b=true then d y C fun t I=>acc.length<16777216/\K (acc++[t]) I else K acc C) ->
  (∀acc n,Inv (i+xs.length) acc n->Rl acc n)->JS tg tt d ρ0 xs acc n Rl
 | [],i,acc,n,h0,_,fin=>fin acc n (by simpa using h0)
 | x::xs,i,acc,n,h0,turn,fin=>by
  refine turn 0 x acc n (fun acc n=>JS tg tt d ρ0 xs acc n Rl) rfl (by simpa using h0) fun o v h'=>?_
  refine zuP Inv xs (i+1) (by simpa using h') (fun k u acc n K e G J=>?_) (fun acc n h=>fin acc n ?_)
  ·refine turn (k+1) u acc n K (by simpa using e) ?_ fun o v h'=>J o v ?_
   ·have:i+(k+1)=i+1+k:=by lia
    rw[this];exact G
   ·have:i+1+k+1=i+(k+1)+1:=by lia
    rw[this];exact h'
  ·have:i+(x::xs).length=i+1+xs.length:=by simp;lia
   rw[this]at *;exact h
theorem znQ{tg:DTG}{tt:DTT}{d:DTE}{ρ0:En}{Rl:List ae->Nat->Prop}{xs:qD}{n:Nat}(Inv:Nat->List ae->Nat->Prop)(h0:Inv 0 [] n)
  (turn:∀(k:Nat) (x:ae) (acc:qD) (n:Nat) (K:List ae->Nat->Prop),xs[k]?=some x->Inv k acc n->(∀l u,Inv (k+1) l u->K l u) ->
   tg x ρ0 fun o=>tt o n fun b v=>if b=true then d o v fun t C=>acc.length<16777216/\K (acc++[t]) C else K acc v)
  (fin:∀acc n,Inv xs.length acc n->Rl acc n):JS tg tt d ρ0 xs [] n Rl :=
 zuP Inv xs 0 h0 (fun k x acc n K e y G=>turn k x acc n K e (by simpa using y) fun a m h=>G a m (by simpa using h)) fun acc n h=>fin acc n (by simpa using h)
theorem QH{α:Type}{cs:List α}{D:α->ae}{tg:DTG}{tt:DTT}{d:DTE}{ρ0:En}{n:Nat}{Rl:List ae->Nat->Prop}(F:α->ae)(C:cs.length<=16777216)
  (step:∀b∈cs,∀(K:qN) (X:Nat->Prop),K (F b) n->tg (D b) ρ0 fun o=>tt o n fun c u=>if c=true then d o u K else X u) (fin:Rl (cs.map F) n):JS tg tt d ρ0 (cs.map D) [] n Rl:=by
 refine znQ (fun j acc m=>m=n/\acc=(cs.take j).map F) ⟨rfl,rfl⟩ ?_ ?_
 ·rintro j x acc m K l ⟨rfl,rfl⟩ hK;rw[bp]at l;cases eb:cs[j]? with
  | none=>rw[eb]at l;cases l
  | some b =>
   rw[eb]at l;cases l;obtain⟨v,y⟩:=av.mp eb;refine step b (aH eb) _ _ ⟨?_,hK _ _ ⟨rfl,?_⟩⟩
   ·simp;lia
   ·rw[dF,eb];simp
 ·rintro acc m ⟨rfl,rfl⟩;rw[aM,fe];exact fin
theorem zw7{bs:List Bool}{R:ae->Prop}(h:R (.bool (bs.all id))):bAll [.list (bs.map dO)] R:=⟨bs,rfl,h⟩
theorem YN{α:Type}{cs:List α}{f:α->Bool}{R:ae->Prop}(h:R (.bool (cs.all f))):bAll [.list (cs.map fun b=>dO (f b))] R:=by
 have e:(cs.map fun b=>dO (f b))=(cs.map f).map dO:=by simp
 rw[e];refine zw7 ?_;have u:(cs.map f).all id=cs.all f:=by simp[List.all_map,ig]
 rw[u];exact h
theorem zwO{xs:qD}{k:Nat}{x:ae}{R:ae->Prop}(e:xs[k]?=some x)(h:R x):oIx (.tuple xs) (.int (k:Int)) R:=by
 have o:k<xs.length:=by
  rcases cz k xs.length with z|z
  ·exact z
  ·rw[cP z]at e;cases e
 rw[U0 (x:=x)]
 ·exact h
 ·unfold atI ixN;have:((0:Int)<=(k:Int)):=by lia
  have:((k:Int)<(xs.length:Int)):=by lia
  have v:xs[k]=x:=by rw[ak o]at e;exact ba e
  simp[o,v]
theorem zra{xs:qD}{i:Int}{k:Nat}{x:ae}{R:ae->Prop}(hi:i=(k:Int))(e:xs[k]?=some x)(h:R x):oIx (.tuple xs) (.int i) R:=by subst hi;exact zwO e h
theorem Zw{bs:qB}{k:Nat}{b:Int×Int}(h:bs[k]?=some b):(pD bs)[k]?=some (.tuple [.int b.1,.int b.2]):=by
 unfold pD;rw[bp,h];rfl
theorem zrD{bs:qB}:eD (.list (pD bs)) (.list [])=bs.isEmpty:=by
 cases bs with
 | nil=>simp[pD,eD,nM]
 | cons b l=>simp[pD,eD,nM]
theorem QV{many:Int}{n:Nat}{R:qN}(h0:0<many)(l:many<2 ^ 128)(o:n<=1000000000000)(h:∀r:Int,0<=r->r<many->R (.int r) (n+1)):U7 [HAND,.int many] n R:=⟨rfl,h0,l,o,h⟩
theorem zk4{i h:Int}:J9 (.tuple [.int i,.int h])=true:=by simp[J9,ZV]
theorem Bks.app{bits i h:Int}{bs:qB}(B:Bks bits bs)(C:IsBk bits i h):Bks bits (bs++[(i,h)]):=fun b l=>by
 rcases ax.mp l with z|z
 ·exact B b z
 ·cases aA.mp z;exact C
section
variable{prog:aQ}{w:bz}{A:br}{E:qV}{s:aw}
open HT in
theorem zdo{t v:au}{items:Array ah}{G I:ah}{lo hi:Option Int}{Q:qV}(u:nH s.heap t items)(J:s.heap.IsSliceOf v G I .none)(pl:kD G lo)(N:kD I hi)
  (hw:HT.sIx items.size 0 lo=0/\HT.sIx items.size items.size hi=items.size) (h:Q (.ref t) s):wpAny (model prog w) A (getItem (.ref t) (.ref v)) Q E s:=by
 obtain⟨os,x,y,L⟩:=id J;have C:s.TypeIs (.ref v) "slice":=⟨os,x,y⟩;unfold getItem
 try with_reducible refine cf ?_
 first|refine aa (aj ?_)|skip
 refine aa (kX u.typeIs (by decide) ?_)
 refine aa (dM (name:=af "__getitem__") u.typeIs bu
  (eC bu u.typeIs iX ?_ (kF _ _)))
 show wpAny _ _ (gD (.ref t) >>= _) _ _ s
 refine aa (nJ u ?_);refine aa (eG C ?_);rw[if_pos (by decide)]
 refine aa (HT.zcy J pl N ?_);have l:(((HT.sIx items.size 0 lo:Nat):Int) == 0&&(1:Int) == 1&&(HT.sIx items.size items.size hi - HT.sIx items.size 0 lo) == items.size)=true:=by
  rw[hw.1,hw.2];simp
 show wpAny _ _ (if (((HT.sIx items.size 0 lo:Nat):Int) == 0&&(1:Int) == 1&&(HT.sIx items.size items.size hi - HT.sIx items.size 0 lo) == items.size)=true then _ else _) _ _ s
 rw[if_pos l];unfold rM;refine aa (aa (eG u.typeIs (aj ?_)));rw[if_pos (by decide)]
 exact aa (dw (aj ⟨_,rfl,aj h⟩))
end
section
variable{X:Cx}
def rSlW(K:qF):V->Option Int->Option Int->Hp->VK->Prop:=fun x lo hi H Q=>∃a xs,x=.ref a/\SqT K H a xs/\(HT.sIx xs.length 0 lo=0/\HT.sIx xs.length xs.length hi=xs.length)/\Q (.ref a) H
theorem zqp:SlR X (rSlW X.K):=by
 intro ad s σ H x v J L lo hi G Q I u y pl C h;obtain⟨a,xs,rfl,hx,hw,q⟩:=h;cases u;obtain⟨its,r,o,N⟩:=I.tuple hx;have l:its.toArray.size=xs.length:=by rw[aB];exact r.length.symm
 refine⟨"tuple",_,bu.lookup,o.typeIs,?_⟩;exact zdo o y pl C (by rw[l];exact hw) ⟨.ref a,H,I,rfl,q⟩
end
abbrev DTO:=En->Nat->(Option Int->Nat->Prop)->Prop
def DP(X:Cx)(e:Option aZ)(d:DTO):Prop:=∃t,PO X e t/\∀(C:Ctx) (u:En) (σ:St) (H:Hp) (n:Nat) (Q:Option Int->Hp->Prop) (R:Option Int->Nat->Prop),Stt X.K C u σ H n->d u n R ->
 (∀o l H',R o l->ExtE C.hd H H'->Hn C.hd H' l->Q o H')->t σ H Q
def zjx:DTO:=fun l n R=>R none n
def zrM(d:DTE):DTO:=fun o n R=>d o n fun t l=>lInt t fun i=>R (some i) l
def cutD(ts:qD)(lo hi:Option Int):List ae:=(ts.drop (HT.sIx ts.length 0 lo)).take (HT.sIx ts.length ts.length hi - HT.sIx ts.length 0 lo)
def lSl(t:ae)(lo hi:Option Int)(R:List ae->Prop):Prop:=match t with
 | .list ts=>R (cutD ts lo hi)
 | _=>False
def dSlL(d:DTE)(dl o:DTO):DTA:=fun l n R=>d l n fun t v=>dl l v fun lo x=>o l x fun hi u=>lSl t lo hi fun z=>R z u
section
variable{X:Cx}{e:aZ}{d:DTE}{lo hi:Option aZ}{dlo dhi:DTO}{pos p2:Pos}
theorem Qy:DP X none zjx:=⟨_,zqE,fun C o σ H n Q R S h l=>l none n H h ExtE.refl S.hnd⟩
theorem Qs(h:DE X e d):DP X (some e) (zrM d):=by
 obtain⟨L,pa,h⟩:=h;refine⟨_,zqD pa,fun C x σ H n Q R S hd y=>?_⟩
 refine h C x σ H n _ _ S hd fun t o v G l u J I=>?_
 cases t with
 | int i =>
  cases I;exact⟨i,rfl,y (some i) o G l u J⟩
 | _=>exact l.elim
theorem zkA{K:qF}{hd:Option au}{O:au->Prop}{H:Hp}{vs ts}(r:Reps K hd O H vs ts)(lo hi:Option Int):Reps K hd O H (cutV vs lo hi) (cutD ts lo hi):=by
 unfold cutV cutD;rw[r.length];exact(r.drop _).take _
theorem zly{ts:qD}{lo hi:Option Int}(h:HT.sIx ts.length 0 lo=0/\HT.sIx ts.length ts.length hi=ts.length):cutD ts lo hi=ts:=by
 unfold cutD;rw[h.1,h.2];simp
theorem zpu(h:DL X e d)(U:DP X lo dlo)(N:DP X hi dhi):DN X (.Subscript e (.Slice lo hi none p2) pos) (dSlL d dlo dhi):=by
 obtain⟨ta,pa,h⟩:=h;obtain⟨tl,pl,U⟩:=U;obtain⟨tu,pu,N⟩:=N;refine⟨_,zjZ zqq pa pl pu,fun C J σ H n Q R S hd hq=>?_⟩
 refine h C J σ H n _ _ S hd fun t n1 v H1 r1 e1 h1 q1=>?_
 have S1:=S.on e1 h1;refine U C J σ H1 n1 _ _ S1 r1 fun lo n2 H2 r2 L h2=>?_
 have Y:=S1.on L h2;refine N C J σ H2 n2 _ _ Y r2 fun hi n3 H3 Z G I=>?_
 have S3:=Y.on G I;have q3:=(L.trans G).repT S.hx q1;cases t with
 | list ts =>
  obtain⟨a,vs,rfl,hs,rs⟩:=q3.lstI;refine⟨a,vs,rfl,.of hs,fun p x=>?_⟩
  have e:=e1.trans (L.trans G);refine hq _ n3 p _ _ Z (e.trans (ExtE.new x)) (I.same (JY x)) (Z2 e I x) J3 ?_;refine(zkA rs lo hi).mono (fun b o y z=>z.elim id fun z=>?_) fun b o _ y=>JY x b o y
  subst z;rw[x]at y;cases y
 | _=>exact Z.elim
end
section
variable{X:Cx}
theorem znV(hc:X.calm=true):J1 X (.builtin "sum") (fun xs H Q=>∃(a:au) (ns:List Int),xs=[.ref a]/\SqL X.K H a (ns.map V.int)/\Q (.int ns.sum) H):=by
 intro ad s σ H xs J Q I r h;obtain⟨a,ns,rfl,C,q⟩:=h;obtain⟨u,rfl,x⟩:=vals1 r;cases x;obtain⟨its,G,p,L⟩:=I.list C;have hi:=intsAre_of G;have v:s.heap.IsList a its.toArray:=p.isList;obtain⟨xs,hx⟩:=hi.allInts.items;have o:numsOf its.toArray.toList=ns:=by rw[show its.toArray.toList=its from rfl,hi.numsOf]
 rw[hx]at v o;rw[nums_intItems]at o;refine sum_intListG (I.ok.hd hc) v fun h' tk t' y=>?_
 rw[preSum_eq,cu (by simp),o]
 exact⟨.int ns.sum,H,I.kept y,⟨_,rfl⟩,q⟩
def bSum:GC
 | [.list ts],R=>∃ns:List Int,ts=ns.map bN/\R (.int ns.sum)
 | _,_=>False
theorem zuq:GpC X (fun xs H Q=>∃(a:au) (ns:List Int),xs=[.ref a]/\SqL X.K H a (ns.map V.int)/\Q (.int ns.sum) H) bSum:=by
 intro hd O H xs ts Q R dom rs h x;unfold bSum at h;split at h
 ·obtain⟨ns,rfl,h⟩:=h;obtain⟨v,rfl,y⟩:=QK rs;obtain⟨p,C,rfl,l,u⟩:=y.lstI;rw[Wj u]at l;exact⟨p,ns,rfl,.of l,x _ _ H h (Same.refl H) (.int _)⟩
 ·exact h.elim
end
structure NxS(prog:aQ)(w:bz)(i a:au)(IT:Nat->bq->Prop)(SQ:bq->Array ah->Prop):Prop where
 rcd:∀k h,IT k h->∃o,h.get? i=some o/\∀v,o.data≠.cell v
 keep:∀k h h',IT k h->(∀o,h.get? i=some o->h'.get? i=some o)->IT k h'
 sk:∀h h' xs,SQ h xs->(∀o,h.get? a=some o->h'.get? a=some o)->SQ h' xs
 item:∀(A:br) (E:qV) (k:Nat) (xs:Array ah) (x:ah) (s:aw) (Q:qV),IT k s.heap->SQ s.heap xs->xs[k]?=some x ->
  (∀h',IT (k+1) h'->eZ i s.heap h'->Q x { s with heap:=h' })->wpAny (model prog w) A (bK (.ref i)) Q E s
 done:∀(A:br) (E:qV) (k:Nat) (xs:Array ah) (s:aw) (Q:qV),A.handled=none->IT k s.heap->SQ s.heap xs->xs[k]?=none ->
  (∀h' e,vL i s.heap h'->(∃o,h'.get? e=some o/\o.cls=.type "StopIteration")->E (.ref e) { s with heap:=h' })->wpAny (model prog w) A (bK (.ref i)) Q E s
theorem zqW{prog:aQ}{w:bz}{i a:au}:NxS prog w i a (fun k h=>h.IsListIter i a k) (fun h xs=>h.IsList a xs) where
 rcd:=fun k h ⟨o,e,c,d⟩=>⟨o,e,fun v z=>by rw[d]at z;cases z⟩
 keep:=fun k h h' x f=>x.at f
 sk:=fun h h' xs x f=>x.at f
 item:=fun A E k xs x s Q y l u h=>wpAny_nextOf_list_item y l u h
 done:=fun A E k xs s Q C y l u h=>wpAny_nextOf_list_end C y l u h
section
variable{prog:aQ}{w:bz}{A:br}{E:qV}{s:aw}
theorem zhX{i:au}{T id:String}{Q:qV}{f:gm}(u:s.TypeIs (.ref i) T)(l:Slot T "__next__" id) (y:entryFor table id=some f) (x:argsOk id ⟨[.ref i],[]⟩)
  (h:wpAny (model prog w) A.in1 (f ⟨[.ref i],[]⟩) (fun fin s'=>∃v,fin=.done (.ret v)/\Q v s') E s):wpAny (model prog w) A (bK (.ref i)) Q E s:=by
 unfold bK;refine aa (dM (name:=af "__next__") u l (eC l u y ?_ x));refine eu h (fun fin s' C=>?_) fun _ _ e=>e
 obtain⟨v,e,q⟩:=C;exact⟨v,e,aj q⟩
theorem zhr{i a:au}{k:Nat}{xs:Array ah}{x:ah}{Q:qV}(v:s.heap.IsTupleIter i a k)(C:s.heap.IsTuple a xs)(G:xs[k]?=some x)
  (h:∀h',h'.IsTupleIter i a (k+1)->eZ i s.heap h'->Q x { s with heap:=h' }):wpAny (model prog w) A (bK (.ref i)) Q E s:=by
 refine zhX v.typeIs kM i7 (iV _) ?_;obtain⟨o,u,I,l⟩:=v;obtain⟨p,f1,_,n,y⟩:=C;refine aa (m:=field (.ref i) 0) (cI u l (x:=.ref a) rfl ?_);have ne:¬((bP a == ke)=true):=fun z=>by cases z
 rw[if_neg ne];refine aa (m:=field (.ref i) 1) (cI u l (x:=.int k 0) rfl ?_);refine aa (m:=seqItems? (.ref a)) (cX f1 y ?_);simp only[gn,G];refine aa (rN u l (by simp) (aj ⟨x,rfl,h _ ?_ (nF ..)⟩))
 refine⟨_,f9 _ u (Obj.isFreed_of_fields (nY l _)),?_,?_⟩
 ·rw[Obj.cls_mapFields];exact I
 ·rw[nY l];simp[rawInt]
theorem zhs{i a:au}{k:Nat}{xs:Array ah}{Q:qV}(G:A.handled=none)(I:s.heap.IsTupleIter i a k)(L:s.heap.IsTuple a xs)(N:xs[k]?=none)
  (h:∀h' e,vL i s.heap h'->(∃o,h'.get? e=some o/\o.cls=.type "StopIteration")->E (.ref e) { s with heap:=h' }):wpAny (model prog w) A (bK (.ref i)) Q E s:=by
 refine zhX I.typeIs kM i7 (iV _) ?_;obtain⟨o,v,R,l⟩:=I;obtain⟨p,f1,_,n,J⟩:=L;refine aa (m:=field (.ref i) 0) (cI v l (x:=.ref a) rfl ?_);have ne:¬((bP a == ke)=true):=fun z=>by cases z
 rw[if_neg ne];refine aa (m:=field (.ref i) 1) (cI v l (x:=.int k 0) rfl ?_);refine aa (m:=seqItems? (.ref a)) (cX f1 J ?_);simp only[gn,N];refine aa (dw (aa (rN v l (by simp) ?_)))
 refine aa (m:=newExc (.type "StopIteration") []) ?_;simp only[newExc,newTuple];refine aa (bS ?_ (by size_fits))
 refine aa (m:=firstArgMember _ _) (k6 (a:=ke) (by first|rfl|(simp only[firstArgMember];rfl)) (bS ?_ (by size_fits)))
 simp only[raiseNew];refine aa (wpAny_handled ?_);have C:A.in1.handled=none:=G
 first|rw[C]|rw[G]
 exact aa (aj (wpAny_throw (h _ _ (((nF ..).extBut.push _).push _) ⟨_,aG _ rfl,rfl⟩)))
end
theorem Heap.IsTupleIter.at'{h h':bq}{i a:au}{k:Nat}(x:h.IsTupleIter i a k)(f:∀o,h.get? i=some o->h'.get? i=some o):h'.IsTupleIter i a k:=by
 obtain⟨o,e,r⟩:=x;exact⟨o,f o e,r⟩
theorem Heap.IsTuple.at'{h h':bq}{a:au}{xs:Array ah}(x:h.IsTuple a xs)(f:∀o,h.get? a=some o->h'.get? a=some o):h'.IsTuple a xs:=by
 obtain⟨o,e,r⟩:=x;exact⟨o,f o e,r⟩
theorem ztm{prog:aQ}{w:bz}{i a:au}:NxS prog w i a (fun k h=>h.IsTupleIter i a k) (fun h xs=>h.IsTuple a xs) where
 rcd:=fun k h ⟨o,e,c,d⟩=>⟨o,e,fun v z=>by rw[d]at z;cases z⟩
 keep:=fun k h h' x f=>Heap.IsTupleIter.at' x f
 sk:=fun h h' xs x f=>Heap.IsTuple.at' x f
 item:=fun A E k xs x s Q y l u h=>zhr y l u h
 done:=fun A E k xs s Q C y l u h=>zhs C y l u h
structure ZAp(z TI TO i1 i2 a1 a2:au):Prop where
 p:[z,TI,TO,i1,i2].Nodup
 q:∀a∈[a1,a2],a∉[z,TI,TO,i1,i2]
section
variable{prog:aQ}{w:bz}{A:br}{E:qV}{s:aw}{z TI TO i1 i2 a1 a2:au}{I1 I2:Nat->bq->Prop}{S1 S2:bq->Array ah->Prop}
structure ZSt(z TI TO i1 i2:au)(I1 I2:Nat->bq->Prop)(f:ah)(k:Nat)(h:bq):Prop where
 zip:pH h z TI TO f
 ti:mh h TI (.ref i1) (.ref i2)
 to:∃a b,mh h TO a b
 it1:I1 k h
 it2:I2 k h
theorem zlN(D:ZAp z TI TO i1 i2 a1 a2):(z≠TI/\z≠TO/\z≠i1/\z≠i2/\TI≠TO/\TI≠i1/\TI≠i2/\TO≠i1/\TO≠i2/\i1≠i2)/\(a1≠z/\a1≠TO/\a1≠i1/\a1≠i2)/\(a2≠z/\a2≠TO/\a2≠i1/\a2≠i2):=by
 have l:=D.p;have v:=D.q;simp only[eT,az,aO,or_false,not_or,rO,and_true,not_false_eq_true]at l;have o:=v a1 (by simp)
 have u:=v a2 (by simp)
 simp only[az,aO,or_false,not_or]at o u;exact⟨⟨l.1.1,l.1.2.1,l.1.2.2.1,l.1.2.2.2,l.2.1.1,l.2.1.2.1,l.2.1.2.2,l.2.2.1.1,l.2.2.1.2,l.2.2.2⟩,⟨o.1,o.2.2.1,o.2.2.2.1,o.2.2.2.2⟩,⟨u.1,u.2.2.1,u.2.2.2.1,u.2.2.2.2⟩⟩
theorem z_item{k:Nat}{xs ys:Array ah}{x y:ah}{Q:qV}(D:ZAp z TI TO i1 i2 a1 a2)(N1:NxS prog w i1 a1 I1 S1)(N2:NxS prog w i2 a2 I2 S2)(st:ZSt z TI TO i1 i2 I1 I2 .none k s.heap)(s1:S1 s.heap xs)(s2:S2 s.heap ys)
  (hx:xs[k]?=some x) (hy:ys[k]?=some y)
  (hQ:∀h',ZSt z TI TO i1 i2 I1 I2 (rawInt s.heap.objs.size) (k+1) h'->mh h' s.heap.objs.size x y->h'.objs.size=s.heap.objs.size+1 ->
   (∀c o,c≠z->c≠TO->c≠i1->c≠i2->s.heap.get? c=some o->h'.get? c=some o)->Q (.ref s.heap.objs.size) { s with heap:=h' }) :
  wpAny (model prog w) A (gm.«zip.__next__» ⟨[.ref z],[]⟩) (fun fin s'=>∃v,fin=.done (.ret v)/\Q v s') E s:=by
 obtain⟨⟨d1,d2,d3,d4,d5,d6,d7,d8,d9,N⟩,⟨e1,e2,e3,e4⟩,⟨g1,g2,g3,g4⟩⟩:=zlN D;obtain⟨zip,ti,⟨va,vb,to⟩,it1,it2⟩:=st;refine aa (m:=field (.ref z) 2) (cI zip rfl (x:=.bool false) rfl ?_);refine aa (m:=field (.ref z) 3) (cI zip rfl (x:=.ref TI) rfl (aa (cX ti rfl ?_)));refine aa (m:=dG (.ref z)) ?_;unfold dG
 refine aa (cI zip rfl (x:=.none) rfl (aj ?_));simp only[if_true];refine aa (dw (aa (cI zip rfl (x:=.ref TO) rfl (aa (fq zip (by simp) fun hA zA U=>?_)))))
 have zA':pH hA z TI TO .ellipsis:=zA;refine aa ?_;simp only[lI,pS,iT,kK];refine aa (aa (lB (aa (m:=bK (.ref i1)) ?_)));refine N1.item _ _ k xs x _ _ (N1.keep _ _ _ it1 fun o e=>U.extBut _ _ d3.symm e) (N1.sk _ _ _ s1 fun o e=>U.extBut _ _ e1 e) hx fun hB it1B bB=>aj ?_
 have toB:mh hB TO va vb:=bB.extBut _ _ d8 (U.extBut _ _ d2.symm to);refine aa (cX toB rfl (aa (iQ toB fun hC toC bC=>?_)))
 have Y:mh hC TO x vb:=toC;refine aa (h6 (aj ?_));refine aa (aa (lB (aa (m:=bK (.ref i2)) ?_)));have I:∀c o,c≠z->c≠TO->c≠i1->s.heap.get? c=some o->hC.get? c=some o:=fun c o C J c3 e=>bC.extBut _ _ J (bB.extBut _ _ c3 (U.extBut _ _ C e))
 refine N2.item _ _ k ys y _ _ (N2.keep _ _ _ it2 fun o e=>I _ _ d4.symm d9.symm N.symm e) (N2.sk _ _ _ s2 fun o e=>I _ _ g1 g2 g3 e) hy fun hD S Z=>aj ?_
 have toD:mh hD TO x vb:=Z.extBut _ _ d9 Y;refine aa (cX toD rfl (aa (iQ toD fun u toF L=>?_)))
 have G:mh u TO x y:=toF;refine aa (h6 (aj (aj ?_)));refine aa (cX G rfl (aa (rJ ?_)));have sz:u.objs.size=s.heap.objs.size:=by rw[L.1,Z.1,bC.1,bB.1,U.1]
 have upF:∀c o,c≠z->c≠TO->c≠i1->c≠i2->s.heap.get? c=some o->u.get? c=some o:=fun c o C J c3 c4 e=>L.extBut _ _ J (Z.extBut _ _ c4 (I c o C J c3 e))
 have zF:pH u z TI TO .ellipsis:=L.extBut _ _ d2 (Z.extBut _ _ d4 (bC.extBut _ _ d2 (bB.extBut _ _ d3 zA')));have zlt:z<u.objs.size:=aD zF;refine aa (m:=gT (.ref z) (.ref u.objs.size)) ?_;unfold gT;have zG:pH (u.push { cls:=.type "tuple",data:=.seq #[x,y] }) z TI TO .ellipsis:=aq _ zF
 refine aa (fq zG (by simp) fun hI zI bI=>?_)
 have zI':pH hI z TI TO (rawInt u.objs.size):=zI;refine fq zI' (by simp) fun R zJ bJ=>aj ⟨_,rfl,?_⟩
 have zJ':pH R z TI TO (rawInt u.objs.size):=zJ;have up:∀c o,c≠z->u.get? c=some o->R.get? c=some o:=fun c o C e=>bJ.extBut _ _ C (bI.extBut _ _ C (aq _ e))
 have pr:mh R u.objs.size x y:=bJ.extBut _ _ (lP zlt) (bI.extBut _ _ (lP zlt) (aG _ rfl));have szJ:R.objs.size=u.objs.size+1:=by rw[bJ.1,bI.1,dY]
 rw[sz]at zJ' pr szJ;show Q (.ref u.objs.size) _
 rw[sz];refine hQ R ⟨zJ',up _ _ d1.symm (upF _ _ d1.symm d5 d6 d7 ti),⟨x,y,up _ _ d2.symm G⟩,?_,?_⟩ pr szJ fun c o C J c3 c4 e=>up c o C (upF c o C J c3 c4 e)
 ·exact N1.keep _ _ _ it1B fun o e=>up _ _ d3.symm (L.extBut _ _ d8.symm (Z.extBut _ _ N (bC.extBut _ _ d8.symm e)))
 ·exact N2.keep _ _ _ S fun o e=>up _ _ d4.symm (L.extBut _ _ d9.symm e)
theorem z_end{k:Nat}{xs ys:Array ah}{Q:PySem.Fin->aw->Prop}(hh:A.handled=none)(D:ZAp z TI TO i1 i2 a1 a2)(U:NxS prog w i1 a1 I1 S1)(N2:NxS prog w i2 a2 I2 S2)(st:ZSt z TI TO i1 i2 I1 I2 .none k s.heap)(s1:S1 s.heap xs)(s2:S2 s.heap ys)
  (Y:xs[k]?=none\/ys[k]?=none)
  (hE:∀h' e,(∀c o,c≠z->c≠TO->c≠i1->c≠i2->s.heap.get? c=some o->h'.get? c=some o)->(∃o,h'.get? e=some o/\o.cls=.type "StopIteration")->E (.ref e) { s with heap:=h' }) :
  wpAny (model prog w) A (gm.«zip.__next__» ⟨[.ref z],[]⟩) Q E s:=by
 obtain⟨⟨d1,d2,d3,d4,d5,d6,d7,d8,d9,d10⟩,⟨e1,e2,e3,e4⟩,⟨g1,g2,g3,g4⟩⟩:=zlN D;obtain⟨zip,ti,⟨va,vb,to⟩,it1,it2⟩:=st;refine aa (m:=field (.ref z) 2) (cI zip rfl (x:=.bool false) rfl ?_);refine aa (m:=field (.ref z) 3) (cI zip rfl (x:=.ref TI) rfl (aa (cX ti rfl ?_)));refine aa (m:=dG (.ref z)) ?_;unfold dG
 refine aa (cI zip rfl (x:=.none) rfl (aj ?_));simp only[if_true];refine aa (dw (aa (cI zip rfl (x:=.ref TO) rfl (aa (fq zip (by simp) fun hA zA R=>?_)))))
 have J:pH hA z TI TO .ellipsis:=zA;refine aa ?_;simp only[lI,pS,iT,kK];refine aa (aa (lB (aa (m:=bK (.ref i1)) ?_)));have L:=U.keep _ _ _ it1 fun o e=>R.extBut _ _ d3.symm e
 have S:=U.sk _ _ _ s1 fun o e=>R.extBut _ _ e1 e
 cases hx:xs[k]? with
 | none =>
  refine U.done _ _ k xs _ _ hh L S hx fun hB e C ⟨Z,he,hc⟩=>?_
  have zB:pH hB z TI TO .ellipsis:=C _ _ d3 J;have ez:e≠z:=fun y=>by subst y;rw[zB]at he;cases he;simp at hc
  exact fq zB (by simp) fun hC _ N=>hE hC e (fun c o v _ G _ y=>N.extBut _ _ v (C _ _ G (R.extBut _ _ v y))) ⟨Z,N.extBut _ _ ez he,hc⟩
 | some x =>
  have hy:ys[k]?=none:=by rcases Y with h|h;rw[hx]at h;cases h;exact h
  refine U.item _ _ k xs x _ _ L S hx fun hB it1B C=>aj ?_
  have I:mh hB TO va vb:=C.extBut _ _ d8 (R.extBut _ _ d2.symm to);refine aa (cX I rfl (aa (iQ I fun hC toC N=>?_)))
  refine aa (h6 (aj ?_));refine aa (aa (lB (aa (m:=bK (.ref i2)) ?_)));have u:∀c o,c≠z->c≠TO->c≠i1->s.heap.get? c=some o->hC.get? c=some o:=fun c o v c2 G e=>N.extBut _ _ c2 (C.extBut _ _ G (R.extBut _ _ v e))
  refine N2.done _ _ k ys _ _ hh (N2.keep _ _ _ it2 fun o e=>u _ _ d4.symm d9.symm d10.symm e) (N2.sk _ _ _ s2 fun o e=>u _ _ g1 g2 g3 e) hy fun hD e bD ⟨Z,he,hc⟩=>?_
  have zD:pH hD z TI TO .ellipsis:=bD _ _ d4 (N.extBut _ _ d2 (C.extBut _ _ d3 J));have ez:e≠z:=fun y=>by subst y;rw[zD]at he;cases he;simp at hc
  exact fq zD (by simp) fun hF _ bF=>hE hF e (fun c o v c2 G c4 y=>bF.extBut _ _ v (bD _ _ c4 (u c o v c2 G y))) ⟨Z,bF.extBut _ _ ez he,hc⟩
theorem zsa{k:Nat}{xs ys:Array ah}{x y:ah}{Q:Option ah->aw->Prop}(D:ZAp z TI TO i1 i2 a1 a2)(N:NxS prog w i1 a1 I1 S1)(L:NxS prog w i2 a2 I2 S2)(st:ZSt z TI TO i1 i2 I1 I2 .none k s.heap)(s1:S1 s.heap xs)(s2:S2 s.heap ys)
  (hx:xs[k]?=some x) (v:ys[k]?=some y)
  (G:∀h',ZSt z TI TO i1 i2 I1 I2 (rawInt s.heap.objs.size) (k+1) h'->mh h' s.heap.objs.size x y->h'.objs.size=s.heap.objs.size+1 ->
   (∀c o,c≠z->c≠TO->c≠i1->c≠i2->s.heap.get? c=some o->h'.get? c=some o)->Q (some (.ref s.heap.objs.size)) { s with heap:=h' }) :
  wpAny (model prog w) A (pyNext (.ref z)) Q E s:=by
 have l:s.TypeIs (.ref z) "zip":=⟨_,st.zip,rfl⟩;unfold pyNext;exact aa (nN (dM (name:=af "__next__") l iW (eC iW l o5
  (z_item D N L st s1 s2 hx v fun h' I u C J=>aj (G h' I u C J)) (oF _))))
theorem zr_{k:Nat}{xs ys:Array ah}{Q:Option ah->aw->Prop}(v:A.handled=none)(D:ZAp z TI TO i1 i2 a1 a2)(I:NxS prog w i1 a1 I1 S1)(G:NxS prog w i2 a2 I2 S2)(st:ZSt z TI TO i1 i2 I1 I2 .none k s.heap)(s1:S1 s.heap xs)(s2:S2 s.heap ys)
  (l:xs[k]?=none\/ys[k]?=none) (x:∀h',(∀c o,c≠z->c≠TO->c≠i1->c≠i2->s.heap.get? c=some o->h'.get? c=some o)->Q none { s with heap:=h' }):wpAny (model prog w) A (pyNext (.ref z)) Q E s:=by
 have u:s.TypeIs (.ref z) "zip":=⟨_,st.zip,rfl⟩;unfold pyNext;refine aa (nN (dM (name:=af "__next__") u iW (eC iW u o5
  (z_end v D I G st s1 s2 l fun h' e y ⟨o,C,hc⟩=>?_) (oF _))))
 exact aa (wpAny_isInstance (T:="StopIteration") (b:=true) ⟨o,C,hc⟩ isSubtype_stop (aj (x _ y)))
end
def SqB(t:Bool)(K:qF)(H:Hp)(a:au)(xs:List V):Prop:=match t with|true=>SqT K H a xs|false=>SqL K H a xs
def ITB(t:Bool)(i a:au):Nat->bq->Prop:=match t with|true=>fun k h=>h.IsTupleIter i a k|false=>fun k h=>h.IsListIter i a k
def SQB(t:Bool)(a:au):bq->Array ah->Prop:=match t with|true=>fun h xs=>h.IsTuple a xs|false=>fun h xs=>h.IsList a xs
def itN(t:Bool):String:=match t with|true=>"tuple_iterator" | false=>"list_iterator"
theorem nx_B{prog:aQ}{w:bz}{i a:au}(t:Bool):NxS prog w i a (ITB t i a) (SQB t a):=by
 cases t
 ·exact zqW
 ·exact ztm
section
variable{X:Cx}{ad:qO}{σ:St}{H:Hp}{s:aw}
theorem Inv.seqB{t:Bool}{a:au}{xs:List V}(I:Inv X ad σ H s)(h:SqB t X.K H a xs):∃its:List ah,Vals xs its/\SQB t a s.heap its.toArray/\xs.length<=sizeLine:=by
 cases t
 ·obtain⟨its,r,p,z⟩:=I.list h;exact⟨its,r,p.isList,z⟩
 ·obtain⟨its,r,p,z⟩:=I.tuple h;exact⟨its,r,p,z⟩
theorem Inv.injB{t:Bool}{a:au}{xs ys:List V}(I:Inv X ad σ H s)(h:SqB t X.K H a xs)(h':SqB t X.K H a ys):xs=ys:=by
 cases t
 ·exact I.list_inj h h'
 ·exact I.tuple_inj h h'
theorem Inv.turnedL{h':bq}{t':Nat}(ch:List au)(I:Inv X ad σ H s)(k:∀b o,b∉ch->s.heap.get? b=some o->h'.get? b=some o)(f:∀b∈ch,FpOk X ad H b):Inv X ad σ H { s with heap:=h',toks:=t' }:=by
 have l:∀b u,H b=some u->b∉ch:=fun b u e z=>by rw[(f b z).1]at e;cases e
 refine I.step (g':=s.gens) (d':=s.drawn) (ch:=ch) (fun b x=>⟨(f b x).2.2.2.1,(f b x).2.1,(f b x).2.2.2.2.1,(f b x).2.2.2.2.2⟩) (fun b o _ _ hc e _=>k b o hc e) (fun b o _ _ hc e _=>⟨o.slots,k b o hc e⟩) (fun _ _ _ _ n=>n) (fun b o hc e=>⟨o,k b o hc e⟩) (fun _ _ e=>e) (fun _ _ _ e=>e)
  (fun _ _ e=>e) (fun m ⟨o,G,C,J,r⟩=>⟨o,G,C,k _ o (fun z=>(f _ z).2.1 rfl) J,r⟩) (fun b u e=>(I.hok b u e).stay (fun c v hc q=>k c v ?_ q) (fun _ q=>q) (fun _ _ q=>q) fun _ _ _ q=>q) I.bare
 rcases hc with z|z
 ·rw[z];exact l b u e
 ·exact l c _ z
end
section
variable{prog:aQ}{w:bz}{A:br}{E:qV}{s:aw}
theorem ztX{t:Bool}{a:au}{xs:Array ah}{Q:qV}(h:SQB t a s.heap xs)(o:Q (.ref s.heap.objs.size) { s with heap:=s.heap.push { cls:=.type (itN t),data:=.fields #[.ref a,.int 0 0] } }):wpAny (model prog w) A (pyIter (.ref a)) Q E s:=by
 cases t
 ·exact eN h o
 ·exact kj h o
theorem SQB.push{t:Bool}{a:au}{xs:Array ah}{h:bq}(x:SQB t a h xs)(o:Obj):SQB t a (h.push o) xs:=by
 cases t
 ·exact yC x o
 ·exact xV x o
abbrev zA(h:bq)(t:Bool)(a:au):bq:=h.push { cls:=.type (itN t),data:=.fields #[.ref a,.int 0 0] }
abbrev zB(h:bq)(t u:Bool)(a b:au):bq:=(zA h t a).push { cls:=.type (itN u),data:=.fields #[.ref b,.int 0 0] }
abbrev zC(h:bq)(t u:Bool)(a b:au):bq:=(zB h t u a b).push { cls:=.type "tuple",data:=.seq #[.ref h.objs.size,.ref (zA h t a).objs.size] }
abbrev zD(h:bq)(t u:Bool)(a b:au):bq:=(zC h t u a b).push { cls:=.type "tuple",data:=.seq #[.none,.none] }
abbrev zE(h:bq)(t u:Bool)(a b:au):bq:=(zD h t u a b).push { cls:=.type "zip",data:=.fields #[.none,.bool false,.bool false,.ref (zB h t u a b).objs.size,.ref (zC h t u a b).objs.size] }
theorem zo7(t u:Bool)(a b:au)(xs ys:Array ah) :
  Meets (gm.«zip.__new__» ⟨[.type "zip",.ref a,.ref b],[]⟩) (fun _ R s=>SQB t a s.heap xs/\SQB u b s.heap ys/\R (.ok (.ret (.ref (zD s.heap t u a b).objs.size))) { s with heap:=zE s.heap t u a b }) :=
 .of_wp fun prog w A R s h=>by
  obtain⟨x,g,d,tk,os⟩:=s;obtain⟨I,C,h⟩:=h;have v:=sub_zip;have G:SQB t a (vM ⟨x,g,d,tk,os⟩) xs:=I;have L2:SQB u b (vM ⟨x.push { cls:=.type (itN t),data:=.fields #[.ref a,.int 0 0] },g,d,tk,os⟩) ys:=SQB.push C _
  wp_walk using ztX G,ztX L2
  exact⟨_,rfl,h⟩
theorem ITB.new{t:Bool}{i a:au}{h:bq}(e:h.get? i=some { cls:=.type (itN t),data:=.fields #[.ref a,.int 0 0] }):ITB t i a 0 h:=by
 cases t
 ·exact⟨_,e,rfl,rfl⟩
 ·exact⟨_,e,rfl,rfl⟩
theorem zrS{t u:Bool}{a b:au}{xs ys:Array ah}{Q:qV}(R:SQB t a s.heap xs)(L:SQB u b s.heap ys)
  (h:∀h',ZSt (s.heap.objs.size+4) (s.heap.objs.size+2) (s.heap.objs.size+3) s.heap.objs.size (s.heap.objs.size+1) (ITB t s.heap.objs.size a) (ITB u (s.heap.objs.size+1) b) .none 0 h'->h'.objs.size=s.heap.objs.size+5 ->
   (∀c o,s.heap.get? c=some o->h'.get? c=some o)->Q (.ref (s.heap.objs.size+4)) { s with heap:=h' }) :
  wpAny (model prog w) A (call (.type "zip") [.ref a,.ref b]) Q E s:=by
 refine callType_new F.called_zip (by decide) (F.typeCall_zip_2 _ _) (F.newCall_zip_2 _ _) (fun obj=>F.args_object_init_3 obj _ _) F.entry_zip_new (zo7 t u a b xs ys) ⟨R,L,?_⟩
 have l:(zA s.heap t a).objs.size=s.heap.objs.size+1:=dY ..;have G:(zB s.heap t u a b).objs.size=s.heap.objs.size+2:=by rw[dY,l]
 have I:(zC s.heap t u a b).objs.size=s.heap.objs.size+3:=by rw[dY,G]
 have C:(zD s.heap t u a b).objs.size=s.heap.objs.size+4:=by rw[dY,I]
 have N:(zE s.heap t u a b).objs.size=s.heap.objs.size+5:=by rw[dY,C]
 have v:(zE s.heap t u a b).get? (zD s.heap t u a b).objs.size=some _:=aG _ rfl;have J:(zE s.heap t u a b).get? (zC s.heap t u a b).objs.size=some _:=aq _ (aG _ rfl);have g3:(zE s.heap t u a b).get? (zB s.heap t u a b).objs.size=some _:=aq _ (aq _ (aG _ rfl));have g2:(zE s.heap t u a b).get? (zA s.heap t a).objs.size=some _:=aq _ (aq _ (aq _ (aG _ rfl)))
 have g1:(zE s.heap t u a b).get? s.heap.objs.size=some _:=aq _ (aq _ (aq _ (aq _ (aG _ rfl))));show _/\_
 rw[G,I,C]at v;rw[l,G]at g3;rw[I]at J;rw[l]at g2;rw[C];refine⟨⟨_,v,rfl⟩,h _ ⟨v,g3,⟨_,_,J⟩,.new g1,.new g2⟩ N fun c o x=>?_⟩
 iterate 5 refine aq _ ?_
 exact x
end
def Itz(t u:Bool)(K:qF)(a b:au):It :=
 ⟨fun i H=>∃xs ys x y,SqB t K H a xs/\SqB u K H b ys/\xs[i]?=some x/\ys[i]?=some y,
  fun i H v H'=>∃p x y,H p=none/\v=.ref p/\(∀xs,SqB t K H a xs->xs[i]?=some x)/\(∀ys,SqB u K H b ys->ys[i]?=some y)/\H'=upd H p (.tup [x,y]),
  fun i H=>∃xs ys,SqB t K H a xs/\SqB u K H b ys/\(xs.length<=i\/ys.length<=i)⟩
theorem zow{P:aQ}{w:bz}{K:qF}{elts:List aZ}{x1:_}{pos:Pos}{t u:Bool}{z TI TO G C a b:au}(D:ZAp z TI TO G C a b) :
  Turn P w K (.Tuple elts x1 pos) (Itz t u K a b) [z,TI,TO,G,C] z (fun i h=>ZSt z TI TO G C (ITB t G a) (ITB u C b) .none i h) where
 mem:=by simp
 obj:=fun i h st c hc=>by
  obtain⟨N,ti,⟨va,U,to⟩,J,L⟩:=st;simp only[az,aO,or_false]at hc;rcases hc with rfl|rfl|rfl|rfl|rfl
  ·exact⟨_,N,fun v y=>by cases y⟩
  ·exact⟨_,ti,fun v y=>by cases y⟩
  ·exact⟨_,to,fun v y=>by cases y⟩
  ·exact(nx_B (prog:=P) (w:=w) t).rcd _ _ J
  ·exact(nx_B (prog:=P) (w:=w) u).rcd _ _ L
 keep:=fun i h h' st k=>by
  obtain⟨N,ti,⟨va,U,to⟩,J,L⟩:=st;exact⟨k _ (by simp) _ N,k _ (by simp) _ ti,⟨va,U,k _ (by simp) _ to⟩,(nx_B (prog:=P) (w:=w) t).keep _ _ _ J (k _ (by simp)),(nx_B (prog:=P) (w:=w) u).keep _ _ _ L (k _ (by simp))⟩
 item:=by
  intro X hP hw hK hc i ad s σ H E I hf st hg;subst hP hw hK;obtain⟨xs,ys,x,y,q1,q2,hx,hy⟩:=hg;obtain⟨its,r1,p1,z1⟩:=I.seqB q1;obtain⟨jts,r2,p2,z2⟩:=I.seqB q2;obtain⟨R,hux,rux⟩:=r1.get hx;obtain⟨S,huy,ruy⟩:=r2.get hy;refine zsa D (nx_B t) (nx_B u) st p1 p2 (x:=R) (y:=S) (by simpa using hux) (by simpa using huy) fun h' Y pr sz kp=>?_
  refine⟨_,rfl,?_⟩;refine wpAny_letOwnedTupleGo_zip (s:={ s with heap:=h' }) Y.zip fun h2 z2' Z=>?_
  obtain⟨⟨d1,d2,d3,d4,d5,d6,d7,d8,d9,d10⟩,_,_⟩:=zlN D;have big:∀c∈[z,TI,TO,G,C],c<s.heap.objs.size:=fun c hc=>by
   obtain⟨N,ti,⟨va,U,to⟩,J,L⟩:=st;simp only[az,aO,or_false]at hc;rcases hc with rfl|rfl|rfl|rfl|rfl
   ·exact aD N
   ·exact aD ti
   ·exact aD to
   ·obtain⟨o,e,_⟩:=(nx_B (prog:=X.prog) (w:=X.w) t).rcd _ _ J;exact aD e
   ·obtain⟨o,e,_⟩:=(nx_B (prog:=X.prog) (w:=X.w) u).rcd _ _ L;exact aD e
  have hp:H s.heap.objs.size=none:=I.hok.fresh (aE _);have I1:Inv X ad σ (upd H s.heap.objs.size (.tup [x,y])) { s with heap:=s.heap.push { cls:=.type "tuple",data:=.seq #[R,S] } } :=
   I.laid (t':=s.toks) (fun b o e=>aq _ e) (aE _) (show JP X.prog X.w _ _ _ (.tup [x,y]) from⟨by show 2<=sizeLine;decide,[R,S],.cons rux (.cons ruy .nil),IsTD.new _ _⟩)
  have npos:∀c∈[z,TI,TO,G,C],c≠s.heap.objs.size:=fun c hc=>aK (big c hc)
  have fu:∀c∈[z,TI,TO,G,C],upd H s.heap.objs.size (.tup [x,y]) c=none:=fun c hc=>by rw[Ju (npos c hc)];exact(hf c hc).1
  refine⟨.ref s.heap.objs.size,upd H s.heap.objs.size (.tup [x,y]),?_,rfl,⟨_,x,y,hp,rfl,fun xs' h=>by rw[I.injB h q1];exact hx,fun ys' h=>by rw[I.injB h q2];exact hy,rfl⟩,?_,fu⟩
  ·refine Inv.turnedL (s:={ s with heap:=s.heap.push { cls:=.type "tuple",data:=.seq #[R,S] } }) (t':=s.toks) [z,TO,G,C] I1 (fun c o hc e=>?_) fun c hc=>?_
   ·simp only[az,aO,or_false,not_or]at hc;refine Z.extBut _ _ hc.1 ?_
    by_cases y:c=s.heap.objs.size
    ·subst y;have e':(s.heap.push { cls:=.type "tuple",data:=.seq #[R,S] }).get? s.heap.objs.size=some _:=aG _ rfl;have e2:some o=some _:=e.symm.trans e';cases e2;exact pr
    ·have e':s.heap.get? c=some o:=by
      have e3:(s.heap.push { cls:=.type "tuple",data:=.seq #[R,S] }).get? c=some o:=e
      rwa [cH _ _ _ y]at e3
     exact kp c o hc.1 hc.2.1 hc.2.2.1 hc.2.2.2 e'
   ·have m:c∈[z,TI,TO,G,C]:=by simp only[az,aO,or_false]at hc ⊢;rcases hc with h|h|h|h <;> simp[h]
    exact⟨fu c m,(hf c m).2⟩
  ·obtain⟨N,ti,⟨va,U,to⟩,J,L⟩:=Y;exact⟨z2',Z.extBut _ _ d1.symm ti,⟨va,U,Z.extBut _ _ d2.symm to⟩,(nx_B (prog:=X.prog) (w:=X.w) t).keep _ _ _ J fun o e=>Z.extBut _ _ d3.symm e,(nx_B (prog:=X.prog) (w:=X.w) u).keep _ _ _ L fun o e=>Z.extBut _ _ d4.symm e⟩
 done:=by
  intro X hP hw hK hc i ad s σ H E I hf st hg;subst hP hw hK;obtain⟨xs,ys,q1,q2,hx⟩:=hg;obtain⟨its,r1,p1,z1⟩:=I.seqB q1;obtain⟨jts,r2,p2,z2⟩:=I.seqB q2;have l1:=r1.length;have l2:=r2.length;refine zr_ (I.ok.hd hc) D (nx_B t) (nx_B u) st p1 p2 (by rcases hx with h|h;exact .inl (by simp;omega);exact .inr (by simp;omega)) fun h' kp=>⟨rfl,?_⟩
  refine Inv.turnedL (t':=s.toks) [z,TO,G,C] I (fun c o hc e=>?_) fun c hc=>hf c ?_
  ·simp only[az,aO,or_false,not_or]at hc;exact kp c o hc.1 hc.2.1 hc.2.2.1 hc.2.2.2 e
  ·simp only[az,aO,or_false]at hc ⊢;rcases hc with h|h|h|h <;> simp[h]
 self:=fun _ _ _ _ _ st h=>o6 st.zip h
section
variable{X:Cx}{a b:aZ}{elts:List aZ}{x1:Nat}{p p' pos:Pos}
def iZip(K:qF)(o:TA):TI:=fun σ H R=>o σ H fun v l=>∃(t u:Bool) (c d:au) (xs ys:List V),v=[.ref c,.ref d]/\SqB t K l c xs/\SqB u K l d ys/\R (Itz t u K c d) l
theorem SQB.lt{t:Bool}{c:au}{xs:Array ah}{h:bq}(x:SQB t c h xs):c<h.objs.size:=by
 cases t
 ·obtain⟨o,e,_⟩:=x;exact aD e
 ·obtain⟨o,e,_⟩:=x;exact aD e
theorem zql{n:Nat}{c d:au}(o:c<n)(u:d<n):ZAp (n+4) (n+2) (n+3) n (n+1) c d:=by
 have ne:∀(e:au) (k:Nat),e<n->e≠n+k:=fun e k h=>aK (aL h (gL _ _))
 refine⟨by simp,fun e he=>?_⟩
 have l:e<n:=by
  simp only[az,aO,or_false]at he;rcases he with rfl|rfl
  ·exact o
  ·exact u
 simp only[az,aO,or_false,not_or];exact⟨ne e 4 l,ne e 2 l,ne e 3 l,aK l,ne e 1 l⟩
theorem zsN{L:TA}(U:Gl X "zip") (hm:X.mg "zip" = none) (Y:PA X [a,b] L) (hs:starEach [a,b] X.env=[(false,eval a X.env),(false,eval b X.env)]) (o:starEach [b] X.env=[(false,eval b X.env)]) :
  PI X (.Tuple elts x1 p') (.Call (.Name "zip" p) [a,b] [] pos) (iZip X.K L):=by
 intro ad s σ H R I h;refine Call_ (ZU I U hm boot_zip (gj (thn (Y pos ad s σ H _ I h) fun us s1 ⟨vs,H1,v,Z,q1⟩=>?_) (by rw[hs,o]) (by rw[o];rfl)))
 obtain⟨t,u,c,d,xs,ys,rfl,x,G,q⟩:=q1;cases Z with
 | cons r y =>
  cases y with
  | cons r' y =>
   cases y;cases r;cases r';obtain⟨its,_,J,_⟩:=v.seqB x;obtain⟨S,_,p2,_⟩:=v.seqB G;refine zrS J p2 fun h' st sz kp=>?_
   refine o6 (s:={ s1 with heap:=h' }) st.zip ?_
   refine⟨_,_,_,_,H1,rfl,v.kept (t':=s1.toks) kp,zow (zql J.lt p2.lt),st,fun e he=>?_,q⟩
   have ge:s1.heap.objs.size<=e:=by
    simp only[az,aO,or_false]at he;rcases he with rfl|rfl|rfl|rfl|rfl
    ·exact gL _ _
    ·exact gL _ _
    ·exact gL _ _
    ·exact aE _
    ·exact gL _ _
   exact v.fpOk ge (v.hok.fresh ge)
theorem srcB{K:qF}{hd:Option au}{P O:au->Prop}{H:Hp}{v:V}{t:ae}{ts:qD}(N:∀a,¬O a->P a)(r:Rep K hd O H v t)(h:t=.tuple ts\/t=.list ts) :
  ∃(k:Bool) (q:au) (x:List V),v=.ref q/\SqB k K H q x/\∀(C:au->Prop) (y:Hp),(∀a o,H a=some o->P a->y a=some o)->(∀a o,H a=some o->¬O a->¬C a)->SqB k K y q x/\Reps K hd C y x ts:=by
 have R:∀x,Reps K hd O H x ts->∀(C:au->Prop) (y:Hp),(∀a o,H a=some o->P a->y a=some o)->(∀a o,H a=some o->¬O a->¬C a)->Reps K hd C y x ts:=fun x r C y G I =>
  r.mono (fun a o L z=>gO fun no=>I a o L no z) fun a o no L=>G a o L (N a no)
 rcases h with rfl|rfl
 ·cases r with
  | @tup q x ds h o r=>exact⟨true,q,x,rfl,.inl (.inl h),fun C y G I=>⟨.inl (.inl (G q _ h (N q o))),R x r C y G I⟩⟩
  | @tupS q x ds h r=>exact⟨true,q,x,rfl,h.sq,fun C y G I=>⟨h.sq,R x r C y G I⟩⟩
 ·obtain⟨q,x,rfl,J,no,r⟩:=r.lstI;exact⟨false,q,x,rfl,SqL.of J,fun C y G I=>⟨SqL.of (G q _ J (N q no)),R x r C y G I⟩⟩
def zipD(xs ys:qD):List ae:=(xs.zip ys).map fun q=>.tuple [q.1,q.2]
def dZip(o db:DTE):DTA:=fun l n R=>o l n fun x u=>db l u fun y v=>J4 x fun xs=>J4 y fun ys=>R (zipD xs ys) v
theorem zkf{t:ae}{R:List ae->Prop}(h:J4 t R):∃ts,(t=.tuple ts\/t=.list ts)/\R ts:=by
 cases t with
 | list ts=>exact⟨ts,.inr rfl,h⟩
 | tuple ts=>exact⟨ts,.inl rfl,h⟩
 | _=>exact h.elim
theorem zuG{da db:DTE}(hm:X.mg "zip" = none) (h:DE X a da) (h':DE X b db) (hg:Gl X "zip":=by rfl) (hs:starEach [a,b] X.env=[(false,eval a X.env),(false,eval b X.env)]:=by rfl) (G:starEach [b] X.env=[(false,eval b X.env)]:=by rfl) :
  DI X (.Tuple elts x1 p') (.Call (.Name "zip" p) [a,b] [] pos) (dZip da db):=by
 obtain⟨ta,pa,h⟩:=h;obtain⟨tb,pb,h'⟩:=h';refine⟨_,zsN hg hm (Za pa (Za pb ZY G) (by rw[hs,G])) hs G,fun C ρ σ H n Q R S hd hq=>?_⟩
 refine h C ρ σ H n _ _ S hd fun x n1 v H1 r1 e1 hn1 q1=>?_
 have S1:=S.on e1 hn1;refine h' C ρ σ H1 n1 _ _ S1 r1 fun y n2 w H2 U e2 hn2 q2=>?_
 have q1':=e2.rep S.hx q1;obtain⟨xs,hx,U⟩:=zkf U;obtain⟨ys,hy,U⟩:=zkf U;obtain⟨k1,c,vs,rfl,s1,f1⟩:=srcB (P:=fun a=>¬Own C ρ σ a) (fun _ z=>z) q1' hx
 obtain⟨k2,d,ws,rfl,s2,f2⟩:=srcB (P:=fun a=>¬Own C ρ σ a) (fun _ z=>z) q2 hy
 refine⟨k1,k2,c,d,vs,ws,rfl,s1,s2,hq _ n2 _ H2 U (e1.trans e2) hn2 ?_⟩;intro O2 H3 h1 h2 h3;obtain⟨g1,J⟩:=f1 O2 H3 h1 h2;obtain⟨g2,Y⟩:=f2 O2 H3 h1 h2;refine⟨fun i t I=>?_,?_⟩
 ·unfold zipD at I;rw[bp]at I;cases ez:(xs.zip ys)[i]? with
  | none=>rw[ez]at I;cases I
  | some q =>
   rw[ez]at I;cases I;obtain⟨ex,ey⟩:=kQ.mp ez;obtain⟨vx,L,rx⟩:=J.get ex;obtain⟨vy,Z,ry⟩:=Y.get ey;refine⟨⟨vs,ws,vx,vy,g1,g2,L,Z⟩,fun v H4 hyd=>?_⟩
   obtain⟨pp,x',y',hp,rfl,hx',hy',rfl⟩:=hyd;have e1:x'=vx:=ba ((hx' vs g1).symm.trans L);have e2:y'=vy:=ba ((hy' ws g2).symm.trans Z);subst e1 e2;exact⟨JY hp,.newT (fun z=>h3 pp z hp) hp (.cons rx (.cons ry .nil))⟩
 ·refine⟨vs,ws,g1,g2,?_⟩;have:=J.length;have:=Y.length;unfold zipD;simp only[aM,mD];omega
end
theorem zqe{α o:Type}{f:α->Option o}{g:α->o}:∀(l:List α),(∀m∈l,f m=some (g m))->l.filterMap f=l.map g
 | [],_=>rfl
 | m::l,h=>by rw[dh,h m (.head _),aV,zqe l fun x hx=>h x (.tail _ hx)]
theorem zoU(xs:Array ah):((dW xs.size).filterMap fun(m:Nat)=>xs[((xs.size:Int) - 1+(m:Int)*(-1)).toNat]?).toArray=xs.toList.reverse.toArray:=by
 congr 1;have e:∀m∈dW xs.size,xs[((xs.size:Int) - 1+(m:Int)*(-1)).toNat]?=some (xs.toList.reverse.getD m .none):=fun m v=>by
  have v:m<xs.size:=gz.mp v;have G:((xs.size:Int) - 1+(m:Int)*(-1)).toNat=xs.size - 1 - m:=by omega
  have u:xs.size - 1 - m<xs.size:=by omega
  rw[G,bH u];have I:m<xs.toList.reverse.length:=by simpa using v
  rw[aX,ak I,c8,List.getElem_reverse];simp
 have C:(dW xs.size).filterMap (fun(m:Nat)=>xs[((xs.size:Int) - 1+(m:Int)*(-1)).toNat]?)=(dW xs.size).map fun m=>xs.toList.reverse.getD m .none:=by
  exact zqe _ e
 rw[C];apply List.ext_getElem
 ·simp
 ·intro i x u;simp at x u ⊢;rw[ak (by simpa using u)]
  simp
section
variable{prog:aQ}{w:bz}{A:br}{E:qV}{s:aw}
theorem zeh{t C:au}{items:Array ah}{I:ah}{Q:qV}(v:nH s.heap t items)(N:s.heap.IsSliceOf C .none .none I)(ps:kD I (some (-1)))
  (h:Q (.ref s.heap.objs.size) { s with heap:=s.heap.push { cls:=.type "tuple",data:=.seq items.toList.reverse.toArray } }) (hsz:items.size<=sizeLine):wpAny (model prog w) A (getItem (.ref t) (.ref C)) Q E s:=by
 obtain⟨os,l,G,u⟩:=id N;have J:s.TypeIs (.ref C) "slice":=⟨os,l,G⟩;unfold getItem
 try with_reducible refine cf ?_
 first|refine aa (aj ?_)|skip
 refine aa (kX v.typeIs (by decide) ?_)
 refine aa (dM (name:=af "__getitem__") v.typeIs bu
  (eC bu v.typeIs iX ?_ (kF _ _)))
 refine aa (m:=gD (.ref t)) (nJ v (aa (eG J ?_)));rw[if_pos (by decide)]
 refine aa ?_;unfold gC kO;refine aa (aa (cI l u (x:=.none) rfl (aa (cI l u (x:=.none) rfl (aa (cI l u (x:=I) rfl (aj ?_)))))));refine aa (HT.zd7 ps ?_);show wpAny _ _ (if ((-1:Int) == 0)=true then _ else _) _ _ s
 rw[if_neg (by decide)]
 refine aa (kE (aa (kE (aa (aj ?_)))));have L:dg none none (-1) (items.size:Int)=((items.size:Int) - 1,-1):=by
  unfold dg;simp
 have R:cj ((items.size:Int) - 1) (-1) (-1)=items.size:=by
  unfold cj;simp;split <;> omega
 show wpAny _ _ (match dg none none (-1) (items.size:Int) with|(lo,hi)=>pure (lo,(-1:Int),cj lo hi (-1))) _ _ s
 rw[L];show wpAny _ _ (pure (((items.size:Int) - 1),(-1:Int),cj ((items.size:Int) - 1) (-1) (-1))) _ _ s
 rw[R];refine aj ?_;have no:¬((((items.size:Int) - 1) == 0&&(-1:Int) == 1&&items.size == items.size)=true):=by simp
 show wpAny _ _ (if (((items.size:Int) - 1) == 0&&(-1:Int) == 1&&items.size == items.size)=true then _ else _) _ _ s
 rw[if_neg no,zoU];have sz:sizeOk (.seq items.toList.reverse.toArray):=by
  show items.toList.reverse.toArray.size<=sizeLine
  simpa using hsz
 first
  | exact aa (m:=cx _) (bS (aj ⟨_,rfl,aj h⟩) sz)
  | exact aa (m:=cx _) (bS (aa (aj (aj ⟨_,rfl,aj h⟩))) sz)
  | exact aa (aa (m:=cx _) (bS (aj (aj ⟨_,rfl,aj h⟩)) sz))
  | exact aa (aa (m:=cx _) (bS (aj ⟨_,rfl,aj h⟩) sz))
end
section
variable{X:Cx}{e st:aZ}{d:DTE}{dst:DTO}{pos p2:Pos}{te:TE}{ts:TO}
def tRev(K:qF)(te:TE)(ts:TO):TE:=fun σ H Q=>te σ H fun x v=>ts σ v fun o l=>o=some (-1)/\∃a xs,x=.ref a/\SqT K l a xs/\∀p,l p=none->Q (.ref p) (upd l p (.tup xs.reverse))
theorem Paired.rev{xs:List V}{u:List ah}(r:Vals xs u):Vals xs.reverse u.reverse:=by
 induction r with
 | nil=>exact .nil
 | cons a b v=>rw[iu,iu];exact v.append (.cons a .nil)
theorem zsT(he:PE X e te)(Y:PO X (some st) ts):PE X (.Subscript e (.Slice none none (some st) p2) pos) (tRev X.K te ts):=by
 intro ad s σ H Q I h;refine rh (thn (he ad s σ H _ I h) fun v s1 ⟨x,H1,R,U,q1⟩=>?_)
 refine wpAny_Slice ?_;rw[nK];refine aj (aj (thn (Y ad s1 σ H1 _ R q1) fun N s2 ⟨o,L,I2,po,q2⟩=>?_))
 obtain⟨rfl,a,xs,rfl,hx,q⟩:=q2;cases U;have C:Inv X ad σ L { s2 with heap:=s2.heap.push { cls:=.type "slice",data:=.fields #[.none,.none,N] } }:=I2.kept (t':=s2.toks) fun b Z q=>aq _ q
 obtain⟨its,r,G,J⟩:=C.tuple hx;have hl:=r.length;refine vn (ops:=[.ref a,.ref s2.heap.objs.size]) G.typeIs bu.lookup ?_ (by with_unfolding_all rfl)
 refine zeh G (nU ..) po ?_ (by rw[aB,<- hl];exact J)
 refine⟨.ref _,_,C.laid (t':=s2.toks) (o:=.tup xs.reverse) (fun b Z q=>aq _ q) (aE _) ?_,rfl,q _ (C.hok.fresh (aE _))⟩
 exact⟨by rw[nG];exact J,_,Paired.rev r,IsTD.new _ _⟩
theorem Reps.rev{K:qF}{hd:Option au}{O:au->Prop}{H:Hp}:∀{vs ts},Reps K hd O H vs ts->Reps K hd O H vs.reverse ts.reverse
 | _,_,.nil=>.nil
 | _,_,.cons a b=>by rw[iu,iu];exact(Reps.rev b).append (.cons a .nil)
def dRev(d:DTE)(dst:DTO):DTE:=fun v n R=>d v n fun t x=>dst v x fun o y=>o=some (-1)/\lTup t fun ts=>R (.tuple ts.reverse) y
theorem zuJ(h:DL X e d)(G:DP X (some st) dst):DE X (.Subscript e (.Slice none none (some st) p2) pos) (dRev d dst):=by
 obtain⟨ta,pa,h⟩:=h;obtain⟨tl,pl,hl⟩:=G;refine⟨_,zsT pa pl,fun C N σ H n Q R S hd hq=>?_⟩
 refine h C N σ H n _ _ S hd fun t Z v H1 r1 L h1 q1=>?_
 have U:=S.on L h1;refine hl C N σ H1 Z _ _ U r1 fun o n2 H2 x I J=>?_
 have Y:=U.on I J;have q3:=I.repT S.hx q1;obtain⟨rfl,x⟩:=x;cases t with
 | tuple ts =>
  obtain⟨a,vs,rfl,G,rs⟩:=q3.tupI;exact⟨rfl,a,vs,rfl,G,fun p y=>hq _ n2 _ _ x (L.trans (I.trans (ExtE.new y))) (J.same (JY y)) (.newT (Y.free y) y rs.rev)⟩
 | _=>exact x.elim
end
section
variable{d da db:DTE}{dlo dhi:DTO}{ρ:En}{n:Nat}{R:qN}{Ro:Option Int->Nat->Prop}{Rl:List ae->Nat->Prop}{xs ys:qD}{lo hi:Option Int}{Q:ae->Prop}{Ql:List ae->Prop}
theorem zuc(h:d ρ n fun t o=>dlo ρ o fun lo u=>dhi ρ u fun hi l=>lSl t lo hi fun z=>Rl z l):dSlL d dlo dhi ρ n Rl:=h
theorem zni(h:Ro none n):zjx ρ n Ro:=h
theorem zrn(h:d ρ n fun t l=>lInt t fun i=>Ro (some i) l):zrM d ρ n Ro:=h
theorem zwB(h:Ql (cutD xs lo hi)):lSl (.list xs) lo hi Ql:=h
theorem zt9(h:da ρ n fun x l=>db ρ l fun y o=>J4 x fun xs=>J4 y fun ys=>Rl (zipD xs ys) o):dZip da db ρ n Rl:=h
theorem zud(h:d ρ n fun t v=>dlo ρ v fun o x=>o=some (-1)/\lTup t fun ts=>R (.tuple ts.reverse) x):dRev d dlo ρ n R:=h
end
theorem zup{α:Type}{cs:List α}{f:α->Bool}{R:ae->Prop}(h:R (.bool (cs.any f))):bAny [.list (cs.map fun b=>dO (f b))] R:=by
 have e:(cs.map fun b=>dO (f b))=(cs.map f).map dO:=by simp
 rw[e];refine⟨cs.map f,rfl,?_⟩;have u:(cs.map f).any id=cs.any f:=by simp[i8,ig]
 rw[u];exact h
theorem zwZ{α:Type}{cs:List α}{f:α->Int}{R:ae->Prop}(h:R (.int (cs.map f).sum)):bSum [.list (cs.map fun b=>bN (f b))] R:=by
 have e:(cs.map fun b=>bN (f b))=(cs.map f).map bN:=by simp
 rw[e];exact⟨cs.map f,rfl,h⟩
theorem zek{cs:qD}{tg:DTG}{tt:DTT}{d:DTE}{ρ0:En}{n:Nat}{Rl:List ae->Nat->Prop}(F:ae->ae)(u:cs.length<=16777216)
  (step:∀b∈cs,∀(K:qN) (X:Nat->Prop),K (F b) n->tg b ρ0 fun l=>tt l n fun c o=>if c=true then d l o K else X o) (fin:Rl (cs.map F) n):JS tg tt d ρ0 cs [] n Rl:=by
 have:=QH (cs:=cs) (D:=fun t=>t) (tg:=tg) (tt:=tt) (d:=d) (ρ0:=ρ0) (n:=n) (Rl:=Rl) F u step fin
 simpa using this
theorem zpz{ts:qD}:cutD ts (some 1) none=ts.tail:=by
 unfold cutD;rw[HT.zeK,show(some (1:Int))=some ((1:Nat):Int) from rfl,HT.ziZ]
 cases ts with
 | nil=>simp
 | cons a l =>
  have:min 1 (a::l).length=1:=by simp
  rw[this];simp
theorem zr9{bs:qB}:zipD (pD bs) (pD bs).tail=(bs.zip bs.tail).map fun q=>.tuple [prD q.1,prD q.2]:=by
 unfold zipD pD;rw[<- List.map_tail,List.zip_map];simp
theorem zkF{bits:Int}{bs:qB}:(∀q∈bs.zip bs.tail,eB q.1<=q.2.1)↔bs.Pairwise fun a b=>eB a<=b.1:=by
 induction bs with
 | nil=>simp
 | cons a l o =>
  cases l with
  | nil=>simp
  | cons b l =>
   simp only[List.tail_cons,kC,m9]at o ⊢;rw[o];constructor
   ·rintro⟨v,u⟩;refine cM.mpr ⟨fun c hc=>?_,u⟩
    rcases az.mp hc with rfl|hc
    ·exact v
    ·have:=(cM.mp u).1 c hc;have:=Ug b;omega
   ·intro h;have h':=cM.mp h;exact⟨h'.1 b (.head _),h'.2⟩
class Stp (P:Prop)(Q:outParam Prop):Prop where
 go:Q->P
section
variable{t u tb:DTS}{D:Qb}{ρ ρ0:En}{n i j m:Nat}{d da db dc d1 d2:DTE}{ds di:DTA}{c c' tt:DTT}{g:G2}{g':G2}{gc:GC}{gd:GD}{tg:DTG}{tgs:DTGs}{R:qN}{Rb:Bool->Nat->Prop}{Rl:List ae->Nat->Prop}{Re:En->Prop}{x y:ae}{xs ys acc:qD}{f:Int->Int->Int}{fb:ae->Bool}{k:Bool}{capt:List Nat}
instance zve :Stp (sSeq t u D ρ n) ((t { D with nx:=u D } ρ n)):=⟨fun h=>ztZ h⟩
instance zsr :Stp (Vx D ρ n) ((D.nx ρ n)):=⟨fun h=>zri h⟩
instance zvf :Stp (sRet d D ρ n) ((d ρ n fun t n'=>D.rt t n')):=⟨fun h=>zt0 h⟩
instance zwc :Stp (sIf c t u D ρ n) ((c ρ n fun b n1=>if b=true then t D ρ n1 else u D ρ n1)):=⟨fun h=>zw0 h⟩
instance zvh :Stp (sAsg d tg D ρ n) ((d ρ n fun t n'=>tg t ρ fun ρ'=>D.nx ρ' n')):=⟨fun h=>zt3 h⟩
instance zvg :Stp (sFor di tg tb D ρ n) ((di ρ n fun ts n1=>forP tg tb D ts ρ n1)):=⟨fun h=>zt2 h⟩
instance zxs :Stp (dC x ρ n R) ((R x n)):=⟨fun h=>i_dC h⟩
instance zwe :Stp (dOp g da db ρ n R) ((da ρ n fun x n1=>db ρ n1 fun y n2=>g x y fun z=>R z n2)):=⟨fun h=>zw4 h⟩
instance zvt :Stp (dNew ds ρ n R) ((ds ρ n fun ts n'=>R (.list ts) n')):=⟨fun h=>zuh h⟩
instance zvm :Stp (dTup ds ρ n R) ((ds ρ n fun ts n1=>R (.tuple ts) n1)):=⟨fun h=>zua h⟩
instance zvs :Stp (dNil ρ n Rl) ((Rl [] n)):=⟨fun h=>zug h⟩
instance zsx :Stp (Qo d ds ρ n Rl) ((d ρ n fun t n1=>ds ρ n1 fun ts n2=>Rl (t::ts) n2)):=⟨fun h=>zrp h⟩
instance zwf :Stp (dFn gd ds ρ n R) ((ds ρ n fun ts n1=>gd ts n1 R)):=⟨fun h=>zw5 h⟩
instance zvy :Stp (dFnL gd ds ρ n R) ((ds ρ n fun ts n1=>gd ts n1 fun t n2=>J9 t=true/\R t n2)):=⟨fun h=>zum h⟩
instance zr8 :Stp (ZD gc ds ρ n R) ((ds ρ n fun ts n1=>gc ts fun z=>R z n1)):=⟨fun h=>zpl h⟩
instance zvj :Stp (isiD fb d ρ n R) ((d ρ n fun t n1=>lIsi fb t fun z=>R z n1)):=⟨fun h=>zt7 h⟩
instance zvA :Stp (dAnd c c' ρ n Rb) ((c ρ n fun b n1=>if b=true then c' ρ n1 Rb else Rb false n1)):=⟨fun h=>zuo h⟩
instance zwd :Stp (dOr c c' ρ n Rb) ((c ρ n fun b n1=>if b=true then Rb true n1 else c' ρ n1 Rb)):=⟨fun h=>zw3 h⟩
instance zvr :Stp (dNot c ρ n Rb) ((c ρ n fun b n1=>Rb (!b) n1)):=⟨fun h=>zuf h⟩
instance zsy :Stp (zrO da db ρ n R) ((da ρ n fun t n1=>bolD t fun b=>if b=true then db ρ n1 R else R (.bool false) n1)):=⟨fun h=>zrr h⟩
instance zvq :Stp (dOrV da db ρ n R) ((da ρ n fun t n1=>bolD t fun b=>if b=true then R (.bool true) n1 else db ρ n1 R)):=⟨fun h=>zue h⟩
instance zsw :Stp (zrN da ρ n R) ((da ρ n fun t n1=>bolD t fun b=>R (.bool (!b)) n1)):=⟨fun h=>zro h⟩
instance zvx :Stp (dIfE c da db ρ n R) ((c ρ n fun b n1=>if b=true then da ρ n1 R else db ρ n1 R)):=⟨fun h=>zul h⟩
instance zvn :Stp (dTru d ρ n Rb) ((d ρ n fun t n'=>truD t fun b=>Rb b n')):=⟨fun h=>zub h⟩
instance zqt :Stp (zjy d ρ n Rl) ((d ρ n fun t n1=>J4 t fun ts=>Rl ts n1)):=⟨fun h=>znj h⟩
instance zvl :Stp (dYes ρ n Rb) ((Rb true n)):=⟨fun h=>zt_ h⟩
instance zsp :Stp (U4 tgs (.tuple xs) ρ Re) ((tgs xs ρ Re)):=⟨fun h=>zrg h⟩
instance zsq :Stp (U3 [] ρ Re) ((Re ρ)):=⟨fun h=>zrh h⟩
instance zr6 :Stp (Uo tg tgs (x::xs) ρ Re) ((tg x ρ fun ρ'=>tgs xs ρ' Re)):=⟨fun h=>zpi h⟩
instance zss :Stp (UX d ρ n Rb) ((d ρ n fun t n'=>bolD t fun b=>Rb b n')):=⟨fun h=>zrk h⟩
instance zvz :Stp (dCat da db ρ n Rl) ((da ρ n fun x n1=>db ρ n1 fun y n2=>lCat x y fun zs=>Rl zs n2)):=⟨fun h=>zun h⟩
instance zvw :Stp (dItL d ρ n Rl) ((d ρ n fun t n'=>lLst t fun ts=>Rl ts n')):=⟨fun h=>zuk h⟩
instance zvv :Stp (dItT d ρ n Rl) ((d ρ n fun t n'=>lTup t fun ts=>Rl ts n')):=⟨fun h=>zuj h⟩
instance zsu :Stp (Zs d ρ n Rl) ((d ρ n fun t n'=>lInt t fun j=>(-(2 ^ 62)<=j/\j<2 ^ 62)/\Rl (Qj 0 j.toNat) n')):=⟨fun h=>zrm h⟩
instance zvu :Stp (dNeg d ρ n R) ((d ρ n fun t n'=>lInt t fun i=>R (.int (-i)) n')):=⟨fun h=>zui h⟩
instance zr7 :Stp (ZE g g' da db dc ρ n R) ((da ρ n fun x n1=>db ρ n1 fun y n2=>g x y fun z=>bolD z fun b=>if b=true then dc ρ n2 fun w n3=>g' y w fun z=>R z n3 else R (.bool false) n2)):=⟨fun h=>zpk h⟩
instance zvi {b:Bool}{A B:Prop}:Stp (if (!b)=true then A else B) ((if b=true then B else A)):=⟨fun h=>zt5 h⟩
end
section
variable{C:Int->Int->Prop}{f:Int->Int->Int}{fb:Int->Int->Bool}{i j k:Int}{R:ae->Prop}{Rb:Bool->Prop}{xs ys:qD}{s t:Str}{a b:Bool}{u v x y:ae}{Rn:qN}{n:Nat}
instance zvd :Stp (oAdd (.int i) (.int j) R) ((R (.int (i+j)))):=⟨fun h=>ztT h⟩
instance zvc :Stp (oAdd (.str s) (.str t) R) (((s.length+t.length<=16777216/\R (.str (s++t))))):=⟨fun h=>ztS h⟩
instance zvb :Stp (oAdd (.tuple xs) (.tuple ys) R) (((xs.length+ys.length<=16777216/\R (.tuple (xs++ys))))):=⟨fun h=>ztR h⟩
instance zv9 :Stp (oEq (.int i) (.int j) R) ((R (.bool (decide (i=j))))):=⟨fun h=>zwV h⟩
instance zv7 :Stp (oEq (.str s) (.str t) R) ((R (.bool (decide (s=t))))):=⟨fun h=>zwT h⟩
instance zv6 :Stp (oEq (.tuple xs) (.tuple ys) R) (((Okd (.tuple xs)/\Okd (.tuple ys)/\R (.bool (eD (.tuple xs) (.tuple ys)))))):=⟨fun h=>zwS h⟩
instance zv8 :Stp (oEq (.list xs) (.list ys) R) (((Okd (.list xs)/\Okd (.list ys)/\R (.bool (eD (.list xs) (.list ys)))))):=⟨fun h=>zwU h⟩
instance zvU :Stp (oNe (.int i) (.int j) R) ((R (.bool (!decide (i=j))))):=⟨fun h=>zwF h⟩
instance zvV :Stp (oNe (.bool a) (.bool b) R) ((R (.bool (!decide (a=b))))):=⟨fun h=>zwG h⟩
instance zvS :Stp (oNe (.str s) (.str t) R) ((R (.bool (!decide (s=t))))):=⟨fun h=>zwD h⟩
instance zvT :Stp (oNe (.list xs) (.list ys) R) (((Okd (.list xs)/\Okd (.list ys)/\R (.bool (!PyData.eqv (.list xs) (.list ys)))))):=⟨fun h=>zwE h⟩
instance zv3 :Stp (oIs u .none R) ((R (.bool (isNone u)))):=⟨fun h=>zwP h⟩
instance zso :Stp (oIsN u .none R) ((R (.bool (!isNone u)))):=⟨fun h=>zrc h⟩
instance zv5 :Stp (oIn u (.tuple xs) R) (((Okd u/\(∀t∈xs,Okd t)/\R (.bool (xs.any fun t=>t.eqv u))))):=⟨fun h=>zwR h⟩
instance zv0 :Stp (oLtA (.int i) (.int j) R) ((R (.bool (decide (i<j))))):=⟨fun h=>zwL h⟩
instance zv2 :Stp (oLeA (.int i) (.int j) R) ((R (.bool (decide (i<=j))))):=⟨fun h=>zwN h⟩
instance zu9 :Stp (oIx (.tuple (u::xs)) (.int 0) R) ((R u)):=⟨fun h=>ztK h⟩
instance zu8 :Stp (oIx (.tuple (u::v::xs)) (.int 1) R) ((R v)):=⟨fun h=>ztJ h⟩
instance zu7 {w:ae}:Stp (oIx (.tuple (u::v::w::xs)) (.int 2) R) ((R w)):=⟨fun h=>ztI h⟩
instance zu2 :Stp (truD (.bool a) Rb) ((Rb a)):=⟨fun h=>ztA h⟩
instance zu1 :Stp (truD (.list xs) Rb) ((Rb (!xs.isEmpty))):=⟨fun h=>ztz h⟩
instance zwa :Stp (bolD (.bool a) Rb) ((Rb a)):=⟨fun h=>zwX h⟩
instance zu6 :Stp (bLen [.list xs] R) ((R (.int xs.length))):=⟨fun h=>ztH h⟩
instance zu4 :Stp (bLen [.tuple xs] R) ((R (.int xs.length))):=⟨fun h=>ztF h⟩
instance zu5 :Stp (bLen [.str s] R) (((s.length<=16777216/\R (.int s.length)))):=⟨fun h=>ztG h⟩
instance zr4 {ns:List Int}:Stp (bLen [SCR ns] R) ((R (.int ns.length))):=⟨fun h=>zpe h⟩
instance zvY :Stp (bMin [.int i,.int j] R) ((R (.int (if j<i then j else i)))):=⟨fun h=>zwJ h⟩
instance zvZ :Stp (bMax [.int i,.int j] R) ((R (.int (if j > i then j else i)))):=⟨fun h=>zwK h⟩
instance zu_ :Stp (bInt [.bool a] R) ((R (.int (if a then 1 else 0)))):=⟨fun h=>ztP h⟩
instance zr3 :Stp (ZJ [.list xs] R) ((R (.tuple xs))):=⟨fun h=>zpd h⟩
instance zsn {Rl:List ae->Prop}:Stp (J4 (.list xs) Rl) ((Rl xs)):=⟨fun h=>zrb h⟩
instance zr5 {Rl:List ae->Prop}:Stp (J4 (.tuple xs) Rl) ((Rl xs)):=⟨fun h=>zpf h⟩
instance zv_ {Q:List ae->Prop}:Stp (lCat (.list xs) (.list ys) Q) (((xs.length+ys.length<=16777216/\Q (xs++ys)))):=⟨fun h=>zwW h⟩
instance zv1 {Q:List ae->Prop}:Stp (lLst (.list xs) Q) ((Q xs)):=⟨fun h=>zwM h⟩
instance zvO {Q:List ae->Prop}:Stp (lTup (.tuple xs) Q) ((Q xs)):=⟨fun h=>zwz h⟩
instance zv4 {i:Int}{Q:Int->Prop}:Stp (lInt (.int i) Q) ((Q i)):=⟨fun h=>zwQ h⟩
instance zu3 {Q:ae->ae->Prop}:Stp (Zx [x,y] Q) ((Q x y)):=⟨fun h=>ztC h⟩
instance zvW :Stp (oMul (.int i) (.int j) R) ((CMul i j)/\(R (.int (i*j)))):=⟨fun h=>zwH h.1 h.2⟩
instance zvX :Stp (oMod (.int i) (.int j) R) ((0<j)/\(R (.int (i % j)))):=⟨fun h=>zwI h.1 h.2⟩
instance zva :Stp (UI (.int i) (.int j) R) ((Zo i j)/\(R (.int (i / j)))):=⟨fun h=>ztQ h.1 h.2⟩
instance zvR :Stp (oShl (.int i) (.int j) R) ((CPow i j)/\(R (.int (i*2 ^ j.toNat)))):=⟨fun h=>zwC h.1 h.2⟩
instance zvP :Stp (oSub (.int i) (.int j) R) ((R (.int (i - j)))):=⟨fun h=>zwA h⟩
instance zvN :Stp (oXor (.int i) (.int j) R) ((R (.int (cU i j)))):=⟨fun h=>zwy h⟩
instance zwb :Stp (oAnd (.int i) (.int j) R) ((R (.int (gA i j)))):=⟨fun h=>zwY h⟩
instance zxp :Stp (gB fb (.int i) (.int j) R) ((R (.bool (fb i j)))):=⟨fun h=>j_gB h⟩
instance zoG :Stp (lIsi isInt (.int i) R) ((R (.bool true))):=⟨fun h=>zjq h⟩
instance zoq :Stp (lIsi isInt (.bool a) R) ((R (.bool true))):=⟨fun h=>zie h⟩
instance zoF :Stp (lIsi isInt (.str s) R) ((R (.bool false))):=⟨fun h=>zjp h⟩
instance zl8 :Stp (lIsi isInt (.tuple xs) R) ((R (.bool false))):=⟨fun h=>zg2 h⟩
instance zoo :Stp (lIsi isInt (.list xs) R) ((R (.bool false))):=⟨fun h=>zic h⟩
instance zon :Stp (lIsi isInt (.none) R) ((R (.bool false))):=⟨fun h=>zib h⟩
instance zop :Stp (lIsi isInt (.dict []) R) ((R (.bool false))):=⟨fun h=>zid h⟩
instance zor :Stp (lIsi isBool (.int i) R) ((R (.bool false))):=⟨fun h=>zif h⟩
instance zl9 :Stp (lIsi isBool (.bool a) R) ((R (.bool true))):=⟨fun h=>zg3 h⟩
instance zoC :Stp (lIsi isTup (.int i) R) ((R (.bool false))):=⟨fun h=>zjm h⟩
instance zoi :Stp (lIsi isTup (.bool a) R) ((R (.bool false))):=⟨fun h=>zh7 h⟩
instance zoB :Stp (lIsi isTup (.str s) R) ((R (.bool false))):=⟨fun h=>zjl h⟩
instance zl6 :Stp (lIsi isTup (.tuple xs) R) ((R (.bool true))):=⟨fun h=>zg0 h⟩
instance zog :Stp (lIsi isTup (.list xs) R) ((R (.bool false))):=⟨fun h=>zh5 h⟩
instance zof :Stp (lIsi isTup (.none) R) ((R (.bool false))):=⟨fun h=>zh4 h⟩
instance zoh :Stp (lIsi isTup (.dict []) R) ((R (.bool false))):=⟨fun h=>zh6 h⟩
instance zoE :Stp (lIsi isStr (.int i) R) ((R (.bool false))):=⟨fun h=>zjo h⟩
instance zom :Stp (lIsi isStr (.bool a) R) ((R (.bool false))):=⟨fun h=>zia h⟩
instance zoD :Stp (lIsi isStr (.str s) R) ((R (.bool true))):=⟨fun h=>zjn h⟩
instance zl7 :Stp (lIsi isStr (.tuple xs) R) ((R (.bool false))):=⟨fun h=>zg1 h⟩
instance zok :Stp (lIsi isStr (.list xs) R) ((R (.bool false))):=⟨fun h=>zh9 h⟩
instance zoj :Stp (lIsi isStr (.none) R) ((R (.bool false))):=⟨fun h=>zh8 h⟩
instance zol :Stp (lIsi isStr (.dict []) R) ((R (.bool false))):=⟨fun h=>zh_ h⟩
end
section
variable{d da db:DTE}{dlo dhi:DTO}{ρ:En}{n:Nat}{R:qN}{Ro:Option Int->Nat->Prop}{Rl:List ae->Nat->Prop}{xs ys:qD}{lo hi:Option Int}{Q:ae->Prop}{Ql:List ae->Prop}
instance zvo :Stp (dSlL d dlo dhi ρ n Rl) ((d ρ n fun t n1=>dlo ρ n1 fun lo n2=>dhi ρ n2 fun hi n3=>lSl t lo hi fun z=>Rl z n3)):=⟨fun h=>zuc h⟩
instance zqs :Stp (zjx ρ n Ro) ((Ro none n)):=⟨fun h=>zni h⟩
instance zsv :Stp (zrM d ρ n Ro) ((d ρ n fun t n'=>lInt t fun i=>Ro (some i) n')):=⟨fun h=>zrn h⟩
instance zvk :Stp (dZip da db ρ n Rl) ((da ρ n fun x n1=>db ρ n1 fun y n2=>J4 x fun xs=>J4 y fun ys=>Rl (zipD xs ys) n2)):=⟨fun h=>zt9 h⟩
instance zvp :Stp (dRev d dlo ρ n R) ((d ρ n fun t n1=>dlo ρ n1 fun o n2=>o=some (-1)/\lTup t fun ts=>R (.tuple ts.reverse) n2)):=⟨fun h=>zud h⟩
instance zvQ :Stp (lSl (.list xs) lo hi Ql) ((Ql (cutD xs lo hi))):=⟨fun h=>zwB h⟩
end
section
instance zst {d:DTE}{ρ:En}{n:Nat}{Rl:List ae->Nat->Prop}:Stp (zrL d ρ n Rl) ((d ρ n fun t n1=>Zy t fun ts=>Rl ts n1)):=⟨fun h=>zrl h⟩
end
section
variable{R:ae->Prop}{b:Bool}{A B:Prop}
instance zxq:Stp (if true=true then A else B) A:=⟨fun h=>iteT h⟩
instance zxr:Stp (if false=true then A else B) B:=⟨fun h=>iteF h⟩
end
class GetN (ρ:En)(i:Nat)(c:outParam (Option Cell)):Prop where
 e:ρ[i]?=some c
class SetN (ρ:En)(i:Nat)(c:Option Cell)(ρ':outParam En):Prop where
 e:ρ.set i c=ρ'
instance{a0:Option Cell}{as:En}:GetN (a0::as) 0 a0:=⟨rfl⟩
instance{a0 c:Option Cell}{as:En}:SetN (a0::as) 0 c (c::as):=⟨rfl⟩
instance{a0 a1:Option Cell}{as:En}:GetN (a0::a1::as) 1 a1:=⟨rfl⟩
instance{a0 a1 c:Option Cell}{as:En}:SetN (a0::a1::as) 1 c (a0::c::as):=⟨rfl⟩
instance{a0 a1 a2:Option Cell}{as:En}:GetN (a0::a1::a2::as) 2 a2:=⟨rfl⟩
instance{a0 a1 a2 c:Option Cell}{as:En}:SetN (a0::a1::a2::as) 2 c (a0::a1::c::as):=⟨rfl⟩
instance{a0 a1 a2 a3:Option Cell}{as:En}:GetN (a0::a1::a2::a3::as) 3 a3:=⟨rfl⟩
instance{a0 a1 a2 a3 c:Option Cell}{as:En}:SetN (a0::a1::a2::a3::as) 3 c (a0::a1::a2::c::as):=⟨rfl⟩
instance{a0 a1 a2 a3 c:Option Cell}{as:En}{i:Nat}[h:GetN as i c]:GetN (a0::a1::a2::a3::as) (i+4) c:=⟨h.e⟩
instance{a0 a1 a2 a3 c:Option Cell}{as bs:En}{i:Nat}[h:SetN as i c bs]:SetN (a0::a1::a2::a3::as) (i+4) c (a0::a1::a2::a3::bs):=⟨by rw[<- h.e];rfl⟩
class NormE (ρ:En)(ρ':outParam En):Prop where
 e:ρ=ρ'
instance{a:Option Cell}{as:En}:NormE (a::as) (a::as):=⟨rfl⟩
instance{ρ ρ1 ρ2:En}{i:Nat}{c:Option Cell}[h:NormE ρ ρ1][k:SetN ρ1 i c ρ2]:NormE (ρ.set i c) ρ2:=⟨by rw[h.e];exact k.e⟩
class NoneN (as:En)(nn:outParam En):Prop where
 e:bZ as.length none=nn
instance:NoneN [] []:=⟨rfl⟩
instance{a:Option Cell}{as nn:En}[h:NoneN as nn]:NoneN (a::as) (none::nn):=⟨by rw[aF,cg,h.e]⟩
class StartN (N:List Str)(ts:qD)(ρ:outParam En):Prop where
 e:Qh N ts=ρ
instance:StartN [] [] []:=⟨rfl⟩
instance{x:Str}{N:List Str}{ρ:En}[h:StartN N [] ρ]:StartN (x::N) [] (none::ρ):=⟨by
 have:=h.e;simp only[Qh,e8,eW,bo,um]at this ⊢;rw[aF,cg,this]⟩
instance{x:Str}{N:List Str}{t:ae}{ts:qD}{ρ:En}[h:StartN N ts ρ]:StartN (x::N) (t::ts) (some (.val t)::ρ):=⟨by
 have:=h.e;simp only[Qh]at this ⊢;rw[aV,aF,aF,dR,Nat.add_sub_add_right,this]⟩
theorem zkN{d:DTS}{D:Qb}{n:Nat}{N:List Str}{ts:qD}{l:En}[e:StartN N ts l](h:d D l n):d D (Qh N ts) n:=e.e.symm▸h
class CapN (is:List Nat)(ρ:En)(out:outParam En):Prop where
 e:(is.map fun i=>capV (ρ.getD i none))=out
class CapC (c:Option Cell)(c':outParam (Option Cell)):Prop where
 e:capV c=c'
instance{d:ae}:CapC (some (.val d)) (some (.val d)):=⟨rfl⟩
instance{d:qD}:CapC (some (.own d)) none:=⟨rfl⟩
instance:CapC none none:=⟨rfl⟩
instance{ρ:En}:CapN [] ρ []:=⟨rfl⟩
instance{i:Nat}{is:List Nat}{ρ out:En}{c c':Option Cell}[g:GetN ρ i c][k:CapC c c'][h:CapN is ρ out]:CapN (i::is) ρ (c'::out):=⟨by
 have ge:=g.e;rw[aV,h.e,aX,ge,c8,k.e]⟩
class CompN (m:Nat)(capt:List Nat)(ρ:En)(ρ':outParam En):Prop where
 e:Jz m capt ρ=ρ'
instance{x:Str}{capt:List Nat}{ρ out:En}[h:CapN capt ρ out]:CompN (eJ [x]) capt ρ (none::out):=⟨by unfold Jz;rw[h.e];rfl⟩
instance{x y:Str}{capt:List Nat}{ρ out:En}[h:CapN capt ρ out]:CompN (eJ [x,y]) capt ρ (none::none::out):=⟨by unfold Jz;rw[h.e];rfl⟩
instance{x y z:Str}{capt:List Nat}{ρ out:En}[h:CapN capt ρ out]:CompN (eJ [x,y,z]) capt ρ (none::none::none::out):=⟨by unfold Jz;rw[h.e];rfl⟩
instance{x y z u:Str}{capt:List Nat}{ρ out:En}[h:CapN capt ρ out]:CompN (eJ [x,y,z,u]) capt ρ (none::none::none::none::out):=⟨by unfold Jz;rw[h.e];rfl⟩
def SetK(i:Nat)(c:Option Cell)(K:En->Nat->Prop)(l:En)(n:Nat):Prop:=K (l.set i c) n
section
variable{t u:DTS}{D:Qb}{ρ ρ0 ρ':En}{n i j m:Nat}{d dj:DTE}{ds di:DTA}{tt:DTT}{tg:DTG}{R:qN}{Rl:List ae->Nat->Prop}{Re:En->Prop}{x:ae}{xs:qD}{f:Int->Int->Int}{capt:List Nat}{c:Option Cell}{K:En->Nat->Prop}{q:Int}
instance zxx [h:SetN ρ i c ρ']:Stp (SetK i c K ρ n) (K ρ' n):=⟨fun k=>by unfold SetK;rw[h.e];exact k⟩
instance zxk:Stp (sSet i d D ρ n) (d ρ n fun t n'=>SetK i (some (.val t)) D.nx ρ n'):=⟨fun h=>h⟩
instance zxl:Stp (sOwn i ds D ρ n) (ds ρ n fun t n'=>SetK i (some (.own t)) D.nx ρ n'):=⟨fun h=>h⟩
instance zuZ [h:SetN ρ i (some (.val x)) ρ']:Stp (Qv i x ρ Re) (Re ρ'):=⟨fun k=>by unfold Qv;rw[h.e];exact k⟩
instance zxt [h:GetN ρ i (some (.val x))]:Stp (dVar i ρ n R) (R x n):=⟨fun k=>zp6 h.e k⟩
instance zxu [h:GetN ρ i (some (.own xs))]:Stp (dOwn i ρ n R) (R (.list xs) n):=⟨fun k=>zp7 h.e k⟩
instance zvD [h:GetN ρ i (some (.own xs))]:Stp (Zc i d D ρ n) (d ρ n fun t n'=>xs.length<16777216/\SetK i (some (.own (xs++[t]))) D.nx ρ n'):=⟨fun k=>zki h.e k⟩
instance zvB [h:GetN ρ i (some (.own xs))][h':SetN ρ i (some (.val (.list xs))) ρ']:Stp (Z9 i t D ρ n) (t D ρ' n):=⟨fun k=>zkh h.e (by rw[h'.e];exact k)⟩
instance zxD [h:GetN ρ i (some (.val (.int q)))]:Stp (sAug i f d D ρ n) (d ρ n fun t n'=>lInt t fun k=>SetK i (some (.val (.int (f q k)))) D.nx ρ n'):=⟨fun k=>zw6 h.e k⟩
instance zxA:Stp (sPar i j ds D ρ n) (ds ρ n fun ts n'=>Zx ts fun t u=>SetK i (some (.val t)) (fun ρ1 n1=>SetK j (some (.val u)) D.nx ρ1 n1) ρ n'):=⟨fun h=>zt1 h⟩
instance zxv [h:CompN m capt ρ ρ0]:Stp (dComp m capt di tg tt d ρ n Rl) (di ρ n fun ts n1=>JS tg tt d ρ0 ts [] n1 Rl):=⟨fun k=>zrq (by rw[h.e];exact k)⟩
theorem zsI{D:Qb}{ρ:En}{i:Nat}{xs:qD}{x:ae}{n:Nat}{j:Int}{k:Nat}(e:ixN xs.length j=some k)(h:SetK i (some (.own (xs.set k x))) D.nx ρ n) :
  (match ixN xs.length j with|some k=>D.nx (ρ.set i (some (.own (xs.set k x)))) n|none=>False):=by rw[e];exact h
instance zxz [h:GetN ρ i (some (.own xs))]:Stp (sPut i dj d D ρ n) (d ρ n fun t n1=>UZ ρ i D dj t n1 xs):=⟨fun k=>zw1 h.e k⟩
instance zxm:Stp (UZ ρ i D dj x n xs) (dj ρ n fun j n2=>lInt j fun j=>(match ixN xs.length j with|some k=>D.nx (ρ.set i (some (.own (xs.set k x)))) n2|none=>False)):=⟨fun h=>zt4 h⟩
end
theorem Qx{l:En}{i:Nat}:l.set i (l.getD i none)=l:=by
 apply kY
 intro j
 by_cases h:i=j
 ·subst h
  by_cases hl:i<l.length
  ·rw[fV hl,aX,ak hl];rfl
  ·rw[cP (by simp;omega),cP (by omega)]
 ·rw[dI h]
section
variable{g:DTG}{tb:DTS}{D:Qb}{ts:qD}{ρ:En}{n:Nat}
theorem zuA(y:Nat)(Inv:Nat->Option Cell->Nat->Prop){u:Option Cell->En}[N:∀l,NormE (ρ.set y l) (u l)](h0:Inv 0 (ρ.getD y none) n)
  (turn:∀(k:Nat) (t:ae) (l:Option Cell) (m:Nat) (K:En->Nat->Prop) (G:qN) (I:En->Nat->Prop),ts[k]?=some t->Inv k l m->(∀v x,Inv (k+1) v x->K (u v) x)->(∀t m,D.rt t m->G t m)->(∀ρ m,D.nx ρ m->I ρ m)->g t (u l) fun o=>tb { nx:=K,rt:=G,bk:=I,ct:=K,xr:=D.xr } o m)
  (fin:∀l m,Inv ts.length l m->D.nx (u l) m):forP g tb D ts ρ n:=by
 refine UT (fun k o m=>∃l,o=(ρ.set y l)/\Inv k l m) ⟨_,?_,h0⟩ ?_ ?_
 ·rw[Qx]
 ·rintro k t o m K e ⟨l,rfl,C⟩ hK;rw[(N l).e];exact turn k t l m K D.rt D.nx e C (fun v x h=>(N v).e▸hK _ _ ⟨v,rfl,h⟩) (fun _ _ h=>h) (fun _ _ h=>h)
 ·rintro o m ⟨l,rfl,C⟩;rw[(N l).e];exact fin l m C
theorem YK(C I:Nat)(Inv:Nat->Option Cell->Option Cell->Nat->Prop){u:Option Cell->Option Cell->En}[N:∀l a1,NormE ((ρ.set C l).set I a1) (u l a1)](h0:Inv 0 (ρ.getD C none) (ρ.getD I none) n)
  (turn:∀(k:Nat) (t:ae) (l a1:Option Cell) (m:Nat) (K:En->Nat->Prop) (J:qN) (L:En->Nat->Prop),ts[k]?=some t->Inv k l a1 m->(∀x v y,Inv (k+1) x v y->K (u x v) y)->(∀t m,D.rt t m->J t m)->(∀ρ m,D.nx ρ m->L ρ m)->g t (u l a1) fun o=>tb { nx:=K,rt:=J,bk:=L,ct:=K,xr:=D.xr } o m)
  (fin:∀l a1 m,Inv ts.length l a1 m->D.nx (u l a1) m):forP g tb D ts ρ n:=by
 refine UT (fun k o m=>∃l a1,o=((ρ.set C l).set I a1)/\Inv k l a1 m) ⟨_,_,?_,h0⟩ ?_ ?_
 ·rw[Qx,Qx]
 ·rintro k t o m K e ⟨l,a1,rfl,G⟩ hK;rw[(N l a1).e];exact turn k t l a1 m K D.rt D.nx e G (fun x v y h=>(N x v).e▸hK _ _ ⟨x,v,rfl,h⟩) (fun _ _ h=>h) (fun _ _ h=>h)
 ·rintro o m ⟨l,a1,rfl,G⟩;rw[(N l a1).e];exact fin l a1 m G
theorem VG(G J L:Nat)(Inv:Nat->Option Cell->Option Cell->Option Cell->Nat->Prop){u:Option Cell->Option Cell->Option Cell->En}[N:∀l a1 a2,NormE (((ρ.set G l).set J a1).set L a2) (u l a1 a2)](h0:Inv 0 (ρ.getD G none) (ρ.getD J none) (ρ.getD L none) n)
  (turn:∀(k:Nat) (t:ae) (l a1 a2:Option Cell) (m:Nat) (K:En->Nat->Prop) (R:qN) (S:En->Nat->Prop),ts[k]?=some t->Inv k l a1 a2 m->(∀y x v C,Inv (k+1) y x v C->K (u y x v) C)->(∀t m,D.rt t m->R t m)->(∀ρ m,D.nx ρ m->S ρ m)->g t (u l a1 a2) fun o=>tb { nx:=K,rt:=R,bk:=S,ct:=K,xr:=D.xr } o m)
  (fin:∀l a1 a2 m,Inv ts.length l a1 a2 m->D.nx (u l a1 a2) m):forP g tb D ts ρ n:=by
 refine UT (fun k o m=>∃l a1 a2,o=(((ρ.set G l).set J a1).set L a2)/\Inv k l a1 a2 m) ⟨_,_,_,?_,h0⟩ ?_ ?_
 ·rw[Qx,Qx,Qx]
 ·rintro k t o m K e ⟨l,a1,a2,rfl,I⟩ hK;rw[(N l a1 a2).e];exact turn k t l a1 a2 m K D.rt D.nx e I (fun y x v C h=>(N y x v).e▸hK _ _ ⟨y,x,v,rfl,h⟩) (fun _ _ h=>h) (fun _ _ h=>h)
 ·rintro o m ⟨l,a1,a2,rfl,I⟩;rw[(N l a1 a2).e];exact fin l a1 a2 m I
theorem zqd(L S U J:Nat)(Inv:Nat->Option Cell->Option Cell->Option Cell->Option Cell->Nat->Prop){v:Option Cell->Option Cell->Option Cell->Option Cell->En}[N:∀o a1 a2 l,NormE ((((ρ.set L o).set S a1).set U a2).set J l) (v o a1 a2 l)](h0:Inv 0 (ρ.getD L none) (ρ.getD S none) (ρ.getD U none) (ρ.getD J none) n)
  (turn:∀(k:Nat) (t:ae) (o a1 a2 l:Option Cell) (m:Nat) (K:En->Nat->Prop) (Y:qN) (Z:En->Nat->Prop),ts[k]?=some t->Inv k o a1 a2 l m->(∀G C x y I,Inv (k+1) G C x y I->K (v G C x y) I)->(∀t m,D.rt t m->Y t m)->(∀ρ m,D.nx ρ m->Z ρ m)->g t (v o a1 a2 l) fun u=>tb { nx:=K,rt:=Y,bk:=Z,ct:=K,xr:=D.xr } u m)
  (fin:∀o a1 a2 l m,Inv ts.length o a1 a2 l m->D.nx (v o a1 a2 l) m):forP g tb D ts ρ n:=by
 refine UT (fun k u m=>∃o a1 a2 l,u=((((ρ.set L o).set S a1).set U a2).set J l)/\Inv k o a1 a2 l m) ⟨_,_,_,_,?_,h0⟩ ?_ ?_
 ·rw[Qx,Qx,Qx,Qx]
 ·rintro k t u m K e ⟨o,a1,a2,l,rfl,R⟩ hK;rw[(N o a1 a2 l).e];exact turn k t o a1 a2 l m K D.rt D.nx e R (fun G C x y I h=>(N G C x y).e▸hK _ _ ⟨G,C,x,y,rfl,h⟩) (fun _ _ h=>h) (fun _ _ h=>h)
 ·rintro u m ⟨o,a1,a2,l,rfl,R⟩;rw[(N o a1 a2 l).e];exact fin o a1 a2 l m R
theorem zuz(U Z i2 S L:Nat)(Inv:Nat->Option Cell->Option Cell->Option Cell->Option Cell->Option Cell->Nat->Prop){x:Option Cell->Option Cell->Option Cell->Option Cell->Option Cell->En}[N:∀o a1 a2 l u,NormE (((((ρ.set U o).set Z a1).set i2 a2).set S l).set L u) (x o a1 a2 l u)](h0:Inv 0 (ρ.getD U none) (ρ.getD Z none) (ρ.getD i2 none) (ρ.getD S none) (ρ.getD L none) n)
  (turn:∀(k:Nat) (t:ae) (o a1 a2 l u:Option Cell) (m:Nat) (K:En->Nat->Prop) (RT:qN) (BK:En->Nat->Prop),ts[k]?=some t->Inv k o a1 a2 l u m->(∀J G y C I R,Inv (k+1) J G y C I R->K (x J G y C I) R)->(∀t m,D.rt t m->RT t m)->(∀ρ m,D.nx ρ m->BK ρ m)->g t (x o a1 a2 l u) fun v=>tb { nx:=K,rt:=RT,bk:=BK,ct:=K,xr:=D.xr } v m)
  (fin:∀o a1 a2 l u m,Inv ts.length o a1 a2 l u m->D.nx (x o a1 a2 l u) m):forP g tb D ts ρ n:=by
 refine UT (fun k v m=>∃o a1 a2 l u,v=(((((ρ.set U o).set Z a1).set i2 a2).set S l).set L u)/\Inv k o a1 a2 l u m) ⟨_,_,_,_,_,?_,h0⟩ ?_ ?_
 ·rw[Qx,Qx,Qx,Qx,Qx]
 ·rintro k t v m K e ⟨o,a1,a2,l,u,rfl,Y⟩ hK;rw[(N o a1 a2 l u).e];exact turn k t o a1 a2 l u m K D.rt D.nx e Y (fun J G y C I R h=>(N J G y C I).e▸hK _ _ ⟨J,G,y,C,I,rfl,h⟩) (fun _ _ h=>h) (fun _ _ h=>h)
 ·rintro v m ⟨o,a1,a2,l,u,rfl,Y⟩;rw[(N o a1 a2 l u).e];exact fin o a1 a2 l u m Y
theorem zpj{i j:Nat}{u:DTS}{D:Qb}{G nn y C:En}{n:Nat}{ns:List Int}{k:Int}[ej:GetN (some (.val (SCR ns))::G) j (some (.val (.int k)))][e1:NoneN G nn][e2:SetN (some (.val (SCR ns))::nn) j (some (.val (.int k))) y][e3:SetN y i (some (.val HAND)) C](U:ns.length<=63)(R:0<=k)(S:k<=100)
  (h:∀(L:En->Nat->Prop) (I:qN) (N J:En->Nat->Prop),(∀x m,D.nx (JX x) n->L x m)->(∀b m,D.rt (.bool b) n->I (.bool b) m)->(∀x m,D.bk (JX x) n->N x m)->(∀x m,D.ct (JX x) n->J x m) ->
   u { nx:=L,rt:=I,bk:=N,ct:=J } C 0):YG i j u D (some (.val (SCR ns))::G) n:=by
 refine zrj (ρd:=some (.val (SCR ns))::nn) rfl ej.e U R S ?_ ?_
 ·show some (Cell.val (SCR ns))::bZ (eJ (some (Cell.val (SCR ns))::G) - 1) none=_
  rw[aF,Nat.add_sub_cancel,e1.e]
 ·rw[e2.e,e3.e];exact h _ _ _ _ (fun _ _ h=>h) (fun b _ h=>⟨b,rfl,h⟩) (fun _ _ h=>h) (fun _ _ h=>h)
theorem zlR{c:DTT}{tb:DTS}{D:Qb}{ρ:En}{n:Nat}(Inv:Nat->En->Nat->Prop){m:Nat}(h0:Inv m ρ n)
  (turn:∀m ρ n (K:En->Nat->Prop) (x:qN) (v:En->Nat->Prop),Inv m ρ n->(∀o l u,o<m->Inv o l u->K l u)->(∀t m,D.rt t m->x t m)->(∀ρ m,D.nx ρ m->v ρ m) ->
   c ρ n fun b y=>if b=true then tb { nx:=K,rt:=x,bk:=v,ct:=K,xr:=D.xr } ρ y else v ρ y):zl_ c tb D ρ n :=
 zhf Inv h0 fun m ρ n h=>turn m ρ n (fun l u=>∃o,o<m/\Inv o l u) D.rt D.nx h (fun o _ _ a b=>⟨o,a,b⟩) (fun _ _ h=>h) (fun _ _ h=>h)
end
open Builtin Builtin.Str
def cutS(x:Str)(lo hi:Option Int):Str:=⟨((x.cps.toList.drop (HT.sIx x.length 0 lo)).take (HT.sIx x.length x.length hi - HT.sIx x.length 0 lo)).toArray⟩
theorem VY(n d:Nat)(i:Int):((HT.sIx n d (some i):Nat):Int)=max 0 (min (if i<0 then i+(n:Int) else i) (n:Int)):=by
 simp only[HT.sIx]
 by_cases h:i<0
 ·simp only[h,if_true] <;> lia
 ·simp only[h,if_false] <;> lia
theorem zsi(lo hi:Option Int)(n:Nat):strSliceIndices lo hi 1 n=sliceRange ((HT.sIx n 0 lo:Nat):Int) ((HT.sIx n n hi:Nat):Int) 1:=by
 have l:((HT.sIx n 0 none:Nat):Int)=0:=by simp[HT.sIx]
 have o:((HT.sIx n n none:Nat):Int)=n:=by simp[HT.sIx]
 cases lo with
 | none =>
  cases hi with
  | none=>rw[l,o];rfl
  | some j=>rw[l,VY];rfl
 | some i =>
  cases hi with
  | none=>rw[o,VY];rfl
  | some j=>rw[VY,VY];rfl
theorem zl3(x:Str)(lo hi:Option Int):o7 x lo hi=cutS x lo hi:=by
 have e:strSliceIndices lo hi 1 x.length=(dW (HT.sIx x.length x.length hi - HT.sIx x.length 0 lo)).map (HT.sIx x.length 0 lo+·):=by rw[zsi,rn]
 have o:(strSliceIndices lo hi 1 x.length).filterMap (x.cps[·]?)=(x.cps.toList.drop (HT.sIx x.length 0 lo)).take (HT.sIx x.length x.length hi - HT.sIx x.length 0 lo):=by rw[e,vk]
 unfold o7;split
 ·rename_i h;have u:(strSliceIndices lo hi 1 x.length).length=x.length:=by simpa using h
  rw[e,aM,List.length_range]at u;unfold cutS;have v:HT.sIx x.length x.length hi<=x.length:=by
   cases hi with
   | none=>simp[HT.sIx]
   | some i=>simp only[HT.sIx];split <;> lia
  have z:HT.sIx x.length 0 lo=0\/x.length=0:=by lia
  have:(x.cps.toList.drop (HT.sIx x.length 0 lo)).take (HT.sIx x.length x.length hi - HT.sIx x.length 0 lo)=x.cps.toList:=by
   have sz:x.cps.toList.length=x.length:=by simp[lU]
   rcases z with z|z
   ·rw[z,kI,cu (by lia)]
   ·have:x.cps.toList=[]:=eQ.mp (by lia)
    rw[this];simp
  rw[this]
 ·rw[o];rfl
section
variable{X:Cx}
theorem zgm{v:ah}{p:Option Int}(h:kD v p):∃l:Option (Int×Tok),v=partValue l/\l.map (·.1)=p:=by
 cases h with
 | none=>exact⟨none,rfl,rfl⟩
 | int i t=>exact⟨some (i,t),rfl,rfl⟩
def rSlS:V->Option Int->Option Int->Hp->VK->Prop:=fun x lo hi H Q=>∃z,x=.str z/\z.length<=sizeLine/\Q (.str (cutS z lo hi)) H
theorem zsl:SlR X rSlS:=by
 intro ad s σ H x v S U lo hi J Q I G L pl R h;obtain⟨z,rfl,N,q⟩:=h;obtain⟨t,rfl⟩:=G;obtain⟨l,rfl,rfl⟩:=zgm pl;obtain⟨u,rfl,rfl⟩:=zgm R;have C:s.heap.IsSlice J l u none:=L;refine⟨"str",_,F.slot_str_getitem.lookup,rm _ _ _,wpAny_getItem_str_slice (l:=l) (u:=u) (st:=none) C rfl (post_val_or_str ?_)⟩;have e:(if (((none:Option (Int×Tok)).map (·.1)).getD 1 == 1&&(slicePicked z l u none).length == z.length)=true then z else⟨((slicePicked z l u none).filterMap (z.cps[·]?)).toArray⟩)=o7 z (l.map (·.1)) (u.map (·.1)):=rfl
 rw[e];refine⟨cy (Txt.slice_le z _ _) N,fun t' k=>⟨.str (o7 z (l.map (·.1)) (u.map (·.1))),H,I.tok _,⟨_,rfl⟩,?_⟩⟩
 rw[zl3];exact q
def oSlA(t:ae)(lo hi:Option Int)(R:ae->Prop):Prop:=match t with
 | .tuple ts=>R (.tuple (cutD ts lo hi))
 | .str x=>x.length<=16777216/\R (.str (cutS x lo hi))
 | _=>False
def dSlA(d:DTE)(dl o:DTO):DTE:=fun l n R=>d l n fun t v=>dl l v fun lo x=>o l x fun hi u=>oSlA t lo hi fun z=>R z u
variable{e a b iter tg:aZ}{d da db:DTE}{lo hi:Option aZ}{dlo dhi:DTO}{pos p2:Pos}
theorem QI(h:DL X e d)(hl:DP X lo dlo)(hu:DP X hi dhi):DE X (.Subscript e (.Slice lo hi none p2) pos) (dSlA d dlo dhi):=by
 obtain⟨ta,pa,h⟩:=h;obtain⟨tl,pl,hl⟩:=hl;obtain⟨tu,pu,hu⟩:=hu;refine⟨_,zjZ (SlR.or (SlR.or zsk zqp) zsl) pa pl pu,fun C N σ H n Q R S hd U=>?_⟩
 refine h C N σ H n _ _ S hd fun t n1 v H1 r1 I h1 q1=>?_
 have S1:=S.on I h1;refine hl C N σ H1 n1 _ _ S1 r1 fun lo n2 H2 r2 G h2=>?_
 have S2:=S1.on G h2;refine hu C N σ H2 n2 _ _ S2 r2 fun hi Z H3 x y J=>?_
 have S3:=S2.on y J;have Y:=(G.trans y).repT S.hx q1;cases t with
 | tuple ts =>
  obtain⟨a,o,rfl,hs,rs⟩:=Y.tupI
  by_cases w:HT.sIx o.length 0 lo=0/\HT.sIx o.length o.length hi=o.length
  ·refine .inl (.inr ⟨a,o,rfl,hs,w,U _ Z _ H3 x (I.trans (G.trans y)) J ?_⟩);rw[zly (by rw[<- rs.length];exact w)]
   exact Y.rep (by intro _ z;cases z)
  ·refine .inl (.inl ⟨a,o,rfl,hs,w,fun p L=>U _ Z _ _ x (I.trans (G.trans (y.trans (ExtE.new L)))) (J.same (JY L)) ?_⟩)
   exact .newT (S3.free L) L (zkA rs lo hi)
 | str z =>
  rw[Y.strI];exact .inr ⟨z,rfl,x.1,U _ Z _ H3 x.2 (I.trans (G.trans y)) J (.str _)⟩
 | _=>exact x.elim
def repS(x:Str)(n:Int):Str:=⟨(bZ n.toNat x.cps.toList).flatten.toArray⟩
theorem zir(x:Array Nat):∀(n:Nat) (acc:Array Nat),(bZ n x).foldl (·++·) acc=(acc.toList++(bZ n x.toList).flatten).toArray
 | 0,acc=>by simp
 | n+1,acc=>by
  rw[cg,fZ,zir x n,cg,k8];simp
theorem zqP:OpR X (binaryOp .Mult) (fun x y H Q=>∃i j,x=.str i/\y=.int j/\-100000<=j/\j<=100000/\i.length<=100/\Q (.str (repS i j)) H):=by
 intro ad s σ H x y v u Q I L G h;obtain⟨i,j,rfl,rfl,Z,j1,hi,q⟩:=h;obtain⟨t,rfl⟩:=L;obtain⟨t',rfl⟩:=G;have R:decide (j < -(2 ^ 63:Int))=false:=decide_eq_false (by lia)
 have N:decide (j>=2 ^ 63)=false:=decide_eq_false (by lia)
 have C:∀n:Nat,n<=100000->i.length*n<=10000000:=fun n J=>Nat.mul_le_mul hi J
 refine P.mul_str (by rw[R,N];rfl) (fun U _ Y=>?_) (fun U _=>?_) ?_
 ·have h3:(100:Int)<=(2 ^ 63 - 1) / j:=by
   apply Int.le_ediv_of_mul_le (by lia)
   lia
  lia
 ·have:=C j.toNat (by lia)
  unfold tooLong;exact decide_eq_false (by have:sizeLine=16777216:=rfl;lia)
 ·by_cases c1:j<1
  ·rw[if_pos c1];have e:repS i j=kc:=by
    unfold repS;rw[show j.toNat=0 by lia];rfl
   rw[e]at q;exact⟨by decide,.str kc,H,I.tok _,⟨_,rfl⟩,q⟩
  ·rw[if_neg c1]
   by_cases c2:(j == 1||i.length == 0)=true
   ·rw[if_pos c2];have e:repS i j=i:=by
     unfold repS;rw[mE,beq_iff_eq,beq_iff_eq]at c2;rcases c2 with c2|c2
     ·subst c2;simp
     ·have z:i.cps.toList=[]:=eQ.mp (by simpa[lU] using c2)
      have S:i.cps=#[]:=by
       have:=congrArg List.toArray z;simpa using this
      rw[z];have:(bZ j.toNat ([]:List Nat)).flatten=[]:=by simp
      rw[this,<- S]
    rw[e]at q;exact⟨.str i,H,I,⟨_,rfl⟩,q⟩
   ·rw[if_neg c2];have e:repS i j=⟨(bZ j.toNat i.cps).foldl (·++·) #[]⟩:=by
     unfold repS;rw[zir];simp
    rw[e]at q;refine⟨?_,.str _,H,I.tok _,⟨_,rfl⟩,q⟩;have:=C j.toNat (by lia)
    show(⟨(bZ j.toNat i.cps).foldl (·++·) #[]⟩:Str).length<=sizeLine
    rw[<- e];unfold repS lU;rw[aB,List.length_flatten,List.map_replicate,List.sum_replicate_nat,eX];have e3:sizeLine=16777216:=rfl;have e4:j.toNat*i.cps.size=i.length*j.toNat:=by rw[mi];rfl
    lia
def Vy:G2
 | .int i,.int j,R=>CMul i j/\R (.int (i*j))
 | .str i,.int j,R=>-100000<=j/\j<=100000/\i.length<=100/\R (.str (repS i j))
 | _,_,_=>False
theorem zqQ:OpR X (binaryOp .Mult) (fun x y H Q=>(rI CMul fun i j=>.int (i*j)) x y H Q\/∃i j,x=.str i/\y=.int j/\-100000<=j/\j<=100000/\i.length<=100/\Q (.str (repS i j)) H):=OpR.or Uj zqP
theorem zrs:Gp2 X (fun x y H Q=>(rI CMul fun i j=>.int (i*j)) x y H Q\/∃i j,x=.str i/\y=.int j/\-100000<=j/\j<=100000/\i.length<=100/\Q (.str (repS i j)) H) Vy:=by
 intro hd O H x y t u Q R dom C o g v;unfold Vy at g;split at g
 ·rw[C.intI,o.intI];exact .inl ⟨_,_,rfl,rfl,g.1,v _ _ H g.2 (Same.refl _) (.int _)⟩
 ·rw[C.strI,o.intI];exact .inr ⟨_,_,rfl,rfl,g.1,g.2.1,g.2.2.1,v _ _ H g.2.2.2 (Same.refl _) (.str _)⟩
 ·exact g.elim
theorem zrJ(v:DL X a da)(o:DL X b db):DE X (.BinOp a .Mult b pos) (dOp Vy da db):=Uc zqQ zrs v o
end
section
variable{X:Cx}{a b:aZ}{rest:List aZ}{ta tb:TE}{da db:DTE}{pos:Pos}
def tOrA(K:qF)(ta tb:TE):TE:=fun σ H Q=>ta σ H fun x l=>∃k,TruV K x l k/\if k=true then Q x l else tb σ l Q
theorem zsU(R:PE X a ta)(N:PE X (.BoolOp .Or (b::rest) pos) tb):PE X (.BoolOp .Or (a::b::rest) pos) (tOrA X.K ta tb):=by
 intro ad s σ H Q I h;refine BoolOp_or (thn (R ad s σ H _ I h) fun v s1 ⟨x,J,S,C,u⟩=>?_)
 obtain⟨k,e,u⟩:=u;refine thn (zpN ad s1 σ J x v (fun c H'=>c=k/\H'=J) S C ⟨k,e,rfl,rfl⟩) fun c s2 L=>?_
 obtain⟨y,G,rfl,rfl⟩:=L;cases c with
 | false=>exact N ad s2 σ y Q G u
 | true=>exact⟨x,y,G,C,u⟩
def dOrA(da db:DTE):DTE:=fun o n R=>da o n fun t l=>truD t fun b=>if b=true then R t l else db o l R
theorem zuL(h:DE X a da)(h':DE X (.BoolOp .Or (b::rest) pos) db):DE X (.BoolOp .Or (a::b::rest) pos) (dOrA da db):=by
 obtain⟨ta,pa,h⟩:=h;obtain⟨tb,Z,h'⟩:=h';refine⟨_,zsU pa Z,fun C I σ H n Q R S hd J=>?_⟩
 refine h C I σ H n _ _ S hd fun t y v u r x N L=>?_
 refine zpO (Q:=fun k u=>if k=true then Q v u else tb σ u Q) (.inl L) r fun b G=>?_
 cases b with
 | true=>exact iteT (J _ y _ u G x N L)
 | false=>exact iteF (h' C I σ u y Q R (S.on x N) G fun t n2 v U r e2 Y q2=>J t n2 v U r (x.trans e2) Y q2)
end
section
variable{ρ:En}{n:Nat}{d da db:DTE}{dlo dhi:DTO}{R:qN}{Rl:List ae->Nat->Prop}{Q:ae->Prop}{xs:qD}{lo hi:Option Int}{x:Str}{i j:Int}{Ql:List ae->Prop}
instance zxB:Stp (dOrA da db ρ n R) (da ρ n fun t n1=>truD t fun b=>if b=true then R t n1 else db ρ n1 R):=⟨fun h=>h⟩
instance zxy:Stp (dSlA d dlo dhi ρ n R) (d ρ n fun t n1=>dlo ρ n1 fun lo n2=>dhi ρ n2 fun hi n3=>oSlA t lo hi fun z=>R z n3):=⟨fun h=>h⟩
instance zxi:Stp (oSlA (.tuple xs) lo hi Q) (Q (.tuple (cutD xs lo hi))):=⟨fun h=>h⟩
instance zxj:Stp (oSlA (.str x) lo hi Q) (x.length<=16777216/\Q (.str (cutS x lo hi))):=⟨fun h=>h⟩
instance zxo:Stp (Vy (.str x) (.int j) Q) (-100000<=j/\j<=100000/\x.length<=100/\Q (.str (repS x j))):=⟨fun h=>h⟩
end
mutual
def plnD:ae->Bool
 | .dict []=>true
 | .dict _=>false
 | .tuple ts=>decide (ts.length<=1000000)&&YF ts
 | .list ts=>decide (ts.length<=1000000)&&YF ts
 | .str x=>decide (x.length<=1000000)
 | _=>true
def YF:List ae->Bool
 | []=>true
 | t::ts=>plnD t&&YF ts
end
def PlnD(d:ae):Prop:=plnD d=true
theorem Wh:∀{ts:qD},YF ts=true↔∀t∈ts,PlnD t
 | []=>by simp[YF]
 | t::ts=>by
  rw[YF,aY,Wh (ts:=ts)];constructor
  ·rintro⟨a,b⟩ u l;rcases az.mp l with rfl|l
   ·exact a
   ·exact b u l
  ·intro h;exact⟨h t (by simp),fun u l=>h u (by simp[l])⟩
theorem PlnD.tup{ts:qD}(h:PlnD (.tuple ts)):ts.length<=1000000/\∀t∈ts,PlnD t:=by
 unfold PlnD plnD at h;rw[aY,decide_eq_true_iff,Wh]at h;exact h
theorem zjY{ts:qD}(l:ts.length<=1000000)(h:∀t∈ts,PlnD t):PlnD (.tuple ts):=by
 unfold PlnD plnD;rw[aY,decide_eq_true_iff,Wh];exact⟨l,h⟩
theorem zoS{ts:qD}(l:ts.length<=1000000)(h:∀t∈ts,PlnD t):PlnD (.list ts):=by
 unfold PlnD plnD;rw[aY,decide_eq_true_iff,Wh];exact⟨l,h⟩
theorem Wb{x:Str}(h:x.length<=1000000):PlnD (.str x):=by unfold PlnD plnD;exact decide_eq_true h
theorem zoT{i:Int}:PlnD (.int i):=by unfold PlnD plnD;rfl
theorem zms:PlnD .none:=by unfold PlnD plnD;rfl
theorem PlnD.pln{d:ae}(h:PlnD d):Pln d:=by
 cases d with
 | dict l =>
  cases l with
  | nil=>exact UB
  | cons a b=>cases a with|mk x y=>simp[PlnD,plnD]at h
 | none=>exact UD
 | bool=>exact Uq
 | int=>exact Ur
 | str=>exact Ux
 | list=>exact UC
 | tuple=>exact Uz
def IsNm(s:Str):Prop:=1<=s.length/\s.length<=8/\∀c∈s.cps.toList,97<=c/\c<=122
theorem QE(s:Str):s.cps.toList.length=s.length:=by simp[lU]
theorem zjG(a b:Str):(a++b).cps.toList=a.cps.toList++b.cps.toList:=by
 show(a.cps++b.cps).toList=_
 simp
theorem Str.ext'{a b:Str}(h:a.cps.toList=b.cps.toList):a=b:=by
 cases a with|mk a =>
 cases b with|mk b =>
 have:a=b:=oY.mp h;rw[this]
theorem ztL{x:Str}{i:Int}{k c:Nat}{R:ae->Prop}(l:x.length<=16777216)(hi:i=(k:Int))(e:x.cps.toList[k]?=some c)(h:R (.str ⟨#[c]⟩)):oIx (.str x) (.int i) R:=by
 subst hi;have a:atI x.cps.toList (k:Int)=some c:=Bd.Ve (by lia) (by simpa using e)
 show x.length<=16777216/\(match atI x.cps.toList (k:Int) with|some c=>R (.str ⟨#[c]⟩)|none=>False)
 rw[a];exact⟨l,h⟩
theorem letters{k:Nat}(h:k<26):(af "abcdefghijklmnopqrstuvwxyz").cps.toList[k]?=some (97+k):=by
 have:∀i:Fin 26,(af "abcdefghijklmnopqrstuvwxyz").cps.toList[i.val]?=some (97+i.val):=by decide +kernel
 exact this ⟨k,h⟩
theorem zfu{x:Str}{i:Int}{k:Nat}(h:i=(k:Int)):(cutS x none (some i)).cps.toList=x.cps.toList.take k:=by
 subst h;unfold cutS;rw[HT.zeK,HT.ziZ];simp only[kI,um];rw[<- QE x];simp[List.take_eq_take_iff]
theorem zix{x:Str}{i:Int}{k:Nat}(h:i=(k:Int))(l:k<=x.length):(cutS x (some i) none).cps.toList=x.cps.toList.drop k:=by
 subst h;unfold cutS;rw[HT.zeK,HT.ziZ,mC l];show(List.take _ (List.drop k x.cps.toList))=_
 rw[cu (by rw[gG,QE];lia)]
def OkK(k:Nat)(t:ae):Prop:=t.canLay0=true/\t.depth<=k
theorem OkK.okd{k:Nat}{t:ae}(h:OkK k t)(l:k<=60:=by decide):Okd t:=⟨h.1,cy h.2 l⟩
theorem zmN{i:Int}:OkK 0 (.int i):=⟨by simp[cE],by simp[e9]⟩
theorem zj2:OkK 0 .none:=⟨by simp[cE],by simp[e9]⟩
theorem Ye{s:Str}(h:cE (.str s)=true):OkK 0 (.str s):=⟨h,by simp[e9]⟩
theorem OkK.mono{k o:Nat}{t:ae}(h:OkK k t)(l:k<=o):OkK o t:=⟨h.1,cy h.2 l⟩
theorem zjc{k:Nat}:∀{ts:qD},(∀t∈ts,OkK k t)->bU ts=true/\cZ ts<=k
 | [],_=>⟨by simp[bU],by simp[cZ]⟩
 | t::ts,h=>by
  obtain⟨a,b⟩:=zjc (ts:=ts) fun u l=>h u (by simp[l])
  have c:=h t (by simp)
  refine⟨by simp[bU,c.1,a],?_⟩
  have:=c.2;simp only[cZ];lia
theorem zjb{k:Nat}{ts:qD}(h:∀t∈ts,OkK k t):OkK (k+1) (.tuple ts):=by
 obtain⟨a,b⟩:=zjc h;exact⟨by simpa only[cE] using a,by simp only[e9];lia⟩
theorem zmM{k:Nat}{ts:qD}(h:∀t∈ts,OkK k t):OkK (k+1) (.list ts):=by
 obtain⟨a,b⟩:=zjc h;exact⟨by simpa only[cE] using a,by simp only[e9];lia⟩
theorem ztj{b:Int×Int}:OkK 1 (prD b):=zjb fun t l=>by
 simp only[az,aO,or_false]at l;rcases l with rfl|rfl <;> exact zmN
theorem ztn{s:Str}(h:IsNm s):OkK 0 (.str s):=Ye (by
 simp only[cE];show(s.cps.all (·<0x110000))=true
 rw[<- Array.all_toList,bM];intro c hc;have:=h.2.2 c hc;exact decide_eq_true (by lia))
theorem zpp{xs:qD}:eD (.list xs) (.list [])=xs.isEmpty:=by
 cases xs with
 | nil=>rfl
 | cons a b=>rfl
theorem Yj{α:Type}{cs:List α}{D:α->ae}{tg:DTG}{tt:DTT}{d:DTE}{ρ0:En}{n:Nat}{Rl:List ae->Nat->Prop}(p:α->Bool)(F:α->ae)(I:cs.length<=16777216)
  (step:∀b∈cs,∀(K:qN) (X:Nat->Prop),(p b=true->K (F b) n)->(p b=false->X n)->tg (D b) ρ0 fun u=>tt u n fun c y=>if c=true then d u y K else X y) (fin:Rl ((cs.filter p).map F) n):JS tg tt d ρ0 (cs.map D) [] n Rl:=by
 refine znQ (fun j acc m=>m=n/\acc=((cs.take j).filter p).map F) ⟨rfl,rfl⟩ ?_ ?_
 ·rintro j x acc m K o ⟨rfl,rfl⟩ hK;rw[bp]at o;cases eb:cs[j]? with
  | none=>rw[eb]at o;cases o
  | some b =>
   rw[eb]at o;cases o;obtain⟨C,G⟩:=av.mp eb;have tk:cs.take (j+1)=cs.take j++[b]:=by rw[dF,eb];rfl
   refine step b (aH eb) _ _ (fun v=>⟨?_,hK _ _ ⟨rfl,?_⟩⟩) (fun v=>hK _ _ ⟨rfl,?_⟩)
   ·have:=iF p (cs.take j);simp at this ⊢;lia
   ·rw[tk,nZ,eh];simp[v]
   ·rw[tk,nZ,eh];simp[v]
 ·rintro acc m ⟨rfl,rfl⟩;rw[aM,fe];exact fin
theorem zoN{x:Str}{n:Int}:(repS x n).cps.toList=(bZ n.toNat x.cps.toList).flatten:=rfl
theorem ztM{xs:qD}{r:Int}{R:ae->Prop}(u:0<=r)(v:r<xs.length)(h:∀x∈xs,R x):oIx (.list xs) (.int r) R:=by
 have o:r.toNat<xs.length:=by omega
 rw[Yv (Bd.Ve u (ak o))];exact h _ (c9 o)
theorem zpA{ts:qD}:cutD ts none (some (-1))=ts.take (ts.length - 1):=by
 unfold cutD;have e:HT.sIx ts.length ts.length (some (-1))=ts.length - 1:=by
  have:HT.sIx ts.length ts.length (some (-1))=if (-1:Int)<0 then((-1:Int)+(ts.length:Int)).toNat else min (-1:Int).toNat ts.length:=by
   first|rfl|(unfold HT.sIx;rfl)|(simp[HT.sIx];done)
  rw[this,if_pos (by decide)];omega
 rw[HT.zeK,e];simp
section
variable{prog:aQ}{w:bz}{A:br}{R:lh->aw->Prop}{s:aw}{elt tg1 it1 tg2 it2:aZ}{HM Hx:List aZ}{scope:fA}{pos:Pos}{it acc:ah}{env:Env}
theorem ziD(it acc:ah)(env:Env):compTurn (.ListComp elt [⟨tg1,it1,HM,0⟩,⟨tg2,it2,Hx,0⟩] scope pos) 0 it acc env=(do
      standAt it1.pos
      match <- pyNext it with
      | none=>pure (.done .next)
      | some v =>
       letOwnedTupleGo tg1 it v
       assign tg1 env v
       let mut ok:=true
       for c in HM do
        if ok then ok <- isTrue c env (eval c env)
       if ok then
        let x <- eval it2 env
        standAt it2.pos
        let x <- foldedSetIterable it2 env x
        let _ <- runOwn (.compStart (.ListComp elt [⟨tg1,it1,HM,0⟩,⟨tg2,it2,Hx,0⟩] scope pos) 1 (<- holding [x] (pyIter x)) acc env) env
       again (.compLoop (.ListComp elt [⟨tg1,it1,HM,0⟩,⟨tg2,it2,Hx,0⟩] scope pos) 0 it acc env)):=by rfl
theorem zjA(it acc:ah)(env:Env):compTurn (.ListComp elt [⟨tg1,it1,HM,0⟩,⟨tg2,it2,Hx,0⟩] scope pos) 1 it acc env=(do
      standAt it2.pos
      match <- pyNext it with
      | none=>pure (.done .next)
      | some v =>
       letOwnedTupleGo tg2 it v
       assign tg2 env v
       let mut ok:=true
       for c in Hx do
        if ok then ok <- isTrue c env (eval c env)
       if ok then
        (do let _ <- call (.builtin "list.append") [acc,<- eval elt env])
       again (.compLoop (.ListComp elt [⟨tg1,it1,HM,0⟩,⟨tg2,it2,Hx,0⟩] scope pos) 1 it acc env)):=by rfl
theorem zov(I:Nat->aw->Prop)
  (turn:∀n s,I n s->wpAny (model prog w) A (pyNext it) (fun r y=>match r with
   | none=>R (.ok .next) y
   | some v=>wpAny (model prog w) A (letOwnedTupleGo tg2 it v) (fun _ U=>wpAny (model prog w) A (assign tg2 env v) (fun _ J =>
     wpAny (model prog w) A (forIn Hx true fun c r=>if r=true then do let ok <- isTrue c env (eval c env);pure (bY ok) else pure (bY r)) (fun ok G =>
      if ok=true then wpAny (model prog w) A (eval elt env) (fun x S=>wpAny (model prog w) A (call (.builtin "list.append") [acc,x]) (fun _ Z=>∃m,m<n/\I m Z) NoX S) NoX G
      else ∃m,m<n/\I m G) NoX J) NoX U) NoX y) NoX s) (n:Nat) (h:I n s) :
  codeAny (model prog w) A (.compLoop (.ListComp elt [⟨tg1,it1,HM,0⟩,⟨tg2,it2,Hx,0⟩] scope pos) 1 it acc env) R s:=by
 refine lW rfl I (fun n s hI=>?_) n h
 show wpAny _ A ((compTurn (.ListComp elt [⟨tg1,it1,HM,0⟩,⟨tg2,it2,Hx,0⟩] scope pos) 1 it acc env).onRaise (fun x=>do noteFrame x env;theTreesLotGoes x)) _ _ s
 refine mV (eu (E:=NoX) ?_ (fun _ _ q=>q) fun _ _ z=>dm z)
 rw[zjA];refine aa (dE (aa (thn (turn n s hI) fun r y N=>?_)))
 cases r with
 | none=>exact aj N
 | some v =>
  refine aa (thn N fun _ U h₂=>aa (thn h₂ fun _ J h₃=>aa (thn h₃ fun ok G Y=>?_)))
  cases ok with
  | false=>exact aj ⟨rfl,Y⟩
  | true =>
   refine aa (aa (thn Y fun x S h₅=>aa (thn h₅ fun _ Z h₆=>?_)))
   exact aj (aj ⟨rfl,h₆⟩)
theorem zlV(hs:∀x,foldedSetIterable it2 env x=pure x)(I:Nat->aw->Prop)
  (turn:∀n s,I n s->wpAny (model prog w) A (pyNext it) (fun r l=>match r with
   | none=>R (.ok .next) l
   | some v=>wpAny (model prog w) A (letOwnedTupleGo tg1 it v) (fun _ N=>wpAny (model prog w) A (assign tg1 env v) (fun _ y =>
     wpAny (model prog w) A (forIn HM true fun c r=>if r=true then do let ok <- isTrue c env (eval c env);pure (bY ok) else pure (bY r)) (fun ok u =>
      if ok=true then wpAny (model prog w) A (eval it2 env) (fun x J=>wpAny (model prog w) A (pyIter x) (fun itv Z =>
       codeAny (model prog w) A (.compStart (.ListComp elt [⟨tg1,it1,HM,0⟩,⟨tg2,it2,Hx,0⟩] scope pos) 1 itv acc env) (fun r Y=>r=.ok .next/\∃m,m<n/\I m Y) Z) NoX J) NoX u
      else ∃m,m<n/\I m u) NoX y) NoX N) NoX l) NoX s) (n:Nat) (h:I n s) :
  codeAny (model prog w) A (.compLoop (.ListComp elt [⟨tg1,it1,HM,0⟩,⟨tg2,it2,Hx,0⟩] scope pos) 0 it acc env) R s:=by
 refine lW rfl I (fun n s hI=>?_) n h
 show wpAny _ A ((compTurn (.ListComp elt [⟨tg1,it1,HM,0⟩,⟨tg2,it2,Hx,0⟩] scope pos) 0 it acc env).onRaise (fun x=>do noteFrame x env;theTreesLotGoes x)) _ _ s
 refine mV (eu (E:=NoX) ?_ (fun _ _ q=>q) fun _ _ z=>dm z)
 rw[ziD];refine aa (dE (aa (thn (turn n s hI) fun r l G=>?_)))
 cases r with
 | none=>exact aj G
 | some v =>
  refine aa (thn G fun _ N h₂=>aa (thn h₂ fun _ y h₃=>aa (thn h₃ fun ok u U=>?_)))
  cases ok with
  | false=>exact aj ⟨rfl,U⟩
  | true =>
   refine aa (thn U fun x J h₅=>aa (dE (aa (k6 (hs x) (aa (cf (thn h₅ fun itv Z h₆=>?_)))))))
   refine aa (wpAny_runOwn (lR h₆ fun r Y h₇=>?_))
   obtain⟨rfl,m,hm,hI'⟩:=h₇;exact aj ⟨rfl,m,hm,hI'⟩
theorem zoz
  (h0:codeAny (model prog w) A (.compLoop (.ListComp elt [⟨tg1,it1,HM,0⟩,⟨tg2,it2,Hx,0⟩] scope pos) 1 it acc env) R s)
  (h:wpAny (model prog w) A (pyIter it) (fun l s'=>codeAny (model prog w) A (.compLoop (.ListComp elt [⟨tg1,it1,HM,0⟩,⟨tg2,it2,Hx,0⟩] scope pos) 1 l acc env) R s')
   (notedBy (model prog w) A env fun x s'=>R (.error x) s') s) :
  codeAny (model prog w) A (.compStart (.ListComp elt [⟨tg1,it1,HM,0⟩,⟨tg2,it2,Hx,0⟩] scope pos) 1 it acc env) R s:=by
 refine codeAny_of_tree ?_;show wpAny _ _ ((compStart (.ListComp elt [⟨tg1,it1,HM,0⟩,⟨tg2,it2,Hx,0⟩] scope pos) 1 it acc env).onRaise (fun x=>do noteFrame x env;standAt theWindowsPlace)) _ _ s
 refine wpAny_notedAt ?_;unfold compStart;show wpAny _ _ (PySem.ask >>= _) _ _ s
 refine aa (wpAny_askSetting (wpAny_ite ?_));split
 ·first
   | exact aa (aj (aj (nv rfl h0)))
   | exact aj (nv rfl h0)
 ·first
   | exact aa (dw (aa (dE (aa (eu h (fun l s' h'=>aj (nv rfl h')) fun _ _ x=>x)))))
   | (refine aa (dw ?_);show wpAny _ _ (standAt it2.pos >>= _) _ _ s;exact aa (dE (aa (eu h (fun l s' h'=>aj (nv rfl h')) fun _ _ x=>x))))
end
def ZI(g:TG)(tt:TT)(R:TE)(σ:St)(J:It)(S:Hp)(D:au)(Q:Hp->Prop):Prop:=∃W:Nat->Nat->Hp->Prop,(∃m,W 0 m S)/\∀i m u,W i m u ->
 (J.stop i u/\Q u)\/(J.go i u/\∃(N:V->Hp->Prop) (I:Hp->Prop),(∀v G,N v G->∃ys,G D=some (.lst ys)/\ys.length<sizeLine/\∃C,C<m/\W (i+1) C (upd G D (.lst (ys++[v]))))/\(∀y,I y->∃C,C<m/\W (i+1) C y) /\
  ∀x L,J.yld i u x L->g x σ L fun o U=>Wk σ o/\tt o U fun b y=>if b=true then R o y N else I y)
section
variable{Y:Cx}{elt tg1 it1 tg2 it2:aZ}{HM Hx:List aZ}{scope:fA}{pos:Pos}{g:TG}{tt:TT}{te:TE}
theorem znh(u:Y.xe=NoX)(hc:Y.calm=true)(hg:PG Y tg2 g)(ht:PTs Y Hx tt)(he:PE Y elt te){ad:qO}{σ:St}{D:au}{G:ah}{s:aw}{Q:Hp->Prop}{R:lh->aw->Prop}
  (h:PIE Y ad σ tg2 (fun J H1=>ZI g tt te σ J H1 D Q) G s) (hR:∀s' H',Inv Y ad σ H' s'->Q H'->R (.ok .next) s') :
  codeAny (model Y.prog Y.w) Y.A (.compStart (.ListComp elt [⟨tg1,it1,HM,0⟩,⟨tg2,it2,Hx,0⟩] scope pos) 1 G (.ref D) Y.env) R s:=by
 obtain⟨it,fp,tn,J,H2,e,I2,T,I,f2,W,⟨m0,w0⟩,turn⟩:=h;subst e;have loop:codeAny (model Y.prog Y.w) Y.A (.compLoop (.ListComp elt [⟨tg1,it1,HM,0⟩,⟨tg2,it2,Hx,0⟩] scope pos) 1 (.ref it) (.ref D) Y.env) R s:=by
  refine zov (CompI Y ad σ fp tn W) ?_ m0 ⟨0,_,I2,I,fun b U=>(f2 b U).1,w0⟩
  rintro n s4 ⟨i,H4,I4,st4,fr4,w4⟩;refine Wc u hc hg ht T (fun hn b U=>⟨hn b U,(f2 b U).2⟩) I4 st4 fr4 ?_
  rcases turn i n H4 w4 with⟨stop,qn⟩|⟨go,N,N',hN,Z,step⟩
  ·exact .inl ⟨stop,fun s5 I5=>hR _ _ I5 qn⟩
  ·refine .inr ⟨go,fun σ4 H5=>te σ4 H5 N,N',fun {p6 σ7 H8 s8} I8 q8 again=>?_,Z,step⟩
   have a3:=he _ s8 σ7 H8 N I8 q8;rw[u]at a3;refine thn a3 fun y s9 ⟨v,H9,I9,r9,q9⟩=>?_
   obtain⟨ys,hD,hl,m',hm,w9⟩:=hN v H9 q9;have a4:=zfa (X:=Y) _ s9 σ7 H9 (.ref D) [v] _ [y] (fun _ H'=>H'=upd H9 D (.lst (ys++[v]))) I9 rfl (.cons r9 .nil) ⟨_,ys,v,rfl,rfl,hD,hl,rfl⟩
   rw[u]at a4;refine thn a4 fun _ s10 ⟨_,H10,I10,_,q10⟩=>?_
   subst q10;exact again I10 hm w9
 exact zoz loop (T.self Y.A 0 _ _ _ I loop)
end
def zod(own:List Str)(capt:List Nat)(g:TG)(tt:TT)(I:TI)(g2:TG)(G:TT)(S:TE)(σ:St)(J:It)(Y:Hp)(D:au)(Q:VK):Prop:=∃W:Nat->Nat->Hp->Prop,(∃m,W 0 m (upd Y D (.lst [])))/\∀i m u,W i m u ->
 (J.stop i u/\Q (.ref D) u)\/(J.go i u/\∃(N L:Hp->Prop),(∀C,N C->∃y,y<m/\W (i+1) y C)/\(∀v,L v->∃y,y<m/\W (i+1) y v) /\
  ∀x R,J.yld i u x R->g x (Jx own++capS capt σ) R fun o Z=>Wk (Jx own++capS capt σ) o/\tt o Z fun b v=>if b=true then I o v (fun U C=>ZI g2 G S o U C D N) else L v)
def zsf(own:List Str)(capt:List Nat)(v:TI)(g:TG)(tt:TT)(o:TI)(g2:TG)(l:TT)(x:TE):TE:=fun σ H Q=>v σ H fun J u=>∀D,u D=none->zod own capt g tt o g2 l x σ J u D Q
section
variable{X:Cx}{scope:fA}{own:List Str}{capt:List Nat}{elt tg iter tg2 it2:aZ}{ifs Hx:List aZ}{pos:Pos}{wi wi2:TI}{g g2:TG}{tt tt2:TT}{te:TE}
theorem znN(hc:X.calm=true)(S:JB scope own capt X)
  (hg:∀C s₀ H₀ v,PG (Jf X scope own capt C s₀ H₀ v) tg g) (ht:∀C s₀ H₀ v,PTs (Jf X scope own capt C s₀ H₀ v) ifs tt) (hi2:∀C s₀ H₀ v,PI (Jf X scope own capt C s₀ H₀ v) tg2 it2 wi2)
  (hg2:∀C s₀ H₀ v,PG (Jf X scope own capt C s₀ H₀ v) tg2 g2) (ht2:∀C s₀ H₀ v,PTs (Jf X scope own capt C s₀ H₀ v) Hx tt2) (he:∀C s₀ H₀ v,PE (Jf X scope own capt C s₀ H₀ v) elt te)
  (hs2:∀(C:au) (x:ah),foldedSetIterable it2 (compEnvC scope (closed X.env scope.names []) C X.env) x=pure x)
  {ad:qO} {σ:St} {Q:VK} {I:ah} {s2:aw} {E:qV} {RR:ah->au->lh->aw->Prop}
  (h2:PIE X ad σ tg (fun J H1=>∀D,H1 D=none->zod own capt g tt wi2 g2 tt2 te σ J H1 D Q) I s2)
  (hR:∀D C s' H',(∃m,s'.heap.Ns C m)->(∀h'',eZ C s'.heap h''->Inv X ad σ H' { s' with heap:=h'' })->H' C=none->FpOk X ad H' C->Q (.ref D) H'->RR (.ref D) C (.ok .next) s') :
  wpAny (model X.prog X.w) X.A (newList []) (fun acc U=>wpAny (model X.prog X.w) X.A (newFunctionEnv scope X.env.globals (closed X.env scope.names []) [] X.env.qual none .none (some X.env)) (fun u G =>
   codeAny (model X.prog X.w) X.A (.compStart (.ListComp elt [⟨tg,iter,ifs,0⟩,⟨tg2,it2,Hx,0⟩] scope pos) 0 I acc { u with scope:=relabel scope X.env }) (RR acc u.locals) G) E U) E s2:=by
 refine ziB (CA:=fun acc u G=>codeAny (model X.prog X.w) X.A (.compStart (.ListComp elt [⟨tg,iter,ifs,0⟩,⟨tg2,it2,Hx,0⟩] scope pos) 0 I acc u) (RR acc u.locals) G) S h2 fun it v tn J H2 D C h₁ e T rd hnD Z fr0 J0 Ip out=>?_
 subst e;obtain⟨W,⟨m0,w0⟩,turn⟩:=rd _ hnD;have loop:∀tk:Tok,codeAny (model X.prog X.w) X.A (.compLoop (.ListComp elt [⟨tg,iter,ifs,0⟩,⟨tg2,it2,Hx,0⟩] scope pos) 0 (.ref it) (.ref D) (compEnvC scope (closed X.env scope.names []) C X.env)) (RR (.ref D) C) { s2 with heap:=h₁,toks:=tk }:=fun tk=>by
  refine zlV (hs2 _) (CompI (Jf X scope own capt C s2 H2 v) [] (Jx own++capS capt σ) v tn W) ?_ m0 ⟨0,_,J0 tk,Z,fr0,w0⟩;rintro n s4 ⟨i,H4,I4,st4,fr4,w4⟩;refine Wc (Y:=Jf X scope own capt C s2 H2 v) rfl hc (hg _ _ _ _) (ht _ _ _ _) T Ip I4 st4 fr4 ?_;rcases turn i n H4 w4 with⟨stop,qn⟩|⟨go,N,N',hN,hN',step⟩
  ·exact .inl ⟨stop,fun s5 I5=>let ⟨o1,o2,o3,o4⟩:=out s5 H4 I5;hR _ _ s5 H4 o1 o2 o3 o4 qn⟩
  ·refine .inr ⟨go,fun R H5=>wi2 R H5 (fun J2 H6=>ZI g2 tt2 te R J2 H6 D N),N',fun {p6 σ7 H8 s8} I8 q8 again=>?_,hN',step⟩
   refine thn (hi2 _ _ _ _ _ s8 σ7 H8 _ I8 q8) fun y s9 h9=>thn h9 fun itv2 s10 h10=>?_
   refine znh (Y:=Jf X scope own capt C s2 H2 v) rfl hc (hg2 _ _ _ _) (ht2 _ _ _ _) (he _ _ _ _) h10 fun s' H' I' q'=>⟨rfl,?_⟩
   obtain⟨m',hm,w9⟩:=hN H' q';exact again I' hm w9
 exact lX (loop _) (T.self X.A 0 _ _ _ Z (loop _))
theorem zmw(hc:X.calm=true)(S:JB scope own capt X)(hi:PI X tg iter wi)
  (hg:∀C s₀ H₀ l,PG (Jf X scope own capt C s₀ H₀ l) tg g) (ht:∀C s₀ H₀ l,PTs (Jf X scope own capt C s₀ H₀ l) ifs tt) (N:∀C s₀ H₀ l,PI (Jf X scope own capt C s₀ H₀ l) tg2 it2 wi2)
  (u:∀C s₀ H₀ l,PG (Jf X scope own capt C s₀ H₀ l) tg2 g2) (y:∀C s₀ H₀ l,PTs (Jf X scope own capt C s₀ H₀ l) Hx tt2) (he:∀C s₀ H₀ l,PE (Jf X scope own capt C s₀ H₀ l) elt te)
  (hs:∀x,foldedSetIterable iter X.env x=pure x:=by intro _;rfl) (R:∀(C:au) (x:ah),foldedSetIterable it2 (compEnvC scope (closed X.env scope.names []) C X.env) x=pure x:=by intro _ _;rfl) :
  PE X (.ListComp elt [⟨tg,iter,ifs,0⟩,⟨tg2,it2,Hx,0⟩] scope pos) (zsf own capt wi g tt wi2 g2 tt2 te):=by
 intro ad s σ H Q I h;rw[eval_ListComp];refine fG (use:=none) rfl hs (Ww (S.cells I.ok)) S.kind S.names (thn (hi ad s σ H _ I h) fun v s1 h1=>thn h1 fun Y s2 Z=>?_)
 refine znN (RR:=fun acc C=>compPost (model X.prog X.w) X.A X.xe none (EP X ad σ Q) acc C) hc S hg ht N u y he R Z fun D C s' H' G J _ _ q=>?_
 obtain⟨m,G⟩:=G;exact⟨m,G,fun U sb=>⟨.ref D,H',J U sb,rfl,q⟩⟩
end
theorem zlu{J:It}{n:Nat}{g:TG}{tt:TT}{L:TE}{σ:St}{I:Hp}{D:au}{Q:Hp->Prop}(y:Nat->List V->Hp->Prop)(h0:∃ys,I D=some (.lst ys)/\y 0 ys I)
  (turn:∀i ys o,i<n->o D=some (.lst ys)->y i ys o->J.go i o/\∀x N,J.yld i o x N->g x σ N fun u S=>Wk σ u/\tt u S fun b C =>
   if b=true then L u C (fun v G=>∃zs,G D=some (.lst zs)/\zs.length<sizeLine/\y (i+1) (zs++[v]) (upd G D (.lst (zs++[v])))) else ∃zs,C D=some (.lst zs)/\y (i+1) zs C)
  (stop:∀ys o,o D=some (.lst ys)->y n ys o->J.stop n o/\Q o):ZI g tt L σ J I D Q:=by
 refine⟨fun i m H=>m=n - i/\i<=n/\∃ys,H D=some (.lst ys)/\y i ys H,⟨n,rfl,cJ _,h0⟩,?_⟩
 rintro i m o ⟨rfl,hi,ys,R,p⟩
 by_cases hlt:i<n
 ·obtain⟨go,st⟩:=turn i ys o hlt R p;refine .inr ⟨go,_,_,?_,?_,st⟩
  ·rintro v G ⟨zs,e,l,q⟩;exact⟨zs,e,l,n - (i+1),by omega,rfl,hlt,_,J3,q⟩
  ·rintro C ⟨zs,e,q⟩;exact⟨n - (i+1),by omega,rfl,hlt,zs,e,q⟩
 ·have e:i=n:=by omega
  subst e;exact .inl (stop ys o R p)
theorem zlA{J:It}{n:Nat}{own:List Str}{capt:List Nat}{g g2:TG}{tt y:TT}{C:TI}{L:TE}{σ:St}{U:Hp}{D:au}{Q:VK}(v:Nat->List V->Hp->Prop)(h0:v 0 [] (upd U D (.lst [])))
  (turn:∀i ys o,i<n->o D=some (.lst ys)->v i ys o->J.go i o/\∀x N,J.yld i o x N->g x (Jx own++capS capt σ) N fun u Z=>Wk (Jx own++capS capt σ) u/\tt u Z fun b G =>
   if b=true then C u G (fun Y I=>ZI g2 y L u Y I D fun S=>∃zs,S D=some (.lst zs)/\v (i+1) zs S) else ∃zs,G D=some (.lst zs)/\v (i+1) zs G)
  (stop:∀ys o,o D=some (.lst ys)->v n ys o->J.stop n o/\Q (.ref D) o) :
  zod own capt g tt C g2 y L σ J U D Q:=by
 refine⟨fun i m H=>m=n - i/\i<=n/\∃ys,H D=some (.lst ys)/\v i ys H,⟨n,rfl,cJ _,[],J3,h0⟩,?_⟩
 rintro i m o ⟨rfl,hi,ys,R,p⟩
 by_cases hlt:i<n
 ·obtain⟨go,st⟩:=turn i ys o hlt R p;refine .inr ⟨go,_,_,?_,?_,st⟩
  ·rintro I ⟨zs,e,q⟩;exact⟨n - (i+1),by omega,rfl,hlt,zs,e,q⟩
  ·rintro G ⟨zs,e,q⟩;exact⟨n - (i+1),by omega,rfl,hlt,zs,e,q⟩
 ·have e:i=n:=by omega
  subst e;exact .inl (stop ys o R p)
theorem DI.uni{x:Type}{Xf:x->Cx}{K:qF}(v:∀i,(Xf i).K=K){tg e:aZ}{d:DTA}(h:∀i,DI (Xf i) tg e d):∃u:TI,(∀i,PI (Xf i) tg e u)/\∀(C:Ctx) (l:En) (σ:St) (H:Hp) (n:Nat) (Q:It->Hp->Prop) (R:List ae->Nat->Prop),Stt K C l σ H n->d l n R ->
  (∀ts o J H',R ts o->ExtE C.hd H H'->Hn C.hd H' o->ItOk K C.hd (fun a=>¬Own C l σ a) (Own C l σ) H' J ts->Q J H')->u σ H Q:=by
 refine⟨fun σ H Q=>∀i,(iG (h i)) σ H Q,fun i ad s σ H R I hw=>(cQ (h i)).1 ad s σ H R I (hw i),fun C l σ H n Q R S hd y i=>?_⟩
 have:=(cQ (h i)).2 C l σ H n Q R;exact this (by rw[v i];exact S) hd fun t o J H' r e h q=>y t o J H' r e h (by rw[<- v i];exact q)
theorem Stt.onX{K:qF}{C:Ctx}{N:En}{σ:St}{H H':Hp}{n L:Nat}(S:Stt K C N σ H n)(k:∀a o,H a=some o->¬C.ext a->H' a=some o)(hl:∀a,C.ext a->MutO (H' a))(U:∀a R,H a=some (.dK R)->C.ext a->C.hd≠some a->H' a=some (.dK R))(Y:Hn C.hd H' L):Stt K C N σ H' L where
 len:=S.len
 val:=fun i d hi=>by
  obtain⟨v,y,x⟩:=S.val i d hi;exact⟨v,y,x.mono (fun _ _ _ z=>z) fun a o no h=>k a o h fun z=>no (.inl z)⟩
 own:=fun i ds hi=>by
  obtain⟨a,I,y,x,G,u⟩:=S.own i ds hi;exact⟨a,I,y,k a _ x u,G.mono (fun _ _ _ z=>z) (fun a o no h=>k a o h fun z=>no (.inl z)),u⟩
 dct:=fun i ds hi=>by
  obtain⟨a,I,y,x,G,u⟩:=S.dct i ds hi;exact⟨a,I,y,k a _ x u,G.mono (fun _ _ _ z=>z) (fun a o no h=>k a o h fun z=>no (.inl z)),u⟩
 rdo:=fun i ds hi=>by
  obtain⟨a,I,y,x,G,u,J⟩:=S.rdo i ds hi;exact⟨a,I,y,U a _ x u J,G.mono (fun _ _ _ z=>z) (fun a o no h=>k a o h fun z=>no (.inl z)),u,J⟩
 dtt:=fun i ds hi=>by
  obtain⟨a,I,Z,y,x,G,u⟩:=S.dtt i ds hi;exact⟨a,I,Z,y,k a _ x u,G.mono (fun _ _ _ z=>z) (fun a o no h=>k a o h fun z=>no (.inl z)),u⟩
 dif:=S.dif
 hnd:=Y
 ext:=hl
 hx:=S.hx
def Q4(g:DTG)(tt:DTT)(o:DTA)(g2:DTG)(u:DTT)(y:DTE)(ρ0:En):List ae->List ae->Nat->(List ae->Nat->Prop)->Prop
 | [],acc,n,R=>R acc n
 | x::xs,acc,n,R=>g x ρ0 fun l=>tt l n fun b C=>if b=true then o l C fun ts I=>JS g2 u y l ts acc I fun v G=>Q4 g tt o g2 u y ρ0 xs v G R else Q4 g tt o g2 u y ρ0 xs acc C R
def znK(m:Nat)(capt:List Nat)(y:DTA)(g:DTG)(tt:DTT)(l:DTA)(g2:DTG)(o:DTT)(x:DTE):DTA:=fun u n R=>y u n fun ts v=>Q4 g tt l g2 o x (Jz m capt u) ts [] v R
section
variable{X:Cx}{scope:fA}{own:List Str}{capt:List Nat}{elt tg iter tg2 it2:aZ}{ifs Hx:List aZ}{pos:Pos}{di di2:DTA}{is is2:List Nat}{g g2:DTG}{tt tt2:DTT}{te:DTE}
theorem zku(hc:X.calm=true)(S:JB scope own capt X)(hi:DIL X tg iter di)
  (hg:∀C s₀ H₀ I,DG (Jf X scope own capt C s₀ H₀ I) tg is g) (hin:∀i∈is,i<own.length) (ht:∀C s₀ H₀ I,DTs (Jf X scope own capt C s₀ H₀ I) ifs tt)
  (hi2:∀C s₀ H₀ I,DI (Jf X scope own capt C s₀ H₀ I) tg2 it2 di2) (hg2:∀C s₀ H₀ I,DG (Jf X scope own capt C s₀ H₀ I) tg2 is2 g2) (hin2:∀i∈is2,i<own.length/\i∉is) (ht2:∀C s₀ H₀ I,DTs (Jf X scope own capt C s₀ H₀ I) Hx tt2)
  (he:∀C s₀ H₀ I,DE (Jf X scope own capt C s₀ H₀ I) elt te)
  (hs:∀x,foldedSetIterable iter X.env x=pure x:=by intro _;rfl) (hs2:∀(C:au) (x:ah),foldedSetIterable it2 (compEnvC scope (closed X.env scope.names []) C X.env) x=pure x:=by intro _ _;rfl) :
  DN X (.ListComp elt [⟨tg,iter,ifs,0⟩,⟨tg2,it2,Hx,0⟩] scope pos) (znK own.length capt di g tt di2 g2 tt2 te):=by
 obtain⟨wi,pi,hi⟩:=hi
 let Xf:(au×aw×Hp×List au)->Cx:=fun q=>Jf X scope own capt q.1 q.2.1 q.2.2.1 q.2.2.2
 have hK:∀q,(Xf q).K=X.K:=fun _=>rfl
 have hne:Nonempty (au×aw×Hp×List au):=⟨(0,X.s₀,X.H₀,[])⟩;obtain⟨gg,pg,hgg⟩:=DG.uni (Xf:=Xf) hK fun q=>hg q.1 q.2.1 q.2.2.1 q.2.2.2
 obtain⟨gt,pt,hgt⟩:=DTs.uni (Xf:=Xf) hK fun q=>ht q.1 q.2.1 q.2.2.1 q.2.2.2
 obtain⟨wi2,pi2,hwi2⟩:=DI.uni (Xf:=Xf) hK fun q=>hi2 q.1 q.2.1 q.2.2.1 q.2.2.2
 obtain⟨gg2,pg2,hgg2⟩:=DG.uni (Xf:=Xf) hK fun q=>hg2 q.1 q.2.1 q.2.2.1 q.2.2.2
 obtain⟨gt2,pt2,hgt2⟩:=DTs.uni (Xf:=Xf) hK fun q=>ht2 q.1 q.2.1 q.2.2.1 q.2.2.2
 obtain⟨ge,pe,hge⟩:=DE.uni (Xf:=Xf) hK fun q=>he q.1 q.2.1 q.2.2.1 q.2.2.2
 refine⟨_,zmw hc S pi (fun C s₀ H₀ I=>pg (C,s₀,H₀,I)) (fun C s₀ H₀ I=>pt (C,s₀,H₀,I)) (fun C s₀ H₀ I=>pi2 (C,s₀,H₀,I)) (fun C s₀ H₀ I=>pg2 (C,s₀,H₀,I)) (fun C s₀ H₀ I=>pt2 (C,s₀,H₀,I)) (fun C s₀ H₀ I=>pe (C,s₀,H₀,I)) hs hs2,fun C N σ H n Q R St hd hq=>?_⟩
 refine hi C N σ H n _ _ St hd fun ts n1 J H1 r e1 hn it=>fun D hD1=>?_
 have St1:=St.on e1 hn;have hD:H D=none:=Z2 e1 hn hD1;have nhd:C.hd≠some D:=fun z=>St.dom (.inl (St.hx D z)) hD
 refine zlA (n:=ts.length) (fun i ys H2=>∃acc n2,Q4 g tt di2 g2 tt2 te (Jz own.length capt N) (ts.drop i) acc n2 R/\Reps X.K C.hd (fun a=>Own C N σ a\/a=D) H2 ys acc/\ExtE C.hd H1 H2/\Hn C.hd H2 n2)
  ⟨[],n1,by simpa using r,.nil,ExtE.new hD1,hn.same (JY hD1)⟩ ?_ ?_
 ·rintro i ys H2 hlt hy ⟨acc,n2,c2,r2,e2,hn2⟩;have et:ts[i]?=some ts[i]:=ak hlt;rw[bf hlt]at c2;have itq:=it (fun a=>Own C N σ a\/a=D) H2 (fun a o u nh=>e2 a o u nh) (fun a o u no z=>z.elim no fun z=>by subst z;rw[hD1]at u;cases u) (fun a z=>z.elim (fun z=>(St1.on e2 hn2).dom z) fun z=>by subst z;rw[hy];exact fun z=>by cases z)
  obtain⟨go,yl⟩:=itq.1 i _ et;refine⟨go,fun x H3 hyd=>?_⟩
  obtain⟨sm,rx⟩:=yl x H3 hyd;have hn3:=hn2.same sm;have e3:ExtE C.hd H1 H3:=e2.trans sm.ext;obtain⟨I3,no3⟩:=zkB (own:=own) (capt:=capt) (D:=D) (ys:=ys) St (e1.trans e3) hn3 hD (sm _ _ hy);have rx':Rep X.K C.hd (Own ⟨C.hd,fun a=>Own C N σ a\/a=D⟩ (Jz own.length capt N) (Jx own++capS capt σ)) H3 x ts[i]:=rx.mono (fun a o _ z=>z.elim id fun z=>absurd z (no3 a)) fun _ _ _ z=>z
  refine hgg ⟨C.hd,fun a=>Own C N σ a\/a=D⟩ (Jz own.length capt N) (Jx own++capS capt σ) H3 n2 x ts[i] _ _ I3 rx' c2 fun U Y r4 S4 k4 hj hl=>⟨Wk.of hl.symm fun j v ej=>zlP hin hj ej,?_⟩
  ·refine hgt _ U Y H3 n2 _ _ S4 r4 fun b n5 H5 r5 e5 hn5=>?_
   have S5:=S4.on e5 hn5;have hy5:H5 D=some (.lst ys):=e5 D _ (sm _ _ hy) nhd;have r25:∀{H6},ExtE C.hd H2 H6->Reps X.K C.hd (fun a=>Own C N σ a\/a=D) H6 ys acc:=fun e=>r2.mono (fun _ _ _ z=>z) fun a o no u=>e a o u fun z=>no (.inl (.inl (St.hx a z)))
   cases b with
   | false =>
    refine iteF ⟨ys,hy5,acc,n5,by simpa using r5,r25 ((Same.ext sm).trans e5),e3.trans e5,hn5⟩
   | true =>
    refine iteT (hwi2 ⟨C.hd,fun a=>Own C N σ a\/a=D⟩ U Y H5 n5 _ _ S5 (by simpa using r5) fun us n6 J2 H6 r6 e6 hn6 it6=>?_)
    have S6:=S5.on e6 hn6;have hy6:H6 D=some (.lst ys):=e6 D _ hy5 nhd;refine zlu (n:=us.length) (fun k zs H7=>∃G n7,JS g2 tt2 te U (us.drop k) G n7 (fun G n4=>Q4 g tt di2 g2 tt2 te (Jz own.length capt N) (ts.drop (i+1)) G n4 R)/\Reps X.K C.hd (fun a=>Own C N σ a\/a=D) H7 zs G/\ExtE C.hd H1 H7/\Hn C.hd H7 n7/\∀a o,H6 a=some o->¬(Own C N σ a\/a=D)->H7 a=some o)
     ⟨ys,hy6,acc,n6,by simpa using r6,r25 ((Same.ext sm).trans (e5.trans e6)),e3.trans (e5.trans e6),hn6,fun _ _ h _=>h⟩ ?_ ?_
    ·rintro k zs H7 hk hz ⟨G,n7,c7,r7,e7,hn7,k7⟩;have et2:us[k]?=some us[k]:=ak hk;rw[bf hk]at c7;have S7:Stt X.K ⟨C.hd,fun a=>Own C N σ a\/a=D⟩ U Y H7 n7:=S6.onX k7 (fun a z=>z.elim (fun z=>(St1.on e7 hn7).lst z) fun z=>by subst z;exact .inl ⟨_,hz⟩) (fun a ks u z nh=>z.elim (fun z=>by
      have e16:ExtE C.hd H1 H6:=e3.trans (e5.trans e6);rcases St1.lst z with⟨xs,q⟩|⟨xs,q⟩|⟨b,xs,ep,q⟩
      ·rw[e16 a _ q nh]at u;cases u
      ·rw[e16 a _ q nh]at u;cases u;exact e7 a _ q nh
      ·rw[e16 a _ q nh]at u;cases u) (fun z=>by subst z;rw[hy6]at u;cases u)) hn7
     have Kc:=it6 (Own ⟨C.hd,fun a=>Own C N σ a\/a=D⟩ U Y) H7 (fun a o u no=>k7 a o u fun z=>no (.inl z)) (fun a o u no=>no) (fun a z=>S7.dom z)
     obtain⟨go2,yl2⟩:=Kc.1 k _ et2;refine⟨go2,fun y H8 hyd2=>?_⟩
     obtain⟨Z,ry⟩:=yl2 y H8 hyd2;have hn8:=hn7.same Z;have S8:=S7.on (Same.ext Z) hn8;refine hgg2 _ U Y H8 n7 y us[k] _ _ S8 ry c7 fun ρ9 σ9 r9 S9 k9 hj9 hl9=>⟨Wk.of hl9.symm fun j v ej=>?_,?_⟩
     ·by_cases hjo:j∈is2
      ·exfalso;obtain⟨lo,nis⟩:=hin2 j hjo;rw[hj j nis,bW (by simpa using lo),bp]at ej
       cases z:own[j]? with
       | none=>rw[z]at ej;cases ej
       | some q=>rw[z]at ej;cases ej
      ·rw[hj9 j hjo];exact ej
     ·refine hgt2 _ ρ9 σ9 H8 n7 _ _ S9 r9 fun b n10 H10 r10 e10 hn10=>?_
      have S10:=S9.on e10 hn10;have Kn:H10 D=some (.lst zs):=e10 D _ (Z _ _ hz) nhd;have Kd:∀{H'},ExtE C.hd H7 H'->Reps X.K C.hd (fun a=>Own C N σ a\/a=D) H' zs G:=fun e=>r7.mono (fun _ _ _ z=>z) fun a o no u=>e a o u fun z=>no (.inl (.inl (St.hx a z)))
      have kk:∀{H'},ExtE C.hd H7 H'->∀a o,H6 a=some o->¬(Own C N σ a\/a=D)->H' a=some o:=fun e a o u no=>e a o (k7 a o u no) fun z=>no (.inl (.inl (St.hx a z)))
      cases b with
      | false=>exact iteF ⟨zs,Kn,G,n10,by simpa using r10,Kd ((Same.ext Z).trans e10),e7.trans ((Same.ext Z).trans e10),hn10,kk ((Same.ext Z).trans e10)⟩
      | true =>
       refine iteT (hge _ ρ9 σ9 H10 n10 _ _ S10 (by simpa using r10) fun t n11 v H11 r11 e11 hn11 q11=>?_)
       have hz11:H11 D=some (.lst zs):=e11 D _ Kn nhd;have IX:ExtE C.hd H7 H11:=(Same.ext Z).trans (e10.trans e11);have rl:=(Kd IX).length;refine⟨zs,hz11,by rw[rl];exact r11.1,G++[t],n11,r11.2,?_,?_,?_,?_⟩
       ·have q11':Rep X.K C.hd (fun a=>Own C N σ a\/a=D) H11 v t:=q11.mono (fun _ _ _ z=>.inl z) fun _ _ _ z=>z
        have all:=(Kd IX).append (Reps.cons q11' .nil);exact all.mono (fun _ _ _ z=>z) fun a o no u=>by rw[Ju (show a≠D from fun z=>no (.inr z))];exact u
       ·exact ExtE.updR hD1 (e7.trans IX)
       ·exact Hn.updR nhd hn11
       ·exact fun a o u no=>by
         rw[Ju (show a≠D from fun z=>no (.inr z))]
         exact kk IX a o u no
    ·rintro zs H7 hz ⟨G,n7,c7,r7,e7,hn7,k7⟩;rw[gH]at c7;have S7:Stt X.K ⟨C.hd,fun a=>Own C N σ a\/a=D⟩ U Y H7 n7:=S6.onX k7 (fun a z=>z.elim (fun z=>(St1.on e7 hn7).lst z) fun z=>by subst z;exact .inl ⟨_,hz⟩) (fun a ks u z nh=>z.elim (fun z=>by
      have e16:ExtE C.hd H1 H6:=e3.trans (e5.trans e6);rcases St1.lst z with⟨xs,q⟩|⟨xs,q⟩|⟨b,xs,ep,q⟩
      ·rw[e16 a _ q nh]at u;cases u
      ·rw[e16 a _ q nh]at u;cases u;exact e7 a _ q nh
      ·rw[e16 a _ q nh]at u;cases u) (fun z=>by subst z;rw[hy6]at u;cases u)) hn7
     have Kc:=it6 (Own ⟨C.hd,fun a=>Own C N σ a\/a=D⟩ U Y) H7 (fun a o u no=>k7 a o u fun z=>no (.inl z)) (fun a o u no=>no) (fun a z=>S7.dom z)
     exact⟨Kc.2,zs,hz,G,n7,c7,r7,e7,hn7⟩
 ·rintro ys H2 hy ⟨acc,n2,c2,r2,e2,hn2⟩;rw[gH]at c2;have itq:=it (fun a=>Own C N σ a\/a=D) H2 (fun a o u nh=>e2 a o u nh) (fun a o u no z=>z.elim no fun z=>by subst z;rw[hD1]at u;cases u) (fun a z=>z.elim (fun z=>(St1.on e2 hn2).dom z) fun z=>by subst z;rw[hy];exact fun z=>by cases z)
  exact⟨itq.2,hq acc n2 D ys H2 c2 (e1.trans e2) hn2 hD hy r2⟩
end
section
variable{ρ ρ0:En}{n m:Nat}{di di2:DTA}{g g2:DTG}{tt tt2:DTT}{te:DTE}{capt:List Nat}{Rl:List ae->Nat->Prop}
instance zwi [h:CompN m capt ρ ρ0]:Stp (znK m capt di g tt di2 g2 tt2 te ρ n Rl) (di ρ n fun ts n1=>Q4 g tt di2 g2 tt2 te ρ0 ts [] n1 Rl):=⟨fun k=>by unfold znK;rw[h.e];exact k⟩
end
abbrev Run:=Int×Int
def NR(rs:List Run):Prop:=(∀r∈rs,r.1<r.2)/\rs.Pairwise fun a b=>a.2<b.1
def mR(x:Int)(rs:List Run):Prop:=∃r∈rs,r.1<=x/\x<r.2
def mB(x:Int)(bs:qB):Prop:=∃b∈bs,b.1<=x/\x<eB b
theorem Yd{x:Int}{r:Run}{rs:List Run}:mR x (r::rs)↔(r.1<=x/\x<r.2)\/mR x rs:=by
 unfold mR;constructor
 ·rintro⟨s,o,h⟩;rcases az.mp o with rfl|o
  ·exact .inl h
  ·exact .inr ⟨s,o,h⟩
 ·rintro(h|⟨s,o,h⟩)
  ·exact⟨r,by simp,h⟩
  ·exact⟨s,by simp[o],h⟩
theorem QO{x:Int}:¬mR x []:=fun⟨_,h,_⟩=>nomatch h
theorem Uu{x:Int}{rs ss:List Run}:mR x (rs++ss)↔mR x rs\/mR x ss:=by
 unfold mR;constructor
 ·rintro⟨s,o,h⟩;rcases ax.mp o with o|o
  ·exact .inl ⟨s,o,h⟩
  ·exact .inr ⟨s,o,h⟩
 ·rintro(⟨s,o,h⟩|⟨s,o,h⟩)
  ·exact⟨s,by simp[o],h⟩
  ·exact⟨s,by simp[o],h⟩
theorem zmV{x:Int}{b:Int×Int}{bs:qB}:mB x (b::bs)↔(b.1<=x/\x<eB b)\/mB x bs:=by
 unfold mB;constructor
 ·rintro⟨s,o,h⟩;rcases az.mp o with rfl|o
  ·exact .inl h
  ·exact .inr ⟨s,o,h⟩
 ·rintro(h|⟨s,o,h⟩)
  ·exact⟨b,by simp,h⟩
  ·exact⟨s,by simp[o],h⟩
theorem VL{x:Int}:¬mB x []:=fun⟨_,h,_⟩=>nomatch h
theorem zmW{x:Int}{bs cs:qB}:mB x (bs++cs)↔mB x bs\/mB x cs:=by
 unfold mB;constructor
 ·rintro⟨s,o,h⟩;rcases ax.mp o with o|o
  ·exact .inl ⟨s,o,h⟩
  ·exact .inr ⟨s,o,h⟩
 ·rintro(⟨s,o,h⟩|⟨s,o,h⟩)
  ·exact⟨s,by simp[o],h⟩
  ·exact⟨s,by simp[o],h⟩
theorem zq2{x:Int}{bs cs:qB}(h:bs.Perm cs):mB x bs↔mB x cs:=by
 unfold mB;constructor
 ·rintro⟨s,l,q⟩;exact⟨s,h.mem_iff.mp l,q⟩
 ·rintro⟨s,l,q⟩;exact⟨s,h.mem_iff.mpr l,q⟩
theorem NR.tail{r:Run}{rs:List Run}(h:NR (r::rs)):NR rs:=⟨fun s l=>h.1 s (by simp[l]),(cM.mp h.2).2⟩
def QT(lo hi:Int)(h:Nat):Prop:=lo % 2 ^ h=0/\(2:Int) ^ h<=hi - lo/\¬(lo % 2 ^ (h+1)=0/\(2:Int) ^ (h+1)<=hi - lo)
theorem zeb{a b:Nat}(h:a<=b):((2:Int) ^ a)∣2 ^ b:=⟨2 ^ (b - a),by rw[<- hZ];congr 1;lia⟩
theorem UA{a b:Nat}(h:a<=b):(2:Int) ^ a<=2 ^ b:=by
 obtain⟨c,e⟩:=zeb h;have pa:=Bd.Qw a;have l:=Bd.Qw b;have pc:0<c:=by
  rcases ip c 0 with z|z|z
  ·have:=gQ pa z;lia
  ·subst z;lia
  ·exact z
 rw[e];have:=fU (show(1:Int)<=c by lia) (show(0:Int)<=2 ^ a by lia)
 lia
theorem Yi{lo:Int}{a b:Nat}(h:a<=b)(e:lo % 2 ^ b=0):lo % 2 ^ a=0:=by
 have d:((2:Int) ^ b)∣lo:=bE e;exact dS (Int.dvd_trans (zeb h) d)
theorem QT.uniq{lo hi:Int}{h g:Nat}(a:QT lo hi h)(b:QT lo hi g):h=g:=by
 rcases ee h g with z|z|z
 ·exfalso;exact a.2.2 ⟨Yi (show h+1<=g by lia) b.1,cT (UA (show h+1<=g by lia)) b.2.1⟩
 ·exact z
 ·exfalso;exact b.2.2 ⟨Yi (show g+1<=h by lia) a.1,cT (UA (show g+1<=h by lia)) a.2.1⟩
def Jv:Int->Int->List (Int×Int)->Prop
 | lo,hi,[]=>lo=hi
 | lo,hi,b::r=>lo<hi/\b.1=lo/\0<=b.2/\QT lo hi b.2.toNat/\Jv (lo+2 ^ b.2.toNat) hi r
theorem Jv.le:∀{bs:qB}{lo hi:Int},Jv lo hi bs->lo<=hi
 | [],_,_,h=>by have:_=_:=h;lia
 | b::r,lo,hi,h=>by have:=h.1;lia
theorem Jv.uniq:∀{bs cs:qB}{lo hi:Int},Jv lo hi bs->Jv lo hi cs->bs=cs
 | [],[],_,_,_,_=>rfl
 | [],c::cs,lo,hi,h,k=>by have:lo=hi:=h;have:=k.1;lia
 | b::bs,[],lo,hi,h,k=>by have:lo=hi:=k;have:=h.1;lia
 | b::bs,c::cs,lo,hi,h,k=>by
  obtain⟨L,N,I,x,o⟩:=h;obtain⟨C,G,J,y,u⟩:=k;have e:=x.uniq y;have v:b.2=c.2:=by lia
  have l:b=c:=gW (by lia) v
  subst l;rw[Jv.uniq o u]
theorem Jv.mem:∀{bs:qB}{lo hi:Int},Jv lo hi bs->∀x,mB x bs↔lo<=x/\x<hi
 | [],lo,hi,h,x=>by
  have:lo=hi:=h;exact⟨fun z=>absurd z VL,fun z=>by lia⟩
 | b::r,lo,hi,h,x=>by
  obtain⟨C,u,y,v,o⟩:=h;have:=Jv.mem o x;have l:=Jv.le o;have p:=Bd.Qw b.2.toNat;rw[zmV,this];unfold eB;rw[u];lia
theorem Jv.blk{bits:Int}(L:0<=bits):∀{bs:qB}{lo hi:Int},Jv lo hi bs->0<=lo->hi<=2 ^ bits.toNat->Bks bits bs
 | [],_,_,_,_,_=>fun b v=>nomatch v
 | b::r,lo,hi,h,l0,l1=>by
  obtain⟨R,C,I,x,u⟩:=h;have p:=Bd.Qw b.2.toNat;have l:=Jv.le u;have G:=Jv.blk L u (by lia) l1
  intro c hc;rcases az.mp hc with rfl|hc
  ·have v:c.2.toNat<=bits.toNat:=by
    rcases cz bits.toNat c.2.toNat with z|z
    ·exfalso;have:=UA (show bits.toNat+1<=c.2.toNat by lia)
     have p2:=Bd.Qw bits.toNat;rw[cA]at this;have:=x.2.1;lia
    ·exact z
   obtain⟨k,y⟩:=bE x.1;have J:0<=k:=by
    rcases i9 k 0 with z|z
    ·have:=gQ p z;lia
    ·exact z
   refine⟨I,by lia,k,J,by rw[C,y,eH],?_⟩
   have e:(2:Int) ^ bits.toNat=2 ^ (bits - c.2).toNat*2 ^ c.2.toNat:=by rw[<- hZ];congr 1;lia
   have up:k*2 ^ c.2.toNat<2 ^ (bits - c.2).toNat*2 ^ c.2.toNat:=by
    rw[<- e,eH,<- y];lia
   exact kN up (by lia)
  ·exact G c hc
theorem Jv.in:∀{bs:qB}{lo hi:Int},Jv lo hi bs->∀b∈bs,lo<=b.1/\eB b<=hi
 | [],_,_,_=>fun b v=>nomatch v
 | b::r,lo,hi,h=>by
  obtain⟨G,x,C,y,o⟩:=h;have p:=Bd.Qw b.2.toNat;have u:=Jv.in o;have l:=Jv.le o;intro c hc;rcases az.mp hc with rfl|hc
  ·unfold eB;rw[x];lia
  ·have:=u c hc;lia
theorem Jv.pw:∀{bs:qB}{lo hi:Int},Jv lo hi bs->bs.Pairwise fun a b=>eB a<=b.1
 | [],_,_,_=>.nil
 | b::r,lo,hi,h=>by
  obtain⟨C,v,y,x,u⟩:=h;refine .cons (fun c hc=>?_) (Jv.pw u)
  have:=Jv.in u c hc;unfold eB;rw[v];lia
theorem zhv:∀{bs:qB}{lo hi:Int}{k:Nat},Jv lo hi bs->lo % 2 ^ k=0->hi - lo<2 ^ k->bs.length<=k
 | [],_,_,_,_,_,_=>cJ _
 | b::r,lo,hi,k,h,d,l=>by
  obtain⟨y,C,x,o,u⟩:=h;have v:b.2.toNat<k:=by
   rcases cz b.2.toNat k with z|z
   ·exact z
   ·have:=UA z;have:=o.2.1;lia
  have up:¬(2:Int) ^ (b.2.toNat+1)<=hi - lo:=fun z=>o.2.2 ⟨Yi (show b.2.toNat+1<=k by lia) d,z⟩
  rw[cA]at up;have:=zhv (k:=b.2.toNat) u (by rw[oG,o.1];simp) (by lia)
  rw[aF];lia
theorem zhu{K:Nat}:∀{bs:qB}{lo hi:Int}{k:Nat},Jv lo hi bs->lo % 2 ^ k=0->hi - lo<2 ^ K->k<=K->bs.length<=(K - k)+K
 | [],_,_,_,_,_,_,_=>cJ _
 | b::r,lo,hi,k,h,d,l,hkK=>by
  obtain⟨I,y,G,o,u⟩:=h;have p:=Bd.Qw b.2.toNat;have J:b.2.toNat<K:=by
   rcases cz b.2.toNat K with z|z
   ·exact z
   ·have:=UA z;have:=o.2.1;lia
  rw[aF]
  by_cases up:(2:Int) ^ (b.2.toNat+1)<=hi - lo
  ·have nd:¬lo % 2 ^ (b.2.toNat+1)=0:=fun z=>o.2.2 ⟨z,up⟩
   have C:k<=b.2.toNat:=by
    rcases cz b.2.toNat k with z|z
    ·exact absurd (Yi (show b.2.toNat+1<=k by lia) d) nd
    ·exact z
   have d':(lo+2 ^ b.2.toNat) % 2 ^ (b.2.toNat+1)=0:=by
    obtain⟨q,eq⟩:=bE o.1;have x:(2:Int) ^ (b.2.toNat+1)=2 ^ b.2.toNat*2:=cA _ _;rw[x]at nd ⊢;have odd:q % 2=1:=by
     rcases pT q with z|z
     ·exfalso;obtain⟨t,v⟩:=bE z;apply nd;apply dS;exact⟨t,by rw[eq,v,fH]⟩
     ·exact z
    apply dS;refine⟨(q+1) / 2,?_⟩;have:q+1=2*((q+1) / 2):=by lia
    rw[eq,fH,<- this,pI,kW]
   have:=zhu (K:=K) (k:=b.2.toNat+1) u d' (by lia) (by lia)
   lia
  ·rw[cA]at up;have:=zhv (k:=b.2.toNat) u (by rw[oG,o.1];simp) (by lia)
   lia
theorem Jv.len{bs:qB}{lo hi:Int}(h:Jv lo hi bs)(l:0<=lo)(o:hi<=2 ^ 64):bs.length<=130:=by
 have:=zhu (K:=65) (k:=0) h (by simp) (by have e:(2:Int) ^ 65=2*2 ^ 64:=(by decide);lia) (by decide)
 lia
theorem zkj{lo hi:Int}(h:lo<hi):∃g,QT lo hi g:=by
 have key:∀(d k:Nat),lo % 2 ^ k=0->(2:Int) ^ k<=hi - lo->(hi - lo).toNat<2 ^ (k+d)->∃g,QT lo hi g:=by
  intro d;induction d with
  | zero =>
   intro k _ b c;exfalso;have:((2 ^ k:Nat):Int)=(2:Int) ^ k:=by rw[f6];rfl
   rw[Nat.add_zero]at c;lia
  | succ d l =>
   intro k a b c
   by_cases z:lo % 2 ^ (k+1)=0/\(2:Int) ^ (k+1)<=hi - lo
   ·exact l (k+1) z.1 z.2 (by rw[show k+1+d=k+(d+1) by lia];exact c)
   ·exact⟨k,a,b,z⟩
 refine key (hi - lo).toNat 0 (by simp) (by simp;lia) ?_
 rw[dZ];exact Nat.lt_two_pow_self
theorem zl1:∀(n:Nat) (lo hi:Int),(hi - lo).toNat<=n->lo<=hi->∃bs,Jv lo hi bs:=by
 intro n;induction n with
 | zero =>
  intro lo hi h l;exact⟨[],by show lo=hi;lia⟩
 | succ n u =>
  intro lo hi h l
  by_cases z:lo<hi
  ·obtain⟨g,G⟩:=zkj z;have p:=Bd.Qw g;have:=G.2.1;obtain⟨bs,B⟩:=u (lo+2 ^ g) hi (by lia) (by lia)
   exact⟨(lo,(g:Int))::bs,z,rfl,by show(0:Int)<=(g:Int);lia,by simpa using G,by simpa using B⟩
  ·exact⟨[],by show lo=hi;lia⟩
def PatS:List Run->List (Int×Int)->Prop
 | [],ps=>ps=[]
 | r::rs,ps=>∃a b,ps=a++b/\Jv r.1 r.2 a/\PatS rs b
theorem PatS.mem:∀{rs:List Run}{ps:qB},PatS rs ps->∀x,mB x ps↔mR x rs
 | [],_,h,x=>by
  cases(show _=[] from h)
  exact⟨fun z=>absurd z VL,fun z=>absurd z QO⟩
 | r::rs,_,h,x=>by
  obtain⟨a,b,rfl,l,o⟩:=h;rw[zmW,Yd,l.mem x,PatS.mem o x]
theorem PatS.blk{bits:Int}(o:0<=bits):∀{rs:List Run}{ps:qB},PatS rs ps->(∀r∈rs,0<=r.1/\r.2<=2 ^ bits.toNat)->Bks bits ps
 | [],_,h,_=>by cases(show _=[] from h);exact fun b x=>nomatch x
 | r::rs,_,h,w=>by
  obtain⟨a,b,rfl,u,y⟩:=h;have l:=w r (by simp)
  intro c hc;rcases ax.mp hc with hc|hc
  ·exact u.blk o l.1 l.2 c hc
  ·exact PatS.blk o y (fun s v=>w s (by simp[v])) c hc
theorem PatS.in:∀{rs:List Run}{ps:qB},PatS rs ps->∀b∈ps,∃r∈rs,r.1<=b.1/\eB b<=r.2
 | [],_,h=>by cases(show _=[] from h);exact fun b o=>nomatch o
 | r::rs,_,h=>by
  obtain⟨a,b,rfl,u,v⟩:=h;intro c hc;rcases ax.mp hc with hc|hc
  ·exact⟨r,by simp,u.in c hc⟩
  ·obtain⟨s,l,q⟩:=PatS.in v c hc;exact⟨s,by simp[l],q⟩
theorem PatS.pw:∀{rs:List Run}{ps:qB},PatS rs ps->NR rs->ps.Pairwise fun a b=>eB a<=b.1
 | [],_,h,_=>by cases(show _=[] from h);exact .nil
 | r::rs,_,h,nr=>by
  obtain⟨a,b,rfl,o,u⟩:=h;rw[cq];refine⟨o.pw,PatS.pw u nr.tail,fun x hx y C=>?_⟩
  have:=o.in x hx;obtain⟨s,v,q⟩:=PatS.in u y C;have:=(cM.mp nr.2).1 s v;lia
theorem PatS.len:∀{rs:List Run}{ps:qB},PatS rs ps->(∀r∈rs,0<=r.1/\r.2<=2 ^ 64)->ps.length<=130*rs.length
 | [],_,h,_=>by cases(show _=[] from h);simp
 | r::rs,_,h,w=>by
  obtain⟨a,b,rfl,u,v⟩:=h;have l:=w r (by simp)
  have:=u.len l.1 l.2;have:=PatS.len v fun s o=>w s (by simp[o])
  rw[aJ,aF];lia
def CanP(S:Int->Prop)(ps:qB):Prop:=∃rs,NR rs/\(∀x,mR x rs↔S x)/\PatS rs ps
theorem CanP.mem{S:Int->Prop}{ps:qB}(h:CanP S ps)(x:Int):mB x ps↔S x:=by
 obtain⟨rs,u,o,l⟩:=h;rw[l.mem,o]
theorem CanP.ptc{S:Int->Prop}{ps:qB}{bits:Int}(y:0<=bits)(h:CanP S ps)(w:∀x,S x->0<=x/\x<2 ^ bits.toNat):Ptc bits ps:=by
 obtain⟨rs,o,v,u⟩:=h;refine⟨u.blk y fun r l=>?_,u.pw o⟩
 have lt:=o.1 r l;have a:=w r.1 ((v _).mp ⟨r,l,bh _,lt⟩);have b:=w (r.2 - 1) ((v _).mp ⟨r,l,by lia,by lia⟩)
 lia
section
variable{X:Cx}{a:aZ}{da:DTE}{ρ:En}{n:Nat}{R:qN}
theorem zmQ:MtR X "int.bit_length" (fun x xs H Q=>∃i,x=.int i/\xs=[]/\Q (.int (fL i)) H):=by
 intro ad s σ H x xs v o Q I l rs h;obtain⟨i,rfl,rfl,q⟩:=h;obtain⟨t,rfl⟩:=l;cases rs;exact call_int_bit_length ⟨.int _,H,I.tok _,⟨_,rfl⟩,q⟩
def znL(d:DTE):DTE:=fun ρ n R=>d ρ n fun t l=>lInt t fun i=>R (.int (fL i)) l
theorem ziu{p2 o:Pos}(h:DL X a da)(I:attributeBase a "bit_length" X.env (eval a X.env)=eval a X.env:=by rfl) (J:(p2.endLine == o.line)=true:=by rfl):DE X (.Call (.Attribute a "bit_length" p2) [] [] o) (znL da):=by
 obtain⟨Y,pa,h⟩:=h;refine⟨_,zsZ PySem.F.plainAttrs_int slot_int_bit_length type_int_bit_length zmQ pa I J,fun C ρ σ H n Q R S hd G=>?_⟩
 refine h C ρ σ H n _ _ S hd fun t x v L r y U N=>?_
 cases t with
 | int i =>
  rw[N.intI];exact⟨rfl,i,rfl,rfl,G _ x _ L r y U (.int _)⟩
 | _=>exact r.elim
instance zvC:Stp (znL da ρ n R) (da ρ n fun t n1=>lInt t fun i=>R (.int (fL i)) n1):=⟨fun h=>h⟩
end
theorem zfg{i:Int}(h:0<i):(fL i:Int) - 1=(i.toNat.log2:Int):=by
 unfold fL;have:(i == 0)=false:=by simp;lia
 rw[this];have e:i.natAbs=i.toNat:=by lia
 rw[e];simp
theorem zm2{i:Int}(h:0<i):(2:Int) ^ i.toNat.log2<=i:=by
 have:=Nat.log2_self_le (n:=i.toNat) (by lia)
 have e:((2 ^ i.toNat.log2:Nat):Int)=(2:Int) ^ i.toNat.log2:=by rw[f6];rfl
 lia
theorem zmY{i:Int}(h:0<i):i<(2:Int) ^ (i.toNat.log2+1):=by
 have:=Nat.lt_log2_self (n:=i.toNat);have e:((2 ^ (i.toNat.log2+1):Nat):Int)=(2:Int) ^ (i.toNat.log2+1):=by rw[f6];rfl
 lia
theorem zm5(t:Nat):∀x:Nat,x % 2 ^ t=0->¬x % 2 ^ (t+1)=0->x - (x &&& (x - 1))=2 ^ t:=by
 induction t with
 | zero =>
  intro x _ h;have C:x % 2=1:=by
   have:¬x % 2=0:=by simpa using h
   lia
  have e:x &&& (x - 1)=x - 1:=by
   apply ni;intro i;rw[mF];cases i with
   | zero =>
    have:(x - 1).testBit 0=false:=by rw[lJ];simp;lia
    rw[this,nj]
   | succ i =>
    have:x / 2=(x - 1) / 2:=by lia
    rw[gM,gM,this,Bool.and_self]
  rw[e];simp;lia
 | succ t u =>
  intro x l o;have ev:x % 2=0:=by
   have:2∣2 ^ (t+1):=⟨2 ^ t,by rw[ka,mi]⟩
   exact iy (Nat.dvd_trans this (iz l))
  have hx:x=2*(x / 2):=by lia
  have v:(x / 2) % 2 ^ t=0:=by
   obtain⟨q,e⟩:=iz l;apply iy;refine⟨q,?_⟩;rw[ka]at e;have:x=2*(2 ^ t*q):=by rw[e];rw[mi (2 ^ t) 2,tB]
   lia
  have p2:¬(x / 2) % 2 ^ (t+1)=0:=fun z=>by
   obtain⟨q,e⟩:=iz z;apply o;apply iy;refine⟨q,?_⟩;rw[ka,mi (2 ^ (t+1)) 2,tB,<- e];exact hx
  have:=u (x / 2) v p2;have e:x &&& (x - 1)=2*(x / 2 &&& (x / 2 - 1)):=by
   apply ni;intro i;rw[mF];cases i with
   | zero =>
    have a:x.testBit 0=false:=by rw[lJ];simp;lia
    rw[a,fQ,lJ];simp
   | succ i =>
    have y:0<x / 2:=by
     rcases Nat.eq_zero_or_pos (x / 2) with z|z
     ·rw[z]at p2;simp at p2
     ·exact z
    have b:(x - 1) / 2=x / 2 - 1:=by lia
    rw[gM,gM,gM,b,Nat.mul_div_cancel_left _ (by decide:0<2),mF]
  rw[e,ka];have le:(x / 2 &&& (x / 2 - 1))<=x / 2:=pU;lia
theorem zr0{b:Int}(h:0<b){t:Nat}(u:b % 2 ^ t=0)(v:¬b % 2 ^ (t+1)=0):gA b (-b)=2 ^ t:=by
 have e:gA b (-b)=b - ((b.toNat &&& (b.toNat - 1):Nat):Int):=by
  have h0:decide (0<=b)=true:=decide_eq_true (by lia)
  have l:decide (0<=-b)=false:=decide_eq_false (by lia)
  show(match decide (0<=b),decide (0<=-b) with
   | true,true=>((b.toNat &&& (-b).toNat:Nat):Int)
   | true,false=>b - ((b.toNat &&& (fR (-b)).toNat:Nat):Int)
   | false,true=>(-b) - (((-b).toNat &&& (fR b).toNat:Nat):Int)
   | false,false=>fR (((fR b).toNat|||(fR (-b)).toNat:Nat):Int))=_
  rw[h0,l];have:(fR (-b)).toNat=b.toNat - 1:=by
   have:fR (-b)=b - 1:=by show -(-b) - 1=b - 1;lia
   rw[this];lia
  rw[this]
 have cast:∀k:Nat,b % (2:Int) ^ k=((b.toNat % 2 ^ k:Nat):Int):=fun k=>by
  rw[Int.natCast_emod,f6,Int.toNat_of_nonneg (by lia)];rfl
 rw[cast]at u v;have:=zm5 t b.toNat (by lia) (by lia)
 have le:(b.toNat &&& (b.toNat - 1))<=b.toNat:=pU;rw[e];have x:((2 ^ t:Nat):Int)=(2:Int) ^ t:=by rw[f6];rfl
 lia
theorem zvF{b:Int}(h:0<b):∃t:Nat,b % 2 ^ t=0/\¬b % 2 ^ (t+1)=0:=by
 obtain⟨g,G⟩:=zkj (lo:=b) (hi:=b+b+1) (by lia)
 refine⟨g,G.1,fun z=>?_⟩
 have d:=bE z;have:=Int.le_of_dvd h d;exact G.2.2 ⟨z,by lia⟩
theorem zke{xs:qD}{x:ae}:ixN (xs++[x]).length (-1)=some xs.length:=by
 unfold ixN;simp;lia
theorem zkd{xs:qD}{x:ae}{Q:ae->Prop}(h:Q x):oIx (.list (xs++[x])) (.int (-1)) Q:=by
 have e:atI (xs++[x]) (-1)=some x:=by
  unfold atI;rw[zke];simp
 rw[Yv e];exact h
end L2
namespace Bd
open PySem L2
def ppD(xs:List (ae×ae)):List ae:=xs.map fun p=>.tuple [p.1,p.2]
def oD(os:List ((Int×Int)×Str)):List ae:=os.map fun p=>.tuple [prD p.1,.str p.2]
theorem QG{os:List ((Int×Int)×Str)}:(oD os).length=os.length:=by simp[oD]
def Shr(bits:Int)(os:List ((Int×Int)×Str)):Prop:=Ptc bits (os.map (·.1))/\∀p∈os,IsNm p.2
theorem YJ(os:List ((Int×Int)×Str)):oD os=ppD (os.map fun p=>(prD p.1,.str p.2)):=by
 unfold oD ppD;rw[bT];rfl
theorem VX:∀{xs ys:List (ae×ae)},ppD xs=ppD ys->xs=ys
 | [],[],_=>rfl
 | [],_::_,h=>by cases h
 | _::_,[],h=>by cases h
 | (a,b)::xs,(c,d)::ys,h=>by
  simp only[ppD,aV,eU,fX,and_true]at h;obtain⟨⟨rfl,rfl⟩,h⟩:=h;rw[VX h]
def apB(a b:Int×Int):Prop:=eB a<=b.1\/eB b<=a.1
def okPr(p q:(Int×Int)×Str):Prop:=p.2=q.2\/apB p.1 q.1
def Agr(os l:List ((Int×Int)×Str)):Prop:=∀p∈os,∀q∈l,okPr p q
theorem ztl{os:List ((Int×Int)×Str)}{k:Nat}{p:(Int×Int)×Str}(h:os[k]?=some p):(oD os)[k]?=some (.tuple [.tuple [.int p.1.1,.int p.1.2],.str p.2]):=by
 unfold oD;rw[bp,h];rfl
abbrev Deal:=Int×List ((Int×Int)×Str)×List ((Int×Int)×Str)
def dlD(d:Deal):ae:=.tuple [.int d.1,.tuple (oD d.2.1),.tuple (oD d.2.2)]
def Dl(d:Deal):Prop:=1<=d.1/\d.1<=64/\Shr d.1 d.2.1/\Shr d.1 d.2.2/\Agr d.2.1 d.2.2
theorem zmP:∀{os l:List ((Int×Int)×Str)},oD os=oD l->os=l
 | [],[],_=>rfl
 | [],_::_,h=>by cases h
 | _::_,[],h=>by cases h
 | ((a,b),c)::os,((a',b'),c')::l,h=>by
  simp only[oD,aV,eU,fX,o8,PyData.str.injEq,and_true]at h;obtain⟨⟨⟨rfl,rfl⟩,rfl⟩,h⟩:=h;rw[zmP h]
def nD(l:List Str):List ae:=l.map .str
theorem VU{os:List ((Int×Int)×Str)}{k:Nat}{t:ae}(h:(oD os)[k]?=some t):∃p,os[k]?=some p/\t=.tuple [.tuple [.int p.1.1,.int p.1.2],.str p.2]:=by
 unfold oD at h;rw[bp]at h;cases e:os[k]? with
 | none=>rw[e]at h;cases h
 | some p=>rw[e]at h;cases h;exact⟨p,rfl,rfl⟩
end Bd
namespace L2
open PySem PySem.Spec PyProof.Rows
section
variable{X:Cx}{tg iter:aZ}{d:DTE}
def iSeq(K:qF)(o:TE):TI:=fun σ H R=>o σ H fun x l=>∃a,x=.ref a/\(((∃xs,SqL K l a xs)/\R (Itl K a) l)\/((∃xs,SqT K l a xs)/\R (Itt K a) l))
theorem zsP{l:aZ}{J:TE}(Y:PE X l J):PI X tg l (iSeq X.K J):=by
 intro ad s σ H R I h;refine thn (Y ad s σ H _ I h) fun v s1 ⟨x,L,u,N,G⟩=>?_
 obtain⟨a,e,G⟩:=G;subst e;cases N;rcases G with⟨⟨xs,C⟩,q⟩|⟨⟨xs,C⟩,q⟩
 ·obtain⟨its,S,p,U⟩:=u.list C;refine eN p.isList ?_;refine⟨s1.heap.objs.size,[s1.heap.objs.size],_,_,L,rfl,u.kept (t':=s1.toks) fun b o e=>aq _ e,zhq a _,⟨_,aG _ rfl,rfl,rfl⟩,fun b y=>?_,q⟩
  have e:b=s1.heap.objs.size:=by simpa using y
  subst e;exact u.fpOk (aE _) (u.hok.fresh (aE _))
 ·obtain⟨its,S,p,U⟩:=u.tuple C;refine kj (show s1.heap.IsTuple a its.toArray from p) ?_
  refine⟨s1.heap.objs.size,[s1.heap.objs.size],_,_,L,rfl,u.kept (t':=s1.toks) fun b o e=>aq _ e,zfW a _,⟨_,aG _ rfl,rfl,rfl⟩,fun b y=>?_,q⟩
  have e:b=s1.heap.objs.size:=by simpa using y
  subst e;exact u.fpOk (aE _) (u.hok.fresh (aE _))
def dItA(d:DTE):DTA:=fun o n R=>d o n fun t l=>J4 t fun ts=>R ts l
theorem VB(h:DE X iter d):DI X tg iter (dItA d):=by
 obtain⟨N,pa,h⟩:=h;refine⟨_,zsP pa,fun C I σ H n Q R S hd J=>?_⟩
 refine h C I σ H n _ _ S hd fun t x v H' r G y q=>?_
 cases t with
 | tuple ts =>
  obtain⟨p,u,rfl,o,it⟩:=zp3 (P:=fun a=>¬Own C I σ a) (fun _ z=>z) q
  exact⟨p,rfl,.inr ⟨⟨u,o⟩,J ts x _ H' r G y it⟩⟩
 | list ts =>
  obtain⟨p,u,rfl,o,no,L⟩:=q.lstI;exact⟨p,rfl,.inl ⟨⟨u,SqL.of o⟩,J ts x _ H' r G y (V2 o no (fun _ z=>z) L)⟩⟩
 | _=>exact r.elim
end
section
variable{ρ:En}{n:Nat}{d:DTE}{Rl:List ae->Nat->Prop}
instance zxC:Stp (dItA d ρ n Rl) (d ρ n fun t n'=>J4 t fun ts=>Rl ts n'):=⟨fun h=>h⟩
end
theorem zhe{bits:Int}{p q:Int×Int}(P:IsBk bits p.1 p.2)(Q:IsBk bits q.1 q.2){x:Int}(o:p.1<=x/\x<eB p)(u:q.1<=x/\x<eB q):(p.1<=q.1/\eB q<=eB p/\q.2<=p.2)\/(q.1<=p.1/\eB p<=eB q/\p.2<=q.2):=by
 unfold eB at *;rcases ur q.2.toNat p.2.toNat with l|l
 ·rcases ziP P.n Q.n l with z|z|z
  ·left
   have:=(zjs P.n Q.n).mp z;have:=P.1;have:=Q.1;lia
  ·lia
  ·lia
 ·rcases ziP Q.n P.n l with z|z|z
  ·right
   have:=(zjs Q.n P.n).mp z;have:=P.1;have:=Q.1;lia
  ·lia
  ·lia
theorem zn9{bits i h:Int}(B:IsBk bits i h):i % 2 ^ h.toNat=0:=by
 obtain⟨_,_,k,_,rfl,_⟩:=B;exact oH _ _
theorem Jv.great:∀{bs:qB}{lo hi:Int},Jv lo hi bs->∀b∈bs,QT b.1 hi b.2.toNat/\lo<=b.1
 | [],_,_,_=>fun b o=>nomatch o
 | b::r,lo,hi,h=>by
  obtain⟨y,v,x,u,l⟩:=h;have p:=Bd.Qw b.2.toNat;intro c hc;rcases az.mp hc with rfl|hc
  ·rw[v];exact⟨u,bh _⟩
  ·have:=Jv.great l c hc;exact⟨this.1,by lia⟩
theorem Jv.max{bits:Int}(Y:0<=bits){bs:qB}{lo hi:Int}(S:Jv lo hi bs)(l0:0<=lo)(l1:hi<=2 ^ bits.toNat){p q:Int×Int}(L:p∈bs)(Q:IsBk bits q.1 q.2)(w:lo<=q.1/\eB q<=hi)(i:q.1<=p.1/\eB p<=eB q):q=p:=by
 have B:=S.blk Y l0 l1;have P:=B p L;have pp:=Bd.Qw p.2.toNat;have pq:=Bd.Qw q.2.toNat;have nest:=zhe P Q (x:=p.1) ⟨bh _,by unfold eB;lia⟩ ⟨i.1,by unfold eB at *;lia⟩
 have hle:p.2<=q.2:=by
  rcases nest with⟨a,b,c⟩|⟨a,b,c⟩
  ·have u:p.1=q.1:=by lia
   have J:eB p=eB q:=by lia
   unfold eB at J;rcases i9 q.2 p.2 with z|z
   ·have p0:=P.1;have q0:=Q.1;have:=UA (show q.2.toNat+1<=p.2.toNat by lia)
    rw[cA]at this;lia
   ·exact z
  ·exact c
 have p0:=P.1;have q0:=Q.1
 by_cases e:p.2=q.2
 ·have u:(2:Int) ^ p.2.toNat=2 ^ q.2.toNat:=by rw[e]
  have:q.1=p.1:=by unfold eB at *;lia
  exact gW this e.symm
 ·exfalso;have v:p.2.toNat+1<=q.2.toNat:=by lia
  have dq:=zn9 Q;have I:=Yi v dq;have G:=(S.great p L).1
  by_cases ev:p.1 % 2 ^ (p.2.toNat+1)=0
  ·
   apply G.2.2;refine⟨ev,?_⟩;obtain⟨a,l⟩:=bE ev;have de:eB q % 2 ^ (p.2.toNat+1)=0:=by
    unfold eB;rw[oG,I,dS (zeb v)];simp
   obtain⟨c,y⟩:=bE de;have lt:p.1<eB q:=by have:=i.2;unfold eB at *;lia
   rw[l,y]at lt;have pos:=Bd.Qw (p.2.toNat+1);have ac:a<c:=kR lt (by lia)
   have:=fU (show a+1<=c by lia) (show(0:Int)<=2 ^ (p.2.toNat+1) by lia)
   rw[pI,kW,<- l,<- y]at this;lia
  ·
   have II:(p.1 - 2 ^ p.2.toNat) % 2 ^ (p.2.toNat+1)=0:=by
    obtain⟨k,ek⟩:=bE (zn9 P);have J:(2:Int) ^ (p.2.toNat+1)=2 ^ p.2.toNat*2:=cA _ _;rw[J]at ev ⊢;have odd:k % 2=1:=by
     rcases pT k with z|z
     ·exfalso;obtain⟨t,et⟩:=bE z;apply ev;apply dS;exact⟨t,by rw[ek,et,fH]⟩
     ·exact z
    apply dS;refine⟨(k - 1) / 2,?_⟩;have:k - 1=2*((k - 1) / 2):=by lia
    rw[ek,fH,<- this,Int.mul_sub,kW]
   have lowq:q.1<=p.1 - 2 ^ p.2.toNat:=by
    obtain⟨a,l⟩:=bE II;obtain⟨c,y⟩:=bE I;have pos:=Bd.Qw (p.2.toNat+1);have J:(2:Int) ^ (p.2.toNat+1)=2 ^ p.2.toNat*2:=cA _ _;have lt:q.1<p.1 - 2 ^ p.2.toNat+2 ^ (p.2.toNat+1):=by lia
    rw[l,y]at lt;have:(2:Int) ^ (p.2.toNat+1)*c<2 ^ (p.2.toNat+1)*(a+1):=by rw[pI,kW];exact lt
    have ca:=kR this (by lia)
    have:=fU (show c<=a by lia) (show(0:Int)<=2 ^ (p.2.toNat+1) by lia)
    rw[<- l,<- y]at this;exact this
   obtain⟨c,hc,c1,c2⟩:=(S.mem (p.1 - 2 ^ p.2.toNat)).mpr ⟨by lia,by have:=S.in p L;unfold eB at this;lia⟩
   have C:=B c hc;have pc:=Bd.Qw c.2.toNat;have cp:eB c<=p.1:=by
    obtain⟨Z,h1,rfl⟩:=bg hc;obtain⟨i2,h2,rfl⟩:=bg L;rcases ee Z i2 with z|z|z
    ·exact aT.mp S.pw Z i2 h1 h2 z
    ·subst z;lia
    ·have:=aT.mp S.pw i2 Z h2 h1 z;unfold eB at this;lia
   have LB:IsBk bits (p.1 - 2 ^ p.2.toNat) (p.2+1):=by
    have hq1:=Q.2.1;obtain⟨a,l⟩:=bE II;have u:(p.2+1).toNat=p.2.toNat+1:=by lia
    have pos:=Bd.Qw (p.2.toNat+1);have a0:0<=a:=by
     rcases i9 a 0 with z|z
     ·have:=gQ pos z;have:=(Q.bounds Y).1;lia
     ·exact z
    refine⟨by lia,by lia,a,a0,by rw[u,l,eH],?_⟩
    have e:(2:Int) ^ bits.toNat=2 ^ (bits - (p.2+1)).toNat*2 ^ (p.2.toNat+1):=by rw[<- hZ];congr 1;lia
    have up:a*2 ^ (p.2.toNat+1)<2 ^ (bits - (p.2+1)).toNat*2 ^ (p.2.toNat+1):=by
     rw[<- e,eH,<- l];have:=(P.bounds Y).2;lia
    exact kN up (by lia)
   have u:(p.2+1).toNat=p.2.toNat+1:=by lia
   have n3:=zhe (p:=c) (q:=(p.1 - 2 ^ p.2.toNat,p.2+1)) C LB (x:=p.1 - 2 ^ p.2.toNat) ⟨c1,c2⟩ ⟨bh _,by show _<_+2 ^ (p.2+1).toNat;have:=Bd.Qw (p.2+1).toNat;lia⟩
   have eL:eB (p.1 - 2 ^ p.2.toNat,p.2+1)=p.1+2 ^ p.2.toNat:=by
    show p.1 - 2 ^ p.2.toNat+2 ^ (p.2+1).toNat=_
    rw[u,cA];lia
   rcases n3 with⟨U,z2,R⟩|⟨U,z2,R⟩
   ·lia
   ·have U:p.1 - 2 ^ p.2.toNat<=c.1:=U;have R:c.2<=p.2+1:=R;have cb:c.1=p.1 - 2 ^ p.2.toNat:=by lia
    have c0:=C.1;have ch:c.2<=p.2:=by
     rcases i9 p.2 c.2 with z|z
     ·have:c.2=p.2+1:=by lia
      unfold eB at cp;rw[this,u,cA]at cp;lia
     ·exact z
    have Gc:=(S.great c hc).1;apply Gc.2.2;refine⟨?_,?_⟩
    ·rw[cb];exact Yi (show c.2.toNat+1<=p.2.toNat+1 by lia) II
    ·have:=UA (show c.2.toNat+1<=p.2.toNat+1 by lia)
     have J:(2:Int) ^ (p.2.toNat+1)=2 ^ p.2.toNat*2:=cA _ _;have:=S.in p L;unfold eB at this;lia
theorem NR.one{rs:List Run}(nr:NR rs){a b:Int}(h:a<b)(w:∀x,a<=x->x<b->mR x rs):∃r∈rs,r.1<=a/\b<=r.2:=by
 obtain⟨r,l,v,C⟩:=w a (bh _) h;refine⟨r,l,v,?_⟩;rcases i9 r.2 b with z|z
 ·exfalso;obtain⟨s,u,I,J⟩:=w r.2 (by lia) z
  obtain⟨i,hi,rfl⟩:=bg l;obtain⟨j,o,rfl⟩:=bg u;have L:=nr.1 _ l;have G:=nr.1 _ u;rcases ee i j with y|y|y
  ·have:=aT.mp nr.2 i j hi o y;lia
  ·subst y;lia
  ·have:=aT.mp nr.2 j i o hi y;lia
 ·exact z
theorem PatS.from:∀{rs:List Run}{ps:qB},PatS rs ps->∀p∈ps,∃r∈rs,∃bs,Jv r.1 r.2 bs/\p∈bs
 | [],_,h=>by cases(show _=[] from h);exact fun b o=>nomatch o
 | s::rs,_,h=>by
  obtain⟨a,b,rfl,v,x⟩:=h;intro p l;rcases ax.mp l with l|l
  ·exact⟨s,by simp,a,v,l⟩
  ·obtain⟨r,u,bs,B,o⟩:=PatS.from x p l
   exact⟨r,by simp[u],bs,B,o⟩
theorem CanP.max{bits:Int}(L:0<=bits){S:Int->Prop}{ps:qB}(h:CanP S ps)(w:∀x,S x->0<=x/\x<2 ^ bits.toNat){p q:Int×Int}(R:p∈ps)(Q:IsBk bits q.1 q.2)(U:∀x,q.1<=x->x<eB q->S x)(i:q.1<=p.1/\eB p<=eB q):q=p:=by
 obtain⟨rs,nr,me,P⟩:=h;obtain⟨r,o,bs,B,I⟩:=P.from p R
 have lt:=nr.1 r o;have N:=w r.1 ((me _).mp ⟨r,o,bh _,lt⟩);have Y:=w (r.2 - 1) ((me _).mp ⟨r,o,by lia,by lia⟩)
 have pin:=B.in p I;have pp:=Ug p;obtain⟨s,J,s1,s2⟩:=nr.one (a:=q.1) (b:=eB q) (Ug q) fun x u l=>(me x).mpr (U x u l)
 have v:r=s:=by
  obtain⟨C,u,rfl⟩:=bg o;obtain⟨G,l,rfl⟩:=bg J;rcases ee C G with y|y|y
  ·have:=aT.mp nr.2 C G u l y;lia
  ·subst y;rfl
  ·have:=aT.mp nr.2 G C l u y;lia
 subst v;exact B.max L N.1 (by lia) I Q ⟨s1,s2⟩ i
theorem zhY:∀{ps bs:qB},(ps.Pairwise fun a b=>eB a<=b.1)->(∀p∈ps,∃b∈bs,p.1<=b.1/\b.1<eB p)->ps.length<=bs.length
 | [],_,_,_=>cJ _
 | p::ps,bs,pw,h=>by
  obtain⟨b,o,C,y⟩:=h p (by simp)
  have l:=cM.mp pw;have:=zhY (ps:=ps) (bs:=bs.erase b) l.2 fun q u=>by
   obtain⟨c,hc,x,v⟩:=h q (by simp[u])
   refine⟨c,(List.mem_erase_of_ne ?_).mpr hc,x,v⟩;rintro rfl;have:=l.1 q u;lia
  have e:=List.length_erase_of_mem o;have:=List.length_pos_of_mem o;rw[aF];lia
theorem CanP.le{bits:Int}(v:0<=bits){bs ps:qB}(B:Bks bits bs)(h:CanP (fun x=>mB x bs) ps):ps.length<=bs.length:=by
 have w:∀x,mB x bs->0<=x/\x<2 ^ bits.toNat:=fun x ⟨b,l,G,C⟩=>by
  have:=(B b l).bounds v;unfold eB at C;lia
 have P:=h.ptc v w;refine zhY P.2 fun p y=>?_
 have pp:=Ug p;obtain⟨b,l,G,C⟩:=(h.mem p.1).mp ⟨p,y,bh _,pp⟩;rcases zhe (P.1 p y) (B b l) (x:=p.1) ⟨bh _,pp⟩ ⟨G,C⟩ with z|z
 ·exact⟨b,l,z.1,by have:=Ug b;lia⟩
 ·have:=h.max v w y (B b l) (fun x I J=>⟨b,l,I,J⟩) ⟨z.1,z.2.1⟩
  subst this;exact⟨b,l,bh _,pp⟩
section
variable{Q:ae->Prop}{s t:Str}{i j:Int}{b:Bool}{xs ys:qD}
theorem zmH:Okd .none:=zj2.okd
instance zxn:Stp (oNe (.str s) .none Q) (Okd (.str s)/\Q (.bool true)):=⟨fun h=>⟨h.1,zmH,h.2⟩⟩
end
end L2
namespace Bd
open PySem L2
def QC(nm:ae):Prop:=nm=.none\/∃s,nm=.str s/\IsNm s
def who(s:Str):ae->Bool
 | .str t=>decide (s=t)
 | _=>false
def JF(d:Deal)(nm:ae):List (Int×Int):=(d.2.2.filter fun p=>!who p.2 nm).map (·.1)
end Bd
namespace L2
open PySem PySem.Spec PyProof.Rows
section
variable{X:Cx}{Q:ae->Prop}{i j k:Int}
def min3(i j k:Int):Int:=if j<i then(if k<j then k else j) else(if k<i then k else i)
theorem znX(hc:X.calm=true):J1 X (.builtin "min") (fun xs H Q=>∃i j k,xs=[.int i,.int j,.int k]/\Q (.int (min3 i j k)) H):=by
 intro ad s σ H xs G Q I r h;obtain⟨i,j,k,rfl,q⟩:=h;cases r with
 | cons y r =>
  obtain⟨v,C,rfl,⟨t',rfl⟩,⟨x,rfl⟩⟩:=vals2 r;obtain⟨t,rfl⟩:=y;refine min_three_ints (I.ok.hd hc) fun h' tk o=>⟨_,H,I.kept o,?_,q⟩
  unfold min3
  by_cases h1:j<i <;> by_cases h2:k<j <;> by_cases h3:k<i <;> simp only[h1,h2,h3,if_true,if_false] <;> exact⟨_,rfl⟩
def Vt:GC
 | [.int i,.int j,.int k],R=>R (.int (min3 i j k))
 | _,_=>False
theorem zru:GpC X (fun xs H Q=>∃i j k,xs=[.int i,.int j,.int k]/\Q (.int (min3 i j k)) H) Vt:=by
 intro hd O H xs ts Q R dom rs h u;unfold Vt at h;split at h
 ·cases rs with
  | cons o rs =>
   obtain⟨v,w,rfl,x,l⟩:=zmf rs;rw[o.intI,x.intI,l.intI];exact⟨_,_,_,rfl,u _ _ H h (Same.refl H) (.int _)⟩
 ·exact h.elim
theorem ztE{R:ae->Prop}(h:R (.int (min3 i j k))):Vt [.int i,.int j,.int k] R:=h
instance{R:ae->Prop}:Stp (Vt [.int i,.int j,.int k] R) (R (.int (min3 i j k))):=⟨fun h=>ztE h⟩
end
end L2
namespace L2
open PySem Bd
theorem ztp{o:List Run}{a:Nat}{p:Run}(e:o[a]?=some p)(x:Int):mR x (o.take (a+1))↔mR x (o.take a)\/(p.1<=x/\x<p.2):=by
 rw[dF,e,Uu];constructor
 ·rintro(z|⟨r,u,h⟩)
  ·exact .inl z
  ·cases aA.mp u;exact .inr h
 ·rintro(z|z)
  ·exact .inl z
  ·exact .inr ⟨p,by simp,z⟩
theorem zj_{o:List Run}{a:Nat}{p:Run}(e:o[a]?=some p){x:Int}(h:mR x o):mR x (o.take a)\/(p.1<=x/\x<p.2)\/∃r∈o.drop (a+1),r.1<=x:=by
 obtain⟨r,y,u,v⟩:=h;obtain⟨i,hi,rfl⟩:=bg y;have C:=(av.mp e).1;rcases ee i a with z|z|z
 ·exact .inl ⟨o[i],gP.mpr ⟨i,by omega,rfl⟩,u,v⟩
 ·subst z;rw[ak hi]at e;cases e;exact .inr (.inl ⟨u,v⟩)
 ·refine .inr (.inr ⟨o[i],?_,u⟩);rw[kS];exact⟨i - (a+1),by omega,by congr 1;omega⟩
theorem NR.beyond{l:List Run}(n:NR l){a:Nat}{p:Run}(e:l[a]?=some p):∀r∈l.drop (a+1),p.2<r.1:=fun r u=>by
 obtain⟨i,hi,rfl⟩:=kS.mp u;have o:=(av.mp e).1;have:=aT.mp n.2 a (a+1+i) o (by omega) (by omega)
 rw[ak o]at e;cases e;exact this
structure ShI(as bs cs:List Run)(a b:Nat):Prop where
 nr:NR cs
 me:∀x,mR x cs↔mR x as/\mR x bs/\(mR x (as.take a)\/mR x (bs.take b))
 gp:∀c∈cs,∀r∈as.drop a,∀s∈bs.drop b,c.2<max r.1 s.1
 ln:cs.length<=a+b
def shr2(p q:Run):List Run:=if max p.1 q.1<min p.2 q.2 then[(max p.1 q.1,min p.2 q.2)] else[]
theorem zj9{p q:Run}{x:Int}:mR x (shr2 p q)↔(p.1<=x/\x<p.2)/\(q.1<=x/\x<q.2):=by
 unfold shr2;split
 ·constructor
  ·rintro⟨r,l,h⟩;cases aA.mp l;dsimp only at h;omega
  ·intro h;exact⟨_,aA.mpr rfl,by dsimp only;omega,by dsimp only;omega⟩
 ·exact⟨fun z=>absurd z QO,fun z=>by omega⟩
theorem VZ{p q:Run}:∀c∈shr2 p q,c.1=max p.1 q.1/\c.2=min p.2 q.2/\c.1<c.2:=by
 unfold shr2;split
 ·intro c hc;cases aA.mp hc;exact⟨rfl,rfl,by assumption⟩
 ·intro c hc;cases hc
theorem zjP{p q:Run}:(shr2 p q).length<=1:=by unfold shr2;split <;> simp
variable{as bs cs:List Run}{a b:Nat}
theorem ShI.zero:ShI as bs [] 0 0:=⟨⟨fun r l=>(nomatch l),ie⟩,fun x=>⟨fun z=>absurd z QO,fun z=>by
 rcases z.2.2 with y|y
 ·exact absurd y QO
 ·exact absurd y QO⟩,fun c hc=>(nomatch hc),aE _⟩
theorem Wg{as:List Run}{a:Nat}{p:Run}(e:as[a]?=some p):p∈as.drop a/\∀r∈as.drop (a+1),r∈as.drop a:=by
 obtain⟨h,rfl⟩:=av.mp e;have e:=bf h;exact⟨by rw[e];exact cL,fun r l=>by rw[e];exact bX _ l⟩
theorem ShI.nrx(h:ShI as bs cs a b){p q:Run}(u:as[a]?=some p)(eq:bs[b]?=some q):NR (cs++shr2 p q):=by
 refine⟨fun r o=>?_,?_⟩
 ·rcases ax.mp o with z|z
  ·exact h.nr.1 r z
  ·exact(VZ r z).2.2
 ·rw[cq];refine⟨h.nr.2,?_,fun c hc d hd=>?_⟩
  ·unfold shr2;split
   ·exact dU _ _
   ·exact .nil
  ·rw[(VZ d hd).1];exact h.gp c hc p (Wg u).1 q (Wg eq).1
theorem ShI.stepA(h:ShI as bs cs a b)(nb:NR bs)(na:NR as){p q:Run}(v:as[a]?=some p)(eq:bs[b]?=some q)(lt:p.2<q.2):ShI as bs (cs++shr2 p q) (a+1) b:=by
 have pa:p∈as:=aH v;have J:q∈bs:=aH eq;refine⟨h.nrx v eq,fun x=>?_,fun c hc r G s C=>?_,by have:=h.ln;have:=zjP (p:=p) (q:=q);rw[aJ];omega⟩
 ·rw[Uu,h.me,zj9,ztp v];constructor
  ·rintro(⟨o,u,I⟩|⟨o,u⟩)
   ·exact⟨o,u,I.elim (fun y=>.inl (.inl y)) .inr⟩
   ·exact⟨⟨p,pa,o⟩,⟨q,J,u⟩,.inl (.inr o)⟩
  ·rintro⟨o,u,(z|z)|z⟩
   ·exact .inl ⟨o,u,.inl z⟩
   ·rcases zj_ eq u with y|y|⟨s,C,y⟩
    ·exact .inl ⟨o,u,.inr y⟩
    ·exact .inr ⟨z,y⟩
    ·have:=nb.beyond eq s C;omega
   ·exact .inl ⟨o,u,.inr z⟩
 ·rcases ax.mp hc with z|z
  ·exact h.gp c z r ((Wg v).2 r G) s C
  ·have:=na.beyond v r G;have:=VZ c z;omega
theorem ShI.stepB(h:ShI as bs cs a b)(nb:NR bs)(na:NR as){p q:Run}(v:as[a]?=some p)(eq:bs[b]?=some q)(lt:¬p.2<q.2):ShI as bs (cs++shr2 p q) a (b+1):=by
 have pa:p∈as:=aH v;have I:q∈bs:=aH eq;refine⟨h.nrx v eq,fun x=>?_,fun c hc r J s C=>?_,by have:=h.ln;have:=zjP (p:=p) (q:=q);rw[aJ];omega⟩
 ·rw[Uu,h.me,zj9,ztp eq];constructor
  ·rintro(⟨o,u,G⟩|⟨o,u⟩)
   ·exact⟨o,u,G.elim .inl (fun y=>.inr (.inl y))⟩
   ·exact⟨⟨p,pa,o⟩,⟨q,I,u⟩,.inr (.inr u)⟩
  ·rintro⟨o,u,z|(z|z)⟩
   ·exact .inl ⟨o,u,.inl z⟩
   ·exact .inl ⟨o,u,.inr z⟩
   ·rcases zj_ v o with y|y|⟨s,C,y⟩
    ·exact .inl ⟨o,u,.inl y⟩
    ·exact .inr ⟨y,z⟩
    ·have:=na.beyond v s C;omega
 ·rcases ax.mp hc with z|z
  ·exact h.gp c z r J s ((Wg eq).2 s C)
  ·have:=nb.beyond eq s C;have:=VZ c z;omega
theorem ShI.fin(h:ShI as bs cs a b)(e:as.length<=a\/bs.length<=b)(x:Int):mR x cs↔mR x as/\mR x bs:=by
 rw[h.me];refine⟨fun z=>⟨z.1,z.2.1⟩,fun z=>⟨z.1,z.2,?_⟩⟩
 rcases e with e|e
 ·exact .inl (by rw[cu e];exact z.1)
 ·exact .inr (by rw[cu e];exact z.2)
end L2
namespace L2
open PySem PySem.Spec PyProof.Rows
theorem zwx{P:aQ}{w:bz}{k:Key}{u:ah}(r:RelV (kV k) u):(JJ P w).is k u=true:=by
 cases k with
 | inl i=>obtain⟨t,e⟩:=(show ∃t,u=oO i t from r);subst e;exact zje P w i t
 | inr x=>obtain⟨t,e⟩:=(show ∃t,u=oP x t from r);subst e;exact zjd P w x t
theorem zig{P:aQ}{w:bz}:∀{u:List Key}{v:List ah},Vals (u.map kV) v->ItemsAre (JJ P w) u v
 | [],_,r=>by rw[e8]at r;cases r;exact .nil
 | k::u,_,r=>by
  rw[aV]at r;cases r with
  | cons h t=>exact .cons (zwx h) (zig t)
abbrev KT(H:Hp):List (List Key×V)->List (List Key×au×ah)->Prop:=cw fun p q=>p.1=q.1/\H q.2.1=some (.tup (p.1.map kV))/\RelV p.2 q.2.2
section
variable{X:Cx}{ad:qO}{σ:St}{H:Hp}{s:aw}{a:au}{y v:V}{u r:ah}{o:Option V}{A:br}{E:qV}
theorem Inv.big(I:Inv X ad σ H s):sysModules<s.heap.objs.size:=by
 have h:mainGlobals<s.heap.objs.size:=(I.mod.glob.keeps I.bk).lt;exact uw (by decide) h
theorem zrK{h':bq}{t':Nat}{C:HO}(I:Inv X ad σ H s)(J:Mut (H a))(G:eZ a s.heap h')(he:∃q,h'.get? a=some q)(new:JP X.prog X.w (upd H a C) h' a C) :
  Inv X ad σ (upd H a C) { s with heap:=h',toks:=t' } :=
 I.write (x:=a) (e:=a) J (.inl rfl) (fun b q L z=>(G.2 b L).trans z) he new
end
end L2
namespace L2
open PySem PySem.Spec PyProof PyProof.Rows
abbrev KD:=List (Key×ae)
section
variable{D:Qb}{ρ ρ':En}{n i j:Nat}{d dk dv:DTE}{R:qN}{ks:KD}
instance{ks:KD}:CapC (some (.dct ks)) (some (.rdo ks)):=⟨rfl⟩
instance{ks:KD}:CapC (some (.rdo ks)) (some (.rdo ks)):=⟨rfl⟩
end
theorem zdi:entryFor table "dict.update.loop" = some gm.«dict.update.loop»:=by kernel_rfl
theorem zm9:typeLookup (.type "list") "keys" = pure none:=by rw[pV,mO];kernel_rfl
theorem zry:typeLookup (.type "list") "__getattr__" = pure none:=by rw[pV,mO];kernel_rfl
section
variable{prog:aQ}{w:bz}{A:br}{E:qV}{s:aw}
theorem zg7{a:au}{o:Obj}{u:Tok}{P:Fin->aw->Prop}(x:s.heap.get? a=some o)(hc:o.cls=.type "list") (l:∃its n,o.data=.seq its n) (hd:o.dict=none) (v:A.handled=none)
  (h:∀h' tk e,mG s.heap h' e (.ref a) "keys" -> E (.ref e) { s with heap:=h',toks:=tk }):wpAny (model prog w) A (gm.«object.__getattribute__» ⟨[.ref a,.str "keys" u],[]⟩) P E s:=by
 obtain⟨G,g,d,tk,os⟩:=s;have I:∀(t:Nat),Shared.TypeIs ⟨G,g,d,t,os⟩ (.ref a) "list":=fun _=>⟨o,x,hc⟩
 have C:=zm9;unfold gm.«object.__getattribute__»
 repeat (any_goals (first|assumption|wp_step))
 rw[hc,C]
 repeat (any_goals (first|assumption|wp_step))
 obtain⟨its,n,l⟩:=l;rw[l];dsimp only;unfold instanceDict
 repeat (any_goals (first|assumption|wp_step))
 rw[hd]
 repeat (any_goals (first|assumption|wp_step))
 simp only[hc,fo,Bool.true_or,if_true]
 repeat (any_goals (first|assumption|wp_step))
 rw[hc];dsimp only
 repeat (any_goals (first|assumption|wp_step))
 exact wpAny_raiseAttrError v h (attrMsg_fits (by decide +kernel) (by size_fits))
theorem zfN{a:au}{o:Obj}{u:Tok}{R:lh->aw->Prop}(v:s.heap.get? a=some o)(hc:o.cls=.type "list") (x:∃its n,o.data=.seq its n) (hd:o.dict=none) (C:A.handled=none)
  (h:∀h' tk e,mG s.heap h' e (.ref a) "keys" -> R (.error (.ref e)) { s with heap:=h',toks:=tk }):codeAny (model prog w) A (.call (.builtin "list.__getattribute__") ⟨[.ref a,.str "keys" u],[]⟩) R s :=
 codeAny_call_builtin fI.plain F.entry_list_ga (fI.check _ _ _ _ _ _ _ _ (show s.TypeIs (.ref a) "list" from⟨_,v,hc⟩) (F.args_list_getattribute_2 _ _) (zg7 v hc x hd C h))
theorem zh2{a:au}{o:Obj}{u:Tok}{Q:qV}(l:s.heap.get? a=some o)(hc:o.cls=.type "list") (x:∃its n,o.data=.seq its n) (hd:o.dict=none) (v:A.handled=none)
  (h:∀h' tk e,mG s.heap h' e (.ref a) "keys" -> E (.ref e) { s with heap:=h',toks:=tk }):wpAny (model prog w) A (getAttrBy (.ref a) (.str "keys" u) false) Q E s:=by
 obtain⟨G,g,d,tk,os⟩:=s;have L:(⟨G,g,d,tk,os⟩:aw).TypeIs (.ref a) "list":=⟨o,l,hc⟩;have f2:=fI.lookup;have N:=fI.bind (.ref a);have f1:=n0;have R:=zry
 repeat (any_goals (first|assumption|wp_step))
 refine zfN l hc x hd v fun h' C e hx=>?_
 obtain⟨t',J,he⟩:=hx.there
 repeat (any_goals (first|assumption|wp_step))
 exact h _ _ _ hx
theorem zfO{a:au}{o:Obj}{Q:Option ah->aw->Prop}(x:s.heap.get? a=some o)(hc:o.cls=.type "list") (v:∃its n,o.data=.seq its n) (hd:o.dict=none) (u:A.handled=none)
  (h:∀h' tk,(∀b l,s.heap.get? b=some l->h'.get? b=some l)->Q none { s with heap:=h',toks:=tk }):wpAny (model prog w) A (getAttr? (.ref a) "keys") Q E s:=by
 unfold getAttr? getAttrBy?
 obtain⟨I,g,d,tk,os⟩:=s;have f1:=n0
 repeat (any_goals (first|assumption|(with_reducible refine zh2 x hc v hd u fun h' C e hx=>?_)|wp_step))
 obtain⟨t',G,he⟩:=hx.there
 repeat (any_goals (first|assumption|wp_step))
 exact h _ _ hx.keeps
end
section
variable{prog:aQ}{w:bz}{A:br}{E:qV}{Ky:Type}[DecidableEq Ky]{knd:sv prog w Ky}
def KpH(d it:au)(h h':bq):Prop:=∀b o,b≠d->b≠it->h.get? b=some o->h'.get? b=some o
end
theorem zmb{k:Nat}{A:br}(r:Room k A):A.units+1<cLine:=by have:=r.un;lia
theorem QL{bits:Int}(v:0<=bits){bs:qB}(B:Bks bits bs){x:Int}(h:mB x bs):0<=x/\x<2 ^ bits.toNat:=by
 obtain⟨b,l,C,y⟩:=h;have:=(B b l).bounds v;unfold eB at y;lia
theorem UH{bits:Int}(o:0<=bits)(u:bits<=64){S:Int->Prop}{rs:qB}(nr:NR rs)(e:∀x,mR x rs↔S x)(w:∀x,S x->0<=x/\x<2 ^ bits.toNat):∀r∈rs,0<=r.1/\r.1<=r.2/\r.2<=2 ^ 64:=fun r l=>by
 have lt:=nr.1 r l;have a:=w r.1 ((e _).mp ⟨r,l,bh _,lt⟩);have b:=w (r.2 - 1) ((e _).mp ⟨r,l,by lia,by lia⟩)
 have:=Bd.zgL (k:=bits.toNat) (by lia)
 lia
section
variable{prog:aQ}{w:bz}{A:br}{E:qV}
def PrT(prog:aQ)(w:bz)(h:bq)(x:ah)(z:List Key×au×ah):Prop:=∃p:au,x=.ref p/\nH h p #[.ref z.2.1,z.2.2]/\iJ (JJ prog w) h z.1 z.2.1
theorem Vu{h:bq}{k:List Key}{a b:au}{T:String}(r:iJ (JJ prog w) h k a)(x:∃o,h.get? b=some o/\o.cls=.type T)(v:T ≠ "tuple"):a≠b:=by
 rintro rfl;obtain⟨o,_,_,e,c,_⟩:=r;obtain⟨C,u,l⟩:=x;rw[e]at u;cases u;rw[c]at l
 injection l with l
 exact v l.symm
theorem V0{h h':bq}{k:List Key}{a:au}(r:iJ (JJ prog w) h k a)(kp:∀o,h.get? a=some o->h'.get? a=some o):iJ (JJ prog w) h' k a:=by
 obtain⟨o,its,n,e,c⟩:=r;exact⟨o,its,n,kp o e,c⟩
theorem tup_ne{h:bq}{a b:au}{xs:Array ah}{T:String}(r:nH h a xs)(x:∃o,h.get? b=some o/\o.cls=.type T)(v:T ≠ "tuple"):a≠b:=by
 rintro rfl;obtain⟨o,e,c,_⟩:=r;obtain⟨C,u,l⟩:=x;rw[e]at u;cases u;rw[c]at l
 injection l with l
 exact v l.symm
theorem zqh{h:bq}{d:au}{xs:List (List Key×au×ah)}(hd:h.DictOfH (tupleKind (JJ prog w)) d xs):∃o,h.get? d=some o/\o.cls=.type "dict":=by
 obtain⟨o,v,u,l,hc,_⟩:=hd;exact⟨o,l,hc.1⟩
theorem zlS{A:br}{xs:List ah}{kw:List (Str×ah)}:(A.under (.builtin "dict.update.loop" ⟨xs,kw⟩)).units=A.units+1:=by
 first|rfl|simp[Around.under,Code.cUnits,Code.frames,Code.isFrame]
end
section
variable{X:Cx}
theorem VJ{ad:qO}{σ:St}{H:Hp}{s:aw}{b:au}{k:List Key}(I:Inv X ad σ H s)(h:SqT X.K H b (k.map kV)):iJ (JJ X.prog X.w) s.heap k b:=by
 obtain⟨its,r,⟨o,e,c,n,d⟩,_⟩:=I.tuple h;exact⟨o,its.toArray,n,e,c,d,by simpa using zig r⟩
theorem Wp{α u:Type}{F:α->u->Prop}{o:List α}{l:List u}(r:cw F o l){b:u}(h:b∈l):∃a∈o,F a b:=by
 induction r with
 | nil=>cases h
 | cons f t v =>
  rcases az.mp h with rfl|h
  ·exact⟨_,cL,f⟩
  ·obtain⟨b,x,g⟩:=v h;exact⟨b,bX _ x,g⟩
end
end L2
namespace Bd
open PySem L2
theorem zpB{ts:qD}{lo hi:Option Int}{t:ae}(h:t∈cutD ts lo hi):t∈ts:=by
 unfold cutD at h;exact fC (dQ h)
theorem zpC{ts:qD}{lo hi:Option Int}:(cutD ts lo hi).length<=ts.length:=by
 unfold cutD;rw[gE,gG];lia
end Bd
namespace Bd
open PySem L2
def Dq(K:qF)(mg:qM)(x:Str)(st:eS)(ps:List Str):Prop:=∃f fd,Def K mg x st ps f fd
def Fq(P:aQ)(w:bz)(K:qF)(mg:qM)(base:bq)(x:Str)(st:eS)(ps:List Str)(k:Nat)(l:Sp):Prop:=∃f fd,Def K mg x st ps f fd/\FnOk P w K mg base CX0 k f fd ps l
end Bd
namespace L2
open PySem PySem.Spec PyProof.Rows
section
variable{X:Cx}{x:Str}{st:eS}{ps:List Str}{k n m:Nat}{g:GD}{e:aZ}{es:List aZ}{ds:DTA}{p pos:Pos}
theorem Jd(F:Bd.Fq X.prog X.w X.K X.mg X.base x st ps k (spD X.K m g))(u:Room n X.A)(h:DB X (e::es) ds)(v:k<=n:=by decide)(y:(e::es).length=m:=by rfl)(I:Gl X x:=by rfl)
  (o:(x == ("__debug__":Str))=false:=by rfl):DE X (.Call (.Name x p) (e::es) [] pos) (dFn g ds):=by
 obtain⟨f,fd,D,G⟩:=F;exact zxd D G (u.mono v) h y I o
theorem zuM(F:Bd.Fq X.prog X.w X.K X.mg X.base x st ps k (spD X.K m g))(u:Room n X.A)(h:DBL X (e::es) ds)(v:k<=n:=by decide)(y:(e::es).length=m:=by rfl)(I:Gl X x:=by rfl)
  (o:(x == ("__debug__":Str))=false:=by rfl):DE X (.Call (.Name x p) (e::es) [] pos) (dFnL g ds):=by
 obtain⟨f,fd,D,G⟩:=F;exact zuN D G (u.mono v) h y I o
end
section
variable{X:Cx}{hx s kx x:Str}{st:eS}{ps:List Str}{k n:Nat}{p p1 p2 p3 pos pos':Pos}{sts:List eS}{u:DTS}
theorem znv{i j:Nat}(F:Bd.Fq X.prog X.w X.K X.mg X.base hx st ps k (VR X.K))(hr:Room n X.A)(Z:X.N.Nodup)(hi:X.N[i]?=some x)(L:Loc X.env.scope x)(hu:DSs X sts u)(hk:k<=n:=by decide)(S:i≠0:=by decide)(Y:j≠0:=by decide)(I:j≠i:=by decide)
  (h0:X.N[0]?=some s:=by rfl) (hj:X.N[j]?=some kx:=by rfl) (y:Vis X.env.scope s:=by walk_at "V") (v:Vis X.env.scope kx:=by walk_at "V")
  (J:(s == ("__debug__":Str))=false:=by rfl) (I0:(s == ("__classdict__":Str))=false:=by rfl) (U:(kx == ("__debug__":Str))=false:=by rfl) (Ka:(kx == ("__classdict__":Str))=false:=by rfl) (hg:Gl X hx:=by rfl) (R:(hx == ("__debug__":Str))=false:=by rfl)
  (hs:swapsWith (.Call (.Name hx p) [.Name s p1,.Name kx p2] [] p3) (some (.Name x pos')) pos.line X.env=pure false:=by rfl) (hf:X.fn x=true\/X.env.scope.names.lookup x=some .local:=by walk_at "F") :
  DSs X (.Assign [.Name x pos'] (.Call (.Name hx p) [.Name s p1,.Name kx p2] [] p3) pos::sts) (YG i j u):=by
 obtain⟨f,fd,D,G⟩:=F;exact zps D G (hr.mono hk) Z hi L hu S Y I h0 hj y v J I0 U Ka hg R hs hf
end
end L2
namespace Bd
open PySem L2
section
variable{K:qF}{h:bq}{mg:qM}{x:Str}{st:eS}{ps:List Str}
abbrev BndA(x:Str)(st:eS)(ps:List Str):Prop:=∀(kV doc pm:ah) (an:Option au) (am ct:ah) (us:List ah),us.length=ps.length->bindArgs (dX x x (QR st) (Qr st) (JZ st) .none kV doc pm an am ct) ⟨us,[]⟩=pure (ps.zip us)
theorem lenS{l:List ah}{n:Nat}(h:l.length=n+1):∃a t,l=a::t/\t.length=n:=by
 cases l with
 | nil=>cases h
 | cons a t=>exact⟨a,t,rfl,uz h⟩
theorem len1{l:List ah}(h:l.length=1):∃a,l=[a]:=by
 obtain⟨a,t,rfl,e⟩:=lenS h;exact⟨a,by rw[List.eq_nil_of_length_eq_zero e]⟩
theorem len2{l:List ah}(h:l.length=2):∃a b,l=[a,b]:=by
 obtain⟨a,t,rfl,e⟩:=lenS h;obtain⟨b,rfl⟩:=len1 e;exact⟨a,b,rfl⟩
theorem len3{l:List ah}(h:l.length=3):∃a b c,l=[a,b,c]:=by
 obtain⟨a,t,rfl,e⟩:=lenS h;obtain⟨b,c,rfl⟩:=len2 e;exact⟨a,b,c,rfl⟩
theorem len4{l:List ah}(h:l.length=4):∃a b c d,l=[a,b,c,d]:=by
 obtain⟨a,t,rfl,e⟩:=lenS h;obtain⟨b,c,d,rfl⟩:=len3 e;exact⟨a,b,c,d,rfl⟩
end
end Bd
namespace L2
open PySem PySem.Spec PyProof PyProof.Rows
section
variable{X:Cx}{e:aZ}{x:Str}{pos p1:Pos}{d:DTE}{te:TE}{kvs:List (Str×List Str)}
theorem zjR{K:qF}{hd:Option au}{O:au->Prop}{H:Hp}:∀u:List Str,Reps K hd O H (u.map V.str) (u.map cF)
 | []=>.nil
 | k::u=>.cons (.str k) (zjR u)
end
section
variable{prog:aQ}{w:bz}{A:br}{E:qV}{s:aw}
theorem PrIn.tk{h:bq}{p:au}{b k:Int}(x:PrIn h (.ref p) b k):iJ (JJ prog w) h [.inl b,.inl k] p:=by
 obtain⟨a,o,t,t',n,y,v,u,C⟩:=x;cases y;exact⟨o,_,n,v,u,C,.cons (zfc b t) (.cons (zfc k t') .nil)⟩
theorem zrE{p q:au}{b k o l:Int}(u:A.units<cLine)(x:PrIn s.heap (.ref p) b k)(y:PrIn s.heap (.ref q) o l):nT A s (.ref p) (.ref q) (decide (b=o/\k=l)):=fun prog w E Q h=>by
 refine wpAny_eqBool_tuple (knd:=JJ prog w) u x.tk y.tk ?_;have:decide (([iN b,iN k]:List Key)=[iN o,iN l])=decide (b=o/\k=l):=by
  rw[decide_eq_decide];constructor
  ·intro z;cases z;exact⟨rfl,rfl⟩
  ·rintro⟨rfl,rfl⟩;rfl
 rw[this];exact h
theorem zq3{p q:au}{b k v C:Int}(Y:A.units<cLine)(x:PrIn s.heap (.ref p) b k)(y:PrIn s.heap (.ref q) v C):LtAt prog w A s false (.ref p) (.ref q) (HT.lexLt [b,k] [v,C]):=fun E Q h=>by
 obtain⟨a,o,t,t',n,R,N,U,J⟩:=x;obtain⟨a',S,u,Z,G,f0,f1,f2,I⟩:=y;cases R;cases f0;rw[tS];simp only[aN,if_false];refine aa (show wpAny (model prog w) A (compareOp .Lt (.ref p) (.ref q)) _ E s from HT.zed ⟨o,N,U,n,J⟩ ⟨S,f1,f2,G,I⟩ (.cons _ _ (.cons _ _ .nil)) (.cons _ _ (.cons _ _ .nil)) Y ?_)
 exact ck h
theorem zq4{a b c d:Int}:HT.lexLt [a,b] [c,d]=decide (a<c\/(a=c/\b<d)):=by
 have e:HT.lexLt [a,b] [c,d]=if a=c then(if b=d then false else decide (b<d)) else decide (a<c):=rfl
 rw[e];split
 ·rename_i h;subst h;split
  ·symm;rw[decide_eq_false_iff_not];lia
  ·rw[decide_eq_decide];lia
 ·rw[decide_eq_decide];lia
end
theorem zoL{α:Type}{P:α->ah->Prop}{rk:ah->Int}{f:α->Int}{u:List ah}{N:List α}{y:bR}(hv:cw P N u)(hr:∀a v,P a v->rk v=f a)(pm:(arrOf y).Perm (pairsOf u))(up:Up rk (arrOf y) u.length) :
  ∃bs:List α,bs.Perm N/\bs.Pairwise (fun a b=>f a<=f b)/\cw P bs ((arrOf y).map (·.2)).toList:=by
 have C:(arrOf y).toList.Perm (u.zip u):=by
  have:=cW.mp pm;simpa[pairsOf] using this
 have hl:N.length=u.length:=gU hv;have each:∀x∈N.zip u,P x.1 x.2:=by
  clear pm up C hl;induction hv with
  | nil=>intro x hx;simp at hx
  | cons h t S =>
   intro x hx;rcases az.mp (by simpa using hx) with rfl|hx
   ·exact h
   ·exact S x hx
 have J:((arrOf y).toList.map (·.2)).Perm ((N.zip u).map (·.2)):=by
  refine(C.map _).trans ?_;rw[fc (aE _),fc (by lia)]
 obtain⟨G,U,p2⟩:=Wa J;have Z:∀x∈G,P x.1 x.2:=fun x hx=>each x (U.mem_iff.mp hx)
 have ID:∀z∈(arrOf y).toList,z.1=z.2:=fun z hz=>by
  have:z∈u.zip u:=C.mem_iff.mp hz;obtain⟨i,hi,rfl⟩:=bg this;simp
 have R:(arrOf y).size=u.length:=by
  have:=C.length_eq;simpa using this
 refine⟨G.map (·.1),?_,?_,?_⟩
 ·have:=U.map (·.1)
  rwa [gK (by lia)]at this
 ·rw[eP,aT];intro i j hi hj Y;have lw:G.length=u.length:=by
   have:=congrArg eJ p2;simpa[R] using this
  have gw:∀k (hk:k<G.length),rkAt rk (arrOf y) k=f G[k].1:=fun k hk=>by
   have I:k<(arrOf y).size:=by lia
   have e1:(arrOf y).toList[k]'(by simpa using I)=(arrOf y)[k]:=by simp
   have e2:G[k].2=(arrOf y)[k].2:=by
    have:(G.map (·.2))[k]'(by simpa using hk)=((arrOf y).toList.map (·.2))[k]'(by simpa using I):=by simp only[p2]
    simpa using this
   have e3:(arrOf y)[k].1=(arrOf y)[k].2:=ID _ (by rw[<- e1];exact c9 _)
   unfold rkAt;rw[bH I];simp only[fx,c8];rw[e3,<- e2];exact hr _ _ (Z _ (c9 _))
  have:=up i j Y (by lia)
  rwa [gw i hi,gw j hj]at this
 ·rw[oZ,<- p2];clear U p2 J pm up;induction G with
  | nil=>exact .nil
  | cons a l S=>exact .cons (Z a (.head _)) (S fun x hx=>Z x (.tail _ hx))
section
variable{prog:aQ}{w:bz}{A:br}{E:qV}{s:aw}{rk:ah->Int}
theorem zjf{h:bq}{v:List ah}{b:au}{o:Obj}(u:h.get? b=some o):(midH (h.push (seqObj "list" v.toArray 0)) h.objs.size v).get? b=some o:=by
 have l:b<h.objs.size:=aD u;unfold midH;rw[cH _ _ _ (by rw[eV,cO,eV];lia),cH _ _ _ (by rw[cO,eV];lia),gS _ _ _ _ (aK l),cH _ _ _ (aK l)]
 exact u
theorem zl2{l:List ah}{P:qV}(u:l.length<100000)(G:Kinds prog w A { s with heap:=midH (s.heap.push (seqObj "list" l.toArray 0)) s.heap.objs.size l } rk l)
  (h:∀h' (y:bR) (e:Nat),(∀b o,s.heap.get? b=some o->h'.get? b=some o)->(arrOf y).Perm (pairsOf l)->Up rk (arrOf y) l.length->h'.get? s.heap.objs.size=some (seqObj "list" ((arrOf y).map (·.2)) e)->P .none { s with heap:=h' }) :
  wpAny (model prog w) A (gm.«list.sort» ⟨[.ref s.heap.objs.size],[]⟩) (fun f s'=>∃v,f=.done (.ret v)/\P v s') E { s with heap:=s.heap.push (seqObj "list" l.toArray 0) }:=by
 have C:(s.heap.push (seqObj "list" l.toArray 0)).get? s.heap.objs.size=some (seqObj "list" l.toArray 0):=aG _ rfl;refine zkb (s:={ s with heap:=s.heap.push (seqObj "list" l.toArray 0) }) C u G fun y I p2=>⟨_,rfl,?_⟩
 obtain⟨e,he⟩:=sortedHeap_at (out:=(arrOf y).map (·.2)) C;refine h _ y e (fun b o x=>?_) I p2 he
 have lt:=aD x;rw[sortedHeap_old (aK lt) (by rw[eV];exact oI lt),cH _ _ _ (aK lt)]
 exact x
end
section
variable{prog:aQ}{w:bz}{A:br}{E:qV}{s:aw}{rk:bq->ah->Int}
theorem zkO{x:ah}{C:bq->Nat->List ah->Prop}{Q:qV}(I:∀(J:br) (Z:qV) (R:List ah->aw->Prop),J.handled=A.handled->(∀h' tk v,C h' tk v->R v { s with heap:=h',toks:=tk })->wpAny (model prog w) J (collect x) R Z s)
  (L:∀h' tk v,C h' tk v->v.length<100000)
  (U:∀h' tk v (J:br),C h' tk v->J.units<=A.units+16->Kinds prog w J { s with heap:=midH (h'.push (seqObj "list" v.toArray 0)) h'.objs.size v,toks:=tk } (rk h') v)
  (h:∀h' tk v G (y:bR) (e:Nat),C h' tk v->(∀b o,h'.get? b=some o->G.get? b=some o)->(arrOf y).Perm (pairsOf v)->Up (rk h') (arrOf y) v.length->G.get? h'.objs.size=some (seqObj "list" ((arrOf y).map (·.2)) e)->Q (.ref h'.objs.size) { s with heap:=G,toks:=tk }) :
  wpAny (model prog w) A (call (.builtin "sorted") [x]) Q E s:=by
 have hs:100000<=sizeLine:=by decide
 refine kP kind_sorted plain_sorted entry_sorted (args_sorted1 _) ?_;unfold gm.«sorted»;refine aa (m:=checkCount "sorted" 1 1 _) (aj (aa (I _ _ _ rfl fun h' tk v c=>?_)))
 have N:=L h' tk v c;refine aa (lA (hsz:=by show v.toArray.size<=_;rw[aB];lia) ?_)
 have S:(h'.push (seqObj "list" v.toArray 0)).get? h'.objs.size=some (seqObj "list" v.toArray 0):=aG _ rfl;refine aa (cf (eC rK ⟨_,S,rfl⟩ pQ ?_ (rL _)));refine zl2 (s:={ s with heap:=h',toks:=tk }) N (U h' tk v _ c (by show A.units+1+1<=_;lia)) fun G y e kp Y p2 he=>?_
 exact aj ⟨_,rfl,h h' tk v G y e c kp Y p2 he⟩
end
section
variable{X:Cx}
theorem zsj{ad:qO}{σ:St}{H:Hp}{s:aw}{q:au}{b k:Int}(I:Inv X ad σ H s)(h:SqT X.K H q [.int b,.int k]):PrIn s.heap (.ref q) b k:=by
 obtain⟨is,rs,⟨o,f1,f2,n,l⟩,_⟩:=I.tuple h;cases rs with
 | cons a1 a2 =>
  cases a2 with
  | cons u v =>
   cases v;obtain⟨t,rfl⟩:=a1;obtain⟨t',rfl⟩:=u;exact⟨q,o,t,t',n,rfl,f1,f2,l⟩
end
def zput(zs:ZT)(k:Int×Int)(b:au)(v:V):ZT:=if (zs.any fun z=>decide (z.1=k))=true then zs.map (fun z=>if z.1=k then(z.1,z.2.1,v) else z) else zs++[(k,b,v)]
def putT(l:KT2)(k:Int×Int)(t:ae):KT2:=if (l.any fun z=>decide (z.1=k))=true then l.map (fun z=>if z.1=k then(z.1,t) else z) else l++[(k,t)]
def valT(l:KT2)(k:Int×Int):Option ae:=(l.find? fun z=>decide (z.1=k)).map (·.2)
def kL(k:Int×Int):List Key:=[.inl k.1,.inl k.2]
theorem znb{k l:Int×Int}:kL k=kL l↔k=l:=by
 constructor
 ·intro h;unfold kL at h
  injection h with h1 h2
  injection h2 with h2 _
  injection h1 with h1
  injection h2 with h2
  exact gW h1 h2
 ·rintro rfl;rfl
def ZX(z:(Int×Int)×au×V)(x:List Key×au×ah):Prop:=x.1=kL z.1/\x.2.1=z.2.1/\RelV z.2.2 x.2.2
theorem zpJ{zs:ZT}{xs:List (List Key×au×ah)}(r:cw ZX zs xs)(k:Int×Int):(atKey xs (kL k)).isSome=zs.any fun z=>decide (z.1=k):=by
 induction r with
 | nil=>rfl
 | @cons z x zs xs h t ih =>
  by_cases e:z.1=k
  ·have:x.1=kL k:=by rw[h.1,e]
   simp[atKey,mH,this,e]
  ·have:¬x.1=kL k:=fun u=>e (znb.mp (h.1.symm.trans u))
   have l:atKey (x::xs) (kL k)=atKey xs (kL k):=by simp[atKey,mH,this]
   rw[l,ih,iP,decide_eq_false e,Bool.false_or]
theorem zpI{zs:ZT}{xs:List (List Key×au×ah)}(r:cw ZX zs xs)(k:Int×Int){b:au}{v:V}{u:ah}(y:RelV v u):cw ZX (zput zs k b v) (storedH xs (kL k) b u):=by
 unfold zput storedH;rw[zpJ r k]
 by_cases e:(zs.any fun z=>decide (z.1=k))=true
 ·rw[if_pos e,if_pos e];clear e;induction r with
  | nil=>exact .nil
  | @cons z x zs xs h t ih =>
   refine .cons ?_ ih;unfold putAt;dsimp only
   by_cases e:z.1=k
   ·rw[if_pos e,if_pos (by rw[h.1,e])]
    exact⟨h.1,h.2.1,y⟩
   ·rw[if_neg e,if_neg (fun C=>e (znb.mp (h.1.symm.trans C)))]
    exact h
 ·rw[if_neg e,if_neg e];exact Paired.snoc r ⟨rfl,rfl,y⟩
theorem zlK{zs:ZT}{xs:List (List Key×au×ah)}(r:cw ZX zs xs):xs.map (·.1)=(zs.map (·.1)).map kL:=by
 induction r with
 | nil=>rfl
 | cons h t l=>rw[aV,aV,aV,l,h.1]
theorem zj6{l:qB}:(l.map kL).Nodup↔l.Nodup:=by
 induction l with
 | nil=>simp
 | cons a l v =>
  rw[aV,eT,eT,v];have:kL a∈l.map kL↔a∈l:=by
   constructor
   ·intro h;obtain⟨b,x,e⟩:=aS.mp h
    rwa [<- znb.mp e]
   ·exact iY
  rw[this]
theorem zjJ(zs:ZT)(k:Int×Int)(b:au)(v:V):(zput zs k b v).length<=zs.length+1:=by
 unfold zput;split
 ·rw[aM];exact fS _
 ·simp
section
variable{P:aQ}{w:bz}
theorem zxc{z:(Int×Int)×au×V}{x:List Key×au×ah}(h:ZX z x):entZ z (entryOfKey (tupleKind (JJ P w)) x):=by
 obtain⟨o,u,l⟩:=h;refine⟨?_,?_,l⟩
 ·show tupleKeyHash (JJ P w) x.1=_
  rw[o];rfl
 ·show bP x.2.1=_
  rw[u]
theorem zot{zs:ZT}{u:List nu}(r:cw entZ zs u):∃xs:List (List Key×au×ah),cw ZX zs xs/\u=xs.map (entryOfKey (tupleKind (JJ P w))):=by
 induction r with
 | nil=>exact⟨[],.nil,rfl⟩
 | @cons z e zs u h t ih =>
  obtain⟨xs,G,y⟩:=ih;obtain⟨v,x,C⟩:=h;refine⟨(kL z.1,z.2.1,e.val)::xs,.cons ⟨rfl,rfl,C⟩ G,?_⟩;rw[aV,<- y];congr 1;cases e;dsimp only at v x;rw[v,x]
  rfl
theorem zuC{zs:ZT}{xs:List (List Key×au×ah)}(r:cw ZX zs xs):cw entZ zs (xs.map (entryOfKey (tupleKind (JJ P w)))):=by
 induction r with
 | nil=>exact .nil
 | cons h t u=>exact .cons (zxc h) u
end
section
variable{X:Cx}{ad:qO}{σ:St}{H:Hp}{s:aw}{a:au}{zs:ZT}{ep:Nat}{A:br}{E:qV}
theorem zpK(I:Inv X ad σ H s)(h:H a=some (ZDO a zs ep))(y:∀z∈zs,SqT X.K H z.2.1 [.int z.1.1,.int z.1.2]):(a == sysModules)=false/\zs.length<=sizeLine/\∃xs,cw ZX zs xs/\s.heap.DictOfH (tupleKind (JJ X.prog X.w)) a xs:=by
 obtain⟨⟨J,v,nd,o,G,g1,g2,g3,pr⟩,_⟩:=I.hok a _ h;obtain⟨xs,l,u⟩:=zot (P:=X.prog) (w:=X.w) pr;refine⟨J,v,xs,l,o,G,ep,g1,g2,g3,u,fun x hx=>?_,?_⟩
 ·obtain⟨z,N,C,L,_⟩:=Wp l hx;have:=VJ (k:=kL z.1) I (y z N);rw[C,L];exact this
 ·rw[zlK l];exact zj6.mpr nd
theorem zlL{H':Hp}{h':bq}{xs:List (List Key×au×ah)}(J:(a == sysModules)=false)(y:zs.length<=sizeLine)(r:cw ZX zs xs)(C:h'.DictOfH (tupleKind (JJ X.prog X.w)) a xs):∃ep,JP X.prog X.w H' h' a (ZDO a zs ep):=by
 obtain⟨o,l,ep,g1,g2,g3,N,_,u⟩:=C;refine⟨ep,⟨J,y,?_,o,l,g1,g2,g3,?_⟩,⟨o,g1⟩,?_⟩
 ·rw[zlK r]at u;exact zj6.mp u
 ·rw[N];exact zuC r
 ·rintro S R ⟨I,v,G,o,l,x,L⟩ k;exact⟨I,v,G,o,l,k o x,L⟩
end
section
variable{K:qF}{hd:Option au}{O:au->Prop}{H:Hp}{zs:ZT}{ks:KT2}
theorem Jq.sq(r:Jq K hd O H zs ks):∀z∈zs,SqT K H z.2.1 [.int z.1.1,.int z.1.2]:=by
 intro z l;induction zs generalizing ks with
 | nil=>cases l
 | cons y zs u =>
  cases r with
  | cons I L r =>
   rcases az.mp l with rfl|l
   ·obtain⟨a,J,e,sq,v⟩:=I.tupI;cases e;cases v with
    | cons C x =>
     cases x with
     | cons G o =>
      cases o;rw[C.intI,G.intI]at sq;exact sq
   ·exact u r l
theorem Jq.length(r:Jq K hd O H zs ks):zs.length=ks.length:=by
 induction zs generalizing ks with
 | nil=>cases r;rfl
 | cons y zs l =>
  cases r with
  | cons o u r=>rw[aF,aF,l r]
theorem Jq.keys(r:Jq K hd O H zs ks):zs.map (·.1)=ks.map (·.1):=by
 induction zs generalizing ks with
 | nil=>cases r;rfl
 | cons y zs l =>
  cases r with
  | cons o u r=>rw[aV,aV,l r]
theorem Jq.snoc{k:Int×Int}{q:au}{v:V}{d:ae}(h:Rep K hd O H (.ref q) (.tuple [.int k.1,.int k.2]))(x:Rep K hd O H v d){zs:ZT}{ks:KT2}(r:Jq K hd O H zs ks):Jq K hd O H (zs++[(k,q,v)]) (ks++[(k,d)]) :=
 r.ind (P:=fun zs ks=>Jq K hd O H (zs++[(k,q,v)]) (ks++[(k,d)])) (.cons h x .nil) fun a b _ r=>.cons a b r
theorem Jq.put(r:Jq K hd O H zs ks)(k:Int×Int){b:au}{v:V}{t:ae}(L:Rep K hd O H (.ref b) (.tuple [.int k.1,.int k.2]))(G:Rep K hd O H v t):Jq K hd O H (zput zs k b v) (putT ks k t):=by
 have C:(zs.any fun z=>decide (z.1=k))=ks.any fun z=>decide (z.1=k):=by
  have J:(zs.any fun z=>decide (z.1=k))=(zs.map (·.1)).any fun z=>decide (z=k):=by rw[i8];rfl
  have I:(ks.any fun z=>decide (z.1=k))=(ks.map (·.1)).any fun z=>decide (z=k):=by rw[i8];rfl
  rw[J,I,r.keys]
 unfold zput putT;rw[C];split
 ·clear C;rename_i e;clear e;induction zs generalizing ks with
  | nil=>cases r;exact .nil
  | cons y zs x =>
   cases r with
   | @cons k' q v' d zs ks h1 h2 r =>
    rw[aV,aV];dsimp only
    by_cases e:k'=k
    ·rw[if_pos e,if_pos e];exact .cons h1 G (x r)
    ·rw[if_neg e,if_neg e];exact .cons h1 h2 (x r)
 ·exact Jq.snoc L G r
theorem Rep.bkI{v:V}{a b:Int}(h:Rep K hd O H v (.tuple [.int a,.int b])):∃q,v=.ref q/\SqT K H q [.int a,.int b]:=by
 obtain⟨q,I,rfl,sq,x⟩:=h.tupI;cases x with
 | cons C y =>
  cases y with
  | cons G o =>
   cases o;rw[C.intI,G.intI]at sq;exact⟨q,rfl,sq⟩
end
section
variable{X:Cx}{e e1 e2:aZ}{x:Str}{pos:Pos}{d d1 d2:DTE}
def lBlk(y:ae)(R:Int×Int->Prop):Prop:=∃k:Int×Int,y=.tuple [.int k.1,.int k.2]/\R k
end
section
variable{prog:aQ}{w:bz}{A:br}{E:qV}
theorem PrT.keepL{h h':bq}{x:ah}{z:List Key×au×ah}(d it:au)(hd:∃o,h.get? d=some o/\o.cls=.type "dict") (hi:∃o,h.get? it=some o/\o.cls=.type "list_iterator") (r:PrT prog w h x z) (kp:KpH d it h h'):PrT prog w h' x z:=by
 obtain⟨p,e,l,tk⟩:=r;refine⟨p,e,?_,V0 tk fun o=>kp _ o (Vu tk hd (by decide)) (Vu tk hi (by decide))⟩
 have u:=tup_ne l hd (by decide)
 have v:=tup_ne l hi (by decide)
 obtain⟨o,g,c⟩:=l;exact⟨o,kp p o u v g,c⟩
theorem zkx{h h':bq}{d it:au}{xs:List (List Key×au×ah)}(hd:h.DictOfH (tupleKind (JJ prog w)) d xs)(hi:∃o,h.get? it=some o/\o.cls=.type "list_iterator") (kp:∀b o,b≠it->h.get? b=some o->h'.get? b=some o) (u:d≠it):h'.DictOfH (tupleKind (JJ prog w)) d xs:=by
 obtain⟨o,G,C,I,hc,hd,he,l,v⟩:=hd;exact⟨o,G,C,kp d o u I,hc,hd,he,fun x hx=>V0 (l x hx) fun o e=>kp _ o (Vu (l x hx) hi (by decide)) e,v⟩
def mkX(xs ps:List (List Key×au×ah)):List (List Key×au×ah):=ps.foldl (fun acc z=>storedH acc z.1 z.2.1 z.2.2) xs
theorem ziY(xs:List (List Key×au×ah))(k:List Key)(a:au)(v:ah):(storedH xs k a v).length<=xs.length+1:=by
 unfold storedH;split
 ·rw[aM];exact fS _
 ·simp
theorem zhh{d it l:au}{items:Array ah}{res:ah}(hA:A.handled=none)(hu:A.units+1<cLine)(G:d≠it)(nl:l≠d)(nli:l≠it):∀(ps:List (List Key×au×ah)) (i:Nat) (xs:List (List Key×au×ah)) (s:aw) (t:Tok) {R:lh->aw->Prop},
  s.heap.IsList l items->s.heap.IsListIter it l i->s.heap.DictOfH (tupleKind (JJ prog w)) d xs->xs.length+ps.length<=sizeLine->cw (PrT prog w s.heap) (items.toList.drop i) ps ->
  (∀h' tk,KpH d it s.heap h'->h'.DictOfH (tupleKind (JJ prog w)) d (mkX xs ps)->R (.ok (.ret res)) { s with heap:=h',toks:=tk }) ->
  codeAny (model prog w) A (.builtin "dict.update.loop" ⟨[.ref d,.ref it,.int i t,res],[]⟩) R s
 | [],i,xs,s,t,R,hl,hi,hd,hz,hp,h=>by
  have e:items[i]?=none:=by
   generalize hq:items.toList.drop i=q at hp;cases hp;have:=List.drop_eq_nil_iff.mp hq;exact Array.getElem?_eq_none (by simpa using this)
  refine fz zdi ?_;show wpAny _ _ (pyNext (.ref it) >>= _) _ _ s
  refine aa (mJ hA hi hl e fun h' hx=>?_)
  show wpAny _ _ (lC d [] >>= fun _=>ret res) _ _ _
  unfold lC;rw[kK];obtain⟨oi,gi,ci,_⟩:=id hi;exact aa (aj (aj (h h' s.toks (fun b o _ n ho=>hx b o n ho) (zkx hd ⟨oi,gi,ci⟩ (fun b o n e=>hx b o n e) G))))
 | (k,a,v)::ps,i,xs,s,t,R,hl,hi,hd,hz,hp,h=>by
  generalize hq:items.toList.drop i=q at hp;cases hp with
  | cons r rs =>
   rename_i x xs';have N:∃o,s.heap.get? it=some o/\o.cls=.type "list_iterator":=by obtain⟨oi,gi,ci,_⟩:=id hi;exact⟨oi,gi,ci⟩
   obtain⟨p,rfl,tp,ki⟩:=r;have np:=tup_ne tp (zqh hd) (by decide)
   have npi:=tup_ne tp N (by decide)
   obtain⟨o,ho,oc,n,od⟩:=id tp;have Y:i<items.toList.length:=by
    by_cases z:i<items.toList.length
    ·exact z
    ·rw[fW (by lia)]at hq;cases hq
   rw[bf Y]at hq;obtain⟨e1,e2⟩:=g6 hq;have e:items[i]?=some (.ref p):=by rw[<- e1,<- cR];exact ak Y
   refine fz zdi ?_;show wpAny _ _ (pyNext (.ref it) >>= _) _ _ s
   refine aa (lQ hi hl e fun S hi1 L=>?_)
   refine aa (cf ?_);have ho1:S.get? p=some o:=(L.2 p npi).trans ho;have hT:(⟨S,s.gens,s.drawn,s.toks,s.os⟩:aw).TypeIs (.ref p) "tuple":=⟨o,ho1,oc⟩;refine aa (iA ?_);unfold uB;refine aa (eG hT ?_);rw[if_pos (by rfl)]
   refine aa (cX ho1 od (aj ?_));show wpAny _ _ (holding [.ref a,v] (dictSet d (.ref a) v)) _ _ _
   have kp1:KpH d it s.heap S:=fun b J _ n C=>(L.2 b n).trans C
   have hd1:=zkx hd N (fun b J n C=>(L.2 b n).trans C) G
   have ki1:iJ (JJ prog w) S k a:=V0 ki fun J C=>(L.2 a (Vu ki N (by decide))).trans C
   rw[aF]at hz;refine cf (n8 (s:=⟨S,s.gens,s.drawn,s.toks,s.os⟩) (knd:=tupleKind (JJ prog w)) (by show Around.units _<cLine;rw[zlS];exact hu) ki1 hd1 (fun h2 hd2 Z=>?_) (by lia))
   have kp2:KpH d it S h2:=fun b J n _ C=>(Z.2 b n).trans C
   refine aj ⟨kJ _ (by decide +kernel),?_⟩
   have kp:KpH d it s.heap h2:=fun b J U n2 C=>kp2 b J U n2 (kp1 b J U n2 C)
   refine zhh (items:=items) hA hu G nl nli ps (i+1) (storedH xs k a v) _ 0 ?_ ?_ hd2 ?_ ?_ fun h' tk kp' hd'=>?_
   ·obtain⟨ol,hol,r⟩:=hl;exact⟨ol,kp l ol nl nli hol,r⟩
   ·obtain⟨oi,hoi,r⟩:=hi1;exact⟨oi,(Z.2 it (gh G)).trans hoi,r⟩
   ·have:=ziY xs k a v;lia
   ·rw[e2];exact Paired.mapP rs fun _ _ r=>r.keepL d it (zqh hd) N kp
   ·exact h h' tk (fun b J U n2 C=>kp' b J U n2 (kp b J U n2 C)) hd'
theorem zfx{s:aw}{l:au}{o:Obj}{its:Array ah}{n:Nat}{ps:List (List Key×au×ah)}{Q:qV}(ho:s.heap.get? l=some o)(hc:o.cls=.type "list") (S:o.data=.seq its n) (hd:o.dict=none) (hA:A.handled=none) (hu:A.units+64<cLine)
  (hp:cw (PrT prog w s.heap) its.toList ps) (hz:ps.length<=sizeLine)
  (h:∀h' tk,(∀b u,s.heap.get? b=some u->h'.get? b=some u)->h'.DictOfH (tupleKind (JJ prog w)) s.heap.objs.size (mkX [] ps)->Q (.ref s.heap.objs.size) { s with heap:=h',toks:=tk }) :
  wpAny (model prog w) A (call (.type "dict") [.ref l]) Q E s:=by
 refine callType_codes (Q₁:=fun obj v=>obj=.ref s.heap.objs.size/\v={ s with heap:=s.heap.push { cls:=.type "dict",data:=.dict #[] } }) F.kt_called_dict (F.kt_typeCall_dict_1 _) F.entry_dict_init (kt_code_dict_new _ ⟨rfl,rfl⟩) ?_
 rintro obj v ⟨rfl,rfl⟩;have IU:(s.heap.push { cls:=.type "dict",data:=.dict #[] }).DictOfH (tupleKind (JJ prog w)) s.heap.objs.size []:=o9 s.heap;have G:(s.heap.push { cls:=.type "dict",data:=.dict #[] }).get? l=some o:=aq _ ho;have J:=IU.typeIs (s:={ s with heap:=s.heap.push { cls:=.type "dict",data:=.dict #[] } })
 refine⟨J,F.args_dict_init_2 _ _,?_⟩;unfold gm.«dict.__init__»;refine aa ?_;unfold tE;refine aa (wpAny_notOrdered_dict J ?_);show wpAny _ _ (pure (s.heap.objs.size,[bP l])) _ _ _
 refine aj ?_;show wpAny _ _ (lK "dict.__init__" s.heap.objs.size (.ref l) [] .none) _ _ _
 unfold lK;refine aa (eG (T:="list") ⟨o,G,hc⟩ ?_);rw[if_pos (by rfl)]
 refine aa (zfO G hc ⟨its,n,S⟩ hd hA fun h1 tk1 U=>?_)
 rw[if_pos (show(none:Option ah).isNone=true from rfl)]
 refine aa (dw ?_);have C:=U l o G;have hl1:h1.IsList l its:=⟨o,C,hc,n,S⟩;refine aa (eN hl1 ?_);refine aj ⟨kJ _ (by decide +kernel),?_⟩
 obtain⟨od,es,ep,L,Y⟩:=IU;have Ko:=U _ od L;have l1:=aD Ko;have l2:=aD ho;have l3:=aD C;have R:∀b u,s.heap.get? b=some u->(h1.push { cls:=.type "list_iterator",data:=.fields #[.ref l,.int 0 0] }).get? b=some u:=fun b u I=>aq _ (U b u (aq _ I))
 refine zhh (A:=A.in1) (items:=its) (xs:=[]) (i:=0) (ps:=ps) (show A.in1.handled=none from hA) (show A.units+1+1<cLine by lia) (aK l1) (aK l2) (aK l3) _ 0 ?_ ?_ ?_ (by simpa using hz) ?_ fun h' tk kp Z=>?_
 ·exact⟨o,aq _ C,hc,n,S⟩
 ·exact⟨_,aG _ rfl,rfl,rfl⟩
 ·exact⟨od,es,ep,aq _ Ko,Y.1,Y.2.1,Y.2.2.1,by simp,by simp⟩
 ·rw[kI];refine Paired.mapP hp fun x z ⟨p,e,tp,tk⟩=>⟨p,e,?_,V0 tk fun u=>R _ u⟩
  obtain⟨u,hob,r⟩:=tp;exact⟨u,R p u hob,r⟩
 ·exact⟨rfl,h h' tk (fun b u I=>kp b u (aK (aD I)) (aK (uw (aD I) l1)) (R b u I)) Z⟩
end
def mkZ(zs:ZT):ZT:=zs.foldl (fun acc z=>zput acc z.1 z.2.1 z.2.2) []
def mkT(l:KT2):KT2:=l.foldl (fun acc z=>putT acc z.1 z.2) []
def KZp(K:qF)(H:Hp)(x:V)(z:(Int×Int)×au×V):Prop:=∃a,x=.ref a/\SqT K H a [.ref z.2.1,z.2.2]/\SqT K H z.2.1 [.int z.1.1,.int z.1.2]
section
variable{X:Cx}
theorem zqk{zs l:ZT}{ps xs:List (List Key×au×ah)}(r:cw ZX zs ps)(a:cw ZX l xs):cw ZX (zs.foldl (fun acc z=>zput acc z.1 z.2.1 z.2.2) l) (mkX xs ps):=by
 induction r generalizing l xs with
 | nil=>exact a
 | @cons z x zs ps h t ih =>
  unfold mkX;rw[fZ,fZ];have:cw ZX (zput l z.1 z.2.1 z.2.2) (storedH xs x.1 x.2.1 x.2.2):=by
   rw[h.1,h.2.1];exact zpI a z.1 h.2.2
  exact ih this
theorem zq1(zs:ZT):(mkZ zs).length<=zs.length:=by
 have key:∀(zs acc:ZT),(zs.foldl (fun acc z=>zput acc z.1 z.2.1 z.2.2) acc).length<=acc.length+zs.length:=by
  intro zs;induction zs with
  | nil=>intro acc;simp
  | cons z zs o =>
   intro acc;have:=o (zput acc z.1 z.2.1 z.2.2);have:=zjJ acc z.1 z.2.1 z.2.2;rw[fZ,aF];lia
 simpa[mkZ] using key zs []
theorem zmA{ad:qO}{σ:St}{H:Hp}{s:aw}(I:Inv X ad σ H s):∀{x:List V}{its:List ah}{zs:ZT},Vals x its->cw (KZp X.K H) x zs ->
  ∃ps:List (List Key×au×ah),cw ZX zs ps/\cw (PrT X.prog X.w s.heap) its ps
 | [],_,_,r,h=>by cases r;cases h;exact⟨[],.nil,.nil⟩
 | v::x,_,_,r,h=>by
  cases r with
  | cons J G =>
   cases h with
   | @cons _ z _ zs h1 h2 =>
    obtain⟨a,rfl,sq,sk⟩:=h1;obtain⟨ps,L,N⟩:=zmA I G h2;obtain⟨y,S,it,_⟩:=I.tuple sq;cases S with
    | cons Y U =>
     cases U with
     | cons R C =>
      cases C;rename_i u w;cases(show _=bP a from J)
      cases(show _=bP z.2.1 from Y)
      exact⟨(kL z.1,z.2.1,w)::ps,.cons ⟨rfl,rfl,R⟩ L,.cons ⟨a,rfl,it,VJ (k:=kL z.1) I sk⟩ N⟩
theorem zlC(hc:X.calm=true)(U:X.A.units+64<cLine):J1 X (.type "dict") (fun xs H Q=>∃(p:au) (x:List V) (zs:ZT),xs=[.ref p]/\H p=some (.lst x)/\cw (KZp X.K H) x zs/\∀l v,H l=none->Q (.ref l) (upd H l (ZDO l (mkZ zs) v))):=by
 intro ad s σ H xs Z Q I r h;obtain⟨p,x,zs,rfl,S,pr,q⟩:=h;obtain⟨u,rfl,L⟩:=r.one;cases(show u=bP p from L)
 obtain⟨Y,its,n,rel,g⟩:=I.hok p _ S;obtain⟨ps,C,R⟩:=zmA I rel pr;have lp:zs.length=x.length:=(gU pr).symm;have l2:ps.length=zs.length:=(gU C).symm;refine zfx (A:=X.A) (its:=its.toArray) (ps:=ps) g rfl rfl rfl (I.ok.hd hc) U (by simpa using R) (by lia) fun h' tk kp G=>?_
 have J:(s.heap.objs.size == sysModules)=false:=beq_eq_false_iff_ne.mpr (gh (aK I.big));have N:(mkZ zs).length<=sizeLine:=by have:=zq1 zs;lia
 obtain⟨v,ok⟩:=zlL (X:=X) (H':=H) J N (zqk C .nil) G;exact⟨.ref s.heap.objs.size,_,I.laid (a:=s.heap.objs.size) (o:=ZDO s.heap.objs.size (mkZ zs) v) (t':=tk) kp (aE _) ok,rfl,q _ v (I.hok.fresh (aE _))⟩
end
def prT(q:(Int×Int)×ae):ae:=.tuple [.tuple [.int q.1.1,.int q.1.2],q.2]
theorem zjS{K:qF}{hd:Option au}{O:au->Prop}{H:Hp}:∀{x:List V}{v:KT2},Reps K hd O H x (v.map prT)->∃zs:ZT,cw (KZp K H) x zs/\Jq K hd O H zs v
 | _,[],r=>by cases r;exact⟨[],.nil,.nil⟩
 | _,a::v,r=>by
  cases r with
  | cons h r =>
   obtain⟨zs,I,J⟩:=zjS r;obtain⟨b,R,rfl,sq,C⟩:=h.tupI;cases C with
   | cons y G =>
    cases G with
    | cons L N =>
     cases N;obtain⟨q,rfl,u⟩:=y.bkI;exact⟨(a.1,q,_)::zs,.cons ⟨b,rfl,sq,u⟩ I,.cons y L J⟩
theorem zkR{K:qF}{hd:Option au}{O:au->Prop}{H:Hp}{zs:ZT}{u:KT2}{l:ZT}{o:KT2}(r:Jq K hd O H zs u):Jq K hd O H l o->Jq K hd O H (zs.foldl (fun acc z=>zput acc z.1 z.2.1 z.2.2) l) (u.foldl (fun acc z=>putT acc z.1 z.2) o) :=
 r.ind (P:=fun(zs:ZT) (u:KT2)=>∀(l:ZT) (o:KT2),Jq K hd O H l o->Jq K hd O H (zs.foldl (fun acc (z:(Int×Int)×au×V)=>zput acc z.1 z.2.1 z.2.2) l) (u.foldl (fun acc (z:(Int×Int)×ae)=>putT acc z.1 z.2) o)) (fun _ _ a=>a) (fun v x _ r _ _ a=>r _ _ (a.put _ v x)) _ _
end L2
namespace L2
open PySem
abbrev RL:=List ((Int×Int)×Int)
end L2
namespace Bd
open PySem PySem.W PySem.Calls L2 PyProof.Rows
structure ZZ where
 P:aQ
 w:bz
 K:qF
 mg:Str->Option ah
 base:bq
def FQ(Z:ZZ)(x:Str)(st:eS)(ps:List Str)(k:Nat)(l:Sp):Prop:=Fq Z.P Z.w Z.K Z.mg Z.base x st ps k l
theorem okQ{Z:ZZ}{x:Str}{st:eS}{ps N:List Str}{k m:Nat}{g:GD}(D:Dq Z.K Z.mg x st ps)(S:UQ N ps (JZ st))(y:m=ps.length)
  (v:∀(f:au) (l:ah) (A:br) (outer:List Env) (s:aw) (H:Hp) (E:XK),Room k (A.deeper (envOfC x (JZ st) s.heap.objs.size f l))->∃d,DSs (cxOf CX0 Z.P Z.w Z.K Z.mg Z.base N x (JZ st) f l A outer s H E).nox (Qr st) d /\
   ∀ts n R,ts.length=m->g ts n R->d { nx:=fun _ u=>R .none u,rt:=R } (Qh N ts) n):FQ Z x st ps (k+1) (spD Z.K m g):=by
 obtain⟨f,fd,D⟩:=D;exact⟨f,fd,D,D.okD S y fun l A outer s H E C=>v f l A outer s H E C⟩
theorem bnd1{x:Str}{st:eS}{a:Str}(h:∀(kV doc pm:ah) (an:Option au) (l ct u:ah),bindArgs (dX x x (QR st) (Qr st) (JZ st) .none kV doc pm an l ct) ⟨[u],[]⟩=pure [(a,u)]):BndA x st [a]:=fun _ _ _ _ _ _ y v=>by obtain⟨_,rfl⟩:=len1 v;exact h ..
theorem bnd2{x:Str}{st:eS}{a b:Str}(h:∀(kV doc pm:ah) (an:Option au) (l ct u v:ah),bindArgs (dX x x (QR st) (Qr st) (JZ st) .none kV doc pm an l ct) ⟨[u,v],[]⟩=pure [(a,u),(b,v)]):BndA x st [a,b]:=fun _ _ _ _ _ _ C y=>by obtain⟨_,_,rfl⟩:=len2 y;exact h ..
theorem bnd3{x:Str}{st:eS}{a b c:Str}(h:∀(kV doc pm:ah) (an:Option au) (l ct u v y:ah),bindArgs (dX x x (QR st) (Qr st) (JZ st) .none kV doc pm an l ct) ⟨[u,v,y],[]⟩=pure [(a,u),(b,v),(c,y)]):BndA x st [a,b,c]:=fun _ _ _ _ _ _ G C=>by obtain⟨_,_,_,rfl⟩:=len3 C;exact h ..
theorem bnd4{x:Str}{st:eS}{a b c d:Str}(h:∀(kV doc pm:ah) (an:Option au) (l ct u v y z:ah),bindArgs (dX x x (QR st) (Qr st) (JZ st) .none kV doc pm an l ct) ⟨[u,v,y,z],[]⟩=pure [(a,u),(b,v),(c,y),(d,z)]):BndA x st [a,b,c,d]:=fun _ _ _ _ _ _ G C=>by obtain⟨_,_,_,_,rfl⟩:=len4 C;exact h ..
def Qk(h:bq):qF:=(dW h.objs.size).filterMap fun a=>(h.get? a).map fun o=>(a,o)
theorem zm0{h:bq}:∀{x:List au}{a:au},a∈x->(x.filterMap fun a=>(h.get? a).map fun o=>(a,o)).lookup a=h.get? a\/h.get? a=none
 | [],_,m=>nomatch m
 | b::x,a,m=>by
  by_cases e:a=b
  ·subst e;cases g:h.get? a with
   | none=>exact .inr rfl
   | some o=>exact .inl (by rw[dh];simp[g,dN])
  ·have y:a∈x:=(az.mp m).resolve_left e;rcases zm0 (h:=h) y with z|z
   ·refine .inl ?_;rw[dh];cases g:h.get? b with
    | none=>exact z
    | some o =>
     have:(a == b)=false:=by simpa using e
     simp only[fx];rw[dN,this];exact z
   ·exact .inr z
theorem zcl{h:bq}{a:au}{o:Obj}(e:h.get? a=some o):(Qk h).lookup a=some o:=by
 have m:a∈dW h.objs.size:=gz.mpr (aD e);rcases zm0 (h:=h) m with z|z
 ·exact z.trans e
 ·rw[e]at z;cases z
theorem zlQ{h:bq}:(Qk h).In h:=fun a o e=>by
 have key:∀(v:List au),(v.filterMap fun a=>(h.get? a).map fun o=>(a,o)).lookup a=some o->h.get? a=some o:=by
  intro v;induction v with
  | nil=>intro z;cases z
  | cons b v x =>
   intro z;rw[dh]at z;cases g:h.get? b with
   | none=>rw[g]at z;exact x z
   | some y =>
    rw[g]at z;simp only[fx,dN]at z;cases q:a == b with
    | true=>rw[q]at z;cases z;rw[eq_of_beq q];exact g
    | false=>rw[q]at z;exact x z
 exact key _ e
def VI:eS->Bool
 | .FunctionDef ..=>true
 | _=>false
def defName:eS->Str
 | .FunctionDef n _ _ _ _ _ _ _ _ _=>n
 | _=>af ""
def zuH:eS->Pos
 | .FunctionDef _ _ _ _ _ _ _ _ _ p=>p
 | _=>⟨0,0,0,0⟩
def recD(st:eS):DefRec:=⟨defName st,QR st,Qr st,JZ st,zuH st⟩
theorem getD_mem{l:List eS}{i:Nat}(h:VI (l.getD i (.Pass ⟨0,0,0,0⟩))=true):l.getD i (.Pass ⟨0,0,0,0⟩)∈l:=by
 rw[aX]at h ⊢;cases e:l[i]? with
 | none=>rw[e]at h;cases h
 | some s=>exact aH e
section
variable{q:aQ}{loose:List Str}{IE:pY->Option ah}{mg mb:qM}{h:bq}{x:Str}{st:eS}{ps:List Str}
theorem znS{cd:ah}{n:Str}(c:h.CodeRec cd n):h8 (Qk h) cd n=true:=by
 obtain⟨a,o,l,t,rfl,g,d,e⟩:=c;unfold h8;dsimp only;rw[zcl g];obtain⟨y,C,u,v⟩:=o;cases(show u=_ from d)
 have l2:l.toList[1]?=some (.str n t):=by simpa using e
 dsimp only
 match hv:l.toList,l2 with
 | [],l2=>simp at l2
 | [_],l2=>simp at l2
 | a::b::r,l2 =>
  have:b=.str n t:=by simpa using l2
  subst this;simp
theorem dq_g(T:Top q loose IE mg mb h)(hd:recD st∈recsOf q)(G:defName st=x)(S:BndA x st ps):Dq (Qk h) mg x st ps:=by
 obtain⟨a,o,pm,cd,doc,C,J,y,v⟩:=T.fn _ hd;have C:mg (defName st)=some (.ref a):=C;have v:h.CodeRec cd (defName st):=v;rw[G]at C v;obtain⟨R,I,L,N⟩:=o;have y:L=.func (docDef (defName st) (QR st) (Qr st) (JZ st) pm cd doc):=y;rw[G]at y;have l:(Qk h).lookup a=some ⟨R,I,.func (dX x x (QR st) (Qr st) (JZ st) .none .none doc pm none cd .none),N⟩:=by
  rw[zcl J,y];rfl
 have kp:h7 (Qk h) (.ref a)=true:=by
  unfold h7;dsimp only;rw[l]
 exact⟨a,_,zqc l (znS v) kp,(zqc l (znS v) kp).binds S,C⟩
end
theorem zvE{lw:PySem.W.OpenLaw}{q:aQ}{loose:List Str}{XP:(Str->Option ah)->bq->Prop}{U:bz->bq->Prop}{d:DefRec}{k:Nat}(hk:k<=60)(Z:lw.most=some 63)(L:d.params.defaults=[])
  (F:∀(w:bz) (s₀:aw) (mg J:qM) (y:au) (h:bq),Ground q loose [] XP w s₀ mg J h->mg d.name=some (.ref y) ->
   ∃fd:dJ,(∀(s:aw) (u:ah),pX s fd ⟨[u],[]⟩ [("_law_script",u)])/\∀base:bq,(Qk h).In base->base.Ns mainGlobals mg->FnOk lw.prog w (Qk h) mg base CX0 k y fd ["_law_script"] (zqo (Qk h))) :
  PySem.W.WalkO q loose XP U lw.row.toRowW d [] (fun f R=>xh f R):=by
 refine Att.attach_call Z L fun w s₀ N mg J y o pm cd doc a R ns G Y ho hd hcd C x v l hg=>?_
 obtain⟨fd,hb,hF⟩:=F w s₀ mg J y _ G C;exact zpa zlQ G.T.g G.T.b G.T.builtins G.T.nolimit hg x v (cy l (by decide)) ((show Room 60 callerA from⟨rfl,by decide,by decide,rfl⟩).mono hk) hF hb (fun H hO S=>⟨a,ns,rfl,S,l,fun _=>rfl⟩) fun H e s' z=>z
end Bd
namespace L2
open PySem PySem.Spec PyProof PyProof.Rows
theorem zlM{a:au}{o:Nat}:ZDO a [] o=KDO a [] o:=by
 unfold ZDO KDO;congr 1
 funext h
 have e:∀l:List nu,cw entZ [] l↔cw entI [] l:=fun l=>⟨fun h=>by cases h;exact .nil,fun h=>by cases h;exact .nil⟩
 simp only[e,e8,bo,rO]
theorem zrG{l:KT2}{ls:List (Int×ae)}(e:JV l=Zt ls):l=[]/\ls=[]:=by
 cases l with
 | nil=>cases ls with
  | nil=>exact⟨rfl,rfl⟩
  | cons _ _=>cases e
 | cons a l=>cases ls with
  | nil=>cases e
  | cons b ls =>
   have h:=(nq (g6 (show(blkT a.1,a.2)::JV l=(bN b.1,b.2)::Zt ls from e)).1).1
   cases h
abbrev BL:=List (Int×Int)
theorem zfr:∀{l ls:KT2},JV l=JV ls->l=ls
 | [],[],_=>rfl
 | [],_::_,e=>by cases e
 | _::_,[],e=>by cases e
 | (a,b)::l,(c,d)::ls,e=>by
  have h:=g6 (show(blkT a,b)::JV l=(blkT c,d)::JV ls from e)
  have o:=nq h.1;have u:=ff o.1;have x:=rQ (g6 u).1;have v:=rQ (g6 (g6 u).2).1;rw[o.2,zfr h.2,gW x v]
section
variable{K:qF}{hd:Option au}{O:au->Prop}{H:Hp}
theorem Rep.dtI{v:V}{x:KT2}(h:Rep K hd O H v (.dict (JV x))):∃a zs u,v=.ref a/\H a=some (ZDO a zs u)/\¬O a/\Jq K hd O H zs x:=by
 generalize e:pF (JV x)=t at h;cases h with
 | @dct a u h o =>
  have e:=cY e;cases x with
  | nil=>exact⟨a,[],u,rfl,by rw[zlM];exact h,o,.nil⟩
  | cons _ _=>cases e
 | @dcK a kvs u ks' ps h o r e' =>
  have e:=cY e;rw[e']at e;obtain⟨rfl,rfl⟩:=zrG e;cases r;exact⟨a,[],u,rfl,by rw[zlM];exact h,o,.nil⟩
 | @dcT a zs u ks' ps h o r e' =>
  have e:=cY e;rw[e']at e;rw[zfr e];exact⟨a,zs,u,rfl,h,o,r⟩
 | hand _=>exact(dict_noT (cY e).symm).elim
 | scr _ _=>exact(dict_noT (cY e).symm).elim
 | scrS _=>exact(dict_noT (cY e).symm).elim
 | exc _ _=>exact(dict_noT (cY e).symm).elim
 | _=>cases e
theorem RepT.dtI{v:V}{y:KT2}(h:RepT K hd O H v (.dict (JV y))):∃a zs l,v=.ref a/\H a=some (ZDO a zs l)/\Jq K hd O H zs y:=by
 rcases h with h|⟨p,I,ds,rfl,x,o,u,C⟩|⟨p,zs,l,G,rfl,x,o,u,C⟩
 ·obtain⟨a,zs,l,e,o,_,u⟩:=h.dtI;exact⟨a,zs,l,e,o,u⟩
 ·cases x
 ·rw[zfr (cY x)];exact⟨p,zs,l,rfl,o,u⟩
theorem zpn{l:KT2}{k:Int×Int}:(l.any ((fun z=>decide (z=k))∘fun x=>x.1))=(l.find? fun z=>decide (z.1=k)).isSome:=by
 induction l with
 | nil=>rfl
 | cons y l u =>
  rw[iP,mH];show(decide (y.1=k)||_)=_
  cases decide (y.1=k)
  ·exact u
  ·rfl
theorem Jq.anyK{zs:ZT}{l:KT2}(r:Jq K hd O H zs l)(k:Int×Int):(zs.any fun z=>decide (z.1=k))=(valT l k).isSome:=by
 have u:(zs.any fun z=>decide (z.1=k))=(zs.map (·.1)).any fun z=>decide (z=k):=by rw[i8];rfl
 rw[u,r.keys,i8];unfold valT;rw[oJ];exact zpn
end
section
variable{X:Cx}{a b iter tg:aZ}{da db dd:DTE}{pos p:Pos}{k:Nat}
def zxg(K:qF)(H:Hp)(y:V)(k:Int×Int):Prop:=∃b,y=.ref b/\SqT K H b [.int k.1,.int k.2]
def zxh(K:qF)(H:Hp)(x:V)(zs:ZT):Prop:=∃a l,x=.ref a/\H a=some (ZDO a zs l)/\∀z∈zs,SqT K H z.2.1 [.int z.1.1,.int z.1.2]
def rInT(K:qF)(neg:Bool):R2:=fun x y H Q=>∃k zs,zxg K H x k/\zxh K H y zs/\Q (.bl (if neg then !(zs.any fun z=>decide (z.1=k)) else zs.any fun z=>decide (z.1=k))) H
theorem zpW(R:X.A.units+1<cLine):OpR X (compareOp .In) (rInT X.K false):=by
 intro ad s σ H x y v u Q I C o h;obtain⟨k,zs,⟨b,rfl,sq⟩,⟨a,U,rfl,L,G⟩,q⟩:=h;cases(show v=bP b from C)
 cases(show u=bP a from o)
 obtain⟨N,S,xs,J,dd⟩:=zpK I L G;refine wpAny_in_heap (tupleKind_room_in1 R) (VJ (k:=kL k) I sq) N dd ?_;rw[zpJ J];exact⟨.bl _,H,I.tok _,rfl,q⟩
def oInT(neg:Bool):G2:=fun x y R=>∃(k:Int×Int) (v:KT2),x=.tuple [.int k.1,.int k.2]/\y=.dict (JV v)/\R (.bool (if neg then !(valT v k).isSome else(valT v k).isSome))
theorem RepT.bkI{K:qF}{hd:Option au}{O:au->Prop}{H:Hp}{v:V}{a b:Int}(h:RepT K hd O H v (.tuple [.int a,.int b])):∃q,v=.ref q/\SqT K H q [.int a,.int b]:=by
 rcases h with h|⟨p,J,ds,rfl,o,G,x,y⟩|⟨p,zs,I,C,rfl,o,G,x,y⟩
 ·exact h.bkI
 ·cases o
 ·cases o
theorem zqa{neg:Bool}:Gp2 X (rInT X.K neg) (oInT neg):=by
 intro hd O H x y t u Q R dom v o h G;obtain⟨k,J,rfl,rfl,r⟩:=h;obtain⟨a,zs,C,rfl,I,rk⟩:=o.dtI;refine⟨k,zs,v.bkI,⟨a,C,rfl,I,rk.sq⟩,?_⟩;rw[rk.anyK k];exact G _ _ H r (Same.refl H) (.bl _)
theorem zt8{k:Int×Int}{v:KT2}{neg:Bool}{R:ae->Prop}(h:R (.bool (if neg then !(valT v k).isSome else(valT v k).isSome))):oInT neg (.tuple [.int k.1,.int k.2]) (.dict (JV v)) R:=⟨k,v,rfl,rfl,h⟩
end
abbrev PR:=List ((Int×Int)×(Int×Int))
abbrev upH(b:Int×Int):Int×Int:=(cU b.1 (2 ^ (b.2 - 1).toNat),b.2 - 1)
abbrev loH(b:Int×Int):Int×Int:=(b.1,b.2 - 1)
theorem zjz{prog:aQ}{w:bz}{A:br}{R:lh->aw->Prop}{s:aw}{kx vx target iter:aZ}{ifs:List aZ}{scope:fA}{pos:Pos}{it:ah}{D:au}{env:Env}(I:Nat->aw->Prop)
  (turn:∀n s,I n s->wpAny (model prog w) A (pyNext it) (fun r l=>match r with
   | none=>R (.ok .next) l
   | some v=>wpAny (model prog w) A (letOwnedTupleGo target it v) (fun _ N=>wpAny (model prog w) A (assign target env v) (fun _ y =>
     wpAny (model prog w) A (forIn ifs true fun c r=>if r=true then do let ok <- isTrue c env (eval c env);pure (bY ok) else pure (bY r)) (fun ok u =>
      if ok=true then wpAny (model prog w) A (eval kx env) (fun kv J=>wpAny (model prog w) A (eval vx env) (fun vv Y=>wpAny (model prog w) A (dictSet D kv vv) (fun _ U=>∃m,m<n/\I m U) NoX Y) NoX J) NoX u
      else ∃m,m<n/\I m u) NoX y) NoX N) NoX l) NoX s) (n:Nat) (h:I n s) :
  codeAny (model prog w) A (.compLoop (.DictComp kx vx [⟨target,iter,ifs,0⟩] scope pos) 0 it (.ref D) env) R s:=by
 refine lW rfl I (fun n s hI=>?_) n h
 show wpAny _ A ((compTurn (.DictComp kx vx [⟨target,iter,ifs,0⟩] scope pos) 0 it (.ref D) env).onRaise (fun x=>do noteFrame x env;theTreesLotGoes x)) _ _ s
 refine mV (eu (E:=NoX) ?_ (fun _ _ q=>q) fun _ _ z=>dm z)
 rw[compTurn_dict];refine aa (dE (aa (thn (turn n s hI) fun r l G=>?_)))
 cases r with
 | none=>exact aj G
 | some v =>
  refine aa (thn G fun _ N h₂=>aa (thn h₂ fun _ y h₃=>aa (thn h₃ fun ok u S=>?_)))
  cases ok with
  | false=>exact aj ⟨rfl,S⟩
  | true =>
   exact aa (aa (thn S fun kv J Z=>aa (cf (thn Z fun vv Y h₆=>aa (dE (cf (thn h₆ fun _ U h₇=>aj ⟨rfl,h₇⟩)))))))
section
variable{X:Cx}{ad:qO}{σ:St}{H:Hp}{s:aw}{a:au}{zs:ZT}{ep:Nat}{A:br}{E:qV}
theorem zlO{k:Int×Int}{b:au}{v:V}{r:ah}{Q:Unit->aw->Prop}(hu:A.units+1<cLine)(I:Inv X ad σ H s)(h:H a=some (ZDO a zs ep))(N:∀z∈zs,SqT X.K H z.2.1 [.int z.1.1,.int z.1.2])(R:SqT X.K H b [.int k.1,.int k.2])(hl:zs.length<sizeLine)(Z:RelV v r)
  (U:∀s' o,Inv X ad σ (upd H a (ZDO a (zput zs k b v) o)) s'->Q () s'):wpAny (model X.prog X.w) A (dictSet a (.ref b) r) Q E s:=by
 obtain⟨Y,J,xs,G,L⟩:=zpK I h N;have S:xs.length<=sizeLine:=by rw[<- gU G];exact J
 refine n8 (hsz:=S) (show A.units<cLine by lia) (VJ (k:=kL k) I R) L fun h' u C=>?_
 have he:∃q,h'.get? a=some q:=let ⟨q,_,_,e,_⟩:=u;⟨q,e⟩
 have y:(zput zs k b v).length<=sizeLine:=by have:=zjJ zs k b v;lia
 have ok:∀H':Hp,∃o,JP X.prog X.w H' h' a (ZDO a (zput zs k b v) o):=fun H'=>zlL Y y (zpI G k Z) u
 obtain⟨o,x⟩:=ok H;exact U _ o (zrK I (by rw[h];exact ku) C he x)
end
def zuY(K:qF)(own:List Str)(capt:List Nat)(g:TG)(tt:TT)(tk Y:TE)(σ:St)(J:It)(U:Hp)(D:au)(Q:VK):Prop:=∃W:Nat->Nat->Hp->Prop,(∀L,∃m,W 0 m (upd U D (ZDO D [] L)))/\∀i m u,W i m u ->
 (J.stop i u/\Q (.ref D) u)\/(J.go i u/\∃(N:V->V->Hp->Prop) (R:Hp->Prop),(∀G v o,N G v o->∃zs L k b,G=.ref b/\o D=some (ZDO D zs L)/\(∀z∈zs,SqT K o z.2.1 [.int z.1.1,.int z.1.2])/\SqT K o b [.int k.1,.int k.2]/\zs.length<sizeLine/\∀I,∃C,C<m/\W (i+1) C (upd o D (ZDO D (zput zs k b v) I)))/\(∀y,R y->∃C,C<m/\W (i+1) C y) /\
  ∀x S,J.yld i u x S->g x (Jx own++capS capt σ) S fun l Z=>Wk (Jx own++capS capt σ) l/\tt l Z fun b y=>if b=true then tk l y (fun G o=>Y l o (N G)) else R y)
def zpP(K:qF)(own:List Str)(capt:List Nat)(u:TI)(g:TG)(tt:TT)(tk o:TE):TE:=fun σ H Q=>u σ H fun J l=>∀D,l D=none->zuY K own capt g tt tk o σ J l D Q
section
variable{X:Cx}{scope:fA}{own:List Str}{capt:List Nat}{kx vx tg iter:aZ}{ifs:List aZ}{pos:Pos}{wi:TI}{g:TG}{tt:TT}{tk tv:TE}
theorem znP(hu:X.A.units+1<cLine)(hc:X.calm=true)(S:JB scope own capt X)
  (hg:∀C s₀ H₀ U,PG (Jf X scope own capt C s₀ H₀ U) tg g) (ht:∀C s₀ H₀ U,PTs (Jf X scope own capt C s₀ H₀ U) ifs tt) (hk:∀C s₀ H₀ U,PE (Jf X scope own capt C s₀ H₀ U) kx tk) (he:∀C s₀ H₀ U,PE (Jf X scope own capt C s₀ H₀ U) vx tv)
  {ad:qO} {σ:St} {Q:VK} {itv:ah} {s2:aw} {E:qV} {RR:ah->au->lh->aw->Prop}
  (h2:PIE X ad σ tg (fun J H1=>∀D,H1 D=none->zuY X.K own capt g tt tk tv σ J H1 D Q) itv s2)
  (hR:∀D C s' H',(∃m,s'.heap.Ns C m)->(∀h'',eZ C s'.heap h''->Inv X ad σ H' { s' with heap:=h'' })->H' C=none->FpOk X ad H' C->Q (.ref D) H'->RR (.ref D) C (.ok .next) s') :
  wpAny (model X.prog X.w) X.A newDict (fun acc I=>wpAny (model X.prog X.w) X.A (newFunctionEnv scope X.env.globals (closed X.env scope.names []) [] X.env.qual none .none (some X.env)) (fun cenv s₄ =>
   codeAny (model X.prog X.w) X.A (.compStart (.DictComp kx vx [⟨tg,iter,ifs,0⟩] scope pos) 0 itv acc { cenv with scope:=relabel scope X.env }) (RR acc cenv.locals) s₄) E I) E s2:=by
 obtain⟨it,U,tn,J,H2,e,I2,T,st2,f2,rd⟩:=h2;subst e;have hfp:∀b∈U,b<s2.heap.objs.size:=fun b hb=>by
  obtain⟨o,e,_⟩:=T.obj 0 _ st2 b hb;exact aD e
 have hsm:(s2.heap.objs.size == sysModules)=false:=beq_eq_false_iff_ne.mpr (gh (aK I2.big));refine bS (mW S.nocell (by intro y hy;simp at hy) (fun R G u=>?_) S.kind)
 dsimp only at G u ⊢;have IU:(s2.heap.push { cls:=.type "dict",dict:=none,data:=.dict #[] }).DictOfH (tupleKind (JJ X.prog X.w)) s2.heap.objs.size []:=o9 s2.heap;generalize hH3:s2.heap.push { cls:=.type "dict",dict:=none,data:=.dict #[] }=H3 at G u IU ⊢;have hC:H3.objs.size=s2.heap.objs.size+1:=by rw[<- hH3,dY]
 have hDC:s2.heap.objs.size≠H3.objs.size:=by rw[hC];exact aK (oW _)
 have Ih:s2.heap.objs.size<=H3.objs.size:=by rw[hC];exact fS _
 have neC:∀b o,s2.heap.get? b=some o->b≠H3.objs.size:=fun b o e=>aK (aL (aD e) Ih)
 have old:∀b o,s2.heap.get? b=some o->R.get? b=some o:=fun b o e=>u.extBut b o (neC b o e) (aq _ (hH3▸aq _ e))
 have hnD:H2 s2.heap.objs.size=none:=I2.hok.fresh (aE _);have IA:∀H',∃ep,JP X.prog X.w H' R s2.heap.objs.size (ZDO s2.heap.objs.size [] ep):=fun H'=>by
  refine zlL (X:=X) (H':=H') (zs:=[]) hsm (cJ _) .nil ?_;obtain⟨o,es,ep,g1,g2⟩:=IU;exact⟨o,es,ep,u.extBut _ _ hDC (aq _ g1),g2.1,g2.2.1,g2.2.2.1,fun x hx=>absurd hx (by simp),g2.2.2.2.2⟩
 obtain⟨Z,IA⟩:=IA H2;have IA:JP X.prog X.w (upd H2 s2.heap.objs.size (ZDO s2.heap.objs.size [] Z)) R s2.heap.objs.size (ZDO s2.heap.objs.size [] Z):=IA;obtain⟨W,w0,turn⟩:=rd _ hnD;obtain⟨m0,w0⟩:=w0 Z;have J0:∀tk,Inv (Jf X scope own capt H3.objs.size s2 H2 U) [] (Jx own++capS capt σ) (upd H2 s2.heap.objs.size (ZDO s2.heap.objs.size [] Z)) { s2 with heap:=R,toks:=tk }:=fun tk =>
  ziC (tk:=tk) S I2 f2 hfp (aE _) Ih hDC old G IA
 have fr0:∀b∈U,upd H2 s2.heap.objs.size (ZDO s2.heap.objs.size [] Z) b=none:=fun b hb=>by
  rw[Ju (aK (hfp b hb))];exact(f2 b hb).1
 have loop:∀I:aw,(∃tk,I={ s2 with heap:=R,toks:=tk }) ->
   codeAny (model X.prog X.w) X.A (.compLoop (.DictComp kx vx [⟨tg,iter,ifs,0⟩] scope pos) 0 (.ref it) (.ref s2.heap.objs.size) (compEnvC scope (closed X.env scope.names []) H3.objs.size X.env)) (RR (.ref s2.heap.objs.size) H3.objs.size) I:=by
  rintro I ⟨tq,rfl⟩;refine zjz (CompI (Jf X scope own capt H3.objs.size s2 H2 U) [] (Jx own++capS capt σ) U tn W) ?_ m0 ⟨0,_,J0 tq,T.keep _ _ _ st2 fun b hb o e=>old b o e,fr0,w0⟩
  rintro n s4 ⟨i,H4,I4,st4,fr4,w4⟩;refine Wc (Y:=Jf X scope own capt H3.objs.size s2 H2 U) rfl hc (hg _ _ _ _) (ht _ _ _ _) T (ziz S I2 f2 hfp Ih) I4 st4 fr4 ?_;rcases turn i n H4 w4 with⟨stop,qn⟩|⟨go,N,N',hN,hN',step⟩
  ·refine .inl ⟨stop,fun s5 I5=>?_⟩
   obtain⟨m,hn,_⟩:=I5.loc;exact hR _ _ s5 H4 ⟨m,hn⟩ (fun h'' sb=>zkE I2 f2 Ih I5 sb) I5.free (I2.fpOk Ih I5.free) qn
  ·refine .inr ⟨go,fun σ4 H5=>tk σ4 H5 fun kv H6=>tv σ4 H6 (N kv),N',fun {p6 σ7 H8 s8} I8 q8 again=>?_,hN',step⟩
   refine thn (hk _ _ _ _ _ s8 σ7 H8 (fun kv H6=>tv σ7 H6 (N kv)) I8 q8) fun y s9 ⟨kv,H9,I9,r9,q9⟩=>?_
   refine thn (he _ _ _ _ _ s9 σ7 H9 _ I9 q9) fun y2 s10 ⟨v,H10,I10,r10,q10⟩=>?_
   obtain⟨zs,ep,k,b,rfl,hD,hsq,hb,hl,w9⟩:=hN kv v H10 q10;cases(show y=bP b from r9)
   refine zlO (X:=Jf X scope own capt H3.objs.size s2 H2 U) hu I10 hD hsq hb hl r10 fun s11 ep' I11=>?_
   obtain⟨m',hm,w9⟩:=w9 ep';exact again I11 hm w9
 exact codeAny_compStart_dict (loop _ ⟨_,rfl⟩) (T.self X.A 0 _ _ _ (T.keep _ _ _ st2 fun b hb o e=>old b o e) (loop _ ⟨_,rfl⟩))
end
def Q5(g:DTG)(tt:DTT)(tk o:DTE)(ρ0:En):List ae->KT2->Nat->(KT2->Nat->Prop)->Prop
 | [],acc,n,R=>R acc n
 | x::xs,acc,n,R=>g x ρ0 fun l=>tt l n fun b u=>if b=true then tk l u fun y C=>o l C fun t v=>lBlk y fun k=>acc.length<16777216/\Q5 g tt tk o ρ0 xs (putT acc k t) v R else Q5 g tt tk o ρ0 xs acc u R
def Vz(m:Nat)(capt:List Nat)(y:DTA)(g:DTG)(tt:DTT)(tk v:DTE):DTE:=fun l n R=>y l n fun ts x=>Q5 g tt tk v (Jz m capt l) ts [] x fun o u=>R (.dict (JV o)) u
section
variable{X:Cx}{scope:fA}{own:List Str}{capt:List Nat}{kx vx tg iter:aZ}{ifs:List aZ}{pos:Pos}{di:DTA}{is:List Nat}{g:DTG}{tt:DTT}{tk tv:DTE}
def DSp(K:qF)(u:TE)(d:DTE):Prop:=∀(C:Ctx) (l:En) (σ:St) (H:Hp) (n:Nat) (Q:VK) (R:qN),Stt K C l σ H n->d l n R ->
 (∀t o v H',R t o->ExtE C.hd H H'->Hn C.hd H' o->Rep K C.hd (Own C l σ) H' v t->Q v H')->u σ H Q
theorem zlB(hi:DIL X tg iter di)
  (hg:∀C s₀ H₀ G,DG (Jf X scope own capt C s₀ H₀ G) tg is g) (hin:∀i∈is,i<own.length) (ht:∀C s₀ H₀ G,DTs (Jf X scope own capt C s₀ H₀ G) ifs tt) (hk:∀C s₀ H₀ G,DE (Jf X scope own capt C s₀ H₀ G) kx tk) (he:∀C s₀ H₀ G,DE (Jf X scope own capt C s₀ H₀ G) vx tv) :
  ∃(wi:TI) (gg:TG) (gt:TT) (gk ge:TE),PI X tg iter wi/\(∀C s₀ H₀ G,PG (Jf X scope own capt C s₀ H₀ G) tg gg)/\(∀C s₀ H₀ G,PTs (Jf X scope own capt C s₀ H₀ G) ifs gt)/\(∀C s₀ H₀ G,PE (Jf X scope own capt C s₀ H₀ G) kx gk)/\(∀C s₀ H₀ G,PE (Jf X scope own capt C s₀ H₀ G) vx ge)/\DSp X.K (zpP X.K own capt wi gg gt gk ge) (Vz own.length capt di g tt tk tv):=by
 obtain⟨wi,pi,hi⟩:=hi
 let Xf:(au×aw×Hp×List au)->Cx:=fun q=>Jf X scope own capt q.1 q.2.1 q.2.2.1 q.2.2.2
 have hK:∀q,(Xf q).K=X.K:=fun _=>rfl
 have hne:Nonempty (au×aw×Hp×List au):=⟨(0,X.s₀,X.H₀,[])⟩;obtain⟨gg,pg,hgg⟩:=DG.uni (Xf:=Xf) hK fun q=>hg q.1 q.2.1 q.2.2.1 q.2.2.2
 obtain⟨gt,pt,hgt⟩:=DTs.uni (Xf:=Xf) hK fun q=>ht q.1 q.2.1 q.2.2.1 q.2.2.2
 obtain⟨gk,pk,hgk⟩:=DE.uni (Xf:=Xf) hK fun q=>hk q.1 q.2.1 q.2.2.1 q.2.2.2
 obtain⟨ge,pe,hge⟩:=DE.uni (Xf:=Xf) hK fun q=>he q.1 q.2.1 q.2.2.1 q.2.2.2
 refine⟨wi,gg,gt,gk,ge,pi,(fun C s₀ H₀ G=>pg (C,s₀,H₀,G)),(fun C s₀ H₀ G=>pt (C,s₀,H₀,G)),(fun C s₀ H₀ G=>pk (C,s₀,H₀,G)),(fun C s₀ H₀ G=>pe (C,s₀,H₀,G)),fun C I σ H n Q R St hd hq=>?_⟩
 refine hi C I σ H n _ _ St hd fun ts n1 J H1 r e1 hn it=>fun D L=>?_
 have St1:=St.on e1 hn;have hD:H D=none:=Z2 e1 hn L;have nhd:C.hd≠some D:=fun z=>St.dom (.inl (St.hx D z)) hD
 refine⟨fun i m S=>m=ts.length - i/\i<=ts.length/\∃zs ep acc Y,S D=some (ZDO D zs ep)/\Q5 g tt tk tv (Jz own.length capt I) (ts.drop i) acc Y (fun ks n'=>R (.dict (JV ks)) n')/\Jq X.K C.hd (fun a=>Own C I σ a\/a=D) S zs acc/\ExtE C.hd H1 S/\Hn C.hd S Y,
  fun ep=>⟨ts.length,rfl,cJ _,[],ep,[],n1,J3,by simpa using r,.nil,ExtE.new L,hn.same (JY L)⟩,?_⟩
 rintro i m S ⟨rfl,hil,zs,ep,acc,Y,hy,c2,r2,e2,hn2⟩;have itq:=it (fun a=>Own C I σ a\/a=D) S (fun a o Z nh=>e2 a o Z nh) (fun a o Z no z=>z.elim no fun z=>by subst z;rw[L]at Z;cases Z) (fun a z=>z.elim (fun z=>(St1.on e2 hn2).dom z) fun z=>by subst z;rw[hy];exact fun z=>by cases z)
 by_cases hlt:i<ts.length
 ·have et:ts[i]?=some ts[i]:=ak hlt;rw[bf hlt]at c2;obtain⟨go,yl⟩:=itq.1 i _ et;have zl:∀{N:Hp},ExtE C.hd S N->Jq X.K C.hd (fun a=>Own C I σ a\/a=D) N zs acc:=fun e=>r2.mono (fun _ _ _ z=>z) fun a o no Z=>e a o Z fun z=>no (.inl (.inl (St.hx a z)))
  refine .inr ⟨go,fun kv v N=>∃k t b n4,kv=.ref b/\acc.length<16777216/\Q5 g tt tk tv (Jz own.length capt I) (ts.drop (i+1)) (putT acc k t) n4 (fun ks n'=>R (.dict (JV ks)) n')/\ExtE C.hd S N/\Hn C.hd N n4/\Rep X.K C.hd (fun a=>Own C I σ a\/a=D) N (.ref b) (.tuple [.int k.1,.int k.2])/\Rep X.K C.hd (fun a=>Own C I σ a\/a=D) N v t,
   fun H5=>∃Y,Q5 g tt tk tv (Jz own.length capt I) (ts.drop (i+1)) acc Y (fun ks n'=>R (.dict (JV ks)) n')/\ExtE C.hd S H5/\Hn C.hd H5 Y,?_,?_,?_⟩
  ·rintro kv v N ⟨k,t,b,n4,rfl,hl,c6,e6,hn6,rk,rv⟩;have z6:=zl e6;have hy6:N D=some (ZDO D zs ep):=e6 D _ hy nhd;obtain⟨b',eb,sq⟩:=rk.bkI;cases eb;refine⟨zs,ep,k,b,rfl,hy6,z6.sq,sq,by rw[z6.length];exact hl,fun ep'=>⟨ts.length - (i+1),by lia,rfl,hlt,_,ep',_,n4,J3,c6,?_,?_,?_⟩⟩
   ·exact(z6.put k rk rv).mono (fun _ _ _ z=>z) fun a o no Z=>by rw[Ju (show a≠D from fun z=>no (.inr z))];exact Z
   ·exact ExtE.updR L (e2.trans e6)
   ·exact Hn.updR nhd hn6
  ·rintro H5 ⟨n2',c5,e5,U⟩;exact⟨ts.length - (i+1),by lia,rfl,hlt,zs,ep,acc,n2',e5 D _ hy nhd,c5,zl e5,e2.trans e5,U⟩
  ·intro x H3 hyd;obtain⟨sm,rx⟩:=yl x H3 hyd;have hn3:=hn2.same sm;have e3:ExtE C.hd H1 H3:=e2.trans sm.ext;obtain⟨I3,no3⟩:=ziy (own:=own) (capt:=capt) (D:=D) St (e1.trans e3) hn3 hD (.inr (.inr ⟨_,_,_,sm _ _ hy⟩));have rx':Rep X.K C.hd (Own ⟨C.hd,fun a=>Own C I σ a\/a=D⟩ (Jz own.length capt I) (Jx own++capS capt σ)) H3 x ts[i]:=rx.mono (fun a o _ z=>z.elim id fun z=>absurd z (no3 a)) fun _ _ _ z=>z
   refine hgg ⟨C.hd,fun a=>Own C I σ a\/a=D⟩ (Jz own.length capt I) (Jx own++capS capt σ) H3 Y x ts[i] _ _ I3 rx' c2 fun ρ4 σ4 r4 S4 k4 hj hl=>⟨Wk.of hl.symm fun j v ej=>zlP hin hj ej,?_⟩
   ·refine hgt _ ρ4 σ4 H3 Y _ _ S4 r4 fun b n5 H5 r5 e5 U=>?_
    have S5:=S4.on e5 U;cases b with
    | false=>exact iteF ⟨n5,by simpa using r5,(Same.ext sm).trans e5,U⟩
    | true =>
     refine iteT (hgk _ ρ4 σ4 H5 n5 _ _ S5 (by simpa using r5) fun y n6 kv N r6 e6 hn6 q6=>?_)
     have S6:=S5.on e6 hn6;refine hge _ ρ4 σ4 N n6 _ _ S6 r6 fun t n7 v H7 r7 e7 hn7 q7=>?_
     obtain⟨k,rfl,hl,c7⟩:=r7;have q6':=e7.rep S6.hx q6;obtain⟨b,rfl,sb⟩:=q6'.bkI;exact⟨k,t,b,n7,rfl,hl,c7,(Same.ext sm).trans (e5.trans (e6.trans e7)),hn7,q6'.mono (fun _ _ _ z=>.inl z) fun _ _ _ z=>z,q7.mono (fun _ _ _ z=>.inl z) fun _ _ _ z=>z⟩
 ·have e:i=ts.length:=by lia
  subst e;rw[gH]at c2;exact .inl ⟨itq.2,hq _ Y _ S c2 (e1.trans e2) hn2 (.dcT hy (fun z=>St1.free L z) (r2.mono (fun _ _ _ z=>.inl z) fun _ _ _ z=>z) rfl)⟩
end
section
variable{m:Nat}{capt:List Nat}{di:DTA}{tg:DTG}{tt:DTT}{tk tv:DTE}{ρ ρ0:En}{n:Nat}{R:qN}{Rt:KT2->Nat->Prop}
instance zwh [h:CompN m capt ρ ρ0]:Stp (Vz m capt di tg tt tk tv ρ n R) (di ρ n fun ts n1=>Q5 tg tt tk tv ρ0 ts [] n1 fun ks n'=>R (.dict (JV ks)) n'):=⟨fun k=>by
 unfold Vz;rw[h.e];exact k⟩
end
theorem zmk{acc:KT2}{k:Int×Int}{t:ae}:((putT acc k t).map (·.1)=acc.map (·.1)/\k∈acc.map (·.1))\/((putT acc k t).map (·.1)=acc.map (·.1)++[k]/\k∉acc.map (·.1)):=by
 unfold putT
 by_cases e:(acc.any fun z=>decide (z.1=k))=true
 ·rw[if_pos e];refine .inl ⟨?_,?_⟩
  ·rw[bT];refine gR fun z _=>?_
   show(if z.1=k then(z.1,t) else z).1=z.1
   split <;> rfl
  ·obtain⟨z,o,e⟩:=lL.mp e;exact aS.mpr ⟨z,o,of_decide_eq_true e⟩
 ·rw[if_neg e];refine .inr ⟨by simp,fun m=>?_⟩
  obtain⟨z,o,u⟩:=aS.mp m;exact e (lL.mpr ⟨z,o,decide_eq_true u⟩)
section
variable{X:Cx}{e:aZ}{d:DTA}{pos p p2 cp:Pos}
def zqj(d:DTA):DTE:=fun u n R=>d u n fun ts o=>∃l:KT2,ts=l.map prT/\R (.dict (JV (mkT l))) o
theorem zpx(hc:X.calm=true)(hu:X.A.units+64<cLine)(G:X.mg "dict" = none) (h:DN X e d) (v:starEach [e] X.env=[(false,eval e X.env)]:=by rfl) (I:Gl X "dict":=by rfl) :
  DE X (.Call (.Name "dict" p2) [e] [] cp) (zqj d):=by
 obtain⟨ta,pa,h⟩:=h;refine⟨_,zhG (zlC hc hu) I G rfl (Za pa ZY v) (he:=v),fun C L σ H n Q R S hd hq=>?_⟩
 refine h C L σ H n _ _ S hd fun ts Z p vs H1 ⟨ks,y,r⟩ J u Y hp U=>?_
 subst y;obtain⟨zs,z1,z2⟩:=zjS U;refine⟨p,vs,zs,rfl,hp,z1,fun l ep x=>?_⟩
 have S1:=S.on J u;have rk:Jq X.K C.hd (fun a=>Own C L σ a\/a=p) H1 (mkZ zs) (mkT ks):=zkR z2 .nil
 exact hq _ Z _ _ r (J.trans (ExtE.new x)) (u.same (JY x)) (.dcT J3 (S1.free x) (rk.mono (fun _ _ _ z=>.inl z) (fun b o _ hb=>JY x b o hb)) rfl)
instance zwg {d:DTA}{ρ:En}{n:Nat}{R:qN}:Stp (zqj d ρ n R) (d ρ n fun ts n1=>∃ks:KT2,ts=ks.map prT/\R (.dict (JV (mkT ks))) n1):=⟨fun h=>h⟩
end
abbrev NP:=(Int×Int)×Str
def PsIn(h:bq)(u:ah)(r:NP):Prop:=∃(a p:au) (o:Obj) (t:Tok) (n:Nat),u=.ref a/\h.get? a=some o/\o.cls=.type "tuple" /\ o.data=.seq #[.ref p,.str r.2 t] n/\PrIn h (.ref p) r.1.1 r.1.2
theorem PsIn.kept{h h':bq}{u:ah}{r:NP}(p:PsIn h u r)(kp:∀b o,h.get? b=some o->h'.get? b=some o):PsIn h' u r:=by
 obtain⟨a,q,o,t,n,y,x,l,C,v⟩:=p;exact⟨a,q,o,t,n,y,kp _ _ x,l,C,v.kept kp⟩
theorem PsIn.uniq{h:bq}{u:ah}{r C:NP}(p:PsIn h u r)(S:PsIn h u C):r=C:=by
 obtain⟨a,q,o,t,n,rfl,L,_,U,⟨x,ox,t1,t2,m,x0,N,_,G⟩⟩:=p;obtain⟨a',Z,o',t',Y,R,f1,_,f2,⟨y,oy,u1,u2,m',J,v,_,l⟩⟩:=S;cases R;rw[L]at f1;cases f1;rw[U]at f2
 injection f2 with f2 _
 have f2:=congrArg aW f2;simp at f2;obtain⟨I,f4,_⟩:=f2;cases x0;cases J;subst I;rw[N]at v;cases v;rw[G]at l
 injection l with l _
 have l:=congrArg aW l;simp at l;exact gW (gW l.1.1 l.2.1) f4
def npLt(a b:NP):Bool:=if a.1=b.1 then decide (a.2.cps.toList<b.2.cps.toList) else decide (a.1.1<b.1.1\/(a.1.1=b.1.1/\a.1.2<b.1.2))
theorem V6{a b:NP}:npLt a b=true↔(a.1.1<b.1.1\/(a.1.1=b.1.1/\(a.1.2<b.1.2\/(a.1.2=b.1.2/\a.2.cps.toList<b.2.cps.toList)))):=by
 unfold npLt;obtain⟨⟨a1,a2⟩,v⟩:=a;obtain⟨⟨u,o⟩,x⟩:=b;dsimp only
 by_cases e:(a1,a2)=(u,o)
 ·rw[if_pos e];cases e;simp
 ·rw[if_neg e,decide_eq_true_eq];have:¬(a1=u/\a2=o):=fun z=>e (by rw[z.1,z.2])
  constructor
  ·rintro(h|h)
   ·exact .inl h
   ·exact .inr ⟨h.1,.inl h.2⟩
  ·rintro(h|⟨h,h'|h'⟩)
   ·exact .inl h
   ·exact .inr ⟨h,h'⟩
   ·exact absurd ⟨h,h'.1⟩ this
theorem zrP(x y:Str):x.cps.toList<y.cps.toList\/x=y\/y.cps.toList<x.cps.toList:=by
 by_cases h:x.cps.toList<y.cps.toList
 ·exact .inl h
 ·by_cases h':y.cps.toList<x.cps.toList
  ·exact .inr (.inr h')
  ·refine .inr (.inl (L2.Str.ext' ?_));exact List.le_antisymm (vU.mp h') (vU.mp h)
theorem zj5(a:NP):npLt a a=false:=by
 rw[dz,ne_eq,V6];rintro(h|⟨_,h|⟨_,h⟩⟩)
 ·omega
 ·omega
 ·exact rR _ h
theorem zo4(a b:NP):npLt a b=true\/a=b\/npLt b a=true:=by
 rw[V6,V6];obtain⟨⟨a1,a2⟩,o⟩:=a;obtain⟨⟨x,u⟩,v⟩:=b;dsimp only;rcases ip a1 x with h|rfl|h
 ·exact .inl (.inl h)
 ·rcases ip a2 u with h|rfl|h
  ·exact .inl (.inr ⟨rfl,.inl h⟩)
  ·rcases zrP o v with h|rfl|h
   ·exact .inl (.inr ⟨rfl,.inr ⟨rfl,h⟩⟩)
   ·exact .inr (.inl rfl)
   ·exact .inr (.inr (.inr ⟨rfl,.inr ⟨rfl,h⟩⟩))
  ·exact .inr (.inr (.inr ⟨rfl,.inl h⟩))
 ·exact .inr (.inr (.inl h))
theorem zk3{a b c:NP}(h:npLt a b=true)(h':npLt b c=true):npLt a c=true:=by
 rw[V6]at h h' ⊢;rcases h with h|⟨e,h|⟨o,h⟩⟩ <;> rcases h' with h'|⟨f,h'|⟨f2,h'⟩⟩
 ·exact .inl (by omega)
 ·exact .inl (by omega)
 ·exact .inl (by omega)
 ·exact .inl (by omega)
 ·exact .inr ⟨by omega,.inl (by omega)⟩
 ·exact .inr ⟨by omega,.inl (by omega)⟩
 ·exact .inl (by omega)
 ·exact .inr ⟨by omega,.inl (by omega)⟩
 ·exact .inr ⟨by omega,.inr ⟨by omega,List.lt_trans h h'⟩⟩
def npRk(rs:List NP)(r:NP):Int:=((rs.filter fun q=>npLt q r).length:Int)
theorem znu{α:Type}{p q:α->Bool}{l:List α}(h:∀x,p x=true->q x=true):(l.filter p).length<=(l.filter q).length:=by
 induction l with
 | nil=>exact aE _
 | cons a l o =>
  rw[iK,iK];cases e:p a
  ·cases q a
   ·exact o
   ·exact Nat.le_succ_of_le o
  ·rw[h a e];exact Nat.succ_le_succ o
theorem znt{α:Type}{p q:α->Bool}{l:List α}(h:∀x,p x=true->q x=true){a:α}(o:a∈l)(v:p a=false)(y:q a=true):(l.filter p).length<(l.filter q).length:=by
 induction l with
 | nil=>cases o
 | cons b l u =>
  rw[iK,iK];rcases az.mp o with rfl|o
  ·rw[v,y];exact Nat.lt_succ_of_le (znu h)
  ·have:=u o;cases e:p b
   ·cases q b
    ·exact this
    ·exact oI this
   ·rw[h b e];exact Nat.succ_lt_succ this
theorem ze_{rs:List NP}{a b:NP}(o:a∈rs)(h:npLt a b=true):npRk rs a<npRk rs b:=by
 unfold npRk;have:=znt (p:=fun q=>npLt q a) (q:=fun q=>npLt q b) (l:=rs) (fun x hx=>zk3 hx h) o (zj5 a) h
 omega
theorem zqX{rs:List NP}{a b:NP}(l:a∈rs)(o:b∈rs):npLt a b=decide (npRk rs a<npRk rs b):=by
 rcases zo4 a b with h|rfl|h
 ·rw[h,decide_eq_true (ze_ l h)]
 ·rw[zj5];symm;rw[decide_eq_false_iff_not];exact Int.lt_irrefl _
 ·have:=ze_ o h;rw[decide_eq_false (by omega)]
  cases e:npLt a b with
  | false=>rfl
  | true=>have:=ze_ l e;omega
open Classical in
noncomputable def rkNP (rs:List NP) (h:bq) (u:ah):Int:=if z:∃r,PsIn h u r then npRk rs z.choose else 0
theorem PsIn.rk{rs:List NP}{h:bq}{u:ah}{r:NP}(p:PsIn h u r):rkNP rs h u=npRk rs r:=by
 unfold rkNP;have z:∃r,PsIn h u r:=⟨r,p⟩;rw[dif_pos z,z.choose_spec.uniq p]
section
variable{prog:aQ}{w:bz}{A:br}{E:qV}{s:aw}
theorem zq8{G:List ah}{Q:fj->aw->Prop}(h1:1<=G.length)(hp:∀v∈G,∃r,PsIn s.heap v r)(h:Q (tuples' false) s):wpAny (model prog w) A (keyKind' G.toArray) Q E s:=by
 rw[keyKind'_eq,ir,map_eq_pure_bind];refine aa (aa (Vf (P:=fun _ r=>∃(p:au) (o:Obj),r=some (.ref p)/\s.heap.get? p=some o/\o.cls=.type "tuple") G (fun v I Q' L=>?_) fun rs J=>aj ?_))
 ·obtain⟨r,a,p,o,t,n,rfl,C,e2,e3,a',o',t1,t2,n',e4,e5,e6,e7⟩:=hp v I;cases e4;rw[zkq];refine aa (eG (T:="tuple") ⟨o,C,e2⟩ ?_);rw[if_neg (by decide)]
  exact aa (gJ C e3 (aj (L _ ⟨p,o',rfl,e5,e6⟩)))
 ·have al:∀r∈rs,∃(p:au) (o:Obj),r=some (.ref p)/\s.heap.get? p=some o/\o.cls=.type "tuple":=fun r R=>by
   obtain⟨_,_,h⟩:=Wp J R;exact h
  have IP:(rs.toArray.all fun x=>x.isSome)=true:=by
   rw[iI,bM];intro x hx;obtain⟨p,o,rfl,_⟩:=al x hx
   rfl
  rw[if_pos IP];refine aa (dw ?_);rw[pR];have N:rs.toArray.filterMap id=(rs.filterMap id).toArray:=by simp
  rw[N,ir,map_eq_pure_bind];refine aa (aa (aa (Vf (P:=fun _ r=>r=bQ "tuple") _ (fun v I Q' L=>?_) fun ts S=>aj ?_)))
  ·obtain⟨x,hx,e⟩:=g9.mp I;obtain⟨p,o,rfl,g,c⟩:=al x hx;cases e;exact eG (T:="tuple") ⟨o,g,c⟩ (L _ rfl)
  ·have u:∀r∈ts,r=bQ "tuple":=fun r R=>by
    obtain⟨_,_,h⟩:=Wp S R;exact h
   cases ts with
   | nil=>exact aj (aj h)
   | cons Y U =>
    have C:Y=bQ "tuple":=u Y (.head _);subst C;have Z:(((bQ "tuple")::U).toArray.all fun x=>x == bQ "tuple")=true:=by
     rw[iI,bM];intro x hx;rw[u x hx];rfl
    have h0:((bQ "tuple")::U).toArray[0]?=some (bQ "tuple"):=by simp
    rw[h0];simp only[Z,if_true];refine aj (aj ?_);exact h
theorem zo8(x y:Str)(t u:Tok):LtAt prog w A s false (.str x t) (.str y u) (decide (x.cps.toList<y.cps.toList)):=fun E Q q=>by
 rw[tS];simp only[aN,if_false];refine aa (show wpAny (model prog w) A (compareOp .Lt (.str x t) (.str y u)) _ E s from wB ?_)
 exact ck q
theorem zpb{l:List ah}{h0:bq}{rs:List NP}(I:A.units<cLine)(C:∀v∈l,∃r,r∈rs/\PsIn s.heap v r/\rkNP rs h0 v=npRk rs r):Kinds prog w A s (rkNP rs h0) l:=fun h2=>by
 refine⟨tuples' false,fun E Q q=>zq8 (by lia) (fun v N=>?_) q,fun p q E Q mp S h=>?_⟩
 ·obtain⟨r,_,h,_⟩:=C v N;exact⟨r,h⟩
 ·have mem:∀z∈(pairsOf l).toList,z.1∈l:=fun z hz=>by
   have:z∈l.zip l:=by simpa[pairsOf] using hz
   exact(ef this).1
  obtain⟨⟨⟨b,k⟩,g⟩,m1,⟨a,x,o,t,n,e0,U,e2,R,G⟩,Z⟩:=C _ (mem p mp);obtain⟨⟨⟨u,y⟩,g'⟩,m2,⟨a',x',o',t',n',f0,f1,f2,J,f4⟩,Y⟩:=C _ (mem q S);rw[Z,Y,<- zqX m1 m2]at h;rw[e0,f0];refine zh3 U R f1 J (zrE I G f4) (SeqAt.EqAt.str_str g t g' t') (fun _=>zq3 I G f4) (fun _=>zo8 g g' t t') ?_
  have:(if decide (b=u/\k=y)=true then(if (g == g')=true then false else decide (g.cps.toList<g'.cps.toList)) else HT.lexLt [b,k] [u,y])=npLt ((b,k),g) ((u,y),g'):=by
   rw[zq4];unfold npLt;dsimp only
   by_cases e:b=u/\k=y
   ·obtain⟨rfl,rfl⟩:=e;rw[if_pos (by simp),if_pos rfl]
    by_cases eg:g=g'
    ·subst eg;rw[if_pos (by simp)]
     symm;rw[decide_eq_false_iff_not];exact rR _
    ·rw[if_neg (by simpa using eg)]
   ·rw[if_neg (by simpa using e),if_neg (fun z=>e (by cases z;exact⟨rfl,rfl⟩))]
  rw[this];exact h
end
section
variable{X:Cx}
def PsV(K:qF)(H:Hp)(z:V×NP):Prop:=∃a q,z.1=.ref a/\SqT K H a [.ref q,.str z.2.2]/\SqT K H q [.int z.2.1.1,.int z.2.1.2]
theorem zvM{ad:qO}{σ:St}{H:Hp}{s:aw}{a q:au}{r:NP}(I:Inv X ad σ H s)(h:SqT X.K H a [.ref q,.str r.2])(u:SqT X.K H q [.int r.1.1,.int r.1.2]):PsIn s.heap (.ref a) r:=by
 obtain⟨is,rs,⟨o,f1,f2,n,l⟩,_⟩:=I.tuple h;cases rs with
 | cons a1 a2 =>
  cases a2 with
  | cons v x =>
   cases x;cases(show _=bP q from a1)
   obtain⟨t,rfl⟩:=v;exact⟨a,q,o,t,n,rfl,f1,f2,l,zsj I u⟩
theorem zha(hu:X.A.units+64<cLine):J1 X (.builtin "sorted") (fun xs H Q=>∃(p:au) (zs:List (V×NP)),xs=[.ref p]/\(SqL X.K H p (zs.map (·.1))\/SqT X.K H p (zs.map (·.1)))/\zs.length<100000/\(∀z∈zs,PsV X.K H z) /\
  ∀J:List (V×NP),J.Perm zs->J.Pairwise (fun a b=>npRk (zs.map (·.2)) a.2<=npRk (zs.map (·.2)) b.2)->∀l,H l=none->Q (.ref l) (upd H l (.lst (J.map (·.1))))):=by
 intro ad s σ H xs us Q I r h;obtain⟨p,zs,rfl,G,h64,hp,q⟩:=h;obtain⟨u,rfl,rx⟩:=vals1 r;cases rx;have hs:100000<=sizeLine:=by decide
 have key:∀(its:List ah) (o:Obj) (T:String) (n:Nat),Vals (zs.map (·.1)) its->s.heap.get? p=some o->o.cls=.type T->(T = "list" \/ T = "tuple")->o.data=.seq its.toArray n ->
   wpAny (model X.prog X.w) X.A (call (.builtin "sorted") [.ref p]) (EP X ad σ Q) X.xe s:=fun its o T n rv R hc hT hd=>by
  have hlen:zs.length=its.length:=by simpa using rv.length
  have cell:cw (fun(z:V×NP) (u:ah)=>RelV z.1 u/\PsIn s.heap u z.2) zs its:=by
   have go:∀(zs:List (V×NP)) (its:List ah),(∀z∈zs,PsV X.K H z)->Vals (zs.map (·.1)) its->cw (fun(z:V×NP) (u:ah)=>RelV z.1 u/\PsIn s.heap u z.2) zs its:=by
    intro zs;induction zs with
    | nil=>intro its _ r;cases r;exact .nil
    | cons z zs ih =>
     intro its Z r;cases r with
     | cons U r2 =>
      obtain⟨a,q,e1,e2,e3⟩:=Z z (.head _);refine .cons ⟨U,?_⟩ (ih _ (fun y hy=>Z y (.tail _ hy)) r2)
      dsimp only at U;rw[e1]at U;cases(show _=bP a from U)
      exact zvM I e2 e3
   exact go zs its hp rv
  refine zkO (A:=X.A) (x:=.ref p) (rk:=rkNP (zs.map (·.2))) (C:=fun h' tk N=>N=its/\(∀b o,s.heap.get? b=some o->h'.get? b=some o)/\s.heap.objs.size<=h'.objs.size) ?_ ?_ ?_ ?_
  ·intro A' E' Q' hA G;refine zfv R hc hT hd (by lia) ?_
   have hq':=G ((s.heap.push (seqObj "list" #[] 0)).update s.heap.objs.size (fF (·++its.toArray))) s.toks its ⟨rfl,fun b ob Y=>?_,?_⟩
   ·exact hq'
   ·rw[gS _ _ _ _ (aK (aD Y))];exact aq _ Y
   ·rw[cO,eV];exact fS _
  ·rintro h' tk N ⟨rfl,_,_⟩;lia
  ·rintro h' tk N A' ⟨rfl,kp,_⟩ hA';refine zpb (by lia) fun u hu=>?_
   obtain⟨x,mx,_,rl⟩:=Wp cell hu;have S:=rl.kept kp;exact⟨x.2,iY mx,S.kept fun b o e=>zjf e,S.rk⟩
  ·rintro h' tk N h2 y e ⟨rfl,kp,sz⟩ kp2 pm up he;have v:cw (fun(z:V×NP) (u:ah)=>RelV z.1 u/\PsIn h' u z.2) zs N:=Paired.mapP cell fun _ _ h=>⟨h.1,h.2.kept kp⟩
   obtain⟨ws,p1,p2,p3⟩:=zoL (f:=fun x=>npRk (zs.map (·.2)) x.2) v (fun x u hx=>hx.2.rk) pm up
   have rv':Vals (ws.map (·.1)) ((arrOf y).map (·.2)).toList:=by
    have:∀{l:List (V×NP)} {m:List ah},cw (fun(z:V×NP) (u:ah)=>RelV z.1 u/\PsIn h' u z.2) l m->Vals (l.map (·.1)) m:=by
     intro l m p;induction p with
     | nil=>exact .nil
     | cons h t ih=>exact .cons h.1 ih
    exact this p3
   refine⟨.ref h'.objs.size,_,I.laid (a:=h'.objs.size) (o:=.lst (ws.map (·.1))) (t':=tk) (fun b o Y=>kp2 b o (kp b o Y)) sz ?_,rfl,q ws p1 p2 _ (I.hok.fresh sz)⟩
   refine⟨?_,_,e,rv',by rw[he]⟩
   have:=p1.length_eq;rw[aM];lia
 rcases G with G|G
 ·obtain⟨its,r',pl,Z⟩:=I.list G;obtain⟨o,R,hc,n,hd⟩:=pl.isList;exact key its o "list" n r' R hc (.inl rfl) hd
 ·obtain⟨its,r',pl,Z⟩:=I.tuple G;obtain⟨o,R,hc,n,hd⟩:=pl;exact key its o "tuple" n r' R hc (.inr rfl) hd
end
section
variable{X:Cx}{e:aZ}{d:DTE}{pos p:Pos}{k:Nat}
theorem zme{K:qF}{hd:Option au}{O:au->Prop}{H:Hp}:∀{x:List V}{rs:List NP},Reps K hd O H x (Bd.oD rs)->∀z∈x.zip rs,PsV K H z/\Rep K hd O H z.1 (.tuple [.tuple [.int z.2.1.1,.int z.2.1.2],.str z.2.2])
 | _,[],r=>by cases r;intro z o;simp at o
 | _,a::rs,r=>by
  cases r with
  | cons h r =>
   intro z o;rcases az.mp (by simpa using o) with rfl|o
   ·refine⟨?_,h⟩;obtain⟨b,L,rfl,sq,y⟩:=h.tupI;cases y with
    | cons I C =>
     cases C with
     | cons G J =>
      cases J;obtain⟨q,rfl,v⟩:=I.bkI;rw[G.strI]at sq;exact⟨b,q,rfl,sq,v⟩
   ·exact zme r z o
def znI(d:DTE):DTA:=fun u n R=>d u n fun t o=>J4 t fun ts=>∃rs:List NP,ts=Bd.oD rs/\rs.length<100000/\∀l:List NP,l.Perm rs->l.Pairwise (fun a b=>npRk rs a<=npRk rs b)->R (Bd.oD l) o
theorem zjv(hr:Room k X.A)(hm:X.mg "sorted" = none) (h:DL X e d) (hs:starEach [e] X.env=[(false,eval e X.env)]) (hg:Gl X "sorted":=by rfl):DN X (.Call (.Name "sorted" p) [e] [] pos) (znI d):=by
 obtain⟨ta,pa,h⟩:=h;refine⟨_,Zu (zha (by have:=hr.un;lia)) hm boot_sorted (QF pa Ul hs) hg,fun C ρ σ H n Q R S hd hq=>?_⟩
 refine h C ρ σ H n _ _ S hd fun t n1 v I r1 e1 h1 q1=>?_
 have S1:=S.on e1 h1;have go:∀(p:au) J ts,(SqL X.K I p J\/SqT X.K I p J)->Reps X.K C.hd (Own C ρ σ) I J ts->(∃rs:List NP,ts=Bd.oD rs/\rs.length<100000/\∀U:List NP,U.Perm rs->U.Pairwise (fun a b=>npRk rs a<=npRk rs b)->R (Bd.oD U) n1) ->
   ∃(p':au) (zs:List (V×NP)),[V.ref p]=[V.ref p']/\(SqL X.K I p' (zs.map (·.1))\/SqT X.K I p' (zs.map (·.1)))/\zs.length<100000/\(∀z∈zs,PsV X.K I z) /\
  ∀G:List (V×NP),G.Perm zs->G.Pairwise (fun a b=>npRk (zs.map (·.2)) a.2<=npRk (zs.map (·.2)) b.2)->∀l,I l=none->Q (.ref l) (upd I l (.lst (G.map (·.1)))):=fun p J ts hs rp ⟨rs,ets,l64,hR⟩=>by
  subst ets;have ln:=rp.length;rw[Bd.QG]at ln;have rel:=zme rp;refine⟨p,J.zip rs,rfl,?_,by simp;lia,fun z hz=>(rel z hz).1,fun G pm pw l Y=>?_⟩
  ·rw[gK (by lia)];exact hs
  ·have hl0:H l=none:=by
    cases z:H l with
    | none=>rfl
    | some o =>
     by_cases y:C.hd=some l
     ·obtain⟨d,m,t,q,_⟩:=h1 l y;rw[Y]at q;cases q
     ·rw[e1 l o z y]at Y;cases Y
   have pr:(G.map (·.2)).Perm rs:=by
    have:=pm.map (·.2)
    rwa [fc (by lia)]at this
   have rp':∀zs:List (V×NP),(∀z∈zs,Rep X.K C.hd (Own C ρ σ) I z.1 (.tuple [.tuple [.int z.2.1.1,.int z.2.1.2],.str z.2.2]))->Reps X.K C.hd (Own C ρ σ) I (zs.map (·.1)) (Bd.oD (zs.map (·.2))):=by
    intro zs;induction zs with
    | nil=>intro _;exact .nil
    | cons a l ih=>intro h;exact .cons (h a (.head _)) (ih fun x hx=>h x (.tail _ hx))
   refine hq _ n1 l _ _ (hR _ pr (by rw[eP];rw[fc (by lia)]at pw;exact pw)) (e1.trans (ExtE.new Y)) (h1.same (JY Y)) hl0 J3 ?_
   refine(rp' G fun z hz=>(rel z (pm.mem_iff.mp hz)).2).mono (fun b o Z z=>z.elim id fun z=>?_) fun b o _ Z=>JY Y b o Z
   subst z;rw[Y]at Z;cases Z
 cases t with
 | list ts =>
  obtain⟨p,J,rfl,L,h2⟩:=q1.lstI;exact go p J ts (.inl (.of L)) h2 r1
 | tuple ts =>
  obtain⟨p,J,rfl,L,h2⟩:=q1.tupI;exact go p J ts (.inr L) h2 r1
 | _=>exact r1.elim
instance zu0 {ρ:En}{n:Nat}{R:List ae->Nat->Prop}:Stp (znI d ρ n R) (d ρ n fun t n1=>J4 t fun ts=>∃rs:List NP,ts=Bd.oD rs/\rs.length<100000/\∀rs':List NP,rs'.Perm rs->rs'.Pairwise (fun a b=>npRk rs a<=npRk rs b)->R (Bd.oD rs') n1):=⟨fun h=>h⟩
end
end L2
namespace Bd
open PySem L2
theorem zrC{Z:ZZ}{x:Str}{st:eS}{ps:List Str}{k m:Nat}{g:GD}(D:Dq Z.K Z.mg x st ps)(h:∀ts n R,g ts n R->False):FQ Z x st ps k (spD Z.K m g):=by
 obtain⟨f,fd,D⟩:=D;have no:∀o H Q E,spD Z.K m g o H Q E->False:=fun o H Q E z=>by
  obtain⟨hd,O,ts,n,R,_,_,_,_,_,z,_⟩:=z;exact h ts n R z
 exact⟨f,fd,D,⟨fun o H Q E z=>(no o H Q E z).elim,fun A outer s H args u o Q E _ _ _ _ z=>(no o H Q E z).elim⟩⟩
end Bd
namespace L2
open PySem PySem.Spec PyProof PyProof.Rows
section
variable{prog:aQ}{w:bz}{A:br}{R:lh->aw->Prop}{I:au}{fp wr:List au}{n:Nat}{P:Nat->ah->Prop}{St:Nat->bq->Prop}
def CmpH(prog:aQ)(w:bz)(A:br)(Gd:bq->Prop)(P:Nat->ah->Prop)(bt:Nat->Nat->Bool):Prop :=
 ∀i j vi vj (s:aw) (Q:qV) (E:qV),Gd s.heap->P i vi->P j vj->Q (.bool (bt i j)) s->wpAny (model prog w) A (richCompare .Lt vi vj) Q E s
theorem zmS{Gd:bq->Prop}{bt:Nat->Nat->Bool}{S:au}(W:Walks prog w A.in1 I fp wr n P St)(Ke:CmpH prog w A.in1 Gd P bt)(hSf:S∉fp)
  (hG:∀h h',Gd h->(∀b o,b∉wr->b≠S->h.get? b=some o->h'.get? b=some o)->Gd h') :
  ∀(k j:Nat) (s:aw) (U:ah) (c:Nat),n - (j+1)=k->j+1<=n->St (j+1) s.heap->Gd s.heap->P (argBest bt j) U ->
  s.heap.get? S=some { cls:=.type "list",dict:=none,data:=.seq #[U,U] c,slots:=#[] } ->
  (∀v h' tk,P (argBest bt (n - 1)) v->(∀b o,b∉wr->b≠S->s.heap.get? b=some o->h'.get? b=some o)->R (.ok (.ret v)) { s with heap:=h',toks:=tk }) ->
  codeAny (model prog w) A (.builtin "min.loop" ⟨[.ref I,.none,.ref S],[]⟩) R s:=by
 have hSw:S∉wr:=fun h=>hSf (W.sub _ h)
 have IH:(toString "min" ++ toString ".loop":String) = "min.loop":=by decide
 intro k;induction k with
 | zero =>
  intro j s U c hk hj hst gd Y hS hR;have hin:j+1=n:=by omega
  refine fz lN ?_;rw[iR fg _];show wpAny _ A.in1 (seqItems? (.ref S) >>= _) _ _ s
  refine aa (cX hS rfl ?_);show wpAny _ A.in1 (tryCatch (pyNext (.ref I)) _ >>= _) _ _ s
  refine aa (iA (W.done s _ _ (hin▸hst) fun h' tk C=>?_))
  show wpAny _ A.in1 (updateSeq S (fun _=>#[]) >>= _) _ _ _
  refine aa (mI (C S _ hSw hS) rfl (aa (h6 (aj ?_))));exact hR U _ tk (by rw[<- hin];exact Y) fun b o x G e=>(cm _ _ (gh G)).trans (C b o x e)
 | succ k ih =>
  intro j s U c hk hj hst gd Y hS hR;have hlt:j+1<n:=by omega
  refine fz lN ?_;rw[iR fg _];show wpAny _ A.in1 (seqItems? (.ref S) >>= _) _ _ s
  refine aa (cX hS rfl ?_);show wpAny _ A.in1 (tryCatch (pyNext (.ref I)) _ >>= _) _ _ s
  refine aa (iA (W.item (j+1) s _ _ hlt hst fun v h' tk hP Z C=>?_))
  have hS':=C S _ hSw hS;have gd':Gd h':=hG _ _ gd fun b o hb _ e=>C b o hb e
  show wpAny _ A.in1 (tryCatch (holding [v,v] (richCompare .Lt v U >>= _)) _ >>= _) _ _ _
  refine aa (iA (cf (aa (Ke (j+1) (argBest bt j) v U _ _ _ gd' hP Y ?_))));refine aa (cf (ck ?_));refine aa (h6 (aj ?_));cases hb:bt (j+1) (argBest bt j) with
  | true =>
   simp only[if_true];refine aa (mI hS' rfl (aa (h6 ?_)));rw[IH];refine aj ⟨lD fg _,ih (j+1) _ v _ (by omega) hlt (W.frame _ _ _ Z fun b hbf o e=>?_) (hG _ _ gd' fun b o _ hb e=>(cm _ _ (gh hb)).trans e) (by simp only[argBest,hb,if_true];exact hP) (f9 _ hS' rfl)
    fun v' h'' J hP' N=>?_⟩
   ·exact(cm _ _ (fun h:S=b=>hSf (by rw[h];exact hbf))).trans e
   ·exact hR v' h'' J hP' fun b o x G e=>N b o x G ((cm _ _ (gh G)).trans (C b o x e))
  | false =>
   simp only[aN,if_false];refine aa (h6 ?_);rw[IH];refine aj ⟨lD fg _,ih (j+1) _ U c (by omega) hlt Z gd' (by simp only[argBest,hb,aN,if_false];exact Y) hS' fun v' h'' J hP' N=>?_⟩
   exact hR v' h'' J hP' fun b o x G e=>N b o x G (C b o x e)
theorem zmR{E:qV}{s:aw}{x:ah}{Q:qV}
  (h:wpAny (model prog w) A.in1 (pyIter x) (fun it y=>∃(I:au) (fp wr:List au) (n:Nat) (P:Nat->ah->Prop) (St:Nat->bq->Prop) (bt:Nat->Nat->Bool) (Gd:bq->Prop),it=.ref I/\Walks prog w A.in1 I fp wr n P St/\St 0 y.heap/\(∀b∈fp,b<y.heap.objs.size)/\0<n/\CmpH prog w A.in1 Gd P bt/\Gd y.heap /\
   (∀h h',Gd h->(∀b o,b∉wr->b≠y.heap.objs.size->h.get? b=some o->h'.get? b=some o)->Gd h') /\
   ∀v h' tk,P (argBest bt (n - 1)) v->(∀b o,b∉wr->y.heap.get? b=some o->h'.get? b=some o)->Q v { y with heap:=h',toks:=tk }) E s) :
  wpAny (model prog w) A (call (.builtin "min") [x]) Q E s:=by
 have IH:(toString "min" ++ toString ".loop":String) = "min.loop":=by decide
 refine call_function_tree F.kind_min F.plain_min F.entry_min (F.args_min1 _) ?_;show wpAny _ A.in1 (kb "min" ["key","default"] 0 ⟨[],[]⟩ >>= _) _ _ s
 refine aa (k6 (show kb "min" ["key","default"] 0 ⟨[],[]⟩=pure [none,none] from rfl) (aa (aj ?_)))
 refine aa (eu h (fun it y N=>?_) fun _ _ e=>e)
 obtain⟨I,fp,wr,n,P,St,bt,Gd,rfl,W,hst,hfp,hn,Ke,gd,Z,hQ⟩:=N;refine aa (bS ?_);have G:y.heap.objs.size∉fp:=fun hm=>f7 _ (hfp _ hm)
 have hSw:y.heap.objs.size∉wr:=fun h=>G (W.sub _ h)
 rw[IH];refine aj ⟨lD fg _,?_⟩;refine fz lN ?_;rw[iR fg _];show wpAny _ A.in1 (seqItems? (.ref y.heap.objs.size) >>= _) _ _ _
 refine aa (cX (aG _ rfl) rfl ?_);show wpAny _ A.in1 (tryCatch (pyNext (.ref I)) _ >>= _) _ _ _
 refine aa (iA (W.item 0 _ _ _ hn (W.frame _ _ _ hst fun b _ o e=>aq _ e) fun v h' tk hP Y C=>?_))
 have S:=C y.heap.objs.size _ hSw (aG _ rfl);show wpAny _ A.in1 (updateSeq y.heap.objs.size (fun _=>#[v,v]) >>= _) _ _ _
 refine aa (mI S rfl ?_);rw[IH];have g1:Gd h':=Z _ _ (Z _ _ gd fun b o _ _ e=>aq _ e) fun b o hb _ e=>C b o hb e
 refine aj ⟨lD fg _,zmS (Gd:=Gd) (bt:=bt) W Ke G Z _ 0 _ v _ rfl hn (W.frame _ _ _ Y fun b hbf o e=>?_) (Z _ _ g1 fun b o _ hb e=>(cm _ _ (gh hb)).trans e) hP (f9 _ S rfl) fun v' h'' J hP' U=>?_⟩
 ·exact(cm _ _ (fun h:y.heap.objs.size=b=>G (by rw[h];exact hbf))).trans e
 ·exact hQ v' h'' J hP' fun b o L e=>U b o L (aK (aD e)) ((cm _ _ (lP (aD e))).trans (C b o L (aq _ e)))
end
def pLt(a b:Int×Int):Bool:=HT.lexLt [a.1,a.2] [b.1,b.2]
theorem pLt_iff{a b:Int×Int}:pLt a b=true↔(a.1<b.1\/(a.1=b.1/\a.2<b.2)):=by
 have e:pLt a b=if a.1=b.1 then(if a.2=b.2 then false else decide (a.2<b.2)) else decide (a.1<b.1):=rfl
 rw[e]
 by_cases h1:a.1=b.1
 ·rw[if_pos h1]
  by_cases h2:a.2=b.2
  ·rw[if_pos h2];simp;omega
  ·rw[if_neg h2];simp;omega
 ·rw[if_neg h1];simp;omega
theorem zgB{f:Nat->Int×Int}:∀k j,j<=k->pLt (f j) (f (argBest (fun i j=>pLt (f i) (f j)) k))=false
 | 0,j,hj=>by
  cases Nat.le_zero.mp hj;simp only[argBest];rw[dz];intro z;rw[pLt_iff]at z;omega
 | k+1,j,hj=>by
  have o:=zgB (f:=f) k;simp only[argBest];rw[dz];intro z;split at z
  ·rename_i l;rcases n9 hj with h|rfl
   ·have:=o j (by omega)
    rw[dz]at this;apply this;rw[pLt_iff]at z l ⊢;omega
   ·rw[pLt_iff]at z;omega
  ·rename_i l;rcases n9 hj with h|rfl
   ·have:=o j (by omega)
    rw[dz]at this;exact this z
   ·exact l z
section
variable{X:Cx}{k:Nat}
theorem znW(hr:Room k X.A)(hc:X.calm=true):J1 X (.builtin "min") (fun xs H Q=>∃(a:au) (zs:List (V×(Int×Int))),xs=[.ref a]/\SqL X.K H a (zs.map (·.1))/\zs≠[]/\(∀z∈zs,∃q,z.1=.ref q/\SqT X.K H q [.int z.2.1,.int z.2.2]) /\
  ∀z∈zs,(∀y∈zs,pLt y.2 z.2=false)->Q z.1 H):=by
 intro ad s σ H xs us Q I r h;obtain⟨a,zs,rfl,hq,ne,hp,q⟩:=h;cases r with
 | cons C S =>
  cases S;cases(show _=bP a from C)
  obtain⟨its,rv,p,hz⟩:=I.list hq;have cell:cw (fun(z:V×(Int×Int)) (u:ah)=>RelV z.1 u/\PrIn s.heap u z.2.1 z.2.2) zs its:=by
   have go:∀(zs:List (V×(Int×Int))) (its:List ah),(∀z∈zs,∃q,z.1=.ref q/\SqT X.K H q [.int z.2.1,.int z.2.2])->Vals (zs.map (·.1)) its->cw (fun(z:V×(Int×Int)) (u:ah)=>RelV z.1 u/\PrIn s.heap u z.2.1 z.2.2) zs its:=by
    intro zs;induction zs with
    | nil=>intro its _ r;cases r;exact .nil
    | cons z zs Z =>
     intro its hz r;cases r with
     | cons C S =>
      obtain⟨q,U,R⟩:=hz z (.head _);refine .cons ⟨C,?_⟩ (Z _ (fun y Y=>hz y (.tail _ Y)) S)
      dsimp only at C;rw[U]at C;cases(show _=bP q from C)
      exact zsj I R
   exact go zs its hp rv
  have x:=cell.length;have at_:∀(i:Nat) (v:ah),its[i]?=some v->∃z,zs[i]?=some z/\RelV z.1 v/\PrIn s.heap v z.2.1 z.2.2:=by
   have go:∀{zs:List (V×(Int×Int))} {its:List ah},cw (fun(z:V×(Int×Int)) (u:ah)=>RelV z.1 u/\PrIn s.heap u z.2.1 z.2.2) zs its->∀(i:Nat) (v:ah),its[i]?=some v->∃z,zs[i]?=some z/\RelV z.1 v/\PrIn s.heap v z.2.1 z.2.2:=by
    intro zs its h;induction h with
    | nil=>intro i v e;simp at e
    | cons h1 _ Z =>
     intro i v e;cases i with
     | zero=>cases e;exact⟨_,rfl,h1⟩
     | succ i=>exact Z i v e
   exact go cell
  have hl:s.heap.IsList a its.toArray:=p.isList;have N:a<s.heap.objs.size:=by obtain⟨_,e,_⟩:=hl;exact aD e
  have hu:X.A.in1.units<cLine:=by have:=hr.un;show X.A.units+1<_;lia
  refine zmR (eN hl ?_);refine⟨s.heap.objs.size,[s.heap.objs.size,a],[s.heap.objs.size],its.toArray.size,_,_,fun i j=>pLt ((zs[i]?.map (·.2)).getD (0,0)) ((zs[j]?.map (·.2)).getD (0,0)),fun h=>∀b o,s.heap.get? b=some o->h.get? b=some o,rfl,rC (A:=X.A.in1) (I.ok.hd hc) _ a (aK N) its.toArray,
   ⟨⟨_,aG _ rfl,rfl,rfl⟩,hl.push _⟩,?_,?_,?_,fun b o e=>aq _ e,?_,fun v h' tk hP hk=>?_⟩
  ·intro b hb;simp only[az,aO,or_false]at hb;rw[dY];rcases hb with rfl|rfl <;> lia
  ·rw[aB,<- x];exact fM.mpr ne
  ·intro i j vi vj s' Q' E' gd hi J hQ;obtain⟨z,G,_,pz⟩:=at_ i vi (by simpa using hi)
   obtain⟨y,ey,_,py⟩:=at_ j vj (by simpa using J)
   obtain⟨a1,o,t,t',n,e0,U,R,e3⟩:=pz;obtain⟨a2,o',u,u',n',f0,f1,f2,f3⟩:=py;subst e0 f0;simp only[G,ey,fx,c8]at hQ;exact(show wpAny (model X.prog X.w) X.A.in1 (compareOp .Lt (.ref a1) (.ref a2)) _ E' s' from HT.zed ⟨o,gd _ _ U,R,n,e3⟩ ⟨o',gd _ _ f1,f2,n',f3⟩ (.cons _ _ (.cons _ _ .nil)) (.cons _ _ (.cons _ _ .nil)) hu hQ)
  ·intro h h' gd kp b o e;have:=aD e;refine kp b o (fun z=>?_) (fun z=>?_) (gd b o e)
   ·simp only[az,aO,or_false]at z;lia
   ·rw[dY]at z;lia
  ·obtain⟨z,G,rz,_⟩:=at_ _ v (by simpa using hP)
   refine⟨z.1,H,I.kept (nL hk),rz,q z (aH G) fun y Y=>?_⟩
   obtain⟨j,J⟩:=cS.mp Y;have jl:=(av.mp J).1;have:=zgB (f:=fun i=>(zs[i]?.map (·.2)).getD (0,0)) (its.toArray.size - 1) j (by rw[aB,<- x];lia)
   simp only[aB]at this G;simp only[J,G,fx,c8]at this;exact this
def zrX:GC
 | [.list ts],R=>∃bs:List (Int×Int),ts=pD bs/\bs≠[]/\∀b∈bs,(∀c∈bs,pLt c b=false)->R (.tuple [.int b.1,.int b.2])
 | _,_=>False
theorem zmd{K:qF}{hd:Option au}{O:au->Prop}{H:Hp}:∀{v:List V}{bs:qB},Reps K hd O H v (pD bs)->∀z∈v.zip bs,(∃q,z.1=.ref q/\SqT K H q [.int z.2.1,.int z.2.2])/\Rep K hd O H z.1 (.tuple [.int z.2.1,.int z.2.2])
 | _,[],r=>by cases r;intro z o;simp at o
 | _,a::bs,r=>by
  cases r with
  | cons h r =>
   intro z o;rcases az.mp (by simpa using o) with rfl|o
   ·exact⟨h.bkI,h⟩
   ·exact zmd r z o
theorem zrt:GpC X (fun xs H Q=>∃(a:au) (zs:List (V×(Int×Int))),xs=[.ref a]/\SqL X.K H a (zs.map (·.1))/\zs≠[]/\(∀z∈zs,∃q,z.1=.ref q/\SqT X.K H q [.int z.2.1,.int z.2.2]) /\
  ∀z∈zs,(∀y∈zs,pLt y.2 z.2=false)->Q z.1 H) zrX:=by
 intro hd O H xs ts Q R dom rs h I;unfold zrX at h;split at h
 ·obtain⟨bs,rfl,ne,h⟩:=h;obtain⟨v,rfl,J⟩:=QK rs;obtain⟨p,u,rfl,N,C⟩:=J.lstI;have ln:u.length=bs.length:=by have:=C.length;simpa[pD] using this
  have rel:=zmd C;refine⟨p,u.zip bs,rfl,?_,fun z=>?_,fun z x=>(rel z x).1,fun z x L=>I _ _ H (h z.2 (ef x).2 fun c hc=>?_) (Same.refl H) (rel z x).2⟩
  ·rw[gK (by lia)];exact .of N
  ·have:(u.zip bs).length=0:=by rw[z];rfl
   rw[mD,ln,Nat.min_self]at this;exact ne (eQ.mp this)
  ·obtain⟨j,G⟩:=cS.mp hc;have S:=(av.mp G).1;have:(u[j]'(by lia),c)∈u.zip bs:=cS.mpr ⟨j,by rw[kQ];exact⟨ak _,G⟩⟩
   exact L _ this
 ·exact h.elim
theorem ztD{bs:qB}{R:ae->Prop}(ne:bs≠[])(h:∀b∈bs,(∀c∈bs,pLt c b=false)->R (.tuple [.int b.1,.int b.2])):zrX [.list (pD bs)] R:=⟨bs,rfl,ne,h⟩
end
def StG(K:qF)(mg:qM)(x:Str)(l:List Str):Prop:=∃a,mg x=some (.ref a)/\StT K a (l.map V.str)
section
variable{X:Cx}{x:Str}{pos:Pos}{ks:List Str}
theorem zpw{ds:qD}(h:StG X.K X.mg x ks)(y:ks.map cF=ds:=by rfl)(C:Gl X x:=by rfl)(hd:(x == ("__debug__":Str))=false:=by rfl):DE X (.Name x pos) (dC (.tuple ds)):=by
 subst y;obtain⟨a,o,st⟩:=h;exact⟨tC (.ref a),fun ad s σ H Q I h=>zm4 I C o ⟨.ref a,H,I,rfl,h⟩ hd,fun _ _ _ H n _ _ S h v=>v _ n _ H h ExtE.refl S.hnd (.tupS st (zjR ks))⟩
end
section
variable{M:pf}{A:br}{E:qV}{s:aw}
theorem zih{a b:ah}{Q:qV}(C:s.TypeIs a "list") (G:s.TypeIs b "list") (hc:wpAny M A (call (.builtin "list.__iadd__") [a,b]) Q E s):wpAny M A (inplaceOp .Add a b) Q E s:=by
 unfold inplaceOp;refine cf ?_;have v:isSeqSlot (some (.builtin "list.__iadd__"))=true:=by decide +kernel
 have o:fillsInplaceSlot (.type "list") "add" (Operator.Add == .Add)=pure false:=by
  unfold fillsInplaceSlot;show(typeLookup (.type "list") (dunderI "add") >>= fun x=>pure (x.isSome&&!isSeqSlot x))=pure false
  rw[iB.lookup,pure_bind,v];rfl
 refine aa (eG C (aa (k6 o ?_)));show wpAny M A (if false=true then _ else _) Q E s
 rw[if_neg aP];refine aa (wpAny_binaryOp1_none (nm:="add") C G noFill_list_add ?_);refine aa (k6 (PySem.seqSlot_of iB.lookup v) ?_);exact aa (dw hc)
end
section
variable{X:Cx}{e:aZ}{x:Str}{pos pos':Pos}{i:Nat}
def ipL:TIp:=fun x y H Q=>∃l b xs zs,x=.ref l/\y=.ref b/\H l=some (.lst xs)/\H b=some (.lst zs)/\xs.length+zs.length<=sizeLine/\Q (.ref l) (upd H l (.lst (xs++zs)))
theorem zre:PIp X .Add ipL:=by
 intro ad s σ H x y v u Q I N C h;obtain⟨l,b,xs,zs,rfl,rfl,G,U,Z,q⟩:=h;cases N;cases C;obtain⟨z,its,n,r,hl,e⟩:=I.lstM G;obtain⟨Y,o,R,C,S,J⟩:=I.lstM U;have hsz:its.toArray.size+o.toArray.size<=sizeLine:=by rw[aB,aB];omega
 have L:¬(!its.toArray.isEmpty&&gX (its.toArray.size+o.toArray.size))=true:=by
  rw[zo5 hsz,nj];exact aP
 refine zih ⟨_,e,rfl⟩ ⟨_,J,rfl⟩ (call_meets iB ⟨_,e,rfl⟩ PySem.F.entry_list_iadd (PySem.F.args_list_iadd_2 _ _)
  (AutoSeq1.list___iadd___list_list_0 l its.toArray n b o.toArray R L (by rw[aB];omega) (by omega)) ⟨e,J,?_⟩)
 refine⟨.ref l,_,I.lset (its':=its++o) G e (by simp) (r.append C) ?_,rfl,q⟩
 rw[aJ];omega
def Vw(i:Nat)(d:DTA):DTS:=fun D l n=>match l[i]? with
 | some (some (.own ts))=>d l n fun u v=>ts.length+u.length<=16777216/\D.nx (l.set i (some (.own (ts++u)))) v
 | _=>False
theorem set_same{α:Type}{l:List α}{i:Nat}{a:α}(h:l[i]?=some a):l.set i a=l:=by
 refine kY fun j=>?_
 rw[ik];split
 ·rename_i e;subst e;have:=(av.mp h).1;rw[if_pos this,h]
 ·rfl
theorem znx{d:DTA}(hN:X.N.Nodup)(hi:X.N[i]?=some x)(hx:Loc X.env.scope x)(h:DN X e d)(hf:X.fn x=true\/X.env.scope.names.lookup x=some .local:=by walk_at "F") :
  DS X (.AugAssign (.Name x pos') .Add e pos) (Vw i d):=by
 obtain⟨ta,pa,h⟩:=h;refine⟨_,zpU hN hi hx pa zre hf,fun C Z σ H n D D' S hd g=>?_⟩
 unfold Vw at hd;split at hd
 ·rename_i ts I;obtain⟨p,vs,G,h2,h3,h4⟩:=S.own i ts I;refine⟨.ref p,G,h C Z σ H n _ _ S hd fun us n' p2 ws H' r Y hn hp L q=>?_⟩
  have S1:=S.on Y hn;obtain⟨p',R,v,J,y,h4'⟩:=S1.own i ts I;rw[G]at v;cases v;have U:Reps X.K C.hd (Own C Z σ) H' ws us:=q.mono (fun _ _ _ z=>.inl z) fun _ _ _ z=>z
  refine⟨p,p2,R,ws,rfl,rfl,J,L,by rw[y.length,U.length];exact r.1,?_⟩
  obtain⟨S2,k2⟩:=S1.chg I G (y.append U);rw[set_same G];exact g.nx _ _ _ n' r.2 S2 (Y.keep.trans k2)
 ·exact hd.elim
end
section
variable{ρ ρ':En}{i n:Nat}{d:DTA}{D:Qb}{ts:qD}
instance zxw [h:GetN ρ i (some (.own ts))]:Stp (Vw i d D ρ n) (d ρ n fun us n'=>ts.length+us.length<=16777216/\SetK i (some (.own (ts++us))) D.nx ρ n'):=⟨fun k=>by
 unfold Vw;rw[h.e];exact k⟩
end
section
variable{tg tg2:DTG}{tt tt2:DTT}{d:DTE}{di2:DTA}{ρ0:En}{n:Nat}
theorem zgz{α:Type}{cs:List α}{D:α->ae}{Rl:List ae->Nat->Prop}(F:α->ae)
  (step:∀b∈cs,∀(K:qN) (X:Nat->Prop),K (F b) n->tg (D b) ρ0 fun o=>tt o n fun c u=>if c=true then d o u K else X u) :
  ∀(xs:List α) (acc:qD),(∀x∈xs,x∈cs)->acc.length+xs.length<=16777216->Rl (acc++xs.map F) n->JS tg tt d ρ0 (xs.map D) acc n Rl
 | [],acc,_,_,h=>by
  have h:Rl acc n:=by simpa using h
  exact h
 | x::xs,acc,hx,hl,h=>by
  have C:acc.length+(xs.length+1)<=16777216:=hl;exact step x (hx x (.head _)) (fun t G=>acc.length<16777216/\JS tg tt d ρ0 (xs.map D) (acc++[t]) G Rl) (fun u=>JS tg tt d ρ0 (xs.map D) acc u Rl)
   ⟨by omega,zgz (cs:=cs) F step xs _ (fun y v=>hx y (.tail _ v)) (by simp;omega) (by simpa using h)⟩
theorem znR{α I:Type}{cs:List α}{D:α->ae}{G:I->ae}{P:α->List I->Prop}{Rl:List ae->Nat->Prop}(m:Nat)(hP:∀b u,P b u->u.length<=m)
  (step:∀b∈cs,∀(acc:qD) (K:List ae->Nat->Prop) (X:Nat->Prop),acc.length<=m*cs.length->(∀u,P b u->K (acc++u.map G) n)->tg (D b) ρ0 fun v=>tt v n fun c C=>if c=true then di2 v C fun ts n3=>JS tg2 tt2 d v ts acc n3 K else X C)
  (fin:∀o:List (List I),o.length=cs.length->(∀(i:Nat) b u,cs[i]?=some b->o[i]?=some u->P b u)->Rl (o.flatten.map G) n):Q4 tg tt di2 tg2 tt2 d ρ0 (cs.map D) [] n Rl:=by
 have key:∀(xs:List α) (acc:qD) (R:List ae->Nat->Prop),(∀x∈xs,x∈cs)->acc.length+m*xs.length<=m*cs.length->(∀o:List (List I),o.length=xs.length->(∀(i:Nat) b u,xs[i]?=some b->o[i]?=some u->P b u)->R (acc++o.flatten.map G) n)->Q4 tg tt di2 tg2 tt2 d ρ0 (xs.map D) acc n R:=by
  intro xs;induction xs with
  | nil =>
   intro acc R _ _ h;have h:R acc n:=by simpa using h [] rfl (fun i b u e=>by simp at e)
   exact h
  | cons x xs U =>
   intro acc R hx hl h;have Z:acc.length+(m*xs.length+m)<=m*cs.length:=hl;refine step x (hx x (.head _)) acc _ (fun C=>Q4 tg tt di2 tg2 tt2 d ρ0 (xs.map D) acc C R) (by omega) fun u L=>?_
   refine U (acc++u.map G) R (fun y S=>hx y (.tail _ S)) (by have:=hP x u L;simp;omega) fun o N pw=>?_
   have:=h (u::o) (by simp[N]) fun i b Y J ev=>by
    cases i with
    | zero=>cases J;cases ev;exact L
    | succ i=>exact pw i b Y J ev
   simpa[bL] using this
 exact key cs [] Rl (fun _ h=>h) (by simp) (by simpa using fin)
end
section
variable{X:Cx}{scope:fA}{own:List Str}{capt:List Nat}{kx vx tg iter:aZ}{ifs:List aZ}{pos:Pos}{i:Nat}{x:Str}{pos' H0:Pos}
theorem zmm{wi:TI}{g:TG}{tt:TT}{tk tv:TE}(hu:X.A.units+1<cLine)(hc:X.calm=true)(S:JB scope own capt X)(hi:PI X tg iter wi)
  (hg:∀C s₀ H₀ u,PG (Jf X scope own capt C s₀ H₀ u) tg g) (ht:∀C s₀ H₀ u,PTs (Jf X scope own capt C s₀ H₀ u) ifs tt) (hk:∀C s₀ H₀ u,PE (Jf X scope own capt C s₀ H₀ u) kx tk) (he:∀C s₀ H₀ u,PE (Jf X scope own capt C s₀ H₀ u) vx tv)
  (hN:X.N.Nodup) (hxi:X.N[i]?=some x) (hx:Loc X.env.scope x)
  (hs:∀x,foldedSetIterable iter X.env x=pure x:=by intro _;rfl) (hsw:swapsWith (.DictComp kx vx [⟨tg,iter,ifs,0⟩] scope pos) (some (.Name x pos')) H0.line X.env=pure true:=by rfl)
  (hf:X.fn x=true\/X.env.scope.names.lookup x=some .local:=by walk_at "F") :
  PS X (.Assign [.Name x pos'] (.DictComp kx vx [⟨tg,iter,ifs,0⟩] scope pos) H0) (tAsg (zpP X.K own capt wi g tt tk tv) (Zq i)):=by
 intro ad s σ H D I h;rw[mK _ _ _ _ hsw];refine aa (dE (aa ?_));show wpAny _ X.A (do let _ <- comprehension (.DictComp kx vx [⟨tg,iter,ifs,0⟩] scope pos) scope X.env _ newDict false (eval iter X.env) (some (assign (.Name x pos') X.env))) _ _ s
 refine aa (eu (fG (use:=some (assign (.Name x pos') X.env)) (Q:=fun _ s'=>SP X ad D .next s') rfl hs (Ww (S.cells I.ok)) S.kind S.names (thn (hi ad s σ H _ I h) fun v s1 h1=>thn h1 fun itv s2 h2=>?_)) (fun _ s' hq=>aj (aj hq)) fun _ _ e=>e)
 refine znP (RR:=fun acc C=>compPost (model X.prog X.w) X.A X.xe (some (assign (.Name x pos') X.env)) (fun _ s'=>SP X ad D .next s') acc C) hu hc S hg ht hk he h2 fun D' C s' H' R J hCn u q=>?_
 obtain⟨m,R⟩:=R;obtain⟨f0,f1,f2,f3,f4,f5⟩:=u;have Is:Inv X ad σ H' s':=J s'.heap (oA _ _);refine kU (zeY Is hN hxi hx (show RelV (.ref D') (.ref D') from rfl) (fun y Z U=>?_) hf)
 obtain⟨a,U,Y⟩:=U;have L:C≠a:=by
  rcases Y with rfl|Y
  ·exact f1
  ·exact fun z=>f4 x a Y z.symm
 have G:y.heap.Ns C m:=R.sameBut U L;exact⟨m,G,fun h' sb'=>⟨_,H',Z.turned (t':=y.toks) (fun b o hb e=>(sb'.2 b hb).trans e) f0 f1 f3 f4 f5,q⟩⟩
theorem znw{R:DTA}{is:List Nat}{g:DTG}{tt:DTT}{tk U:DTE}(Z:X.N.Nodup)(J:X.N[i]?=some x)(hx:Loc X.env.scope x)(hu:X.A.units+1<cLine)(hc:X.calm=true)(S:JB scope own capt X)(hi:DIL X tg iter R)
  (hg:∀C s₀ H₀ y,DG (Jf X scope own capt C s₀ H₀ y) tg is g) (G:∀i∈is,i<own.length) (ht:∀C s₀ H₀ y,DTs (Jf X scope own capt C s₀ H₀ y) ifs tt) (hk:∀C s₀ H₀ y,DE (Jf X scope own capt C s₀ H₀ y) kx tk) (he:∀C s₀ H₀ y,DE (Jf X scope own capt C s₀ H₀ y) vx U)
  (hs:∀x,foldedSetIterable iter X.env x=pure x:=by intro _;rfl) (I:swapsWith (.DictComp kx vx [⟨tg,iter,ifs,0⟩] scope pos) (some (.Name x pos')) H0.line X.env=pure true:=by rfl)
  (hf:X.fn x=true\/X.env.scope.names.lookup x=some .local:=by walk_at "F") :
  DS X (.Assign [.Name x pos'] (.DictComp kx vx [⟨tg,iter,ifs,0⟩] scope pos) H0) (sSet i (Vz own.length capt R g tt tk U)):=by
 obtain⟨wi,gg,gt,gk,ge,a,b,c,d,e,sp⟩:=zlB hi hg G ht hk he;refine⟨_,zmm hu hc S a b c d e Z J hx hs I hf,fun C ρ σ H n D D' S hd g=>?_⟩
 refine sp C ρ σ H n _ _ S hd fun t Y v H' r L h1 q=>?_
 exact g.nx _ _ H' Y r ((S.on L h1).put q) (L.keep.trans UV)
end
theorem zjL{u:KT2}{k:Int×Int}:(valT u k).isSome=true↔k∈u.map (·.1):=by
 unfold valT;rw[oJ,List.find?_isSome];constructor
 ·rintro⟨z,l,e⟩;exact aS.mpr ⟨z,l,of_decide_eq_true e⟩
 ·intro h;obtain⟨z,l,e⟩:=aS.mp h;exact⟨z,l,decide_eq_true e⟩
theorem zfo{α:Type}{F:α->Int×Int}{G:α->ae}{k:Int×Int}:∀{cs:List α}{acc:KT2},k∈(cs.foldl (fun acc b=>putT acc (F b) (G b)) acc).map (·.1)↔k∈acc.map (·.1)\/k∈cs.map F
 | [],acc=>by simp
 | c::cs,acc=>by
  rw[fZ,zfo (cs:=cs),aV,az];rcases zmk (acc:=acc) (k:=F c) (t:=G c) with⟨e,h⟩|⟨e,h⟩
  ·rw[e];constructor
   ·rintro(z|z)
    ·exact .inl z
    ·exact .inr (.inr z)
   ·rintro(z|rfl|z)
    ·exact .inl z
    ·exact .inl h
    ·exact .inr z
  ·rw[e,ax,aA,or_assoc]
section
variable{tg:DTG}{tt:DTT}{tk tv:DTE}{ρ0:En}{n:Nat}{Rt:KT2->Nat->Prop}
theorem ziE{α:Type}{cs:List α}{D:α->ae}(p:α->Bool)(F:α->(Int×Int))(G:α->ae)(L:cs.length<16777216)
  (step:∀b∈cs,∀(K:ae->Nat->ae->Nat->Prop) (X:Nat->Prop),(p b=true->K (blkT (F b)) n (G b) n)->(p b=false->X n)->tg (D b) ρ0 fun u=>tt u n fun c v=>if c=true then tk u v fun y R=>tv u R fun t I=>K y R t I else X v)
  (fin:Rt ((cs.filter p).foldl (fun acc b=>putT acc (F b) (G b)) []) n):Q5 tg tt tk tv ρ0 (cs.map D) [] n Rt:=by
 have len:∀(acc:KT2) k t,(putT acc k t).length<=acc.length+1:=fun acc k t=>by
  unfold putT;split
  ·rw[aM];exact fS _
  ·simp
 have key:∀(xs:List α) (acc:KT2),(∀x∈xs,x∈cs)->acc.length+xs.length<16777216->Rt ((xs.filter p).foldl (fun acc b=>putT acc (F b) (G b)) acc) n->Q5 tg tt tk tv ρ0 (xs.map D) acc n Rt:=by
  intro xs;induction xs with
  | nil=>intro acc _ _ h;exact h
  | cons x xs N =>
   intro acc hx L h;have S:acc.length+(xs.length+1)<16777216:=L;refine step x (hx x (.head _)) (fun y _ t I=>lBlk y fun k=>acc.length<16777216/\Q5 tg tt tk tv ρ0 (xs.map D) (putT acc k t) I Rt) (fun v=>Q5 tg tt tk tv ρ0 (xs.map D) acc v Rt) (fun J=>?_) fun J=>?_
   ·rw[List.filter_cons_of_pos J]at h;exact⟨F x,rfl,by lia,N _ (fun y C=>hx y (.tail _ C)) (by have:=len acc (F x) (G x);lia) h⟩
   ·rw[List.filter_cons_of_neg (by rw[J];exact aP)]at h
    exact N _ (fun y C=>hx y (.tail _ C)) (by lia) h
 exact key cs [] (fun _ h=>h) (by simpa using L) fin
end
end L2
namespace Bd
open PySem PySem.W PySem.Calls L2 PyProof.Rows
def VD:List ah->List Str->Bool
 | [],[]=>true
 | .str x _::r,y::z=>decide (x=y)&&VD r z
 | _,_=>false
theorem zfp:∀{v:List ah}{u:List Str},VD v u=true->Vals (u.map V.str) v
 | [],[],_=>.nil
 | .str x t::r,y::z,h=>by
  simp only[VD,aY,decide_eq_true_eq]at h;obtain⟨rfl,h⟩:=h;exact .cons ⟨t,rfl⟩ (zfp h)
def tupO(h:bq)(l:List Str):ah->Bool
 | .ref a=>(match h.get? a with
  | some ⟨.type c,none,.seq vs _,_⟩=>decide (c = "tuple")&&decide (vs.size<=100)&&VD vs.toList l
  | _=>false)
 | _=>false
def ZA(l:List (Str×List Str))(s:aw):Bool:=l.all fun q=>(s.heap.nsMap mainGlobals q.1).any (tupO s.heap q.2)
def TupsAre(l:List (Str×List Str))(mg:qM)(h:bq):Prop:=∀q∈l,∃v,mg q.1=some v/\tupO h q.2 v=true
theorem zsd{l:List (Str×List Str)}{s:aw}(x:ZA l s=true):TupsAre l (s.heap.nsMap mainGlobals) s.heap:=fun q o=>by
 have e:=bM.mp x q o;cases g:s.heap.nsMap mainGlobals q.1 with
 | none=>rw[g]at e;cases e
 | some v=>rw[g]at e;exact⟨v,rfl,e⟩
theorem zlW{h h':bq}{l:List Str}{v:ah}(x:tupO h l v=true)(k:∀b o,h.get? b=some o->h'.get? b=some o):tupO h' l v=true:=by
 unfold tupO at x ⊢;split at x
 ·rename_i a;cases e:h.get? a with
  | none=>rw[e]at x;cases x
  | some o=>rw[e]at x;rw[k _ _ e];exact x
 ·cases x
theorem TupsAre.keeps{l:List (Str×List Str)}{mg:qM}{h h':bq}(x:TupsAre l mg h)(k:∀b o,h.get? b=some o->h'.get? b=some o):TupsAre l mg h':=fun q u=>by
 obtain⟨v,a,b⟩:=x q u;exact⟨v,a,zlW b k⟩
theorem TupsAre.st{l:List (Str×List Str)}{mg:qM}{h:bq}(x:TupsAre l mg h){n:Str}{o:List Str}(m:(n,o)∈l):StG (Qk h) mg n o:=by
 obtain⟨v,a,b⟩:=x _ m;unfold tupO at b;split at b
 ·rename_i p;split at b
  ·rename_i c C G I e;simp only[aY,decide_eq_true_eq]at b;obtain⟨⟨rfl,u⟩,y⟩:=b;exact⟨p,a,_,C,G,zcl e,rfl,rfl,cy u (by decide),zfp y,rfl⟩
  ·cases b
 ·cases b
end Bd
namespace L2
open PySem PySem.Spec PyProof.Rows
def ndup:List Str->Bool
 | []=>true
 | x::l=>!l.any (fun y=>decide (x=y))&&ndup l
theorem ndB{l:List Str}(h:ndup l=true):l.Nodup:=by
 induction l with
 | nil=>exact .nil
 | cons x l o =>
  simp only[ndup,aY,gr,oj,decide_eq_true_eq]at h;exact eT.mpr ⟨fun m=>h.1 x m rfl,o h.2⟩
def fnB(N P:List Str)(sc:fA):Bool:=(match sc.kind with|.function=>true|_=>false)&&!sc.isCoroutine&&!sc.isGenerator&&ndup N&&decide (N.take P.length=P)&&P.all (fun x=>decide (sc.names.lookup x=some .local\/sc.names.lookup x=some .cell))&&sc.names.all fun y=>decide (y.2≠.free)
theorem fnS{N P:List Str}{sc:fA}(h:fnB N P sc=true):UQ N P sc:=by
 simp only[fnB,aY,gr,decide_eq_true_eq,bM]at h;obtain⟨⟨⟨⟨⟨⟨a,b⟩,c⟩,d⟩,e⟩,f⟩,g⟩:=h;exact⟨(by cases q:sc.kind <;> rw[q]at a <;> first|rfl|(exact nomatch a)),b,c,ndB d,e,f,g⟩
section
variable{X:Cx}{x:Str}{e:aZ}{es:List aZ}{d:DTE}{ds:DTA}{pos pos':Pos}
theorem dlv(i:Nat)(u:X.N[i]?=some x:=by rfl)(o:Vis X.env.scope x:=by walk_at "V")(hd:(x == ("__debug__":Str))=false:=by rfl)
  (l:(x == ("__classdict__":Str))=false:=by rfl):DL X (.Name x pos) (dVar i):=dl (Jj i u o hd l)
theorem dli{i j}:DL X (.Constant (.int i) j pos) (dC (.int i)):=dl Ji
theorem dbc(h:DE X e d)(o:DB X es ds)(l:starEach (e::es) X.env=(false,eval e X.env)::starEach es X.env:=by rfl):DB X (e::es) (Qo d ds):=znH h o l
theorem dbv(i:Nat)(o:DB X es ds)(v:X.N[i]?=some x:=by rfl)(u:Vis X.env.scope x:=by walk_at "V")(hd:(x == ("__debug__":Str))=false:=by rfl)
  (l:(x == ("__classdict__":Str))=false:=by rfl):DB X (.Name x pos::es) (Qo (dVar i) ds):=znH (Jj i v u hd l) o rfl
theorem dsv(i:Nat)(v:X.N.Nodup)(h:DE X e d)(hi:X.N[i]?=some x:=by rfl)(hx:Loc X.env.scope x:=by first|exact df rfl|exact Or.inr rfl)(u:swapsWith e (some (.Name x pos')) pos.line X.env=pure false:=by rfl)
  (hf:X.fn x=true\/X.env.scope.names.lookup x=some .local:=by walk_at "F"):DS X (.Assign [.Name x pos'] e pos) (sSet i d):=zuE v hi hx h u hf
theorem dgv(i:Nat)(u:X.N.Nodup)(hi:X.N[i]?=some x:=by rfl)(hx:Loc X.env.scope x:=by first|exact df rfl|exact Or.inr rfl)(hf:X.fn x=true\/X.env.scope.names.lookup x=some .local:=by walk_at "F"):DG X (.Name x pos) [i] (Qv i):=zrH u hi hx hf
end
section
variable{X:Cx}{scope:fA}{iter elt:aZ}{ifs:List aZ}{tg:aZ}{pos:Pos}{is:List Nat}{di:DTA}{g:DTG}{tt:DTT}{te:DTE}
theorem dnc(own:List Str)(capt:List Nat)(hi:DIL X tg iter di)(y:∀C s₀ H₀ l,DG (Jf X scope own capt C s₀ H₀ l) tg is g)(he:∀C s₀ H₀ l,DE (Jf X scope own capt C s₀ H₀ l) elt te)
  (hc:X.calm=true:=by rfl) (h:Wm scope X.env.scope X.N capt=true:=by rfl) (u:∀i∈is,i<own.length:=by decide) (v:∀x,foldedSetIterable iter X.env x=pure x:=by intro _;rfl):DN X (.ListComp elt [⟨tg,iter,[],0⟩] scope pos) (dComp own.length capt di g dYes te) :=
 znA hc (JB.of h) hi y u (fun _ _ _ _=>Uw) he v
theorem dnf(own:List Str)(capt:List Nat)(hi:DIL X tg iter di)(G:∀C s₀ H₀ l,DG (Jf X scope own capt C s₀ H₀ l) tg is g)(v:∀C s₀ H₀ l,DTs (Jf X scope own capt C s₀ H₀ l) ifs tt)(he:∀C s₀ H₀ l,DE (Jf X scope own capt C s₀ H₀ l) elt te)
  (hc:X.calm=true:=by rfl) (h:Wm scope X.env.scope X.N capt=true:=by rfl) (u:∀i∈is,i<own.length:=by decide) (y:∀x,foldedSetIterable iter X.env x=pure x:=by intro _;rfl):DN X (.ListComp elt [⟨tg,iter,ifs,0⟩] scope pos) (dComp own.length capt di g tt te) :=
 znA hc (JB.of h) hi G u v he y
end
end L2
namespace Bd
open PySem PySem.W PySem.Calls L2 PyProof.Rows
abbrev PLs:=List (Str×List (Str×List Str))
abbrev FLs:=List (Str×List Str)
end Bd
namespace Bd
open PySem PySem.W PySem.Calls L2 PyProof.Rows
def UP(o:String->Option gm)(p:aQ)(w:bz)(l:Nat)(ann:Option ah):Nat->uD->Thread->Option uD
 | 0,_,_=>none
 | n+1,s,t=>match through t with
  | true=>some s
  | false=>match stepOk l ann t with
   | false=>none
   | true=>match stepT (denote o) p w s t with
    | some (s',t')=>UP o p w l ann n s' t'
    | none=>none
theorem zfX{o:String->Option gm}{p:aQ}{w:bz}{l:Nat}{ann:Option ah}:∀{n:Nat}{s s':uD}{t:Thread},UP o p w l ann n s t=some s'->topRun o p w l ann n s.abs t=some s'.abs
 | 0,_,_,_,h=>by cases h
 | n+1,s,s',t,h=>by
  unfold UP at h;unfold topRun;cases he:through t with
  | true=>rw[he]at h;cases h;rfl
  | false =>
   rw[he]at h;cases hk:stepOk l ann t with
   | false=>rw[hk]at h;cases h
   | true =>
    rw[hk]at h;cases hs:stepT (denote o) p w s t with
    | none=>rw[hs]at h;cases h
    | some r=>obtain⟨u,v⟩:=r;rw[hs]at h;dsimp only at h ⊢;rw[stepT_spec hs];exact zfX h
def zp5:List Obj->Nat->BT->BT
 | [],_,t=>t
 | o::r,i,t=>zp5 r (i+1) (t.ins i o)
noncomputable def zrV (P:rq):BT:=zp5 (dD P).objs.toList 0 .nil
noncomputable def zlI (w:bz) (os:oK):uD:=⟨zrV w.params,11,(dD w.params).life,#[],mj,ny,os⟩
theorem boot_abs(P:rq):absHeap (zrV P) 11 (dD P).life=dD P:=by kernel_rfl
theorem zn5(P:rq):(dD P).objs.size=11:=by kernel_rfl
theorem zrU(P:rq):(dD P).isNs mainGlobals=true:=by kernel_rfl
def Vs(p:aQ)(h₀:bq)(l:aw):Bool:=staticsOk (importedModules p.main.body) h₀ l.heap&&namesBound p l.heap&&gensDone l&&laidKept h₀ l.heap
theorem zm3{p q:aQ}{loose:List Str}{x:aw->Bool}{α:Type}{o:aw->α}{v:bz->α}{N:Nat}(e:opening p=plainProg p.main.scope.names)(I:Nat.ble 600 N=true)(y:∀s,fenceModules? p s=some s)
  (run:∀(w:bz) (os:oK),(UP treeTable p w 11 ((dD w.params).nsMap mainGlobals "__annotations__") N (zlI w os) (topStub p)).map (fun s=>(Vs p (dD w.params) s.abs,openSeen q loose (importedModules p.main.body) x true s.abs,o s.abs))=some (true,openGood q loose,v w)) :
  LeftO p q loose x o v N true:=fun w=>by
 obtain⟨⟨h,C,d,k,os⟩,J,S⟩:=mn.mp (boot_open e I y w);obtain⟨rfl,rfl,rfl,rfl⟩:h=dD w.params/\C=#[]/\d=mj/\k=ny:=by simpa using S
 obtain⟨u,r,l⟩:=mn.mp (run w os);have R:(zlI w os).abs=⟨dD w.params,#[],mj,ny,os⟩:=by
  show(⟨absHeap (zrV w.params) 11 (dD w.params).life,#[],mj,ny,os⟩:aw)=_
  rw[boot_abs]
 have r:=zfX r;rw[R]at r;obtain⟨G,l2⟩:=nq l;obtain⟨l2,L⟩:=nq l2;have t:topFrom treeTable p w N ⟨dD w.params,#[],mj,ny,os⟩=some u.abs:=by
  unfold topFrom;dsimp only;rw[zrU,zn5,r];show(match Vs p (dD w.params) u.abs with|true=>_|false=>_)=_
  rw[G]
 unfold openEnds;rw[J];show(topFrom treeTable p w N _).map _=_
 rw[t];exact congrArg some (gW l2 L)
theorem map3{α C l u v:Type}{o:Option α}{f:α->C×l}{g:α->u×v}{a:C}{y:l}{b:u×v}(h:o.map f=some (a,y))(L:o.map (fun s=>(g s).1)=some b.1)(G:o.map (fun s=>(g s).2)=some b.2):o.map (fun s=>((f s).1,g s,(f s).2))=some (a,b,y):=by
 cases o with
 | none=>cases h
 | some x =>
  have e:=ba h;have I:(g x).1=b.1:=ba L;have J:(g x).2=b.2:=ba G;show some ((f x).1,g x,(f x).2)=_
  rw[e,show g x=b from gW I J]
end Bd
namespace L2
open PySem PySem.Spec PyProof.Rows
abbrev GX:=List ae->Nat->(ae->Nat->Prop)->(Str->Nat->Prop)->Prop
theorem isiF{f:ae->Bool}{b:Bool}{t:ae}{R:ae->Prop}(p:Pln t)(e:f t=b)(h:R (.bool b)):lIsi f t R:=⟨p,e▸h⟩
theorem zg5{d:ae}(h:isTup d=true):∃ts,d=.tuple ts:=by
 cases d with
 | tuple ts=>exact⟨ts,rfl⟩
 | _=>cases h
theorem zph{d:ae}(h:isInt d=true)(k:isBool d=false):∃i,d=.int i:=by
 cases d with
 | int i=>exact⟨i,rfl⟩
 | bool i=>cases k
 | _=>cases h
theorem zq5{l:qD}(h:l.length=2):∃a b,l=[a,b]:=by
 cases l with
 | nil=>cases h
 | cons a t =>
  obtain⟨b,e⟩:=List.length_eq_one_iff.mp (uz h);exact⟨a,b,e▸rfl⟩
end L2
namespace Bd
open PySem L2
def top(i:Nat):eS:=fJ.main.body.getD i (.Pass ⟨0,0,0,0⟩)
set_option maxHeartbeats 4000000
local macro_rules | `(tactic| walk_at "S") => `(tactic| first | with_reducible refine zkN ?_ | with_reducible refine Stp.go ?_ | with_reducible refine j_all (by with_unfolding_all rfl) ?_ | with_reducible refine j_any (by with_unfolding_all rfl) ?_ | with_reducible refine zp6 (by with_unfolding_all rfl) ?_ | with_reducible refine zp7 (by with_unfolding_all rfl) ?_ | with_reducible refine zki (by with_unfolding_all rfl) ?_ | with_reducible refine zkh (by with_unfolding_all rfl) ?_)
set_option hygiene false in
local macro_rules | `(tactic| walk_at "K") => `(tactic| first | walk_at "S" | with_reducible refine zt6 (fun hc => ?_) (fun hc => ?_) | with_reducible refine zw2 (fun hc => ?_) (fun hc => ?_) | with_reducible refine And.intro ?_ ?_)
set_option hygiene false in
local macro_rules | `(tactic| wp_walk using $ts:term,*) => `(tactic| repeat' (first $[| with_reducible refine $ts:term]* | walk_at "K"))
local macro_rules | `(tactic| wp_walk) => `(tactic| repeat' walk_at "K")
structure Txt(mg:qM):Prop where
 isi:mg "isinstance" = none
 int:mg "int" = none
 boo:mg "bool" = none
 tup:mg "tuple" = none
 len:mg "len" = none
 min:mg "min" = none
 max:mg "max" = none
 str:mg "str" = none
 rep:mg "repr" = none
 all:mg "all" = none
 any:mg "any" = none
 ran:mg "range" = none
 sum:mg "sum" = none
 srt:mg "sorted" = none
 lst:mg "list" = none
 abs:mg "abs" = none
 zip:mg "zip" = none
 dct:mg "dict" = none
 rev:mg "reversed" = none
 enu:mg "enumerate" = none
section
variable{P:aQ}{w:bz}{K:qF}{mg:qM}{base:bq}{Z:ZZ}
def zrd:ae->Bool|.int _=>true|_=>false
def zej:GD:=fun ts n R=>match ts with
 | [d]=>Pln d/\R (.bool (zrd d)) n
 | _=>False
theorem Vp{d:ae}{b:Bool}{n:Nat}{R:qN}(e:zrd d=b)(h:Pln d)(h':R (.bool b) n):zej [d] n R:=⟨h,e▸h'⟩
def zf3(Z:ZZ):Prop:=FQ Z "is_whole" (top 1) ["thing"] 1 (spD Z.K 1 zej)
theorem zi4(D:Dq Z.K Z.mg "is_whole" (top 1) ["thing"]) (T:Txt Z.mg):zf3 Z:=by
 refine' okQ D (fnS (N:=["thing"]) (by decide +kernel)) rfl fun f o A outer s H E u=>⟨_,(Jc (Jg (UM (Qq zp_ T.isi T.int boot_int (dlv 0) Jt) (Uf (zrI (Qq zjt T.isi T.boo zeq (dlv 0) Jt)))))),?_⟩
 intro ts n R v h;unfold zej at h;split at h
 ·rename_i d;obtain⟨p,h⟩:=h;cases d with
  | dict l =>
   cases l with
   | nil =>
    wp_walk
    exact h
   | cons a b=>exact absurd rfl p
  | _ =>
   wp_walk
   exact h
 ·exact h.elim
def Qd(bits:Int):ae->Bool
 | .tuple [.int b,.int h]=>decide (0<=h/\h<=bits/\0<=b/\b<2 ^ bits.toNat/\b % 2 ^ h.toNat=0)
 | _=>false
theorem zfe{bits b h:Int}:Qd bits (.tuple [.int b,.int h])=decide (0<=h/\h<=bits/\0<=b/\b<2 ^ bits.toNat/\b % 2 ^ h.toNat=0):=rfl
theorem Wf{bits b h:Int}(y:0<=bits):Qd bits (.tuple [.int b,.int h])=true↔IsBk bits b h:=by
 unfold Qd;rw[decide_eq_true_iff];constructor
 ·rintro⟨h0,v,x,g1,g2⟩;have p:=Qw h.toNat;have e:=Int.emod_add_mul_ediv b (2 ^ h.toNat);refine⟨h0,v,b / 2 ^ h.toNat,pW x (by lia),?_,?_⟩
  ·rw[eH];lia
  ·apply Int.ediv_lt_of_lt_mul p;rw[<- hZ,show(bits - h).toNat+h.toNat=bits.toNat by lia]
   exact g1
 ·intro B;have C:=B.bounds y;obtain⟨h0,v,k,G,rfl,I⟩:=B;refine⟨h0,v,C.1,?_,oH _ _⟩;have:=Qw h.toNat;lia
def Pl2(d:ae):Prop:=Pln d/\∀ts,d=.tuple ts->∀t∈ts,Pln t
def zgu:GD:=fun ts n R=>∃(bits:Int) (d:ae),ts=[.int bits,d]/\0<=bits/\bits<=64/\Pl2 d/\R (.bool (Qd bits d)) n
theorem zlF{bits:Int}{d:ae}{n:Nat}{R:qN}(u:0<=bits)(v:bits<=64)(h:Pl2 d)(h':R (.bool (Qd bits d)) n):zgu [.int bits,d] n R:=⟨bits,d,rfl,u,v,h,h'⟩
theorem znf{bits:Int}{d:ae}(h:∀b g,d≠.tuple [.int b,.int g]):Qd bits d=false:=by
 unfold Qd;split
 ·exact absurd rfl (h _ _)
 ·rfl
theorem zuB{b c:Bool}{n:Nat}{R:qN}(e:b=c)(h:R (.bool c) n):R (.bool b) n:=e▸h
def zf6(Z:ZZ):Prop:=FQ Z "is_block" (top 2) ["bits","thing"] 2 (spD Z.K 2 zgu)
theorem zi7(D:Dq Z.K Z.mg "is_block" (top 2) ["bits","thing"]) (G:zf3 Z) (T:Txt Z.mg):zf6 Z:=by
 refine' okQ D (fnS (N:=["bits","thing","begin","height"]) (by decide +kernel)) rfl fun f J A outer s H E v=>⟨_,(Jb (Js (JT (Qf (Qc (JU (dl (Qq UU T.isi T.tup Qa (dlv 1) Jt)))) (QB (Jn (Uk v) Ud (dl (JA QP QN T.len QJ (Jm (dlv 1) Jo Jt))) dli (Jh _))))) (Jc (Jg JQ)) Jy) (Jb (QA (Jj 1) (JE rfl (Jl (dgv 2 (ndB rfl)) (Jl (dgv 3 (ndB rfl)) JD)))) (Jb (Js (JT (Qf (Qc (JU (dl (Jd G v (dbv 2 Ja))))) (QB (Qc (JU (dl (Jd G v (dbv 3 Ja)))))))) (Jc (Jg JQ)) Jy) (Jb (Js (JT (Qf (Jn (Qu v) Qt (dlv 3) dli (Jh _)) (QB (Jn Ue gp_B (dlv 3) (dlv 0) (Jh _))))) (Jc (Jg JQ)) Jy) (Jc (Jg (UM (zpy Ui Uh (Qu v) Qt dli (dlv 2) (dl (JW dli (dlv 0)))) (Uf (Qi (J7 v) J6 (dl (VA (dlv 2) (dl (JW dli (dlv 3))))) dli (Jh _)))))))))),?_⟩
 intro ts n R U h;obtain⟨bits,d,rfl,S,L,⟨p,p2⟩,h⟩:=h;have no:(∀b g,d≠.tuple [.int b,.int g])->R (.bool false) n:=fun z=>by rw[znf z]at h;exact h
 cases hf:isTup d with
 | false =>
  wp_walk using isiF p hf ?_
  exact no fun b g e=>by rw[e]at hf;cases hf
 | true =>
  obtain⟨ts,rfl⟩:=zg5 hf;have p2:=p2 ts rfl
  by_cases l2:ts.length=2
  ·obtain⟨x,y,rfl⟩:=zq5 l2;have C:=p2 x (by simp)
   have py:=p2 y (by simp)
   have I:∀t,(∃b,t=.int b)\/zrd t=false:=fun t=>by
    cases t with
    | int b=>exact .inl ⟨b,rfl⟩
    | _=>exact .inr rfl
   rcases I x with⟨b,rfl⟩|wx
   ·rcases I y with⟨g,rfl⟩|wy
    ·wp_walk using Vp (b:=true) rfl C ?_,Vp (b:=true) rfl py ?_
     all_goals first
      | exact cpow (by lia) (by lia)
      | (rw[Q3];exact Qw _)
      | skip
     all_goals
      refine zuB ?_ h
      try simp only[Q3]at *
      rw[zfe];generalize (2:Int) ^ bits.toNat=X at *;generalize b % (2:Int) ^ g.toNat=Y at *
      first
       | (symm;rw[decide_eq_false_iff_not];lia)
       | (rw[decide_eq_decide];lia)
       | (exfalso;simp at hc;done)
    ·wp_walk using Vp (b:=true) rfl C ?_,Vp wy py ?_
     all_goals first|exact no fun _ _ e=>by cases e;cases wy|(exfalso;simp at hc;done)
   ·wp_walk using Vp wx C ?_
    all_goals first|exact no fun _ _ e=>by cases e;cases wx|(exfalso;simp at hc;done)
  ·wp_walk
   all_goals first|exact no fun _ _ e=>l2 (by cases e;rfl)|(exfalso;lia)
def zil:GD:=fun ts n R=>∃i h:Int,ts=[.tuple [.int i,.int h]]/\0<=h/\h<=1000/\R (.int (2 ^ h.toNat)) n
theorem ziI{i h:Int}{n:Nat}{R:qN}(o:0<=h)(g1:h<=1000)(h':R (.int (2 ^ h.toNat)) n):zil [.tuple [.int i,.int h]] n R:=⟨_,_,rfl,o,g1,h'⟩
def ze1(Z:ZZ):Prop:=FQ Z "size_of" (top 3) ["block"] 1 (spD Z.K 1 zil)
theorem zkX(D:Dq Z.K Z.mg "size_of" (top 3) ["block"]) (T:Txt Z.mg):ze1 Z:=by
 refine' okQ D (fnS (N:=["block"]) (by decide +kernel)) rfl fun f o A outer s H E v=>⟨_,(Jc (Jg (JW dli (dl (Je (dlv 0) dli))))),?_⟩
 intro ts n R x l;obtain⟨i,h,rfl,u,g1,l⟩:=l
 wp_walk
 ·exact cpow (by lia) (by lia)
 ·rw[Q3];exact l
def zkn:GD:=fun ts n R=>∃i h g:Int,ts=[.tuple [.int i,.int h],.int g]/\0<=g/\g<=1000/\0<=i/\i<2 ^ 64/\R (.tuple [.int (i / 2 ^ g.toNat*2 ^ g.toNat),.int g]) n
theorem zpF{i h g:Int}{n:Nat}{R:qN}(o:0<=g)(g1:g<=1000)(v:0<=i)(x:i<2 ^ 64)(h':R (.tuple [.int (i / 2 ^ g.toNat*2 ^ g.toNat),.int g]) n):zkn [.tuple [.int i,.int h],.int g] n R:=⟨_,_,_,rfl,o,g1,v,x,h'⟩
def zjU(Z:ZZ):Prop:=FQ Z "around" (top 5) ["block","height"] 1 (spD Z.K 2 zkn)
theorem zmL(D:Dq Z.K Z.mg "around" (top 5) ["block","height"]) (T:Txt Z.mg):zjU Z:=by
 refine' okQ D (fnS (N:=["block","height"]) (by decide +kernel)) rfl fun f v A outer s H E x=>⟨_,(Jc (Jg (Jk (dbc (JW (dl (zuI (dl (Je (dlv 0) dli)) (dlv 1))) (dlv 1)) (dbv 1 Ja))))),?_⟩
 intro ts n R C l;obtain⟨i,h,g,rfl,o,g1,u,y,l⟩:=l;simp only[ZR,ZQ,ZS,ZP,u_dC,ZC,ZL,ZN,ZM,Z5,ZB,Vb,Vd,Z7,Z6,Vc,ZO,Z1,Ze,Y3,Y4,Y5,Zd,Y6,Y7,Zm,YH,YI,oSub,oMul,oMod,UI,oShl,oShr,oXor,oAnd,isNone,isInt,isBool,isTup,isStr,l_gI,Zz,YQ,YR,YS,Yp,Yr,Ys,Yq,YB,YA,YD,YC,Yu,Y8,Yt,Yx,Yw,YW,YX,YY,YU,YV,YZ,Y0,Yo,Yz,Yy,YT,Zl,Y9,Zk,Ur,Uq,Ux,Uz,UC,UD,UB,Yh,Qh,Jz,capV,aV,e8,aF,bo,cg,fN,dR,eW,cD,dP,eR,fk,fY,fO,fP,dZ,Nat.reduceAdd,Nat.reduceSub,iC,true_and,and_true,aN,if_true,if_false,ite_true,ite_false,eI,fo,gN]
 refine⟨o,⟨o,by lia,?_⟩,l⟩
 have:i / 2 ^ g.toNat<=i:=Int.ediv_le_self _ u;have:0<=i / 2 ^ g.toNat:=pW u (dH (Qw _));lia
def znq:GD:=fun ts n R=>∃i h j g:Int,ts=[.tuple [.int i,.int h],.tuple [.int j,.int g]]/\0<=h/\h<=1000/\0<=j/\j<2 ^ 64/\R (.bool (hldD i h j g)) n
theorem zrT{i h j g:Int}{n:Nat}{R:qN}(h0:0<=h)(x:h<=1000)(y:0<=j)(v:j<2 ^ 64)(h':R (.bool (hldD i h j g)) n):znq [.tuple [.int i,.int h],.tuple [.int j,.int g]] n R:=⟨_,_,_,_,rfl,h0,x,y,v,h'⟩
def zmi(Z:ZZ):Prop:=FQ Z "holds" (top 4) ["one","other"] 2 (spD Z.K 2 znq)
theorem zo2(D:Dq Z.K Z.mg "holds" (top 4) ["one","other"]) (y:zjU Z) (T:Txt Z.mg):zmi Z:=by
 refine' okQ D (fnS (N:=["one","other"]) (by decide +kernel)) rfl fun f C A outer s H E o=>⟨_,(Jc (Jg (UM (Qi YE gp_B (dl (Je (dlv 0) dli)) (dl (Je (dlv 1) dli)) (Jh _)) (Uf (Qi (J7 o) J6 (dl (Jd y o (dbv 1 (dbc (Je (dlv 0) dli) Ja)))) (dlv 0) (Jh _)))))),?_⟩
 intro ts n R G l;obtain⟨i,h,j,g,rfl,v,g1,u,x,l⟩:=l;unfold hldD at l
 wp_walk using zpF v g1 u x ?_
 ·exact Yh
 ·exact Yh
 ·rw[decide_eq_true hc,gY]at l;rw[zpo];simpa using l
 ·rw[decide_eq_false hc,fQ]at l;exact l
def zeB:GD:=fun ts n R=>∃i h:Int,ts=[.tuple [.int i,.int h]]/\0<=h/\h<=1000/\R (.tuple [.int (cU i (2 ^ h.toNat)),.int h]) n
theorem ziK{i h:Int}{n:Nat}{R:qN}(o:0<=h)(g1:h<=1000)(h':R (.tuple [.int (cU i (2 ^ h.toNat)),.int h]) n):zeB [.tuple [.int i,.int h]] n R:=⟨_,_,rfl,o,g1,h'⟩
def zeu(Z:ZZ):Prop:=FQ Z "other_half" (top 6) ["block"] 1 (spD Z.K 1 zeB)
theorem zgP(D:Dq Z.K Z.mg "other_half" (top 6) ["block"]) (T:Txt Z.mg):zeu Z:=by
 refine' okQ D (fnS (N:=["block","begin","height"]) (by decide +kernel)) rfl fun f u A outer s H E v=>⟨_,(Jb (QA (Jj 0) (JE rfl (Jl (dgv 1 (ndB rfl)) (Jl (dgv 2 (ndB rfl)) JD)))) (Jc (Jg (Jk (dbc (znF (dlv 1) (dl (JW dli (dlv 2)))) (dbv 2 Ja)))))),?_⟩
 intro ts n R x l;obtain⟨i,h,rfl,o,g1,l⟩:=l;simp only[ZR,ZQ,ZS,ZP,u_dC,ZC,ZL,ZN,ZM,Z5,ZB,Vb,Vd,Z7,Z6,Vc,ZO,Z1,Ze,Y3,Y4,Y5,Zd,Y6,Y7,Zm,YH,YI,oSub,oMul,oMod,UI,oShl,oShr,oXor,oAnd,isNone,isInt,isBool,isTup,isStr,l_gI,Zz,YQ,YR,YS,Yp,Yr,Ys,Yq,YB,YA,YD,YC,Yu,Y8,Yt,Yx,Yw,YW,YX,YY,YU,YV,YZ,Y0,Yo,Yz,Yy,YT,Zl,Y9,Zk,Ur,Uq,Ux,Uz,UC,UD,UB,Yh,Qh,Jz,capV,aV,e8,aF,bo,cg,fN,dR,eW,cD,dP,eR,fk,fY,fO,fP,dZ,Nat.reduceAdd,Nat.reduceSub,iC,true_and,and_true,aN,if_true,if_false,ite_true,ite_false,eI,fo,gN]
 refine⟨cpow o (by lia),?_⟩
 rw[cK];exact l
def zkm:GD:=fun ts n R=>∃i h:Int,ts=[.tuple [.int i,.int h]]/\0<=h/\h<=1000/\R (.int (i+2 ^ h.toNat)) n
theorem Vj{i h:Int}{n:Nat}{R:qN}(o:0<=h)(g1:h<=1000)(h':R (.int (i+2 ^ h.toNat)) n):zkm [.tuple [.int i,.int h]] n R:=⟨_,_,rfl,o,g1,h'⟩
def Vg(Z:ZZ):Prop:=FQ Z "end_of" (top 17) ["block"] 2 (spD Z.K 1 zkm)
theorem zmK(D:Dq Z.K Z.mg "end_of" (top 17) ["block"]) (o:ze1 Z) (T:Txt Z.mg):Vg Z:=by
 refine' okQ D (fnS (N:=["block"]) (by decide +kernel)) rfl fun f v A outer s H E u=>⟨_,(Jc (Jg (Jr (dl (Je (dlv 0) dli)) (dl (Jd o u (dbv 0 Ja)))))),?_⟩
 intro ts n R y l;obtain⟨i,h,rfl,x,g1,l⟩:=l
 wp_walk using ziI ?_ ?_ ?_
 ·lia
 ·lia
 ·exact l
def IsPt(bits:Int)(d:ae):Prop:=∃bs:List (Int×Int),d=.tuple (pD bs)/\Ptc bits bs
def Pl3(d:ae):Prop:=Pln d/\∀ts,d=.tuple ts->ts.length<=1000000/\∀t∈ts,Pl2 t
theorem zn7{bits:Int}(v:0<=bits):∀(ts:qD),ts.all (Qd bits)=true->∃bs,ts=pD bs/\Bks bits bs
 | [],_=>⟨[],rfl,fun b x=>nomatch x⟩
 | t::ts,h=>by
  rw[nR,aY]at h;obtain⟨bs,rfl,B⟩:=zn7 v ts h.2;have o:=h.1;unfold Qd at o;split at o
  ·rename_i b g;have:=(Wf v).mp (show Qd bits (.tuple [.int b,.int g])=true from o)
   refine⟨(b,g)::bs,rfl,fun c hc=>?_⟩
   rcases az.mp hc with rfl|hc
   ·exact this
   ·exact B c hc
  ·cases o
theorem zmB:∀{bs cs:qB},pD bs=pD cs->bs=cs
 | [],[],_=>rfl
 | [],_::_,h=>by cases h
 | _::_,[],h=>by cases h
 | (a,b)::bs,(c,d)::cs,h=>by
  simp only[pD,aV,eU,fX,o8,and_true]at h;obtain⟨⟨rfl,rfl⟩,h⟩:=h;rw[zmB h]
def zgs:GD:=fun ts n R=>∃(bits:Int) (d:ae),ts=[.int bits,d]/\0<=bits/\bits<=64/\Pl3 d/\∀b:Bool,(b=true↔IsPt bits d)->R (.bool b) n
theorem zlD{bits:Int}{d:ae}{n:Nat}{R:qN}(u:0<=bits)(v:bits<=64)(p:Pl3 d)(h:∀b:Bool,(b=true↔IsPt bits d)->R (.bool b) n):zgs [.int bits,d] n R:=⟨bits,d,rfl,u,v,p,h⟩
def zf4(Z:ZZ):Prop:=FQ Z "is_patch" (top 8) ["bits","thing"] 3 (spD Z.K 2 zgs)
theorem zi5(D:Dq Z.K Z.mg "is_patch" (top 8) ["bits","thing"]) (Ia:zf6 Z) (L:Vg Z) (T:Txt Z.mg):zf4 Z:=by
 refine' okQ D (fnS (N:=["bits","thing"]) (by decide +kernel)) rfl fun f am A outer s H E J=>⟨_,(Jb (Js (Qc (JU (dl (Qq UU T.isi T.tup Qa (dlv 1) Jt)))) (Jc (Jg JQ)) Jy) (Jb (Js (Qc (JU (dl (JA (Zh rfl) YL T.all Zf (Jm (dl (Jp (dnc ["block"] [0] (dil (JR (Jj 1))) (fun _ _ _ _=>(dgv 0 (ndB rfl))) (fun _ _ _ _=>(Jd Ia J (dbv 1 (dbv 0 Ja))))))) Jo Q7))))) (Jc (Jg JQ)) Jy) (Jc (Jg (JA (Zh rfl) YL T.all Zf (Jm (dl (Jp (dnc ["one","other"] [] (dil (zuG T.zip (Jj 1) (QI (dlv 1) (Qs Ji) Qy))) (fun _ _ _ _=>(JE rfl (Jl (dgv 0 (ndB rfl)) (Jl (dgv 1 (ndB rfl)) JD)))) (fun _ _ _ _=>(Qi Ui Uh (dl (Jd L J (dbv 0 Ja))) (dl (Je (dlv 1) dli)) (Jh _)))))) Jo Q7)))))),?_⟩
 intro ts n R hl h;obtain⟨bits,d,rfl,G,b1,⟨p,C⟩,h⟩:=h;cases d with
 | dict ks =>
  cases ks with
  | nil =>
   have h:=h false ⟨fun z=>(by cases z),fun⟨bs,e,_⟩=>(by cases e)⟩
   wp_walk
   exact h
  | cons a b=>exact absurd rfl p
 | tuple ts =>
  obtain⟨Y,C⟩:=C ts rfl
  wp_walk
  refine zek (fun t=>.bool (Qd bits t)) (by lia) ?_ ?_
  ·intro t ht K2 X2 v
   wp_walk using zlF G b1 (C t ht) ?_
   exact v
  ·wp_walk using YN ?_
   ·obtain⟨bs,rfl,B⟩:=zn7 G ts hc;rw[zpz,zr9];rw[JI]at Y;refine QH (cs:=bs.zip bs.tail) (D:=fun q:(Int×Int)×(Int×Int)=>.tuple [prD q.1,prD q.2]) (fun q:(Int×Int)×(Int×Int)=>.bool (decide (eB q.1<=q.2.1))) (by rw[mD];lia) ?_ ?_
    ·rintro⟨⟨i,g⟩,⟨j,k⟩⟩ y K2 X2 v;have I:=B _ (ef y).1;have S:0<=g:=I.1;have g1:g<=bits:=I.2.1
     wp_walk using Vj ?_ ?_ ?_
     ·exact S
     ·exact(show g<=1000 by lia)
     ·exact v
    ·wp_walk using YN ?_
     refine h _ ?_;rw[bM];constructor
     ·intro al;exact⟨bs,rfl,B,(zkF (bits:=bits)).mp fun q y=>by simpa using al q y⟩
     ·rintro⟨cs,e,P⟩ q y;have e':bs=cs:=zmB (by simpa using e)
      subst e';simpa using(zkF (bits:=bits)).mpr P.2 q y
   ·rename_i hc;refine h false ⟨fun z=>(by cases z),fun⟨bs,e,P⟩=>?_⟩
    cases e;have:(pD bs).all (Qd bits)=true:=by
     rw[bM];intro x hx;obtain⟨b,U,rfl⟩:=aS.mp hx;exact(Wf G).mpr (P.1 b U)
    rw[this]at hc;cases hc
 | _ =>
  have h:=h false ⟨fun z=>(by cases z),fun⟨bs,e,_⟩=>(by cases e)⟩
  wp_walk
  exact h
def zgx:GD:=fun ts n R=>∃(bs:qB),ts=[.tuple (pD bs)]/\(∀b∈bs,0<=b.2/\b.2<=64)/\bs.length<=1000000/\R (.int (bs.map fun b=>(2:Int) ^ b.2.toNat).sum) n
theorem zlH{bs:qB}{n:Nat}{R:qN}(o:∀b∈bs,0<=b.2/\b.2<=64)(v:bs.length<=1000000)(h:R (.int (bs.map fun b=>(2:Int) ^ b.2.toNat).sum) n):zgx [.tuple (pD bs)] n R:=⟨bs,rfl,o,v,h⟩
def zf8(Z:ZZ):Prop:=FQ Z "count_of" (top 9) ["patch"] 2 (spD Z.K 1 zgx)
theorem zi_(D:Dq Z.K Z.mg "count_of" (top 9) ["patch"]) (x:ze1 Z) (T:Txt Z.mg):zf8 Z:=by
 refine' okQ D (fnS (N:=["patch"]) (by decide +kernel)) rfl fun f C A outer s H E y=>⟨_,(Jc (Jg (JA (znV rfl) zuq T.sum zn4 (Jm (dl (Jp (dnc ["block"] [] (dil (JR (Jj 0))) (fun _ _ _ _=>(dgv 0 (ndB rfl))) (fun _ _ _ _=>(Jd x y (dbv 0 Ja)))))) Jo Q7)))),?_⟩
 intro ts n R G h;obtain⟨bs,rfl,u,v,h⟩:=h
 wp_walk
 refine QH (cs:=bs) (D:=prD) (fun b=>.int (2 ^ b.2.toNat)) (by lia) ?_ ?_
 ·rintro⟨i,g⟩ hq K2 X2 hK2;have l:=u _ hq;have o:0<=g:=l.1;have g1:g<=64:=l.2
  wp_walk using ziI ?_ ?_ ?_
  ·exact o
  ·exact(show g<=1000 by lia)
  ·exact hK2
 ·wp_walk using zwZ ?_
  exact h
theorem zlw{hi:Int}(h:0<hi):QT 0 hi hi.toNat.log2:=⟨by simp,by have:=zm2 h;lia,fun z=>by have:=zmY h;have:=z.2;lia⟩
theorem znl{lo hi:Int}{t:Nat}(h:lo<hi)(u:lo % 2 ^ t=0)(v:¬lo % 2 ^ (t+1)=0):QT lo hi (min (hi - lo).toNat.log2 t):=by
 have a:=zm2 (i:=hi - lo) (by lia)
 have b:=zmY (i:=hi - lo) (by lia)
 rcases ur (hi - lo).toNat.log2 t with z|z
 ·rw[mC z];exact⟨Yi z u,a,fun y=>by have:=y.2;lia⟩
 ·rw[Nat.min_eq_right z];exact⟨u,cT (UA z) a,fun y=>v y.1⟩
theorem zo_(t:Nat):((2:Int) ^ t).toNat.log2=t:=by
 have e:((2:Int) ^ t).toNat=2 ^ t:=by
  have:((2 ^ t:Nat):Int)=(2:Int) ^ t:=by rw[f6];rfl
  rw[<- this];rfl
 rw[e,Nat.log2_two_pow]
def zcf:GD:=fun ts n R=>∃lo hi:Int,ts=[.int lo,.int hi]/\0<=lo/\lo<hi/\∀g:Nat,QT lo hi g->R (.int g) n
theorem zem{lo hi:Int}{n:Nat}{R:qN}(l:0<=lo)(o:lo<hi)(h:∀g:Nat,QT lo hi g->R (.int g) n):zcf [.int lo,.int hi] n R:=⟨lo,hi,rfl,l,o,h⟩
def zb_(Z:ZZ):Prop:=FQ Z "greatest_height" (top 18) ["begin","high"] 1 (spD Z.K 2 zcf)
theorem zdM(D:Dq Z.K Z.mg "greatest_height" (top 18) ["begin","high"]) (T:Txt Z.mg):zb_ Z:=by
 refine' okQ D (fnS (N:=["begin","high","room"]) (by decide +kernel)) rfl fun f y A outer s H E x=>⟨_,(Jb (dsv 2 (ndB rfl) (Qz (dl (ziu (dl (Qz (dlv 1) (dlv 0))))) dli)) (Jb (Js (Jn (J7 x) J6 (dlv 0) dli (Jh _)) (Jc (Jg (Jj 2))) Jy) (Jc (Jg (JA (Vm rfl) ZH T.min Yk (Jm (dlv 2) (Jm (dl (Qz (dl (ziu (dl (zuO (dlv 0) (dl (U5 (Jj 0))))))) dli)) Jo VS) Jt)))))),?_⟩
 intro ts n R G h;obtain⟨lo,hi,rfl,C,u,h⟩:=h;have room:=zfg (i:=hi - lo) (by lia)
 wp_walk
 ·rw[room];subst hc;have:=h _ (zlw u);rw[Int.sub_zero];exact this
 ·obtain⟨t,t1,t2⟩:=zvF (b:=lo) (by lia)
  have an:=zr0 (b:=lo) (by lia) t1 t2
  have v:=zfg (i:=(2:Int) ^ t) (Qw t);rw[zo_]at v;rw[an,room,v];have:=h _ (znl u t1 t2);have e:(if (t:Int)<((hi - lo).toNat.log2:Int) then(t:Int) else((hi - lo).toNat.log2:Int))=((min (hi - lo).toNat.log2 t:Nat):Int):=by
   split <;> lia
  rw[e];exact this
def ZG:GD:=fun ts n R=>∃lo hi:Int,ts=[.int lo,.int hi]/\0<=lo/\lo<=hi/\hi<=2 ^ 64/\∀bs,Jv lo hi bs->R (.tuple (pD bs)) n
theorem zuR{lo hi:Int}{n:Nat}{R:qN}(o:0<=lo)(v:lo<=hi)(l2:hi<=2 ^ 64)(h:∀bs,Jv lo hi bs->R (.tuple (pD bs)) n):ZG [.int lo,.int hi] n R:=⟨lo,hi,rfl,o,v,l2,h⟩
def zpT(Z:ZZ):Prop:=FQ Z "span" (top 11) ["low","high"] 3 (spD Z.K 2 ZG)
theorem zqU(D:Dq Z.K Z.mg "span" (top 11) ["low","high"]) (Y:Vg Z) (Hy:zb_ Z) (T:Txt Z.mg):zpT Z:=by
 refine' okQ D (fnS (N:=["low","high","blocks","begin","block"]) (by decide +kernel)) rfl fun f am A outer s H E C=>⟨_,(Jb (QM (i:=2) (ndB rfl) rfl (df rfl) (JH Ja)) (Jb (dsv 3 (ndB rfl) (Jj 0)) (Jb (zg8 bw (Jn (Qu C) Qt (dlv 3) (dlv 1) (Jh _)) (Jb (dsv 4 (ndB rfl) (Jk (dbv 3 (dbc (Jd Hy C (dbv 3 (dbv 1 Ja))) Ja)))) (Jb (Qm 2 (Jj 4)) (Jc (dsv 3 (ndB rfl) (Jd Y C (dbv 4 Ja))))))) (QS 2 (Jc (Jg (Qp Ub Q1 T.tup Qa (Jm (dlv 2) Jo Jt)))))))),?_⟩
 intro ts n R hl h;obtain⟨lo,hi,rfl,l0,U,l2,h⟩:=h;obtain⟨all,A⟩:=zl1 _ lo hi (aE _) U;have al:=A.len l0 l2
 wp_walk
 refine zlR (fun m J I=>I=n/\∃(bs rest:qB) (y:Int) (L:Option Cell),J=[some (.val (.int lo)),some (.val (.int hi)),some (.own (pD bs)),some (.val (.int y)),L]/\all=bs++rest/\Jv y hi rest/\lo<=y/\m=rest.length) (m:=all.length) ⟨rfl,[],all,lo,_,rfl,rfl,A,bh _,rfl⟩ ?_
 rintro m J I NX RT BK ⟨rfl,bs,rest,y,L,rfl,x,S,lb,rfl⟩ hN hR hB
 wp_walk
 ·cases rest with
  | nil=>have:y=hi:=S;lia
  | cons b r =>
   obtain⟨s1,s2,s3,s4,s5⟩:=S;refine zem (by lia) hc fun g G=>?_
   have eg:b.2.toNat=g:=s4.uniq G;have eb:b=(y,(g:Int)):=gW s2 (by show b.2=(g:Int);lia)
   have gl:g<=64:=by
    rcases cz 64 g with z|z
    ·have:=UA (show 65<=g by lia)
     have:=G.2.1;have e:(2:Int) ^ 65=2*2 ^ 64:=by decide
     lia
    ·exact z
   wp_walk using Vj (by lia) (by lia) ?_
   ·rw[JI];have:=congrArg eJ x;rw[aJ]at this;lia
   ·refine hN r.length _ _ (by simp) ⟨rfl,bs++[b],r,y+2 ^ (g:Int).toNat,some (.val (.tuple [.int y,.int (g:Int)])),by rw[eb,<- Y1],by rw[x];simp,?_,?_,rfl⟩
    ·rw[eg]at s5;simpa using s5
    ·have:=Qw (g:Int).toNat;lia
 ·have e:y=hi:=by have:=S.le;lia
  cases rest with
  | cons b r=>have:=S.1;lia
  | nil =>
   refine hB _ _ ?_
   wp_walk
   rw[cD]at x;rw[<- x];exact h _ A
def zgr:GD:=fun ts n R=>∃rs:List (Int×Int),ts=[.list (pD rs)]/\(∀r∈rs,0<=r.1/\r.1<=r.2/\r.2<=2 ^ 64)/\rs.length<=100000/\∀ps,PatS rs ps->R (.tuple (pD ps)) n
theorem Wd{rs:qB}{n:Nat}{R:qN}(w:∀r∈rs,0<=r.1/\r.1<=r.2/\r.2<=2 ^ 64)(l:rs.length<=100000)(h:∀ps,PatS rs ps->R (.tuple (pD ps)) n):zgr [.list (pD rs)] n R:=⟨rs,rfl,w,l,h⟩
theorem zmz:∀{rs:qB},(∀r∈rs,r.1<=r.2)->∃ps,PatS rs ps
 | [],_=>⟨[],rfl⟩
 | r::rs,h=>by
  obtain⟨a,A⟩:=zl1 _ r.1 r.2 (aE _) (h r (by simp))
  obtain⟨b,B⟩:=zmz (rs:=rs) fun s l=>h s (by simp[l])
  exact⟨a++b,a,b,rfl,A,B⟩
theorem zkD{g:DTG}{d:DTE}{o:En}{n:Nat}{Rl:List ae->Nat->Prop}:∀(xs acc:qD),(∀x∈xs,∀K:ae->Nat->Prop,K x n->g x o fun l=>d l n K)->acc.length+xs.length<=16777216->Rl (acc++xs) n->JS g dYes d o xs acc n Rl
 | [],acc,_,_,h=>by simpa[JS] using h
 | x::xs,acc,hg,hl,h=>by
  have e:(fun l=>dYes l n fun b u=>if b=true then d l u fun t v=>acc.length<16777216/\JS g dYes d o xs (acc++[t]) v Rl else JS g dYes d o xs acc u Rl)=fun l=>d l n fun t v=>acc.length<16777216/\JS g dYes d o xs (acc++[t]) v Rl:=by
   funext l
   exact propext ⟨fun z=>by simpa[dYes] using z,fun z=>by simpa[dYes] using z⟩
  show g x o fun l=>dYes l n fun b u=>if b=true then d l u fun t v=>acc.length<16777216/\JS g dYes d o xs (acc++[t]) v Rl else JS g dYes d o xs acc u Rl
  rw[e];refine hg x (by simp) _ ⟨by simp at hl;lia,zkD xs (acc++[x]) (fun y C=>hg y (by simp[C])) (by simp at hl ⊢;lia) (by simpa using h)⟩
def Wv(Z:ZZ):Prop:=FQ Z "patch_of" (top 19) ["runs"] 4 (spD Z.K 1 zgr)
theorem zi3(D:Dq Z.K Z.mg "patch_of" (top 19) ["runs"]) (L:zpT Z) (T:Txt Z.mg):Wv Z:=by
 refine' okQ D (fnS (N:=["runs"]) (by decide +kernel)) rfl fun f am A outer s H E I=>⟨_,(Jc (Jg (Qp Ub Q1 T.tup Qa (Jm (dl (Jp (zku (own:=["low","high","block"]) (capt:=[]) rfl (JB.of rfl) (dil (VB (Jj 0))) (fun _ _ _ _=>(JE rfl (Jl (dgv 0 (ndB rfl)) (Jl (dgv 1 (ndB rfl)) JD)))) (by decide) (fun _ _ _ _=>Uw) (fun _ _ _ _=>(JR (Jd L I (dbv 0 (dbv 1 Ja))))) (fun _ _ _ _=>(dgv 2 (ndB rfl))) (by decide) (fun _ _ _ _=>Uw) (fun _ _ _ _=>(Jj 2))))) Jo Q7)))),?_⟩
 intro ts n R hl h;obtain⟨rs,rfl,w,l,h⟩:=h
 wp_walk
 have key:∀(rs:qB) (acc ps:qB),(∀r∈rs,0<=r.1/\r.1<=r.2/\r.2<=2 ^ 64)->acc.length+130*rs.length<=16777216->PatS rs ps->∀K:List ae->Nat->Prop,K (pD (acc++ps)) n ->
   Q4 (U4 (Uo (Qv 0) (Uo (Qv 1) U3))) dYes (dItT (dFn ZG (Qo (dVar 0) (Qo (dVar 1) dNil)))) (Qv 2) dYes (dVar 2) [none,none,none] (pD rs) (pD acc) n K:=by
  intro rs;induction rs with
  | nil =>
   intro acc ps _ _ P K C;cases(show ps=[] from P)
   rw[cD]at C;exact C
  | cons r rs U =>
   intro acc ps w la P K C;obtain⟨a,b,rfl,J,S⟩:=P;have v:=w r (by simp)
   have ll:=J.len v.1 v.2.2;show U4 (Uo (Qv 0) (Uo (Qv 1) U3)) (.tuple [.int r.1,.int r.2]) [none,none,none] fun o=>dYes o n fun b n2=>if b=true then dItT (dFn ZG (Qo (dVar 0) (Qo (dVar 1) dNil))) o n2 fun ts n3=>JS (Qv 2) dYes (dVar 2) o ts (pD acc) n3 fun y n4=>Q4 (U4 (Uo (Qv 0) (Uo (Qv 1) U3))) dYes (dItT (dFn ZG (Qo (dVar 0) (Qo (dVar 1) dNil)))) (Qv 2) dYes (dVar 2) [none,none,none] (pD rs) y n4 K else _
   rw[aF]at la
   wp_walk using zuR v.1 v.2.1 v.2.2 (fun bs B=>?_)
   rw[B.uniq J];refine zkD _ _ (fun x hx K2 G=>?_) (by rw[JI,JI];lia) ?_
   ·wp_walk
    exact G
   ·rw[VV];exact U (acc++a) b (fun s Y=>w s (by simp[Y])) (by rw[aJ];lia) S K (by rw[bL];exact C)
 obtain⟨ps,P⟩:=zmz (rs:=rs) fun r I=>(w r I).2.1
 refine key rs [] ps w (by simp;lia) P _ ?_
 wp_walk
 exact h ps P
theorem zq_{bits:Int}{bs:qB}{t:ae}{Rl:List ae->Prop}(U:t=.list (pD bs)\/t=.tuple (pD bs))(v:bits<=64)(B:Bks bits bs)(J:bs.length<100000)
  (h:∀cs:List (Int×Int),cs.Perm bs->cs.Pairwise (fun a b=>a.1<=b.1)->Rl (pD cs)):Zy t Rl:=by
 have key:(pD bs).length<100000/\(∀x∈pD bs,IsPr x)/\∀o:List ae,o.Perm (pD bs)->o.Pairwise (fun a b=>rkD a<=rkD b)->Rl o:=by
  refine⟨by rw[JI];exact J,fun x hx=>?_,fun o pm pw=>?_⟩
  ·obtain⟨b,C,rfl⟩:=aS.mp hx;have:=B b C;exact⟨b.1,b.2,rfl,this.1,by have:=this.2.1;lia⟩
  ·have G:o.Perm ((bs.map fun b=>(b,prD b)).map (·.2)):=by
    have:(bs.map fun b=>(b,prD b)).map (·.2)=pD bs:=by simp[pD]
    rw[this];exact pm
   obtain⟨zs,R,p2⟩:=Wa G;have S:∀z∈zs,z.2=prD z.1:=fun z I=>by
    obtain⟨b,_,rfl⟩:=aS.mp (R.mem_iff.mp I)
    rfl
   have e:o=pD (zs.map (·.1)):=by
    rw[<- p2];unfold pD;rw[bT];exact gR fun z I=>S z I
   have pc:(zs.map (·.1)).Perm bs:=by
    have:=R.map (·.1);rw[bT]at this;have Y:bs.map ((fun x:(Int×Int)×ae=>x.1)∘fun b=>(b,prD b))=bs:=by
     show bs.map id=bs
     exact vK _
    rwa [Y]at this
   rw[e];have y:Bks bits (zs.map (·.1)):=fun b v=>B b (pc.mem_iff.mp v)
   rw[e]at pw;unfold pD at pw;rw[eP]at pw;refine h _ pc (gZ ?_ pw);intro a b N v L;have L:a.1*1000+a.2<=b.1*1000+b.2:=L;have a0:=(y a N).1;have a1:=(y a N).2.1;have b0:=(y b v).1;have b1:=(y b v).2.1;lia
 rcases U with rfl|rfl <;> exact key
def zim:GD:=fun ts n R=>∃(bits:Int) (bs:qB) (t:ae),ts=[t]/\(t=.list (pD bs)\/t=.tuple (pD bs))/\0<=bits/\bits<=64/\Bks bits bs/\bs.length<100000/\∀rs,NR rs->(∀x,mR x rs↔mB x bs)->rs.length<=bs.length->R (.list (pD rs)) n
theorem Vo{bits:Int}{bs:qB}{t:ae}{n:Nat}{R:qN}(o:t=.list (pD bs)\/t=.tuple (pD bs))(v:0<=bits)(y:bits<=64)(B:Bks bits bs)(l:bs.length<100000)(h:∀rs,NR rs->(∀x,mR x rs↔mB x bs)->rs.length<=bs.length->R (.list (pD rs)) n):zim [t] n R:=⟨bits,bs,t,rfl,o,v,y,B,l,h⟩
def Wi(Z:ZZ):Prop:=FQ Z "runs_of" (top 20) ["blocks"] 3 (spD Z.K 1 zim)
theorem zkY(D:Dq Z.K Z.mg "runs_of" (top 20) ["blocks"]) (Hq:Vg Z) (T:Txt Z.mg):Wi Z:=by
 refine' okQ D (fnS (N:=["blocks","runs","block","low","high"]) (by decide +kernel)) rfl fun f am A outer s H E G=>⟨_,(Jb (QM (i:=1) (ndB rfl) rfl (df rfl) (JH Ja)) (Jb (Qg bw rfl (Yb (Jp (zis G T.srt (dlv 0) Jt))) (dgv 2 (ndB rfl)) (Jc (Js (JT (QX (JU (U6 1)) (Q6 (Jn Ui Uh (dl (Je (dlv 2) dli)) (dl (Je (dl (Je (U6 1) (dl (U5 Ji)))) dli)) (Jh _))))) (Jb (QA (Je (U6 1) (dl (U5 Ji))) (JE rfl (Jl (dgv 3 (ndB rfl)) (Jl (dgv 4 (ndB rfl)) JD)))) (Jc (zuF 1 (U5 Ji) (Jk (dbv 3 (dbc (JA (Zi rfl) YM T.max Zg (Jm (dlv 4) (Jm (dl (Jd Hq G (dbv 2 Ja))) Jo Uy) Jt)) Ja)))))) (Jc (Qm 1 (Jk (dbc (Je (dlv 2) dli) (dbc (Jd Hq G (dbv 2 Ja)) Ja)))))))) (QS 1 (Jc (Jg (Jj 1)))))),?_⟩
 intro ts n R hl h;obtain⟨bits,bs,t,rfl,ht,b0,b1,B,l,h⟩:=h
 wp_walk
 refine zq_ ht b1 B l fun cs pm pw=>?_
 have Bc:Bks bits cs:=fun b C=>B b (pm.mem_iff.mp C)
 have lc:=pm.length_eq;refine zqd 1 2 3 4 (fun k a1 _ _ _ m=>m=n/\∃rs:List (Int×Int),a1=some (.own (pD rs))/\NR rs/\(∀x,mR x rs↔mB x (cs.take k))/\rs.length<=k/\∀r∈rs,∀b∈cs.drop k,r.1<=b.1) ⟨rfl,[],rfl,⟨(fun r G=>nomatch G),.nil⟩,(fun x=>⟨fun z=>absurd z QO,fun z=>absurd z VL⟩),aE _,fun r G=>nomatch G⟩ ?_ ?_
 ·rintro k t' a1 a2 a3 a4 m K RT BK et ⟨rfl,rs,rfl,nr,me,lr,lo⟩ hK hRT hBK;obtain⟨i,g,Y,rfl⟩:=ZW et;have kl:=(av.mp Y).1;have Bb:=Bc _ (aH Y);have g0:0<=g:=Bb.1;have g1:g<=bits:=Bb.2.1;have pg:=Qw g.toNat;have tk:cs.take (k+1)=cs.take k++[(i,g)]:=by rw[dF,Y];rfl
  have S:cs.drop k=(i,g)::cs.drop (k+1):=by
   rw[bf kl];congr 1;have:=ak kl;rw[Y]at this;exact(ba this).symm
  have after:∀b∈cs.drop (k+1),i<=b.1:=fun b C=>by
   have:cs.Pairwise fun a b=>a.1<=b.1:=pw
   have:=(this.sublist (kZ k cs));rw[S]at this;exact(cM.mp this).1 b C
  have m1:∀x,mB x (cs.take (k+1))↔mB x (cs.take k)\/(i<=x/\x<i+2 ^ g.toNat):=fun x=>by
   rw[tk,zmW,zmV];constructor
   ·rintro(z|z|z)
    ·exact .inl z
    ·exact .inr z
    ·exact absurd z VL
   ·rintro(z|z)
    ·exact .inl z
    ·exact .inr (.inl z)
  have new:(∀r∈rs,r.2<i)->∀c2 c3 c4,K [some (.val t),some (.own (pD rs++[.tuple [.int i,.int (i+2 ^ g.toNat)]])),c2,c3,c4] m:=fun hlt c2 c3 c4 =>
   hK _ _ _ _ _ ⟨rfl,rs++[(i,i+2 ^ g.toNat)],by rw[<- Y1],⟨fun r G=>by
    rcases ax.mp G with z|z
    ·exact nr.1 r z
    ·cases aA.mp z;show i<i+2 ^ g.toNat;lia,by
    rw[cq];exact⟨nr.2,dU _ _,fun a ha b C=>by cases aA.mp C;exact hlt a ha⟩⟩,(fun x=>by
    rw[Uu,me,m1,Yd];constructor
    ·rintro(z|z|z)
     ·exact .inl z
     ·exact .inr z
     ·exact absurd z QO
    ·rintro(z|z)
     ·exact .inl z
     ·exact .inr (.inl z)),by simp;lia,fun r G b C=>by
    rcases ax.mp G with z|z
    ·exact lo r z b (by rw[S];simp[C])
    ·cases aA.mp z;exact after b C⟩
  rcases mP rs with rfl|⟨I,r,rfl⟩
  ·wp_walk using Vj g0 (by lia) ?_
   ·show 0<16777216;decide
   ·exact new (fun r G=>nomatch G) _ _ _
   ·exact absurd hc (by simp[pD])
  ·rw[mQ]at *;have sn:pD (I++[r])=pD I++[.tuple [.int r.1,.int r.2]]:=by simp[pD]
   have lr':I.length+1<=k:=by simpa using lr
   have r12:=nr.1 r (by simp)
   have rlo:r.1<=i:=lo r (by simp) (i,g) (by rw[S];simp)
   have J:=cq.mp nr.2;rw[sn]at new ⊢
   wp_walk using zkd ?_,Vj g0 (by lia) ?_
   all_goals first
    | (exfalso;simp at hc;done)
    | (exfalso;rename_i y;simp at y;done)
    | (simp[JI];lia)
    | skip
   ·refine zsI zke ?_
    wp_walk
    rw[List.set_append_right _ _ (aE _),iC];have mx:(if i+2 ^ g.toNat > r.2 then i+2 ^ g.toNat else r.2)=max r.2 (i+2 ^ g.toNat):=by split <;> lia
    refine hK _ _ _ _ _ ⟨rfl,I++[(r.1,max r.2 (i+2 ^ g.toNat))],?_,⟨fun s U=>?_,?_⟩,fun x=>?_,by simp;lia,fun s U b C=>?_⟩
    ·rw[mx];simp[pD]
    ·rcases ax.mp U with z|z
     ·exact nr.1 s (by simp[z])
     ·cases aA.mp z;show r.1<max r.2 _;lia
    ·rw[cq];exact⟨J.1,dU _ _,fun a ha b C=>by cases aA.mp C;exact J.2.2 a ha r (by simp)⟩
    ·have L:=me x;rw[Uu,Yd]at L;rw[Uu,Yd,m1,<- L];have nn:=QO (x:=x);show _\/(r.1<=x/\x<max r.2 (i+2 ^ g.toNat))\/_↔_
     constructor
     ·rintro(z|z|z)
      ·exact .inl (.inl z)
      ·by_cases w:x<r.2
       ·exact .inl (.inr (.inl ⟨z.1,w⟩))
       ·exact .inr (by lia)
      ·exact absurd z nn
     ·rintro((z|z|z)|z)
      ·exact .inl z
      ·exact .inr (.inl (by lia))
      ·exact absurd z nn
      ·exact .inr (.inl (by lia))
    ·rcases ax.mp U with z|z
     ·exact lo s (by simp[z]) b (by rw[S];simp[C])
     ·cases aA.mp z;exact lo r (by simp) b (by rw[S];simp[C])
   ·refine new (fun s U=>?_) _ _ _
    rcases ax.mp U with z|z
    ·have:=J.2.2 s z r (by simp);have:=nr.1 r (by simp);lia
    ·cases aA.mp z;lia
 ·rintro a1 a2 a3 a4 m ⟨rfl,rs,rfl,nr,me,lr,lo⟩;rw[JI]at me lr;rw[fe]at me
  wp_walk
  exact h rs nr (fun x=>by rw[me x,zq2 pm]) (by lia)
def zkl:GD:=fun ts n R=>∃(bits:Int) (bs:qB) (t:ae),ts=[t]/\(t=.list (pD bs)\/t=.tuple (pD bs))/\0<=bits/\bits<=64/\Bks bits bs/\bs.length<100000/\∀ps,CanP (fun x=>mB x bs) ps->ps.length<=bs.length->R (.tuple (pD ps)) n
theorem zpE{bits:Int}{bs:qB}{t:ae}{n:Nat}{R:qN}(o:t=.list (pD bs)\/t=.tuple (pD bs))(v:0<=bits)(y:bits<=64)(B:Bks bits bs)(l:bs.length<100000)(h:∀ps,CanP (fun x=>mB x bs) ps->ps.length<=bs.length->R (.tuple (pD ps)) n):zkl [t] n R:=⟨bits,bs,t,rfl,o,v,y,B,l,h⟩
def zjT(Z:ZZ):Prop:=FQ Z "fewest" (top 10) ["blocks"] 5 (spD Z.K 1 zkl)
theorem zmJ(D:Dq Z.K Z.mg "fewest" (top 10) ["blocks"]) (y:Wv Z) (G:Wi Z) (T:Txt Z.mg):zjT Z:=by
 refine' okQ D (fnS (N:=["blocks"]) (by decide +kernel)) rfl fun f J A outer s H E v=>⟨_,(Jc (Jg (Jd y v (dbc (Jd G v (dbv 0 Ja)) Ja)))),?_⟩
 intro ts n R S h;obtain⟨bits,bs,t,rfl,I,o,u,B,l,h⟩:=h
 wp_walk using Vo I o u B l (fun rs nr me L=>?_)
 have w:=UH o u nr me fun x hx=>QL o B hx
 wp_walk using Wd w ?_ (fun ps P=>?_)
 ·lia
 ·have C:CanP (fun x=>mB x bs) ps:=⟨rs,nr,me,P⟩
  exact h ps C (C.le o B)
def zcO:GD:=fun ts n R=>∃(rs:qB) (top:Int),ts=[.list (pD rs),.int top]/\NR rs/\(∀r∈rs,0<=r.1)/\0<=top/\rs.length<=100000/\∀(o:qB) (B:Int),NR o->(∀x,mR x o↔0<=x/\x<B/\¬mR x rs)->o.length<=rs.length+1->top<=B->(B=top\/∃r∈rs,B=r.2)->R (.list (pD o)) n
theorem zcw{rs:qB}{top:Int}{n:Nat}{R:qN}(nr:NR rs)(w:∀r∈rs,0<=r.1)(t0:0<=top)(l:rs.length<=100000)(h:∀(o:qB) (B:Int),NR o->(∀x,mR x o↔0<=x/\x<B/\¬mR x rs)->o.length<=rs.length+1->top<=B->(B=top\/∃r∈rs,B=r.2)->R (.list (pD o)) n):zcO [.list (pD rs),.int top] n R:=⟨rs,top,rfl,nr,w,t0,l,h⟩
theorem ziL{rs:qB}{top:Int}{n:Nat}{R:qN}(nr:NR rs)(w:∀r∈rs,0<=r.1/\r.2<=top)(t0:0<=top)(l:rs.length<=100000)(h:∀o,NR o->(∀x,mR x o↔0<=x/\x<top/\¬mR x rs)->o.length<=rs.length+1->R (.list (pD o)) n):zcO [.list (pD rs),.int top] n R:=zcw nr (fun r u=>(w r u).1) t0 l fun o B v me C G y=>by
 have:B=top:=by
  rcases y with e|⟨r,u,e⟩
  ·exact e
  ·have:=(w r u).2;lia
 subst this;exact h o v me C
def zcI(Z:ZZ):Prop:=FQ Z "gaps_below" (top 21) ["runs","top"] 1 (spD Z.K 2 zcO)
theorem zgQ(D:Dq Z.K Z.mg "gaps_below" (top 21) ["runs","top"]) (T:Txt Z.mg):zcI Z:=by
 refine' okQ D (fnS (N:=["runs","top","gaps","begin","low","high"]) (by decide +kernel)) rfl fun f am A outer s H E C=>⟨_,(Jb (QM (i:=2) (ndB rfl) rfl (df rfl) (JH Ja)) (Jb (dsv 3 (ndB rfl) Ji) (Jb (Qg bw rfl (VB (Jj 0)) (JE rfl (Jl (dgv 4 (ndB rfl)) (Jl (dgv 5 (ndB rfl)) JD))) (Jb (Js (Jn (Qu C) Qt (dlv 3) (dlv 4) (Jh _)) (Jc (Qm 2 (Jk (dbv 3 (dbv 4 Ja))))) Jy) (Jc (dsv 3 (ndB rfl) (Jj 5))))) (Jb (Js (Jn (Qu C) Qt (dlv 3) (dlv 1) (Jh _)) (Jc (Qm 2 (Jk (dbv 3 (dbv 1 Ja))))) Jy) (QS 2 (Jc (Jg (Jj 2)))))))),?_⟩
 intro ts n R hl h;obtain⟨rs,top,rfl,nr,w,t0,l,h⟩:=h
 wp_walk
 refine zqd 2 3 4 5 (fun k a2 a3 _ _ m=>m=n/\∃(J:qB) (G:Int),a2=some (.own (pD J))/\a3=some (.val (.int G))/\NR J/\(∀x,mR x J↔0<=x/\x<G/\¬mR x (rs.take k))/\J.length<=k/\0<=G/\(G=0\/∃r∈rs,G=r.2)/\(∀r∈rs.take k,r.2<=G)/\(∀g∈J,g.2<G)/\(∀r∈rs.drop k,(k=0/\G=0/\G<=r.1)\/G<r.1)) ⟨rfl,[],0,rfl,rfl,⟨(fun r C=>nomatch C),.nil⟩,(fun x=>⟨fun z=>absurd z QO,fun z=>by lia⟩),aE _,bh _,.inl rfl,(fun r C=>nomatch C),(fun r C=>nomatch C),fun r C=>.inl ⟨rfl,rfl,w r C⟩⟩ ?_ ?_
 ·rintro k t' a2 a3 a4 a5 m K RT BK et ⟨rfl,J,G,rfl,rfl,S,me,lg,be0,U,ti,gl,dr⟩ hK hRT hBK;obtain⟨lo,hi,Y,rfl⟩:=ZW et;have kl:=(av.mp Y).1;have mr:=aH Y;have L:=nr.1 _ mr;have L:lo<hi:=L;have wr:=w _ mr;have wr1:0<=lo:=wr;have tk:rs.take (k+1)=rs.take k++[(lo,hi)]:=by rw[dF,Y];rfl
  have dk:rs.drop k=(lo,hi)::rs.drop (k+1):=by
   rw[bf kl];congr 1;have:=ak kl;rw[Y]at this;exact(ba this).symm
  have after:∀r∈rs.drop (k+1),hi<r.1:=fun r C=>by
   have:=(nr.2.sublist (kZ k rs));rw[dk]at this;exact(cM.mp this).1 r C
  have here:=dr (lo,hi) (by rw[dk];simp)
  have here:G<=lo:=by rcases here with z|z;exact z.2.2;exact dH z
  have mt:∀x,mR x (rs.take (k+1))↔mR x (rs.take k)\/(lo<=x/\x<hi):=fun x=>by
   rw[tk,Uu,Yd];constructor
   ·rintro(z|z|z)
    ·exact .inl z
    ·exact .inr z
    ·exact absurd z QO
   ·rintro(z|z)
    ·exact .inl z
    ·exact .inr (.inl z)
  have old:∀x,G<=x->¬mR x (rs.take k):=fun x hx ⟨r,C,h1,h2⟩=>by have:=ti r C;lia
  have go:∀(I:qB) (c4 c5:Option Cell),NR I->(∀x,mR x I↔mR x J\/(G<=x/\x<lo))->I.length<=k+1->(∀g∈I,g.2<hi)->K [some (.val (.list (pD rs))),some (.val (.int top)),some (.own (pD I)),some (.val (.int hi)),c4,c5] m:=fun I c4 c5 n' m' l' g' =>
   hK _ _ _ _ _ ⟨rfl,I,hi,rfl,rfl,n',(fun x=>by
    rw[m',me,mt];have ox:=old x;constructor
    ·rintro(⟨a,b,c⟩|⟨a,b⟩)
     ·exact⟨a,by lia,fun z=>z.elim c fun z=>by lia⟩
     ·exact⟨by lia,by lia,fun z=>z.elim (ox a) fun z=>by lia⟩
    ·rintro⟨a,b,c⟩
     by_cases y:x<G
     ·exact .inl ⟨a,y,fun z=>c (.inl z)⟩
     ·refine .inr ⟨by lia,?_⟩
      by_cases u:x<lo
      ·exact u
      ·exact absurd (.inr ⟨by lia,b⟩) c),l',by lia,.inr ⟨_,mr,rfl⟩,(fun r C=>by
    rw[tk]at C;rcases ax.mp C with z|z
    ·have:=ti r z;lia
    ·cases aA.mp z;exact bh _),g',fun r C=>.inr (after r C)⟩
  wp_walk
  ·rw[JI];lia
  ·rw[Y1];refine go (J++[(G,lo)]) _ _ ⟨fun r C=>?_,?_⟩ (fun x=>?_) (by simp;lia) fun g hg=>?_
   ·rcases ax.mp C with z|z
    ·exact S.1 r z
    ·cases aA.mp z;exact hc
   ·rw[cq];exact⟨S.2,dU _ _,fun a ha b hb=>by cases aA.mp hb;exact gl a ha⟩
   ·rw[Uu,Yd];constructor
    ·rintro(z|z|z)
     ·exact .inl z
     ·exact .inr z
     ·exact absurd z QO
    ·rintro(z|z)
     ·exact .inl z
     ·exact .inr (.inl z)
   ·rcases ax.mp hg with z|z
    ·have:=gl g z;lia
    ·cases aA.mp z;exact L
  ·refine go J _ _ S (fun x=>⟨.inl,fun z=>z.elim id fun z=>by lia⟩) (by lia) fun g hg=>?_
   have:=gl g hg;lia
 ·rintro a2 a3 a4 a5 m ⟨rfl,J,G,rfl,rfl,S,me,lg,be0,U,ti,gl,dr⟩;rw[JI]at me lg ti;rw[fe]at me ti;have old:∀x,G<=x->¬mR x rs:=fun x hx ⟨r,C,h1,h2⟩=>by have:=ti r C;lia
  wp_walk
  ·rw[JI];lia
  ·rw[Y1];refine h (J++[(G,top)]) top ⟨fun r C=>?_,?_⟩ (fun x=>?_) (by simp;lia) (bh _) (.inl rfl)
   ·rcases ax.mp C with z|z
    ·exact S.1 r z
    ·cases aA.mp z;exact hc
   ·rw[cq];exact⟨S.2,dU _ _,fun a ha b hb=>by cases aA.mp hb;exact gl a ha⟩
   ·rw[Uu,Yd,me];have ox:=old x;constructor
    ·rintro(⟨a,b,c⟩|z|z)
     ·exact⟨a,by lia,c⟩
     ·exact⟨by have:=z.1;lia,z.2,ox z.1⟩
     ·exact absurd z QO
    ·rintro⟨a,b,c⟩
     by_cases y:x<G
     ·exact .inl ⟨a,y,c⟩
     ·exact .inr (.inl ⟨by show G<=x;lia,b⟩)
  ·refine h J G S me (by lia) (by lia) ?_
   rcases U with z|z
   ·exact .inl (by lia)
   ·exact .inr z
def zin:GD:=fun ts n R=>∃(bits:Int) (ps:qB),ts=[.int bits,.tuple (pD ps)]/\1<=bits/\bits<=64/\Bks bits ps/\ps.length<100000/\∀o,CanP (fun x=>0<=x/\x<2 ^ bits.toNat/\¬mB x ps) o->o.length<=130*(ps.length+1)->R (.tuple (pD o)) n
theorem zn1{bits:Int}{ps:qB}{n:Nat}{R:qN}(v:1<=bits)(y:bits<=64)(B:Bks bits ps)(l:ps.length<100000)(h:∀o,CanP (fun x=>0<=x/\x<2 ^ bits.toNat/\¬mB x ps) o->o.length<=130*(ps.length+1)->R (.tuple (pD o)) n):zin [.int bits,.tuple (pD ps)] n R:=⟨bits,ps,rfl,v,y,B,l,h⟩
def zhB(Z:ZZ):Prop:=FQ Z "rest_of" (top 12) ["bits","patch"] 5 (spD Z.K 2 zin)
theorem zkZ(D:Dq Z.K Z.mg "rest_of" (top 12) ["bits","patch"]) (I:Wv Z) (J:zcI Z) (S:Wi Z) (T:Txt Z.mg):zhB Z:=by
 refine' okQ D (fnS (N:=["bits","patch"]) (by decide +kernel)) rfl fun f Y A outer s H E o=>⟨_,(Jc (Jg (Jd I o (dbc (Jd J o (dbc (Jd S o (dbv 1 Ja)) (dbc (JW dli (dlv 0)) Ja))) Ja)))),?_⟩
 intro ts n R hl h;obtain⟨bits,ps,rfl,b0,v,B,l,h⟩:=h
 wp_walk using Vo (.inr rfl) (by lia) v B l (fun rs nr me lr=>?_)
 ·exact cpow (by lia) (by lia)
 have w:=UH (by lia) v nr me fun x hx=>QL (by lia) B hx
 have L:∀r∈rs,0<=r.1/\r.2<=1*2 ^ bits.toNat:=fun r o=>by
  have lt:=nr.1 r o;have:=QL (by lia) B ((me (r.2 - 1)).mp ⟨r,o,by lia,by lia⟩)
  have:=(w r o).1;rw[Q3];lia
 have tp:=Qw bits.toNat
 wp_walk using ziL nr L (by lia) (by lia) (fun C G mg lg=>?_)
 have u:∀x,mR x C↔0<=x/\x<2 ^ bits.toNat/\¬mB x ps:=fun x=>by rw[mg,Q3,me]
 have y:=UH (by lia) v G u fun x hx=>⟨hx.1,hx.2.1⟩
 wp_walk using Wd y ?_ (fun U P=>?_)
 ·lia
 ·have:=P.len fun r o=>⟨(y r o).1,(y r o).2.2⟩
  exact h U ⟨C,G,u,P⟩ (by lia)
theorem zp2{xs:qD}{i:Int}{k:Nat}{x:ae}{R:ae->Prop}(hi:i=(k:Int))(e:xs[k]?=some x)(h:R x):oIx (.list xs) (.int i) R:=by
 subst hi;have o:=(av.mp e).1;rw[Yv (x:=x)]
 ·exact h
 ·unfold atI ixN;have u:xs[k]=x:=by rw[ak o]at e;exact ba e
  simp[o,u]
def zdV:GD:=fun ts n R=>∃o bs:List (Int×Int),ts=[.list (pD o),.list (pD bs)]/\NR o/\NR bs/\o.length<=1000000/\bs.length<=1000000/\∀cs,NR cs->(∀x,mR x cs↔mR x o/\mR x bs)->cs.length<=o.length+bs.length->R (.list (pD cs)) n
theorem zd1{o bs:qB}{n:Nat}{R:qN}(na:NR o)(nb:NR bs)(u:o.length<=1000000)(v:bs.length<=1000000)(h:∀cs,NR cs->(∀x,mR x cs↔mR x o/\mR x bs)->cs.length<=o.length+bs.length->R (.list (pD cs)) n):zdV [.list (pD o),.list (pD bs)] n R:=⟨o,bs,rfl,na,nb,u,v,h⟩
def zdD(Z:ZZ):Prop:=FQ Z "shared_runs" (top 22) ["ones","others"] 1 (spD Z.K 2 zdV)
theorem zfG(D:Dq Z.K Z.mg "shared_runs" (top 22) ["ones","others"]) (T:Txt Z.mg):zdD Z:=by
 refine' okQ D (fnS (N:=["ones","others","shared","at","by","low","high"]) (by decide +kernel)) rfl fun f am A outer s H E C=>⟨_,(Jb (QM (i:=2) (ndB rfl) rfl (df rfl) (JH Ja)) (Jb (dsv 3 (ndB rfl) Ji) (Jb (dsv 4 (ndB rfl) Ji) (Jb (zg8 bw (JT (QX (Jn (Qu C) Qt (dlv 3) (dl (JA QP QN T.len QJ (Jm (dlv 0) Jo Jt))) (Jh _)) (Q6 (Jn (Qu C) Qt (dlv 4) (dl (JA QP QN T.len QJ (Jm (dlv 1) Jo Jt))) (Jh _))))) (Jb (dsv 5 (ndB rfl) (JA (Zi rfl) YM T.max Zg (Jm (dl (Je (dl (Je (dlv 0) (dlv 3))) dli)) (Jm (dl (Je (dl (Je (dlv 1) (dlv 4))) dli)) Jo QZ) QZ))) (Jb (dsv 6 (ndB rfl) (JA (Vm rfl) ZH T.min Yk (Jm (dl (Je (dl (Je (dlv 0) (dlv 3))) dli)) (Jm (dl (Je (dl (Je (dlv 1) (dlv 4))) dli)) Jo QZ) QZ))) (Jb (Js (Jn (Qu C) Qt (dlv 5) (dlv 6) (Jh _)) (Jc (Qm 2 (Jk (dbv 5 (dbv 6 Ja))))) Jy) (Jc (Js (Jn (Qu C) Qt (dl (Je (dl (Je (dlv 0) (dlv 3))) dli)) (dl (Je (dl (Je (dlv 1) (dlv 4))) dli)) (Jh _)) (Jc (zqg (i:=3) (ndB rfl) rfl (df rfl) Ji zp4)) (Jc (zqg (i:=4) (ndB rfl) rfl (df rfl) Ji zp4)))))))) (QS 2 (Jc (Jg (Jj 2)))))))),?_⟩
 intro ts n R hl h;obtain⟨u,bs,rfl,na,nb,la,lb,h⟩:=h
 wp_walk
 refine zlR (fun m ρ G=>G=n/\∃(a b:Nat) (cs:qB) (c5 U:Option Cell),ρ=[some (.val (.list (pD u))),some (.val (.list (pD bs))),some (.own (pD cs)),some (.val (.int a)),some (.val (.int b)),c5,U]/\m=(u.length - a)+(bs.length - b)/\a<=u.length/\b<=bs.length/\ShI u bs cs a b) ⟨rfl,0,0,[],_,_,rfl,rfl,by lia,by lia,.zero⟩ ?_
 rintro m ρ G NX RT BK ⟨rfl,a,b,cs,c5,U,rfl,rfl,ha,hb,I⟩ hN hR hB;have fin:(u.length<=a\/bs.length<=b)->BK [some (.val (.list (pD u))),some (.val (.list (pD bs))),some (.own (pD cs)),some (.val (.int a)),some (.val (.int b)),c5,U] G:=fun e=>hB _ _ (by
  wp_walk
  exact h cs I.nr (I.fin e) (by have:=I.ln;lia))
 have lc:=I.ln
 wp_walk
 ·rename_i hx;rw[JI]at hx hc;have Y:a<u.length:=by lia
  have J:b<bs.length:=by lia
  obtain⟨p,L⟩:∃p,u[a]?=some p:=⟨_,ak Y⟩;obtain⟨q,eq⟩:∃q,bs[b]?=some q:=⟨_,ak J⟩;have x:=I.stepA nb na L eq;have sB:=I.stepB nb na L eq
  wp_walk using zp2 (k:=a) rfl (Zw L) ?_,zp2 (k:=b) rfl (Zw eq) ?_
  ·rw[JI];lia
  all_goals
   have S:(if q.1 > p.1 then q.1 else p.1)=max p.1 q.1:=by split <;> lia
   have e2:(if q.2<p.2 then q.2 else p.2)=min p.2 q.2:=by split <;> lia
   rename_i hd;rw[S,e2]at hd
  ·have y:shr2 p q=[(max p.1 q.1,min p.2 q.2)]:=by unfold shr2;rw[if_pos hd]
   have x:=x hc;rw[y]at x;exact hN ((u.length - (a+1))+(bs.length - b)) _ _ (by lia) ⟨rfl,a+1,b,cs++[(max p.1 q.1,min p.2 q.2)],_,_,by rw[S,e2,<- VV];rfl,rfl,by lia,by lia,x⟩
  ·have y:shr2 p q=[(max p.1 q.1,min p.2 q.2)]:=by unfold shr2;rw[if_pos hd]
   have sB:=sB hc;rw[y]at sB;exact hN ((u.length - a)+(bs.length - (b+1))) _ _ (by lia) ⟨rfl,a,b+1,cs++[(max p.1 q.1,min p.2 q.2)],_,_,by rw[S,e2,<- VV];rfl,rfl,by lia,by lia,sB⟩
  ·have y:shr2 p q=[]:=by unfold shr2;rw[if_neg hd]
   have x:=x hc;rw[y,cD]at x;exact hN ((u.length - (a+1))+(bs.length - b)) _ _ (by lia) ⟨rfl,a+1,b,cs,_,_,rfl,rfl,by lia,by lia,x⟩
  ·have y:shr2 p q=[]:=by unfold shr2;rw[if_neg hd]
   have sB:=sB hc;rw[y,cD]at sB;exact hN ((u.length - a)+(bs.length - (b+1))) _ _ (by lia) ⟨rfl,a,b+1,cs,_,_,rfl,rfl,by lia,by lia,sB⟩
 ·rw[JI]at hc;exact fin (.inr (by lia))
 ·rw[JI]at hc;exact fin (.inl (by lia))
def zij:GD:=fun ts n R=>∃(bits:Int) (ps o:qB),ts=[.tuple (pD ps),.tuple (pD o)]/\0<=bits/\bits<=64/\Bks bits ps/\Bks bits o/\ps.length<100000/\o.length<100000/\ps.length+o.length<=90000/\∀cs,CanP (fun x=>mB x ps/\¬mB x o) cs->cs.length<=130*(ps.length+o.length+1)->R (.tuple (pD cs)) n
theorem zn0{bits:Int}{ps o:qB}{n:Nat}{R:qN}(y:0<=bits)(G:bits<=64)(A:Bks bits ps)(B:Bks bits o)(C:ps.length<100000)(l2:o.length<100000)(v:ps.length+o.length<=90000)(h:∀cs,CanP (fun x=>mB x ps/\¬mB x o) cs->cs.length<=130*(ps.length+o.length+1)->R (.tuple (pD cs)) n):zij [.tuple (pD ps),.tuple (pD o)] n R:=⟨bits,ps,o,rfl,y,G,A,B,C,l2,v,h⟩
def zhA(Z:ZZ):Prop:=FQ Z "without" (top 13) ["one","other"] 5 (spD Z.K 2 zij)
theorem zkW(D:Dq Z.K Z.mg "without" (top 13) ["one","other"]) (Hu:Wi Z) (Hs:Wv Z) (HI:zdD Z) (Hv:zcI Z) (T:Txt Z.mg):zhA Z:=by
 refine' okQ D (fnS (N:=["one","other","runs","top"]) (by decide +kernel)) rfl fun f am A outer s H E o=>⟨_,(Jb (dsv 2 (ndB rfl) (Jd Hu o (dbv 0 Ja))) (Jb (dsv 3 (ndB rfl) (V3 (JU (dlv 2)) (Je (dl (Je (dlv 2) (dl (U5 Ji)))) dli) Ji)) (Jc (Jg (Jd Hs o (dbc (Jd HI o (dbv 2 (dbc (Jd Hv o (dbc (Jd Hu o (dbv 1 Ja)) (dbv 3 Ja))) Ja))) Ja)))))),?_⟩
 intro ts n R hl h;obtain⟨bits,ps,qs,rfl,v,J,A,B,l1,l2,l3,h⟩:=h
 wp_walk
 refine Vo (.inr rfl) v J A l1 (fun rs nr me lr=>?_)
 have wr:=UH v J nr me fun x hx=>QL v A hx
 rcases mP rs with rfl|⟨L,r,rfl⟩
 ·have t0:(0:Int)<=0:=bh _;have tt:∀r∈([]:qB),r.2<=0:=fun r o=>nomatch o
  wp_walk
  ·refine Vo (.inr rfl) v J B l2 (fun ss ns U ls=>?_)
   have ws:=UH v J ns U fun x hx=>QL v B hx
   wp_walk using zcw ns (fun r o=>(ws r o).1) t0 (by lia) (fun gs Bd ng mg lg tb _=>?_)
   refine zd1 nr ng (by lia) (by lia) (fun cs Y mc lc=>?_)
   have G:∀x,mR x cs↔mB x ps/\¬mB x qs:=fun x=>by
    rw[mc,mg,U];constructor
    ·rintro⟨I,S,z3,z4⟩;exact⟨(me x).mp I,z4⟩
    ·rintro⟨I,S⟩;have C:=(me x).mpr I;refine⟨C,(QL v A I).1,?_,S⟩;obtain⟨r,o,_,y⟩:=C;have:=tt r o;lia
   have w:=UH v J Y G fun x hx=>QL v A hx.1
   wp_walk using Wd w (by lia) (fun es P=>?_)
   have:=P.len fun r o=>⟨(w r o).1,(w r o).2.2⟩
   exact h es ⟨cs,Y,G,P⟩ (by lia)
  ·exact absurd hc (by simp[pD])
 ·rw[mQ]at *;have sn:pD (L++[r])=pD L++[.tuple [.int r.1,.int r.2]]:=by simp[pD]
  have wl:=wr r (by simp)
  have t0:0<=r.2:=by lia
  have tt:∀s∈L++[r],s.2<=r.2:=fun s hs=>by
   rcases ax.mp hs with z|z
   ·have:=(cq.mp nr.2).2.2 s z r (by simp);lia
   ·cases aA.mp z;exact bh _
  rw[sn]
  wp_walk using zkd ?_
  ·exact absurd hc (by simp)
  ·refine Vo (.inr rfl) v J B l2 (fun ss ns U ls=>?_)
   have ws:=UH v J ns U fun x hx=>QL v B hx
   wp_walk using zcw ns (fun r o=>(ws r o).1) t0 (by lia) (fun gs Bd ng mg lg tb _=>?_)
   rw[<- sn];refine zd1 nr ng (by lia) (by lia) (fun cs Y mc lc=>?_)
   have G:∀x,mR x cs↔mB x ps/\¬mB x qs:=fun x=>by
    rw[mc,mg,U];constructor
    ·rintro⟨I,S,z3,z4⟩;exact⟨(me x).mp I,z4⟩
    ·rintro⟨I,S⟩;have C:=(me x).mpr I;refine⟨C,(QL v A I).1,?_,S⟩;obtain⟨r,o,_,y⟩:=C;have:=tt r o;lia
   have w:=UH v J Y G fun x hx=>QL v A hx.1
   wp_walk using Wd w (by lia) (fun es P=>?_)
   have:=P.len fun r o=>⟨(w r o).1,(w r o).2.2⟩
   exact h es ⟨cs,Y,G,P⟩ (by lia)
def zgw:GD:=fun ts n R=>∃(bits:Int) (bs:qB) (a:Int),ts=[.tuple (pD bs),.int a]/\bits<=64/\Ptc bits bs/\bs.length<1000000/\∀k:Nat,k<=bs.length->(∀(j:Nat) (b:Int×Int),j<k->bs[j]?=some b->eB b<=a)->(∀(j:Nat) (b:Int×Int),k<=j->bs[j]?=some b->a<eB b)->R (.int (k:Int)) n
theorem zlG{bits a:Int}{bs:qB}{n:Nat}{R:qN}(o:bits<=64)(P:Ptc bits bs)(v:bs.length<1000000)(h:∀k:Nat,k<=bs.length->(∀(j:Nat) (b:Int×Int),j<k->bs[j]?=some b->eB b<=a)->(∀(j:Nat) (b:Int×Int),k<=j->bs[j]?=some b->a<eB b)->R (.int (k:Int)) n):zgw [.tuple (pD bs),.int a] n R:=⟨bits,bs,a,rfl,o,P,v,h⟩
def zf7(Z:ZZ):Prop:=FQ Z "ended_by" (top 16) ["patch","address"] 3 (spD Z.K 2 zgw)
theorem zi9(D:Dq Z.K Z.mg "ended_by" (top 16) ["patch","address"]) (Hq:Vg Z) (T:Txt Z.mg):zf7 Z:=by
 refine' okQ D (fnS (N:=["patch","address","low","high","middle"]) (by decide +kernel)) rfl fun f am A outer s H E hr=>⟨_,(Jb (dsv 2 (ndB rfl) Ji) (Jb (dsv 3 (ndB rfl) (JA QP QN T.len QJ (Jm (dlv 0) Jo Jt))) (Jb (zg8 bw (Jn (Qu hr) Qt (dlv 2) (dlv 3) (Jh _)) (Jb (dsv 4 (ndB rfl) (znG (dl (Jr (dlv 2) (dlv 3))) dli)) (Jc (Js (Jn Ui Uh (dl (Jd Hq hr (dbc (Je (dlv 0) (dlv 4)) Ja))) (dlv 1) (Jh _)) (Jc (dsv 2 (ndB rfl) (Jr (dlv 4) dli))) (Jc (dsv 3 (ndB rfl) (Jj 4))))))) (Jc (Jg (Jj 2)))))),?_⟩
 intro ts n R hl I;obtain⟨bits,bs,a,rfl,b1,P,hl6,I⟩:=I;have srt:=P.ends
 wp_walk
 rw[JI];refine zhf (m:=bs.length) (fun m ρ L=>L=n/\∃lo hi:Nat,∃c,ρ=[some (.val (.tuple (pD bs))),some (.val (.int a)),some (.val (.int (lo:Int))),some (.val (.int (hi:Int))),c]/\lo<=hi/\hi<=bs.length/\m=hi - lo/\(∀(j:Nat) (b:Int×Int),j<lo->bs[j]?=some b->eB b<=a)/\(∀(j:Nat) (b:Int×Int),hi<=j->bs[j]?=some b->a<eB b)) ?_ ?_
 ·refine⟨rfl,0,bs.length,none,rfl,cJ _,aE _,rfl,fun j b C=>absurd C (Nat.not_lt_zero _),fun j b C e=>?_⟩
  rw[cP C]at e;cases e
 ·rintro m ρ L ⟨rfl,lo,hi,c,rfl,h1,S,rfl,Y,h4⟩
  wp_walk
  ·exact zuQ
  ·have hm:(lo+hi) / 2<bs.length:=by lia
   obtain⟨b,G⟩:∃b,bs[(lo+hi) / 2]?=some b:=⟨_,ak hm⟩;have U:=P.1 b (aH G);refine zra (k:=(lo+hi) / 2) (by lia) (Zw G) ?_
   have sx:∀(i j:Nat) (x y:Int×Int),bs[i]?=some x->bs[j]?=some y->i<=j->eB x<=eB y:=fun i j x y ei J hij=>by
    by_cases z:i=j
    ·subst z;rw[ei]at J;cases J;exact bh _
    ·obtain⟨l1,rfl⟩:=av.mp ei;obtain⟨l2,rfl⟩:=av.mp J;exact aT.mp srt i j l1 l2 (by lia)
   wp_walk using Vj ?_ ?_ ?_
   ·exact U.1
   ·have:=U.2.1;lia
   ·have hc:eB b<=a:=hc;refine⟨_,?_,rfl,(lo+hi) / 2+1,hi,some (.val (.int (((lo+hi) / 2:Nat):Int))),?_,by lia,S,rfl,fun j x C e=>?_,h4⟩
    ·lia
    ·have o:((lo:Int)+hi) / 2=(((lo+hi) / 2:Nat):Int):=by lia
     first|(rw[o];done)|(rw[o];rfl)
    ·exact cT (sx _ _ _ _ e G (by lia)) hc
   ·have hc:¬eB b<=a:=hc;refine⟨_,?_,rfl,lo,(lo+hi) / 2,some (.val (.int (((lo+hi) / 2:Nat):Int))),?_,by lia,by lia,rfl,Y,fun j x C e=>?_⟩
    ·lia
    ·have o:((lo:Int)+hi) / 2=(((lo+hi) / 2:Nat):Int):=by lia
     first|(rw[o];done)|(rw[o];rfl)
    ·have:=sx _ _ _ _ G e (by lia);lia
  ·have e:lo=hi:=by lia
   subst e;exact I lo S Y h4
def zeC:GD:=fun ts n R=>∃(bits:Int) (bs:qB) (a:Int),ts=[.tuple (pD bs),.int a]/\bits<=64/\Ptc bits bs/\bs.length<1000000/\(∀b∈bs,b.1<=a->a<eB b->R (.tuple [.int b.1,.int b.2]) n)/\((∀b∈bs,¬(b.1<=a/\a<eB b))->R .none n)
theorem ziM{bits a:Int}{bs:qB}{n:Nat}{R:qN}(v:bits<=64)(P:Ptc bits bs)(x:bs.length<1000000)(h:∀b∈bs,b.1<=a->a<eB b->R (.tuple [.int b.1,.int b.2]) n)(h':(∀b∈bs,¬(b.1<=a/\a<eB b))->R .none n):zeC [.tuple (pD bs),.int a] n R:=⟨bits,bs,a,rfl,v,P,x,h,h'⟩
def zew(Z:ZZ):Prop:=FQ Z "block_with" (top 14) ["patch","address"] 4 (spD Z.K 2 zeC)
theorem zgR(D:Dq Z.K Z.mg "block_with" (top 14) ["patch","address"]) (U:zf7 Z) (T:Txt Z.mg):zew Z:=by
 refine' okQ D (fnS (N:=["patch","address","at"]) (by decide +kernel)) rfl fun f am A outer s H E L=>⟨_,(Jb (dsv 2 (ndB rfl) (Jd U L (dbv 0 (dbv 1 Ja)))) (Jb (Js (JT (QX (Jn (Qu L) Qt (dlv 2) (dl (JA QP QN T.len QJ (Jm (dlv 0) Jo Jt))) (Jh _)) (Q6 (Jn Ui Uh (dl (Je (dl (Je (dlv 0) (dlv 2))) dli)) (dlv 1) (Jh _))))) (Jc (Jg (Je (dlv 0) (dlv 2)))) Jy) (Jc (Jg QW)))),?_⟩
 intro ts n R hl C;obtain⟨bits,bs,a,rfl,b1,P,G,C,I⟩:=C
 wp_walk using zlG b1 P G (fun k k0 J k2=>?_)
 ·rw[JI]at hc;have hm:k<bs.length:=by lia
  obtain⟨b,l⟩:∃b,bs[k]?=some b:=⟨_,ak hm⟩;refine zra (k:=k) rfl (Zw l) ?_
  wp_walk
  ·refine zra (k:=k) rfl (Zw l) ?_;exact C b (aH l) (by assumption) (k2 k b (aE _) l)
  ·have hx:¬b.1<=a:=hc;refine I fun x o ⟨x0,Y⟩=>?_
   obtain⟨j,v,rfl⟩:=bg o;have u:=ak v
   by_cases z:j<k
   ·have:=J j _ z u;lia
   ·by_cases y:j=k
    ·subst y;rw[u]at l;cases l;exact hx x0
    ·obtain⟨S,rfl⟩:=av.mp l;have:=aT.mp P.2 k j S v (by lia)
     have:=Ug bs[k];exact hx (by lia)
 ·rw[JI]at hc;refine I fun x o ⟨x0,Y⟩=>?_
  obtain⟨j,v,rfl⟩:=bg o;have:=J j _ (by lia) (ak v)
  lia
theorem ztf{bits:Int}{bs:qB}(P:Ptc bits bs){p q:Int×Int}{x:Int}(o:p∈bs)(u:q∈bs)(y:p.1<=x)(p2:x<eB p)(v:q.1<=x)(C:x<eB q):p=q:=by
 obtain⟨i,hi,rfl⟩:=bg o;obtain⟨j,l,rfl⟩:=bg u;rcases ee i j with z|z|z
 ·have:=aT.mp P.2 i j hi l z;lia
 ·subst z;rfl
 ·have:=aT.mp P.2 j i l hi z;lia
def zdW:GD:=fun ts n R=>∃(bits:Int) (bs:qB) (b:Int×Int),ts=[.tuple (pD bs),.tuple [.int b.1,.int b.2]]/\0<=bits/\bits<=64/\Ptc bits bs/\bs.length<1000000/\IsBk bits b.1 b.2/\(∀p∈bs,p.1<=b.1->eB b<=eB p->R (.tuple [.int p.1,.int p.2]) n)/\((∀p∈bs,¬(p.1<=b.1/\eB b<=eB p))->R .none n)
theorem zd3{bits:Int}{bs:qB}{b:Int×Int}{n:Nat}{R:qN}(v:0<=bits)(x:bits<=64)(P:Ptc bits bs)(y:bs.length<1000000)(B:IsBk bits b.1 b.2)(h:∀p∈bs,p.1<=b.1->eB b<=eB p->R (.tuple [.int p.1,.int p.2]) n)(h':(∀p∈bs,¬(p.1<=b.1/\eB b<=eB p))->R .none n):zdW [.tuple (pD bs),.tuple [.int b.1,.int b.2]] n R:=⟨bits,bs,b,rfl,v,x,P,y,B,h,h'⟩
def zdG(Z:ZZ):Prop:=FQ Z "block_about" (top 15) ["patch","block"] 5 (spD Z.K 2 zdW)
theorem zfH(D:Dq Z.K Z.mg "block_about" (top 15) ["patch","block"]) (C:zew Z) (Y:zmi Z) (T:Txt Z.mg):zdG Z:=by
 refine' okQ D (fnS (N:=["patch","block","found"]) (by decide +kernel)) rfl fun f am A outer s H E x=>⟨_,(Jb (dsv 2 (ndB rfl) (Jd C x (dbv 0 (dbc (Je (dlv 1) dli) Ja)))) (Jb (Js (JT (QX (Jn zmF znm (dlv 2) (dl QW) (Jh _)) (Q6 (JU (dl (Jd Y x (dbv 2 (dbv 1 Ja)))))))) (Jc (Jg (Jj 2))) Jy) (Jc (Jg QW)))),?_⟩
 intro ts n R hl G;obtain⟨bits,bs,b,rfl,S,J,P,u,B,h,h'⟩:=G;have bd:=B.bounds S;have pe:=Ug b;have y:(2:Int) ^ bits.toNat<=2 ^ 64:=Bd.zgL (by lia)
 have pb:=Bd.Qw b.2.toNat;have U:b.1<2 ^ 64:=by lia
 have v:∀p∈bs,p.2<=1000:=fun p l=>by have:=(P.1 p l).2.1;lia
 have o:∀p∈bs,0<=p.2:=fun p l=>(P.1 p l).1
 wp_walk using ziM J P u (fun p l i1 i2=>?_) (fun no=>?_),zrT (o _ l) (v _ l) bd.1 U ?_
 ·exact absurd hc (by simp[isNone])
 ·rw[zp8 (P.1 p l) B]at hc;have hd:=of_decide_eq_true hc;exact h p l hd.1 hd.2
 ·rw[zp8 (P.1 p l) B]at hc;have hd:=of_decide_eq_false hc;refine h' fun q L z=>?_
  have I:q=p:=ztf P L l z.1 (by lia) i1 i2
  subst I;exact hd z
 ·exact h' fun p l z=>no p l ⟨z.1,by lia⟩
 ·exact absurd hc (by simp[isNone])
def Vq:GD:=fun ts n R=>∃xs:List (ae×ae),ts=[.tuple (ppD xs)]/\xs.length<=1000000/\R (.tuple (xs.map (·.1))) n
theorem Wx{xs:List (ae×ae)}{n:Nat}{R:qN}(l:xs.length<=1000000)(h:R (.tuple (xs.map (·.1))) n):Vq [.tuple (ppD xs)] n R:=⟨xs,rfl,l,h⟩
def Vr(Z:ZZ):Prop:=FQ Z "all_blocks" (top 26) ["pairs"] 1 (spD Z.K 1 Vq)
theorem zgS(D:Dq Z.K Z.mg "all_blocks" (top 26) ["pairs"]) (T:Txt Z.mg):Vr Z:=by
 refine' okQ D (fnS (N:=["pairs"]) (by decide +kernel)) rfl fun f v A outer s H E C=>⟨_,(Jc (Jg (Qp Ub Q1 T.tup Qa (Jm (dl (Jp (dnc ["block","name"] [] (dil (JR (Jj 0))) (fun _ _ _ _=>(JE rfl (Jl (dgv 0 (ndB rfl)) (Jl (dgv 1 (ndB rfl)) JD)))) (fun _ _ _ _=>(Jj 0))))) Jo Q7)))),?_⟩
 intro ts n R I h;obtain⟨xs,rfl,l,h⟩:=h
 wp_walk
 refine QH (cs:=xs) (D:=fun p=>.tuple [p.1,p.2]) (fun p=>p.1) (by lia) ?_ ?_
 ·intro p G x y o
  wp_walk
  exact o
 ·wp_walk
  exact h
def zdp:GD:=fun ts n R=>∃(d:Deal) (nm:ae),ts=[dlD d,nm]/\QC nm/\(∀p∈d.2.2,IsNm p.2)/\d.2.2.length<=1000000/\R (.tuple (pD (JF d nm))) n
theorem Wo{d:Deal}{nm:ae}{n:Nat}{R:qN}(hw:QC nm)(o:∀p∈d.2.2,IsNm p.2)(l:d.2.2.length<=1000000)(h:R (.tuple (pD (JF d nm))) n):zdp [dlD d,nm] n R:=⟨d,nm,rfl,hw,o,l,h⟩
def Wq(Z:ZZ):Prop:=FQ Z "kept_from" (top 27) ["deal","name"] 1 (spD Z.K 2 zdp)
theorem zhK(D:Dq Z.K Z.mg "kept_from" (top 27) ["deal","name"]) (T:Txt Z.mg):Wq Z:=by
 refine' okQ D (fnS (N:=["deal","name"]) (by decide +kernel)) rfl fun f J A outer s H E G=>⟨_,(Jc (Jg (Qp Ub Q1 T.tup Qa (Jm (dl (Jp (dnf ["block","theirs"] [1] (dil (JR (Je (dlv 0) dli))) (fun _ _ _ _=>(JE rfl (Jl (dgv 0 (ndB rfl)) (Jl (dgv 1 (ndB rfl)) JD)))) (fun _ _ _ _=>(UN (Jn (Uk G) Ud (dlv 1) (dlv 2) (Jh _)))) (fun _ _ _ _=>(Jj 0))))) Jo Q7)))),?_⟩
 intro ts n R U h;obtain⟨d,nm,rfl,hw,y,l,h⟩:=h;obtain⟨bits,os,v⟩:=d;have l:v.length<=1000000:=l;have y:∀p∈v,IsNm p.2:=y;rw[show dlD (bits,os,v)=.tuple [.int bits,.tuple (oD os),.tuple (oD v)] from rfl]
 wp_walk
 refine Yj (cs:=v) (D:=fun p=>.tuple [prD p.1,.str p.2]) (fun p=>!who p.2 nm) (fun p=>prD p.1) (by lia) ?_ ?_
 ·intro p I L S x C;rcases hw with rfl|⟨s,rfl,ns⟩
  ·wp_walk
   ·exact(ztn (y p I)).okd
   ·exact x rfl
  ·wp_walk
   ·exact C (by show(!decide (p.2=s))=false;rw[decide_eq_true hc];rfl)
   ·exact x (by show(!decide (p.2=s))=true;rw[decide_eq_false hc];rfl)
 ·wp_walk
  have:((v.filter fun p=>!who p.2 nm).map fun p=>prD p.1)=pD (JF (bits,os,v) nm):=by
   unfold pD JF;rw[bT];rfl
  rw[this];exact h
def Free(d:Deal)(nm:ae)(x:Int):Prop:=0<=x/\x<2 ^ d.1.toNat/\¬mB x (d.2.1.map (·.1))/\¬mB x (JF d nm)
theorem Wt{d:Deal}{nm:ae}:∀b∈JF d nm,b∈d.2.2.map (·.1):=fun b l=>by
 obtain⟨p,o,rfl⟩:=aS.mp l;exact aS.mpr ⟨p,(cC.mp o).1,rfl⟩
theorem Vk{d:Deal}{nm:ae}:(JF d nm).length<=d.2.2.length:=by
 unfold JF;rw[aM];exact iF _ _
def zgv:GD:=fun ts n R=>∃(d:Deal) (nm:ae),ts=[dlD d,nm]/\Dl d/\QC nm/\d.2.1.length+d.2.2.length<100000/\∀o,CanP (Free d nm) o->o.length<=130*(d.2.1.length+d.2.2.length+1)->R (.tuple (pD o)) n
theorem zen{d:Deal}{nm:ae}{n:Nat}{R:qN}(D:Dl d)(hw:QC nm)(l:d.2.1.length+d.2.2.length<100000)(h:∀o,CanP (Free d nm) o->o.length<=130*(d.2.1.length+d.2.2.length+1)->R (.tuple (pD o)) n):zgv [dlD d,nm] n R:=⟨d,nm,rfl,D,hw,l,h⟩
def zea(Z:ZZ):Prop:=FQ Z "free_for" (top 24) ["deal","name"] 6 (spD Z.K 2 zgv)
theorem zi8(D:Dq Z.K Z.mg "free_for" (top 24) ["deal","name"]) (Ii:zhB Z) (Iw:zjT Z) (Hm:Vr Z) (Ho:Wq Z) (T:Txt Z.mg):zea Z:=by
 refine' okQ D (fnS (N:=["deal","name","bits","outs","kept"]) (by decide +kernel)) rfl fun f am A outer s H E G=>⟨_,(Jb (QA (Jj 0) (JE rfl (Jl (dgv 2 (ndB rfl)) (Jl (dgv 3 (ndB rfl)) (Jl (dgv 4 (ndB rfl)) JD))))) (Jc (Jg (Jd Ii G (dbv 2 (dbc (Jd Iw G (dbc (Jr (dl (Jd Hm G (dbv 3 Ja))) (dl (Jd Ho G (dbv 0 (dbv 1 Ja))))) Ja)) Ja)))))),?_⟩
 intro ts n R hl h;obtain⟨d,nm,rfl,D,hw,l,h⟩:=h;obtain⟨bits,os,o⟩:=d;obtain⟨I,y,J,v,ag⟩:=D;have I:1<=bits:=I;have y:bits<=64:=y;have J:Shr bits os:=J;have v:Shr bits o:=v;have l:os.length+o.length<100000:=l;have L:=Vk (d:=(bits,os,o)) (nm:=nm);have L:(JF (bits,os,o) nm).length<=o.length:=L;have eo:(os.map fun p=>(prD p.1,cF p.2)).map (·.1)=pD (os.map (·.1)):=by simp[pD]
 have B:Bks bits (os.map (·.1)++JF (bits,os,o) nm):=fun b hb=>by
  rcases ax.mp hb with z|z
  ·exact J.1.1 b z
  ·exact v.1.1 b (Wt b z)
 rw[show dlD (bits,os,o)=.tuple [.int bits,.tuple (oD os),.tuple (oD o)] from rfl]
 have kf:∀{n:Nat} {R:qN},R (.tuple (pD (JF (bits,os,o) nm))) n->zdp [.tuple [.int bits,.tuple (oD os),.tuple (oD o)],nm] n R:=fun {n R} z=>Wo (d:=(bits,os,o)) hw (fun p hp=>v.2 p hp) (by show o.length<=_;lia) z
 have ab:∀{n:Nat} {R:qN},R (.tuple (pD (os.map (·.1)))) n->Vq [.tuple (oD os)] n R:=fun {n R} z=>by
  rw[YJ];exact Wx (by simp;lia) (by rw[eo];exact z)
 wp_walk using kf ?_,ab ?_
 ·rw[JI,JI,aM];lia
 rw[VV]
 wp_walk using zpE (.inr rfl) (by lia) y B ?_ (fun ps C U=>?_)
 ·simp;lia
 have U:ps.length<=os.length+o.length:=by rw[aJ,aM]at U;lia
 have Bp:=(C.ptc (bits:=bits) (by lia) fun x hx=>QL (by lia) B hx).1
 wp_walk using zn1 I y Bp (by lia) (fun S Q lq=>?_)
 refine h S ?_ (by show S.length<=130*(os.length+o.length+1);lia)
 obtain⟨rs,r1,r2,Y⟩:=Q;refine⟨rs,r1,fun x=>?_,Y⟩
 rw[r2];show(0<=x/\x<2 ^ bits.toNat/\¬mB x ps)↔Free (bits,os,o) nm x
 rw[C.mem,zmW];show _↔0<=x/\x<2 ^ bits.toNat/\¬mB x (os.map (·.1))/\¬mB x (JF (bits,os,o) nm)
 constructor
 ·rintro⟨a,b,c⟩;exact⟨a,b,fun z=>c (.inl z),fun z=>c (.inr z)⟩
 ·rintro⟨a,b,c,e⟩;exact⟨a,b,fun z=>z.elim c e⟩
def UY:ae->Bool
 | .tuple [_,_]=>true
 | _=>false
def zio:GD:=fun ts n R=>∃d,ts=[d]/\Pln d/\R (.bool (UY d)) n
theorem zn2{d:ae}{n:Nat}{R:qN}(p:Pln d)(h:R (.bool (UY d)) n):zio [d] n R:=⟨d,rfl,p,h⟩
def zhC(Z:ZZ):Prop:=FQ Z "is_pair" (top 25) ["thing"] 1 (spD Z.K 1 zio)
theorem zk0(D:Dq Z.K Z.mg "is_pair" (top 25) ["thing"]) (T:Txt Z.mg):zhC Z:=by
 refine' okQ D (fnS (N:=["thing"]) (by decide +kernel)) rfl fun f x A outer s H E v=>⟨_,(Jc (Jg (UM (Qq UU T.isi T.tup Qa (dlv 0) Jt) (Uf (Qi (J7 v) J6 (dl (JA QP QN T.len QJ (Jm (dlv 0) Jo Jt))) dli (Jh _)))))),?_⟩
 intro ts n R y h;obtain⟨d,rfl,p,h⟩:=h;cases d with
 | tuple ts =>
  have e:UY (.tuple ts)=decide ((ts.length:Int)=2):=by
   match ts with
   | []=>rfl
   | [_]=>rfl
   | [_,_]=>rfl
   | _::_::_::r =>
    symm
    show decide _=false
    rw[decide_eq_false_iff_not];simp only[aF];lia
  rw[e]at h
  wp_walk
  exact h
 | dict o =>
  cases o with
  | nil =>
   wp_walk
   exact h
  | cons a b=>exact absurd rfl p
 | _ =>
  wp_walk
  exact h
def zfj:GD:=fun ts n R=>∃(v:qB) (h:Int),ts=[.tuple (pD v),.int h]/\v.length<=1000000/\((∀q∈v,q.2<h)->R .none n)/\∀q∈v,h<=q.2->(∀p∈v,h<=p.2->q.2<p.2\/(q.2=p.2/\q.1<=p.1))->R (.tuple [.int q.1,.int h]) n
theorem zjC{v:qB}{h:Int}{n:Nat}{R:qN}(l:v.length<=1000000)(h0:(∀q∈v,q.2<h)->R .none n)(x:∀q∈v,h<=q.2->(∀p∈v,h<=p.2->q.2<p.2\/(q.2=p.2/\q.1<=p.1))->R (.tuple [.int q.1,.int h]) n):zfj [.tuple (pD v),.int h] n R:=⟨v,h,rfl,l,h0,x⟩
def ze2(Z:ZZ):Prop:=FQ Z "first_fit" (top 30) ["free","height"] 1 (spD Z.K 2 zfj)
theorem zhL(D:Dq Z.K Z.mg "first_fit" (top 30) ["free","height"]) (T:Txt Z.mg):ze2 Z:=by
 refine' okQ D (fnS (N:=["free","height","fits","tall","begin"]) (by decide +kernel)) rfl fun f U A outer s H E L=>⟨_,(Jb (Yc (US (i:=2) (ndB rfl) rfl (df rfl) (own:=["begin","tall"]) (capt:=[1]) rfl (JB.of rfl) (dil (JR (Jj 0))) (fun _ _ _ _=>(JE rfl (Jl (dgv 0 (ndB rfl)) (Jl (dgv 1 (ndB rfl)) JD)))) (by decide) (fun _ _ _ _=>(UN (Jn YE gp_B (dlv 1) (dlv 2) (Jh _)))) (fun _ _ _ _=>(Jk (dbv 1 (dbv 0 Ja)))))) (Jb (Js (Qc (JU (dlv 2))) (Jc (Jg QW)) Jy) (Jb (QA (JA (znW L rfl) zrt T.min Yk (Jm (dlv 2) Jo Jt)) (JE rfl (Jl (dgv 3 (ndB rfl)) (Jl (dgv 4 (ndB rfl)) JD)))) (Jc (Jg (Jk (dbv 4 (dbv 1 Ja)))))))),?_⟩
 intro ts n R hl h;obtain⟨o,h,rfl,l,h0,Y⟩:=h
 wp_walk
 refine Yj (cs:=o) (D:=prD) (fun q=>decide (h<=q.2)) (fun q=>prD (q.2,q.1)) (by lia) ?_ ?_
 ·intro q u K X hK x
  wp_walk
  ·exact hK (decide_eq_true hc)
  ·exact x (decide_eq_false hc)
 ·have e:(rE (fun q:Int×Int=>prD (q.2,q.1)) (o.filter fun q=>decide (h<=q.2)))=pD ((o.filter fun q=>decide (h<=q.2)).map fun q=>(q.2,q.1)):=by
   unfold pD;rw[bT];rfl
  have v:∀q,q∈(o.filter fun q=>decide (h<=q.2))↔q∈o/\h<=q.2:=fun q=>by rw[cC,decide_eq_true_eq]
  wp_walk
  ·refine h0 fun q u=>?_
   rw[List.isEmpty_iff,eY]at hc;have:=v q;rw[hc]at this;have no:¬h<=q.2:=fun z=>nomatch this.mpr ⟨u,z⟩
   lia
  ·rw[e];refine ztD (fun z=>?_) fun b C G=>?_
   ·rw[eY]at z;rw[z]at hc;cases hc
   ·obtain⟨q,u,rfl⟩:=aS.mp C;obtain⟨J,I⟩:=(v q).mp u
    wp_walk
    refine Y q J I fun p S y=>?_
    have:=G (p.2,p.1) (aS.mpr ⟨p,(v p).mpr ⟨S,y⟩,rfl⟩);rw[dz,Ne,pLt_iff]at this;dsimp only at this;lia
def ziq:GD:=fun ts n R=>∃(d:Deal) (nm:ae) (h:Int),ts=[dlD d,nm,.int h]/\Dl d/\QC nm/\d.2.1.length+d.2.2.length<100000/\d.2.1.length+d.2.2.length<=1000/\∀v,CanP (Free d nm) v->v.length<=130*(d.2.1.length+d.2.2.length+1)->((∀q∈v,q.2<h)->R .none n)/\∀q∈v,h<=q.2->(∀p∈v,h<=p.2->q.2<p.2\/(q.2=p.2/\q.1<=p.1))->R (.tuple [.int q.1,.int h]) n
theorem zn3{d:Deal}{nm:ae}{h:Int}{n:Nat}{R:qN}(D:Dl d)(hw:QC nm)(l:d.2.1.length+d.2.2.length<100000)(l2:d.2.1.length+d.2.2.length<=1000)(k:∀v,CanP (Free d nm) v->v.length<=130*(d.2.1.length+d.2.2.length+1)->((∀q∈v,q.2<h)->R .none n)/\∀q∈v,h<=q.2->(∀p∈v,h<=p.2->q.2<p.2\/(q.2=p.2/\q.1<=p.1))->R (.tuple [.int q.1,.int h]) n):ziq [dlD d,nm,.int h] n R:=⟨d,nm,h,rfl,D,hw,l,l2,k⟩
def zhD(Z:ZZ):Prop:=FQ Z "fitting" (top 29) ["deal","name","height"] 7 (spD Z.K 3 ziq)
theorem zk1(D:Dq Z.K Z.mg "fitting" (top 29) ["deal","name","height"]) (x:ze2 Z) (y:zea Z) (T:Txt Z.mg):zhD Z:=by
 refine' okQ D (fnS (N:=["deal","name","height"]) (by decide +kernel)) rfl fun f G A outer s H E v=>⟨_,(Jc (Jg (Jd x v (dbc (Jd y v (dbv 0 (dbv 1 Ja))) (dbv 2 Ja))))),?_⟩
 intro ts n R I h;obtain⟨d,nm,h,rfl,D,hw,l,l2,k⟩:=h
 wp_walk using zen D hw l (fun u C o=>?_),zjC ?_ ?_ ?_
 ·lia
 ·exact(k u C o).1
 ·exact(k u C o).2
def wOut:Str:=af "out"
def JM:Str:=af "kept"
def Jw:Str:=af "free"
def Z3(d:Deal)(nm:ae)(rs:List NP):Prop:=∃(css:List (List (Int×Int))) (fs:qB),css.length=(JF d nm).length/\(∀(i:Nat) b c,(JF d nm)[i]?=some b->css[i]?=some c->CanP (fun x=>mB x [b]/\¬mB x (d.2.1.map (·.1))) c)/\CanP (Free d nm) fs /\
 rs.Perm ((d.2.1.map fun p=>(p.1,wOut))++(css.flatten.map fun b=>(b,JM))++fs.map fun b=>(b,Jw))
theorem zkp{α:Type}{m:Nat}:∀{css:List (List α)},(∀c∈css,c.length<=m)->css.flatten.length<=m*css.length
 | [],_=>by simp
 | c::css,h=>by
  have o:=h c (.head _);have u:=zkp (css:=css) fun c hc=>h c (.tail _ hc)
  rw[k8,aJ,aF,Nat.mul_succ];lia
def zcN:GD:=fun ts n R=>∃(d:Deal) (nm:ae),ts=[dlD d,nm]/\Dl d/\QC nm/\d.2.1.length+d.2.2.length<100000/\d.2.1.length<=20/\d.2.2.length<=20/\∀rs:List NP,Z3 d nm rs->rs.length<=90000->rs.Pairwise (fun a b=>npRk rs a<=npRk rs b)->R (.tuple (oD rs)) n
theorem zfy{d:Deal}{nm:ae}{n:Nat}{R:qN}(D:Dl d)(hw:QC nm)(l:d.2.1.length+d.2.2.length<100000)(o:d.2.1.length<=20)(l2:d.2.2.length<=20)(h:∀rs:List NP,Z3 d nm rs->rs.length<=90000->rs.Pairwise (fun a b=>npRk rs a<=npRk rs b)->R (.tuple (oD rs)) n):zcN [dlD d,nm] n R:=⟨d,nm,rfl,D,hw,l,o,l2,h⟩
def zcH(Z:ZZ):Prop:=FQ Z "refusal_paper" (top 35) ["deal","name"] 7 (spD Z.K 2 zcN)
theorem zeH(D:Dq Z.K Z.mg "refusal_paper" (top 35) ["deal","name"]) (Hm:Vr Z) (Ho:Wq Z) (Ij:zhA Z) (HA:zea Z) (T:Txt Z.mg):zcH Z:=by
 refine' okQ D (fnS (N:=["deal","name","outs","rows"]) (by decide +kernel)) rfl fun f am A outer s H E I=>⟨_,(Jb (dsv 2 (ndB rfl) (Jd Hm I (dbc (Je (dlv 0) dli) Ja))) (Jb (zrF (US (i:=3) (ndB rfl) rfl (df rfl) (own:=["block"]) (capt:=[]) rfl (JB.of rfl) (dil (JR (Jj 2))) (fun _ _ _ _=>(dgv 0 (ndB rfl))) (by decide) (fun _ _ _ _=>Uw) (fun _ _ _ _=>(Jk (dbv 0 (dbc JK Ja)))))) (Jb (znx (i:=3) (ndB rfl) rfl (df rfl) (zku (own:=["block","part"]) (capt:=[2]) rfl (JB.of rfl) (dil (JR (Jd Ho I (dbv 0 (dbv 1 Ja))))) (fun _ _ _ _=>(dgv 0 (ndB rfl))) (by decide) (fun _ _ _ _=>Uw) (fun _ _ _ _=>(JR (Jd Ij I (dbc (Jk (dbv 0 Ja)) (dbv 2 Ja))))) (fun _ _ _ _=>(dgv 1 (ndB rfl))) (by decide) (fun _ _ _ _=>Uw) (fun _ _ _ _=>(Jk (dbv 1 (dbc JK Ja)))))) (Jb (znx (i:=3) (ndB rfl) rfl (df rfl) (dnc ["block"] [] (dil (JR (Jd HA I (dbv 0 (dbv 1 Ja))))) (fun _ _ _ _=>(dgv 0 (ndB rfl))) (fun _ _ _ _=>(Jk (dbv 0 (dbc JK Ja)))))) (QS 3 (Jc (Jg (Qp Ub Q1 T.tup Qa (Jm (dl (Jp (zjv I T.srt (dlv 3) Jt))) Jo Uy))))))))),?_⟩
 intro ts n R hl h;obtain⟨d,nm,rfl,D,hw,l,l1,l2,h⟩:=h;obtain⟨bits,os,o⟩:=d;have e:dlD (bits,os,o)=.tuple [.int bits,.tuple (oD os),.tuple (oD o)]:=rfl;have lk:=Vk (d:=(bits,os,o)) (nm:=nm);have ab:∀{m:Nat} {R':qN},R' (.tuple (pD (os.map (·.1)))) m->Vq [.tuple (oD os)] m R':=fun h'=>by
  rw[YJ];refine Wx (by simp;lia) ?_
  rw[show((os.map fun p=>(prD p.1,cF p.2)).map (·.1))=pD (os.map (·.1)) by unfold pD;rw[bT,bT];rfl]
  exact h'
 rw[e]
 wp_walk using ab ?_,Wo (d:=(bits,os,o)) hw ?_ ?_ ?_,zen (d:=(bits,os,o)) D hw l (fun fs F lf=>?_)
 refine QH (cs:=os.map (·.1)) (D:=prD) (fun b=>.tuple [prD b,.str wOut]) (by simp;lia) ?_ ?_
 ·intro b hb K X v
  wp_walk
  exact v
 wp_walk
 have D':=D;obtain⟨b0,S,S1,S2,_⟩:=D';have b0:1<=bits:=b0;have S:bits<=64:=S;have l1:os.length<=20:=l1;have l2:o.length<=20:=l2;have lk:(JF (bits,os,o) nm).length<=20:=by have:(JF (bits,os,o) nm).length<=o.length:=lk;lia
 refine Wo (d:=(bits,os,o)) hw S2.2 (by show o.length<=_;lia) ?_
 wp_walk
 refine znR (cs:=JF (bits,os,o) nm) (D:=prD) (G:=fun b=>.tuple [prD b,.str JM]) (P:=fun b c=>CanP (fun x=>mB x [b]/\¬mB x (os.map (·.1))) c/\c.length<=130*22) (130*22) (fun _ _ h=>h.2) ?_ ?_
 ·intro b hb acc K X ha v;have J:IsBk bits b.1 b.2:=S2.1.1 b (Wt b hb)
  wp_walk
  refine zn0 (ps:=[b]) (bits:=bits) (by lia) S (fun c hc=>by cases aA.mp hc;exact J) S1.1.1 (by simp) (by rw[aM];lia) (by rw[aM];simp;lia) fun cs C lc=>?_
  have Y:cs.length<=130*22:=by rw[aM]at lc;simp at lc;lia
  wp_walk
  refine zgz (cs:=cs) (D:=prD) (fun b=>.tuple [prD b,.str JM]) ?_ cs acc (fun _ h=>h) (by lia) (v cs ⟨C,Y⟩)
  intro c hc K X v
  wp_walk
  exact v
 ·intro css el pw;have lf:css.flatten.length<=130*22*20:=by
   refine cy (zkp (m:=130*22) fun c hc=>?_) ?_
   ·obtain⟨i,hi⟩:=cS.mp hc;have il:=(av.mp hi).1;exact(pw i _ c (ak (by lia)) hi).2
   ·rw[el];lia
  wp_walk
  ·simp only[aM];lia
  refine zen (d:=(bits,os,o)) D hw l fun fs F y=>?_
  have y:fs.length<=130*41:=by
   have:fs.length<=130*(os.length+o.length+1):=y;lia
  wp_walk
  refine QH (cs:=fs) (D:=prD) (fun b=>.tuple [prD b,.str Jw]) (by lia) ?_ ?_
  ·intro c hc K X v
   wp_walk
   exact v
  wp_walk
  ·simp only[aM,aJ];lia
  refine⟨(os.map fun p=>(p.1,wOut))++(css.flatten.map fun b=>(b,JM))++(fs.map fun b=>(b,Jw)),?_,?_,fun L pm U=>?_⟩
  ·simp only[oD,eh,bT];rfl
  ·simp only[aM,aJ];lia
  ·wp_walk
   refine h L ⟨css,fs,el,fun i b c eb ec=>(pw i b c eb ec).1,F,pm⟩ (by rw[pm.length_eq];simp only[aM,aJ];lia) ?_
   exact U.imp fun {a b} h=>by unfold npRk at h ⊢;rw[(pm.filter _).length_eq,(pm.filter _).length_eq];exact h
theorem zf0{d:Deal}{nm:ae}{rs:List NP}(D:Dl d)(h:Z3 d nm rs):(∀r∈rs,IsBk d.1 r.1.1 r.1.2/\(r.2=wOut\/r.2=JM\/r.2=Jw))/\rs≠[]:=by
 obtain⟨css,fs,el,pw,F,pm⟩:=h;have y:0<=d.1:=by have:=D.1;lia
 have Y:∀x,Free d nm x->0<=x/\x<2 ^ d.1.toNat:=fun x hx=>⟨hx.1,hx.2.1⟩
 have pc:∀c∈css,∃b∈JF d nm,CanP (fun x=>mB x [b]/\¬mB x (d.2.1.map (·.1))) c:=fun c hc=>by
  obtain⟨i,hi⟩:=cS.mp hc;have U:=(av.mp hi).1;exact⟨_,c9 (by lia),pw i _ c (ak (by lia)) hi⟩
 have bk:∀b∈JF d nm,IsBk d.1 b.1 b.2:=fun b u=>D.2.2.2.1.1.1 b (Wt b u)
 refine⟨fun r v=>?_,fun z=>?_⟩
 ·rcases ax.mp (pm.mem_iff.mp v) with v|v
  ·rcases ax.mp v with v|v
   ·obtain⟨p,hp,rfl⟩:=aS.mp v;exact⟨D.2.2.1.1.1 p.1 (aS.mpr ⟨p,hp,rfl⟩),.inl rfl⟩
   ·obtain⟨b,u,rfl⟩:=aS.mp v;obtain⟨c,hc,G⟩:=pd.mp u;obtain⟨k,S,C⟩:=pc c hc;have:=(C.ptc (bits:=d.1) y fun x hx=>QL y (fun c hc=>by cases aA.mp hc;exact bk k S) hx.1).1 b G
    exact⟨this,.inr (.inl rfl)⟩
  ·obtain⟨b,u,rfl⟩:=aS.mp v;exact⟨(F.ptc (bits:=d.1) y Y).1 b u,.inr (.inr rfl)⟩
 ·rw[z]at pm;have e:=List.Perm.nil_eq pm;have I:=(mw.mp e.symm);have J:=(mw.mp I.1);have o:d.2.1=[]:=eY.mp J.1;have R:css.flatten=[]:=eY.mp J.2;have f0:fs=[]:=eY.mp I.2;have pp:=Qw d.1.toNat;have L:¬Free d nm 0:=fun hf=>by
   have:=(F.mem 0).mpr hf;rw[f0]at this;obtain⟨b,u,_⟩:=this;exact nomatch u
  apply L;refine⟨bh _,pp,fun⟨b,u,_⟩=>by(rw[o]at u;exact(nomatch u)),fun⟨b,u,N⟩=>?_⟩
  obtain⟨i,hi⟩:=cS.mp u;have U:=(av.mp hi).1;have C:=pw i b _ hi (ak (by lia))
  have m0:mB 0 (css[i]'(by lia)):=(C.mem 0).mpr ⟨⟨b,aA.mpr rfl,N⟩,fun⟨b,u,_⟩=>by(rw[o]at u;exact(nomatch u))⟩
  obtain⟨c,hc,_⟩:=m0;have:c∈css.flatten:=pd.mpr ⟨_,c9 (by lia),hc⟩
  rw[R]at this;exact nomatch this
def zrz:GD:=fun ts n R=>∃(d:Deal) (nm:ae) (h:Int),ts=[dlD d,nm,.int h]/\Dl d/\QC nm/\d.2.1.length+d.2.2.length<100000/\d.2.1.length<=20/\d.2.2.length<=20 /\
 ∀o,CanP (Free d nm) o->(∀q∈o,h<=q.2->(∀p∈o,h<=p.2->q.2<p.2\/(q.2=p.2/\q.1<=p.1))->R (.tuple [.str (af "block"),.tuple [.int q.1,.int h]]) n)/\((∀q∈o,q.2<h)->∀rs:List NP,Z3 d nm rs->rs.length<=90000->rs.Pairwise (fun a b=>npRk rs a<=npRk rs b)->R (.tuple [.str (af "none"),.tuple (oD rs)]) n)
theorem zxf{d:Deal}{nm:ae}{h:Int}{n:Nat}{R:qN}(D:Dl d)(hw:QC nm)(l:d.2.1.length+d.2.2.length<100000)(v:d.2.1.length<=20)(l2:d.2.2.length<=20)(k:∀o,CanP (Free d nm) o->(∀q∈o,h<=q.2->(∀p∈o,h<=p.2->q.2<p.2\/(q.2=p.2/\q.1<=p.1))->R (.tuple [.str (af "block"),.tuple [.int q.1,.int h]]) n)/\((∀q∈o,q.2<h)->∀rs:List NP,Z3 d nm rs->rs.length<=90000->rs.Pairwise (fun a b=>npRk rs a<=npRk rs b)->R (.tuple [.str (af "none"),.tuple (oD rs)]) n)):zrz [dlD d,nm,.int h] n R:=⟨d,nm,h,rfl,D,hw,l,v,l2,k⟩
def zsF(Z:ZZ):Prop:=FQ Z "had" (top 33) ["deal","name","height"] 8 (spD Z.K 3 zrz)
theorem zti(D:Dq Z.K Z.mg "had" (top 33) ["deal","name","height"]) (x:zhD Z) (L:zcH Z) (T:Txt Z.mg):zsF Z:=by
 refine' okQ D (fnS (N:=["deal","name","height","block"]) (by decide +kernel)) rfl fun f S A outer s H E u=>⟨_,(Jb (dsv 3 (ndB rfl) (Jd x u (dbv 0 (dbv 1 (dbv 2 Ja))))) (Jb (Js (Jn zmF znm (dlv 3) (dl QW) (Jh _)) (Jc (Jg (Jk (dbc JK (dbv 3 Ja))))) Jy) (Jc (Jg (Jk (dbc JK (dbc (Jd L u (dbv 0 (dbv 1 Ja))) Ja))))))),?_⟩
 intro ts n R Y h;obtain⟨d,nm,h,rfl,D,hw,l,v,l2,k⟩:=h
 wp_walk using zn3 D hw l ?_ (fun o C U=>?_)
 ·lia
 ·intro no
  wp_walk using zfy D hw l v l2 (fun rs RR G pw=>?_)
  all_goals first
   | exact absurd hc (by decide)
   | exact(k o C).2 no rs RR G pw
 ·intro q I y J
  wp_walk
  all_goals first
   | exact absurd hc (by decide)
   | exact absurd hc aP
   | exact absurd hc.symm aP
   | exact(k o C).1 q I y J
theorem zhH:∀(ts:qD),ts.all UY=true->∃xs,ts=ppD xs
 | [],_=>⟨[],rfl⟩
 | t::ts,h=>by
  rw[nR,aY]at h;obtain⟨xs,rfl⟩:=zhH ts h.2;have l:=h.1;unfold UY at l;split at l
  ·rename_i a b;exact⟨(a,b)::xs,rfl⟩
  ·cases l
def wdD:ae->Bool
 | .str s=>decide (s=wOut\/s=JM\/s=Jw)
 | _=>false
theorem in_words{s:Str}:([cF (af "out"),cF (af "kept"),cF (af "free")].any fun t=>t.eqv (.str s))=wdD (.str s):=by
 have e:∀a:Str,(cF a).eqv (.str s)=decide (s=a):=fun a=>by
  rw[fw,decide_eq_true_eq];simp only[eD,beq_iff_eq];exact eq_comm
 rw[iP,iP,iP,List.any_nil,e,e,e,sS];show _=decide (s=wOut\/s=JM\/s=Jw)
 rw[fw,decide_eq_true_eq,mE,mE,decide_eq_true_eq,decide_eq_true_eq,decide_eq_true_eq];exact aU
def IsWd(s:Str):Prop:=s=wOut\/s=JM\/s=Jw
theorem zmn:∀{xs:List (ae×ae)}{bs:qB},xs.map (·.1)=pD bs->(∀p∈xs,wdD p.2=true)->∃os:List NP,ppD xs=oD os/\os.map (·.1)=bs/\∀p∈os,IsWd p.2
 | [],[],_,_=>⟨[],rfl,rfl,fun p l=>nomatch l⟩
 | [],_::_,h,_=>by cases h
 | _::_,[],h,_=>by cases h
 | (a,b)::xs,c::bs,h,hn=>by
  simp only[pD,aV,eU]at h;obtain⟨rfl,h⟩:=h;obtain⟨os,v,u,x⟩:=zmn (xs:=xs) (bs:=bs) h fun p l=>hn p (by simp[l])
  have o:=hn (prD c,b) (by simp)
  have o:wdD b=true:=o;cases b with
  | str s =>
   refine⟨(c,s)::os,?_,?_,?_⟩
   ·show iD [prD c,.str s]::ppD xs=iD [prD c,.str s]::oD os
    rw[v]
   ·simp[u]
   ·intro p l;rcases az.mp l with rfl|l
    ·have o:decide (s=wOut\/s=JM\/s=Jw)=true:=o;show s=wOut\/s=JM\/s=Jw
     exact of_decide_eq_true o
    ·exact x p l
  | _=>cases o
theorem zj3{k:Nat}:∀{ts:qD},bU ts=true->cZ ts<=k->∀t∈ts,OkK k t
 | [],_,_,t,ht=>nomatch ht
 | x::xs,h1,h2,t,ht=>by
  have a:x.canLay0=true/\bU xs=true:=by simpa[bU] using h1
  simp only[cZ]at h2;rcases az.mp ht with rfl|z
  ·exact⟨a.1,by lia⟩
  ·exact zj3 a.2 (by lia) t z
theorem V7{k:Nat}{ts:qD}(h:OkK k (.tuple ts)):∀t∈ts,OkK k t:=zj3 (by simpa only[cE] using h.1) (by have:=h.2;simp only[e9]at this;lia)
theorem zmr{d:ae}(h:PlnD d):Pl2 d:=⟨h.pln,fun ts e t o=>by subst e;exact(h.tup.2 t o).pln⟩
theorem zmq{d:ae}(h:PlnD d):Pl3 d:=⟨h.pln,fun ts e=>by subst e;exact⟨h.tup.1,fun t l=>zmr (h.tup.2 t l)⟩⟩
def PapR(bits:Int)(rs:List NP):Prop:=Ptc bits (rs.map (·.1))/\((rs.map (·.1)).map fun b=>(2:Int) ^ b.2.toNat).sum=2 ^ bits.toNat/\∀r∈rs,IsWd r.2
def zuX(bits:Int)(d:ae):Prop:=∃rs:List NP,d=.tuple (oD rs)/\PapR bits rs
def zgt:GD:=fun ts n R=>∃(bits:Int) (d:ae),ts=[.int bits,d]/\0<=bits/\bits<=64/\PlnD d/\OkK 40 d/\∀b:Bool,(b=true↔zuX bits d)->R (.bool b) n
theorem zlE{bits:Int}{d:ae}{n:Nat}{R:qN}(u:0<=bits)(v:bits<=64)(p:PlnD d)(o:OkK 40 d)(h:∀b:Bool,(b=true↔zuX bits d)->R (.bool b) n):zgt [.int bits,d] n R:=⟨bits,d,rfl,u,v,p,o,h⟩
def zf5(Z:ZZ):Prop:=FQ Z "is_paper" (top 36) ["bits","thing"] 4 (spD Z.K 2 zgt)
theorem zi6(D:Dq Z.K Z.mg "is_paper" (top 36) ["bits","thing"]) (Hm:Vr Z) (Ic:zf4 Z) (Ie:zf8 Z) (Il:zhC Z) (IG:StG Z.K Z.mg "WORDS" [af "out",af "kept",af "free"]) (T:Txt Z.mg):zf5 Z:=by
 refine' okQ D (fnS (N:=["bits","thing","blocks"]) (by decide +kernel)) rfl fun f am A outer s H E L=>⟨_,(Jb (Js (JT (Qf (Qc (JU (dl (Qq UU T.isi T.tup Qa (dlv 1) Jt)))) (QB (Qc (JU (dl (JA (Zh rfl) YL T.all Zf (Jm (dl (Jp (dnc ["row"] [] (dil (JR (Jj 1))) (fun _ _ _ _=>(dgv 0 (ndB rfl))) (fun _ _ _ _=>(Jd Il L (dbv 0 Ja)))))) Jo Q7)))))))) (Jc (Jg JQ)) Jy) (Jb (Js (Qc (JU (dl (JA (Zh rfl) YL T.all Zf (Jm (dl (Jp (dnc ["block","word"] [] (dil (JR (Jj 1))) (fun _ _ _ _=>(JE rfl (Jl (dgv 0 (ndB rfl)) (Jl (dgv 1 (ndB rfl)) JD)))) (fun _ _ _ _=>(UM (Qq zp9 T.isi T.str ziO (dlv 1) Jt) (Uf (Qi (zpX L) zus (dlv 1) (dl (zpw (ds:=[.str (af "out"),.str (af "kept"),.str (af "free")]) IG)) rfl))))))) Jo Q7))))) (Jc (Jg JQ)) Jy) (Jb (dsv 2 (ndB rfl) (Jd Hm L (dbv 1 Ja))) (Jc (Jg (UM (Jd Ic L (dbv 0 (dbv 2 Ja))) (Uf (Qi (J7 L) J6 (dl (Jd Ie L (dbv 2 Ja))) (dl (JW dli (dlv 0))) (Jh _))))))))),?_⟩
 intro ts n R hl h;obtain⟨bits,d,rfl,b0,b1,p,o,h⟩:=h;cases d with
 | dict ks =>
  cases ks with
  | nil =>
   have h:=h false ⟨fun z=>(by cases z),fun⟨bs,e,_⟩=>(by cases e)⟩
   wp_walk
   exact h
  | cons a b=>exact absurd rfl p.pln
 | tuple ts =>
  obtain⟨l6,p3⟩:=p.tup
  wp_walk
  refine zek (fun t=>.bool (UY t)) (by lia) ?_ ?_
  ·intro t J K2 X2 v
   wp_walk using zn2 (p3 t J).pln ?_
   exact v
  ·wp_walk using YN ?_
   ·obtain⟨xs,rfl⟩:=zhH ts hc;have lx:xs.length<=1000000:=by simpa[ppD] using l6
    have px:∀q∈xs,PlnD q.1/\PlnD q.2:=fun q C=>by
     have:=(p3 (.tuple [q.1,q.2]) (aS.mpr ⟨q,C,rfl⟩)).tup.2;exact⟨this _ (by simp),this _ (by simp)⟩
    have pl:Pl3 (.tuple (xs.map (·.1))):=zmq (zjY (by rw[aM];exact lx) fun t J=>by
     obtain⟨q,C,rfl⟩:=aS.mp J;exact(px q C).1)
    refine QH (cs:=xs) (D:=fun p=>.tuple [p.1,p.2]) (fun p=>.bool (wdD p.2)) (by lia) ?_ ?_
    ·intro q C K2 X2 v;have pq:=(px q C).2;have oq:OkK 40 q.2:=V7 (V7 o (.tuple [q.1,q.2]) (aS.mpr ⟨q,C,rfl⟩)) q.2 (by simp)
     obtain⟨qa,qb⟩:=q;dsimp only at *;cases qb with
     | dict ks =>
      cases ks with
      | nil =>
       wp_walk
       exact v
      | cons a b=>exact absurd rfl pq.pln
     | str s =>
      wp_walk
      ·exact oq.okd
      ·intro t J;simp only[az,aO,or_false]at J;rcases J with rfl|rfl|rfl <;> exact(Ye (by decide +kernel)).okd
      ·have e:([cF (af "out"),cF (af "kept"),cF (af "free")].any fun t=>t.eqv (.str s))=wdD (.str s):=in_words
       rw[e];exact v
     | _ =>
      wp_walk
      exact v
    ·wp_walk using YN ?_
     ·have al:∀q∈xs,wdD q.2=true:=bM.mp hc
      wp_walk using Wx lx ?_,zlD b0 b1 pl (fun b U=>?_)
      ·obtain⟨bs,I,P⟩:=U.mp hc;have I:=ff I;have lb:bs.length<=1000000:=by have:=congrArg eJ I;rw[aM,JI]at this;lia
       rw[I];refine zlH (fun b U=>⟨(P.1 b U).1,cT (P.1 b U).2.1 b1⟩) lb ?_
       wp_walk
       all_goals first
        | exact cpow (by lia) (by lia)
        | skip
       refine h _ ?_;rw[decide_eq_true_eq,cK];constructor
       ·intro sm;obtain⟨os,e1,e2,e3⟩:=zmn (bs:=bs) I al;exact⟨os,by rw[e1],by rw[e2];exact P,by rw[e2];exact sm,e3⟩
       ·rintro⟨os,e,_,sm,_⟩;have G:ppD xs=oD os:=ff e;rw[YJ]at G;have:=VX G;subst this;have:bs=os.map (·.1):=zmB (by rw[<- I];simp[pD])
        rw[this];exact sm
      ·have Y:b=false:=hc;refine h false ⟨fun z=>(by cases z),fun⟨os,e,S⟩=>?_⟩
       have G:ppD xs=oD os:=ff e;rw[YJ]at G;have:=VX G;subst this;have:IsPt bits (.tuple ((os.map fun p=>(prD p.1,cF p.2)).map (·.1))):=⟨os.map (·.1),by simp[pD],S.1⟩
       rw[U.mpr this]at Y;cases Y
     ·refine h false ⟨fun z=>(by cases z),fun⟨os,e,S⟩=>?_⟩
      have G:ppD xs=oD os:=ff e;rw[YJ]at G;have:=VX G;subst this;have:((os.map fun p=>(prD p.1,cF p.2)).all fun p=>wdD p.2)=true:=bM.mpr fun q C=>by
       obtain⟨o,ho,rfl⟩:=aS.mp C;exact decide_eq_true (S.2.2 o ho)
      rw[this]at hc;cases hc
   ·refine h false ⟨fun z=>(by cases z),fun⟨os,e,S⟩=>?_⟩
    cases e;have:(oD os).all UY=true:=by
     rw[bM];intro x hx;obtain⟨o,_,rfl⟩:=aS.mp hx
     rfl
    rw[this]at hc;cases hc
 | _ =>
  have h:=h false ⟨fun z=>(by cases z),fun⟨bs,e,_⟩=>(by cases e)⟩
  wp_walk
  exact h
def rowN(d:Deal)(nm:ae)(h:Int)(rs:List NP)(r:NP):Prop:=(r.2=wOut->∃p∈d.2.1.map (·.1),p.1<=r.1.1/\eB r.1<=eB p)/\(r.2=JM->∃p∈JF d nm,p.1<=r.1.1/\eB r.1<=eB p)/\(r.2=Jw->r.1.2<h/\((cU r.1.1 (2 ^ r.1.2.toNat),r.1.2),Jw)∉rs)
def zuU(d:Deal)(nm:ae)(h:Int)(rs:List NP):Prop:=∀r∈rs,rowN d nm h rs r
theorem zeg{bits:Int}{os o:List NP}{nm:ae}(P:Ptc bits (o.map (·.1))):Ptc bits (JF (bits,os,o) nm):=by
 refine⟨fun b v=>P.1 b (Wt b v),?_⟩
 have:(JF (bits,os,o) nm).Sublist (o.map (·.1)):=by unfold JF;exact(List.filter_sublist).map _
 exact P.2.sublist this
def VN(d:Deal)(nm:ae)(h:Int)(t:ae):Prop:=∃rs:List NP,t=.tuple (oD rs)/\PapR d.1 rs/\zuU d nm h rs
def zeA:GD:=fun ts n R=>∃(d:Deal) (nm:ae) (h:Int) (t:ae),ts=[dlD d,nm,.int h,t]/\Dl d/\QC nm/\d.2.1.length<=1000/\d.2.2.length<=1000/\PlnD t/\OkK 40 t/\∀b:Bool,(b=true↔VN d nm h t)->R (.bool b) n
theorem ziJ{d:Deal}{nm:ae}{h:Int}{t:ae}{n:Nat}{R:qN}(D:Dl d)(hw:QC nm)(u:d.2.1.length<=1000)(l2:d.2.2.length<=1000)(p:PlnD t)(o:OkK 40 t)(k:∀b:Bool,(b=true↔VN d nm h t)->R (.bool b) n):zeA [dlD d,nm,.int h,t] n R:=⟨d,nm,h,t,rfl,D,hw,u,l2,p,o,k⟩
def zet(Z:ZZ):Prop:=FQ Z "shows_none" (top 34) ["deal","name","height","paper"] 6 (spD Z.K 4 zeA)
theorem zgO(D:Dq Z.K Z.mg "shows_none" (top 34) ["deal","name","height","paper"]) (Hm:Vr Z) (Ho:Wq Z) (Ig:zf5 Z) (HC:zdG Z) (HQ:zeu Z) (T:Txt Z.mg):zet Z:=by
 refine' okQ D (fnS (N:=["deal","name","height","paper","outs","kept","free","block","word"]) (by decide +kernel)) rfl fun f am A outer s H E y=>⟨_,(Jb (Js (Qc (JU (dl (Jd Ig y (dbc (Je (dlv 0) dli) (dbv 3 Ja)))))) (Jc (Jg JQ)) Jy) (Jb (dsv 4 (ndB rfl) (Jd Hm y (dbc (Je (dlv 0) dli) Ja))) (Jb (dsv 5 (ndB rfl) (Jd Ho y (dbv 0 (dbv 1 Ja)))) (Jb (znw (i:=6) (ndB rfl) rfl (df rfl) (own:=["block","word"]) (capt:=[]) (zmb y) rfl (JB.of rfl) (dil (JR (Jj 3))) (fun _ _ _ _=>(JE rfl (Jl (dgv 0 (ndB rfl)) (Jl (dgv 1 (ndB rfl)) JD)))) (by decide) (fun _ _ _ _=>(UN (Jn (J7 y) J6 (dlv 1) (dl JK) (Jh _)))) (fun _ _ _ _=>(Jj 0)) (fun _ _ _ _=>JQ)) (Jb (Qg bw rfl (JR (Jj 3)) (JE rfl (Jl (dgv 7 (ndB rfl)) (Jl (dgv 8 (ndB rfl)) JD))) (Jb (Js (JT (QX (Jn (J7 y) J6 (dlv 8) (dl JK) (Jh _)) (Q6 (Jn ztb zur (dl (Jd HC y (dbv 4 (dbv 7 Ja)))) (dl QW) (Jh _))))) (Jc (Jg JQ)) Jy) (Jb (Js (JT (QX (Jn (J7 y) J6 (dlv 8) (dl JK) (Jh _)) (Q6 (Jn ztb zur (dl (Jd HC y (dbv 5 (dbv 7 Ja)))) (dl QW) (Jh _))))) (Jc (Jg JQ)) Jy) (Jc (Js (JT (QX (Jn (J7 y) J6 (dlv 8) (dl JK) (Jh _)) (Q6 (JT (Qf (Jn YE gp_B (dl (Je (dlv 7) dli)) (dlv 2) (Jh _)) (QB (Jn (zpW (zmb y)) zqa (dl (Jd HQ y (dbv 7 Ja))) (dlv 6) rfl))))))) (Jc (Jg JQ)) Jy))))) (Jc (Jg JQ))))))),?_⟩
 intro ts n R hl h;obtain⟨⟨bits,os,C⟩,nm,h,t,rfl,D,hw,l1,l2,p,o,k⟩:=h;have D':=D;obtain⟨b0,b1,S1,S2,_⟩:=D';have b0:1<=bits:=b0;have b1:bits<=64:=b1;have l1:os.length<=1000:=l1;have l2:C.length<=1000:=l2;have e:dlD (bits,os,C)=.tuple [.int bits,.tuple (oD os),.tuple (oD C)]:=rfl;have ab:∀{m:Nat} {R':qN},R' (.tuple (pD (os.map (·.1)))) m->Vq [.tuple (oD os)] m R':=fun h'=>by
  rw[YJ];refine Wx (by simp;lia) ?_
  rw[show((os.map fun p=>(prD p.1,cF p.2)).map (·.1))=pD (os.map (·.1)) by unfold pD;rw[bT,bT];rfl]
  exact h'
 have L:0<=bits:=by lia
 rw[e]
 wp_walk using zlE L b1 p o (fun b hb=>?_),ab ?_
 ·obtain⟨rs,rfl,PR⟩:=hb.mp hc;have lr:rs.length<=1000000:=by have:=p.tup.1;rw[QG]at this;exact this
  refine Wo (d:=(bits,os,C)) hw S2.2 (by show C.length<=_;lia) ?_
  wp_walk
  refine ziE (cs:=rs) (D:=fun r=>.tuple [prD r.1,.str r.2]) (fun r=>decide (r.2=Jw)) (fun r=>r.1) (fun _=>.bool true) (by lia) ?_ ?_
  ·intro r y K X hK hX
   wp_walk
   ·exact hK (decide_eq_true hc)
   ·exact hX (decide_eq_false hc)
  ·generalize hfr:List.foldl (fun acc b=>putT acc b.1 (dO true)) [] (List.filter (fun r=>decide (r.2=Jw)) rs)=fr
   have hf:∀b:Int×Int,(valT fr b).isSome=true↔(b,Jw)∈rs:=fun b=>by
    rw[zjL,<- hfr,zfo (F:=fun r:NP=>r.1) (G:=fun _=>dO true)]
    constructor
    ·rintro(z|z)
     ·simp at z
     ·obtain⟨r,y,rfl⟩:=aS.mp z;obtain⟨J,I⟩:=cC.mp y;have I:r.2=Jw:=of_decide_eq_true I;rw[<- I];exact J
    ·intro z;exact .inr (aS.mpr ⟨(b,Jw),cC.mpr ⟨z,decide_eq_true rfl⟩,rfl⟩)
   have PK:Ptc bits (JF (bits,os,C) nm):=zeg S2.1;have lk:(JF (bits,os,C) nm).length<1000000:=nX Vk (by show C.length<_;lia)
   wp_walk
   refine YK 7 8 (fun j _ _ m=>m=n/\∀(i:Nat) r,i<j->rs[i]?=some r->rowN (bits,os,C) nm h rs r) ⟨rfl,fun i r z=>by lia⟩ ?_ ?_
   ·rintro j x _ _ m K RT BK ej ⟨rfl,hi⟩ hK hRT hBK;obtain⟨r,er,rfl⟩:=VU ej;have y:=aH er;have B:IsBk bits r.1.1 r.1.2:=PR.1.1 r.1 (aS.mpr ⟨r,y,rfl⟩);have g0:0<=r.1.2:=B.1;have g1:r.1.2<=bits:=B.2.1;have bad:¬rowN (bits,os,C) nm h rs r->RT (.bool false) m:=fun nr=>hRT _ _ (k false ⟨fun z=>(by cases z),fun⟨rs',e',_,sh⟩=>by
     have:rs=rs':=zmP (ff e');subst this;exact(nr (sh r y)).elim⟩)
    have good:rowN (bits,os,C) nm h rs r->m=m/\∀(i:Nat) q,i<j+1->rs[i]?=some q->rowN (bits,os,C) nm h rs q:=fun nr=>⟨rfl,fun i q hq eq=>by
     rcases g7.mp hq with z|rfl
     ·exact hi i q z eq
     ·rw[er]at eq;cases eq;exact nr⟩
    have Y:=PR.2.2 r y;obtain⟨⟨b,g⟩,w⟩:=r;dsimp only at B g0 g1 Y ⊢;have l1':(os.map (·.1)).length<1000000:=by rw[aM];lia
    have e1:¬wOut=af "kept":=by decide +kernel
    have e2:¬wOut=af "free":=by decide +kernel
    have e3:¬JM=af "out":=by decide +kernel
    have e4:¬JM=af "free":=by decide +kernel
    have e5:¬Jw=af "out":=by decide +kernel
    have e6:¬Jw=af "kept":=by decide +kernel
    rcases Y with v|v|v
    ·have v:w=wOut:=v;subst v
     wp_walk
     all_goals first
      | exact absurd ‹wOut=af "kept"› e1
      | exact absurd ‹wOut=af "free"› e2
      | exact absurd (rfl:wOut=af "out") ‹¬wOut=af "out"›
      | skip
     refine zd3 (b:=(b,g)) L b1 S1.1 l1' B (fun p U J I=>?_) (fun no=>?_)
     ·wp_walk
      all_goals first
       | exact absurd ‹wOut=af "kept"› e1
       | exact absurd ‹wOut=af "free"› e2
       | exact absurd hc aP
       | exact absurd ‹isNone eK=false› eF
       | exact eF (show true=false from ‹isNone eK=false›)
       | exact hK _ _ _ (good ⟨fun _=>⟨p,U,J,I⟩,fun z=>absurd z e1,fun z=>absurd z e2⟩)
     ·wp_walk
      all_goals first
       | exact absurd hc aP
       | exact absurd ‹isNone eK=false› eF
       | exact eF (show true=false from ‹isNone eK=false›)
       | exact bad fun z=>by
          obtain⟨p,U,J,I⟩:=z.1 rfl;exact no p U ⟨J,I⟩
    ·have v:w=JM:=v;subst v
     wp_walk
     all_goals first
      | exact absurd ‹JM=af "out"› e3
      | exact absurd ‹JM=af "free"› e4
      | exact absurd (rfl:JM=af "kept") ‹¬JM=af "kept"›
      | skip
     refine zd3 (b:=(b,g)) L b1 PK lk B (fun p U J I=>?_) (fun no=>?_)
     ·wp_walk
      all_goals first
       | exact absurd ‹JM=af "free"› e4
       | exact absurd hc aP
       | exact absurd ‹isNone eK=false› eF
       | exact eF (show true=false from ‹isNone eK=false›)
       | exact hK _ _ _ (good ⟨fun z=>absurd z e3,fun _=>⟨p,U,J,I⟩,fun z=>absurd z e4⟩)
     ·wp_walk
      all_goals first
       | exact absurd hc aP
       | exact absurd ‹isNone eK=false› eF
       | exact eF (show true=false from ‹isNone eK=false›)
       | exact bad fun z=>by
          obtain⟨p,U,J,I⟩:=z.2.1 rfl;exact no p U ⟨J,I⟩
    ·have v:w=Jw:=v;subst v
     wp_walk
     all_goals first
      | exact absurd ‹Jw=af "out"› e5
      | exact absurd ‹Jw=af "kept"› e6
      | exact absurd (rfl:Jw=af "free") ‹¬Jw=af "free"›
      | skip
     ·exact bad fun z=>by
       have:=(z.2.2 rfl).1;dsimp only at this;lia
     ·refine ziK g0 (by lia) ?_
      wp_walk
      refine zt8 (k:=(cU b (2 ^ g.toNat),g)) ?_
      wp_walk
      ·exact bad fun z=>(z.2.2 rfl).2 ((hf _).mp hc)
      ·refine hK _ _ _ (good ⟨fun z=>absurd z e5,fun z=>absurd z e6,fun _=>⟨by dsimp only;lia,fun z=>?_⟩⟩)
       rw[(hf _).mpr z]at hc;cases hc
   ·rintro _ _ m ⟨rfl,hi⟩
    wp_walk
    refine k true ⟨fun _=>⟨rs,rfl,PR,fun r y=>?_⟩,fun _=>rfl⟩
    obtain⟨i,ei⟩:=cS.mp y;exact hi i r (by have:=(av.mp ei).1;rw[QG];exact this) ei
 ·refine k false ⟨fun z=>(by cases z),fun⟨rs,e,PR,_⟩=>?_⟩
  rw[hb.mpr ⟨rs,e,PR⟩]at hc;cases hc
theorem scH:UQ ["_law_script","_law_k","_law_cell"] ["_law_script","_law_k"] (JZ (top 38)):=⟨rfl,rfl,rfl,by decide +kernel,rfl,by decide +kernel,by decide +kernel⟩
theorem zhQ{f:au}{fd:dJ}(D:Def K mg "_law_hand" (top 38) ["_law_script","_law_k"] f fd) (T:Txt mg):FnOk P w K mg base CX0 1 f fd ["_law_script","_law_k"] (VR K):=by
 refine D.F.ok scH (fun y H Q E h=>?_) (fun G A outer s H y Q E J h=>?_)
 ·obtain⟨a,ns,k,rfl,_⟩:=h
  rfl
 ·obtain⟨a,ns,k,rfl,u,L,C,I,q⟩:=h;refine⟨_,QQ (Um (i:=2) scH.nd rfl (df rfl) JN)
   (QQ (zqA (zi0 zs9 (pv 1) (Zu ziH T.len QJ (pb_v 0 Ul)) (Jh _)) (Z8 (Um (i:=2) scH.nd rfl (df rfl) (UJ UO (pv 0) (pv 1) (fun _ _=>rfl)))) zi1)
   (Z8 (VP (zmv (zpV (JL Uj (pv 2) (zqK Vl T.int boot_int (zs1 (zmx YE (pv 2) (JL zs6 JN JN) (Jh _)) Ul)))
    (zpV (JL Uv (JL Uv (JL U9 (pv 2) JN) (JL Uj JN (pv 1))) JN) (pb_i Ul))))))),?_⟩
  refine⟨_,rfl,_,rfl,a,_,rfl,.inl u,_,_,rfl,rfl,_,rfl,?_⟩;have fin:∀c:Int,tRet (tLst (QU (tOp (rI CMul fun i j=>V.int (i*j)) (tVar 2) (tCB (fun xs H Q=>(∃i,xs=[.int i]/\Q (.int i) H)\/∃k,xs=[.bl k]/\Q (.int (if k then 1 else 0)) H) (QU (tOp (rI0 fun i j=>.bl (decide (j<=i))) (tVar 2) (tOp (rI CPow fun i j=>.int (i ^ j.toNat)) (tC (.int 10)) (tC (.int 18)))) tNil)))
    (QU (tOp (rI0 fun i j=>.int (i+j)) (tOp (rI0 fun i j=>.int (i+j)) (tOp (rI (fun _ j=>0<j) fun i j=>.int (i % j)) (tVar 2) (tC (.int 2305843009213693951))) (tOp (rI CMul fun i j=>V.int (i*j)) (tC (.int 7919)) (tVar 1))) (tC (.int 3))) (QU (tC (.int 0)) tNil))))
    { nx:=fun _ H'=>Q .non H',rt:=Q } [some (.ref a),some (.int k),some (.int c)] H:=by
   intro c;refine⟨_,rfl,_,rfl,_,_,rfl,rfl,⟨by decide,by decide,by decide⟩,_,_,rfl,rfl,.inr ⟨_,rfl,_,_,rfl,rfl,.inr ?_,?_⟩⟩
   ·split <;> decide
   ·refine⟨_,rfl,_,_,rfl,rfl,(by show(0:Int)<2305843009213693951;decide),_,rfl,_,_,rfl,rfl,.inl ⟨by decide,by decide⟩,_,_,rfl,rfl,_,_,rfl,rfl,(by show 3<=sizeLine;decide),fun l v=>?_⟩
    refine q l _ v ⟨_,_,_,J3,?_,?_,bh _,bh _⟩ (zoA v)
    ·lia
    ·lia
  refine ztY (fun c=>?_) (fun c=>?_)
  ·have x:k.toNat<ns.length:=by rw[aM]at c;lia
   refine⟨_,rfl,_,rfl,a,_,_,V.int (ns[k.toNat]),rfl,rfl,u,?_,?_⟩
   ·exact Ve C (by rw[bp,ak x];rfl)
   ·exact fin _
  ·exact fin 0
def ze4(Z:ZZ):Prop:=FQ Z "_law_hand" (top 38) ["_law_script","_law_k"] 1 (VR Z.K)
theorem zgN(D:Dq Z.K Z.mg "_law_hand" (top 38) ["_law_script","_law_k"]) (T:Txt Z.mg):ze4 Z:=by
 obtain⟨f,fd,D⟩:=D;exact⟨f,fd,D,zhQ D T⟩
theorem zhy{H:Hp}{hd:au}{o:HO}:zuV hd H (upd H hd o):=fun b u e n=>by rw[Ju n];exact e
theorem scT:UQ ["_law_hand_here","_law_many","_law_digit","_law_turn","_law_mixed","_law_other"] ["_law_hand_here","_law_many"] (JZ (top 39)):=⟨rfl,rfl,rfl,by decide +kernel,rfl,by decide +kernel,by decide +kernel⟩
theorem zo1{f:au}{fd:dJ}(D:Def K mg "_law_take" (top 39) ["_law_hand_here","_law_many"] f fd) (T:Txt mg):FnOk P w K mg base CX0 1 f fd ["_law_hand_here","_law_many"] zpR:=by
 refine D.F.ok scT (fun y H Q E h=>?_) (fun C A outer s H y Q E I h=>?_)
 ·obtain⟨hd,many,n,rfl,_⟩:=h
  rfl
 ·obtain⟨hd,many,n,rfl,⟨d,m,t,u,m0,m1,t0,t1⟩,G,v,x,q⟩:=h;refine⟨_,QQ (zqA (zi0 Ue (UJ UO (pv 0) JN (fun _ _=>rfl)) JN (Jh _))
    (QQ (Um (i:=2) scT.nd rfl (df rfl) (JL U9 (UJ UO (pv 0) JN (fun _ _=>rfl)) (pv 1)))
    (QQ (VO (JL V8 (UJ UO (pv 0) JN (fun _ _=>rfl)) (pv 1)) (pg_sub (pv 0) JN set_list))
    (Z8 (VP (pv 2))))) zi1)
   (QQ (VO (JL Uv (UJ UO (pv 0) JN (fun _ _=>rfl)) JN) (pg_sub (pv 0) JN set_list))
   (QQ (Um (i:=3) scT.nd rfl (df rfl) (UJ UO (pv 0) JN (fun _ _=>rfl)))
   (QQ (Um (i:=4) scT.nd rfl (df rfl) (JL U9 (JL Uj (UJ UO (pv 0) JN (fun _ _=>rfl)) (JL Uv (JL Uv JN (JL Uj (JL Uj JN (pv 3)) (pv 3))) (JL Uj JN (pv 3)))) JN))
   (QQ (Um (i:=5) scT.nd rfl (df rfl) (JL Uv (JL Uv (JL U9 (pv 4) JN) (JL Uj (pv 3) JN)) JN))
   (QQ (Um (i:=4) scT.nd rfl (df rfl) (JL U9 (JL Uj (pv 4) (pv 5)) JN))
   (Z8 (VP (JL U9 (JL Uv (JL V8 (pv 4) JN) (JL V8 (pv 4) JN)) (pv 1))))))))),?_⟩
  refine⟨_,rfl,hd,_,_,_,rfl,rfl,.of u,rfl,_,_,rfl,rfl,_,rfl,?_⟩;refine ztY (fun c=>?_) (fun c=>?_)
  ·refine⟨_,rfl,hd,_,_,_,rfl,rfl,.of u,rfl,_,rfl,_,_,rfl,rfl,v,?_⟩;refine⟨_,rfl,hd,_,_,_,rfl,rfl,.of u,rfl,_,rfl,_,_,rfl,rfl,⟨v,x⟩,?_⟩;refine⟨_,rfl,hd,_,_,0,rfl,rfl,u,rfl,?_⟩;refine⟨_,rfl,?_⟩;exact q _ _ (g8 _ (by lia)) (hW _ v) ⟨_,_,_,J3,m0,m1,t0,by lia⟩ zhy
  ·refine⟨_,rfl,hd,_,_,_,rfl,rfl,.of u,rfl,_,_,rfl,rfl,?_⟩;refine⟨_,rfl,hd,_,_,2,rfl,rfl,u,rfl,?_⟩;refine⟨_,rfl,hd,_,_,_,rfl,rfl,.of J3,rfl,?_⟩;refine⟨_,rfl,hd,_,_,_,rfl,rfl,.of J3,rfl,_,rfl,_,_,rfl,rfl,.inl ⟨by decide,by decide⟩,_,rfl,_,_,rfl,rfl,.inr ⟨by lia,by lia⟩,_,_,rfl,rfl,_,rfl,_,_,rfl,rfl,.inl ⟨by decide,by decide⟩,_,_,rfl,rfl,_,_,rfl,rfl,.inl ⟨by lia,by lia⟩,_,_,rfl,rfl,(by show(0:Int)<2305843009213693921;decide),?_⟩
   refine⟨_,rfl,_,_,rfl,rfl,(by show(0:Int)<1000003;decide),_,rfl,_,_,rfl,rfl,.inr ⟨by decide,by decide⟩,_,_,rfl,rfl,_,_,rfl,rfl,?_⟩
   refine⟨_,rfl,_,rfl,_,_,rfl,rfl,.inl ⟨by lia,by lia⟩,_,_,rfl,rfl,(by show(0:Int)<2305843009213693907;decide),?_⟩
   refine⟨_,rfl,_,_,rfl,rfl,⟨by decide,by decide⟩,_,rfl,_,_,rfl,rfl,⟨by decide,by decide⟩,_,_,rfl,rfl,_,rfl,_,_,rfl,rfl,v,?_⟩
   exact q _ _ (g8 _ (by lia)) (hW _ v) ⟨_,_,_,J3,m0,m1,by lia,by lia⟩ zhy
theorem zhM{f:au}{fd:dJ}(D:Def K mg "_law_take" (top 39) ["_law_hand_here","_law_many"] f fd) (T:Txt mg):FnOk P w K mg base CX0 1 f fd ["_law_hand_here","_law_many"] (spD K 2 U7) :=
 (zo1 D T).imp zoy
def Ua(Z:ZZ):Prop:=FQ Z "_law_take" (top 39) ["_law_hand_here","_law_many"] 1 (spD Z.K 2 U7)
theorem zgM(D:Dq Z.K Z.mg "_law_take" (top 39) ["_law_hand_here","_law_many"]) (T:Txt Z.mg):Ua Z:=by
 obtain⟨f,fd,D⟩:=D;exact⟨f,fd,D,zhM D T⟩
def UR:GD:=fun ts n R=>match ts with
 | [h,.list xs]=>h=HAND/\xs≠[]/\xs.length<=1000000/\n<=1000000000000/\∀x∈xs,R x (n+1)
 | [h,.tuple xs]=>h=HAND/\xs≠[]/\xs.length<=1000000/\n<=1000000000000/\∀x∈xs,R x (n+1)
 | _=>False
theorem UE{xs:qD}{n:Nat}{R:qN}(h0:xs≠[])(o:xs.length<=1000000)(u:n<=1000000000000)(h:∀x∈xs,R x (n+1)):UR [HAND,.list xs] n R:=⟨rfl,h0,o,u,h⟩
def Q9(Z:ZZ):Prop:=FQ Z "_law_pick" (top 40) ["_law_hand_here","_law_some"] 2 (spD Z.K 2 UR)
theorem zhN(D:Dq Z.K Z.mg "_law_pick" (top 40) ["_law_hand_here","_law_some"]) (x:Ua Z) (T:Txt Z.mg):Q9 Z:=by
 refine' okQ D (fnS (N:=["_law_hand_here","_law_some"]) (by decide +kernel)) rfl fun f G A outer s H E y=>⟨_,(Jc (Jg (Je (dlv 1) (dl (Jd x y (dbv 0 (dbc (JA QP QN T.len QJ (Jm (dlv 1) Jo Jt)) Ja))))))),?_⟩
 intro ts n R J h;unfold UR at h;split at h
 ·rename_i hd xs;obtain⟨rfl,h0,I,o,h⟩:=h;have C:0<xs.length:=fM.mpr h0
  wp_walk using QV (by lia) (by lia) o (fun r u v=>?_)
  have l:r.toNat<xs.length:=by lia
  rw[Yv (Ve u (ak l))];exact h _ (c9 l)
 ·rename_i hd xs;obtain⟨rfl,h0,I,o,h⟩:=h;have C:0<xs.length:=fM.mpr h0
  wp_walk using QV (by lia) (by lia) o (fun r u v=>?_)
  have l:r.toNat<xs.length:=by lia
  rw[U0 (Ve u (ak l))];exact h _ (c9 l)
 ·exact h.elim
def zdq:GD:=fun ts n R=>match ts with
 | [h]=>h=HAND/\n<=1000000000000/\∀b:Int,1<=b->b<=64->R (.int b) (n+1)
 | _=>False
theorem zjE{n:Nat}{R:qN}(l:n<=1000000000000)(h:∀b:Int,1<=b->b<=64->R (.int b) (n+1)):zdq [HAND] n R:=⟨rfl,l,h⟩
def ze7(Z:ZZ):Prop:=FQ Z "_law_bits" (top 41) ["_law_hand_here"] 3 (spD Z.K 1 zdq)
theorem zhT(D:Dq Z.K Z.mg "_law_bits" (top 41) ["_law_hand_here"]) (l:Q9 Z) (T:Txt Z.mg):ze7 Z:=by
 refine' okQ D (fnS (N:=["_law_hand_here"]) (by decide +kernel)) rfl fun f u A outer s H E o=>⟨_,(Jc (Jg (Jd l o (dbv 0 (dbc (Jp (JH (dbc Ji (dbc Ji (dbc Ji (dbc Ji (dbc Ji (dbc Ji (dbc Ji (dbc Ji (dbc Ji (dbc Ji Ja)))))))))))) Ja))))),?_⟩
 intro ts n R y h;unfold zdq at h;split at h
 ·obtain⟨rfl,v,h⟩:=h;simp only[ZR,ZQ,ZS,ZP,u_dC,ZC,ZL,ZN,ZM,Z5,ZB,Vb,Vd,Z7,Z6,Vc,ZO,Z1,Ze,Y3,Y4,Y5,Zd,Y6,Y7,Zm,YH,YI,oSub,oMul,oMod,UI,oShl,oShr,oXor,oAnd,isNone,isInt,isBool,isTup,isStr,l_gI,Zz,YQ,YR,YS,Yp,Yr,Ys,Yq,YB,YA,YD,YC,Yu,Y8,Yt,Yx,Yw,YW,YX,YY,YU,YV,YZ,Y0,Yo,Yz,Yy,YT,Zl,Y9,Zk,Ur,Uq,Ux,Uz,UC,UD,UB,Yh,Qh,Jz,capV,aV,e8,aF,bo,cg,fN,dR,eW,cD,dP,eR,fk,fY,fO,fP,dZ,Nat.reduceAdd,Nat.reduceSub,iC,true_and,and_true,aN,if_true,if_false,ite_true,ite_false,eI,fo,gN,UR]
  refine⟨by simp,by decide,v,fun x hx=>?_⟩
  simp only[az,aO,or_false]at hx;rcases hx with rfl|rfl|rfl|rfl|rfl|rfl|rfl|rfl|rfl|rfl <;> exact h _ (by decide) (by decide)
 ·exact h.elim
def zcQ:GD:=fun ts n R=>match ts with
 | [h,.int bits]=>h=HAND/\1<=bits/\bits<=64/\n<=1000000000000 - 10/\∀i h:Int,IsBk bits i h->R (.tuple [.int i,.int h]) (n+3)
 | _=>False
theorem zeG{bits:Int}{n:Nat}{R:qN}(o:1<=bits)(v:bits<=64)(x:n<=1000000000000 - 10)(h:∀i h:Int,IsBk bits i h->R (.tuple [.int i,.int h]) (n+3)):zcQ [HAND,.int bits] n R:=⟨rfl,o,v,x,h⟩
def zcK(Z:ZZ):Prop:=FQ Z "_law_block" (top 42) ["_law_hand_here","_law_bits_here"] 3 (spD Z.K 2 zcQ)
theorem zgV(D:Dq Z.K Z.mg "_law_block" (top 42) ["_law_hand_here","_law_bits_here"]) (I:Q9 Z) (y:Ua Z) (T:Txt Z.mg):zcK Z:=by
 refine' okQ D (fnS (N:=["_law_hand_here","_law_bits_here","_law_height"]) (by decide +kernel)) rfl fun f U A outer s H E v=>⟨_,(Jb (dsv 2 (ndB rfl) (JA (Vm rfl) ZH T.min Yk (Jm (dlv 1) (Jm (dl (Jd I v (dbv 0 (dbc (Jp (JH (dbc Ji (dbc Ji (dbc Ji (dbc Ji (dbc Ji (dbc Ji (dbc (Jd y v (dbv 0 (dbc (Jr (dlv 1) dli) Ja))) (dbv 1 Ja)))))))))) Ja)))) Jo Uy) Jt))) (Jc (Jg (Jk (dbc (ZF (dl (Jd y v (dbv 0 (dbc (JW dli (dl (Qz (dlv 1) (dlv 2)))) Ja)))) (dl (JW dli (dlv 2)))) (dbv 2 Ja)))))),?_⟩
 intro ts n R hl h;unfold zcQ at h;split at h
 ·rename_i hd bits;obtain⟨rfl,b0,b1,Y,h⟩:=h;simp only[ZR,ZQ,ZS,ZP,u_dC,ZC,ZL,ZN,ZM,Z5,ZB,Vb,Vd,Z7,Z6,Vc,ZO,Z1,Ze,Y3,Y4,Y5,Zd,Y6,Y7,Zm,YH,YI,oSub,oMul,oMod,UI,oShl,oShr,oXor,oAnd,isNone,isInt,isBool,isTup,isStr,l_gI,Zz,YQ,YR,YS,Yp,Yr,Ys,Yq,YB,YA,YD,YC,Yu,Y8,Yt,Yx,Yw,YW,YX,YY,YU,YV,YZ,Y0,Yo,Yz,Yy,YT,Zl,Y9,Zk,Ur,Uq,Ux,Uz,UC,UD,UB,Yh,Qh,Jz,capV,aV,e8,aF,bo,cg,fN,dR,eW,cD,dP,eR,fk,fY,fO,fP,dZ,Nat.reduceAdd,Nat.reduceSub,iC,true_and,and_true,aN,if_true,if_false,ite_true,ite_false,eI,fo,gN,UR,U7]
  refine⟨by lia,by lia,by lia,fun r r0 r1=>⟨by simp,by decide,by lia,fun x hx=>?_⟩⟩
  have C:∃b:Int,x=.int b/\0<=b:=by
   simp only[az,aO,or_false]at hx;rcases hx with h|h|h|h|h|h|h|h <;> first|exact⟨_,h,by decide⟩|exact⟨_,h,by lia⟩
  obtain⟨b,rfl,bb⟩:=C;simp only[ZR,ZQ,ZS,ZP,u_dC,ZC,ZL,ZN,ZM,Z5,ZB,Vb,Vd,Z7,Z6,Vc,ZO,Z1,Ze,Y3,Y4,Y5,Zd,Y6,Y7,Zm,YH,YI,oSub,oMul,oMod,UI,oShl,oShr,oXor,oAnd,isNone,isInt,isBool,isTup,isStr,l_gI,Zz,YQ,YR,YS,Yp,Yr,Ys,Yq,YB,YA,YD,YC,Yu,Y8,Yt,Yx,Yw,YW,YX,YY,YU,YV,YZ,Y0,Yo,Yz,Yy,YT,Zl,Y9,Zk,Ur,Uq,Ux,Uz,UC,UD,UB,Yh,Qh,Jz,capV,aV,e8,aF,bo,cg,fN,dR,eW,cD,dP,eR,fk,fY,fO,fP,dZ,Nat.reduceAdd,Nat.reduceSub,iC,true_and,and_true,aN,if_true,if_false,ite_true,ite_false,eI,fo,gN,U7]
  have key:∀m:Int,0<=m->m<=bits->(CPow 1 (bits - m)/\(0:Int)<1*2 ^ (bits - m).toNat/\1*2 ^ (bits - m).toNat<(2:Int) ^ 128/\n+1+1<=1000000000000/\∀r:Int,0<=r->r<1*2 ^ (bits - m).toNat->CPow 1 m/\CMul r (1*2 ^ m.toNat)/\R (.tuple [.int (r*(1*2 ^ m.toNat)),.int m]) (n+1+1+1)):=by
   intro m m0 m1;have G:(1:Int)*2 ^ (bits - m).toNat=2 ^ (bits - m).toNat:=cK _;have S:(1:Int)*2 ^ m.toNat=2 ^ m.toNat:=cK _;rw[G,S];refine⟨cpow (by lia) (by lia),Qw _,zmo (by lia),by lia,fun k J L=>⟨cpow m0 (by lia),.inl ⟨by lia,?_⟩,?_⟩⟩
   ·have:=zgL (k:=(bits - m).toNat) (by lia);lia
   ·exact h _ m ⟨m0,m1,k,J,rfl,L⟩
  exact key (if b<bits then b else bits) (by split <;> lia) (by split <;> lia)
 ·exact h.elim
def zfk:GD:=fun ts n R=>∃bits i h:Int,ts=[HAND,.int bits,.tuple [.int i,.int h]]/\1<=bits/\bits<=64/\n<=1000000000000 - 100/\IsBk bits i h/\∀j g:Int,IsBk bits j g->R (.tuple [.int j,.int g]) (n+7)
theorem zfz{bits i h:Int}{n:Nat}{R:qN}(v:1<=bits)(o:bits<=64)(x:n<=1000000000000 - 100)(B:IsBk bits i h)(h':∀j g:Int,IsBk bits j g->R (.tuple [.int j,.int g]) (n+7)):zfk [HAND,.int bits,.tuple [.int i,.int h]] n R:=⟨_,_,_,rfl,v,o,x,B,h'⟩
def ze3(Z:ZZ):Prop:=FQ Z "_law_near" (top 43) ["_law_hand_here","_law_bits_here","_law_block_here"] 4 (spD Z.K 3 zfk)
theorem zhO(D:Dq Z.K Z.mg "_law_near" (top 43) ["_law_hand_here","_law_bits_here","_law_block_here"]) (I:Q9 Z) (C:zcK Z) (T:Txt Z.mg):ze3 Z:=by
 refine' okQ D (fnS (N:=["_law_hand_here","_law_bits_here","_law_block_here","_law_begin","_law_height","_law_size","_law_some"]) (by decide +kernel)) rfl fun f J A outer s H E v=>⟨_,(Jb (QA (Jj 2) (JE rfl (Jl (dgv 3 (ndB rfl)) (Jl (dgv 4 (ndB rfl)) JD)))) (Jb (dsv 5 (ndB rfl) (JW dli (dlv 4))) (Jb (QM (i:=6) (ndB rfl) rfl (df rfl) (JH (dbv 2 (dbc (Jk (dbv 3 (dbc (JA (Zi rfl) YM T.max Zg (Jm dli (Jm (dl (Qz (dlv 4) dli)) Jo VS) ZK)) Ja))) (dbc (Jd C v (dbv 0 (dbv 1 Ja))) (dbc (Jd C v (dbv 0 (dbv 1 Ja))) Ja)))))) (Jb (Js (Jn Ue gp_B (dlv 4) dli (Jh _)) (Jc (Qm 6 (Jk (dbc (Jr (dlv 3) (dl (znG (dlv 5) dli))) (dbc (Qz (dlv 4) dli) Ja))))) Jy) (Jb (Js (Jn (Qu v) Qt (dlv 4) (dlv 1) (Jh _)) (Jb (Qm 6 (Jk (dbc (Qz (dlv 3) (dl (VA (dlv 3) (dl (ZF dli (dlv 5)))))) (dbc (Jr (dlv 4) dli) Ja)))) (Jc (Qm 6 (Jk (dbc (znF (dlv 3) (dlv 5)) (dbv 4 Ja)))))) Jy) (Jb (Js (Jn Ui Uh (dl (Jr (dlv 3) (dl (ZF dli (dlv 5))))) (dl (JW dli (dlv 1))) (Jh _)) (Jc (Qm 6 (Jk (dbc (Jr (dlv 3) (dlv 5)) (dbv 4 Ja))))) Jy) (QS 6 (Jc (Jg (Jd I v (dbv 0 (dbv 6 Ja)))))))))))),?_⟩
 intro ts n R hl y;obtain⟨bits,i,h,rfl,U,S,L,B,y⟩:=y;have h0:=B.1;have Y:=B.2.1;have o:∀j g:Int,IsBk bits j g->∀m,m=n+7->R (.tuple [.int j,.int g]) m:=fun j g b m e=>e▸y j g b
 have G:IsBk bits i (if h - 1 > 0 then h - 1 else 0):=by
  split
  ·exact B.low (by lia)
  ·by_cases z:h=0
   ·subst z;exact B
   ·have:h=1:=by lia
    subst this;exact B.low (by decide)
 wp_walk using zeG ?_ ?_ ?_ (fun _ _ _=>?_),UE ?_ ?_ ?_ ?_
 all_goals first
  | lia
  | exact cpow (by lia) (by lia)
  | exact zxe
  | exact zuQ
  | (rw[Q3];exact Int.mul_pos (by decide) (Qw _))
  | (intro z;simp at z;done)
  | (simp only[dR,eW,aF,bo];decide)
  | skip
 all_goals
  simp only[dR,eW,m9,Q3]at *
  repeat' (with_reducible refine nv ?_ ?_)
 all_goals first
  | exact o _ _ B _ rfl
  | exact o _ _ G _ rfl
  | exact o _ _ (by assumption) _ rfl
  | exact o _ _ (B.up (by lia)) _ rfl
  | exact o _ _ (B.abt (by lia)) _ rfl
  | exact o _ _ (B.oth (by lia)) _ rfl
  | exact o _ _ (B.nxt (by assumption)) _ rfl
  | (intro x hx;simp at hx)
def zdZ:GD:=fun ts n R=>∃bits most:Int,ts=[HAND,.int bits,.int most]/\1<=bits/\bits<=64/\0<=most/\most<=1000/\n<=1000000000000 - 100000/\∀(bs:qB) (m:Nat),Bks bits bs->bs.length<=most.toNat->m<=n+1+12*most.toNat->R (.list (pD bs)) m
theorem zhd{bits most:Int}{n:Nat}{R:qN}(o:1<=bits)(u:bits<=64)(m0:0<=most)(m1:most<=1000)(v:n<=1000000000000 - 100000)(h:∀(bs:qB) (m:Nat),Bks bits bs->bs.length<=most.toNat->m<=n+1+12*most.toNat->R (.list (pD bs)) m):zdZ [HAND,.int bits,.int most] n R:=⟨bits,most,rfl,o,u,m0,m1,v,h⟩
def zdJ(Z:ZZ):Prop:=FQ Z "_law_blocks" (top 44) ["_law_hand_here","_law_bits_here","_law_most"] 5 (spD Z.K 3 zdZ)
theorem zfK(D:Dq Z.K Z.mg "_law_blocks" (top 44) ["_law_hand_here","_law_bits_here","_law_most"]) (Hk:Ua Z) (Ht:zcK Z) (HV:ze3 Z) (Hl:Q9 Z) (T:Txt Z.mg):zdJ Z:=by
 refine' okQ D (fnS (N:=["_law_hand_here","_law_bits_here","_law_most","_law_found","_law_k","_law_block_here"]) (by decide +kernel)) rfl fun f am A outer s H E G=>⟨_,(Jb (QM (i:=3) (ndB rfl) rfl (df rfl) (JH Ja)) (Jb (Qg bw rfl (Vn T.ran (Jd Hk G (dbv 0 (dbc (Jr (dlv 2) dli) Ja)))) (dgv 4 (ndB rfl)) (Jb (dsv 5 (ndB rfl) (Jd Ht G (dbv 0 (dbv 1 Ja)))) (Jb (Js (JT (QX (Jn (Uk G) Ud (U6 3) (dl (Jp (JH Ja))) (Jh _)) (Q6 (Jn Ue gp_B (dl (Jd Hk G (dbv 0 (dbc Ji Ja)))) dli (Jh _))))) (Jc (dsv 5 (ndB rfl) (Jd HV G (dbv 0 (dbv 1 (dbc (zuM Hl G (Jm (dlv 0) (Jm (U6 3) Jo Jt) Jt)) Ja)))))) Jy) (Jc (Qm 3 (Jj 5)))))) (QS 3 (Jc (Jg (Jj 3)))))),?_⟩
 intro ts n R hl I;obtain⟨bits,most,rfl,b0,b1,m0,m1,hn,I⟩:=I
 wp_walk using QV ?_ ?_ ?_ (fun r r0 r1=>?_)
 ·lia
 ·lia
 ·lia
 ·lia
 ·lia
 refine UT (fun k S m=>∃bs:List (Int×Int),∃Y c5,S=[some (.val HAND),some (.val (.int bits)),some (.val (.int most)),some (.own (pD bs)),Y,c5]/\Bks bits bs/\bs.length=k/\m<=n+1+12*k) ⟨[],_,_,rfl,(fun b L=>nomatch L),rfl,by lia⟩ ?_ ?_
 ·rintro k t S m K et ⟨bs,Y,c5,rfl,B,J,hm⟩ hK;obtain⟨hk2,rfl⟩:=zf2 et;have hk3:k<1000:=by lia
  have fin:∀(i h:Int) (x4 x5:Option Cell) (U:Nat),IsBk bits i h->U<=m+12->K [some (.val HAND),some (.val (.int bits)),some (.val (.int most)),some (.own (pD bs++[.tuple [.int i,.int h]])),x4,x5] U:=fun i h x4 x5 U C hm' =>
   hK _ _ ⟨bs++[(i,h)],_,_,by rw[<- Y1],B.app C,by simp[J],by lia⟩
  wp_walk using zeG ?_ ?_ ?_ (fun i h C=>?_),QV ?_ ?_ ?_ (fun q q0 q1=>?_),UE ?_ ?_ ?_ ?_,zfz ?_ ?_ ?_ ?_ (fun j g C'=>?_)
  all_goals first
   | lia
   | exact ztg
   | exact zi2
   | (rw[JI];lia)
   | decide
   | (intro z
      have y:eD (.list (pD bs)) (.list [])=false:=by assumption
      rw[zrD]at y;have y2:bs=[]:=by
       have:=congrArg eJ z;rw[JI]at this;exact eQ.mp this
      rw[y2]at y;cases y)
   | exact fin _ _ _ _ _ (by assumption) (by lia)
   | skip
  all_goals
   intro x hx;obtain⟨b,L,rfl⟩:=aS.mp hx;refine⟨zk4,?_⟩;have C0:=B b L
   wp_walk using zfz ?_ ?_ ?_ ?_ (fun j g C'=>?_)
   all_goals first
    | lia
    | exact C0
    | (rw[JI];lia)
    | exact fin _ _ _ _ _ (by assumption) (by lia)
 ·rintro S m ⟨bs,Y,c5,rfl,B,J,hm⟩;have el:bs.length<=most.toNat:=by
   rw[J];unfold Qj;simp;lia
  wp_walk
  exact I bs m B el (by lia)
def zeD:GD:=fun ts n R=>∃bits most:Int,ts=[HAND,.int bits,.int most]/\1<=bits/\bits<=64/\0<=most/\most<64/\n<=1000000000000 - 100000/\∀(bs:qB) (m:Nat),Ptc bits bs->bs.length<=most.toNat->m<=n+1+12*most.toNat->R (.tuple (pD bs)) m
theorem zeF{bits most:Int}{n:Nat}{R:qN}(o:1<=bits)(v:bits<=64)(m0:0<=most)(m1:most<64)(x:n<=1000000000000 - 100000)(h:∀(bs:qB) (m:Nat),Ptc bits bs->bs.length<=most.toNat->m<=n+1+12*most.toNat->R (.tuple (pD bs)) m):zeD [HAND,.int bits,.int most] n R:=⟨bits,most,rfl,o,v,m0,m1,x,h⟩
def zex(Z:ZZ):Prop:=FQ Z "_law_patch" (top 45) ["_law_hand_here","_law_bits_here","_law_most"] 6 (spD Z.K 3 zeD)
theorem zgT(D:Dq Z.K Z.mg "_law_patch" (top 45) ["_law_hand_here","_law_bits_here","_law_most"]) (HJ:zdJ Z) (T:Txt Z.mg):zex Z:=by
 refine' okQ D (fnS (N:=["_law_hand_here","_law_bits_here","_law_most","_law_found","_law_begin","_law_height"]) (by decide +kernel)) rfl fun f am A outer s H E hr=>⟨_,(Jb (QM (i:=3) (ndB rfl) rfl (df rfl) (JH Ja)) (Jb (Qg bw rfl (Yb (Jd HJ hr (dbv 0 (dbv 1 (dbv 2 Ja))))) (JE rfl (Jl (dgv 4 (ndB rfl)) (Jl (dgv 5 (ndB rfl)) JD))) (Jc (Js (JU (dl (JA (Zh rfl) YL T.all Zf (Jm (dl (Jp (dnc ["_law_one"] [4,5] (zpv (U6 3)) (fun _ _ _ _=>(dgv 0 (ndB rfl))) (fun _ _ _ _=>(zuK (Qi Ui Uh (dl (Jr (dlv 1) (dl (JW dli (dlv 2))))) (dl (Je (dlv 0) dli)) (Jh _)) (Uf (Qi Ui Uh (dl (Jr (dl (Je (dlv 0) dli)) (dl (JW dli (dl (Je (dlv 0) dli)))))) (dlv 1) (Jh _)))))))) Jo Q7)))) (Jc (Qm 3 (Jk (dbv 4 (dbv 5 Ja))))) Jy))) (QS 3 (Jc (Jg (Qp Ub Q1 T.tup Qa (Jm (dl (Jp (zis hr T.srt (dlv 3) Jt))) Jo Uy))))))),?_⟩
 intro ts n R hl I;obtain⟨bits,most,rfl,b0,b1,m0,m1,hn,I⟩:=I
 wp_walk using zhd ?_ ?_ ?_ ?_ ?_ (fun bs m B hlen hm=>?_)
 ·lia
 ·lia
 ·lia
 ·lia
 ·lia
 refine UT (fun k J L=>L=m/\∃cs:List (Int×Int),∃S U,J=[some (.val HAND),some (.val (.int bits)),some (.val (.int most)),some (.own (pD cs)),S,U]/\Bks bits cs/\(cs.Pairwise fun a b=>eB a<=b.1\/eB b<=a.1)/\cs.length<=k) ⟨rfl,[],_,_,rfl,(fun b y=>nomatch y),.nil,aE _⟩ ?_ ?_
 ·rintro k t J L K et ⟨rfl,cs,S,U,rfl,C,u,hk⟩ hK;obtain⟨i,h,Y,rfl⟩:=ZW et;have y:=B _ (aH Y);have h0:0<=h:=y.1;have h1:h<=bits:=y.2.1;have hk3:k<64:=by
   have:=(av.mp Y).1;lia
  wp_walk
  refine QH (D:=prD) (fun b=>.bool (decide (i+2 ^ h.toNat<=b.1)||decide (eB b<=i))) (by lia) ?_ ?_
  ·rintro⟨i',h'⟩ x K2 X2 hK2;have G:=C _ x;have h0':0<=h':=G.1;have h1':h'<=bits:=G.2.1
   wp_walk
   ·exact cpow (by lia) (by lia)
   ·have hc:i+2 ^ h.toNat<=i':=by rw[Q3]at hc;exact hc
    rw[decide_eq_true hc]at hK2;exact hK2
   ·exact cpow (by lia) (by lia)
   ·have hc:¬i+2 ^ h.toNat<=i':=by rw[Q3]at hc;exact hc
    rw[decide_eq_false hc]at hK2;rw[Q3];exact hK2
  ·wp_walk using YN ?_
   ·rw[JI];lia
   ·have al:∀b∈cs,i+2 ^ h.toNat<=b.1\/eB b<=i:=fun b y=>by
     have:=bM.mp hc b y;simpa using this
    refine hK _ _ ⟨rfl,cs++[(i,h)],_,_,by rw[<- Y1],C.app y,?_,by simp;lia⟩
    rw[cq];refine⟨u,dU _ _,fun a ha b x=>?_⟩
    cases aA.mp x;rcases al a ha with z|z
    ·exact .inr z
    ·exact .inl z
   ·exact hK _ _ ⟨rfl,cs,_,_,rfl,C,u,by lia⟩
 ·rintro J L ⟨rfl,cs,S,U,rfl,C,u,hk⟩;rw[JI]at hk
  wp_walk
  refine ztB b1 C u (by lia) fun es P pm=>?_
  wp_walk
  exact I es _ P (by have:=pm.length_eq;lia) (by lia)
def nmL(l:List Nat)(k c:Nat):Str:=⟨(l.take k++[c]++l.drop k).toArray⟩
theorem zto{u:List Nat}{k c:Nat}(y:u.length<=7)(v:∀x∈u,97<=x/\x<=122)(hc:97<=c/\c<=122):IsNm (nmL u k c):=by
 have e:(nmL u k c).cps.toList=u.take k++[c]++u.drop k:=rfl;have l:(nmL u k c).length=u.length+1:=by
  rw[<- QE,e];simp;lia
 refine⟨by lia,by lia,fun x hx=>?_⟩
 rw[e]at hx;simp only[ax,aA]at hx;rcases hx with(hx|rfl)|hx
 ·exact v x (dQ hx)
 ·exact hc
 ·exact v x (fC hx)
theorem zq0{l:List Nat}{k c d:Nat}(h:nmL l k c=nmL l k d):c=d:=by
 have e:l.take k++[c]++l.drop k=l.take k++[d]++l.drop k:=congrArg (fun s:Str=>s.cps.toList) h
 rw[bL,bL]at e;have:=List.append_cancel_left e;simpa using this
theorem znM{step:Int}(h:step=1\/step=3\/step=5\/step=7\/step=9\/step=11){first i j:Int}(o:0<=i)(u:i<26)(v:0<=j)(l:j<26)(e:(first+step*i) % 26=(first+step*j) % 26):i=j:=by
 rcases h with rfl|rfl|rfl|rfl|rfl|rfl <;> lia
def zeE:GD:=fun ts n R=>∃many:Int,ts=[HAND,.int many]/\0<=many/\many<=26/\n<=1000000000000 - 1000/\∀o:List Str,o.length=many.toNat->(∀s∈o,IsNm s)->o.Nodup->R (.list (o.map .str)) (n+5)
theorem ziN{many:Int}{n:Nat}{R:qN}(m0:0<=many)(m1:many<=26)(u:n<=1000000000000 - 1000)(h:∀o:List Str,o.length=many.toNat->(∀s∈o,IsNm s)->o.Nodup->R (.list (o.map .str)) (n+5)):zeE [HAND,.int many] n R:=⟨many,rfl,m0,m1,u,h⟩
def zey(Z:ZZ):Prop:=FQ Z "_law_names" (top 46) ["_law_hand_here","_law_many"] 3 (spD Z.K 2 zeE)
theorem zgU(D:Dq Z.K Z.mg "_law_names" (top 46) ["_law_hand_here","_law_many"]) (J:Ua Z) (Hl:Q9 Z) (T:Txt Z.mg):zey Z:=by
 refine' okQ D (fnS (N:=["_law_hand_here","_law_many","_law_letters","_law_first","_law_step","_law_stem","_law_at"]) (by decide +kernel)) rfl fun f am A outer s H E G=>⟨_,(Jb (dsv 2 (ndB rfl) JK) (Jb (QA (Jk (dbc (Jd J G (dbv 0 (dbc Ji Ja))) (dbc (Jd Hl G (dbv 0 (dbc (Jp (JH (dbc Ji (dbc Ji (dbc Ji (dbc Ji (dbc Ji (dbc Ji Ja)))))))) Ja))) Ja))) (JE rfl (Jl (dgv 3 (ndB rfl)) (Jl (dgv 4 (ndB rfl)) JD)))) (Jb (dsv 5 (ndB rfl) (zrJ (dl (Je (dlv 2) (dl (Jd J G (dbv 0 (dbc Ji Ja)))))) (dl (Jd Hl G (dbv 0 (dbc (Jp (JH (dbc Ji (dbc Ji (dbc Ji (dbc Ji (dbc Ji Ja))))))) Ja)))))) (Jb (dsv 6 (ndB rfl) (Jd J G (dbv 0 (dbc (Jr (dl (JA QP QN T.len QJ (Jm (dlv 5) Jo Jt))) dli) Ja)))) (Jc (Jg (Jp (dnc ["_law_k"] [5,2,6,3,4] (dil (Vn T.ran (Jj 1))) (fun _ _ _ _=>(dgv 0 (ndB rfl))) (fun _ _ _ _=>(Jr (dl (Jr (dl (QI (dlv 1) Qy (Qs (Jj 3)))) (dl (Je (dlv 2) (dl (VA (dl (Jr (dlv 4) (dl (ZF (dlv 5) (dlv 0))))) dli)))))) (dl (QI (dlv 1) (Qs (Jj 3)) Qy)))))))))))),?_⟩
 intro ts n R hl h;obtain⟨many,rfl,m0,m1,hn,h⟩:=h
 wp_walk using QV ?_ ?_ ?_ (fun r r0 r1=>?_),UE ?_ ?_ ?_ (fun x hx=>?_)
 all_goals first|lia|exact cpow (by lia) (by lia)|(simp;done)|skip
 rename_i first f0 f1
 revert r r0 r1;intro l l0 l1;obtain⟨step,rfl,C⟩:∃s:Int,x=.int s/\(s=1\/s=3\/s=5\/s=7\/s=9\/s=11):=by
  simp only[az,aO,or_false]at hx;rcases hx with rfl|rfl|rfl|rfl|rfl|rfl <;> exact⟨_,rfl,by simp⟩
 refine ztL (k:=l.toNat) (by decide) (by lia) (letters (by lia)) ?_
 wp_walk using UE ?_ ?_ ?_ (fun y Y=>?_)
 all_goals first|lia|exact cpow (by lia) (by lia)|(simp;done)|skip
 obtain⟨m,rfl,mm0,mm7⟩:∃m:Int,y=.int m/\0<=m/\m<=7:=by
  simp only[az,aO,or_false]at Y;rcases Y with rfl|rfl|rfl|rfl|rfl <;> exact⟨_,rfl,by decide,by decide⟩
 have v:(repS (⟨#[97+l.toNat]⟩:Str) m).cps.toList=bZ m.toNat (97+l.toNat):=by
  rw[zoN];show(bZ m.toNat [97+l.toNat]).flatten=_
  generalize m.toNat=k;induction k with
  | zero=>rfl
  | succ k ih=>rw[cg,k8,ih,cg];rfl
 have u:(repS (⟨#[97+l.toNat]⟩:Str) m).length=m.toNat:=by rw[<- QE,v,iE]
 wp_walk using QV ?_ ?_ ?_ (fun a a0 a1=>?_)
 ·lia
 ·lia
 ·show 1<=100;decide
 ·rw[u];lia
 ·rw[u];lia
 ·rw[u];lia
 ·lia
 ·lia
 ·lia
 rw[u]at a1;generalize repS (⟨#[97+l.toNat]⟩:Str) m=Hw at v u;have U:∀x∈Hw.cps.toList,97<=x/\x<=122:=fun x hx=>by
  rw[v]at hx;have:=List.eq_of_mem_replicate hx;lia
 refine QH (cs:=dW many.toNat) (D:=fun(i:Nat)=>.int (0+(i:Int))) (fun i=>.str (nmL Hw.cps.toList a.toNat (97+((first+step*(i:Int)) % 26).toNat))) (by simp;lia) ?_ ?_
 ·intro i hi K2 X2 I;have hi:=gz.mp hi;have q0:0<=(first+step*(0+(i:Int))) % 26:=g8 _ (by decide)
  have q1:(first+step*(0+(i:Int))) % 26<26:=hW _ (by decide)
  wp_walk using ztL (k:=((first+step*(0+(i:Int))) % 26).toNat) (by decide) (by lia) (letters (by lia)) ?_
  all_goals first
   | lia
   | exact .inl ⟨by lia,by lia⟩
   | skip
  ·have l3:(cutS Hw none (some a)).length<=7:=by
    rw[<- QE,zfu (k:=a.toNat) (by lia)]
    have:=QE Hw;simp;lia
   show(cutS Hw none (some a)).length+1<=16777216
   lia
  ·have l3:(cutS Hw none (some a)).length<=7:=by
    rw[<- QE,zfu (k:=a.toNat) (by lia)]
    have:=QE Hw;simp;lia
   have l4:(cutS Hw (some a) none).length<=7:=by
    rw[<- QE,zix (k:=a.toNat) (by lia) (by lia),gG]
    have:=QE Hw;lia
   rw[<- QE,zjG,aJ,QE];show _+1+_<=_
   lia
  ·have e:(cutS Hw none (some a)++(⟨#[97+((first+step*(0+(i:Int))) % 26).toNat]⟩:Str)++cutS Hw (some a) none)=nmL Hw.cps.toList a.toNat (97+((first+step*(i:Int)) % 26).toNat):=by
    apply L2.Str.ext';rw[zjG,zjG,zfu (k:=a.toNat) (by lia),zix (k:=a.toNat) (by lia) (by lia),Int.zero_add]
    rfl
   rw[e];exact I
 ·have e:((dW many.toNat).map fun(i:Nat)=>cF (nmL Hw.cps.toList a.toNat (97+((first+step*(i:Int)) % 26).toNat)))=((dW many.toNat).map fun(i:Nat)=>nmL Hw.cps.toList a.toNat (97+((first+step*(i:Int)) % 26).toNat)).map .str:=by rw[bT];rfl
  rw[e];have S:∀i:Nat,0<=(first+step*(i:Int)) % 26/\(first+step*(i:Int)) % 26<26:=fun i=>⟨g8 _ (by decide),hW _ (by decide)⟩
  refine h _ (by simp) (fun s hs=>?_) ?_
  ·obtain⟨i,hi,rfl⟩:=aS.mp hs;have:=S i;have:=QE Hw;exact zto (by lia) U (by lia)
  ·rw[List.Nodup,eP];refine gZ ?_ (List.nodup_range (n:=many.toNat));intro i j hi hj ne e;have hi:=gz.mp hi;have hj:=gz.mp hj;have e':=zq0 e;have:=S i;have:=S j;have:=znM C (first:=first) (i:=i) (j:=j) (by lia) (by lia) (by lia) (by lia) (by lia)
   exact ne (by lia)
def zfm:GD:=fun ts n R=>∃(bits most:Int) (o:List Str),ts=[HAND,.int bits,.list (nD o),.int most]/\1<=bits/\bits<=64/\0<=most/\most<64/\o≠[]/\o.length<=1000/\(∀s∈o,IsNm s)/\n<=1000000000000 - 200000 /\
 ∀(d:Deal) (m:Nat),Dl d->d.1=bits->d.2.1.length<=most.toNat->d.2.2.length<=most.toNat->(∀p∈d.2.1++d.2.2,p.2∈o)->m<=n+10000->R (dlD d) m
theorem zfB{bits most:Int}{o:List Str}{n:Nat}{R:qN}(v:1<=bits)(x:bits<=64)(m0:0<=most)(m1:most<64)(ne:o≠[])(l:o.length<=1000)(u:∀s∈o,IsNm s)(y:n<=1000000000000 - 200000)
 (h:∀(d:Deal) (m:Nat),Dl d->d.1=bits->d.2.1.length<=most.toNat->d.2.2.length<=most.toNat->(∀p∈d.2.1++d.2.2,p.2∈o)->m<=n+10000->R (dlD d) m):zfm [HAND,.int bits,.list (nD o),.int most] n R:=⟨bits,most,o,rfl,v,x,m0,m1,ne,l,u,y,h⟩
def ze5(Z:ZZ):Prop:=FQ Z "_law_deal" (top 47) ["_law_hand_here","_law_bits_here","_law_names_here","_law_most"] 7 (spD Z.K 4 zfm)
theorem zhR(D:Dq Z.K Z.mg "_law_deal" (top 47) ["_law_hand_here","_law_bits_here","_law_names_here","_law_most"]) (HF:zex Z) (Hl:Q9 Z) (Hk:Ua Z) (T:Txt Z.mg):ze5 Z:=by
 refine' okQ D (fnS (N:=["_law_hand_here","_law_bits_here","_law_names_here","_law_most","_law_outs","_law_kept","_law_block_here","_law_name","_law_size","_law_there"]) (by decide +kernel)) rfl fun f am A outer s H E Y=>⟨_,(Jb (Yc (US (i:=4) (ndB rfl) rfl (df rfl) (own:=["_law_block_here"]) (capt:=[0,2]) rfl (JB.of rfl) (dil (JR (Jd HF Y (dbv 0 (dbv 1 (dbv 3 Ja)))))) (fun _ _ _ _=>(dgv 0 (ndB rfl))) (by decide) (fun _ _ _ _=>Uw) (fun _ _ _ _=>(Jk (dbv 0 (dbc (Jd Hl Y (dbv 1 (dbv 2 Ja))) Ja)))))) (Jb (QM (i:=5) (ndB rfl) rfl (df rfl) (JH Ja)) (Jb (Qg bw rfl (JR (Jd HF Y (dbv 0 (dbv 1 (dbv 3 Ja))))) (dgv 6 (ndB rfl)) (Jb (dsv 7 (ndB rfl) (Jd Hl Y (dbv 0 (dbv 2 Ja)))) (Jb (dsv 8 (ndB rfl) (JW dli (dl (Je (dlv 6) dli)))) (Jb (Yc (US (i:=9) (ndB rfl) rfl (df rfl) (own:=["_law_one"]) (capt:=[8,6]) rfl (JB.of rfl) (dil (Yb (Jj 4))) (fun _ _ _ _=>(dgv 0 (ndB rfl))) (by decide) (fun _ _ _ _=>(UN (JT (QX (Jn (Qu Y) Qt (dl (Je (dl (Je (dlv 0) dli)) dli)) (dl (Jr (dl (Je (dlv 2) dli)) (dlv 1))) (Jh _)) (Q6 (Jn (Qu Y) Qt (dl (Je (dlv 2) dli)) (dl (Jr (dl (Je (dl (Je (dlv 0) dli)) dli)) (dl (JW dli (dl (Je (dl (Je (dlv 0) dli)) dli)))))) (Jh _))))))) (fun _ _ _ _=>(Jj 0)))) (Jb (Js (JT (Qf (Jn (J7 Y) J6 (dlv 9) (dl (Jp (JH Ja))) (Jh _)) (QB (Jn (J7 Y) J6 (dl (Jd Hk Y (dbv 0 (dbc Ji Ja)))) dli (Jh _))))) (Jc (dsv 7 (ndB rfl) (Je (dl (Jp (VC (dl (Jp (dnc ["_law_one"] [] (dil (Yb (Jj 9))) (fun _ _ _ _=>(dgv 0 (ndB rfl))) (fun _ _ _ _=>(Je (dlv 0) dli))))) (dl (Jp (JH (dbv 7 Ja))))))) dli))) Jy) (Jc (Js (Jn (J7 Y) J6 (dl (Jp (dnf ["_law_one"] [7] (dil (Yb (Jj 9))) (fun _ _ _ _=>(dgv 0 (ndB rfl))) (fun _ _ _ _=>(UN (Jn (Uk Y) Ud (dl (Je (dlv 0) dli)) (dlv 1) (Jh _)))) (fun _ _ _ _=>(Jj 0))))) (dl (Jp (JH Ja))) (Jh _)) (Jc (Qm 5 (Jk (dbv 6 (dbv 7 Ja))))) Jy))))))) (QS 5 (Jc (Jg (Jk (dbv 1 (dbc (Qp Ub Q1 T.tup Qa (Jm (dlv 4) Jo Jt)) (dbc (Qp Ub Q1 T.tup Qa (Jm (dlv 5) Jo Jt)) Ja)))))))))),?_⟩
 intro ts n R hl h;obtain⟨bits,most,G,rfl,b0,b1,m0,m1,ne,l,hm,hn,h⟩:=h;have pick:∀{n:Nat} {Q:qN},n<=1000000000000->(∀s∈G,Q (.str s) (n+1))->UR [HAND,.list (nD G)] n Q:=fun {n Q} hn J=>UE (by intro z;cases G with|nil=>exact ne rfl|cons a b=>cases z) (by simp[nD];lia) hn fun x hx=>by
  obtain⟨s,hs,rfl⟩:=aS.mp hx;exact J s hs
 wp_walk using zeF b0 b1 m0 m1 ?_ (fun bs m P hlen hm1=>?_)
 ·lia
 refine znQ (fun j acc m'=>m'=m+j/\∃os:List ((Int×Int)×Str),acc=oD os/\os.map (·.1)=bs.take j/\∀p∈os,p.2∈G) ⟨rfl,[],rfl,by simp,fun p C=>nomatch C⟩ ?_ ?_
 ·rintro j x acc m' K ej ⟨rfl,os,rfl,e1,e2⟩ hK;obtain⟨i,g,eb,rfl⟩:=ZW ej;have jl:=(av.mp eb).1;have lo:os.length=j:=by
   have:=congrArg eJ e1;simp at this;lia
  wp_walk using pick ?_ (fun s hs=>?_)
  ·lia
  ·rw[QG];lia
  ·refine hK _ _ ⟨by lia,os++[((i,g),s)],by simp[oD],?_,?_⟩
   ·rw[eh,e1,dF,eb];rfl
   ·intro p C;rcases ax.mp C with z|z
    ·exact e2 p z
    ·cases aA.mp z;exact hs
 ·rintro acc m' ⟨rfl,os,rfl,e1,e2⟩;rw[JI,fe]at e1
  wp_walk using zeF b0 b1 m0 m1 ?_ (fun cs m2 P2 hlen2 hm2=>?_)
  ·rw[JI];lia
  rw[JI]at hm2;have lo:os.length=bs.length:=by rw[<- aM (f:=(·.1)),e1]
  have Bo:∀p∈os,IsBk bits p.1.1 p.1.2:=fun p C=>P.1 _ (by rw[<- e1];exact aS.mpr ⟨p,C,rfl⟩)
  refine zuz 5 6 7 8 9 (fun k a5 _ _ _ _ m'=>m'<=m2+2*k/\∃L:List ((Int×Int)×Str),a5=some (.own (oD L))/\(L.map (·.1)).Sublist (cs.take k)/\(∀q∈L,q.2∈G)/\Agr os L) ⟨by lia,[],rfl,by simp,fun q J=>(nomatch J),fun p C q J=>(nomatch J)⟩ ?_ ?_
  ·rintro k t a5 a6 a7 a8 a9 m' K RT BK et ⟨hm',L,rfl,sb,kn,ag⟩ hK hRT hBK;obtain⟨i,g,eb,rfl⟩:=ZW et;have kl:=(av.mp eb).1;have Bb:=P2.1 _ (aH eb);have g0:0<=g:=Bb.1;have g1:g<=bits:=Bb.2.1;have pg:=Qw g.toNat;have tk:cs.take (k+1)=cs.take k++[(i,g)]:=by rw[dF,eb];rfl
   have lks:L.length<=64:=by
    have:=sb.length_le;simp at this;lia
   have skip:∀(I:Nat) (b6 b7 b8 b9:Option Cell),I<=m'+2->K [some (.val HAND),some (.val (.int bits)),some (.val (.list (nD G))),some (.val (.int most)),some (.val (.list (oD os))),some (.own (oD L)),b6,b7,b8,b9] I:=fun I b6 b7 b8 b9 h2 =>
    hK _ _ _ _ _ _ ⟨by lia,L,rfl,by rw[tk];exact sb.trans (List.sublist_append_left _ _),kn,ag⟩
   have put:∀(I:Nat) (b6 b7 b8 b9:Option Cell) (s:Str),I<=m'+2->s∈G->(∀p∈os,p.1.1<i+2 ^ g.toNat->i<p.1.1+2 ^ p.1.2.toNat->p.2=s)->K [some (.val HAND),some (.val (.int bits)),some (.val (.list (nD G))),some (.val (.int most)),some (.val (.list (oD os))),some (.own (oD L++[.tuple [.tuple [.int i,.int g],.str s]])),b6,b7,b8,b9] I:=fun I b6 b7 b8 b9 s h2 hs al =>
    hK _ _ _ _ _ _ ⟨by lia,L++[((i,g),s)],by simp[oD],by rw[tk,eh];exact sb.append (x8 _),(fun q J=>by
     rcases ax.mp J with z|z
     ·exact kn q z
     ·cases aA.mp z;exact hs),fun p C q J=>by
     rcases ax.mp J with z|z
     ·exact ag p C q z
     ·cases aA.mp z
      by_cases y:p.1.1<i+2 ^ g.toNat/\i<p.1.1+2 ^ p.1.2.toNat
      ·exact .inl (al p C y.1 y.2)
      ·right
       show eB p.1<=i\/i+2 ^ g.toNat<=p.1.1
       unfold eB;lia⟩
   wp_walk using pick ?_ (fun s hs=>?_)
   ·lia
   ·exact cpow (by lia) (by lia)
   refine Yj (cs:=os) (D:=fun p=>.tuple [prD p.1,.str p.2]) (fun p=>decide (p.1.1<i+2 ^ g.toNat)&&decide (i<p.1.1+2 ^ p.1.2.toNat)) (fun p=>.tuple [prD p.1,.str p.2]) (by lia) ?_ ?_
   ·intro p C K2 X2 U hX2;have Bp:=Bo p C;have p0:=Bp.1;have p1:=Bp.2.1
    wp_walk
    ·exact cpow (by lia) (by lia)
    all_goals simp only[Q3]at *
    ·rename_i y;exact U (by rw[decide_eq_true y,decide_eq_true hc];rfl)
    ·exact hX2 (by rw[decide_eq_false hc,nj])
    ·exact hX2 (by rw[decide_eq_false hc,fQ])
   ·rw[show((os.filter fun p=>decide (p.1.1<i+2 ^ g.toNat)&&decide (i<p.1.1+2 ^ p.1.2.toNat)).map fun p=>iD [prD p.1,cF p.2])=oD (os.filter fun p=>decide (p.1.1<i+2 ^ g.toNat)&&decide (i<p.1.1+2 ^ p.1.2.toNat)) from rfl]
    generalize ets:(os.filter fun p=>decide (p.1.1<i+2 ^ g.toNat)&&decide (i<p.1.1+2 ^ p.1.2.toNat))=us
    have Kf:∀p∈us,p∈os:=fun p C=>by rw[<- ets]at C;exact(cC.mp C).1
    have uin:∀p∈os,p.1.1<i+2 ^ g.toNat->i<p.1.1+2 ^ p.1.2.toNat->p∈us:=fun p C y z=>by
     rw[<- ets];exact cC.mpr ⟨C,by rw[decide_eq_true y,decide_eq_true z];rfl⟩
    have lus:us.length<=64:=by
     have:=iF (fun p:(Int×Int)×Str=>decide (p.1.1<i+2 ^ g.toNat)&&decide (i<p.1.1+2 ^ p.1.2.toNat)) os
     rw[ets]at this;lia
    have ok3:∀vs:List ((Int×Int)×Str),(∀p∈vs,p∈os)->Okd (.list (oD vs)):=fun vs hv=>(zmM (k:=2) fun t ht=>by
     obtain⟨p,C,rfl⟩:=aS.mp ht;refine zjb fun u hu=>?_
     simp only[az,aO,or_false]at hu;rcases hu with rfl|rfl
     ·exact ztj
     ·exact(ztn (hm _ (e2 _ (hv p C)))).mono (by decide)).okd
    have tail:∀(I:Nat) (s':Str) (b8:Option Cell),I<=m'+2->s'∈G ->
      sIf (UX (dOp oEq (dNew (dComp [af "_law_one"].length [7] (dItL (dVar 9)) (Qv 0) (UX (dOp oNe (dOp oIx (dVar 0) (dC (bN 1))) (dVar 1))) (dVar 0))) (dNew dNil))) (Zc 5 (dTup (Qo (dVar 6) (Qo (dVar 7) dNil)))) Vx { nx:=K,rt:=RT,bk:=BK,ct:=K }
       [some (.val HAND),some (.val (.int bits)),some (.val (.list (nD G))),some (.val (.int most)),some (.val (.list (oD os))),some (.own (oD L)),some (.val (.tuple [.int i,.int g])),some (.val (.str s')),b8,some (.val (.list (oD us)))] I:=by
     intro I s' b8 hm'' hs'
     wp_walk
     refine Yj (cs:=us) (D:=fun p=>.tuple [prD p.1,.str p.2]) (fun p=>!decide (p.2=s')) (fun p=>.tuple [prD p.1,.str p.2]) (by lia) ?_ ?_
     ·intro p C K2 X2 U hX2
      wp_walk
      ·exact hX2 (by rw[decide_eq_true hc];rfl)
      ·exact U (by rw[decide_eq_false hc];rfl)
     ·wp_walk
      ·exact ok3 _ fun p C=>Kf p (cC.mp C).1
      ·exact zi2
      ·rw[QG];lia
      ·rw[zpp]at hc;refine put _ _ _ _ _ s' hm'' hs' fun p C y z=>?_
       by_cases w:p.2=s'
       ·exact w
       ·exfalso;have:p∈us.filter fun p=>!decide (p.2=s'):=cC.mpr ⟨uin p C y z,by rw[decide_eq_false w];rfl⟩
        have e0:us.filter (fun p=>!decide (p.2=s'))=[]:=by simpa using hc
        rw[e0]at this;cases this
      ·exact skip _ _ _ _ _ hm''
    have nm:∀{Q:ae->Prop},(∀s'∈G,Q (.str s'))->oIx (.list ((us.map fun p=>cF p.2)++[.str s])) (.int 0) Q:=fun {Q} J=>by
     cases us with
     | nil=>exact znc (J s hs)
     | cons u v=>exact znc (J u.2 (e2 u (Kf u (by simp))))
    wp_walk using QV ?_ ?_ ?_ (fun r r0 r1=>?_),tail _ _ _ ?_ ?_
    all_goals first
     | exact ok3 _ Kf
     | exact zi2
     | exact hs
     | lia
     | skip
    all_goals
     refine QH (cs:=us) (D:=fun p=>.tuple [prD p.1,.str p.2]) (fun p=>.str p.2) (by lia) ?_ ?_
     ·intro p C K2 X2 U
      wp_walk
      exact U
     ·wp_walk using nm (fun s' hs'=>?_),tail _ _ _ ?_ ?_
      ·simp;lia
      ·lia
      ·exact hs'
  ·rintro a5 a6 a7 a8 a9 m' ⟨hm',L,rfl,sb,kn,ag⟩;rw[JI,fe]at sb
   wp_walk
   refine h (bits,os,L) _ ⟨b0,b1,⟨by rw[e1];exact P,fun p C=>hm _ (e2 p C)⟩,⟨⟨fun b hb=>P2.1 b (sb.subset hb),P2.2.sublist sb⟩,fun q J=>hm _ (kn q J)⟩,ag⟩ rfl (by show os.length<=_;lia) ?_ ?_ ?_
   ·have:=sb.length_le;rw[aM]at this;show L.length<=_
    lia
   ·intro p C;rcases ax.mp C with z|z
    ·exact e2 p z
    ·exact kn p z
   ·rw[JI]at hm';lia
theorem ztO{a b:Int}{c:Prop}[Decidable c]{R:ae->Prop}(h:∀z:Int,z=a\/z=b->R (.int z)):oIx (.list [.int a,.int b]) (.int (if decide c=true then 1 else 0)) R:=by
 by_cases hc:c
 ·rw[if_pos (decide_eq_true hc)];exact ztN (h b (.inr rfl))
 ·rw[if_neg (by simp[hc])];exact znc (h a (.inl rfl))
def zfn:GD:=fun ts n R=>∃v:Int,ts=[HAND,.int v]/\0<=v/\n<=1000000000000 - 400000/\∀(d:Deal) (o:List Str) (m:Nat),Dl d->o≠[]->o.length<=4->(∀s∈o,IsNm s)->d.2.1.length<=20->d.2.2.length<=20->m<=n+20000->R (.tuple [dlD d,.list (nD o)]) m
theorem zjD{v:Int}{n:Nat}{R:qN}(x:0<=v)(y:n<=1000000000000 - 400000)(h:∀(d:Deal) (o:List Str) (m:Nat),Dl d->o≠[]->o.length<=4->(∀s∈o,IsNm s)->d.2.1.length<=20->d.2.2.length<=20->m<=n+20000->R (.tuple [dlD d,.list (nD o)]) m):zfn [HAND,.int v] n R:=⟨v,rfl,x,y,h⟩
def ze6(Z:ZZ):Prop:=FQ Z "_law_case" (top 48) ["_law_hand_here","_law_k"] 8 (spD Z.K 2 zfn)
theorem zhS(D:Dq Z.K Z.mg "_law_case" (top 48) ["_law_hand_here","_law_k"]) (HR:zey Z) (HW:ze7 Z) (J:Ua Z) (HX:ze5 Z) (T:Txt Z.mg):ze6 Z:=by
 refine' okQ D (fnS (N:=["_law_hand_here","_law_k","_law_bits_here","_law_names_here","_law_most"]) (by decide +kernel)) rfl fun f am A outer s H E u=>⟨_,(Jb (dsv 2 (ndB rfl) (JA (Vm rfl) ZH T.min Yk (Jm (dl (Jd HW u (dbv 0 Ja))) (Jm (dl (Je (dl (Jp (JH (dbc Ji (dbc Ji Ja))))) (dl (Qp Vl VH T.int boot_int (Jm (dl (Qi Ue gp_B (dlv 1) dli (Jh _))) Jo zl0))))) Jo QZ) Uy))) (Jb (dsv 3 (ndB rfl) (Jd HR u (dbv 0 (dbc (Jr dli (dl (Jd J u (dbv 0 (dbc Ji Ja))))) Ja)))) (Jb (dsv 4 (ndB rfl) (Je (dl (Jp (JH (dbc Ji (dbc Ji (dbc Ji (dbc Ji (dbc Ji (dbc Ji (dbc Ji (dbc Ji Ja))))))))))) (dl (Jd J u (dbv 0 (dbc Ji Ja)))))) (Jb (dsv 4 (ndB rfl) (JA (znX rfl) zru T.min Yk (Jm (dlv 4) (Jm (dl (Je (dl (Jp (JH (dbc Ji (dbc Ji Ja))))) (dl (Qp Vl VH T.int boot_int (Jm (dl (Qi Ue gp_B (dlv 1) dli (Jh _))) Jo zl0))))) (Jm (dl (Je (dl (Jp (JH (dbc Ji (dbc Ji Ja))))) (dl (Qp Vl VH T.int boot_int (Jm (dl (Qi Ue gp_B (dlv 2) dli (Jh _))) Jo zl0))))) Jo QZ) QZ) Jt))) (Jc (Jg (Jk (dbc (Jd HX u (dbv 0 (dbv 2 (dbc (zuL (Jp (zpu (dlv 3) Qy (Qs (U5 Ji)))) (Uf (Jj 3))) (dbv 4 Ja))))) (dbv 3 Ja))))))))),?_⟩
 intro ts n R hl h;obtain⟨kk,rfl,k0,hn,h⟩:=h;have S:∀x∈[bN 5,bN 5,bN 5,bN 5,bN 5,bN 5,bN 5,bN 20],∃most:Int,x=.int most/\0<=most/\most<=20:=fun x hx=>by
  simp only[az,aO,or_false]at hx;rcases hx with rfl|rfl|rfl|rfl|rfl|rfl|rfl|rfl <;> exact⟨_,rfl,by decide,by decide⟩
 wp_walk using zjE ?_ (fun bits b0 b1=>?_),QV ?_ ?_ ?_ (fun r r0 r1=>?_),ziN ?_ ?_ ?_ (fun l nl v nd=>?_),ztO (fun z hz=>?_)
 all_goals first|lia|exact cpow (by lia) (by lia)|(simp;done)|skip
 all_goals
  refine ztM (by lia) (by simp;lia) fun x hx=>?_
  obtain⟨most,rfl,m0,m1⟩:=S x hx
  wp_walk using ztO (fun y hy=>?_)
 all_goals
  rename_i C hy1;have ne:l≠[]:=fun z=>by rw[z]at nl;simp at nl;lia
  have I:0<=min3 most C y/\min3 most C y<=20:=by unfold min3;lia
  have o:1<=(if z<bits then z else bits)/\(if z<bits then z else bits)<=64:=by lia
  generalize min3 most C y=mo at I ⊢;generalize (if z<bits then z else bits)=bt at o ⊢
 ·refine zfB o.1 o.2 I.1 (by lia) ne (by lia) v (by lia) fun d m D e L l2 pn hm=>?_
  wp_walk
  exact h d l m D ne (by lia) v (by lia) (by lia) (by lia)
 ·have Y:cutD (rE cF l) none (some (-1))=nD (l.take (l.length - 1)):=by
   rw[zpA,aM,<- List.map_take];rfl
  rw[Y]at hc ⊢;have U:∀s∈l.take (l.length - 1),s∈l:=fun s G=>dQ G
  refine zfB o.1 o.2 I.1 (by lia) (fun z=>by rw[z]at hc;cases hc) (by simp;lia) (fun s G=>v s (U s G)) (by lia) fun d m D e L l2 pn hm=>?_
  wp_walk
  exact h d l m D ne (by lia) v (by lia) (by lia) (by lia)
def Ym(ps:qB)(b:Int×Int):Bool:=ps.any fun p=>decide (p.1<=b.1)&&decide (eB b<=eB p)
theorem We{ps:qB}{b:Int×Int}:Ym ps b=true↔∃p∈ps,p.1<=b.1/\eB b<=eB p:=by
 unfold Ym;rw[lL];constructor
 ·rintro⟨p,l,h⟩;rw[aY,decide_eq_true_eq,decide_eq_true_eq]at h;exact⟨p,l,h⟩
 ·rintro⟨p,l,o,u⟩;exact⟨p,l,by rw[decide_eq_true o,decide_eq_true u];rfl⟩
def zfl:GD:=fun ts n R=>∃(ps:qB) (b:Int×Int),ts=[.list (pD ps),.tuple [.int b.1,.int b.2]]/\ps.length<=1000/\(∀p∈ps,0<=p.2/\p.2<=64)/\0<=b.2/\b.2<=64/\R (.bool (Ym ps b)) n
theorem Wn{ps:qB}{b:Int×Int}{n:Nat}{R:qN}(l:ps.length<=1000)(x:∀p∈ps,0<=p.2/\p.2<=64)(v:0<=b.2)(g1:b.2<=64)(h:R (.bool (Ym ps b)) n):zfl [.list (pD ps),.tuple [.int b.1,.int b.2]] n R:=⟨ps,b,rfl,l,x,v,g1,h⟩
def zdl(Z:ZZ):Prop:=FQ Z "_law_held" (top 49) ["_law_some","_law_block_here"] 1 (spD Z.K 2 zfl)
theorem zhP(D:Dq Z.K Z.mg "_law_held" (top 49) ["_law_some","_law_block_here"]) (T:Txt Z.mg):zdl Z:=by
 refine' okQ D (fnS (N:=["_law_some","_law_block_here","_law_begin","_law_end"]) (by decide +kernel)) rfl fun f G A outer s H E S=>⟨_,(Jb (QA (Jk (dbc (Je (dlv 1) dli) (dbc (Jr (dl (Je (dlv 1) dli)) (dl (JW dli (dl (Je (dlv 1) dli))))) Ja))) (JE rfl (Jl (dgv 2 (ndB rfl)) (Jl (dgv 3 (ndB rfl)) JD)))) (Jc (Jg (JA (znZ rfl) zut T.any zn6 (Jm (dl (Jp (dnc ["_law_one"] [2,3] (dil (VB (Jj 0))) (fun _ _ _ _=>(dgv 0 (ndB rfl))) (fun _ _ _ _=>(UM (Qi Ui Uh (dl (Je (dlv 0) dli)) (dlv 1) (Jh _)) (Uf (Qi Ui Uh (dlv 2) (dl (Jr (dl (Je (dlv 0) dli)) (dl (JW dli (dl (Je (dlv 0) dli)))))) (Jh _)))))))) Jo Q7))))),?_⟩
 intro ts n R U h;obtain⟨ps,b,rfl,l,C,J,g1,h⟩:=h
 wp_walk
 all_goals first
  | exact cpow (by lia) (by lia)
  | skip
 refine QH (cs:=ps) (D:=prD) (fun p=>.bool (decide (p.1<=b.1)&&decide (eB b<=eB p))) (by lia) ?_ ?_
 ·intro p v K X u;obtain⟨I,L⟩:=C p v;have x:eB b=b.1+1*2 ^ b.2.toNat:=by unfold eB;lia
  have y:eB p=p.1+1*2 ^ p.2.toNat:=by unfold eB;lia
  rw[x,y]at u
  wp_walk
  all_goals first
   | exact cpow (by lia) (by lia)
   | (rw[decide_eq_true hc,gY]at u;exact u)
   | (rw[decide_eq_false hc,fQ]at u;exact u)
   | skip
 ·wp_walk using zup ?_
  exact h
def rwB(bits:Int):ae->Bool
 | .tuple [.tuple [x,y],w]=>Qd bits (.tuple [x,y])&&wdD w
 | _=>false
theorem zsA{bits:Int}{d:ae}(h:∀x y w,d≠.tuple [.tuple [x,y],w]):rwB bits d=false:=by
 unfold rwB;split
 ·exact absurd rfl (h _ _ _)
 ·rfl
def nnI(t:ae):Prop:=∃i:Int,t=.int i/\0<=i
def zdY:GD:=fun ts n R=>∃(bits:Int) (d:ae),ts=[.int bits,d]/\0<=bits/\bits<=64/\PlnD d/\OkK 40 d/\R (.bool (rwB bits d)) n
theorem zhc{bits:Int}{d:ae}{n:Nat}{R:qN}(u:0<=bits)(v:bits<=64)(p:PlnD d)(o:OkK 40 d)(h:R (.bool (rwB bits d)) n):zdY [.int bits,d] n R:=⟨bits,d,rfl,u,v,p,o,h⟩
def zdI(Z:ZZ):Prop:=FQ Z "_law_is_row" (top 51) ["_law_bits_here","_law_row"] 1 (spD Z.K 2 zdY)
theorem zfJ(D:Dq Z.K Z.mg "_law_is_row" (top 51) ["_law_bits_here","_law_row"]) (T:Txt Z.mg):zdI Z:=by
 refine' okQ D (fnS (N:=["_law_bits_here","_law_row","_law_begin","_law_height","_law_one"]) (by decide +kernel)) rfl fun f am A outer s H E I=>⟨_,(Jb (Js (JT (Qf (Qc (JU (dl (Qq UU T.isi T.tup Qa (dlv 1) Jt)))) (QB (Jn (Uk I) Ud (dl (JA QP QN T.len QJ (Jm (dlv 1) Jo Jt))) dli (Jh _))))) (Jc (Jg JQ)) Jy) (Jb (Js (JT (Qf (Qc (JU (dl (Qq UU T.isi T.tup Qa (dl (Je (dlv 1) dli)) QZ)))) (QB (Jn (Uk I) Ud (dl (JA QP QN T.len QJ (Jm (dl (Je (dlv 1) dli)) Jo QZ))) dli (Jh _))))) (Jc (Jg JQ)) Jy) (Jb (QA (Je (dlv 1) dli) (JE rfl (Jl (dgv 2 (ndB rfl)) (Jl (dgv 3 (ndB rfl)) JD)))) (Jb (Qg bw rfl (JR (Jk (dbv 2 (dbv 3 Ja)))) (dgv 4 (ndB rfl)) (Jc (Js (JT (Qf (Qc (JU (dl (Qq zp_ T.isi T.int boot_int (dlv 4) Jt)))) (Qf (JU (dl (Qq zjt T.isi T.boo zeq (dlv 4) Jt))) (QB (Jn (Qu I) Qt (dlv 4) dli (Jh _)))))) (Jc (Jg JQ)) Jy))) (Jb (Js (JT (Qf (Jn Ue gp_B (dlv 3) (dlv 0) (Jh _)) (Qf (Jn YE gp_B (dlv 2) (dl (JW dli (dlv 0))) (Jh _)) (QB (Jn Ue gp_B (dl (VA (dlv 2) (dl (JW dli (dlv 3))))) dli (Jh _)))))) (Jc (Jg JQ)) Jy) (Jc (Jg (UM (Qi (zpX I) zus (dl (Je (dlv 1) dli)) (dl (Jk (dbc JK (dbc JK (dbc JK Ja))))) rfl) (Uf (Qq zp9 T.isi T.str ziO (dl (Je (dlv 1) dli)) QZ)))))))))),?_⟩
 intro ts n R hl h;obtain⟨bits,d,rfl,b0,b1,p,o,h⟩:=h;have v:(∀x y w,d≠.tuple [.tuple [x,y],w])->R (.bool false) n:=fun z=>by rw[zsA z]at h;exact h
 cases hf:isTup d with
 | false =>
  wp_walk using isiF p.pln hf ?_
  exact v fun _ _ _ e=>by rw[e]at hf;cases hf
 | true =>
 obtain⟨ts,rfl⟩:=zg5 hf;obtain⟨l6,L⟩:=p.tup;have o3:=V7 o
 by_cases l2:ts.length=2
 ·obtain⟨t,w,rfl⟩:=zq5 l2;have pt:=L t (by simp)
  have pn:=L w (by simp)
  have ow:=(o3 w (by simp)).okd
  cases hf2:isTup t with
  | false =>
   wp_walk using isiF pt.pln hf2 ?_
   all_goals first|exact v fun _ _ _ e=>by(cases e;cases hf2)|exact absurd rfl hc
  | true =>
   obtain⟨us,rfl⟩:=zg5 hf2;obtain⟨_,Y⟩:=pt.tup
   by_cases l2:us.length=2
   ·obtain⟨x,y,rfl⟩:=zq5 l2;have px:=(Y x (by simp)).pln
    have py:=(Y y (by simp)).pln
    have h:R (.bool (Qd bits (.tuple [x,y])&&wdD w)) n:=h;have bad:¬(nnI x/\nnI y)->R (.bool false) n:=fun z=>by
     have e:Qd bits (.tuple [x,y])=false:=by
      rw[dz];intro G;apply z;unfold Qd at G;split at G
      ·rename_i b g e;simp only[fX,eU,and_true]at e;obtain⟨rfl,rfl⟩:=e;have:=of_decide_eq_true G;exact⟨⟨b,rfl,this.2.2.1⟩,⟨g,rfl,this.1⟩⟩
      ·cases G
     rw[e,fQ]at h;exact h
    wp_walk
    all_goals first
     | exact absurd rfl hc
     | skip
    refine zuA 4 (fun k _ m=>m=n/\∀(i:Nat) t,i<k->[x,y][i]?=some t->nnI t) ⟨rfl,fun i t z=>by lia⟩ ?_ ?_
    ·rintro k t _ m K RT BK S ⟨rfl,hi⟩ hK hRT hBK;have mt:t=x\/t=y:=by simpa using aH S
     have pl:Pln t:=by rcases mt with rfl|rfl <;> assumption
     have no:¬nnI t->RT (.bool false) m:=fun z=>hRT _ _ (bad fun q=>z (by rcases mt with rfl|rfl;exact q.1;exact q.2))
     have yes:nnI t->m=m/\∀(i:Nat) u,i<k+1->[x,y][i]?=some u->nnI u:=fun z=>⟨rfl,fun i u hq eq=>by
      rcases g7.mp hq with q|rfl
      ·exact hi i u q eq
      ·rw[S]at eq;cases eq;exact z⟩
     cases h1:isInt t with
     | false =>
      wp_walk using isiF pl h1 ?_
      exact no fun⟨i,e,_⟩=>by rw[e]at h1;cases h1
     | true =>
      cases C:isBool t with
      | true =>
       wp_walk using isiF pl h1 ?_,isiF pl C ?_
       exact no fun⟨i,e,_⟩=>by rw[e]at C;cases C
      | false =>
       obtain⟨i,rfl⟩:=zph h1 C
       wp_walk
       ·exact no fun⟨i,e,h0⟩=>by cases e;lia
       ·exact hK _ _ (yes ⟨i,rfl,by lia⟩)
    ·rintro _ m ⟨rfl,hi⟩;obtain⟨b,rfl,hb⟩:=hi 0 x (by simp) rfl
     obtain⟨g,rfl,hg⟩:=hi 1 y (by simp) rfl
     rw[zfe]at h;have pp:=Qw g.toNat;have md:=g8 b (show(2:Int) ^ g.toNat≠0 by lia)
     have J:¬(0<=g/\g<=bits/\0<=b/\b<2 ^ bits.toNat/\b % 2 ^ g.toNat=0)->R (.bool false) m:=fun z=>by
      rw[decide_eq_false z,fQ]at h;exact h
     have iw:([cF (af "out"),cF (af "kept"),cF (af "free")].any fun t=>t.eqv w)=wdD w:=by
      cases w with
      | str s=>exact in_words
      | _=>rfl
     wp_walk
     ·exact J fun z=>by lia
     ·exact cpow (by lia) (by lia)
     ·exact J fun z=>by lia
     ·exact cpow (by lia) (by lia)
     ·lia
     ·rw[cK]at hc;exact J fun z=>by lia
     ·exact ow
     ·intro t U;simp only[az,aO,or_false]at U;rcases U with rfl|rfl|rfl <;> exact(Ye (by decide +kernel)).okd
     all_goals
      rw[iw]at hc;rename_i c1 c2 c3;rw[cK]at c2 c3;have C:=h;rw[hc,decide_eq_true (show 0<=g/\g<=bits/\0<=b/\b<2 ^ bits.toNat/\b % 2 ^ g.toNat=0 from⟨hg,by lia,hb,by lia,by lia⟩),gY]at C
     ·obtain⟨s,rfl⟩:∃s,w=.str s:=by
       cases w with
       | str s=>exact⟨s,rfl⟩
       | _=>cases hc
      wp_walk
      exact C
     ·exact C
   ·wp_walk
    all_goals first|exact v fun _ _ _ e=>l2 (by cases e;rfl)|(exfalso;lia)|exact absurd rfl hc
 ·wp_walk
  all_goals first|exact v fun _ _ _ e=>l2 (by cases e;rfl)|(exfalso;lia)
def chn:Int->List (Int×Int)->Int->Prop
 | lo,[],hi=>lo=hi
 | lo,b::bs,hi=>b.1=lo/\chn (eB b) bs hi
theorem zjB:∀{xs ys:qB}{lo hi:Int},chn lo (xs++ys) hi↔∃mid,chn lo xs mid/\chn mid ys hi
 | [],ys,lo,hi=>⟨fun h=>⟨lo,rfl,h⟩,fun⟨m,e,h⟩=>by cases(show lo=m from e);exact h⟩
 | x::xs,ys,lo,hi=>by
  show(x.1=lo/\chn (eB x) (xs++ys) hi)↔_
  rw[zjB];constructor
  ·rintro⟨e,m,l,o⟩;exact⟨m,⟨e,l⟩,o⟩
  ·rintro⟨m,⟨e,l⟩,o⟩;exact⟨e,m,l,o⟩
theorem zg_:∀{xs:qB}{lo a b:Int},chn lo xs a->chn lo xs b->a=b
 | [],lo,a,b,h,h'=>(show lo=a from h).symm.trans h'
 | x::xs,lo,a,b,h,h'=>zg_ h.2 h'.2
theorem zuD{b:Int×Int}:eB b=b.1+2 ^ b.2.toNat:=rfl
theorem zpQ{T:Int}:∀{bs:qB}{lo:Int},lo<=T->(∀b∈bs,lo<=b.1/\eB b<=T)->bs.Pairwise (fun a b=>eB a<=b.1)->(bs.map fun b=>(2:Int) ^ b.2.toNat).sum<=T - lo/\((bs.map fun b=>(2:Int) ^ b.2.toNat).sum=T - lo->chn lo bs T)
 | [],lo,hl,_,_=>by
  refine⟨by simp;lia,fun h=>?_⟩
  show lo=T
  simp at h;lia
 | b::bs,lo,hl,h,pw=>by
  obtain⟨o,p2⟩:=cM.mp pw;obtain⟨G,v⟩:=h b (.head _);obtain⟨C,x⟩:=zpQ (lo:=eB b) v (fun c hc=>⟨o c hc,(h c (.tail _ hc)).2⟩) p2
  have y:=zuD (b:=b);rw[aV,tI];refine⟨by lia,fun e=>⟨by lia,x (by lia)⟩⟩
theorem znU:∀{bs:qB}{lo hi:Int},chn lo bs hi->lo<=hi/\(∀b∈bs,lo<=b.1/\eB b<=hi)/\bs.Pairwise (fun a b=>eB a<=b.1)/\(bs.map fun b=>(2:Int) ^ b.2.toNat).sum=hi - lo
 | [],lo,hi,h=>by
  have h:lo=hi:=h;exact⟨by lia,fun b v=>(nomatch v),.nil,by simp;lia⟩
 | b::bs,lo,hi,⟨e,h⟩=>by
  obtain⟨x,o,y,C⟩:=znU h;have G:=zuD (b:=b);have pp:=Qw b.2.toNat;refine⟨by lia,fun c hc=>?_,cM.mpr ⟨fun c hc=>(o c hc).1,y⟩,by rw[aV,tI];lia⟩
  rcases az.mp hc with rfl|hc
  ·exact⟨by lia,x⟩
  ·have:=o c hc;exact⟨by lia,this.2⟩
theorem zqN{bits:Int}(v:0<=bits){bs:qB}(B:Bks bits bs):(Ptc bits bs/\(bs.map fun b=>(2:Int) ^ b.2.toNat).sum=2 ^ bits.toNat)↔chn 0 bs (2 ^ bits.toNat):=by
 have pp:=Qw bits.toNat;constructor
 ·rintro⟨P,s⟩;refine(zpQ (T:=2 ^ bits.toNat) (lo:=0) (by lia) (fun b l=>?_) P.2).2 (by lia)
  have:=(B b l).bounds v;unfold eB;lia
 ·intro h;obtain⟨_,_,pw,s⟩:=znU h;exact⟨⟨B,pw⟩,by lia⟩
theorem zma{bits:Int}(v:0<=bits):∀(ts:qD),ts.all (rwB bits)=true->∃rs:List NP,ts=oD rs/\∀r∈rs,IsBk bits r.1.1 r.1.2/\IsWd r.2
 | [],_=>⟨[],rfl,fun r o=>(nomatch o)⟩
 | t::ts,h=>by
  rw[nR,aY]at h;obtain⟨rs,rfl,B⟩:=zma v ts h.2;have l:=h.1;unfold rwB at l;split at l
  ·rename_i x y w;rw[aY]at l;obtain⟨l,C⟩:=l;have u:=l;unfold Qd at l;split at l
   ·rename_i b g e;simp only[fX,eU,and_true]at e;obtain⟨rfl,rfl⟩:=e;have:=(Wf v).mp u;cases w with
    | str s =>
     refine⟨((b,g),s)::rs,rfl,fun r o=>?_⟩
     rcases az.mp o with rfl|o
     ·exact⟨this,of_decide_eq_true (p:=s=wOut\/s=JM\/s=Jw) C⟩
     ·exact B r o
    | _=>cases C
   ·cases l
  ·cases l
theorem ztk{bits:Int}(v:0<=bits){rs:List NP}(h:∀r∈rs,IsBk bits r.1.1 r.1.2/\IsWd r.2):(oD rs).all (rwB bits)=true:=by
 rw[bM];intro x hx;obtain⟨r,o,rfl⟩:=aS.mp hx;obtain⟨B,W⟩:=h r o;show(Qd bits (.tuple [.int r.1.1,.int r.1.2])&&wdD (.str r.2))=true
 rw[(Wf v).mpr B,gY];exact decide_eq_true (p:=r.2=wOut\/r.2=JM\/r.2=Jw) W
def zcP:GD:=fun ts n R=>∃(d:Deal) (nm:Str) (h:Int) (t:ae),ts=[dlD d,.str nm,.int h,t]/\Dl d/\IsNm nm/\d.2.1.length<=20/\d.2.2.length<=20/\PlnD t/\OkK 40 t/\∀b:Bool,(b=true↔VN d (.str nm) h t)->R (.bool b) n
theorem zfA{d:Deal}{nm:Str}{h:Int}{t:ae}{n:Nat}{R:qN}(D:Dl d)(hw:IsNm nm)(u:d.2.1.length<=20)(l2:d.2.2.length<=20)(p:PlnD t)(o:OkK 40 t)(k:∀b:Bool,(b=true↔VN d (.str nm) h t)->R (.bool b) n):zcP [dlD d,.str nm,.int h,t] n R:=⟨d,nm,h,t,rfl,D,hw,u,l2,p,o,k⟩
def zcJ(Z:ZZ):Prop:=FQ Z "_law_is_paper" (top 50) ["_law_deal_here","_law_name","_law_height","_law_paper"] 2 (spD Z.K 4 zcP)
theorem zeI(D:Dq Z.K Z.mg "_law_is_paper" (top 50) ["_law_deal_here","_law_name","_law_height","_law_paper"]) (HK:zdI Z) (Hr:zdl Z) (T:Txt Z.mg):zcJ Z:=by
 refine' okQ D (fnS (N:=["_law_deal_here","_law_name","_law_height","_law_paper","_law_bits_here","_law_outs","_law_kept","_law_low","_law_block_here","_law_word","_law_frees","_law_mine","_law_others"]) (by decide +kernel)) rfl fun f am A outer s H E C=>⟨_,(Jb (QA (Jj 0) (JE rfl (Jl (dgv 4 (ndB rfl)) (Jl (dgv 5 (ndB rfl)) (Jl (dgv 6 (ndB rfl)) JD))))) (Jb (Js (JT (Qf (Qc (JU (dl (Qq UU T.isi T.tup Qa (dlv 3) Jt)))) (QB (Qc (JU (dl (JA (Zh rfl) YL T.all Zf (Jm (dl (Jp (dnc ["_law_row"] [4] (dil (JR (Jj 3))) (fun _ _ _ _=>(dgv 0 (ndB rfl))) (fun _ _ _ _=>(Jd HK C (dbv 1 (dbv 0 Ja))))))) Jo Q7)))))))) (Jc (Jg JQ)) Jy) (Jb (dsv 7 (ndB rfl) Ji) (Jb (Qg bw rfl (JR (Jj 3)) (JE rfl (Jl (dgv 8 (ndB rfl)) (Jl (dgv 9 (ndB rfl)) JD))) (Jb (Js (Jn (Uk C) Ud (dl (Je (dlv 8) dli)) (dlv 7) (Jh _)) (Jc (Jg JQ)) Jy) (Jc (dsv 7 (ndB rfl) (Jr (dl (Je (dlv 8) dli)) (dl (JW dli (dl (Je (dlv 8) dli))))))))) (Jb (dsv 10 (ndB rfl) (zpx rfl C.units T.dct (dnf ["_law_block_here","_law_word"] [] (dil (JR (Jj 3))) (fun _ _ _ _=>(JE rfl (Jl (dgv 0 (ndB rfl)) (Jl (dgv 1 (ndB rfl)) JD)))) (fun _ _ _ _=>(UN (Jn (J7 C) J6 (dlv 1) (dl JK) (Jh _)))) (fun _ _ _ _=>(Jk (dbv 0 (dbc JQ Ja))))))) (Jb (Yc (US (i:=11) (ndB rfl) rfl (df rfl) (own:=["_law_one","_law_owner"]) (capt:=[]) rfl (JB.of rfl) (dil (JR (Jj 5))) (fun _ _ _ _=>(JE rfl (Jl (dgv 0 (ndB rfl)) (Jl (dgv 1 (ndB rfl)) JD)))) (by decide) (fun _ _ _ _=>Uw) (fun _ _ _ _=>(Jj 0)))) (Jb (Yc (US (i:=12) (ndB rfl) rfl (df rfl) (own:=["_law_one","_law_owner"]) (capt:=[1]) rfl (JB.of rfl) (dil (JR (Jj 6))) (fun _ _ _ _=>(JE rfl (Jl (dgv 0 (ndB rfl)) (Jl (dgv 1 (ndB rfl)) JD)))) (by decide) (fun _ _ _ _=>(UN (Jn (Uk C) Ud (dlv 1) (dlv 2) (Jh _)))) (fun _ _ _ _=>(Jj 0)))) (Jb (Qg bw rfl (JR (Jj 3)) (JE rfl (Jl (dgv 8 (ndB rfl)) (Jl (dgv 9 (ndB rfl)) JD))) (Jc (Js (Jn (J7 C) J6 (dlv 9) (dl JK) (Jh _)) (Jc (Js (JT (Qf (Jn YE gp_B (dl (Je (dlv 8) dli)) (dlv 2) (Jh _)) (QB (Jn (zpW (zmb C)) zqa (dl (Jk (dbc (znF (dl (Je (dlv 8) dli)) (dl (JW dli (dl (Je (dlv 8) dli))))) (dbc (Je (dlv 8) dli) Ja)))) (dlv 10) rfl)))) (Jc (Jg JQ)) Jy)) (Jc (Js (JT (QX (Jn (J7 C) J6 (dlv 9) (dl JK) (Jh _)) (Q6 (Qc (JU (dl (Jd Hr C (dbv 11 (dbv 8 Ja))))))))) (Jc (Jg JQ)) (Jc (Js (JT (QX (Jn (J7 C) J6 (dlv 9) (dl JK) (Jh _)) (Q6 (Qc (JU (dl (Jd Hr C (dbv 12 (dbv 8 Ja))))))))) (Jc (Jg JQ)) Jy))))))) (Jc (Jg (Qi (J7 C) J6 (dlv 7) (dl (JW dli (dlv 4))) (Jh _)))))))))))),?_⟩
 intro ts n R hl h;obtain⟨⟨bits,os,J⟩,nm,h,t,rfl,D,hw,l1,l2,p,o,k⟩:=h;have D':=D;obtain⟨b0,b1,S1,S2,_⟩:=D';have b0:1<=bits:=b0;have b1:bits<=64:=b1;have l1:os.length<=20:=l1;have l2:J.length<=20:=l2;have e:dlD (bits,os,J)=.tuple [.int bits,.tuple (oD os),.tuple (oD J)]:=rfl;have U:0<=bits:=by lia
 rw[e];have no:(∀rs:List NP,t≠.tuple (oD rs))->R (.bool false) n:=fun z=>k false ⟨fun y=>(by cases y),fun⟨rs,e,_⟩=>absurd e (z rs)⟩
 cases t with
 | dict J =>
  cases J with
  | nil =>
   have k:=no fun rs z=>by cases z
   wp_walk
   exact k
  | cons a b=>exact absurd rfl p.pln
 | tuple ts =>
  obtain⟨l6,p3⟩:=p.tup;have o3:=V7 o
  wp_walk
  refine zek (fun t=>.bool (rwB bits t)) (by lia) ?_ ?_
  ·intro t ht K2 X2 hK2
   wp_walk using zhc U b1 (p3 t ht) (o3 t ht) ?_
   exact hK2
  ·wp_walk using YN ?_
   ·obtain⟨rs,rfl,RB⟩:=zma U ts hc;have lr:rs.length<=1000000:=by rw[QG]at l6;exact l6
    have BK:Bks bits (rs.map (·.1)):=fun b hb=>by
     obtain⟨r,C,rfl⟩:=aS.mp hb;exact(RB r C).1
    have k1:∀b:Bool,(b=true↔(chn 0 (rs.map (·.1)) (2 ^ bits.toNat)/\zuU (bits,os,J) (.str nm) h rs))->R (.bool b) n:=fun b hb=>k b (hb.trans (by
     rw[<- zqN U BK];constructor
     ·rintro⟨⟨P,sm⟩,sh⟩;exact⟨rs,rfl,⟨P,sm,fun r C=>(RB r C).2⟩,sh⟩
     ·rintro⟨rs',e',⟨P,sm,_⟩,sh⟩;have:rs=rs':=zmP (ff e');subst this;exact⟨⟨P,sm⟩,sh⟩))
    refine VG 7 8 9 (fun j c _ _ m=>m=n/\∃lo:Int,c=some (.val (.int lo))/\chn 0 ((rs.take j).map (·.1)) lo) ⟨rfl,0,rfl,rfl⟩ ?_ ?_
    ·rintro j x _ _ _ m K RT BK' ej ⟨rfl,lo,rfl,ch⟩ L hRT hBK;obtain⟨r,Y,rfl⟩:=VU ej;have C:=aH Y;obtain⟨B,W⟩:=RB r C;have g0:0<=r.1.2:=B.1;have g1:r.1.2<=bits:=B.2.1;have tk:rs.take (j+1)=rs.take j++[r]:=by rw[dF,Y];rfl
     wp_walk
     ·exact cpow (by lia) (by lia)
     ·refine L _ _ _ _ ⟨rfl,_,rfl,?_⟩;rw[tk,eh];exact zjB.mpr ⟨lo,ch,hc,by show eB r.1=_;unfold eB;lia⟩
     ·refine hRT _ _ (k1 false ⟨fun y=>(by cases y),fun⟨cc,_⟩=>?_⟩)
      exfalso;apply hc;have dr:rs=rs.take j++(r::rs.drop (j+1)):=by
       obtain⟨jl,ejr⟩:=av.mp Y;rw[<- ejr,<- bf jl,ft]
      rw[dr,eh]at cc;obtain⟨mid,c1,c2⟩:=zjB.mp cc;rw[zg_ ch c1];exact c2.1
    ·rintro _ _ _ m ⟨rfl,lo,rfl,ch⟩;have ch:chn 0 (rs.map (·.1)) lo:=by rw[QG,fe]at ch;exact ch
     wp_walk
     refine Yj (cs:=rs) (D:=fun r=>.tuple [prD r.1,.str r.2]) (fun r=>decide (r.2=Jw)) (fun r=>prT (r.1,.bool true)) (by lia) ?_ ?_
     ·intro r C K X L hX
      wp_walk
      ·exact L (decide_eq_true hc)
      ·exact hX (decide_eq_false hc)
     ·refine⟨(rs.filter fun r=>decide (r.2=Jw)).map fun r=>(r.1,.bool true),by rw[bT];rfl,?_⟩
      generalize hfr:mkT ((rs.filter fun r=>decide (r.2=Jw)).map fun r=>(r.1,dO true))=fr
      have hf:∀b:Int×Int,(valT fr b).isSome=true↔(b,Jw)∈rs:=fun b=>by
       rw[zjL,<- hfr];unfold mkT;rw[List.foldl_map,zfo (F:=fun r:NP=>r.1) (G:=fun _=>dO true)]
       constructor
       ·rintro(z|z)
        ·simp at z
        ·obtain⟨r,C,rfl⟩:=aS.mp z;obtain⟨h1,h2⟩:=cC.mp C;have h2:r.2=Jw:=of_decide_eq_true h2;rw[<- h2];exact h1
       ·intro z;exact .inr (aS.mpr ⟨(b,Jw),cC.mpr ⟨z,decide_eq_true rfl⟩,rfl⟩)
      wp_walk
      refine QH (cs:=os) (D:=fun p=>.tuple [prD p.1,.str p.2]) (fun p=>prD p.1) (by lia) ?_ ?_
      ·intro p hp K X L
       wp_walk
       exact L
      have em:(os.map fun p=>prD p.1)=pD (os.map (·.1)):=by unfold pD;rw[bT];rfl
      rw[em]
      wp_walk
      refine Yj (cs:=J) (D:=fun p=>.tuple [prD p.1,.str p.2]) (fun p=>!who p.2 (.str nm)) (fun p=>prD p.1) (by lia) ?_ ?_
      ·intro p hp K X L hX
       wp_walk
       ·exact hX (by show(!decide (p.2=nm))=false;rw[decide_eq_true hc];rfl)
       ·exact L (by show(!decide (p.2=nm))=true;rw[decide_eq_false hc];rfl)
      have ek:((J.filter fun p=>!who p.2 (.str nm)).map fun p=>prD p.1)=pD (JF (bits,os,J) (.str nm)):=by
       unfold pD JF;rw[bT];rfl
      rw[ek];have l1':(os.map (·.1)).length<=1000:=by rw[aM];lia
      have lk:(JF (bits,os,J) (.str nm)).length<=1000:=cy Vk (by show J.length<=_;lia)
      have h64:∀{ps:qB},Bks bits ps->∀p∈ps,0<=p.2/\p.2<=64:=fun B p hp=>⟨(B p hp).1,cT (B p hp).2.1 b1⟩
      have hOs:=h64 S1.1.1;have hKs:=h64 (zeg (os:=os) (nm:=.str nm) S2.1).1
      wp_walk
      refine YK 8 9 (fun j _ _ m'=>m'=m/\∀(i:Nat) r,i<j->rs[i]?=some r->rowN (bits,os,J) (.str nm) h rs r) ⟨rfl,fun i r z=>by lia⟩ ?_ ?_
      ·rintro j x _ _ m' K RT BK' ej ⟨rfl,hi⟩ L hRT hBK;obtain⟨r,Y,rfl⟩:=VU ej;have C:=aH Y;obtain⟨B,hwd⟩:=RB r C;have g0:0<=r.1.2:=B.1;have g1:r.1.2<=bits:=B.2.1;have g2:r.1.2<=64:=by lia
       have bad:¬rowN (bits,os,J) (.str nm) h rs r->RT (.bool false) m':=fun nr=>hRT _ _ (k1 false ⟨fun z=>(by cases z),fun⟨_,sh⟩=>(nr (sh r C)).elim⟩)
       have good:rowN (bits,os,J) (.str nm) h rs r->m'=m'/\∀(i:Nat) q,i<j+1->rs[i]?=some q->rowN (bits,os,J) (.str nm) h rs q:=fun nr=>⟨rfl,fun i q hq eq=>by
        rcases g7.mp hq with z|rfl
        ·exact hi i q z eq
        ·rw[Y]at eq;cases eq;exact nr⟩
       have e1:¬wOut=af "kept":=by decide +kernel
       have e2:¬wOut=af "free":=by decide +kernel
       have e3:¬JM=af "out":=by decide +kernel
       have e4:¬JM=af "free":=by decide +kernel
       have e5:¬Jw=af "out":=by decide +kernel
       have e6:¬Jw=af "kept":=by decide +kernel
       obtain⟨⟨b,g⟩,w⟩:=r;dsimp only at B g0 g1 g2 hwd ⊢;rcases hwd with I|I|I
       ·have I:w=wOut:=I;subst I
        wp_walk using Wn (b:=(b,g)) l1' hOs g0 g2 ?_
        all_goals first
         | exact absurd ‹wOut=af "kept"› e1
         | exact absurd ‹wOut=af "free"› e2
         | exact absurd (rfl:wOut=af "out") ‹¬wOut=af "out"›
         | exact L _ _ _ (good ⟨fun _=>We.mp ‹Ym _ _=true›,fun z=>absurd z e1,fun z=>absurd z e2⟩)
         | exact bad fun z=>by rw[We.mpr (z.1 rfl)]at hc;cases hc
       ·have I:w=JM:=I;subst I
        wp_walk using Wn (b:=(b,g)) lk hKs g0 g2 ?_
        all_goals first
         | exact absurd ‹JM=af "out"› e3
         | exact absurd ‹JM=af "free"› e4
         | exact absurd (rfl:JM=af "kept") ‹¬JM=af "kept"›
         | exact L _ _ _ (good ⟨fun z=>absurd z e3,fun _=>We.mp ‹Ym _ _=true›,fun z=>absurd z e4⟩)
         | exact bad fun z=>by rw[We.mpr (z.2.1 rfl)]at hc;cases hc
       ·have I:w=Jw:=I;subst I
        wp_walk
        all_goals first
         | exact absurd ‹Jw=af "out"› e5
         | exact absurd ‹Jw=af "kept"› e6
         | exact absurd (rfl:Jw=af "free") ‹¬Jw=af "free"›
         | skip
        ·exact bad fun z=>by
          have:=(z.2.2 rfl).1;dsimp only at this;lia
        ·exact cpow (by lia) (by lia)
        ·rw[cK];refine zt8 (k:=(cU b (2 ^ g.toNat),g)) ?_
         wp_walk
         ·exact bad fun z=>(z.2.2 rfl).2 ((hf _).mp hc)
         ·refine L _ _ _ (good ⟨fun z=>absurd z e5,fun z=>absurd z e6,fun _=>⟨by dsimp only;lia,fun z=>?_⟩⟩)
          rw[(hf _).mpr z]at hc;cases hc
      ·rintro _ _ m' ⟨rfl,hi⟩
       wp_walk
       ·exact cpow (by lia) (by lia)
       ·refine k1 _ ?_;rw[decide_eq_true_eq,cK];constructor
        ·intro el;rw[el]at ch;refine⟨ch,fun r C=>?_⟩
         obtain⟨i,ei⟩:=cS.mp C;exact hi i r (by have:=(av.mp ei).1;rw[QG];exact this) ei
        ·rintro⟨cc,_⟩;exact zg_ ch cc
   ·refine k false ⟨fun y=>(by cases y),fun⟨rs,e,⟨P,_,W⟩,_⟩=>?_⟩
    cases e;rw[ztk U fun r C=>⟨P.1 r.1 (aS.mpr ⟨r,C,rfl⟩),W r C⟩]at hc
    cases hc
 | _ =>
  have k:=no fun rs z=>by cases z
  wp_walk
  exact k
theorem zpY{xs ys:List NP}:oD xs++oD ys=oD (xs++ys):=by unfold oD;rw[eh]
def Ws:Nat->GD
 | 0=>fun _ _ _=>False
 | j+1=>fun ts n R=>∃(bits:Int) (b:Int×Int),ts=[HAND,.tuple [.int b.1,.int b.2],.int j]/\0<=bits/\bits<=64/\IsBk bits b.1 b.2/\n<=1000000000000 - 8*2 ^ j/\j<=10/\∀(rs:List NP) (m:Nat),rs≠[]->rs.length<=2 ^ j->(∀r∈rs,IsBk bits r.1.1 r.1.2/\IsWd r.2)->m+2<=n+4*2 ^ j->R (.list (oD rs)) m
theorem zep{j:Nat}{bits:Int}{b:Int×Int}{n:Nat}{R:qN}(v:0<=bits)(x:bits<=64)(B:IsBk bits b.1 b.2)(y:n<=1000000000000 - 8*2 ^ j)(o:j<=10)(h:∀(rs:List NP) (m:Nat),rs≠[]->rs.length<=2 ^ j->(∀r∈rs,IsBk bits r.1.1 r.1.2/\IsWd r.2)->m+2<=n+4*2 ^ j->R (.list (oD rs)) m):Ws (j+1) [HAND,.tuple [.int b.1,.int b.2],.int j] n R:=⟨bits,b,rfl,v,x,B,y,o,h⟩
def zf9(Z:ZZ):Prop:=FQ Z "_law_cut" (top 52) ["_law_hand_here","_law_block_here","_law_deep"] 9 (spD Z.K 3 (Ws 6))
theorem Zn(D:Dq Z.K Z.mg "_law_cut" (top 52) ["_law_hand_here","_law_block_here","_law_deep"]) (Hk:Ua Z) (Hl:Q9 Z) (T:Txt Z.mg) (j:Nat) (U:FQ Z "_law_cut" (top 52) ["_law_hand_here","_law_block_here","_law_deep"] (3+j) (spD Z.K 3 (Ws j))):FQ Z "_law_cut" (top 52) ["_law_hand_here","_law_block_here","_law_deep"] (3+j+1) (spD Z.K 3 (Ws (j+1))):=by
 refine' okQ D (fnS (N:=["_law_hand_here","_law_block_here","_law_deep","_law_begin","_law_height","_law_low"]) (by decide +kernel)) rfl fun f am A outer s H E v=>⟨_,(Jb (Js (JT (Qf (Jn (J7 v) J6 (dlv 2) dli (Jh _)) (Qf (Jn (J7 v) J6 (dl (Je (dlv 1) dli)) dli (Jh _)) (QB (Jn (J7 v) J6 (dl (Jd Hk v (dbv 0 (dbc Ji Ja)) (by omega))) dli (Jh _)))))) (Jc (Jg (Jp (JH (dbc (Jk (dbv 1 (dbc (Jd Hl v (dbv 0 (dbc (Jp (JH (dbc JK (dbc JK (dbc JK (dbc JK Ja)))))) Ja)) (by omega)) Ja))) Ja))))) Jy) (Jb (QA (Jj 1) (JE rfl (Jl (dgv 3 (ndB rfl)) (Jl (dgv 4 (ndB rfl)) JD)))) (Jb (dsv 5 (ndB rfl) (Jd U v (dbv 0 (dbc (Jk (dbv 3 (dbc (Qz (dlv 4) dli) Ja))) (dbc (Qz (dlv 2) dli) Ja))) (by omega))) (Jc (Jg (Jp (VC (dlv 5) (dl (Jd U v (dbv 0 (dbc (Jk (dbc (Jr (dlv 3) (dl (JW dli (dl (Qz (dlv 4) dli))))) (dbc (Qz (dlv 4) dli) Ja))) (dbc (Qz (dlv 2) dli) Ja))) (by omega)))))))))),?_⟩
 intro ts n R hl h;obtain⟨bits,b,rfl,S,L,B,hn,hj,h⟩:=h;have pj:1<=2 ^ j:=Nat.one_le_two_pow;have C:(2:Nat) ^ j<=2 ^ 10:=mX (by decide) hj
 have C:(2:Nat) ^ j<=1024:=C;have pk:∀{m:Nat} {I:qN},m<=n+2->(∀w,IsWd w->I (.str w) (m+1))->UR [HAND,.list [.str (af "free"),.str (af "out"),.str (af "kept"),.str (af "free")]] m I:=fun hm h'=>UE (by simp) (by simp) (by lia) fun x hx=>by
  simp only[az,aO,or_false]at hx;rcases hx with rfl|rfl|rfl|rfl
  ·exact h' _ (.inr (.inr rfl))
  ·exact h' _ (.inl rfl)
  ·exact h' _ (.inr (.inl rfl))
  ·exact h' _ (.inr (.inr rfl))
 have one:∀(w:Str) (m:Nat),IsWd w->m<=n+2->R (.list [.tuple [.tuple [.int b.1,.int b.2],.str w]]) m:=fun w m hw hm=>h [(b,w)] m (by simp) (by simpa using pj) (fun r v=>by cases aA.mp v;exact⟨B,hw⟩) (by lia)
 have g0:=B.1;have g1:=B.2.1
 wp_walk using pk ?_ (fun w hw=>?_),QV ?_ ?_ ?_ (fun r r0 r1=>?_)
 all_goals first
  | decide
  | lia
  | exact one _ _ hw (by lia)
  | skip
 obtain⟨y,rfl⟩:∃y,j=y+1:=⟨j - 1,by lia⟩
 have J:(((y+1:Nat):Int)) - 1=(y:Int):=by lia
 have ep:2 ^ (y+1)=2*2 ^ y:=by rw[ka];lia
 rw[ep]at hn h C;have G:0<b.2:=by lia
 rw[J];refine zep (b:=(b.1,b.2 - 1)) S L (B.low G) (by lia) (by lia) fun xs m1 x0 x1 Y x3=>?_
 wp_walk
 all_goals first
  | exact cpow (by lia) (by lia)
  | skip
 have e2:b.1+1*2 ^ (b.2 - 1).toNat=b.1+2 ^ b.2.toNat / 2:=by
  obtain⟨k,hk⟩:∃k,b.2.toNat=k+1:=⟨b.2.toNat - 1,by lia⟩
  have:(b.2 - 1).toNat=k:=by lia
  rw[this,hk,cA];lia
 rw[J,e2];refine zep (b:=(b.1+2 ^ b.2.toNat / 2,b.2 - 1)) S L (B.up G) (by lia) (by lia) fun ys m2 y0 y1 y2 y3=>?_
 wp_walk
 ·rw[QG,QG];lia
 ·rw[zpY];refine h (xs++ys) m2 (by simp[x0]) (by rw[aJ];lia) (fun r v=>?_) (by lia)
  rcases ax.mp v with z|z
  ·exact Y r z
  ·exact y2 r z
theorem zja(D:Dq Z.K Z.mg "_law_cut" (top 52) ["_law_hand_here","_law_block_here","_law_deep"]) (o:Ua Z) (l:Q9 Z) (T:Txt Z.mg):zf9 Z:=(Zn D o l T 5 (Zn D o l T 4 (Zn D o l T 3 (Zn D o l T 2 (Zn D o l T 1 (Zn D o l T 0 (zrC D fun _ _ _ h=>h)))))))
def zcg:GD:=fun ts n R=>∃(d:Deal) (nm:Str) (rs:List NP),ts=[dlD d,.str nm,.list (oD rs)]/\Dl d/\IsNm nm/\d.2.1.length<=20/\d.2.2.length<=20/\rs.length<=1000/\(∀r∈rs,IsBk d.1 r.1.1 r.1.2)/\∀o:List NP,o.length=rs.length->(∀r∈o,IsBk d.1 r.1.1 r.1.2/\IsWd r.2)->R (.list (oD o)) n
theorem zeo{d:Deal}{nm:Str}{rs:List NP}{n:Nat}{R:qN}(D:Dl d)(hw:IsNm nm)(v:d.2.1.length<=20)(l2:d.2.2.length<=20)(u:rs.length<=1000)(x:∀r∈rs,IsBk d.1 r.1.1 r.1.2)(h:∀o:List NP,o.length=rs.length->(∀r∈o,IsBk d.1 r.1.1 r.1.2/\IsWd r.2)->R (.list (oD o)) n):zcg [dlD d,.str nm,.list (oD rs)] n R:=⟨d,nm,rs,rfl,D,hw,v,l2,u,x,h⟩
def zca(Z:ZZ):Prop:=FQ Z "_law_true_words" (top 53) ["_law_deal_here","_law_name","_law_pieces"] 2 (spD Z.K 3 zcg)
theorem zdN(D:Dq Z.K Z.mg "_law_true_words" (top 53) ["_law_deal_here","_law_name","_law_pieces"]) (Hr:zdl Z) (T:Txt Z.mg):zca Z:=by
 refine' okQ D (fnS (N:=["_law_deal_here","_law_name","_law_pieces","_law_outs","_law_kept","_law_found","_law_block_here","_law_word"]) (by decide +kernel)) rfl fun f am A outer s H E y=>⟨_,(Jb (Yc (US (i:=3) (ndB rfl) rfl (df rfl) (own:=["_law_one","_law_owner"]) (capt:=[]) rfl (JB.of rfl) (dil (JR (Je (dlv 0) dli))) (fun _ _ _ _=>(JE rfl (Jl (dgv 0 (ndB rfl)) (Jl (dgv 1 (ndB rfl)) JD)))) (by decide) (fun _ _ _ _=>Uw) (fun _ _ _ _=>(Jj 0)))) (Jb (Yc (US (i:=4) (ndB rfl) rfl (df rfl) (own:=["_law_one","_law_owner"]) (capt:=[1]) rfl (JB.of rfl) (dil (JR (Je (dlv 0) dli))) (fun _ _ _ _=>(JE rfl (Jl (dgv 0 (ndB rfl)) (Jl (dgv 1 (ndB rfl)) JD)))) (by decide) (fun _ _ _ _=>(UN (Jn (Uk y) Ud (dlv 1) (dlv 2) (Jh _)))) (fun _ _ _ _=>(Jj 0)))) (Jb (QM (i:=5) (ndB rfl) rfl (df rfl) (JH Ja)) (Jb (Qg bw rfl (VB (Jj 2)) (JE rfl (Jl (dgv 6 (ndB rfl)) (Jl (dgv 7 (ndB rfl)) JD))) (Jb (dsv 7 (ndB rfl) (V3 (JU (dl (Jd Hr y (dbv 3 (dbv 6 Ja))))) JK (V3 (JU (dl (Jd Hr y (dbv 4 (dbv 6 Ja))))) JK JK))) (Jc (Qm 5 (Jk (dbv 6 (dbv 7 Ja))))))) (QS 5 (Jc (Jg (Jj 5)))))))),?_⟩
 intro ts n R hl h;obtain⟨⟨bits,os,v⟩,nm,rs,rfl,D,hw,l1,l2,lr,RB,h⟩:=h;obtain⟨b0,Y,S1,S2,_⟩:=D;have b0:1<=bits:=b0;have Y:bits<=64:=Y;have l1:os.length<=20:=l1;have l2:v.length<=20:=l2;have e:dlD (bits,os,v)=.tuple [.int bits,.tuple (oD os),.tuple (oD v)]:=rfl;rw[e]
 wp_walk
 refine QH (cs:=os) (D:=fun p=>.tuple [prD p.1,.str p.2]) (fun p=>prD p.1) (by lia) ?_ ?_
 ·intro p I K X C
  wp_walk
  exact C
 have em:(os.map fun p=>prD p.1)=pD (os.map (·.1)):=by unfold pD;rw[bT];rfl
 rw[em]
 wp_walk
 refine Yj (cs:=v) (D:=fun p=>.tuple [prD p.1,.str p.2]) (fun p=>!who p.2 (.str nm)) (fun p=>prD p.1) (by lia) ?_ ?_
 ·intro p I K X C hX
  wp_walk
  ·exact hX (by show(!decide (p.2=nm))=false;rw[decide_eq_true hc];rfl)
  ·exact C (by show(!decide (p.2=nm))=true;rw[decide_eq_false hc];rfl)
 have ek:((v.filter fun p=>!who p.2 (.str nm)).map fun p=>prD p.1)=pD (JF (bits,os,v) (.str nm)):=by
  unfold pD JF;rw[bT];rfl
 rw[ek];have L:(os.map (·.1)).length<=1000:=by rw[aM];lia
 have lk:(JF (bits,os,v) (.str nm)).length<=1000:=cy Vk (by show v.length<=_;lia)
 have G:∀{ps:qB},Bks bits ps->∀p∈ps,0<=p.2/\p.2<=64:=fun B p I=>⟨(B p I).1,cT (B p I).2.1 Y⟩
 have hOs:=G S1.1.1;have hKs:=G (zeg (os:=os) (nm:=.str nm) S2.1).1
 wp_walk
 refine VG 5 6 7 (fun j c _ _ m=>m=n/\∃ys:List NP,c=some (.own (oD ys))/\ys.length=j/\∀r∈ys,IsBk bits r.1.1 r.1.2/\IsWd r.2) ⟨rfl,[],rfl,rfl,fun r y=>(nomatch y)⟩ ?_ ?_
 ·rintro j x _ _ _ m K RT BK ej ⟨rfl,ys,rfl,U,S⟩ C hRT hBK;obtain⟨r,er,rfl⟩:=VU ej;have y:=aH er;have B:IsBk bits r.1.1 r.1.2:=RB r y;have g0:0<=r.1.2:=B.1;have g1:r.1.2<=bits:=B.2.1;have g2:r.1.2<=64:=by lia
  have jl:=(av.mp er).1;have put:∀w,IsWd w->m=m/\∃zs:List NP,some (Cell.own (oD ys++[.tuple [.tuple [.int r.1.1,.int r.1.2],.str w]]))=some (.own (oD zs))/\zs.length=j+1/\∀r∈zs,IsBk bits r.1.1 r.1.2/\IsWd r.2:=fun w J=>⟨rfl,ys++[(r.1,w)],by rw[<- zpY];rfl,by simp[U],fun q hq=>by
   rcases ax.mp hq with z|z
   ·exact S q z
   ·cases aA.mp z;exact⟨B,J⟩⟩
  wp_walk using Wn (ps:=os.map (·.1)) (b:=r.1) L hOs g0 g2 ?_,Wn (ps:=JF (bits,os,v) (.str nm)) (b:=r.1) lk hKs g0 g2 ?_
  all_goals first
   | (rw[QG];lia)
   | exact C _ _ _ _ (put _ (.inl rfl))
   | exact C _ _ _ _ (put _ (.inr (.inl rfl)))
   | exact C _ _ _ _ (put _ (.inr (.inr rfl)))
 ·rintro _ _ _ m ⟨rfl,ys,rfl,U,S⟩
  wp_walk
  exact h ys (by rw[U,QG]) S
def GdK(k:Nat)(x:ae):Prop:=PlnD x/\OkK k x
theorem Ut{k:Nat}{i:Int}:GdK k (.int i):=⟨zoT,zmN.mono (cJ _)⟩
theorem zno{k:Nat}:GdK k .none:=⟨zms,zj2.mono (cJ _)⟩
theorem QD{k:Nat}:∀t∈([]:qD),GdK k t:=fun t h=>(nomatch h)
theorem Qe{k:Nat}{x:ae}{xs:qD}(h:GdK k x)(h':∀t∈xs,GdK k t):∀t∈x::xs,GdK k t:=fun t l=>by
 rcases az.mp l with rfl|l
 ·exact h
 ·exact h' t l
theorem Us{k:Nat}{xs ys:qD}(h:∀t∈xs,GdK k t)(h':∀t∈ys,GdK k t):∀t∈xs++ys,GdK k t:=fun t l=>by
 rcases ax.mp l with l|l
 ·exact h t l
 ·exact h' t l
theorem QY{k:Nat}{ts:qD}(l:ts.length<=1000000)(h:∀t∈ts,GdK k t):GdK (k+1) (.tuple ts):=⟨zjY l fun t o=>(h t o).1,zjb fun t o=>(h t o).2⟩
theorem znp{k:Nat}{ts:qD}(l:ts.length<=1000000)(h:∀t∈ts,GdK k t):GdK (k+1) (.list ts):=⟨zoS l fun t o=>(h t o).1,zmM fun t o=>(h t o).2⟩
theorem Yl{k:Nat}{w:Str}(h:IsWd w):GdK k (.str w):=by
 rcases h with rfl|rfl|rfl
 ·exact⟨Wb (by decide +kernel),(Ye (by decide +kernel)).mono (cJ _)⟩
 ·exact⟨Wb (by decide +kernel),(Ye (by decide +kernel)).mono (cJ _)⟩
 ·exact⟨Wb (by decide +kernel),(Ye (by decide +kernel)).mono (cJ _)⟩
theorem zqb{k:Nat}{s:Str}(h:s.length<=1000000)(h':cE (.str s)=true):GdK k (.str s):=⟨Wb h,(Ye h').mono (cJ _)⟩
theorem zrx{k:Nat}{ts:qD}(h:∀t∈ts,GdK k t):∀t∈ts.reverse,GdK k t:=fun t l=>h t (List.mem_reverse.mp l)
theorem zuv{k:Nat}{r:NP}(h:IsWd r.2):GdK (k+2) (.tuple [.tuple [.int r.1.1,.int r.1.2],.str r.2]):=QY (by simp) (Qe (QY (by simp) (Qe Ut (Qe Ut QD))) (Qe (Yl h) QD))
theorem znn{k:Nat}{rs:List NP}(h:∀r∈rs,IsWd r.2):∀t∈oD rs,GdK (k+2) t:=fun t l=>by
 obtain⟨r,o,rfl⟩:=aS.mp l;exact zuv (h r o)
def zdX:GD:=fun ts n R=>∃(bits:Int) (rs:List NP),ts=[HAND,.tuple (oD rs)]/\0<=bits/\bits<=64/\rs≠[]/\rs.length<=100000/\(∀r∈rs,IsBk bits r.1.1 r.1.2/\IsWd r.2)/\n<=1000000000000 - 100/\∀(t:ae) (m:Nat),GdK 10 t->m<=n+10->R t m
theorem zhb{bits:Int}{rs:List NP}{n:Nat}{R:qN}(o:0<=bits)(y:bits<=64)(ne:rs≠[])(v:rs.length<=100000)(x:∀r∈rs,IsBk bits r.1.1 r.1.2/\IsWd r.2)(C:n<=1000000000000 - 100)(h:∀(t:ae) (m:Nat),GdK 10 t->m<=n+10->R t m):zdX [HAND,.tuple (oD rs)] n R:=⟨bits,rs,rfl,o,y,ne,v,x,C,h⟩
def zdH(Z:ZZ):Prop:=FQ Z "_law_spoilt" (top 54) ["_law_hand_here","_law_paper"] 3 (spD Z.K 2 zdX)
theorem zfI(D:Dq Z.K Z.mg "_law_spoilt" (top 54) ["_law_hand_here","_law_paper"]) (Hk:Ua Z) (Hl:Q9 Z) (T:Txt Z.mg):zdH Z:=by
 refine' okQ D (fnS (N:=["_law_hand_here","_law_paper","_law_at","_law_block_here","_law_word","_law_begin","_law_height","_law_low","_law_size","_law_cut_here","_law_some","_law_ways","_law_other","_law_turn"]) (by decide +kernel)) rfl fun f am A outer s H E I=>⟨_,(Jb (dsv 2 (ndB rfl) (Jd Hk I (dbv 0 (dbc (JA QP QN T.len QJ (Jm (dlv 1) Jo Jt)) Ja)))) (Jb (QA (Je (dlv 1) (dlv 2)) (JE rfl (Jl (dgv 3 (ndB rfl)) (Jl (dgv 4 (ndB rfl)) JD)))) (Jb (QA (Jj 3) (JE rfl (Jl (dgv 5 (ndB rfl)) (Jl (dgv 6 (ndB rfl)) JD)))) (Jb (zqf (i:=7) (j:=8) rfl (ndB rfl) rfl rfl (by decide) rfl rfl (dbc (JA (Zi rfl) YM T.max Zg (Jm dli (Jm (dl (Qz (dlv 6) dli)) Jo VS) ZK)) (dbc (JW dli (dl (JA (Zi rfl) YM T.max Zg (Jm dli (Jm (dl (Qz (dlv 6) dli)) Jo VS) ZK)))) Ja))) (Jb (dsv 9 (ndB rfl) (Jk (dbc (Jk (dbc (Jk (dbv 5 (dbv 7 Ja))) (dbv 4 Ja))) (dbc (Jk (dbc (Jk (dbc (Jr (dlv 5) (dlv 8)) (dbv 7 Ja))) (dbv 4 Ja))) Ja)))) (Jb (dsv 10 (ndB rfl) (Jp (JH (dbc (Jk (dbv 3 (dbv 4 (dbc Ji Ja)))) (dbc (Jk (dbv 3 Ja)) (dbc (Jp (JH (dbv 3 (dbv 4 Ja)))) (dbc (Jk (dbc (Jp (znz T.lst (dlv 3) Jt)) (dbv 4 Ja))) (dbc (Jk (dbv 3 (dbc QW Ja))) (dbc (Jk (dbv 3 (dbc JK Ja))) (dbc QW (dbv 3 Ja))))))))))) (Jb (dsv 10 (ndB rfl) (Jp (VC (dlv 10) (dl (Jp (JH (dbc (Jk (dbc (Jk (dbv 5 (dbc JQ Ja))) (dbv 4 Ja))) (dbc (Jk (dbc (Jk (dbv 5 (dbc (Jr (dlv 6) dli) Ja))) (dbv 4 Ja))) (dbc (Jk (dbc (Jk (dbc (Jr (dlv 5) dli) (dbv 6 Ja))) (dbv 4 Ja))) (dbc (Jk (dbv 4 (dbv 3 Ja))) Ja)))))))))) (Jb (QM (i:=11) (ndB rfl) rfl (df rfl) (JH (dbc (Jr (dl (QI (dlv 1) Qy (Qs (Jj 2)))) (dl (QI (dlv 1) (Qs (Jr (dlv 2) dli)) Qy))) (dbc (Jr (dl (Jr (dl (QI (dlv 1) Qy (Qs (Jj 2)))) (dl (Jk (dbc (Je (dlv 1) (dlv 2)) Ja))))) (dl (QI (dlv 1) (Qs (Jj 2)) Qy))) (dbc (zuJ (dlv 1) (Qs (U5 Ji))) (dbc (Jp (znz T.lst (dlv 1) Jt)) Ja)))))) (Jb (QM (i:=11) (ndB rfl) rfl (df rfl) (VC (U6 11) (dl (Jp (JH (dbc (Jr (dl (Jr (dl (QI (dlv 1) Qy (Qs (Jj 2)))) (dl (V3 (Jn Ue gp_B (dlv 6) dli (Jh _)) (Jj 9) (Jk (dbc (Je (dlv 1) (dlv 2)) Ja)))))) (dl (QI (dlv 1) (Qs (Jr (dlv 2) dli)) Qy))) (dbc (Jr (dlv 1) (dl (Jk (dbc (Je (dlv 1) (dlv 2)) Ja)))) Ja))))))) (Jb (Qg bw rfl (JR (Jk (dbc JK (dbc JK (dbc JK Ja))))) (dgv 12 (ndB rfl)) (Jc (Qm 11 (Jr (dl (Jr (dl (QI (dlv 1) Qy (Qs (Jj 2)))) (dl (Jk (dbc (Jk (dbv 3 (dbv 12 Ja))) Ja))))) (dl (QI (dlv 1) (Qs (Jr (dlv 2) dli)) Qy)))))) (Jb (Qg bw rfl (Vn T.ran Ji) (dgv 13 (ndB rfl)) (Jc (Qm 11 (Jr (dl (Jr (dl (QI (dlv 1) Qy (Qs (Jj 2)))) (dl (Jk (dbc (Jd Hl I (dbv 0 (dbv 10 Ja))) Ja))))) (dl (QI (dlv 1) (Qs (Jr (dlv 2) dli)) Qy)))))) (QS 11 (Jc (Jg (Jd Hl I (dbv 0 (dbv 11 Ja))))))))))))))))),?_⟩
 intro ts n R hl h;obtain⟨bits,rs,rfl,b0,b1,ne,lr,RB,hn,h⟩:=h;have lp:0<rs.length:=fM.mpr ne;have lo:(oD rs).length=rs.length:=QG;have go:∀{k},∀t∈oD rs,GdK (k+2) t:=fun {k}=>znn fun r I=>(RB r I).2
 wp_walk using QV ?_ ?_ ?_ (fun r r0 r1=>?_)
 ·lia
 ·rw[lo];exact Int.lt_of_lt_of_le (b:=1000000) (by lia) (by decide)
 ·lia
 have rl:r.toNat<rs.length:=by lia
 obtain⟨q,hq⟩:∃q,rs[r.toNat]?=some q:=⟨_,ak rl⟩;have G:∀{U:ae->Prop},U (.tuple [.tuple [.int q.1.1,.int q.1.2],.str q.2])->oIx (.tuple (oD rs)) (.int r) U:=fun {U} z=>by
  rw[U0 (Ve r0 (ztl hq))];exact z
 obtain⟨B,W⟩:=RB q (aH hq);have g0:0<=q.1.2:=B.1;have g1:q.1.2<=bits:=B.2.1;have cl:∀lo hi,(cutD (oD rs) lo hi).length<=100000:=fun lo' hi=>cy zpC (by lia)
 have C:∀{k lo hi},∀t∈cutD (oD rs) lo hi,GdK (k+2) t:=fun {k lo hi} t ht=>go t (zpB ht)
 refine G ?_
 wp_walk using G ?_
 all_goals
  have c1:=cl none (some r);have c2:=cl (some (r+1)) none;have c3:=cl (some r) none
 all_goals first
  | rfl
  | exact cpow (by split <;> lia) (by split <;> lia)
  | (simp only[aJ,aF,bo];lia)
  | (simp only[aJ,aF,bo];decide)
  | lia
  | skip
 all_goals
  have sm:∀t∈[iD [.tuple [.int q.1.1,.int q.1.2],.str q.2,.int 0],.tuple [.tuple [.int q.1.1,.int q.1.2]],.list [.tuple [.int q.1.1,.int q.1.2],.str q.2],.tuple [.list [.int q.1.1,.int q.1.2],.str q.2],.tuple [.tuple [.int q.1.1,.int q.1.2],.none],.tuple [.tuple [.int q.1.1,.int q.1.2],.str (af "Free")],.none,.tuple [.int q.1.1,.int q.1.2]]++[.tuple [.tuple [.int q.1.1,.bool true],.str q.2],.tuple [.tuple [.int q.1.1,.int (q.1.2+1)],.str q.2],.tuple [.tuple [.int (q.1.1+1),.int q.1.2],.str q.2],.tuple [.str q.2,.tuple [.int q.1.1,.int q.1.2]]],GdK 9 t:=by
   repeat' first
    | exact Ut
    | exact Yl W
    | exact zno
    | exact gd_bool
    | exact QD
    | exact zqb (by decide +kernel) (by decide +kernel)
    | refine Qe ?_ ?_
    | refine Us ?_ ?_
    | refine QY (by simp) ?_
    | refine znp (by simp) ?_
  refine YK 11 12 (fun k c _ m=>m=n+1/\∃v,c=some (.own v)/\v.length=6+k/\∀u∈v,GdK 10 u) ⟨rfl,_,rfl,by simp,?_⟩ ?_ ?_
  ·repeat' first
    | exact Ut
    | exact Yl W
    | exact QD
    | exact go (k:=7)
    | exact C (k:=7)
    | exact zrx (go (k:=7))
    | refine Qe ?_ ?_
    | refine Us ?_ ?_
    | refine QY (by simp only[aJ,aF,bo,nG];lia) ?_
    | refine znp (by lia) ?_
  ·rintro j x _ _ m K RT BK J ⟨rfl,v,rfl,L,gu⟩ hK hRT hBK;have j3:=(av.mp J).1;have j3:j<3:=j3;have gx:GdK 8 x:=by
    have:=aH J;simp only[az,aO,or_false]at this;rcases this with rfl|rfl|rfl
    ·exact Yl (.inl rfl)
    ·exact Yl (.inr (.inl rfl))
    ·exact Yl (.inr (.inr rfl))
   wp_walk
   all_goals first
    | lia
    | (simp only[aJ,aF,bo];lia)
    | skip
   refine hK _ _ _ ⟨rfl,_,rfl,?_,?_⟩
   ·simp only[aJ,aF,bo];lia
   ·refine Us gu (Qe (QY ?_ (Us (Us (C (k:=7)) (Qe (QY (by simp) (Qe (QY (by simp) (Qe Ut (Qe Ut QD))) (Qe gx QD))) QD)) (C (k:=7)))) QD)
    simp only[aJ,aF,bo];lia
  ·rintro _ _ m ⟨rfl,v,rfl,L,gu⟩;have L:v.length=9:=L
   wp_walk
   ·decide
   ·decide
   generalize hts:Qj 0 (Int.toNat 4)=us4;have h4:us4.length=4:=by rw[<- hts,zf1];rfl
   refine YK 11 13 (fun k c _ m=>m=n+1+k/\∃v,c=some (.own v)/\v.length=9+k/\∀u∈v,GdK 10 u) ⟨rfl,v,rfl,L,gu⟩ ?_ ?_
   ·rintro j x _ _ m K RT BK J ⟨rfl,vs,rfl,Y,gv⟩ hK hRT hBK;have j4:=(av.mp J).1
    wp_walk
    refine UE (by simp) (by simp) (by lia) fun y S=>?_
    have gy:=sm y S
    wp_walk
    all_goals first
     | lia
     | (simp only[aJ,aF,bo];lia)
     | skip
    refine hK _ _ _ ⟨?_,_,rfl,?_,?_⟩
    ·lia
    ·simp only[aJ,aF,bo];lia
    ·refine Us gv (Qe (QY ?_ (Us (Us (C (k:=7)) (Qe gy QD)) (C (k:=7)))) QD);simp only[aJ,aF,bo];lia
   ·rintro _ _ m ⟨rfl,vs,rfl,Y,gv⟩
    wp_walk
    exact UE (fun z=>by rw[z]at Y;simp only[bo]at Y;lia) (by lia) (by lia) fun y S=>h y _ (gv y S) (by lia)
def TP(bits:Int)(t:ae):Prop:=(∃i h:Int,t=.tuple [.int i,.int h])\/∃rs:List NP,t=.tuple (oD rs)/\rs≠[]/\rs.length<=100000/\∀r∈rs,IsBk bits r.1.1 r.1.2/\IsWd r.2
theorem TP.gd{bits:Int}{t:ae}(h:TP bits t):GdK 10 t:=by
 rcases h with⟨i,h,rfl⟩|⟨rs,rfl,_,l,b⟩
 ·exact QY (by simp) (Qe Ut (Qe Ut QD))
 ·exact QY (by rw[QG];lia) (znn (k:=7) fun r o=>(b r o).2)
theorem zuS{d:Deal}{nm:ae}{h:Int}{n:Nat}{R:qN}(D:Dl d)(hw:QC nm)(l:d.2.1.length+d.2.2.length<100000)(o:d.2.1.length<=20)(l2:d.2.2.length<=20)(k:∀(w:Str) (t:ae),TP d.1 t->R (.tuple [.str w,t]) n):zrz [dlD d,nm,.int h] n R :=
 zxf D hw l o l2 fun x _=>⟨fun q _ _ _=>k _ _ (.inl ⟨_,_,rfl⟩),fun _ rs RR v _=>k _ _ (.inr ⟨rs,rfl,(zf0 D RR).2,by lia,(zf0 D RR).1⟩)⟩
theorem zth{f:au}{fd:dJ}(D:Def Z.K Z.mg "law" (top 55) ["_law_script"] f fd) (HY:ze4 Z) (HZ:ze6 Z) (HB:zf9 Z) (Hl:Q9 Z) (Hk:Ua Z) (IV:zsF Z) (Hz:zca Z) (HS:zet Z) (HL:zdH Z) (HE:zcJ Z) (T:Txt Z.mg):FnOk Z.P Z.w Z.K Z.mg Z.base CX0 10 f fd ["_law_script"] (spD Z.K 1 zuw):=by
 refine D.okD (fnS (N:=["_law_script","_law_k","_law_hand_here","_law_deal_here","_law_names_here","_law_name","_law_height","_law_told","_law_pieces","_law_true","_law_some","_law_paper","_law_turn","_law_thing","_law_high","_law_found"]) (by decide +kernel)) rfl fun am A outer s H E C=>?_
 refine'⟨_,(Jb (Qg bw rfl (Vn T.ran (JA (Zi rfl) YM T.max Zg (Jm dli (Jm (dl (JA (Vm rfl) ZH T.min Yk (Jm dli (Jm (dl (JA QP QN T.len QJ (Jm (dlv 0) Jo Jt))) Jo Uy) ZK))) Jo Uy) ZK))) (dgv 1 (ndB rfl)) (znv (i:=2) (j:=1) HY C (ndB rfl) rfl (df rfl) (Jb (QA (Jd HZ C (dbv 2 (dbv 1 Ja))) (JE rfl (Jl (dgv 3 (ndB rfl)) (Jl (dgv 4 (ndB rfl)) JD)))) (Jb (zqf (i:=5) (j:=6) rfl (ndB rfl) rfl rfl (by decide) rfl rfl (dbc (Jd Hl C (dbv 2 (dbv 4 Ja))) (dbc (Jd Hk C (dbv 2 (dbc (Jr (dl (Je (dlv 3) dli)) dli) Ja))) Ja))) (Jb (dsv 7 (ndB rfl) (Je (dl (Jd IV C (dbv 3 (dbv 5 (dbc (Je (dlv 3) dli) Ja))))) dli)) (Jb (dsv 8 (ndB rfl) (Jd HB C (dbv 2 (dbc (Jk (dbc Ji (dbc (Je (dlv 3) dli) Ja))) (dbc Ji Ja))))) (Jb (dsv 9 (ndB rfl) (Qp Ub Q1 T.tup Qa (Jm (dl (Jd Hz C (dbv 3 (dbv 5 (dbv 8 Ja))))) Jo Uy))) (Jb (QM (i:=10) (ndB rfl) rfl (df rfl) (JH (dbc (Qp Ub Q1 T.tup Qa (Jm (dlv 8) Jo Jt)) (dbv 9 (dbv 7 (dbc QW (dbc JQ (dbc Ji (dbc JK (dbc (Jk Ja) (dbc (Jp (JH Ja)) (dbc (Jk (dbc (Jk Ja) Ja)) (dbc (Jk (dbc QW Ja)) Ja))))))))))))) (Jb (Qg bw rfl (Yb (Jp (JH (dbc (Qp Ub Q1 T.tup Qa (Jm (dlv 8) Jo Jt)) (dbv 9 (dbv 7 Ja)))))) (dgv 11 (ndB rfl)) (Jc (Qg bw rfl (Vn T.ran (ZF dli (dl (Qp Vl VH T.int boot_int (Jm (dl (Qq UU T.isi T.tup Qa (dl (Je (dlv 11) dli)) QZ)) Jo Uy))))) (dgv 12 (ndB rfl)) (Jc (Qm 10 (Jd HL C (dbv 2 (dbv 11 Ja)))))))) (QS 10 (Jc (Qg bw rfl (Yb (Jj 10)) (dgv 13 (ndB rfl)) (Jc (Qg bw rfl (JR (Jk (dbv 6 (dbc (Je (dlv 3) dli) Ja)))) (dgv 14 (ndB rfl)) (Jb (dsv 15 (ndB rfl) (Jd HS C (dbv 3 (dbv 5 (dbv 14 (dbv 13 Ja)))))) (Jc (Js (JT (Qf (Qc (JU (dl (Qq zjt T.isi T.boo zeq (dlv 15) Jt)))) (QB (Jn (Uk C) Ud (dlv 15) (dl (Jd HE C (dbv 3 (dbv 5 (dbv 14 (dbv 13 Ja)))))) (Jh _))))) (Jc (Jg JQ)) Jy))))))))))))))))) (Jc (Jg JQ))),?_⟩
 intro ts n R hl hh;obtain⟨ns,rfl,hl63,hh⟩:=hh
 wp_walk
 ·split <;> (try split) <;> lia
 ·split <;> (try split) <;> lia
 refine UT (fun _ ρ m=>∃a1 a2 a3 a4 a5 a6 a7 a8 a9 a10 a11 a12 a13 S Y,ρ=[some (.val (SCR ns)),a1,a2,a3,a4,a5,a6,a7,a8,a9,a10,a11,a12,a13,S,Y]/\m=n) ⟨_,_,_,_,_,_,_,_,_,_,_,_,_,_,_,rfl,rfl⟩ ?_ ?_
 ·rintro k t ρ m K et ⟨a1,a2,a3,a4,a5,a6,a7,a8,a9,a10,a11,a12,a13,S,Y,rfl,rfl⟩ hK;obtain⟨hk,rfl⟩:=zf2 et;have hk8:k<8:=by
   revert hk;split <;> (try split) <;> lia
  with_reducible refine Stp.go ?_
  refine zpj hl63 (by lia) (by lia) fun NX RT BK CT hNX hRT hBK hCT=>?_
  wp_walk using zjD ?_ ?_ (fun d U m3 D ne nl nk l1 l2 hm3=>?_)
  ·lia
  ·lia
  obtain⟨bits,os,I⟩:=d;have b0:1<=bits:=D.1;have b1:bits<=64:=D.2.1;have l1:os.length<=20:=l1;have l2:I.length<=20:=l2;have e:dlD (bits,os,I)=.tuple [.int bits,.tuple (oD os),.tuple (oD I)]:=rfl;have pk:∀{m:Nat} {R':qN},m<=1000000->(∀s,IsNm s->R' (.str s) (m+1))->UR [HAND,.list (nD U)] m R':=fun hm h'=>UE (fun z=>ne (eY.mp z)) (by rw[show(nD U).length=U.length from aM ..];lia) (by lia) fun x hx=>by
   obtain⟨s,hs,rfl⟩:=aS.mp hx;exact h' s (nk s hs)
  rw[e]
  wp_walk using pk ?_ (fun s hs=>?_),QV ?_ ?_ ?_ (fun r r0 r1=>?_)
  all_goals first
   | lia
   | skip
  have b0':0<=bits:=by lia
  refine zuS (d:=(bits,os,I)) D (.inr ⟨s,rfl,hs⟩) (by show os.length+I.length<100000;lia) l1 l2 fun w told tp=>?_
  wp_walk
  refine zep (j:=5) (b:=(0,bits)) b0' b1 ⟨b0',bh _,0,bh _,by simp,by rw[Int.sub_self];decide⟩ (by lia) (by lia) fun ps m4 p0 p1 p2 p3=>?_
  have p1:ps.length<=32:=p1;have m4b:m4<=21000:=by lia
  wp_walk
  refine zeo (d:=(bits,os,I)) D hs l1 l2 (by lia) (fun r C=>(p2 r C).1) fun ts tl tb=>?_
  wp_walk
  have tb:∀r∈ts,IsBk bits r.1.1 r.1.2/\IsWd r.2:=tb;have t1:TP bits (.tuple (oD ps)):=.inr ⟨ps,rfl,p0,by lia,p2⟩
  have t2:TP bits (.tuple (oD ts)):=.inr ⟨ts,rfl,fun z=>by rw[z]at tl;exact p0 (eQ.mp tl.symm),by lia,tb⟩
  generalize (iD (oD ps))=pA at t1 ⊢;generalize (iD (oD ts))=pB at t2 ⊢;refine VG 10 11 12 (fun j c _ _ m=>m<=m4+200*j/\∃L,c=some (.own L)/\L.length<=11+10*j/\∀u∈L,GdK 10 u) ⟨by lia,_,rfl,by simp,?_⟩ ?_ ?_
  ·repeat' first
    | exact t1.gd
    | exact t2.gd
    | exact tp.gd
    | exact zno
    | exact gd_bool
    | exact Ut
    | exact QD
    | exact zqb (by decide +kernel) (by decide +kernel)
    | refine Qe ?_ ?_
    | refine QY (by simp) ?_
    | refine znp (by simp) ?_
  ·rintro j x _ _ _ m K2 RT2 BK2 ej ⟨hm,L,rfl,ul,gu⟩ G hRT2 hBK2;have j3:j<3:=(av.mp ej).1;have tx:TP bits x:=by
    have:=aH ej;simp only[az,aO,or_false]at this;rcases this with rfl|rfl|rfl
    ·exact t1
    ·exact t2
    ·exact tp
   rcases tx with⟨i,g,rfl⟩|⟨rs',rfl,r0',rl',rb'⟩
   ·wp_walk
    ·exact .inl ⟨by decide,by decide⟩
    ·decide
    ·decide
    rw[show(10*if false=true then(1:Int) else 0).toNat=0 from rfl,show Qj 0 0=[] from rfl]
    wp_walk
    exact G _ _ _ _ ⟨by lia,L,rfl,by lia,gu⟩
   ·wp_walk
    obtain⟨q,hq⟩:∃q,rs'[0]?=some q:=⟨_,ak (fM.mpr r0')⟩;rw[U0 (Ve (k:=0) (bh _) (ztl hq))]
    wp_walk
    ·exact .inl ⟨by decide,by decide⟩
    ·decide
    ·decide
    generalize hts:Qj 0 (10*if true=true then(1:Int) else 0).toNat=us10
    have h10:us10.length=10:=by rw[<- hts,zf1];rfl
    refine YK 10 12 (fun i c _ J=>J<=m+20*i/\∃vs,c=some (.own vs)/\vs.length<=L.length+i/\∀u∈vs,GdK 10 u) ⟨by lia,L,rfl,by lia,gu⟩ ?_ ?_
    ·rintro i x2 _ _ J K3 RT3 BK3 ei ⟨hm',vs,rfl,vl,gv⟩ hK3 hRT3 hBK3;have i10:=(av.mp ei).1
     wp_walk
     refine zhb b0' b1 r0' rl' rb' (by lia) fun t m5 gt hm5=>?_
     wp_walk
     ·lia
     ·exact hK3 _ _ _ ⟨by lia,_,rfl,by rw[aJ];show _+1<=_;lia,Us gv (Qe gt QD)⟩
    ·rintro _ _ J ⟨hm',vs,rfl,vl,gv⟩
     wp_walk
     exact G _ _ _ _ ⟨by lia,vs,rfl,by lia,gv⟩
  ·rintro _ _ _ m ⟨hm,L,rfl,ul,gu⟩
   wp_walk
   refine VG 13 14 15 (fun _ _ _ _ J=>J=m) rfl ?_ ?_
   ·rintro j x _ _ _ J K2 RT2 BK2 ej rfl G hRT2 hBK2;have gx:=gu x (aH ej)
    wp_walk
    refine YK 14 15 (fun _ _ _ m2=>m2=J) rfl ?_ ?_
    ·rintro i y _ _ m2 K3 RT3 BK3 ei rfl hK3 hRT3 hBK3;obtain⟨z,rfl⟩:∃z:Int,y=.int z:=by
      have:=aH ei;simp only[az,aO,or_false]at this;rcases this with rfl|rfl <;> exact⟨_,rfl⟩
     wp_walk
     refine ziJ (d:=(bits,os,I)) D (.inr ⟨s,rfl,hs⟩) (by show os.length<=_;lia) (by show I.length<=_;lia) gx.1 (gx.2.mono (by lia)) fun b hb=>?_
     wp_walk
     refine zfA (d:=(bits,os,I)) D hs l1 l2 gx.1 (gx.2.mono (by lia)) fun b' hb'=>?_
     wp_walk
     ·exact hK3 _ _ _ rfl
     ·exact absurd (fw.mpr (hb.trans hb'.symm)) hc
    ·rintro _ _ m2 rfl
     wp_walk
     exact G _ _ _ _ rfl
   ·rintro _ _ _ J rfl
    wp_walk
    exact hNX _ _ (hK _ _ ⟨_,_,_,_,_,_,_,_,_,_,_,_,_,_,_,rfl,rfl⟩)
 ·rintro ρ m ⟨a1,a2,a3,a4,a5,a6,a7,a8,a9,a10,a11,a12,a13,S,Y,rfl,rfl⟩
  wp_walk
  exact hh _
end
section
open PySem.W PyProof.Rows
def pw:aQ:=fJ
def TL:List (Str×List Str):=[(af "WORDS",[af "out",af "kept",af "free"])]
def zww:eS->Bool
 | .FunctionDef ..=>true
 | .ClassDef ..=>true
 | .Assign [.Name x _] _ _=>!(x == af "__name__")
 | _=>false
def qv:aQ:={ pw with main:={ pw.main with body:=pw.main.body.filter zww } }
theorem zqv:recsOf qv=(pw.main.body.filter VI).map recD:=by kernel_rfl
theorem zp1{i:Nat}(h:VI (top i)=true):recD (top i)∈recsOf qv:=by
 rw[zqv];exact iY (cC.mpr ⟨getD_mem h,h⟩)
theorem dqG{i:Nat}{x:Str}{ps:List Str}{u:pY->Option ah}{mg o:qM}{h:bq}(T:iL qv (looseW qv [af "WORDS"]) u mg o h) (l:BndA x (top i) ps) (v:VI (top i)=true:=by kernel_rfl) (y:defName (top i)=x:=by kernel_rfl):Dq (Qk h) mg x (top i) ps:=dq_g T (zp1 v) y l
def zux:List Str:=[af "isinstance",af "int",af "bool",af "tuple",af "len",af "min",af "max",af "str",af "repr",af "all",af "any",af "range",af "sum",af "sorted",af "list",af "abs",af "zip",af "dict",af "reversed",af "enumerate"]
def zuy(x:Str):Bool:=!startupNames.contains x&&!(looseW qv [af "WORDS"]).contains x&&!((recsOf qv).map (·.name)).contains x&&!((litsOf qv).map (·.1)).contains x&&!((clssOf qv (looseW qv [af "WORDS"])).map (·.name)).contains x
theorem zrA:zux.all zuy=true:=by kernel_rfl
theorem zrB{o:pY->Option ah}{mg l:qM}{h:bq}(T:iL qv (looseW qv [af "WORDS"]) o mg l h) {x:Str} (m:x∈zux):mg x=none:=by
 have e:=bM.mp zrA x m;unfold zuy at e;simp only[aY,gr,List.contains_eq_mem,decide_eq_false_iff_not]at e;obtain⟨⟨⟨⟨a,b⟩,c⟩,d⟩,f⟩:=e;exact T.free x a b c d f
theorem zsc{o:pY->Option ah}{mg l:qM}{h:bq}(T:iL qv (looseW qv [af "WORDS"]) o mg l h):Txt mg:=by
 constructor <;> exact zrB T (List.contains_iff_mem.mp (by kernel_rfl))
theorem zqr:aR.wellSaid=true:=by kernel_rfl
theorem zts(w:bz)(os:oK):(UP treeTable pw w 11 ((dD (w).params).nsMap mainGlobals "__annotations__") 20000 (zlI w os) (topStub pw)).map (fun s=>(Vs pw (dD (w).params) s.abs,(vX iM) s.abs))=some (true,(vY iM) w):=by kernel_rfl
theorem ztr(w:bz)(os:oK):(UP treeTable pw w 11 ((dD (w).params).nsMap mainGlobals "__annotations__") 20000 (zlI w os) (topStub pw)).map (fun s=>(openSeen qv [af "WORDS"] (importedModules pw.main.body) (fun s=>xlAt qv [] s&&recOk (my aR.row.toRowW) s&&ZA TL s) true s.abs).1)=some (openGood qv [af "WORDS"]).1:=by kernel_rfl
theorem ztq(w:bz)(os:oK):(UP treeTable pw w 11 ((dD (w).params).nsMap mainGlobals "__annotations__") 20000 (zlI w os) (topStub pw)).map (fun s=>(openSeen qv [af "WORDS"] (importedModules pw.main.body) (fun s=>xlAt qv [] s&&recOk (my aR.row.toRowW) s&&ZA TL s) true s.abs).2)=some (openGood qv [af "WORDS"]).2:=by kernel_rfl
theorem zwv(w:bz)(os:oK):(UP treeTable pw w 11 ((dD (w).params).nsMap mainGlobals "__annotations__") 20000 (zlI w os) (topStub pw)).map (fun s=>(Vs pw (dD (w).params) s.abs,openSeen qv [af "WORDS"] (importedModules pw.main.body) (fun s=>xlAt qv [] s&&recOk (my aR.row.toRowW) s&&ZA TL s) true s.abs,(vX iM) s.abs))=some (true,openGood qv [af "WORDS"],(vY iM) w):=map3 (zts w os) (ztr w os) (ztq w os)
theorem zq6:LeftO pw qv [af "WORDS"] (fun s=>xlAt qv [] s&&recOk (my aR.row.toRowW) s&&ZA TL s) (vX iM) (vY iM) 20000:=zm3 (by kernel_rfl) (by decide) (fun _=>rfl) (zwv)
theorem zuT{IE:pY->Option ah}{mg mb:qM}{h:bq}{w:bz}{N:au}(T0:iL qv (looseW qv [af "WORDS"]) IE mg mb h) (L:mg (defName (top 55))=some (.ref N)) (XT:TupsAre TL mg h) :
  ∃fd:dJ,(∀(s:aw) (v:ah),pX s fd ⟨[v],[]⟩ [("_law_script",v)])/\∀base:bq,(Qk h).In base->base.Ns mainGlobals mg->FnOk aR.prog w (Qk h) mg base CX0 10 N fd ["_law_script"] (zqo (Qk h)):=by
 have T:=zsc T0;have IG:StG (Qk h) mg (af "WORDS") [af "out",af "kept",af "free"]:=XT.st (by first|exact .head _|exact .tail _ (.head _))
 obtain⟨f,fd,DL⟩:=dq_g (x:="law") (ps:=["_law_script"]) T0 (zp1 (i:=55) (by kernel_rfl)) (by kernel_rfl) fun _ _ _ _ _ _ us hl=>by obtain⟨_,rfl⟩:=len1 hl;rfl
 have e0:bP f=bP N:=ba (DL.m.symm.trans L);cases e0;refine⟨fd,fun s v=>?_,fun base _ _=>?_⟩
 ·obtain⟨oc,od,kV,doc,pm,an,am,ct,osl,rfl,_,_⟩:=DL.F.ex;exact .of_eq rfl
 let Z:ZZ:=⟨aR.prog,w,Qk h,mg,base⟩
 have HN:=zi4 (Z:=Z) (dqG (i:=1) T0 (bnd1 fun _ _ _ _ _ _ _=>rfl))  T
 have Ia:=zi7 (Z:=Z) (dqG (i:=2) T0 (bnd2 fun _ _ _ _ _ _ _ _=>rfl)) HN T
 have HG:=zkX (Z:=Z) (dqG (i:=3) T0 (bnd1 fun _ _ _ _ _ _ _=>rfl))  T
 have Iv:=zmL (Z:=Z) (dqG (i:=5) T0 (bnd2 fun _ _ _ _ _ _ _ _=>rfl))  T
 have IF:=zo2 (Z:=Z) (dqG (i:=4) T0 (bnd2 fun _ _ _ _ _ _ _ _=>rfl)) Iv T
 have HQ:=zgP (Z:=Z) (dqG (i:=6) T0 (bnd1 fun _ _ _ _ _ _ _=>rfl))  T
 have G:=zmK (Z:=Z) (dqG (i:=17) T0 (bnd1 fun _ _ _ _ _ _ _=>rfl)) HG T
 have Ic:=zi5 (Z:=Z) (dqG (i:=8) T0 (bnd2 fun _ _ _ _ _ _ _ _=>rfl)) Ia G T
 have Ie:=zi_ (Z:=Z) (dqG (i:=9) T0 (bnd1 fun _ _ _ _ _ _ _=>rfl)) HG T
 have Hy:=zdM (Z:=Z) (dqG (i:=18) T0 (bnd2 fun _ _ _ _ _ _ _ _=>rfl))  T
 have IJ:=zqU (Z:=Z) (dqG (i:=11) T0 (bnd2 fun _ _ _ _ _ _ _ _=>rfl)) G Hy T
 have J:=zi3 (Z:=Z) (dqG (i:=19) T0 (bnd1 fun _ _ _ _ _ _ _=>rfl)) IJ T
 have S:=zkY (Z:=Z) (dqG (i:=20) T0 (bnd1 fun _ _ _ _ _ _ _=>rfl)) G T
 have Iw:=zmJ (Z:=Z) (dqG (i:=10) T0 (bnd1 fun _ _ _ _ _ _ _=>rfl)) J S T
 have Hv:=zgQ (Z:=Z) (dqG (i:=21) T0 (bnd2 fun _ _ _ _ _ _ _ _=>rfl))  T
 have Ii:=zkZ (Z:=Z) (dqG (i:=12) T0 (bnd2 fun _ _ _ _ _ _ _ _=>rfl)) J Hv S T
 have HI:=zfG (Z:=Z) (dqG (i:=22) T0 (bnd2 fun _ _ _ _ _ _ _ _=>rfl))  T
 have Ij:=zkW (Z:=Z) (dqG (i:=13) T0 (bnd2 fun _ _ _ _ _ _ _ _=>rfl)) S J HI Hv T
 have Ib:=zi9 (Z:=Z) (dqG (i:=16) T0 (bnd2 fun _ _ _ _ _ _ _ _=>rfl)) G T
 have HP:=zgR (Z:=Z) (dqG (i:=14) T0 (bnd2 fun _ _ _ _ _ _ _ _=>rfl)) Ib T
 have HC:=zfH (Z:=Z) (dqG (i:=15) T0 (bnd2 fun _ _ _ _ _ _ _ _=>rfl)) HP IF T
 have C:=zgS (Z:=Z) (dqG (i:=26) T0 (bnd1 fun _ _ _ _ _ _ _=>rfl))  T
 have R:=zhK (Z:=Z) (dqG (i:=27) T0 (bnd2 fun _ _ _ _ _ _ _ _=>rfl))  T
 have U:=zi8 (Z:=Z) (dqG (i:=24) T0 (bnd2 fun _ _ _ _ _ _ _ _=>rfl)) Ii Iw C R T
 have Il:=zk0 (Z:=Z) (dqG (i:=25) T0 (bnd1 fun _ _ _ _ _ _ _=>rfl))  T
 have HU:=zhL (Z:=Z) (dqG (i:=30) T0 (bnd2 fun _ _ _ _ _ _ _ _=>rfl))  T
 have Ik:=zk1 (Z:=Z) (dqG (i:=29) T0 (bnd3 fun _ _ _ _ _ _ _ _ _=>rfl)) HU U T
 have HD:=zeH (Z:=Z) (dqG (i:=35) T0 (bnd2 fun _ _ _ _ _ _ _ _=>rfl)) C R Ij U T
 have IV:=zti (Z:=Z) (dqG (i:=33) T0 (bnd3 fun _ _ _ _ _ _ _ _ _=>rfl)) Ik HD T
 have Ig:=zi6 (Z:=Z) (dqG (i:=36) T0 (bnd2 fun _ _ _ _ _ _ _ _=>rfl)) C Ic Ie Il IG T
 have HS:=zgO (Z:=Z) (dqG (i:=34) T0 (bnd4 fun _ _ _ _ _ _ _ _ _ _=>rfl)) C R Ig HC HQ T
 have HY:=zgN (Z:=Z) (dqG (i:=38) T0 (bnd2 fun _ _ _ _ _ _ _ _=>rfl))  T
 have y:=zgM (Z:=Z) (dqG (i:=39) T0 (bnd2 fun _ _ _ _ _ _ _ _=>rfl))  T
 have u:=zhN (Z:=Z) (dqG (i:=40) T0 (bnd2 fun _ _ _ _ _ _ _ _=>rfl)) y T
 have HW:=zhT (Z:=Z) (dqG (i:=41) T0 (bnd1 fun _ _ _ _ _ _ _=>rfl)) u T
 have Ht:=zgV (Z:=Z) (dqG (i:=42) T0 (bnd2 fun _ _ _ _ _ _ _ _=>rfl)) u y T
 have HV:=zhO (Z:=Z) (dqG (i:=43) T0 (bnd3 fun _ _ _ _ _ _ _ _ _=>rfl)) u Ht T
 have HJ:=zfK (Z:=Z) (dqG (i:=44) T0 (bnd3 fun _ _ _ _ _ _ _ _ _=>rfl)) y Ht HV u T
 have HF:=zgT (Z:=Z) (dqG (i:=45) T0 (bnd3 fun _ _ _ _ _ _ _ _ _=>rfl)) HJ T
 have HR:=zgU (Z:=Z) (dqG (i:=46) T0 (bnd2 fun _ _ _ _ _ _ _ _=>rfl)) y u T
 have HX:=zhR (Z:=Z) (dqG (i:=47) T0 (bnd4 fun _ _ _ _ _ _ _ _ _ _=>rfl)) HF u y T
 have HZ:=zhS (Z:=Z) (dqG (i:=48) T0 (bnd2 fun _ _ _ _ _ _ _ _=>rfl)) HR HW y HX T
 have Y:=zhP (Z:=Z) (dqG (i:=49) T0 (bnd2 fun _ _ _ _ _ _ _ _=>rfl))  T
 have HK:=zfJ (Z:=Z) (dqG (i:=51) T0 (bnd2 fun _ _ _ _ _ _ _ _=>rfl))  T
 have HE:=zeI (Z:=Z) (dqG (i:=50) T0 (bnd4 fun _ _ _ _ _ _ _ _ _ _=>rfl)) HK Y T
 have HB:=zja (Z:=Z) (dqG (i:=52) T0 (bnd3 fun _ _ _ _ _ _ _ _ _=>rfl)) y u T
 have Hz:=zdN (Z:=Z) (dqG (i:=53) T0 (bnd3 fun _ _ _ _ _ _ _ _ _=>rfl)) Y T
 have HL:=zfI (Z:=Z) (dqG (i:=54) T0 (bnd2 fun _ _ _ _ _ _ _ _=>rfl)) y u T
 exact(zth (Z:=Z) DL HY HZ HB u y IV Hz HS HL HE T).imp zq7
end
end Bd
open PySem PySem.W PyProof.Rows
set_option maxRecDepth 100000 in
set_option maxHeartbeats 0 in
theorem PySem.Challenge.cw_blockdeal_k32_papers_spoilt_holds : PySem.Challenge.rw_blockdeal_k32_papers_spoilt.Holds := by
 w_on
 refine holds_law Bd.zqr fun l=>?_
 refine holds_open (r:=aR.row) (d:=Bd.recD (Bd.top 55)) (kwd:=[]) Bd.zq6 (Hook.of iM) (Hook.keeps iM) (XP:=fun mg h=>XL Bd.qv [] mg h/\Bd.TupsAre Bd.TL mg h) (fun s e=>⟨xl_of s (fE.mp (fE.mp e).1).1,Bd.zsd (fE.mp e).2⟩) (fun mg h h' x k=>⟨XL.keeps mg h h' x.1 k,x.2.keeps k⟩) (by kernel_rfl) (by kernel_rfl) (by kernel_rfl) (fun s e=>recFacts_of (fE.mp (fE.mp e).1).2) (by kernel_rfl) l (by kernel_rfl) ⟨rfl,rfl,rfl,rfl,rfl,by decide +kernel⟩ ?hw ?hc
 case hw=>w_witness2
 case hc=>exact Bd.zvE (lw:=aR) (k:=10) (by decide) rfl rfl fun w s₀ mg v u h G o=>Bd.zuT G.T o G.X.2
