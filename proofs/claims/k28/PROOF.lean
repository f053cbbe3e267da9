import PyProof.Rows.All
import Wide.All
import OpenK.AllK
import Wide.FinOn
import Lean
import PyProof.EqAt
import PyProof.EqKinds
import PyProof.TupleCall
import PySem.Challenge.RW_blockdeal_k28_given_back
open PySem.Str renaming ofString->aa,empty->iU,length->kX
open PySem renaming wpAny_bind->ae,PyData->af,Value->ah,wpAny_pure->aj,Addr->ak,Shared->aq,Program->aK,World->aW,Expr->aX,Heap->aY,Around->bq,wpAny_truthy_bool->bW,wpAny_holding->cn,FuncData->cT,wpAny_field->cV,wpAny_mono->c8,wpAny_newObj_type->dm,wpAny_rule->dq,Stmt->dG,DictEntry->dI,wpAny_standAt->dN,wpAny_callSpecial?_slot->dW,wpAny_call_entry->eI,Paired->eL,NameKind->eM,wpAny_seqItems->eO,wpAny_setField_rec->eP,wpAny_passesOwn->eR,mem_of_lookup->e9,OsState->fe,Scope->fv,wpAny_Call_Name_kw->fB,wpAny_execs_nil->fF,Builtin->fZ,wpAny_typeOf->gf,wpAny_comprehension_free->gA,wpAny_pyIter_list->gU,codeAny_mono->gV,wpAny_attempt->iC,wpAny_newList->iD,wpAny_onRaise->iE,wpAny_updateSeq_pair->iG,wpAny_pyIter_tuple->iX,IsPart->kE,Builtin->kG,wpAny_execs_cons->kK,noFill_tuple_add->kL,codeAny_compStart_list->k8,IsPair->ly,codeAny_builtin->lG,wpAny_isTrue_Compare1->lI,wpAny_loadName_local->lS,wpAny_bindName->lT,sizeLine_eq->lU,codeAny_call_builtin->mj,wpAny_loadName_cell->my,seq_tuple_add->mK,wpAny_call->mS,Model->m7,wpAny_assign_Name->m8,concat_meets->nA,wpAny_sequenceKey->nB,seqIndex_neg->nE,slot_list_getitem->nF,codeAny_loop->nG,ExcName->nT,PassesOwn->nY,Result->n8,wpAny_pyIter_zip->oq,wpAny_getItem_of->ow,CmpOp->oC,seqIndex_of->oF,wpAny_noted->oG,IsZip->oI,wpAny_letGo->oJ,wpAny_loadPart'->oO,wpAny_specialOf->o6,BindsTo->o8,wpAny_Name->o9,wpAny_Expr_any->pd,Operator->pf,typeIs_str->pJ,sliceRange_one->pK,Params->pL,ReadsAll->pN,repr_of_reads'->pO,wpAny_newTuple->pT,wpAny_setField->pX,PyData->tG,Within->tH,Keyword->tQ,Value->uO,pick_run->u3,call->wZ
open List renaming getElem?_eq_getElem->au,mem_append->aw,getElem?_eq_some_iff->ax,mem_singleton->az,mem_cons->aA,size_toArray->aG,mem_of_getElem?->aN,length_cons->aP,not_mem_nil->aQ,mem_map->aS,length_append->aT,getElem?_set_ne->aV,length_map->aZ,getD_eq_getElem?_getD->ba,getElem?_map->bg,pairwise_iff_getElem->bp,getElem?_append_right->br,all_eq_true->bw,drop_eq_getElem_cons->bE,append_nil->bK,getElem_of_mem->bL,append_assoc->bR,getElem?_append_left->bT,mem_cons_of_mem->bV,replicate->bX,mem_append_right->bY,map_cons->bZ,getElem?_set_self->cf,take_of_length_le->ck,mem_cons_self->cm,getElem?_eq_none->cw,replicate_succ->cy,mem_filter->cz,pairwise_append->cF,mem_of_mem_take->cP,lookup_cons->cR,length_nil->cY,map_map->cZ,cons_append->c9,pairwise_singleton->de,take_succ->dD,filterMap_cons->dF,length_filter_le->dH,getElem_mem->dM,length->dQ,getElem?_replicate->dS,getElem?_cons_succ->dX,pairwise_map->dY,of_mem_zip->ee,map_append->eu,nil_append->eD,length_take->eG,map_snd_zip->eJ,nodup_cons->eS,length_drop->fh,take_length->fk,getElem?_cons_zero->fq,range->fw,mem_filterMap->fA,map_nil->fC,drop_of_length_le->fD,set_cons_succ->fE,length_set->fH,find?_cons->fJ,take_append_drop->fM,mem_of_mem_drop->fW,mem_take_iff_getElem->gn,replicate_zero->gu,getD_cons_succ->gv,getD_cons_zero->gx,pairwise_cons->gL,set_cons_zero->gN,length_eq_zero_iff->gR,mem_range->gT,getElem?_set->g6,mapM_toArray->g9,length_replicate->hZ,drop_length->ic,all_toArray->iq,map_fst_zip->ir,filter_cons->iu,forIn_cons->iH,map_congr_left->iN,perm_append_comm_assoc->iO,zip_cons_cons->i7,getElem?_drop->ka,drop_zero->kc,mem_drop_iff_getElem->ki,drop_sublist->kB,getElem?_take_of_lt->kD,idxOf_lt_length_iff->kI,zipIdx_cons->kP,perm_append_comm->lN,take_eq_take_iff->lO,eq_nil_or_concat->lP,concat_eq_append->lQ,mem_append_left->lR,forIn_nil->mh,getElem?_range->mE,mem_map_of_mem->mH,length_pos_iff->mI,filter_append->mZ,any_eq_false->nt,take_sublist->nv,zip_nil_left->ny,map->nH,ext_getElem?->nM,flatten_cons->nR,perm_middle->oh,getElem_map->oB,foldl_cons->oS,zipIdx_nil->oY,length_zip->oZ,lt_irrefl->p7,idxOf->p9,take_nil->sE,drop_nil->sF,map_take->sR,lookup->u7,map_id->vw,not_lt->vE
open PySem.Heap renaming get?_push_of_some->av,lt_size->aD,get?_push_size->aI,get?_push_ne->cE,size_update->cJ,SameBut->eE,size_push->fj,get?_update_ne->gq,get?_update_other->kY,get?_update_self->lJ,FlyingW->nK,ExtBut->vz
open PyProof.Rows renaming wpS_bind->aB,wpS_pure->aH,Keyed->bM,SortSt->bP,wpS_forRange->cj,slot_tuple_getitem->cu,wpS_mono->dR,size_push'->eh,SortKind->eN,callWith_type1->fO,IntsAre->fY,listItems_at->gh,wpS_modify->ip,Top->iw,AllBare->iA,wpS_get->iB,assignInOrder_cons->iW,wpS_lift->kO,subscriptTail_builtinR->kW,pairsOf_size->lx,wpS_reverse->ma,mirror_perm->mf,entry_tuple_getitem->mD,listUpdate_at->mO,args_tuple_getitem->mU,IsTup->m5,assignInOrder_nil->m9,callWith_builtin1->n9,get?_update_seq->oU,entry_list_sort->oW,oneTypeOnly'_eq->oX,slicePart_none->pH,Subscript_->pI,slot_list_sort->pU,args_list_sort->pV,oneLt'_eq->tv,elem'_eq->vm,lt_int->vR,lt_str->wd
open Nat renaming le_refl->aC,lt_of_lt_of_le->aF,ne_of_lt->aL,lt_or_ge->cg,le_trans->cH,zero_add->dO,zero_le->eU,add_sub_of_le->eW,lt_trichotomy->eX,le_add_right->gi,testBit_succ->gj,lt_irrefl->gy,lt_of_lt_of_eq->gK,mod_eq_zero_of_dvd->hV,dvd_of_mod_eq_zero->hW,sub_self->iR,le_succ->ko,shiftLeft_eq->kN,testBit_zero->kQ,mul_comm->lz,pow_succ->lA,min_eq_left->lF,testBit_and->lH,eq_of_testBit_eq->mi,add_assoc->mM,eq_or_lt_of_le->mV,le_of_lt->m6,ne_of_gt->nq,lt_succ_of_lt->nS,le_of_not_lt->og,and_le_left->o5,mul_assoc->sJ,sub_zero->t5,log2_lt->vc,one_mul->vf
open PySem.Challenge renaming rw_blockdeal_k28_given_back->aE,pw_blockdeal_k28_given_back->ft
open Bool renaming false_eq_true->aJ,and_eq_true->aM,false_ne_true->bf,and_eq_true_iff->bh,false_and->cC,true_and->dh,not_true->dP,eq_iff_iff->fG,not_eq_true'->fR,not_false->fX,and_true->gC,eq_false_iff->g7,and_false->hU,beq_eq_decide_eq->lK,or_eq_false_iff->lX,not_eq_false'->mW
open Option.some renaming inj->aO
open Array renaming toList->aR,getElem?_eq_getElem->bU,toList_append->cx,getElem?_toList->cN,perm_iff_toList_perm->cQ,length_toList->cU,push->gJ,getElem?_extract->lj,toList_extract->lY,toList_reverse->lZ,toList_modify->mF,toList_push->nN,toList_inj->oi,toList_map->oj
open Iff renaming rfl->aU
open PySem.PyData renaming canLayAll0->bu,canLay0->bN,int->b5,depthAll->cb,hasDict_of_canLay->cq,hasDict->cI,bool->cK,eqv->cM,depth->cS,eqvAll->e8,leavesShortAll->fL,hasDictAll->fQ,leavesShort->gG,showableAll->gH,str->gM,shown->gZ,weightAll->ik,showable->iI,tuple->iS,none->lW,weight->mL,noDict_hsm->nJ,dict->vg,list->vh
open PySem.W renaming boot_heap->bz,kia_one->bS,fnOf->dw,kitx_dict->eT,keepIn->gW,codeIn->gX,callWith_K->i5,methodObj->km,cellsFrom_some->kU,boot_drawn->lB,instObj->lD,lookIn->lV,boot_toks->mo,hideAll_get->mw,of_hideAll->mP,kitx_tuple->mQ,kitx_list->nu,looks_findIn->nU,plainGet->nZ,hideAll->oN,findIn->pE,kitOne->pF,Looks->tD,SharedT->uc
open PySem.Builtin.SmallTypes renaming nextOf->bG,ownedTupleIsFree->cW,ownedTupleHandOut->gr
open PySem.Value renaming type->bH,ref->cG,isStrOf->df,bool->eK,str->iT,none->iV,builtin->kH,int->sS,isInt->uP,float->uQ
open Int renaming one_mul->bO,le_refl->bQ,le_of_lt->cO,pow_succ->dz,le_trans->dE,mul_le_mul_of_nonneg_right->dJ,toNat_natCast->dU,dvd_of_emod_eq_zero->dZ,mul_comm->eF,add_mul->eV,natCast_pow->fI,mul_assoc->fK,pow_add->fV,emod_lt_of_pos->gO,emod_eq_zero_of_dvd->gS,lt_trichotomy->hG,natCast_zero->iy,emod_nonneg->iM,natCast_nonneg->iY,fdiv_eq_ediv_of_nonneg->iZ,not_lt->kb,mul_neg_of_pos_of_neg->kh,eq_ofNat_of_zero_le->kM,add_zero->nV,mul_one->oE,ediv_nonneg->o7,mul_nonneg->pP,add_emod->t9,sub_mul->vi,pow_pos->vL
open PySem.PassesOwn renaming never->cc
open ForInStep renaming yield->cA
open False renaming elim->cB
open PySem.NameKind renaming free->cD
open Classical renaming choose_spec->cL,byContradiction->gm,choose->ig
open Or renaming inl->cX,inr->ou
open PySem.Builtin.Slice renaming slicePlaces->eQ,sliceAdjust->gk,sliceApplied->i8,slicePartIndex->oP,sliceFields->rG
open PySem.Builtin.Tuple renaming tupleExact->eY,tupleItemsOf->i9,tupleCompareSizes->nW,tupleIsExact->pW,tupleHashOf->rJ
open PySem.Obj renaming mapSeq->eZ,data_mapFields->mY
open PySem.Builtin.Int renaming intBits->fc
open PySem.Builtin renaming bitXor->fg,bitNot->fo,bitAnd->fT
open Option renaming getD_some->fi,map_some->gF,isSome_iff_exists->kC,map_eq_some_iff->lC,getD_none->oa,bind_some->oA
open List.Perm renaming append_left->fN,trans->iJ,append_right->lh,refl->pR
open List.Pairwise renaming nil->fP,imp_of_mem->gD,sublist->lL,and->xK
open PySem.Calls renaming Name_function_global->fS,call_function_entry->kg,loadGlobal_global->kJ,callWith_builtin->kZ,call_len_list->mC
open PySem.F renaming excBase_ValueError->fU,args_tuple_add_2->gz,entry_tuple_add->gP,plainAttrs_list->gQ,slot_tuple_add->gY,args_tuple_iterator_next_1->iK,slot_zip_next->iL,entry_tuple_iterator_next->iQ,slot_tuple_iterator_next->ke,excAttr_ValueError->kf,slot_dict_getitem->kj,slot_list_index->kR,args_zip_next_1->nQ,entry_zip_next->om
open List.cons renaming injEq->gE
open PySem.Builtin.List renaming listItems->g8,listExtendWith->iP,listUpdate->tq
open PySem.W.RowW renaming records->hY
open Sum renaming inl->iz,inr->mm
open Prod renaming ext->iF,ext_iff->uf
open PySem.SeqAt.EqAt renaming int_int->i6,bool_bool->p8
open Function renaming comp_def->ku
open PySem.PyData.dict renaming injEq->kA,inj->lE
open Prod.mk renaming injEq->kF,inj->vF
open Ne renaming symm->kS
open True renaming intro->kT
open And renaming intro->mn
open PySem.Heap.SameBut renaming update->mG,refl->xI
open PySem.Paired renaming length->mJ
open PySem.SeqAt renaming EqAt->mT,list_indexAt->sN
open PySem.Code renaming quiet_builtin->mX
open PySem.PyData.list renaming injEq->nI
open PySem.Txt renaming slice->ot
open Array.Perm renaming refl->oV
open PySem.EqNone renaming eq_none_none->rf,eq_none_bool->rg,eq_bool_none->rh,ne_none_none->rq,ne_none_bool->rC,ne_bool_none->rD,eq_none_int->rR,eq_none_str->rS,eq_int_none->rT,eq_str_none->rW,ne_none_int->rY,ne_none_str->rZ,ne_int_none->r8,ne_str_none->sg
open PySem.EqMixed renaming eq_bool_str->rm,eq_str_bool->rn,ne_bool_str->rE,ne_str_bool->rF,eq_int_str->rV,eq_str_int->rX,ne_int_str->se,ne_str_int->si
open PySem.Builtin.Range renaming rangeSize->sV
open Nat.succ renaming inj->ub
open PySem.Shared renaming heap->vB
open PySem.Heap.IsSliceOf renaming new->wO
open PySem.W.WShape renaming has->wY
open PyProof.Rows.SortSt renaming mk'->xc
open PySem.Heap.IsTuple renaming push->xN
open List.Sublist renaming refl->xW
open PySem.Flow renaming next->yc
open PySem.W.WData renaming int->yu
open PySem.Heap.IsList renaming push->yB
open PySem.W.Looks renaming ld->AX
local macro_rules | `(tactic| walk_at "V") => `(tactic| first | exact Or.inl rfl | exact Or.inr (Or.inl rfl) | exact Or.inr (Or.inr rfl))
local macro_rules | `(tactic| walk_at "F") => `(tactic| first | exact .inl rfl | exact .inr rfl | assumption)
abbrev qF:=PySem.W.Frag
abbrev qB:=List (Int×Int)
abbrev qN:=tG->Nat->Prop
abbrev qM:=PySem.Str->Option uO
abbrev qV:=uO->PySem.Shared->Prop
abbrev qD:=List tG
abbrev qO:=List (PySem.Addr×PySem.Obj)
set_option Elab.async false
set_option linter.all false
set_option maxRecDepth 100000
set_option maxHeartbeats 4000000
namespace L2
open PySem PySem.Spec PyProof.Rows
abbrev Key:=Sum Int Str
def Z2:Key->ah->Bool
 | .inl k,v=>uP k v
 | .inr x,v=>df x v
def keyH(w:aW):Key->Int
 | .inl k=>hashInt k
 | .inr x=>hashStr w x
theorem Ue:∀{k:Key}{v:ah},Z2 k v=true->(∃i t,k=iz i/\v=sS i t)\/(∃x t,k=mm x/\v=iT x t)
 | .inl i,v,h=>by
  obtain⟨t,e⟩:=Value.isInt_shape (k:=i) (v:=v) h;exact .inl ⟨i,t,rfl,e⟩
 | .inr x,v,h=>by
  obtain⟨t,e⟩:=Value.isStrOf_shape (x:=x) (v:=v) h;exact .inr ⟨x,t,rfl,e⟩
theorem zha(i:Int)(t:Tok):Z2 (.inl i) (.int i t)=true:=by simp[Z2,uP]
theorem zsF(a b:Int):decide ((iz a:Key)=iz b)=(a == b):=by
 by_cases e:a=b
 ·subst e;simp
 ·have h:¬(iz a:Key)=iz b:=fun q=>e (Sum.inl.inj q)
  rw[decide_eq_false h];exact(beq_eq_false_iff_ne.mpr e).symm
theorem zsC(a b:Str):decide ((mm a:Key)=mm b)=decide (a=b):=by
 by_cases e:a=b
 ·subst e;simp
 ·have h:¬(mm a:Key)=mm b:=fun q=>e (Sum.inr.inj q)
  rw[decide_eq_false h,decide_eq_false e]
theorem zsE(a:Int)(b:Str):decide ((iz a:Key)=mm b)=false:=decide_eq_false (fun q=>nomatch q)
theorem zsD(a:Str)(b:Int):decide ((mm a:Key)=iz b)=false:=decide_eq_false (fun q=>nomatch q)
def Zy(prog:aK)(w:aW):PySem.KeyKind prog w Key where
 is:=Z2
 hash:=keyH w
 inj:=fun v a b I C=>by
  rcases Ue I with⟨i,t,rfl,rfl⟩|⟨x,t,rfl,rfl⟩
  ·rcases Ue C with⟨j,u,rfl,e⟩|⟨y,u,rfl,e⟩
   ·injection e with e1 _;rw[e1]
   ·exact nomatch e
  ·rcases Ue C with⟨j,u,rfl,e⟩|⟨y,u,rfl,e⟩
   ·exact nomatch e
   ·injection e with e1 _;rw[e1]
 byValue:=fun k v h=>by
  rcases Ue h with⟨i,t,rfl,rfl⟩|⟨x,t,rfl,rfl⟩ <;> rfl
 pyHash:=fun l h=>by
  rcases Ue l with⟨i,t,rfl,rfl⟩|⟨x,t,rfl,rfl⟩
  ·exact wpAny_pyHash_int h
  ·exact wpAny_pyHash_str h
 eqBool:=fun G l h=>by
  rcases Ue G with⟨i,t,rfl,rfl⟩|⟨x,t,rfl,rfl⟩
  ·rcases Ue l with⟨j,u,rfl,rfl⟩|⟨y,u,rfl,rfl⟩
   ·rw[zsF]at h;exact wpAny_eqBool_int h
   ·rw[zsE]at h;exact SeqAt.EqAt.int_str i t y u _ _ _ _ h
  ·rcases Ue l with⟨j,u,rfl,rfl⟩|⟨y,u,rfl,rfl⟩
   ·rw[zsD]at h;exact SeqAt.EqAt.str_int x t j u _ _ _ _ h
   ·rw[zsC]at h;exact wpAny_eqBool_str h
 «strs»:=fun k x t v h=>by
  rcases Ue h with⟨i,u,rfl,e⟩|⟨y,u,rfl,e⟩
  ·exact nomatch e
  ·injection e with e1 _
   subst e1;cases v <;> rfl
inductive V where
 | non|bl (b:Bool)|int (i:Int)|str (x:Str)|byt (b:Array UInt8)|flt (b:UInt64)|ref (a:ak)|ty (n:String)
 deriving DecidableEq
def RelV:V->ah->Prop
 | .non,u=>u=iV
 | .bl b,u=>u=eK b
 | .int i,u=>∃t,u=sS i t
 | .str x,u=>∃t,u=iT x t
 | .byt b,u=>∃t,u=Value.bytes b t
 | .flt b,u=>∃t,u=uQ b t
 | .ref a,u=>u=cG a
 | .ty n,u=>u=bH n
abbrev Vals:List V->List ah->Prop:=eL RelV
theorem Vals.length{xs:List V}{l:List ah}(r:Vals xs l):xs.length=l.length:=mJ r
theorem Vals.get:∀{xs:List V}{v:List ah}{i:Nat}{x:V},Vals xs v->xs[i]?=some x->∃u,v[i]?=some u/\RelV x u
 | _,_,_,_,.nil,e=>by simp at e
 | _,_,0,_,.cons r _,e=>by simp at e;subst e;exact⟨_,rfl,r⟩
 | _,_,i+1,x,.cons _ t,e=>by
  obtain⟨u,C,y⟩:=Vals.get (i:=i) (x:=x) t (by simpa using e)
  exact⟨u,by simpa using C,y⟩
theorem Vals.set{x:V}{u:ah}(r:RelV x u):∀{xs:List V}{v:List ah} (i:Nat),Vals xs v->Vals (xs.set i x) (v.set i u)
 | _,_,_,.nil=>.nil
 | _,_,0,.cons _ t=>.cons r t
 | _,_,i+1,.cons q t=>.cons q (Vals.set r i t)
theorem Vals.append{xs ys:List V}{l u:List ah}(h:Vals xs l)(s:Vals ys u):Vals (xs++ys) (l++u):=by
 induction h with
 | nil=>exact s
 | cons r _ v=>exact .cons r v
theorem Vals.take:∀{xs:List V}{u:List ah} (n:Nat),Vals xs u->Vals (xs.take n) (u.take n)
 | _,_,0,_=>.nil
 | _,_,_+1,.nil=>.nil
 | _,_,n+1,.cons r t=>.cons r (Vals.take n t)
theorem Vals.drop:∀{xs:List V}{u:List ah} (n:Nat),Vals xs u->Vals (xs.drop n) (u.drop n)
 | _,_,0,r=>r
 | _,_,_+1,.nil=>.nil
 | _,_,n+1,.cons _ t=>Vals.drop n t
def RelO:Option V->Option ah->Prop
 | some v,some u=>RelV v u
 | none,none=>True
 | _,_=>False
def KV{l:Type}:List (l×V)->List (l×ah)->Prop:=eL fun(p:l×V) (q:l×ah)=>p.1=q.1/\RelV p.2 q.2
def kV:Key->V
 | .inl i=>.int i
 | .inr x=>.str x
inductive HO where
 | lst (xs:List V)
 | tup (xs:List V)
 | dK (kvs:List (Key×V))|dT (kvs:List (List Key×V))
 | set (S:Int->Bool) (n:Nat)
 | ins (C dx:ak) (fs:List (Str×V))
 | own (x:ak)
 | xd (fs:List (Str×V))
 | met (f x:ak)
 | rng (lo hi:Int)
 | frz (o:Obj) (u:HO)
 | tbl (q:Str)
 | ext (φ:aY->Prop)
abbrev Hp:=ak->Option HO
def upd(H:Hp)(a:ak)(o:HO):Hp:=fun b=>if b=a then some o else H b
theorem JM{H:Hp}{a:ak}{o:HO}:upd H a o a=some o:=by unfold upd;rw[if_pos rfl]
theorem Jn{H:Hp}{a b:ak}{o:HO}(h:b≠a):upd H a o b=H b:=by unfold upd;rw[if_neg h]
theorem Qv{H:Hp}{a b:ak}{o:HO}(h:H a=some o)(h':H b=none):a≠b:=by
 intro e;subst e;rw[h]at h';cases h'
def IsTD(h:aY)(a:ak)(items:Array ah):Prop:=∃o,h.get? a=some o/\o.cls=.type "tuple" /\ (∃n,o.data=.seq items n)/\o.dict=none
theorem IsTD.tup{h:aY}{a:ak}{items:Array ah}(x:IsTD h a items):m5 h a items:=by
 obtain⟨o,e,c,d,_⟩:=x;exact⟨o,e,c,d⟩
theorem IsTD.lt{h:aY}{a:ak}{items:Array ah}(x:IsTD h a items):a<h.objs.size:=x.tup.lt
theorem IsTD.new(h:aY)(items:Array ah):IsTD (h.push { cls:=.type "tuple",data:=.seq items }) h.objs.size items:=⟨_,aI _ rfl,rfl,⟨_,rfl⟩,rfl⟩
def TabOk(H:Hp)(q:Str)(ps:Array ah):Prop:=TriplesOk ps.toList/\∀(pos:Pos) (v:ah),codeAmong pos ps.toList=some v->∃(c:ak) (o:Obj) (u:HO) (x:Array ah) (t:Tok),v=.ref c/\H c=some (.frz o u)/\o.data=.fields x/\x[1]?=some (.str q t)
section
variable(P:aK)(w:aW)
def JL(H:Hp)(h:aY)(a:ak):HO->Prop
 | .lst xs=>xs.length<=sizeLine/\∃(I:List ah) (n:Nat),Vals xs I/\h.get? a=some { cls:=.type "list",data:=.seq I.toArray n }
 | .tup xs=>xs.length<=sizeLine/\∃I:List ah,Vals xs I/\IsTD h a I.toArray
 | .dK G=>G.length<=sizeLine/\(a == sysModules)=false/\∃vs,KV G vs/\h.DictOf (Zy P w) a vs
 | .dT G=>G.length<=sizeLine/\(a == sysModules)=false/\∃xs:List (List Key×ak×ah),
   eL (fun(p:List Key×V) (q:List Key×ak×ah)=>p.1=q.1/\H q.2.1=some (.tup (p.1.map kV))/\RelV p.2 q.2.2) G xs /\
   ∃o Z ep,h.get? a=some o/\o.ExactDict/\o.data=.dict Z ep/\Z.toList=xs.map (entryOfKey (tupleKind (Zy P w)))/\(xs.map (·.1)).Nodup
 | .set S n=>h.SetOf (intKind P w) a S n
 | .ins C L fs=>H L=some (.own a)/\fs.length<=1000/\L≠a/\h.get? a=some (lD C L) /\
   ∃J,h.Ns1 L J/\(∀f,RelO (fs.lookup f) (J f))/\tH J (fs.map (·.1))
 | .own _=>∃o,h.get? a=some o
 | .xd fs=>∃J,h.Ns1 a J/\∀f,RelO (fs.lookup f) (J f)
 | .rng lo hi=>∃t u v,h.get? a=some { cls:=.type "range",data:=.fields #[.int lo t,.int hi u,.int 1 v] }
 | .frz o u=>h.get? a=some o/\JL H h a u
 | .tbl q=>∃ps:Array ah,h.get? a=some { cls:=.none,data:=.fields ps }/\TabOk H q ps
 | .met f x=>h.get? a=some (km (.ref f) (.ref x))
 | .ext R=>R h/\(∃o,h.get? a=some o)/\∀Y U:aY,R Y->(∀o,Y.get? a=some o->U.get? a=some o)->R U
def HOk(H:Hp)(h:aY):Prop:=∀a o,H a=some o->JL P w H h a o
end
section
variable{P:aK}{w:aW}{H H':Hp}{h h':aY}{a:ak}{o:HO}
theorem JL.lt(x:JL P w H h a o):a<h.objs.size:=by
 cases o with
 | lst xs=>obtain⟨_,_,_,_,e⟩:=x;exact aD e
 | tup xs=>obtain⟨_,_,_,p⟩:=x;exact p.lt
 | dK l=>obtain⟨_,_,_,_,o,_,_,e,_⟩:=x;exact aD e
 | dT l=>obtain⟨_,_,_,_,o,_,_,e,_⟩:=x;exact aD e
 | set S n=>obtain⟨o,_,_,_,e,_⟩:=x;exact aD e
 | ins C G fs=>obtain⟨_,_,_,e,_⟩:=x;exact aD e
 | own y=>obtain⟨_,e⟩:=x;exact aD e
 | xd fs=>obtain⟨_,⟨_,_,_,e,_⟩,_⟩:=x;exact aD e
 | rng lo hi=>obtain⟨_,_,_,e⟩:=x;exact aD e
 | frz v u=>obtain⟨e,_⟩:=x;exact aD e
 | tbl q=>obtain⟨_,e,_⟩:=x;exact aD e
 | met f y=>exact aD (show h.get? a=some _ from x)
 | ext I=>obtain⟨_,⟨_,e⟩,_⟩:=x;exact aD e
theorem Paired.mapP{α x:Type}{F G:α->x->Prop}{u:List α}{v:List x}(h:eL F u v)(f:∀a b,F a b->G a b):eL G u v:=by
 induction h with
 | nil=>exact .nil
 | cons r _ y=>exact .cons (f _ _ r) y
theorem JL.stay(x:JL P w H h a o)(k:∀b u,(b=a\/H b=some (.own a))->h.get? b=some u->h'.get? b=some u)
  (ho:∀b,H b=some (.own a)->H' b=some (.own a)) (ht:∀b xs,H b=some (.tup xs)->H' b=some (.tup xs)) (hf:∀b G u,H b=some (.frz G u)->H' b=some (.frz G u)):JL P w H' h' a o:=by
 induction o with
 | lst xs=>obtain⟨z,L,n,r,e⟩:=x;exact⟨z,L,n,r,k _ _ (.inl rfl) e⟩
 | tup xs=>obtain⟨z,L,r,G,e,c⟩:=x;exact⟨z,L,r,G,k _ _ (.inl rfl) e,c⟩
 | dK N=>obtain⟨z,y,Y,r,G,J,I,e,c⟩:=x;exact⟨z,y,Y,r,G,J,I,k _ _ (.inl rfl) e,c⟩
 | dT N =>
  obtain⟨z,y,xs,r,G,J,I,e,c⟩:=x;exact⟨z,y,xs,Paired.mapP r fun p q z=>⟨z.1,ht _ _ z.2.1,z.2.2⟩,G,J,I,k _ _ (.inl rfl) e,c⟩
 | set S n=>obtain⟨G,J,I,t,e,c⟩:=x;exact⟨G,J,I,t,k _ _ (.inl rfl) e,c⟩
 | ins C dx fs =>
  obtain⟨d,z,ne,e,R,⟨U,J,I,Z,c⟩,r⟩:=x;exact⟨ho _ d,z,ne,k _ _ (.inl rfl) e,R,⟨U,J,I,k _ _ (.inr d) Z,c⟩,r⟩
 | own y=>obtain⟨G,e⟩:=x;exact⟨G,k _ _ (.inl rfl) e⟩
 | xd fs=>obtain⟨R,⟨U,J,I,e,c⟩,r⟩:=x;exact⟨R,⟨U,J,I,k _ _ (.inl rfl) e,c⟩,r⟩
 | rng lo hi=>obtain⟨t,u,v,e⟩:=x;exact⟨t,u,v,k _ _ (.inl rfl) e⟩
 | frz G u ih=>obtain⟨e,q⟩:=x;exact⟨k _ _ (.inl rfl) e,ih q⟩
 | tbl q =>
  obtain⟨ps,e,z,r⟩:=x;refine⟨ps,k a _ (.inl rfl) e,z,fun pos cv m=>?_⟩
  obtain⟨c,o,u,Y,t,e1,Z,e3⟩:=r pos cv m;exact⟨c,o,u,Y,t,e1,hf _ _ _ Z,e3⟩
 | met f y =>
  have e:h.get? a=some (km (.ref f) (.ref y)):=x;show h'.get? a=some (km (.ref f) (.ref y))
  exact k a _ (.inl rfl) e
 | ext φ=>obtain⟨p,⟨o,e⟩,st⟩:=x;exact⟨st _ _ p fun o q=>k _ _ (.inl rfl) q,⟨o,k _ _ (.inl rfl) e⟩,st⟩
theorem HOk.lt(x:HOk P w H h)(e:H a=some o):a<h.objs.size:=(x a o e).lt
theorem HOk.fresh(x:HOk P w H h)(e:h.objs.size<=a):H a=none:=by
 cases q:H a with
 | none=>rfl
 | some u=>exact absurd (aF (x.lt q) e) (gy _)
theorem HOk.kept(x:HOk P w H h)(k:∀b u,h.get? b=some u->h'.get? b=some u):HOk P w H h':=fun a o e =>
 (x a o e).stay (fun b u _ q=>k b u q) (fun _ q=>q) (fun _ _ q=>q) fun _ _ _ q=>q
theorem HOk.laid(x:HOk P w H h)(k:∀b u,h.get? b=some u->h'.get? b=some u)(C:h.objs.size<=a)(new:JL P w (upd H a o) h' a o):HOk P w (upd H a o) h':=fun b u e=>by
 have l:=x.fresh C
 by_cases hb:b=a
 ·subst hb;rw[JM]at e;cases e;exact new
 ·rw[Jn hb]at e;exact(x b u e).stay (fun c v _ q=>k c v q) (fun c q=>by rw[Jn (Qv q l)];exact q) (fun c xs q=>by rw[Jn (Qv q l)];exact q) fun c G xs q=>by rw[Jn (Qv q l)];exact q
end
def Rd(H:Hp)(a:ak)(u:HO):Prop:=H a=some u\/∃o,H a=some (.frz o u)
theorem Rd.ok{P:aK}{w:aW}{H:Hp}{h:aY}{a:ak}{u:HO}(r:Rd H a u)(x:HOk P w H h):JL P w H h a u:=by
 rcases r with r|⟨o,r⟩
 ·exact x a u r
 ·obtain⟨_,q⟩:=x a _ r;exact q
def Mut:Option HO->Prop
 | some (.lst _)=>True
 | some (.dK _)=>True
 | some (.dT _)=>True
 | some (.set _ _)=>True
 | some (.ins _ _ _)=>True
 | some (.ext _)=>True
 | _=>False
section
variable{P:aK}{w:aW}{H:Hp}{h h':aY}{x e:ak}{o':HO}
theorem HOk.write(ok:HOk P w H h)(l:Mut (H x))(N:e=x\/H e=some (.own x))(k:∀b u,b≠e->h.get? b=some u->h'.get? b=some u)(J:∃u,h'.get? e=some u)
  (new:JL P w (upd H x o') h' x o'):HOk P w (upd H x o') h':=fun b u q=>by
 have L:∀c y,H c=some (.own y)->c≠x:=fun c y r z=>by subst z;rw[r]at l;exact l
 have G:∀c xs,H c=some (.tup xs)->c≠x:=fun c xs r z=>by subst z;rw[r]at l;exact l
 have C:∀c I xs,H c=some (.frz I xs)->c≠x:=fun c I xs r z=>by subst z;rw[r]at l;exact l
 by_cases hb:b=x
 ·subst hb;rw[JM]at q;cases q;exact new
 ·rw[Jn hb]at q
  by_cases hbe:b=e
  ·have R:H b=some (.own x):=by
    rcases N with z|z
    ·exact absurd (hbe.trans z) hb
    ·rw[hbe];exact z
   rw[q]at R;cases R;obtain⟨v,S⟩:=J;exact⟨v,by rw[hbe];exact S⟩
  ·refine(ok b u q).stay (fun c v hc r=>k c v ?_ r) (fun c r=>by rw[Jn (L c b r)];exact r) (fun c xs r=>by rw[Jn (G c xs r)];exact r) fun c I xs r=>by rw[Jn (C c I xs r)];exact r
   rcases hc with rfl|hc
   ·exact hbe
   ·rintro rfl;rcases N with z|z
    ·exact L c b hc z
    ·rw[hc]at z;cases z;exact hb rfl
end
structure Un(fs ex:List ak)(H H':Hp)(h h':aY):Prop where
 keep:∀b o,h.get? b=some o->H b=none->b∉fs->b∉ex->h'.get? b=some o
 slot:∀b o,h.get? b=some o->H b=none->b∈fs->b∉ex->∃sl,h'.get? b=some { o with slots:=sl }
 free:∀b o,h.get? b=some o->H b=none->b∉ex->H' b=none
 there:∀b o,h.get? b=some o->b∉ex->∃o',h'.get? b=some o'
 tups:∀b xs,H b=some (.tup xs)->H' b=some (.tup xs)
 frzs:∀b o u,H b=some (.frz o u)->H' b=some (.frz o u)
 tbls:∀b q,H b=some (.tbl q)->H' b=some (.tbl q)
section
variable{fs fs' ex ex':List ak}{H H1 H2:Hp}{h h1 h2 h':aY}{a x e:ak}{o:HO}
theorem Un.any(u:Un fs ex H H1 h h1){b:ak}{l:Obj}(q:h.get? b=some l)(n:H b=none)(hx:b∉ex):∃v,h1.get? b=some { l with slots:=v }:=by
 by_cases hb:b∈fs
 ·exact u.slot b l q n hb hx
 ·exact⟨l.slots,u.keep b l q n hb hx⟩
theorem Un.kept(k:∀b u,h.get? b=some u->h'.get? b=some u):Un fs ex H H h h' :=
 ⟨fun b l q _ _ _=>k b l q,fun b l q _ _ _=>⟨l.slots,k b l q⟩,fun _ _ _ n _=>n,fun b l q _=>⟨l,k b l q⟩,fun _ _ q=>q,fun _ _ _ q=>q,fun _ _ q=>q⟩
theorem Un.refl:Un fs ex H H h h:=Un.kept fun _ _ q=>q
theorem Un.laid(k:∀b u,h.get? b=some u->h'.get? b=some u)(v:h.objs.size<=a)(l:H a=none):Un fs ex H (upd H a o) h h' where
 keep:=fun b u q _ _ _=>k b u q
 slot:=fun b u q _ _ _=>⟨u.slots,k b u q⟩
 free:=fun b u q n _=>by rw[Jn (aL (aF (aD q) v))];exact n
 there:=fun b u q _=>⟨u,k b u q⟩
 tups:=fun b xs q=>by rw[Jn (Qv q l)];exact q
 frzs:=fun b u xs q=>by rw[Jn (Qv q l)];exact q
 tbls:=fun b ps q=>by rw[Jn (Qv q l)];exact q
theorem Un.write(l:Mut (H x))(G:e=x\/H e=some (.own x))(k:∀b u,b≠e->h.get? b=some u->h'.get? b=some u)(v:∃u,h'.get? e=some u):Un fs ex H (upd H x o) h h':=by
 have hx:∀b,H b=none->b≠x:=fun b n z=>by subst z;rw[n]at l;exact l
 have C:∀b,H b=none->b≠e:=fun b n z=>by
  subst z;rcases G with r|r
  ·exact hx b n r
  ·rw[n]at r;cases r
 have y:∀b u,H b=some u->¬Mut (some u)->b≠x:=fun b u q nm z=>by subst z;rw[q]at l;exact nm l
 refine⟨fun b u q n _ _=>k b u (C b n) q,fun b u q n _ _=>⟨u.slots,k b u (C b n) q⟩,fun b u q n _=>by rw[Jn (hx b n)];exact n,fun b u q _=>?_,
  fun b xs q=>by rw[Jn (y b _ q fun z=>z)];exact q,fun b u xs q=>by rw[Jn (y b _ q fun z=>z)];exact q,fun b ps q=>by rw[Jn (y b _ q fun z=>z)];exact q⟩
 by_cases hbe:b=e
 ·subst hbe;exact v
 ·exact⟨u,k b u hbe q⟩
end
def trk(h:aY)(H:Hp):List ak:=(fw h.objs.size).filter fun a=>(H a).isSome
def hidT(h:aY)(H:Hp):aY:=oN h (trk h H)
theorem zlT(h:aY)(H:Hp):(hidT h H).objs.size=h.objs.size:=PySem.W.hideAll_size _ _
theorem znT{h:aY}{H:Hp}{b:ak}{o:Obj}(e:h.get? b=some o)(n:H b=none):(hidT h H).get? b=some o :=
 mw _ e fun l=>by
  have q:(H b).isSome=true:=(cz.mp l).2;rw[n]at q;simp at q
theorem zpy{h:aY}{H:Hp}{b:ak}{o:Obj}(e:(hidT h H).get? b=some o):h.get? b=some o/\H b=none:=by
 have l:h.get? b=some o:=mP (trk h H) e;refine⟨l,?_⟩;cases q:H b with
 | none=>rfl
 | some x =>
  have u:b∈trk h H:=cz.mpr ⟨gT.mpr (aD l),by simp[q]⟩
  have z:(hidT h H).get? b=none:=PySem.W.hideAll_none (trk h H) u;rw[z]at e;cases e
structure Mod(K:qF)(mg:qM)(base:aY):Prop where
 kin:K.In base
 glob:base.Ns mainGlobals mg
 blt:∃mb,base.Ns builtinsNs mb/\∀x:Str,x ≠ "__name__" -> mb x=bootBuiltins x
 nolimit:base.NoLimit
structure Cx where
 prog:aK
 w:aW
 K:qF
 mg:Str->Option ah
 base:aY
 A:bq
 N:List Str
 s₀:aq
 H₀:Hp
 env:Env
 outer:List Env
 stack:List Env
 ex:List ak
 fn:Str->Bool
 calm:Bool
 pn:List (ak×Obj)
 xe:ah->aq->Prop
def frs(l:List Env):List ak:=l.filterMap (·.frame)
abbrev Cx.fs(X:Cx):List ak:=frs X.outer
def Vis(sc:fv)(x:Str):Prop:=sc.names.lookup x=some .local\/sc.names.lookup x=some .cell\/sc.names.lookup x=some .free
def Loc(sc:fv)(x:Str):Prop:=sc.names.lookup x=some .local\/sc.names.lookup x=some .cell
def Look(env:Env)(h:aY)(m:qM)(x:Str)(u:ah):Prop :=
 (env.kindOf x=some .local/\m x=some u)\/((env.kindOf x=some .cell\/env.kindOf x=some .free)/\∃c,env.cells.lookup x=some c/\h.IsCell c (some u))
structure Cx.Ok(X:Cx):Prop where
 mod:Mod X.K X.mg X.base
 kind:X.env.scope.kind=.function
 glob:X.env.globals=mainGlobals
 blt:X.env.builtins=builtinsNs
 above:X.s₀.heap.objs.size<=X.env.locals
 inj:∀x y c,X.env.cells.lookup x=some c->X.env.cells.lookup y=some c->x=y
 has:∀x,(X.env.kindOf x=some .cell\/X.env.kindOf x=some .free)->∃c,X.env.cells.lookup x=some c
 cab:∀x c,X.fn x=true->X.env.cells.lookup x=some c->X.s₀.heap.objs.size<=c
 hd:X.calm=true->X.A.handled=none
 frames:X.A.frames=some X.stack
 stk:X.stack=X.outer\/(X.stack=X.env::X.outer/\X.env.frame=some X.env.locals)
 exf:∀b∈X.ex,b≠X.env.locals/\∀x c,X.env.cells.lookup x=some c->c≠b
 bs:∀b o,X.base.get? b=some o->X.s₀.heap.get? b=some o/\X.H₀ b=none
 bsz:X.base.objs.size<=X.s₀.heap.objs.size
 noex:∀b o,X.base.get? b=some o->b∉X.ex
 exfs:∀b∈X.ex,b∉X.fs
 funs:X.s₀.heap.FunFrames X.base X.outer
 frf:∀b∈X.fs,X.H₀ b=none
structure Inv(X:Cx)(pins:qO)(σ:List (Option V))(H:Hp)(s:aq):Prop where
 ok:X.Ok
 os:s.os=X.s₀.os
 bare:iA s.gens
 base:Un X.fs X.ex X.H₀ H X.s₀.heap s.heap
 loc:∃m,s.heap.Ns X.env.locals m/\∀(i:Nat) (x:Str) (v:V),X.N[i]?=some x->σ[i]?=some (some v)->Vis X.env.scope x->∃u,RelV v u/\Look X.env s.heap m x u
 cell:∀x c,X.env.cells.lookup x=some c->∃v,s.heap.IsCell c v
 free:H X.env.locals=none
 freeC:∀x c,X.env.cells.lookup x=some c->H c=none
 pin:∀p∈X.pn++pins,s.heap.get? p.1=some p.2/\H p.1=none/\p.1≠X.env.locals/\p.1∉X.fs/\∀v,p.2.data≠.cell v
 hok:HOk X.prog X.w H s.heap
 len:σ.length=X.N.length
section
variable{X:Cx}{pins:qO}{σ:List (Option V)}{H H':Hp}{s:aq}{h':aY}
theorem Cx.Ok.nofr(ok:X.Ok){b:ak}{o:Obj}(e:X.base.get? b=some o):b∉X.fs:=fun l=>by
 have:=(ok.funs.mem l).1;rw[e]at this;cases this
theorem Inv.bs(I:Inv X pins σ H s):∀b o,X.base.get? b=some o->s.heap.get? b=some o/\H b=none:=fun b o e =>
 ⟨I.base.keep b o (I.ok.bs b o e).1 (I.ok.bs b o e).2 (I.ok.nofr e) (I.ok.noex b o e),I.base.free b o (I.ok.bs b o e).1 (I.ok.bs b o e).2 (I.ok.noex b o e)⟩
theorem Inv.bk(I:Inv X pins σ H s):∀b o,X.base.get? b=some o->s.heap.get? b=some o:=fun b o e=>(I.bs b o e).1
theorem Inv.mod(I:Inv X pins σ H s):Mod X.K X.mg X.base:=I.ok.mod
theorem Inv.kIn(I:Inv X pins σ H s):X.K.In s.heap:=I.ok.mod.kin.keeps I.bk
theorem Inv.lt(I:Inv X pins σ H s):X.env.locals<s.heap.objs.size:=let ⟨_,hn,_⟩:=I.loc;hn.lt
theorem Inv.sz(I:Inv X pins σ H s):X.s₀.heap.objs.size<=s.heap.objs.size:=cH I.ok.above (m6 I.lt)
theorem Inv.nofs(I:Inv X pins σ H s){a:ak}(h:s.heap.objs.size<=a):a∉X.fs:=fun u=>by
 obtain⟨_,o,l,_⟩:=I.ok.funs.mem u;exact absurd (aF (aD l) (cH I.sz h)) (gy _)
theorem Inv.cne(I:Inv X pins σ H s):∀x c,X.env.cells.lookup x=some c->c≠X.env.locals:=fun x c e z=>by
 obtain⟨v,o,y,hd⟩:=I.cell x c e;obtain⟨m,⟨G,J,C,l,u,_⟩,_⟩:=I.loc;rw[z,l]at y;cases y;rw[u]at hd;cases hd
theorem Inv.funs(I:Inv X pins σ H s):s.heap.FunFrames X.base X.outer:=by
 have all:∀(l:List Env),(∀b∈frs l,b∈X.fs)->X.s₀.heap.FunFrames X.base l->s.heap.FunFrames X.base l:=by
  intro l;induction l with
  | nil=>intro _ _;trivial
  | cons env r C =>
   intro x y;obtain⟨J,⟨L,o,hf,N,G,hd⟩,R⟩:=y;have v:L∈X.fs:=x L (by unfold frs;rw[dF,hf];exact cm)
   obtain⟨S,e⟩:=I.base.slot L o G (I.ok.frf L v) v fun z=>I.ok.exfs L z v
   exact⟨J,⟨L,_,hf,N,e,hd⟩,C (fun b u=>x b (by unfold frs;rw[dF,hf];exact bV _ u)) R⟩
 exact all X.outer (fun _ u=>u) I.ok.funs
theorem Inv.stack(I:Inv X pins σ H s):s.heap.FunFrames X.base X.stack:=by
 rcases I.ok.stk with e|⟨e,hf⟩
 ·rw[e];exact I.funs
 ·rw[e];obtain⟨m,l,_⟩:=I.loc;refine .cons (by rw[I.ok.kind];decide) hf l ?_ I.funs
  exact Heap.get?_none_of_le (cH I.ok.bsz I.ok.above)
theorem Inv.stkSub(I:Inv X pins σ H s):∀b∈frs X.stack,b∈X.env.locals::X.fs:=fun b l=>by
 rcases I.ok.stk with e|⟨e,hf⟩
 ·rw[e]at l;exact bV _ l
 ·rw[e]at l;unfold frs at l;rw[dF,hf]at l;exact l
theorem Inv.stkFree(I:Inv X pins σ H s):∀b∈frs X.stack,H b=none:=fun b l=>by
 rcases aA.mp (I.stkSub b l) with e|l
 ·rw[e];exact I.free
 ·obtain⟨_,o,u,_⟩:=I.ok.funs.mem l;exact I.base.free b o u (I.ok.frf b l) fun z=>I.ok.exfs b z l
theorem Inv.step{g':Array GenState}{t':Nat}{d':Drawn}{ch:List ak}(I:Inv X pins σ H s)
  (C:∀b∈ch,(b∈X.ex\/X.s₀.heap.objs.size<=b)/\b≠X.env.locals/\(∀x c,X.env.cells.lookup x=some c->c≠b)/\∀p∈X.pn++pins,p.1≠b)
  (keep:∀b o,b≠X.env.locals->b∉X.fs->b∉ch->s.heap.get? b=some o->H b=none->h'.get? b=some o)
  (slot:∀b o,b≠X.env.locals->b∈X.fs->b∉ch->s.heap.get? b=some o->H b=none->∃Y,h'.get? b=some { o with slots:=Y }) (free:∀b o,b∉ch->s.heap.get? b=some o->H b=none->H' b=none)
  (there:∀b o,b∉ch->s.heap.get? b=some o->∃S,h'.get? b=some S)
  (tups:∀b xs,H b=some (.tup xs)->H' b=some (.tup xs)) (frzs:∀b o u,H b=some (.frz o u)->H' b=some (.frz o u)) (tbls:∀b q,H b=some (.tbl q)->H' b=some (.tbl q))
  (ns:∀m,s.heap.Ns X.env.locals m->h'.Ns X.env.locals m) (hok:HOk X.prog X.w H' h') (hg:iA g') :
  Inv X pins σ H' { s with heap:=h',gens:=g',drawn:=d',toks:=t' }:=by
 have R:∀b o,X.s₀.heap.get? b=some o->b≠X.env.locals:=fun b o e=>aL (aF (aD e) I.ok.above)
 have G:∀b o,X.s₀.heap.get? b=some o->b∉X.ex->b∉ch:=fun b o e hx J=>by
  rcases(C b J).1 with z|z
  ·exact hx z
  ·exact absurd (aF (aD e) z) (gy _)
 have cellK:∀x c,X.env.cells.lookup x=some c->∀v,s.heap.IsCell c v->h'.IsCell c v:=fun x c e v ⟨o,N,hd⟩=>by
  have y:c∉ch:=fun z=>(C c z).2.2.1 x c e rfl
  by_cases hc:c∈X.fs
  ·obtain⟨Y,q⟩:=slot c o (I.cne x c e) hc y N (I.freeC x c e);exact⟨_,q,hd⟩
  ·exact⟨o,keep c o (I.cne x c e) hc y N (I.freeC x c e),hd⟩
 refine⟨I.ok,I.os,hg,⟨fun b o e n J hx=>?_,fun b o e n J hx=>?_,fun b o e n hx=>?_,fun b o e hx=>?_,fun b xs e=>tups b xs (I.base.tups b xs e),fun b o xs e=>frzs b o xs (I.base.frzs b o xs e),fun b ps e=>?_⟩,?_,fun x c e=>?_,?_,fun x c e=>?_,fun p hp=>?_,hok,I.len⟩
 ·exact keep b o (R b o e) J (G b o e hx) (I.base.keep b o e n J hx) (I.base.free b o e n hx)
 ·obtain⟨Y,L⟩:=I.base.slot b o e n J hx;obtain⟨U,Z⟩:=slot b _ (R b o e) J (G b o e hx) L (I.base.free b o e n hx);exact⟨U,Z⟩
 ·obtain⟨S,L⟩:=I.base.there b o e hx;exact free b S (G b o e hx) L (I.base.free b o e n hx)
 ·obtain⟨S,L⟩:=I.base.there b o e hx;exact there b S (G b o e hx) L
 ·exact tbls b ps (I.base.tbls b ps e)
 ·obtain⟨m,hn,hl⟩:=I.loc;refine⟨m,ns m hn,fun i x v L Z e3=>?_⟩
  obtain⟨u,r,l⟩:=hl i x v L Z e3;refine⟨u,r,?_⟩;rcases l with l|⟨k,c,e,z⟩
  ·exact .inl l
  ·exact .inr ⟨k,c,e,cellK x c e _ z⟩
 ·obtain⟨v,z⟩:=I.cell x c e;exact⟨v,cellK x c e v z⟩
 ·obtain⟨m,⟨o,_,_,N,_⟩,_⟩:=I.loc;exact free _ o (fun z=>(C _ z).2.1 rfl) N I.free
 ·obtain⟨v,o,N,hd⟩:=I.cell x c e;exact free c o (fun z=>(C c z).2.2.1 x c e rfl) N (I.freeC x c e)
 ·obtain⟨e,n,ne,nf,d⟩:=I.pin p hp;have y:p.1∉ch:=fun z=>(C p.1 z).2.2.2 p hp rfl
  exact⟨keep p.1 p.2 ne nf y e n,free p.1 p.2 y e n,ne,nf,d⟩
theorem Inv.un{t':Nat}(I:Inv X pins σ H s)(u:Un X.fs [] H H' s.heap h')(hok:HOk X.prog X.w H' h'):Inv X pins σ H' { s with heap:=h',toks:=t' }:=by
 obtain⟨m,⟨o,S,N,C,r⟩,_⟩:=id I.loc;obtain⟨U,L⟩:=u.any C I.free (by simp)
 exact I.step (g':=s.gens) (d':=s.drawn) (ch:=[]) (fun _ z=>nomatch z) (fun b o _ y _ e n=>u.keep b o e n y (by simp)) (fun b o _ y _ e n=>u.slot b o e n y (by simp)) (fun b o _ e n=>u.free b o e n (by simp)) (fun b o _ e=>u.there b o e (by simp)) u.tups u.frzs u.tbls (fun R J=>by
  obtain⟨Y,v,x,l,G⟩:=J;rw[C]at l;cases l;exact⟨_,v,x,L,G⟩) hok I.bare
theorem Inv.call{g':Array GenState}{t':Nat}{d':Drawn}{ch:List ak}(I:Inv X pins σ H s)(u:Un (frs X.stack) ch H H' s.heap h')(hok:HOk X.prog X.w H' h')(R:iA g')
  (y:∀b∈ch,(b∈X.ex\/X.s₀.heap.objs.size<=b)/\b≠X.env.locals/\(∀x c,X.env.cells.lookup x=some c->c≠b)/\∀p∈X.pn++pins,p.1≠b) :
  Inv X pins σ H' { s with heap:=h',gens:=g',drawn:=d',toks:=t' }:=by
 obtain⟨m,⟨o,es,Y,L,r⟩,_⟩:=id I.loc;obtain⟨sl,J⟩:=u.any L I.free fun z=>(y _ z).2.1 rfl
 exact I.step (ch:=ch) y (fun b o J U hc e n=>u.keep b o e n (fun z=>(aA.mp (I.stkSub b z)).elim J U) hc) (fun b o _ _ hc e n=>u.any e n hc) (fun b o hc e n=>u.free b o e n hc) (fun b o hc e=>u.there b o e hc) u.tups u.frzs u.tbls (fun Z S=>by
  obtain⟨o',C,G,v,N⟩:=S;rw[L]at v;cases v;exact⟨_,C,G,J,N⟩) hok R
theorem Inv.turned{t':Nat}{it:ak}(I:Inv X pins σ H s)(k:∀b o,b≠it->s.heap.get? b=some o->h'.get? b=some o)(U:H it=none)(C:it≠X.env.locals)
  (N:it∈X.ex\/X.s₀.heap.objs.size<=it) (L:∀x c,X.env.cells.lookup x=some c->c≠it) (R:∀p∈X.pn++pins,p.1≠it):Inv X pins σ H { s with heap:=h',toks:=t' }:=by
 have l:∀b u,H b=some u->b≠it:=fun b u e z=>by rw[z,U]at e;cases e
 refine I.step (g':=s.gens) (d':=s.drawn) (ch:=[it]) (fun b Y=>?_) (fun b o _ _ hc e _=>k b o (fun z=>hc (by simp[z])) e) (fun b o _ _ hc e _=>⟨o.slots,k b o (fun z=>hc (by simp[z])) e⟩) (fun _ _ _ _ n=>n)
  (fun b o hc e=>⟨o,k b o (fun z=>hc (by simp[z])) e⟩) (fun _ _ e=>e) (fun _ _ _ e=>e) (fun _ _ e=>e) (fun m S=>?_) (fun b u e=>?_) I.bare
 ·have e:b=it:=by simpa using Y
  subst e;exact⟨N,C,L,R⟩
 ·obtain⟨o,Z,G,J,r⟩:=S;exact⟨o,Z,G,k _ o (kS C) J,r⟩
 ·refine(I.hok b u e).stay (fun c v hc q=>k c v ?_ q) (fun _ q=>q) (fun _ _ q=>q) fun _ _ _ q=>q
  rcases hc with z|z
  ·rw[z];exact l b u e
  ·exact l c _ z
theorem Inv.tok(I:Inv X pins σ H s)(t:Nat):Inv X pins σ H { s with toks:=t }:=I.un (h':=s.heap) (t':=t) Un.refl I.hok
theorem Inv.kept{t':Nat}(I:Inv X pins σ H s)(k:∀b u,s.heap.get? b=some u->h'.get? b=some u):Inv X pins σ H { s with heap:=h',toks:=t' }:=I.un (Un.kept k) (I.hok.kept k)
theorem Inv.laid{a:ak}{o:HO}{t':Nat}(I:Inv X pins σ H s)(k:∀b u,s.heap.get? b=some u->h'.get? b=some u)(l:s.heap.objs.size<=a)(new:JL X.prog X.w (upd H a o) h' a o) :
  Inv X pins σ (upd H a o) { s with heap:=h',toks:=t' }:=I.un (Un.laid k l (I.hok.fresh l)) (I.hok.laid k l new)
theorem Inv.write{x e:ak}{o:HO}{t':Nat}(I:Inv X pins σ H s)(y:Mut (H x))(v:e=x\/H e=some (.own x))(k:∀b u,b≠e->s.heap.get? b=some u->h'.get? b=some u)(l:∃u,h'.get? e=some u)
  (new:JL X.prog X.w (upd H x o) h' x o):Inv X pins σ (upd H x o) { s with heap:=h',toks:=t' }:=I.un (Un.write y v k l) (I.hok.write y v k l new)
theorem Inv.weak{σ':List (Option V)}(I:Inv X pins σ H s)(l:σ'.length=σ.length)(w:∀(i:Nat) v,σ'[i]?=some (some v)->σ[i]?=some (some v)):Inv X pins σ' H s :=
 ⟨I.ok,I.os,I.bare,I.base,let ⟨m,hn,hl'⟩:=I.loc;⟨m,hn,fun i x v u C y=>hl' i x v u (w i v C) y⟩,I.cell,I.free,I.freeC,I.pin,I.hok,l.trans I.len⟩
theorem Inv.pins_of{u:qO}(I:Inv X pins σ H s)(h:∀p∈u,s.heap.get? p.1=some p.2/\H p.1=none/\p.1≠X.env.locals/\p.1∉X.fs/\∀v,p.2.data≠.cell v):Inv X u σ H s :=
 ⟨I.ok,I.os,I.bare,I.base,I.loc,I.cell,I.free,I.freeC,fun p x=>(aw.mp x).elim (fun z=>I.pin p (lR _ z)) (h p),I.hok,I.len⟩
theorem zfS{N:List Str}(l:N.Nodup){i j:Nat}{x:Str}(a:N[i]?=some x)(b:N[j]?=some x):i=j:=by
 obtain⟨C,u⟩:=ax.mp a;obtain⟨y,v⟩:=ax.mp b;exact(List.getElem_inj l).mp (u.trans v.symm)
theorem zgo{M:m7}{A:bq}{E:qV}{i:Nat}{x:Str}{v:V}{u:ah}{Q:Unit->aq->Prop}(I:Inv X pins σ H s)(hN:X.N.Nodup)(hi:X.N[i]?=some x)(hx:Loc X.env.scope x)(r:RelV v u)
  (h:∀s',Inv X pins (σ.set i (some v)) H s'->(∃a,eE a s.heap s'.heap/\(a=X.env.locals\/X.env.cells.lookup x=some a))->Q () s') (hf:X.fn x=true\/X.env.scope.names.lookup x=some .local:=by walk_at "F"):wpAny M A (storeName X.env x u) Q E s:=by
 obtain⟨m,hn,hl⟩:=id I.loc;have Y:(X.env.scope.kind == .class||(X.env.scope.kind == .module&&X.env.locals != X.env.globals))=false:=by rw[I.ok.kind];rfl
 have L:i<σ.length:=by rw[I.len];exact(ax.mp hi).1
 have cne:=I.cne;have tracked:∀{a:ak} {h':aY},(∃o,s.heap.get? a=some o/\H a=none)->eE a s.heap h'->HOk X.prog X.w H h':=fun {a h'} ha C b ob e=>by
  obtain⟨_,_,IH⟩:=ha;refine(I.hok b ob e).stay (fun c w' hc q=>(C.2 c ?_).trans q) (fun _ q=>q) (fun _ _ q=>q) fun _ _ _ q=>q
  rintro rfl;rcases hc with rfl|hc
  ·rw[IH]at e;cases e
  ·rw[IH]at hc;cases hc
 rcases hx with hk|hk
 ·refine wpAny_storeName_local hk hn (fun h' hn' C=>?_) Y
  obtain⟨oL,_,_,hoL,_⟩:=id hn;refine h _ ⟨I.ok,I.os,I.bare,⟨fun b o e n N hx=>?_,fun b o e n N hx=>?_,I.base.free,fun b o e hx=>?_,I.base.tups,I.base.frzs,I.base.tbls⟩,⟨_,hn',fun j y v' G J e3=>?_⟩,fun y c e=>?_,I.free,I.freeC,fun p hp=>?_,tracked ⟨oL,hoL,I.free⟩ C,by simpa using I.len⟩ ⟨_,C,.inl rfl⟩
  ·exact(C.2 b (aL (aF (aD e) I.ok.above))).trans (I.base.keep b o e n N hx)
  ·obtain⟨sl,G⟩:=I.base.slot b o e n N hx;exact⟨sl,(C.2 b (aL (aF (aD e) I.ok.above))).trans G⟩
  ·obtain⟨o',G⟩:=I.base.there b o e hx;exact⟨o',(C.2 b (aL (aF (aD e) I.ok.above))).trans G⟩
  ·by_cases hj:j=i
   ·subst hj;rw[hi]at G;cases G;rw[cf L]at J;cases J;exact⟨u,r,.inl ⟨hk,by simp⟩⟩
   ·rw[aV (kS hj)]at J;obtain⟨u',r',q⟩:=hl j y v' G J e3;refine⟨u',r',?_⟩;rcases q with⟨k,e⟩|⟨k,c,e,z⟩
    ·refine .inl ⟨k,?_⟩;have:y≠x:=fun e=>hj (zfS hN G (e▸hi))
     simp[this,e]
    ·exact .inr ⟨k,c,e,z.sameBut C (cne y c e)⟩
  ·obtain⟨w',z⟩:=I.cell y c e;exact⟨w',z.sameBut C (cne y c e)⟩
  ·obtain⟨e,n,ne,nf,d⟩:=I.pin p hp;exact⟨(C.2 p.1 ne).trans e,n,ne,nf,d⟩
 ·have R:X.fn x=true:=by
   rcases hf with z|z
   ·exact z
   ·rw[z]at hk;cases hk
  obtain⟨c,hc⟩:=I.ok.has x (.inl hk);obtain⟨w',z⟩:=I.cell x c hc;refine wpAny_storeName_cell I.ok.kind hk hc z (fun h' S C=>?_)
  obtain⟨oc,Z,U⟩:=id z;refine h { s with heap:=h' } ⟨I.ok,I.os,I.bare,⟨fun b o e n N hx=>?_,fun b o e n N hx=>?_,I.base.free,fun b o e hx=>?_,I.base.tups,I.base.frzs,I.base.tbls⟩,⟨m,hn.sameBut C (kS (cne x c hc)),fun j y v' G J e3=>?_⟩,fun y c' e=>?_,I.free,I.freeC,fun p hp=>?_,tracked ⟨oc,Z,I.freeC x c hc⟩ C,by simpa using I.len⟩ ⟨c,C,.inr hc⟩
  ·exact(C.2 b (aL (aF (aD e) (I.ok.cab x c R hc)))).trans (I.base.keep b o e n N hx)
  ·obtain⟨sl,G⟩:=I.base.slot b o e n N hx;exact⟨sl,(C.2 b (aL (aF (aD e) (I.ok.cab x c R hc)))).trans G⟩
  ·obtain⟨o',G⟩:=I.base.there b o e hx;exact⟨o',(C.2 b (aL (aF (aD e) (I.ok.cab x c R hc)))).trans G⟩
  ·by_cases hj:j=i
   ·subst hj;rw[hi]at G;cases G;rw[cf L]at J;cases J;exact⟨u,r,.inr ⟨.inl hk,c,hc,S⟩⟩
   ·rw[aV (kS hj)]at J;obtain⟨u',r',q⟩:=hl j y v' G J e3;refine⟨u',r',?_⟩;rcases q with q|⟨k,c',e,z'⟩
    ·exact .inl q
    ·refine .inr ⟨k,c',e,z'.sameBut C ?_⟩;rintro rfl;exact hj (zfS hN G (I.ok.inj _ _ _ e hc▸hi))
  ·by_cases hcc:c'=c
   ·subst hcc;exact⟨_,S⟩
   ·obtain⟨w2,z2⟩:=I.cell y c' e;exact⟨w2,z2.sameBut C hcc⟩
  ·obtain⟨e,n,ne,nf,d⟩:=I.pin p hp;refine⟨(C.2 p.1 ?_).trans e,n,ne,nf,d⟩;intro q;rw[q,Z]at e;have q':oc=p.2:=aO e;exact d w' (by rw[<- q'];exact U)
theorem U5{M:m7}{A:bq}{E:qV}{i:Nat}{x:Str}{v:V}{u:ah}{Q:Unit->aq->Prop}(I:Inv X pins σ H s)(C:X.N.Nodup)(hi:X.N[i]?=some x)(hx:Loc X.env.scope x)(r:RelV v u)
  (h:∀s',Inv X pins (σ.set i (some v)) H s'->Q () s') (hf:X.fn x=true\/X.env.scope.names.lookup x=some .local:=by walk_at "F"):wpAny M A (storeName X.env x u) Q E s :=
 zgo I C hi hx r (fun s' y _=>h s' y) hf
theorem Inv.call'{s':aq}{ch:List ak}(I:Inv X pins σ H s)(y:s'.os=s.os)(u:Un (frs X.stack) ch H H' s.heap s'.heap)(hok:HOk X.prog X.w H' s'.heap)(C:iA s'.gens)
  (l:∀b∈ch,(b∈X.ex\/X.s₀.heap.objs.size<=b)/\b≠X.env.locals/\(∀x c,X.env.cells.lookup x=some c->c≠b)/\∀p∈X.pn++pins,p.1≠b):Inv X pins σ H' s':=by
 obtain⟨h',g',d',t',v⟩:=s';have e:v=s.os:=y;subst e;exact I.call (g':=g') (t':=t') (d':=d') u hok C l
end
abbrev XK:=ah->Option ak->Hp->Prop
abbrev St:=List (Option V)
abbrev VK:=V->Hp->Prop
abbrev TE:=St->Hp->VK->Prop
abbrev TT:=St->Hp->(Bool->Hp->Prop)->Prop
abbrev TA:=St->Hp->(List V->Hp->Prop)->Prop
structure Ends where
 nx:St->Hp->Prop
 rt:VK
 bk:St->Hp->Prop:=fun _ _=>False
 ct:St->Hp->Prop:=fun _ _=>False
abbrev TS:=Ends->St->Hp->Prop
def EP(X:Cx)(pins:qO)(σ:St)(Q:VK)(u:ah)(s':aq):Prop:=∃v l,Inv X pins σ l s'/\RelV v u/\Q v l
def TP(X:Cx)(pins:qO)(σ:St)(Q:Bool->Hp->Prop)(b:Bool)(s':aq):Prop:=∃l,Inv X pins σ l s'/\Q b l
def AP(X:Cx)(pins:qO)(σ:St)(Q:List V->Hp->Prop)(v:List ah)(s':aq):Prop:=∃u l,Inv X pins σ l s'/\Vals u v/\Q u l
def SP(X:Cx)(pins:qO)(D:Ends)(f:Flow)(s':aq):Prop :=
 match f with
 | .next=>∃σ' l,Inv X pins σ' l s'/\D.nx σ' l
 | .brk=>∃σ' l,Inv X pins σ' l s'/\D.bk σ' l
 | .cont=>∃σ' l,Inv X pins σ' l s'/\D.ct σ' l
 | .ret u=>∃v σ' l,Inv X pins σ' l s'/\RelV v u/\D.rt v l
def PE(X:Cx)(e:aX)(t:TE):Prop :=
 ∀(pins:qO) (s:aq) (σ:St) (H:Hp) (Q:VK),Inv X pins σ H s->t σ H Q->wpAny (model X.prog X.w) X.A (eval e X.env) (EP X pins σ Q) X.xe s
def PT(X:Cx)(e:aX)(t:TT):Prop :=
 ∀(pins:qO) (s:aq) (σ:St) (H:Hp) (Q:Bool->Hp->Prop),Inv X pins σ H s->t σ H Q->wpAny (model X.prog X.w) X.A (isTrue e X.env (eval e X.env)) (TP X pins σ Q) X.xe s
def PW(X:Cx)(e:aX)(t:TT):Prop :=
 ∀(whole:Sem ah) (pins:qO) (s:aq) (σ:St) (H:Hp) (Q:Bool->Hp->Prop),Inv X pins σ H s->t σ H Q->wpAny (model X.prog X.w) X.A (isTrue e X.env whole) (TP X pins σ Q) X.xe s
theorem PW.pt{X:Cx}{e:aX}{t:TT}(h:PW X e t):PT X e t:=h _
def PA(X:Cx)(l:List aX)(t:TA):Prop :=
 ∀(pos:Pos) (pins:qO) (s:aq) (σ:St) (H:Hp) (Q:List V->Hp->Prop),Inv X pins σ H s->t σ H Q->wpAny (model X.prog X.w) X.A (spliced (backTo pos (starEach l X.env))) (AP X pins σ Q) X.xe s
def PS(X:Cx)(st:dG)(t:TS):Prop :=
 ∀(pins:qO) (s:aq) (σ:St) (H:Hp) (D:Ends),Inv X pins σ H s->t D σ H->wpAny (model X.prog X.w) X.A (exec st X.env) (SP X pins D) X.xe s
def PSs(X:Cx)(st:List dG)(t:TS):Prop :=
 ∀(pins:qO) (s:aq) (σ:St) (H:Hp) (D:Ends),Inv X pins σ H s->t D σ H->wpAny (model X.prog X.w) X.A (execs st X.env) (SP X pins D) X.xe s
theorem thn{α:Type}{t:Sem α}{Q l:α->aq->Prop}{M:m7}{A:bq}{E:qV}{s:aq}(h:wpAny M A t Q E s)(u:∀a s,Q a s->l a s):wpAny M A t l E s:=c8 h u fun _ _ x=>x
section
variable{X:Cx}
def tVar(i:Nat):TE:=fun σ H Q=>∃v,σ[i]?=some (some v)/\Q v H
def tC(v:V):TE:=fun _ H Q=>Q v H
theorem QW{i:Nat}{x:Str}{pos:Pos}(L:X.N[i]?=some x)(R:Vis X.env.scope x)(hd:(x == ("__debug__":Str))=false:=by decide) (G:(x == ("__classdict__":Str))=false:=by decide):PE X (.Name x pos) (tVar i):=by
 intro pins s σ H Q I h;obtain⟨v,e,h⟩:=h;obtain⟨m,U,J⟩:=I.loc;obtain⟨u,r,l⟩:=J i x v L e R;have fin:EP X pins σ Q u s:=⟨v,H,I,r,h⟩;rcases l with⟨C,S⟩|⟨C,c,hc,y⟩
 ·exact o9 (lS I.ok.kind C U S fin) hd
 ·rcases C with C|C
  ·exact o9 (my I.ok.kind C hc y fin) hd
  ·exact o9 (wpAny_loadName_free I.ok.kind C hc y fin G) hd
theorem JD{i j pos}:PE X (.Constant (.int i) j pos) (tC (.int i)):=fun _ _ _ H _ I h=>wpAny_Constant_int ⟨.int i,H,I.tok _,⟨_,rfl⟩,h⟩
theorem zph{b j pos}:PE X (.Constant (.bool b) j pos) (tC (.bl b)):=fun _ _ _ H _ I h=>Constant_bool ⟨.bl b,H,I,rfl,h⟩
theorem zrW{j pos}:PE X (.Constant .none j pos) (tC .non):=fun _ _ _ H _ I h=>Constant_none ⟨.non,H,I,rfl,h⟩
theorem zrS{x j pos}:PE X (.Constant (.str x) j pos) (tC (.str x)):=fun _ _ _ H _ I h=>Calls.Constant_str ⟨.str x,H,I.tok _,⟨_,rfl⟩,h⟩
def Gl(X:Cx)(x:Str):Prop:=X.env.kindOf x=some .globalImplicit
theorem U1{E:qV}{pins:qO}{s:aq}{σ:St}{H:Hp}{x:Str}{u:ah}{pos:Pos}{Q:qV}(I:Inv X pins σ H s)(v:Gl X x)(l:X.mg x=some u)(h:Q u s)
  (hd:(x == ("__debug__":Str))=false:=by decide):wpAny (model X.prog X.w) X.A (eval (.Name x pos) X.env) Q E s :=
 fS I.ok.kind v (kJ (by rw[I.ok.glob];exact I.mod.glob.keeps I.bk) l h) hd
theorem Zf{E:qV}{pins:qO}{s:aq}{σ:St}{H:Hp}{x:Str}{u:ah}{pos:Pos}{Q:qV}(I:Inv X pins σ H s)(v:Gl X x)(G:X.mg x=none)(C:bootBuiltins x=some u)(h:Q u s)
  (J:x ≠ "__name__":=by decide) (hd:(x == ("__debug__":Str))=false:=by decide):wpAny (model X.prog X.w) X.A (eval (.Name x pos) X.env) Q E s:=by
 obtain⟨L,y,l⟩:=I.mod.blt;exact fS I.ok.kind v (Calls.loadGlobal_builtin (by rw[I.ok.glob];exact I.mod.glob.keeps I.bk) G (by rw[I.ok.blt];exact y.keeps I.bk) ((l x J).trans C) h) hd
theorem zpg{x:Str}{v:V}{u:ah}{pos:Pos}(C:Gl X x)(l:X.mg x=none)(G:bootBuiltins x=some u)(r:RelV v u)(y:x ≠ "__name__":=by decide) (hd:(x == ("__debug__":Str))=false:=by decide):PE X (.Name x pos) (tC v) :=
 fun _ _ _ H _ I h=>Zf I C l G ⟨v,H,I,r,h⟩ y hd
variable{a b:aX}{ta tb:TE}{pos:Pos}
def PC(X:Cx)(op:oC)(a b:aX)(t:TE):Prop :=
 ∀(pins:qO) (s:aq) (σ:St) (H:Hp) (Q:VK),Inv X pins σ H s->t σ H Q ->
  wpAny (model X.prog X.w) X.A (eval a X.env) (fun v l=>wpAny (model X.prog X.w) X.A (eval b X.env) (fun u x=>wpAny (model X.prog X.w) X.A (compareOp op v u) (EP X pins σ Q) X.xe x) X.xe l) X.xe s
def tB(t:TE):TT:=fun σ H Q=>t σ H fun x u=>∃c,x=.bl c/\Q c u
theorem zrF{op:oC}{t:TE}(h:PC X op a b t)(l:behindInMarks op b=false:=by first|exact nobehind _ (by decide) (by decide)|rfl):PT X (.Compare a [op] [b] pos) (tB t):=by
 intro pins s σ H Q I hw;refine lI (thn (h pins s σ H _ I hw) fun v s1 l=>thn l fun u s2 G=>thn G fun c s3 ⟨x,N,y,J,L⟩=>?_) l
 obtain⟨d,rfl,q⟩:=L;cases J;exact bW ⟨N,y,q⟩
variable{tA tB':TT}{rest:List aX}
def tAnd(t u:TT):TT:=fun σ H Q=>t σ H fun c l=>if c=true then u σ l Q else Q false l
def tOr(t u:TT):TT:=fun σ H Q=>t σ H fun c l=>if c=true then Q true l else u σ l Q
def tNot(t:TT):TT:=fun σ H Q=>t σ H fun c l=>Q (!c) l
theorem zo2(u:PT X a tA):PW X (.BoolOp .And [a] pos) tA:=by
 intro v pins s σ H Q I h;refine isTrue_and (thn (u pins s σ H Q I h) fun c s1 e=>?_)
 cases c with
 | true=>exact isTrue_and_nil e
 | false=>exact e
theorem zrA(u:PT X a tA):PW X (.BoolOp .Or [a] pos) tA:=by
 intro v pins s σ H Q I h;refine isTrue_or (thn (u pins s σ H Q I h) fun c s1 e=>?_)
 cases c with
 | false=>exact isTrue_or_nil e
 | true=>exact e
theorem zrB(y:PT X a tA)(C:PW X (.BoolOp .And (b::rest) pos) tB'):PW X (.BoolOp .And (a::b::rest) pos) (tAnd tA tB'):=by
 intro G pins s σ H Q I h;refine isTrue_and (thn (y pins s σ H _ I h) fun c s1 ⟨x,u,v⟩=>?_)
 cases c with
 | true=>exact C G pins s1 σ x Q u v
 | false=>exact⟨x,u,v⟩
theorem zvz(y:PT X a tA)(C:PW X (.BoolOp .Or (b::rest) pos) tB'):PW X (.BoolOp .Or (a::b::rest) pos) (tOr tA tB'):=by
 intro G pins s σ H Q I h;refine isTrue_or (thn (y pins s σ H _ I h) fun c s1 ⟨x,u,v⟩=>?_)
 cases c with
 | true=>exact⟨x,u,v⟩
 | false=>exact C G pins s1 σ x Q u v
theorem zrE(u:PT X a tA):PT X (.UnaryOp .Not a pos) (tNot tA):=by
 intro pins s σ H Q I h;exact isTrue_not (u pins s σ H (fun c l=>Q (!c) l) I h)
def zuY(ta tb:TE):TE:=fun σ H Q=>ta σ H fun x u=>∃c,x=.bl c/\if c=true then tb σ u Q else Q (.bl false) u
def tOrV(ta tb:TE):TE:=fun σ H Q=>ta σ H fun x u=>∃c,x=.bl c/\if c=true then Q (.bl true) u else tb σ u Q
def zuS(ta:TE):TE:=fun σ H Q=>ta σ H fun x u=>∃c,x=.bl c/\Q (.bl (!c)) u
theorem zrU{op}{t:TE}(h:PE X a t):PE X (.BoolOp op [a] pos) t:=fun pins s σ H Q I hw=>BoolOp_one (h pins s σ H Q I hw)
theorem zr0(J:PE X a ta)(L:PE X (.BoolOp .And (b::rest) pos) tb):PE X (.BoolOp .And (a::b::rest) pos) (zuY ta tb):=by
 intro pins s σ H Q I h;refine BoolOp_and (thn (J pins s σ H _ I h) fun v s1 ⟨x,C,y,G,u⟩=>?_)
 obtain⟨c,rfl,u⟩:=u;cases G;refine bW ?_;cases c with
 | true=>exact L pins s1 σ C Q y u
 | false=>exact⟨.bl false,C,y,rfl,u⟩
theorem zvB(J:PE X a ta)(L:PE X (.BoolOp .Or (b::rest) pos) tb):PE X (.BoolOp .Or (a::b::rest) pos) (tOrV ta tb):=by
 intro pins s σ H Q I h;refine BoolOp_or (thn (J pins s σ H _ I h) fun v s1 ⟨x,C,y,G,u⟩=>?_)
 obtain⟨c,rfl,u⟩:=u;cases G;refine bW ?_;cases c with
 | false=>exact L pins s1 σ C Q y u
 | true=>exact⟨.bl true,C,y,rfl,u⟩
theorem zrV(L:PE X a ta):PE X (.UnaryOp .Not a pos) (zuS ta):=by
 intro pins s σ H Q I h;refine UnaryOp_ (thn (L pins s σ H _ I h) fun v s1 ⟨x,G,C,J,u⟩=>?_)
 obtain⟨c,rfl,u⟩:=u;cases J;exact not_of (bW ⟨.bl (!c),G,C,rfl,u⟩)
def tIf(t:TT)(ta tb:TE):TE:=fun σ H Q=>t σ H fun c l=>if c=true then ta σ l Q else tb σ l Q
theorem znk{c:aX}(hc:PT X c tA)(y:PE X a ta)(C:PE X b tb):PE X (.IfExp c a b pos) (tIf tA ta tb):=by
 intro pins s σ H Q I h;refine wpAny_IfExp (thn (hc pins s σ H _ I h) fun d s1 ⟨v,l,u⟩=>?_)
 cases d with
 | true=>exact y pins s1 σ v Q l u
 | false=>exact C pins s1 σ v Q l u
end
def SqL(K:qF)(H:Hp)(a:ak)(xs:List V):Prop :=
 Rd H a (.lst xs) \/
  ∃(o:Obj) (u:Array ah) (n:Nat),K.lookup a=some o/\o.cls=.type "list" /\ o.dict=none/\o.data=.seq u n/\u.size<=sizeLine/\Vals xs u.toList
def SqT(K:qF)(H:Hp)(a:ak)(xs:List V):Prop :=
 Rd H a (.tup xs) \/
  ∃(o:Obj) (l:Array ah) (n:Nat),K.lookup a=some o/\o.cls=.type "tuple" /\ o.data=.seq l n/\l.size<=sizeLine/\Vals xs l.toList
def absV:ah->Option V
 | .none=>some .non
 | .bool b=>some (.bl b)
 | .int i _=>some (.int i)
 | .str x _=>some (.str x)
 | .bytes b _=>some (.byt b)
 | .float b _=>some (.flt b)
 | .ref a=>some (.ref a)
 | .type n=>some (.ty n)
 | _=>none
theorem RelV.abs{x:V}{u:ah}(r:RelV x u):absV u=some x:=by
 cases x with
 | non=>cases r;rfl
 | bl _=>cases r;rfl
 | int _=>obtain⟨t,rfl⟩:=r;rfl
 | str _=>obtain⟨t,rfl⟩:=r;rfl
 | byt _=>obtain⟨t,rfl⟩:=r;rfl
 | flt _=>obtain⟨t,rfl⟩:=r;rfl
 | ref _=>cases r;rfl
 | ty _=>cases r;rfl
theorem RelV.inj{x y:V}{u:ah}(r:RelV x u)(q:RelV y u):x=y:=aO (r.abs.symm.trans q.abs)
theorem Vals.inj{xs ys:List V}{l:List ah}(h:Vals xs l)(k:Vals ys l):xs=ys:=by
 induction h generalizing ys with
 | nil=>cases k;rfl
 | cons r t u =>
  cases k with
  | cons v t'=>rw[r.inj v,u t']
section
variable{X:Cx}{pins:qO}{σ:St}{H:Hp}{s:aq}{a:ak}{xs ys:List V}
theorem SqL.of{K:qF}(h:H a=some (.lst xs)):SqL K H a xs:=.inl (.inl h)
theorem Inv.list(I:Inv X pins σ H s)(h:SqL X.K H a xs):∃l:List ah,Vals xs l/\PlainL s.heap a l.toArray/\xs.length<=sizeLine:=by
 rcases h with h|⟨o,l,n,v,hc,hd,u,x,r⟩
 ·obtain⟨z,l,n,r,e⟩:=h.ok I.hok;exact⟨l,r,⟨_,n,e,rfl,rfl,rfl⟩,z⟩
 ·refine⟨l.toList,r,⟨o,n,I.kIn a o v,hc,hd,by simpa using u⟩,?_⟩
  have e:=r.length;simp only[cU]at e;lia
theorem Inv.tuple(I:Inv X pins σ H s)(h:SqT X.K H a xs):∃l:List ah,Vals xs l/\m5 s.heap a l.toArray/\xs.length<=sizeLine:=by
 rcases h with h|⟨o,l,n,v,hc,u,x,r⟩
 ·obtain⟨z,l,r,p⟩:=h.ok I.hok;exact⟨l,r,p.tup,z⟩
 ·refine⟨l.toList,r,⟨o,I.kIn a o v,hc,n,by simpa using u⟩,?_⟩
  have e:=r.length;simp only[cU]at e;lia
theorem Inv.list_inj(I:Inv X pins σ H s)(h:SqL X.K H a xs)(h':SqL X.K H a ys):xs=ys:=by
 obtain⟨l,r,⟨o,n,e,_,_,d⟩,_⟩:=I.list h;obtain⟨its',v,⟨x,y,u,_,_,d'⟩,_⟩:=I.list h';rw[e]at u;cases u;rw[d]at d'
 injection d' with d1 _
 have:l=its':=by simpa using congrArg aR d1
 subst this;exact r.inj v
theorem Inv.tuple_inj(I:Inv X pins σ H s)(h:SqT X.K H a xs)(h':SqT X.K H a ys):xs=ys:=by
 obtain⟨l,r,⟨o,e,_,n,d⟩,_⟩:=I.tuple h;obtain⟨its',v,⟨x,u,_,y,d'⟩,_⟩:=I.tuple h';rw[e]at u;cases u;rw[d]at d'
 injection d' with d1 _
 have:l=its':=by simpa using congrArg aR d1
 subst this;exact r.inj v
end
abbrev Cx.wish(X:Cx)(E:qV):Cx:={ X with xe:=E }
abbrev Cx.nox(X:Cx):Cx:=X.wish fun _ _=>False
theorem Cx.Ok.wish{X:Cx}(ok:X.Ok)(E:qV):(X.wish E).Ok :=
 ⟨ok.mod,ok.kind,ok.glob,ok.blt,ok.above,ok.inj,ok.has,ok.cab,ok.hd,ok.frames,ok.stk,ok.exf,ok.bs,ok.bsz,ok.noex,ok.exfs,ok.funs,ok.frf⟩
theorem Cx.Ok.unwish{X:Cx}{E:qV}(ok:(X.wish E).Ok):X.Ok :=
 ⟨ok.mod,ok.kind,ok.glob,ok.blt,ok.above,ok.inj,ok.has,ok.cab,ok.hd,ok.frames,ok.stk,ok.exf,ok.bs,ok.bsz,ok.noex,ok.exfs,ok.funs,ok.frf⟩
section
variable{X:Cx}{pins:qO}{σ:St}{H:Hp}{s:aq}{E:qV}
theorem Inv.wish(I:Inv X pins σ H s)(E:qV):Inv (X.wish E) pins σ H s:=⟨I.ok.wish E,I.os,I.bare,I.base,I.loc,I.cell,I.free,I.freeC,I.pin,I.hok,I.len⟩
theorem Inv.unwish(I:Inv (X.wish E) pins σ H s):Inv X pins σ H s:=⟨I.ok.unwish,I.os,I.bare,I.base,I.loc,I.cell,I.free,I.freeC,I.pin,I.hok,I.len⟩
theorem SP.unwish{D:Ends}{f:Flow}{s':aq}(h:SP (X.wish E) pins D f s'):SP X pins D f s':=by
 cases f with
 | next=>obtain⟨σ',l,I,q⟩:=h;exact⟨σ',l,I.unwish,q⟩
 | brk=>obtain⟨σ',l,I,q⟩:=h;exact⟨σ',l,I.unwish,q⟩
 | cont=>obtain⟨σ',l,I,q⟩:=h;exact⟨σ',l,I.unwish,q⟩
 | ret u=>obtain⟨v,σ',l,I,r,q⟩:=h;exact⟨v,σ',l,I.unwish,r,q⟩
theorem PSs.nox{st:List dG}{t:TS}(h:PSs X.nox st t):PSs X st t:=fun pins s σ H D I hw =>
 c8 (h pins s σ H D (I.wish _) hw) (fun _ _ q=>q.unwish) fun _ _ z=>cB z
end
section
variable{X:Cx}{st:dG}{rest:List dG}{t u:TS}{e:aX}{te:TE}{pos:Pos}
def zuT:TS:=fun D σ H=>D.nx σ H
def tSeq(t u:TS):TS:=fun D σ H=>t { D with nx:=u D } σ H
theorem zhY:PSs X [] zuT:=fun _ _ σ H _ I h=>fF ⟨σ,H,I,h⟩
theorem Qx(C:PS X st t)(x:PSs X rest u):PSs X (st::rest) (tSeq t u):=by
 intro pins s σ H D I h;refine kK (thn (C pins s σ H { D with nx:=u D } I h) fun f s1 q=>?_)
 cases f with
 | next =>
  obtain⟨σ',l,y,q⟩:=q;exact x pins s1 σ' l D y q
 | ret v=>exact q
 | brk=>exact q
 | cont=>exact q
theorem U2(l:PS X st t):PSs X [st] t:=by
 intro pins s σ H D I h;refine kK (thn (l pins s σ H D I h) fun f s1 q=>?_)
 cases f with
 | next=>exact fF q
 | ret v=>exact q
 | brk=>exact q
 | cont=>exact q
theorem Inv.quiet{pins:qO}{σ:St}{H:Hp}{s:aq}(I:Inv X pins σ H s):interactive X.env=false:=by simp[interactive,I.ok.kind]
def zuX(te:TE):TS:=fun D σ H=>te σ H fun _ l=>D.nx σ l
theorem zo6(C:PE X e te)(J:swapsWith e none pos.line X.env=pure false:=by rfl):PS X (.Expr e pos) (zuX te):=by
 intro pins s σ H D I h;exact pd (thn (C pins s σ H _ I h) fun v s1 ⟨x,G,l,L,y⟩=>⟨σ,G,l,y⟩) I.quiet J
def tRet(te:TE):TS:=fun D σ H=>te σ H D.rt
theorem Zl(C:PE X e te):PS X (.Return (some e) pos) (tRet te):=by
 intro pins s σ H D I h;exact wpAny_Return_some (thn (C pins s σ H _ I h) fun v s1 ⟨x,G,l,J,y⟩=>⟨x,σ,G,l,J,y⟩)
def tIfS(c:TT)(t u:TS):TS:=fun D σ H=>c σ H fun b l=>if b=true then t D σ l else u D σ l
theorem zo5{c:aX}{a b:List dG}{l:TT}(hc:PT X c l)(C:PSs X a t)(G:PSs X b u):PS X (.If c a b pos) (tIfS l t u):=by
 intro pins s σ H D I h;refine wpAny_If (thn (hc pins s σ H _ I h) fun d s1 ⟨y,v,x⟩=>?_)
 cases d with
 | true=>exact C pins s1 σ y D v x
 | false=>exact G pins s1 σ y D v x
end
abbrev TG:=V->St->Hp->(St->Hp->Prop)->Prop
abbrev TGs:=List V->St->Hp->(St->Hp->Prop)->Prop
def PG(X:Cx)(target:aX)(t:TG):Prop :=
 ∀(pins:qO) (s:aq) (σ:St) (H:Hp) (v:V) (u:ah) (Q:St->Hp->Prop),Inv X pins σ H s->RelV v u->t v σ H Q ->
  wpAny (model X.prog X.w) X.A (assign target X.env u) (fun _ s'=>∃σ' l,Inv X pins σ' l s'/\Q σ' l) X.xe s
def PGs(X:Cx)(ts:List aX)(t:TGs):Prop :=
 ∀(pins:qO) (s:aq) (σ:St) (H:Hp) (v:List V) (u:List ah) (Q:St->Hp->Prop),Inv X pins σ H s->Vals v u->t v σ H Q ->
  wpAny (model X.prog X.w) X.A (assignInOrder ((assignEach ts X.env).map (·.2)) u) (fun _ s'=>∃σ' l,Inv X pins σ' l s'/\Q σ' l) X.xe s
abbrev TSet:=V->V->V->Hp->(Hp->Prop)->Prop
def PSet(X:Cx)(t:TSet):Prop :=
 ∀(pins:qO) (s:aq) (σ:St) (H:Hp) (o i v:V) (y x u:ah) (Q:Hp->Prop),Inv X pins σ H s->RelV o y->RelV i x->RelV v u->t o i v H Q ->
  wpAny (model X.prog X.w) X.A (setItem y x u) (fun _ s'=>∃l,Inv X pins σ l s'/\Q l) X.xe s
abbrev TIp:=V->V->Hp->VK->Prop
def PIp(X:Cx)(op:pf)(t:TIp):Prop :=
 ∀(pins:qO) (s:aq) (σ:St) (H:Hp) (x y:V) (v u:ah) (Q:VK),Inv X pins σ H s->RelV x v->RelV y u->t x y H Q ->
  wpAny (model X.prog X.w) X.A (inplaceOp op v u) (EP X pins σ Q) X.xe s
section
variable{X:Cx}{pos:Pos}
def YS(i:Nat):TG:=fun v σ H Q=>Q (σ.set i (some v)) H
theorem VA{i:Nat}{x:Str}(y:X.N.Nodup)(hi:X.N[i]?=some x)(hx:Loc X.env.scope x)(hf:X.fn x=true\/X.env.scope.names.lookup x=some .local:=by walk_at "F"):PG X (.Name x pos) (YS i):=by
 intro pins s σ H v u Q I r h;exact m8 (U5 I y hi hx r (fun s' C=>⟨_,H,C,h⟩) hf)
def gNil:TGs:=fun l σ H Q=>l=[]/\Q σ H
def zwm(t:TG)(u:TGs):TGs:=fun x σ H Q=>∃v r,x=v::r/\t v σ H fun σ' l=>u r σ' l Q
theorem zkP:PGs X [] gNil:=by
 intro pins s σ H u l Q I r h;obtain⟨e,h⟩:=h;subst e;cases r;exact m9 ⟨σ,H,I,h⟩
theorem VS{e:aX}{l:List aX}{t:TG}{u:TGs}(G:PG X e t)(C:PGs X l u)
  (R:(assignEach (e::l) X.env).map (·.2)=assign e X.env::(assignEach l X.env).map (·.2):=by rfl):PGs X (e::l) (zwm t u):=by
 intro pins s σ H Z U Q I r h;obtain⟨v,Y,S,h⟩:=h;subst S;cases r with
 | cons r J =>
  rw[R];refine iW (thn (G pins s σ H _ _ _ I r h) fun _ s1 ⟨x,N,y,L⟩=>?_)
  exact C pins s1 x N _ _ Q y J L
def gTup(K:qF)(n:Nat)(t:TGs):TG:=fun v σ H Q=>∃a xs,v=.ref a/\SqT K H a xs/\xs.length=n/\t xs σ H Q
theorem zrQ{y:List aX}{k:Nat}{t:TGs}{n:Nat}(hc:X.calm=true)(h:PGs X y t)
  (U:(assignEach y X.env).length=n:=by rfl) (C:(assignEach y X.env).findIdx? (·.1)=none:=by rfl):PG X (.Tuple y k pos) (gTup X.K n t):=by
 intro pins s σ H v u Q I r hw;obtain⟨a,xs,Y,L,J,hw⟩:=hw;subst Y;cases r;obtain⟨R,G,S,Z⟩:=I.tuple L;refine assign_Tuple_tuple (I.ok.hd hc) S (by simp[U,<- J,G.length]) C fun h' hx=>?_
 have N:Inv X pins σ H { s with heap:=h' }:=I.kept (t':=s.toks) fun b o e=>hx b o (aL (aD e)) e
 exact h pins _ σ H xs _ Q N (by simpa using G) hw
def gSub(to ti:TE)(t:TSet):TG:=fun v σ H Q=>to σ H fun o l=>ti σ l fun i x=>t o i v x fun u=>Q σ u
theorem pg_sub{o i:aX}{to ti:TE}{t:TSet}(R:PE X o to)(hi:PE X i ti)(hs:PSet X t)
  (ha:∀v,assign (.Subscript o i pos) X.env v=(do
   let l <- holding [v] (eval o X.env)
   let C <- holding [v,l] (eval i X.env)
   standAt pos
   holding [v,l,C] (setItem l C v)
   release [v,l,C] []):=by intro _;rfl):PG X (.Subscript o i pos) (gSub to ti t):=by
 intro pins s σ H v u Q I r h;rw[ha];refine ae (cn (thn (R pins s σ H _ I h) fun l s1 ⟨x,H1,N,r1,q1⟩=>?_))
 refine ae (cn (thn (hi pins s1 σ H1 _ N q1) fun C s2 ⟨y,L,J,r2,U⟩=>?_))
 refine ae (dN (ae (cn (thn (hs pins s2 σ L x y v l C u _ J r1 r2 r U) fun _ s3 ⟨Y,Z,G⟩=>?_))))
 exact wpAny_release ⟨σ,Y,Z,G⟩
def tAsg(u:TE)(g:TG):TS:=fun D σ H=>u σ H fun x l=>g x σ l D.nx
theorem Zk{l e:aX}{u:TE}{g:TG}(y:PE X e u)(G:PG X l g)(S:swapsWithSole [l] e pos.line X.env=pure false:=by rfl)(hw:swappedStores [l] e X.env=pure none:=by rfl)
  (J:(assignEach [l] X.env).map (·.2)=[assign l X.env]:=by rfl):PS X (.Assign [l] e pos) (tAsg u g):=by
 intro pins s σ H D I h;refine wpAny_Assign_stores (thn (y pins s σ H _ I h) fun v s1 ⟨x,R,C,L,N⟩=>?_) S hw
 rw[J];exact thn (G pins s1 σ R x v _ C L N) fun _ s2 q=>q
theorem Qz{i:Nat}{x:Str}{e:aX}{C:TE}{u:Pos}(L:X.N.Nodup)(hi:X.N[i]?=some x)(hx:Loc X.env.scope x)(G:PE X e C)(Z:swapsWith e (some (.Name x u)) pos.line X.env=pure false:=by rfl)(hf:X.fn x=true\/X.env.scope.names.lookup x=some .local:=by walk_at "F") :
  PS X (.Assign [.Name x u] e pos) (tAsg C (YS i)):=by
 intro pins s σ H D I h;refine wpAny_Assign_Name (thn (G pins s σ H _ I h) fun v s1 ⟨y,Y,R,S,U⟩=>?_) Z
 exact U5 R L hi hx S (fun s2 J=>⟨_,Y,J,U⟩) hf
def tPar(i j:Nat)(u:TA):TS:=fun D σ H=>u σ H fun x l=>∃v w,x=[v,w]/\D.nx ((σ.set i (some v)).set j (some w)) l
theorem zrH{i j:Nat}{x y:Str}{a b:aX}{ta:TA}{R py pt:Pos}{kt k2 pt2}(hc:X.calm=true)(Z:X.N.Nodup)(hi:X.N[i]?=some x)(hj:X.N[j]?=some y)(S:i≠j)
  (hx:X.env.scope.names.lookup x=some .local) (hy:X.env.scope.names.lookup y=some .local) (ha:PA X [a,b] ta)
  (hw:swappedStores [.Tuple [.Name x R,.Name y py] kt pt] (.Tuple [a,b] k2 pt2) X.env=pure (some [x,y]))
  (hs:swapsWithSole [.Tuple [.Name x R,.Name y py] kt pt] (.Tuple [a,b] k2 pt2) pos.line X.env=pure false:=by rfl) :
  PS X (.Assign [.Tuple [.Name x R,.Name y py] kt pt] (.Tuple [a,b] k2 pt2) pos) (tPar i j ta):=by
 intro pins s σ H D I h;rw[exec_Assign_arm];refine ae (dN ?_);rw[hs];refine ae (aj ?_);rw[if_neg (by decide)]
 refine ae (Tuple_ (thn (ha _ pins s σ H _ I h) fun us s1 ⟨vs,H1,I1,r1,U⟩=>?_))
 obtain⟨v,w,e1,U⟩:=U;subst e1;obtain⟨G,C,rfl,rv,J⟩:∃G C,us=[G,C]/\RelV v G/\RelV w C:=by
  cases r1 with
  | cons p q =>
   cases q with
   | cons p' q' =>
    cases q';exact⟨_,_,rfl,p,p'⟩
 refine dm ?_ (by show 2<=sizeLine;decide)
 have I2:Inv X pins σ H1 { s1 with heap:=s1.heap.push { cls:=.type "tuple",data:=.seq [G,C].toArray } }:=I1.kept (t':=s1.toks) fun b o e=>av _ e
 rw[hw];refine ae (aj ?_);show wpAny (model X.prog X.w) X.A (do rule "assign.swapped-stores";let items <- unpackItems (.ref s1.heap.objs.size) 2 none;assignInOrder [fun v=>bindName X.env y v,fun v=>bindName X.env x v] items.reverse;pure yc) _ _ _
 refine ae (dq (ae (unpackItems_tuple (items:=#[G,C]) (I.ok.hd hc) (IsTup.new s1.heap _) fun h' L=>?_)))
 have I3:=I2.kept (h':=h') (t':=s1.toks) fun b o e=>L b o (aL (aD e)) e
 show wpAny _ _ (assignInOrder [fun v=>bindName X.env y v,fun v=>bindName X.env x v] [C,G] >>= fun _=>pure yc) _ _ _
 refine ae (iW (lT (U5 I3 Z hj (.inl hy) J (fun s2 I4=>?_) (.inr hy))))
 refine iW (lT (U5 I4 Z hi (.inl hx) rv (fun s3 Y=>m9 (aj ?_)) (.inr hx)))
 rw[List.set_comm _ _ (kS S)]at Y;exact⟨_,H1,Y,U⟩
def tAug(i:Nat)(u:TE)(ti:TIp):TS:=fun D σ H=>∃x,σ[i]?=some (some x)/\u σ H fun y l=>ti x y l fun z v=>D.nx (σ.set i (some z)) v
theorem zrJ{i:Nat}{x:Str}{e:aX}{U:TE}{op:pf}{ti:TIp}{R:Pos}(hN:X.N.Nodup)(hi:X.N[i]?=some x)(hx:Loc X.env.scope x)(Z:PE X e U)(ho:PIp X op ti)(hf:X.fn x=true\/X.env.scope.names.lookup x=some .local:=by walk_at "F") :
  PS X (.AugAssign (.Name x R) op e pos) (tAug i U ti):=by
 intro pins s σ H D I h;obtain⟨v,e1,h⟩:=h;obtain⟨m,hn,Y⟩:=I.loc;have S:Vis X.env.scope x:=by rcases hx with k|k;exact .inl k;exact .inr (.inl k)
 obtain⟨u,r,l⟩:=Y i x v hi e1 S;refine wpAny_AugAssign_Name ?_;have go:wpAny (model X.prog X.w) X.A (eval e X.env) (fun w J=>wpAny (model X.prog X.w) X.A (inplaceOp op u w) (fun r L=>wpAny (model X.prog X.w) X.A (storeName X.env x r) (fun _=>SP X pins D .next) X.xe L) X.xe J) X.xe s:=by
  refine thn (Z pins s σ H _ I h) fun w s1 ⟨y,H1,I1,r1,q1⟩=>?_
  refine thn (ho pins s1 σ H1 v y u w _ I1 r r1 q1) fun z s2 ⟨zv,H2,I2,r2,q2⟩=>?_
  exact U5 I2 hN hi hx r2 (fun s3 I3=>⟨_,H2,I3,q2⟩) hf
 rcases l with⟨C,hm⟩|⟨C,c,hc,G⟩
 ·exact lS I.ok.kind C hn hm go
 ·rcases C with C|C
  ·exact my I.ok.kind C hc G go
  ·rcases hx with k|k
   ·have:X.env.scope.names.lookup x=some .free:=C;rw[k]at this;cases this
   ·have:X.env.scope.names.lookup x=some .free:=C;rw[k]at this;cases this
def ipI(f:Int->Int->Int):TIp:=fun x y H Q=>∃i j,x=.int i/\y=.int j/\Q (.int (f i j)) H
theorem zoB:PIp X .Add (ipI fun i j=>i+j):=by
 intro pins s σ H x y v u Q I l C h;obtain⟨i,j,G,J,q⟩:=h;subst G;subst J;obtain⟨t,rfl⟩:=l;obtain⟨t',rfl⟩:=C;exact iadd_int ⟨.int _,H,I.tok _,⟨_,rfl⟩,q⟩
end
section
variable{X:Cx}{pos:Pos}
def zq2(c:TT)(x:TS):TS:=fun D σ H=>∃W:Nat->St->Hp->Prop,(∃m,W m σ H)/\∀m σ H,W m σ H ->
 c σ H fun b v=>if b=true then ∃N:St->Hp->Prop,(∀σ' l,N σ' l->∃u,u<m/\W u σ' l)/\x { D with nx:=N,ct:=N,bk:=D.nx } σ v else D.nx σ v
theorem zng{c:aX}{body:List dG}{Z:TT}{tb:TS}(Y:nY (model X.prog X.w) X.A X.env X.xe)(hc:PT X c Z)(hb:PSs X body tb):PS X (.While c body [] pos) (zq2 Z tb):=by
 intro pins s σ H D I h;obtain⟨W,⟨m0,w0⟩,turn⟩:=h;refine wpAny_While (codeAny_whileLoop (fun n s'=>∃σ' H',Inv X pins σ' H' s'/\W n σ' H') ?_ m0 ⟨σ,H,I,w0⟩)
 rintro n s1 ⟨x,H1,I1,w1⟩;refine eR Y (thn (hc pins s1 x H1 _ I1 (turn n x H1 w1)) fun b s2 ⟨H2,I2,G⟩=>?_)
 cases b with
 | true =>
  obtain⟨N,hN,G⟩:=G;rw[if_pos rfl];refine eR Y (thn (hb pins s2 x H2 _ I2 G) fun f s3 C=>?_)
  cases f with
  | next =>
   obtain⟨u,y,R,U⟩:=C;obtain⟨L,S,J⟩:=hN u y U;exact⟨L,S,u,y,R,J⟩
  | cont =>
   obtain⟨u,y,R,U⟩:=C;obtain⟨L,S,J⟩:=hN u y U;exact⟨L,S,u,y,R,J⟩
  | brk=>exact C
  | ret v=>exact C
 | false =>
  rw[if_neg bf];exact fF ⟨x,H2,I2,G⟩
end
structure It where
 go:Nat->Hp->Prop
 yld:Nat->Hp->V->Hp->Prop
 stop:Nat->Hp->Prop
def FpOk(X:Cx)(pins:qO)(H:Hp)(b:ak):Prop :=
 H b=none/\b≠X.env.locals/\b∉X.fs/\(b∈X.ex\/X.s₀.heap.objs.size<=b)/\(∀x c,X.env.cells.lookup x=some c->c≠b)/\∀p∈X.pn++pins,p.1≠b
theorem Inv.fpOk{X:Cx}{pins:qO}{σ:St}{H u:Hp}{s:aq}{b:ak}(I:Inv X pins σ H s)(l:s.heap.objs.size<=b)(C:u b=none):FpOk X pins u b:=by
 refine⟨C,nq (aF I.lt l),I.nofs l,.inr (cH I.sz l),fun x c e z=>?_,fun p y z=>?_⟩
 ·obtain⟨v,q⟩:=I.cell x c e;exact absurd (aF q.lt (by rw[z];exact l)) (gy _)
 ·exact absurd (aF (aD (I.pin p y).1) (by rw[z];exact l)) (gy _)
structure Turn(P:aK)(w:aW)(K:qF)(tg:aX)(J:It)(fp:List ak)(it:ak)(tn:Nat->aY->Prop):Prop where
 mem:it∈fp
 obj:∀i h,tn i h->∀b∈fp,∃o,h.get? b=some o/\∀v,o.data≠.cell v
 keep:∀i h h',tn i h->(∀b∈fp,∀o,h.get? b=some o->h'.get? b=some o)->tn i h'
 item:∀(X:Cx),X.prog=P->X.w=w->X.K=K->X.calm=true->∀(i:Nat) (pins:qO) (s:aq) (σ:St) (H:Hp) (E:qV),Inv X pins σ H s->(∀b∈fp,FpOk X pins H b)->tn i s.heap->J.go i H ->
  wpAny (model P w) X.A (pyNext (.ref it)) (fun r s1=>∃u,r=some u /\
   wpAny (model P w) X.A (letOwnedTupleGo tg (.ref it) u) (fun _ s2=>∃x H',Inv X pins σ H' s2/\RelV x u/\J.yld i H x H'/\tn (i+1) s2.heap/\∀b∈fp,H' b=none) E s1) E s
 done:∀(X:Cx),X.prog=P->X.w=w->X.K=K->X.calm=true->∀(i:Nat) (pins:qO) (s:aq) (σ:St) (H:Hp) (E:qV),Inv X pins σ H s->(∀b∈fp,FpOk X pins H b)->tn i s.heap->J.stop i H ->
  wpAny (model P w) X.A (pyNext (.ref it)) (fun r s1=>r=none/\Inv X pins σ H s1) E s
 self:∀(A:bq) (i:Nat) (s:aq) (Q:qV) (E:qV),tn i s.heap->Q (.ref it) s->wpAny (model P w) A (pyIter (.ref it)) Q E s
abbrev TI:=St->Hp->(It->Hp->Prop)->Prop
def PIE(X:Cx)(pins:qO)(σ:St)(y:aX)(R:It->Hp->Prop)(u:ah)(s2:aq):Prop :=
 ∃(it:ak) (v:List ak) (x:Nat->aY->Prop) (J:It) (l:Hp),u=.ref it/\Inv X pins σ l s2/\Turn X.prog X.w X.K y J v it x/\x 0 s2.heap/\(∀b∈v,FpOk X pins l b)/\R J l
def PI(X:Cx)(u iter:aX)(l:TI):Prop :=
 ∀(pins:qO) (s:aq) (σ:St) (H:Hp) (R:It->Hp->Prop),Inv X pins σ H s->l σ H R ->
  wpAny (model X.prog X.w) X.A (eval iter X.env) (fun v s1=>wpAny (model X.prog X.w) X.A (pyIter v) (PIE X pins σ u R) X.xe s1) X.xe s
theorem Z1{M:m7}{A:bq}{E:qV}{s:aq}{C:aX}{it:ak}{u:ah}{o:Obj}{n:String}{x:Array ah}{Q:Unit->aq->Prop}(G:s.heap.get? it=some o)(hc:o.cls=.type n)(hd:o.data=.fields x)
  (I:["enumerate","zip","dict_itemiterator","dict_reverseitemiterator","odict_iterator","itertools.zip_longest","itertools.pairwise"].contains n=false) (v:Q () s):wpAny M A (letOwnedTupleGo C (.ref it) u) Q E s:=by
 unfold letOwnedTupleGo;cases C <;> first
  | exact aj v
  | (cases u <;> first
    | exact aj v
    | (refine ae (wpAny_load G ?_)
       rw[hc,hd];show wpAny M A (if (["enumerate","zip","dict_itemiterator","dict_reverseitemiterator","odict_iterator","itertools.zip_longest","itertools.pairwise"].contains n&&x[0]? == some (rawInt _))=true then _ else _) Q E s
       rw[if_neg (by intro h;rw[I,cC]at h;cases h)]
       exact aj v))
def Itl(K:qF)(a:ak):It :=
 ⟨fun i H=>∃xs x,SqL K H a xs/\xs[i]?=some x,fun i H x l=>l=H/\∀xs,SqL K H a xs->xs[i]?=some x,fun i H=>∃xs,SqL K H a xs/\xs.length<=i⟩
def Itt(K:qF)(a:ak):It :=
 ⟨fun i H=>∃xs x,SqT K H a xs/\xs[i]?=some x,fun i H x l=>l=H/\∀xs,SqT K H a xs->xs[i]?=some x,fun i H=>∃xs,SqT K H a xs/\xs.length<=i⟩
def Itr(lo:Int)(n:Nat):It:=⟨fun i _=>i<n,fun i H x l=>l=H/\x=.int (lo+i),fun i _=>n<=i⟩
theorem zgj{P:aK}{w:aW}{K:qF}{tg:aX}(a it:ak):Turn P w K tg (Itl K a) [it] it (fun i h=>h.IsListIter it a i) where
 mem:=by simp
 obj:=fun i h st b l=>by
  have e:b=it:=by simpa using l
  subst e;obtain⟨o,e,c,d⟩:=st;exact⟨o,e,fun v z=>by rw[d]at z;cases z⟩
 keep:=fun i h h' st k=>st.at fun o e=>k it (by simp) o e
 item:=by
  intro X J hw N hc i pins s σ H E I hf st R;subst J hw N;obtain⟨xs,x,C,hx⟩:=R;obtain⟨S,U,p,Y⟩:=I.list C;obtain⟨u,hu,ru⟩:=U.get hx;obtain⟨f0,f1,f2,L,f4,G⟩:=hf it (by simp)
  refine wpAny_pyNext_list_item st p.isList (x:=u) (by simpa using hu) fun h' y Z=>?_
  have I1:Inv X pins σ H { s with heap:=h' }:=I.turned (t':=s.toks) (fun b o l e=>(Z.2 b l).trans e) f0 f1 L f4 G
  obtain⟨o,e,c,d⟩:=id y;exact⟨u,rfl,Z1 (s:={ s with heap:=h' }) e c d (by decide) ⟨x,H,I1,ru,⟨rfl,fun ys hy=>by rw[I.list_inj hy C];exact hx⟩,y,fun b l=>(hf b l).1⟩⟩
 done:=by
  intro X J hw N hc i pins s σ H E I hf st R;subst J hw N;obtain⟨xs,C,hx⟩:=R;obtain⟨S,U,p,Y⟩:=I.list C;obtain⟨f0,f1,f2,L,f4,G⟩:=hf it (by simp)
  have hl:=U.length;exact wpAny_pyNext_list_end (I.ok.hd hc) st p.isList (by simp;lia) fun h' eb=>⟨rfl,I.turned (t':=s.toks) (fun b o l e=>eb b o l e) f0 f1 L f4 G⟩
 self:=fun _ _ _ _ _ st h=>wpAny_pyIter_listiter st h
theorem zfd{P:aK}{w:aW}{K:qF}{tg:aX}(a it:ak):Turn P w K tg (Itt K a) [it] it (fun i h=>h.IsTupleIter it a i) where
 mem:=by simp
 obj:=fun i h st b y=>by
  have e:b=it:=by simpa using y
  subst e;obtain⟨o,e,c,d⟩:=st;exact⟨o,e,fun v z=>by rw[d]at z;cases z⟩
 keep:=fun i h h' st k=>st.at fun o e=>k it (by simp) o e
 item:=by
  intro X L hw R hc i pins s σ H E I hf st S;subst L hw R;obtain⟨xs,x,G,hx⟩:=S;obtain⟨l,U,p,Y⟩:=I.tuple G;obtain⟨u,hu,ru⟩:=U.get hx;obtain⟨f0,f1,f2,N,f4,J⟩:=hf it (by simp)
  refine wpAny_pyNext_tuple_item st (show s.heap.IsTuple a l.toArray from p) (x:=u) (by simpa using hu) fun h' C Z=>?_
  have I1:Inv X pins σ H { s with heap:=h' }:=I.turned (t':=s.toks) (fun b o y e=>(Z.2 b y).trans e) f0 f1 N f4 J
  obtain⟨o,e,c,d⟩:=id C;exact⟨u,rfl,Z1 (s:={ s with heap:=h' }) e c d (by decide) ⟨x,H,I1,ru,⟨rfl,fun ys hy=>by rw[I.tuple_inj hy G];exact hx⟩,C,fun b y=>(hf b y).1⟩⟩
 done:=by
  intro X L hw R hc i pins s σ H E I hf st S;subst L hw R;obtain⟨xs,G,hx⟩:=S;obtain⟨l,U,p,Y⟩:=I.tuple G;obtain⟨f0,f1,f2,N,f4,J⟩:=hf it (by simp)
  have hl:=U.length;exact wpAny_pyNext_tuple_end (I.ok.hd hc) st (show s.heap.IsTuple a l.toArray from p) (by simp;lia) fun h' eb=>⟨rfl,I.turned (t':=s.toks) (fun b o y e=>eb b o y e) f0 f1 N f4 J⟩
 self:=fun _ _ _ _ _ st h=>wpAny_pyIter_tupleiter st h
theorem zjG{P:aK}{w:aW}{K:qF}{R:aX}(it:ak)(lo:Int)(n:Nat):Turn P w K R (Itr lo n) [it] it (fun i h=>IsRangeIter h it (lo+(i:Nat)*1) ((n:Int) - (i:Nat)) 1) where
 mem:=by simp
 obj:=fun i h st b l=>by
  have e:b=it:=by simpa using l
  subst e;exact⟨_,st,fun v z=>by
   have U:Data.fields _=Data.cell v:=z;cases U⟩
 keep:=fun i h h' st k=>k it (by simp) _ st
 item:=by
  intro X y hw G hc i pins s σ H E I hf st J;subst y hw G;obtain⟨f0,f1,f2,C,f4,x⟩:=hf it (by simp)
  have W:=Walks.range (prog:=X.prog) (w:=X.w) (I.ok.hd hc) it lo 1 n;refine W.item i s _ _ J st fun v h' tk S u L=>?_
  obtain⟨t,rfl⟩:=S;have N:Inv X pins σ H { s with heap:=h',toks:=tk }:=I.turned (fun b o l e=>L b o (by simpa using l) e) f0 f1 C f4 x
  refine⟨_,rfl,Z1 (s:={ s with heap:=h',toks:=tk }) (n:="range_iterator") u rfl rfl (by decide) ⟨.int (lo+i),H,N,⟨t,?_⟩,⟨rfl,rfl⟩,u,fun b l=>(hf b l).1⟩⟩
  rw[oE]
 done:=by
  intro X y hw G hc i pins s σ H E I hf st J;subst y hw G;obtain⟨f0,f1,f2,C,f4,x⟩:=hf it (by simp)
  exact wpAny_pyNext_range_end (I.ok.hd hc) st (by have:n<=i:=J;lia) fun h' Y=>⟨rfl,I.turned (t':=s.toks) (fun b o l e=>Y b o l e) f0 f1 C f4 x⟩
 self:=fun _ _ _ _ _ st h=>wpAny_pyIter_rangeiter st h
section
variable{X:Cx}{tg:aX}
def zwj(K:qF)(u:TE):TI:=fun σ H R=>u σ H fun x l=>∃a,x=.ref a/\(∃xs,SqL K l a xs)/\R (Itl K a) l
def iTup(K:qF)(u:TE):TI:=fun σ H R=>u σ H fun x l=>∃a,x=.ref a/\(∃xs,SqT K l a xs)/\R (Itt K a) l
theorem zkO{l:aX}{y:TE}(C:PE X l y):PI X tg l (zwj X.K y):=by
 intro pins s σ H R I h;refine thn (C pins s σ H _ I h) fun v s1 ⟨x,U,u,L,S⟩=>?_
 obtain⟨a,e,⟨xs,G⟩,q⟩:=S;subst e;cases L;obtain⟨J,Z,p,Y⟩:=u.list G;refine gU p.isList ?_;refine⟨s1.heap.objs.size,[s1.heap.objs.size],_,_,U,rfl,u.kept (t':=s1.toks) fun b o e=>av _ e,zgj a _,⟨_,aI _ rfl,rfl,rfl⟩,fun b N=>?_,q⟩
 have e:b=s1.heap.objs.size:=by simpa using N
 subst e;exact u.fpOk (aC _) (u.hok.fresh (aC _))
theorem zrN{l:aX}{C:TE}(G:PE X l C):PI X tg l (iTup X.K C):=by
 intro pins s σ H R I h;refine thn (G pins s σ H _ I h) fun v s1 ⟨x,U,u,L,S⟩=>?_
 obtain⟨a,e,⟨xs,J⟩,q⟩:=S;subst e;cases L;obtain⟨y,Z,p,Y⟩:=u.tuple J;refine iX (show s1.heap.IsTuple a y.toArray from p) ?_
 refine⟨s1.heap.objs.size,[s1.heap.objs.size],_,_,U,rfl,u.kept (t':=s1.toks) fun b o e=>av _ e,zfd a _,⟨_,aI _ rfl,rfl,rfl⟩,fun b N=>?_,q⟩
 have e:b=s1.heap.objs.size:=by simpa using N
 subst e;exact u.fpOk (aC _) (u.hok.fresh (aC _))
theorem znd{pins:qO}{σ:St}{H:Hp}{s:aq}{R:It->Hp->Prop}{E:qV}{lo hi:Int}{t u v:Tok}{tk:Nat}(I:Inv X pins σ H s)(J:-(2 ^ 62)<=lo)(G:lo<2 ^ 62)(L:-(2 ^ 62)<=hi)(C:hi<2 ^ 62)
  (q:R (Itr lo (hi - lo).toNat) H):wpAny (model X.prog X.w) X.A (pyIter (.ref s.heap.objs.size)) (PIE X pins σ tg R) E { s with heap:=s.heap.push { cls:=.type "range",data:=.fields #[.int lo t,.int hi u,.int 1 v] },toks:=tk }:=by
 refine wpAny_pyIter_range (IsRange.new ..) (small_one J G L C) ?_;have x:Inv X pins σ H { s with heap:=s.heap.push { cls:=.type "range",data:=.fields #[.int lo t,.int hi u,.int 1 v] },toks:=tk }:=I.kept fun b o e=>av _ e
 refine⟨(s.heap.push { cls:=.type "range",data:=.fields #[.int lo t,.int hi u,.int 1 v] }).objs.size,[(s.heap.push { cls:=.type "range",data:=.fields #[.int lo t,.int hi u,.int 1 v] }).objs.size],_,_,H,rfl,
  x.kept (t':=tk) fun b o e=>av _ e,zjG _ lo (hi - lo).toNat,?_,fun b S=>?_,q⟩
 ·have U:lo+((0:Nat):Int)*1=lo:=by simp
  have Y:(((hi - lo).toNat:Nat):Int) - ((0:Nat):Int)=sV lo hi 1:=by rw[rangeSize_one];split <;> lia
  show IsRangeIter _ _ (lo+((0:Nat):Int)*1) ((((hi - lo).toNat:Nat):Int) - ((0:Nat):Int)) 1
  rw[U,Y];exact aI _ rfl
 ·have e:b=(s.heap.push { cls:=.type "range",data:=.fields #[.int lo t,.int hi u,.int 1 v] }).objs.size:=by simpa using S
  subst e;exact x.fpOk (aC _) (x.hok.fresh (aC _))
def zwi(u:TA):TI:=fun σ H R=>u σ H fun v l=>∃j:Int,v=[.int j]/\-(2 ^ 62)<=j/\j<2 ^ 62/\R (Itr 0 j.toNat) l
theorem zkN{a:aX}{v:TA}{p pos:Pos}(G:Gl X "range") (J:X.mg "range" = none) (U:PA X [a] v) (Y:starEach [a] X.env=[(false,eval a X.env)]:=by rfl):PI X tg (.Call (.Name "range" p) [a] [] pos) (zwi v):=by
 intro pins s σ H R I h;refine Call_ (Zf I G J boot_range (fO (thn (U pos pins s σ H _ I h) fun Z s1 ⟨vs,H1,x,S,u⟩=>?_) Y rfl))
 obtain⟨j,e,u,y,q⟩:=u;subst e;cases S with
 | cons r L =>
  cases L;obtain⟨t,rfl⟩:=r;exact call_range_1 (znd x (by lia) (by lia) u y (by simpa using q))
def tFor(C:TI)(g:TG)(G:TS):TS:=fun D σ H=>C σ H fun J y=>∃W:Nat->Nat->St->Hp->Prop,(∃m,W 0 m σ y)/\∀i m σ H,W i m σ H ->
 (J.stop i H/\D.nx σ H)\/(J.go i H/\∃N:St->Hp->Prop,(∀σ' l,N σ' l->∃v,v<m/\W (i+1) v σ' l)/\∀x l,J.yld i H x l->g x σ l fun u I=>G { D with nx:=N,ct:=N,bk:=D.nx } u I)
def Zj(l:List ak)(h:aY):List (ak×Obj):=l.filterMap fun b=>(h.get? b).map fun o=>(b,o)
theorem V4{l:List ak}{h:aY}{b:ak}{o:Obj}(u:b∈l)(e:h.get? b=some o):(b,o)∈Zj l h:=fA.mpr ⟨b,u,by rw[e];rfl⟩
theorem zk8{l:List ak}{h:aY}{p:ak×Obj}(u:p∈Zj l h):p.1∈l/\h.get? p.1=some p.2:=by
 obtain⟨b,x,e⟩:=fA.mp u;cases q:h.get? b with
 | none=>rw[q]at e;cases e
 | some o =>
  rw[q]at e;have v:(b,o)=p:=aO e;subst v;exact⟨x,q⟩
theorem Inv.pinned{pins:qO}{σ:St}{H:Hp}{s:aq}{u:List ak}(I:Inv X pins σ H s)(hf:∀b∈u,FpOk X pins H b)(G:∀b∈u,∃o,s.heap.get? b=some o/\∀v,o.data≠.cell v):Inv X (pins++Zj u s.heap) σ H s :=
 I.pins_of fun p C=>(aw.mp C).elim (fun z=>I.pin p (bY _ z)) fun z=>by
  obtain⟨y,e⟩:=zk8 z;obtain⟨f0,f1,f2,_⟩:=hf p.1 y;obtain⟨o,x,d⟩:=G p.1 y;rw[e]at x;cases x;exact⟨e,f0,f1,f2,d⟩
theorem Inv.unpinned{pins pl:qO}{σ:St}{H:Hp}{s:aq}(I:Inv X (pins++pl) σ H s):Inv X pins σ H s:=I.pins_of fun p l=>I.pin p (bY _ (lR _ l))
theorem zrI{iter:aX}{body:List dG}{wi:TI}{g:TG}{tb:TS}{pos:Pos}(Y:nY (model X.prog X.w) X.A X.env X.xe)(hc:X.calm=true)(hi:PI X tg iter wi)(hg:PG X tg g)(L:PSs X body tb)
  (hs:∀x,foldedSetIterable iter X.env x=pure x:=by intro _;rfl):PS X (.For tg iter body [] pos) (tFor wi g tb):=by
 intro pins s σ H D I h;refine wpAny_For (thn (hi pins s σ H _ I h) fun v s1 h1=>thn h1 fun itv s2 h2=>?_) hs
 obtain⟨it,Z,tn,J,H2,e,I2,T,st2,f2,W,⟨m0,w0⟩,turn⟩:=h2;subst e;have II:∀{R:Hp},(∀b∈Z,R b=none)->∀b∈Z,FpOk X pins R b:=fun hn b L=>⟨hn b L,(f2 b L).2⟩
 refine codeAny_forLoop_any (fun n s'=>∃i σ' R,Inv X pins σ' R s'/\tn i s'.heap/\(∀b∈Z,R b=none)/\W i n σ' R) ?_ m0 ⟨0,σ,H2,I2,st2,fun b L=>(f2 b L).1,w0⟩
 rintro n s3 ⟨i,y,H3,I3,st3,fr3,w3⟩;rcases turn i n y H3 w3 with⟨stop,qn⟩|⟨go,N,hN,step⟩
 ·refine eR Y (thn (T.done X rfl rfl rfl hc i pins s3 y H3 X.xe I3 (II fr3) st3 stop) fun r s4 ⟨hr,I4⟩=>?_)
  subst hr;exact fF ⟨y,H3,I4,qn⟩
 ·refine eR Y (thn (T.item X rfl rfl rfl hc i pins s3 y H3 X.xe I3 (II fr3) st3 go) fun r s4 ⟨u,hr,h4⟩=>?_)
  subst hr;refine eR Y (thn h4 fun _ s5 ⟨x,H5,I5,r5,y5,U,fr5⟩=>?_)
  have I5':=I5.pinned (II fr5) (T.obj _ _ U);refine eR Y (thn (hg _ s5 y H5 x u _ I5' r5 (step x H5 y5)) fun _ s6 ⟨σ6,H6,I6,q6⟩=>?_)
  refine eR Y (thn (L _ s6 σ6 H6 _ I6 q6) fun f s7 S=>?_)
  have again:∀{l:St} {G:Hp},Inv X (pins++Zj Z s5.heap) l G s7->N l G->∃m,m<n/\∃i σ' R,Inv X pins σ' R s7/\tn i s7.heap/\(∀b∈Z,R b=none)/\W i m σ' R:=fun {l G} C n7=>by
   obtain⟨m',hm,w7⟩:=hN l G n7;refine⟨m',hm,i+1,l,G,C.unpinned,T.keep _ _ _ U fun b L o e=>(C.pin (b,o) (bY _ (bY _ (V4 L e)))).1,fun b L=>?_,w7⟩
   obtain⟨o,e,d⟩:=T.obj _ _ U b L;exact(C.pin (b,o) (bY _ (bY _ (V4 L e)))).2.1
  cases f with
  | next=>obtain⟨l,G,C,n7⟩:=S;exact again C n7
  | cont=>obtain⟨l,G,C,n7⟩:=S;exact again C n7
  | brk=>obtain⟨l,G,C,S⟩:=S;exact⟨l,G,C.unpinned,S⟩
  | ret v=>obtain⟨x7,l,G,C,r7,S⟩:=S;exact⟨x7,l,G,C.unpinned,r7,S⟩
end
abbrev R2:=V->V->Hp->VK->Prop
def OpR(X:Cx)(f:ah->ah->Sem ah)(r:R2):Prop :=
 ∀(pins:qO) (s:aq) (σ:St) (H:Hp) (x y:V) (v u:ah) (Q:VK),Inv X pins σ H s->RelV x v->RelV y u->r x y H Q ->
  wpAny (model X.prog X.w) X.A (f v u) (EP X pins σ Q) X.xe s
def UnR(X:Cx)(f:ah->Sem ah)(r:V->Hp->VK->Prop):Prop :=
 ∀(pins:qO) (s:aq) (σ:St) (H:Hp) (x:V) (v:ah) (Q:VK),Inv X pins σ H s->RelV x v->r x H Q ->
  wpAny (model X.prog X.w) X.A (f v) (EP X pins σ Q) X.xe s
def JU(X:Cx)(f:ah)(r:List V->Hp->VK->Prop):Prop :=
 ∀(pins:qO) (s:aq) (σ:St) (H:Hp) (xs:List V) (l:List ah) (Q:VK),Inv X pins σ H s->Vals xs l->r xs H Q ->
  wpAny (model X.prog X.w) X.A (call f l) (EP X pins σ Q) X.xe s
def TruR(X:Cx)(r:V->Hp->(Bool->Hp->Prop)->Prop):Prop :=
 ∀(pins:qO) (s:aq) (σ:St) (H:Hp) (x:V) (v:ah) (Q:Bool->Hp->Prop),Inv X pins σ H s->RelV x v->r x H Q ->
  wpAny (model X.prog X.w) X.A (truthy v) (TP X pins σ Q) X.xe s
def tOp(r:R2)(v u:TE):TE:=fun σ H Q=>v σ H fun x l=>u σ l fun y C=>r x y C Q
def tUn(r:V->Hp->VK->Prop)(u:TE):TE:=fun σ H Q=>u σ H fun x l=>r x l Q
def rI(C:Int->Int->Prop)(g:Int->Int->V):R2:=fun x y H Q=>∃i j,x=.int i/\y=.int j/\C i j/\Q (g i j) H
def rI0(g:Int->Int->V):R2:=fun x y H Q=>∃i j,x=.int i/\y=.int j/\Q (g i j) H
def rU(g:Int->V):V->Hp->VK->Prop:=fun x H Q=>∃i,x=.int i/\Q (g i) H
section
variable{X:Cx}{a b c:aX}{ta tb tc:TE}{pos:Pos}
theorem binT(Z:PE X a ta)(hb:PE X b tb){pins:qO}{s:aq}{σ:St}{H:Hp}{R:V->V->Hp->Prop}(I:Inv X pins σ H s)
  (h:ta σ H fun x J=>tb σ J fun y l=>R x y l) {Q:qV} {f:ah->ah->Sem ah}
  (hf:∀v u s2 x y l,Inv X pins σ l s2->RelV x v->RelV y u->R x y l->wpAny (model X.prog X.w) X.A (f v u) Q X.xe s2) :
  wpAny (model X.prog X.w) X.A (eval a X.env) (fun v G=>wpAny (model X.prog X.w) X.A (eval b X.env) (fun u C=>wpAny (model X.prog X.w) X.A (f v u) Q X.xe C) X.xe G) X.xe s:=by
 refine thn (Z pins s σ H _ I h) fun v s1 ⟨x,J,N,U,q1⟩=>?_
 refine thn (hb pins s1 σ J _ N q1) fun u s2 ⟨y,l,L,Y,S⟩=>?_
 exact hf v u s2 x y l L U Y S
theorem JA{op:pf}{r:R2}(G:OpR X (binaryOp op) r)(J:PE X a ta)(L:PE X b tb):PE X (.BinOp a op b pos) (tOp r ta tb):=by
 intro pins s σ H Q I h;exact wpAny_BinOp (binT J L I h fun v u s2 x y C l R N q=>G pins s2 σ C x y v u Q l R N q)
theorem zvA{op:UnaryOp}{r:V->Hp->VK->Prop}(u:UnR X (unaryOp op) r)(L:PE X a ta):PE X (.UnaryOp op a pos) (tUn r ta):=by
 intro pins s σ H Q I h;exact UnaryOp_ (thn (L pins s σ H _ I h) fun v s1 ⟨x,G,l,J,C⟩=>u pins s1 σ G x v Q l J C)
theorem opI{f:ah->ah->Sem ah}{C:Int->Int->Prop}{g:Int->Int->Int}
  (rule:∀(i j:Int) (t u:Tok) (s:aq) (Q:qV) (E:qV),C i j->Q (.int (g i j) s.toks) { s with toks:=s.toks+1 }->wpAny (model X.prog X.w) X.A (f (.int i t) (.int j u)) Q E s) :
  OpR X f (rI C fun i j=>.int (g i j)):=by
 intro pins s σ H x y v u Q I G l h;obtain⟨i,j,rfl,rfl,hc,q⟩:=h;obtain⟨t,rfl⟩:=G;obtain⟨t',rfl⟩:=l;exact rule i j t t' s _ _ hc ⟨.int (g i j),H,I.tok _,⟨_,rfl⟩,q⟩
theorem opI0{f:ah->ah->Sem ah}{g:Int->Int->Int}
  (rule:∀(i j:Int) (t u:Tok) (s:aq) (Q:qV) (E:qV),Q (.int (g i j) s.toks) { s with toks:=s.toks+1 }->wpAny (model X.prog X.w) X.A (f (.int i t) (.int j u)) Q E s) :
  OpR X f (rI0 fun i j=>.int (g i j)):=by
 intro pins s σ H x y v u Q I C l h;obtain⟨i,j,rfl,rfl,q⟩:=h;obtain⟨t,rfl⟩:=C;obtain⟨t',rfl⟩:=l;exact rule i j t t' s _ _ ⟨.int (g i j),H,I.tok _,⟨_,rfl⟩,q⟩
theorem opB0{f:ah->ah->Sem ah}{g:Int->Int->Bool}
  (rule:∀(i j:Int) (t u:Tok) (s:aq) (Q:qV) (E:qV),Q (.bool (g i j)) s->wpAny (model X.prog X.w) X.A (f (.int i t) (.int j u)) Q E s) :
  OpR X f (rI0 fun i j=>.bl (g i j)):=by
 intro pins s σ H x y v u Q I G C h;obtain⟨i,j,rfl,rfl,q⟩:=h;obtain⟨t,rfl⟩:=G;obtain⟨t',rfl⟩:=C;exact rule i j t t' s _ _ ⟨.bl (g i j),H,I,rfl,q⟩
def CPow(i j:Int):Prop:=0<=j/\j<=1000000/\i.natAbs<2 ^ 64
def CMul(i j:Int):Prop:=(-(2 ^ 64)<i/\i<2 ^ 64)\/(-(2 ^ 64)<j/\j<2 ^ 64)
theorem CMul.ok{i j:Int}(h:CMul i j):IntMulOk i j:=by
 rcases h with⟨v,u⟩|⟨v,u⟩
 ·exact .of_left (intBits_le_64 v u)
 ·exact .of_right (intBits_le_64 v u)
theorem zjF(k:Nat):(0:Int)<=2 ^ k:=by
 rw[two_pow_cast];exact iY _
theorem Q4:OpR X (binaryOp .Add) (rI0 fun i j=>.int (i+j)):=opI0 fun _ _ _ _ _ _ _ q=>add_int q
theorem zr4:OpR X (binaryOp .Sub) (rI0 fun i j=>.int (i - j)):=opI0 fun _ _ _ _ _ _ _ q=>sub_int q
theorem QV:OpR X (binaryOp .Mult) (rI CMul fun i j=>.int (i*j)):=opI fun _ _ _ _ _ _ _ hc q=>mul_int q hc.ok
theorem UP:OpR X (binaryOp .Mod) (rI (fun _ j=>0<j) fun i j=>.int (i % j)):=opI fun i j _ _ _ _ _ hc q=>by
 have l:(0:Int)<j:=hc;exact mod_int' (by lia) (by rw[Int.fmod_eq_emod_of_nonneg i (by lia)];exact q)
theorem zr7:OpR X (binaryOp .Pow) (rI CPow fun i j=>.int (i ^ j.toNat)):=opI fun _ _ _ _ _ _ _ hc q=>pow_int_small hc.1 hc.2.1 hc.2.2 q
theorem zr6:OpR X (binaryOp .LShift) (rI CPow fun i j=>.int (i*2 ^ j.toNat)):=opI fun _ _ _ _ _ _ _ hc q=>lshift_int_small hc.1 hc.2.1 hc.2.2 q
theorem zr5:OpR X (binaryOp .RShift) (rI (fun _ j=>0<=j) fun i j=>.int (i / 2 ^ j.toNat)):=opI fun i j _ _ _ _ _ hc q =>
 rshift_int hc (by rw[iZ i (zjF _)];exact q)
theorem zsg:OpR X (binaryOp .BitAnd) (rI0 fun i j=>.int (fT i j)):=opI0 fun _ _ _ _ _ _ _ q=>and_int q
theorem zr3:OpR X (binaryOp .BitXor) (rI0 fun i j=>.int (fg i j)):=opI0 fun _ _ _ _ _ _ _ q=>xor_int q
theorem unI{f:ah->Sem ah}{g:Int->Int}
  (rule:∀(i:Int) (t:Tok) (s:aq) (Q:qV) (E:qV),Q (.int (g i) s.toks) { s with toks:=s.toks+1 }->wpAny (model X.prog X.w) X.A (f (.int i t)) Q E s) :
  UnR X f (rU fun i=>.int (g i)):=by
 intro pins s σ H x v Q I l h;obtain⟨i,rfl,q⟩:=h;obtain⟨t,rfl⟩:=l;exact rule i t s _ _ ⟨.int (g i),H,I.tok _,⟨_,rfl⟩,q⟩
theorem zqZ:UnR X (unaryOp .USub) (rU fun i=>.int (-i)):=unI fun _ _ _ _ _ q=>neg_int q
end
def scal:V->V->Bool
 | .non,.non=>true|.non,.int _=>true|.int _,.non=>true|.non,.bl _=>true|.bl _,.non=>true|.non,.str _=>true|.str _,.non=>true
 | .int _,.int _=>true|.bl _,.bl _=>true|.str _,.str _=>true|.byt _,.byt _=>true
 | .int _,.str _=>true|.str _,.int _=>true|.bl _,.str _=>true|.str _,.bl _=>true
 | _,_=>false
def rEq:R2:=fun x y H Q=>scal x y=true/\Q (.bl (decide (x=y))) H
def rNe:R2:=fun x y H Q=>scal x y=true/\Q (.bl (!decide (x=y))) H
theorem zl7{i j:Int}:decide (V.int i=V.int j)=(i == j):=by
 rw[fG];simp
theorem zoN{i j:Bool}:decide (V.bl i=V.bl j)=(i == j):=by
 rw[fG];simp
theorem zl6{i j:Str}:decide (V.str i=V.str j)=(i == j):=by
 rw[fG];simp
theorem zl8{i j:Array UInt8}:decide (V.byt i=V.byt j)=(i.toList == j.toList):=by
 rw[fG];cases i;cases j;simp
section
variable{X:Cx}{a b c:aX}{ta tb tc:TE}{pos:Pos}
theorem Js{pins:qO}{σ:St}{H:Hp}{s:aq}{Q:VK}{k u:Bool}(I:Inv X pins σ H s)(q:Q (.bl k) H)(e:k=u):EP X pins σ Q (.bool u) s:=by
 subst e;exact⟨.bl k,H,I,rfl,q⟩
theorem zvG:OpR X (compareOp .Eq) rEq:=by
 intro pins s σ H x y v u Q I G l h;obtain⟨C,q⟩:=h;cases x with
 | non =>
  cases G;cases y with
  | non=>cases l;exact rf (Js I q (by simp))
  | bl j=>cases l;exact rg (Js I q (by simp))
  | int j=>obtain⟨t',rfl⟩:=l;exact rR (Js I q (by simp))
  | str j=>obtain⟨t',rfl⟩:=l;exact rS (Js I q (by simp))
  | _=>exact absurd (show false=true from C) bf
 | bl i =>
  cases G;cases y with
  | non=>cases l;exact rh (Js I q (by simp))
  | bl j=>cases l;exact eq_bool (Js I q zoN)
  | str j=>obtain⟨t',rfl⟩:=l;exact rm (Js I q (by simp))
  | _=>exact absurd (show false=true from C) bf
 | int i =>
  obtain⟨t,rfl⟩:=G;cases y with
  | non=>cases l;exact rT (Js I q (by simp))
  | int j=>obtain⟨t',rfl⟩:=l;exact eq_int (Js I q zl7)
  | str j=>obtain⟨t',rfl⟩:=l;exact rV (Js I q (by simp))
  | _=>exact absurd (show false=true from C) bf
 | str i =>
  obtain⟨t,rfl⟩:=G;cases y with
  | non=>cases l;exact rW (Js I q (by simp))
  | bl j=>cases l;exact rn (Js I q (by simp))
  | int j=>obtain⟨t',rfl⟩:=l;exact rX (Js I q (by simp))
  | str j=>obtain⟨t',rfl⟩:=l;exact eq_str (Js I q zl6)
  | _=>exact absurd (show false=true from C) bf
 | byt i =>
  obtain⟨t,rfl⟩:=G;cases y with
  | byt j=>obtain⟨t',rfl⟩:=l;exact PySem.W.eq_bytes (Js I q zl8)
  | _=>exact absurd (show false=true from C) bf
 | _=>cases y <;> exact absurd (show false=true from C) bf
theorem zvE:OpR X (compareOp .NotEq) rNe:=by
 intro pins s σ H x y v u Q I G l h;obtain⟨C,q⟩:=h;cases x with
 | non =>
  cases G;cases y with
  | non=>cases l;exact rq (Js I q (by simp))
  | bl j=>cases l;exact rC (Js I q (by simp))
  | int j=>obtain⟨t',rfl⟩:=l;exact rY (Js I q (by simp))
  | str j=>obtain⟨t',rfl⟩:=l;exact rZ (Js I q (by simp))
  | _=>exact absurd (show false=true from C) bf
 | bl i =>
  cases G;cases y with
  | non=>cases l;exact rD (Js I q (by simp))
  | bl j=>cases l;exact ne_bool (Js I q (congrArg not zoN))
  | str j=>obtain⟨t',rfl⟩:=l;exact rE (Js I q (by simp))
  | _=>exact absurd (show false=true from C) bf
 | int i =>
  obtain⟨t,rfl⟩:=G;cases y with
  | non=>cases l;exact r8 (Js I q (by simp))
  | int j=>obtain⟨t',rfl⟩:=l;exact ne_int (Js I q (congrArg not zl7))
  | str j=>obtain⟨t',rfl⟩:=l;exact se (Js I q (by simp))
  | _=>exact absurd (show false=true from C) bf
 | str i =>
  obtain⟨t,rfl⟩:=G;cases y with
  | non=>cases l;exact sg (Js I q (by simp))
  | bl j=>cases l;exact rF (Js I q (by simp))
  | int j=>obtain⟨t',rfl⟩:=l;exact si (Js I q (by simp))
  | str j=>obtain⟨t',rfl⟩:=l;exact ne_str (Js I q (congrArg not zl6))
  | _=>exact absurd (show false=true from C) bf
 | byt i =>
  obtain⟨t,rfl⟩:=G;cases y with
  | byt j=>obtain⟨t',rfl⟩:=l;exact PySem.W.ne_bytes (Js I q (congrArg not zl8))
  | _=>exact absurd (show false=true from C) bf
 | _=>cases y <;> exact absurd (show false=true from C) bf
theorem zr_:OpR X (compareOp .Lt) (rI0 fun i j=>.bl (decide (i<j))):=opB0 fun _ _ _ _ _ _ _ q=>lt_int q
theorem zvF:OpR X (compareOp .LtE) (rI0 fun i j=>.bl (decide (i<=j))):=opB0 fun _ _ _ _ _ _ _ q=>le_int q
theorem Z0:OpR X (compareOp .Gt) (rI0 fun i j=>.bl (decide (j<i))):=opB0 fun _ _ _ _ _ _ _ q=>gt_int q
theorem zsd:OpR X (compareOp .GtE) (rI0 fun i j=>.bl (decide (j<=i))):=opB0 fun _ _ _ _ _ _ _ q=>ge_int q
theorem zkY:OpR X (compareOp .Lt) (fun x y H Q=>∃i j,x=.str i/\y=.str j/\Q (.bl (decide (i.cps.toList<j.cps.toList))) H):=by
 intro pins s σ H x y v u Q I G C h;obtain⟨i,j,rfl,rfl,q⟩:=h;obtain⟨t,rfl⟩:=G;obtain⟨t',rfl⟩:=C;exact lt_str (Js I q rfl)
theorem zsa:OpR X (compareOp .Is) (fun x y H Q=>y=.non/\Q (.bl (decide (x=.non))) H):=by
 intro pins s σ H x y v u Q I C G h;obtain⟨rfl,q⟩:=h;cases G;refine is_none_gen (Js I q ?_);cases x <;> first
  | (cases C;rfl)
  | (obtain⟨t,rfl⟩:=C;rfl)
theorem zpl:OpR X (compareOp .IsNot) (fun x y H Q=>y=.non/\Q (.bl (!decide (x=.non))) H):=by
 intro pins s σ H x y v u Q I C G h;obtain⟨rfl,q⟩:=h;cases G;refine isnot_none_gen (Js I q ?_);cases x <;> first
  | (cases C;rfl)
  | (obtain⟨t,rfl⟩:=C;rfl)
theorem OpR.or{f:ah->ah->Sem ah}{r G:R2}(h:OpR X f r)(h':OpR X f G):OpR X f (fun x y H Q=>r x y H Q\/G x y H Q):=by
 intro pins s σ H x y v u Q I C l q;rcases q with q|q
 ·exact h pins s σ H x y v u Q I C l q
 ·exact h' pins s σ H x y v u Q I C l q
theorem Jh(b:aX){op:oC}(h:op≠.In:=by decide)(l:op≠.NotIn:=by decide):behindInMarks op b=false:=by
 have u:(op == CmpOp.In)=false:=by cases op <;> first|rfl|exact absurd rfl h
 have v:(op == CmpOp.NotIn)=false:=by cases op <;> first|rfl|exact absurd rfl l
 cases b <;> simp[behindInMarks,u,v]
theorem zkS{op:oC}{r:R2}(J:OpR X (compareOp op) r)(N:PE X a ta)(R:PE X b tb)(L:behindInMarks op b=false):PE X (.Compare a [op] [b] pos) (tOp r ta tb):=by
 intro pins s σ H Q I h;exact wpAny_Compare1 (binT N R I h fun v u s2 x y G l U S q=>J pins s2 σ G x y v u Q l U S q) L
def zq3(t:TE):TT:=fun σ H Q=>t σ H fun x u=>∃k,x=.bl k/\Q k u
theorem zhX{op:oC}{r:R2}(N:OpR X (compareOp op) r)(ha:PE X a ta)(hb:PE X b tb)(Y:behindInMarks op b=false):PT X (.Compare a [op] [b] pos) (zq3 (tOp r ta tb)):=by
 intro pins s σ H Q I h;refine lI (thn (ha pins s σ H _ I h) fun v s1 ⟨x,H1,L,r1,q1⟩=>thn (hb pins s1 σ H1 _ L q1) fun u s2 ⟨y,J,l,r2,R⟩ =>
  thn (N pins s2 σ J x y v u _ l r1 r2 R) fun c s3 ⟨z,S,Z,U,k,e,G⟩=>?_) Y
 subst e;cases U;exact bW ⟨S,Z,G⟩
def zoj(r J:R2)(ta tb tc:TE):TE:=fun σ H Q=>ta σ H fun x v=>tb σ v fun y G=>r x y G fun z u=>∃k,z=.bl k /\
 (if k=true then tc σ u fun C I=>J y C I Q else Q (.bl false) u)
theorem znl{op G:oC}{r N:R2}(ho:OpR X (compareOp op) r)(J:OpR X (compareOp G) N)(ha:PE X a ta)(hb:PE X b tb)(hc:PE X c tc)
  (hm:lastMarks [op,G] [b,c]=false:=by with_unfolding_all rfl):PE X (.Compare a [op,G] [b,c] pos) (zoj r N ta tb tc):=by
 intro pins s σ H Q I h;refine Compare_chain (thn (ha pins s σ H _ I h) fun v s1 ⟨x,H1,I1,r1,q1⟩=>chain_link (thn (hb pins s1 σ H1 _ I1 q1) fun u s2 ⟨y,H2,Y,U,q2⟩ =>
  thn (ho pins s2 σ H2 x y v u _ Y r1 U q2) fun d s3 ⟨z,R,S,r3,k,e,L⟩=>?_)) hm
 subst e;cases r3;refine bW ?_;cases k with
 | false=>exact ite_ff ⟨.bl false,R,S,rfl,L⟩
 | true=>exact ite_tt (chain_last (thn (hc pins s3 σ R _ S L) fun w' s4 ⟨z',H4,Z,r4,q4⟩=>J pins s4 σ H4 y z' u w' Q Z U r4 q4))
theorem znf{op l:oC}{r L:R2}(ho:OpR X (compareOp op) r)(G:OpR X (compareOp l) L)(ha:PE X a ta)(hb:PE X b tb)(hc:PE X c tc)
  (hm:lastMarks [op,l] [b,c]=false:=by with_unfolding_all rfl):PT X (.Compare a [op,l] [b,c] pos) (zq3 (zoj r L ta tb tc)):=by
 intro pins s σ H Q I h;refine isTrue_chain (thn (ha pins s σ H _ I h) fun v s1 ⟨x,H1,I1,r1,q1⟩=>test_link (thn (hb pins s1 σ H1 _ I1 q1) fun u s2 ⟨y,H2,Y,S,q2⟩ =>
  thn (ho pins s2 σ H2 x y v u _ Y r1 S q2) fun d s3 ⟨z,N,R,r3,k,e,J⟩=>?_)) hm
 subst e;cases r3;refine bW ?_;cases k with
 | false =>
  obtain⟨k',e',q'⟩:=J;cases e';exact ite_ff ⟨N,R,q'⟩
 | true =>
  refine ite_tt (test_last (thn (hc pins s3 σ N _ R J) fun w' s4 ⟨z',H4,Z,r4,q4⟩=>thn (G pins s4 σ H4 y z' u w' _ Z S r4 q4) fun d' s5 ⟨z2,H5,U,r5,k2,e2,q5⟩=>?_))
  subst e2;cases r5;exact bW ⟨H5,U,q5⟩
def TruV(K:qF)(x:V)(H:Hp)(k:Bool):Prop :=
 match x with
 | .non=>k=false
 | .bl b=>k=b
 | .int i=>k=(i != 0)
 | .str y=>y.length<=sizeLine/\k=((y.length:Int) != 0)
 | .byt y=>y.size<=sizeLine/\k=((y.size:Int) != 0)
 | .ref p=>(∃xs,SqL K H p xs/\k=!xs.isEmpty)\/(∃xs,SqT K H p xs/\k=!xs.isEmpty)\/∃u,H p=some (.dK u)/\k=!u.isEmpty
 | _=>False
theorem zj6{v:Type}{l:List (v×V)}{u:List (v×ah)}(r:KV l u):(!u.isEmpty)=!l.isEmpty:=by
 cases r <;> rfl
theorem zfq{xs:List V}{l:List ah}(r:Vals xs l):(!l.toArray.isEmpty)=!xs.isEmpty:=by
 cases r <;> simp
theorem UO:(sizeLine:Nat)<2 ^ 63:=by rw[lU];decide
theorem zoh:TruR X (fun x H Q=>∃k,TruV X.K x H k/\Q k H):=by
 intro pins s σ H x v Q I J h;obtain⟨k,e,q⟩:=h;have Y:=UO;have Z:sizeLine=16777216:=lU;cases x with
 | non =>
  cases J;have u:k=false:=e;subst u;exact truthy_none ⟨H,I,q⟩
 | bl b =>
  cases J;have u:k=b:=e;subst u;exact bW ⟨H,I,q⟩
 | int i =>
  obtain⟨t,rfl⟩:=J;have u:k=(i != 0):=e;subst u;exact PySem.P.truthy_int ⟨H,I,q⟩
 | str y =>
  obtain⟨t,rfl⟩:=J;obtain⟨U,u⟩:y.length<=sizeLine/\k=((y.length:Int) != 0):=e;subst u;exact PySem.P.truthy_str (by lia) ⟨H,I.tok _,q⟩
 | byt y =>
  obtain⟨t,rfl⟩:=J;obtain⟨U,u⟩:y.size<=sizeLine/\k=((y.size:Int) != 0):=e;subst u;exact PySem.W.truthy_bytes (by lia) ⟨H,I.tok _,q⟩
 | ref p =>
  cases J;have u:(∃xs,SqL X.K H p xs/\k=!xs.isEmpty)\/(∃xs,SqT X.K H p xs/\k=!xs.isEmpty)\/∃C,H p=some (.dK C)/\k=!C.isEmpty:=e;rcases u with⟨xs,hx,u⟩|⟨xs,hx,u⟩|⟨C,hx,u⟩
  ·subst u;obtain⟨N,r,pl,R⟩:=I.list hx;have G:=r.length;exact wpAny_truthy_list pl.isList (by simp only[aG];lia) ⟨H,I.tok _,by rw[zfq r];exact q⟩
  ·subst u;obtain⟨N,r,pl,R⟩:=I.tuple hx;have G:=r.length;exact truthy_tuple pl (by simp only[aG];lia) ⟨H,I.tok _,by rw[zfq r];exact q⟩
  ·subst u;obtain⟨R,S,L,r,m⟩:C.length<=sizeLine/\(p == sysModules)=false/\∃L,KV C L/\s.heap.DictOf (Zy X.prog X.w) p L:=I.hok p _ hx;have G:C.length=L.length:=mJ r;exact wpAny_truthy_dict S m (by lia) ⟨H,I.tok _,by rw[zj6 r];exact q⟩
 | _=>exact(show False from e).elim
theorem zne(G:PE X a ta)(u:∀whole,isTrue a X.env whole=(do let v <- whole;standAt a.pos;holding [v] (truthy v))) :
  PT X a (fun σ H Q=>ta σ H fun x l=>∃k,TruV X.K x l k/\Q k l):=by
 intro pins s σ H Q I h;exact isTrue_plain (thn (G pins s σ H _ I h) fun v s1 ⟨x,L,y,C,J⟩=>zoh pins s1 σ L x v Q y C J) (u _)
theorem zjP:OpR X (binaryOp .Add) (fun x y H Q=>∃i j,x=.str i/\y=.str j/\i.length+j.length<=sizeLine/\Q (.str (i++j)) H):=by
 intro pins s σ H x y v u Q I G C h;obtain⟨i,j,rfl,rfl,l,q⟩:=h;obtain⟨t,rfl⟩:=G;obtain⟨t',rfl⟩:=C;exact add_str (fun t' tk=>⟨.str (i++j),H,I.tok _,⟨_,rfl⟩,q⟩) l
theorem vals1{x:V}{l:List ah}(r:Vals [x] l):∃u,l=[u]/\RelV x u:=by
 cases r with
 | cons v y=>cases y;exact⟨_,rfl,v⟩
theorem vals2{x y:V}{l:List ah}(r:Vals [x,y] l):∃u v,l=[u,v]/\RelV x u/\RelV y v:=by
 cases r with
 | cons C G =>
  cases G with
  | cons J I=>cases I;exact⟨_,_,rfl,C,J⟩
theorem Yx(hc:X.calm=true):JU X (.builtin "max") (fun xs H Q=>∃i j,xs=[.int i,.int j]/\Q (.int (if j > i then j else i)) H):=by
 intro pins s σ H xs v Q I r h;obtain⟨i,j,rfl,q⟩:=h;obtain⟨u,x,rfl,⟨t,rfl⟩,⟨t',rfl⟩⟩:=vals2 r;refine max_two_ints (I.ok.hd hc) fun h' tk k=>⟨_,H,I.kept k,?_,q⟩
 by_cases hj:j > i
 ·rw[if_pos hj,if_pos hj];exact⟨_,rfl⟩
 ·rw[if_neg hj,if_neg hj];exact⟨_,rfl⟩
theorem VL(hc:X.calm=true):JU X (.builtin "min") (fun xs H Q=>∃i j,xs=[.int i,.int j]/\Q (.int (if j<i then j else i)) H):=by
 intro pins s σ H xs v Q I r h;obtain⟨i,j,rfl,q⟩:=h;obtain⟨u,x,rfl,⟨t,rfl⟩,⟨t',rfl⟩⟩:=vals2 r;refine min_two_ints (I.ok.hd hc) fun h' tk k=>⟨_,H,I.kept k,?_,q⟩
 by_cases hj:j<i
 ·rw[if_pos hj,if_pos hj];exact⟨_,rfl⟩
 ·rw[if_neg hj,if_neg hj];exact⟨_,rfl⟩
theorem zmq:JU X (.type "int") (fun xs H Q=>(∃i,xs=[.int i]/\Q (.int i) H)\/∃k,xs=[.bl k]/\Q (.int (if k then 1 else 0)) H):=by
 intro pins s σ H xs x Q I r h;rcases h with⟨i,rfl,q⟩|⟨k,rfl,q⟩
 ·obtain⟨u,rfl,t,rfl⟩:=vals1 r;exact call_int_int ⟨.int i,H,I,⟨_,rfl⟩,q⟩
 ·obtain⟨u,rfl,v⟩:=vals1 r;cases v;exact call_int_bool ⟨.int (if k then 1 else 0),H,I.tok _,⟨_,rfl⟩,q⟩
def LenV(K:qF)(x:V)(H:Hp)(n:Nat):Prop :=
 match x with
 | .str y=>y.length<=sizeLine/\n=y.length
 | .byt y=>y.size<=sizeLine/\n=y.size
 | .ref p=>(∃xs,SqL K H p xs/\n=xs.length)\/∃xs,SqT K H p xs/\n=xs.length
 | _=>False
theorem QE:JU X (.builtin "len") (fun xs H Q=>∃x n,xs=[x]/\LenV X.K x H n/\Q (.int n) H):=by
 intro pins s σ H xs U Q I r h;obtain⟨x,n,rfl,e,q⟩:=h;obtain⟨u,rfl,L⟩:=vals1 r;have S:=UO;have Y:sizeLine=16777216:=lU;cases x with
 | str y =>
  obtain⟨t,rfl⟩:=L;obtain⟨R,C⟩:y.length<=sizeLine/\n=y.length:=e;subst C;exact len_str (by lia) ⟨.int _,H,I.tok _,⟨_,rfl⟩,q⟩
 | byt y =>
  obtain⟨t,rfl⟩:=L;obtain⟨R,C⟩:y.size<=sizeLine/\n=y.size:=e;subst C;exact PySem.W.len_bytes (by lia) ⟨.int _,H,I.tok _,⟨_,rfl⟩,q⟩
 | ref p =>
  cases L;have C:(∃xs,SqL X.K H p xs/\n=xs.length)\/∃xs,SqT X.K H p xs/\n=xs.length:=e;rcases C with⟨xs,hx,C⟩|⟨xs,hx,C⟩
  ·subst C;obtain⟨J,G,pl,N⟩:=I.list hx;have v:=G.length;exact mC pl.isList (by simp only[aG];lia) ⟨.int xs.length,H,I.tok _,⟨_,by simp only[aG];rw[v]⟩,q⟩
  ·subst C;obtain⟨J,G,pl,N⟩:=I.tuple hx;have v:=G.length;exact len_tuple pl (by simp only[aG];lia) ⟨.int xs.length,H,I.tok _,⟨_,by simp only[aG];rw[v]⟩,q⟩
 | _=>exact(show False from e).elim
end
structure ObjM(h:aY)(x dx C:ak)(mA:qM):Prop where
 obj:h.get? x=some (lD C dx)
 ns:h.Ns1 dx mA
 ne:dx≠x
theorem zll{h:aY}{x:ak}{u:qM}(n:h.Ns1 x u):∃v,h.get? x=some v/\∀name,lV name v=some (u name):=by
 obtain⟨o,C,R,G,hd,I,_,J⟩:=n;refine⟨o,G,fun name=>?_⟩
 have e:=J name;unfold nsFind findBy at e;rw[<- Array.find?_toList]at e;unfold lV;rw[hd];dsimp only;split
 ·rename_i y q;rw[q]at e;exact congrArg some e
 ·rename_i q;rw[q]at e;have a:C.toList.any (·.refKey)=false:=by
   rw[nt];intro y L;obtain⟨z,t,l⟩:=I y (Array.mem_toList_iff.mp L);simp[DictEntry.refKey,l]
  have N:¬C.toList.any (·.refKey)=true:=by rw[a];exact bf
  rw[if_neg N];exact congrArg some e
theorem ObjM.look{h:aY}{x u C:ak}{v:qM}(I:ObjM h x u C v):∃l,PySem.W.InstAt h x (lD C u) C (some l)/\∀name,lV name l=some (v name) :=
 let ⟨l,ho,hl⟩:=zll I.ns
 ⟨l,⟨I.obj,rfl,rfl,ho⟩,hl⟩
section
variable{P:aK}{w:aW}{H H':Hp}{h h':aY}{a C dx:ak}{fs fs':List (Str×V)}
theorem zpX(hok:HOk P w H h)(e:H a=some (.ins C dx fs)):∃l,ObjM h a dx C l/\(∀f,RelO (fs.lookup f) (l f))/\tH l (fs.map (·.1))/\fs.length<=1000/\H dx=some (.own a):=by
 obtain⟨d,z,ne,u,l,n,r,q⟩:=(show JL P w H h a (.ins C dx fs) from hok a _ e)
 exact⟨l,⟨u,n,ne⟩,r,q,z,d⟩
end
structure Cls(K:qF)(C:ak):Prop where
 pg:nZ K C iU=true
 hd:PySem.W.hasDictIn K C=true
 po:PySem.W.plainOver K C=true
 sa:pE K (.ref C) "__setattr__" = some (some (.builtin "object.__setattr__"))
theorem Cls.get{K:qF}{C:ak}(c:Cls K C)(f:Str):nZ K C f=true:=c.pg
section
variable{X:Cx}{pins:qO}{σ:St}{H:Hp}{s:aq}{A:bq}{E:qV}{Q:qV}{c:ah}{b:Bool}
inductive TyOf (K:qF)(H:Hp):V->ah->Prop where
 | non:TyOf K H .non (.type "NoneType")
 | bl (x:Bool):TyOf K H (.bl x) (.type "bool")
 | int (i:Int):TyOf K H (.int i) (.type "int")
 | str (x:Str):TyOf K H (.str x) (.type "str")
 | flt (x:UInt64):TyOf K H (.flt x) (.type "float")
 | lst {a:ak} {xs:List V} (e:H a=some (.lst xs)):TyOf K H (.ref a) (.type "list")
 | frz {a:ak} {o:Obj} {xs:List V} (e:H a=some (.frz o (.lst xs))):TyOf K H (.ref a) (.type "list")
 | tup {a:ak} {xs:List V} (e:H a=some (.tup xs)):TyOf K H (.ref a) (.type "tuple")
 | dK {a:ak} {kvs:List (Key×V)} (e:H a=some (.dK kvs)):TyOf K H (.ref a) (.type "dict")
 | dT {a:ak} {kvs:List (List Key×V)} (e:H a=some (.dT kvs)):TyOf K H (.ref a) (.type "dict")
 | ins {a C dx:ak} {fs:List (Str×V)} (e:H a=some (.ins C dx fs)) (cl:Cls K C) (ha:pE K (.ref C) "__class__" = some (some (.builtin "object.__class__")))
   (hn:PySem.W.specialIn K (.builtin "object.__class__") "__get__" = some (some (.builtin "getset_descriptor.__get__"))) (htk:PySem.W.takesIn K (.builtin "object.__class__")=some true)
   (hm:PySem.W.mroIn K C (.type "object")=some true):TyOf K H (.ref a) (.ref C)
theorem zlL{x:V}{u t:ah}(I:Inv X pins σ H s)(v:RelV x u)(ty:TyOf X.K H x t)(e:pF X.K t c=some b)(h:∀tk,Q (.bool b) { s with toks:=tk }) :
  wpAny (model X.prog X.w) A (call (.builtin "isinstance") [u,c]) Q E s:=by
 cases ty with
 | non=>cases(show u=iV from v);exact bS PySem.W.kitx_none I.kIn kT e (fun z=>nomatch z) h
 | bl y=>cases(show u=eK y from v);exact bS PySem.W.kitx_bool I.kIn kT e (fun z=>nomatch z) h
 | int i=>obtain⟨t,q⟩:=(show ∃t,u=sS i t from v);cases q;exact bS PySem.W.kitx_int I.kIn kT e (fun z=>nomatch z) h
 | str y=>obtain⟨t,q⟩:=(show ∃t,u=iT y t from v);cases q;exact bS PySem.W.kitx_str I.kIn kT e (fun z=>nomatch z) h
 | flt y=>obtain⟨t,q⟩:=(show ∃t,u=uQ y t from v);cases q;exact bS PySem.W.kitx_float I.kIn kT e (fun z=>nomatch z) h
 | @lst a xs ea =>
  cases(show u=cG a from v)
  obtain⟨_,_,n,_,G⟩:=(show JL X.prog X.w H s.heap a (.lst xs) from I.hok a _ ea)
  exact bS nu I.kIn ⟨_,G,rfl⟩ e (fun z=>nomatch z) h
 | @frz a ob xs ea =>
  cases(show u=cG a from v)
  obtain⟨_,_,_,n,_,G⟩:=(show JL X.prog X.w H s.heap a (.frz ob (.lst xs)) from I.hok a _ ea)
  exact bS nu I.kIn ⟨_,G,rfl⟩ e (fun z=>nomatch z) h
 | @tup a xs ea =>
  cases(show u=cG a from v)
  obtain⟨_,_,_,p⟩:=(show JL X.prog X.w H s.heap a (.tup xs) from I.hok a _ ea)
  obtain⟨o,G,L,_⟩:=p;exact bS mQ I.kIn ⟨o,G,L⟩ e (fun z=>nomatch z) h
 | @dK a kvs ea =>
  cases(show u=cG a from v)
  obtain⟨_,_,Y,_,p⟩:=(show JL X.prog X.w H s.heap a (.dK kvs) from I.hok a _ ea)
  obtain⟨o,R,N,G,L,_⟩:=p;exact bS eT I.kIn ⟨o,G,L.1⟩ e (fun z=>nomatch z) h
 | @dT a kvs ea =>
  cases(show u=cG a from v)
  obtain⟨_,_,xs,_,o,R,N,G,L,_⟩:=(show JL X.prog X.w H s.heap a (.dT kvs) from I.hok a _ ea)
  exact bS eT I.kIn ⟨o,G,L.1⟩ e (fun z=>nomatch z) h
 | @ins a C dx fs ea cl ha hn htk hm =>
  cases(show u=cG a from v)
  obtain⟨S,O,_⟩:=zpX I.hok ea;obtain⟨U,J,_⟩:=O.look;exact bS (PySem.W.kitx_own (cl.get _) cl.hd ha hn htk hm) I.kIn J e (fun z=>nomatch z) h
end
structure Room(k:Nat)(A:bq):Prop where
 hd:A.handled=none
 dp:A.depth+3*k+5<recursionLimit
 un:A.units+16*k+200<cLine
 gd:A.guards=some []
theorem Room.mono{j k:Nat}{A:bq}(r:Room k A)(h:j<=k):Room j A:=⟨r.hd,by have:=r.dp;lia,by have:=r.un;lia,r.gd⟩
theorem Room.deeper{k:Nat}{A:bq}(r:Room (k+1) A)(env:Env):Room k (A.deeper env) :=
 ⟨r.hd,by have:=r.dp;show A.depth+1+3*k+5<_;lia,by have:=r.un;show A.units+3+16*k+200<_;lia,r.gd⟩
theorem Room.depth{k:Nat}{A:bq}(r:Room k A):A.depth<recursionLimit:=by have:=r.dp;lia
theorem Room.units{k:Nat}{A:bq}(r:Room k A):A.units+64<cLine:=by have:=r.un;lia
theorem Room.units0{k:Nat}{A:bq}(r:Room k A):A.units<cLine:=by have:=r.un;lia
def tNil:TA:=fun _ H Q=>Q [] H
def QG(v:TE)(l:TA):TA:=fun σ H Q=>v σ H fun x u=>l σ u fun xs y=>Q (x::xs) y
section
variable{X:Cx}{e:aX}{es:List aX}{te:TE}{t:TA}{pos:Pos}
theorem US:PA X [] tNil:=fun _ _ _ _ H Q I h=>Calls.spliced_nil ⟨[],H,I,.nil,h⟩
theorem Ub(L:PE X e te)(S:PA X es t)(U:starEach (e::es) X.env=(false,eval e X.env)::starEach es X.env:=by rfl):PA X (e::es) (QG te t):=by
 intro pos pins s σ H Q I h;rw[U];show wpAny _ _ (spliced ((false,eval e X.env)::backTo pos (starEach es X.env))) _ _ s
 refine Calls.spliced_cons (thn (L pins s σ H _ I h) fun u s1 ⟨x,R,y,G,N⟩=>?_)
 exact thn (S pos pins s1 σ R _ y N) fun Y s2 ⟨xs,v,l,J,C⟩=>⟨x::xs,v,l,.cons G J,C⟩
def tTup(t:TA):TE:=fun σ H Q=>t σ H fun xs l=>xs.length<=sizeLine/\∀p,l p=none->Q (.ref p) (upd l p (.tup xs))
def tLst(t:TA):TE:=fun σ H Q=>t σ H fun xs u=>xs.length<=sizeLine/\∀p,u p=none->Q (.ref p) (upd u p (.lst xs))
theorem zor{x1}(h:PA X es t):PE X (.Tuple es x1 pos) (tTup t):=by
 intro pins s σ H Q I y;refine wpAny_Tuple_spliced (thn (h pos pins s σ H _ I y) fun C s1 ⟨xs,x,v,r,z,q⟩=>⟨by rw[<- r.length];exact z,?_⟩)
 have hf:x s1.heap.objs.size=none:=v.hok.fresh (aC _);refine⟨.ref s1.heap.objs.size,upd x s1.heap.objs.size (.tup xs),v.laid (t':=s1.toks) (fun b u e=>av _ e) (aC _) ?_,rfl,q _ hf⟩
 exact⟨z,C,r,⟨_,aI _ rfl,rfl,⟨_,rfl⟩,rfl⟩⟩
theorem zrX(h:PA X es t):PE X (.List es pos) (tLst t):=by
 intro pins s σ H Q I y;refine wpAny_List_spliced (thn (h pos pins s σ H _ I y) fun C s1 ⟨xs,x,v,r,z,q⟩=>⟨by rw[<- r.length];exact z,?_⟩)
 have hf:x s1.heap.objs.size=none:=v.hok.fresh (aC _);refine⟨.ref s1.heap.objs.size,upd x s1.heap.objs.size (.lst xs),v.laid (t':=s1.toks) (fun b u e=>av _ e) (aC _) ?_,rfl,q _ hf⟩
 exact⟨z,C,0,r,aI _ rfl⟩
end
abbrev Sp:=List V->Hp->VK->XK->Prop
abbrev CXT:=List Env->Hp->aq->XK->ah->aq->Prop
structure Env0(P:aK)(w:aW)(K:qF)(mg:qM)(base:aY)(A:bq)(outer:List Env)(s:aq)(H:Hp):Prop where
 frames:A.frames=some outer
 mod:Mod K mg base
 bs:∀b o,base.get? b=some o->s.heap.get? b=some o/\H b=none
 bsz:base.objs.size<=s.heap.objs.size
 funs:s.heap.FunFrames base outer
 frf:∀b∈frs outer,H b=none
 hok:HOk P w H s.heap
 bare:iA s.gens
def CE(outer:List Env)(P:aK)(w:aW)(H:Hp)(s:aq)(Q:VK)(u:ah)(s':aq):Prop :=
 ∃v l,s'.os=s.os/\iA s'.gens/\Un (frs outer) [] H l s.heap s'.heap/\HOk P w l s'.heap/\RelV v u/\Q v l
def CR(l:CXT)(outer:List Env)(P:aK)(w:aW)(H:Hp)(s:aq)(Q:VK)(E:XK)(r:n8)(s':aq):Prop :=
 match r with
 | .ok (.ret u)=>CE outer P w H s Q u s'
 | .ok _=>False
 | .error e=>l outer H s E e s'
structure FnOk(P:aK)(w:aW)(K:qF)(mg:qM)(base:aY)(CX:CXT)(k:Nat)(f:ak)(fd:cT)(ps:List Str)(sp:Sp):Prop where
 len:∀vs H Q E,sp vs H Q E->vs.length=ps.length
 run:∀(A:bq) (outer:List Env) (s:aq) (H:Hp) (args:Args) (us:List ah) (vs:List V) (Q:VK) (E:XK),Room k A->Env0 P w K mg base A outer s H->o8 s fd args (ps.zip us)->Vals vs us->sp vs H Q E ->
  codeAny (model P w) A (.call (.ref f) args) (CR CX outer P w H s Q E) s
theorem FnOk.imp{P:aK}{w:aW}{K:qF}{mg:qM}{base:aY}{v:CXT}{k:Nat}{f:ak}{fd:cT}{ps:List Str}{x u:Sp}(F:FnOk P w K mg base v k f fd ps x)
  (h:∀l H Q E,u l H Q E->x l H Q E):FnOk P w K mg base v k f fd ps u :=
 ⟨fun l H Q E q=>F.len l H Q E (h _ _ _ _ q),fun A outer s H args G l Q E J y I C L=>F.run A outer s H args G l Q E J y I C (h _ _ _ _ L)⟩
section
variable{X:Cx}{pins:qO}{σ:St}{H:Hp}{s s':aq}
theorem Inv.env0(I:Inv X pins σ H s):Env0 X.prog X.w X.K X.mg X.base X.A X.stack s H :=
 ⟨I.ok.frames,I.ok.mod,I.bs,cH I.ok.bsz I.sz,I.stack,I.stkFree,I.hok,I.bare⟩
theorem Inv.after{Q:VK}{u:ah}(I:Inv X pins σ H s)(h:CE X.stack X.prog X.w H s Q u s'):EP X pins σ Q u s':=by
 obtain⟨v,x,os,bare,un,hok,r,q⟩:=h;obtain⟨y,g,d,t,l⟩:=s';obtain rfl:l=s.os:=os;exact⟨v,x,I.call (h':=y) (g':=g) (d':=d) (t':=t) (ch:=[]) un hok bare (fun b z=>absurd z (by simp)),r,q⟩
end
def zq6(x:Sp)(l:List V)(E:XK)(t:TA):TE:=fun σ H Q=>t σ H fun v u=>x (v++l) u Q E
def Binds(K:qF)(fd:cT)(ps:List Str)(ds:List ah):Prop :=
 ∀(s:aq) (u:List ah),K.In s.heap->(u++ds).length=ps.length->o8 s fd ⟨u,[]⟩ (ps.zip (u++ds))
theorem Binds.all{K:qF}{fd:cT}{ps:List Str}(h:∀l:List ah,l.length=ps.length->bindArgs fd ⟨l,[]⟩=pure (ps.zip l)):Binds K fd ps []:=fun s l _ u=>by
 rw[bK]at u ⊢;exact .of_eq (h l u)
def Vi(l:CXT)(X:Cx)(E:XK):Prop:=∀(pins:qO) (σ:St) (H:Hp) (s:aq) (e:ah) (s':aq),Inv X pins σ H s->l X.stack H s E e s'->X.xe e s'
section
variable{X:Cx}{CX:CXT}{k:Nat}{f C:ak}{fd:cT}{ps:List Str}{sp:Sp}{dvs:List V}{ds:List ah}{E:XK}{x m:Str}{p pos apos:Pos}{e o:aX}{es:List aX}{ta:TE}{t:TA}
theorem zon{pins:qO}{σ:St}{H:Hp}{s:aq}{Q:VK}{v:List ah}{G:List V}(F:FnOk X.prog X.w X.K X.mg X.base CX k f fd ps sp)(R:Room k X.A)(N:Binds X.K fd ps ds)(hd:Vals dvs ds)(hx:Vi CX X E)
  (I:Inv X pins σ H s) (r:Vals G v) (h:sp (G++dvs) H Q E):wpAny (model X.prog X.w) X.A (call (.ref f) v) (EP X pins σ Q) X.xe s:=by
 have J:Vals (G++dvs) (v++ds):=r.append hd;have L:(v++ds).length=ps.length:=by rw[<- J.length];exact F.len _ _ _ _ h
 refine mS (gV (F.run X.A X.stack s H ⟨v,[]⟩ (v++ds) (G++dvs) Q E R I.env0 (N s v I.kIn L) J h) fun r s' y=>?_)
 cases r with
 | error e=>exact hx pins σ H s e s' I y
 | ok fl =>
  cases fl with
  | ret u=>exact I.after y
  | next=>exact cB y
  | brk=>exact cB y
  | cont=>exact cB y
theorem zpe(F:FnOk X.prog X.w X.K X.mg X.base CX k f fd ps sp)(Z:Room k X.A)(L:Gl X x)(S:X.mg x=some (.ref f))(R:gW X.K (.ref f)=true)(Y:Binds X.K fd ps ds)(hd:Vals dvs ds)(hx:Vi CX X E)
  (U:PA X (e::es) t) (u:(x == ("__debug__":Str))=false:=by decide) (J:starEach (e::es) X.env=(false,eval e X.env)::starEach es X.env:=by rfl) (v:(backTo pos (starEach es X.env)).any (·.1)=false:=by rfl) :
  PE X (.Call (.Name x p) (e::es) [] pos) (zq6 sp dvs E t):=by
 intro pins s σ H Q I h;refine fB (U1 I L S ?_ u);refine i5 (h₀:=X.base) I.ok.mod.kin R (thn (U pos pins s σ H _ I h) fun us s1 ⟨vs,H1,G,r,q⟩=>⟨G.kIn,?_⟩) J v
 exact zon F Z Y hd hx G r q
end
structure Ua(N P:List Str)(sc:fv):Prop where
 kind:sc.kind=.function
 co:sc.isCoroutine=false
 gen:sc.isGenerator=false
 nd:N.Nodup
 pre:N.take P.length=P
 par:∀x∈P,sc.names.lookup x=some .local\/sc.names.lookup x=some .cell
 nofree:∀y∈sc.names,y.2≠.free
theorem zhN{kindOf:Str->Option eM}{x:Str}:∀{binds:List (Str×ah)}{m:qM},(∀v,(x,v)∉binds)->bindL kindOf binds m x=m x
 | [],_,_=>rfl
 | (n,v)::r,m,h=>by
  unfold bindL;rw[zhN fun w hw=>h w (bV _ hw)]
  split
  ·have:x≠n:=by rintro rfl;exact h v cm
   simp[this]
  ·rfl
theorem zhP{kindOf:Str->Option eM}{x:Str}:∀{binds:List (Str×ah)}{m:qM},(∀v,(x,v)∉binds)->bindC kindOf binds m x=m x
 | [],_,_=>rfl
 | (n,v)::r,m,h=>by
  unfold bindC;rw[zhP fun w hw=>h w (bV _ hw)]
  split
  ·rfl
  ·have:x≠n:=by rintro rfl;exact h v cm
   simp[this]
theorem zhO{kindOf:Str->Option eM}{x:Str}{v:ah}:∀{P:List Str}{u:List ah}{i:Nat}{m:qM},P.Nodup->P[i]?=some x->u[i]?=some v->kindOf x=some .local ->
  bindL kindOf (P.zip u) m x=some v
 | [],_,_,_,_,h,_,_=>by simp at h
 | _::_,[],_,_,_,_,h,_=>by simp at h
 | p::P,w::u,0,m,nd,h1,h2,hk=>by
  simp at h1 h2;subst h1;subst h2;show bindL kindOf ((p,w)::P.zip u) m p=_
  unfold bindL;rw[zhN fun v y=>(eS.mp nd).1 (ee y).1,if_pos hk]
  simp
 | p::P,w::u,i+1,m,nd,h1,h2,hk=>by
  show bindL kindOf ((p,w)::P.zip u) m x=_
  unfold bindL;exact zhO (i:=i) (eS.mp nd).2 (by simpa using h1) (by simpa using h2) hk
theorem zhQ{kindOf:Str->Option eM}{x:Str}{v:ah}:∀{P:List Str}{u:List ah}{i:Nat}{m:qM},P.Nodup->P[i]?=some x->u[i]?=some v->kindOf x≠some .local ->
  bindC kindOf (P.zip u) m x=some v
 | [],_,_,_,_,h,_,_=>by simp at h
 | _::_,[],_,_,_,_,h,_=>by simp at h
 | p::P,w::u,0,m,nd,h1,h2,hk=>by
  simp at h1 h2;subst h1;subst h2;show bindC kindOf ((p,w)::P.zip u) m p=_
  unfold bindC;rw[zhP fun v y=>(eS.mp nd).1 (ee y).1,if_neg hk]
  simp
 | p::P,w::u,i+1,m,nd,h1,h2,hk=>by
  show bindC kindOf ((p,w)::P.zip u) m x=_
  unfold bindC;exact zhQ (i:=i) (eS.mp nd).2 (by simpa using h1) (by simpa using h2) hk
def start(N:List Str)(l:List V):St:=l.map some++bX (N.length - l.length) none
def cxOf(u:CXT)(P:aK)(w:aW)(K:qF)(mg:qM)(base:aY)(N:List Str)(qual:Str)(scope:fv)(f:ak)(cd:ah)(A:bq)(outer:List Env)(s:aq)(H:Hp)(E:XK):Cx where
 prog:=P
 w:=w
 K:=K
 mg:=mg
 base:=base
 A:=A.deeper (envOfC qual scope s.heap.objs.size f cd)
 N:=N
 s₀:=s
 H₀:=H
 env:=envOfC qual scope s.heap.objs.size f cd
 outer:=outer
 stack:=envOfC qual scope s.heap.objs.size f cd::outer
 ex:=[]
 calm:=true
 fn:=fun _=>true
 pn:=[]
 xe:=fun e s'=>wpAny (model P w) (A.deeper (envOfC qual scope s.heap.objs.size f cd)) (leaving (envOfC qual scope s.heap.objs.size f cd) e) (fun _ l=>u outer H s E e l) (fun v l=>u outer H s E v l) s'
theorem zjz{sc:fv}{n:Nat}{x:Str}(h:sc.names.lookup x=some .cell):∃c,(cellsFrom n sc.names []).lookup x=some c:=by
 have q:=kU sc.names n [] (.inl h);exact kC.mp q
theorem zlO{CX:CXT}{P:aK}{w:aW}{K:qF}{mg:qM}{base:aY}{N ps:List Str}{qual:Str}{scope:fv}{f:ak}{cd:ah}{A:bq}{outer:List Env}{s s1:aq}{H:Hp}{E:XK}{Z:List ah}{L:List V}
  (S:Ua N ps scope) (hd:A.handled=none) (G:Env0 P w K mg base A outer s H) (hl:L.length=ps.length) (r:Vals L Z)
  (x:InCallC s s.heap.objs.size (bindL (envOfC qual scope s.heap.objs.size f cd).kindOf (ps.zip Z) fun _=>none) (cellsFrom (s.heap.objs.size+1) scope.names []) (bindC (envOfC qual scope s.heap.objs.size f cd).kindOf (ps.zip Z) fun _=>none) s1) :
  Inv (cxOf CX P w K mg base N qual scope f cd A outer s H E) [] (start N L) H s1:=by
 have hpl:ps.length<=N.length:=by have:=congrArg dQ S.pre;rw[eG]at this;lia
 obtain⟨Y,tk,rfl,hk⟩:=x.done;have I:∀b:ak,b∉(cxOf CX P w K mg base N qual scope f cd A outer s H E).ex:=fun b z=>absurd (show b∈([]:List ak) from z) (by simp)
 refine⟨⟨G.mod,S.kind,rfl,rfl,aC _,fun y z c Y C=>?_,fun y J=>?_,fun y c _ h=>?_,fun _=>hd,Around.frames_deeper G.frames,.inr ⟨rfl,rfl⟩,fun b z=>absurd z (I b),G.bs,G.bsz,fun b _ _=>I b,fun b z=>absurd z (I b),G.funs,G.frf⟩,
  rfl,G.bare,Un.kept hk,⟨_,x.toInCall.ns,fun i y v Y C h3=>?_⟩,fun y c h=>⟨_,x.cell y c h⟩,G.hok.fresh (aC _),fun y c h=>?_,fun p R=>absurd (show p∈([]:qO) from R) (by simp),G.hok.kept hk,?_⟩
 ·exact name_of_addr x.apart (e9 Y) (e9 C)
 ·have J:scope.names.lookup y=some .cell\/scope.names.lookup y=some .free:=J;rcases J with J|J
  ·exact zjz J
  ·exact absurd rfl (S.nofree _ (e9 J))
 ·exact m6 (x.above y c (e9 h))
 ·have hi:i<L.length:=by
   unfold start at C
   by_cases hi:i<L.length
   ·exact hi
   ·rw[br (by simpa using hi)]at C
    rw[dS]at C;split at C <;> cases C
  have ha:L[i]?=some v:=by
   unfold start at C;rw[bT (by simpa using hi),bg]at C
   cases e:L[i]? with
   | none=>rw[e]at C;cases C
   | some a=>rw[e]at C;cases C;rfl
  obtain⟨u,hu,rv⟩:=r.get ha;have R:ps[i]?=some y:=by
   rw[<- S.pre,kD (by lia)];exact Y
  have U:ps.Nodup:=by rw[<- S.pre];exact S.nd.sublist (nv _ _)
  refine⟨u,rv,?_⟩;rcases S.par y (aN R) with k|k
  ·exact .inl ⟨k,zhO U R hu k⟩
  ·obtain⟨c,e⟩:=zjz (n:=s.heap.objs.size+1) k;refine .inr ⟨.inl k,c,e,?_⟩;have q:=x.cell y c e;rw[zhQ U R hu (by show scope.names.lookup y≠_;rw[k];decide)]at q
   exact q
 ·exact G.hok.fresh (m6 (x.above y c (e9 h)))
 ·unfold start;show _=N.length
  rw[aT,aZ,hZ];lia
theorem ztI{Z:CXT}{P:aK}{w:aW}{K:qF}{mg:qM}{base:aY}{k:Nat}{f:ak}{name qual:Str}{params:Arguments}{body:List dG}{scope:fv}{dV kV doc pm C ct oc:ah}{an od:Option ak}
  {osl:Array (Option ah)} {N ps:List Str} {sp:Sp} (lk:K.lookup f=some ⟨oc,od,.func (dw name qual params body scope dV kV doc pm an C ct),osl⟩) (hcd:gX K C qual=true) (S:Ua N ps scope)
  (len:∀G H Q E,sp G H Q E->G.length=ps.length)
  (Kf:∀(A:bq) (outer:List Env) (s:aq) (H:Hp) (G:List V) (Q:VK) (E:XK),Room k (A.deeper (envOfC qual scope s.heap.objs.size f C))->sp G H Q E ->
   ∃t,PSs (cxOf Z P w K mg base N qual scope f C A outer s H E) body t/\t { nx:=fun _ L=>Q .non L,rt:=Q } (start N G) H) :
  FnOk P w K mg base Z (k+1) f (dw name qual params body scope dV kV doc pm an C ct) ps sp:=by
 refine⟨len,fun A outer s H args us G Q E hr Y hb r U=>?_⟩
 have hl:=len _ _ _ _ U;have KX:K.In s.heap:=Y.mod.kin.keeps fun b o e=>(Y.bs b o e).1
 have lim:s.heap.NoLimit:=Y.mod.nolimit.keeps fun b o e=>(Y.bs b o e).1
 have Ka:∀y∈ps.zip us,scope.names.lookup y.1=some .local\/(scope.names.lookup y.1=some .cell/\((cellsFrom (s.heap.objs.size+1) scope.names []).lookup y.1).isSome=true):=fun⟨n,v⟩ hy=>by
  rcases S.par n (ee hy).1 with q|q
  ·exact .inl q
  ·exact .inr ⟨q,kU _ _ _ (.inl q)⟩
 refine codeAny_call_function hr.depth (KX _ _ lk) rfl S.co S.gen rfl (PySem.W.codeRec_of KX hcd) (hb _ _ _ _ ?_);refine wpAny_newFunctionEnv_cells S.kind Ka fun env he s1 x=>?_
 subst he;refine⟨lim.keeps x.toInCall.keep,codeAny_func ?_⟩;obtain⟨t,ht,hq⟩:=Kf A outer s H G Q E (hr.deeper _) U;have I:Inv (cxOf Z P w K mg base N qual scope f C A outer s H E) [] (start N G) H s1:=zlO S hr.hd Y hl r x;refine c8 (ht [] s1 (start N G) H _ I hq) (fun fl s' R=>?_) fun e s' R=>R
 have fin:∀{σ':St} {L:Hp} {v:V} {u:ah},Inv (cxOf Z P w K mg base N qual scope f C A outer s H E) [] σ' L s'->RelV v u->Q v L->CE outer P w H s Q u s' :=
  fun {σ' L v u} J rv q=>⟨v,L,J.os,J.bare,J.base,J.hok,rv,q⟩
 cases fl with
 | ret u =>
  obtain⟨v,σ',L,J,rv,q⟩:=R;exact fin J rv q
 | next =>
  obtain⟨σ',L,J,q⟩:=R;exact fin (v:=V.non) (u:=iV) J rfl q
 | brk =>
  obtain⟨_,_,_,q⟩:=R;exact cB q
 | cont =>
  obtain⟨_,_,_,q⟩:=R;exact cB q
section
variable{X:Cx}{x:Str}{p pos:Pos}{e:aX}{es:List aX}{t:TA}{id T:String}{r:List V->Hp->VK->Prop}
def tCB(r:List V->Hp->VK->Prop)(t:TA):TE:=fun σ H Q=>t σ H fun u l=>r u l Q
theorem znn(hc:JU X (.builtin id) r)(R:Gl X x)(Y:X.mg x=none)(S:bootBuiltins x=some (.builtin id))(ha:PA X (e::es) t)(Z:x ≠ "__name__":=by decide) (v:(x == ("__debug__":Str))=false:=by decide)
  (J:starEach (e::es) X.env=(false,eval e X.env)::starEach es X.env:=by rfl) (G:(backTo pos (starEach es X.env)).any (·.1)=false:=by rfl):PE X (.Call (.Name x p) (e::es) [] pos) (tCB r t):=by
 intro pins s σ H Q I h;refine fB (Zf I R Y S ?_ Z v);exact n9 (thn (ha pos pins s σ H _ I h) fun U s1 ⟨vs,H1,L,r1,q1⟩=>hc pins s1 σ H1 vs U Q L r1 q1) J G
theorem zkT(hc:JU X (.type T) r)(L:Gl X x)(U:X.mg x=none)(R:bootBuiltins x=some (.type T))(ha:PA X (e::es) t)(Y:x ≠ "__name__":=by decide) (u:(x == ("__debug__":Str))=false:=by decide)
  (G:starEach (e::es) X.env=(false,eval e X.env)::starEach es X.env:=by rfl) (v:(backTo pos (starEach es X.env)).any (·.1)=false:=by rfl):PE X (.Call (.Name x p) (e::es) [] pos) (tCB r t):=by
 intro pins s σ H Q I h;refine fB (Zf I L U R ?_ Y u);exact fO (thn (ha pos pins s σ H _ I h) fun S s1 ⟨vs,H1,J,Z,q1⟩=>hc pins s1 σ H1 vs S Q J Z q1) G v
end
end L2
namespace HT
open PySem PyProof.Rows
def lexLt:List Int->List Int->Bool
 | [],[]=>false
 | [],_::_=>true
 | _::_,[]=>false
 | x::xs,y::ys=>if x=y then lexLt xs ys else decide (x<y)
theorem zj3(x y:Int)(xs ys:List Int):lexLt (x::xs) (y::ys)=if x=y then lexLt xs ys else decide (x<y):=rfl
theorem zfW:lexLt [] []=false:=rfl
theorem ze6(y:Int)(ys:List Int):lexLt [] (y::ys)=true:=rfl
theorem ze7(x:Int)(xs:List Int):lexLt (x::xs) []=false:=rfl
theorem znZ(A:bq)(s:aq)(a:Int)(t:Tok)(c:Int)(u:Tok):∃e,mT A s (.int a t) (.int c u) e/\(e=true↔a=c) :=
 ⟨(a == c),i6 a t c u,by simp⟩
theorem znc(A:bq)(s:aq)(a:Int)(t:Tok)(c:Int)(u:Tok)(prog:aK)(w:aW)(E:qV)(Q:qV)(h:Q (.bool (decide (a<c))) s) :
  wpAny (model prog w) A (richCompare .Lt (.int a t) (.int c u)) Q E s :=
 (vR h:wpAny (model prog w) A (compareOp .Lt (.int a t) (.int c u)) Q E s)
section
open PySem.SeqAt
open PySem.AutoSeq1 (wpAny_loadPart')
open PySem.MeetsSeq PySem.MeetsSeq2 PySem.MeetsSeq3
theorem zfD(l b:ak)(items Y:Array ah)(n n2:Nat)(dd dd2:Option ak)(sl sl2:Array (Option ah))(ns ms:List Int)(hi:fY items.toList ns)(hj:fY Y.toList ms) :
  Meets (fZ.«tuple.__lt__» ⟨[.ref l,.ref b],[]⟩)
   (fun _ R s=>s.heap.get? l=some { cls:=.type "tuple",dict:=dd,data:=.seq items n,slots:=sl }/\s.heap.get? b=some { cls:=.type "tuple",dict:=dd2,data:=.seq Y n2,slots:=sl2 } /\
    R (.ok (.ret (.bool (lexLt ns ms)))) s) :=
 .of_wp fun prog w A R s h=>by
  obtain⟨hp,g,d,tk,os⟩:=s;obtain⟨hl,hb,h⟩:=h;have f2:=AutoSeq1.sub_tuple_tuple;have z1:items.size=ns.length:=by rw[<- hi.length];simp
  have z2:Y.size=ms.length:=by rw[<- hj.length];simp
  wp_walk using oO hl,oO hb,wpAny_forIn_list _ (fun rest b s'=>b.1=none/\s'=⟨hp,g,d,tk,os⟩/\∃(vs ws:List ah) (G C:List Int),rest=vs.zip ws /\
   fY vs G/\fY ws C/\G.length+Y.size=C.length+items.size/\R (.ok (.ret (.bool (lexLt G C)))) ⟨hp,g,d,tk,os⟩) _
  case turn =>
   rintro⟨y,x⟩ rest b s' ⟨S,rfl,vs,ws,G,C,I,U,J,v,N⟩;cases U with
   | nil=>rw[ny]at I;cases I
   | cons a t hvi' =>
    cases J with
    | nil=>rw[List.zip_nil_right]at I;cases I
    | cons c u Z =>
     rw[i7]at I
     injection I with hyx hrest
     injection hyx with hy hx
     subst hy hx;rw[zj3]at N;simp only[aP]at v;obtain⟨e,he,L⟩:=znZ A.in1 ⟨hp,g,d,tk,os⟩ a t c u;refine ae (he prog w _ _ ?_);cases e with
     | true =>
      rw[if_pos (L.mp rfl)]at N
      wp_walk
      exact⟨rfl,rfl,_,_,_,_,hrest,hvi',Z,by lia,N⟩
     | false =>
      rw[if_neg (fun q=>absurd (L.mpr q) bf)]at N
      have hri:=znc A.in1 ⟨hp,g,d,tk,os⟩ a t c u prog w
      wp_walk using hri
      exact⟨_,rfl,by simpa using N⟩
  case fin =>
   rintro⟨b1,b2⟩ s' ⟨S,rfl,vs,ws,G,C,I,U,J,v,N⟩;simp only at S;subst S;have hv:lexLt G C=decide (items.size<Y.size):=by
    cases U with
    | nil =>
     cases J with
     | nil =>
      simp only[cY]at v;rw[zfW];exact(decide_eq_false (by lia)).symm
     | cons c u hw =>
      simp only[cY,aP]at v;rw[ze6];exact(decide_eq_true (by lia)).symm
    | cons a t hv =>
     cases J with
     | nil =>
      simp only[cY,aP]at v;rw[ze7];exact(decide_eq_false (by lia)).symm
     | cons c u hw =>
      rw[i7]at I;cases I
   rw[hv]at N
   wp_walk
   exact⟨_,rfl,by simpa[nW] using N⟩
  case h =>
   exact⟨rfl,rfl,items.toList,Y.toList,ns,ms,rfl,hi,hj,by lia,h⟩
end
section
variable{prog:aK}{w:aW}{A:bq}{E:qV}{s:aq}
theorem zfn{l b:ak}{items C:Array ah}{ns v:List Int}{Q:qV}(R:m5 s.heap l items)(hb:m5 s.heap b C)(hi:fY items.toList ns)(Y:fY C.toList v)
  (U:A.units<cLine) (h:Q (.bool (lexLt ns v)) s):wpAny (model prog w) A (compareOp .Lt (.ref l) (.ref b)) Q E s:=by
 obtain⟨⟨cls,dd,data,Z⟩,J,hc,n,hd⟩:=id R;obtain⟨⟨N,I,data2,G⟩,y,u,S,hd2⟩:=id hb;simp only at hc hd u hd2;subst hc hd u hd2;exact richCompare_meets_room (op:=.Lt) ⟨_,J,rfl⟩ ⟨_,y,rfl⟩ PySem.F.slot_tuple_lt PySem.F.entry_tuple_lt (PySem.F.args_tuple_lt_2 _ _) (zfD l b items C n S dd I Z G ns v hi Y)
  ⟨J,y,show eK (lexLt ns v)≠Value.notImplemented/\Q (.bool (lexLt ns v)) s from⟨(fun x=>nomatch x),h⟩⟩ U
theorem zqA{t b:ak}{v l:List ah}{Q:qV}(Y:m5 s.heap t v.toArray)(Z:m5 s.heap b l.toArray)(L:v≠[])
  (U:l=[]->Q (.ref t) s) (S:l≠[]->Q (.ref s.heap.objs.size) { s with heap:=s.heap.push { cls:=.type "tuple",data:=.seq (v++l).toArray } })
  (hsz:v.length+l.length<=sizeLine):wpAny (model prog w) A (binaryOp .Add (.ref t) (.ref b)) Q E s:=by
 obtain⟨⟨cls,dd,data,R⟩,I,hc,n,hd⟩:=id Y;obtain⟨⟨N,G,data2,C⟩,u,x,J,hd2⟩:=id Z;simp only at hc hd x hd2;subst hc hd x hd2;have e:v.toArray++l.toArray=(v++l).toArray:=by simp
 by_cases hw:l=[]
 ·exact nA ⟨_,I,rfl⟩ ⟨_,u,rfl⟩ kL mK gY gP (gz _ _)
   (tuple_addW1 t b v.toArray l.toArray n J dd G R C (by simpa using L) (by simp[hw])) ⟨I,u,U hw⟩
 ·refine nA ⟨_,I,rfl⟩ ⟨_,u,rfl⟩ kL mK gY gP (gz _ _)
   (tuple_addW2 t b v.toArray l.toArray n J dd G R C (by simpa using L) (by simpa using hw) (by rw[aG,aG];exact hsz)) ⟨I,u,?_⟩
  rw[e];exact S hw
def sIx(n d:Nat):Option Int->Nat
 | none=>d
 | some v=>if v<0 then(v+(n:Int)).toNat else min v.toNat n
theorem zdR(n d:Nat):sIx n d none=d:=rfl
theorem zhW(n d k:Nat):sIx n d (some (k:Int))=min k n:=by
 show(if (k:Int)<0 then((k:Int)+(n:Int)).toNat else min (k:Int).toNat n)=min k n
 rw[if_neg (by lia),dU]
theorem zrt(n d:Nat)(hd:d<=n)(o:Option Int):sIx n d o<=n:=by
 cases o with
 | none=>exact hd
 | some v =>
  show(if v<0 then(v+(n:Int)).toNat else min v.toNat n)<=n
  by_cases hv:v<0
  ·rw[if_pos hv];lia
  ·rw[if_neg hv];exact Nat.min_le_right _ _
theorem zmn(v:Int)(n d:Nat):(if v<0 then max (v+(n:Int)) 0 else min v (n:Int))=((sIx n d (some v):Nat):Int):=by
 show(if v<0 then max (v+(n:Int)) 0 else min v (n:Int))=(((if v<0 then(v+(n:Int)).toNat else min v.toNat n):Nat):Int)
 by_cases hv:v<0
 ·simp only[if_pos hv];lia
 ·simp only[if_neg hv];lia
theorem zkg(lo hi:Option Int)(n:Nat):gk lo hi 1 (n:Int)=(((sIx n 0 lo:Nat):Int),((sIx n n hi:Nat):Int)):=by
 have l:¬((1:Int)<0):=by lia
 unfold gk;simp only[l,if_false];refine iF ?_ ?_
 ·cases lo with
  | none=>rfl
  | some v=>exact zmn v n 0
 ·cases hi with
  | none=>rfl
  | some v=>exact zmn v n n
theorem zjO(i j:Nat):eQ (i:Int) (j:Int) 1=j - i:=by
 unfold eQ;have l:(1:Int) > 0:=by lia
 simp only[l,if_true,Int.ediv_one];split <;> lia
theorem zff{v:ah}{o:Option Int}{Q:Option Int->aq->Prop}(p:kE v o)(h:Q o s):wpAny (model prog w) A (oP v) Q E s:=by
 cases p with
 | none=>exact pH h
 | int i t=>exact slicePart_int h
theorem zbY{C:ak}{y v:ah}{lo hi:Option Int}{n:Nat}{Q:Int×Int×Nat->aq->Prop}(I:s.heap.IsSliceOf C y v .none)(pl:kE y lo)(G:kE v hi)
  (h:Q (((sIx n 0 lo:Nat):Int),1,sIx n n hi - sIx n 0 lo) s):wpAny (model prog w) A (i8 (.ref C) (pure (n:Int))) Q E s:=by
 obtain⟨os,u,J,l⟩:=id I;unfold i8 rG;refine ae (ae (cV u l (x:=y) rfl (ae (cV u l (x:=v) rfl (ae (cV u l (x:=.none) rfl (aj ?_)))))));refine ae (pH ?_);show wpAny _ _ (if ((1:Int) == 0)=true then _ else _) _ _ s
 rw[if_neg (by decide)]
 refine ae (zff pl (ae (zff G (ae (aj ?_)))));show wpAny _ _ (match gk lo hi 1 (n:Int) with|(lo,hi)=>pure (lo,(1:Int),eQ lo hi 1)) _ _ s
 rw[zkg lo hi n];show wpAny _ _ (pure (((sIx n 0 lo:Nat):Int),(1:Int),eQ ((sIx n 0 lo:Nat):Int) ((sIx n n hi:Nat):Int) 1)) _ _ s
 rw[zjO];exact aj h
theorem zni(xs:Array ah)(i k:Nat):((fw k).filterMap fun(m:Nat)=>xs[((i:Int)+(m:Int)*1).toNat]?).toArray=((xs.toList.drop i).take k).toArray:=by
 have e:(fun(m:Nat)=>xs[((i:Int)+(m:Int)*1).toNat]?)=fun m=>xs[i+m]?:=by
  funext m
  have:((i:Int)+(m:Int)*1).toNat=i+m:=by lia
  rw[this]
 rw[e];have:=u3 xs i k;rw[List.filterMap_map]at this;have u:((fun x=>xs[x]?)∘fun x=>i+x)=fun m=>xs[i+m]?:=rfl
 rw[u]at this;rw[this]
theorem zdn{t G:ak}{items:Array ah}{J L:ah}{lo hi:Option Int}{Q:qV}(u:m5 s.heap t items)(N:s.heap.IsSliceOf G J L .none)(pl:kE J lo)(R:kE L hi)
  (hw:¬(sIx items.size 0 lo=0/\sIx items.size items.size hi=items.size))
  (h:Q (.ref s.heap.objs.size) { s with heap:=s.heap.push { cls:=.type "tuple",data:=.seq ((items.toList.drop (sIx items.size 0 lo)).take (sIx items.size items.size hi - sIx items.size 0 lo)).toArray } })
  (hsz:items.size<=sizeLine):wpAny (model prog w) A (getItem (.ref t) (.ref G)) Q E s:=by
 have l:sizeOk (.seq ((items.toList.drop (sIx items.size 0 lo)).take (sIx items.size items.size hi - sIx items.size 0 lo)).toArray):=by
  show((items.toList.drop (sIx items.size 0 lo)).take (sIx items.size items.size hi - sIx items.size 0 lo)).toArray.size<=sizeLine
  rw[aG,eG,fh,cU];lia
 have Y:sIx items.size items.size hi<=items.size:=zrt _ _ (aC _) hi;obtain⟨os,x,C,S⟩:=id N;have I:s.TypeIs (.ref G) "slice":=⟨os,x,C⟩;unfold getItem
 try with_reducible refine cn ?_
 first|refine ae (aj ?_)|skip
 refine ae (nB u.typeIs (by decide) ?_)
 refine ae (dW (name:=aa "__getitem__") u.typeIs cu
  (eI cu u.typeIs mD ?_ (mU _ _)))
 show wpAny _ _ (i9 (.ref t) >>= _) _ _ s
 refine ae (tupleItemsOf_ u ?_);refine ae (gf I ?_);rw[if_pos (by decide)]
 refine ae (zbY N pl R ?_);have v:¬((((sIx items.size 0 lo:Nat):Int) == 0&&(1:Int) == 1&&(sIx items.size items.size hi - sIx items.size 0 lo) == items.size)=true):=by
  intro q;rw[aM,aM]at q;have Z:((sIx items.size 0 lo:Nat):Int)=0:=eq_of_beq q.1.1;have U:sIx items.size items.size hi - sIx items.size 0 lo=items.size:=eq_of_beq q.2;exact hw ⟨by lia,by lia⟩
 show wpAny _ _ (if (((sIx items.size 0 lo:Nat):Int) == 0&&(1:Int) == 1&&(sIx items.size items.size hi - sIx items.size 0 lo) == items.size)=true then _ else _) _ _ s
 rw[if_neg v,zni]
 first
  | exact ae (m:=eY _) (dm (aj ⟨_,rfl,aj h⟩) l)
  | exact ae (m:=eY _) (dm (ae (aj (aj ⟨_,rfl,aj h⟩))) l)
  | exact ae (ae (m:=eY _) (dm (aj (aj ⟨_,rfl,aj h⟩)) l))
  | exact ae (ae (m:=eY _) (dm (aj ⟨_,rfl,aj h⟩) l))
end
end HT
namespace L2
open PySem PySem.Spec PyProof.Rows
abbrev TO:=St->Hp->(Option Int->Hp->Prop)->Prop
def PO(X:Cx)(e:Option aX)(t:TO):Prop :=
 ∀(pins:qO) (s:aq) (σ:St) (H:Hp) (Q:Option Int->Hp->Prop),Inv X pins σ H s->t σ H Q ->
  wpAny (model X.prog X.w) X.A (evalPart e X.env) (fun u s'=>∃o l,Inv X pins σ l s'/\kE u o/\Q o l) X.xe s
def zoS:TO:=fun _ H Q=>Q none H
def zuR(t:TE):TO:=fun σ H Q=>t σ H fun x l=>∃i,x=.int i/\Q (some i) l
theorem intsAre_of{ns:List Int}:∀{u:List ah},Vals (ns.map V.int) u->fY u ns:=by
 induction ns with
 | nil=>intro u r;rw[fC]at r;cases r;exact .nil
 | cons n ns y =>
  intro u r;rw[bZ]at r;cases r with
  | cons v x =>
   obtain⟨t,e⟩:=v;subst e;exact .cons n t (y x)
section
variable{X:Cx}{e:aX}{te:TE}{lo hi:Option aX}{tl th:TO}{pos p2:Pos}
theorem zo9:PO X none zoS:=by
 intro pins s σ H Q I h;rw[evalPart_none];exact aj ⟨none,H,I,.none,h⟩
theorem zo8(h:PE X e te):PO X (some e) (zuR te):=by
 intro pins s σ H Q I hw;rw[evalPart_some];refine thn (h pins s σ H _ I hw) fun u s1 ⟨x,C,l,v,y⟩=>?_
 obtain⟨i,rfl,q⟩:=y;obtain⟨t,rfl⟩:=v;exact⟨some i,C,l,.int i t,q⟩
def SlR(X:Cx)(r:V->Option Int->Option Int->Hp->VK->Prop):Prop :=
 ∀(pins:qO) (s:aq) (σ:St) (H:Hp) (x:V) (v I C:ah) (lo hi:Option Int) (G:ak) (Q:VK),Inv X pins σ H s->RelV x v->s.heap.IsSliceOf G I C .none->kE I lo->kE C hi->r x lo hi H Q ->
  ∃T id,typeLookup (.type T) "__getitem__" = pure (some (.builtin id))/\s.TypeIs v T/\wpAny (model X.prog X.w) X.A (getItem v (.ref G)) (EP X pins σ Q) X.xe s
theorem SlR.or{r u:V->Option Int->Option Int->Hp->VK->Prop}(h:SlR X r)(h':SlR X u):SlR X (fun x lo hi H Q=>r x lo hi H Q\/u x lo hi H Q):=by
 intro pins s σ H x v l y lo hi G Q I L J pl C q;rcases q with q|q
 ·exact h pins s σ H x v l y lo hi G Q I L J pl C q
 ·exact h' pins s σ H x v l y lo hi G Q I L J pl C q
def tSl(r:V->Option Int->Option Int->Hp->VK->Prop)(te:TE)(tl th:TO):TE:=fun σ H Q=>te σ H fun x v=>tl σ v fun l C=>th σ C fun u y=>r x l u y Q
theorem ziY{r:V->Option Int->Option Int->Hp->VK->Prop}(hr:SlR X r)(N:PE X e te)(L:PO X lo tl)(hu:PO X hi th):PE X (.Subscript e (.Slice lo hi none p2) pos) (tSl r te tl th):=by
 intro pins s σ H Q I h;refine pI (thn (N pins s σ H _ I h) fun v s1 ⟨x,H1,I1,r1,q1⟩=>?_)
 refine wpAny_Slice (thn (L pins s1 σ H1 _ I1 q1) fun C s2 ⟨l,Z,U,pl,q2⟩=>thn (hu pins s2 σ Z _ U q2) fun G s3 ⟨u,J,I3,pu,R⟩=>?_)
 rw[evalPart_none];refine aj ?_;have Y:Inv X pins σ J { s3 with heap:=s3.heap.push { cls:=.type "slice",data:=.fields #[C,G,.none] } }:=I3.kept (t':=s3.toks) fun b ob q=>av _ q
 obtain⟨T,id,hT,ht,hg⟩:=hr pins { s3 with heap:=s3.heap.push { cls:=.type "slice",data:=.fields #[C,G,.none] } } σ J x v C G l u s3.heap.objs.size Q Y r1 (wO ..) pl pu R
 show wpAny (model X.prog X.w) X.A (subscriptTail e (.Slice lo hi none p2) v (.ref s3.heap.objs.size)) (EP X pins σ Q) X.xe { s3 with heap:=s3.heap.push { cls:=.type "slice",data:=.fields #[C,G,.none] } }
 exact tail_any (ops:=[.ref s3.heap.objs.size,v]) ht hT hg (by with_unfolding_all rfl)
def cutV(xs:List V)(lo hi:Option Int):List V:=(xs.drop (HT.sIx xs.length 0 lo)).take (HT.sIx xs.length xs.length hi - HT.sIx xs.length 0 lo)
theorem zeR(xs:List V)(lo hi:Option Int):(cutV xs lo hi).length<=xs.length:=by
 unfold cutV;rw[eG,fh];lia
def rSlT(K:qF):V->Option Int->Option Int->Hp->VK->Prop:=fun x lo hi H Q=>∃a xs,x=.ref a/\SqT K H a xs /\
 ¬(HT.sIx xs.length 0 lo=0/\HT.sIx xs.length xs.length hi=xs.length)/\∀p,H p=none->Q (.ref p) (upd H p (.tup (cutV xs lo hi)))
theorem zrc:SlR X (rSlT X.K):=by
 intro pins s σ H x v S U lo hi Y Q I N L pl J h;obtain⟨a,xs,rfl,hx,hw,q⟩:=h;cases N;obtain⟨y,r,G,C⟩:=I.tuple hx;have l:y.toArray.size=xs.length:=by rw[aG];exact r.length.symm
 refine⟨"tuple",_,cu.lookup,G.typeIs,?_⟩;refine HT.zdn G L pl J (by rw[l];exact hw) ?_ (by rw[l];exact C)
 rw[l];refine⟨.ref s.heap.objs.size,_,I.laid (t':=s.toks) (o:=.tup (cutV xs lo hi)) (fun b R q=>av _ q) (aC _) ?_,rfl,q _ (I.hok.fresh (aC _))⟩
 exact⟨cH (zeR xs lo hi) C,_,(r.drop (HT.sIx xs.length 0 lo)).take (HT.sIx xs.length xs.length hi - HT.sIx xs.length 0 lo),IsTD.new _ _⟩
def rLtT(K:qF):R2:=fun x y H Q=>∃a b ns u,x=.ref a/\y=.ref b/\SqT K H a (ns.map V.int)/\SqT K H b (u.map V.int)/\Q (.bl (HT.lexLt ns u)) H
theorem zr9(R:X.A.units<cLine):OpR X (compareOp .Lt) (rLtT X.K):=by
 intro pins s σ H x y v u Q I rx ry h;obtain⟨a,b,ns,J,rfl,rfl,Z,hb,q⟩:=h;cases rx;cases ry;obtain⟨G,U,N,_⟩:=I.tuple Z;obtain⟨C,Y,p2,_⟩:=I.tuple hb;have i1:fY G.toArray.toList ns:=intsAre_of U;have S:fY C.toArray.toList J:=intsAre_of Y;exact HT.zfn N p2 i1 S R ⟨.bl (HT.lexLt ns J),H,I,rfl,q⟩
def zvy(K:qF):R2:=fun x y H Q=>∃a b xs ys,x=.ref a/\y=.ref b/\SqT K H a xs/\SqT K H b ys/\xs≠[]/\xs.length+ys.length<=sizeLine /\
 (ys=[]->Q (.ref a) H)/\(ys≠[]->∀p,H p=none->Q (.ref p) (upd H p (.tup (xs++ys))))
theorem Vals.nil_iff{xs:List V}{l:List ah}(r:Vals xs l):l=[]↔xs=[]:=by
 cases r with
 | nil=>simp
 | cons _ _=>simp
theorem zpp:OpR X (binaryOp .Add) (zvy X.K):=by
 intro pins s σ H x y v u Q I rx Y h;obtain⟨a,b,xs,ys,rfl,rfl,S,U,hx,J,Z,N⟩:=h;cases rx;cases Y;obtain⟨R,C,L,_⟩:=I.tuple S;obtain⟨G,l,p2,_⟩:=I.tuple U;refine HT.zqA L p2 (fun z=>hx (C.nil_iff.mp z)) (fun z=>⟨.ref a,H,I,rfl,Z (l.nil_iff.mp z)⟩) (fun z=>?_) (by rw[<- C.length,<- l.length];exact J)
 refine⟨.ref s.heap.objs.size,_,I.laid (t':=s.toks) (o:=.tup (xs++ys)) (fun b ob q=>av _ q) (aC _) ?_,rfl,N (fun w=>z (l.nil_iff.mpr w)) _ (I.hok.fresh (aC _))⟩
 exact⟨by rw[aT];exact J,_,C.append l,IsTD.new _ _⟩
end
def ixN(n:Nat)(i:Int):Option Nat:=if 0<=i then(if i<n then some i.toNat else none) else if -(n:Int)<=i then some (i+n).toNat else none
def atI{α:Type}(xs:List α)(i:Int):Option α:=(ixN xs.length i).bind fun j=>xs[j]?
theorem zlK{n:Nat}{i:Int}{j:Nat}(h:ixN n i=some j):seqIndex? i n=some j/\j<n/\-(n:Int)<=i/\i<n:=by
 unfold ixN at h
 by_cases h0:0<=i
 ·rw[if_pos h0]at h
  by_cases h1:i<n
  ·rw[if_pos h1]at h;have e:i.toNat=j:=aO h;exact⟨by rw[oF h0 h1,e],by lia,by lia,h1⟩
  ·rw[if_neg h1]at h;cases h
 ·rw[if_neg h0]at h
  by_cases h1:-(n:Int)<=i
  ·rw[if_pos h1]at h;have e:(i+n).toNat=j:=aO h;exact⟨by rw[nE (by lia) h1,e],by lia,h1,by lia⟩
  ·rw[if_neg h1]at h;cases h
theorem ziz{α:Type}{xs:List α}{i:Int}{v:α}(h:atI xs i=some v):∃j,seqIndex? i xs.length=some j/\xs[j]?=some v/\j<xs.length/\-(xs.length:Int)<=i/\i<xs.length:=by
 unfold atI at h;cases e:ixN xs.length i with
 | none=>rw[e]at h;cases h
 | some j =>
  rw[e]at h;obtain⟨x,u,l,y⟩:=zlK e;exact⟨j,x,h,u,l,y⟩
theorem zqJ{α:Type}{xs:List α}{j:Nat}{v:α}(h:xs[j]?=some v):atI xs (j:Int)=some v:=by
 have l:j<xs.length:=(ax.mp h).1;have e:ixN xs.length (j:Int)=some j:=by
  unfold ixN;rw[if_pos (by lia),if_pos (by lia)];simp
 unfold atI;rw[e];exact h
def zmz(b:aX):Prop:=∀o i,subscripted b false o i=operate [o,i] (getItem o i)
def IxR(X:Cx)(r:R2):Prop :=
 ∀(value slice:aX) (pins:qO) (s:aq) (σ:St) (H:Hp) (x y:V) (v u:ah) (Q:VK),Inv X pins σ H s->RelV x v->RelV y u->r x y H Q ->
  subscripted slice false v u=operate [v,u] (getItem v u)->wpAny (model X.prog X.w) X.A (subscriptTail value slice v u) (EP X pins σ Q) X.xe s
def MtR(X:Cx)(id:String)(r:V->List V->Hp->VK->Prop):Prop :=
 ∀(pins:qO) (s:aq) (σ:St) (H:Hp) (x:V) (xs:List V) (v:ah) (y:List ah) (Q:VK),Inv X pins σ H s->RelV x v->Vals xs y->r x xs H Q ->
  wpAny (model X.prog X.w) X.A (call (.builtin id) (v::y)) (EP X pins σ Q) X.xe s
section
variable{X:Cx}{a b:aX}{ta tb:TE}{pos:Pos}
theorem IxR.or{r l:R2}(h:IxR X r)(h':IxR X l):IxR X (fun x y H Q=>r x y H Q\/l x y H Q):=by
 intro value slice pins s σ H x y v u Q I J C q G;rcases q with q|q
 ·exact h value slice pins s σ H x y v u Q I J C q G
 ·exact h' value slice pins s σ H x y v u Q I J C q G
theorem Uj{r:R2}(N:IxR X r)(G:PE X a ta)(J:PE X b tb)(R:zmz b):PE X (.Subscript a b pos) (tOp r ta tb):=by
 intro pins s σ H Q I h;exact pI (binT G J I h fun v u s2 x y C l U L q=>N a b pins s2 σ C x y v u Q l U L q (R _ _))
def rIxL(K:qF):R2:=fun x y H Q=>∃p xs i v,x=.ref p/\y=.int i/\SqL K H p xs/\atI xs i=some v/\Q v H
def rIxT(K:qF):R2:=fun x y H Q=>∃p xs i v,x=.ref p/\y=.int i/\SqT K H p xs/\atI xs i=some v/\Q v H
def rIxS:R2:=fun x y H Q=>∃z i c,x=.str z/\y=.int i/\z.length<=sizeLine/\atI z.cps.toList i=some c/\Q (.str ⟨#[c]⟩) H
theorem UB:IxR X (rIxL X.K):=by
 intro value slice pins s σ H x y v u Q I rx ry h R;obtain⟨p,xs,i,z,rfl,rfl,S,Y,q⟩:=h;cases rx;obtain⟨t,rfl⟩:=ry;obtain⟨G,r,pl,hz⟩:=I.list S;obtain⟨j,l,h2,h3,Z,h5⟩:=ziz Y;obtain⟨w,L,C⟩:=r.get h2;have U:=r.length;have hn:=UO;have fin:EP X pins σ Q w s:=⟨z,H,I,C,q⟩
 by_cases h0:0<=i
 ·have J:i.toNat=j:=by
   rw[oF h0 h5]at l;exact aO l
  exact item_listR pl.isList h0 (by lia) (by rw[J];simpa using L) fin R
 ·have J:(i+(G.toArray.size:Int)).toNat=j:=by
   rw[nE (by lia) Z]at l
   rw[aG,<- U];exact aO l
  exact kW (x:=w) pl.isList.typeIs nF.lookup
   (wpAny_getItem_list_neg (Q:=fun r s'=>r=w/\EP X pins σ Q r s') pl.isList (by lia) (by rw[aG] <;> lia) (by lia) (by rw[J];simpa using L) ⟨rfl,fin⟩) R
theorem zs1:IxR X (rIxT X.K):=by
 intro value slice pins s σ H x y v u Q I Z U h Y;obtain⟨p,xs,i,z,rfl,rfl,C,J,q⟩:=h;cases Z;obtain⟨t,rfl⟩:=U;obtain⟨R,r,pl,hz⟩:=I.tuple C;obtain⟨j,N,L,h3,h4,h5⟩:=ziz J;obtain⟨w,S,l⟩:=r.get L;have G:=r.length;have hn:=UO;have fin:EP X pins σ Q w s:=⟨z,H,I,l,q⟩;exact kW (x:=w) pl.typeIs slot_tuple_getitem.lookup
  (getItem_tuple (j:=j) (Q:=fun r s'=>r=w/\EP X pins σ Q r s') pl (by lia) (by lia) (by rw[aG,<- G];exact N) (by simpa using S) ⟨rfl,fin⟩) Y
theorem zs2:IxR X rIxS:=by
 intro value slice pins s σ H x y v u Q I Y R h S;obtain⟨z,i,c,rfl,rfl,hz,G,q⟩:=h;obtain⟨t,rfl⟩:=Y;obtain⟨t',rfl⟩:=R;obtain⟨j,l,L,h3,J,N⟩:=ziz G;have C:z.cps.toList.length=z.length:=by simp[kX]
 rw[C]at l J N;have hn:=UO;exact tail_any (pJ s z t) slot_str_getitem.lookup (getItem_str (c:=c) (by
  have U:decide (i < -(2 ^ 63:Int))=false:=decide_eq_false (by lia)
  have Z:decide (i>=2 ^ 63)=false:=decide_eq_false (by lia)
  rw[U,Z,Bool.or_false]) (by rw[l];simpa using L) ⟨.str ⟨#[c]⟩,H,I.tok _,⟨_,rfl⟩,q⟩) S
def rIx(K:qF):R2:=fun x y H Q=>rIxL K x y H Q\/rIxT K x y H Q\/rIxS x y H Q
theorem zs3:IxR X (rIx X.K):=UB.or (zs1.or zs2)
theorem zj2(l:List ah)(n j:Nat)(u:ah):eZ (·.setIfInBounds j u) { cls:=.type "list",data:=.seq l.toArray n }={ cls:=.type "list",data:=.seq (l.set j u).toArray n }:=by
 simp[eZ]
theorem Inv.lst{pins:qO}{σ:St}{H:Hp}{s:aq}{p:ak}{xs:List V}(I:Inv X pins σ H s)(h:H p=some (.lst xs)) :
  ∃(u:List ah) (n:Nat),Vals xs u/\s.heap.get? p=some { cls:=.type "list",data:=.seq u.toArray n }/\xs.length<=sizeLine:=by
 obtain⟨z,u,n,r,e⟩:=I.hok p _ h;exact⟨u,n,r,e,z⟩
theorem Inv.lstUpd{pins:qO}{σ:St}{H:Hp}{s:aq}{p:ak}{xs ys:List V}{v its':List ah}{n C:Nat}{f:Obj->Obj}(I:Inv X pins σ H s)(h:H p=some (.lst xs))
  (J:s.heap.get? p=some { cls:=.type "list",data:=.seq v.toArray n }) (hf:f { cls:=.type "list",data:=.seq v.toArray n }={ cls:=.type "list",data:=.seq its'.toArray C }) (r:Vals ys its') (G:ys.length<=sizeLine) (t:Nat) :
  Inv X pins σ (upd H p (.lst ys)) { s with heap:=s.heap.update p f,toks:=t }:=by
 have e:(s.heap.update p f).get? p=some { cls:=.type "list",data:=.seq its'.toArray C }:=by
  rw[lJ f J (by rw[hf] <;> rfl),hf]
 refine I.write (x:=p) (e:=p) (by rw[h];trivial) (.inl rfl) (fun b u L q=>(kY _ _ (kS L)).trans q) ⟨_,e⟩ ?_
 exact⟨G,its',C,r,e⟩
def zvx:V->V->V->Hp->(Hp->Prop)->Prop:=fun o i v H Q=>∃p xs k j,o=.ref p/\i=.int k/\H p=some (.lst xs)/\ixN xs.length k=some j/\Q (upd H p (.lst (xs.set j v)))
theorem set_list:PSet X zvx:=by
 intro pins s σ H o i v ov iv u Q I ro Z rv h;obtain⟨p,xs,k,j,rfl,rfl,L,hj,q⟩:=h;cases ro;obtain⟨t,rfl⟩:=Z;obtain⟨x,n,r,G,Y⟩:=I.lst L;obtain⟨y,h2,U,R⟩:=zlK hj;have C:=r.length;have hn:=UO;have S:Inv X pins σ (upd H p (.lst (xs.set j v))) { s with heap:=s.heap.update p (eZ (·.setIfInBounds j u)) } :=
  I.lstUpd L G (zj2 x n j u) (r.set rv j) (by rw[fH];exact Y) s.toks
 by_cases h0:0<=k
 ·have J:k.toNat=j:=by
   rw[oF h0 R]at y;exact aO y
  exact PySem.W.ki_setAt G h0 (by lia) (by rw[aG,<- C];exact R) (by rw[J];exact⟨_,S,q⟩)
 ·have J:(k+(x.toArray.size:Int)).toNat=j:=by
   rw[nE (by lia) U]at y
   rw[aG,<- C];exact aO y
  exact PySem.W.ki_setBack G (by lia) (by rw[aG,<- C];exact U) (by lia) (by rw[J];exact⟨_,S,q⟩)
theorem zgs(lo hi:Option Int)(n:Nat):(sliceBounds lo hi none n).1=((HT.sIx n 0 lo:Nat):Int)/\(sliceBounds lo hi none n).2.1=((HT.sIx n n hi:Nat):Int)/\(sliceBounds lo hi none n).2.2=1:=by
 refine⟨?_,?_,rfl⟩
 ·cases lo with
  | none=>simp[sliceBounds,HT.sIx]
  | some i =>
   simp only[sliceBounds,HT.sIx,oa,show(1:Int) > 0 by decide,if_true]
   by_cases h:i<0
   ·simp only[h,if_true] <;> lia
   ·simp only[h,if_false] <;> lia
 ·cases hi with
  | none=>simp[sliceBounds,HT.sIx]
  | some i =>
   simp only[sliceBounds,HT.sIx,oa,show(1:Int) > 0 by decide,if_true]
   by_cases h:i<0
   ·simp only[h,if_true] <;> lia
   ·simp only[h,if_false] <;> lia
theorem zfE(l:List ah)(lo hi:Option Int):slicePick l.toArray lo hi none=((l.drop (HT.sIx l.length 0 lo)).take (HT.sIx l.length l.length hi - HT.sIx l.length 0 lo)).toArray:=by
 obtain⟨x,v,u⟩:=zgs lo hi l.toArray.size;unfold slicePick;rw[x,v,u];simp only[pK,u3,aG] <;> rfl
def rSlL(K:qF):V->Option Int->Option Int->Hp->VK->Prop:=fun x lo hi H Q=>∃a xs,x=.ref a/\SqL K H a xs/\∀p,H p=none->Q (.ref p) (upd H p (.lst (cutV xs lo hi)))
theorem zoV:SlR X (rSlL X.K):=by
 intro pins s σ H x v S U lo hi Y Q I N L pl G h;obtain⟨a,xs,rfl,hx,q⟩:=h;cases N;obtain⟨J,r,y,C⟩:=I.list hx;have u:=r.length;refine⟨"list",_,nF.lookup,y.isList.typeIs,?_⟩;refine wpAny_getItem_list_slice y.isList L pl G .none (by simp) ?_ (by rw[aG] <;> lia)
 rw[zfE,<- u];refine⟨.ref s.heap.objs.size,_,I.laid (t':=s.toks) (o:=.lst (cutV xs lo hi)) (fun b R q=>av _ q) (aC _) ?_,rfl,q _ (I.hok.fresh (aC _))⟩
 exact⟨cH (zeR xs lo hi) C,_,0,(r.drop (HT.sIx xs.length 0 lo)).take (HT.sIx xs.length xs.length hi - HT.sIx xs.length 0 lo),aI _ rfl⟩
theorem zhE:JU X (.builtin "len") (fun xs H Q=>∃p ys,xs=[.ref p]/\(SqL X.K H p ys\/SqT X.K H p ys)/\Q (.int ys.length) H):=by
 intro pins s σ H xs L Q I r h;obtain⟨p,ys,rfl,x,q⟩:=h;obtain⟨u,rfl,J⟩:=vals1 r;cases J;have N:=UO;rcases x with x|x
 ·obtain⟨C,y,pl,G⟩:=I.list x;have v:=y.length;exact mC pl.isList (by simp only[aG] <;> lia) ⟨.int ys.length,H,I.tok _,⟨s.toks+1,by rw[aG,v]⟩,q⟩
 ·obtain⟨C,y,pl,G⟩:=I.tuple x;have v:=y.length;exact len_tuple pl (by simp only[aG] <;> lia) ⟨.int ys.length,H,I.tok _,⟨s.toks+1,by rw[aG,v]⟩,q⟩
theorem Uf:JU X (.type "tuple") (fun xs H Q=>∃p ys,xs=[.ref p]/\((SqL X.K H p ys/\∀l,H l=none->Q (.ref l) (upd H l (.tup ys)))\/(SqT X.K H p ys/\Q (.ref p) H))):=by
 intro pins s σ H xs S Q I r h;obtain⟨p,ys,rfl,h⟩:=h;obtain⟨u,rfl,R⟩:=vals1 r;cases R;rcases h with⟨x,q⟩|⟨x,q⟩
 ·obtain⟨v,C,pl,G⟩:=I.list x;have L:=C.length;refine call_tuple_list pl.isList (fun h' kp=>?_) (by simp only[aG] <;> lia)
  have J:Inv X pins σ H { s with heap:=h' }:=I.kept (t':=s.toks) kp
  have N:Inv X pins σ (upd H h'.objs.size (.tup ys)) { s with heap:=h'.push { cls:=.type "tuple",data:=.seq v.toArray } } :=
   J.laid (t':=s.toks) (fun b o e=>av _ e) (aC _) (show JL X.prog X.w _ _ _ (.tup ys) from⟨G,v,C,IsTD.new _ _⟩)
  exact⟨.ref h'.objs.size,_,N,rfl,q _ (J.hok.fresh (aC _))⟩
 ·obtain⟨v,C,pl,G⟩:=I.tuple x;exact call_tuple_same pl ⟨.ref p,H,I,rfl,q⟩
def tyV(K:qF)(T:String)(x:V)(H:Hp):Prop:=match x with
 | .str _=>T = "str"
 | .int _=>T = "int"
 | .ref p=>(T = "list" /\ ∃xs,SqL K H p xs)\/(T = "tuple" /\ ∃o,K.lookup p=some o/\o.cls=.type "tuple" /\ o.dict=none) \/
   (T = "dict" /\ ((∃l,H p=some (.dK l))\/∃l,H p=some (.dT l)))\/(T = "set" /\ ∃S n,H p=some (.set S n))
 | _=>False
theorem zog{pins:qO}{σ:St}{H:Hp}{s:aq}{T:String}{x:V}{v:ah}(I:Inv X pins σ H s)(r:RelV x v)(ty:tyV X.K T x H) :
  s.TypeIs v T/\∀a,v=.ref a->∃C,s.heap.get? a=some C/\C.dict=none:=by
 cases x with
 | str z =>
  obtain⟨t,rfl⟩:=r;cases(show T = "str" from ty)
  exact⟨pJ s z t,fun _ e=>nomatch e⟩
 | int i =>
  obtain⟨t,rfl⟩:=r;cases(show T = "int" from ty)
  exact⟨typeIs_int s i t,fun _ e=>nomatch e⟩
 | ref p =>
  cases r;rcases ty with⟨rfl,xs,G⟩|⟨rfl,o,l,hc,hd⟩|⟨rfl,l⟩|⟨rfl,S,n,l⟩
  ·obtain⟨J,_,pl,_⟩:=I.list G;refine⟨pl.isList.typeIs,fun a e=>?_⟩
   cases e;obtain⟨o,n,e,c,hd,_⟩:=pl;exact⟨o,e,hd⟩
  ·refine⟨⟨o,I.kIn p o l,hc⟩,fun a e=>?_⟩
   cases e;exact⟨o,I.kIn _ o l,hd⟩
  ·have z:∃o,s.heap.get? p=some o/\o.ExactDict:=by
    rcases l with⟨u,l⟩|⟨u,l⟩
    ·obtain⟨_,_,_,_,o,_,_,e,ex,_⟩:=I.hok p _ l;exact⟨o,e,ex⟩
    ·obtain⟨_,_,_,_,o,_,_,e,ex,_⟩:=I.hok p _ l;exact⟨o,e,ex⟩
   obtain⟨o,e,ex⟩:=z;refine⟨⟨o,e,ex.1⟩,fun a y=>?_⟩
   cases y;exact⟨o,e,ex.2.1⟩
  ·obtain⟨o,_,_,_,e,ex,_⟩:=I.hok p _ l;refine⟨⟨o,e,ex.1⟩,fun a y=>?_⟩
   cases y;exact⟨o,e,ex.2.1⟩
 | _=>exact cB ty
def tBM0(K:qF)(T:String)(r:V->List V->Hp->VK->Prop)(to:TE):TE:=fun σ H Q=>to σ H fun x l=>tyV K T x l/\r x [] l Q
def tBM(K:qF)(T:String)(r:V->List V->Hp->VK->Prop)(to:TE)(t:TA):TE:=fun σ H Q=>to σ H fun x l=>tyV K T x l/\t σ l fun xs u=>r x xs u Q
variable{o e:aX}{es:List aX}{to:TE}{t:TA}{name:Str}{apos Iw:Pos}{T id:String}{r:V->List V->Hp->VK->Prop}
theorem zrZ(pa:PlainAttrs T)(slot:Slot T name id)(G:typeOf (.builtin id)=pure (.type "method_descriptor")) (Z:MtR X id r) (S:PE X o to)
  (R:attributeBase o name X.env (eval o X.env)=eval o X.env:=by rfl) (N:(apos.endLine == Iw.line)=true:=by rfl):PE X (.Call (.Attribute o name apos) [] [] Iw) (tBM0 X.K T r to):=by
 intro pins s σ H Q I h;refine wpAny_Call_method0_late R N (thn (S pins s σ H _ I h) fun v s1 ⟨x,H1,J,L,ty,q1⟩=>?_)
 obtain⟨Y,U⟩:=zog J L ty;exact⟨T,id,pa,slot,G,Y,U,kZ rfl (PySem.evalArgs_none (Z pins s1 σ H1 x [] v [] Q J L .nil q1))⟩
theorem zpf(pa:PlainAttrs T)(slot:Slot T name id)(G:typeOf (.builtin id)=pure (.type "method_descriptor")) (hm:MtR X id r) (ho:PE X o to) (ha:PA X (e::es) t)
  (Ib:attributeBase o name X.env (eval o X.env)=eval o X.env:=by rfl)
  (S:((backTo Iw (starEach (e::es) X.env)).all (fun x=>!x.1)&&(backToKw Iw (keywordEach [] X.env)).all (fun x=>x.1.isSome)
   && decide ((e::es).length+([]:List tQ).length+(if ([]:List tQ).isEmpty then 0 else 1)<30))=true:=by rfl)
  (R:(apos.endLine == Iw.line)=true:=by rfl) (hs:starEach (e::es) X.env=(false,eval e X.env)::starEach es X.env:=by rfl) (Z:(backTo Iw (starEach es X.env)).any (·.1)=false:=by rfl) :
  PE X (.Call (.Attribute o name apos) (e::es) [] Iw) (tBM X.K T r to t):=by
 intro pins s σ H Q I h;refine wpAny_Call_method_late Ib S R rfl (thn (ho pins s σ H _ I h) fun v s1 ⟨x,H1,L,N,ty,q1⟩=>?_)
 obtain⟨h1,h2⟩:=zog L N ty;refine⟨T,id,pa,slot,G,h1,h2,?_⟩;have J:=ha Iw pins s1 σ H1 _ L q1;rw[hs]at J ⊢;refine kZ (by show(false||(backTo Iw (starEach es X.env)).any (·.1))=false;rw[Z] <;> rfl) (Calls.evalArgs_plain ?_)
 exact thn J fun us s2 ⟨vs,Y,U,r2,q2⟩=>hm pins s2 σ Y x vs v us Q U N r2 q2
end
def MtM(X:Cx)(id:String)(r:V->List V->Hp->VK->Prop):Prop :=
 ∀(pins:qO) (s:aq) (σ:St) (H:Hp) (x:V) (xs:List V) (v:ah) (y:List ah) (Q:VK),Inv X pins σ H s->RelV x v->Vals xs y->r x xs H Q ->
  wpAny (model X.prog X.w) X.A (call (.builtin id) (v::y)) (EP X pins σ Q) X.xe s
theorem Vals.one{x:V}{l:List ah}(h:Vals [x] l):∃u,l=[u]/\RelV x u:=by
 cases h with
 | cons r t=>cases t;exact⟨_,rfl,r⟩
section
variable{X:Cx}{pins:qO}{σ:St}{H:Hp}{s:aq}{l b:ak}{xs ys zs:List V}
theorem Inv.lset{v its':List ah}{n:Nat}{f:Array ah->Array ah}{t':Nat}(I:Inv X pins σ H s)(C:H l=some (.lst xs))
  (e:s.heap.get? l=some { cls:=.type "list",data:=.seq v.toArray n }) (hf:f v.toArray=its'.toArray) (L:Vals ys its') (G:ys.length<=sizeLine) :
  Inv X pins σ (upd H l (.lst ys)) { s with heap:=s.heap.update l (eZ f),toks:=t' }:=by
 have q:=PySem.IsL.update e f;rw[hf]at q;refine I.write (x:=l) (e:=l) (by rw[C];exact trivial) (.inl rfl) (fun R u N J=>(kY s.heap (eZ f) (kS N)).trans J) ⟨_,q⟩ ?_
 exact⟨G,its',_,L,q⟩
theorem Inv.lnew{u:List ah}{t':Nat}(I:Inv X pins σ H s)(x:Vals ys u)(v:ys.length<=sizeLine) :
  Inv X pins σ (upd H s.heap.objs.size (.lst ys)) { s with heap:=s.heap.push { cls:=.type "list",data:=.seq u.toArray },toks:=t' } :=
 I.laid (fun _ _ q=>av _ q) (aC _) ⟨v,u,0,x,aI _ rfl⟩
theorem Inv.fresh(I:Inv X pins σ H s):H s.heap.objs.size=none:=I.hok.fresh (aC _)
theorem Inv.lstM(I:Inv X pins σ H s)(v:H l=some (.lst xs)):xs.length<=sizeLine/\∃(u:List ah) (n:Nat),Vals xs u/\xs.length=u.length/\s.heap.get? l=some { cls:=.type "list",data:=.seq u.toArray n }:=by
 obtain⟨z,u,n,r,e⟩:=I.hok l _ v;exact⟨z,u,n,r,r.length,e⟩
end
section
variable{X:Cx}
def zo1:V->List V->Hp->VK->Prop:=fun x u H Q=>∃l xs y,x=.ref l/\u=[y]/\H l=some (.lst xs)/\xs.length<sizeLine/\Q .non (upd H l (.lst (xs++[y])))
theorem zes:MtM X "list.append" zo1:=by
 intro pins s σ H x Y v U Q I N L h;obtain⟨l,xs,y,rfl,rfl,G,S,q⟩:=h;cases N;obtain⟨u,rfl,J⟩:=L.one;obtain⟨z,C,n,r,R,e⟩:=I.lstM G;refine call_meets F.slot_list_append ⟨_,e,rfl⟩ F.entry_list_append (F.args_list_append_2 _ _) (PySem.list_append l C.toArray n u (by rw[aG];lia)) ⟨e,?_⟩
 refine⟨.non,_,I.lset (its':=C++[u]) G e (by simp) (r.append (.cons J .nil)) ?_,rfl,q⟩
 rw[aT,List.length_singleton];lia
def rCat:R2:=fun x y H Q=>∃l b xs zs,x=.ref l/\y=.ref b/\H l=some (.lst xs)/\H b=some (.lst zs)/\xs.length+zs.length<=sizeLine/\∀p,H p=none->Q (.ref p) (upd H p (.lst (xs++zs)))
theorem zsf:OpR X (binaryOp .Add) rCat:=by
 intro pins s σ H x y v u Q I Y S h;obtain⟨l,b,xs,zs,rfl,rfl,L,U,hz,q⟩:=h;cases Y;cases S;obtain⟨z,G,n,r,hl,e⟩:=I.lstM L;obtain⟨z2,C,n2,N,J,Z⟩:=I.lstM U;refine PySem.P.add_list e Z ?_ (by rw[aG,aG];lia)
 have R:G.toArray++C.toArray=(G++C).toArray:=by simp
 rw[R];exact⟨.ref _,_,I.lnew (t':=s.toks) (r.append N) (by rw[aT];lia),rfl,q _ I.fresh⟩
end
end L2
namespace Att
open PySem PySem.W PySem.Calls PyProof.Rows
theorem zeA{P:pL}{h:aY}:∀(ns:List Int) (u:List ah),WellAll P h u (ns.map yu)->fY u ns:=by
 intro ns;induction ns with
 | nil =>
  intro u w;rw[fC]at w;cases w;exact .nil
 | cons n ns v =>
  intro u w;rw[bZ]at w;cases w with
  | cons a b =>
   cases a;exact .cons _ _ (v _ b)
theorem zkv{l:OpenLaw}{n:Nat}(Z:l.most=some n){P:pL}{h:aY}{args:List WData}{vals:List ah}
  (I:l.row.toRowW.claim.pre args=true) (G:WellAll P h vals args) :
  ∃a J ns,vals=[cG a]/\args=[WData.list (ns.map yu)]/\h.get? a=some { cls:=.type "list",data:=.seq J.toArray }/\fY J ns/\ns.length<=n:=by
 have C:WShape.hasAll [] args [.list .int]=true:=(pre_splitW I).1;have hc:l.pre.holds [] { args:=args }=true:=(pre_splitW I).2;obtain⟨d,r,rfl,U,R⟩:=hasAllW_cons C;obtain rfl:=hasAllW_nil R;obtain⟨xs,rfl,Y⟩:=hasW_list U;obtain⟨ns,rfl⟩:=items_int Y;have u:ns.length<=n:=by
  unfold OpenLaw.pre at hc;have v:(WTm.not (.lt (.lit (.int (n:Int))) (.len (.arg 0)))).holds [] { args:=[.list (ns.map .int)] }=true:=by
   have v:=(holds_andW hc).1;rw[Z]at v;exact v
  have x:=condW_of v (w_not (w_lt w_lit (w_len_list (w_arg rfl))));rw[aZ]at x;refine og fun q=>?_
  have q':(n:Int)<((ns.length:Nat):Int):=by lia
  first
   | (rw[decide_eq_true q']at x;exact absurd x (by decide))
   | (simp at x;lia)
 cases G with
 | cons w1 N =>
  cases N;cases w1 with
  | list S L=>exact⟨_,_,ns,rfl,rfl,S,zeA ns _ L,u⟩
theorem zkM(l:OpenLaw)(args:List WData):l.row.toRowW.claim.post args (.bool true) args=true :=
 postW_of (r:=l.row.toRowW) (X:=(true == true))
  (show wY [] (.bool true) .bool=true by first|rfl|decide|simp[wY,WShape.arms,WShape.armsAll])
  (show(WTm.eq .res (.lit (.bool true))).value [] { args:=args,res:=some (.bool true),after:=args }=some (.bool (true == true)) from w_eq_bool (w_res rfl) w_lit) rfl
theorem attach_call{l:OpenLaw}{n:Nat}{q:aK}{loose:List Str}{XP:(Str->Option ah)->aY->Prop}{YP:aW->aY->Prop}{d:DefRec}
  (hn:l.most=some n) (S:d.params.defaults=[])
  (call:∀(w:aW) (s₀ v:aq) (mg N:qM) (L:ak) (o:Obj) (pm cd doc:ah) (a:ak) (C:List ah) (ns:List Int),
   Ground q loose [] XP w s₀ mg N v.heap->YP w v.heap ->
   v.heap.get? L=some o->o.data=.func (docDef d.name d.params d.body d.scope pm cd doc)->v.heap.CodeRec cd d.name->mg d.name=some (.ref L) ->
   v.heap.get? a=some { cls:=.type "list",data:=.seq C.toArray }->fY C ns->ns.length<=n->v.gens=#[] ->
   codeAny (model l.prog w) callerA (.call (.ref L) ⟨[.ref a],[]⟩) (fun r s'=>r=.ok (.ret (.bool true))/\OldK v.heap s'.heap/\s'.os=v.os/\iA s'.gens) v) :
  WalkO q loose XP YP l.row.toRowW d [] (fun f C=>wZ f C):=by
 intro w s₀ v mg N G Y L o pm cd doc dV kV ho hd U hD R hg args vals as Kh hlay hrd Z hlo;obtain rfl:dV=.none:=Dflts.none hD S;obtain rfl:kV=.none:=Dflts.noKw hD;obtain⟨a,C,ns,rfl,rfl,J,x,I⟩:=zkv hn Kh Z;refine enter_call (gV (call w s₀ v mg N L o pm cd doc a C ns G Y ho (fd_plain hd) U R J x I hg) fun r s' hq=>?_)
 obtain⟨rfl,h2,h3,h4⟩:=hq;exact⟨.inl ⟨.bool true,.bool true,[],rfl,fun _=>rfl,.bool true,zkM l _,fun _=>⟨fP,fun _ hm=>(nomatch hm)⟩⟩,h2,h3,h4⟩
end Att
namespace L2
open PySem PySem.Spec PyProof.Rows
theorem zgd:∀{u:List ah}{ns:List Int},fY u ns->Vals (ns.map V.int) u
 | _,_,.nil=>.nil
 | _,_,.cons n t h=>.cons ⟨t,rfl⟩ (zgd h)
def Only(H:Hp):Prop:=∀b,H b=none\/∃o xs,H b=some (.frz o (.lst xs))
theorem znA{P:aK}{w:aW}{K:qF}{mg mb:qM}{CX:CXT}{k:Nat}{fa a:ak}{fd:cT}{x:Str}{sp:Sp}{C:aq}{J:List ah}{ns:List Int}
  (KX:K.In C.heap) (Y:C.heap.Ns mainGlobals mg) (G:C.heap.Ns builtinsNs mb) (hbb:∀x:Str,x ≠ "__name__" -> mb x=bootBuiltins x) (U:C.heap.NoLimit) (hg:C.gens=#[])
  (ha:C.heap.get? a=some { cls:=.type "list",data:=.seq J.toArray }) (hi:fY J ns) (hl:ns.length<=sizeLine) (hr:Room k callerA)
  (F:∀base:aY,K.In base->base.Ns mainGlobals mg->FnOk P w K mg base CX k fa fd [x] sp) (Kw:∀(s:aq) (u:ah),o8 s fd ⟨[u],[]⟩ [(x,u)])
  (hsp:∀H:Hp,Only H->SqL K H a (ns.map V.int)->sp [.ref a] H (fun v _=>v=.bl true) fun _ _ _=>False)
  (hCX:∀H e s',CX [] H C (fun _ _ _=>False) e s'->False) :
  codeAny (model P w) callerA (.call (.ref fa) ⟨[.ref a],[]⟩) (fun r s'=>r=.ok (.ret (.bool true))/\OldK C.heap s'.heap/\s'.os=C.os/\iA s'.gens) C:=by
 have rv:=zgd hi;have R:=hi.length;have core:∀H:Hp,Only H->SqL K H a (ns.map V.int)->HOk P w H C.heap->(∀b,H b≠none->b=a)->(H a≠none->K.lookup a=none) ->
   codeAny (model P w) callerA (.call (.ref fa) ⟨[.ref a],[]⟩) (fun r s'=>r=.ok (.ret (.bool true))/\OldK C.heap s'.heap/\s'.os=C.os/\iA s'.gens) C:=by
  intro H hO hS hok hA hK;have Kc:∀{b:ak} {o:Obj},C.heap.get? b=some o->H b=none->(hidT C.heap H).get? b=some o:=fun e n=>znT e n
  have noA:∀{b:ak} {o:Obj} {es:Array dI} {L:Nat},C.heap.get? b=some o->o.data=.dict es L->H b=none:=fun {b o es L} e d=>by
   cases q:H b with
   | none=>rfl
   | some u =>
    have e':b=a:=hA b (by rw[q];simp)
    subst e';rw[ha]at e;cases e;have d':Data.seq J.toArray _=Data.dict es L:=d;cases d'
  have I:∀{b:ak} {m:qM},C.heap.Ns b m->(hidT C.heap H).Ns b m:=fun {b m} ⟨o,es,L,e,d,r⟩=>⟨o,es,L,Kc e (noA e d),d,r⟩
  have hKb:K.In (hidT C.heap H):=fun b o e=>Kc (KX b o e) (by
   cases q:H b with
   | none=>rfl
   | some u =>
    have e':b=a:=hA b (by rw[q];simp)
    subst e';rw[hK (by rw[q];simp)]at e;cases e)
  have hM:Mod K mg (hidT C.heap H):=⟨hKb,I Y,⟨mb,I G,hbb⟩,let ⟨mc,h1,h2⟩:=U;⟨mc,I h1,h2⟩⟩
  have e0:Env0 P w K mg (hidT C.heap H) callerA [] C H:=⟨rfl,hM,fun b o e=>zpy e,Nat.le_of_eq (zlT _ _),trivial,fun b G=>absurd (show b∈([]:List ak) from G) (by simp),hok,.of_eq hg⟩
  refine gV ((F _ hKb (I Y)).run callerA [] C H ⟨[.ref a],[]⟩ [.ref a] [.ref a] _ _ hr e0 (Kw C (.ref a)) (.cons rfl .nil) (hsp H hO hS)) fun r s' h=>?_
  cases r with
  | error e=>exact(hCX H e s' h).elim
  | ok fl =>
   cases fl with
   | next=>exact cB h
   | brk=>exact cB h
   | cont=>exact cB h
   | ret u =>
    obtain⟨v,H',os,bare,un,Z,r',q⟩:=h;have q':v=.bl true:=q;subst q';obtain rfl:u=eK true:=r';refine⟨rfl,OldK.of_keep fun b o e=>?_,os,bare⟩
    cases q:H b with
    | none=>exact un.keep b o e q (by intro z;exact absurd (show b∈([]:List ak) from z) (by simp)) (by simp)
    | some u =>
     rcases hO b with z|⟨ob,xs,z⟩
     ·rw[q]at z;cases z
     ·have z2:=un.frzs b ob _ z;obtain⟨e1,_⟩:=hok b _ z;obtain⟨e2,_⟩:=Z b _ z2;rw[e]at e1;cases e1;exact e2
 cases hk:K.lookup a with
 | some o =>
  have e:=KX a o hk;rw[ha]at e;cases e;refine core (fun _=>none) (fun _=>.inl rfl) (.inr ⟨_,J.toArray,_,hk,rfl,rfl,rfl,by rw[aG,R];exact hl,by simpa using rv⟩) (fun b u z=>by have S:(none:Option HO)=some u:=z;cases S) (fun b z=>absurd rfl z) fun z=>absurd rfl z
 | none =>
  refine core (fun b=>if b=a then some (.frz { cls:=.type "list",data:=.seq J.toArray } (.lst (ns.map V.int))) else none) (fun b=>?_) (.inl (.inr ⟨{ cls:=.type "list",data:=.seq J.toArray },if_pos rfl⟩)) (fun b u z=>?_) (fun b z=>?_) fun _=>hk
  ·by_cases G:b=a
   ·exact .inr ⟨_,_,if_pos G⟩
   ·exact .inl (if_neg G)
  ·by_cases G:b=a
   ·have S:=(if_pos G).symm.trans z;cases S;subst G;exact⟨ha,by rw[aZ];exact hl,J,_,rv,ha⟩
   ·have S:=(if_neg G).symm.trans z;cases S
  ·by_cases G:b=a
   ·exact G
   ·exact absurd (if_neg G) z
def Qy(s:dG):Arguments:=match s with
 | .FunctionDef _ a _ _ _ _ _ _ _ _=>a
 | _=>{ posonlyargs:=[],args:=[],vararg:=none,kwonlyargs:=[],kw_defaults:=[],kwarg:=none,defaults:=[] }
def Qh(s:dG):List dG:=match s with
 | .FunctionDef _ _ b _ _ _ _ _ _ _=>b
 | _=>[]
def JF(s:dG):fv:=match s with
 | .FunctionDef _ _ _ _ _ _ sc _ _ _=>sc
 | _=>{ kind:=.function,names:=[],isGenerator:=false,isCoroutine:=false }
abbrev CX0:CXT:=fun _ _ _ _ _ _=>False
abbrev E0:XK:=fun _ _ _=>False
theorem zvD{X:Cx}:Vi CX0 X E0:=fun _ _ _ _ _ _ _ h=>h.elim
structure Fun(K:qF)(x qual:Str)(st:dG)(f:ak)(fd:cT):Prop where
 ex:∃(oc:ah) (od:Option ak) (kV doc pm:ah) (an:Option ak) (cdv ct:ah) (osl:Array (Option ah)),
  fd=dw x qual (Qy st) (Qh st) (JF st) .none kV doc pm an cdv ct/\K.lookup f=some ⟨oc,od,.func fd,osl⟩/\gX K cdv qual=true
 kp:gW K (.ref f)=true
section
variable{P:aK}{w:aW}{K:qF}{mg:qM}{base:aY}
theorem Fun.ok{x qual:Str}{st:dG}{f:ak}{fd:cT}{N ps:List Str}{k:Nat}{y:Sp}(F:Fun K x qual st f fd)(S:Ua N ps (JF st))(len:∀u H Q E,y u H Q E->u.length=ps.length)
  (J:∀(l:ah) (A:bq) (outer:List Env) (s:aq) (H:Hp) (u:List V) (Q:VK) (E:XK),Room k (A.deeper (envOfC qual (JF st) s.heap.objs.size f l))->y u H Q E ->
   ∃t,PSs (cxOf CX0 P w K mg base N qual (JF st) f l A outer s H E).nox (Qh st) t/\t { nx:=fun _ G=>Q .non G,rt:=Q } (start N u) H):FnOk P w K mg base CX0 (k+1) f fd ps y:=by
 obtain⟨U,Y,kV,doc,pm,an,l,ct,I,rfl,L,C⟩:=F.ex;refine ztI L C S len fun A outer s H u Q E R v=>?_
 obtain⟨t,h,q⟩:=J l A outer s H u Q E R v;exact⟨t,h.nox,q⟩
theorem Fun.binds{x qual:Str}{st:dG}{f:ak}{fd:cT}{ps:List Str}(F:Fun K x qual st f fd)
  (h:∀(kV doc pm:ah) (an:Option ak) (u ct:ah) (v:List ah),v.length=ps.length->bindArgs (dw x qual (Qy st) (Qh st) (JF st) .none kV doc pm an u ct) ⟨v,[]⟩=pure (ps.zip v)):Binds K fd ps []:=by
 obtain⟨G,I,kV,doc,pm,an,u,ct,y,rfl,J,C⟩:=F.ex;exact .all (h kV doc pm an u ct)
theorem zoI{x qual:Str}{st:dG}{f:ak}{C:ah}{G an:Option ak}{y:Array (Option ah)}{kV doc pm v ct:ah}(l:K.lookup f=some ⟨C,G,.func (dw x qual (Qy st) (Qh st) (JF st) .none kV doc pm an v ct),y⟩)
  (c:gX K v qual=true) (k:gW K (.ref f)=true):Fun K x qual st f (dw x qual (Qy st) (Qh st) (JF st) .none kV doc pm an v ct):=⟨⟨C,G,kV,doc,pm,an,v,ct,y,rfl,l,c⟩,k⟩
end
section
variable{X:Cx}
theorem pv(i:Nat){x:Str}{pos:Pos}(u:X.N[i]?=some x:=by rfl)(v:Vis X.env.scope x:=by walk_at "V")(hd:(x == ("__debug__":Str))=false:=by decide)
  (l:(x == ("__classdict__":Str))=false:=by decide):PE X (.Name x pos) (tVar i):=QW u v hd l
end
theorem iteF{A B:Prop}(h:B):if false=true then A else B:=by
 rw[if_neg bf];exact h
theorem iteT{A B:Prop}(h:A):if true=true then A else B:=by
 rw[if_pos rfl];exact h
def Same(H l:Hp):Prop:=∀b o,H b=some o->l b=some o
theorem Same.refl(H:Hp):Same H H:=fun _ _ h=>h
def closed(env:Env):List (Str×eM)->List (Str×ak)->List (Str×ak)
 | [],acc=>acc
 | (n,k)::r,acc=>closed env r (if (k == .free)=true then(n,(env.cells.lookup n).getD 0)::acc else acc)
theorem zeU{env:Env}:∀(l:List (Str×eM)) (u:List (Str×ak)),(∀x∈l,x.2=.free->∃c,env.cells.lookup x.1=some c) ->
  (forIn l u fun x __s=>if (x.snd == cD)=true then do
    let c <- cellOf env x.fst
    pure (cA ((x.fst,c)::__s))
   else pure (cA __s):Sem (List (Str×ak)))=pure (closed env l u)
 | [],u,_=>rfl
 | (n,k)::r,u,h=>by
  have C:=fun a=>zeU (env:=env) r a fun x hx=>h x (bV _ hx)
  rw[iH]
  by_cases e:(k == cD)=true
  ·obtain⟨c,hc⟩:=h (n,k) cm (by simpa using e)
   have v:u7 n env.cells=some c:=hc;have G:cellOf env n=pure c:=by unfold cellOf;rw[v]
   simp only[e,if_true,G,pure_bind];rw[C]
   conv=>rhs;unfold closed
   simp only[e,if_true,v,fi]
  ·have y:(k == cD)=false:=by simpa using e
   simp only[y,aJ,if_false,pure_bind];rw[C]
   conv=>rhs;unfold closed
   simp only[y,aJ,if_false]
theorem zbf{scope:fv}{env:Env}(h:∀x∈scope.names,x.2=.free->∃c,env.cells.lookup x.1=some c):closureFor scope env=pure (closed env scope.names []):=by
 simp only[closureFor];rw[zeU scope.names [] h]
 rfl
theorem V3{env:Env}:∀(l:List (Str×eM)) (v:List (Str×ak)),(∀x∈l,x.2=.free->∃c,env.cells.lookup x.1=some c) ->
  (∀x c,v.lookup x=some c->env.cells.lookup x=some c)->∀x c,(closed env l v).lookup x=some c->env.cells.lookup x=some c
 | [],v,_,ha=>ha
 | (n,k)::r,v,h,ha=>by
  unfold closed;refine V3 r _ (fun x hx=>h x (bV _ hx)) fun x c=>?_
  by_cases e:(k == cD)=true
  ·obtain⟨d,hd⟩:=h (n,k) cm (by simpa using e)
   have y:u7 n env.cells=some d:=hd;simp only[e,if_true,y,fi];intro q;rw[cR]at q
   by_cases ex:(x == n)=true
   ·simp only[ex]at q;have C:x=n:=by simpa using ex
    cases q;rw[C];exact y
   ·have G:(x == n)=false:=by simpa using ex
    simp only[G]at q;exact ha x c q
  ·have I:(k == cD)=false:=by simpa using e
   simp only[I,aJ,if_false];exact ha x c
theorem zfx{env:Env}:∀(l:List (Str×eM)) (v:List (Str×ak)) (x:Str),(∃c,v.lookup x=some c)->∃c,(closed env l v).lookup x=some c
 | [],_,_,h=>h
 | (n,k)::r,v,x,h=>by
  unfold closed;refine zfx r _ x ?_
  by_cases e:(k == cD)=true
  ·simp only[e,if_true];rw[cR];cases(x == n) with
   | true=>exact⟨_,rfl⟩
   | false=>exact h
  ·have y:(k == cD)=false:=by simpa using e
   simp only[y,aJ,if_false];exact h
theorem zdw{env:Env}:∀(l:List (Str×eM)) (v:List (Str×ak)) (x:Str),(x,cD)∈l->∃c,(closed env l v).lookup x=some c
 | [],_,_,h=>nomatch h
 | (n,k)::r,v,x,h=>by
  unfold closed;rcases aA.mp h with e|h
  ·cases e;refine zfx r _ _ ?_;have y:(cD == cD)=true:=rfl;simp only[y,if_true];rw[cR];simp
  ·exact zdw r _ x h
theorem lookup_mem{α:Type}{l:List (Str×α)}{x:Str}{v:α}(h:l.lookup x=some v):(x,v)∈l:=by
 induction l with
 | nil=>simp at h
 | cons p r u =>
  obtain⟨n,w⟩:=p;rw[cR]at h
  by_cases e:(x == n)=true
  ·simp only[e]at h;cases h;have y:x=n:=by simpa using e
   rw[y];exact cm
  ·have C:(x == n)=false:=by simpa using e
   simp only[C]at h;exact bV _ (u h)
def Ug(env:Env)(p:Str×eM):Str×eM:=if (p.2 == cD&&env.scope.kind == .function&&env.kindOf p.1 == some .cell)=true then(p.1,.cell) else p
theorem zkF(env:Env)(p:Str×eM):(Ug env p).1=p.1:=by
 unfold Ug
 by_cases c:(p.2 == cD&&env.scope.kind == .function&&env.kindOf p.1 == some .cell)=true
 ·rw[if_pos c]
 ·rw[if_neg c]
def kin(env:Env)(x:Str):Option eM->Option eM
 | some .free=>if (env.scope.kind == .function&&env.kindOf x == some .cell)=true then some .cell else some .free
 | o=>o
theorem zkE(env:Env)(x:Str)(k:eM):some (Ug env (x,k)).2=kin env x (some k):=by
 unfold Ug
 by_cases c:(k == cD&&env.scope.kind == .function&&env.kindOf x == some .cell)=true
 ·rw[if_pos c];rw[aM,aM]at c;have y:k=.free:=by simpa using c.1.1
  subst y;unfold kin;rw[if_pos (by rw[aM];exact⟨c.1.2,c.2⟩)]
 ·rw[if_neg c];cases k with
  | free =>
   have:¬(env.scope.kind == .function&&env.kindOf x == some .cell)=true:=fun z=>c (by
    have v:(cD == cD)=true:=rfl;rw[v,dh];exact z)
   unfold kin;rw[if_neg this]
  | _=>rfl
theorem zfH(scope:fv)(env:Env):(relabel scope env).names=scope.names.map (Ug env):=by
 show scope.names.map _=_
 refine iN fun p _=>?_
 obtain⟨n,k⟩:=p
 rfl
theorem zfh(env:Env):∀(l:List (Str×eM)) (x:Str),(l.map (Ug env)).lookup x=kin env x (l.lookup x)
 | [],_=>rfl
 | (n,k)::r,x=>by
  have y:=zfh env r x;have v:Ug env (n,k)=(n,(Ug env (n,k)).2):=iF (zkF env (n,k)) rfl;rw[bZ,v,cR,cR]
  by_cases e:(x == n)=true
  ·have C:x=n:=by simpa using e
   subst C;simp only[beq_self_eq_true];exact zkE env x k
  ·have G:(x == n)=false:=by simpa using e
   simp only[G];exact y
theorem zdz(scope:fv)(env:Env)(x:Str):(relabel scope env).names.lookup x=kin env x (scope.names.lookup x):=by
 rw[zfH];exact zfh env _ x
abbrev capN(X:Cx)(capt:List Nat):List Str:=capt.map fun i=>X.N.getD i iU
abbrev capS(capt:List Nat)(σ:St):St:=capt.map fun i=>σ.getD i none
abbrev Jw(own:List Str):St:=own.map fun _=>none
abbrev Jf(X:Cx)(scope:fv)(own:List Str)(capt:List Nat)(C:ak)(s₀:aq)(H₀:Hp)(fp:List ak):Cx :=
 { X with N:=own++capN X capt,s₀:=s₀,H₀:=H₀,env:=compEnvC scope (closed X.env scope.names []) C X.env,outer:=X.stack,stack:=X.stack,ex:=fp,fn:=fun _=>false,pn:=[],xe:=fun _ _=>False }
structure JG(scope:fv)(own:List Str)(capt:List Nat)(X:Cx):Prop where
 kind:scope.kind=.function
 nocell:∀y∈scope.names,y.2≠.cell
 names:∀y∈scope.names,y.2=.local->scope.names.lookup y.1=some .local
 frees:∀y∈scope.names,y.2=.free->X.env.kindOf y.1=some .cell\/X.env.kindOf y.1=some .free
 caps:∀k∈capt,scope.names.lookup (X.N.getD k iU)=some .free
theorem getD_some{α:Type}{l:List (Option α)}{k:Nat}{v:α}(h:l.getD k none=some v):l[k]?=some (some v):=by
 rw[ba]at h;cases e:l[k]? with
 | none=>rw[e]at h;cases h
 | some o=>rw[e]at h;simp at h;rw[h]
section
variable{X:Cx}{scope:fv}{own:List Str}{capt:List Nat}
theorem JG.cells(S:JG scope own capt X)(ok:X.Ok):∀x∈scope.names,x.2=.free->∃c,X.env.cells.lookup x.1=some c:=fun x hx hf=>ok.has x.1 (S.frees x hx hf)
theorem zqy{pins:qO}{σ:St}{H₀:Hp}{s₀:aq}{C:ak}{L:List ak}(S:JG scope own capt X)(I:Inv X pins σ H₀ s₀)(hf:∀b∈L,FpOk X pins H₀ b)(J:∀b∈L,b<s₀.heap.objs.size)(U:s₀.heap.objs.size<=C) :
  (Jf X scope own capt C s₀ H₀ L).Ok:=by
 have sub:=V3 scope.names [] (S.cells I.ok) (fun x c h=>nomatch (show(none:Option ak)=some c from h))
 refine⟨I.ok.mod,S.kind,I.ok.glob,I.ok.blt,U,fun x y c Z Y=>I.ok.inj x y c (sub x c Z) (sub y c Y),fun x hk=>?_,fun x c z=>absurd (show false=true from z) bf,I.ok.hd,I.ok.frames,.inl rfl,fun b G=>?_,I.bs,cH I.ok.bsz I.sz,fun b o e G=>?_,fun b G z=>?_,I.stack,I.stkFree⟩
 ·have e:=zdz scope X.env x;have v:(relabel scope X.env).names.lookup x=some .cell\/(relabel scope X.env).names.lookup x=some .free:=hk;rw[e]at v;cases q:scope.names.lookup x with
  | none=>rw[q]at v;rcases v with z|z <;> cases z
  | some k =>
   rw[q]at v;cases k with
   | free=>exact zdw scope.names [] x (lookup_mem q)
   | cell=>exact absurd rfl (S.nocell _ (lookup_mem q))
   | _=>rcases v with z|z <;> cases z
 ·obtain⟨f0,f1,f2,N,f4,R⟩:=hf b G;exact⟨aL (aF (J b G) U),fun x c e=>f4 x c (sub x c e)⟩
 ·obtain⟨f0,f1,f2,N,f4,R⟩:=hf b G;rcases N with z|z
  ·exact I.ok.noex b o e z
  ·exact absurd (aF (aD (I.ok.bs b o e).1) z) (gy _)
 ·obtain⟨f0,f1,f2,N,f4,R⟩:=hf b G;rcases aA.mp (I.stkSub b z) with q|q
  ·exact f1 q
  ·exact f2 q
theorem zml{J:HO}{pins:qO}{σ:St}{H₀:Hp}{s₀:aq}{fp:List ak}{h':aY}{D C:ak}{tk:Nat}(S:JG scope own capt X)(I:Inv X pins σ H₀ s₀)(hf:∀b∈fp,FpOk X pins H₀ b)(hfp:∀b∈fp,b<s₀.heap.objs.size)
  (hD:s₀.heap.objs.size<=D) (hC:s₀.heap.objs.size<=C) (hDC:D≠C) (old:∀b o,s₀.heap.get? b=some o->h'.get? b=some o) (hns:h'.Ns C (fun _=>none)) (R:JL X.prog X.w (upd H₀ D J) h' D J) :
  Inv (Jf X scope own capt C s₀ H₀ fp) [] (Jw own++capS capt σ) (upd H₀ D J) { s₀ with heap:=h',toks:=tk }:=by
 have ok:=zqy S I hf hfp hC;have sub:=V3 scope.names [] (S.cells I.ok) (fun x c h=>nomatch (show(none:Option ak)=some c from h))
 have hn:H₀ D=none:=I.hok.fresh hD;refine⟨ok,rfl,I.bare,Un.laid old hD hn,⟨_,hns,fun i x v e1 L e3=>?_⟩,fun x c e=>?_,?_,fun x c e=>?_,fun p hp=>absurd (show p∈([]:qO) from hp) (by simp),I.hok.laid (o:=J) old hD R,(by show(Jw own++capS capt σ).length=(own++capN X capt).length;simp[Jw,capS,capN])⟩
 ·have N:(Jw own).length=own.length:=aZ ..
  by_cases hi:i<own.length
  ·rw[bT (by rw[N];exact hi)]at L
   unfold Jw at L;rw[bg]at L;cases q:own[i]? with
   | none=>rw[q]at L;cases L
   | some z=>rw[q]at L;cases L
  ·have Y:own.length<=i:=og hi;have G:(own++capN X capt)[i]?=some x:=e1;rw[br Y]at G;rw[br (by rw[N];exact Y),N]at L
   unfold capN at G;unfold capS at L;rw[bg]at G L;cases q:capt[i - own.length]? with
   | none=>rw[q]at G;cases G
   | some k =>
    rw[q]at G L;have ex:X.N.getD k iU=x:=aO G;have ev:σ.getD k none=some v:=aO L;have hk:k∈capt:=aN q;have hv:=getD_some ev;have Z:k<X.N.length:=by
     rw[<- I.len];exact(ax.mp hv).1
    have hx:X.N[k]?=some x:=by
     rw[ba,au Z]at ex;rw[au Z];exact congrArg some ex
    have IH:=S.caps k hk;rw[ex]at IH;have Ka:=S.frees _ (lookup_mem IH) rfl;obtain⟨m,hm,hl⟩:=I.loc;have vis:Vis X.env.scope x:=by
     rcases Ka with z|z
     ·exact .inr (.inl z)
     ·exact .inr (.inr z)
    obtain⟨u,r,l⟩:=hl k x v hx hv vis;refine⟨u,r,.inr ⟨?_,?_⟩⟩
    ·have e:=zdz scope X.env x;rw[IH]at e;show(relabel scope X.env).names.lookup x=some .cell\/(relabel scope X.env).names.lookup x=some .free
     rw[e];unfold kin
     by_cases c:(X.env.scope.kind == .function&&X.env.kindOf x == some .cell)=true
     ·rw[if_pos c];exact .inl rfl
     ·rw[if_neg c];exact .inr rfl
    ·rcases l with⟨z,_⟩|⟨_,c,hc,U⟩
     ·rcases Ka with y|y <;> (have y':X.env.kindOf x=_:=y;rw[z]at y';cases y')
     ·obtain⟨d,hd⟩:=zdw (env:=X.env) scope.names [] x (lookup_mem IH);have:=sub x d hd;rw[hc]at this;cases this;obtain⟨o,R,hod⟩:=U;exact⟨c,hd,o,old _ _ R,hod⟩
 ·obtain⟨v,o,R,hd⟩:=I.cell x c (sub x c e);exact⟨v,o,old _ _ R,hd⟩
 ·show upd H₀ D J C=none
  rw[Jn (kS hDC)];exact I.hok.fresh hC
 ·obtain⟨v,o,R,hd⟩:=I.cell x c (sub x c e);show upd H₀ D J c=none
  rw[Jn (aL (aF (aD R) hD))];exact I.freeC x c (sub x c e)
theorem zob{pins:qO}{σ:St}{H₀:Hp}{s₀:aq}{v:List ak}{h':aY}{D C:ak}{tk:Nat}(S:JG scope own capt X)(I:Inv X pins σ H₀ s₀)(hf:∀b∈v,FpOk X pins H₀ b)(u:∀b∈v,b<s₀.heap.objs.size)
  (L:s₀.heap.objs.size<=D) (N:s₀.heap.objs.size<=C) (x:D≠C) (old:∀b o,s₀.heap.get? b=some o->h'.get? b=some o) (G:h'.Ns C (fun _=>none)) (J:h'.get? D=some { cls:=.type "list",data:=.seq ([]:List ah).toArray 0 }) :
  Inv (Jf X scope own capt C s₀ H₀ v) [] (Jw own++capS capt σ) (upd H₀ D (.lst [])) { s₀ with heap:=h',toks:=tk }:=zml S I hf u L N x old G ⟨eU _,[],0,.nil,J⟩
theorem zoa{pins IE:qO}{σ σ':St}{H₀ x:Hp}{s₀ s':aq}{R:List ak}{h'':aY}{C:ak}(I:Inv X pins σ H₀ s₀)(hf:∀b∈R,FpOk X pins H₀ b)(hC:s₀.heap.objs.size<=C)
  (J:Inv (Jf X scope own capt C s₀ H₀ R) IE σ' x s') (N:eE C s'.heap h''):Inv X pins σ x { s' with heap:=h'' }:=by
 have G:x C=none:=J.free;have l:∀b o,s₀.heap.get? b=some o->b≠C:=fun b o e=>aL (aF (aD e) hC)
 have u:Un (frs X.stack) R H₀ x s₀.heap s'.heap:=J.base;have Y:Un (frs X.stack) R H₀ x s₀.heap h'':=by
  refine⟨fun b o q n S L=>(N.2 b (l b o q)).trans (u.keep b o q n S L),fun b o q n S L=>?_,u.free,fun b o q L=>?_,u.tups,u.frzs,u.tbls⟩
  ·obtain⟨sl,e⟩:=u.slot b o q n S L;exact⟨sl,(N.2 b (l b o q)).trans e⟩
  ·obtain⟨o',e⟩:=u.there b o q L;exact⟨o',(N.2 b (l b o q)).trans e⟩
 have hok:HOk X.prog X.w x h'':=fun b Z e=>by
  refine(J.hok b Z e).stay (fun c v hc q=>(N.2 c ?_).trans q) (fun _ q=>q) (fun _ _ q=>q) fun _ _ _ q=>q
  rintro rfl;rcases hc with z|z
  ·subst z;rw[G]at e;cases e
  ·rw[G]at z;cases z
 refine I.call' (s':={ s' with heap:=h'' }) J.os Y hok J.bare fun b hb=>?_
 obtain⟨f0,f1,f2,f3,f4,U⟩:=hf b hb;exact⟨f3,f1,f4,U⟩
end
def PTs(Y:Cx)(ifs:List aX)(t:TT):Prop :=
 ∀(pins:qO) (s:aq) (σ:St) (H:Hp) (Q:Bool->Hp->Prop),Inv Y pins σ H s->t σ H Q ->
  wpAny (model Y.prog Y.w) Y.A (forIn ifs true fun c r=>if r=true then do let ok <- isTrue c Y.env (eval c Y.env);pure (cA ok) else pure (cA r)) (TP Y pins σ Q) Y.xe s
def tYes:TT:=fun _ H Q=>Q true H
theorem zo4{Y:Cx}:PTs Y [] tYes:=fun _ _ _ H _ I h=>wpAny_tests_nil ⟨H,I,h⟩
theorem zo3{Y:Cx}{c:aX}{t:TT}(h:PT Y c t):PTs Y [c] t:=fun pins s σ H Q I q=>wpAny_tests_one (h pins s σ H Q I q)
abbrev NoX:ah->aq->Prop:=fun _ _=>False
theorem zka{prog:aK}{w:aW}{A:bq}{R:n8->aq->Prop}{s:aq}{elt target iter:aX}{ifs:List aX}{scope:fv}{pos:Pos}{it acc:ah}{env:Env}(I:Nat->aq->Prop)
  (turn:∀n s,I n s->wpAny (model prog w) A (pyNext it) (fun r G=>match r with
   | none=>R (.ok .next) G
   | some v=>wpAny (model prog w) A (letOwnedTupleGo target it v) (fun _ J=>wpAny (model prog w) A (assign target env v) (fun _ Y =>
     wpAny (model prog w) A (forIn ifs true fun c r=>if r=true then do let ok <- isTrue c env (eval c env);pure (cA ok) else pure (cA r)) (fun ok y =>
      if ok=true then wpAny (model prog w) A (eval elt env) (fun x Z=>wpAny (model prog w) A (call (.builtin "list.append") [acc,x]) (fun _ S=>∃m,m<n/\I m S) NoX Z) NoX y
      else ∃m,m<n/\I m y) NoX Y) NoX J) NoX G) NoX s) (n:Nat) (h:I n s) :
  codeAny (model prog w) A (.compLoop (.ListComp elt [⟨target,iter,ifs,0⟩] scope pos) 0 it acc env) R s:=by
 refine nG rfl I (fun n s hI=>?_) n h
 show wpAny _ A ((compTurn (.ListComp elt [⟨target,iter,ifs,0⟩] scope pos) 0 it acc env).onRaise (fun x=>do noteFrame x env;theTreesLotGoes x)) _ _ s
 refine oG (c8 (E:=NoX) ?_ (fun _ _ q=>q) fun _ _ z=>cB z)
 rw[compTurn_list];refine ae (dN (ae (thn (turn n s hI) fun r G N=>?_)))
 cases r with
 | none=>exact aj N
 | some v =>
  refine ae (thn N fun _ J h₂=>ae (thn h₂ fun _ Y h₃=>ae (thn h₃ fun ok y U=>?_)))
  cases ok with
  | false=>exact aj ⟨rfl,U⟩
  | true =>
   refine ae (ae (thn U fun x Z h₅=>ae (thn h₅ fun _ S h₆=>?_)))
   exact aj (aj ⟨rfl,h₆⟩)
def Wk:St->St->Prop
 | [],[]=>True
 | none::r,_::r'=>Wk r r'
 | some v::r,o::r'=>o=some v/\Wk r r'
 | _,_=>False
theorem Wk.weak:∀{σ σ':St},Wk σ σ'->σ.length=σ'.length/\∀(i:Nat) v,σ[i]?=some (some v)->σ'[i]?=some (some v)
 | [],[],_=>⟨rfl,fun _ _ h=>by simp at h⟩
 | none::r,o::r',h=>by
  obtain⟨a,b⟩:=Wk.weak (σ:=r) (σ':=r') h;refine⟨by simp[a],fun i v e=>?_⟩
  cases i with
  | zero=>simp at e
  | succ i=>simpa using b i v (by simpa using e)
 | some w::r,o::r',h=>by
  obtain⟨h0,l⟩:o=some w/\Wk r r':=h;obtain⟨a,b⟩:=Wk.weak l;refine⟨by simp[a],fun i v e=>?_⟩
  cases i with
  | zero=>rw[h0];simpa using e
  | succ i=>simpa using b i v (by simpa using e)
 | none::_,[],h=>cB h
 | some _::_,[],h=>cB h
 | [],_::_,h=>cB h
def zqO(own:List Str)(capt:List Nat)(g:TG)(tt:TT)(U:TE)(σ:St)(J:It)(Y:Hp)(D:ak)(Q:VK):Prop:=∃W:Nat->Nat->Hp->Prop,(∃m,W 0 m (upd Y D (.lst [])))/\∀i m y,W i m y ->
 (J.stop i y/\Q (.ref D) y)\/(J.go i y/\∃(N:V->Hp->Prop) (R:Hp->Prop),(∀v I,N v I->∃ys,I D=some (.lst ys)/\ys.length<sizeLine/\∃G,G<m/\W (i+1) G (upd I D (.lst (ys++[v]))))/\(∀C,R C->∃G,G<m/\W (i+1) G C) /\
  ∀x L,J.yld i y x L->g x (Jw own++capS capt σ) L fun u S=>Wk (Jw own++capS capt σ) u/\tt u S fun b C=>if b=true then U u C N else R C)
def tComp(own:List Str)(capt:List Nat)(u:TI)(g:TG)(tt:TT)(v:TE):TE:=fun σ H Q=>u σ H fun J l=>∀D,l D=none->zqO own capt g tt v σ J l D Q
def CompI(Y:Cx)(pins:qO)(σ:St)(u:List ak)(v:Nat->aY->Prop)(W:Nat->Nat->Hp->Prop)(n:Nat)(s':aq):Prop:=∃i l,Inv Y pins σ l s'/\v i s'.heap/\(∀b∈u,l b=none)/\W i n l
theorem zfC{Y:Cx}{tg:aX}{ifs:List aX}{g:TG}{tt:TT}(hxe:Y.xe=NoX)(hc:Y.calm=true)(hg:PG Y tg g)(ht:PTs Y ifs tt){pins:qO}{σ:St}{it:ak}{I:List ak}{tn:Nat->aY->Prop}{J:It}(T:Turn Y.prog Y.w Y.K tg J I it tn)
  (II:∀{H':Hp},(∀b∈I,H' b=none)->∀b∈I,FpOk Y pins H' b) {W:Nat->Nat->Hp->Prop} {n i:Nat} {s4:aq} {N:Hp} {Dn AC:aq->Prop} (I4:Inv Y pins σ N s4) (st4:tn i s4.heap) (fr4:∀b∈I,N b=none)
  (h:(J.stop i N/\∀s5,Inv Y pins σ N s5->Dn s5)\/(J.go i N/\∃(NT:St->Hp->Prop) (NF:Hp->Prop),(∀{p6 l C S},Inv Y (pins++p6) l C S->NT l C->(∀{s9 H9 y},Inv Y (pins++p6) l H9 s9->y<n->W (i+1) y H9->∃m,m<n/\CompI Y pins σ I tn W m s9)->AC S) /\
   (∀H5,NF H5->∃y,y<n/\W (i+1) y H5)/\∀x H3,J.yld i N x H3->g x σ H3 fun U H5=>Wk σ U/\tt U H5 fun b H6=>if b=true then NT U H6 else NF H6)) :
  wpAny (model Y.prog Y.w) Y.A (pyNext (.ref it)) (fun r L=>match r with
   | none=>Dn L
   | some v=>wpAny (model Y.prog Y.w) Y.A (letOwnedTupleGo tg (.ref it) v) (fun _ s₂=>wpAny (model Y.prog Y.w) Y.A (assign tg Y.env v) (fun _ s₃ =>
     wpAny (model Y.prog Y.w) Y.A (forIn ifs true fun c r=>if r=true then do let ok <- isTrue c Y.env (eval c Y.env);pure (cA ok) else pure (cA r)) (fun ok G =>
      if ok=true then AC G else ∃m,m<n/\CompI Y pins σ I tn W m G) NoX s₃) NoX s₂) NoX L) NoX s4:=by
 rcases h with⟨stop,dn⟩|⟨go,NT,NF,hT,hF,step⟩
 ·refine thn (T.done Y rfl rfl rfl hc i pins s4 _ N NoX I4 (II fr4) st4 stop) fun r s5 ⟨hr,I5⟩=>?_
  subst hr;exact dn s5 I5
 ·refine thn (T.item Y rfl rfl rfl hc i pins s4 _ N NoX I4 (II fr4) st4 go) fun r s5 ⟨u,hr,h5⟩=>?_
  subst hr;refine thn h5 fun _ s6 ⟨x,H6,I6,r6,y6,R,fr6⟩=>?_
  have I6':=I6.pinned (II fr6) (T.obj _ _ R);have a1:=hg _ s6 _ H6 x u _ I6' r6 (step x H6 y6);rw[hxe]at a1;refine thn a1 fun _ s7 ⟨l,H7,I7,wk,q7⟩=>?_
  obtain⟨wl,wv⟩:=wk.weak;have again:∀{S:aq} {C:Hp} {y:Nat},Inv Y (pins++Zj I s6.heap) l C S->y<n->W (i+1) y C->∃m,m<n/\CompI Y pins σ I tn W m S:=fun {S C y} Z hm w8=>by
   refine⟨y,hm,i+1,C,(Z.unpinned).weak wl wv,T.keep _ _ _ R fun b hb o e=>(Z.pin (b,o) (bY _ (bY _ (V4 hb e)))).1,fun b hb=>?_,w8⟩
   obtain⟨o,e,d⟩:=T.obj _ _ R b hb;exact(Z.pin (b,o) (bY _ (bY _ (V4 hb e)))).2.1
  have a2:=ht _ s7 l H7 _ I7 q7;rw[hxe]at a2;refine thn a2 fun ok S ⟨C,Z,q8⟩=>?_
  cases ok with
  | false =>
   obtain⟨y,hm,w8⟩:=hF C (by simpa using q8)
   exact again Z hm w8
  | true=>exact hT Z (by simpa using q8) again
section
variable{X:Cx}{scope:fv}{own:List Str}{capt:List Nat}{elt tg iter:aX}{ifs:List aX}{pos:Pos}{wi:TI}{g:TG}{tt:TT}{te:TE}
theorem zmi(S:JG scope own capt X){pins:qO}{σ:St}{y:Hp}{s2:aq}{u:List ak}{C:ak}(I:Inv X pins σ y s2)(f2:∀b∈u,FpOk X pins y b)(G:∀b∈u,b<s2.heap.objs.size)(N:s2.heap.objs.size<=C){J:Hp}(U:∀b∈u,J b=none):∀b∈u,FpOk (Jf X scope own capt C s2 y u) [] J b:=fun b v=>by
 obtain⟨Z,g1,g2,g3,R,Y⟩:=f2 b v;have sub:=V3 scope.names [] (S.cells I.ok) (fun x c h=>nomatch (show(none:Option ak)=some c from h))
 refine⟨U b v,aL (aF (G b v) N),fun z=>?_,.inl v,fun x c e=>R x c (sub x c e),fun p L=>absurd (show p∈([]:qO) from L) (by simp)⟩
 rcases aA.mp (I.stkSub b z) with q|q
 ·exact g1 q
 ·exact g2 q
theorem zhB(S:JG scope own capt X){pins:qO}{σ:St}{R:It->Hp->Prop}{itv:ah}{s2:aq}{E:qV}{CA:ah->Env->aq->Prop}(h2:PIE X pins σ tg R itv s2)
  (k:∀(it:ak) (G:List ak) (tn:Nat->aY->Prop) (J:It) (I:Hp) (D C:ak) (v:aY),itv=.ref it->Turn X.prog X.w X.K tg J G it tn->R J I->I D=none->tn 0 v->(∀b∈G,upd I D (.lst []) b=none) ->
   (∀tk,Inv (Jf X scope own capt C s2 I G) [] (Jw own++capS capt σ) (upd I D (.lst [])) { s2 with heap:=v,toks:=tk })->(∀{H':Hp},(∀b∈G,H' b=none)->∀b∈G,FpOk (Jf X scope own capt C s2 I G) [] H' b) ->
   (∀s5 Z,Inv (Jf X scope own capt C s2 I G) [] (Jw own++capS capt σ) Z s5->(∃m,s5.heap.Ns C m)/\(∀h'',eE C s5.heap h''->Inv X pins σ Z { s5 with heap:=h'' })/\Z C=none/\FpOk X pins Z C) ->
   CA (.ref D) (compEnvC scope (closed X.env scope.names []) C X.env) { s2 with heap:=v }) :
  wpAny (model X.prog X.w) X.A (newList []) (fun acc s₃=>wpAny (model X.prog X.w) X.A (newFunctionEnv scope X.env.globals (closed X.env scope.names []) [] X.env.qual none .none (some X.env)) (fun cenv N=>CA acc { cenv with scope:=relabel scope X.env } N) E s₃) E s2:=by
 obtain⟨it,G,tn,J,I,e,U,T,st2,f2,rd⟩:=h2;have L:∀b∈G,b<s2.heap.objs.size:=fun b hb=>by
  obtain⟨o,e,_⟩:=T.obj 0 _ st2 b hb;exact aD e
 refine dm (wpAny_newFunctionEnv S.nocell (by intro y hy;simp at hy) (fun v x u=>?_) S.kind)
 dsimp only at x u ⊢;generalize hH3:s2.heap.push { cls:=.type "list",dict:=none,data:=.seq ([]:List ah).toArray }=H3 at x u ⊢;have hC:H3.objs.size=s2.heap.objs.size+1:=by rw[<- hH3,fj]
 have hDC:s2.heap.objs.size≠H3.objs.size:=by rw[hC];exact aL (Nat.lt_succ_self _)
 have Y:s2.heap.objs.size<=H3.objs.size:=by rw[hC];exact ko _
 have neC:∀b o,s2.heap.get? b=some o->b≠H3.objs.size:=fun b o e=>aL (aF (aD e) Y)
 have old:∀b o,s2.heap.get? b=some o->v.get? b=some o:=fun b o e=>u.extBut b o (neC b o e) (av _ (hH3▸av _ e))
 have Km:v.get? s2.heap.objs.size=some { cls:=.type "list",data:=.seq ([]:List ah).toArray 0 }:=u.extBut _ _ hDC (av _ (hH3▸aI _ rfl));refine k it G tn J I s2.heap.objs.size H3.objs.size v e T rd (U.hok.fresh (aC _)) (T.keep _ _ _ st2 fun b hb o e=>old b o e) (fun b hb=>by rw[Jn (aL (L b hb))];exact(f2 b hb).1)
  (fun tk=>zob (tk:=tk) S U f2 L (aC _) Y hDC old x Km) (zmi S U f2 L Y) (fun s5 Z I5=>?_)
 obtain⟨m,hn,_⟩:=I5.loc;exact⟨⟨m,hn⟩,fun h'' sb=>zoa U f2 Y I5 sb,I5.free,U.fpOk Y I5.free⟩
theorem zjw(hc:X.calm=true)(S:JG scope own capt X)
  (hg:∀C s₀ H₀ R,PG (Jf X scope own capt C s₀ H₀ R) tg g) (ht:∀C s₀ H₀ R,PTs (Jf X scope own capt C s₀ H₀ R) ifs tt) (he:∀C s₀ H₀ R,PE (Jf X scope own capt C s₀ H₀ R) elt te)
  {pins:qO} {σ:St} {Q:VK} {U:ah} {s2:aq} {E:qV} {RR:ah->ak->n8->aq->Prop}
  (h2:PIE X pins σ tg (fun J H1=>∀D,H1 D=none->zqO own capt g tt te σ J H1 D Q) U s2)
  (hR:∀D C s' Z,(∃m,s'.heap.Ns C m)->(∀h'',eE C s'.heap h''->Inv X pins σ Z { s' with heap:=h'' })->Z C=none->FpOk X pins Z C->Q (.ref D) Z->RR (.ref D) C (.ok .next) s') :
  wpAny (model X.prog X.w) X.A (newList []) (fun I s₃=>wpAny (model X.prog X.w) X.A (newFunctionEnv scope X.env.globals (closed X.env scope.names []) [] X.env.qual none .none (some X.env)) (fun u G =>
   codeAny (model X.prog X.w) X.A (.compStart (.ListComp elt [⟨tg,iter,ifs,0⟩] scope pos) 0 U I { u with scope:=relabel scope X.env }) (RR I u.locals) G) E s₃) E s2:=by
 refine zhB (CA:=fun I u G=>codeAny (model X.prog X.w) X.A (.compStart (.ListComp elt [⟨tg,iter,ifs,0⟩] scope pos) 0 U I u) (RR I u.locals) G) S h2 fun it R tn J H2 D C h₁ e T rd hnD st1 fr0 J0 II out=>?_
 subst e;obtain⟨W,⟨m0,w0⟩,turn⟩:=rd _ hnD;have loop:∀tk:Tok,codeAny (model X.prog X.w) X.A (.compLoop (.ListComp elt [⟨tg,iter,ifs,0⟩] scope pos) 0 (.ref it) (.ref D) (compEnvC scope (closed X.env scope.names []) C X.env)) (RR (.ref D) C) { s2 with heap:=h₁,toks:=tk }:=fun tk=>by
  refine zka (CompI (Jf X scope own capt C s2 H2 R) [] (Jw own++capS capt σ) R tn W) ?_ m0 ⟨0,_,J0 tk,st1,fr0,w0⟩;rintro n s4 ⟨i,H4,I4,st4,fr4,w4⟩;refine zfC (Y:=Jf X scope own capt C s2 H2 R) rfl hc (hg _ _ _ _) (ht _ _ _ _) T II I4 st4 fr4 ?_;rcases turn i n H4 w4 with⟨stop,qn⟩|⟨go,N,N',hN,hN',step⟩
  ·exact .inl ⟨stop,fun s5 I5=>let ⟨o1,o2,o3,o4⟩:=out s5 H4 I5;hR _ _ s5 H4 o1 o2 o3 o4 qn⟩
  ·refine .inr ⟨go,fun σ4 H5=>te σ4 H5 N,N',fun {p6 σ7 H8 s8} I8 q8 again=>?_,hN',step⟩
   refine thn (he _ _ _ _ _ s8 σ7 H8 N I8 q8) fun y s9 ⟨v,H9,I9,r9,q9⟩=>?_
   obtain⟨ys,hD,hl,m',hm,w9⟩:=hN v H9 q9;refine thn (zes (X:=Jf X scope own capt C s2 H2 R) _ s9 σ7 H9 (.ref D) [v] _ [y] (fun _ Z=>Z=upd H9 D (.lst (ys++[v]))) I9 rfl (.cons r9 .nil) ⟨_,ys,v,rfl,rfl,hD,hl,rfl⟩) fun _ s10 ⟨_,H10,I10,_,q10⟩=>?_
   subst q10;exact again I10 hm w9
 exact k8 (loop _) (T.self X.A 0 _ _ _ st1 (loop _))
theorem znj(hc:X.calm=true)(S:JG scope own capt X)(hi:PI X tg iter wi)
  (Y:∀C s₀ H₀ l,PG (Jf X scope own capt C s₀ H₀ l) tg g) (ht:∀C s₀ H₀ l,PTs (Jf X scope own capt C s₀ H₀ l) ifs tt) (G:∀C s₀ H₀ l,PE (Jf X scope own capt C s₀ H₀ l) elt te)
  (hs:∀x,foldedSetIterable iter X.env x=pure x:=by intro _;rfl):PE X (.ListComp elt [⟨tg,iter,ifs,0⟩] scope pos) (tComp own capt wi g tt te):=by
 intro pins s σ H Q I h;rw[eval_ListComp];refine gA (use:=none) rfl hs (zbf (S.cells I.ok)) S.kind S.names (thn (hi pins s σ H _ I h) fun v s1 Z=>thn Z fun itv s2 U=>?_)
 refine zjw (RR:=fun u C=>compPost (model X.prog X.w) X.A X.xe none (EP X pins σ Q) u C) hc S Y ht G U fun D C s' R y J _ _ q=>?_
 obtain⟨m,y⟩:=y;exact⟨m,y,fun h'' N=>⟨.ref D,R,J h'' N,rfl,q⟩⟩
theorem zkJ(hc:X.calm=true)(S:JG scope own capt X)(hi:PI X tg iter wi)
  (hg:∀C s₀ H₀ y,PG (Jf X scope own capt C s₀ H₀ y) tg g) (ht:∀C s₀ H₀ y,PTs (Jf X scope own capt C s₀ H₀ y) ifs tt) (he:∀C s₀ H₀ y,PE (Jf X scope own capt C s₀ H₀ y) elt te)
  {i:Nat} {x:Str} {u IJ:Pos} (hN:X.N.Nodup) (Z:X.N[i]?=some x) (hx:Loc X.env.scope x)
  (hs:∀x,foldedSetIterable iter X.env x=pure x:=by intro _;rfl) (hsw:swapsWith (.ListComp elt [⟨tg,iter,ifs,0⟩] scope pos) (some (.Name x u)) IJ.line X.env=pure true:=by rfl)
  (hf:X.fn x=true\/X.env.scope.names.lookup x=some .local:=by walk_at "F") :
  PS X (.Assign [.Name x u] (.ListComp elt [⟨tg,iter,ifs,0⟩] scope pos) IJ) (tAsg (tComp own capt wi g tt te) (YS i)):=by
 intro pins s σ H D I h;rw[exec_Assign_Name_used _ _ _ _ hsw];refine ae (dN (ae ?_));show wpAny _ X.A (do let _ <- comprehension (.ListComp elt [⟨tg,iter,ifs,0⟩] scope pos) scope X.env _ (newList []) false (eval iter X.env) (some (assign (.Name x u) X.env))) _ _ s
 refine ae (c8 (gA (use:=some (assign (.Name x u) X.env)) (Q:=fun _ s'=>SP X pins D .next s') rfl hs (zbf (S.cells I.ok)) S.kind S.names (thn (hi pins s σ H _ I h) fun v s1 h1=>thn h1 fun itv s2 h2=>?_)) (fun _ s' hq=>aj (aj hq)) fun _ _ e=>e)
 refine zjw (RR:=fun Y C=>compPost (model X.prog X.w) X.A X.xe (some (assign (.Name x u) X.env)) (fun _ s'=>SP X pins D .next s') Y C) hc S hg ht he h2 fun D' C s' H' hn J hCn y q=>?_
 obtain⟨m,hn⟩:=hn;obtain⟨f0,f1,f2,f3,f4,f5⟩:=y;have Is:Inv X pins σ H' s':=J s'.heap (xI _ _);refine m8 (zgo Is hN Z hx (show RelV (.ref D') (.ref D') from rfl) (fun G R U=>?_) hf)
 obtain⟨a,U,ha⟩:=U;have neA:C≠a:=by
  rcases ha with rfl|ha
  ·exact f1
  ·exact fun z=>f4 x a ha z.symm
 have hn':G.heap.Ns C m:=hn.sameBut U neA;exact⟨m,hn',fun h' sb'=>⟨_,H',R.turned (t':=G.toks) (fun b o hb e=>(sb'.2 b hb).trans e) f0 f1 f3 f4 f5,q⟩⟩
end
theorem zmk{J:It}{n:Nat}{own:List Str}{capt:List Nat}{g:TG}{tt:TT}{R:TE}{σ:St}{S:Hp}{D:ak}{Q:VK}(C:Nat->List V->Hp->Prop)(h0:C 0 [] (upd S D (.lst [])))
  (turn:∀i ys u,i<n->u D=some (.lst ys)->C i ys u->J.go i u/\∀x N,J.yld i u x N->g x (Jw own++capS capt σ) N fun y U=>Wk (Jw own++capS capt σ) y/\tt y U fun b G =>
   if b=true then R y G (fun v I=>∃zs,I D=some (.lst zs)/\zs.length<sizeLine/\C (i+1) (zs++[v]) (upd I D (.lst (zs++[v])))) else ∃zs,G D=some (.lst zs)/\C (i+1) zs G)
  (stop:∀ys u,u D=some (.lst ys)->C n ys u->J.stop n u/\Q (.ref D) u) :
  zqO own capt g tt R σ J S D Q:=by
 refine⟨fun i m H=>m=n - i/\i<=n/\∃ys,H D=some (.lst ys)/\C i ys H,⟨n,rfl,eU _,[],JM,h0⟩,?_⟩
 rintro i m u ⟨rfl,hi,ys,L,p⟩
 by_cases hlt:i<n
 ·obtain⟨go,st⟩:=turn i ys u hlt L p;refine .inr ⟨go,_,_,?_,?_,st⟩
  ·rintro v I ⟨zs,e,l,q⟩;exact⟨zs,e,l,n - (i+1),by omega,rfl,hlt,_,JM,q⟩
  ·rintro G ⟨zs,e,q⟩;exact⟨n - (i+1),by omega,rfl,hlt,zs,e,q⟩
 ·have e:i=n:=by omega
  subst e;exact .inl (stop ys u L p)
def VM(scope outer:fv)(N:List Str)(capt:List Nat):Bool :=
 scope.kind == .function&&scope.names.all (fun y=>!(y.2 == .cell))&&scope.names.all (fun y=>!(y.2 == .local)||scope.names.lookup y.1 == some .local) &&
 scope.names.all (fun y=>!(y.2 == .free)||(outer.names.lookup y.1 == some .cell||outer.names.lookup y.1 == some .free))&&capt.all (fun k=>scope.names.lookup (N.getD k iU) == some .free)
theorem JG.of{X:Cx}{scope:fv}{own:List Str}{capt:List Nat}(h:VM scope X.env.scope X.N capt=true):JG scope own capt X:=by
 unfold VM at h;simp only[aM]at h;obtain⟨⟨⟨⟨J,x⟩,v⟩,G⟩,C⟩:=h;rw[bw]at x v G C;refine⟨by simpa using J,fun y u=>?_,fun y u I=>?_,fun y u hf=>?_,fun k L=>?_⟩
 ·simpa using x y u
 ·have:=v y u;rw[I]at this;simpa using this
 ·have:=G y u;rw[hf]at this;show X.env.scope.names.lookup y.1=some .cell\/X.env.scope.names.lookup y.1=some .free
  simpa using this
 ·simpa using C k L
section
variable{X:Cx}
theorem zsb:OpR X (compareOp .Is) (fun x y H Q=>∃a b,x=.bl a/\y=.bl b/\Q (.bl (a == b)) H):=by
 intro pins s σ H x y v u Q I G C h;obtain⟨a,b,rfl,rfl,q⟩:=h;cases G;cases C;exact is_bool ⟨.bl (a == b),H,I,rfl,q⟩
theorem zk0:OpR X (compareOp .IsNot) (fun x y H Q=>∃a b,x=.bl a/\y=.bl b/\Q (.bl (a != b)) H):=by
 intro pins s σ H x y v u Q I G C h;obtain⟨a,b,rfl,rfl,q⟩:=h;cases G;cases C;exact isnot_bool ⟨.bl (a != b),H,I,rfl,q⟩
def kitB(t T:String):Option Bool:=if (bH t == bH T)=true then some true else if PySem.W.kitMeta T=true then(fastBuiltinMro t).map (·.contains (.type T)) else none
theorem Yi(K:qF)(t T:String):pF K (.type t) (.type T)=kitB t T:=rfl
inductive Ty (H:Hp):V->String->Prop where
 | non:Ty H .non "NoneType"
 | bl (x:Bool):Ty H (.bl x) "bool"
 | int (i:Int):Ty H (.int i) "int"
 | str (x:Str):Ty H (.str x) "str"
 | lst {a:ak} {xs:List V} (e:H a=some (.lst xs)):Ty H (.ref a) "list"
 | tup {a:ak} {xs:List V} (e:H a=some (.tup xs)):Ty H (.ref a) "tuple"
 | dK {a:ak} {kvs:List (Key×V)} (e:H a=some (.dK kvs)):Ty H (.ref a) "dict"
theorem Ty.of{K:qF}{H:Hp}{v:V}{t:String}(h:Ty H v t):TyOf K H v (.type t):=by
 cases h with
 | non=>exact .non
 | bl x=>exact .bl x
 | int i=>exact .int i
 | str x=>exact .str x
 | lst e=>exact .lst e
 | tup e=>exact .tup e
 | dK e=>exact .dK e
theorem VX:bootBuiltins "isinstance" = some (.builtin "isinstance"):=by decide +kernel
theorem boot_int:bootBuiltins "int" = some (.type "int"):=by decide +kernel
theorem zkf:bootBuiltins "bool" = some (.type "bool"):=by decide +kernel
theorem QN:bootBuiltins "tuple" = some (.type "tuple"):=by decide +kernel
theorem zhK:bootBuiltins "str" = some (.type "str"):=by decide +kernel
theorem zeY:bootBuiltins "all" = some (.builtin "all"):=by decide +kernel
theorem V1:bootBuiltins "repr" = some (.builtin "repr"):=by decide +kernel
theorem VJ:bootBuiltins "min" = some (.builtin "min"):=by decide +kernel
theorem Yw:bootBuiltins "max" = some (.builtin "max"):=by decide +kernel
theorem Qu:bootBuiltins "len" = some (.builtin "len"):=by decide +kernel
theorem zhL:∀{bs:List Bool}{u:List ah},Vals (bs.map V.bl) u->LSm.BoolsAre u bs
 | [],_,h=>by cases h;exact .nil
 | b::bs,_,h=>by
  cases h with
  | cons r t =>
   cases(show _=eK b from r)
   exact .cons b (zhL t)
theorem zeV(hc:X.calm=true):JU X (.builtin "all") (fun xs H Q=>∃(a:ak) (bs:List Bool),xs=[.ref a]/\SqL X.K H a (bs.map V.bl)/\Q (.bl (bs.all id)) H):=by
 intro pins s σ H xs us Q I r h;obtain⟨a,bs,rfl,L,q⟩:=h;cases r with
 | cons S U =>
  cases U;cases(show _=cG a from S)
  obtain⟨x,Y,p,hz⟩:=I.list L;have J:=zhL Y;have y:s.heap.IsList a x.toArray:=p.isList;have C:a<s.heap.objs.size:=by obtain⟨_,e,_⟩:=y;exact aD e
  refine call_all_walk (gU y ?_);refine⟨s.heap.objs.size,[s.heap.objs.size,a],[s.heap.objs.size],x.toArray.size,_,_,fun i=>(bs[i]?).getD true,rfl,Walks.list (A:=X.A.in1) (I.ok.hd hc) _ a (aL C) x.toArray,
   ⟨⟨_,aI _ rfl,rfl,rfl⟩,y.push _⟩,fun i v s' Q' Z N G=>?_,fun h' tk R=>?_⟩
  ·obtain⟨b,e,rfl⟩:=J.get i v (by simpa using N)
   simp only[e,fi]at G;exact bW G
  ·have e:((fw x.toArray.size).all fun i=>(bs[i]?).getD true)=bs.all id:=by
    rw[aG,J.length];exact LSm.range_all bs
   rw[e];exact⟨.bl _,H,I.kept (LSm.kept_iter R),rfl,q⟩
mutual
inductive UK (H:Hp):V->af->Prop
 | non:UK H .non .none
 | bl (b:Bool):UK H (.bl b) (.bool b)
 | int (i:Int):UK H (.int i) (.int i)
 | str (x:Str):UK H (.str x) (.str x)
 | lst {a:ak} {xs:List V} {ds:qD}:H a=some (.lst xs)->ZB H xs ds->UK H (.ref a) (.list ds)
 | tup {a:ak} {xs:List V} {ds:qD}:H a=some (.tup xs)->ZB H xs ds->UK H (.ref a) (.tuple ds)
inductive ZB (H:Hp):List V->List af->Prop
 | nil:ZB H [] []
 | cons {v:V} {vs:List V} {d:af} {ds:qD}:UK H v d->ZB H vs ds->ZB H (v::vs) (d::ds)
end
def YE(i j:Int):Prop:=0<j/\j<2 ^ 128
theorem VP:OpR X (binaryOp .FloorDiv) (rI YE fun i j=>.int (i / j)):=opI fun i j _ _ _ _ _ hc q=>by
 have y:(0:Int)<j:=hc.1;have x:j<2 ^ 128:=hc.2;refine floordiv_int (by omega) (by rw[iZ i (by omega)];exact q) (.inl (PyProof.noPylong_of_log2 ?_))
 have u:j.natAbs<2 ^ 128:=by omega
 have C:j.natAbs.log2<128:=(vc (by omega)).mpr u
 omega
end
def Pl(X:Cx)(l:List aX):Prop:=∀pos,(backTo pos (starEach l X.env)).any (·.1)=false
def Hd(X:Cx):List aX->Prop
 | []=>True
 | e::r=>starEach (e::r) X.env=(false,eval e X.env)::starEach r X.env/\Pl X r
structure PB(X:Cx)(es:List aX)(t:TA):Prop where
 pa:PA X es t
 pl:Pl X es
 hd:Hd X es
section
variable{X:Cx}{es:List aX}{t:TA}{te:TE}
theorem QD:PB X [] tNil:=⟨US,fun _=>rfl,trivial⟩
theorem Qi(h:PE X e te)(l:PB X es t)(u:starEach (e::es) X.env=(false,eval e X.env)::starEach es X.env):PB X (e::es) (QG te t) :=
 ⟨Ub h l.pa u,fun pos=>by
  rw[u];have:(backTo pos ((false,eval e X.env)::starEach es X.env)).any (·.1)=(false||(backTo pos (starEach es X.env)).any (·.1)):=rfl
  rw[this,l.pl pos];rfl,u,l.pl⟩
theorem pb_i{j pos}(l:PB X es t):PB X (.Constant (.int i) j pos::es) (QG (tC (.int i)) t):=Qi JD l rfl
theorem pb_v(i:Nat){x:Str}{pos:Pos}(u:PB X es t)(v:X.N[i]?=some x:=by rfl)(y:Vis X.env.scope x:=by walk_at "V")(hd:(x == ("__debug__":Str))=false:=by rfl)
  (l:(x == ("__classdict__":Str))=false:=by rfl):PB X (.Name x pos::es) (QG (tVar i) t):=Qi (QW v y hd l) u rfl
theorem zh0(h:PE X (.Name x pos) te)(l:PB X es t):PB X (.Name x pos::es) (QG te t):=Qi h l rfl
theorem zos{a b c d}(h:PE X (.BinOp a b c d) te)(l:PB X es t):PB X (.BinOp a b c d::es) (QG te t):=Qi h l rfl
theorem zr1{a b c d}(h:PE X (.Compare a b c d) te)(l:PB X es t):PB X (.Compare a b c d::es) (QG te t):=Qi h l rfl
variable{e:aX}{x:Str}{p pos:Pos}
theorem zpa{x1}(h:PB X es t):PE X (.Tuple es x1 pos) (tTup t):=zor h.pa
theorem zkQ(h:PB X es t):PE X (.List es pos) (tLst t):=zrX h.pa
theorem Ui{id:String}{r:List V->Hp->VK->Prop}(hc:JU X (.builtin id) r)(y:X.mg x=none)(J:bootBuiltins x=some (.builtin id))(h:PB X (e::es) t)(I:Gl X x:=by rfl)(G:x ≠ "__name__":=by decide) (v:(x == ("__debug__":Str))=false:=by rfl) :
  PE X (.Call (.Name x p) (e::es) [] pos) (tCB r t):=znn hc I y J h.pa G v h.hd.1 (h.hd.2 pos)
theorem zrY(hc:JU X (.type T) r)(v:X.mg x=none)(J:bootBuiltins x=some (.type T))(h:PB X (e::es) t)(I:Gl X x:=by rfl)(G:x ≠ "__name__":=by decide) (u:(x == ("__debug__":Str))=false:=by rfl) :
  PE X (.Call (.Name x p) (e::es) [] pos) (tCB r t):=zkT hc I v J h.pa G u h.hd.1 (h.hd.2 pos)
end
end L2
namespace Bd
open PySem L2
structure Def(K:qF)(mg:qM)(x:Str)(st:dG)(ps:List Str)(f:ak)(fd:cT):Prop where
 F:Fun K x x st f fd
 b:Binds K fd ps []
 m:mg x=some (.ref f)
section
variable{X:Cx}{k:Nat}{f:ak}{fd:cT}{ps:List Str}{sp:Sp}{x:Str}{p pos:Pos}{e:aX}{es:List aX}{t:TA}{st:dG}
theorem zpc(D:Def X.K X.mg x st ps f fd)(G:FnOk X.prog X.w X.K X.mg X.base CX0 k f fd ps sp)(v:Room k X.A)(h:PB X (e::es) t)(y:Gl X x:=by rfl)
  (u:(x == ("__debug__":Str))=false:=by rfl):PE X (.Call (.Name x p) (e::es) [] pos) (zq6 sp [] E0 t):=zpe G v y D.m D.F.kp D.b .nil zvD h.pa u h.hd.1 (h.hd.2 pos)
theorem zrR(l:X.mg x=none)(C:bootBuiltins x=some (.type T))(v:Gl X x:=by rfl)(u:x ≠ "__name__":=by decide) (hd:(x == ("__debug__":Str))=false:=by rfl):PE X (.Name x p) (tC (.ty T)) :=
 zpg v l C rfl u hd
end
theorem iteP{c A B:Prop}[Decidable c](hc:c)(h:A):if decide c=true then A else B:=by
 rw[decide_eq_true hc];exact iteT h
theorem iteN{c A B:Prop}[Decidable c](hc:¬c)(h:B):if decide c=true then A else B:=by
 rw[decide_eq_false hc];exact iteF h
theorem zs5{c A B:Prop}[Decidable c](u:c->A)(l:¬c->B):if decide c=true then A else B:=by
 by_cases h:c
 ·exact iteP h (u h)
 ·exact iteN h (l h)
theorem ze1{α:Type}{xs:List α}{k:Int}{v:α}(h0:0<=k)(h:xs[k.toNat]?=some v):atI xs k=some v:=by
 obtain⟨n,rfl⟩:=kM h0;exact zqJ h
theorem Qm(k:Nat):(0:Int)<2 ^ k:=by
 have:(0:Nat)<2 ^ k:=Nat.two_pow_pos k;have e:((2 ^ k:Nat):Int)=(2:Int) ^ k:=by simp
 omega
theorem zkL(h:k<=64):(2:Int) ^ k<2 ^ 128:=by
 have:(2:Nat) ^ k<2 ^ 128:=Nat.pow_lt_pow_right (by decide) (by omega)
 have e:((2 ^ k:Nat):Int)=(2:Int) ^ k:=by simp
 omega
theorem ZS(h:k<=64):(2:Int) ^ k<=2 ^ 64:=by
 have:(2:Nat) ^ k<=2 ^ 64:=Nat.pow_le_pow_right (by decide) (by omega)
 have e:((2 ^ k:Nat):Int)=(2:Int) ^ k:=by simp
 omega
theorem zm0(h:H p=none):Same H (upd H p o):=fun b u e=>by
 rw[Jn (Qv e h)];exact e
end Bd
namespace L2
open PySem PySem.Spec PyProof.Rows
theorem zqK(k h:Nat):(k*2 ^ h) &&& (2 ^ h)=(k % 2)*2 ^ h:=by
 have u:k*2 ^ h=k <<< h:=(kN k h).symm;have l:(2:Nat) ^ h=1 <<< h:=by rw[kN,vf]
 have v:(k &&& 1) <<< h=k <<< h &&& 1 <<< h:=Nat.shiftLeft_and_distrib;rw[u]
 conv=>lhs;rw[l]
 rw[<- v,Nat.and_one_is_mod,kN]
theorem zmR(h:Nat)(k0:0<=k):fg (k*2 ^ h) (2 ^ h)=if k % 2=0 then k*2 ^ h+2 ^ h else k*2 ^ h - 2 ^ h:=by
 obtain⟨n,rfl⟩:=kM k0;have l:((2 ^ h:Nat):Int)=(2:Int) ^ h:=by simp
 have u:((n:Int)*2 ^ h)=((n*2 ^ h:Nat):Int):=by rw[Int.natCast_mul,l]
 rw[bitXor_and,u,<- l,bitAnd_pp (iY _) (iY _)];have v:((n*2 ^ h:Nat):Int).toNat &&& ((2 ^ h:Nat):Int).toNat=(n % 2)*2 ^ h:=by
  rw[dU,dU];exact zqK n h
 rw[v];rcases Nat.mod_two_eq_zero_or_one n with z|z
 ·have:((n:Int)) % 2=0:=by lia
  rw[if_pos this,z];simp
 ·have:¬((n:Int)) % 2=0:=by lia
  rw[if_neg this,z,vf];lia
def HAND:af:=.dict [(.none,.none)]
def SCR(ns:List Int):af:=.dict [(.none,.list (ns.map .int))]
def Vh(H:Hp)(hd:ak)(n:Int):Prop:=∃d m t:Int,H hd=some (.lst [.int d,.int m,.int t])/\0<=m/\m<2 ^ 62/\0<=t/\t<=n
def StT(K:qF)(a:ak)(xs:List V):Prop :=
 ∃(o:Obj) (l:Array ah) (n:Nat),K.lookup a=some o/\o.cls=.type "tuple" /\ o.data=.seq l n/\l.size<=sizeLine/\Vals xs l.toList/\o.dict=none
theorem StT.sq{K:qF}{H:Hp}{a:ak}{xs:List V}(h:StT K a xs):SqT K H a xs:=by
 obtain⟨o,l,n,y,v,u,C,x,_⟩:=h;exact .inr ⟨o,l,n,y,v,u,C,x⟩
def hsT(k:Int×Int):Int:=reduceHash (rJ [hashInt k.1,hashInt k.2])
def entZ(z:(Int×Int)×ak×V)(e:dI):Prop:=e.hash=hsT z.1/\e.key=.ref z.2.1/\RelV z.2.2 e.val
abbrev ZT:=List ((Int×Int)×ak×V)
def ZDO(a:ak)(zs:ZT)(v:Nat):HO:=.ext fun h=>(a == sysModules)=false/\zs.length<=sizeLine/\(zs.map (·.1)).Nodup/\∃o l,h.get? a=some o/\o.ExactDict/\o.data=.dict l v/\eL entZ zs l.toList
abbrev KT2:=List ((Int×Int)×af)
def entI(z:Int×V)(e:dI):Prop:=e.hash=hashInt z.1/\(∃t,e.key=.int z.1 t)/\RelV z.2 e.val
def KDO(a:ak)(zs:List (Int×V))(v:Nat):HO:=.ext fun h=>(a == sysModules)=false/\zs.length<=sizeLine/\(zs.map (·.1)).Nodup/\∃o l,h.get? a=some o/\o.ExactDict/\o.data=.dict l v/\eL entI zs l.toList
def blkT(k:Int×Int):af:=.tuple [.int k.1,.int k.2]
def zqm(l:List (Int×af)):List (af×af):=l.map fun q=>(.int q.1,q.2)
def Yc(l:KT2):List (af×af):=l.map fun q=>(blkT q.1,q.2)
def EXC(C:ak):af:=.dict [(.none,.int (C:Int))]
def EXO(a C:ak):HO:=.ext fun h=>∃o,h.get? a=some o/\o.cls=.ref C/\∃u,o.data=.fields u
mutual
inductive Rep (K:qF)(hd:Option ak)(O:ak->Prop)(H:Hp):V->af->Prop
 | non:Rep K hd O H .non .none
 | bl (b:Bool):Rep K hd O H (.bl b) (.bool b)
 | int (i:Int):Rep K hd O H (.int i) (.int i)
 | str (x:Str):Rep K hd O H (.str x) (.str x)
 | tup {a vs ds} (h:H a=some (.tup vs)) (o:¬O a) (r:Reps K hd O H vs ds):Rep K hd O H (.ref a) (.tuple ds)
 | tupS {a vs ds} (h:StT K a vs) (r:Reps K hd O H vs ds):Rep K hd O H (.ref a) (.tuple ds)
 | lst {a vs ds} (h:H a=some (.lst vs)) (o:¬O a) (r:Reps K hd O H vs ds):Rep K hd O H (.ref a) (.list ds)
 | dct {a ep} (h:H a=some (KDO a [] ep)) (o:¬O a):Rep K hd O H (.ref a) (.dict [])
 | dcK {a kvs ep ks ps} (h:H a=some (KDO a kvs ep)) (o:¬O a) (r:YA K hd O H kvs ks) (e:ps=zqm ks):Rep K hd O H (.ref a) (.dict ps)
 | dcT {a zs ep ks ps} (h:H a=some (ZDO a zs ep)) (o:¬O a) (r:Qj K hd O H zs ks) (e:ps=Yc ks):Rep K hd O H (.ref a) (.dict ps)
 | hand {a} (h:hd=some a):Rep K hd O H (.ref a) HAND
 | scr {a ns} (h:Rd H a (.lst (ns.map V.int))) (o:¬O a):Rep K hd O H (.ref a) (SCR ns)
 | scrS {a} {ns:List Int} (h:∀H':Hp,SqL K H' a (ns.map V.int)):Rep K hd O H (.ref a) (SCR ns)
 | exc {a C} (h:H a=some (EXO a C)) (o:¬O a):Rep K hd O H (.ref a) (EXC C)
inductive Reps (K:qF)(hd:Option ak)(O:ak->Prop)(H:Hp):List V->List af->Prop
 | nil:Reps K hd O H [] []
 | cons {v d vs ds} (h:Rep K hd O H v d) (r:Reps K hd O H vs ds):Reps K hd O H (v::vs) (d::ds)
inductive YA (K:qF)(hd:Option ak)(O:ak->Prop)(H:Hp):List (Int×V)->List (Int×af)->Prop
 | nil:YA K hd O H [] []
 | cons {k v d kvs ks} (h:Rep K hd O H v d) (r:YA K hd O H kvs ks):YA K hd O H ((k,v)::kvs) ((k,d)::ks)
inductive Qj (K:qF)(hd:Option ak)(O:ak->Prop)(H:Hp):ZT->KT2->Prop
 | nil:Qj K hd O H [] []
 | cons {k q v d zs ks} (h:Rep K hd O H (.ref q) (.tuple [.int k.1,.int k.2])) (h2:Rep K hd O H v d) (r:Qj K hd O H zs ks):Qj K hd O H ((k,q,v)::zs) ((k,d)::ks)
end
section
variable{K:qF}{hd:Option ak}{O O':ak->Prop}{H H':Hp}
theorem Rep.mono(y:∀a o,H a=some o->O' a->O a)(C:∀a o,¬O a->H a=some o->H' a=some o)(q:Rep K hd O H v d):Rep K hd O' H' v d :=
 Rep.rec (motive_1:=fun v d _=>Rep K hd O' H' v d) (motive_2:=fun v d _=>Reps K hd O' H' v d) (motive_3:=fun v d _=>YA K hd O' H' v d) (motive_4:=fun v d _=>Qj K hd O' H' v d)
  .non .bl .int .str (fun h o _ r=>.tup (C _ _ o h) (fun z=>o (y _ _ h z)) r) (fun h _ r=>.tupS h r) (fun h o _ r=>.lst (C _ _ o h) (fun z=>o (y _ _ h z)) r) (fun h o=>.dct (C _ _ o h) (fun z=>o (y _ _ h z))) (fun h o _ e r=>.dcK (C _ _ o h) (fun z=>o (y _ _ h z)) r e) (fun h o _ e r=>.dcT (C _ _ o h) (fun z=>o (y _ _ h z)) r e) .hand
  (fun h o=>h.elim (fun h=>.scr (.inl (C _ _ o h)) fun z=>o (y _ _ h z)) fun h=>h.elim fun u h=>.scr (.inr ⟨u,C _ _ o h⟩) fun z=>o (y _ _ h z)) .scrS (fun h o=>.exc (C _ _ o h) (fun z=>o (y _ _ h z)))
  .nil (fun _ _ h r=>.cons h r) .nil (fun _ _ h r=>.cons h r) .nil (fun _ _ _ h k r=>.cons h k r) q
theorem Reps.ind{P:List V->List af->Prop}(n:P [] [])(c:∀{v d vs ds},Rep K hd O H v d->Reps K hd O H vs ds->P vs ds->P (v::vs) (d::ds))(q:Reps K hd O H vs ds):P vs ds:=by
 refine Reps.rec (motive_1:=fun _ _ _=>True) (motive_2:=fun v d _=>P v d) (motive_3:=fun _ _ _=>True) (motive_4:=fun _ _ _=>True) ?_ ?_ ?_ ?_ ?_ ?_ ?_ ?_ ?_ ?_ ?_ ?_ ?_ ?_ n (fun h r _ i=>c h r i) ?_ ?_ ?_ ?_ q <;> intros <;> trivial
theorem Qj.ind{P:ZT->KT2->Prop}(n:P [] [])(c:∀{k q v d vs ds},Rep K hd O H (.ref q) (.tuple [.int k.1,.int k.2])->Rep K hd O H v d->Qj K hd O H vs ds->P vs ds->P ((k,q,v)::vs) ((k,d)::ds))(q:Qj K hd O H vs ds):P vs ds:=by
 refine Qj.rec (motive_1:=fun _ _ _=>True) (motive_4:=fun v d _=>P v d) (motive_2:=fun _ _ _=>True) (motive_3:=fun _ _ _=>True) ?_ ?_ ?_ ?_ ?_ ?_ ?_ ?_ ?_ ?_ ?_ ?_ ?_ ?_ ?_ ?_ ?_ ?_ n (fun h k r _ _ i=>c h k r i) q <;> intros <;> trivial
theorem Reps.mono(u:∀a o,H a=some o->O' a->O a)(v:∀a o,¬O a->H a=some o->H' a=some o)(q:Reps K hd O H vs ds):Reps K hd O' H' vs ds:=q.ind .nil fun h _ r=>.cons (h.mono u v) r
theorem Qj.mono(u:∀a o,H a=some o->O' a->O a)(v:∀a o,¬O a->H a=some o->H' a=some o)(q:Qj K hd O H vs ds):Qj K hd O' H' vs ds:=q.ind .nil fun h k _ r=>.cons (h.mono u v) (k.mono u v) r
theorem dict_noK(e:(lW,v)::r=zqm l):False:=by
 cases l with
 | nil=>cases e
 | cons q l=>cases e
theorem dict_noT(e:(lW,v)::r=Yc l):False:=by
 cases l with
 | nil=>cases e
 | cons q l=>cases e
theorem Reps.length(q:Reps K hd O H vs ds):vs.length=ds.length:=q.ind (P:=fun a b=>a.length=b.length) rfl fun _ _ e=>congrArg (·+1) e
theorem Reps.get{i:Nat}(q:Reps K hd O H l ds):ds[i]?=some d->∃v,l[i]?=some v/\Rep K hd O H v d :=
 q.ind (P:=fun l ds=>∀(i:Nat),ds[i]?=some d->∃v,l[i]?=some v/\Rep K hd O H v d) (fun _ e=>nomatch e) (fun {v _ _ _} h _ r i=>i.casesOn (fun e=>⟨v,rfl,aO e▸h⟩) fun i e=>r i e) i
theorem Reps.append(q:Reps K hd O H vs ds)(s:Reps K hd O H ws es):Reps K hd O H (vs++ws) (ds++es):=q.ind (P:=fun a b=>Reps K hd O H (a++ws) (b++es)) s fun h _ r=>.cons h r
theorem Reps.take(n:Nat)(q:Reps K hd O H u ds):Reps K hd O H (u.take n) (ds.take n) :=
 q.ind (P:=fun u ds=>∀n:Nat,Reps K hd O H (u.take n) (ds.take n)) (fun n=>by rw[sE,sE];exact .nil) (fun h _ r n=>n.casesOn .nil fun n=>.cons h (r n)) n
theorem Reps.drop(n:Nat)(q:Reps K hd O H u ds):Reps K hd O H (u.drop n) (ds.drop n) :=
 q.ind (P:=fun u ds=>∀n:Nat,Reps K hd O H (u.drop n) (ds.drop n)) (fun n=>by rw[sF,sF];exact .nil) (fun h k r n=>n.casesOn (.cons h k) fun n=>r n) n
theorem Reps.set{v d}(h:Rep K hd O H v d)(n:Nat)(q:Reps K hd O H u ds):Reps K hd O H (u.set n v) (ds.set n d) :=
 q.ind (P:=fun u ds=>∀n:Nat,Reps K hd O H (u.set n v) (ds.set n d)) (fun n=>.nil) (fun k s r n=>n.casesOn (.cons h s) fun n=>.cons k (r n)) n
theorem Rep.tupI(h:Rep K hd O H v (.tuple ds)):∃a x,v=.ref a/\SqT K H a x/\Reps K hd O H x ds:=by
 cases h with
 | tup h o r=>exact⟨_,_,rfl,.inl (.inl h),r⟩
 | tupS h r=>exact⟨_,_,rfl,h.sq,r⟩
theorem Rep.lstI(h:Rep K hd O H v (.list ds)):∃a u,v=.ref a/\H a=some (.lst u)/\¬O a/\Reps K hd O H u ds:=by
 cases h with
 | lst h o r=>exact⟨_,_,rfl,h,o,r⟩
theorem Rep.intI(h:Rep K hd O H v (.int i)):v=.int i:=by cases h;rfl
theorem Rep.blI(h:Rep K hd O H v (.bool b)):v=.bl b:=by cases h;rfl
theorem Rep.strI(h:Rep K hd O H v (.str x)):v=.str x:=by cases h;rfl
theorem Rep.nonI(h:Rep K hd O H v .none):v=.non:=by cases h;rfl
theorem Rep.handI(h:Rep K hd O H v HAND):∃a,v=.ref a/\hd=some a:=by
 generalize e:HAND=d at h;cases h with
 | hand h=>exact⟨_,rfl,h⟩
 | dct _ _=>cases e
 | dcK _ _ _ u=>cases e;exact(dict_noK u).elim
 | dcT _ _ _ u=>cases e;exact(dict_noT u).elim
 | scr _ _=>simp[HAND,SCR]at e
 | scrS _=>simp[HAND,SCR]at e
 | exc _ _=>simp[HAND,EXC]at e
 | _=>cases e
theorem Rep.scrI(h:Rep K hd O H v (SCR ns)):∃a,v=.ref a/\SqL K H a (ns.map V.int):=by
 generalize e:SCR ns=d at h;cases h with
 | hand h=>simp[HAND,SCR]at e
 | dct _ _=>cases e
 | dcK _ _ _ u=>cases e;exact(dict_noK u).elim
 | dcT _ _ _ u=>cases e;exact(dict_noT u).elim
 | @scr a ms h o =>
  have:ns=ms:=by
   have u:(ns.map b5)=ms.map b5:=by simpa[SCR] using e
   have:=congrArg (nH fun x=>match x with|b5 i=>i|_=>0) u
   simpa[cZ,ku] using this
  subst this;exact⟨_,rfl,.inl h⟩
 | @scrS a ms h =>
  have:ns=ms:=by
   have u:(ns.map b5)=ms.map b5:=by simpa[SCR] using e
   have:=congrArg (nH fun x=>match x with|b5 i=>i|_=>0) u
   simpa[cZ,ku] using this
  subst this;exact⟨_,rfl,h H⟩
 | exc _ _=>simp[SCR,EXC]at e
 | _=>cases e
end
mutual
def JV:af->Bool
 | .list _=>false
 | .tuple ts=>Zg ts
 | .dict [(.none,.none)]=>true
 | .dict _=>false
 | _=>true
def Zg:List af->Bool
 | []=>true
 | t::ts=>JV t&&Zg ts
end
section
variable{K:qF}{hd:Option ak}{O O':ak->Prop}{H:Hp}
theorem zpD(e:JV (.dict (zqm ks))=true):False:=by
 unfold JV at e;split at e
 ·rename_i h;cases h
 ·rename_i h;cases h
 ·rename_i h;exact dict_noK (lE h).symm
 ·cases e
 ·rename_i h;exact h _ rfl
theorem zpC(e:JV (.dict (Yc ks))=true):False:=by
 unfold JV at e;split at e
 ·rename_i h;cases h
 ·rename_i h;cases h
 ·rename_i h;exact dict_noT (lE h).symm
 ·cases e
 ·rename_i h;exact h _ rfl
def MutO(o:Option HO):Prop:=(∃xs,o=some (.lst xs))\/(∃v,o=some (.dK v))\/∃a zs u,o=some (ZDO a zs u)
theorem Rep.up(y:∀a,O a->MutO (H a))(q:Rep K hd O' H v d):JV d=true->Rep K hd O H v d:=by
 refine Rep.rec (motive_1:=fun v d _=>JV d=true->Rep K hd O H v d) (motive_2:=fun v d _=>Zg d=true->Reps K hd O H v d) (motive_3:=fun _ _ _=>True) (motive_4:=fun _ _ _=>True)
  (fun _=>.non) (fun b _=>.bl b) (fun b _=>.int b) (fun b _=>.str b) (fun h _ _ r e=>.tup h (fun z=>by rcases y _ z with⟨xs,q⟩|⟨xs,q⟩|⟨xs,zs,C,q⟩ <;> (rw[h]at q;cases q)) (r (by simpa[JV] using e))) (fun h _ r e=>.tupS h (r (by simpa[JV] using e)))
  (fun _ _ _ _ e=>by simp[JV]at e) (fun _ _ e=>by simp[JV]at e) (fun _ _ _ x _ e=>by subst x;exact(zpD e).elim) (fun _ _ _ x _ e=>by subst x;exact(zpC e).elim) (fun h _=>.hand h) (fun _ _ e=>by simp[SCR,JV]at e) (fun _ e=>by simp[SCR,JV]at e) (fun _ _ e=>by simp[EXC,JV]at e)
  (fun _=>.nil) (fun _ _ h r e=>by rw[Zg,aM]at e;exact .cons (h e.1) (r e.2)) trivial ?_ trivial ?_ q <;> intros <;> trivial
end
section
variable{X:Cx}{pins:qO}{σ:St}{H:Hp}{s:aq}{hd:Option ak}{O:ak->Prop}
theorem Rep.reads(I:Inv X pins σ H s){u:ah}(q:Rep X.K hd O H v d):RelV v u->d.hasDict=false->∃C,Reads s.heap u d C:=by
 refine Rep.rec (motive_1:=fun v d _=>∀u,RelV v u->d.hasDict=false->∃C,Reads s.heap u d C) (motive_2:=fun v d _=>∀u,Vals v u->fQ d=false->∃C,pN s.heap u d C) (motive_3:=fun _ _ _=>True) (motive_4:=fun _ _ _=>True)
  (fun _ r _=>by cases r;exact⟨_,.none⟩) (fun b _ r _=>by cases r;exact⟨_,.bool b⟩) (fun i _ r _=>by obtain⟨t,rfl⟩:=r;exact⟨_,.int i t⟩) (fun x _ r _=>by obtain⟨t,rfl⟩:=r;exact⟨_,.str x t⟩)
  (fun {_ vs _} h _ _ q _ r e=>?_) (fun {_ vs _} h _ q _ r e=>?_) (fun {_ vs _} h _ _ q _ r e=>?_) (fun _ _ _ _ e=>by simp[cI]at e) (fun _ _ _ _ _ _ _ e=>by simp[cI]at e) (fun _ _ _ _ _ _ _ e=>by simp[cI]at e)
  (fun _ _ _ e=>by simp[HAND,cI]at e) (fun _ _ _ _ e=>by simp[SCR,cI]at e) (fun _ _ _ e=>by simp[SCR,cI]at e) (fun _ _ _ _ e=>by simp[EXC,cI]at e)
  (fun _ r _=>by cases r;exact⟨_,.nil⟩) (fun _ _ h q _ r e=>?_) trivial (by intros;trivial) trivial (by intros;trivial) q u
 ·cases r;obtain⟨L,N,p,_⟩:=I.tuple (xs:=vs) (.inl (.inl h));obtain⟨o,J,hc,n,y⟩:=p;obtain⟨C,G⟩:=q _ N (by simpa[cI] using e)
  exact⟨_,.tuple J hc y (by simpa using G)⟩
 ·cases r;obtain⟨L,N,p,_⟩:=I.tuple (xs:=vs) h.sq;obtain⟨o,J,hc,n,y⟩:=p;obtain⟨C,G⟩:=q _ N (by simpa[cI] using e)
  exact⟨_,.tuple J hc y (by simpa using G)⟩
 ·cases r;obtain⟨L,N,p,_⟩:=I.list (xs:=vs) (.inl (.inl h));obtain⟨o,n,J,hc,_,y⟩:=p;obtain⟨C,G⟩:=q _ N (by simpa[cI] using e)
  exact⟨_,.list J hc y (by simpa using G)⟩
 ·cases r with
  | cons S U =>
   rw[fQ,lX]at e;obtain⟨C,G⟩:=h _ S e.1;obtain⟨bs,R⟩:=q _ U e.2;exact⟨_,.cons G R⟩
theorem Reps.reads(I:Inv X pins σ H s){u:List ah}(q:Reps X.K hd O H x ds):Vals x u->fQ ds=false->∃v,pN s.heap u ds v :=
 q.ind (P:=fun x ds=>∀u,Vals x u->fQ ds=false->∃v,pN s.heap u ds v) (fun _ r _=>by cases r;exact⟨_,.nil⟩) (fun h _ q _ r e=>by
  cases r with
  | cons C G =>
   rw[fQ,lX]at e;obtain⟨v,J⟩:=h.reads I C e.1;obtain⟨bs,y⟩:=q _ G e.2;exact⟨_,.cons J y⟩) u
end
inductive Cell where
 | val (d:af)
 | own (ds:qD)
 | dct (ks:List (Key×af))
 | rdo (ks:List (Key×af))
 | dtt (ks:KT2)
def Cell.mine:Cell->Bool
 | .val _=>false
 | .own _=>true
 | .dct _=>true
 | .rdo _=>false
 | .dtt _=>true
def UJ(K:qF)(hd:Option ak)(O:ak->Prop)(H:Hp)(l:List (Key×V))(u:List (Key×af)):Prop:=eL (fun(p:Key×V) (q:Key×af)=>p.1=q.1/\Rep K hd O H p.2 q.2) l u
theorem UJ.mono{K:qF}{hd:Option ak}{O v:ak->Prop}{H u:Hp}(y:∀a o,H a=some o->v a->O a)(C:∀a o,¬O a->H a=some o->u a=some o){l:List (Key×V)}{x:List (Key×af)}(r:UJ K hd O H l x):UJ K hd v u l x :=
 Paired.mapP r fun _ _ z=>⟨z.1,z.2.mono y C⟩
abbrev En:=List (Option Cell)
structure Ctx where
 hd:Option ak
 ext:ak->Prop
def OwnS(l:En)(σ:St)(a:ak):Prop:=∃(i:Nat) (c:Cell),c.mine=true/\l[i]?=some (some c)/\σ[i]?=some (some (V.ref a))
def Own(C:Ctx)(l:En)(σ:St)(a:ak):Prop:=C.ext a\/OwnS l σ a
def Hn(hd:Option ak)(H:Hp)(n:Nat):Prop:=∀a,hd=some a->Vh H a n
structure Stt(K:qF)(C:Ctx)(ρ:En)(σ:St)(H:Hp)(n:Nat):Prop where
 len:ρ.length=σ.length
 val:∀(i:Nat) (d:af),ρ[i]?=some (some (Cell.val d))->∃v,σ[i]?=some (some v)/\Rep K C.hd (Own C ρ σ) H v d
 own:∀(i:Nat) (ds:qD),ρ[i]?=some (some (Cell.own ds))->∃a vs,σ[i]?=some (some (V.ref a))/\H a=some (.lst vs)/\Reps K C.hd (Own C ρ σ) H vs ds/\¬C.ext a
 dct:∀(i:Nat) (ks:List (Key×af)),ρ[i]?=some (some (Cell.dct ks))->∃a kvs,σ[i]?=some (some (V.ref a))/\H a=some (.dK kvs)/\UJ K C.hd (Own C ρ σ) H kvs ks/\¬C.ext a
 rdo:∀(i:Nat) (ks:List (Key×af)),ρ[i]?=some (some (Cell.rdo ks))->∃a kvs,σ[i]?=some (some (V.ref a))/\H a=some (.dK kvs)/\UJ K C.hd (Own C ρ σ) H kvs ks/\C.ext a/\C.hd≠some a
 dtt:∀(i:Nat) (ks:KT2),ρ[i]?=some (some (Cell.dtt ks))->∃a zs ep,σ[i]?=some (some (V.ref a))/\H a=some (ZDO a zs ep)/\Qj K C.hd (Own C ρ σ) H zs ks/\¬C.ext a
 dif:∀(i j:Nat) (c e:Cell) (a:ak),c.mine=true->e.mine=true->ρ[i]?=some (some c)->ρ[j]?=some (some e)->σ[i]?=some (some (V.ref a))->σ[j]?=some (some (V.ref a))->i=j
 hnd:Hn C.hd H n
 ext:∀a,C.ext a->MutO (H a)
 hx:∀a,C.hd=some a->C.ext a
def ExtE(hd:Option ak)(H l:Hp):Prop:=∀a o,H a=some o->hd≠some a->l a=some o
theorem ExtE.refl:ExtE hd H H:=fun _ _ h _=>h
theorem ExtE.trans(a:ExtE hd H H1)(b:ExtE hd H1 H2):ExtE hd H H2:=fun c o h n=>b c o (a c o h n) n
theorem ExtE.new(h:H p=none):ExtE hd H (upd H p o):=fun b u e _=>by
 rw[Jn (Qv e h)];exact e
section
variable{K:qF}{C:Ctx}{ρ:En}{σ:St}{H H':Hp}{n n':Nat}
theorem MutO.ne(h:MutO o):o≠none:=by
 rcases h with⟨_,rfl⟩|⟨_,rfl⟩|⟨_,_,_,rfl⟩ <;> exact fun z=>by cases z
theorem Stt.at(S:Stt K C ρ σ H n){i:Nat}{c:Cell}(m:c.mine=true)(G:ρ[i]?=some (some c)):∃a:ak,σ[i]?=some (some (V.ref a))/\MutO (H a)/\¬C.ext a:=by
 cases c with
 | val d=>cases m
 | own ds =>
  obtain⟨a,I,u,x,_,v⟩:=S.own i ds G;exact⟨a,u,.inl ⟨_,x⟩,v⟩
 | dct y =>
  obtain⟨a,I,u,x,_,v⟩:=S.dct i y G;exact⟨a,u,.inr (.inl ⟨_,x⟩),v⟩
 | rdo y=>cases m
 | dtt y =>
  obtain⟨a,I,J,u,x,_,v⟩:=S.dtt i y G;exact⟨a,u,.inr (.inr ⟨_,_,_,x⟩),v⟩
theorem Stt.lst(S:Stt K C ρ σ H n){a:ak}(h:Own C ρ σ a):MutO (H a):=by
 rcases h with h|⟨i,c,m,v,u⟩
 ·exact S.ext a h
 ·obtain⟨b,l,x,_⟩:=S.at m v;rw[u]at l;cases l;exact x
theorem Stt.dom(S:Stt K C ρ σ H n)(h:Own C ρ σ a):H a≠none:=(S.lst h).ne
theorem Stt.free(S:Stt K C ρ σ H n)(h:H a=none):¬Own C ρ σ a:=fun z=>S.dom z h
theorem ExtE.rep(e:ExtE C.hd H H')(hx:∀a,C.hd=some a->C.ext a){v d}(r:Rep K C.hd (Own C ρ σ) H v d):Rep K C.hd (Own C ρ σ) H' v d :=
 r.mono (fun _ _ _ z=>z) fun a o no h=>e a o h fun z=>no (.inl (hx a z))
theorem ExtE.reps(e:ExtE C.hd H H')(hx:∀a,C.hd=some a->C.ext a){v d}(r:Reps K C.hd (Own C ρ σ) H v d):Reps K C.hd (Own C ρ σ) H' v d :=
 r.mono (fun _ _ _ z=>z) fun a o no h=>e a o h fun z=>no (.inl (hx a z))
theorem Stt.on(S:Stt K C ρ σ H n)(e:ExtE C.hd H H')(h:Hn C.hd H' n'):Stt K C ρ σ H' n' where
 len:=S.len
 val:=fun i d hi=>by
  obtain⟨v,y,x⟩:=S.val i d hi;exact⟨v,y,e.rep S.hx x⟩
 own:=fun i ds hi=>by
  obtain⟨a,I,y,x,G,u⟩:=S.own i ds hi;exact⟨a,I,y,e a _ x fun z=>u (S.hx a z),e.reps S.hx G,u⟩
 dct:=fun i J hi=>by
  obtain⟨a,I,y,x,G,u⟩:=S.dct i J hi;exact⟨a,I,y,e a _ x fun z=>u (S.hx a z),Paired.mapP G fun _ _ z=>⟨z.1,e.rep S.hx z.2⟩,u⟩
 rdo:=fun i J hi=>by
  obtain⟨a,I,y,x,G,u,N⟩:=S.rdo i J hi;exact⟨a,I,y,e a _ x N,Paired.mapP G fun _ _ z=>⟨z.1,e.rep S.hx z.2⟩,u,N⟩
 dtt:=fun i J hi=>by
  obtain⟨a,I,L,y,x,G,u⟩:=S.dtt i J hi;exact⟨a,I,L,y,e a _ x fun z=>u (S.hx a z),G.mono (fun _ _ _ z=>z) (fun a o no h=>e a o h fun z=>no (.inl (S.hx a z))),u⟩
 dif:=S.dif
 hnd:=h
 ext:=fun a R=>by
  by_cases z:C.hd=some a
  ·obtain⟨d,m,t,q,_⟩:=h a z;exact .inl ⟨_,q⟩
  ·rcases S.ext a R with⟨xs,q⟩|⟨xs,q⟩|⟨b,xs,L,q⟩
   ·exact .inl ⟨xs,e a _ q z⟩
   ·exact .inr (.inl ⟨xs,e a _ q z⟩)
   ·exact .inr (.inr ⟨b,xs,L,e a _ q z⟩)
 hx:=S.hx
end
abbrev DTE:=En->Nat->(af->Nat->Prop)->Prop
abbrev DTT:=En->Nat->(Bool->Nat->Prop)->Prop
abbrev DTA:=En->Nat->(List af->Nat->Prop)->Prop
def DE(X:Cx)(e:aX)(d:DTE):Prop:=∃y,PE X e y/\∀(C:Ctx) (u:En) (σ:St) (H:Hp) (n:Nat) (Q:VK) (R:qN),Stt X.K C u σ H n->d u n R ->
 (∀t x v l,R t x->ExtE C.hd H l->Hn C.hd l x->Rep X.K C.hd (Own C u σ) l v t->Q v l)->y σ H Q
def RepT(K:qF)(hd:Option ak)(O:ak->Prop)(H:Hp)(v:V)(t:af):Prop :=
 Rep K hd O H v t\/(∃a x ds,v=.ref a/\t=.list ds/\H a=some (.lst x)/\Reps K hd O H x ds/\hd≠some a)\/∃a zs y u,v=.ref a/\t=.dict (Yc u)/\H a=some (ZDO a zs y)/\Qj K hd O H zs u/\hd≠some a
def DL(X:Cx)(e:aX)(d:DTE):Prop:=∃y,PE X e y/\∀(C:Ctx) (u:En) (σ:St) (H:Hp) (n:Nat) (Q:VK) (R:qN),Stt X.K C u σ H n->d u n R ->
 (∀t x v l,R t x->ExtE C.hd H l->Hn C.hd l x->RepT X.K C.hd (Own C u σ) l v t->Q v l)->y σ H Q
def DN(X:Cx)(e:aX)(d:DTA):Prop:=∃y,PE X e y/\∀(C:Ctx) (v:En) (σ:St) (H:Hp) (n:Nat) (Q:VK) (R:List af->Nat->Prop),Stt X.K C v σ H n->d v n R ->
 (∀ts x p G u,R ts x->ExtE C.hd H u->Hn C.hd u x->H p=none->u p=some (.lst G)->Reps X.K C.hd (fun a=>Own C v σ a\/a=p) u G ts->Q (.ref p) u)->y σ H Q
def DT(X:Cx)(e:aX)(d:DTT):Prop:=∃v,PT X e v/\∀(C:Ctx) (x:En) (σ:St) (H:Hp) (n:Nat) (Q:Bool->Hp->Prop) (R:Bool->Nat->Prop),Stt X.K C x σ H n->d x n R ->
 (∀b u l,R b u->ExtE C.hd H l->Hn C.hd l u->Q b l)->v σ H Q
def DW(X:Cx)(e:aX)(d:DTT):Prop:=∃v,PW X e v/\∀(C:Ctx) (x:En) (σ:St) (H:Hp) (n:Nat) (Q:Bool->Hp->Prop) (R:Bool->Nat->Prop),Stt X.K C x σ H n->d x n R ->
 (∀b u l,R b u->ExtE C.hd H l->Hn C.hd l u->Q b l)->v σ H Q
def DB(X:Cx)(G:List aX)(d:DTA):Prop:=∃x,PB X G x/\∀(C:Ctx) (u:En) (σ:St) (H:Hp) (n:Nat) (Q:List V->Hp->Prop) (R:List af->Nat->Prop),Stt X.K C u σ H n->d u n R ->
 (∀ts v y l,R ts v->ExtE C.hd H l->Hn C.hd l v->Reps X.K C.hd (Own C u σ) l y ts->ts.length=G.length->Q y l)->x σ H Q
section
variable{X:Cx}{e a b c:aX}{es:List aX}{d da db dc:DTE}{pos:Pos}
theorem dl(h:DE X e d):DL X e d:=by
 obtain⟨J,p,h⟩:=h;exact⟨J,p,fun C x σ H n Q R S hd u=>h C x σ H n Q R S hd fun t L v y r e I G=>u t L v y r e I (.inl G)⟩
def dNew(d:DTA):DTE:=fun v n R=>d v n fun ts u=>R (.list ts) u
theorem Jr{d:DTA}(h:DN X e d):DE X e (dNew d):=by
 obtain⟨J,p,h⟩:=h;refine⟨J,p,fun C x σ H n Q R S hd u=>h C x σ H n Q _ S hd fun ts N p U y r e I G L v=>u _ N _ y r e I (.lst L (S.free G) (v.mono (fun _ _ _ z=>.inl z) fun _ _ _ z=>z))⟩
def dVar(i:Nat):DTE:=fun l n R=>match l[i]? with|some (some (Cell.val d))=>R d n|_=>False
def dOwn(i:Nat):DTE:=fun u n R=>match u[i]? with|some (some (Cell.own d))=>R (.list d) n|_=>False
def dC(t:af):DTE:=fun _ n R=>R t n
theorem Jj(i:Nat)(y:X.N[i]?=some x:=by rfl)(J:Vis X.env.scope x:=by walk_at "V")(hd:(x == ("__debug__":Str))=false:=by rfl)
  (l:(x == ("__classdict__":Str))=false:=by rfl):DE X (.Name x pos) (dVar i):=by
 refine⟨_,QW y J hd l,fun C L σ H n Q R S h u=>?_⟩
 unfold dVar at h;split at h
 ·rename_i d e;obtain⟨v,I,G⟩:=S.val i d e;exact⟨v,I,u d n v H h ExtE.refl S.hnd G⟩
 ·exact h.elim
theorem Ul(i:Nat)(y:X.N[i]?=some x:=by rfl)(L:Vis X.env.scope x:=by walk_at "V")(hd:(x == ("__debug__":Str))=false:=by rfl)
  (u:(x == ("__classdict__":Str))=false:=by rfl):DL X (.Name x pos) (dOwn i):=by
 refine⟨_,QW y L hd u,fun C Z σ H n Q R S h v=>?_⟩
 unfold dOwn at h;split at h
 ·rename_i ds e;obtain⟨p,Y,J,I,U,G⟩:=S.own i ds e;exact⟨.ref p,J,v _ n _ H h ExtE.refl S.hnd (.inr (.inl ⟨p,Y,ds,rfl,rfl,I,U,fun z=>G (S.hx p z)⟩))⟩
 ·exact h.elim
theorem Jg{i j pos}:DE X (.Constant (.int i) j pos) (dC (.int i)):=⟨_,JD,fun _ _ _ H n _ _ S h l=>l _ n _ H h ExtE.refl S.hnd (.int i)⟩
theorem QQ{b j pos}:DE X (.Constant (.bool b) j pos) (dC (.bool b)):=⟨_,zph,fun _ _ _ H n _ _ S h u=>u _ n _ H h ExtE.refl S.hnd (.bl b)⟩
theorem UU{j pos}:DE X (.Constant .none j pos) (dC .none):=⟨_,zrW,fun _ _ _ H n _ _ S h l=>l _ n _ H h ExtE.refl S.hnd .non⟩
theorem Qt{x j pos}:DE X (.Constant (.str x) j pos) (dC (.str x)):=⟨_,zrS,fun _ _ _ H n _ _ S h l=>l _ n _ H h ExtE.refl S.hnd (.str x)⟩
end
section
variable{K:qF}{hd:Option ak}{O:ak->Prop}{H H':Hp}{v:V}{t:af}{n:Nat}
theorem Same.ext(h:Same H H'):ExtE hd H H':=fun a o e _=>h a o e
theorem Hn.same(h:Hn hd H n)(s:Same H H'):Hn hd H' n:=fun a e=>by
 obtain⟨d,m,t,q,r⟩:=h a e;exact⟨d,m,t,s _ _ q,r⟩
theorem Reps.same{vs ts}(s:Same H H')(r:Reps K hd O H vs ts):Reps K hd O H' vs ts:=r.mono (fun _ _ _ z=>z) fun a o _ h=>s a o h
theorem ExtE.repT(e:ExtE C.hd H H')(hx:∀a,C.hd=some a->C.ext a)(r:RepT K C.hd (Own C ρ σ) H v t):RepT K C.hd (Own C ρ σ) H' v t:=by
 rcases r with r|⟨a,N,ds,G,y,I,x,u⟩|⟨a,zs,J,L,G,y,I,x,u⟩
 ·exact .inl (e.rep hx r)
 ·exact .inr (.inl ⟨a,N,ds,G,y,e _ _ I u,e.reps hx x,u⟩)
 ·exact .inr (.inr ⟨a,zs,J,L,G,y,e _ _ I u,x.mono (fun _ _ _ z=>z) (fun a o no h=>e a o h fun z=>no (.inl (hx a z))),u⟩)
theorem RepT.lstI{ds}(h:RepT K hd O H v (.list ds)):∃a u,v=.ref a/\H a=some (.lst u)/\Reps K hd O H u ds:=by
 rcases h with h|⟨a,u,I,C,x,y,G,_⟩|⟨a,u,J,I,C,x,y,G,_⟩
 ·obtain⟨a,u,C,x,_,y⟩:=h.lstI;exact⟨a,u,C,x,y⟩
 ·cases x;exact⟨a,u,C,y,G⟩
 ·cases x
theorem RepT.tupI{ds}(h:RepT K hd O H v (.tuple ds)):∃a x,v=.ref a/\SqT K H a x/\Reps K hd O H x ds:=by
 rcases h with h|⟨a,x,I,G,y,C,J,_⟩|⟨a,x,L,I,G,y,C,J,_⟩
 ·exact h.tupI
 ·cases y
 ·cases y
theorem RepT.rep(h:RepT K hd O H v t)(nl:∀ds,t≠.list ds)(nd:∀y,t≠.dict (Yc y):=by intro y z;first|cases z|exact dict_noT (lE z)):Rep K hd O H v t:=by
 rcases h with h|⟨a,G,x,I,u,C,J,_⟩|⟨a,G,L,x,I,u,C,J,_⟩
 ·exact h
 ·exact absurd u (nl x)
 ·exact absurd u (nd x)
theorem RepT.intI{i}(h:RepT K hd O H v (.int i)):v=.int i:=(h.rep (by intro _ z;cases z)).intI
theorem RepT.blI{i}(h:RepT K hd O H v (.bool i)):v=.bl i:=(h.rep (by intro _ z;cases z)).blI
theorem RepT.strI{i}(h:RepT K hd O H v (.str i)):v=.str i:=(h.rep (by intro _ z;cases z)).strI
theorem RepT.nonI(h:RepT K hd O H v .none):v=.non:=(h.rep (by intro _ z;cases z)).nonI
theorem Rep.newT{vs ts}(no:¬O p)(h:H p=none)(r:Reps K hd O H vs ts):Rep K hd O (upd H p (.tup vs)) (.ref p) (.tuple ts) :=
 .tup JM no (r.same (fun b u e=>by rw[Jn (Qv e h)];exact e))
end
theorem JQ(h:H p=none):Same H (upd H p o):=fun b u e=>by
 rw[Jn (Qv e h)];exact e
abbrev G2:=af->af->(af->Prop)->Prop
def dOp(g:G2)(C db:DTE):DTE:=fun l n R=>C l n fun x u=>db l u fun y v=>g x y fun z=>R z v
def Gp2(X:Cx)(r:R2)(g:G2):Prop:=∀(hd:Option ak) (O:ak->Prop) (H:Hp) (x y:V) (t u:af) (Q:VK) (R:af->Prop),(∀p,O p->H p≠none)->RepT X.K hd O H x t->RepT X.K hd O H y u->g t u R ->
 (∀z v l,R z->Same H l->Rep X.K hd O l v z->Q v l)->r x y H Q
section
variable{X:Cx}{a b c:aX}{da db dc:DTE}{pos:Pos}{r r':R2}{g g':G2}
theorem two{C:Ctx}{l:En}{σ:St}{H:Hp}{n:Nat}{ta Z:TE}(ha:∀(C:Ctx) (l:En) (σ:St) (H:Hp) (n:Nat) (Q:VK) (R:qN),Stt X.K C l σ H n->da l n R ->
  (∀t L v I,R t L->ExtE C.hd H I->Hn C.hd I L->RepT X.K C.hd (Own C l σ) I v t->Q v I)->ta σ H Q)
  (hb:∀(C:Ctx) (l:En) (σ:St) (H:Hp) (n:Nat) (Q:VK) (R:qN),Stt X.K C l σ H n->db l n R ->
  (∀t L v I,R t L->ExtE C.hd H I->Hn C.hd I L->RepT X.K C.hd (Own C l σ) I v t->Q v I)->Z σ H Q)
  {Q2:V->V->Hp->Prop} {R2:af->af->Nat->Prop} (S:Stt X.K C l σ H n) (h:da l n fun x N=>db l N fun y J=>R2 x y J)
  (hq:∀x y J v w G,R2 x y J->ExtE C.hd H G->Stt X.K C l σ G J->RepT X.K C.hd (Own C l σ) G v x->RepT X.K C.hd (Own C l σ) G w y->Q2 v w G) :
  ta σ H fun v U=>Z σ U fun w G=>Q2 v w G:=by
 refine ha C l σ H n _ _ S h fun t N v U r1 e1 h1 q1=>?_
 have S1:=S.on e1 h1;refine hb C l σ U N _ _ S1 r1 fun u J w G r2 Y h2 q2=>?_
 exact hq t u J v w G r2 (e1.trans Y) (S1.on Y h2) (Y.repT S.hx q1) q2
theorem QR{op:pf}(ho:OpR X (binaryOp op) r)(hg:Gp2 X r g)(l:DL X a da)(G:DL X b db):DE X (.BinOp a op b pos) (dOp g da db):=by
 obtain⟨ta,pa,l⟩:=l;obtain⟨tb,pb,G⟩:=G;refine⟨_,JA ho pa pb,fun C U σ H n Q R S h L=>?_⟩
 refine two l G S h fun x y Z v w N r2 e J q1 q2=>?_
 exact hg C.hd (Own C U σ) N v w x y Q _ (fun p=>J.dom) q1 q2 r2 fun z u Y rz I rp=>L z Z u Y rz (e.trans I.ext) (J.hnd.same I) rp
theorem QT{op:oC}(ho:OpR X (compareOp op) r)(hg:Gp2 X r g)(l:DL X a da)(G:DL X b db)(hm:behindInMarks op b=false):DE X (.Compare a [op] [b] pos) (dOp g da db):=by
 obtain⟨ta,pa,l⟩:=l;obtain⟨tb,pb,G⟩:=G;refine⟨_,zkS ho pa pb hm,fun C U σ H n Q R S h L=>?_⟩
 refine two l G S h fun x y Z v w N r2 e J q1 q2=>?_
 exact hg C.hd (Own C U σ) N v w x y Q _ (fun p=>J.dom) q1 q2 r2 fun z u Y rz I rp=>L z Z u Y rz (e.trans I.ext) (J.hnd.same I) rp
def QY(d:DTE):DTT:=fun v n R=>d v n fun t u=>match t with|.bool k=>R k u|_=>False
theorem Jl{op:oC}(ho:OpR X (compareOp op) r)(hg:Gp2 X r g)(l:DL X a da)(G:DL X b db)(hm:behindInMarks op b=false):DT X (.Compare a [op] [b] pos) (QY (dOp g da db)):=by
 obtain⟨ta,pa,l⟩:=l;obtain⟨tb,pb,G⟩:=G;refine⟨_,zhX ho pa pb hm,fun C Y σ H n Q R S h N=>?_⟩
 refine two l G S h fun x y n2 v w U r2 e L q1 q2=>?_
 refine hg C.hd (Own C Y σ) U v w x y _ _ (fun p=>L.dom) q1 q2 r2 fun z u Z J I rp=>?_
 cases z with
 | bool k =>
  cases rp;exact⟨k,rfl,N k n2 Z J (e.trans I.ext) (L.hnd.same I)⟩
 | _=>exact J.elim
def Ye(g g':G2)(da db dc:DTE):DTE:=fun u n R=>da u n fun x C=>db u C fun y v=>g x y fun z=>match z with
 | .bool true=>dc u v fun w G=>g' y w fun z=>R z G
 | .bool false=>R (.bool false) v
 | _=>False
def gI(C:Int->Int->Prop)(f:Int->Int->Int):G2
 | .int i,.int j,R=>C i j/\R (.int (f i j))
 | _,_,_=>False
def gB(f:Int->Int->Bool):G2
 | .int i,.int j,R=>R (.bool (f i j))
 | _,_,_=>False
theorem gp_I:Gp2 X (rI C fun i j=>.int (f i j)) (gI C f):=by
 intro hd O H x y t u Q R dom G l h v;unfold gI at h;split at h
 ·rename_i i j;exact⟨i,j,G.intI,l.intI,h.1,v _ _ H h.2 (Same.refl H) (.int _)⟩
 ·exact h.elim
def gI0(f:Int->Int->Int):G2
 | .int i,.int j,R=>R (.int (f i j))
 | _,_,_=>False
theorem zqd:Gp2 X (rI0 fun i j=>.int (f i j)) (gI0 f):=by
 intro hd O H x y t u Q R dom C l h v;unfold gI0 at h;split at h
 ·rename_i i j;exact⟨i,j,C.intI,l.intI,v _ _ H h (Same.refl H) (.int _)⟩
 ·exact h.elim
theorem gp_B:Gp2 X (rI0 fun i j=>.bl (f i j)) (gB f):=by
 intro hd O H x y t u Q R dom G v h C;unfold gB at h;split at h
 ·rename_i i j;exact⟨i,j,G.intI,v.intI,C _ _ H h (Same.refl H) (.bl _)⟩
 ·exact h.elim
end
section
variable{X:Cx}{a b c:aX}{da db dc:DTE}{pos:Pos}
def oSub:=gI0 fun i j=>i - j
def oMod:=gI (fun _ j=>0<j) fun i j=>i % j
def UN:=gI YE fun i j=>i / j
def oShl:=gI CPow fun i j=>i*2 ^ j.toNat
def oShr:=gI (fun _ j=>0<=j) fun i j=>i / 2 ^ j.toNat
def oXor:=gI0 fg
def oAnd:=gI0 fT
theorem QI(v:DL X a da)(l:DL X b db):DE X (.BinOp a .Sub b pos) (dOp oSub da db):=QR zr4 zqd v l
theorem Va(u:DL X a da)(l:DL X b db):DE X (.BinOp a .Mod b pos) (dOp oMod da db):=QR UP gp_I u l
theorem zin(x:DL X a da)(u:DL X b db):DE X (.BinOp a .FloorDiv b pos) (dOp UN da db):=QR VP gp_I x u
theorem JK(u:DL X a da)(l:DL X b db):DE X (.BinOp a .LShift b pos) (dOp oShl da db):=QR zr6 gp_I u l
theorem ztW(u:DL X a da)(l:DL X b db):DE X (.BinOp a .RShift b pos) (dOp oShr da db):=QR zr5 gp_I u l
theorem ztV(u:DL X a da)(l:DL X b db):DE X (.BinOp a .BitXor b pos) (dOp oXor da db):=QR zr3 zqd u l
theorem zt1(u:DL X a da)(l:DL X b db):DE X (.BinOp a .BitAnd b pos) (dOp oAnd da db):=QR zsg zqd u l
end
section
variable{X:Cx}{pins:qO}{σ:St}{H:Hp}{s:aq}{hd:Option ak}{O:ak->Prop}
theorem RepT.reads(I:Inv X pins σ H s)(h:RepT X.K hd O H v d)(r:RelV v u)(e:d.hasDict=false):∃C,Reads s.heap u d C:=by
 rcases h with h|⟨a,S,ds,rfl,rfl,G,y,_⟩|⟨a,zs,U,Y,rfl,rfl,G,y,_⟩
 rotate_left 2
 ·simp[cI]at e
 ·exact h.reads I r e
 ·cases r;obtain⟨L,N,p,_⟩:=I.list (xs:=S) (.inl (.inl G));obtain⟨o,n,J,hc,_,x⟩:=p;obtain⟨C,R⟩:=Reps.reads I y N (by simpa[cI] using e)
  exact⟨_,.list J hc x (by simpa using R)⟩
end
def Okd(t:af):Prop:=t.canLay0=true/\t.depth<=60
section
variable{X:Cx}{a b c:aX}{da db dc:DTE}{pos:Pos}{k:Nat}
def rEqD(K:qF)(neg:Bool):R2:=fun x y H Q=>∃hd O t u,RepT K hd O H x t/\RepT K hd O H y u/\Okd t/\Okd u/\Q (.bl (if neg then !t.eqv u else t.eqv u)) H
theorem zse(S:Room k X.A):OpR X (compareOp .Eq) (rEqD X.K false):=by
 intro pins s σ H x y v u Q I Y R h;obtain⟨hd,O,t,w,L,J,C,G,q⟩:=h;obtain⟨Z,U⟩:=L.reads I Y (cq _ C.1);obtain⟨bs,N⟩:=J.reads I R (cq _ G.1);refine SeqAt.compareEq_reads U N C.1 G.1 ?_ ⟨.bl _,H,I,rfl,q⟩;have:=S.un;have:=C.2;omega
theorem zr8(U:Room k X.A):OpR X (compareOp .NotEq) (rEqD X.K true):=by
 intro pins s σ H x y v u Q I Z S h;obtain⟨hd,O,t,w,L,J,C,G,q⟩:=h;obtain⟨as,Y⟩:=L.reads I Z (cq _ C.1);obtain⟨bs,R⟩:=J.reads I S (cq _ G.1);refine SeqAt.compareNe_reads Y R C.1 G.1 ?_ ⟨.bl _,H,I,rfl,q⟩;have:=U.un;have:=C.2;omega
theorem ZK:Okd .none:=⟨by simp[bN],by simp[cS]⟩
def oEq:G2
 | .int i,.int j,R=>R (.bool (decide (i=j)))
 | .str i,.str j,R=>R (.bool (decide (i=j)))
 | .bool i,.bool j,R=>R (.bool (decide (i=j)))
 | t,u,R=>Okd t/\Okd u/\R (.bool (t.eqv u))
def oNe:G2
 | .int i,.int j,R=>R (.bool (!decide (i=j)))
 | .str i,.str j,R=>R (.bool (!decide (i=j)))
 | .bool i,.bool j,R=>R (.bool (!decide (i=j)))
 | t,u,R=>Okd t/\Okd u/\R (.bool (!t.eqv u))
def rEqA(K:qF):R2:=fun x y H Q=>rEq x y H Q\/rEqD K false x y H Q
def rNeA(K:qF):R2:=fun x y H Q=>rNe x y H Q\/rEqD K true x y H Q
theorem Qf(l:Room k X.A):OpR X (compareOp .Eq) (rEqA X.K):=OpR.or zvG (zse l)
theorem UQ(l:Room k X.A):OpR X (compareOp .NotEq) (rNeA X.K):=OpR.or zvE (zr8 l)
theorem Qd:Gp2 X (rEqA X.K) oEq:=by
 intro hd O H x y t u Q R dom G v h C;unfold oEq at h;split at h
 ·rename_i i j;rw[G.intI,v.intI];refine .inl ⟨rfl,?_⟩;have e:decide (V.int i=V.int j)=decide (i=j):=decide_eq_decide.mpr ⟨fun z=>by cases z;rfl,fun z=>by rw[z]⟩
  rw[e];exact C _ _ H h (Same.refl H) (.bl _)
 ·rename_i i j;rw[G.strI,v.strI];refine .inl ⟨rfl,?_⟩;have e:decide (V.str i=V.str j)=decide (i=j):=decide_eq_decide.mpr ⟨fun z=>by cases z;rfl,fun z=>by rw[z]⟩
  rw[e];exact C _ _ H h (Same.refl H) (.bl _)
 ·rename_i i j;rw[G.blI,v.blI];refine .inl ⟨rfl,?_⟩;have e:decide (V.bl i=V.bl j)=decide (i=j):=decide_eq_decide.mpr ⟨fun z=>by cases z;rfl,fun z=>by rw[z]⟩
  rw[e];exact C _ _ H h (Same.refl H) (.bl _)
 ·exact .inr ⟨hd,O,_,_,G,v,h.1,h.2.1,C _ _ H h.2.2 (Same.refl H) (.bl _)⟩
theorem UH:Gp2 X (rNeA X.K) oNe:=by
 intro hd O H x y t u Q R dom G v h C;unfold oNe at h;split at h
 ·rename_i i j;rw[G.intI,v.intI];refine .inl ⟨rfl,?_⟩;have e:decide (V.int i=V.int j)=decide (i=j):=decide_eq_decide.mpr ⟨fun z=>by cases z;rfl,fun z=>by rw[z]⟩
  rw[e];exact C _ _ H h (Same.refl H) (.bl _)
 ·rename_i i j;rw[G.strI,v.strI];refine .inl ⟨rfl,?_⟩;have e:decide (V.str i=V.str j)=decide (i=j):=decide_eq_decide.mpr ⟨fun z=>by cases z;rfl,fun z=>by rw[z]⟩
  rw[e];exact C _ _ H h (Same.refl H) (.bl _)
 ·rename_i i j;rw[G.blI,v.blI];refine .inl ⟨rfl,?_⟩;have e:decide (V.bl i=V.bl j)=decide (i=j):=decide_eq_decide.mpr ⟨fun z=>by cases z;rfl,fun z=>by rw[z]⟩
  rw[e];exact C _ _ H h (Same.refl H) (.bl _)
 ·exact .inr ⟨hd,O,_,_,G,v,h.1,h.2.1,C _ _ H h.2.2 (Same.refl H) (.bl _)⟩
def isNone:af->Bool
 | .none=>true
 | _=>false
def oIs:G2
 | .bool a,.bool b,R=>R (.bool (a == b))
 | t,.none,R=>R (.bool (isNone t))
 | _,_,_=>False
def oIsN:G2
 | .bool a,.bool b,R=>R (.bool (a != b))
 | t,.none,R=>R (.bool (!isNone t))
 | _,_,_=>False
def rIs:R2:=fun x y H Q=>(y=.non/\Q (.bl (decide (x=.non))) H)\/∃a b,x=.bl a/\y=.bl b/\Q (.bl (a == b)) H
def rIsN:R2:=fun x y H Q=>(y=.non/\Q (.bl (!decide (x=.non))) H)\/∃a b,x=.bl a/\y=.bl b/\Q (.bl (a != b)) H
theorem zsc:OpR X (compareOp .Is) rIs:=OpR.or zsa zsb
theorem zpo:OpR X (compareOp .IsNot) rIsN:=OpR.or zpl zk0
theorem RepT.isN{K:qF}{hd:Option ak}{O:ak->Prop}{H:Hp}{v:V}{t:af}(h:RepT K hd O H v t):decide (v=.non)=(isNone t):=by
 rcases h with h|⟨a,y,ds,rfl,rfl,l,u,_⟩|⟨a,zs,x,C,rfl,rfl,l,u,_⟩
 ·cases h <;> simp[HAND,SCR,EXC,isNone]
 ·simp[isNone]
 ·simp[isNone]
theorem ztz:Gp2 X rIs oIs:=by
 intro hd O H x y t u Q R dom G v h C;unfold oIs at h;split at h
 ·rename_i i j;exact .inr ⟨i,j,G.blI,v.blI,C _ _ H h (Same.refl H) (.bl _)⟩
 ·refine .inl ⟨v.nonI,?_⟩;rw[G.isN];exact C _ _ H h (Same.refl H) (.bl _)
 ·exact h.elim
theorem zqc:Gp2 X rIsN oIsN:=by
 intro hd O H x y t u Q R dom G v h C;unfold oIsN at h;split at h
 ·rename_i i j;exact .inr ⟨i,j,G.blI,v.blI,C _ _ H h (Same.refl H) (.bl _)⟩
 ·refine .inl ⟨v.nonI,?_⟩;rw[G.isN];exact C _ _ H h (Same.refl H) (.bl _)
 ·exact h.elim
def rInD(K:qF)(neg:Bool):R2:=fun x y H Q=>∃hd O t ts,RepT K hd O H x t/\(RepT K hd O H y (.tuple ts)\/RepT K hd O H y (.list ts))/\Okd t/\(∀u∈ts,Okd u)/\Q (.bl (if neg then !ts.any (fun u=>u.eqv t) else ts.any (fun u=>u.eqv t))) H
theorem zk4:∀{ts:qD},(∀u∈ts,Okd u)->bu ts=true
 | [],_=>by simp[bu]
 | t::ts,h=>by
  simp only[bu,aM];exact⟨(h t (by simp)).1,zk4 fun u l=>h u (by simp[l])⟩
theorem zkX(Z:Room k X.A):OpR X (compareOp .NotIn) (rInD X.K true):=by
 intro pins s σ H x y v u Q I rx R h;obtain⟨hd,O,t,ts,Y,C,G,U,q⟩:=h;obtain⟨as,S⟩:=Y.reads I rx (cq _ G.1);have cl:=zk4 U;have L:X.A.units+1+min (cb ts) t.depth<cLine:=by
  have:=Z.un;have:=G.2;omega
 rcases C with C|C
 ·obtain⟨bs,J⟩:=C.reads I R (cq _ (by simpa[bN] using cl))
  exact SeqAt.notIn_tuple_reads J S cl G.1 L ⟨.bl _,H,I,rfl,q⟩
 ·obtain⟨bs,J⟩:=C.reads I R (cq _ (by simpa[bN] using cl))
  exact SeqAt.notIn_list_reads J S cl G.1 L ⟨.bl _,H,I,rfl,q⟩
def Zh:G2
 | t,.tuple ts,R=>Okd t/\(∀u∈ts,Okd u)/\R (.bool (!ts.any fun u=>u.eqv t))
 | t,.list ts,R=>Okd t/\(∀u∈ts,Okd u)/\R (.bool (!ts.any fun u=>u.eqv t))
 | _,_,_=>False
theorem znU:Gp2 X (rInD X.K true) Zh:=by
 intro hd O H x y t u Q R dom G v h C;unfold Zh at h;split at h
 ·exact⟨hd,O,_,_,G,.inl v,h.1,h.2.1,C _ _ H h.2.2 (Same.refl H) (.bl _)⟩
 ·exact⟨hd,O,_,_,G,.inr v,h.1,h.2.1,C _ _ H h.2.2 (Same.refl H) (.bl _)⟩
 ·exact h.elim
def oLtA:G2
 | .int i,.int j,R=>R (.bool (decide (i<j)))
 | .str i,.str j,R=>R (.bool (decide (i.cps.toList<j.cps.toList)))
 | .tuple xs,.tuple ys,R=>∃ns v,xs=ns.map b5/\ys=v.map b5/\R (.bool (HT.lexLt ns v))
 | _,_,_=>False
def rLtA(K:qF):R2:=fun x y H Q=>(rI0 fun i j=>.bl (decide (i<j))) x y H Q\/(∃i j,x=.str i/\y=.str j/\Q (.bl (decide (i.cps.toList<j.cps.toList))) H)\/rLtT K x y H Q
theorem Qa(l:Room k X.A):OpR X (compareOp .Lt) (rLtA X.K):=OpR.or zr_ (OpR.or zkY (zr9 l.units0))
theorem zea{K:qF}{hd:Option ak}{O:ak->Prop}{H:Hp}:∀{ns:List Int}{l:List V},Reps K hd O H l (ns.map b5)->l=ns.map V.int
 | [],_,h=>by cases h;rfl
 | n::ns,_,h=>by
  cases h with
  | cons h r=>rw[h.intI,zea r];rfl
theorem J1:Gp2 X (rLtA X.K) oLtA:=by
 intro hd O H x y t u Q R dom G C h v;unfold oLtA at h;split at h
 ·exact .inl ⟨_,_,G.intI,C.intI,v _ _ H h (Same.refl H) (.bl _)⟩
 ·exact .inr (.inl ⟨_,_,G.strI,C.strI,v _ _ H h (Same.refl H) (.bl _)⟩)
 ·obtain⟨ns,I,rfl,rfl,h⟩:=h;obtain⟨p,Y,N,s1,J⟩:=G.tupI;obtain⟨q,U,S,s2,L⟩:=C.tupI;rw[zea J]at s1;rw[zea L]at s2;exact .inr (.inr ⟨p,q,ns,I,N,S,s1,s2,v _ _ H h (Same.refl H) (.bl _)⟩)
 ·exact h.elim
def oLeA:G2
 | .int i,.int j,R=>R (.bool (decide (i<=j)))
 | .str i,.str j,R=>R (.bool (!decide (j.cps.toList<i.cps.toList)))
 | _,_,_=>False
def rLeA:R2:=fun x y H Q=>(rI0 fun i j=>.bl (decide (i<=j))) x y H Q\/(∃i j,x=.str i/\y=.str j/\Q (.bl (!decide (j.cps.toList<i.cps.toList))) H)
theorem zkZ:OpR X (compareOp .LtE) (fun x y H Q=>∃i j,x=.str i/\y=.str j/\Q (.bl (!decide (j.cps.toList<i.cps.toList))) H):=by
 intro pins s σ H x y v u Q I G C h;obtain⟨i,j,rfl,rfl,q⟩:=h;obtain⟨t,rfl⟩:=G;obtain⟨t',rfl⟩:=C;exact PySem.P.le_str ⟨.bl _,H,I,rfl,q⟩
theorem J3:OpR X (compareOp .LtE) rLeA:=OpR.or zvF zkZ
theorem JZ:Gp2 X rLeA oLeA:=by
 intro hd O H x y t u Q R dom G v h C;unfold oLeA at h;split at h
 ·exact .inl ⟨_,_,G.intI,v.intI,C _ _ H h (Same.refl H) (.bl _)⟩
 ·exact .inr ⟨_,_,G.strI,v.strI,C _ _ H h (Same.refl H) (.bl _)⟩
 ·exact h.elim
variable{r r':R2}{g g':G2}
theorem VZ(ho:OpR X (compareOp op) r)(hg:Gp2 X r g)(Z:OpR X (compareOp op') r')(N:Gp2 X r' g')(ha:DL X a da)(hb:DL X b db)(hc:DL X c dc)
  (hm:lastMarks [op,op'] [b,c]=false:=by with_unfolding_all rfl):DE X (.Compare a [op,op'] [b,c] pos) (Ye g g' da db dc):=by
 obtain⟨ta,pa,ha⟩:=ha;obtain⟨tb,pb,hb⟩:=hb;obtain⟨tc,pc,hc⟩:=hc;refine⟨_,znl ho Z pa pb pc hm,fun C Y σ H n Q R S h hq=>?_⟩
 refine two ha hb S h fun x y n2 v w H2 r2 e S2 q1 q2=>?_
 refine hg C.hd (Own C Y σ) H2 v w x y _ _ (fun p=>S2.dom) q1 q2 r2 fun z u I L J rp=>?_
 have S3:=S2.on J.ext (S2.hnd.same J);cases z with
 | bool k =>
  cases rp;refine⟨k,rfl,?_⟩;cases k with
  | false=>exact iteF (hq _ n2 _ I L (e.trans J.ext) S3.hnd (.bl _))
  | true =>
   refine iteT (hc C Y σ I n2 _ _ S3 L fun z2 n3 w2 H4 r4 e4 h4 q4=>?_)
   have S4:=S3.on e4 h4;have U:=e4.repT S.hx ((Same.ext J:ExtE C.hd H2 I).repT S.hx q2);exact N C.hd (Own C Y σ) H4 w w2 y z2 Q _ (fun p=>S4.dom) U q4 r4 fun z u I L G rp=>hq z n3 u I L (((e.trans J.ext).trans e4).trans G.ext) (S4.hnd.same G) rp
 | _=>exact L.elim
end
section
variable{X:Cx}{a b c e:aX}{es rest:List aX}{d da db dc:DTE}{t u:DTT}{pos p:Pos}{k:Nat}
def truD:af->(Bool->Prop)->Prop
 | .none,R=>R false
 | .bool b,R=>R b
 | .int i,R=>R (decide (i≠0))
 | .str x,R=>x.length<=16777216/\R (decide (x.length≠0))
 | .list ts,R=>R (!ts.isEmpty)
 | .tuple ts,R=>R (!ts.isEmpty)
 | _,_=>False
def dTru(d:DTE):DTT:=fun v n R=>d v n fun t l=>truD t fun b=>R b l
theorem zoi{K:qF}{hd:Option ak}{O:ak->Prop}{H:Hp}{v:V}{t:af}{Q:Bool->Hp->Prop}{R:Bool->Prop}(r:RepT K hd O H v t)(h:truD t R)(y:∀b,R b->Q b H):∃k,TruV K v H k/\Q k H:=by
 cases t with
 | none=>exact⟨false,by rw[r.nonI];rfl,y _ h⟩
 | bool b=>exact⟨b,by rw[r.blI];rfl,y _ h⟩
 | int i=>exact⟨decide (i≠0),by rw[r.intI];show _=(i != 0);by_cases z:i=0 <;> simp[z],y _ h⟩
 | str x =>
  refine⟨decide (x.length≠0),by rw[r.strI];exact⟨h.1,by by_cases z:x.length=0 <;> simp[z]⟩,y _ h.2⟩
 | list ts =>
  obtain⟨p,I,e,G,C⟩:=r.lstI;subst e;refine⟨!ts.isEmpty,.inl ⟨I,.of G,?_⟩,y _ h⟩;cases C <;> rfl
 | tuple ts =>
  obtain⟨p,I,e,G,C⟩:=r.tupI;subst e;refine⟨!ts.isEmpty,.inr (.inl ⟨I,G,?_⟩),y _ h⟩;cases C <;> rfl
 | dict _=>exact h.elim
theorem Qe(l:DL X a da)(y:∀whole,isTrue a X.env whole=(do let v <- whole;standAt a.pos;holding [v] (truthy v)):=by intro _;rfl):DT X a (dTru da):=by
 obtain⟨Y,pa,l⟩:=l;refine⟨_,zne pa y,fun C G σ H n Q R S h x=>?_⟩
 refine l C G σ H n _ _ S h fun t N v I r U J q=>?_
 exact zoi q r fun b L=>x b N I L U J
def dAnd(t u:DTT):DTT:=fun v n R=>t v n fun b l=>if b=true then u v l R else R false l
def dOr(t u:DTT):DTT:=fun v n R=>t v n fun b l=>if b=true then R true l else u v l R
def dNot(t:DTT):DTT:=fun v n R=>t v n fun b l=>R (!b) l
theorem Qc(h:DW X a t):DT X a t:=by
 obtain⟨l,pa,h⟩:=h;exact⟨_,pa.pt,h⟩
theorem Us(h:DT X a t):DW X (.BoolOp .And [a] pos) t:=by
 obtain⟨v,pa,h⟩:=h;exact⟨_,zo2 pa,h⟩
theorem Um(h:DT X a t):DW X (.BoolOp .Or [a] pos) t:=by
 obtain⟨v,pa,h⟩:=h;exact⟨_,zrA pa,h⟩
theorem Q6(h:DT X a t)(h':DW X (.BoolOp .And (b::rest) pos) u):DW X (.BoolOp .And (a::b::rest) pos) (dAnd t u):=by
 obtain⟨ta,pa,h⟩:=h;obtain⟨tb,Y,h'⟩:=h';refine⟨_,zrB pa Y,fun C y σ H n Q R S hd x=>?_⟩
 refine h C y σ H n _ _ S hd fun b I J r v G=>?_
 cases b with
 | true=>exact iteT (h' C y σ J I Q R (S.on v G) (by simpa using r) fun b N L r Z U=>x b N L r (v.trans Z) U)
 | false=>exact iteF (x _ I J (by simpa using r) v G)
theorem QS(h:DT X a t)(h':DW X (.BoolOp .Or (b::rest) pos) u):DW X (.BoolOp .Or (a::b::rest) pos) (dOr t u):=by
 obtain⟨ta,pa,h⟩:=h;obtain⟨tb,Y,h'⟩:=h';refine⟨_,zvz pa Y,fun C y σ H n Q R S hd x=>?_⟩
 refine h C y σ H n _ _ S hd fun b I J r v G=>?_
 cases b with
 | false=>exact iteF (h' C y σ J I Q R (S.on v G) (by simpa using r) fun b N L r Z U=>x b N L r (v.trans Z) U)
 | true=>exact iteT (x _ I J (by simpa using r) v G)
theorem QB(h:DT X a t):DT X (.UnaryOp .Not a pos) (dNot t):=by
 obtain⟨L,pa,h⟩:=h;refine⟨_,zrE pa,fun C v σ H n Q R S hd l=>?_⟩
 exact h C v σ H n _ _ S hd fun b G I r J x=>l _ G I r J x
def bolD:af->(Bool->Prop)->Prop
 | .bool b,R=>R b
 | _,_=>False
def zqw(da db:DTE):DTE:=fun x n R=>da x n fun t v=>bolD t fun b=>if b=true then db x v R else R (.bool false) v
def dOrV(da db:DTE):DTE:=fun x n R=>da x n fun t v=>bolD t fun b=>if b=true then R (.bool true) v else db x v R
def zqu(da:DTE):DTE:=fun x n R=>da x n fun t v=>bolD t fun b=>R (.bool (!b)) v
theorem Q1{op}(h:DE X a d):DE X (.BoolOp op [a] pos) d:=by
 obtain⟨v,pa,h⟩:=h;exact⟨_,zrU pa,h⟩
theorem Yk(h:DE X a da)(h':DE X (.BoolOp .And (b::rest) pos) db):DE X (.BoolOp .And (a::b::rest) pos) (zqw da db):=by
 obtain⟨ta,pa,h⟩:=h;obtain⟨tb,pb,h'⟩:=h';refine⟨_,zr0 pa pb,fun C G σ H n Q R S hd y=>?_⟩
 refine h C G σ H n _ _ S hd fun t J v L r x I q1=>?_
 cases t with
 | bool b =>
  cases q1;refine⟨b,rfl,?_⟩;cases b with
  | true=>exact iteT (h' C G σ L J Q R (S.on x I) (by simpa[bolD] using r) fun t U v N r e2 Y Z=>y t U v N r (x.trans e2) Y Z)
  | false=>exact iteF (y _ J _ L (by simpa[bolD] using r) x I (.bl _))
 | _=>exact r.elim
theorem zoO(h:DE X a da)(h':DE X (.BoolOp .Or (b::rest) pos) db):DE X (.BoolOp .Or (a::b::rest) pos) (dOrV da db):=by
 obtain⟨ta,pa,h⟩:=h;obtain⟨tb,pb,h'⟩:=h';refine⟨_,zvB pa pb,fun C G σ H n Q R S hd y=>?_⟩
 refine h C G σ H n _ _ S hd fun t J v L r x I q1=>?_
 cases t with
 | bool b =>
  cases q1;refine⟨b,rfl,?_⟩;cases b with
  | false=>exact iteF (h' C G σ L J Q R (S.on x I) (by simpa[bolD] using r) fun t U v N r e2 Y Z=>y t U v N r (x.trans e2) Y Z)
  | true=>exact iteT (y _ J _ L (by simpa[bolD] using r) x I (.bl _))
 | _=>exact r.elim
theorem zqo(h:DE X a da):DE X (.UnaryOp .Not a pos) (zqu da):=by
 obtain⟨ta,pa,h⟩:=h;refine⟨_,zrV pa,fun C G σ H n Q R S hd x=>?_⟩
 refine h C G σ H n _ _ S hd fun t J v Y r Z I L=>?_
 cases t with
 | bool b =>
  cases L;exact⟨b,rfl,x _ J _ Y r Z I (.bl _)⟩
 | _=>exact r.elim
def dIfE(t:DTT)(da db:DTE):DTE:=fun l n R=>t l n fun b v=>if b=true then da l v R else db l v R
theorem zn8(hc:DT X c t)(h:DE X a da)(h':DE X b db):DE X (.IfExp c a b pos) (dIfE t da db):=by
 obtain⟨tc,pc,hc⟩:=hc;obtain⟨ta,pa,h⟩:=h;obtain⟨tb,pb,h'⟩:=h';refine⟨_,znk pc pa pb,fun C G σ H n Q R S hd Y=>?_⟩
 refine hc C G σ H n _ _ S hd fun b n1 H1 r l Z=>?_
 cases b with
 | true=>exact iteT (h C G σ H1 n1 Q R (S.on l Z) (by simpa using r) fun t J v y r U L N=>Y t J v y r (l.trans U) L N)
 | false=>exact iteF (h' C G σ H1 n1 Q R (S.on l Z) (by simpa using r) fun t J v y r U L N=>Y t J v y r (l.trans U) L N)
def dNil:DTA:=fun _ n R=>R [] n
def Qk(d:DTE)(ds:DTA):DTA:=fun l n R=>d l n fun t v=>ds l v fun ts x=>R (t::ts) x
theorem Ja:DB X [] dNil:=⟨_,QD,fun C x σ H n Q R S h v=>v [] n [] H h ExtE.refl S.hnd .nil rfl⟩
theorem zma(h:DE X e d)(l:DB X es ds)(hs:starEach (e::es) X.env=(false,eval e X.env)::starEach es X.env):DB X (e::es) (Qk d ds):=by
 obtain⟨ta,pa,h⟩:=h;obtain⟨tb,Y,l⟩:=l;refine⟨_,Qi pa Y hs,fun C x σ H n Q R S hd I=>?_⟩
 refine h C x σ H n _ _ S hd fun t n1 v H1 r y Z q1=>?_
 refine l C x σ H1 n1 _ _ (S.on y Z) r fun ts L vs J r2 G N U l2=>?_
 exact I _ L _ J r2 (y.trans G) N (.cons (G.rep S.hx q1) U) (by simp[l2])
def Yz(K:qF)(hd:Option ak)(O:ak->Prop)(H:Hp):List V->List af->Prop:=eL (RepT K hd O H)
def DBL(X:Cx)(es:List aX)(d:DTA):Prop:=∃y,PB X es y/\∀(C:Ctx) (v:En) (σ:St) (H:Hp) (n:Nat) (Q:List V->Hp->Prop) (R:List af->Nat->Prop),Stt X.K C v σ H n->d v n R ->
 (∀ts x G l,R ts x->ExtE C.hd H l->Hn C.hd l x->Yz X.K C.hd (Own C v σ) l G ts->ts.length=es.length->Q G l)->y σ H Q
theorem Jp:DBL X [] dNil:=⟨_,QD,fun C x σ H n Q R S h v=>v [] n [] H h ExtE.refl S.hnd .nil rfl⟩
theorem Jk(h:DL X e d)(l:DBL X es ds)(hs:starEach (e::es) X.env=(false,eval e X.env)::starEach es X.env):DBL X (e::es) (Qk d ds):=by
 obtain⟨ta,pa,h⟩:=h;obtain⟨tb,Y,l⟩:=l;refine⟨_,Qi pa Y hs,fun C x σ H n Q R S hd I=>?_⟩
 refine h C x σ H n _ _ S hd fun t n1 v H1 r y Z q1=>?_
 refine l C x σ H1 n1 _ _ (S.on y Z) r fun ts L vs J r2 G N U l2=>?_
 exact I _ L _ J r2 (y.trans G) N (.cons (G.repT S.hx q1) U) (by simp[l2])
def dTup(ds:DTA):DTE:=fun x n R=>ds x n fun ts v=>R (.tuple ts) v
theorem Jm(h:DB X es ds)(I:es.length<=sizeLine:=by decide):DE X (.Tuple es x1 pos) (dTup ds):=by
 obtain⟨Z,pa,h⟩:=h;refine⟨_,zpa pa,fun C N σ H n Q R S hd J=>?_⟩
 refine h C N σ H n _ _ S hd fun ts U vs H1 r G x y L=>⟨by rw[y.length,L];exact I,fun p v=>?_⟩
 have Y:=S.on G x;exact J _ U _ _ r (G.trans (ExtE.new v)) (x.same (JQ v)) (.newT (Y.free v) v y)
theorem JI(h:DB X es ds)(N:es.length<=sizeLine:=by decide):DN X (.List es pos) ds:=by
 obtain⟨ta,pa,h⟩:=h;refine⟨_,zkQ pa,fun C Z σ H n Q R S hd U=>?_⟩
 refine h C Z σ H n _ _ S hd fun ts n1 vs H1 r I x J Y=>⟨by rw[J.length,Y];exact N,fun p l=>?_⟩
 have S1:=S.on I x;have G:H p=none:=by
  cases z:H p with
  | none=>rfl
  | some o =>
   by_cases y:C.hd=some p
   ·obtain⟨d,m,t,q,_⟩:=x p y;rw[l]at q;cases q
   ·rw[I p o z y]at l;cases l
 refine U ts n1 p vs _ r (I.trans (ExtE.new l)) (x.same (JQ l)) G JM ?_;refine J.mono (fun b o v z=>z.elim id fun z=>?_) fun b o _ v=>JQ l b o v
 subst z;rw[l]at v;cases v
end
section
variable{X:Cx}{a b c e:aX}{es rest:List aX}{d da db dc:DTE}{ds:DTA}{pos p:Pos}{k:Nat}{x:Str}
abbrev GC:=List af->(af->Prop)->Prop
def Y4(g:GC)(ds:DTA):DTE:=fun u n R=>ds u n fun ts l=>g ts fun z=>R z l
def GpC(X:Cx)(r:List V->Hp->VK->Prop)(g:GC):Prop:=∀(hd:Option ak) (O:ak->Prop) (H:Hp) (xs:List V) (ts:qD) (Q:VK) (R:af->Prop),(∀p,O p->H p≠none)->Yz X.K hd O H xs ts->g ts R ->
 (∀z v l,R z->Same H l->Rep X.K hd O l v z->Q v l)->r xs H Q
theorem Jx{id:String}{r:List V->Hp->VK->Prop}{g:GC}(hc:JU X (.builtin id) r)(y:GpC X r g)(hm:X.mg x=none)(hv:bootBuiltins x=some (.builtin id))(h:DBL X (e::es) ds)(Z:Gl X x:=by rfl)(hn:x ≠ "__name__":=by decide) (v:(x == ("__debug__":Str))=false:=by rfl) :
  DE X (.Call (.Name x p) (e::es) [] pos) (Y4 g ds):=by
 obtain⟨ta,pa,h⟩:=h;refine⟨_,Ui hc hm hv pa Z hn v,fun C G σ H n Q R S hd U=>?_⟩
 refine h C G σ H n _ _ S hd fun ts n1 vs H1 r1 L J q1 _=>?_
 have S1:=S.on L J;exact y C.hd (Own C G σ) H1 vs ts Q _ (fun p=>S1.dom) q1 r1 fun z u Y rz I rp=>U z n1 u Y rz (L.trans I.ext) (J.same I) rp
theorem QZ(hc:JU X (.type T) r)(G:GpC X r g)(hm:X.mg x=none)(hv:bootBuiltins x=some (.type T))(h:DBL X (e::es) ds)(hg:Gl X x:=by rfl)(hn:x ≠ "__name__":=by decide) (v:(x == ("__debug__":Str))=false:=by rfl) :
  DE X (.Call (.Name x p) (e::es) [] pos) (Y4 g ds):=by
 obtain⟨ta,pa,h⟩:=h;refine⟨_,zrY hc hm hv pa hg hn v,fun C I σ H n Q R S hd Y=>?_⟩
 refine h C I σ H n _ _ S hd fun ts n1 vs H1 r1 U L q1 _=>?_
 have S1:=S.on U L;exact G C.hd (Own C I σ) H1 vs ts Q _ (fun p=>S1.dom) q1 r1 fun z u Z rz J rp=>Y z n1 u Z rz (U.trans J.ext) (L.same J) rp
theorem Uk{K:qF}{hd:Option ak}{O:ak->Prop}{H:Hp}{xs:List V}{t:af}(h:Yz K hd O H xs [t]):∃v,xs=[v]/\RepT K hd O H v t:=by
 cases h with
 | cons h r=>cases r;exact⟨_,rfl,h⟩
theorem zoo{K:qF}{hd:Option ak}{O:ak->Prop}{H:Hp}{xs:List V}{t u:af}(h:Yz K hd O H xs [t,u]):∃v w,xs=[v,w]/\RepT K hd O H v t/\RepT K hd O H w u:=by
 cases h with
 | cons h r=>cases r with|cons l r=>cases r;exact⟨_,_,rfl,h,l⟩
def bLen:GC:=fun l R=>(∃ts,l=[.list ts]/\R (.int ts.length))\/(∃ts,l=[.tuple ts]/\R (.int ts.length))\/(∃x:Str,l=[.str x]/\x.length<=16777216/\R (.int x.length))\/∃ts,l=[.dict [(.none,.list ts)]]/\R (.int ts.length)
def rLen(K:qF):List V->Hp->VK->Prop:=fun xs H Q=>∃x n,xs=[x]/\LenV K x H n/\Q (.int n) H
theorem QC:GpC X (rLen X.K) bLen:=by
 intro hd O H xs ts Q R dom rs h y;rcases h with⟨ts,rfl,h⟩|⟨ts,rfl,h⟩|⟨x,rfl,h⟩|⟨ts,rfl,h⟩
 ·obtain⟨v,rfl,r⟩:=Uk rs;obtain⟨p,I,rfl,u,G⟩:=r.lstI;exact⟨_,_,rfl,.inl ⟨I,.of u,rfl⟩,by rw[G.length];exact y _ _ H h (Same.refl H) (.int _)⟩
 ·obtain⟨v,rfl,r⟩:=Uk rs;obtain⟨p,I,rfl,u,G⟩:=r.tupI;exact⟨_,_,rfl,.inr ⟨I,u,rfl⟩,by rw[G.length];exact y _ _ H h (Same.refl H) (.int _)⟩
 ·obtain⟨v,rfl,r⟩:=Uk rs;rw[r.strI];exact⟨_,_,rfl,⟨h.1,rfl⟩,y _ _ H h.2 (Same.refl H) (.int _)⟩
 ·obtain⟨v,rfl,r⟩:=Uk rs;have r:=r.rep (by intro _ z;cases z)
  generalize e:(vg [(lW,vh ts)])=t at r;cases r with
  | scr u o =>
   simp only[SCR,kA,gE,kF,nI,true_and,and_true]at e;subst e;exact⟨_,_,rfl,.inl ⟨_,.inl u,rfl⟩,by simpa using y _ _ H h (Same.refl H) (.int _)⟩
  | scrS u =>
   simp only[SCR,kA,gE,kF,nI,true_and,and_true]at e;subst e;exact⟨_,_,rfl,.inl ⟨_,u H,rfl⟩,by simpa using y _ _ H h (Same.refl H) (.int _)⟩
  | hand _=>simp[HAND]at e
  | exc _ _=>simp[EXC]at e
  | dct _ _=>cases e
  | dcK _ _ _ C=>cases e;exact(dict_noK C).elim
  | dcT _ _ _ C=>cases e;exact(dict_noT C).elim
  | _=>cases e
def bMin:GC
 | [.int i,.int j],R=>R (.int (if j<i then j else i))
 | _,_=>False
def bMax:GC
 | [.int i,.int j],R=>R (.int (if j > i then j else i))
 | _,_=>False
theorem Vf:GpC X (fun xs H Q=>∃i j,xs=[.int i,.int j]/\Q (.int (if j<i then j else i)) H) bMin:=by
 intro hd O H xs ts Q R dom rs h l;unfold bMin at h;split at h
 ·obtain⟨v,w,rfl,u,y⟩:=zoo rs;rw[u.intI,y.intI];exact⟨_,_,rfl,l _ _ H h (Same.refl H) (.int _)⟩
 ·exact h.elim
theorem Yh:GpC X (fun xs H Q=>∃i j,xs=[.int i,.int j]/\Q (.int (if j > i then j else i)) H) bMax:=by
 intro hd O H xs ts Q R dom rs h l;unfold bMax at h;split at h
 ·obtain⟨v,w,rfl,u,y⟩:=zoo rs;rw[u.intI,y.intI];exact⟨_,_,rfl,l _ _ H h (Same.refl H) (.int _)⟩
 ·exact h.elim
def bAll:GC
 | [.list ts],R=>∃bs:List Bool,ts=bs.map cK/\R (.bool (bs.all id))
 | _,_=>False
theorem V6{K:qF}{hd:Option ak}{O:ak->Prop}{H:Hp}:∀{ns:List Bool}{l:List V},Reps K hd O H l (ns.map cK)->l=ns.map V.bl
 | [],_,h=>by cases h;rfl
 | n::ns,_,h=>by
  cases h with
  | cons h r=>rw[h.blI,V6 r];rfl
theorem zlV:GpC X (fun xs H Q=>∃(a:ak) (bs:List Bool),xs=[.ref a]/\SqL X.K H a (bs.map V.bl)/\Q (.bl (bs.all id)) H) bAll:=by
 intro hd O H xs ts Q R dom rs h y;unfold bAll at h;split at h
 ·obtain⟨bs,rfl,h⟩:=h;obtain⟨v,rfl,G⟩:=Uk rs;obtain⟨p,I,rfl,u,C⟩:=G.lstI;rw[V6 C]at u;exact⟨p,bs,rfl,.of u,y _ _ H h (Same.refl H) (.bl _)⟩
 ·exact h.elim
def Y8:GC
 | [.list ts],R=>R (.tuple ts)
 | [.tuple ts],R=>R (.tuple ts)
 | _,_=>False
theorem Q8:GpC X (fun xs H Q=>∃p ys,xs=[.ref p]/\((SqL X.K H p ys/\∀l,H l=none->Q (.ref l) (upd H l (.tup ys)))\/(SqT X.K H p ys/\Q (.ref p) H))) Y8:=by
 intro hd O H xs ts Q R dom rs h J;unfold Y8 at h;split at h
 ·obtain⟨v,rfl,y⟩:=Uk rs;obtain⟨p,I,rfl,G,L⟩:=y.lstI;refine⟨p,I,rfl,.inl ⟨.of G,fun l C=>?_⟩⟩
  exact J _ _ _ h (JQ C) (.newT (fun z=>dom l z C) C L)
 ·obtain⟨v,rfl,y⟩:=Uk rs;obtain⟨p,I,rfl,G,L⟩:=y.tupI;exact⟨p,I,rfl,.inr ⟨G,J _ _ H h (Same.refl H) (y.rep (by intro _ z;cases z))⟩⟩
 ·exact h.elim
def JX:af->(List af->Prop)->Prop
 | .list ts,R=>R ts
 | .tuple ts,R=>R ts
 | _,_=>False
def tyN:af->Option String
 | .none=>some "NoneType"
 | .bool _=>some "bool"
 | .int _=>some "int"
 | .str _=>some "str"
 | .list _=>some "list"
 | .tuple _=>some "tuple"
 | .dict []=>some "dict"
 | .dict _=>none
def rIsi(K:qF):List V->Hp->VK->Prop:=fun xs H Q=>∃x hd O t T y b,xs=[x,.ty T]/\RepT K hd O H x t/\tyN t=some y/\kitB y T=some b/\Q (.bl b) H
theorem zmo:JU X (.builtin "isinstance") (rIsi X.K):=by
 intro pins s σ H xs us Q I r h;obtain⟨x,hd,O,t,T,y,b,rfl,J,ty,e,q⟩:=h;cases r with
 | cons C r2 =>
  cases r2 with
  | cons Y S =>
   cases S;cases(show _=bH T from Y)
   have fin:∀N,tyN t=some N->N=y:=fun N h=>aO (h.symm.trans ty)
   have go:Ty H x y->wpAny (model X.prog X.w) X.A (call (.builtin "isinstance") [_,bH T]) (EP X pins σ Q) X.xe s:=fun ty=>zlL I C ty.of ((Yi X.K y T).trans e) fun tk=>⟨.bl b,H,I.tok tk,rfl,q⟩
   rcases J with J|⟨a,vs,ds,rfl,rfl,L,U,_⟩|⟨a,zs,G,R,rfl,rfl,L,U,_⟩
   ·cases J with
    | non=>cases ty;exact go .non
    | bl b=>cases ty;exact go (.bl b)
    | int i=>cases ty;exact go (.int i)
    | str i=>cases ty;exact go (.str i)
    | tup h o r=>cases ty;exact go (.tup h)
    | lst h o r=>cases ty;exact go (.lst h)
    | @dct a G h o =>
      cases ty;cases(show _=cG a from C)
      obtain⟨⟨_,_,_,v,es,g1,g2,_⟩,_⟩:=I.hok a _ h;exact bS eT I.kIn ⟨v,g1,g2.1⟩ ((Yi X.K "dict" T).trans e) (fun z=>nomatch z) fun tk=>⟨.bl b,H,I.tok tk,rfl,q⟩
    | @dcK a kvs G R ps h o r e' =>
     cases ps with
     | nil =>
      cases ty;cases(show _=cG a from C)
      obtain⟨⟨_,_,_,v,es,g1,g2,_⟩,_⟩:=I.hok a _ h;exact bS eT I.kIn ⟨v,g1,g2.1⟩ ((Yi X.K "dict" T).trans e) (fun z=>nomatch z) fun tk=>⟨.bl b,H,I.tok tk,rfl,q⟩
     | cons _ _=>simp[tyN]at ty
    | @dcT a zs G R ps h o r e' =>
     cases ps with
     | nil =>
      cases ty;cases(show _=cG a from C)
      obtain⟨⟨_,_,_,v,es,g1,g2,_⟩,_⟩:=I.hok a _ h;exact bS eT I.kIn ⟨v,g1,g2.1⟩ ((Yi X.K "dict" T).trans e) (fun z=>nomatch z) fun tk=>⟨.bl b,H,I.tok tk,rfl,q⟩
     | cons _ _=>simp[tyN]at ty
    | hand h=>simp[HAND,tyN]at ty
    | scr h o=>simp[SCR,tyN]at ty
    | scrS h=>simp[SCR,tyN]at ty
    | exc h o=>simp[EXC,tyN]at ty
    | @tupS a vs ds h r =>
     cases ty;cases(show _=cG a from C)
     obtain⟨o,Z,n,hk,hc,_⟩:=h;exact bS mQ I.kIn ⟨o,I.kIn a o hk,hc⟩ ((Yi X.K "tuple" T).trans e) (fun z=>nomatch z) fun tk=>⟨.bl b,H,I.tok tk,rfl,q⟩
   ·cases ty;exact go (.lst L)
   ·cases R with
    | nil =>
     cases ty;cases(show _=cG a from C)
     obtain⟨⟨_,_,_,v,es,g1,g2,_⟩,_⟩:=I.hok a _ L;exact bS eT I.kIn ⟨v,g1,g2.1⟩ ((Yi X.K "dict" T).trans e) (fun z=>nomatch z) fun tk=>⟨.bl b,H,I.tok tk,rfl,q⟩
    | cons _ _=>simp[tyN,Yc]at ty
def Shd(t:af):Prop:=t.showable=true/\t.hasDict=false/\t.depth<=60/\t.shown.length<=16777216
def zrx(K:qF):List V->Hp->VK->Prop:=fun xs H Q=>∃x hd O d,xs=[x]/\RepT K hd O H x d/\Shd d/\Q (.str d.shown) H
theorem V2(G:Room k X.A):JU X (.builtin "repr") (zrx X.K):=by
 intro pins s σ H xs us Q I r h;obtain⟨x,hd,O,d,rfl,Y,⟨L,y,h3,J⟩,q⟩:=h;cases r with
 | cons Z r2 =>
  cases r2;have fin:∀h' tk u,(∀b o,s.heap.get? b=some o->h'.get? b=some o)->EP X pins σ Q (.str d.shown u) { s with heap:=h',toks:=tk }:=fun h' tk u v=>⟨.str d.shown,H,I.kept v,⟨_,rfl⟩,q⟩
  have C:∀tk u,EP X pins σ Q (.str d.shown u) { s with toks:=tk }:=fun tk u=>⟨.str d.shown,H,I.tok tk,⟨_,rfl⟩,q⟩
  obtain⟨as,S⟩:=Y.reads I Z y;cases S with
  | none=>exact P.repr_of_none (by simpa only[gZ] using C _ _)
  | bool b=>exact P.repr_of_bool (by simpa only[gZ] using C _ _)
  | int i=>exact P.repr_of_int (by simpa[iI] using L) (by simpa only[gZ] using C _ _)
  | str x=>exact P.repr_of_str (by simpa only[gZ] using C _ _) (by have U:_<=sizeLine:=J;simpa only[gZ] using U)
  | list a1 a2 N R=>exact pO (.list a1 a2 N R) L (nJ y) G.gd (by have:=G.units;omega) (fun _ _ e=>e) (fun h' u tk v=>fin h' tk u v) J
  | tuple a1 a2 N R=>exact pO (.tuple a1 a2 N R) L (nJ y) G.gd (by have:=G.units;omega) (fun _ _ e=>e) (fun h' u tk v=>fin h' tk u v) J
  | dict _ _ _ _ _=>simp[cI]at y
def YB:GC
 | [t],R=>Shd t/\R (.str t.shown)
 | _,_=>False
theorem VG:GpC X (zrx X.K) YB:=by
 intro hd O H xs ts Q R dom rs h l;unfold YB at h;split at h
 ·obtain⟨v,rfl,u⟩:=Uk rs;exact⟨v,hd,O,_,rfl,u,h.1,l _ _ H h.2 (Same.refl H) (.str _)⟩
 ·exact h.elim
end
section
variable{X:Cx}{a b c e:aX}{es rest:List aX}{d da db dc:DTE}{ds:DTA}{pos p:Pos}{k:Nat}{x:Str}
theorem Reps.atI{K:qF}{hd:Option ak}{O:ak->Prop}{H:Hp}{vs ts}{i:Int}{t}(r:Reps K hd O H vs ts)(h:L2.atI ts i=some t):∃v,L2.atI vs i=some v/\Rep K hd O H v t:=by
 unfold L2.atI at h ⊢;rw[r.length];cases e:ixN ts.length i with
 | none=>rw[e]at h;cases h
 | some j =>
  rw[e]at h;have h:ts[j]?=some t:=h;exact r.get h
def oIx:G2
 | .list ts,.int i,R=>match atI ts i with|some t=>R t|none=>False
 | .tuple ts,.int i,R=>match atI ts i with|some t=>R t|none=>False
 | .str x,.int i,R=>x.length<=16777216/\match atI x.cps.toList i with|some c=>R (.str ⟨#[c]⟩)|none=>False
 | _,_,_=>False
theorem zwk:Gp2 X (rIx X.K) oIx:=by
 intro hd O H x y t u Q R dom U L h C;unfold oIx at h;split at h
 ·rename_i ts i;obtain⟨p,S,rfl,I,G⟩:=U.lstI;split at h
  ·rename_i t J;obtain⟨v,ev,N⟩:=G.atI J;exact .inl ⟨p,S,i,v,rfl,L.intI,.of I,ev,C _ _ H h (Same.refl H) N⟩
  ·exact h.elim
 ·rename_i ts i;obtain⟨p,S,rfl,I,G⟩:=U.tupI;split at h
  ·rename_i t J;obtain⟨v,ev,N⟩:=G.atI J;exact .inr (.inl ⟨p,S,i,v,rfl,L.intI,I,ev,C _ _ H h (Same.refl H) N⟩)
  ·exact h.elim
 ·rename_i z i;obtain⟨h0,h⟩:=h;split at h
  ·rename_i c Y;exact .inr (.inr ⟨z,i,c,U.strI,L.intI,h0,Y,C _ _ H h (Same.refl H) (.str _)⟩)
  ·exact h.elim
 ·exact h.elim
theorem Jd(l:DL X a da)(G:DL X b db)(hs:zmz b:=by intro _ _;rfl):DE X (.Subscript a b pos) (dOp oIx da db):=by
 obtain⟨ta,pa,l⟩:=l;obtain⟨tb,pb,G⟩:=G;refine⟨_,Uj zs3 pa pb hs,fun C U σ H n Q R S h L=>?_⟩
 refine two l G S h fun x y Z v w N r2 e J q1 q2=>?_
 exact zwk C.hd (Own C U σ) N v w x y Q _ (fun p=>J.dom) q1 q2 r2 fun z u Y rz I rp=>L z Z u Y rz (e.trans I.ext) (J.hnd.same I) rp
def dNeg(d:DTE):DTE:=fun u n R=>d u n fun t l=>match t with|.int i=>R (.int (-i)) l|_=>False
theorem Yg(h:DE X a da):DE X (.UnaryOp .USub a pos) (dNeg da):=by
 obtain⟨Z,pa,h⟩:=h;refine⟨_,zvA zqZ pa,fun C G σ H n Q R S hd l=>?_⟩
 refine h C G σ H n _ _ S hd fun t J v N r Y I L=>?_
 cases t with
 | int i=>rw[L.intI];exact⟨i,rfl,l _ J _ N r Y I (.int _)⟩
 | _=>exact r.elim
def zry(K:qF):R2:=fun x y H Q=>∃a b xs ys,x=.ref a/\y=.ref b/\SqT K H a xs/\SqT K H b ys/\xs.length+ys.length<=sizeLine /\
 (xs=[]->Q (.ref b) H)/\(ys=[]->Q (.ref a) H)/\∀p,H p=none->Q (.ref p) (upd H p (.tup (xs++ys)))
theorem zpq:OpR X (binaryOp .Add) (zry X.K):=by
 intro pins s σ H x y v u Q I rx Z h;obtain⟨a,b,xs,ys,rfl,rfl,U,Y,hz,q0,q1,q2⟩:=h
 by_cases hx:xs=[]
 ·cases rx;cases Z;obtain⟨G,r1,p1,_⟩:=I.tuple U;obtain⟨l,r2,p2,_⟩:=I.tuple Y;have hv:G=[]:=r1.nil_iff.mpr hx;obtain⟨⟨cls,dd,data,sl⟩,R,hc,n,hd⟩:=id p1;obtain⟨⟨S,N,data2,L⟩,J,C,n2,hd2⟩:=id p2;simp only at hc hd C hd2;subst hc hd C hd2;exact nA ⟨_,R,rfl⟩ ⟨_,J,rfl⟩ kL mK gY gP (gz _ _)
   (tuple_addW0 a b G.toArray l.toArray n n2 dd N sl L (by simp[hv])) ⟨R,J,⟨.ref b,H,I,rfl,q0 hx⟩⟩
 ·exact zpp pins s σ H _ _ v u Q I rx Z ⟨a,b,xs,ys,rfl,rfl,U,Y,hx,hz,q1,fun _=>q2⟩
def oAdd:G2
 | .int i,.int j,R=>R (.int (i+j))
 | .str i,.str j,R=>i.length+j.length<=16777216/\R (.str (i++j))
 | .tuple xs,.tuple ys,R=>xs.length+ys.length<=16777216/\R (.tuple (xs++ys))
 | _,_,_=>False
def zrz(K:qF):R2:=fun x y H Q=>(rI0 fun i j=>.int (i+j)) x y H Q\/(∃i j,x=.str i/\y=.str j/\i.length+j.length<=sizeLine/\Q (.str (i++j)) H)\/zry K x y H Q
theorem zpr:OpR X (binaryOp .Add) (zrz X.K):=OpR.or Q4 (OpR.or zjP zpq)
theorem ztA:Gp2 X (zrz X.K) oAdd:=by
 intro hd O H x y t u Q R dom G C h v;unfold oAdd at h;split at h
 ·exact .inl ⟨_,_,G.intI,C.intI,v _ _ H h (Same.refl H) (.int _)⟩
 ·exact .inr (.inl ⟨_,_,G.strI,C.strI,h.1,v _ _ H h.2 (Same.refl H) (.str _)⟩)
 ·rename_i xs ys;obtain⟨p,Y,rfl,N,L⟩:=G.tupI;obtain⟨q,U,rfl,S,J⟩:=C.tupI;refine .inr (.inr ⟨p,q,Y,U,rfl,rfl,N,S,by rw[L.length,J.length];exact h.1,fun e=>?_,fun e=>?_,fun l I=>?_⟩)
  ·subst e;cases L;exact v _ _ H h.2 (Same.refl H) (C.rep (by intro _ z;cases z))
  ·subst e;cases J;exact v _ _ H h.2 (Same.refl H) (by rw[bK];exact G.rep (by intro _ z;cases z))
  ·exact v _ _ _ h.2 (JQ I) (.newT (fun z=>dom l z I) I (L.append J))
 ·exact h.elim
theorem JC(u:DL X a da)(l:DL X b db):DE X (.BinOp a .Add b pos) (dOp oAdd da db):=QR zpr ztA u l
def dCat(da db:DTE):DTA:=fun u n R=>da u n fun x v=>db u v fun y C=>match x,y with|.list xs,.list ys=>xs.length+ys.length<=16777216/\R (xs++ys) C|_,_=>False
theorem VH{C:Ctx}{H u:Hp}{I:Nat}{p:ak}(G:ExtE C.hd H u)(v:Hn C.hd u I)(l:u p=none):H p=none:=by
 cases z:H p with
 | none=>rfl
 | some o =>
  by_cases y:C.hd=some p
  ·obtain⟨d,m,t,q,_⟩:=v p y;rw[l]at q;cases q
  ·rw[G p o z y]at l;cases l
theorem zna{K:qF}{hd:Option ak}{O:ak->Prop}{H:Hp}{p:ak}{o:HO}{vs ts}(u:H p=none)(r:Reps K hd O H vs ts):Reps K hd (fun a=>O a\/a=p) (upd H p o) vs ts:=by
 refine r.mono (fun b o l z=>z.elim id fun z=>?_) fun b o _ l=>JQ u b o l
 subst z;rw[u]at l;cases l
theorem UV(I:DL X a da)(J:DL X b db):DN X (.BinOp a .Add b pos) (dCat da db):=by
 obtain⟨ta,pa,I⟩:=I;obtain⟨tb,pb,J⟩:=J;refine⟨_,JA zsf pa pb,fun C ρ σ H n Q R S h Y=>?_⟩
 refine two I J S h fun x y Z v w H2 G e U q1 q2=>?_
 split at G
 ·obtain⟨p,vs,rfl,h1,N⟩:=q1.lstI;obtain⟨q,ws,rfl,h3,L⟩:=q2.lstI;refine⟨p,q,vs,ws,rfl,rfl,h1,h3,by rw[N.length,L.length];exact G.1,fun l u=>?_⟩
  exact Y _ Z l _ _ G.2 (e.trans (ExtE.new u)) (U.hnd.same (JQ u)) (VH e U.hnd u) JM (zna u (N.append L))
 ·exact G.elim
def oMul:=gI CMul fun i j=>i*j
theorem Vb(y:DL X a da)(v:DL X b db):DE X (.BinOp a .Mult b pos) (dOp oMul da db):=QR QV gp_I y v
abbrev GD:=List af->Nat->(af->Nat->Prop)->Prop
def spD(K:qF)(m:Nat)(g:GD):Sp:=fun y H Q _=>∃(hd:Option ak) (O:ak->Prop) (ts:qD) (n:Nat) (R:qN),Reps K hd O H y ts/\Hn hd H n/\(∀a,O a->MutO (H a))/\(∀a,hd=some a->O a)/\ts.length=m/\g ts n R /\
 ∀t u v l,R t u->ExtE hd H l->Hn hd l u->Rep K hd O l v t->Q v l
def dFn(g:GD)(ds:DTA):DTE:=fun u n R=>ds u n fun ts l=>g ts l R
theorem zwn{st:dG}{ps:List Str}{f:ak}{fd:cT}{g:GD}{m:Nat}(D:Bd.Def X.K X.mg x st ps f fd)(G:FnOk X.prog X.w X.K X.mg X.base CX0 k f fd ps (spD X.K m g))(hr:Room k X.A)(h:DB X (e::es) ds)(hm:(e::es).length=m:=by rfl)(hg:Gl X x:=by rfl)
  (u:(x == ("__debug__":Str))=false:=by rfl):DE X (.Call (.Name x p) (e::es) [] pos) (dFn g ds):=by
 obtain⟨ta,pa,h⟩:=h;refine⟨_,Bd.zpc D G hr pa hg u,fun C y σ H n Q R S hd L=>?_⟩
 refine h C y σ H n _ _ S hd fun ts n1 vs H1 r1 J I q1 U=>?_
 have S1:=S.on J I;rw[bK];exact⟨C.hd,Own C y σ,ts,n1,R,q1,I,fun a=>S1.lst,fun a z=>.inl (S.hx a z),U.trans hm,r1,fun t n' v Y rt e2 Z q2=>L t n' v Y rt (J.trans e2) Z q2⟩
def dFnL(g:GD)(ds:DTA):DTE:=fun v n R=>ds v n fun ts l=>g ts l fun t u=>JV t=true/\R t u
theorem zt0{st:dG}{ps:List Str}{f:ak}{fd:cT}{g:GD}{m:Nat}(D:Bd.Def X.K X.mg x st ps f fd)(G:FnOk X.prog X.w X.K X.mg X.base CX0 k f fd ps (spD X.K m g))(hr:Room k X.A)(h:DBL X (e::es) ds)(hm:(e::es).length=m:=by rfl)(hg:Gl X x:=by rfl)
  (I:(x == ("__debug__":Str))=false:=by rfl):DE X (.Call (.Name x p) (e::es) [] pos) (dFnL g ds):=by
 obtain⟨ta,pa,h⟩:=h;refine⟨_,Bd.zpc D G hr pa hg I,fun C Y σ H n Q R S hd hq=>?_⟩
 refine h C Y σ H n _ _ S hd fun ts n1 u H1 r1 e1 L q1 l1=>?_
 have S1:=S.on e1 L;rw[bK];have lend:∀{u ts},Yz X.K C.hd (Own C Y σ) H1 u ts->Reps X.K C.hd (fun a=>C.hd=some a) H1 u ts:=by
  intro u ts q;induction q with
  | nil=>exact .nil
  | cons r _ ih =>
   refine .cons ?_ ih;rcases r with r|⟨a,ws,us,rfl,rfl,U,y,J⟩|⟨a,zs,ep,ks,rfl,rfl,U,y,J⟩
   ·exact r.mono (fun a o _ z=>.inl (S.hx a z)) fun _ _ _ z=>z
   ·exact .lst U J (y.mono (fun a o _ z=>.inl (S.hx a z)) fun _ _ _ z=>z)
   ·exact .dcT U J (y.mono (fun a o _ z=>.inl (S.hx a z)) fun _ _ _ z=>z) rfl
 refine⟨C.hd,fun a=>C.hd=some a,ts,n1,_,lend q1,L,fun a z=>?_,fun a z=>z,l1.trans hm,r1,fun t n' v H' rt e2 Z q2=>?_⟩
 ·obtain⟨d,m,t,q,_⟩:=L a z;exact .inl ⟨_,q⟩
 ·exact hq t n' v H' rt.2 (e1.trans e2) Z (q2.up (fun a z=>(S1.on e2 Z).lst z) rt.1)
end
section
variable{X:Cx}{pins:qO}{σ:St}{H H':Hp}{s s':aq}{C e:ak}
theorem Inv.land(I:Inv X pins σ H s)(st:∀b o,s.heap.get? b=some o->b∉frs X.stack->h''.get? b=some o)(up:∀b o,s.heap.get? b=some o->b∈frs X.stack->∃l,h''.get? b=some { o with slots:=l }) :
  Un (frs X.stack) [] H H s.heap h''/\HOk X.prog X.w H h'':=by
 refine⟨⟨fun b o e _ x _=>st b o e x,fun b o e _ hf _=>up b o e hf,fun _ _ _ n _=>n,fun b o e _=>?_,fun _ _ q=>q,fun _ _ _ q=>q,fun _ _ q=>q⟩,fun a u e=>?_⟩
 ·by_cases hf:b∈frs X.stack
  ·obtain⟨l,q⟩:=up b o e hf;exact⟨_,q⟩
  ·exact⟨o,st b o e hf⟩
 ·refine(I.hok a u e).stay (fun c v hc q=>st c v q fun hf=>?_) (fun _ q=>q) (fun _ _ q=>q) fun _ _ _ q=>q
  have n:=I.stkFree c hf;rcases hc with z|z
  ·rw[z]at n;rw[n]at e;cases e
  ·rw[n]at z;cases z
def Fly1(P:aK)(w:aW)(l:List Env)(H H':Hp)(h:aY)(C e:ak)(h':aY):Prop :=
 ∃B u,nK B l e (.ref C) u h'/\H' e=none/\h.get? e=none/\∀h'',B.StaysIn h''->h'.UpToSlots h''->Un (frs l) [] H H' h h''/\HOk P w H' h''
def CX1(P:aK)(w:aW):CXT:=fun outer H s E e s'=>∃l C H',e=.ref l/\s'.os=s.os/\iA s'.gens/\Fly1 P w outer H H' s.heap C l s'.heap/\E (.ref C) none H'
inductive FlyX (X:Cx)(C:ak)(H':Hp)(e:ak)(s':aq):Prop
 | made {IE:qO} {σ':St} {s h1} (I:Inv X IE σ' H' s) (m:Heap.MadeExcOf s.heap h1 e (.ref C) []) (hs:s'={ s with heap:=h1 })
 | on {IE:qO} {σ':St} {H1:Hp} {s} (I:Inv X IE σ' H1 s) (os:s'.os=s.os) (bare:iA s'.gens) (f:Fly1 X.prog X.w X.stack H1 H' s.heap C e s'.heap)
def XW(X:Cx)(C:ak)(H':Hp):Prop:=∀e s',FlyX X C H' e s'->X.xe (.ref e) s'
theorem zvC:Vi (CX1 X.prog X.w) X (fun u _ H'=>∃C,u=.ref C/\XW X C H'):=fun pins σ H s e s' I l=>by
 obtain⟨v,C,H',rfl,os,bare,f,G,y,x⟩:=l;cases y;exact x v s' (.on I os bare f)
theorem zlS(x:HOk P w H h)(e:H a=some u):∃o,h.get? a=some o:=by
 have x:=x a u e;cases u with
 | lst xs=>obtain⟨_,_,_,_,e⟩:=x;exact⟨_,e⟩
 | tup xs=>obtain⟨_,_,_,o,e,_⟩:=x;exact⟨_,e⟩
 | dK l=>obtain⟨_,_,_,_,o,_,_,e,_⟩:=x;exact⟨_,e⟩
 | dT l=>obtain⟨_,_,_,_,o,_,_,e,_⟩:=x;exact⟨_,e⟩
 | set S n=>obtain⟨o,_,_,_,e,_⟩:=x;exact⟨_,e⟩
 | ins C G fs=>obtain⟨_,_,_,e,_⟩:=x;exact⟨_,e⟩
 | own y=>obtain⟨_,e⟩:=x;exact⟨_,e⟩
 | xd fs=>obtain⟨_,⟨_,_,_,e,_⟩,_⟩:=x;exact⟨_,e⟩
 | rng lo hi=>obtain⟨_,_,_,e⟩:=x;exact⟨_,e⟩
 | frz v u=>obtain⟨e,_⟩:=x;exact⟨_,e⟩
 | tbl ps=>obtain⟨_,e,_⟩:=x;exact⟨_,e⟩
 | met f y=>exact⟨_,show h.get? a=some _ from x⟩
 | ext I=>obtain⟨_,e,_⟩:=x;exact e
theorem znS(x:HOk P w H h)(n:h.get? a=none):H a=none:=by
 cases q:H a with
 | none=>rfl
 | some u=>obtain⟨o,e⟩:=zlS x q;rw[n]at e;cases e
end
section
variable{P:aK}{w:aW}{K:qF}{mg:qM}{base:aY}{N:List Str}{qual:Str}{scope:fv}{f:ak}{cd:ah}{A:bq}{outer:List Env}{s₀:aq}{H₀:Hp}{E:XK}{C:ak}{H':Hp}
theorem zmQ(hE:E (.ref C) none H'):XW (cxOf (CX1 P w) P w K mg base N qual scope f cd A outer s₀ H₀ E) C H':=by
 intro e s' fx;generalize hX:cxOf (CX1 P w) P w K mg base N qual scope f cd A outer s₀ H₀ E=X at fx;have hxe:X.xe=fun e s'=>wpAny (model P w) (A.deeper (envOfC qual scope s₀.heap.objs.size f cd)) (leaving (envOfC qual scope s₀.heap.objs.size f cd) e) (fun _ y=>CX1 P w outer H₀ s₀ E e y) (fun e' y=>CX1 P w outer H₀ s₀ E e' y) s':=by rw[<- hX];rfl
 have l:X.stack=envOfC qual scope s₀.heap.objs.size f cd::outer:=by rw[<- hX];rfl
 have hA:X.A=A.deeper (envOfC qual scope s₀.heap.objs.size f cd):=by rw[<- hX];rfl
 have v:X.s₀=s₀:=by rw[<- hX];rfl
 have U:X.H₀=H₀:=by rw[<- hX];rfl
 have hex:X.ex=[]:=by rw[<- hX];rfl
 have Y:X.fs=frs outer:=by rw[<- hX];rfl
 have hP:X.prog=P:=by rw[<- hX];rfl
 have hw:X.w=w:=by rw[<- hX];rfl
 have fin:∀{pins σ H s} (I:Inv X pins σ H s) {h'':aY},Un (frs X.stack) [] H H' s.heap h''->HOk X.prog X.w H' h''->Un (frs outer) [] H₀ H' s₀.heap h''/\HOk P w H' h'':=fun {pins σ H s} I {h''} u x=>by
  have J:=(I.call (h':=h'') (g':=s.gens) (d':=s.drawn) (t':=s.toks) u x I.bare (fun b z=>absurd z (by simp))).base
  rw[hex,Y,U,v]at J;rw[hP,hw]at x;exact⟨J,x⟩
 have old:∀{pins σ H s} (I:Inv X pins σ H s) {a:ak},s.heap.get? a=none->s₀.heap.get? a=none:=fun {pins σ H s} I {a} n=>by
  cases q:s₀.heap.get? a with
  | none=>rfl
  | some o =>
   have b:=I.base;rw[v]at b;obtain⟨o',z⟩:=b.there a o q (by rw[hex];simp)
   rw[n]at z;cases z
 rw[hxe];cases fx with
 | @made pins σ s h1 I m hs =>
  subst hs;have fr:(A.deeper (envOfC qual scope s₀.heap.objs.size f cd)).frames=some (envOfC qual scope s₀.heap.objs.size f cd::outer):=by rw[<- hA,<- l];exact I.ok.frames
  have ff:=I.stack;rw[l]at ff;refine wpAny_leaves_madeW (base:=oN s.heap (frs X.stack)) (h:=s.heap) fr rfl (fun b o q=>mP _ q) (PySem.W.funFrames_hide ff fun env he b hb=>by rw[l];exact fA.mpr ⟨env,he,hb⟩) m fun h' t fl tup bt up=>?_
  refine⟨e,C,H',rfl,I.os.trans (by rw[v]),I.bare,⟨_,_,fl,znS I.hok m.new,old I m.new,fun h'' st G=>?_⟩,hE⟩
  obtain⟨u,x⟩:=I.land (h'':=h'') (fun b o q nf=>st b o (mw _ q nf)) (fun b o q hf=>by
   obtain⟨_,o',L,S⟩:=I.stack.mem hf;rw[q]at L;cases L;exact(up.trans G) b o (m.keeps b o q) S)
  exact fin I u x
 | @on pins σ H s I os bare g =>
  obtain⟨B,a0,fl,ne,nn,st⟩:=g;have fr:(A.deeper (envOfC qual scope s₀.heap.objs.size f cd)).frames=some (envOfC qual scope s₀.heap.objs.size f cd::outer):=by rw[<- hA,<- l];exact I.ok.frames
  rw[l]at fl;refine wpAny_leaves_onW fr rfl fl fun h' Z up=>⟨e,C,H',rfl,(os.trans I.os).trans (by rw[v]),bare,⟨B,a0,Z,ne,old I nn,fun h'' R G=>?_⟩,hE⟩
  obtain⟨u,x⟩:=st h'' R (up.trans G);exact fin I u x
end
def ztL:List ah:=[.type "ValueError",.type "Exception",.type "BaseException",.type "object"]
def OwnX(K:qF)(mg:qM)(x:Str)(C:ak):Prop:=∀h:aY,K.In h->OwnCls x C ztL "ValueError.__new__" mg h
section
variable{X:Cx}{x:Str}{C:ak}{np Iw pos:Pos}
theorem znh(O:OwnX X.K X.mg x C)(hc:X.calm=true)(J:Gl X x)(hd:(x == ("__debug__":Str))=false:=by rfl):PS X (.Raise (some (.Call (.Name x np) [] [] Iw)) none pos) (fun _ _ H=>XW X C H):=by
 intro pins s σ H D I h;have v:=(O X.base I.ok.mod.kin).keeps I.bk;obtain⟨G,N,nm,q,bs,hdct,sn,sub,ab,col,dd,k0,k1,k2,k3,k5,mN,L,y,u,T⟩:=v.obj;refine wpAny_Raise_call_subU (C:=C) (nm:=nm) (q:=q) (N:=N) (bs:=bs) (bm:=G) (hdct:=hdct) (sn:=sn) (sub:=sub) (ab:=ab) (col:=col) (dd:=dd) (k0:=k0) (k1:=k1) (k2:=k2) (k3:=k3) (k5:=k5)
  fU (by decide) fU (mN:=mN) (T.hasType fU.hasBase) (I.ok.hd hc) rfl u (U1 I J v.bound ⟨rfl,?_⟩ hd)
 exact evalArgs_empty ⟨rfl,eU _,L,y,T,fun h' e m=>h e _ (.made I m rfl)⟩
end
def Keep(C:Ctx)(v:En)(σ:St)(H:Hp)(l:En)(σ':St)(u:Hp):Prop:=∀a o,H a=some o->C.hd≠some a->¬OwnS v σ a->u a=some o/\¬OwnS l σ' a
structure JP where
 nx:En->Nat->Prop
 rt:af->Nat->Prop
 bk:En->Nat->Prop:=fun _ _=>False
 ct:En->Nat->Prop:=fun _ _=>False
 xr:Str->Nat->Prop:=fun _ _=>False
abbrev DTS:=JP->En->Nat->Prop
def XN(X:Cx)(c:Str)(l:Hp):Prop:=∀C,X.mg c=some (.ref C)->XW X C l
structure Good(X:Cx)(C:Ctx)(ρ:En)(σ:St)(H:Hp)(D:Ends)(D':JP):Prop where
 nx:∀ρ' σ' H' n',D'.nx ρ' n'->Stt X.K C ρ' σ' H' n'->Keep C ρ σ H ρ' σ' H'->D.nx σ' H'
 rt:∀t n' v H',D'.rt t n'->Hn C.hd H' n'->(∀a o,H a=some o->C.hd≠some a->¬OwnS ρ σ a->H' a=some o)->Rep X.K C.hd C.ext H' v t->D.rt v H'
 bk:∀ρ' σ' H' n',D'.bk ρ' n'->Stt X.K C ρ' σ' H' n'->Keep C ρ σ H ρ' σ' H'->D.bk σ' H'
 ct:∀ρ' σ' H' n',D'.ct ρ' n'->Stt X.K C ρ' σ' H' n'->Keep C ρ σ H ρ' σ' H'->D.ct σ' H'
 xr:∀c n' H',D'.xr c n'->Hn C.hd H' n'->(∀a o,H a=some o->C.hd≠some a->¬OwnS ρ σ a->H' a=some o)->XN X c H'
def DS(X:Cx)(st:dG)(d:DTS):Prop:=∃ts,PS X st ts/\∀(C:Ctx) (l:En) (σ:St) (H:Hp) (n:Nat) (D:Ends) (u:JP),Stt X.K C l σ H n->d u l n->Good X C l σ H D u->ts D σ H
def DSs(X:Cx)(st:List dG)(d:DTS):Prop:=∃ts,PSs X st ts/\∀(C:Ctx) (l:En) (σ:St) (H:Hp) (n:Nat) (D:Ends) (u:JP),Stt X.K C l σ H n->d u l n->Good X C l σ H D u->ts D σ H
section
variable{K:qF}{C:Ctx}{ρ ρ1 ρ2:En}{σ σ1 σ2:St}{H H1 H2:Hp}{n n1:Nat}{D:Ends}{D':JP}
theorem Keep.refl:Keep C ρ σ H ρ σ H:=fun _ _ h _ no=>⟨h,no⟩
theorem Keep.trans(k1:Keep C ρ σ H ρ1 σ1 H1)(k2:Keep C ρ1 σ1 H1 ρ2 σ2 H2):Keep C ρ σ H ρ2 σ2 H2:=fun a o h u no=>by
 obtain⟨v,l⟩:=k1 a o h u no;exact k2 a o v u l
theorem ExtE.keep(e:ExtE C.hd H H1):Keep C ρ σ H ρ σ H1:=fun a o h l no=>⟨e a o h l,no⟩
theorem Good.on{X:Cx}(g:Good X C ρ σ H D D')(k:Keep C ρ σ H ρ1 σ1 H1):Good X C ρ1 σ1 H1 D D' where
 nx:=fun l σ' u y h S x=>g.nx l σ' u y h S (k.trans x)
 rt:=fun t y v u h L x r=>g.rt t y v u h L (fun a o N I no=>by
  obtain⟨J,G⟩:=k a o N I no;exact x a o J I G) r
 bk:=fun l σ' u y h S x=>g.bk l σ' u y h S (k.trans x)
 ct:=fun l σ' u y h S x=>g.ct l σ' u y h S (k.trans x)
 xr:=fun c y u h L x=>g.xr c y u h L fun a o N I no=>by
  obtain⟨J,G⟩:=k a o N I no;exact x a o J I G
theorem Keep.rep(k:Keep C ρ σ H ρ1 σ1 H1)(hx:∀a,C.hd=some a->C.ext a){v t}(r:Rep K C.hd (Own C ρ σ) H v t):Rep K C.hd (Own C ρ1 σ1) H1 v t :=
 Rep.mono (O:=Own C ρ σ) (fun a o h z=>by
  by_cases q:Own C ρ σ a
  ·exact q
  ·rcases z with z|z
   ·exact .inl z
   ·exact absurd z (k a o h (fun y=>q (.inl (hx a y))) fun y=>q (.inr y)).2) (fun a o no h=>(k a o h (fun y=>no (.inl (hx a y))) fun y=>no (.inr y)).1) r
theorem Keep.reps(k:Keep C ρ σ H ρ1 σ1 H1)(hx:∀a,C.hd=some a->C.ext a){v t}(r:Reps K C.hd (Own C ρ σ) H v t):Reps K C.hd (Own C ρ1 σ1) H1 v t :=
 Reps.mono (O:=Own C ρ σ) (fun a o h z=>by
  by_cases q:Own C ρ σ a
  ·exact q
  ·rcases z with z|z
   ·exact .inl z
   ·exact absurd z (k a o h (fun y=>q (.inl (hx a y))) fun y=>q (.inr y)).2) (fun a o no h=>(k a o h (fun y=>no (.inl (hx a y))) fun y=>no (.inr y)).1) r
theorem Ju{α:Type}{l:List (Option α)}{i j:Nat}{v w:α}(h:(l.set i (some v))[j]?=some (some w)):(i=j/\v=w)\/(i≠j/\l[j]?=some (some w)):=by
 by_cases e:i=j
 ·subst e;rw[g6]at h;simp only[↓reduceIte]at h;split at h
  ·simp at h;exact .inl ⟨rfl,h⟩
  ·cases h
 ·rw[aV e]at h;exact .inr ⟨e,h⟩
theorem Yj{α:Type}{l:List (Option α)}{i j:Nat}{v w:α}(e:i≠j)(h:l[j]?=some (some w)):(l.set i (some v))[j]?=some (some w):=by
 rw[aV e];exact h
theorem zom{α:Type}{l:List (Option α)}{i j:Nat}{v:α}{w:Option α}(h:(l.set i (some v))[j]?=some w)(e:i=j):i<l.length:=by
 subst e;rw[g6]at h;simp only[↓reduceIte]at h;split at h
 ·assumption
 ·cases h
theorem zku{α:Type}{l:List (Option α)}{i:Nat}{v:α}(h:i<l.length):(l.set i (some v))[i]?=some (some v):=by
 rw[g6];simp[h]
theorem VQ{i:Nat}{t:af}{v:V}{a:ak}(h:OwnS (ρ.set i (some (.val t))) (σ.set i (some v)) a):OwnS ρ σ a:=by
 obtain⟨j,c,m,x,u⟩:=h;rcases Ju x with⟨_,z⟩|⟨e,x⟩
 ·subst z;cases m
 ·rcases Ju u with⟨z,_⟩|⟨_,u⟩
  ·exact absurd z e
  ·exact⟨j,c,m,x,u⟩
def QH(K:qF)(hd:Option ak)(O:ak->Prop)(H:Hp)(a:ak):Cell->Prop
 | .val _=>False
 | .rdo _=>False
 | .own ts=>∃y,H a=some (.lst y)/\Reps K hd O H y ts
 | .dct x=>∃u,H a=some (.dK u)/\UJ K hd O H u x
 | .dtt x=>∃zs G,H a=some (ZDO a zs G)/\Qj K hd O H zs x
theorem QH.mono(x:QH K hd O H a c)(y:∀a o,H a=some o->O' a->O a)(G:∀a o,¬O a->H a=some o->H' a=some o)(I:∀o,H a=some o->H' a=some o):QH K hd O' H' a c:=by
 cases c with
 | val _=>exact x.elim
 | rdo _=>exact x.elim
 | own ts=>obtain⟨u,v,l⟩:=x;exact⟨u,I _ v,l.mono y G⟩
 | dct L=>obtain⟨u,v,l⟩:=x;exact⟨u,I _ v,l.mono y G⟩
 | dtt L=>obtain⟨u,J,v,l⟩:=x;exact⟨u,J,I _ v,l.mono y G⟩
theorem QH.some(x:QH K hd O H a c):∃o,H a=some o:=by
 cases c with
 | val _=>exact x.elim
 | rdo _=>exact x.elim
 | own ts=>obtain⟨v,l,u⟩:=x;exact⟨_,l⟩
 | dct y=>obtain⟨v,l,u⟩:=x;exact⟨_,l⟩
 | dtt y=>obtain⟨v,G,l,u⟩:=x;exact⟨_,l⟩
theorem QH.mine(x:QH K hd O H a c):c.mine=true:=by
 cases c with
 | val _=>exact x.elim
 | rdo _=>exact x.elim
 | own ts=>rfl
 | dct l=>rfl
 | dtt l=>rfl
theorem Stt.cell(S:Stt K C ρ σ H n){i:Nat}{c:Cell}(m:c.mine=true)(h:ρ[i]?=some (some c)):∃a:ak,σ[i]?=some (some (V.ref a))/\QH K C.hd (Own C ρ σ) H a c/\¬C.ext a:=by
 cases c with
 | val _=>cases m
 | rdo _=>cases m
 | own ts=>obtain⟨a,v,x,u,l,y⟩:=S.own i ts h;exact⟨a,x,⟨v,u,l⟩,y⟩
 | dct G=>obtain⟨a,v,x,u,l,y⟩:=S.dct i G h;exact⟨a,x,⟨v,u,l⟩,y⟩
 | dtt G=>obtain⟨a,v,I,x,u,l,y⟩:=S.dtt i G h;exact⟨a,x,⟨v,I,u,l⟩,y⟩
def zqM(K:qF)(C:Ctx)(ρ:En)(σ:St)(H:Hp):Prop:=∀(i:Nat) (u:List (Key×af)),ρ[i]?=some (some (Cell.rdo u))->∃a l,σ[i]?=some (some (V.ref a))/\H a=some (.dK l)/\UJ K C.hd (Own C ρ σ) H l u/\C.ext a/\C.hd≠some a
theorem Stt.mk'(len:ρ.length=σ.length)(val:∀(i:Nat) (d:af),ρ[i]?=some (some (Cell.val d))->∃v,σ[i]?=some (some v)/\Rep K C.hd (Own C ρ σ) H v d)
  (cell:∀(i:Nat) (c:Cell),c.mine=true->ρ[i]?=some (some c)->∃a:ak,σ[i]?=some (some (V.ref a))/\QH K C.hd (Own C ρ σ) H a c/\¬C.ext a)
  (rdo:zqM K C ρ σ H) (dif:∀(i j:Nat) (c e:Cell) (a:ak),c.mine=true->e.mine=true->ρ[i]?=some (some c)->ρ[j]?=some (some e)->σ[i]?=some (some (V.ref a))->σ[j]?=some (some (V.ref a))->i=j)
  (hnd:Hn C.hd H n) (ext:∀a,C.ext a->MutO (H a)) (hx:∀a,C.hd=some a->C.ext a):Stt K C ρ σ H n where
 len:=len
 val:=val
 own:=fun i ts h=>by obtain⟨a,x,⟨G,u,y⟩,l⟩:=cell i _ rfl h;exact⟨a,G,x,u,y,l⟩
 dct:=fun i ts h=>by obtain⟨a,x,⟨G,u,y⟩,l⟩:=cell i _ rfl h;exact⟨a,G,x,u,y,l⟩
 rdo:=rdo
 dtt:=fun i ts h=>by obtain⟨a,x,⟨G,I,u,y⟩,l⟩:=cell i _ rfl h;exact⟨a,G,I,x,u,y,l⟩
 dif:=dif
 hnd:=hnd
 ext:=ext
 hx:=hx
theorem Stt.put(S:Stt K C ρ σ H n){i:Nat}{t:af}{v:V}(r:Rep K C.hd (Own C ρ σ) H v t):Stt K C (ρ.set i (some (.val t))) (σ.set i (some v)) H n:=by
 have sub:∀a o,H a=some o->Own C (ρ.set i (some (.val t))) (σ.set i (some v)) a->Own C ρ σ a:=fun a o _ z=>z.elim .inl fun z=>.inr (VQ z)
 have mono:∀{w u},Rep K C.hd (Own C ρ σ) H w u->Rep K C.hd (Own C (ρ.set i (some (.val t))) (σ.set i (some v))) H w u:=fun q=>q.mono sub fun _ _ _ z=>z
 refine .mk' (by simp[S.len]) (fun j d h=>?_) (fun j c m h=>?_) (fun j ks h=>?_) (fun j k c e a m1 m2 y x R Z=>?_) S.hnd S.ext S.hx
 rotate_left 2
 ·rcases Ju h with⟨_,z⟩|⟨e,h'⟩
  ·cases z
  ·obtain⟨a,I,q1,q2,Y,q4⟩:=S.rdo j ks h';exact⟨a,I,Yj e q1,q2,Y.mono sub fun _ _ _ z=>z,q4⟩
 rotate_left 1
 ·rcases Ju h with⟨e,z⟩|⟨e,h'⟩
  ·cases z;have:=zom h e;subst e;exact⟨v,zku (by rw[<- S.len];exact this),mono r⟩
  ·obtain⟨w,y,x⟩:=S.val j d h';exact⟨w,Yj e y,mono x⟩
 ·rcases Ju h with⟨e,z⟩|⟨e,h'⟩
  ·subst z;cases m
  ·obtain⟨a,y,x,R⟩:=S.cell m h';exact⟨a,Yj e y,x.mono sub (fun _ _ _ z=>z) fun _ z=>z,R⟩
 ·rcases Ju y with⟨e,z⟩|⟨e,L⟩
  ·subst z;cases m1
  ·rcases Ju x with⟨U,z⟩|⟨U,J⟩
   ·subst z;cases m2
   ·rcases Ju R with⟨z,_⟩|⟨_,G⟩
    ·exact absurd z e
    ·rcases Ju Z with⟨z,_⟩|⟨_,N⟩
     ·exact absurd z U
     ·exact S.dif j k c _ a m1 m2 L J G N
theorem Qw:Keep C ρ σ H (ρ.set i (some (.val t))) (σ.set i (some v)) H:=fun a o h _ no=>⟨h,fun z=>no (VQ z)⟩
theorem zi2{i:Nat}{c:Cell}{p a:ak}(h:OwnS (ρ.set i (some c)) (σ.set i (some (.ref p))) a):OwnS ρ σ a\/a=p:=by
 obtain⟨j,ds,m,v,u⟩:=h;rcases Ju u with⟨e,z⟩|⟨e,u⟩
 ·cases z;exact .inr rfl
 ·rcases Ju v with⟨z,_⟩|⟨_,v⟩
  ·exact absurd z e
  ·exact .inl ⟨j,ds,m,v,u⟩
theorem Stt.putNew(S:Stt K C ρ σ H n){i:Nat}{c:Cell}{p:ak}{U:Hp}(e:ExtE C.hd H U)(h:Hn C.hd U n1)(hp:H p=none)(r:QH K C.hd (fun a=>Own C ρ σ a\/a=p) U p c) :
  Stt K C (ρ.set i (some c)) (σ.set i (some (.ref p))) U n1:=by
 have S':=S.on e h;have mc:=r.mine;have sub:∀a,Own C (ρ.set i (some c)) (σ.set i (some (.ref p))) a->Own C ρ σ a\/a=p:=fun a z=>z.elim (fun z=>.inl (.inl z)) fun z=>(zi2 z).elim (fun z=>.inl (.inr z)) .inr
 have npx:¬C.ext p:=fun z=>S.dom (.inl z) hp
 have sb:∀a o,H a=some o->Own C (ρ.set i (some c)) (σ.set i (some (.ref p))) a->Own C ρ σ a:=fun a o I z=>(sub a z).elim id fun z=>by subst z;rw[hp]at I;cases I
 have kp:∀a o,¬Own C ρ σ a->H a=some o->U a=some o:=fun a o no I=>e a o I fun z=>no (.inl (S.hx a z))
 have Kx:∀(j:Nat) (d:Cell),d.mine=true->ρ[j]?=some (some d)->σ[j]?≠some (some (V.ref p)):=fun j d m y v=>by
  obtain⟨a,e1,Z,_⟩:=S.cell m y;rw[v]at e1;cases e1;obtain⟨o,Z⟩:=Z.some;rw[hp]at Z;cases Z
 refine .mk' (by simp[S.len]) (fun j d J=>?_) (fun j d m J=>?_) (fun j ks J=>?_) (fun j k c1 c2 a m1 m2 y v h3 R=>?_) h S'.ext S.hx
 rotate_left 2
 ·rcases Ju J with⟨_,z⟩|⟨u,h'⟩
  ·subst z;cases mc
  ·obtain⟨a,kvs,q1,q2,q3,q4,q5⟩:=S.rdo j ks h';exact⟨a,kvs,Yj u q1,e a _ q2 q5,q3.mono sb kp,q4,q5⟩
 rotate_left 1
 ·rcases Ju J with⟨_,z⟩|⟨u,h'⟩
  ·subst z;cases mc
  ·obtain⟨w,y,v⟩:=S.val j d h';exact⟨w,Yj u y,v.mono sb kp⟩
 ·rcases Ju J with⟨u,z⟩|⟨u,h'⟩
  ·subst z;have:=zom J u;subst u;exact⟨p,zku (by rw[<- S.len];exact this),r.mono (fun a o _ z=>sub a z) (fun _ _ _ z=>z) fun _ z=>z,npx⟩
  ·obtain⟨a,y,v,R⟩:=S.cell m h';exact⟨a,Yj u y,v.mono sb kp (fun o I=>e a o I fun z=>R (S.hx a z)),R⟩
 ·rcases Ju h3 with⟨e3,z3⟩|⟨e3,N⟩
  ·cases z3;rcases Ju R with⟨L,_⟩|⟨L,G⟩
   ·rw[<- e3,<- L]
   ·rcases Ju v with⟨z,_⟩|⟨_,x⟩
    ·exact absurd z L
    ·exact absurd G (Kx k _ m2 x)
  ·rcases Ju y with⟨z,_⟩|⟨_,Y⟩
   ·exact absurd z e3
   ·rcases Ju R with⟨L,z4⟩|⟨L,G⟩
    ·cases z4;exact absurd N (Kx j _ m1 Y)
    ·rcases Ju v with⟨z,_⟩|⟨_,x⟩
     ·exact absurd z L
     ·exact S.dif j k _ _ a m1 m2 Y x N G
theorem Stt.putOwn(S:Stt K C ρ σ H n)(e:ExtE C.hd H H')(h:Hn C.hd H' n1)(v:H p=none)(u:H' p=some (.lst vs))(r:Reps K C.hd (fun a=>Own C ρ σ a\/a=p) H' vs ts) :
  Stt K C (ρ.set i (some (.own ts))) (σ.set i (some (.ref p))) H' n1:=S.putNew e h v ⟨vs,u,r⟩
theorem zib(e:ExtE C.hd H H')(v:H p=none):Keep C ρ σ H (ρ.set i (some c)) (σ.set i (some (.ref p))) H':=fun a o h u no =>
 ⟨e a o h u,fun z=>(zi2 z).elim no fun z=>by subst z;rw[v]at h;cases h⟩
theorem zez(e:ExtE C.hd H H')(l:H p=none):Keep C ρ σ H (ρ.set i (some (.own ts))) (σ.set i (some (.ref p))) H':=zib e l
theorem Stt.chgC(S:Stt K C ρ σ H n){i:Nat}{c y:Cell}{p:ak}{U:HO}(m:c.mine=true)(m':y.mine=true)(Y:ρ[i]?=some (some c))(L:σ[i]?=some (some (.ref p)))
  (r:∀(O':ak->Prop) (H':Hp),(∀a o,H a=some o->O' a->Own C ρ σ a)->(∀a o,¬Own C ρ σ a->H a=some o->H' a=some o)->H' p=some U->QH K C.hd O' H' p y) :
  Stt K C (ρ.set i (some y)) σ (upd H p U) n/\Keep C ρ σ H (ρ.set i (some y)) σ (upd H p U):=by
 have op:OwnS ρ σ p:=⟨i,c,m,Y,L⟩;obtain⟨p',e1,hp,x⟩:=S.cell m Y;rw[L]at e1;cases e1;have Ke:∀a,OwnS (ρ.set i (some y)) σ a->OwnS ρ σ a:=fun a ⟨j,d,I,u,v⟩=>by
  rcases Ju u with⟨e,_⟩|⟨e,u⟩
  ·subst e;rw[L]at v;cases v;exact op
  ·exact⟨j,d,I,u,v⟩
 have sub:∀a o,H a=some o->Own C (ρ.set i (some y)) σ a->Own C ρ σ a:=fun a o _ z=>z.elim .inl fun z=>.inr (Ke a z)
 have kp:∀a o,¬Own C ρ σ a->H a=some o->upd H p U a=some o:=fun a o no ho=>by rw[Jn (show a≠p from fun z=>no (by rw[z];exact .inr op))];exact ho
 have rd:zqM K C (ρ.set i (some y)) σ (upd H p U):=fun j ks N=>by
  rcases Ju N with⟨_,z⟩|⟨J,h'⟩
  ·subst z;cases m'
  ·obtain⟨a,kvs,u,v,Z,G,q5⟩:=S.rdo j ks h';exact⟨a,kvs,u,by rw[Jn (show a≠p from fun z=>x (by rw[<- z];exact G))];exact v,Z.mono sub kp,G,q5⟩
 refine⟨.mk' (by simp[S.len]) (fun j d N=>?_) (fun j d I N=>?_) rd (fun j k c1 c2 a m1 m2 u v Z G=>?_) (fun a R=>?_) (fun a R=>?_) S.hx,fun a o h nh no=>⟨by rw[Jn (show a≠p from fun z=>no (by rw[z];exact op))];exact h,fun z=>no (Ke a z)⟩⟩
 ·rcases Ju N with⟨_,z⟩|⟨J,h'⟩
  ·subst z;cases m'
  ·obtain⟨w,u,v⟩:=S.val j d h';exact⟨w,u,v.mono sub kp⟩
 ·rcases Ju N with⟨J,z⟩|⟨J,h'⟩
  ·subst z;subst J;exact⟨p,L,r _ _ sub kp JM,x⟩
  ·obtain⟨a,u,v,G⟩:=S.cell I h';have:a≠p:=fun z=>by subst z;exact J (S.dif i j c d a m I Y h' L u)
   exact⟨a,u,v.mono sub kp (fun o ho=>by rw[Jn this];exact ho),G⟩
 ·have get:∀(j:Nat) (d:Cell),d.mine=true->(ρ.set i (some y))[j]?=some (some d)->∃d':Cell,d'.mine=true/\ρ[j]?=some (some d'):=fun j d I q=>by
   rcases Ju q with⟨e,_⟩|⟨_,q⟩
   ·subst e;exact⟨_,m,Y⟩
   ·exact⟨_,I,q⟩
  obtain⟨d1,md1,g1⟩:=get j c1 m1 u;obtain⟨d2,md2,g2⟩:=get k c2 m2 v;exact S.dif j k d1 d2 a md1 md2 g1 g2 Z G
 ·obtain⟨d,m,t,q,rest⟩:=S.hnd a R;exact⟨d,m,t,by rw[Jn (show a≠p from fun z=>x (by rw[<- z];exact S.hx a R))];exact q,rest⟩
 ·by_cases z:a=p
  ·subst z;exact absurd R x
  ·rw[Jn z];exact S.ext a R
theorem Stt.chg(S:Stt K C ρ σ H n)(x:ρ[i]?=some (some (.own ts)))(v:σ[i]?=some (some (.ref p)))(r:Reps K C.hd (Own C ρ σ) H ws us) :
  Stt K C (ρ.set i (some (.own us))) σ (upd H p (.lst ws)) n/\Keep C ρ σ H (ρ.set i (some (.own us))) σ (upd H p (.lst ws)):=S.chgC rfl rfl x v fun _ _ a b u=>⟨ws,u,r.mono a b⟩
theorem Stt.freeze(S:Stt K C ρ σ H n){i:Nat}{ts:qD}(Y:ρ[i]?=some (some (.own ts))):Stt K C (ρ.set i (some (.val (.list ts)))) σ H n/\Keep C ρ σ H (ρ.set i (some (.val (.list ts)))) σ H:=by
 obtain⟨p,vs,U,Z,hr,R⟩:=S.own i ts Y;have L:∀a,OwnS (ρ.set i (some (.val (.list ts)))) σ a->OwnS ρ σ a/\a≠p:=fun a ⟨j,ds,m,u,x⟩=>by
  rcases Ju u with⟨_,z⟩|⟨e,u⟩
  ·subst z;cases m
  ·exact⟨⟨j,ds,m,u,x⟩,fun z=>by subst z;exact e (S.dif i j (.own ts) ds a rfl m Y u U x)⟩
 have sub:∀a o,H a=some o->Own C (ρ.set i (some (.val (.list ts)))) σ a->Own C ρ σ a:=fun a o _ z=>z.elim .inl fun z=>.inr (L a z).1
 have rd:zqM K C (ρ.set i (some (.val (.list ts)))) σ H:=fun j ks G=>by
  rcases Ju G with⟨_,z⟩|⟨J,h'⟩
  ·cases z
  ·obtain⟨a,N,u,x,y,I⟩:=S.rdo j ks h';exact⟨a,N,u,x,y.mono sub fun _ _ _ z=>z,I⟩
 refine⟨.mk' (by simp[S.len]) (fun j d G=>?_) (fun j d m G=>?_) rd (fun j k c1 c2 a m1 m2 u x y I=>?_) S.hnd S.ext S.hx,fun a o h _ no=>⟨h,fun z=>no (L a z).1⟩⟩
 ·rcases Ju G with⟨J,z⟩|⟨J,h'⟩
  ·cases z;subst J;exact⟨.ref p,U,.lst Z (fun z=>z.elim R fun z=>(L p z).2 rfl) (hr.mono sub fun _ _ _ z=>z)⟩
  ·obtain⟨w,u,x⟩:=S.val j d h';exact⟨w,u,x.mono sub fun _ _ _ z=>z⟩
 ·rcases Ju G with⟨_,z⟩|⟨J,h'⟩
  ·subst z;cases m
  ·obtain⟨a,u,y,I⟩:=S.cell m h';exact⟨a,u,y.mono sub (fun _ _ _ z=>z) fun _ z=>z,I⟩
 ·rcases Ju u with⟨_,z⟩|⟨_,g1⟩
  ·subst z;cases m1
  ·rcases Ju x with⟨_,z⟩|⟨_,g2⟩
   ·subst z;cases m2
   ·exact S.dif j k _ _ a m1 m2 g1 g2 y I
end
section
variable{X:Cx}{a b c e:aX}{es rest:List aX}{d da db dc:DTE}{ds:DTA}{dt:DTT}{t u:DTS}{st:dG}{sts sa sb:List dG}{pos p:Pos}{k:Nat}{x:Str}
def Z8:DTS:=fun D l n=>D.nx l n
def sSeq(t u:DTS):DTS:=fun D l n=>t { D with nx:=u D } l n
theorem Jy:DSs X [] Z8:=⟨_,zhY,fun C l σ H n D v S h g=>g.nx l σ H n h S Keep.refl⟩
theorem Jb(v:DS X st t)(l:DSs X sts u):DSs X (st::sts) (sSeq t u):=by
 obtain⟨Z,pa,v⟩:=v;obtain⟨Y,N,l⟩:=l;refine⟨_,Qx pa N,fun C J σ H n D I S h g=>?_⟩
 exact v C J σ H n _ _ S h ⟨fun y σ' L U R G k=>l C y σ' L U D I G R (g.on k),g.rt,g.bk,g.ct,g.xr⟩
theorem Jc(l:DS X st t):DSs X [st] t:=by
 obtain⟨v,pa,l⟩:=l;exact⟨_,U2 pa,l⟩
def ZD(i:Nat)(t:DTS):DTS:=fun D y n=>match y[i]? with|some (some (.own ts))=>t D (y.set i (some (.val (.list ts)))) n|_=>False
theorem QM(i:Nat)(l:DSs X sts t):DSs X sts (ZD i t):=by
 obtain⟨I,pa,l⟩:=l;refine⟨_,pa,fun C J σ H n D G S h g=>?_⟩
 unfold ZD at h;split at h
 ·rename_i ts v;obtain⟨y,kp⟩:=S.freeze v;exact l C _ σ H n D G y h (g.on kp)
 ·exact h.elim
def sRet(d:DTE):DTS:=fun D v n=>d v n fun t l=>D.rt t l
theorem Ji(h:DE X e d):DS X (.Return (some e) pos) (sRet d):=by
 obtain⟨Z,pa,h⟩:=h;refine⟨_,Zl pa,fun C G σ H n D Y S hd g=>?_⟩
 refine h C G σ H n _ _ S hd fun t N v I r U J q=>?_
 exact g.rt t N v I r J (fun a o L y _=>U a o L y) (q.mono (fun _ _ _ z=>.inl z) fun _ _ _ z=>z)
def sIf(c:DTT)(t u:DTS):DTS:=fun D l n=>c l n fun b v=>if b=true then t D l v else u D l v
theorem Jt(hc:DT X c dt)(G:DSs X sa t)(y:DSs X sb u):DS X (.If c sa sb pos) (sIf dt t u):=by
 obtain⟨Y,pc,hc⟩:=hc;obtain⟨ta,pa,G⟩:=G;obtain⟨Z,U,y⟩:=y;refine⟨_,zo5 pc pa U,fun C v σ H n D J S hd g=>?_⟩
 refine hc C v σ H n _ _ S hd fun b N R r l L=>?_
 cases b with
 | true=>exact iteT (G C v σ R N D J (S.on l L) (by simpa using r) (g.on l.keep))
 | false=>exact iteF (y C v σ R N D J (S.on l L) (by simpa using r) (g.on l.keep))
def sSet(i:Nat)(d:DTE):DTS:=fun D y n=>d y n fun t C=>D.nx (y.set i (some (.val t))) C
theorem ztP(G:X.N.Nodup)(hi:X.N[i]?=some x)(hx:Loc X.env.scope x)(h:DE X e d)(U:swapsWith e (some (.Name x pos')) pos.line X.env=pure false:=by rfl)(hf:X.fn x=true\/X.env.scope.names.lookup x=some .local:=by walk_at "F") :
  DS X (.Assign [.Name x pos'] e pos) (sSet i d):=by
 obtain⟨Z,pa,h⟩:=h;refine⟨_,Qz G hi hx pa U hf,fun C I σ H n D Y S hd g=>?_⟩
 refine h C I σ H n _ _ S hd fun t R v J r y L q=>?_
 exact g.nx _ _ J R r ((S.on y L).put q) (y.keep.trans Qw)
def sOwn(i:Nat)(d:DTA):DTS:=fun D l n=>d l n fun ts v=>D.nx (l.set i (some (.own ts))) v
theorem QA(I:X.N.Nodup)(hi:X.N[i]?=some x)(hx:Loc X.env.scope x)(h:DN X e ds)(Y:swapsWith e (some (.Name x pos')) pos.line X.env=pure false:=by rfl)(hf:X.fn x=true\/X.env.scope.names.lookup x=some .local:=by walk_at "F") :
  DS X (.Assign [.Name x pos'] e pos) (sOwn i ds):=by
 obtain⟨ta,pa,h⟩:=h;refine⟨_,Qz I hi hx pa Y hf,fun C J σ H n D Z S hd g=>?_⟩
 refine h C J σ H n _ _ S hd fun ts U p vs L r G R y v q=>?_
 exact g.nx _ _ L U r (S.putOwn G R y v q) (zez G y)
def sAug(i:Nat)(f:Int->Int->Int)(d:DTE):DTS:=fun D y n=>match y[i]? with
 | some (some (.val (.int j)))=>d y n fun t C=>match t with|.int k=>D.nx (y.set i (some (.val (.int (f j k))))) C|_=>False
 | _=>False
theorem zoL(I:X.N.Nodup)(hi:X.N[i]?=some x)(hx:Loc X.env.scope x)(h:DE X e d)(R:PIp X op (ipI f))(hf:X.fn x=true\/X.env.scope.names.lookup x=some .local:=by walk_at "F") :
  DS X (.AugAssign (.Name x pos') op e pos) (sAug i f d):=by
 obtain⟨ta,pa,h⟩:=h;refine⟨_,zrJ I hi hx pa R hf,fun C J σ H n D D' S hd g=>?_⟩
 unfold sAug at hd;split at hd
 ·rename_i j G;obtain⟨v,Y,U⟩:=S.val i _ G;refine⟨v,Y,h C J σ H n _ _ S hd fun t n' w L r y Z q=>?_⟩
  cases t with
  | int k=>exact⟨j,k,U.intI,q.intI,g.nx _ _ L n' r ((S.on y Z).put (.int _)) (y.keep.trans Qw)⟩
  | _=>exact r.elim
 ·exact hd.elim
abbrev DTG:=af->En->(En->Prop)->Prop
abbrev DTGs:=List af->En->(En->Prop)->Prop
def DG(X:Cx)(G:aX)(is:List Nat)(d:DTG):Prop:=(∀t y R,d t y R->∃l,R l)/\∃g,PG X G g/\∀(C:Ctx) (y:En) (σ:St) (H:Hp) (n:Nat) (v:V) (t:af) (Q:St->Hp->Prop) (R:En->Prop),Stt X.K C y σ H n->Rep X.K C.hd (Own C y σ) H v t->d t y R ->
 (∀l σ',R l->Stt X.K C l σ' H n->Keep C y σ H l σ' H->(∀j,j∉is->σ'[j]?=σ[j]?)->σ'.length=σ.length->Q σ' H)->g v σ H Q
def DGs(X:Cx)(y:List aX)(is:List Nat)(d:DTGs):Prop:=(∀ts v R,d ts v R->ts.length=y.length)/\(∀t v R,d t v R->∃l,R l)/\∃g,PGs X y g/\∀(C:Ctx) (v:En) (σ:St) (H:Hp) (n:Nat) (G:List V) (ts:qD) (Q:St->Hp->Prop) (R:En->Prop),Stt X.K C v σ H n->Reps X.K C.hd (Own C v σ) H G ts->d ts v R ->
 (∀l σ',R l->Stt X.K C l σ' H n->Keep C v σ H l σ' H->(∀j,j∉is->σ'[j]?=σ[j]?)->σ'.length=σ.length->Q σ' H)->g G σ H Q
def Qo(i:Nat):DTG:=fun t y R=>R (y.set i (some (.val t)))
def U9:DTGs:=fun ts l R=>match ts with|[]=>R l|_=>False
def Q5(d:DTG)(ds:DTGs):DTGs:=fun ts v R=>match ts with|t::ts=>d t v fun l=>ds ts l R|[]=>False
def Yb(ds:DTGs):DTG:=fun t v R=>match t with|.tuple ts=>ds ts v R|_=>False
theorem zqn(G:X.N.Nodup)(hi:X.N[i]?=some x)(hx:Loc X.env.scope x)(hf:X.fn x=true\/X.env.scope.names.lookup x=some .local:=by walk_at "F"):DG X (.Name x pos) [i] (Qo i):=by
 refine⟨fun t I R h=>⟨_,h⟩,_,VA G hi hx hf,fun C I σ H n v t Q R S r hd y=>?_⟩
 exact y _ _ hd (S.put r) Qw (fun j J=>by rw[aV (fun z=>J (by simp[z]))]) (by simp)
theorem JR:DGs X [] [] U9:=by
 refine⟨fun ts l R h=>?_,fun ts l R h=>?_,_,zkP,fun C l σ H n y ts Q R S r hd v=>?_⟩
 ·cases ts with
  | nil=>rfl
  | cons _ _=>exact h.elim
 ·cases ts with
  | nil=>exact⟨_,h⟩
  | cons _ _=>exact h.elim
 ·cases r with
  | nil=>exact⟨rfl,v _ _ hd S Keep.refl (fun _ _=>rfl) rfl⟩
  | cons _ _=>exact hd.elim
theorem Jo(Y:DG X e is g)(L:DGs X es js gs)(hs:(assignEach (e::es) X.env).map (·.2)=assign e X.env::(assignEach es X.env).map (·.2):=by rfl):DGs X (e::es) (is++js) (Q5 g gs):=by
 obtain⟨w1,ga,pa,Y⟩:=Y;obtain⟨l2,w2,gb,pb,L⟩:=L;refine⟨fun ts v R h=>?_,fun ts v R h=>?_,_,VS pa pb hs,fun C v σ H n vs ts Q R S r hd hq=>?_⟩
 ·cases ts with
  | nil=>exact h.elim
  | cons t ts =>
   obtain⟨l,h'⟩:=w1 t v _ h;simp[l2 ts l R h']
 ·cases ts with
  | nil=>exact h.elim
  | cons t ts =>
   obtain⟨l,h'⟩:=w1 t v _ h;exact w2 ts l R h'
 ·cases r with
  | nil=>exact hd.elim
  | cons r rs =>
   refine⟨_,_,rfl,Y C v σ H n _ _ _ _ S r hd fun l σ' hr S' kp hj hl=>?_⟩
   refine L C l σ' H n _ _ _ _ S' (kp.reps S.hx rs) hr fun I N J S2 Z U G=>?_
   exact hq I N J S2 (kp.trans Z) (fun j y=>by rw[U j (fun z=>y (by simp[z])),hj j (fun z=>y (by simp[z]))]) (G.trans hl)
theorem JT(hc:X.calm=true)(h:DGs X es is gs)(Y:(assignEach es X.env).length=es.length:=by rfl)(G:(assignEach es X.env).findIdx? (·.1)=none:=by rfl):DG X (.Tuple es k pos) is (Yb gs):=by
 obtain⟨l,w,g,pg,h⟩:=h;refine⟨fun t y R h=>?_,_,zrQ hc pg Y G,fun C y σ H n v t Q R S r hd N=>?_⟩
 ·cases t with
  | tuple ts=>exact w ts y R h
  | _=>exact h.elim
 ·cases t with
  | tuple ts =>
   obtain⟨p,L,rfl,U,J⟩:=r.tupI;exact⟨p,L,rfl,U,by rw[J.length];exact l ts y R hd,h C y σ H n L ts Q R S J hd N⟩
  | _=>exact hd.elim
def sAsg(d:DTE)(g:DTG):DTS:=fun D v n=>d v n fun t y=>g t v fun l=>D.nx l y
theorem QU(h:DE X e d)(l:DG X tg is g)(hs:swapsWithSole [tg] e pos.line X.env=pure false:=by rfl)(hw:swappedStores [tg] e X.env=pure none:=by rfl)
  (U:(assignEach [tg] X.env).map (·.2)=[assign tg X.env]:=by rfl):DS X (.Assign [tg] e pos) (sAsg d g):=by
 obtain⟨ta,pa,h⟩:=h;obtain⟨w,gb,R,l⟩:=l;refine⟨_,Zk pa R hs hw U,fun C G σ H n D D' S hd gd=>?_⟩
 refine h C G σ H n _ _ S hd fun t J v I r L Y q=>?_
 exact l C G σ I J v t _ _ (S.on L Y) q r fun y σ' Z N kp _ _=>gd.nx y σ' I J Z N (L.keep.trans kp)
def sPar(i j:Nat)(ds:DTA):DTS:=fun D y n=>ds y n fun ts C=>match ts with|[t,u]=>D.nx ((y.set i (some (.val t))).set j (some (.val u))) C|_=>False
theorem ztR{kt k2 pt2}(hc:X.calm=true)(J:X.N.Nodup)(hi:X.N[i]?=some x)(U:X.N[j]?=some y)(G:i≠j)
  (hx:X.env.scope.names.lookup x=some .local) (hy:X.env.scope.names.lookup y=some .local) (h:DB X [a,b] ds)
  (hw:swappedStores [.Tuple [.Name x px,.Name y py] kt pt] (.Tuple [a,b] k2 pt2) X.env=pure (some [x,y]):=by rfl)
  (hs:swapsWithSole [.Tuple [.Name x px,.Name y py] kt pt] (.Tuple [a,b] k2 pt2) pos.line X.env=pure false:=by rfl) :
  DS X (.Assign [.Tuple [.Name x px,.Name y py] kt pt] (.Tuple [a,b] k2 pt2) pos) (sPar i j ds):=by
 obtain⟨ta,pa,h⟩:=h;refine⟨_,zrH hc J hi U G hx hy pa.pa hw hs,fun C L σ H n D D' S hd g=>?_⟩
 refine h C L σ H n _ _ S hd fun ts n1 vs H1 r I R v _=>?_
 cases v with
 | nil=>exact r.elim
 | cons Y v =>
  cases v with
  | nil=>exact r.elim
  | cons Z v =>
   cases v with
   | cons _ _=>exact r.elim
   | nil =>
    have S1:=(S.on I R).put (i:=i) Y;exact⟨_,_,rfl,g.nx _ _ H1 n1 r (S1.put (Keep.rep Qw S.hx Z)) ((I.keep.trans Qw).trans Qw)⟩
def Yr(i:Nat)(d:DTE):DTS:=fun D l n=>match l[i]? with
 | some (some (.own ts))=>d l n fun t v=>ts.length<16777216/\D.nx (l.set i (some (.own (ts++[t])))) v
 | _=>False
theorem Qn(i:Nat){I p2 R:Pos}(h:DE X e d)(hN:X.N[i]?=some x:=by rfl)(hv:Vis X.env.scope x:=by walk_at "V")(hd:(x == ("__debug__":Str))=false:=by rfl)
  (hcd:(x == ("__classdict__":Str))=false:=by rfl) (hs:swapsWith (.Call (.Attribute (.Name x I) "append" p2) [e] [] R) none pos.line X.env=pure false:=by rfl)
  (Ib:attributeBase (.Name x I) "append" X.env (eval (.Name x I) X.env)=eval (.Name x I) X.env:=by rfl)
  (Kk:((backTo R (starEach [e] X.env)).all (fun x=>!x.1)&&(backToKw R (keywordEach [] X.env)).all (fun x=>x.1.isSome)
   && decide ([e].length+([]:List tQ).length+(if ([]:List tQ).isEmpty then 0 else 1)<30))=true:=by rfl)
  (Ic:(p2.endLine == R.line)=true:=by rfl) (J:starEach [e] X.env=[(false,eval e X.env)]:=by rfl):DS X (.Expr (.Call (.Attribute (.Name x I) "append" p2) [e] [] R) pos) (Yr i d):=by
 obtain⟨ta,pa,h⟩:=h;refine⟨_,zo6 (zpf gQ PySem.F.slot_list_append PySem.F.type_list_append zes (QW hN hv hd hcd) (Ub pa US J) Ib Kk Ic J rfl) hs,fun C ρ σ H n D D' S hd g=>?_⟩
 unfold Yr at hd;split at hd
 ·rename_i ts et;obtain⟨p,vs,Z,h2,h3,h4⟩:=S.own i ts et;refine⟨.ref p,Z,.inl ⟨rfl,_,SqL.of h2⟩,?_⟩;refine h C ρ σ H n _ _ S hd fun t n' v H' r e1 hn q=>?_
  have S1:=S.on e1 hn;obtain⟨p',Y,L,U,G,h4'⟩:=S1.own i ts et;rw[Z]at L;cases L;refine⟨p,Y,v,rfl,rfl,U,by rw[G.length];exact r.1,?_⟩
  obtain⟨S2,k2⟩:=S1.chg et Z (G.append (.cons q .nil));exact g.nx _ _ _ n' r.2 S2 (e1.keep.trans k2)
 ·exact hd.elim
def sPut(i:Nat)(C d:DTE):DTS:=fun D l n=>d l n fun t v=>match l[i]? with
 | some (some (.own ts))=>C l v fun j y=>match j with|.int j=>(match ixN ts.length j with|some k=>D.nx (l.set i (some (.own (ts.set k t)))) y|none=>False)|_=>False
 | _=>False
theorem ztQ(i:Nat){dj:DTE}{l p2:Pos}(Z:DE X b dj)(h:DE X e d)(hN:X.N[i]?=some x:=by rfl)(hv:Vis X.env.scope x:=by walk_at "V")(hd:(x == ("__debug__":Str))=false:=by rfl)
  (hcd:(x == ("__classdict__":Str))=false:=by rfl) (hs:swapsWithSole [.Subscript (.Name x l) b p2] e pos.line X.env=pure false:=by rfl) (hw:swappedStores [.Subscript (.Name x l) b p2] e X.env=pure none:=by rfl)
  (y:(assignEach [.Subscript (.Name x l) b p2] X.env).map (·.2)=[assign (.Subscript (.Name x l) b p2) X.env]:=by rfl)
  (hsub:PG X (.Subscript (.Name x l) b p2)=PG X (.Subscript (.Name x l) b p2):=rfl) (pg:∀{to ti:TE} {t:TSet},PE X (.Name x l) to->PE X b ti->PSet X t->PG X (.Subscript (.Name x l) b p2) (L2.gSub to ti t):=by intro _ _ _ y h2 h3;exact pg_sub y h2 h3) :
  DS X (.Assign [.Subscript (.Name x l) b p2] e pos) (sPut i dj d):=by
 obtain⟨ta,pa,h⟩:=h;obtain⟨tj,pj,Z⟩:=Z;refine⟨_,Zk pa (pg (QW hN hv hd hcd) pj set_list) hs hw y,fun C U σ H n D D' S hd g=>?_⟩
 refine h C U σ H n _ _ S hd fun t n1 v H1 r e1 hn q=>?_
 have S1:=S.on e1 hn;split at r
 ·rename_i ts Y;obtain⟨p,vs,y,h2,h3,h4⟩:=S1.own i ts Y;refine⟨.ref p,y,Z C U σ H1 n1 _ _ S1 r fun j n2 w H2 G e2 hn2 q2=>?_⟩
  have S2:=S1.on e2 hn2;cases j with
  | int j =>
   have G:(match ixN ts.length j with|some k=>D'.nx (U.set i (some (.own (ts.set k t)))) n2|none=>False):=G
   cases ek:ixN ts.length j with
   | none=>rw[ek]at G;exact G.elim
   | some m =>
    rw[ek]at G;obtain⟨p',R,J,L,I,h4'⟩:=S2.own i ts Y;rw[y]at J;cases J;refine⟨p,R,j,m,rfl,q2.intI,L,by rw[I.length];exact ek,?_⟩
    obtain⟨S3,k3⟩:=S2.chg Y y (I.set (e2.rep S.hx q) m);exact g.nx _ _ _ n2 G S3 ((e1.trans e2).keep.trans k3)
  | _=>exact G.elim
 ·exact r.elim
def zkA(c:DTT)(I:DTS):DTS:=fun D v n=>∃W:Nat->En->Nat->Prop,(∃m,W m v n)/\∀m v n,W m v n ->
 c v n fun b G=>if b=true then I { D with nx:=fun l C=>∃y,y<m/\W y l C,ct:=fun l C=>∃y,y<m/\W y l C,bk:=D.nx } v G else D.nx v G
theorem ZO(hp:nY (model X.prog X.w) X.A X.env X.xe)(hc:DT X c dt)(hb:DSs X sa t):DS X (.While c sa [] pos) (zkA dt t):=by
 obtain⟨tc,pc,hc⟩:=hc;obtain⟨tb,pb,hb⟩:=hb;refine⟨_,zng hp pc pb,fun C ρ σ H n D D' S hd g=>?_⟩
 obtain⟨W,⟨m0,w0⟩,turn⟩:=hd;refine⟨fun m L H1=>∃G n1,W m G n1/\Stt X.K C G L H1 n1/\Keep C ρ σ H G L H1,⟨m0,ρ,n,w0,S,Keep.refl⟩,?_⟩
 rintro m L H1 ⟨G,n1,w1,S1,k1⟩;refine hc C G L H1 n1 _ _ S1 (turn m G n1 w1) fun b n2 H2 r e2 hn2=>?_
 have S2:=S1.on e2 hn2;have k2:=k1.trans e2.keep;cases b with
 | true =>
  refine iteT ⟨fun σ' N=>∃J,J<m/\∃y I,W J y I/\Stt X.K C y σ' N I/\Keep C ρ σ H y σ' N,fun σ' N ⟨J,Z,z⟩=>⟨J,Z,z⟩,?_⟩
  refine hb C G L H2 n2 _ { D' with nx:=fun y I=>∃J,J<m/\W J y I,ct:=fun y I=>∃J,J<m/\W J y I,bk:=D'.nx } S2 (by simpa using r) ⟨?_,fun t I v N h hn R r=>g.rt t I v N h hn (fun a o ha U no=>?_) r,?_,?_,fun c I N h hn R=>g.xr c I N h hn fun a o ha U no=>R a o (k2 a o ha U no).1 U (k2 a o ha U no).2⟩
  ·rintro y σ' N I ⟨J,Z,w'⟩ Y R;exact⟨J,Z,y,I,w',Y,k2.trans R⟩
  ·obtain⟨q1,q2⟩:=k2 a o ha U no;exact R a o q1 U q2
  ·intro y σ' N I h' Y R;exact g.nx y σ' N I h' Y (k2.trans R)
  ·rintro y σ' N I ⟨J,Z,w'⟩ Y R;exact⟨J,Z,y,I,w',Y,k2.trans R⟩
 | false=>exact iteF (g.nx G L H2 n2 (by simpa using r) S2 k2)
end
def ItOk(K:qF)(hd:Option ak)(P O:ak->Prop)(H:Hp)(J:It)(ts:qD):Prop:=∀(v:ak->Prop) (l:Hp),(∀a o,H a=some o->P a->l a=some o)->(∀a o,H a=some o->¬O a->¬v a)->(∀a,v a->l a≠none) ->
 (∀i t,ts[i]?=some t->J.go i l/\∀x u,J.yld i l x u->Same l u/\Rep K hd v u x t)/\J.stop ts.length l
def DI(X:Cx)(y iter:aX)(d:DTA):Prop:=∃x,PI X y iter x/\∀(C:Ctx) (u:En) (σ:St) (H:Hp) (n:Nat) (Q:It->Hp->Prop) (R:List af->Nat->Prop),Stt X.K C u σ H n->d u n R ->
 (∀ts v J l,R ts v->ExtE C.hd H l->Hn C.hd l v->ItOk X.K C.hd (fun a=>¬Own C u σ a) (Own C u σ) l J ts->Q J l)->x σ H Q
def DIL(X:Cx)(y iter:aX)(d:DTA):Prop:=∃x,PI X y iter x/\∀(C:Ctx) (u:En) (σ:St) (H:Hp) (n:Nat) (Q:It->Hp->Prop) (R:List af->Nat->Prop),Stt X.K C u σ H n->d u n R ->
 (∀ts v J l,R ts v->ExtE C.hd H l->Hn C.hd l v->ItOk X.K C.hd (fun a=>C.hd≠some a) (Own C u σ) l J ts->Q J l)->x σ H Q
section
variable{X:Cx}{a b c e tg iter:aX}{es rest:List aX}{d da db dc:DTE}{ds di:DTA}{dt:DTT}{t u:DTS}{st:dG}{sts sa sb:List dG}{pos p:Pos}{k:Nat}{x:Str}
theorem dil(h:DI X tg iter di):DIL X tg iter di:=by
 obtain⟨N,pi,h⟩:=h;refine⟨N,pi,fun C G σ H n Q R S hd v=>h C G σ H n Q R S hd fun ts n' J I r e1 Z it=>v ts n' J I r e1 Z ?_⟩
 exact fun O2 y U L Y=>it O2 y (fun a o ha no=>U a o ha fun z=>no (.inl (S.hx a z))) L Y
theorem Reps.getP{K:qF}{hd:Option ak}{O:ak->Prop}{H:Hp}{vs ts}{i:Nat}{t}{x:V}(r:Reps K hd O H vs ts)(h:ts[i]?=some t)(hx:vs[i]?=some x):Rep K hd O H x t:=by
 obtain⟨v,l,y⟩:=r.get h;rw[hx]at l;cases l;exact y
theorem VI{K:qF}{hd:Option ak}{P O:ak->Prop}{H:Hp}{q:ak}{vs ts}(N:H q=some (.lst vs))(R:P q)(Z:∀a,¬O a->P a)(r:Reps K hd O H vs ts):ItOk K hd P O H (Itl K q) ts:=by
 intro Y S I U _;have y:=I q _ N R;have L:Reps K hd Y S vs ts:=r.mono (fun a o C z=>gm fun no=>U a o C no z) fun a o no C=>I a o C (Z a no)
 refine⟨fun i t J=>?_,⟨vs,.of y,by rw[r.length];exact aC _⟩⟩
 obtain⟨v,ev,rv⟩:=L.get J;refine⟨⟨vs,v,.of y,ev⟩,fun x H3 G=>?_⟩
 obtain⟨rfl,G⟩:=G;exact⟨Same.refl _,L.getP J (G vs (.of y))⟩
theorem zoA{K:qF}{hd:Option ak}{P O:ak->Prop}{H:Hp}{v:V}{ts}(Y:∀a,¬O a->P a)(r:Rep K hd O H v (.tuple ts)):∃q y,v=.ref q/\SqT K H q y/\ItOk K hd P O H (Itt K q) ts:=by
 have key:∀q y,Reps K hd O H y ts->(∀(I:ak->Prop) (C:Hp),(∀a o,H a=some o->P a->C a=some o)->(∀a o,H a=some o->¬O a->¬I a)->SqT K C q y)->ItOk K hd P O H (Itt K q) ts:=by
  intro q y r Z I C J R _;have G:=Z I C J R;have U:Reps K hd I C y ts:=r.mono (fun a o L z=>gm fun no=>R a o L no z) fun a o no L=>J a o L (Y a no)
  refine⟨fun i t S=>?_,⟨y,G,by rw[r.length];exact aC _⟩⟩
  obtain⟨v,ev,rv⟩:=U.get S;refine⟨⟨y,v,G,ev⟩,fun x H3 N=>?_⟩
  obtain⟨rfl,N⟩:=N;exact⟨Same.refl _,U.getP S (N y G)⟩
 cases r with
 | @tup q y ds h o r=>exact⟨q,y,rfl,.inl (.inl h),key q y r fun I C J _=>.inl (.inl (J q _ h (Y q o)))⟩
 | @tupS q y ds h r=>exact⟨q,y,rfl,h.sq,key q y r fun I C _ _=>h.sq⟩
def dItL(d:DTE):DTA:=fun y n R=>d y n fun t v=>match t with|.list ts=>R ts v|_=>False
def dItT(d:DTE):DTA:=fun y n R=>d y n fun t v=>match t with|.tuple ts=>R ts v|_=>False
theorem Ur(h:DE X iter d):DI X tg iter (dItL d):=by
 obtain⟨Z,pa,h⟩:=h;refine⟨_,zkO pa,fun C G σ H n Q R S hd y=>?_⟩
 refine h C G σ H n _ _ S hd fun t N v I r U L q=>?_
 cases t with
 | list ts =>
  obtain⟨p,Y,rfl,l,no,J⟩:=q.lstI;exact⟨p,rfl,⟨Y,.of l⟩,y ts N _ I r U L (VI l no (fun _ z=>z) J)⟩
 | _=>exact r.elim
theorem zn6(h:DL X iter d):DIL X tg iter (dItL d):=by
 obtain⟨ta,pa,h⟩:=h;refine⟨_,zkO pa,fun C ρ σ H n Q R S hd N=>?_⟩
 refine h C ρ σ H n _ _ S hd fun t Z v U r e1 Y q=>?_
 cases t with
 | list ts =>
  rcases q with q|⟨p,J,ds,rfl,I,y,G,L⟩|⟨p,zs,ep,ks,rfl,I,y,G,L⟩
  rotate_left 2
  ·cases I
  ·obtain⟨p,J,rfl,y,no,G⟩:=q.lstI;exact⟨p,rfl,⟨J,.of y⟩,N ts Z _ U r e1 Y (VI y (fun z=>no (.inl (S.hx p z))) (fun a no z=>no (.inl (S.hx a z))) G)⟩
  ·cases I;exact⟨p,rfl,⟨J,.of y⟩,N ts Z _ U r e1 Y (VI y L (fun a no z=>no (.inl (S.hx a z))) G)⟩
 | _=>exact r.elim
theorem QJ(h:DE X iter d):DI X tg iter (dItT d):=by
 obtain⟨Y,pa,h⟩:=h;refine⟨_,zrN pa,fun C l σ H n Q R S hd y=>?_⟩
 refine h C l σ H n _ _ S hd fun t L v G r N J q=>?_
 cases t with
 | tuple ts =>
  obtain⟨p,U,rfl,I,it⟩:=zoA (P:=fun a=>¬Own C l σ a) (fun _ z=>z) q
  exact⟨p,rfl,⟨U,I⟩,y ts L _ G r N J it⟩
 | _=>exact r.elim
def QL(lo:Int)(n:Nat):List af:=(fw n).map fun(i:Nat)=>b5 (lo+(i:Int))
theorem znK{K:qF}{hd:Option ak}{P O:ak->Prop}{H:Hp}{lo:Int}{m:Nat}:ItOk K hd P O H (Itr lo m) (QL lo m):=by
 intro G I _ _ _;refine⟨fun i t v=>?_,by show m<=(QL lo m).length;simp[QL]⟩
 unfold QL at v;rw[bg]at v
 by_cases hi:i<m
 ·rw[mE hi]at v;cases v;refine⟨hi,fun x C y=>?_⟩
  obtain⟨rfl,rfl⟩:=y;exact⟨Same.refl _,.int _⟩
 ·rw[cw (by simp;omega)]at v
  cases v
def YC(d:DTE):DTA:=fun v n R=>d v n fun t l=>match t with|.int j=>(-(2 ^ 62)<=j/\j<2 ^ 62)/\R (QL 0 j.toNat) l|_=>False
theorem zeP(U:X.mg "range" = none) (h:DE X a d) (L:Gl X "range":=by rfl) (y:starEach [a] X.env=[(false,eval a X.env)]:=by rfl):DI X tg (.Call (.Name "range" p) [a] [] pos) (YC d):=by
 obtain⟨ta,pa,h⟩:=h;refine⟨_,zkN L U (Ub pa US y) y,fun C I σ H n Q R S hd G=>?_⟩
 refine h C I σ H n _ _ S hd fun t Z v J r e1 Y q=>?_
 cases t with
 | int j =>
  rw[q.intI];exact⟨j,rfl,r.1.1,r.1.2,G _ Z _ J r.2 e1 Y znK⟩
 | _=>exact r.elim
def forP(g:DTG)(l:DTS)(D:JP):List af->En->Nat->Prop
 | [],ρ,n=>D.nx ρ n
 | t::ts,ρ,n=>g t ρ fun v=>l { D with nx:=forP g l D ts,ct:=forP g l D ts,bk:=D.nx } v n
def sFor(di:DTA)(g:DTG)(y:DTS):DTS:=fun D l n=>di l n fun ts v=>forP g y D ts l v
theorem Q3(hp:nY (model X.prog X.w) X.A X.env X.xe)(hc:X.calm=true)(hi:DI X tg iter di)(hg:DG X tg is g)(hb:DSs X sa t)
  (hs:∀x,foldedSetIterable iter X.env x=pure x:=by intro _;rfl):DS X (.For tg iter sa [] pos) (sFor di g t):=by
 obtain⟨wi,pi,hi⟩:=hi;obtain⟨_,gg,pg,hg⟩:=hg;obtain⟨tb,pb,hb⟩:=hb;refine⟨_,zrI hp hc pi pg pb hs,fun C ρ σ H n D D' S hd gd=>?_⟩
 refine hi C ρ σ H n _ _ S hd fun ts n1 J H1 r e1 hn it=>?_
 have S1:=S.on e1 hn;refine⟨fun i m L H2=>m=ts.length - i/\i<=ts.length/\∃I n2,forP g t D' (ts.drop i) I n2/\Stt X.K C I L H2 n2/\Keep C ρ σ H1 I L H2,⟨ts.length,by simp,eU _,ρ,n1,by simpa using r,S1,Keep.refl⟩,?_⟩
 rintro i m L H2 ⟨rfl,hi',I,n2,f2,S2,k2⟩;have itq:=it (Own C I L) H2 (fun a o Y no=>(k2 a o Y (fun z=>no (.inl (S.hx a z))) fun z=>no (.inr z)).1) (fun a o Y no z=>z.elim (fun z=>no (.inl z)) fun z=>(k2 a o Y (fun y=>no (.inl (S.hx a y))) fun y=>no (.inr y)).2 z) (fun a=>S2.dom)
 by_cases hlt:i<ts.length
 ·have et:ts[i]?=some ts[i]:=au hlt;obtain⟨go,yl⟩:=itq.1 i _ et;rw[bE hlt]at f2;refine .inr ⟨go,fun σ' R=>∃G N,forP g t D' (ts.drop (i+1)) G N/\Stt X.K C G σ' R N/\Keep C ρ σ H1 G σ' R,fun σ' R z=>⟨ts.length - (i+1),by omega,rfl,hlt,z⟩,fun x H3 hy=>?_⟩
  obtain⟨sm,rx⟩:=yl x H3 hy;have S3:=S2.on sm.ext (S2.hnd.same sm);have k3:Keep C ρ σ H1 I L H3:=k2.trans (Same.ext sm:ExtE C.hd H2 H3).keep;refine hg C I L H3 n2 x _ _ _ S3 rx f2 fun ρ4 σ4 r4 S4 k4 _ _=>?_
  have k5:=k3.trans k4;refine hb C ρ4 σ4 H3 n2 _ { D' with nx:=forP g t D' (ts.drop (i+1)),ct:=forP g t D' (ts.drop (i+1)),bk:=D'.nx } S4 r4 ⟨fun G σ' R N h' S' U=>⟨G,N,h',S',k5.trans U⟩,fun t N v R h Z U rp=>gd.rt t N v R h Z (fun a o Y nh no=>?_) rp,fun G σ' R N h' S' U=>gd.nx G σ' R N h' S' (e1.keep.trans (k5.trans U)),fun G σ' R N h' S' U=>⟨G,N,h',S',k5.trans U⟩,fun c N R h Z U=>gd.xr c N R h Z fun a o Y nh no=>U a o ((e1.keep.trans k5) a o Y nh no).1 nh ((e1.keep.trans k5) a o Y nh no).2⟩
  obtain⟨q1,q2⟩:=(e1.keep.trans k5) a o Y nh no;exact U a o q1 nh q2
 ·have e:i=ts.length:=by omega
  subst e;rw[ic]at f2;exact .inl ⟨itq.2,gd.nx I L H2 n2 f2 S2 (e1.keep.trans k2)⟩
def Qb(N:List Str)(ts:qD):En:=ts.map (fun t=>some (.val t))++bX (N.length - ts.length) none
theorem zgn{K:qF}{hd:Option ak}{O:ak->Prop}{H:Hp}{n:Nat}{N:List Str}{y:List V}{ts:qD}(r:Reps K hd O H y ts)(I:Hn hd H n)(dom:∀a,O a->MutO (H a))(hx:∀a,hd=some a->O a) :
  Stt K ⟨hd,O⟩ (Qb N ts) (start N y) H n/\∀a,¬OwnS (Qb N ts) (start N y) a:=by
 have get:∀(i:Nat) c,(Qb N ts)[i]?=some (some c)->∃t,c=.val t/\ts[i]?=some t:=fun i c h=>by
  unfold Qb at h
  by_cases hi:i<ts.length
  ·rw[bT (by simpa using hi),bg]at h
   cases e:ts[i]? with
   | none=>rw[e]at h;cases h
   | some t=>rw[e]at h;cases h;exact⟨t,rfl,rfl⟩
  ·rw[br (by simpa using hi),dS]at h
   split at h <;> cases h
 have no:∀a,¬OwnS (Qb N ts) (start N y) a:=fun a ⟨i,ds,m,C,_⟩=>by
  obtain⟨t,e,_⟩:=get i _ C;subst e;cases m
 refine⟨.mk' (by unfold Qb start;simp[r.length]) (fun i d h=>?_) (fun i ds m h=>?_) (fun i L h=>by obtain⟨t,e,_⟩:=get i _ h;cases e) (fun i j ds es a m _ h=>?_) I dom hx,no⟩
 ·obtain⟨t,e,G⟩:=get i _ h;cases e;obtain⟨v,ev,J⟩:=r.get G;refine⟨v,?_,J.mono (fun a o _ z=>z.elim id fun z=>absurd z (no a)) fun _ _ _ z=>z⟩
  unfold start;have hi:i<y.length:=by
   rcases cg i y.length with z|z
   ·exact z
   ·rw[cw z]at ev;cases ev
  rw[bT (by simpa using hi),bg,ev];rfl
 ·obtain⟨t,e,_⟩:=get i _ h;subst e;cases m
 ·obtain⟨t,e,_⟩:=get i _ h;subst e;cases m
end
end L2
namespace Bd
open PySem L2 PyProof.Rows
theorem Def.okD{P:aK}{w:aW}{K:qF}{mg:qM}{base:aY}{x:Str}{st:dG}{ps N:List Str}{f:ak}{fd:cT}{k m:Nat}{g:GD}(D:Def K mg x st ps f fd)(S:Ua N ps (JF st))(hm:m=ps.length)
  (hb:∀(l:ah) (A:bq) (outer:List Env) (s:aq) (H:Hp) (E:XK),Room k (A.deeper (envOfC x (JF st) s.heap.objs.size f l))->∃d,DSs (cxOf CX0 P w K mg base N x (JF st) f l A outer s H E).nox (Qh st) d /\
   ∀ts n R,ts.length=m->g ts n R->d { nx:=fun _ u=>R .none u,rt:=R } (Qb N ts) n):FnOk P w K mg base CX0 (k+1) f fd ps (spD K m g):=by
 refine D.F.ok S (fun vs H Q E h=>?_) (fun l A outer s H vs Q E hr h=>?_)
 ·obtain⟨hd,O,ts,n,R,r,_,_,_,C,_⟩:=h;rw[r.length,C,hm]
 ·obtain⟨hd,O,ts,n,R,r,hn,dom,hx,C,hg,Y⟩:=h;obtain⟨d,⟨t,pt,ht⟩,L⟩:=hb l A outer s H E hr;obtain⟨S0,no⟩:=zgn (N:=N) r hn dom hx;refine⟨t,pt,ht ⟨hd,O⟩ _ _ H n _ _ S0 (L ts n R C hg) ⟨fun ρ' σ' G u h Z I=>?_,fun t u v G h U I rp=>?_,fun _ _ _ _ h=>h.elim,fun _ _ _ _ h=>h.elim,fun _ _ _ h=>h.elim⟩⟩
  ·exact Y .none u .non G h (fun a o J y=>(I a o J y (no a)).1) Z.hnd .non
  ·exact Y t u v G h (fun a o J y=>I a o J y (no a)) U rp
end Bd
namespace L2
open PySem PySem.Spec PyProof.Rows
def DTs(Y:Cx)(ifs:List aX)(d:DTT):Prop:=∃v,PTs Y ifs v/\∀(C:Ctx) (x:En) (σ:St) (H:Hp) (n:Nat) (Q:Bool->Hp->Prop) (R:Bool->Nat->Prop),Stt Y.K C x σ H n->d x n R ->
 (∀b u l,R b u->ExtE C.hd H l->Hn C.hd l u->Q b l)->v σ H Q
def dYes:DTT:=fun _ n R=>R true n
section
variable{Y:Cx}{c:aX}{d:DTT}
theorem Zz:DTs Y [] dYes:=⟨_,zo4,fun C u σ H n Q R S h l=>l true n H h ExtE.refl S.hnd⟩
theorem Yo(h:DT Y c d):DTs Y [c] d:=by
 obtain⟨l,p,h⟩:=h;exact⟨_,zo3 p,h⟩
end
theorem DE.uni{L:Type}{Xf:L->Cx}{K:qF}(y:∀i,(Xf i).K=K){e:aX}{d:DTE}(h:∀i,DE (Xf i) e d):∃G:TE,(∀i,PE (Xf i) e G)/\∀(C:Ctx) (u:En) (σ:St) (H:Hp) (n:Nat) (Q:VK) (R:qN),Stt K C u σ H n->d u n R ->
  (∀t x v l,R t x->ExtE C.hd H l->Hn C.hd l x->Rep K C.hd (Own C u σ) l v t->Q v l)->G σ H Q:=by
 refine⟨fun σ H Q=>∀i,(ig (h i)) σ H Q,fun i pins s σ H Q I hw=>(cL (h i)).1 pins s σ H Q I (hw i),fun C u σ H n Q R S hd J i=>?_⟩
 have:=(cL (h i)).2 C u σ H n Q R;exact this (by rw[y i];exact S) hd fun t x v l r e h q=>J t x v l r e h (by rw[<- y i];exact q)
theorem DTs.uni{G:Type}{Xf:G->Cx}{K:qF}(J:∀i,(Xf i).K=K){e:List aX}{d:DTT}(h:∀i,DTs (Xf i) e d):∃v:TT,(∀i,PTs (Xf i) e v)/\∀(C:Ctx) (l:En) (σ:St) (H:Hp) (n:Nat) (Q:Bool->Hp->Prop) (R:Bool->Nat->Prop),Stt K C l σ H n->d l n R ->
  (∀b x u,R b x->ExtE C.hd H u->Hn C.hd u x->Q b u)->v σ H Q:=by
 refine⟨fun σ H Q=>∀i,(ig (h i)) σ H Q,fun i pins s σ H Q I hw=>(cL (h i)).1 pins s σ H Q I (hw i),fun C l σ H n Q R S hd y i=>?_⟩
 have:=(cL (h i)).2 C l σ H n Q R;exact this (by rw[J i];exact S) hd y
theorem DG.uni{G:Type}[Nonempty G]{Xf:G->Cx}{K:qF}(y:∀i,(Xf i).K=K){e:aX}{is:List Nat}{d:DTG}(h:∀i,DG (Xf i) e is d):∃J:TG,(∀i,PG (Xf i) e J)/\∀(C:Ctx) (x:En) (σ:St) (H:Hp) (n:Nat) (v:V) (t:af) (Q:St->Hp->Prop) (R:En->Prop),Stt K C x σ H n->Rep K C.hd (Own C x σ) H v t->d t x R ->
  (∀l σ',R l->Stt K C l σ' H n->Keep C x σ H l σ' H->(∀j,j∉is->σ'[j]?=σ[j]?)->σ'.length=σ.length->Q σ' H)->J v σ H Q:=by
 refine⟨fun v σ H Q=>∀i,(ig (h i).2) v σ H Q,fun i pins s σ H v u Q I r hw=>(cL (h i).2).1 pins s σ H v u Q I r (hw i),fun C x σ H n v t Q R S r hd N i=>?_⟩
 have:=(cL (h i).2).2 C x σ H n v t Q R;exact this (by rw[y i];exact S) (by rw[y i];exact r) hd fun l σ' U L=>N l σ' U (by rw[<- y i];exact L)
theorem Wk.of:∀{σ σ':St},σ.length=σ'.length->(∀(i:Nat) v,σ[i]?=some (some v)->σ'[i]?=some (some v))->Wk σ σ'
 | [],[],_,_=>trivial
 | [],_::_,h,_=>by simp at h
 | _::_,[],h,_=>by simp at h
 | none::r,o::r',h,k=>Wk.of (σ:=r) (σ':=r') (by simpa using h) fun i v e=>by simpa using k (i+1) v (by simpa using e)
 | some w::r,o::r',h,k=>⟨by simpa using k 0 w rfl,Wk.of (by simpa using h) fun i v e=>by simpa using k (i+1) v (by simpa using e)⟩
def capV:Option Cell->Option Cell
 | some (.val d)=>some (.val d)
 | some (.dct ks)=>some (.rdo ks)
 | some (.rdo ks)=>some (.rdo ks)
 | _=>none
def Jz(m:Nat)(capt:List Nat)(l:En):En:=bX m none++capt.map fun i=>capV (l.getD i none)
def JN(g:DTG)(tt:DTT)(v:DTE)(l:En):List af->List af->Nat->(List af->Nat->Prop)->Prop
 | [],acc,n,R=>R acc n
 | x::xs,acc,n,R=>g x l fun u=>tt u n fun b y=>if b=true then v u y fun t C=>acc.length<16777216/\JN g tt v l xs (acc++[t]) C R else JN g tt v l xs acc y R
def dComp(m:Nat)(capt:List Nat)(v:DTA)(g:DTG)(tt:DTT)(x:DTE):DTA:=fun l n R=>v l n fun ts u=>JN g tt x (Jz m capt l) ts [] u R
theorem zof{own:List Str}{capt is:List Nat}{σ u:St}(x:∀i∈is,i<own.length)(y:∀j,j∉is->u[j]?=(Jw own++capS capt σ)[j]?){j:Nat}{v:V}(l:(Jw own++capS capt σ)[j]?=some (some v)):u[j]?=some (some v):=by
 by_cases hjo:j<own.length
 ·rw[bT (by simpa using hjo),bg]at l
  cases z:own[j]? with
  | none=>rw[z]at l;cases l
  | some q=>rw[z]at l;cases l
 ·rw[y j (fun z=>hjo (x j z))];exact l
theorem ExtE.updR{hd:Option ak}{l x:Hp}{D:ak}{o:HO}(C:l D=none)(e:ExtE hd l x):ExtE hd l (upd x D o):=fun a u v y=>by
 rw[Jn (Qv v C)];exact e a u v y
theorem Hn.updR{hd:Option ak}{v:Hp}{D:ak}{o:HO}{n:Nat}(l:hd≠some D)(h:Hn hd v n):Hn hd (upd v D o) n:=fun a u=>by
 obtain⟨d,m,t,q,rest⟩:=h a u;exact⟨d,m,t,by rw[Jn (show a≠D from fun z=>l (by rw[<- z];exact u))];exact q,rest⟩
section
variable{X:Cx}{scope:fv}{own:List Str}{capt:List Nat}{elt tg iter:aX}{ifs:List aX}{pos:Pos}{di:DTA}{is:List Nat}{g:DTG}{tt:DTT}{te:DTE}
theorem zf5{x:En}{i:Nat}{c:Cell}(h:capV (x.getD i none)=some c):(∃d,c=.val d/\x[i]?=some (some (.val d)))\/∃u,c=.rdo u/\(x[i]?=some (some (.dct u))\/x[i]?=some (some (.rdo u))):=by
 rw[ba]at h;cases e:x[i]? with
 | none=>rw[e]at h;cases h
 | some o =>
  rw[e]at h;cases o with
  | none=>cases h
  | some y =>
   cases y with
   | val d'=>simp[capV]at h;exact .inl ⟨d',h.symm,rfl⟩
   | own _=>simp[capV]at h
   | dct u=>simp[capV]at h;exact .inr ⟨u,h.symm,.inl rfl⟩
   | dtt u=>simp[capV]at h
   | rdo u=>simp[capV]at h;exact .inr ⟨u,h.symm,.inr rfl⟩
theorem zmh{K:qF}{C:Ctx}{u:En}{σ:St}{H N:Hp}{n n2:Nat}{D:ak}(S:Stt K C u σ H n)(e:ExtE C.hd H N)(hn:Hn C.hd N n2)(hD:H D=none)(hy:MutO (N D)) :
  Stt K ⟨C.hd,fun a=>Own C u σ a\/a=D⟩ (Jz own.length capt u) (Jw own++capS capt σ) N n2/\∀a,¬OwnS (Jz own.length capt u) (Jw own++capS capt σ) a:=by
 have get:∀(i:Nat) c,(Jz own.length capt u)[i]?=some (some c)->∃j,capV (u.getD j none)=some c/\own.length<=i/\capt[i - own.length]?=some j:=fun i c h=>by
  unfold Jz at h
  by_cases hi:i<own.length
  ·rw[bT (by simpa using hi),dS]at h
   split at h <;> cases h
  ·rw[br (by simpa using hi),hZ,bg]at h
   cases ej:capt[i - own.length]? with
   | none=>rw[ej]at h;cases h
   | some j =>
    rw[ej]at h;exact⟨j,by simpa using h,by omega,rfl⟩
 have slot:∀(i j:Nat) (v:V),own.length<=i->capt[i - own.length]?=some j->σ[j]?=some (some v)->(Jw own++capS capt σ)[i]?=some (some v):=fun i j v hi J x=>by
  rw[br (by simpa using hi)]
  simp only[aZ,bg,J,gF];rw[ba,x];rfl
 have nm:∀(i:Nat) (c:Cell),c.mine=true->(Jz own.length capt u)[i]?=some (some c)->False:=fun i c m h=>by
  obtain⟨j,U,_⟩:=get i c h;rcases zf5 U with⟨d,rfl,_⟩|⟨Y,rfl,_⟩ <;> cases m
 have no:∀a,¬OwnS (Jz own.length capt u) (Jw own++capS capt σ) a:=fun a ⟨i,c,m,x,_⟩=>nm i c m x
 have S2:=S.on e hn;have sub:∀a o,H a=some o->Own ⟨C.hd,fun a=>Own C u σ a\/a=D⟩ (Jz own.length capt u) (Jw own++capS capt σ) a->Own C u σ a:=fun a o y z=>by
  rcases z with z|z
  ·rcases z with z|z
   ·exact z
   ·subst z;rw[hD]at y;cases y
  ·exact absurd z (no a)
 have kp:∀a o,¬Own C u σ a->H a=some o->N a=some o:=fun a o nO y=>e a o y fun z=>nO (.inl (S.hx a z))
 refine⟨.mk' (by unfold Jz;simp) (fun i d h=>?_) (fun i ds m h=>(nm i _ m h).elim) (fun i Y h=>?_) (fun i j ds es a m _ h=>(nm i _ m h).elim) hn (fun a y=>?_) (fun a y=>.inl (.inl (S.hx a y))),no⟩
 ·obtain⟨j,U,hi,J⟩:=get i _ h;rcases zf5 U with⟨d',z,G⟩|⟨Y,z,_⟩
  ·cases z;obtain⟨v,x,R⟩:=S.val j d G;exact⟨v,slot i j v hi J x,R.mono sub kp⟩
  ·cases z
 ·obtain⟨j,U,hi,J⟩:=get i _ h;rcases zf5 U with⟨d',z,G⟩|⟨ks',z,G⟩
  ·cases z
  ·cases z;rcases G with G|G
   ·obtain⟨a,I,x,R,h3,Z⟩:=S.dct j Y G;have L:C.hd≠some a:=fun z=>Z (S.hx a z)
    exact⟨a,I,slot i j _ hi J x,e a _ R L,h3.mono sub kp,.inl (.inr ⟨j,.dct Y,rfl,G,x⟩),L⟩
   ·obtain⟨a,I,x,R,h3,Z,L⟩:=S.rdo j Y G;exact⟨a,I,slot i j _ hi J x,e a _ R L,h3.mono sub kp,.inl (.inl Z),L⟩
 ·rcases y with y|rfl
  ·exact S2.lst y
  ·exact hy
theorem zjv{K:qF}{C:Ctx}{v:En}{σ:St}{H u:Hp}{n x:Nat}{D:ak}{ys:List V}(S:Stt K C v σ H n)(e:ExtE C.hd H u)(G:Hn C.hd u x)(y:H D=none)(I:u D=some (.lst ys)) :
  Stt K ⟨C.hd,fun a=>Own C v σ a\/a=D⟩ (Jz own.length capt v) (Jw own++capS capt σ) u x/\∀a,¬OwnS (Jz own.length capt v) (Jw own++capS capt σ) a:=zmh S e G y (.inl ⟨_,I⟩)
def zt9(K:qF)(te:TE)(d:DTA):Prop:=∀(C:Ctx) (v:En) (σ:St) (H:Hp) (n:Nat) (Q:VK) (R:List af->Nat->Prop),Stt K C v σ H n->d v n R ->
 (∀ts x p y u,R ts x->ExtE C.hd H u->Hn C.hd u x->H p=none->u p=some (.lst y)->Reps K C.hd (fun a=>Own C v σ a\/a=p) u y ts->Q (.ref p) u)->te σ H Q
theorem zhA(hi:DIL X tg iter di)
  (hg:∀C s₀ H₀ u,DG (Jf X scope own capt C s₀ H₀ u) tg is g) (hin:∀i∈is,i<own.length) (ht:∀C s₀ H₀ u,DTs (Jf X scope own capt C s₀ H₀ u) ifs tt) (he:∀C s₀ H₀ u,DE (Jf X scope own capt C s₀ H₀ u) elt te) :
  ∃(wi:TI) (gg:TG) (gt:TT) (ge:TE),PI X tg iter wi/\(∀C s₀ H₀ u,PG (Jf X scope own capt C s₀ H₀ u) tg gg)/\(∀C s₀ H₀ u,PTs (Jf X scope own capt C s₀ H₀ u) ifs gt)/\(∀C s₀ H₀ u,PE (Jf X scope own capt C s₀ H₀ u) elt ge)/\zt9 X.K (tComp own capt wi gg gt ge) (dComp own.length capt di g tt te):=by
 obtain⟨wi,pi,hi⟩:=hi
 let Xf:(ak×aq×Hp×List ak)->Cx:=fun q=>Jf X scope own capt q.1 q.2.1 q.2.2.1 q.2.2.2
 have hK:∀q,(Xf q).K=X.K:=fun _=>rfl
 have hne:Nonempty (ak×aq×Hp×List ak):=⟨(0,X.s₀,X.H₀,[])⟩;obtain⟨gg,pg,hgg⟩:=DG.uni (Xf:=Xf) hK fun q=>hg q.1 q.2.1 q.2.2.1 q.2.2.2
 obtain⟨gt,pt,hgt⟩:=DTs.uni (Xf:=Xf) hK fun q=>ht q.1 q.2.1 q.2.2.1 q.2.2.2
 obtain⟨ge,pe,hge⟩:=DE.uni (Xf:=Xf) hK fun q=>he q.1 q.2.1 q.2.2.1 q.2.2.2
 refine⟨wi,gg,gt,ge,pi,(fun C s₀ H₀ u=>pg (C,s₀,H₀,u)),(fun C s₀ H₀ u=>pt (C,s₀,H₀,u)),(fun C s₀ H₀ u=>pe (C,s₀,H₀,u)),fun C N σ H n Q R St hd hq=>?_⟩
 refine hi C N σ H n _ _ St hd fun ts n1 J H1 r e1 hn it=>fun D G=>?_
 have St1:=St.on e1 hn;have hD:H D=none:=VH e1 hn G;have Z:C.hd≠some D:=fun z=>St.dom (.inl (St.hx D z)) hD
 refine zmk (n:=ts.length) (fun i ys S=>∃y n2,JN g tt te (Jz own.length capt N) (ts.drop i) y n2 R/\Reps X.K C.hd (fun a=>Own C N σ a\/a=D) S ys y/\ExtE C.hd H1 S/\Hn C.hd S n2)
  ⟨[],n1,by simpa using r,.nil,ExtE.new G,hn.same (JQ G)⟩ ?_ ?_
 ·rintro i ys S hlt hy ⟨y,n2,c2,r2,e2,L⟩;have et:ts[i]?=some ts[i]:=au hlt;rw[bE hlt]at c2;have Y:=it (fun a=>Own C N σ a\/a=D) S (fun a o I nh=>e2 a o I nh) (fun a o I no z=>z.elim no fun z=>by subst z;rw[G]at I;cases I) (fun a z=>z.elim (fun z=>(St1.on e2 L).dom z) fun z=>by subst z;rw[hy];exact fun z=>by cases z)
  obtain⟨go,yl⟩:=Y.1 i _ et;refine⟨go,fun x H3 hyd=>?_⟩
  obtain⟨sm,rx⟩:=yl x H3 hyd;have hn3:=L.same sm;have e3:ExtE C.hd H1 H3:=e2.trans sm.ext;obtain⟨I3,no3⟩:=zjv (own:=own) (capt:=capt) (D:=D) (ys:=ys) St (e1.trans e3) hn3 hD (sm _ _ hy);have rx':Rep X.K C.hd (Own ⟨C.hd,fun a=>Own C N σ a\/a=D⟩ (Jz own.length capt N) (Jw own++capS capt σ)) H3 x ts[i]:=rx.mono (fun a o _ z=>z.elim id fun z=>absurd z (no3 a)) fun _ _ _ z=>z
  refine hgg ⟨C.hd,fun a=>Own C N σ a\/a=D⟩ (Jz own.length capt N) (Jw own++capS capt σ) H3 n2 x ts[i] _ _ I3 rx' c2 fun ρ4 σ4 r4 S4 k4 hj hl=>⟨Wk.of hl.symm fun j v ej=>zof hin hj ej,?_⟩
  ·refine hgt _ ρ4 σ4 H3 n2 _ _ S4 r4 fun b n5 H5 r5 U hn5=>?_
   have S5:=S4.on U hn5;have hy5:H5 D=some (.lst ys):=U D _ (sm _ _ hy) Z;have r25:∀{H6},ExtE C.hd S H6->Reps X.K C.hd (fun a=>Own C N σ a\/a=D) H6 ys y:=fun e=>r2.mono (fun _ _ _ z=>z) fun a o no I=>e a o I fun z=>no (.inl (.inl (St.hx a z)))
   cases b with
   | false =>
    refine iteF ⟨ys,hy5,y,n5,by simpa using r5,r25 ((Same.ext sm).trans U),e3.trans U,hn5⟩
   | true =>
    refine iteT (hge _ ρ4 σ4 H5 n5 _ _ S5 (by simpa using r5) fun t n6 v H6 r6 e6 hn6 q6=>?_)
    have hy6:H6 D=some (.lst ys):=e6 D _ hy5 Z;have rl:=(r25 ((Same.ext sm).trans (U.trans e6))).length;refine⟨ys,hy6,by rw[rl];exact r6.1,y++[t],n6,r6.2,?_,?_,?_⟩
    ·have q6':Rep X.K C.hd (fun a=>Own C N σ a\/a=D) H6 v t:=q6.mono (fun _ _ _ z=>.inl z) fun _ _ _ z=>z
     have all:=(r25 ((Same.ext sm).trans (U.trans e6))).append (Reps.cons q6' .nil);exact all.mono (fun _ _ _ z=>z) fun a o no I=>by rw[Jn (show a≠D from fun z=>no (.inr z))];exact I
    ·exact ExtE.updR G (e3.trans (U.trans e6))
    ·exact Hn.updR Z hn6
 ·rintro ys S hy ⟨y,n2,c2,r2,e2,L⟩;rw[ic]at c2;have Y:=it (fun a=>Own C N σ a\/a=D) S (fun a o I nh=>e2 a o I nh) (fun a o I no z=>z.elim no fun z=>by subst z;rw[G]at I;cases I) (fun a z=>z.elim (fun z=>(St1.on e2 L).dom z) fun z=>by subst z;rw[hy];exact fun z=>by cases z)
  exact⟨Y.2,hq y n2 D ys S c2 (e1.trans e2) L hD hy r2⟩
theorem zl5(hc:X.calm=true)(S:JG scope own capt X)(hi:DIL X tg iter di)
  (y:∀C s₀ H₀ l,DG (Jf X scope own capt C s₀ H₀ l) tg is g) (u:∀i∈is,i<own.length) (G:∀C s₀ H₀ l,DTs (Jf X scope own capt C s₀ H₀ l) ifs tt) (v:∀C s₀ H₀ l,DE (Jf X scope own capt C s₀ H₀ l) elt te)
  (J:∀x,foldedSetIterable iter X.env x=pure x:=by intro _;rfl):DN X (.ListComp elt [⟨tg,iter,ifs,0⟩] scope pos) (dComp own.length capt di g tt te):=by
 obtain⟨N,R,gt,ge,a,b,c,d,I⟩:=zhA hi y u G v;exact⟨_,znj hc S a b c d J,I⟩
def DNA(X:Cx)(x:Str)(l:Pos)(e:aX)(pos:Pos)(i:Nat)(d:DTA):Prop:=∃te,PS X (.Assign [.Name x l] e pos) (tAsg te (YS i))/\zt9 X.K te d
theorem ZC{x:Str}{u J:Pos}{i:Nat}(U:X.N.Nodup)(G:X.N[i]?=some x)(hx:Loc X.env.scope x)(hc:X.calm=true)(S:JG scope own capt X)(hi:DIL X tg iter di)
  (Y:∀C s₀ H₀ v,DG (Jf X scope own capt C s₀ H₀ v) tg is g) (y:∀i∈is,i<own.length) (Z:∀C s₀ H₀ v,DTs (Jf X scope own capt C s₀ H₀ v) ifs tt) (R:∀C s₀ H₀ v,DE (Jf X scope own capt C s₀ H₀ v) elt te)
  (hs:∀x,foldedSetIterable iter X.env x=pure x:=by intro _;rfl) (I:swapsWith (.ListComp elt [⟨tg,iter,ifs,0⟩] scope pos) (some (.Name x u)) J.line X.env=pure true:=by rfl)
  (hf:X.fn x=true\/X.env.scope.names.lookup x=some .local:=by walk_at "F") :
  DNA X x u (.ListComp elt [⟨tg,iter,ifs,0⟩] scope pos) J i (dComp own.length capt di g tt te):=by
 obtain⟨wi,gg,gt,ge,a,b,c,d,sp⟩:=zhA hi Y y Z R;exact⟨_,zkJ hc S a b c d U G hx hs I hf,sp⟩
theorem zql{x:Str}{l v:Pos}{e:aX}{i:Nat}{d:DTA}(h:DNA X x l e v i d):DS X (.Assign [.Name x l] e v) (sOwn i d):=by
 obtain⟨Y,pa,h⟩:=h;refine⟨_,pa,fun C I σ H n D U S hd g=>?_⟩
 refine h C I σ H n _ _ S hd fun ts R p Z J r G L y u q=>?_
 exact g.nx _ _ J R r (S.putOwn G L y u q) (zez G y)
theorem VF{x:Str}{v y:Pos}{e:aX}{i:Nat}{d:DTA}(h:DNA X x v e y i d):DS X (.Assign [.Name x v] e y) (sSet i (dNew d)):=by
 obtain⟨ta,pa,h⟩:=h;refine⟨_,pa,fun C J σ H n D D' S hd g=>?_⟩
 refine h C J σ H n _ _ S hd fun ts Z p vs L r G U R Y I=>?_
 exact g.nx _ _ L Z r ((S.on G U).put (.lst Y (S.free R|> fun z=>z) (I.mono (fun _ _ _ z=>.inl z) fun _ _ _ z=>z))) (G.keep.trans Qw)
end
def Vl(K:qF):Sp:=fun u H Q _=>∃(a:ak) (ns:List Int) (k:Int),u=[.ref a,.int k]/\SqL K H a (ns.map V.int)/\ns.length<=63/\0<=k/\k<=100 /\
 ∀hd l,H hd=none->Vh l hd 0->Same H l->Q (.ref hd) l
def zt8(hd:ak)(H l:Hp):Prop:=∀b o,H b=some o->b≠hd->l b=some o
def zok:Sp:=fun l H Q _=>∃(hd:ak) (many n:Int),l=[.ref hd,.int many]/\Vh H hd n/\n<=1000000000000/\0<many/\many<2 ^ 128 /\
 ∀(r:Int) H',0<=r->r<many->Vh H' hd (n+1)->zt8 hd H H'->Q (.int r) H'
def UY:GD:=fun ts n R=>match ts with
 | [h,.int many]=>h=HAND/\0<many/\many<2 ^ 128/\n<=1000000000000/\∀r:Int,0<=r->r<many->R (.int r) (n+1)
 | _=>False
theorem zmY{K:qF}(x:List V)(H:Hp)(Q:VK)(E:XK)(h:spD K 2 UY x H Q E):zok x H Q E:=by
 obtain⟨hd,O,ts,n,R,r,I,dom,hx,Z,g,y⟩:=h;unfold UY at g;split at g
 ·rename_i u many;obtain⟨rfl,m0,m1,U,g⟩:=g;cases r with
  | cons J r =>
   cases r with
   | cons L r =>
    cases r;obtain⟨a,rfl,l⟩:=J.handI;rw[L.intI];refine⟨a,many,n,rfl,I a l,by omega,m0,m1,fun q G C S u Y=>?_⟩
    refine y _ (n+1) _ G (g q C S) (fun b o N nb=>Y b o N fun z=>nb (by rw[l,z])) (fun b v=>?_) (.int _)
    rw[l]at v;cases v;exact u
 ·exact g.elim
def zrf:Option (Option Cell)->(List af->Prop)->Prop
 | some (some (.val (.dict [(.none,.list ts)]))),R=>R ts
 | _,_=>False
def JJ(u:En):En:=match (u[(0:Nat)]?:Option (Option Cell)) with
 | some (some (.val (.dict [(.none,.list ts)])))=>some (.val (.dict [(.none,.list ts)]))::bX (u.length - 1) none
 | _=>bX u.length none
def intOf:Option (Option Cell)->(Int->Prop)->Prop
 | some (some (.val (.int k))),R=>R k
 | _,_=>False
def U8(i j:Nat)(u:DTS):DTS:=fun D y n=>zrf y[0]? fun ts=>intOf y[j]? fun k=>(∃ns:List Int,ts=ns.map b5/\ns.length<=63)/\0<=k/\k<=100 /\
 u { nx:=fun x _=>D.nx (JJ x) n,rt:=fun t _=>∃b,t=.bool b/\D.rt t n,bk:=fun x _=>D.bk (JJ x) n,ct:=fun x _=>D.ct (JJ x) n } (((JJ y).set j (some (.val (.int k)))).set i (some (.val HAND))) 0
theorem U3(h:(JJ ρ)[i]?=some (some c)):i=0/\ρ[0]?=some (some c)/\∃ts,c=.val (.dict [(.none,.list ts)]):=by
 unfold JJ at h;split at h
 ·rename_i ts e;cases i with
  | zero=>simp at h;subst h;exact⟨rfl,e,ts,rfl⟩
  | succ i =>
   rw[dX,dS]at h;split at h <;> cases h
 ·rw[dS]at h;split at h <;> cases h
theorem zn3:(JJ ρ).length=ρ.length:=by
 unfold JJ;split
 ·rename_i ts e;cases ρ with
  | nil=>simp at e
  | cons a r=>simp
 ·simp
theorem zf7:¬OwnS (JJ ρ) σ a:=fun⟨i,ds,m,h,_⟩=>by
 obtain⟨_,_,ts,e⟩:=U3 h;subst e;cases m
theorem Rep.scrHd{K:qF}{hd G:Option ak}{O J:ak->Prop}{H I:Hp}{v:V}{ts:qD}(h:Rep K hd O H v (.dict [(.none,.list ts)]))(C:∀a o,H a=some o->¬O a->I a=some o/\¬J a):Rep K G J I v (.dict [(.none,.list ts)])/\∃ns:List Int,ts=ns.map b5:=by
 generalize e:(vg [(lW,vh ts)])=t at h;cases h with
 | @scr a ns x o =>
  have y:ts=ns.map b5:=by simpa[SCR] using e
  subst y;refine⟨?_,ns,rfl⟩;rcases x with x|⟨u,x⟩
  ·exact .scr (.inl (C a _ x o).1) (C a _ x o).2
  ·exact .scr (.inr ⟨u,(C a _ x o).1⟩) (C a _ x o).2
 | @scrS a ns x =>
  have y:ts=ns.map b5:=by simpa[SCR] using e
  subst y;exact⟨.scrS x,ns,rfl⟩
 | hand _=>simp[HAND]at e
 | dct _ _=>cases e
 | dcK _ _ _ y=>cases e;exact(dict_noK y).elim
 | dcT _ _ _ y=>cases e;exact(dict_noT y).elim
 | _=>cases e
theorem Stt.drop{K:qF}{C x:Ctx}{u:En}{σ:St}{H l:Hp}{n I:Nat}(S:Stt K x u σ H n)(Y:Hn C.hd l I)(J:∀a,C.ext a->MutO (l a))(hx:∀a,C.hd=some a->C.ext a)
  (y:∀a o,H a=some o->¬Own x u σ a->l a=some o/\¬C.ext a):Stt K C (JJ u) σ l I where
 len:=by rw[zn3];exact S.len
 val:=fun i d h=>by
  obtain⟨rfl,R,ts,U⟩:=U3 h;cases U;obtain⟨v,N,L⟩:=S.val 0 _ R;exact⟨v,N,(L.scrHd fun a o G no=>⟨(y a o G no).1,fun z=>z.elim (y a o G no).2 zf7⟩).1⟩
 own:=fun i ds h=>by
  obtain⟨_,_,ts,e⟩:=U3 h;cases e
 dct:=fun i ds h=>by
  obtain⟨_,_,ts,e⟩:=U3 h;cases e
 rdo:=fun i ds h=>by
  obtain⟨_,_,ts,e⟩:=U3 h;cases e
 dtt:=fun i ds h=>by
  obtain⟨_,_,ts,e⟩:=U3 h;cases e
 dif:=fun i j ds Z a m _ h=>by
  obtain⟨_,_,ts,e⟩:=U3 h;subst e;cases m
 hnd:=Y
 ext:=J
 hx:=hx
section
variable{X:Cx}{st:dG}{sts:List dG}{ps:List Str}{f:ak}{fd:cT}{u:DTS}{x s kx hx:Str}{pos pos' p p1 p2 p3:Pos}{k:Nat}
theorem zn1{i j:Nat}(D:Bd.Def X.K X.mg hx st ps f fd)(G:FnOk X.prog X.w X.K X.mg X.base CX0 k f fd ps (Vl X.K))(hr:Room k X.A)(hN:X.N.Nodup)(hi:X.N[i]?=some x)(hlx:Loc X.env.scope x)(hu:DSs X sts u)(hij:i≠0:=by decide)(hj0:j≠0:=by decide)(hji:j≠i:=by decide)
  (h0:X.N[0]?=some s:=by rfl) (hj:X.N[j]?=some kx:=by rfl) (hv0:Vis X.env.scope s:=by walk_at "V") (hvj:Vis X.env.scope kx:=by walk_at "V")
  (hd0:(s == ("__debug__":Str))=false:=by rfl) (Kn:(s == ("__classdict__":Str))=false:=by rfl) (hdj:(kx == ("__debug__":Str))=false:=by rfl) (Ko:(kx == ("__classdict__":Str))=false:=by rfl) (hg:Gl X hx:=by rfl) (hdb:(hx == ("__debug__":Str))=false:=by rfl)
  (hs:swapsWith (.Call (.Name hx p) [.Name s p1,.Name kx p2] [] p3) (some (.Name x pos')) pos.line X.env=pure false:=by rfl) (hf:X.fn x=true\/X.env.scope.names.lookup x=some .local:=by walk_at "F") :
  DSs X (.Assign [.Name x pos'] (.Call (.Name hx p) [.Name s p1,.Name kx p2] [] p3) pos::sts) (U8 i j u):=by
 obtain⟨tu,pu,hu⟩:=hu;refine⟨_,Qx (Qz hN hi hlx (Bd.zpc D G hr (Qi (QW h0 hv0 hd0 Kn) (Qi (QW hj hvj hdj Ko) QD rfl) rfl) hg hdb) hs hf) pu,fun C ρ σ H n Dn D' S hd g=>?_⟩
 unfold U8 zrf at hd;split at hd
 ·rename_i ts e0;unfold intOf at hd;split at hd
  ·rename_i U ej;obtain⟨⟨ns,rfl,hl⟩,k0,k1,hd⟩:=hd;obtain⟨v0,s0,r0⟩:=S.val 0 _ e0;obtain⟨vj,sj,rj⟩:=S.val j _ ej;obtain⟨a0,rfl,sq0⟩:=r0.scrI;rw[rj.intI]at sj;refine⟨_,s0,_,sj,?_⟩;refine⟨a0,ns,U,rfl,sq0,hl,k0,k1,fun h H1 Z hok Y=>?_⟩
   have S1:=S.on (Same.ext Y:ExtE C.hd H H1) (S.hnd.same Y);have nx:¬Own C ρ σ h:=fun z=>S.dom z Z
   have Sd:Stt X.K ⟨some h,fun a=>C.ext a\/a=h⟩ (JJ ρ) σ H1 0:=S.drop (fun a ea=>by cases ea;exact hok) (fun a z=>z.elim (fun z=>S1.ext a z) fun z=>by subst z;obtain⟨_,_,_,q,_⟩:=hok;exact .inl ⟨_,q⟩) (fun a ea=>.inr (by cases ea;rfl))
    (fun a o J no=>⟨Y a o J,fun z=>z.elim (fun z=>no (.inl z)) fun z=>by subst z;rw[Z]at J;cases J⟩)
   have Sd2:=(Sd.put (i:=j) (t:=.int U) (v:=.int U) (.int U)).put (i:=i) (t:=HAND) (v:=.ref h) (.hand rfl);have Kp:∀a,¬OwnS (((JJ ρ).set j (some (.val (.int U)))).set i (some (.val HAND))) ((σ.set j (some (.int U))).set i (some (.ref h))) a:=fun a z=>zf7 (VQ (VQ z))
   have es:(σ.set j (some (V.int U)))=σ:=by
    apply nM
    intro q
    by_cases z:j=q
    ·subst z;have:j<σ.length:=by
      rcases cg j σ.length with w|w
      ·exact w
      ·rw[cw w]at sj;cases sj
     rw[zku this,sj]
    ·rw[aV z]
   rw[es]at Sd2 Kp;refine hu _ _ _ H1 0 _ _ Sd2 hd ?_;have back:∀{y σ' I n'},Stt X.K ⟨some h,fun a=>C.ext a\/a=h⟩ y σ' I n'->(∀a o,H1 a=some o->some h≠some a->I a=some o)->Stt X.K C (JJ y) σ' I n:=fun {y σ' I n'} S' kp =>
    S'.drop (fun a ea=>by
      obtain⟨d,m,t,q,rest⟩:=S.hnd a ea;exact⟨d,m,t,kp a _ (Y _ _ q) (fun z=>by cases z;rw[Z]at q;cases q),rest⟩)
     (fun a z=>by
      rcases S.ext a z with⟨xs,q⟩|⟨xs,q⟩|⟨b,xs,ep,q⟩
      ·exact .inl ⟨xs,kp a _ (Y _ _ q) (fun z=>by cases z;rw[Z]at q;cases q)⟩
      ·exact .inr (.inl ⟨xs,kp a _ (Y _ _ q) (fun z=>by cases z;rw[Z]at q;cases q)⟩)
      ·exact .inr (.inr ⟨b,xs,ep,kp a _ (Y _ _ q) (fun z=>by cases z;rw[Z]at q;cases q)⟩)) S.hx (fun a o J no=>⟨J,fun z=>no (.inl (.inl z))⟩)
   have R:∀{y σ' I},Keep ⟨some h,fun a=>C.ext a\/a=h⟩ (((JJ ρ).set j (some (.val (.int U)))).set i (some (.val HAND))) (σ.set i (some (.ref h))) H1 y σ' I->∀a o,H1 a=some o->some h≠some a->I a=some o:=fun k a o J na=>(k a o J na (Kp a)).1
   have kp2:∀{y σ' I},Keep ⟨some h,fun a=>C.ext a\/a=h⟩ (((JJ ρ).set j (some (.val (.int U)))).set i (some (.val HAND))) (σ.set i (some (.ref h))) H1 y σ' I->Keep C ρ σ H (JJ y) σ' I:=fun k a o J _ _=>⟨R k a o (Y a o J) (fun z=>by cases z;rw[Z]at J;cases J),zf7⟩
   refine⟨fun y σ' I n' h' S' L=>g.nx _ _ I n h' (back S' (R L)) (kp2 L),fun t n' v I h' hn' L rp=>?_,fun y σ' I n' h' S' L=>g.bk _ _ I n h' (back S' (R L)) (kp2 L),fun y σ' I n' h' S' L=>g.ct _ _ I n h' (back S' (R L)) (kp2 L),fun _ _ _ h=>h.elim⟩
   obtain⟨b,rfl,h'⟩:=h';rw[rp.blI];have kq:∀a o,H a=some o->I a=some o:=fun a o J=>L a o (Y a o J) (fun z=>by cases z;rw[Z]at J;cases J) (Kp a)
   refine g.rt _ n _ I h' (fun a ea=>?_) (fun a o J _ _=>kq a o J) (.bl b)
   obtain⟨d,m,t,q,rest⟩:=S.hnd a ea;exact⟨d,m,t,kq a _ q,rest⟩
  ·exact hd.elim
 ·exact hd.elim
end
def zoT(K:qF):Sp:=fun v H Q _=>∃(a:ak) (ns:List Int),v=[.ref a]/\SqL K H a (ns.map V.int)/\ns.length<=63/\∀u,Q (.bl true) u
def ztD:GD:=fun ts n R=>∃ns:List Int,ts=[SCR ns]/\ns.length<=63/\∀u,R (.bool true) u
theorem zpO{K:qF}(u:List V)(H:Hp)(Q:VK)(E:XK)(h:zoT K u H Q E):spD K 1 ztD u H Q E:=by
 obtain⟨a,ns,rfl,sq,x,q⟩:=h;refine⟨none,fun _=>False,[SCR ns],0,fun t _=>t=.bool true,.cons ?_ .nil,(fun a e=>by cases e),(fun a z=>z.elim),(fun a e=>by cases e),rfl,⟨ns,rfl,x,fun _=>rfl⟩,fun t I v y G _ _ C=>?_⟩
 ·rcases sq with sq|sq
  ·exact .scr sq (fun z=>z)
  ·exact .scrS fun _=>.inr sq
 ·subst G;rw[C.blI];exact q y
section
variable{env:Env}{es:List aX}{a b:aX}{l1 l2:List aX}{p:Pos}{x:Str}
theorem Jq:starEach (.Name x p::es) env=(false,eval (.Name x p) env)::starEach es env:=rfl
theorem Y9{j}:starEach (.Constant (.int i) j p::es) env=(false,eval (.Constant (.int i) j p) env)::starEach es env:=rfl
theorem U0{c d}:starEach (.Call a l1 c d::es) env=(false,eval (.Call a l1 c d) env)::starEach es env:=rfl
theorem UZ{o}:starEach (.BinOp a o b p::es) env=(false,eval (.BinOp a o b p) env)::starEach es env:=rfl
theorem Vm:starEach (.Subscript a b p::es) env=(false,eval (.Subscript a b p) env)::starEach es env:=rfl
theorem ZF{g s}:starEach (.ListComp a g s p::es) env=(false,eval (.ListComp a g s p) env)::starEach es env:=rfl
end
section
variable{X:Cx}{a b c e:aX}{da db dc:DTE}{pos p:Pos}{r r':R2}{g g':G2}
theorem zn0(ho:OpR X (compareOp op) r)(hg:Gp2 X r g)(Y:OpR X (compareOp op') r')(L:Gp2 X r' g')(ha:DL X a da)(hb:DL X b db)(hc:DL X c dc)
  (hm:lastMarks [op,op'] [b,c]=false:=by with_unfolding_all rfl):DT X (.Compare a [op,op'] [b,c] pos) (QY (Ye g g' da db dc)):=by
 obtain⟨ta,pa,ha⟩:=ha;obtain⟨tb,pb,hb⟩:=hb;obtain⟨tc,pc,hc⟩:=hc;refine⟨_,znf ho Y pa pb pc hm,fun C U σ H n Q R S h hq=>?_⟩
 refine two ha hb S h fun x y n2 v w H2 r2 e S2 q1 q2=>?_
 refine hg C.hd (Own C U σ) H2 v w x y _ _ (fun p=>S2.dom) q1 q2 r2 fun z u I l J Z=>?_
 have S3:=S2.on J.ext (S2.hnd.same J);cases z with
 | bool k =>
  cases Z;refine⟨k,rfl,?_⟩;cases k with
  | false=>exact iteF ⟨false,rfl,hq _ n2 I l (e.trans J.ext) S3.hnd⟩
  | true =>
   refine iteT (hc C U σ I n2 _ _ S3 l fun z2 n3 w2 H4 r4 e4 h4 q4=>?_)
   have S4:=S3.on e4 h4;have N:=e4.repT S.hx ((Same.ext J:ExtE C.hd H2 I).repT S.hx q2);refine L C.hd (Own C U σ) H4 w w2 y z2 _ _ (fun p=>S4.dom) N q4 r4 fun z u I l G Z=>?_
   cases z with
   | bool k=>cases Z;exact⟨k,rfl,hq _ n3 I l (((e.trans J.ext).trans e4).trans G.ext) (S4.hnd.same G)⟩
   | _=>exact l.elim
 | _=>exact l.elim
def zo0(K:qF):V->List V->Hp->VK->Prop:=fun x xs H Q=>∃(l:ak) (bs:List Bool) (k:Bool),x=.ref l/\xs=[.bl k]/\SqL K H l (bs.map V.bl)/\Q (.int (countIn (.bool k) (bs.map cK))) H
theorem zeb:∀{h:aY}{bs:List Bool}{u:List ah},Vals (bs.map V.bl) u->pN h u (bs.map cK) []
 | _,[],_,r=>by cases r;exact .nil
 | _,b::bs,_,r=>by
  cases r with
  | cons v x =>
   cases(show _=eK b from v)
   exact .cons (.bool b) (zeb x)
theorem zlc:MtR X "list.count" (zo0 X.K):=by
 intro pins s σ H x xs v R Q I L rs h;obtain⟨l,bs,k,rfl,rfl,u,q⟩:=h;cases L;cases rs with
 | cons C G =>
  cases G;cases(show _=eK k from C)
  obtain⟨y,J,p,_⟩:=I.list u;exact count_list_bools p.isList (zeb (h:=s.heap) J) (by induction bs with|nil=>rfl|cons b bs N=>simp[Shape.has]) ⟨.int _,H,I.tok _,⟨_,rfl⟩,q⟩
def Y5(k:Bool)(d:DTE):DTE:=fun v n R=>d v n fun t u=>match t with|.list ts=>∃bs:List Bool,ts=bs.map cK/\R (.int (countIn (.bool k) (bs.map cK))) u|_=>False
theorem zn9{k:Bool}{j}{L p2 y:Pos}(h:DL X a da)(N:attributeBase a "count" X.env (eval a X.env)=eval a X.env:=by rfl) (G:(p2.endLine == y.line)=true:=by rfl):DE X (.Call (.Attribute a "count" p2) [.Constant (.bool k) j L] [] y) (Y5 k da):=by
 obtain⟨ta,pa,h⟩:=h;refine⟨_,zpf gQ PySem.F.slot_list_count PySem.F.type_list_count zlc pa (Ub zph US rfl) N rfl G rfl rfl,fun C J σ H n Q R S hd I=>?_⟩
 refine h C J σ H n _ _ S hd fun t Z v H1 r e1 U q1=>?_
 cases t with
 | list ts =>
  obtain⟨bs,rfl,r⟩:=r;obtain⟨p,vs,rfl,x,Y⟩:=q1.lstI;rw[V6 Y]at x;exact⟨.inl ⟨rfl,_,SqL.of x⟩,p,bs,k,rfl,rfl,.of x,I _ Z _ H1 r e1 U (.int _)⟩
 | _=>exact r.elim
end
section
variable{C:Int->Int->Prop}{f:Int->Int->Int}{fb:Int->Int->Bool}{i j k:Int}{R:af->Prop}{Rb:Bool->Prop}{xs ys:qD}{s t:Str}{a b:Bool}{u v:af}
theorem l_gI:gI C f (.int i) (.int j) R=(C i j/\R (.int (f i j))):=propext aU
theorem Z4:gI0 f (.int i) (.int j) R=R (.int (f i j)):=propext aU
theorem Zm:oAdd (.int i) (.int j) R=R (.int (i+j)):=propext aU
theorem Zn:oAdd (.str s) (.str t) R=(s.length+t.length<=16777216/\R (.str (s++t))):=propext aU
theorem YW:oEq (.int i) (.int j) R=R (.bool (decide (i=j))):=propext aU
theorem YY:oEq (.str s) (.str t) R=R (.bool (decide (s=t))):=propext aU
theorem YZ:oEq (.tuple xs) (.tuple ys) R=(Okd (.tuple xs)/\Okd (.tuple ys)/\R (.bool (cM (.tuple xs) (.tuple ys)))):=propext aU
theorem YX:oEq (.list xs) (.list ys) R=(Okd (.list xs)/\Okd (.list ys)/\R (.bool (cM (.list xs) (.list ys)))):=propext aU
theorem YM:oNe (.int i) (.int j) R=R (.bool (!decide (i=j))):=propext aU
theorem YO:oNe (.str s) (.str t) R=R (.bool (!decide (s=t))):=propext aU
theorem YN:oNe (.list xs) (.list ys) R=(Okd (.list xs)/\Okd (.list ys)/\R (.bool (!PyData.eqv (.list xs) (.list ys)))):=propext aU
theorem YF:oIs u .none R=R (.bool (isNone u)):=by cases u <;> exact propext aU
theorem Zw:oIsN u .none R=R (.bool (!isNone u)):=by cases u <;> exact propext aU
theorem ZQ:Zh u (.tuple xs) R=(Okd u/\(∀t∈xs,Okd t)/\R (.bool (!xs.any fun t=>t.eqv u))):=by cases u <;> exact propext aU
theorem YJ:oLtA (.int i) (.int j) R=R (.bool (decide (i<j))):=propext aU
theorem YH:oLeA (.int i) (.int j) R=R (.bool (decide (i<=j))):=propext aU
theorem YI:oLeA (.str s) (.str t) R=R (.bool (!decide (t.cps.toList<s.cps.toList))):=propext aU
theorem Yd(h:atI xs i=some x):oIx (.list xs) (.int i) R=R x:=by show(match atI xs i with|some t=>R t|none=>False)=_;rw[h]
theorem YG(h:atI xs i=some x):oIx (.tuple xs) (.int i) R=R x:=by show(match atI xs i with|some t=>R t|none=>False)=_;rw[h]
theorem Zq:oIx (.tuple (u::xs)) (.int 0) R=R u:=YG (by unfold atI ixN;simp)
theorem Zr:oIx (.tuple (u::v::xs)) (.int 1) R=R v:=YG (by unfold atI ixN;simp;rw[if_pos (by omega)];rfl)
theorem Zs:oIx (.tuple (u::v::w::xs)) (.int 2) R=R w:=YG (by unfold atI ixN;simp;rw[if_pos (by omega)];rfl)
theorem Zo:oIx (.list (u::xs)) (.int 0) R=R u:=Yd (by unfold atI ixN;simp)
theorem Zp:oIx (.list (u::v::xs)) (.int 1) R=R v:=Yd (by unfold atI ixN;simp;rw[if_pos (by omega)];rfl)
theorem Zu:truD (.bool a) Rb=Rb a:=propext aU
theorem Zv:truD (.list xs) Rb=Rb (!xs.isEmpty):=propext aU
theorem YV:bolD (.bool a) Rb=Rb a:=propext aU
theorem YL:bMin [.int i,.int j] R=R (.int (if j<i then j else i)):=propext aU
theorem YK:bMax [.int i,.int j] R=R (.int (if j > i then j else i)):=propext aU
theorem ZR:Y8 [.list xs] R=R (.tuple xs):=propext aU
theorem Zt:YB [u] R=(Shd u/\R (.str u.shown)):=propext aU
theorem Zx:JX (.list xs) Rl=Rl xs:=propext aU
theorem ZP:JX (.tuple xs) Rl=Rl xs:=propext aU
theorem zsH(y:String)(h:y∈["NoneType","bool","int","str","list","tuple","dict"]):kitB y "int" = some (decide (y = "int")||decide (y = "bool")):=by
 simp only[aA,aQ,or_false]at h;rcases h with rfl|rfl|rfl|rfl|rfl|rfl|rfl <;> decide +kernel
theorem zpQ(y:String)(h:y∈["NoneType","bool","int","str","list","tuple","dict"]):kitB y "bool" = some (decide (y = "bool")):=by
 simp only[aA,aQ,or_false]at h;rcases h with rfl|rfl|rfl|rfl|rfl|rfl|rfl <;> decide +kernel
theorem znF(y:String)(h:y∈["NoneType","bool","int","str","list","tuple","dict"]):kitB y "tuple" = some (decide (y = "tuple")):=by
 simp only[aA,aQ,or_false]at h;rcases h with rfl|rfl|rfl|rfl|rfl|rfl|rfl <;> decide +kernel
theorem zsG(y:String)(h:y∈["NoneType","bool","int","str","list","tuple","dict"]):kitB y "str" = some (decide (y = "str")):=by
 simp only[aA,aQ,or_false]at h;rcases h with rfl|rfl|rfl|rfl|rfl|rfl|rfl <;> decide +kernel
def Pln(t:af):Prop:=tyN t≠none
def isInt:af->Bool|.int _=>true|.bool _=>true|_=>false
def isBool:af->Bool|.bool _=>true|_=>false
def isTup:af->Bool|.tuple _=>true|_=>false
def isStr:af->Bool|.str _=>true|_=>false
variable{d:DTE}{ρ:En}{n:Nat}{Rn:qN}
theorem VD(h:tyN u=some y):y∈["NoneType","bool","int","str","list","tuple","dict"]:=by
 unfold tyN at h;split at h <;> cases h <;> simp
def isiD(f:af->Bool)(d:DTE):DTE:=fun ρ n R=>d ρ n fun t x=>Pln t/\R (.bool (f t)) x
end
section
variable{X:Cx}{e:aX}{d:DTE}{p p2 pos:Pos}
theorem Yl(Y:∀t y,tyN t=some y->kitB y T=some (f t))(hm:X.mg "isinstance" = none) (x:X.mg y=none) (Z:bootBuiltins y=some (.type T)) (h:DL X e d) (hs:starEach (e::[.Name y p2]) X.env=(false,eval e X.env)::starEach [.Name y p2] X.env) (L:Gl X "isinstance":=by rfl) (u:Gl X y:=by rfl) (hn:y ≠ "__name__":=by decide) (hd:(y == ("__debug__":Str))=false:=by rfl) :
  DE X (.Call (.Name "isinstance" p) [e,.Name y p2] [] pos) (isiD f d):=by
 obtain⟨ta,pa,h⟩:=h;refine⟨_,Ui zmo hm VX (Qi pa (zh0 (Bd.zrR x Z u hn hd) QD) hs) L,fun C G σ H n Q R S hd J=>?_⟩
 refine h C G σ H n _ _ S hd fun t n1 v H1 I e1 U q1=>?_
 cases et:tyN t with
 | none=>exact absurd et I.1
 | some z=>exact⟨v,C.hd,Own C G σ,t,T,z,f t,rfl,q1,et,Y t z et,J _ n1 _ H1 I.2 e1 U (.bl _)⟩
theorem ztw:∀t y,tyN t=some y->kitB y "int" = some (isInt t):=fun t y e=>by
 rw[zsH y (VD e)];unfold tyN at e;split at e <;> cases e <;> rfl
theorem zqa:∀t y,tyN t=some y->kitB y "bool" = some (isBool t):=fun t y e=>by
 rw[zpQ y (VD e)];unfold tyN at e;split at e <;> cases e <;> rfl
theorem zjh:∀t y,tyN t=some y->kitB y "tuple" = some (isTup t):=fun t y e=>by
 rw[znF y (VD e)];unfold tyN at e;split at e <;> cases e <;> rfl
theorem zoG:∀t y,tyN t=some y->kitB y "str" = some (isStr t):=fun t y e=>by
 rw[zsG y (VD e)];unfold tyN at e;split at e <;> cases e <;> rfl
theorem Uc:Pln (.int i):=by simp[Pln,tyN]
theorem Q9:Pln (.bool i):=by simp[Pln,tyN]
theorem UC:Pln (.str i):=by simp[Pln,tyN]
theorem Uu:Pln (.tuple i):=by simp[Pln,tyN]
theorem Uz:Pln (.list i):=by simp[Pln,tyN]
theorem UA:Pln .none:=by simp[Pln,tyN]
theorem Uy:Pln (.dict []):=by simp[Pln,tyN]
end
abbrev blk(i h:Int):af:=.tuple [.int i,.int h]
theorem Ux:Okd (.tuple [.int i,.int h]):=⟨by simp[bN,bu],by simp[cS,cb]⟩
theorem znX:cM (.tuple [.int i,.int h]) (.tuple [.int j,.int g])=(decide (i=j)&&decide (h=g)):=by
 simp only[cM,e8,gC];rw[lK,lK]
def IsBk(bits i h:Int):Prop:=0<=h/\h<=bits/\∃k:Int,0<=k/\i=k*2 ^ h.toNat/\k<2 ^ (bits - h).toNat
theorem VT(k:Nat):(0:Int)<2 ^ k:=Bd.Qm k
theorem ziT:(2:Int) ^ (a+b)=2 ^ a*2 ^ b:=fV 2 a b
theorem IsBk.bounds(l:0<=bits)(H:IsBk bits i h):0<=i/\i+2 ^ h.toNat<=2 ^ bits.toNat:=by
 obtain⟨h0,u,k,k0,rfl,k1⟩:=H;have p:=VT h.toNat;refine⟨pP k0 (cO p),?_⟩;have e:bits.toNat=(bits - h).toNat+h.toNat:=by lia
 rw[e,ziT];have:(k+1)*2 ^ h.toNat<=2 ^ (bits - h).toNat*2 ^ h.toNat:=dJ (by lia) (cO p)
 rw[eV,bO]at this;exact this
theorem zkK(h:k<=64):(2:Int) ^ k<=18446744073709551616:=by
 have:=Bd.ZS h;simpa using this
theorem IsBk.lt(l:0<=bits)(u:bits<=64)(H:IsBk bits i h):0<=i/\i<18446744073709551616:=by
 obtain⟨a,b⟩:=H.bounds l;have:=zkK (show bits.toNat<=64 by lia)
 have:=VT h.toNat;lia
theorem cpow(h0:0<=j)(l:j<=1000000):CPow 1 j:=⟨h0,l,by decide⟩
section
variable{t u tb:DTS}{D:JP}{ρ ρ0:En}{n i j m:Nat}{d da db dc d1 d2:DTE}{ds di:DTA}{c c' tt:DTT}{g:G2}{g':G2}{gc:GC}{gd:GD}{tg:DTG}{tgs:DTGs}{R:qN}{Rb:Bool->Nat->Prop}{Rl:List af->Nat->Prop}{Re:En->Prop}{x y:af}{xs ys acc:qD}{f:Int->Int->Int}{fb:af->Bool}{k:Bool}{capt:List Nat}{h:Option Cell}
theorem Vs:(sSeq t u D ρ n)=(t { D with nx:=u D } ρ n):=propext aU
theorem Vr:(sRet d D ρ n)=(d ρ n fun t l=>D.rt t l):=propext aU
theorem Vt:(sSet i d D ρ n)=(d ρ n fun t C=>D.nx (ρ.set i (some (.val t))) C):=propext aU
theorem u_dC:(dC x ρ n R)=(R x n):=propext aU
theorem Z6:(dOp g da db ρ n R)=(da ρ n fun x v=>db ρ v fun y l=>g x y fun z=>R z l):=propext aU
theorem Vn:(dNew ds ρ n R)=(ds ρ n fun ts v=>R (.list ts) v):=propext aU
theorem Vp:(dTup ds ρ n R)=(ds ρ n fun ts v=>R (.tuple ts) v):=propext aU
theorem Vo:(dNil ρ n Rl)=(Rl [] n):=propext aU
theorem VE:(Qk d ds ρ n Rl)=(d ρ n fun t v=>ds ρ v fun ts l=>Rl (t::ts) l):=propext aU
theorem Z5:(dFn gd ds ρ n R)=(ds ρ n fun ts l=>gd ts l R):=propext aU
theorem VW:(Y4 gc ds ρ n R)=(ds ρ n fun ts l=>gc ts fun z=>R z l):=propext aU
def cVal:Option Cell->(af->Prop)->Prop
 | some (.val d),R=>R d
 | _,_=>False
def cOwn:Option Cell->(List af->Prop)->Prop
 | some (.own d),R=>R d
 | _,_=>False
theorem Vv:cVal (some (.val x)) Q=Q x:=propext aU
theorem Vq:dVar i ρ n R=cVal (ρ.getD i none) fun d=>R d n:=by
 unfold dVar;rw[ba];cases e:ρ[i]? with
 | none=>exact propext aU
 | some o=>cases o with
  | none=>exact propext aU
  | some c=>cases c <;> exact propext aU
theorem ZH:QY d ρ n Rb=(d ρ n fun t l=>bolD t fun b=>Rb b l):=by
 unfold QY;congr 1
 funext t l
 cases t <;> exact propext aU
def lCat:af->af->(List af->Prop)->Prop
 | .list xs,.list ys,R=>xs.length+ys.length<=16777216/\R (xs++ys)
 | _,_,_=>False
theorem Za:dCat da db ρ n Rl=(da ρ n fun x v=>db ρ v fun y l=>lCat x y fun zs=>Rl zs l):=by
 unfold dCat;congr 1
 funext x v
 congr 1
 funext y l
 cases x <;> cases y <;> exact propext aU
def lLst:af->(List af->Prop)->Prop
 | .list xs,R=>R xs
 | _,_=>False
def lTup:af->(List af->Prop)->Prop
 | .tuple xs,R=>R xs
 | _,_=>False
theorem Zb:dItL d ρ n Rl=(d ρ n fun t l=>lLst t fun ts=>Rl ts l):=by
 unfold dItL;congr 1
 funext t l
 cases t <;> exact propext aU
theorem Zc:dItT d ρ n Rl=(d ρ n fun t l=>lTup t fun ts=>Rl ts l):=by
 unfold dItT;congr 1
 funext t l
 cases t <;> exact propext aU
def lInt:af->(Int->Prop)->Prop
 | .int i,R=>R i
 | _,_=>False
theorem ZG:YC d ρ n Rl=(d ρ n fun t l=>lInt t fun j=>(-(2 ^ 62)<=j/\j<2 ^ 62)/\Rl (QL 0 j.toNat) l):=by
 unfold YC;congr 1
 funext t l
 cases t <;> exact propext aU
theorem Zd:dNeg d ρ n R=(d ρ n fun t l=>lInt t fun i=>R (.int (-i)) l):=by
 unfold dNeg;congr 1
 funext t l
 cases t <;> exact propext aU
theorem ZN:Y5 k d ρ n R=(d ρ n fun t v=>lLst t fun ts=>∃bs:List Bool,ts=bs.map cK/\R (.int (countIn (.bool k) (bs.map cK))) v):=by
 unfold Y5;congr 1
 funext t v
 cases t <;> exact propext aU
def YT:List af->(af->af->Prop)->Prop
 | [x,y],R=>R x y
 | _,_=>False
theorem Ze:sPar i j ds D ρ n=(ds ρ n fun ts C=>YT ts fun t u=>D.nx ((ρ.set i (some (.val t))).set j (some (.val u))) C):=by
 unfold sPar;congr 1
 funext ts C
 rcases ts with _|⟨a,_|⟨b,_|⟨c,r⟩⟩⟩ <;> exact propext aU
theorem Y0:sAug i f d D ρ n=cVal (ρ.getD i none) fun v=>lInt v fun q=>d ρ n fun t C=>lInt t fun k=>D.nx (ρ.set i (some (.val (.int (f q k))))) C:=by
 unfold sAug;rw[ba];cases e:ρ[i]? with
 | none=>exact propext aU
 | some o=>cases o with
  | none=>exact propext aU
  | some c=>cases c with
   | own _=>exact propext aU
   | dct _=>exact propext aU
   | dtt _=>exact propext aU
   | rdo _=>exact propext aU
   | val v=>cases v with
    | int q =>
     show(d ρ n fun t C=>_)=(d ρ n fun t C=>_)
     congr 1
     funext t C
     cases t <;> exact propext aU
    | _=>exact propext aU
theorem ZM:Ye g g' da db dc ρ n R=(da ρ n fun x C=>db ρ C fun y v=>g x y fun z=>bolD z fun b=>if b=true then dc ρ v fun w G=>g' y w fun z=>R z G else R (.bool false) v):=by
 unfold Ye;congr 1
 funext x C
 congr 1
 funext y v
 congr 1
 funext z
 cases z with
 | bool b=>cases b <;> simp[bolD]
 | _=>exact propext aU
def UL(ρ:En)(i:Nat)(D:JP)(C:DTE)(t:af)(l:Nat)(ts:qD):Prop:=C ρ l fun j v=>lInt j fun j=>(match ixN ts.length j with|some k=>D.nx (ρ.set i (some (.own (ts.set k t)))) v|none=>False)
theorem Y1:sPut i dj d D ρ n=(d ρ n fun t l=>cOwn (ρ.getD i none) fun xs=>UL ρ i D dj t l xs):=by
 unfold sPut;congr 1
 funext t l
 rw[ba];cases e:ρ[i]? with
 | none=>exact propext aU
 | some o=>cases o with
  | none=>exact propext aU
  | some c=>cases c with
   | val _=>exact propext aU
   | dct _=>exact propext aU
   | dtt _=>exact propext aU
   | rdo _=>exact propext aU
   | own xs =>
    show(dj ρ l fun j v=>_)=UL ρ i D dj t l xs
    unfold UL;congr 1
    funext j v
    cases j <;> exact propext aU
end
section
variable{t u tb:DTS}{D:JP}{ρ ρ0:En}{n i j m:Nat}{d da db dc d1 d2:DTE}{ds di:DTA}{c c' tt:DTT}{g:G2}{g':G2}{gc:GC}{gd:GD}{tg:DTG}{tgs:DTGs}{R:qN}{Rb:Bool->Nat->Prop}{Rl:List af->Nat->Prop}{Re:En->Prop}{x y:af}{xs ys acc:qD}{f:Int->Int->Int}{fb:af->Bool}{k:Bool}{capt:List Nat}
theorem zs7(h:t { D with nx:=u D } ρ n):sSeq t u D ρ n:=h
theorem zp0(h:D.nx ρ n):Z8 D ρ n:=h
theorem zs8(h:d ρ n fun t l=>D.rt t l):sRet d D ρ n:=h
theorem zwa(h:c ρ n fun b l=>if b=true then t D ρ l else u D ρ l):sIf c t u D ρ n:=h
theorem zta(h:d ρ n fun t v=>tg t ρ fun l=>D.nx l v):sAsg d tg D ρ n:=h
theorem zs_(h:di ρ n fun ts l=>forP tg tb D ts ρ l):sFor di tg tb D ρ n:=h
theorem i_dC(h:R x n):dC x ρ n R:=h
theorem zwe(h:da ρ n fun x v=>db ρ v fun y l=>g x y fun z=>R z l):dOp g da db ρ n R:=h
theorem ztn(h:ds ρ n fun ts v=>R (.list ts) v):dNew ds ρ n R:=h
theorem zth(h:ds ρ n fun ts v=>R (.tuple ts) v):dTup ds ρ n R:=h
theorem ztm(h:Rl [] n):dNil ρ n Rl:=h
theorem zp7(h:d ρ n fun t l=>ds ρ l fun ts v=>Rl (t::ts) v):Qk d ds ρ n Rl:=h
theorem zwf(h:ds ρ n fun ts l=>gd ts l R):dFn gd ds ρ n R:=h
theorem zts(h:ds ρ n fun ts v=>gd ts v fun t l=>JV t=true/\R t l):dFnL gd ds ρ n R:=h
theorem znQ(h:ds ρ n fun ts l=>gc ts fun z=>R z l):Y4 gc ds ρ n R:=h
theorem ztu(h:c ρ n fun b l=>if b=true then c' ρ l Rb else Rb false l):dAnd c c' ρ n Rb:=h
theorem zwd(h:c ρ n fun b l=>if b=true then Rb true l else c' ρ l Rb):dOr c c' ρ n Rb:=h
theorem ztl(h:c ρ n fun b l=>Rb (!b) l):dNot c ρ n Rb:=h
theorem zp9(h:da ρ n fun t v=>bolD t fun b=>if b=true then db ρ v R else R (.bool false) v):zqw da db ρ n R:=h
theorem ztk(h:da ρ n fun t v=>bolD t fun b=>if b=true then R (.bool true) v else db ρ v R):dOrV da db ρ n R:=h
theorem zp6(h:da ρ n fun t v=>bolD t fun b=>R (.bool (!b)) v):zqu da ρ n R:=h
theorem ztr(h:c ρ n fun b l=>if b=true then da ρ l R else db ρ l R):dIfE c da db ρ n R:=h
theorem zti(h:d ρ n fun t l=>truD t fun b=>Rb b l):dTru d ρ n Rb:=h
theorem zp8(h:di ρ n fun ts l=>JN tg tt d (Jz m capt ρ) ts [] l Rl):dComp m capt di tg tt d ρ n Rl:=h
theorem ztg(h:Rb true n):dYes ρ n Rb:=h
theorem zpY(h:tgs xs ρ Re):Yb tgs (.tuple xs) ρ Re:=h
theorem zpZ(h:Re ρ):U9 [] ρ Re:=h
theorem znM(h:tg x ρ fun l=>tgs xs l Re):Q5 tg tgs (x::xs) ρ Re:=h
theorem zp2(h:d ρ n fun t l=>bolD t fun b=>Rb b l):QY d ρ n Rb:=ZH.symm▸h
theorem ztt(h:da ρ n fun x v=>db ρ v fun y l=>lCat x y fun zs=>Rl zs l):dCat da db ρ n Rl:=Za.symm▸h
theorem ztq(h:d ρ n fun t l=>lLst t fun ts=>Rl ts l):dItL d ρ n Rl:=Zb.symm▸h
theorem ztp(h:d ρ n fun t l=>lTup t fun ts=>Rl ts l):dItT d ρ n Rl:=Zc.symm▸h
theorem zp4(h:d ρ n fun t l=>lInt t fun j=>(-(2 ^ 62)<=j/\j<2 ^ 62)/\Rl (QL 0 j.toNat) l):YC d ρ n Rl:=ZG.symm▸h
theorem zto(h:d ρ n fun t l=>lInt t fun i=>R (.int (-i)) l):dNeg d ρ n R:=Zd.symm▸h
theorem znO(h:d ρ n fun t v=>lLst t fun ts=>∃bs:List Bool,ts=bs.map cK/\R (.int (countIn (.bool k) (bs.map cK))) v):Y5 k d ρ n R:=ZN.symm▸h
theorem znP(h:da ρ n fun x G=>db ρ G fun y v=>g x y fun z=>bolD z fun b=>if b=true then dc ρ v fun w C=>g' y w fun z=>R z C else R (.bool false) v):Ye g g' da db dc ρ n R:=ZM.symm▸h
theorem zs9(h:ds ρ n fun ts C=>YT ts fun t u=>D.nx ((ρ.set i (some (.val t))).set j (some (.val u))) C):sPar i j ds D ρ n:=Ze.symm▸h
def lIsi(fb:af->Bool)(t:af)(R:af->Prop):Prop:=Pln t/\R (.bool (fb t))
theorem zte(h:d ρ n fun t l=>lIsi fb t fun z=>R z l):isiD fb d ρ n R:=h
theorem zoD(e:ρ[i]?=some (some (.val x)))(h:R x n):dVar i ρ n R:=by unfold dVar;rw[e];exact h
theorem zoE(e:ρ[i]?=some (some (.own xs)))(h:R (.list xs) n):dOwn i ρ n R:=by unfold dOwn;rw[e];exact h
theorem zjg(e:ρ[i]?=some (some (.own xs)))(h:d ρ n fun t l=>xs.length<16777216/\D.nx (ρ.set i (some (.own (xs++[t])))) l):Yr i d D ρ n:=by unfold Yr;rw[e];exact h
theorem zjf(e:ρ[i]?=some (some (.own xs)))(h:t D (ρ.set i (some (.val (.list xs)))) n):ZD i t D ρ n:=by unfold ZD;rw[e];exact h
theorem zwg(e:ρ[i]?=some (some (.val (.int q))))(h:d ρ n fun t C=>lInt t fun k=>D.nx (ρ.set i (some (.val (.int (f q k))))) C):sAug i f d D ρ n:=by
 rw[Y0,ba,e];exact h
theorem zwb(e:ρ[i]?=some (some (.own xs)))(h:d ρ n fun t l=>UL ρ i D dj t l xs):sPut i dj d D ρ n:=by
 rw[Y1,ba,e];exact h
theorem ztb(h:dj ρ n fun j l=>lInt j fun j=>(match ixN xs.length j with|some k=>D.nx (ρ.set i (some (.own (xs.set k x)))) l|none=>False)):UL ρ i D dj x n xs:=h
theorem zwc{A B:Prop}(l:b=true->A)(v:b=false->B):if b=true then A else B:=by cases b with|true=>exact iteT (l rfl)|false=>exact iteF (v rfl)
theorem ztd{p:Prop}[Decidable p]{A B:Prop}(v:p->A)(l:¬p->B):if decide p=true then A else B:=by
 by_cases h:p
 ·rw[decide_eq_true h];exact iteT (v h)
 ·rw[decide_eq_false h];exact iteF (l h)
theorem ztc{A B:Prop}(h:if b=true then B else A):if (!b)=true then A else B:=by
 cases b with|true=>exact iteF h|false=>exact iteT h
end
section
variable{C:Int->Int->Prop}{f:Int->Int->Int}{fb:Int->Int->Bool}{i j k:Int}{R:af->Prop}{Rb:Bool->Prop}{xs ys:qD}{s t:Str}{a b:Bool}{u v x y:af}{Rn:qN}{n:Nat}
theorem zs0(h:R (.int (i+j))):oAdd (.int i) (.int j) R:=Zm.symm▸h
theorem zsZ(h:(s.length+t.length<=16777216/\R (.str (s++t)))):oAdd (.str s) (.str t) R:=Zn.symm▸h
theorem zv7(h:R (.bool (decide (i=j)))):oEq (.int i) (.int j) R:=YW.symm▸h
theorem zv5(h:R (.bool (decide (s=t)))):oEq (.str s) (.str t) R:=YY.symm▸h
theorem zv4(h:(Okd (.tuple xs)/\Okd (.tuple ys)/\R (.bool (cM (.tuple xs) (.tuple ys))))):oEq (.tuple xs) (.tuple ys) R:=YZ.symm▸h
theorem zv6(h:(Okd (.list xs)/\Okd (.list ys)/\R (.bool (cM (.list xs) (.list ys))))):oEq (.list xs) (.list ys) R:=YX.symm▸h
theorem zvS(h:R (.bool (!decide (i=j)))):oNe (.int i) (.int j) R:=YM.symm▸h
theorem zvQ(h:R (.bool (!decide (s=t)))):oNe (.str s) (.str t) R:=YO.symm▸h
theorem zvR(h:(Okd (.list xs)/\Okd (.list ys)/\R (.bool (!PyData.eqv (.list xs) (.list ys))))):oNe (.list xs) (.list ys) R:=YN.symm▸h
theorem zv2(h:R (.bool (isNone u))):oIs u .none R:=YF.symm▸h
theorem zpV(h:R (.bool (!isNone u))):oIsN u .none R:=Zw.symm▸h
theorem znH(h:(Okd u/\(∀t∈xs,Okd t)/\R (.bool (!xs.any fun t=>t.eqv u)))):Zh u (.tuple xs) R:=ZQ.symm▸h
theorem zvX(h:R (.bool (decide (i<j)))):oLtA (.int i) (.int j) R:=YJ.symm▸h
theorem zv0(h:R (.bool (decide (i<=j)))):oLeA (.int i) (.int j) R:=YH.symm▸h
theorem zvZ(h:R (.bool (!decide (t.cps.toList<s.cps.toList)))):oLeA (.str s) (.str t) R:=YI.symm▸h
theorem zsU(h:R u):oIx (.tuple (u::xs)) (.int 0) R:=Zq.symm▸h
theorem zsT(h:R v):oIx (.tuple (u::v::xs)) (.int 1) R:=Zr.symm▸h
theorem zsS(h:R w):oIx (.tuple (u::v::w::xs)) (.int 2) R:=Zs.symm▸h
theorem zlJ(h:R u):oIx (.list (u::xs)) (.int 0) R:=Zo.symm▸h
theorem zsX(h:R v):oIx (.list (u::v::xs)) (.int 1) R:=Zp.symm▸h
theorem zsK(h:Rb a):truD (.bool a) Rb:=Zu.symm▸h
theorem zsJ(h:Rb (!xs.isEmpty)):truD (.list xs) Rb:=Zv.symm▸h
theorem zv9(h:Rb a):bolD (.bool a) Rb:=YV.symm▸h
theorem zsR(h:R (.int xs.length)):bLen [.list xs] R:=.inl ⟨xs,rfl,h⟩
theorem zsP(h:R (.int xs.length)):bLen [.tuple xs] R:=.inr (.inl ⟨xs,rfl,h⟩)
theorem zsQ(h:(s.length<=16777216/\R (.int s.length))):bLen [.str s] R:=.inr (.inr (.inl ⟨s,rfl,h⟩))
theorem znI(h:R (.int ns.length)):bLen [SCR ns] R:=.inr (.inr (.inr ⟨_,rfl,by rw[aZ];exact h⟩))
theorem zvV(h:R (.int (if j<i then j else i))):bMin [.int i,.int j] R:=YL.symm▸h
theorem zvW(h:R (.int (if j > i then j else i))):bMax [.int i,.int j] R:=YK.symm▸h
theorem znG(h:R (.tuple xs)):Y8 [.list xs] R:=ZR.symm▸h
theorem zsM(h:(Shd u/\R (.str u.shown))):YB [u] R:=Zt.symm▸h
theorem zpU(h:Rl xs):JX (.list xs) Rl:=Zx.symm▸h
theorem znJ(h:Rl xs):JX (.tuple xs) Rl:=ZP.symm▸h
theorem zv8(h:(xs.length+ys.length<=16777216/\Q (xs++ys))):lCat (.list xs) (.list ys) Q:=h
theorem zvY(h:Q xs):lLst (.list xs) Q:=h
theorem zvM(h:Q xs):lTup (.tuple xs) Q:=h
theorem zv3(h:Q i):lInt (.int i) Q:=h
theorem zsN(h:Q x y):YT [x,y] Q:=h
theorem zvT(c:CMul i j)(h:R (.int (i*j))):oMul (.int i) (.int j) R:=⟨c,h⟩
theorem zvU(c:0<j)(h:R (.int (i % j))):oMod (.int i) (.int j) R:=⟨c,h⟩
theorem zsY(c:YE i j)(h:R (.int (i / j))):UN (.int i) (.int j) R:=⟨c,h⟩
theorem zvP(c:CPow i j)(h:R (.int (i*2 ^ j.toNat))):oShl (.int i) (.int j) R:=⟨c,h⟩
theorem zvN(h:R (.int (i - j))):oSub (.int i) (.int j) R:=h
theorem zvL(h:R (.int (fg i j))):oXor (.int i) (.int j) R:=h
theorem zv_(h:R (.int (fT i j))):oAnd (.int i) (.int j) R:=h
theorem j_gB(h:R (.bool (fb i j))):gB fb (.int i) (.int j) R:=h
theorem zih(h:R (.bool true)):lIsi isInt (.int i) R:=⟨Uc,h⟩
theorem zhm(h:R (.bool true)):lIsi isInt (.bool a) R:=⟨Q9,h⟩
theorem zig(h:R (.bool false)):lIsi isInt (.str s) R:=⟨UC,h⟩
theorem zfZ(h:R (.bool false)):lIsi isInt (.tuple xs) R:=⟨Uu,h⟩
theorem zhk(h:R (.bool false)):lIsi isInt (.list xs) R:=⟨Uz,h⟩
theorem zhj(h:R (.bool false)):lIsi isInt (.none) R:=⟨UA,h⟩
theorem zhl(h:R (.bool false)):lIsi isInt (.dict []) R:=⟨Uy,h⟩
theorem zhn(h:R (.bool false)):lIsi isBool (.int i) R:=⟨Uc,h⟩
theorem zf0(h:R (.bool true)):lIsi isBool (.bool a) R:=⟨Q9,h⟩
theorem zid(h:R (.bool false)):lIsi isTup (.int i) R:=⟨Uc,h⟩
theorem zhe(h:R (.bool false)):lIsi isTup (.bool a) R:=⟨Q9,h⟩
theorem zic(h:R (.bool false)):lIsi isTup (.str s) R:=⟨UC,h⟩
theorem zfX(h:R (.bool true)):lIsi isTup (.tuple xs) R:=⟨Uu,h⟩
theorem zhc(h:R (.bool false)):lIsi isTup (.list xs) R:=⟨Uz,h⟩
theorem zhb(h:R (.bool false)):lIsi isTup (.none) R:=⟨UA,h⟩
theorem zhd(h:R (.bool false)):lIsi isTup (.dict []) R:=⟨Uy,h⟩
theorem zif(h:R (.bool false)):lIsi isStr (.int i) R:=⟨Uc,h⟩
theorem zhi(h:R (.bool false)):lIsi isStr (.bool a) R:=⟨Q9,h⟩
theorem zie(h:R (.bool true)):lIsi isStr (.str s) R:=⟨UC,h⟩
theorem zfY(h:R (.bool false)):lIsi isStr (.tuple xs) R:=⟨Uu,h⟩
theorem zhg(h:R (.bool false)):lIsi isStr (.list xs) R:=⟨Uz,h⟩
theorem zhf(h:R (.bool false)):lIsi isStr (.none) R:=⟨UA,h⟩
theorem zhh(h:R (.bool false)):lIsi isStr (.dict []) R:=⟨Uy,h⟩
end
theorem zo7{h:Int}(h0:0<h):(2:Int) ^ h.toNat=2*2 ^ (h - 1).toNat:=by
 have e:h.toNat=(h - 1).toNat+1:=by lia
 rw[e,dz,eF]
theorem zrK{h:Int}(h0:0<=h):(2:Int) ^ (h+1).toNat=2*2 ^ h.toNat:=by
 have:=zo7 (h:=h+1) (by lia)
 rw[this];simp
theorem IsBk.low{bits i h:Int}(B:IsBk bits i h)(l:0<h):IsBk bits i (h - 1):=by
 obtain⟨h0,u,k,k0,rfl,k1⟩:=B;refine⟨by lia,by lia,2*k,by lia,?_,?_⟩
 ·rw[zo7 l,<- fK,eF k 2]
 ·have e:(bits - (h - 1)).toNat=(bits - h).toNat+1:=by lia
  rw[e,dz];lia
theorem IsBk.up{bits i h:Int}(B:IsBk bits i h)(l:0<h):IsBk bits (i+2 ^ h.toNat / 2) (h - 1):=by
 obtain⟨h0,u,k,k0,rfl,k1⟩:=B;refine⟨by lia,by lia,2*k+1,by lia,?_,?_⟩
 ·rw[zo7 l];have:2*(2:Int) ^ (h - 1).toNat / 2=2 ^ (h - 1).toNat:=by lia
  rw[this,eV,bO,<- fK,eF k 2]
 ·have e:(bits - (h - 1)).toNat=(bits - h).toNat+1:=by lia
  rw[e,dz];lia
theorem znu(P:Int)(l:0<P):k*P % (2*P)=(k % 2)*P:=by
 rw[eF 2 P,eF k P,Int.mul_emod_mul_of_pos _ _ l,eF]
theorem IsBk.abt{bits i h:Int}(B:IsBk bits i h)(l:h<bits):IsBk bits (i - i % (2*2 ^ h.toNat)) (h+1):=by
 obtain⟨h0,u,k,k0,rfl,k1⟩:=B;refine⟨by lia,by lia,k / 2,by lia,?_,?_⟩
 ·rw[znu _ (VT _),zrK h0,<- vi];have:k - k % 2=k / 2*2:=by lia
  rw[this,fK]
 ·have e:(bits - h).toNat=(bits - (h+1)).toNat+1:=by lia
  rw[e,dz]at k1;lia
theorem IsBk.oth(B:IsBk bits i h)(u:h<bits):IsBk bits (fg i (2 ^ h.toNat)) h:=by
 obtain⟨h0,l,k,k0,rfl,k1⟩:=B;rw[zmR _ k0];have e:(bits - h).toNat=(bits - (h+1)).toNat+1:=by lia
 split
 ·refine⟨h0,l,k+1,by lia,by rw[eV,bO],?_⟩
  rw[e,dz]at k1 ⊢;lia
 ·refine⟨h0,l,k - 1,by lia,by rw[vi,bO],by lia⟩
theorem IsBk.nxt(B:IsBk bits i h)(l:i+2*2 ^ h.toNat<=2 ^ bits.toNat):IsBk bits (i+2 ^ h.toNat) h:=by
 obtain⟨h0,u,k,k0,rfl,k1⟩:=B;refine⟨h0,u,k+1,by lia,by rw[eV,bO],?_⟩
 have e:bits.toNat=(bits - h).toNat+h.toNat:=by lia
 rw[e,ziT]at l;have p:=VT h.toNat;have:(k+2)*2 ^ h.toNat<=2 ^ (bits - h).toNat*2 ^ h.toNat:=by rw[eV];exact l
 have:=Int.le_of_mul_le_mul_right this p;lia
theorem zwo:CMul 2 j:=.inl ⟨by decide,by decide⟩
theorem zqz:YE j 2:=⟨by decide,by decide⟩
theorem QF(h:Nat):(1:Int)*2 ^ h=2 ^ h:=bO _
def BlkN(bits i:Int)(h:Nat):Prop:=(h:Int)<=bits/\∃k:Int,0<=k/\i=k*2 ^ h/\k<2 ^ (bits.toNat - h)
theorem IsBk.n(B:IsBk bits i h):BlkN bits i h.toNat:=by
 obtain⟨h0,l,k,k0,e,k1⟩:=B;refine⟨by lia,k,k0,e,?_⟩
 have:(bits - h).toNat=bits.toNat - h.toNat:=by lia
 rw[<- this];exact k1
theorem zqH(b:BlkN bits j g)(l:g<=h):j / 2 ^ h*2 ^ h<=j/\j+2 ^ g<=(j / 2 ^ h+1)*2 ^ h:=by
 obtain⟨_,m,m0,rfl,_⟩:=b;have C:=Bd.Qm h;have x:=Bd.Qm g;have v:=Bd.Qm (h - g);have u:(2:Int) ^ h=2 ^ (h - g)*2 ^ g:=by rw[<- fV];congr 1;lia
 refine⟨Int.ediv_mul_le _ (by lia),?_⟩
 have eq:(m*2 ^ g) / 2 ^ h=m / 2 ^ (h - g):=by rw[u];exact Int.mul_ediv_mul_of_pos_left m _ x
 rw[eq,u,<- fK];have y:m*2 ^ g+2 ^ g=(m+1)*2 ^ g:=by rw[eV,bO]
 rw[y];refine dJ ?_ (by lia)
 have:=Int.lt_ediv_add_one_mul_self m v;lia
theorem zp_(v:BlkN bits i h)(y:BlkN bits j g):(g<=h/\j / 2 ^ h*2 ^ h=i)↔(i<=j/\j+2 ^ g<=i+2 ^ h):=by
 have u:=Bd.Qm h;have C:=Bd.Qm g;constructor
 ·rintro⟨l,e⟩;have t:=zqH y l;rw[e,eV,bO,e]at t;exact t
 ·rintro⟨x,l2⟩;have l:g<=h:=by
   by_cases z:g<=h
   ·exact z
   ·exfalso;have:(2:Int) ^ h<2 ^ g:=by
     have e:(2:Int) ^ g=2 ^ (g - h)*2 ^ h:=by rw[<- fV];congr 1;lia
     have p2:(2:Int)<=2 ^ (g - h):=by
      obtain⟨d,hd⟩:∃d,g - h=d+1:=⟨g - h - 1,by lia⟩
      rw[hd,dz];have:=Bd.Qm d;lia
     rw[e];have:=dJ p2 (show(0:Int)<=2 ^ h by lia)
     lia
    lia
  refine⟨l,?_⟩;obtain⟨_,k,k0,rfl,_⟩:=v;have e:j / 2 ^ h=k:=by
   have a1:k<=j / 2 ^ h:=(Int.le_ediv_iff_mul_le u).mpr x;have a2:j / 2 ^ h<k+1:=(Int.ediv_lt_iff_lt_mul u).mpr (by rw[eV,bO];lia)
   lia
  rw[e]
def hldD(i h j g:Int):Bool:=decide (g<=h)&&decide (j / 2 ^ h.toNat*2 ^ h.toNat=i)
theorem zoF(A:IsBk bits i h)(B:IsBk bits j g):hldD i h j g=decide (i<=j/\j+2 ^ g.toNat<=i+2 ^ h.toNat):=by
 have:=zp_ A.n B.n;unfold hldD;rw[<- Bool.decide_and];refine decide_eq_decide.mpr ⟨fun z=>this.mp ⟨by have:=A.1;have:=B.1;lia,z.2⟩,fun z=>?_⟩
 obtain⟨l,e⟩:=this.mpr z;exact⟨by have:=A.1;have:=B.1;lia,e⟩
theorem zl0(Inv:Nat->En->Nat->Prop):∀(ts:qD) (i:Nat) {v:En}{n:Nat},Inv i v n ->
  (∀(k:Nat) (t:af) (v:En) (n:Nat) (K:En->Nat->Prop),ts[k]?=some t->Inv (i+k) v n->(∀x y,Inv (i+k+1) x y->K x y)->g t v fun x=>tb { D with nx:=K,ct:=K,bk:=D.nx } x n) ->
  (∀v n,Inv (i+ts.length) v n->D.nx v n)->forP g tb D ts v n
 | [],i,v,n,h0,_,fin=>fin v n (by simpa using h0)
 | t::ts,i,v,n,h0,turn,fin=>by
  refine turn 0 t v n _ rfl (by simpa using h0) fun x y h'=>?_
  refine zl0 Inv ts (i+1) (by simpa using h') (fun k u v n K e C G=>?_) (fun v n h=>fin v n ?_)
  ·refine turn (k+1) u v n K (by simpa using e) ?_ fun x y h'=>G x y ?_
   ·have:i+(k+1)=i+1+k:=by lia
    rw[this];exact C
   ·have:i+1+k+1=i+(k+1)+1:=by lia
    rw[this];exact h'
  ·have:i+(t::ts).length=i+1+ts.length:=by simp;lia
   rw[this]at *;exact h
theorem U4(Inv:Nat->En->Nat->Prop)(h0:Inv 0 u n)
  (turn:∀(k:Nat) (t:af) (u:En) (n:Nat) (K:En->Nat->Prop),ts[k]?=some t->Inv k u n->(∀l v,Inv (k+1) l v->K l v)->g t u fun l=>tb { D with nx:=K,ct:=K,bk:=D.nx } l n)
  (fin:∀u n,Inv ts.length u n->D.nx u n):forP g tb D ts u n:=by
 refine zl0 Inv ts 0 h0 (fun k t u n K e x y=>turn k t u n K e (by simpa using x) fun l v h'=>y l v (by simpa using h')) fun u n h=>fin u n (by simpa using h)
theorem zfi{lo:Int}{m i:Nat}{t:af}(h:(QL lo m)[i]?=some t):i<m/\t=.int (lo+(i:Int)):=by
 unfold QL at h;rw[bg]at h
 by_cases hi:i<m
 ·rw[mE hi]at h;cases h;exact⟨hi,rfl⟩
 ·rw[cw (by simp;lia)]at h
  cases h
theorem zgc(Inv:Nat->En->Nat->Prop)(h0:Inv m u n)
  (turn:∀m u n,Inv m u n->c u n fun b y=>if b=true then tb { D with nx:=fun l x=>∃v,v<m/\Inv v l x,ct:=fun l x=>∃v,v<m/\Inv v l x,bk:=D.nx } u y else D.nx u y):zkA c tb D u n :=
 ⟨Inv,⟨m,h0⟩,turn⟩
structure Sm(w k:Nat)(d:af):Prop where
 ls:d.leavesShort 41=true
 sh:d.showable=true
 cl:d.canLay0=true
 dp:d.depth<=k
 wt:d.weight<=w
theorem Sm.shd(h:Sm w k d)(hw:w<=380000)(l:k<=60):Shd d:=by
 refine⟨h.sh,cq _ h.cl,cH h.dp l,?_⟩;have:=PyData.shown_le 41 (by decide) d h.ls
 have:=h.wt;lia
theorem Sm.mono(h:Sm w k d)(hw:w<=w')(l:k<=k'):Sm w' k' d:=⟨h.ls,h.sh,h.cl,cH h.dp l,cH h.wt hw⟩
theorem zks(h:i.natAbs<10 ^ 40):Sm 140 0 (.int i):=by
 have v:i.natAbs<2 ^ 139:=aF h (by decide)
 have u:i.natAbs≠0->i.natAbs.log2<139:=fun z=>(vc z).mpr v
 refine⟨?_,?_,by simp[bN],by simp[cS],?_⟩
 ·have e:=int_text_length_le10 (k:=40) (by decide) h
  have x:(gZ (.int i)).length<=41:=by
   show(aa (toString i)).length<=41
   rw[PySem.ofString_length];exact e
  simp only[gG];exact decide_eq_true x
 ·simp only[iI,decide_eq_true_eq]
  by_cases z:i.natAbs=0
  ·rw[z];decide
  ·have:=u z;lia
 ·simp only[mL];split
  ·lia
  ·rename_i z;have:i.natAbs≠0:=fun y=>z (by simp;lia)
   have:=u this;lia
theorem zol:∀{xs:qD},(∀x∈xs,Sm w k x)->fL 41 xs=true/\gH xs=true/\bu xs=true/\cb xs<=k/\ik xs<=(w+1)*xs.length
 | [],_=>⟨by simp[fL],by simp[gH],by simp[bu],by simp[cb],by simp[ik]⟩
 | x::xs,h=>by
  obtain⟨a,b,c,d,e⟩:=zol (xs:=xs) fun y l=>h y (by simp[l])
  have hx:=h x (by simp)
  refine⟨by simp[fL,hx.ls,a],by simp[gH,hx.sh,b],by simp[bu,hx.cl,c],?_,?_⟩
  ·simp only[cb];have:=hx.dp;lia
  ·simp only[ik,aP,Nat.mul_add];have:=hx.wt;lia
theorem VV(h:∀x∈xs,Sm w k x):Sm ((w+1)*xs.length) (k+1) (.tuple xs):=by
 obtain⟨a,b,c,d,e⟩:=zol h;exact⟨by simpa[gG] using a,by simpa[iI] using b,by simpa[bN] using c,by simp only[cS];lia,by simpa[mL] using e⟩
theorem zkr(a:i.natAbs<10 ^ 40)(b:h.natAbs<10 ^ 40):Sm 282 1 (.tuple [.int i,.int h]):=by
 have:=VV (w:=140) (k:=0) (xs:=[.int i,.int h]) (by intro x hx;simp at hx;rcases hx with rfl|rfl;exact zks a;exact zks b)
 exact this.mono (by simp) (by decide)
theorem zq9(a:Sm w k p)(b:Sm w k q):Sm ((w+1)*2) (k+1) (.tuple [p,q]) :=
 VV (xs:=[p,q]) (by intro x hx;simp at hx;rcases hx with rfl|rfl;exact a;exact b)
theorem zp1(y:ρ[0]?=some (some (.val (SCR ns))))(G:ρ[j]?=some (some (.val (.int k))))(C:ns.length<=63)(k0:0<=k)(k1:k<=100)(I:JJ ρ=ρd)
  (h:u { nx:=fun x _=>D.nx (JJ x) n,rt:=fun t _=>∃b,t=.bool b/\D.rt t n,bk:=fun x _=>D.bk (JJ x) n,ct:=fun x _=>D.ct (JJ x) n } ((ρd.set j (some (.val (.int k)))).set i (some (.val HAND))) 0):U8 i j u D ρ n:=by
 subst I;unfold U8;rw[y,G];exact⟨⟨ns,rfl,C⟩,k0,k1,h⟩
def rkAt(rk:ah->Int)(xs:Array bM)(i:Nat):Int:=((xs[i]?).map fun p=>rk p.1).getD 0
theorem Yq(h:xs[i]?=ys[j]?):rkAt rk xs i=rkAt rk ys j:=by unfold rkAt;rw[h]
theorem zrv(x:u<xs.size)(hd:d<=u)(k:Nat) :
  (k=u - d->rkAt rk (bubble xs u d) k=rkAt rk xs u)/\(u - d<k->k<=u->rkAt rk (bubble xs u d) k=rkAt rk xs (k - 1))/\(k<u - d\/u<k->rkAt rk (bubble xs u d) k=rkAt rk xs k):=by
 have e:=getElem?_bubble x d hd k;refine⟨fun h=>?_,fun v l=>?_,fun h=>?_⟩
 ·rw[if_pos h]at e;exact Yq e
 ·rw[if_neg (by lia),if_pos ⟨v,l⟩]at e;exact Yq e
 ·rw[if_neg (by lia),if_neg (by lia)]at e;exact Yq e
theorem Vk(u:j<=xs.size)(k:Nat) :
  (i<=k->k<j->rkAt rk (mirror xs i j ((j - i) / 2)) k=rkAt rk xs (i+j - 1 - k))/\(k<i\/j<=k->rkAt rk (mirror xs i j ((j - i) / 2)) k=rkAt rk xs k):=by
 have e:=getElem?_mirror_all (i:=i) u k;refine⟨fun v l=>?_,fun h=>?_⟩
 ·rw[if_pos ⟨v,l⟩]at e;exact Yq e
 ·rw[if_neg (by lia)]at e;exact Yq e
structure Sb(kd:eN)(a0:Array bM)(z:bP):Prop where
 pm:(arrOf z).Perm a0
 kn:kindOf z=kd
 fl:failedOf z=none
 pe:pendingOf z=#[]
def Up(rk:ah->Int)(xs:Array bM)(m:Nat):Prop:=∀i j,i<j->j<m->rkAt rk xs i<=rkAt rk xs j
section
variable{prog:aK}{w:aW}{A:bq}{E:qV}{s:aq}{kd:eN}{rk:ah->Int}{a0:Array bM}
def Cmp(prog:aK)(w:aW)(A:bq)(s:aq)(kd:eN)(rk:ah->Int)(a0:Array bM):Prop :=
 ∀(p q:bM) (E:qV) (Q:Bool->aq->Prop),p∈a0.toList->q∈a0.toList->Q (decide (rk p.1<rk q.1)) s->wpAny (model prog w) A (keyLt' kd p.1 q.1) Q E s
theorem Sb.sz(b:Sb kd a0 z):(arrOf z).size=a0.size:=b.pm.size_eq
end
section
variable{prog:aK}{w:aW}{A:bq}{E:qV}{s:aq}{kd:eN}{rk:ah->Int}{a0:Array bM}
theorem Uw(l:j<=xs.size)(al:∀k,i<=k->k<j->rkAt rk xs k=rkAt rk xs (j - 1))(k:Nat):rkAt rk (mirror xs i j ((j - i) / 2)) k=rkAt rk xs k:=by
 obtain⟨p,q⟩:=Vk (rk:=rk) (i:=i) l k
 by_cases g:i<=k/\k<j
 ·rw[p g.1 g.2,al _ (by omega) (by omega),al k g.1 g.2]
 ·exact q (by omega)
end
def zil:Bool->bM->Array bM->Nat->Nat->Nat->StateT bP Sem (Option Nat):=sortPriv% PySem.Builtin.gallop
section
variable{prog:aK}{w:aW}{A:bq}{E:qV}{s:aq}{kd:eN}{rk:ah->Int}{a0:Array bM}
theorem YQ(c:Cmp prog w A s kd rk a0)(k:kindOf z=kd)(l:p∈a0.toList)(u:q∈a0.toList)
  (h:Q (some (decide (rk p.1<rk q.1))) z):wpS (model prog w) A E s (lt' p q) Q z:=by
 rw[lt'_eq];refine aB (iB (aB (kO (iC ?_))));rw[k];exact c p q _ _ l u ⟨rfl,aH h⟩
def bey(rk:ah->Int)(left:Bool)(key:bM)(arr:Array bM)(base i:Nat):Bool:=if left then decide (rkAt rk arr (base+i)<rk key.1) else !decide (rk key.1<rkAt rk arr (base+i))
theorem Yy(c:Cmp prog w A s kd rk a0)(k:kindOf z=kd)(hk:key∈a0.toList)
  (ha:∀i,i<n->∃p,arr[base+i]?=some p/\p∈a0.toList) (hn:hint<n) (up:∀i j,i<j->j<n->rkAt rk arr (base+i)<=rkAt rk arr (base+j))
  (h:∀m,m<=n->(∀i,i<m->bey rk left key arr base i=true)->(∀i,m<=i->i<n->bey rk left key arr base i=false)->Q (some m) z):wpS (model prog w) A E s (zil left key arr base n hint) Q z:=by
 have e_:zil=zil:=rfl
 conv at e_=>rhs;whnf
 rw[e_];dsimp only;clear e_;have U:∀(i:Nat) (Q:Option Bool->bP->Prop),i<n->Q (some (bey rk left key arr base i)) z->wpS (model prog w) A E s (do
   let x <- elem' arr (base+i)
   if left then lt' x key else return (<- lt' key x).map (!·)) Q z:=by
  intro i Q hi Y;obtain⟨p,ep,mp⟩:=ha i hi;have r:rkAt rk arr (base+i)=rk p.1:=by unfold rkAt;rw[ep];rfl
  simp only[vm,ep,pure_bind];unfold bey at Y;rw[r]at Y;cases left with
  | true=>exact YQ c k mp hk (by simpa using Y)
  | false =>
   refine aB (YQ c k hk mp ?_);exact aH (by simpa using Y)
 have mono:∀i j,i<=j->j<n->bey rk left key arr base j=true->bey rk left key arr base i=true:=by
  intro i j hij hj R;rcases mV hij with rfl|hlt
  ·exact R
  ·have:=up i j hlt hj;unfold bey at *;cases left <;> simp at * <;> omega
 refine aB (U hint _ hn ?_);dsimp only;cases hr:bey rk left key arr base hint with
 | true =>
  rw[if_pos rfl];refine aB (dR (cj (I:=fun x c G=>G=z/\∃l r,c=(none,l,r)/\l<r/\x<r/\hint+l<n/\bey rk left key arr base (hint+l)=true)
   (Q:=fun c G=>G=z/\∃l r,c=(none,l,r)/\l<r/\hint+l<n/\bey rk left key arr base (hint+l)=true/\(n - hint<=r\/(hint+r<n/\bey rk left key arr base (hint+r)=false))) ?turn ?last ⟨rfl,0,1,rfl,by omega,by omega,by omega,hr⟩) ?post)
  case post =>
   rintro c G ⟨rfl,l,r,rfl,L,J,C,v⟩;dsimp only;have b1:∀i,i<hint+l+1->bey rk left key arr base i=true:=fun i hi=>mono i (hint+l) (by omega) J C
   have b2:∀i,hint+min r (n - hint)<=i->i<n->bey rk left key arr base i=false:=fun i hi N=>by
    rcases v with v|⟨v,S⟩
    ·omega
    ·cases hb':bey rk left key arr base i with
     | false=>rfl
     | true=>rw[mono (hint+r) i (by omega) N hb']at S;cases S
   refine aB (dR (cj (I:=fun x c y=>y=G/\∃l r,c=(none,l,r)/\l<=r/\r<=n/\r - l<=n - x/\(∀i,i<l->bey rk left key arr base i=true)/\(∀i,r<=i->i<n->bey rk left key arr base i=false))
    (Q:=fun c y=>y=G/\∃r,c=(none,r,r)/\r<=n/\(∀i,i<r->bey rk left key arr base i=true)/\(∀i,r<=i->i<n->bey rk left key arr base i=false)) ?turn2 ?last2 ⟨rfl,hint+l+1,hint+min r (n - hint),rfl,by omega,by omega,by omega,b1,b2⟩) ?post2)
   case post2 =>
    rintro c y ⟨rfl,r,rfl,q1,q2,Z⟩;exact aH (h r q1 q2 Z)
   case last2 =>
    rintro c y ⟨rfl,l,r,rfl,L,J,C,v,S⟩;have:l=r:=by omega
    subst this;exact⟨rfl,l,rfl,J,v,S⟩
   case turn2 =>
    rintro x c y _ hx ⟨rfl,l,r,rfl,L,J,C,v,S⟩;dsimp only
    by_cases hge:l>=r
    ·rw[if_pos hge];have:l=r:=by omega
     subst this;exact aH ⟨rfl,l,rfl,J,v,S⟩
    ·rw[if_neg hge];refine aB (U _ _ (by omega) ?_)
     dsimp only;cases R:bey rk left key arr base (l+(r - l) / 2) with
     | true =>
      rw[if_pos rfl];exact aH ⟨rfl,_,_,rfl,by omega,J,by omega,fun i hi=>mono i _ (by omega) (by omega) R,S⟩
     | false =>
      rw[if_neg (by simp)]
      refine aH ⟨rfl,_,_,rfl,by omega,by omega,by omega,v,fun i hi N=>?_⟩
      cases hb':bey rk left key arr base i with
      | false=>rfl
      | true=>rw[mono _ i hi N hb']at R;cases R
  case last =>
   rintro c G ⟨rfl,l,r,rfl,L,J,C,v⟩;exact⟨rfl,l,r,rfl,L,C,v,.inl (by omega)⟩
  case turn =>
   rintro x c G _ hx ⟨rfl,l,r,rfl,L,J,C,v⟩;dsimp only
   by_cases hge:r>=n - hint
   ·rw[if_pos hge];exact aH ⟨rfl,l,r,rfl,L,C,v,.inl hge⟩
   ·rw[if_neg hge];refine aB (U _ _ (by omega) ?_)
    dsimp only;cases R:bey rk left key arr base (hint+r) with
    | true =>
     rw[if_neg (by simp)]
     exact aH ⟨rfl,r,_,rfl,by omega,by omega,by omega,R⟩
    | false =>
     rw[if_pos (by simp)]
     exact aH ⟨rfl,l,r,rfl,L,C,v,.inr ⟨by omega,R⟩⟩
 | false =>
  rw[if_neg (by simp)]
  refine aB (dR (cj (I:=fun x c G=>G=z/\∃l r,c=(none,l,r)/\l<r/\x<r/\l<=hint/\bey rk left key arr base (hint - l)=false)
   (Q:=fun c G=>G=z/\∃l r,c=(none,l,r)/\l<r/\l<=hint/\bey rk left key arr base (hint - l)=false/\(hint+1<=r\/(r<=hint/\bey rk left key arr base (hint - r)=true))) ?turn ?last ⟨rfl,0,1,rfl,by omega,by omega,by omega,hr⟩) ?post)
  case post =>
   rintro c G ⟨rfl,l,r,rfl,L,J,C,v⟩;dsimp only;have b1:∀i,i<hint+1 - min r (hint+1)->bey rk left key arr base i=true:=fun i hi=>by
    rcases v with v|⟨v,S⟩
    ·omega
    ·exact mono i (hint - r) (by omega) (by omega) S
   have b2:∀i,hint - l<=i->i<n->bey rk left key arr base i=false:=fun i hi N=>by
    cases hb':bey rk left key arr base i with
    | false=>rfl
    | true=>rw[mono (hint - l) i (by omega) N hb']at C;cases C
   refine aB (dR (cj (I:=fun x c y=>y=G/\∃l r,c=(none,l,r)/\l<=r/\r<=n/\r - l<=n - x/\(∀i,i<l->bey rk left key arr base i=true)/\(∀i,r<=i->i<n->bey rk left key arr base i=false))
    (Q:=fun c y=>y=G/\∃r,c=(none,r,r)/\r<=n/\(∀i,i<r->bey rk left key arr base i=true)/\(∀i,r<=i->i<n->bey rk left key arr base i=false)) ?turn2 ?last2 ⟨rfl,hint+1 - min r (hint+1),hint - l,rfl,by omega,by omega,by omega,b1,b2⟩) ?post2)
   case post2 =>
    rintro c y ⟨rfl,r,rfl,q1,q2,Z⟩;exact aH (h r q1 q2 Z)
   case last2 =>
    rintro c y ⟨rfl,l,r,rfl,L,J,C,v,S⟩;have:l=r:=by omega
    subst this;exact⟨rfl,l,rfl,J,v,S⟩
   case turn2 =>
    rintro x c y _ hx ⟨rfl,l,r,rfl,L,J,C,v,S⟩;dsimp only
    by_cases hge:l>=r
    ·rw[if_pos hge];have:l=r:=by omega
     subst this;exact aH ⟨rfl,l,rfl,J,v,S⟩
    ·rw[if_neg hge];refine aB (U _ _ (by omega) ?_)
     dsimp only;cases R:bey rk left key arr base (l+(r - l) / 2) with
     | true =>
      rw[if_pos rfl];exact aH ⟨rfl,_,_,rfl,by omega,J,by omega,fun i hi=>mono i _ (by omega) (by omega) R,S⟩
     | false =>
      rw[if_neg (by simp)]
      refine aH ⟨rfl,_,_,rfl,by omega,by omega,by omega,v,fun i hi N=>?_⟩
      cases hb':bey rk left key arr base i with
      | false=>rfl
      | true=>rw[mono _ i hi N hb']at R;cases R
  case last =>
   rintro c G ⟨rfl,l,r,rfl,L,J,C,v⟩;exact⟨rfl,l,r,rfl,L,C,v,.inl (by omega)⟩
  case turn =>
   rintro x c G _ hx ⟨rfl,l,r,rfl,L,J,C,v⟩;dsimp only
   by_cases hge:r>=hint+1
   ·rw[if_pos hge];exact aH ⟨rfl,l,r,rfl,L,C,v,.inl hge⟩
   ·rw[if_neg hge];refine aB (U _ _ (by omega) ?_)
    dsimp only;cases R:bey rk left key arr base (hint - r) with
    | true =>
     rw[if_pos rfl];exact aH ⟨rfl,l,r,rfl,L,C,v,.inr ⟨by omega,R⟩⟩
    | false =>
     rw[if_neg (by simp)]
     exact aH ⟨rfl,r,_,rfl,by omega,by omega,by omega,R⟩
end
end L2
namespace L2
section
variable{α:Type}{r:α->Int}{a b out:List α}{ia ib na nb k:Nat}
theorem m1{x:α}{l m:List α}(h:x∈l):x∈l++m:=aw.mpr (.inl h)
theorem m2{x:α}{l m:List α}(h:x∈m):x∈l++m:=aw.mpr (.inr h)
def Ris(r:α->Int)(l:List α):Prop:=l.Pairwise fun x y=>r x<=r y
structure MLo(r:α->Int)(a b out:List α)(ia ib:Nat):Prop where
 pm:(out++(a.drop ia++b.drop ib)).Perm (a++b)
 so:Ris r out
 le:∀x∈out,∀y∈a.drop ia++b.drop ib,r x<=r y
theorem JO{l m:List α}:Ris r (l++m)↔Ris r l/\Ris r m/\∀x∈l,∀y∈m,r x<=r y:=cF
theorem Ris.drop{l:List α}(h:Ris r l)(k:Nat):Ris r (l.drop k):=lL (kB k l) h
theorem Ris.take{l:List α}(h:Ris r l)(k:Nat):Ris r (l.take k):=lL (nv k l) h
theorem cut2(l:List α)(i k:Nat):l.drop i=(l.drop i).take k++l.drop (i+k):=by rw[<- List.drop_drop];exact(fM k _).symm
theorem MLo.takeB(h:MLo r a b out ia ib)(I:Ris r b)(c:∀y∈(b.drop ib).take k,∀x∈a.drop ia,r y<=r x):MLo r a b (out++(b.drop ib).take k) ia (ib+k):=by
 have e:=cut2 b ib k;obtain⟨C,G,v⟩:=h;have l:=I.drop ib;rw[e]at C v l;have l:=JO.mp l;refine⟨?_,JO.mpr ⟨G,l.1,fun x hx y u=>v x hx y (m2 (m1 u))⟩,fun x hx y u=>?_⟩
 ·refine iJ ?_ C;rw[bR];exact fN _ (iO _ _ _)
 ·rcases aw.mp hx with z|z
  ·refine v x z y ?_;rcases aw.mp u with w|w
   ·exact m1 w
   ·exact m2 (m2 w)
  ·rcases aw.mp u with w|w
   ·exact c x z y w
   ·exact l.2.2 x z y w
theorem MLo.takeA(h:MLo r a b out ia ib)(I:Ris r a)(c:∀x∈(a.drop ia).take k,∀y∈b.drop ib,r x<=r y):MLo r a b (out++(a.drop ia).take k) (ia+k) ib:=by
 have e:=cut2 a ia k;obtain⟨C,G,v⟩:=h;have l:=I.drop ia;rw[e]at C v l;have l:=JO.mp l;refine⟨?_,JO.mpr ⟨G,l.1,fun x hx y u=>v x hx y (m1 (m1 u))⟩,fun x hx y u=>?_⟩
 ·refine iJ ?_ C;simp only[bR];exact pR _
 ·rcases aw.mp hx with z|z
  ·refine v x z y ?_;rcases aw.mp u with w|w
   ·exact m1 (m2 w)
   ·exact m2 w
  ·rcases aw.mp u with w|w
   ·exact l.2.2 x z y w
   ·exact c x z y w
theorem take1{l:List α}{i:Nat}{y:α}(h:l[i]?=some y):(l.drop i).take 1=[y]:=by
 have hi:=(ax.mp h).1;rw[bE hi];have:=(ax.mp h).2;simp[this]
theorem MLo.pushB{y:α}(h:MLo r a b out ia ib)(u:Ris r b)(e:b[ib]?=some y)(c:∀x∈a.drop ia,r y<=r x):MLo r a b (out++[y]) ia (ib+1):=by
 have:=h.takeB (k:=1) u (by rw[take1 e];intro z l x hx;cases az.mp l;exact c x hx)
 rwa [take1 e]at this
theorem MLo.pushA{x:α}(h:MLo r a b out ia ib)(v:Ris r a)(e:a[ia]?=some x)(c:∀y∈b.drop ib,r x<=r y):MLo r a b (out++[x]) (ia+1) ib:=by
 have:=h.takeA (k:=1) v (by rw[take1 e];intro z u y l;cases az.mp u;exact c y l)
 rwa [take1 e]at this
theorem MLo.done(h:MLo r a b out ia ib)(l:Ris r a)(u:Ris r b)(c:∀x∈a.drop ia,∀y∈b.drop ib,r x<=r y):(out++a.drop ia++b.drop ib).Perm (a++b)/\Ris r (out++a.drop ia++b.drop ib):=by
 refine⟨by rw[bR];exact h.pm,?_⟩
 rw[bR];exact JO.mpr ⟨h.so,JO.mpr ⟨l.drop _,u.drop _,c⟩,h.le⟩
theorem MLo.last(h:MLo r a b out ia ib)(u:Ris r a)(v:Ris r b)(c:∀y∈b.drop ib,∀x∈a.drop ia,r y<=r x):(out++b.drop ib++a.drop ia).Perm (a++b)/\Ris r (out++b.drop ib++a.drop ia):=by
 refine⟨?_,?_⟩
 ·rw[bR];exact(fN _ lN).trans h.pm
 ·rw[bR];refine JO.mpr ⟨h.so,JO.mpr ⟨v.drop _,u.drop _,c⟩,fun x hx y l=>h.le x hx y ?_⟩
  rcases aw.mp l with w|w
  ·exact m2 w
  ·exact m1 w
structure MHi(r:α->Int)(a b out:List α)(na nb:Nat):Prop where
 pm:((a.take na++b.take nb)++out).Perm (a++b)
 so:Ris r out
 le:∀x∈a.take na++b.take nb,∀y∈out,r x<=r y
theorem cut3(l:List α){n k:Nat}(h:k<=n):l.take n=l.take k++(l.take n).drop k:=by
 have:=fM k (l.take n);rw[List.take_take,lF h]at this;exact this.symm
theorem MHi.takeB(h:MHi r a b out na nb)(I:Ris r b)(J:k<=nb)(c:∀x∈a.take na,∀y∈(b.take nb).drop k,r x<=r y):MHi r a b ((b.take nb).drop k++out) na k:=by
 have e:=cut3 b J;obtain⟨C,G,u⟩:=h;have l:=I.take nb;rw[e]at C u l;have l:=JO.mp l;refine⟨?_,JO.mpr ⟨l.2.1,G,fun x hx y v=>u x (m2 (m2 hx)) y v⟩,fun x hx y v=>?_⟩
 ·refine iJ ?_ C;simp only[bR];exact pR _
 ·rcases aw.mp v with z|z
  ·rcases aw.mp hx with w|w
   ·exact c x w y z
   ·exact l.2.2 x w y z
  ·refine u x ?_ y z;rcases aw.mp hx with w|w
   ·exact m1 w
   ·exact m2 (m1 w)
theorem MHi.takeA(h:MHi r a b out na nb)(I:Ris r a)(J:k<=na)(c:∀x∈b.take nb,∀y∈(a.take na).drop k,r x<=r y):MHi r a b ((a.take na).drop k++out) k nb:=by
 have e:=cut3 a J;obtain⟨C,G,u⟩:=h;have l:=I.take na;rw[e]at C u l;have l:=JO.mp l;refine⟨?_,JO.mpr ⟨l.2.1,G,fun x hx y v=>u x (m1 (m2 hx)) y v⟩,fun x hx y v=>?_⟩
 ·refine iJ ?_ C;simp only[bR];exact fN _ (iO _ _ _)
 ·rcases aw.mp v with z|z
  ·rcases aw.mp hx with w|w
   ·exact l.2.2 x w y z
   ·exact c x w y z
  ·refine u x ?_ y z;rcases aw.mp hx with w|w
   ·exact m1 (m1 w)
   ·exact m2 w
theorem Uh{l:List α}{n:Nat}{y:α}(h:l[n]?=some y):(l.take (n+1)).drop n=[y]:=by
 have hi:=(ax.mp h).1;have e:(l.take (n+1))=l.take n++[y]:=by rw[dD,h];rfl
 rw[e,List.drop_append_of_le_length (by simp;omega),fD (by simp;omega)]
 rfl
theorem MHi.pushB{y:α}(h:MHi r a b out na (nb+1))(u:Ris r b)(e:b[nb]?=some y)(c:∀x∈a.take na,r x<=r y):MHi r a b (y::out) na nb:=by
 have:=h.takeB (k:=nb) u (by omega) (by rw[Uh e];intro x hx z l;cases az.mp l;exact c x hx)
 rwa [Uh e]at this
theorem MHi.pushA{x:α}(h:MHi r a b out (na+1) nb)(v:Ris r a)(e:a[na]?=some x)(c:∀y∈b.take nb,r y<=r x):MHi r a b (x::out) na nb:=by
 have:=h.takeA (k:=na) v (by omega) (by rw[Uh e];intro y l z u;cases az.mp u;exact c y l)
 rwa [Uh e]at this
theorem MHi.done(h:MHi r a b out na nb)(l:Ris r a)(u:Ris r b)(c:∀x∈a.take na,∀y∈b.take nb,r x<=r y):(a.take na++b.take nb++out).Perm (a++b)/\Ris r (a.take na++b.take nb++out) :=
 ⟨h.pm,JO.mpr ⟨JO.mpr ⟨l.take _,u.take _,c⟩,h.so,h.le⟩⟩
theorem MHi.first(h:MHi r a b out na nb)(u:Ris r a)(v:Ris r b)(c:∀y∈b.take nb,∀x∈a.take na,r y<=r x):(b.take nb++a.take na++out).Perm (a++b)/\Ris r (b.take nb++a.take na++out):=by
 refine⟨(lh _ lN).trans h.pm,JO.mpr ⟨JO.mpr ⟨v.take _,u.take _,c⟩,h.so,fun x hx y l=>h.le x ?_ y l⟩⟩
 rcases aw.mp hx with w|w
 ·exact m2 w
 ·exact m1 w
end
section
open PySem PySem.Spec PyProof.Rows
theorem ex4{y:Type}{I:Type}{G:Type}{C:Type}{A R:Prop}{X:y->I->G->C->Prop}(h:A/\∃x0 v u l,X x0 v u l)(k:A->∀x0 v u l,X x0 v u l->R):R:=by
 obtain⟨a,x0,v,u,l,x⟩:=h;exact k a x0 v u l x
theorem ex5{C:Type}{L:Type}{J:Type}{I:Type}{G:Type}{A R:Prop}{X:C->L->J->I->G->Prop}(h:A/\∃x0 v u l y,X x0 v u l y)(k:A->∀x0 v u l y,X x0 v u l y->R):R:=by
 obtain⟨a,x0,v,u,l,y,x⟩:=h;exact k a x0 v u l y x
theorem eo5{I:Type}{N:Type}{G:Type}{J:Type}{L:Type}{S U:Type}{A R:Prop}{X:I->N->G->J->L->Prop}{Y:S->U->Prop}(h:A/\((∃x0 v u l C,X x0 v u l C)\/∃m r,Y m r))(k:A->∀x0 v u l C,X x0 v u l C->R)(k2:A->∀m r,Y m r->R):R:=by
 obtain⟨a,⟨x0,v,u,l,C,x⟩|⟨m,r,y⟩⟩:=h
 ·exact k a x0 v u l C x
 ·exact k2 a m r y
theorem ex6{I:Type}{S:Type}{G:Type}{J:Type}{N:Type}{L:Type}{A R:Prop}{X:I->S->G->J->N->L->Prop}(h:A/\∃x0 y u l C v,X x0 y u l C v)(k:A->∀x0 y u l C v,X x0 y u l C v->R):R:=by
 obtain⟨a,x0,y,u,l,C,v,x⟩:=h;exact k a x0 y u l C v x
theorem eo6{J:Type}{U:Type}{I:Type}{L:Type}{S:Type}{N:Type}{Z γ:Type}{A R:Prop}{X:J->U->I->L->S->N->Prop}{Y:Z->γ->Prop}(h:A/\((∃x0 C u l G v,X x0 C u l G v)\/∃m r,Y m r))(k:A->∀x0 C u l G v,X x0 C u l G v->R)(k2:A->∀m r,Y m r->R):R:=by
 obtain⟨a,⟨x0,C,u,l,G,v,x⟩|⟨m,r,y⟩⟩:=h
 ·exact k a x0 C u l G v x
 ·exact k2 a m r y
theorem JB{M:m7}{A:bq}{E:qV}{s:aq}{σ α:Type}{c:Prop}{_:Decidable c}{t e:StateT σ Sem α}{Q:α->σ->Prop}{z:σ}(u:c->wpS M A E s t Q z)(l:¬c->wpS M A E s e Q z):wpS M A E s (if c then t else e) Q z:=by
 by_cases h:c
 ·rw[if_pos h];exact u h
 ·rw[if_neg h];exact l h
theorem zoe{M:m7}{A:bq}{E:qV}{s:aq}{σ α u:Type}{c:u->Prop}{_:∀o,Decidable (c o)}{t F:u->StateT σ Sem α}{Q:α->σ->Prop}{z:σ}(l:u)(P:u->Prop)
  (v:∀o,P o->wpS M A E s (F o) Q z) (y:c l->(∀o,P o->wpS M A E s (F o) Q z)->wpS M A E s (t l) Q z) (x:¬c l->P l):∀o,l=o->wpS M A E s (if c o then t o else F o) Q z:=by
 rintro o rfl;exact JB (fun h=>y h v) (fun h=>v _ (x h))
theorem Vu{M:m7}{A:bq}{E:qV}{s:aq}{σ α v x:Type}{c:v->x->Prop}{_:∀o i,Decidable (c o i)}{t F:v->x->StateT σ Sem α}{Q:α->σ->Prop}{z:σ}(u:v)(l:x)(P:v->x->Prop)
  (y:∀o i,P o i->wpS M A E s (F o i) Q z) (G:c u l->(∀o i,P o i->wpS M A E s (F o i) Q z)->wpS M A E s (t u l) Q z) (C:¬c u l->P u l):∀o,u=o->∀i,l=i->wpS M A E s (if c o i then t o i else F o i) Q z:=by
 rintro o rfl i rfl;exact JB (fun h=>G h y) (fun h=>y _ _ (C h))
end
end L2
namespace L2
open PySem PySem.Spec PyProof.Rows
def zfT:Array bM->Array bM->StateT bP Sem (Array bM):=sortPriv% PySem.Builtin.mergeLo
def zbQ:Nat->StateT bP Sem Unit:=sortPriv% PySem.Builtin.setMinGallop
section
variable{prog:aK}{w:aW}{A:bq}{E:qV}{s:aq}{kd:eN}{rk:ah->Int}{a0:Array bM}
structure SmS(z z':bP):Prop where
 kn:kindOf z'=kindOf z
 ar:arrOf z'=arrOf z
 pe:pendingOf z'=pendingOf z
 fl:failedOf z'=failedOf z
theorem SmS.refl(z:bP):SmS z z:=⟨rfl,rfl,rfl,rfl⟩
theorem SmS.trans{x y z:bP}(h:SmS x y)(k:SmS y z):SmS x z:=⟨k.kn.trans h.kn,k.ar.trans h.ar,k.pe.trans h.pe,k.fl.trans h.fl⟩
theorem V8{g:Nat}{z:bP}{Q:Unit->bP->Prop}(h:∀u,SmS z u->Q () u):wpS (model prog w) A E s (zbQ g) Q z:=by
 have l:zbQ=zbQ:=rfl
 conv at l=>rhs;whnf
 rw[l];dsimp only;clear l;exact ip (h _ ⟨rfl,rfl,rfl,rfl⟩)
theorem JS{x:Array bM}{i:Nat}{p:bM}{z:bP}{Q:bM->bP->Prop}(e:x[i]?=some p)(h:Q p z):wpS (model prog w) A E s (elem' x i) Q z:=by
 rw[vm,e];exact aH h
abbrev rkP(rk:ah->Int)(p:bM):Int:=rk p.1
theorem V0{x:Array bM}{i:Nat}:(x.extract i x.size).toList=x.toList.drop i:=by
 rw[lY];exact ck (by simp)
theorem VN{x:Array bM}{i k:Nat}:(x.extract i (i+k)).toList=(x.toList.drop i).take k:=by simp
theorem zlg{l:List bM}{i k:Nat}{x:bM}(h:x∈(l.drop i).take k):∃j,j<k/\l[i+j]?=some x:=by
 obtain⟨j,u,e⟩:=gn.mp h;refine⟨j,by omega,?_⟩
 have:=au (l:=l.drop i) (i:=j) (by omega)
 rw[ka,e]at this;exact this
theorem zh9{l:List bM}{i:Nat}{x:bM}(h:x∈l.drop i):∃j,i+j<l.length/\l[i+j]?=some x:=by
 obtain⟨j,u,e⟩:=bL h;have:=au u;rw[ka,e]at this;exact⟨j,by simp at u;omega,this⟩
theorem Qg{x:Array bM}{i:Nat}{p:bM}(h:x.toList[i]?=some p):rkAt rk x i=rkP rk p:=by
 unfold rkAt;rw[cN]at h;rw[h];rfl
theorem Z7{x:Array bM}(h:Ris (rkP rk) x.toList){i j:Nat}(u:i<j)(v:j<x.size):rkAt rk x i<=rkAt rk x j:=by
 have hi:i<x.toList.length:=by simp;omega
 have l:j<x.toList.length:=by simpa using v
 rw[Qg (au hi),Qg (au l)];exact bp.mp h i j hi l u
theorem zjZ{a b:Array bM}{z:bP}{Q:Array bM->bP->Prop}(c0:Cmp prog w A s kd rk a0)(k:kindOf z=kd)(ha:∀p∈a.toList,p∈a0.toList)(hb:∀p∈b.toList,p∈a0.toList)
  (sa:Ris (rkP rk) a.toList) (sb:Ris (rkP rk) b.toList) (na:0<a.size) (nb:0<b.size) (f1:∀y,b.toList[0]?=some y->∀x∈a.toList,rkP rk y<=rkP rk x)
  (f2:∀x,a.toList[a.size - 1]?=some x->∀y∈b.toList,rkP rk y<=rkP rk x)
  (h:∀m N,m.toList.Perm (a.toList++b.toList)->Ris (rkP rk) m.toList->SmS z N->Q m N):wpS (model prog w) A E s (zfT a b) Q z:=by
 have e_:zfT=zfT:=rfl
 conv at e_=>rhs;whnf
 rw[e_];clear e_;have gb:∀i,i<b.size->∃p,b[i]?=some p/\b.toList[i]?=some p/\p∈a0.toList:=fun i hi=>⟨b[i],bU hi,by simp[hi],hb _ (by simp)⟩
 have ga:∀i,i<a.size->∃p,a[i]?=some p/\a.toList[i]?=some p/\p∈a0.toList:=fun i hi=>⟨a[i],bU hi,by simp[hi],ha _ (by simp)⟩
 have gaA:∀u i,i<a.size - u->∃p,a[u+i]?=some p/\p∈a0.toList:=fun u i hi=>by
  obtain⟨p,e,_,m⟩:=ga (u+i) (by omega)
  exact⟨p,e,m⟩
 have gbA:∀u i,i<b.size - u->∃p,b[u+i]?=some p/\p∈a0.toList:=fun u i hi=>by
  obtain⟨p,e,_,m⟩:=gb (u+i) (by omega)
  exact⟨p,e,m⟩
 have upA:∀u i j,i<j->j<a.size - u->rkAt rk a (u+i)<=rkAt rk a (u+j):=fun u i j hij hj=>Z7 sa (by omega) (by omega)
 have upB:∀u i j,i<j->j<b.size - u->rkAt rk b (u+i)<=rkAt rk b (u+j):=fun u i j hij hj=>Z7 sb (by omega) (by omega)
 have Ky:∀i p,b.toList[i]?=some p->∀y∈b.toList.drop i,rkP rk p<=rkP rk y:=fun i p lp y J=>by
  have e:=cut2 b.toList i 1;rw[take1 lp]at e;have:=sb.drop i;rw[e]at this J;rcases aw.mp J with z|z
  ·cases az.mp z;exact bQ _
  ·exact(JO.mp this).2.2 p (by simp) y z
 have Kz:∀i p,a.toList[i]?=some p->∀y∈a.toList.drop i,rkP rk p<=rkP rk y:=fun i p lp y J=>by
  have e:=cut2 a.toList i 1;rw[take1 lp]at e;have:=sa.drop i;rw[e]at this J;rcases aw.mp J with z|z
  ·cases az.mp z;exact bQ _
  ·exact(JO.mp this).2.2 p (by simp) y z
 obtain⟨b0,eb0,lb0,mb0⟩:=gb 0 nb;have M0:MLo (rkP rk) a.toList b.toList [b0] 0 1:=by
  have:MLo (rkP rk) a.toList b.toList [] 0 0:=⟨by simp,fP,fun x hx=>nomatch hx⟩
  have:=this.pushB sb lb0 (by simpa using f1 b0 lb0)
  simpa using this
 refine aB (kO (dq ⟨rfl,?_⟩));refine aB (JS eb0 ?_);have IK:∀(out:Array bM) (v C:Nat) (N:bP),SmS z N->MLo (rkP rk) a.toList b.toList out.toList v C->(v=a.size\/C=b.size)->(out++a.extract v a.size++b.extract C b.size).toList.Perm (a.toList++b.toList)/\Ris (rkP rk) (out++a.extract v a.size++b.extract C b.size).toList:=fun out v C N S M e=>by
  rw[cx,cx,V0,V0];refine M.done sa sb fun x hx y J=>?_
  rcases e with rfl|rfl
  ·rw[fD (by simp)]at hx;cases hx
  ·rw[fD (by simp)]at J;cases J
 have IR:∀(out:Array bM) (v C:Nat) (N:bP),SmS z N->MLo (rkP rk) a.toList b.toList out.toList v C->v+1=a.size->(out++b.extract C b.size++a.extract v a.size).toList.Perm (a.toList++b.toList)/\Ris (rkP rk) (out++b.extract C b.size++a.extract v a.size).toList:=fun out v C N S M e=>by
  rw[cx,cx,V0,V0];refine M.last sa sb fun y J x hx=>?_
  obtain⟨p,ep,lp,mp⟩:=ga v (by omega)
  have:x=p:=by
   have R:=take1 lp;rw[ck (by simp;omega)]at R
   rw[R]at hx;exact az.mp hx
  subst this;exact f2 x (by rw[show a.size - 1=v by omega];exact lp) y (fW J)
 refine JB (fun h1=>?_) (fun h1=>?_)
 ·have:=IK #[b0] 0 1 z (.refl z) (by simpa using M0) (.inr (by simpa using h1))
  exact aH (h _ z this.1 this.2 (.refl z))
 refine JB (fun h2=>?_) (fun h2=>?_)
 ·have:=IR #[b0] 0 1 z (.refl z) (by simpa using M0) (by simpa using h2)
  exact aH (h _ z this.1 this.2 (.refl z))
 have h1:b.size≠1:=fun e=>h1 (by simp[e])
 have h2:a.size≠1:=fun e=>h2 (by simp[e])
 refine aB (iB ?_);refine aB (dR (cj (I:=fun X c N=>SmS z N/\∃out v C mg,c=(none,out,v,C,mg)/\MLo (rkP rk) a.toList b.toList (aR out) v C/\v+1<a.size/\C<b.size/\X+1<=v+C)
  (Q:=fun c N=>SmS z N/\∃m rest,c=(some m,rest)/\(aR m).Perm (a.toList++b.toList)/\Ris (rkP rk) (aR m)) ?turn ?last ⟨.refl z,#[b0],0,1,_,rfl,by simpa using M0,by omega,by omega,by omega⟩) ?post)
 case post =>
  rintro c N ⟨S,m,rest,rfl,q1,q2⟩;exact aH (h m N q1 q2 S)
 case last =>
  intro c N hI;refine ex4 hI fun S out v C mg q=>?_
  obtain rfl:=q.1;have M:=q.2.1;have l1:=q.2.2.1;have l2:=q.2.2.2.1;have l3:=q.2.2.2.2;omega
 case turn =>
  intro X c N _ hX hI;refine ex4 hI fun S out v C mg q=>?_
  obtain rfl:=q.1;have M:=q.2.1;have l1:=q.2.2.1;have l2:=q.2.2.2.1;have l3:=q.2.2.2.2;have kz:kindOf N=kd:=S.kn.trans k;refine aB (dR (cj (I:=fun x c G=>SmS z G/\∃out v C Z bc,c=(none,out,v,C,Z,bc)/\MLo (rkP rk) a.toList b.toList (aR out) v C/\v+1<a.size/\C<b.size/\X+1+x<=v+C)
   (Q:=fun c G=>SmS z G/\((∃out v C Z bc,c=(none,out,v,C,Z,bc)/\MLo (rkP rk) a.toList b.toList (aR out) v C/\v+1<a.size/\C<b.size/\X+2<=v+C)\/∃m rest,c=(some m,rest)/\(aR m).Perm (a.toList++b.toList)/\Ris (rkP rk) (aR m))) ?turn1 ?Uh ⟨S,out,v,C,0,0,rfl,M,l1,l2,by omega⟩) ?post1)
  case Uh =>
   intro c G hI;refine ex5 hI fun S out v C Z bc q=>?_
   obtain rfl:=q.1;have M:=q.2.1;have l1:=q.2.2.1;have l2:=q.2.2.2.1;have l3:=q.2.2.2.2;exact⟨S,.inl ⟨out,v,C,Z,bc,rfl,M,l1,l2,by omega⟩⟩
  case turn1 =>
   intro x c G _ hx hI;refine ex5 hI fun S out v C Z bc q=>?_
   obtain rfl:=q.1;have M:=q.2.1;have l1:=q.2.2.1;have l2:=q.2.2.2.1;have l3:=q.2.2.2.2;have kz:kindOf G=kd:=S.kn.trans k;dsimp only;obtain⟨p,ep,lp,mp⟩:=gb C l2;obtain⟨q,eq,lq,mq⟩:=ga v (by omega)
   have dB:∀y∈b.toList.drop C,rkP rk p<=rkP rk y:=fun y J=>by
    have e:=cut2 b.toList C 1;rw[take1 lp]at e;have:=sb.drop C;rw[e]at this J;rcases aw.mp J with z|z
    ·cases az.mp z;exact bQ _
    ·exact(JO.mp this).2.2 p (by simp) y z
   have dA:∀y∈a.toList.drop v,rkP rk q<=rkP rk y:=fun y J=>by
    have e:=cut2 a.toList v 1;rw[take1 lq]at e;have:=sa.drop v;rw[e]at this J;rcases aw.mp J with z|z
    ·cases az.mp z;exact bQ _
    ·exact(JO.mp this).2.2 q (by simp) y z
   refine aB (JS ep (aB (JS eq (aB (YQ c0 kz mp mq ?_)))));dsimp only;refine JB (fun Y=>?_) fun Y=>?_
   ·have Y:=of_decide_eq_true Y;have M':=M.pushB sb lp fun x hx=>dE (cO Y) (dA x hx)
    refine aB (JS ep ?_);refine JB (fun R=>?_) (fun R=>?_)
    ·have:=IK (out.push p) v (C+1) G S (by simpa using M') (.inr (by simpa using R))
     exact aH ⟨S,.inr ⟨_,_,rfl,this.1,this.2⟩⟩
    ·have R:C+1≠b.size:=fun e=>R (by simp[e])
     refine JB (fun e2=>?_) (fun e2=>?_)
     ·exact aH ⟨S,.inl ⟨_,_,_,_,_,rfl,by simpa using M',l1,by omega,by omega⟩⟩
     ·exact aH ⟨S,_,_,_,_,_,rfl,by simpa using M',l1,by omega,by omega⟩
   ·have Y:=of_decide_eq_false (g7.mpr Y);have M':=M.pushA sa lq fun y J=>dE (kb.mp Y) (dB y J)
    refine aB (JS eq ?_);refine JB (fun R=>?_) (fun R=>?_)
    ·have:=IR (out.push q) (v+1) C G S (by simpa using M') (by simpa using R)
     exact aH ⟨S,.inr ⟨_,_,rfl,this.1,this.2⟩⟩
    ·have R:v+1+1≠a.size:=fun e=>R (by simp[e])
     refine JB (fun e2=>?_) (fun e2=>?_)
     ·exact aH ⟨S,.inl ⟨_,_,_,_,_,rfl,by simpa using M',by omega,l2,by omega⟩⟩
     ·exact aH ⟨S,_,_,_,_,_,rfl,by simpa using M',by omega,l2,by omega⟩
  case post1 =>
   intro c G hI;refine eo5 hI (fun S out v C Z bc q=>?_) (fun S m rest q=>?_)
   ·obtain rfl:=q.1;have M:=q.2.1;have l1:=q.2.2.1;have l2:=q.2.2.2.1;have l3:=q.2.2.2.2;refine aB (kO (dq ⟨rfl,?_⟩));refine aB (dR (cj (I:=fun x c G=>SmS z G/\∃out v C mg Z bc,c=(none,out,v,C,mg,Z,bc)/\MLo (rkP rk) a.toList b.toList (aR out) v C/\v+1<a.size/\C<b.size/\X+2<=v+C)
     (Q:=fun c G=>SmS z G/\((∃out v C mg Z bc,c=(none,out,v,C,mg,Z,bc)/\MLo (rkP rk) a.toList b.toList (aR out) v C/\v+1<a.size/\C<b.size/\X+2<=v+C)\/∃m rest,c=(some m,rest)/\(aR m).Perm (a.toList++b.toList)/\Ris (rkP rk) (aR m))) ?turn2 ?last2 ⟨S,out,v,C,_,Z,bc,rfl,M,l1,l2,by omega⟩) ?post2)
    case last2 =>
     rintro c G ⟨S,r⟩;exact⟨S,.inl r⟩
    case post2 =>
     intro c G hI;refine eo6 hI (fun S out v C mg Z bc q=>?_) (fun S m rest q=>?_)
     ·obtain rfl:=q.1;have M:=q.2.1;have l1:=q.2.2.1;have l2:=q.2.2.2.1;have l3:=q.2.2.2.2;dsimp only;refine aB (V8 fun z3 S3=>?_)
      exact aH ⟨S.trans S3,out,v,C,_,rfl,M,l1,l2,by omega⟩
     ·obtain rfl:=q.1;have q1:=q.2.1;have q2:=q.2.2;exact aH ⟨S,m,_,rfl,q1,q2⟩
    case turn2 =>
     intro x c G _ hx hI;refine ex6 hI fun S out v C mg Z bc q=>?_
     obtain rfl:=q.1;have M:=q.2.1;have l1:=q.2.2.1;have l2:=q.2.2.2.1;have l3:=q.2.2.2.2;obtain⟨p,ep,lp,mp⟩:=gb C l2;have dB:=Ky C p lp;dsimp only;generalize hg:mg=g0;revert g0;refine zoe mg (fun _=>True) ?_ ?_ (fun _=>trivial)
     rotate_left
     ·exact fun _ hF=>hF _ trivial
     intro mg _;refine aB (V8 fun z3 S3=>?_)
     have S':=S.trans S3;have kz:kindOf z3=kd:=S'.kn.trans k;refine aB (JS ep (aB (Yy c0 kz mp (gaA v) (by omega) (upA v) fun k1 k1n k1t k1f=>?_)))
     dsimp only;have gA1:∀x∈(a.toList.drop v).take k1,∀y∈b.toList.drop C,rkP rk x<=rkP rk y:=fun x hx y J=>by
      obtain⟨j,jk,ej⟩:=zlg hx;have:=k1t j jk;unfold bey at this;rw[if_neg (by simp),Qg ej,fR,decide_eq_false_iff_not]at this
      exact dE (kb.mp this) (dB y J)
     have gA2:∀x∈a.toList.drop (v+k1),rkP rk p<=rkP rk x:=fun x hx=>by
      obtain⟨j,jl,ej⟩:=zh9 hx;have:=k1f (k1+j) (by omega) (by simp at jl;omega)
      unfold bey at this;rw[if_neg (by simp),show v+(k1+j)=v+k1+j by omega,Qg ej,mW,decide_eq_true_iff]at this
      exact cO this
     generalize ho:out=o0;generalize hi:v=i0;revert i0;revert o0;refine Vu out v (fun o i=>MLo (rkP rk) a.toList b.toList (aR o) i C/\i+1<a.size/\X+2<=i+C/\∀x∈a.toList.drop i,rkP rk p<=rkP rk x) ?_ ?_ ?_
     rotate_left
     ·intro hk1 hF;have M2:=M.takeA (k:=k1) sa gA1;rw[<- VN,<- cx]at M2;refine JB (fun e0=>?_) (fun e0=>JB (fun R=>?_) (fun R=>?_))
      ·have:=IR (out++a.extract v (v+k1)) (v+k1) C z3 S' M2 (by simpa using e0)
       exact aH ⟨S',.inr ⟨_,_,rfl,this.1,this.2⟩⟩
      ·have:=IK (out++a.extract v (v+k1)) (v+k1) C z3 S' M2 (.inl (by simpa using R))
       exact aH ⟨S',.inr ⟨_,_,rfl,this.1,this.2⟩⟩
      ·have e0:v+k1+1≠a.size:=fun e=>e0 (by simp[e])
       have R:v+k1≠a.size:=fun e=>R (by simp[e])
       exact hF _ _ ⟨M2,by omega,by omega,gA2⟩
     ·intro hk1;have hk0:k1=0:=by omega
      subst hk0;exact⟨M,l1,l3,gA2⟩
     intro o i ⟨M2,i1,i2,g⟩;have M3:=M2.pushB sb lp g;rw[<- nN]at M3;refine aB (JS ep ?_);refine JB (fun e2=>?_) (fun e2=>?_)
     ·have:=IK (gJ o p) i (C+1) z3 S' M3 (.inr (by simpa using e2))
      exact aH ⟨S',.inr ⟨_,_,rfl,this.1,this.2⟩⟩
     have e2:C+1≠b.size:=fun e=>e2 (by simp[e])
     obtain⟨q,eq,lq,mq⟩:=ga i (by omega)
     have dA:=Kz i q lq;refine aB (JS eq (aB (Yy c0 kz mq (gbA (C+1)) (by omega) (upB (C+1)) fun k2 k2n k2t k2f=>?_)))
     dsimp only;have gB1:∀y∈(b.toList.drop (C+1)).take k2,∀x∈a.toList.drop i,rkP rk y<=rkP rk x:=fun y J x hx=>by
      obtain⟨j,jk,ej⟩:=zlg J;have:=k2t j jk;unfold bey at this;rw[if_pos rfl,Qg ej,decide_eq_true_iff]at this;exact dE (cO this) (dA x hx)
     have gB2:∀y∈b.toList.drop (C+1+k2),rkP rk q<=rkP rk y:=fun y J=>by
      obtain⟨j,jl,ej⟩:=zh9 J;have:=k2f (k2+j) (by omega) (by simp at jl;omega)
      unfold bey at this;rw[if_pos rfl,show C+1+(k2+j)=C+1+k2+j by omega,Qg ej,decide_eq_false_iff_not]at this
      exact kb.mp this
     have l4:C+1<b.size:=by omega
     have l5:X+2<=i+(C+1):=by omega
     clear k2t k2f k1t k1f gA1 gA2 l3 M dB e2 l2;generalize gJ o p=o2 at M3 ⊢;generalize C+1=j2 at M3 gB1 gB2 l4 l5 k2n ⊢;generalize ho:o2=o0;generalize hi:j2=i0;revert i0;revert o0;refine Vu o2 j2 (fun o' j=>MLo (rkP rk) a.toList b.toList (aR o') i j/\j<b.size/\X+2<=i+j/\∀y∈b.toList.drop j,rkP rk q<=rkP rk y) ?_ ?_ ?_
     rotate_left
     ·intro hk2 hF;have M4:=M3.takeB (k:=k2) sb gB1;rw[<- VN,<- cx]at M4;refine JB (fun e3=>?_) (fun e3=>?_)
      ·have:=IK (o2++b.extract j2 (j2+k2)) i (j2+k2) z3 S' M4 (.inr (by simpa using e3))
       exact aH ⟨S',.inr ⟨_,_,rfl,this.1,this.2⟩⟩
      ·have e3:j2+k2≠b.size:=fun e=>e3 (by simp[e])
       exact hF _ _ ⟨M4,by omega,by omega,gB2⟩
     ·intro hk2;have hk0:k2=0:=by omega
      subst hk0;exact⟨M3,l4,l5,gB2⟩
     intro o3 j ⟨M4,j1,j3,g'⟩;have M5:=M4.pushA sa lq g';rw[<- nN]at M5;refine aB (JS eq ?_);refine JB (fun e4=>?_) (fun e4=>?_)
     ·have:=IR (gJ o3 q) (i+1) j z3 S' M5 (by simpa using e4)
      exact aH ⟨S',.inr ⟨_,_,rfl,this.1,this.2⟩⟩
     have e4:i+1+1≠a.size:=fun e=>e4 (by simp[e])
     refine JB (fun _=>?_) fun _=>?_
     ·exact aH ⟨S',.inl ⟨_,_,_,_,_,_,rfl,M5,by omega,by omega,by omega⟩⟩
     ·exact aH ⟨S',_,_,_,_,_,_,rfl,M5,by omega,by omega,by omega⟩
   ·obtain rfl:=q.1;have q1:=q.2.1;have q2:=q.2.2;exact aH ⟨S,m,_,rfl,q1,q2⟩
end
def zfU:Array bM->Array bM->StateT bP Sem (Array bM):=sortPriv% PySem.Builtin.mergeHi
section
variable{prog:aK}{w:aW}{A:bq}{E:qV}{s:aq}{kd:eN}{rk:ah->Int}{a0:Array bM}
theorem Ve{x:Array bM}{k:Nat}:(x.extract 0 k).toList=x.toList.take k:=by simp
theorem Vd{x:Array bM}{i k:Nat}:(x.extract i k).toList=(x.toList.take k).drop i:=by
 rw[lY,List.drop_take]
theorem zow{l:List bM}{n:Nat}{x:bM}(h:x∈l.take n):∃j,j<n/\l[j]?=some x:=by
 obtain⟨j,u,e⟩:=gn.mp h;exact⟨j,by omega,by rw[au (by omega),e]⟩
theorem zlf{l:List bM}{n i:Nat}{x:bM}(h:x∈(l.take n).drop i):∃j,i<=j/\j<n/\l[j]?=some x:=by
 obtain⟨j,u,e⟩:=zh9 h;rw[eG]at u;rw[kD (by omega)]at e
 exact⟨i+j,by omega,by omega,e⟩
theorem MHi.pushB'{r:bM->Int}{a b out:List bM}{na nb:Nat}{y:bM}(h:MHi r a b out na nb)(l:Ris r b)(p:1<=nb)(e:b[nb - 1]?=some y)(c:∀x∈a.take na,r x<=r y):MHi r a b (y::out) na (nb - 1):=by
 obtain⟨m,rfl⟩:∃m,nb=m+1:=⟨nb - 1,by omega⟩
 exact h.pushB l e c
theorem MHi.pushA'{r:bM->Int}{a b out:List bM}{na nb:Nat}{x:bM}(h:MHi r a b out na nb)(l:Ris r a)(p:1<=na)(e:a[na - 1]?=some x)(c:∀y∈b.take nb,r y<=r x):MHi r a b (x::out) (na - 1) nb:=by
 obtain⟨m,rfl⟩:∃m,na=m+1:=⟨na - 1,by omega⟩
 exact h.pushA l e c
theorem zj0{a b:Array bM}{z:bP}{Q:Array bM->bP->Prop}(c0:Cmp prog w A s kd rk a0)(k:kindOf z=kd)(ha:∀p∈a.toList,p∈a0.toList)(hb:∀p∈b.toList,p∈a0.toList)
  (sa:Ris (rkP rk) a.toList) (sb:Ris (rkP rk) b.toList) (na:0<a.size) (nb:0<b.size) (f1:∀y,b.toList[0]?=some y->∀x∈a.toList,rkP rk y<=rkP rk x)
  (f2:∀x,a.toList[a.size - 1]?=some x->∀y∈b.toList,rkP rk y<=rkP rk x)
  (h:∀m z',m.toList.Perm (a.toList++b.toList)->Ris (rkP rk) m.toList->SmS z z'->Q m z'):wpS (model prog w) A E s (zfU a b) Q z:=by
 have e_:zfU=zfU:=rfl
 conv at e_=>rhs;whnf
 rw[e_];clear e_;have gb:∀i,i<b.size->∃p,b[i]?=some p/\b.toList[i]?=some p/\p∈a0.toList:=fun i hi=>⟨b[i],bU hi,by simp[hi],hb _ (by simp)⟩
 have ga:∀i,i<a.size->∃p,a[i]?=some p/\a.toList[i]?=some p/\p∈a0.toList:=fun i hi=>⟨a[i],bU hi,by simp[hi],ha _ (by simp)⟩
 have gaA:∀u i,i<u->u<=a.size->∃p,a[0+i]?=some p/\p∈a0.toList:=fun u i hi hu=>by
  obtain⟨p,e,_,m⟩:=ga i (by omega)
  exact⟨p,by rw[dO];exact e,m⟩
 have gbA:∀u i,i<u->u<=b.size->∃p,b[0+i]?=some p/\p∈a0.toList:=fun u i hi hu=>by
  obtain⟨p,e,_,m⟩:=gb i (by omega)
  exact⟨p,by rw[dO];exact e,m⟩
 have upA:∀u i j,u<=a.size->i<j->j<u->rkAt rk a (0+i)<=rkAt rk a (0+j):=fun u i j hu hij hj=>Z7 sa (by omega) (by omega)
 have upB:∀u i j,u<=b.size->i<j->j<u->rkAt rk b (0+i)<=rkAt rk b (0+j):=fun u i j hu hij hj=>Z7 sb (by omega) (by omega)
 have IS:∀(l:List bM),Ris (rkP rk) l->∀n p,l[n]?=some p->∀y∈l.take (n+1),rkP rk y<=rkP rk p:=fun l sl n p lp y J=>by
  have e:l.take (n+1)=l.take n++[p]:=by rw[dD,lp];rfl
  have:=sl.take (n+1);rw[e]at this J;rcases aw.mp J with z|z
  ·exact(JO.mp this).2.2 y z p (by simp)
  ·cases az.mp z;exact bQ _
 obtain⟨x0,ex0,lx0,mx0⟩:=ga (a.size - 1) (by omega)
 have M0:MHi (rkP rk) a.toList b.toList [x0] (a.size - 1) b.size:=by
  have:MHi (rkP rk) a.toList b.toList [] (a.size - 1+1) b.size:=⟨by rw[ck (by simp;omega),ck (by simp)];simp,fP,fun x _ y J=>nomatch J⟩
  exact this.pushA sa lx0 fun y J=>f2 x0 lx0 y (cP J)
 refine aB (kO (dq ⟨rfl,?_⟩));refine aB (JS ex0 ?_);have IK:∀(out:Array bM) (na nb:Nat),MHi (rkP rk) a.toList b.toList out.toList.reverse na nb->(na=0\/nb=0)->(a.extract 0 na++b.extract 0 nb++out.reverse).toList.Perm (a.toList++b.toList)/\Ris (rkP rk) (a.extract 0 na++b.extract 0 nb++out.reverse).toList:=fun out na nb M e=>by
  rw[cx,cx,Ve,Ve,lZ];refine M.done sa sb fun x hx y J=>?_
  rcases e with rfl|rfl
  ·simp at hx
  ·simp at J
 have IR:∀(out:Array bM) (na nb:Nat),MHi (rkP rk) a.toList b.toList out.toList.reverse na nb->nb=1->(b.extract 0 nb++a.extract 0 na++out.reverse).toList.Perm (a.toList++b.toList)/\Ris (rkP rk) (b.extract 0 nb++a.extract 0 na++out.reverse).toList:=fun out na nb M e=>by
  rw[cx,cx,Ve,Ve,lZ];refine M.first sa sb fun y J x hx=>?_
  subst e;obtain⟨p,ep,lp,mp⟩:=gb 0 (by omega)
  have N:=take1 lp;rw[kc]at N;rw[N]at J;cases az.mp J;exact f1 _ lp x (cP hx)
 refine JB (fun h1=>?_) (fun h1=>?_)
 ·have:=IK #[x0] (a.size - 1) b.size (by simpa using M0) (.inl (by simpa using h1))
  exact aH (h _ z this.1 this.2 (.refl z))
 refine JB (fun h2=>?_) (fun h2=>?_)
 ·have:=IR #[x0] (a.size - 1) b.size (by simpa using M0) (by simpa using h2)
  exact aH (h _ z this.1 this.2 (.refl z))
 have h1:a.size - 1≠0:=fun e=>h1 (by simp[e])
 have h2:b.size≠1:=fun e=>h2 (by simp[e])
 refine aB (iB ?_);refine aB (dR (cj (I:=fun X c z'=>SmS z z'/\∃na nb out mg,c=(none,na,nb,out,mg)/\MHi (rkP rk) a.toList b.toList (aR out).reverse na nb/\1<=na/\2<=nb/\na<=a.size/\nb<=b.size/\na+nb+X+1<=a.size+b.size)
  (Q:=fun c z'=>SmS z z'/\∃m rest,c=(some m,rest)/\(aR m).Perm (a.toList++b.toList)/\Ris (rkP rk) (aR m)) ?turn ?last ⟨.refl z,a.size - 1,b.size,#[x0],_,rfl,by simpa using M0,by omega,by omega,by omega,by omega,by omega⟩) ?post)
 case post =>
  rintro c z' ⟨S,m,rest,rfl,q1,q2⟩;exact aH (h m z' q1 q2 S)
 case last =>
  intro c z' hI;refine ex4 hI fun S na nb out mg q=>?_
  obtain rfl:=q.1;have M:=q.2.1;have l1:=q.2.2.1;have l2:=q.2.2.2.1;have l4:=q.2.2.2.2.1;have l5:=q.2.2.2.2.2.1;have l3:=q.2.2.2.2.2.2;omega
 case turn =>
  intro X c z' _ hX hI;refine ex4 hI fun S na nb out mg q=>?_
  obtain rfl:=q.1;have M:=q.2.1;have l1:=q.2.2.1;have l2:=q.2.2.2.1;have l4:=q.2.2.2.2.1;have l5:=q.2.2.2.2.2.1;have l3:=q.2.2.2.2.2.2;have kz:kindOf z'=kd:=S.kn.trans k;refine aB (dR (cj (I:=fun x c C=>SmS z C/\∃na nb out Y Z,c=(none,na,nb,out,Y,Z)/\MHi (rkP rk) a.toList b.toList (aR out).reverse na nb/\1<=na/\2<=nb/\na<=a.size/\nb<=b.size/\na+nb+X+1+x<=a.size+b.size)
   (Q:=fun c C=>SmS z C/\((∃na nb out Y Z,c=(none,na,nb,out,Y,Z)/\MHi (rkP rk) a.toList b.toList (aR out).reverse na nb/\1<=na/\2<=nb/\na<=a.size/\nb<=b.size/\na+nb+X+2<=a.size+b.size)\/∃m rest,c=(some m,rest)/\(aR m).Perm (a.toList++b.toList)/\Ris (rkP rk) (aR m))) ?turn1 ?Uh ⟨S,na,nb,out,0,0,rfl,M,l1,l2,l4,l5,by omega⟩) ?post1)
  case Uh =>
   intro c C hI;refine ex5 hI fun S na nb out Y Z q=>?_
   obtain rfl:=q.1;have M:=q.2.1;have l1:=q.2.2.1;have l2:=q.2.2.2.1;have l4:=q.2.2.2.2.1;have l5:=q.2.2.2.2.2.1;have l3:=q.2.2.2.2.2.2;exact⟨S,.inl ⟨na,nb,out,Y,Z,rfl,M,l1,l2,l4,l5,by omega⟩⟩
  case turn1 =>
   intro x c C _ hx hI;refine ex5 hI fun S na nb out Y Z q=>?_
   obtain rfl:=q.1;have M:=q.2.1;have l1:=q.2.2.1;have l2:=q.2.2.2.1;have l4:=q.2.2.2.2.1;have l5:=q.2.2.2.2.2.1;have l3:=q.2.2.2.2.2.2;have kz:kindOf C=kd:=S.kn.trans k;dsimp only;obtain⟨p,ep,lp,mp⟩:=gb (nb - 1) (by omega)
   obtain⟨q,eq,lq,mq⟩:=ga (na - 1) (by omega)
   have dB:=IS b.toList sb (nb - 1) p lp;rw[show nb - 1+1=nb by omega]at dB
   have dA:=IS a.toList sa (na - 1) q lq;rw[show na - 1+1=na by omega]at dA
   refine aB (JS ep (aB (JS eq (aB (YQ c0 kz mp mq ?_)))));dsimp only;refine JB (fun R=>?_) fun R=>?_
   ·have R:=of_decide_eq_true R;have M':=M.pushA' sa (by omega) lq fun y J=>dE (dB y J) (cO R)
    refine aB (JS eq ?_);refine JB (fun N=>?_) (fun N=>?_)
    ·have:=IK (out.push q) (na - 1) nb (by simpa using M') (.inl (by simpa using N))
     exact aH ⟨S,.inr ⟨_,_,rfl,this.1,this.2⟩⟩
    ·have N:na - 1≠0:=fun e=>N (by simp[e])
     refine JB (fun e2=>?_) (fun e2=>?_)
     ·exact aH ⟨S,.inl ⟨_,_,_,_,_,rfl,by simpa using M',by omega,by omega,by omega,by omega,by omega⟩⟩
     ·exact aH ⟨S,_,_,_,_,_,rfl,by simpa using M',by omega,by omega,by omega,by omega,by omega⟩
   ·have R:=of_decide_eq_false (g7.mpr R);have M':=M.pushB' sb (by omega) lp fun x hx=>dE (dA x hx) (kb.mp R)
    refine aB (JS ep ?_);refine JB (fun N=>?_) (fun N=>?_)
    ·have:=IR (out.push p) na (nb - 1) (by simpa using M') (by simpa using N)
     exact aH ⟨S,.inr ⟨_,_,rfl,this.1,this.2⟩⟩
    ·have N:nb - 1≠1:=fun e=>N (by simp[e])
     refine JB (fun e2=>?_) (fun e2=>?_)
     ·exact aH ⟨S,.inl ⟨_,_,_,_,_,rfl,by simpa using M',by omega,by omega,by omega,by omega,by omega⟩⟩
     ·exact aH ⟨S,_,_,_,_,_,rfl,by simpa using M',by omega,by omega,by omega,by omega,by omega⟩
  case post1 =>
   intro c C hI;refine eo5 hI (fun S na nb out Y Z q=>?_) (fun S m rest q=>?_)
   ·obtain rfl:=q.1;have M:=q.2.1;have l1:=q.2.2.1;have l2:=q.2.2.2.1;have l4:=q.2.2.2.2.1;have l5:=q.2.2.2.2.2.1;have l3:=q.2.2.2.2.2.2;refine aB (kO (dq ⟨rfl,?_⟩));refine aB (dR (cj (I:=fun x c C=>SmS z C/\∃na nb out mg Y Z,c=(none,na,nb,out,mg,Y,Z)/\MHi (rkP rk) a.toList b.toList (aR out).reverse na nb/\1<=na/\2<=nb/\na<=a.size/\nb<=b.size/\na+nb+X+2<=a.size+b.size)
     (Q:=fun c C=>SmS z C/\((∃na nb out mg Y Z,c=(none,na,nb,out,mg,Y,Z)/\MHi (rkP rk) a.toList b.toList (aR out).reverse na nb/\1<=na/\2<=nb/\na<=a.size/\nb<=b.size/\na+nb+X+2<=a.size+b.size)\/∃m rest,c=(some m,rest)/\(aR m).Perm (a.toList++b.toList)/\Ris (rkP rk) (aR m))) ?turn2 ?last2 ⟨S,na,nb,out,_,Y,Z,rfl,M,l1,l2,l4,l5,by omega⟩) ?post2)
    case last2 =>
     rintro c C ⟨S,r⟩;exact⟨S,.inl r⟩
    case post2 =>
     intro c C hI;refine eo6 hI (fun S na nb out mg Y Z q=>?_) (fun S m rest q=>?_)
     ·obtain rfl:=q.1;have M:=q.2.1;have l1:=q.2.2.1;have l2:=q.2.2.2.1;have l4:=q.2.2.2.2.1;have l5:=q.2.2.2.2.2.1;have l3:=q.2.2.2.2.2.2;dsimp only;refine aB (V8 fun z3 S3=>?_)
      exact aH ⟨S.trans S3,na,nb,out,_,rfl,M,l1,l2,l4,l5,by omega⟩
     ·obtain rfl:=q.1;have q1:=q.2.1;have q2:=q.2.2;exact aH ⟨S,m,_,rfl,q1,q2⟩
    case turn2 =>
     intro x c C _ hx hI;refine ex6 hI fun S na nb out mg Y Z q=>?_
     obtain rfl:=q.1;have M:=q.2.1;have l1:=q.2.2.1;have l2:=q.2.2.2.1;have l4:=q.2.2.2.2.1;have l5:=q.2.2.2.2.2.1;have l3:=q.2.2.2.2.2.2;obtain⟨p,ep,lp,mp⟩:=gb (nb - 1) (by omega)
     have dB:=IS b.toList sb (nb - 1) p lp;rw[show nb - 1+1=nb by omega]at dB
     dsimp only;generalize hg:mg=g0;revert g0;refine zoe mg (fun _=>True) ?_ ?_ (fun _=>trivial)
     rotate_left
     ·exact fun _ hF=>hF _ trivial
     intro mg _;refine aB (V8 fun z3 S3=>?_)
     have S':=S.trans S3;have kz:kindOf z3=kd:=S'.kn.trans k;refine aB (JS ep (aB (Yy c0 kz mp (fun i hi=>gaA na i hi (by omega)) (by omega) (fun i j=>upA na i j (by omega)) fun G k1n k1t k1f=>?_)))
     dsimp only;have gA1:∀x∈b.toList.take nb,∀y∈(a.toList.take na).drop G,rkP rk x<=rkP rk y:=fun x hx y J=>by
      obtain⟨j,j1,j2,ej⟩:=zlf J;have:=k1f j j1 j2;unfold bey at this;rw[if_neg (by simp),dO,Qg ej,mW,decide_eq_true_iff]at this
      exact dE (dB x hx) (cO this)
     have gA2:∀x∈a.toList.take G,rkP rk x<=rkP rk p:=fun x hx=>by
      obtain⟨j,j1,ej⟩:=zow hx;have:=k1t j j1;unfold bey at this;rw[if_neg (by simp),dO,Qg ej,fR,decide_eq_false_iff_not]at this
      exact kb.mp this
     generalize hk:na - G=k1;generalize ho:out=o0;generalize hi:na=i0;revert i0;revert o0;refine Vu out na (fun o i=>MHi (rkP rk) a.toList b.toList (aR o).reverse i nb/\1<=i/\i<=na/\∀x∈a.toList.take i,rkP rk x<=rkP rk p) ?_ ?_ ?_
     rotate_left
     ·intro hk1 hF;have M2:=M.takeA (k:=G) sa k1n gA1;rw[<- Vd]at M2;have M2':MHi (rkP rk) a.toList b.toList (aR (out++(a.extract G na).reverse)).reverse G nb:=by simpa using M2
      refine JB (fun N=>?_) (fun N=>?_)
      ·have:=IK (out++(a.extract G na).reverse) G nb M2' (.inl (by simpa using N))
       exact aH ⟨S',.inr ⟨_,_,rfl,this.1,this.2⟩⟩
      ·have N:G≠0:=fun e=>N (by simp[e])
       exact hF _ _ ⟨M2',by omega,k1n,gA2⟩
     ·intro hk1;have hk0:G=na:=by omega
      rw[hk0]at gA2;exact⟨M,l1,aC _,gA2⟩
     intro o i ⟨M2,i1,i2,g⟩;have M3:=M2.pushB' sb (by omega) lp g
     have M3':MHi (rkP rk) a.toList b.toList (aR (gJ o p)).reverse i (nb - 1):=by simpa using M3
     refine aB (JS ep ?_);refine JB (fun e2=>?_) (fun e2=>?_)
     ·have:=IR (gJ o p) i (nb - 1) M3' (by simpa using e2)
      exact aH ⟨S',.inr ⟨_,_,rfl,this.1,this.2⟩⟩
     have e2:nb - 1≠1:=fun e=>e2 (by simp[e])
     obtain⟨q,eq,lq,mq⟩:=ga (i - 1) (by omega)
     have dA:=IS a.toList sa (i - 1) q lq;rw[show i - 1+1=i by omega]at dA
     refine aB (JS eq (aB (Yy c0 kz mq (fun i hi=>gbA (nb - 1) i hi (by omega)) (by omega) (fun i j=>upB (nb - 1) i j (by omega)) fun at2 k2n k2t k2f=>?_)))
     dsimp only;have gB1:∀x∈a.toList.take i,∀y∈(b.toList.take (nb - 1)).drop at2,rkP rk x<=rkP rk y:=fun x hx y J=>by
      obtain⟨j,j1,j2,ej⟩:=zlf J;have:=k2f j j1 j2;unfold bey at this;rw[if_pos rfl,dO,Qg ej,decide_eq_false_iff_not]at this;exact dE (dA x hx) (kb.mp this)
     have gB2:∀y∈b.toList.take at2,rkP rk y<=rkP rk q:=fun y J=>by
      obtain⟨j,j1,ej⟩:=zow J;have:=k2t j j1;unfold bey at this;rw[if_pos rfl,dO,Qg ej,decide_eq_true_iff]at this;exact cO this
     have l6:2<=nb - 1:=by omega
     have l7:nb - 1<=b.size:=by omega
     have l8:i+(nb - 1)+X+2<=a.size+b.size:=by omega
     have l9:i<=a.size:=by omega
     clear k2t k2f k1t k1f gA1 gA2 dB e2 M M2 M3 hk k1n l1 l2 l3 l4 l5 i2;generalize gJ o p=o2 at M3' ⊢;generalize nb - 1=j2 at M3' gB1 l6 l7 l8 k2n ⊢;generalize hk2:j2 - at2=k2;generalize ho:o2=o0;generalize hi:j2=i0;revert i0;revert o0;refine Vu o2 j2 (fun o' j=>MHi (rkP rk) a.toList b.toList (aR o').reverse i j/\2<=j/\j<=j2/\∀y∈b.toList.take j,rkP rk y<=rkP rk q) ?_ ?_ ?_
     rotate_left
     ·intro hk2 hF;have M4:=M3'.takeB (k:=at2) sb k2n gB1;rw[<- Vd]at M4;have M4':MHi (rkP rk) a.toList b.toList (aR (o2++(b.extract at2 j2).reverse)).reverse i at2:=by simpa using M4
      refine JB (fun e3=>?_) (fun e3=>JB (fun e5=>?_) (fun e5=>?_))
      ·have:=IR (o2++(b.extract at2 j2).reverse) i at2 M4' (by simpa using e3)
       exact aH ⟨S',.inr ⟨_,_,rfl,this.1,this.2⟩⟩
      ·have:=IK (o2++(b.extract at2 j2).reverse) i at2 M4' (.inr (by simpa using e5))
       exact aH ⟨S',.inr ⟨_,_,rfl,this.1,this.2⟩⟩
      ·have e3:at2≠1:=fun e=>e3 (by simp[e])
       have e5:at2≠0:=fun e=>e5 (by simp[e])
       exact hF _ _ ⟨M4',by omega,k2n,gB2⟩
     ·intro hk2;have hk0:at2=j2:=by omega
      rw[hk0]at gB2;exact⟨M3',l6,aC _,gB2⟩
     intro o3 j ⟨M4,j1,j3,g'⟩;have M5:=M4.pushA' sa (by omega) lq g'
     have M5':MHi (rkP rk) a.toList b.toList (aR (gJ o3 q)).reverse (i - 1) j:=by simpa using M5
     refine aB (JS eq ?_);refine JB (fun e4=>?_) (fun e4=>?_)
     ·have:=IK (gJ o3 q) (i - 1) j M5' (.inl (by simpa using e4))
      exact aH ⟨S',.inr ⟨_,_,rfl,this.1,this.2⟩⟩
     have e4:i - 1≠0:=fun e=>e4 (by simp[e])
     refine JB (fun _=>?_) fun _=>?_
     ·exact aH ⟨S',.inl ⟨_,_,_,_,_,_,rfl,M5',by omega,by omega,by omega,by omega,by omega⟩⟩
     ·exact aH ⟨S',_,_,_,_,_,_,rfl,M5',by omega,by omega,by omega,by omega,by omega⟩
   ·obtain rfl:=q.1;have q1:=q.2.1;have q2:=q.2.2;exact aH ⟨S,m,_,rfl,q1,q2⟩
end
theorem zko{α:Type}{l:List α}{i:Nat}{p:α}(h:i<l.length):(l.set i p).take (i+1)=l.take i++[p]:=by
 rw[dD,cf h,List.take_set_of_le (aC _)]
 rfl
theorem zl4{α:Type}{l:List α}{i j:Nat}{p:α}(h:i<j):(l.set i p).drop j=l.drop j:=by
 rw[List.drop_set];rw[if_pos h]
theorem zkI{α:Type}(o:Nat):∀(m:List α) (n:Nat) (x:Array α),o+n+m.length<=x.size ->
  ((m.zipIdx n).foldl (fun a (q:α×Nat)=>a.setIfInBounds (o+q.2) q.1) x).toList=x.toList.take (o+n)++m++x.toList.drop (o+n+m.length)
 | [],n,x,h=>by simp
 | p::ms,n,x,h=>by
  rw[aP]at h;rw[kP,oS,zkI o ms (n+1) _ (by rw[Array.size_setIfInBounds];omega)]
  have e:(x.setIfInBounds (o+n) p).toList=x.toList.set (o+n) p:=by simp
  have u:o+n<x.toList.length:=by simp;omega
  dsimp only;rw[e,show o+(n+1)=o+n+1 by omega,zko u,zl4 (by omega),aP,show o+n+1+ms.length=o+n+(ms.length+1) by omega]
  simp
def UpL(rk:ah->Int)(xs:Array bM)(lo m:Nat):Prop:=∀i j,i<j->j<m->rkAt rk xs (lo+i)<=rkAt rk xs (lo+j)
section
variable{prog:aK}{w:aW}{A:bq}{E:qV}{s:aq}{kd:eN}{rk:ah->Int}{a0:Array bM}
theorem zoR{z l:bP}{Q:PUnit->bP->Prop}(h:Q ⟨⟩ l):wpS (model prog w) A E s (set l:StateT bP Sem PUnit) Q z:=by
 unfold wpS;rw[StateT.run_set];exact aj ⟨rfl,h⟩
theorem zkC{x:Array bM}{lo m:Nat}(h:UpL rk x lo m)(hx:lo+m<=x.size):Ris (rkP rk) (x.extract lo (lo+m)).toList:=by
 refine bp.mpr fun i j hi v u=>?_
 have y:i<m:=by simp at hi;lia
 have l:j<m:=by simp at v;lia
 have:=h i j u l;rw[Qg (p:=(x.extract lo (lo+m)).toList[i]) (by simp),Qg (p:=(x.extract lo (lo+m)).toList[j]) (by simp)]at this
 exact this
theorem Vz{x:Array bM}{lo hi:Nat}{p:bM}(h:p∈(x.extract lo hi).toList):∃j,lo<=j/\j<hi/\j<x.size/\rkAt rk x j=rkP rk p:=by
 obtain⟨i,u,e⟩:=bL h;have l:i<hi - lo/\i+lo<x.size:=by simp at u;lia
 refine⟨lo+i,by lia,by lia,by lia,Qg ?_⟩
 rw[<- e];simp
theorem ix1{s n y:Nat}(h:n<=y):s+n+(y - n)=s+y:=by lia
theorem zj1{i sa na nb pw pw2:Nat}{z:bP}{Q:Bool->bP->Prop}(c:Cmp prog w A s kd rk a0)(k:kindOf z=kd)(fl:failedOf z=none)(pm:(arrOf z).Perm a0)
  (p1:(pendingOf z)[i]?=some (sa,na,pw)) (p2:(pendingOf z)[i+1]?=some (sa+na,nb,pw2)) (hna:0<na) (hnb:0<nb) (hs:sa+na+nb<=a0.size) (u1:UpL rk (arrOf z) sa na) (u2:UpL rk (arrOf z) (sa+na) nb)
  (h:∀y,kindOf y=kd->failedOf y=none->(arrOf y).Perm a0->pendingOf y=((pendingOf z).setIfInBounds i (sa,na+nb,pw)).eraseIdxIfInBounds (i+1)->UpL rk (arrOf y) sa (na+nb)->(∀j,j<sa\/sa+na+nb<=j->rkAt rk (arrOf y) j=rkAt rk (arrOf z) j)->Q true y) :
  wpS (model prog w) A E s (mergeAt' i) Q z:=by
 have sz:(arrOf z).size=a0.size:=pm.size_eq;have mem:∀j,j<a0.size->∃p,(arrOf z)[j]?=some p/\p∈a0.toList:=fun j C=>by
  have Z:j<(arrOf z).size:=by lia
  exact⟨(arrOf z)[j],bU Z,(cQ.mp pm).mem_iff.mp (by simp)⟩
 have KA:∀p∈(arrOf z).toList,p∈a0.toList:=fun p hp=>(cQ.mp pm).mem_iff.mp hp
 have e_:mergeAt'=mergeAt':=rfl
 conv at e_=>rhs;whnf
 rw[e_];dsimp only;clear e_;refine aB (iB ?_);change (arrOf z).size=_ at sz;have p1':=p1;have p2':=p2;unfold pendingOf at p1' p2';rw[p1',p2'];dsimp only;refine aB (zoR ?_);obtain⟨v0,ev0,mv0⟩:=mem (sa+na) (by lia)
 refine aB (JS ev0 ?_);have rv0:rkAt rk (arrOf z) (sa+na)=rk v0.1:=by unfold rkAt;rw[ev0];rfl
 refine aB (Yy c k mv0 (fun j C=>mem _ (by lia)) hna u1 fun k hk t1 t2=>?_)
 have b1:∀j,j<k->rkAt rk (arrOf z) (sa+j)<=rkAt rk (arrOf z) (sa+na):=fun j C=>by
  have:=t1 j C;rw[rv0];unfold bey at this;simp at this;exact this
 have b2:∀j,k<=j->j<na->rkAt rk (arrOf z) (sa+na)<rkAt rk (arrOf z) (sa+j):=fun j C Z=>by
  have:=t2 j C Z;rw[rv0];unfold bey at this;simp at this;exact this
 dsimp only
 by_cases e1:(na - k == 0)=true
 ·rw[if_pos e1];have ek:k=na:=by simp at e1;lia
  refine aH (h _ (by assumption) fl pm rfl ?_ (fun _ _=>rfl))
  intro x y v R;change rkAt rk (arrOf z) (sa+x)<=rkAt rk (arrOf z) (sa+y)
  by_cases hy2:y<na
  ·exact u1 x y v hy2
  ·by_cases hx2:x<na
   ·have q1:=b1 x (by lia)
    by_cases hy3:y=na
    ·rw[hy3];exact q1
    ·have J:=u2 0 (y - na) (by lia) (by lia)
     rw[ix1 (show na<=y by lia)]at J
     simp at J;lia
   ·have J:=u2 (x - na) (y - na) (by lia) (by lia)
    rw[ix1 (show na<=y by lia),ix1 (show na<=x by lia)]at J
    exact J
 rw[if_neg e1];have hk2:k<na:=by simp at e1;lia
 obtain⟨ul,eul,mul⟩:=mem (sa+k+(na - k) - 1) (by lia)
 refine aB (JS eul ?_);have rul:rkAt rk (arrOf z) (sa+na - 1)=rk ul.1:=by unfold rkAt;rw[show sa+na - 1=sa+k+(na - k) - 1 by lia,eul];rfl
 refine aB (Yy c (by assumption) mul (fun j C=>mem _ (by lia)) (by lia) u2 fun m hm t3 t4=>?_)
 have b3:∀j,j<m->rkAt rk (arrOf z) (sa+na+j)<rkAt rk (arrOf z) (sa+na - 1):=fun j C=>by
  have:=t3 j C;rw[rul];unfold bey at this;simp at this;exact this
 have b4:∀j,m<=j->j<nb->rkAt rk (arrOf z) (sa+na - 1)<=rkAt rk (arrOf z) (sa+na+j):=fun j C Z=>by
  have:=t4 j C Z;rw[rul];unfold bey at this;simp at this;exact this
 dsimp only;have le1:∀x y,x<=y->y<na->rkAt rk (arrOf z) (sa+x)<=rkAt rk (arrOf z) (sa+y):=fun x y v R=>by
  by_cases e:x=y
  ·rw[e];exact bQ _
  ·exact u1 x y (by lia) R
 have le2:∀x y,x<=y->y<nb->rkAt rk (arrOf z) (sa+na+x)<=rkAt rk (arrOf z) (sa+na+y):=fun x y v R=>by
  by_cases e:x=y
  ·rw[e];exact bQ _
  ·exact u2 x y (by lia) R
 by_cases e2:(m == 0)=true
 ·rw[if_pos e2];have em:m=0:=by simpa using e2
  refine aH (h _ (by assumption) fl pm rfl ?_ (fun _ _=>rfl))
  intro x y v R;change rkAt rk (arrOf z) (sa+x)<=rkAt rk (arrOf z) (sa+y)
  by_cases hy2:y<na
  ·exact u1 x y v hy2
  ·by_cases hx2:x<na
   ·have q1:=b4 (y - na) (by lia) (by lia)
    have J:=le1 x (na - 1) (by lia) (by lia)
    rw[show sa+(na - 1)=sa+na - 1 by lia]at J
    rw[ix1 (show na<=y by lia)]at q1
    lia
   ·have J:=u2 (x - na) (y - na) (by lia) (by lia)
    rw[ix1 (show na<=y by lia),ix1 (show na<=x by lia)]at J
    exact J
 rw[if_neg e2];have hm2:0<m:=by simp at e2;lia
 have exA:(arrOf z).extract (sa+k) (sa+na)=(arrOf z).extract (sa+k) (sa+k+(na - k)):=by rw[ix1 (show k<=na by lia)]
 have rA:Ris (rkP rk) ((arrOf z).extract (sa+k) (sa+na)).toList:=by
  rw[exA];refine zkC (fun x y v R=>?_) (by lia)
  have:=u1 (k+x) (k+y) (by lia) (by lia)
  rw[<- mM,<- mM]at this;exact this
 have rB:Ris (rkP rk) ((arrOf z).extract (sa+na) (sa+na+m)).toList:=zkC (fun x y v R=>u2 x y v (by lia)) (by lia)
 have U:((arrOf z).extract (sa+k) (sa+na)).size=na - k:=by simp;lia
 have szB:((arrOf z).extract (sa+na) (sa+na+m)).size=m:=by simp;lia
 have mA:∀p∈((arrOf z).extract (sa+k) (sa+na)).toList,p∈a0.toList:=fun p hp=>KA p (by
  rw[Vd]at hp;exact cP (fW hp))
 have mB:∀p∈((arrOf z).extract (sa+na) (sa+na+m)).toList,p∈a0.toList:=fun p hp=>KA p (by
  rw[Vd]at hp;exact cP (fW hp))
 have f1:∀y,((arrOf z).extract (sa+na) (sa+na+m)).toList[0]?=some y->∀x∈((arrOf z).extract (sa+k) (sa+na)).toList,rkP rk y<=rkP rk x:=fun y R x hx=>by
  obtain⟨j,j1,j2,j3,e⟩:=Vz (rk:=rk) hx;have:=b2 (j - sa) (by lia) (by lia)
  rw[eW (show sa<=j by lia),e]at this
  have ey:rkAt rk (arrOf z) (sa+na)=rkP rk y:=Qg (by rw[<- R];simp only[cN,lj];rw[if_pos (by lia)];rfl)
  lia
 have f2:∀x,((arrOf z).extract (sa+k) (sa+na)).toList[((arrOf z).extract (sa+k) (sa+na)).size - 1]?=some x->∀y∈((arrOf z).extract (sa+na) (sa+na+m)).toList,rkP rk y<=rkP rk x:=fun x hx y R=>by
  obtain⟨j,j1,j2,j3,e⟩:=Vz (rk:=rk) R;have:=b3 (j - (sa+na)) (by lia)
  rw[eW (show sa+na<=j by lia),e]at this
  have ex:rkAt rk (arrOf z) (sa+na - 1)=rkP rk x:=Qg (by
   rw[<- hx,U];simp only[cN,lj];rw[if_pos (by lia),show sa+k+(na - k - 1)=sa+na - 1 by lia])
  lia
 have fin:∀(M:Array bM) (z2 y:bP),M.toList.Perm (((arrOf z).extract (sa+k) (sa+na)).toList++((arrOf z).extract (sa+na) (sa+na+m)).toList)->Ris (rkP rk) M.toList->arrOf z2=arrOf z->kindOf y=kd->failedOf y=none->pendingOf y=((pendingOf z).setIfInBounds i (sa,na+nb,pw)).eraseIdxIfInBounds (i+1) ->
   arrOf y=(M.toList.zipIdx.foldl (fun a (q:bM×Nat)=>a.setIfInBounds (sa+k+q.2) q.1) (arrOf z2))->Q true y:=by
  intro M z2 y PM RM ez ky fy py ay;have lM:M.toList.length=na - k+m:=by
   have:=PM.length_eq;rw[aT,cU (xs:=(arrOf z).extract _ _),cU (xs:=(arrOf z).extract _ _),U,szB]at this;exact this
  have ayl:(arrOf y).toList=(arrOf z).toList.take (sa+k)++M.toList++(arrOf z).toList.drop (sa+na+m):=by
   rw[ay,ez];have:=zkI (sa+k) M.toList 0 (arrOf z) (by rw[lM];lia)
   rw[show sa+k+0=sa+k by lia,lM,show sa+k+(na - k+m)=sa+na+m by lia]at this
   exact this
  have split0:(arrOf z).toList=(arrOf z).toList.take (sa+k)++(((arrOf z).extract (sa+k) (sa+na)).toList++((arrOf z).extract (sa+na) (sa+na+m)).toList)++(arrOf z).toList.drop (sa+na+m):=by
   rw[exA,VN,VN];have c1:=cut2 (arrOf z).toList (sa+k) (na - k);rw[ix1 (show k<=na by lia)]at c1
   have c2:=cut2 (arrOf z).toList (sa+na) m;rw[bR,bR,<- c2,<- c1,fM]
  have PY:(arrOf y).Perm a0:=by
   refine Array.Perm.trans ?_ pm;rw[cQ,ayl]
   conv=>rhs;rw[split0]
   exact lh _ (fN _ PM)
  have Y:((arrOf z).toList.take (sa+k)).length=sa+k:=by simp;lia
  have outer:∀j,j<sa+k\/sa+na+m<=j->rkAt rk (arrOf y) j=rkAt rk (arrOf z) j:=by
   intro j C;refine Yq ?_;rw[<- cN,<- cN,ayl];rcases C with C|C
   ·rw[bR,bT (by lia),List.getElem?_take,if_pos (by lia)]
   ·rw[br (by rw[aT,lM,Y];lia),aT,lM,Y,ka]
    congr 1;lia
  have inner:∀j,sa+k<=j->j<sa+na+m->∃p,M.toList[j - (sa+k)]?=some p/\rkAt rk (arrOf y) j=rkP rk p:=by
   intro j j1 j2;have C:j - (sa+k)<M.toList.length:=by lia
   refine⟨M.toList[j - (sa+k)],au C,Qg ?_⟩;rw[ayl,bT (by rw[aT,lM,Y];lia),br (by lia),Y]
   exact au C
  have inM:∀p∈M.toList,∃j,sa+k<=j/\j<sa+na+m/\rkAt rk (arrOf z) j=rkP rk p:=by
   intro p hp;rcases aw.mp (PM.mem_iff.mp hp) with q|q
   ·obtain⟨j,j1,j2,_,e⟩:=Vz (rk:=rk) q;exact⟨j,j1,by lia,e⟩
   ·obtain⟨j,j1,j2,_,e⟩:=Vz (rk:=rk) q;exact⟨j,by lia,j2,e⟩
  refine h y ky fy PY py ?_ fun j C=>outer j (by lia)
  clear PY ayl split0 U szB Y sz exA rv0 rul;intro x G v R
  by_cases x1:x<k
  ·rw[outer (sa+x) (by lia)]
   by_cases y1:G<k
   ·rw[outer (sa+G) (by lia)];exact u1 x G v (by lia)
   ·have low:∀j,sa+k<=j->j<sa+na+nb->rkAt rk (arrOf z) (sa+x)<=rkAt rk (arrOf z) j:=fun j j1 j2=>by
     by_cases j3:j<sa+na
     ·have:=u1 x (j - sa) (by lia) (by lia)
      rw[eW (show sa<=j by lia)]at this;exact this
     ·have q1:=b1 x x1;have J:=le2 0 (j - (sa+na)) (by lia) (by lia)
      rw[eW (show sa+na<=j by lia)]at J
      simp at J;lia
    by_cases y2:sa+G<sa+na+m
    ·obtain⟨p,ep,er⟩:=inner (sa+G) (by lia) y2
     rw[er];obtain⟨j,j1,j2,e⟩:=inM p (aN ep);rw[<- e];exact low j j1 (by lia)
    ·rw[outer (sa+G) (by lia)];exact low _ (by lia) (by lia)
  ·by_cases x2:sa+x<sa+na+m
   ·obtain⟨p,ep,er⟩:=inner (sa+x) (by lia) x2
    rw[er]
    by_cases y2:sa+G<sa+na+m
    ·obtain⟨q,eq,er2⟩:=inner (sa+G) (by lia) y2
     rw[er2];have h1:sa+x - (sa+k)<M.toList.length:=by lia
     have h2:sa+G - (sa+k)<M.toList.length:=by lia
     rw[au h1]at ep;rw[au h2]at eq;cases ep;cases eq;exact bp.mp RM _ _ h1 h2 (by lia)
    ·rw[outer (sa+G) (by lia)]
     obtain⟨j,j1,j2,e⟩:=inM p (aN ep);rw[<- e];have q4:=b4 (G - na) (by lia) (by lia)
     rw[ix1 (show na<=G by lia)]at q4
     by_cases j3:j<sa+na
     ·have:=le1 (j - sa) (na - 1) (by lia) (by lia)
      rw[eW (show sa<=j by lia),show sa+(na - 1)=sa+na - 1 by lia]at this
      lia
     ·have:=le2 (j - (sa+na)) (G - na) (by lia) (by lia)
      rw[eW (show sa+na<=j by lia),ix1 (show na<=G by lia)]at this
      exact this
   ·rw[outer (sa+x) (by lia),outer (sa+G) (by lia)]
    have:=u2 (x - na) (G - na) (by lia) (by lia)
    rw[ix1 (show na<=x by lia),ix1 (show na<=G by lia)]at this
    exact this
 by_cases le:na - k<=m
 ·rw[if_pos le];refine aB (zjZ c (by assumption) mA mB rA rB (gK (by lia) U.symm) (gK hm2 szB.symm) f1 f2 fun M z2 PM RM S=>?_)
  refine aB (ip (aB (iB (aH ?_))));have f2':failedOf z2=none:=S.fl.trans fl;show Q (failedOf z2).isNone _
  rw[f2'];exact fin M z2 _ PM RM S.ar (S.kn.trans (by assumption)) f2' S.pe rfl
 ·rw[if_neg le];refine aB (zj0 c (by assumption) mA mB rA rB (gK (by lia) U.symm) (gK hm2 szB.symm) f1 f2 fun M z2 PM RM S=>?_)
  refine aB (ip (aB (iB (aH ?_))));have f2':failedOf z2=none:=S.fl.trans fl;show Q (failedOf z2).isNone _
  rw[f2'];exact fin M z2 _ PM RM S.ar (S.kn.trans (by assumption)) f2' S.pe rfl
end
structure Sl(rk:ah->Int)(kd:eN)(a0:Array bM)(z0:bP)(lo:Nat)(z:bP):Prop where
 pm:(arrOf z).Perm a0
 kn:kindOf z=kd
 fl:failedOf z=none
 pe:pendingOf z=pendingOf z0
 lw:∀j,j<lo->rkAt rk (arrOf z) j=rkAt rk (arrOf z0) j
def DnL(rk:ah->Int)(xs:Array bM)(lo m:Nat):Prop:=∀i j,i<j->j<m->rkAt rk xs (lo+j)<=rkAt rk xs (lo+i)
section
variable{prog:aK}{w:aW}{A:bq}{E:qV}{s:aq}{kd:eN}{rk:ah->Int}{a0:Array bM}{z0:bP}{lo:Nat}
theorem Sl.sz{z:bP}(b:Sl rk kd a0 z0 lo z):(arrOf z).size=a0.size:=b.pm.size_eq
theorem Sl.arr{z:bP}(b:Sl rk kd a0 z0 lo z){xs:Array bM}(h:xs.Perm (arrOf z))(l:∀j,j<lo->rkAt rk xs j=rkAt rk (arrOf z) j):Sl rk kd a0 z0 lo (setArr z xs):=⟨h.trans b.pm,b.kn,b.fl,b.pe,fun j u=>(l j u).trans (b.lw j u)⟩
theorem askL{z:bP}{i j:Nat}{Q:Option Bool->bP->Prop}(c:Cmp prog w A s kd rk a0)(b:Sl rk kd a0 z0 lo z)(hi:i<a0.size)(G:j<a0.size)
  (h:Q (some (decide (rkAt rk (arrOf z) i<rkAt rk (arrOf z) j))) z):wpS (model prog w) A E s (ltAt' i j) Q z:=by
 have mem:∀k,k<a0.size->∃p,(arrOf z)[k]?=some p/\p∈a0.toList:=fun k C=>by
  have l:k<(arrOf z).size:=by rw[b.sz];exact C
  exact⟨(arrOf z)[k],bU l,(cQ.mp b.pm).mem_iff.mp (by simp)⟩
 obtain⟨p,u,mp⟩:=mem i hi;obtain⟨q,eq,v⟩:=mem j G;have I:rkAt rk (arrOf z) i=rk p.1:=by unfold rkAt;rw[u];rfl
 have J:rkAt rk (arrOf z) j=rk q.1:=by unfold rkAt;rw[eq];rfl
 rw[I,J]at h;rw[ltAt'_eq];refine aB (iB ?_);show wpS (model prog w) A E s (elem' (arrOf z) i >>= fun x=>elem' (arrOf z) j >>= fun y=>lt' x y) Q z
 simp only[vm,u,eq,pure_bind];exact YQ c b.kn mp v h
theorem zqI{z:bP}{n ok:Nat}{Q:Bool->bP->Prop}(c:Cmp prog w A s kd rk a0)(hn:lo+n<=a0.size)(hok:ok<=n)(b:Sl rk kd a0 z0 lo z)(up:UpL rk (arrOf z) lo ok)
  (h:∀y,Sl rk kd a0 z0 lo y->UpL rk (arrOf y) lo n->Q true y):wpS (model prog w) A E s (binarySort' lo n ok) Q z:=by
 rw[binarySort'_eq];refine aB (dR (cj (Q:=fun c y=>c=(none,())/\Sl rk kd a0 z0 lo y/\UpL rk (arrOf y) lo n) (I:=fun k c y=>c=(none,())/\Sl rk kd a0 z0 lo y/\UpL rk (arrOf y) lo (min k n)) ?turn ?last ⟨rfl,b,fun i j S h2=>up i j S (by lia)⟩) ?post)
 case post =>
  rintro _ y ⟨rfl,C,u⟩
  exact aH (h y C u)
 case last =>
  rintro _ y ⟨rfl,C,u⟩
  exact⟨rfl,C,by rwa [show min (max (max ok 1) n) n=n by lia]at u⟩
 case turn =>
  rintro k _ y k1 k2 ⟨rfl,C,u⟩
  rw[show min k n=k by lia]at u
  refine aB (dR (cj (Q:=fun c Y=>Y=y/\∃l r,c=(none,l,r)/\l<=k/\(∀i,i<l->rkAt rk (arrOf y) (lo+i)<=rkAt rk (arrOf y) (lo+k))/\∀i,l<=i->i<k->rkAt rk (arrOf y) (lo+k)<rkAt rk (arrOf y) (lo+i))
   (I:=fun x c Y=>Y=y/\∃l r,c=(none,l,r)/\l<=r/\r<=k/\r - l+x<=k/\(∀i,i<l->rkAt rk (arrOf y) (lo+i)<=rkAt rk (arrOf y) (lo+k))/\∀i,r<=i->i<k->rkAt rk (arrOf y) (lo+k)<rkAt rk (arrOf y) (lo+i)) ?t2 ?l2 ⟨rfl,0,k,rfl,by lia,by lia,by lia,fun i hi=>by lia,fun i R J=>by lia⟩) ?p2)
  case l2 =>
   rintro _ v ⟨e,l,r,rfl,q1,Z,q3,L,N⟩;subst e;exact⟨rfl,l,r,rfl,by lia,L,fun i R J=>N i (by lia) J⟩
  case t2 =>
   rintro x _ v _ _ ⟨e,l,r,rfl,q1,Z,q3,L,N⟩;subst e
   by_cases ge:r<=l
   ·simp only[ge_iff_le,ge,if_true];exact aH ⟨rfl,l,r,rfl,by lia,L,fun i R J=>N i (by lia) J⟩
   ·simp only[ge_iff_le,ge,if_false];refine aB (askL c C (by lia) (by lia) ?_)
    by_cases le:rkAt rk (arrOf v) (lo+k)<rkAt rk (arrOf v) (lo+(l+r) / 2)
    ·simp only[le,decide_true,if_true];refine aH ⟨rfl,l,(l+r) / 2,rfl,by lia,by lia,by lia,L,fun i R J=>?_⟩
     rcases cg ((l+r) / 2) i with g|g
     ·have:=u _ _ g J;lia
     ·have:i=(l+r) / 2:=by lia
      rw[this];exact le
    ·simp only[le,decide_false,aJ,if_false];refine aH ⟨rfl,(l+r) / 2+1,r,rfl,by lia,by lia,by lia,fun i R=>?_,N⟩
     rcases cg i ((l+r) / 2) with g|g
     ·have:=u _ _ g (by lia);lia
     ·have:i=(l+r) / 2:=by lia
      rw[this];lia
  case p2 =>
   rintro _ v ⟨e,l,r,rfl,Z,L,N⟩;subst e;show wpS (model prog w) A E s (moveDown' (lo+k) (lo+l) >>= fun _=>pure (cA (none,()))) _ v
   rw[moveDown'_eq];have hk:lo+k<(arrOf v).size:=by rw[C.sz];lia
   have G:∀j,_:=fun j=>zrv (rk:=rk) hk (show lo+k - (lo+l)<=lo+k by lia) j
   have el:lo+k - (lo+k - (lo+l))=lo+l:=by lia
   rw[el]at G;refine aB (ip (aH ⟨rfl,C.arr (bubble_perm _ _ _) (fun j hj=>(G j).2.2 (by lia)),fun i j S h2=>?_⟩))
   show rkAt rk (bubble (arrOf v) (lo+k) (lo+k - (lo+l))) (lo+i)<=rkAt rk (bubble (arrOf v) (lo+k) (lo+k - (lo+l))) (lo+j)
   have hj:j<=k:=by lia
   obtain⟨a1,a2,U⟩:=G (lo+i);obtain⟨b1,b2,b3⟩:=G (lo+j);rcases eX j l with jl|jl|jl
   ·rw[U (by lia),b3 (by lia)];exact u i j S (by lia)
   ·rw[U (by lia),b1 (by lia)];exact L i (by lia)
   ·rw[b2 (by lia) (by lia),show lo+j - 1=lo+(j - 1) by lia]
    rcases eX i l with il|il|il
    ·rw[U (by lia)]
     exact u i (j - 1) (by lia) (by lia)
    ·rw[a1 (by lia)];exact cO (N (j - 1) (by lia) (by lia))
    ·rw[a2 (by lia) (by lia),show lo+i - 1=lo+(i - 1) by lia]
     exact u _ _ (by lia) (by lia)
theorem UpL.more{xs:Array bM}{x:Nat}(u:UpL rk xs lo x)(C:1<=x)(g:¬rkAt rk xs (lo+x)<rkAt rk xs (lo+x - 1)):UpL rk xs lo (x+1):=fun i j v y=>by
 rw[show lo+x - 1=lo+(x - 1) by lia]at g
 rcases cg j x with jx|jx
 ·exact u i j v jx
 ·have l:j=x:=by lia
  subst l;rcases cg i (j - 1) with ij|ij
  ·have:=u i (j - 1) ij (by lia);lia
  ·have:i=j - 1:=by lia
   rw[this];lia
theorem DnL.more{xs:Array bM}{x:Nat}(u:DnL rk xs lo x)(C:1<=x)(g:rkAt rk xs (lo+x)<=rkAt rk xs (lo+x - 1)):DnL rk xs lo (x+1):=fun i j v y=>by
 rw[show lo+x - 1=lo+(x - 1) by lia]at g
 rcases cg j x with jx|jx
 ·exact u i j v jx
 ·have l:j=x:=by lia
  subst l;rcases cg i (j - 1) with ij|ij
  ·have:=u i (j - 1) ij (by lia);lia
  ·have:i=j - 1:=by lia
   rw[this];lia
theorem zoY{z:bP}{m:Nat}{Q:Option Nat->bP->Prop}(c:Cmp prog w A s kd rk a0)(hm:lo+m<=a0.size)(m1:1<=m)(b:Sl rk kd a0 z0 lo z)
  (h:∀k y,Sl rk kd a0 z0 lo y->1<=k->k<=m->UpL rk (arrOf y) lo k->Q (some k) y):wpS (model prog w) A E s (countRun' lo m) Q z:=by
 rw[countRun'_eq];refine aB (dR (cj (I:=fun x c y=>y=z/\c=(none,x)/\UpL rk (arrOf z) lo x) (Q:=fun c y=>y=z/\∃n,c=(none,n)/\1<=n/\n<=m/\UpL rk (arrOf z) lo n/\(n<m->rkAt rk (arrOf z) (lo+n)<rkAt rk (arrOf z) (lo+n - 1))) ?turn ?last ⟨rfl,rfl,fun i j J L=>absurd J (by lia)⟩) ?post)
 case last =>
  rintro _ y ⟨rfl,rfl,u⟩;rw[show max 1 m=m by lia]at u ⊢
  exact⟨rfl,m,rfl,m1,aC _,u,fun g=>absurd g (by lia)⟩
 case turn =>
  rintro x _ y R Y ⟨rfl,rfl,u⟩;dsimp only;refine aB (askL c b (by lia) (by lia) ?_)
  by_cases g:rkAt rk (arrOf y) (lo+x)<rkAt rk (arrOf y) (lo+x - 1)
  ·simp only[g,decide_true,if_true];exact aH ⟨rfl,x,rfl,R,by lia,u,fun _=>g⟩
  ·simp only[g,decide_false,aJ,if_false];exact aH ⟨rfl,rfl,u.more R g⟩
 case post =>
  rintro _ y ⟨rfl,n,rfl,n1,n2,u,lt⟩;dsimp only
  by_cases en:n=m
  ·simp only[en,beq_self_eq_true,if_true];exact aH (h m y b m1 (aC _) (en▸u))
  have en':(n == m)=false:=by simpa using en
  simp only[en',aJ,if_false];have l:=lt (by lia)
  have zn:lo+n<=(arrOf y).size:=by rw[b.sz];lia
  have pre:n<=1\/1<n:=by lia
  have both:∀(F:StateT bP Sem (Option Nat)) ,(∀N,Sl rk kd a0 z0 lo N->DnL rk (arrOf N) lo (n+1)->wpS (model prog w) A E s F Q N)->wpS (model prog w) A E s (if n > 1 then ltAt' lo (lo+n - 1) >>= fun x=>match x with
    | some G=>if G=true then pure (some n) else reverseSlice' lo (lo+n) >>= fun _=>F
    | _=>pure none
   else F) Q y:=by
   intro F S
   by_cases g:n > 1
   ·simp only[g,if_true];refine aB (askL c b (by lia) (by lia) ?_)
    by_cases G:rkAt rk (arrOf y) lo<rkAt rk (arrOf y) (lo+n - 1)
    ·simp only[G,decide_true,if_true];exact aH (h n y b n1 n2 u)
    ·simp only[G,decide_false,aJ,if_false];have al:∀k,lo<=k->k<lo+n->rkAt rk (arrOf y) k=rkAt rk (arrOf y) (lo+n - 1):=fun k k1 kn=>by
      have p:rkAt rk (arrOf y) lo<=rkAt rk (arrOf y) k:=by
       rcases mV k1 with k0|k0
       ·rw[k0];exact bQ _
       ·have:=u 0 (k - lo) (by lia) (by lia)
        rw[show lo+(k - lo)=k by lia]at this
        exact this
      have q:rkAt rk (arrOf y) k<=rkAt rk (arrOf y) (lo+n - 1):=by
       rcases cg k (lo+n - 1) with kk|kk
       ·have:=u (k - lo) (n - 1) (by lia) (by lia)
        rw[show lo+(k - lo)=k by lia,show lo+(n - 1)=lo+n - 1 by lia]at this
        exact this
       ·rw[show k=lo+n - 1 by lia];exact bQ _
      lia
     refine aB (ma (S _ (b.arr (mf _ _ _ _) fun j U=>Uw zn al j) fun i j J L=>?_))
     show rkAt rk (mirror (arrOf y) lo (lo+n) ((lo+n - lo) / 2)) (lo+j)<=rkAt rk (mirror (arrOf y) lo (lo+n) ((lo+n - lo) / 2)) (lo+i)
     rw[Uw zn al,Uw zn al];have ai:=al (lo+i) (by lia) (by lia)
     rcases cg j n with jn|jn
     ·have:=al (lo+j) (by lia) (by lia);lia
     ·rw[show j=n by lia];lia
   ·simp only[g,if_false];have e1:n=1:=by lia
    subst e1;refine S y b fun i j J L=>?_
    rw[show i=0 by lia,show j=1 by lia]
    exact cO l
  refine both _ fun y b dn=>?_
  clear both;refine aB (kO (dq ⟨rfl,aB ?_⟩));refine dR (cj (I:=fun x c y=>∃e,c=(none,x,e)/\Sl rk kd a0 z0 lo y/\DnL rk (arrOf y) lo x/\e<x/\∀i,lo+x - (e+1)<=i->i<lo+x->rkAt rk (arrOf y) i=rkAt rk (arrOf y) (lo+x - 1))
   (Q:=fun c y=>∃x e,c=(none,x,e)/\1<=x/\x<=m/\Sl rk kd a0 z0 lo y/\DnL rk (arrOf y) lo x/\e<x/\∀i,lo+x - (e+1)<=i->i<lo+x->rkAt rk (arrOf y) i=rkAt rk (arrOf y) (lo+x - 1)) ?turn2 ?last2 ⟨0,rfl,b,dn,by lia,fun i i1 i2=>by rw[show i=lo+(n+1) - 1 by lia]⟩) ?post2
  case last2 =>
   rintro _ y ⟨e,rfl,q⟩;rw[show max (n+1) m=m by lia]at *
   exact⟨m,e,rfl,m1,aC _,q⟩
  case turn2 =>
   rintro x _ y R Y ⟨e,rfl,C,d,ex,al⟩
   have xz:lo+x<=(arrOf y).size:=by rw[C.sz];lia
   dsimp only;refine aB (askL c C (show lo+x<a0.size by lia) (show lo+x - 1<a0.size by lia) ?_)
   have one:∀xs:Array bM,∀i,lo+(x+1) - (0+1)<=i->i<lo+(x+1)->rkAt rk xs i=rkAt rk xs (lo+(x+1) - 1):=fun xs i i1 i2=>by rw[show i=lo+(x+1) - 1 by lia]
   by_cases g:rkAt rk (arrOf y) (lo+x)<rkAt rk (arrOf y) (lo+x - 1)
   ·simp only[g,decide_true,if_true];have d2:∀xs:Array bM,(∀k,rkAt rk xs k=rkAt rk (arrOf y) k)->DnL rk xs lo (x+1):=fun xs hx i j J L=>by
     rw[hx,hx];exact d.more (by lia) (cO g) i j J L
    by_cases e0:e > 0
    ·simp only[e0,if_true];exact aB (ma (aH ⟨0,rfl,C.arr (mf _ _ _ _) (fun j U=>Uw xz al j),d2 _ (Uw xz al),by lia,one _⟩))
    ·simp only[e0,if_false];exact aH ⟨0,rfl,C,d2 _ (fun _=>rfl),by lia,one _⟩
   ·simp only[g,decide_false,aJ,if_false];refine aB (askL c C (show lo+x - 1<a0.size by lia) (show lo+x<a0.size by lia) ?_)
    by_cases g2:rkAt rk (arrOf y) (lo+x - 1)<rkAt rk (arrOf y) (lo+x)
    ·simp only[g2,decide_true,if_true];exact aH ⟨x,e,rfl,by lia,by lia,C,d,ex,al⟩
    ·simp only[g2,decide_false,aJ,if_false];have eqx:rkAt rk (arrOf y) (lo+x)=rkAt rk (arrOf y) (lo+x - 1):=by lia
     refine aH ⟨e+1,rfl,C,d.more (by lia) (by lia),by lia,fun i i1 i2=>?_⟩
     rw[show lo+(x+1) - 1=lo+x by lia]
     rcases cg i (lo+x) with ix|ix
     ·rw[al i (by lia) ix,eqx]
     ·rw[show i=lo+x by lia]
  case post2 =>
   rintro _ y ⟨x,e,rfl,R,Y,C,d,ex,al⟩
   have kz:lo+x<=(arrOf y).size:=by rw[C.sz];lia
   dsimp only;have fin:∀(F:StateT bP Sem (Option Nat)),(∀N,Sl rk kd a0 z0 lo N->DnL rk (arrOf N) lo x->wpS (model prog w) A E s F Q N)->wpS (model prog w) A E s (if e > 0 then reverseSlice' (lo+x - (e+1)) (lo+x) >>= fun _=>F else F) Q y:=by
    intro F S
    by_cases e0:e > 0
    ·simp only[e0,if_true];refine aB (ma (S _ (C.arr (mf _ _ _ _) fun j U=>Uw kz al j) fun i j J L=>?_))
     show rkAt rk (mirror (arrOf y) (lo+x - (e+1)) (lo+x) ((lo+x - (lo+x - (e+1))) / 2)) (lo+j)<=rkAt rk (mirror (arrOf y) (lo+x - (e+1)) (lo+x) ((lo+x - (lo+x - (e+1))) / 2)) (lo+i)
     rw[Uw kz al,Uw kz al];exact d i j J L
    ·simp only[e0,if_false];exact S y C d
   refine fin _ fun y C d=>?_
   clear fin;have hz:lo+x<=(arrOf y).size:=by rw[C.sz];lia
   have b2:=C.arr (mf (arrOf y) lo (lo+x) ((lo+x - lo) / 2)) fun j U=>(Vk (rk:=rk) hz j).2 (.inl U)
   refine aB (ma (aB ?_));have Z:UpL rk (mirror (arrOf y) lo (lo+x) ((lo+x - lo) / 2)) lo x:=fun i j J L=>by
    rw[(Vk (rk:=rk) hz (lo+i)).1 (by lia) (by lia),(Vk (rk:=rk) hz (lo+j)).1 (by lia) (by lia)]
    have:=d (x - 1 - j) (x - 1 - i) (by lia) (by lia)
    rw[show lo+(x - 1 - j)=lo+(lo+x) - 1 - (lo+j) by lia,show lo+(x - 1 - i)=lo+(lo+x) - 1 - (lo+i) by lia]at this
    exact this
   change UpL rk (arrOf (setArr y (mirror (arrOf y) lo (lo+x) ((lo+x - lo) / 2)))) lo x at Z;generalize setArr y (mirror (arrOf y) lo (lo+x) ((lo+x - lo) / 2))=v at b2 Z ⊢;refine dR (cj (I:=fun x c y=>y=v/\c=(none,x)/\UpL rk (arrOf v) lo x) (Q:=fun c y=>y=v/\∃n,c=(none,n)/\1<=n/\n<=m/\UpL rk (arrOf v) lo n) ?turn3 ?last3 ⟨rfl,rfl,Z⟩) ?post3
   case last3 =>
    rintro _ y ⟨rfl,rfl,u⟩;rw[show max x m=m by lia]at u ⊢
    exact⟨rfl,m,rfl,m1,aC _,u⟩
   case turn3 =>
    rintro x' _ y R Y ⟨rfl,rfl,u⟩;dsimp only;refine aB (askL c b2 (by lia) (by lia) ?_)
    by_cases g:rkAt rk (arrOf y) (lo+x')<rkAt rk (arrOf y) (lo+x' - 1)
    ·simp only[g,decide_true,if_true];exact aH ⟨rfl,x',rfl,by lia,by lia,u⟩
    ·simp only[g,decide_false,aJ,if_false];exact aH ⟨rfl,rfl,u.more (by lia) g⟩
   case post3 =>
    rintro _ y ⟨rfl,n,rfl,n1,n2,u⟩;exact aH (h n y b2 n1 n2 u)
end
abbrev Run3:=Nat×Nat×Nat
def Side:List Run3->Nat->Nat->Prop
 | [],a,b=>a=b
 | q::r,a,b=>q.1=a/\0<q.2.1/\Side r (a+q.2.1) b
theorem ZL:∀{l m:List Run3}{a b:Nat},Side (l++m) a b↔∃c,Side l a c/\Side m c b
 | [],m,a,b=>⟨fun h=>⟨a,rfl,h⟩,fun⟨c,e,h⟩=>by cases e;exact h⟩
 | q::l,m,a,b=>by
  constructor
  ·rintro⟨x,u,C⟩;obtain⟨c,y,v⟩:=ZL.mp C;exact⟨c,⟨x,u,y⟩,v⟩
  ·rintro⟨c,⟨x,u,y⟩,v⟩;exact⟨x,u,ZL.mpr ⟨c,y,v⟩⟩
theorem ZE:∀{l:List Run3}{a b:Nat},Side l a b->a+l.length<=b/\∀q∈l,a<=q.1/\q.1+q.2.1<=b
 | [],a,b,h=>⟨by cases h;simp,fun q u=>nomatch u⟩
 | p::l,a,b,⟨h1,h2,h3⟩=>by
  obtain⟨x,v⟩:=ZE h3;refine⟨by simp only[aP];lia,fun q u=>?_⟩
  rcases aA.mp u with rfl|m
  ·lia
  ·have:=v q m;lia
theorem ziO{f:Run3->Run3}(hf:∀q,(f q).1=q.1/\(f q).2.1=q.2.1):∀{l:List Run3}{i a b:Nat},Side l a b->Side (l.modify i f) a b/\∀v∈l.modify i f,∃q∈l,v.1=q.1/\v.2.1=q.2.1
 | [],i,a,b,h=>by simp only[List.modify_nil];exact⟨h,fun q u=>nomatch u⟩
 | p::l,0,a,b,⟨h1,h2,h3⟩=>by
  rw[List.modify_zero_cons];refine⟨⟨(hf p).1.trans h1,(hf p).2▸h2,(hf p).2▸h3⟩,fun q u=>?_⟩
  rcases aA.mp u with rfl|m
  ·exact⟨p,cm,hf p⟩
  ·exact⟨q,bV _ m,rfl,rfl⟩
 | p::l,i+1,a,b,⟨h1,h2,h3⟩=>by
  rw[List.modify_succ_cons];obtain⟨x,y⟩:=ziO hf (i:=i) h3;refine⟨⟨h1,h2,x⟩,fun q u=>?_⟩
  rcases aA.mp u with rfl|m
  ·exact⟨q,cm,rfl,rfl⟩
  ·obtain⟨v,C,e⟩:=y q m;exact⟨v,bV _ C,e⟩
theorem zgt{α:Type}{x y v:α}:∀(l r:List α),((l++x::y::r).set l.length v).eraseIdx (l.length+1)=l++v::r
 | [],r=>rfl
 | a::l,r=>by
  have:=zgt (x:=x) (y:=y) (v:=v) l r;simp only[c9,aP,fE,List.eraseIdx_cons_succ,this]
structure Rn(rk:ah->Int)(kd:eN)(a0:Array bM)(lo:Nat)(z:bP):Prop where
 pm:(arrOf z).Perm a0
 kn:kindOf z=kd
 fl:failedOf z=none
 sd:Side (pendingOf z).toList 0 lo
 ls:lo<=a0.size
 up:∀q∈(pendingOf z).toList,UpL rk (arrOf z) q.1 q.2.1
theorem UpL.same{rk:ah->Int}{xs ys:Array bM}{lo m:Nat}(u:UpL rk xs lo m)(e:∀j,lo<=j->j<lo+m->rkAt rk ys j=rkAt rk xs j):UpL rk ys lo m:=fun i j v l=>by
 rw[e (lo+i) (by lia) (by lia),e (lo+j) (by lia) (by lia)]
 exact u i j v l
section
variable{prog:aK}{w:aW}{A:bq}{E:qV}{s:aq}{kd:eN}{rk:ah->Int}{a0:Array bM}{z0:bP}{lo:Nat}
theorem zov{i:Nat}{z:bP}{Q:Bool->bP->Prop}(c:Cmp prog w A s kd rk a0)(R:Rn rk kd a0 lo z)(hi:i+1<(pendingOf z).size)
  (h:∀y,Rn rk kd a0 lo y->(pendingOf y).size+1=(pendingOf z).size->(∀j,lo<=j->rkAt rk (arrOf y) j=rkAt rk (arrOf z) j)->Q true y):wpS (model prog w) A E s (mergeAt' i) Q z:=by
 obtain⟨l,x,y,r,v,ei⟩:∃l x y r,(pendingOf z).toList=l++x::y::r/\l.length=i:=by
  have h1:i<(pendingOf z).toList.length:=by simp;lia
  have h2:i+1<(pendingOf z).toList.length:=by simp;lia
  refine⟨(pendingOf z).toList.take i,(pendingOf z).toList[i],(pendingOf z).toList[i+1],(pendingOf z).toList.drop (i+2),?_,by simp;lia⟩
  rw[<- bE h2,<- bE h1,fM]
 obtain⟨sa,na,pw⟩:=x;obtain⟨sb,nb,pw2⟩:=y;have sd:=R.sd;rw[v]at sd;obtain⟨a,s1,S,J,I,N,G⟩:=ZL.mp sd;dsimp only at S J I N G;subst S;subst I;have up:=R.up;rw[v]at up;obtain⟨t1,t2⟩:=ZE G;have t3:=ZE s1;have ls:=R.ls;refine zj1 (sa:=sa) (na:=na) (nb:=nb) (pw:=pw) (pw2:=pw2) c R.kn R.fl R.pm ?_ ?_ J N (by lia) (up (sa,na,pw) (by simp)) (up (sa+na,nb,pw2) (by simp)) fun C ky Y py pe u out=>?_
 ·rw[<- cN,v,br (by lia),show i - l.length=0 by lia];rfl
 ·rw[<- cN,v,br (by lia),show i+1 - l.length=1 by lia];rfl
 ·have pl:(pendingOf C).toList=l++(sa,na+nb,pw)::r:=by
   rw[pe];subst ei;rw[Array.toList_eraseIdxIfInBounds,Array.toList_setIfInBounds,v];exact zgt l r
  refine h C ⟨py,ky,Y,?_,R.ls,?_⟩ ?_ fun j hj=>out j (.inr (by lia))
  ·rw[pl];refine ZL.mpr ⟨sa,s1,rfl,by show 0<na+nb;lia,?_⟩
   show Side r (sa+(na+nb)) lo
   rw[<- mM];exact G
  ·rw[pl];intro q U;rcases aw.mp U with m|m
   ·exact(up q (by simp[m])).same fun j Z j2=>out j (.inl (by have:=t3.2 q m;lia))
   ·rcases aA.mp m with rfl|m
    ·exact u
    ·exact(up q (by simp[m])).same fun j Z j2=>out j (.inr (by have:=t2 q m;lia))
  ·have e1:(pendingOf C).size=(pendingOf C).toList.length:=by simp
   have e2:(pendingOf z).size=(pendingOf z).toList.length:=by simp
   rw[e1,e2,pl,v];simp;lia
theorem zm9{z:bP}{Q:Unit->bP->Prop}(c:Cmp prog w A s kd rk a0)(b:Sb kd a0 z)(s2:2<=a0.size)
  (h:∀y,(arrOf y).Perm a0->failedOf y=none->Up rk (arrOf y) a0.size->Q () y):wpS (model prog w) A E s sortRuns' Q z:=by
 rw[sortRuns'_eq];refine aB (iB ?_);rw[b.sz];dsimp only;generalize minRun' a0.size a0.size 0=mr;refine aB (dR (cj (Q:=fun c y=>∃lo,c=(none,lo)/\Rn rk kd a0 lo y/\a0.size<=lo)
  (I:=fun x c y=>∃lo,c=(none,lo)/\Rn rk kd a0 lo y/\x<=lo) ?turn ?last ⟨0,rfl,⟨b.pm,b.kn,b.fl,by rw[b.pe];rfl,by lia,by rw[b.pe];intro q U;simp at U⟩,by lia⟩) ?post)
 case last =>
  rintro _ y ⟨lo,rfl,R,hx⟩;exact⟨lo,rfl,R,by lia⟩
 case turn =>
  rintro x _ y _ hx ⟨lo,rfl,R,hl⟩;dsimp only
  by_cases ge:lo>=a0.size
  ·rw[if_pos ge];exact aH ⟨lo,rfl,R,ge⟩
  rw[if_neg ge];have rest:∀(n:Nat) (G:bP),1<=n->lo+n<=a0.size->Sl rk kd a0 y lo G->UpL rk (arrOf G) lo n->Rn rk kd a0 lo G:=fun n G N J S u=>by
   refine⟨S.pm,S.kn,S.fl,S.pe▸R.sd,R.ls,?_⟩;rw[S.pe];intro q U;exact(R.up q U).same fun j j1 j2=>S.lw j (by have:=(ZE R.sd).2 q U;lia)
  have push:∀(n:Nat) (G:bP),1<=n->lo+n<=a0.size->Rn rk kd a0 lo G->UpL rk (arrOf G) lo n->Rn rk kd a0 (lo+n) (setPending G ((pendingOf G).push (lo,n,0))):=fun n G N J S u=>by
   have e:(pendingOf (setPending G ((pendingOf G).push (lo,n,0)))).toList=(pendingOf G).toList++[(lo,n,0)]:=by
    show((pendingOf G).push (lo,n,0)).toList=_
    simp
   refine⟨S.pm,S.kn,S.fl,?_,J,?_⟩
   ·rw[e];exact ZL.mpr ⟨lo,S.sd,rfl,N,rfl⟩
   ·rw[e];intro q U;rcases aw.mp U with m|m
    ·exact S.up q m
    ·cases az.mp m;exact u
  refine aB (zoY (z0:=y) (lo:=lo) c (by lia) (by lia) ⟨R.pm,R.kn,R.fl,rfl,fun _ _=>rfl⟩ fun k G S1 k1 k2 u1=>?_)
  dsimp only
  by_cases g:k<mr
  rw[if_pos g];refine aB (kO (dq ⟨rfl,aB (zqI c (n:=min (a0.size - lo) mr) (by lia) (by lia) S1 u1 fun y2 S2 Y=>?_)⟩))
  simp only[dP,aJ,if_false];have N:1<=min (a0.size - lo) mr:=by lia
  have J:lo+min (a0.size - lo) mr<=a0.size:=by lia
  generalize min (a0.size - lo) mr=n at Y N J ⊢
  rotate_left 1
  rw[if_neg g];have N:1<=k:=k1;have J:lo+k<=a0.size:=by lia
  have S2:=S1;have Y:=u1;revert S1 u1 S2 Y;generalize G=y2;generalize k=n at N J ⊢;intro _ _ S2 Y
  all_goals
   have R2:=rest n y2 N J S2 Y;refine aB (iB ?_);cases hb:(pendingOf y2).back? with
   | none =>
    dsimp only;exact aB (ip (aH ⟨_,rfl,push n y2 N J R2 Y,by lia⟩))
   | some q =>
    obtain⟨q1,q2,q3⟩:=q;dsimp only;generalize power' a0.size (2*q1+q2) (2*q1+q2+q2+n) a0.size=pw;refine aB (dR (cj (I:=fun _ c v=>c=(none,())/\Rn rk kd a0 lo v/\UpL rk (arrOf v) lo n) (Q:=fun c v=>c=(none,())/\Rn rk kd a0 lo v/\UpL rk (arrOf v) lo n) ?_ (fun _ _ I=>I) ⟨rfl,R2,Y⟩) ?_)
    ·rintro x' _ v _ _ ⟨rfl,C,Z⟩;refine aB (iB ?_)
     by_cases big:(pendingOf v).size > 1
     ·rw[if_pos big,bU (by lia)]
      generalize (pendingOf v)[(pendingOf v).size - 2]'(by lia)=o
      obtain⟨o1,o2,o3⟩:=o;dsimp only
      by_cases po:o3<=pw
      ·rw[if_pos po];exact aH ⟨rfl,C,Z⟩
      ·rw[if_neg po];refine aB (zov c C (by lia) fun y' R' _ out=>?_)
       simp only[dP,aJ,if_false];exact aH ⟨rfl,R',Z.same fun j j1 _=>out j j1⟩
     ·rw[if_neg big];exact aH ⟨rfl,C,Z⟩
    ·rintro _ v ⟨rfl,C,Z⟩;dsimp only;have m:=ziO (f:=fun x=>(x.1,x.2.1,pw)) (fun q=>⟨rfl,rfl⟩) (i:=(pendingOf v).size - 1) C.sd
     refine aB (ip (aB (ip (aH ⟨_,rfl,push n _ N J ⟨C.pm,C.kn,C.fl,?_,C.ls,?_⟩ Z,by lia⟩))))
     ·show Side ((pendingOf v).modify _ _).toList 0 lo
      rw[mF];exact m.1
     ·show ∀q∈((pendingOf v).modify _ _).toList,UpL rk (arrOf v) q.1 q.2.1
      rw[mF];intro q U;obtain⟨q',m',e1,e2⟩:=m.2 q U;rw[e1,e2];exact C.up q' m'
 case post =>
  rintro _ y ⟨lo,rfl,R,hl⟩;have el:lo=a0.size:=by have:=R.ls;lia
  subst el;dsimp only;have p0:=(ZE R.sd).1;have ps:(pendingOf y).toList.length=(pendingOf y).size:=by simp
  refine aB (dR (cj (I:=fun x c v=>c=(none,())/\Rn rk kd a0 a0.size v/\((pendingOf v).size<=1\/(pendingOf v).size+x<=a0.size)) (Q:=fun c v=>c=(none,())/\Rn rk kd a0 a0.size v/\(pendingOf v).size<=1) ?_ ?_ ⟨rfl,R,.inr (by lia)⟩) ?_)
  ·rintro x _ v _ hx ⟨rfl,C,sz⟩;refine aB (iB ?_)
   by_cases le:(pendingOf v).size<=1
   ·rw[if_pos le];exact aH ⟨rfl,C,le⟩
   rw[if_neg le];refine aB (zov c C ?_ fun y' R' e _=>?_)
   ·have ile:∀(p:Prop) [Decidable p] (a b n:Nat),a<=n->b<=n->(if p then a else b)<=n:=by intros;split <;> assumption
    exact Nat.lt_of_le_of_lt (Nat.add_le_add_right (ile _ _ _ ((pendingOf v).size - 2) (by lia) (aC _)) 1) (by lia)
   ·simp only[dP,aJ,if_false];exact aH ⟨rfl,R',.inr (by lia)⟩
  ·rintro _ v ⟨rfl,C,sz⟩;exact⟨rfl,C,by lia⟩
  ·rintro _ v ⟨rfl,C,sz⟩;refine aH (h v C.pm C.fl ?_);have sd:=C.sd;have up:=C.up;have ps:(pendingOf v).toList.length=(pendingOf v).size:=by simp
   generalize (pendingOf v).toList=L at sd up ps
   match L,sd,up,ps with
   | [],sd,_,_ =>
    have:(0:Nat)=a0.size:=sd;lia
   | [q],sd,up,_ =>
    obtain⟨e1,_,e2⟩:=sd;have e2:0+q.2.1=a0.size:=e2;have u:=up q (by simp)
    intro i j h1 h2;have:=u i j h1 (by lia)
    rw[e1]at this;simpa using this
   | _::_::_,_,_,ps=>simp at ps;lia
end
theorem zm8{prog:aK}{w:aW}{A:bq}{E:qV}{s:aq}{u:eN}{rk:ah->Int}{l:Array bM}{z:bP}{Q:Unit->bP->Prop}(c:Cmp prog w A s u rk l)(b:Sb u l z)(s2:2<=l.size)(_:l.size<100000)
  (h:∀y,(arrOf y).Perm l->failedOf y=none->Up rk (arrOf y) l.size->Q () y):wpS (model prog w) A E s sortRuns' Q z:=zm9 c b s2 h
def midH(h:aY)(a:ak)(l:List ah):aY:=((h.update a (eZ fun _=>#[])).push (seqObj "tuple" l.toArray 0)).push (seqObj "list" #[] 0)
section
variable{prog:aK}{w:aW}{A:bq}{E:qV}{s:aq}{rk:ah->Int}
def Kinds(prog:aK)(w:aW)(A:bq)(s:aq)(rk:ah->Int)(l:List ah):Prop:=2<=l.length->∃u,(∀(E:qV) (Q:eN->aq->Prop),Q u s->wpAny (model prog w) A (keyKind' l.toArray) Q E s)/\Cmp prog w A s u rk (pairsOf l)
theorem zi8{a:ak}{l:List ah}{n:Nat}{P:Fin->aq->Prop}(u:s.heap.get? a=some (seqObj "list" l.toArray n)) (G:l.length<100000) (S:Kinds prog w A { s with heap:=midH s.heap a l } rk l)
  (h:∀y:bP,(arrOf y).Perm (pairsOf l)->Up rk (arrOf y) l.length->P (.done (.ret .none)) { s with heap:=sortedHeap s.heap a l ((arrOf y).map (·.2)) }) :
  wpAny (model prog w) A (fZ.«list.sort» ⟨[.ref a],[]⟩) P E s:=by
 rw[list_sort_plain];have J:a<s.heap.objs.size:=aD u;refine ae (gh u rfl (ae (mO u rfl ?_)));obtain⟨v,L⟩:∃v,(s.heap.update a (eZ fun _=>#[])).get? a=some (seqObj "list" #[] v):=⟨_,oU u (fun _=>#[])⟩
 refine ae (seqEpoch_at L rfl (ae (pT (ae (iD (cn ?_))))));have I:(midH s.heap a l).get? a=some (seqObj "list" #[] v):=by
  unfold midH;rw[cE _ _ _ (by rw[eh,cJ];exact aL (aF J (ko _))),cE _ _ _ (by rw[cJ];exact aL J)]
  exact L
 show wpAny (model prog w) A _ P E { s with heap:=midH s.heap a l }
 have z:l.toArray.size=l.length:=by simp
 have tail:∀(y:bP),(arrOf y).Perm (pairsOf l)->failedOf y=none->Up rk (arrOf y) l.length->wpAny (model prog w) A (do
   let touched:=(<- seqEpoch a) != v
   tq (.ref a) fun _=>(arrOf y).map (·.2)
   if let some e:=failedOf y then rule "list.sort.comparison-raised";throw e
   if touched then rule "list.sort.modified";raiseError "ValueError" "list modified during sort"
   ret .none) P E { s with heap:=midH s.heap a l }:=fun y pm fl up=>by
  refine ae (seqEpoch_at I rfl (ae (mO I rfl ?_ (hsz2:=?_))))
  ·rw[fl];simp only[bne_self_eq_false,aJ,if_false];exact aj (h y pm up)
  ·rw[Array.size_map,pm.size_eq,lx];show l.length<=sizeLine+1
   have:100000<=sizeLine:=by decide
   omega
 by_cases two:l.length<2
 ·simp only[z,two,if_true];refine ae (aj ?_);rw[StateT.run_pure];refine ae (aj ?_);exact tail (xc general' (l.toArray.zip l.toArray) #[] 7 none) (oV _) rfl fun i j U R=>absurd R (by omega)
 ·simp only[z,two,if_false];obtain⟨N,k1,k2⟩:=S (by omega)
  refine ae (k1 _ _ ?_);refine ae (c8 (zm8 (Q:=fun _ y=>(arrOf y).Perm (pairsOf l)/\failedOf y=none/\Up rk (arrOf y) l.length) (z:=xc N (l.toArray.zip l.toArray) #[] 7 none) k2 ⟨oV _,rfl,rfl,rfl⟩ (by rw[lx];omega) (by rw[lx];exact G)
   fun y x p2 C=>⟨x,p2,by rwa [lx]at C⟩) ?_ fun _ _ e=>e)
  rintro⟨⟨⟩,y⟩ s' ⟨rfl,x,p2,C⟩;exact tail y x p2 C
theorem zeT{l:ak}{v:List ah}{o:Obj}{T:String}{n:Nat}{Q:List ah->aq->Prop}(G:s.heap.get? l=some o)(hc:o.cls=.type T)(J:T = "list" \/ T = "tuple") (hd:o.data=.seq v.toArray n) (R:v.length<=sizeLine)
  (h:Q v { s with heap:=(s.heap.push (seqObj "list" #[] 0)).update s.heap.objs.size (eZ (·++v.toArray)) }):wpAny (model prog w) A (collect (.ref l)) Q E s:=by
 unfold collect;refine ae (wpAny_runValue (lG entry_proto_collect' ?_));show wpAny (model prog w) _ (newList [] >>= fun x=>again (.builtin "list.__iadd__" ⟨[x,.ref l],[]⟩)) _ _ s
 refine ae (iD (aj ⟨mX _ (by decide +kernel),lG entry_list_iadd' ?_⟩))
 show wpAny (model prog w) _ (iP (.ref s.heap.objs.size) (.ref l) (.ref s.heap.objs.size)) _ _ { s with heap:=s.heap.push (seqObj "list" #[] 0) }
 unfold iP;have C:(s.heap.push (seqObj "list" #[] 0)).get? l=some o:=av _ G;refine ae (gf (T:=T) ⟨o,C,hc⟩ ?_);have cond:∀b:Bool,(b||bH T == bH "list" ||bH T == bH "tuple")=true:=by
  intro b;have N:(bH "list" == bH "list")=true:=rfl;have I:(bH "tuple" == bH "tuple")=true:=rfl;rcases J with rfl|rfl
  ·rw[N];simp
  ·rw[I];simp
 rw[if_pos (cond _)];refine ae (gh C hd (ae (gh (xs:=#[]) (n:=0) (aI _ rfl) rfl ?_)));rw[if_neg (by simp)]
 refine ae (mO (xs:=#[]) (n:=0) (aI _ rfl) rfl (aj ?_) (eU _) (by simp only[Array.size_append,aG,cY];omega))
 refine ae (m:=load s.heap.objs.size) (wpAny_load (oU (aI _ rfl) _) ?_);show wpAny (model prog w) A (pure ((#[]:Array ah)++v.toArray).toList) Q E _
 have e:((#[]:Array ah)++v.toArray).toList=v:=by simp
 rw[e];exact aj h
def preH(h:aY)(l:List ah):aY:=((h.push (seqObj "list" #[] 0)).update h.objs.size (eZ (·++l.toArray))).push (seqObj "list" l.toArray 0)
theorem zjL{l:ak}{v:List ah}{o:Obj}{T:String}{n:Nat}{Q:qV}(I:s.heap.get? l=some o)(hc:o.cls=.type T)(L:T = "list" \/ T = "tuple") (hd:o.data=.seq v.toArray n) (x:v.length<100000)
  (J:∀N,Kinds prog w N { s with heap:=midH (preH s.heap v) (s.heap.objs.size+1) v } rk v)
  (h:∀y:bP,(arrOf y).Perm (pairsOf v)->Up rk (arrOf y) v.length->Q (.ref (s.heap.objs.size+1)) { s with heap:=sortedAll s.heap v ((arrOf y).map (·.2)) }) :
  wpAny (model prog w) A (call (.builtin "sorted") [.ref l]) Q E s:=by
 refine kg kind_sorted plain_sorted entry_sorted (args_sorted1 _) ?_;unfold fZ.«sorted»;refine ae (m:=checkCount "sorted" 1 1 _) (aj ?_);refine ae (zeT I hc L hd (by have:100000<=sizeLine:=(by decide);omega) (ae (iD ?_)))
 have z:((s.heap.push (seqObj "list" #[] 0)).update s.heap.objs.size (eZ (·++v.toArray))).objs.size=s.heap.objs.size+1:=by rw[cJ,eh]
 have C:(preH s.heap v).get? (s.heap.objs.size+1)=some (seqObj "list" v.toArray 0):=by
  unfold preH;rw[<- z];exact aI _ rfl
 show wpAny (model prog w) _ _ _ _ { s with heap:=preH s.heap v }
 rw[z];refine ae (cn (eI pU ⟨_,C,rfl⟩ oW (zi8 C x (J _) fun y G p2=>⟨_,rfl,?_⟩) (pV _)))
 exact aj ⟨_,rfl,h y G p2⟩
end
section
variable{prog:aK}{w:aW}{A:bq}{E:qV}{s:aq}
theorem zlI(b:Bool)(x y:ah):keyLt' (tuples' b) x y=(do
  let xs <- g8 x
  let ys <- g8 y
  for ((p,q),i) in (xs.toList.zip ys.toList).zipIdx do
   if !(<- eqBool p q) then return <- oneLt' (b&&i == 0) p q
  return decide (xs.size<ys.size)):=rfl
def LtAt(prog:aK)(w:aW)(A:bq)(s:aq)(one:Bool)(p q:ah)(l:Bool):Prop:=∀(E:qV) (Q:Bool->aq->Prop),Q l s->wpAny (model prog w) A (oneLt' one p q) Q E s
theorem zg_{b:Bool}{x y:ak}{R S:Obj}{v u l C:ah}{n m:Nat}{G J U N:Bool}{Q:Bool->aq->Prop}(hx:s.heap.get? x=some R)(dx:R.data=.seq #[v,u] n)(hy:s.heap.get? y=some S)(Y:S.data=.seq #[l,C] m)
  (e0:mT A s v l G) (e1:mT A s u C J) (t0:G=false->LtAt prog w A s b v l U) (t1:J=false->LtAt prog w A s false u C N) (h:Q (if G=true then(if J=true then false else N) else U) s) :
  wpAny (model prog w) A (keyLt' (tuples' b) (.ref x) (.ref y)) Q E s:=by
 rw[zlI];refine ae (gh hx dx (ae (gh hy Y ?_)));have ez:((#[v,u]:Array ah).toList.zip (#[l,C]:Array ah).toList).zipIdx=[((v,l),0),((u,C),1)]:=rfl;simp only[ez,iH,mh];refine ae (ae ?_);refine ae (e0 prog w E _ ?_);cases G with
 | false =>
  simp only[fX,if_true];have z0:(b&&(0:Nat) == 0)=b:=by simp
  rw[z0];refine ae (t0 rfl E _ ?_);exact aj (aj (aj (by simpa using h)))
 | true =>
  simp only[dP,aJ,if_false];refine aj (ae (ae (e1 prog w E _ ?_)));cases J with
  | false =>
   simp only[fX,if_true];have Z:(b&&(1:Nat) == 0)=false:=by simp
   rw[Z];refine ae (t1 rfl E _ ?_);exact aj (aj (aj (by simpa using h)))
  | true =>
   simp only[dP,aJ,if_false];exact aj (aj (aj (by simpa using h)))
theorem zlj(a b:Int)(t u:Tok):LtAt prog w A s true (.int a t) (.int b u) (decide (a<b)):=fun _ _ q=>oneLt_int q
theorem znx(a b:Int)(t u:Tok):LtAt prog w A s false (.int a t) (.int b u) (decide (a<b)):=fun E Q q=>by
 rw[tv];simp only[aJ,if_false];refine ae (show wpAny (model prog w) A (compareOp .Lt (.int a t) (.int b u)) _ E s from lt_int ?_)
 exact bW q
def PrIn(h:aY)(u:ah)(b k:Int):Prop:=∃(a:ak) (o:Obj) (t t':Tok) (n:Nat),u=.ref a/\h.get? a=some o/\o.cls=.type "tuple" /\ o.data=.seq #[.int b t,.int k t'] n
def two?:List ah->Int
 | [.int b _,.int k _]=>b*1000+k
 | _=>0
def rkC(h:aY)(u:ah):Int:=match u with
 | .ref a=>match h.get? a with
  | some o=>match o.data with
   | .seq xs _=>two? xs.toList
   | _=>0
  | none=>0
 | _=>0
theorem PrIn.rk{h:aY}{u:ah}{b k:Int}(p:PrIn h u b k):rkC h u=b*1000+k:=by
 obtain⟨a,o,t,t',n,rfl,l,_,v⟩:=p;simp only[rkC,l,v,two?]
theorem PrIn.kept{h h':aY}{u:ah}{b k:Int}(p:PrIn h u b k)(kp:∀b o,h.get? b=some o->h'.get? b=some o):PrIn h' u b k:=by
 obtain⟨a,o,t,t',n,l,v,y,x⟩:=p;exact⟨a,o,t,t',n,l,kp _ _ v,y,x⟩
theorem ZJ{α u:Type}{f:α->Sem u}{P:α->u->Prop}{M:m7}:∀(l:List α) {Q:List u->aq->Prop},(∀v∈l,∀(C:u->aq->Prop),(∀r,P v r->C r s)->wpAny M A (f v) C E s)->(∀rs,eL P l rs->Q rs s)->wpAny M A (l.mapM f) Q E s
 | [],_,_,h=>by rw[List.mapM_nil];exact aj (h _ .nil)
 | x::l,Q,hf,h=>by
  rw[List.mapM_cons];exact ae (hf x (.head _) _ fun r G=>ae (ZJ l (fun v I=>hf v (.tail _ I)) fun rs y=>aj (h _ (.cons G y))))
theorem zjm(v:ah):firstOfTuple' v=(do
  if (<- typeOf v) != .type "tuple" then return none
  return (<- g8 v)[0]?):=rfl
theorem zj5{R:List ah}{Q:eN->aq->Prop}(S:1<=R.length)(L:∀v∈R,∃b k,PrIn s.heap v b k)(h:Q (tuples' true) s):wpAny (model prog w) A (keyKind' R.toArray) Q E s:=by
 rw[keyKind'_eq,g9,map_eq_pure_bind];refine ae (ae (ZJ (P:=fun _ r=>∃(b:Int) (t:Tok),r=some (.int b t)) R (fun v hv Q' hq=>?_) fun rs I=>aj ?_))
 ·obtain⟨b,k,a,o,t,t',n,rfl,Z,e2,e3⟩:=L v hv;rw[zjm];refine ae (gf (T:="tuple") ⟨o,Z,e2⟩ ?_);rw[if_neg (by decide)]
  exact ae (gh Z e3 (aj (hq _ ⟨b,t,rfl⟩)))
 ·have al:∀r∈rs,∃(b:Int) (t:Tok),r=some (.int b t):=by
   clear h L S;induction I with
   | nil=>intro r u;cases u
   | cons x y G =>
    intro r u;rcases aA.mp u with rfl|u
    ·exact x
    ·exact G r u
  have ln:rs.length=R.length:=by
   clear h L S al;induction I with
   | nil=>rfl
   | cons x y G=>simp[G]
  have Kd:(rs.toArray.all fun x=>x.isSome)=true:=by
   simp only[iq,bw];intro x hx;obtain⟨b,t,rfl⟩:=al x hx
   rfl
  rw[if_pos Kd];refine ae (dq ?_);rw[oX];have N:rs.toArray.filterMap id=(rs.filterMap id).toArray:=by simp
  rw[N,g9,map_eq_pure_bind];refine ae (ae (ae (ZJ (P:=fun _ r=>r=bH "int") _ (fun v hv Q' hq=>?_) fun ts C=>aj ?_)))
  ·obtain⟨x,hx,e⟩:=fA.mp hv;obtain⟨b,t,rfl⟩:=al x hx;cases e;exact aj (hq _ rfl)
  ·have J:∀r∈ts,r=bH "int":=by
    clear h L S;generalize rs.filterMap id=l at C;induction C with
    | nil=>intro r u;cases u
    | cons x y G =>
     intro r u;rcases aA.mp u with rfl|u
     ·exact x
     ·exact G r u
   have ln2:ts.length=rs.length:=by
    have:ts.length=(rs.filterMap id).length:=by
     clear h L S J;generalize rs.filterMap id=l at C;induction C with
     | nil=>rfl
     | cons x y G=>simp[G]
    rw[this];clear this C N Kd;clear ln I;induction rs with
    | nil=>rfl
    | cons x l G =>
     obtain⟨b,t,rfl⟩:=al x (.head _);simp only[dF,id,aP];rw[G fun r u=>al r (.tail _ u)]
   obtain⟨Y,U,rfl⟩:∃Y U,ts=Y::U:=by
    cases ts with
    | nil=>simp at ln2;omega
    | cons a b=>exact⟨a,b,rfl⟩
   have Z:Y=bH "int":=J Y (.head _);subst Z;have Kg:(((bH "int")::U).toArray.all fun x=>x == bH "int")=true:=by
    simp only[iq,bw];intro x hx;rw[J x hx];rfl
   have h0:((bH "int")::U).toArray[0]?=some (bH "int"):=by simp
   rw[h0];simp only[Kg,if_true];refine aj (aj ?_);exact h
theorem zia{l:List ah}{h0:aY}(C:∀v∈l,∃b k,PrIn s.heap v b k/\rkC h0 v=b*1000+k/\0<=k/\k<1000):Kinds prog w A s (rkC h0) l:=fun h2=>by
 refine⟨tuples' true,fun E Q q=>zj5 (by omega) (fun v S=>?_) q,fun p q E Q mp N h=>?_⟩
 ·obtain⟨b,k,h,_⟩:=C v S;exact⟨b,k,h⟩
 ·have mem:∀z∈(pairsOf l).toList,z.1∈l:=fun z I=>by
   have:z∈l.zip l:=by simpa[pairsOf] using I
   exact(ee this).1
  obtain⟨b,k,⟨a,o,t,t',n,U,e1,e2,J⟩,Z,k0,k1⟩:=C _ (mem p mp);obtain⟨x,y,⟨a',o',u,G,n',f0,f1,f2,R⟩,r2,Y,k1'⟩:=C _ (mem q N);rw[Z,r2]at h;rw[U,f0];refine zg_ e1 J f1 R (i6 b t x u) (i6 k t' y G) (fun _=>zlj b x t u) (fun _=>znx k y t' G) ?_
  have:(if (b == x)=true then(if (k == y)=true then false else decide (k<y)) else decide (b<x))=decide (b*1000+k<x*1000+y):=by
   simp only[beq_iff_eq];split
   ·split
    ·symm;rw[decide_eq_false_iff_not];omega
    ·rw[decide_eq_decide];omega
   ·rw[decide_eq_decide];omega
  rw[this];exact h
end
theorem VR{α v:Type}{l:List (α×v)}{m:List v}(h:m.Perm (l.map (·.2))):∃u:List (α×v),u.Perm l/\u.map (·.2)=m:=by
 induction m generalizing l with
 | nil =>
  have:l.map (·.2)=[]:=h.symm.eq_nil;cases l with
  | nil=>exact⟨[],.refl _,rfl⟩
  | cons a b=>simp at this
 | cons x m G =>
  have hx:x∈l.map (·.2):=h.mem_iff.mp (.head _);obtain⟨z,C,rfl⟩:=aS.mp hx;obtain⟨y,l2,rfl⟩:=List.append_of_mem C;have I:(z.2::m).Perm (z.2::(y++l2).map (·.2)):=by
   refine h.trans ?_;simp only[eu,bZ];exact oh
  obtain⟨u,p,e⟩:=G (List.perm_cons _|>.mp I)
  exact⟨z::u,(p.cons z).trans oh.symm,by simp[e]⟩
theorem zjY{h:aY}{u:List ah}{b:ak}{o:Obj}(v:h.get? b=some o):(midH (preH h u) (h.objs.size+1) u).get? b=some o:=by
 have l:b<h.objs.size:=aD v;unfold midH preH;rw[cE _ _ _ (by rw[eh,cJ,eh,cJ,eh];exact aL (aF l (by lia))),cE _ _ _ (by rw[cJ,eh,cJ,eh];exact aL (aF l (by lia))),
  gq _ _ _ _ (by exact aL (aF l (by lia))),cE _ _ _ (by rw[cJ,eh];exact aL (aF l (by lia))),gq _ _ _ _ (by exact aL (aF l (by lia))),cE _ _ _ (by exact aL (aF l (by lia)))]
 exact v
def rkD:af->Int
 | .tuple [.int b,.int k]=>b*1000+k
 | _=>0
def PrV(K:qF)(H:Hp)(z:V×af):Prop:=∃q b k,z.1=.ref q/\z.2=.tuple [.int b,.int k]/\SqT K H q [.int b,.int k]/\0<=k/\k<1000
section
variable{X:Cx}
theorem zhD:JU X (.builtin "sorted") (fun xs H Q=>∃(p:ak) (zs:List (V×af)),xs=[.ref p]/\(SqL X.K H p (zs.map (·.1))\/SqT X.K H p (zs.map (·.1)))/\zs.length<100000/\(∀z∈zs,PrV X.K H z) /\
  ∀N:List (V×af),N.Perm zs->N.Pairwise (fun a b=>rkD a.2<=rkD b.2)->∀l,H l=none->Q (.ref l) (upd H l (.lst (N.map (·.1))))):=by
 intro pins s σ H xs us Q I r h;obtain⟨p,zs,rfl,U,h64,hp,q⟩:=h;obtain⟨u,rfl,rx⟩:=vals1 r;cases rx;have key:∀(C:List ah) (o:Obj) (T:String) (n:Nat),Vals (zs.map (·.1)) C->s.heap.get? p=some o->o.cls=.type T->(T = "list" \/ T = "tuple")->o.data=.seq C.toArray n -> 
   wpAny (model X.prog X.w) X.A (call (.builtin "sorted") [.ref p]) (EP X pins σ Q) X.xe s:=fun C o T n rv Y hc hT hd=>by
  have hlen:zs.length=C.length:=by simpa using rv.length
  have each:∀x∈zs.zip C,RelV x.1.1 x.2/\∃b k,PrIn s.heap x.2 b k/\x.1.2=.tuple [.int b,.int k]/\0<=k/\k<1000:=by
   have rel:∀(zs:List (V×af)) (C:List ah),Vals (zs.map (·.1)) C->∀x∈zs.zip C,RelV x.1.1 x.2:=by
    intro zs;induction zs with
    | nil=>intro C _ x hx;simp at hx
    | cons z zs ih =>
     intro C r x hx;cases r with
     | cons Z r2 =>
      rcases aA.mp (by simpa using hx) with rfl|hx
      ·exact Z
      ·exact ih _ r2 x hx
   intro x hx;have Z:=rel zs C rv x hx;obtain⟨q',b,k,e1,e2,e3,k0,k1⟩:=hp x.1 (ee hx).1;refine⟨Z,b,k,?_,e2,k0,k1⟩;rw[e1]at Z;obtain⟨is,rs,⟨o',f1,f2,n',f3⟩,_⟩:=I.tuple e3;cases rs with
   | cons a1 a2 =>
    cases a2 with
    | cons a3 a4 =>
     cases a4;obtain⟨t,rfl⟩:=a1;obtain⟨t',rfl⟩:=a3;exact⟨q',o',t,t',n',Z,f1,f2,f3⟩
  refine zjL (rk:=rkC s.heap) Y hc hT hd (by lia) (fun A'=>zia fun v hv=>?_) fun y pm up=>?_
  ·obtain⟨i,hi,rfl⟩:=bL hv;have hz:i<zs.length:=by lia
   have mem:(zs[i],C[i])∈zs.zip C:=by
    have:(zs.zip C)[i]'(by simp;lia)=(zs[i],C[i]):=by simp
    rw[<- this];exact dM _
   obtain⟨_,b,k,h1,_,k0,k1⟩:=each _ mem;exact⟨b,k,h1.kept fun _ _ e=>zjY e,h1.rk,k0,k1⟩
  ·have J:(arrOf y).toList.Perm (C.zip C):=by
    have:=cQ.mp pm;simpa[pairsOf] using this
   have pm1:((arrOf y).toList.map (·.2)).Perm ((zs.zip C).map (·.2)):=by
    refine(J.map _).trans ?_;rw[eJ (by lia),eJ (by lia)]
   obtain⟨G,p1,p2⟩:=VR pm1;have IQ:∀x∈G,RelV x.1.1 x.2/\∃b k,PrIn s.heap x.2 b k/\x.1.2=.tuple [.int b,.int k]/\0<=k/\k<1000:=fun x hx=>each x (p1.mem_iff.mp hx)
   have pz:(G.map (·.1)).Perm zs:=by
    have:=p1.map (·.1)
    rwa [ir (by lia)]at this
   have rw':Vals ((G.map (·.1)).map (·.1)) (G.map (·.2)):=by
    have:∀G:List ((V×af)×ah),(∀x∈G,RelV x.1.1 x.2)->Vals ((G.map (·.1)).map (·.1)) (G.map (·.2)):=by
     intro G;induction G with
     | nil=>intro _;exact .nil
     | cons a l ih=>intro h;exact .cons (h a (.head _)) (ih fun x hx=>h x (.tail _ hx))
    exact this G fun x hx=>(IQ x hx).1
   have S:∀x∈G,rkC s.heap x.2=rkD x.1.2:=fun x hx=>by
    obtain⟨_,b,k,h1,h2,_⟩:=IQ x hx;rw[h1.rk,h2];rfl
   have IU:∀z∈(arrOf y).toList,z.1=z.2:=fun z hz=>by
    have:z∈C.zip C:=J.mem_iff.mp hz;obtain⟨i,hi,rfl⟩:=bL this;simp
   have szy:(arrOf y).size=C.length:=by
    have:=J.length_eq;simpa using this
   have pw:(G.map (·.1)).Pairwise (fun a b=>rkD a.2<=rkD b.2):=by
    rw[dY,bp];intro i j hi hj hij;have lw:G.length=C.length:=by
     have:=congrArg dQ p2;simpa[szy] using this
    have gw:∀k (hk:k<G.length),rkAt (rkC s.heap) (arrOf y) k=rkD G[k].1.2:=fun k hk=>by
     have R:k<(arrOf y).size:=by lia
     have e1:(arrOf y).toList[k]'(by simpa using R)=(arrOf y)[k]:=by simp
     have e2:G[k].2=(arrOf y)[k].2:=by
      have:(G.map (·.2))[k]'(by simpa using hk)=((arrOf y).toList.map (·.2))[k]'(by simpa using R):=by simp only[p2]
      simpa using this
     have e3:(arrOf y)[k].1=(arrOf y)[k].2:=IU _ (by rw[<- e1];exact dM _)
     unfold rkAt;rw[bU R];simp only[gF,fi];rw[e3,<- e2];exact S _ (dM _)
    have:=up i j hij (by lia)
    rwa [gw i hi,gw j hj]at this
   have ev:(arrOf y).map (·.2)=(G.map (·.2)).toArray:=by
    apply oi.mp;rw[oj,p2]
   rw[ev];obtain⟨e,he⟩:=sortedAll_at s.heap C (G.map (·.2)).toArray;refine⟨.ref (s.heap.objs.size+1),_,I.laid (a:=s.heap.objs.size+1) (o:=.lst ((G.map (·.1)).map (·.1))) (t':=s.toks) (fun _ _=>sortedAll_old) (ko _) ?_,rfl,q _ pz pw _ (I.hok.fresh (ko _))⟩
   refine⟨?_,G.map (·.2),e,rw',he⟩;have:100000<=sizeLine:=by decide
   have:=pz.length_eq;simp at this ⊢;lia
 rcases U with U|U
 ·obtain⟨C,r',pl,hz⟩:=I.list U;obtain⟨o,Y,hc,n,hd⟩:=pl.isList;exact key C o "list" n r' Y hc (.inl rfl) hd
 ·obtain⟨C,r',pl,hz⟩:=I.tuple U;obtain⟨o,Y,hc,n,hd⟩:=pl;exact key C o "tuple" n r' Y hc (.inr rfl) hd
end
def IsPr(t:af):Prop:=∃b k:Int,t=.tuple [.int b,.int k]/\0<=k/\k<1000
def YU(t:af)(R:List af->Prop):Prop:=JX t fun ts=>ts.length<100000/\(∀x∈ts,IsPr x)/\∀l:List af,l.Perm ts->l.Pairwise (fun a b=>rkD a<=rkD b)->R l
def zqs(d:DTE):DTA:=fun u n R=>d u n fun t l=>YU t fun ts=>R ts l
section
variable{X:Cx}{e:aX}{d:DTE}{pos p:Pos}{k:Nat}
theorem zhv(hr:Room k X.A)(hm:X.mg "sorted" = none) (h:DL X e d) (hs:starEach [e] X.env=[(false,eval e X.env)]) (hg:Gl X "sorted":=by rfl):DN X (.Call (.Name "sorted" p) [e] [] pos) (zqs d):=by
 obtain⟨ta,pa,h⟩:=h;refine⟨_,Ui zhD hm boot_sorted (Qi pa QD hs) hg,fun C Y σ H n Q R S hd hq=>?_⟩
 refine h C Y σ H n _ _ S hd fun t n1 v G r1 e1 Z q1=>?_
 have S1:=S.on e1 Z;have fin:∀p u ts,Reps X.K C.hd (Own C Y σ) G u ts->R ts n1->G p=none->Q (.ref p) (upd G p (.lst u)):=fun p u ts rp rr J=>by
  have hp0:H p=none:=by
   cases z:H p with
   | none=>rfl
   | some o =>
    by_cases y:C.hd=some p
    ·obtain⟨d,m,t,q,_⟩:=Z p y;rw[J]at q;cases q
    ·rw[e1 p o z y]at J;cases J
  refine hq ts n1 p u _ rr (e1.trans (ExtE.new J)) (Z.same (JQ J)) hp0 JM ?_;refine rp.mono (fun b o hb z=>z.elim id fun z=>?_) fun b o _ hb=>JQ J b o hb
  subst z;rw[J]at hb;cases hb
 have go:∀(p:ak) u ts,(SqL X.K G p u\/SqT X.K G p u)->Reps X.K C.hd (Own C Y σ) G u ts->(ts.length<100000/\(∀x∈ts,IsPr x)/\∀L:List af,L.Perm ts->L.Pairwise (fun a b=>rkD a<=rkD b)->R L n1) ->
   ∃(p':ak) (zs:List (V×af)),[V.ref p]=[V.ref p']/\(SqL X.K G p' (zs.map (·.1))\/SqT X.K G p' (zs.map (·.1)))/\zs.length<100000/\(∀z∈zs,PrV X.K G z) /\
  ∀I:List (V×af),I.Perm zs->I.Pairwise (fun a b=>rkD a.2<=rkD b.2)->∀l,G l=none->Q (.ref l) (upd G l (.lst (I.map (·.1)))):=fun p u ts hs rp h=>by
  have ln:=rp.length;have rel:∀z∈u.zip ts,Rep X.K C.hd (Own C Y σ) G z.1 z.2:=fun z hz=>by
   obtain⟨i,hi,rfl⟩:=bL hz;have hi2:i<ts.length:=by simp at hi;lia
   obtain⟨v,Z,h2⟩:=rp.get (au hi2);have hi1:i<u.length:=by lia
   rw[au hi1]at Z;cases Z;simpa using h2
  refine⟨p,u.zip ts,rfl,?_,by simp;lia,fun z hz=>?_,fun I pm pw l hl=>?_⟩
  ·rw[ir (by lia)];exact hs
  ·obtain⟨b,k,e,k0,k1⟩:=h.2.1 z.2 (ee hz).2;have r:=rel z hz;rw[e]at r;obtain⟨a,ws,e1,e2,e3⟩:=r.tupI;cases e3 with
   | cons x1 x2 =>
    cases x2 with
    | cons x3 x4 =>
     cases x4;rw[x1.intI,x3.intI]at e2;exact⟨a,b,k,e1,e,e2,k0,k1⟩
  ·refine fin l _ (I.map (·.2)) ?_ (h.2.2 _ ?_ ?_) hl
   ·have:∀zs:List (V×af),(∀z∈zs,Rep X.K C.hd (Own C Y σ) G z.1 z.2)->Reps X.K C.hd (Own C Y σ) G (zs.map (·.1)) (zs.map (·.2)):=by
     intro zs;induction zs with
     | nil=>intro _;exact .nil
     | cons a l ih=>intro h;exact .cons (h a (.head _)) (ih fun x hx=>h x (.tail _ hx))
    exact this I fun z hz=>rel z (pm.mem_iff.mp hz)
   ·have:=pm.map (·.2)
    rwa [eJ (by lia)]at this
   ·rw[dY];exact pw
 cases t with
 | list ts =>
  obtain⟨p,u,rfl,U,h2⟩:=q1.lstI;exact go p u ts (.inl (.of U)) h2 r1
 | tuple ts =>
  obtain⟨p,u,rfl,U,h2⟩:=q1.tupI;exact go p u ts (.inr U) h2 r1
 | _=>exact r1.elim
end
abbrev prD(b:Int×Int):af:=.tuple [.int b.1,.int b.2]
def pD(bs:qB):List af:=bs.map prD
theorem Jv{bs:qB}:(pD bs).length=bs.length:=by simp[pD]
theorem Vx{bs cs:qB}:pD bs++pD cs=pD (bs++cs):=by simp[pD]
theorem UR{i h:Int}{bs:qB}:pD bs++[.tuple [.int i,.int h]]=pD (bs++[(i,h)]):=by simp[pD]
theorem Zi{bs:qB}{k:Nat}{t:af}(h:(pD bs)[k]?=some t):∃i g:Int,bs[k]?=some (i,g)/\t=.tuple [.int i,.int g]:=by
 unfold pD at h;rw[bg]at h;cases e:bs[k]? with
 | none=>rw[e]at h;cases h
 | some b=>rw[e]at h;cases h;exact⟨b.1,b.2,rfl,rfl⟩
def eB(b:Int×Int):Int:=b.1+2 ^ b.2.toNat
def Bks(bits:Int)(bs:qB):Prop:=∀b∈bs,IsBk bits b.1 b.2
def Ptc(bits:Int)(bs:qB):Prop:=Bks bits bs/\bs.Pairwise fun a b=>eB a<=b.1
theorem UW(b:Int×Int):b.1<eB b:=by have:=Bd.Qm b.2.toNat;unfold eB;lia
theorem Ptc.ends{bits:Int}{bs:qB}(P:Ptc bits bs):bs.Pairwise fun a b=>eB a<=eB b:=P.2.imp fun {a b} h=>by have:=UW b;lia
theorem zot{bs:qB}:Okd (.list (pD bs)):=by
 have:∀bs:List (Int×Int),bu (pD bs)=true/\cb (pD bs)<=1:=by
  intro bs;induction bs with
  | nil=>exact⟨by simp[pD,bu],by simp[pD,cb]⟩
  | cons b l u =>
   refine⟨?_,?_⟩
   ·have:=u.1;simp only[pD,bZ,bu,bN,gC,dh]at this ⊢;exact this
   ·have:=u.2;simp only[pD,bZ,cb,cS]at this ⊢;lia
 exact⟨by simp only[bN];exact(this bs).1,by simp only[cS];have:=(this bs).2;lia⟩
theorem Yp:Okd (.list []):=⟨by simp[bN,bu],by simp[cS,cb]⟩
theorem zp3{d:DTE}{u:En}{n:Nat}{l:List af->Nat->Prop}(h:d u n fun t v=>YU t fun ts=>l ts v):zqs d u n l:=h
theorem zsL{bits:Int}{bs:qB}{Y:List af->Prop}(y:bits<=64)(B:Bks bits bs)(J:bs.Pairwise fun a b=>eB a<=b.1\/eB b<=a.1)(N:bs.length<100000)
  (h:∀cs,Ptc bits cs->cs.Perm bs->Y (pD cs)):YU (.list (pD bs)) Y:=by
 refine⟨by rw[Jv];exact N,fun x hx=>?_,fun C pm pw=>?_⟩
 ·obtain⟨b,G,rfl⟩:=aS.mp hx;have:=B b G;exact⟨b.1,b.2,rfl,this.1,by have:=this.2.1;lia⟩
 ·have L:C.Perm ((bs.map fun b=>(b,prD b)).map (·.2)):=by
   have:(bs.map fun b=>(b,prD b)).map (·.2)=pD bs:=by simp[pD]
   rw[this];exact pm
  obtain⟨zs,R,p2⟩:=VR L;have Z:∀z∈zs,z.2=prD z.1:=fun z I=>by
   obtain⟨b,_,rfl⟩:=aS.mp (R.mem_iff.mp I)
   rfl
  have e:C=pD (zs.map (·.1)):=by
   rw[<- p2];unfold pD;rw[cZ];exact iN fun z I=>Z z I
  have pc:(zs.map (·.1)).Perm bs:=by
   have:=R.map (·.1);rw[cZ]at this;have e2:bs.map ((fun x:(Int×Int)×af=>x.1)∘fun b=>(b,prD b))=bs:=by
    show bs.map id=bs
    exact vw _
   rwa [e2]at this
  rw[e];have v:(zs.map (·.1)).Pairwise fun a b=>eB a<=b.1\/eB b<=a.1:=(pc.pairwise_iff (fun {a b} h=>h.symm)).mpr J
  have u:Bks bits (zs.map (·.1)):=fun b y=>B b (pc.mem_iff.mp y)
  rw[e]at pw;unfold pD at pw;rw[dY]at pw;refine h _ ⟨u,?_⟩ pc;have both:=xK v pw;refine gD ?_ both;rintro a b U y ⟨h1,S⟩;have S:a.1*1000+a.2<=b.1*1000+b.2:=S;have a0:=(u a U).1;have a1:=(u a U).2.1;have b0:=(u b y).1;have b1:=(u b y).2.1;have:=UW a;have:=UW b;lia
theorem zt4{J:DTG}{tt:DTT}{d:DTE}{C:En}{L:List af->Nat->Prop}(Inv:Nat->List af->Nat->Prop):∀(xs:qD) (i:Nat) {v:qD}{n:Nat},Inv i v n ->
  (∀(k:Nat) (x:af) (v:qD) (n:Nat) (K:List af->Nat->Prop),xs[k]?=some x->Inv (i+k) v n->(∀y G,Inv (i+k+1) y G->K y G) ->
   J x C fun I=>tt I n fun b N=>if b=true then d I N fun t U=>v.length<16777216/\K (v++[t]) U else K v N) ->
  (∀v n,Inv (i+xs.length) v n->L v n)->JN J tt d C xs v n L
 | [],i,v,n,h0,_,fin=>fin v n (by simpa using h0)
 | x::xs,i,v,n,h0,turn,fin=>by
  refine turn 0 x v n (fun v n=>JN J tt d C xs v n L) rfl (by simpa using h0) fun y G h'=>?_
  refine zt4 Inv xs (i+1) (by simpa using h') (fun k u v n K e R S=>?_) (fun v n h=>fin v n ?_)
  ·refine turn (k+1) u v n K (by simpa using e) ?_ fun y G h'=>S y G ?_
   ·have:i+(k+1)=i+1+k:=by lia
    rw[this];exact R
   ·have:i+1+k+1=i+(k+1)+1:=by lia
    rw[this];exact h'
  ·have:i+(x::xs).length=i+1+xs.length:=by simp;lia
   rw[this]at *;exact h
theorem Z9{G:DTG}{tt:DTT}{d:DTE}{v:En}{J:List af->Nat->Prop}{xs:qD}{n:Nat}(Inv:Nat->List af->Nat->Prop)(h0:Inv 0 [] n)
  (turn:∀(k:Nat) (x:af) (l:qD) (n:Nat) (K:List af->Nat->Prop),xs[k]?=some x->Inv k l n->(∀u I,Inv (k+1) u I->K u I) ->
   G x v fun y=>tt y n fun b C=>if b=true then d y C fun t R=>l.length<16777216/\K (l++[t]) R else K l C)
  (fin:∀l n,Inv xs.length l n->J l n):JN G tt d v xs [] n J :=
 zt4 Inv xs 0 h0 (fun k x l n K e L N=>turn k x l n K e (by simpa using L) fun a m h=>N a m (by simpa using h)) fun l n h=>fin l n (by simpa using h)
theorem Ut{α:Type}{cs:List α}{D:α->af}{I:DTG}{tt:DTT}{d:DTE}{v:En}{n:Nat}{G:List af->Nat->Prop}(F:α->af)(J:cs.length<=16777216)
  (step:∀b∈cs,∀(K:qN) (X:Nat->Prop),K (F b) n->I (D b) v fun y=>tt y n fun c C=>if c=true then d y C K else X C) (fin:G (cs.map F) n):JN I tt d v (cs.map D) [] n G:=by
 refine Z9 (fun j l m=>m=n/\l=(cs.take j).map F) ⟨rfl,rfl⟩ ?_ ?_
 ·rintro j x l m K u ⟨rfl,rfl⟩ hK;rw[bg]at u;cases eb:cs[j]? with
  | none=>rw[eb]at u;cases u
  | some b =>
   rw[eb]at u;cases u;obtain⟨N,L⟩:=ax.mp eb;refine step b (aN eb) _ _ ⟨?_,hK _ _ ⟨rfl,?_⟩⟩
   ·simp;lia
   ·rw[dD,eb];simp
 ·rintro l m ⟨rfl,rfl⟩;rw[aZ,fk];exact fin
theorem zwh{bs:List Bool}{R:af->Prop}(h:R (.bool (bs.all id))):bAll [.list (bs.map cK)] R:=⟨bs,rfl,h⟩
theorem zlR{α:Type}{cs:List α}{f:α->Bool}{R:af->Prop}(h:R (.bool (cs.all f))):bAll [.list (cs.map fun b=>cK (f b))] R:=by
 have e:(cs.map fun b=>cK (f b))=(cs.map f).map cK:=by simp
 rw[e];refine zwh ?_;have u:(cs.map f).all id=cs.all f:=by simp[List.all_map,ku]
 rw[u];exact h
theorem zv1{xs:qD}{k:Nat}{x:af}{R:af->Prop}(e:xs[k]?=some x)(h:R x):oIx (.tuple xs) (.int (k:Int)) R:=by
 have v:k<xs.length:=by
  rcases cg k xs.length with z|z
  ·exact z
  ·rw[cw z]at e;cases e
 rw[YG (x:=x)]
 ·exact h
 ·unfold atI ixN;have:((0:Int)<=(k:Int)):=by lia
  have:((k:Int)<(xs.length:Int)):=by lia
  have y:xs[k]=x:=by rw[au v]at e;exact aO e
  simp[v,y]
theorem zpT{xs:qD}{i:Int}{k:Nat}{x:af}{R:af->Prop}(hi:i=(k:Int))(e:xs[k]?=some x)(h:R x):oIx (.tuple xs) (.int i) R:=by subst hi;exact zv1 e h
theorem Y3{bs:qB}{k:Nat}{b:Int×Int}(h:bs[k]?=some b):(pD bs)[k]?=some (.tuple [.int b.1,.int b.2]):=by
 unfold pD;rw[bg,h];rfl
theorem zqh{bs:qB}:cM (.list (pD bs)) (.list [])=bs.isEmpty:=by
 cases bs with
 | nil=>simp[pD,cM,e8]
 | cons b l=>simp[pD,cM,e8]
theorem Q0{many:Int}{n:Nat}{R:qN}(h0:0<many)(u:many<2 ^ 128)(l:n<=1000000000000)(h:∀r:Int,0<=r->r<many->R (.int r) (n+1)):UY [HAND,.int many] n R:=⟨rfl,h0,u,l,h⟩
theorem zjX{i h:Int}:JV (.tuple [.int i,.int h])=true:=by simp[JV,Zg]
theorem Bks.app{bits i h:Int}{bs:qB}(B:Bks bits bs)(C:IsBk bits i h):Bks bits (bs++[(i,h)]):=fun b l=>by
 rcases aw.mp l with z|z
 ·exact B b z
 ·cases az.mp z;exact C
section
variable{prog:aK}{w:aW}{A:bq}{E:qV}{s:aq}
open HT in
theorem zcE{t y:ak}{items:Array ah}{G I:ah}{lo hi:Option Int}{Q:qV}(l:m5 s.heap t items)(J:s.heap.IsSliceOf y G I .none)(pl:kE G lo)(L:kE I hi)
  (hw:HT.sIx items.size 0 lo=0/\HT.sIx items.size items.size hi=items.size) (h:Q (.ref t) s):wpAny (model prog w) A (getItem (.ref t) (.ref y)) Q E s:=by
 obtain⟨os,v,x,N⟩:=id J;have C:s.TypeIs (.ref y) "slice":=⟨os,v,x⟩;unfold getItem
 try with_reducible refine cn ?_
 first|refine ae (aj ?_)|skip
 refine ae (nB l.typeIs (by decide) ?_)
 refine ae (dW (name:=aa "__getitem__") l.typeIs cu
  (eI cu l.typeIs mD ?_ (mU _ _)))
 show wpAny _ _ (i9 (.ref t) >>= _) _ _ s
 refine ae (tupleItemsOf_ l ?_);refine ae (gf C ?_);rw[if_pos (by decide)]
 refine ae (HT.zbY J pl L ?_);have u:(((HT.sIx items.size 0 lo:Nat):Int) == 0&&(1:Int) == 1&&(HT.sIx items.size items.size hi - HT.sIx items.size 0 lo) == items.size)=true:=by
  rw[hw.1,hw.2];simp
 show wpAny _ _ (if (((HT.sIx items.size 0 lo:Nat):Int) == 0&&(1:Int) == 1&&(HT.sIx items.size items.size hi - HT.sIx items.size 0 lo) == items.size)=true then _ else _) _ _ s
 rw[if_pos u];unfold pW;refine ae (ae (gf l.typeIs (aj ?_)));rw[if_pos (by decide)]
 exact ae (dq (aj ⟨_,rfl,aj h⟩))
end
section
variable{X:Cx}
def rSlW(K:qF):V->Option Int->Option Int->Hp->VK->Prop:=fun x lo hi H Q=>∃a xs,x=.ref a/\SqT K H a xs/\(HT.sIx xs.length 0 lo=0/\HT.sIx xs.length xs.length hi=xs.length)/\Q (.ref a) H
theorem zoU:SlR X (rSlW X.K):=by
 intro pins s σ H x v N R lo hi S Q I J G pl C h;obtain⟨a,xs,rfl,hx,hw,q⟩:=h;cases J;obtain⟨u,r,y,L⟩:=I.tuple hx;have l:u.toArray.size=xs.length:=by rw[aG];exact r.length.symm
 refine⟨"tuple",_,cu.lookup,y.typeIs,?_⟩;exact zcE y G pl C (by rw[l];exact hw) ⟨.ref a,H,I,rfl,q⟩
end
abbrev DTO:=En->Nat->(Option Int->Nat->Prop)->Prop
def DP(X:Cx)(e:Option aX)(d:DTO):Prop:=∃t,PO X e t/\∀(C:Ctx) (v:En) (σ:St) (H:Hp) (n:Nat) (Q:Option Int->Hp->Prop) (R:Option Int->Nat->Prop),Stt X.K C v σ H n->d v n R ->
 (∀o u l,R o u->ExtE C.hd H l->Hn C.hd l u->Q o l)->t σ H Q
def ziq:DTO:=fun l n R=>R none n
def zqt(d:DTE):DTO:=fun u n R=>d u n fun t l=>lInt t fun i=>R (some i) l
def cutD(ts:qD)(lo hi:Option Int):List af:=(ts.drop (HT.sIx ts.length 0 lo)).take (HT.sIx ts.length ts.length hi - HT.sIx ts.length 0 lo)
def lSl(t:af)(lo hi:Option Int)(R:List af->Prop):Prop:=match t with
 | .list ts=>R (cutD ts lo hi)
 | _=>False
def dSlL(d:DTE)(dl x:DTO):DTA:=fun l n R=>d l n fun t u=>dl l u fun lo v=>x l v fun hi y=>lSl t lo hi fun z=>R z y
section
variable{X:Cx}{e:aX}{d:DTE}{lo hi:Option aX}{dlo dhi:DTO}{pos p2:Pos}
theorem Ym:DP X none ziq:=⟨_,zo9,fun C u σ H n Q R S h l=>l none n H h ExtE.refl S.hnd⟩
theorem Yn(h:DE X e d):DP X (some e) (zqt d):=by
 obtain⟨N,pa,h⟩:=h;refine⟨_,zo8 pa,fun C x σ H n Q R S hd u=>?_⟩
 refine h C x σ H n _ _ S hd fun t G v J l L y I=>?_
 cases t with
 | int i =>
  cases I;exact⟨i,rfl,u (some i) G J l L y⟩
 | _=>exact l.elim
theorem zju{K:qF}{hd:Option ak}{O:ak->Prop}{H:Hp}{vs ts}(r:Reps K hd O H vs ts)(lo hi:Option Int):Reps K hd O H (cutV vs lo hi) (cutD ts lo hi):=by
 unfold cutV cutD;rw[r.length];exact(r.drop _).take _
theorem zj_{ts:qD}{lo hi:Option Int}(h:HT.sIx ts.length 0 lo=0/\HT.sIx ts.length ts.length hi=ts.length):cutD ts lo hi=ts:=by
 unfold cutD;rw[h.1,h.2];simp
theorem zn4(h:DL X e d)(G:DP X lo dlo)(L:DP X hi dhi):DN X (.Subscript e (.Slice lo hi none p2) pos) (dSlL d dlo dhi):=by
 obtain⟨ta,pa,h⟩:=h;obtain⟨tl,pl,G⟩:=G;obtain⟨tu,pu,L⟩:=L;refine⟨_,ziY zoV pa pl pu,fun C I σ H n Q R S hd hq=>?_⟩
 refine h C I σ H n _ _ S hd fun t n1 v H1 r1 e1 h1 q1=>?_
 have Z:=S.on e1 h1;refine G C I σ H1 n1 _ _ Z r1 fun lo n2 H2 r2 U h2=>?_
 have S2:=Z.on U h2;refine L C I σ H2 n2 _ _ S2 r2 fun hi n3 H3 Y J N=>?_
 have S3:=S2.on J N;have q3:=(U.trans J).repT S.hx q1;cases t with
 | list ts =>
  obtain⟨a,vs,rfl,hs,rs⟩:=q3.lstI;refine⟨a,vs,rfl,.of hs,fun p x=>?_⟩
  have e:=e1.trans (U.trans J);refine hq _ n3 p _ _ Y (e.trans (ExtE.new x)) (N.same (JQ x)) (VH e N x) JM ?_;refine(zju rs lo hi).mono (fun b o y z=>z.elim id fun z=>?_) fun b o _ y=>JQ x b o y
  subst z;rw[x]at y;cases y
 | _=>exact Y.elim
end
structure NxS(prog:aK)(w:aW)(i a:ak)(IT:Nat->aY->Prop)(SQ:aY->Array ah->Prop):Prop where
 rcd:∀k h,IT k h->∃o,h.get? i=some o/\∀v,o.data≠.cell v
 keep:∀k h h',IT k h->(∀o,h.get? i=some o->h'.get? i=some o)->IT k h'
 sk:∀h h' xs,SQ h xs->(∀o,h.get? a=some o->h'.get? a=some o)->SQ h' xs
 item:∀(A:bq) (E:qV) (k:Nat) (xs:Array ah) (x:ah) (s:aq) (Q:qV),IT k s.heap->SQ s.heap xs->xs[k]?=some x ->
  (∀h',IT (k+1) h'->eE i s.heap h'->Q x { s with heap:=h' })->wpAny (model prog w) A (bG (.ref i)) Q E s
 done:∀(A:bq) (E:qV) (k:Nat) (xs:Array ah) (s:aq) (Q:qV),A.handled=none->IT k s.heap->SQ s.heap xs->xs[k]?=none ->
  (∀h' e,vz i s.heap h'->(∃o,h'.get? e=some o/\o.cls=.type "StopIteration")->E (.ref e) { s with heap:=h' })->wpAny (model prog w) A (bG (.ref i)) Q E s
theorem zpz{prog:aK}{w:aW}{i a:ak}:NxS prog w i a (fun k h=>h.IsListIter i a k) (fun h xs=>h.IsList a xs) where
 rcd:=fun k h ⟨o,e,c,d⟩=>⟨o,e,fun v z=>by rw[d]at z;cases z⟩
 keep:=fun k h h' x f=>x.at f
 sk:=fun h h' xs x f=>x.at f
 item:=fun A E k xs x s Q u l y h=>wpAny_nextOf_list_item u l y h
 done:=fun A E k xs s Q C u l y h=>wpAny_nextOf_list_end C u l y h
section
variable{prog:aK}{w:aW}{A:bq}{E:qV}{s:aq}
theorem zgX{i:ak}{T id:String}{Q:qV}{f:fZ}(l:s.TypeIs (.ref i) T)(u:Slot T "__next__" id) (y:entryFor table id=some f) (C:argsOk id ⟨[.ref i],[]⟩)
  (h:wpAny (model prog w) A.in1 (f ⟨[.ref i],[]⟩) (fun fin s'=>∃v,fin=.done (.ret v)/\Q v s') E s):wpAny (model prog w) A (bG (.ref i)) Q E s:=by
 unfold bG;refine ae (dW (name:=aa "__next__") l u (eI u l y ?_ C));refine c8 h (fun fin s' x=>?_) fun _ _ e=>e
 obtain⟨v,e,q⟩:=x;exact⟨v,e,aj q⟩
theorem zgk{i a:ak}{k:Nat}{xs:Array ah}{x:ah}{Q:qV}(v:s.heap.IsTupleIter i a k)(y:s.heap.IsTuple a xs)(G:xs[k]?=some x)
  (h:∀h',h'.IsTupleIter i a (k+1)->eE i s.heap h'->Q x { s with heap:=h' }):wpAny (model prog w) A (bG (.ref i)) Q E s:=by
 refine zgX v.typeIs ke iQ (iK _) ?_;obtain⟨o,u,I,l⟩:=v;obtain⟨p,f1,_,n,C⟩:=y;refine ae (m:=field (.ref i) 0) (cV u l (x:=.ref a) rfl ?_);have ne:¬((cG a == iV)=true):=fun z=>by cases z
 rw[if_neg ne];refine ae (m:=field (.ref i) 1) (cV u l (x:=.int k 0) rfl ?_);refine ae (m:=seqItems? (.ref a)) (eO f1 C ?_);simp only[dU,G];refine ae (pX u l (by simp) (aj ⟨x,rfl,h _ ?_ (mG ..)⟩))
 refine⟨_,lJ _ u (Obj.isFreed_of_fields (mY l _)),?_,?_⟩
 ·rw[Obj.cls_mapFields];exact I
 ·rw[mY l];simp[rawInt]
theorem zgl{i a:ak}{k:Nat}{xs:Array ah}{Q:qV}(G:A.handled=none)(I:s.heap.IsTupleIter i a k)(J:s.heap.IsTuple a xs)(N:xs[k]?=none)
  (h:∀h' e,vz i s.heap h'->(∃o,h'.get? e=some o/\o.cls=.type "StopIteration")->E (.ref e) { s with heap:=h' }):wpAny (model prog w) A (bG (.ref i)) Q E s:=by
 refine zgX I.typeIs ke iQ (iK _) ?_;obtain⟨o,C,R,l⟩:=I;obtain⟨p,f1,_,n,L⟩:=J;refine ae (m:=field (.ref i) 0) (cV C l (x:=.ref a) rfl ?_);have ne:¬((cG a == iV)=true):=fun z=>by cases z
 rw[if_neg ne];refine ae (m:=field (.ref i) 1) (cV C l (x:=.int k 0) rfl ?_);refine ae (m:=seqItems? (.ref a)) (eO f1 L ?_);simp only[dU,N];refine ae (dq (ae (pX C l (by simp) ?_)))
 refine ae (m:=newExc (.type "StopIteration") []) ?_;simp only[newExc,newTuple];refine ae (dm ?_ (by size_fits))
 refine ae (m:=firstArgMember _ _) (wpAny_of_eq (a:=iV) (by first|rfl|(simp only[firstArgMember];rfl)) (dm ?_ (by size_fits)))
 simp only[raiseNew];refine ae (wpAny_handled ?_);have v:A.in1.handled=none:=G
 first|rw[v]|rw[G]
 exact ae (aj (wpAny_throw (h _ _ (((mG ..).extBut.push _).push _) ⟨_,aI _ rfl,rfl⟩)))
end
theorem Heap.IsTupleIter.at'{h h':aY}{i a:ak}{k:Nat}(x:h.IsTupleIter i a k)(f:∀o,h.get? i=some o->h'.get? i=some o):h'.IsTupleIter i a k:=by
 obtain⟨o,e,r⟩:=x;exact⟨o,f o e,r⟩
theorem Heap.IsTuple.at'{h h':aY}{a:ak}{xs:Array ah}(x:h.IsTuple a xs)(f:∀o,h.get? a=some o->h'.get? a=some o):h'.IsTuple a xs:=by
 obtain⟨o,e,r⟩:=x;exact⟨o,f o e,r⟩
theorem zsk{prog:aK}{w:aW}{i a:ak}:NxS prog w i a (fun k h=>h.IsTupleIter i a k) (fun h xs=>h.IsTuple a xs) where
 rcd:=fun k h ⟨o,e,c,d⟩=>⟨o,e,fun v z=>by rw[d]at z;cases z⟩
 keep:=fun k h h' x f=>Heap.IsTupleIter.at' x f
 sk:=fun h h' xs x f=>Heap.IsTuple.at' x f
 item:=fun A E k xs x s Q u l y h=>zgk u l y h
 done:=fun A E k xs s Q C u l y h=>zgl C u l y h
structure ZAp(z TI TO i1 i2 a1 a2:ak):Prop where
 p:[z,TI,TO,i1,i2].Nodup
 q:∀a∈[a1,a2],a∉[z,TI,TO,i1,i2]
section
variable{prog:aK}{w:aW}{A:bq}{E:qV}{s:aq}{z TI TO i1 i2 a1 a2:ak}{I1 I2:Nat->aY->Prop}{S1 S2:aY->Array ah->Prop}
structure ZSt(z TI TO i1 i2:ak)(I1 I2:Nat->aY->Prop)(f:ah)(k:Nat)(h:aY):Prop where
 zip:oI h z TI TO f
 ti:ly h TI (.ref i1) (.ref i2)
 to:∃a b,ly h TO a b
 it1:I1 k h
 it2:I2 k h
theorem zkh(D:ZAp z TI TO i1 i2 a1 a2):(z≠TI/\z≠TO/\z≠i1/\z≠i2/\TI≠TO/\TI≠i1/\TI≠i2/\TO≠i1/\TO≠i2/\i1≠i2)/\(a1≠z/\a1≠TO/\a1≠i1/\a1≠i2)/\(a2≠z/\a2≠TO/\a2≠i1/\a2≠i2):=by
 have l:=D.p;have x:=D.q;simp only[eS,aA,aQ,or_false,not_or,List.nodup_nil,and_true,not_false_eq_true]at l;have u:=x a1 (by simp)
 have v:=x a2 (by simp)
 simp only[aA,aQ,or_false,not_or]at u v;exact⟨⟨l.1.1,l.1.2.1,l.1.2.2.1,l.1.2.2.2,l.2.1.1,l.2.1.2.1,l.2.1.2.2,l.2.2.1.1,l.2.2.1.2,l.2.2.2⟩,⟨u.1,u.2.2.1,u.2.2.2.1,u.2.2.2.2⟩,⟨v.1,v.2.2.1,v.2.2.2.1,v.2.2.2.2⟩⟩
theorem z_item{k:Nat}{xs ys:Array ah}{x y:ah}{Q:qV}(D:ZAp z TI TO i1 i2 a1 a2)(N1:NxS prog w i1 a1 I1 S1)(N2:NxS prog w i2 a2 I2 S2)(st:ZSt z TI TO i1 i2 I1 I2 .none k s.heap)(s1:S1 s.heap xs)(s2:S2 s.heap ys)
  (hx:xs[k]?=some x) (hy:ys[k]?=some y)
  (hQ:∀h',ZSt z TI TO i1 i2 I1 I2 (rawInt s.heap.objs.size) (k+1) h'->ly h' s.heap.objs.size x y->h'.objs.size=s.heap.objs.size+1 ->
   (∀c o,c≠z->c≠TO->c≠i1->c≠i2->s.heap.get? c=some o->h'.get? c=some o)->Q (.ref s.heap.objs.size) { s with heap:=h' }) :
  wpAny (model prog w) A (fZ.«zip.__next__» ⟨[.ref z],[]⟩) (fun fin s'=>∃v,fin=.done (.ret v)/\Q v s') E s:=by
 obtain⟨⟨d1,d2,d3,d4,d5,d6,d7,d8,d9,d10⟩,⟨e1,e2,e3,e4⟩,⟨g1,g2,g3,g4⟩⟩:=zkh D;obtain⟨zip,ti,⟨va,vb,to⟩,it1,it2⟩:=st;refine ae (m:=field (.ref z) 2) (cV zip rfl (x:=.bool false) rfl ?_);refine ae (m:=field (.ref z) 3) (cV zip rfl (x:=.ref TI) rfl (ae (eO ti rfl ?_)));refine ae (m:=cW (.ref z)) ?_;unfold cW
 refine ae (cV zip rfl (x:=.none) rfl (aj ?_));simp only[if_true];refine ae (dq (ae (cV zip rfl (x:=.ref TO) rfl (ae (eP zip (by simp) fun hA zA Z=>?_)))))
 have zA':oI hA z TI TO .ellipsis:=zA;refine ae ?_;simp only[kP,oY,iH,mh];refine ae (ae (iE (ae (m:=bG (.ref i1)) ?_)));refine N1.item _ _ k xs x _ _ (N1.keep _ _ _ it1 fun o e=>Z.extBut _ _ d3.symm e) (N1.sk _ _ _ s1 fun o e=>Z.extBut _ _ e1 e) hx fun hB it1B bB=>aj ?_
 have R:ly hB TO va vb:=bB.extBut _ _ d8 (Z.extBut _ _ d2.symm to);refine ae (eO R rfl (ae (iG R fun hC toC bC=>?_)))
 have toC':ly hC TO x vb:=toC;refine ae (oJ (aj ?_));refine ae (ae (iE (ae (m:=bG (.ref i2)) ?_)));have I:∀c o,c≠z->c≠TO->c≠i1->s.heap.get? c=some o->hC.get? c=some o:=fun c o C J N e=>bC.extBut _ _ J (bB.extBut _ _ N (Z.extBut _ _ C e))
 refine N2.item _ _ k ys y _ _ (N2.keep _ _ _ it2 fun o e=>I _ _ d4.symm d9.symm d10.symm e) (N2.sk _ _ _ s2 fun o e=>I _ _ g1 g2 g3 e) hy fun hD it2D bD=>aj ?_
 have toD:ly hD TO x vb:=bD.extBut _ _ d9 toC';refine ae (eO toD rfl (ae (iG toD fun u toF U=>?_)))
 have G:ly u TO x y:=toF;refine ae (oJ (aj (aj ?_)));refine ae (eO G rfl (ae (pT ?_)));have sz:u.objs.size=s.heap.objs.size:=by rw[U.1,bD.1,bC.1,bB.1,Z.1]
 have upF:∀c o,c≠z->c≠TO->c≠i1->c≠i2->s.heap.get? c=some o->u.get? c=some o:=fun c o C J N c4 e=>U.extBut _ _ J (bD.extBut _ _ c4 (I c o C J N e))
 have zF:oI u z TI TO .ellipsis:=U.extBut _ _ d2 (bD.extBut _ _ d4 (bC.extBut _ _ d2 (bB.extBut _ _ d3 zA')));have L:z<u.objs.size:=aD zF;refine ae (m:=gr (.ref z) (.ref u.objs.size)) ?_;unfold gr;have zG:oI (u.push { cls:=.type "tuple",data:=.seq #[x,y] }) z TI TO .ellipsis:=av _ zF
 refine ae (eP zG (by simp) fun hI zI bI=>?_)
 have zI':oI hI z TI TO (rawInt u.objs.size):=zI;refine eP zI' (by simp) fun hJ zJ bJ=>aj ⟨_,rfl,?_⟩
 have Y:oI hJ z TI TO (rawInt u.objs.size):=zJ;have up:∀c o,c≠z->u.get? c=some o->hJ.get? c=some o:=fun c o C e=>bJ.extBut _ _ C (bI.extBut _ _ C (av _ e))
 have pr:ly hJ u.objs.size x y:=bJ.extBut _ _ (nq L) (bI.extBut _ _ (nq L) (aI _ rfl));have S:hJ.objs.size=u.objs.size+1:=by rw[bJ.1,bI.1,fj]
 rw[sz]at Y pr S;show Q (.ref u.objs.size) _
 rw[sz];refine hQ hJ ⟨Y,up _ _ d1.symm (upF _ _ d1.symm d5 d6 d7 ti),⟨x,y,up _ _ d2.symm G⟩,?_,?_⟩ pr S fun c o C J N c4 e=>up c o C (upF c o C J N c4 e)
 ·exact N1.keep _ _ _ it1B fun o e=>up _ _ d3.symm (U.extBut _ _ d8.symm (bD.extBut _ _ d10 (bC.extBut _ _ d8.symm e)))
 ·exact N2.keep _ _ _ it2D fun o e=>up _ _ d4.symm (U.extBut _ _ d9.symm e)
theorem z_end{k:Nat}{xs ys:Array ah}{Q:PySem.Fin->aq->Prop}(hh:A.handled=none)(D:ZAp z TI TO i1 i2 a1 a2)(Y:NxS prog w i1 a1 I1 S1)(N2:NxS prog w i2 a2 I2 S2)(st:ZSt z TI TO i1 i2 I1 I2 .none k s.heap)(s1:S1 s.heap xs)(s2:S2 s.heap ys)
  (hxy:xs[k]?=none\/ys[k]?=none)
  (hE:∀h' e,(∀c o,c≠z->c≠TO->c≠i1->c≠i2->s.heap.get? c=some o->h'.get? c=some o)->(∃o,h'.get? e=some o/\o.cls=.type "StopIteration")->E (.ref e) { s with heap:=h' }) :
  wpAny (model prog w) A (fZ.«zip.__next__» ⟨[.ref z],[]⟩) Q E s:=by
 obtain⟨⟨d1,d2,d3,d4,d5,d6,d7,d8,d9,d10⟩,⟨e1,e2,e3,e4⟩,⟨g1,g2,g3,g4⟩⟩:=zkh D;obtain⟨zip,ti,⟨va,vb,to⟩,it1,it2⟩:=st;refine ae (m:=field (.ref z) 2) (cV zip rfl (x:=.bool false) rfl ?_);refine ae (m:=field (.ref z) 3) (cV zip rfl (x:=.ref TI) rfl (ae (eO ti rfl ?_)));refine ae (m:=cW (.ref z)) ?_;unfold cW
 refine ae (cV zip rfl (x:=.none) rfl (aj ?_));simp only[if_true];refine ae (dq (ae (cV zip rfl (x:=.ref TO) rfl (ae (eP zip (by simp) fun hA zA I=>?_)))))
 have L:oI hA z TI TO .ellipsis:=zA;refine ae ?_;simp only[kP,oY,iH,mh];refine ae (ae (iE (ae (m:=bG (.ref i1)) ?_)));have U:=Y.keep _ _ _ it1 fun o e=>I.extBut _ _ d3.symm e
 have J:=Y.sk _ _ _ s1 fun o e=>I.extBut _ _ e1 e
 cases hx:xs[k]? with
 | none =>
  refine Y.done _ _ k xs _ _ hh U J hx fun hB e G ⟨Z,u,hc⟩=>?_
  have zB:oI hB z TI TO .ellipsis:=G _ _ d3 L;have ez:e≠z:=fun y=>by subst y;rw[zB]at u;cases u;simp at hc
  exact eP zB (by simp) fun hC _ N=>hE hC e (fun c o C _ R _ y=>N.extBut _ _ C (G _ _ R (I.extBut _ _ C y))) ⟨Z,N.extBut _ _ ez u,hc⟩
 | some x =>
  have hy:ys[k]?=none:=by rcases hxy with h|h;rw[hx]at h;cases h;exact h
  refine Y.item _ _ k xs x _ _ U J hx fun hB it1B G=>aj ?_
  have S:ly hB TO va vb:=G.extBut _ _ d8 (I.extBut _ _ d2.symm to);refine ae (eO S rfl (ae (iG S fun hC toC N=>?_)))
  refine ae (oJ (aj ?_));refine ae (ae (iE (ae (m:=bG (.ref i2)) ?_)));have v:∀c o,c≠z->c≠TO->c≠i1->s.heap.get? c=some o->hC.get? c=some o:=fun c o C c2 R e=>N.extBut _ _ c2 (G.extBut _ _ R (I.extBut _ _ C e))
  refine N2.done _ _ k ys _ _ hh (N2.keep _ _ _ it2 fun o e=>v _ _ d4.symm d9.symm d10.symm e) (N2.sk _ _ _ s2 fun o e=>v _ _ g1 g2 g3 e) hy fun hD e bD ⟨Z,u,hc⟩=>?_
  have zD:oI hD z TI TO .ellipsis:=bD _ _ d4 (N.extBut _ _ d2 (G.extBut _ _ d3 L));have ez:e≠z:=fun y=>by subst y;rw[zD]at u;cases u;simp at hc
  exact eP zD (by simp) fun hF _ bF=>hE hF e (fun c o C c2 R c4 y=>bF.extBut _ _ C (bD _ _ c4 (v c o C c2 R y))) ⟨Z,bF.extBut _ _ ez u,hc⟩
theorem zqY{k:Nat}{xs ys:Array ah}{x y:ah}{Q:Option ah->aq->Prop}(D:ZAp z TI TO i1 i2 a1 a2)(N:NxS prog w i1 a1 I1 S1)(G:NxS prog w i2 a2 I2 S2)(st:ZSt z TI TO i1 i2 I1 I2 .none k s.heap)(s1:S1 s.heap xs)(s2:S2 s.heap ys)
  (hx:xs[k]?=some x) (I:ys[k]?=some y)
  (v:∀h',ZSt z TI TO i1 i2 I1 I2 (rawInt s.heap.objs.size) (k+1) h'->ly h' s.heap.objs.size x y->h'.objs.size=s.heap.objs.size+1 ->
   (∀c o,c≠z->c≠TO->c≠i1->c≠i2->s.heap.get? c=some o->h'.get? c=some o)->Q (some (.ref s.heap.objs.size)) { s with heap:=h' }) :
  wpAny (model prog w) A (pyNext (.ref z)) Q E s:=by
 have l:s.TypeIs (.ref z) "zip":=⟨_,st.zip,rfl⟩;unfold pyNext;exact ae (iC (dW (name:=aa "__next__") l iL (eI iL l om
  (z_item D N G st s1 s2 hx I fun h' u L C J=>aj (v h' u L C J)) (nQ _))))
theorem zqX{k:Nat}{xs ys:Array ah}{Q:Option ah->aq->Prop}(x:A.handled=none)(D:ZAp z TI TO i1 i2 a1 a2)(I:NxS prog w i1 a1 I1 S1)(C:NxS prog w i2 a2 I2 S2)(st:ZSt z TI TO i1 i2 I1 I2 .none k s.heap)(s1:S1 s.heap xs)(s2:S2 s.heap ys)
  (l:xs[k]?=none\/ys[k]?=none) (y:∀h',(∀c o,c≠z->c≠TO->c≠i1->c≠i2->s.heap.get? c=some o->h'.get? c=some o)->Q none { s with heap:=h' }):wpAny (model prog w) A (pyNext (.ref z)) Q E s:=by
 have u:s.TypeIs (.ref z) "zip":=⟨_,st.zip,rfl⟩;unfold pyNext;refine ae (iC (dW (name:=aa "__next__") u iL (eI iL u om
  (z_end x D I C st s1 s2 l fun h' e G ⟨o,v,hc⟩=>?_) (nQ _))))
 exact ae (wpAny_isInstance (T:="StopIteration") (b:=true) ⟨o,v,hc⟩ isSubtype_stop (aj (y _ G)))
end
def SqB(t:Bool)(K:qF)(H:Hp)(a:ak)(xs:List V):Prop:=match t with|true=>SqT K H a xs|false=>SqL K H a xs
def ITB(t:Bool)(i a:ak):Nat->aY->Prop:=match t with|true=>fun k h=>h.IsTupleIter i a k|false=>fun k h=>h.IsListIter i a k
def SQB(t:Bool)(a:ak):aY->Array ah->Prop:=match t with|true=>fun h xs=>h.IsTuple a xs|false=>fun h xs=>h.IsList a xs
def itN(t:Bool):String:=match t with|true=>"tuple_iterator" | false=>"list_iterator"
theorem nx_B{prog:aK}{w:aW}{i a:ak}(t:Bool):NxS prog w i a (ITB t i a) (SQB t a):=by
 cases t
 ·exact zpz
 ·exact zsk
section
variable{X:Cx}{pins:qO}{σ:St}{H:Hp}{s:aq}
theorem Inv.seqB{t:Bool}{a:ak}{xs:List V}(I:Inv X pins σ H s)(h:SqB t X.K H a xs):∃l:List ah,Vals xs l/\SQB t a s.heap l.toArray/\xs.length<=sizeLine:=by
 cases t
 ·obtain⟨l,r,p,z⟩:=I.list h;exact⟨l,r,p.isList,z⟩
 ·obtain⟨l,r,p,z⟩:=I.tuple h;exact⟨l,r,p,z⟩
theorem Inv.injB{t:Bool}{a:ak}{xs ys:List V}(I:Inv X pins σ H s)(h:SqB t X.K H a xs)(h':SqB t X.K H a ys):xs=ys:=by
 cases t
 ·exact I.list_inj h h'
 ·exact I.tuple_inj h h'
theorem Inv.turnedL{h':aY}{t':Nat}(ch:List ak)(I:Inv X pins σ H s)(k:∀b o,b∉ch->s.heap.get? b=some o->h'.get? b=some o)(f:∀b∈ch,FpOk X pins H b):Inv X pins σ H { s with heap:=h',toks:=t' }:=by
 have l:∀b u,H b=some u->b∉ch:=fun b u e z=>by rw[(f b z).1]at e;cases e
 refine I.step (g':=s.gens) (d':=s.drawn) (ch:=ch) (fun b x=>⟨(f b x).2.2.2.1,(f b x).2.1,(f b x).2.2.2.2.1,(f b x).2.2.2.2.2⟩) (fun b o _ _ hc e _=>k b o hc e) (fun b o _ _ hc e _=>⟨o.slots,k b o hc e⟩) (fun _ _ _ _ n=>n) (fun b o hc e=>⟨o,k b o hc e⟩) (fun _ _ e=>e) (fun _ _ _ e=>e)
  (fun _ _ e=>e) (fun m ⟨o,J,C,G,r⟩=>⟨o,J,C,k _ o (fun z=>(f _ z).2.1 rfl) G,r⟩) (fun b u e=>(I.hok b u e).stay (fun c v hc q=>k c v ?_ q) (fun _ q=>q) (fun _ _ q=>q) fun _ _ _ q=>q) I.bare
 rcases hc with z|z
 ·rw[z];exact l b u e
 ·exact l c _ z
end
section
variable{prog:aK}{w:aW}{A:bq}{E:qV}{s:aq}
theorem zs4{t:Bool}{a:ak}{xs:Array ah}{Q:qV}(h:SQB t a s.heap xs)(u:Q (.ref s.heap.objs.size) { s with heap:=s.heap.push { cls:=.type (itN t),data:=.fields #[.ref a,.int 0 0] } }):wpAny (model prog w) A (pyIter (.ref a)) Q E s:=by
 cases t
 ·exact gU h u
 ·exact iX h u
theorem SQB.push{t:Bool}{a:ak}{xs:Array ah}{h:aY}(x:SQB t a h xs)(o:Obj):SQB t a (h.push o) xs:=by
 cases t
 ·exact yB x o
 ·exact xN x o
abbrev zA(h:aY)(t:Bool)(a:ak):aY:=h.push { cls:=.type (itN t),data:=.fields #[.ref a,.int 0 0] }
abbrev zB(h:aY)(t u:Bool)(a b:ak):aY:=(zA h t a).push { cls:=.type (itN u),data:=.fields #[.ref b,.int 0 0] }
abbrev zC(h:aY)(t u:Bool)(a b:ak):aY:=(zB h t u a b).push { cls:=.type "tuple",data:=.seq #[.ref h.objs.size,.ref (zA h t a).objs.size] }
abbrev zD(h:aY)(t u:Bool)(a b:ak):aY:=(zC h t u a b).push { cls:=.type "tuple",data:=.seq #[.none,.none] }
abbrev zE(h:aY)(t u:Bool)(a b:ak):aY:=(zD h t u a b).push { cls:=.type "zip",data:=.fields #[.none,.bool false,.bool false,.ref (zB h t u a b).objs.size,.ref (zC h t u a b).objs.size] }
theorem znv(t u:Bool)(a b:ak)(xs ys:Array ah) :
  Meets (fZ.«zip.__new__» ⟨[.type "zip",.ref a,.ref b],[]⟩) (fun _ R s=>SQB t a s.heap xs/\SQB u b s.heap ys/\R (.ok (.ret (.ref (zD s.heap t u a b).objs.size))) { s with heap:=zE s.heap t u a b }) :=
 .of_wp fun prog w A R s h=>by
  obtain⟨v,g,d,tk,os⟩:=s;obtain⟨G,C,h⟩:=h;have x:=sub_zip;have I:SQB t a (vB ⟨v,g,d,tk,os⟩) xs:=G;have L2:SQB u b (vB ⟨v.push { cls:=.type (itN t),data:=.fields #[.ref a,.int 0 0] },g,d,tk,os⟩) ys:=SQB.push C _
  wp_walk using zs4 I,zs4 L2
  exact⟨_,rfl,h⟩
theorem ITB.new{t:Bool}{i a:ak}{h:aY}(e:h.get? i=some { cls:=.type (itN t),data:=.fields #[.ref a,.int 0 0] }):ITB t i a 0 h:=by
 cases t
 ·exact⟨_,e,rfl,rfl⟩
 ·exact⟨_,e,rfl,rfl⟩
theorem zqC{t u:Bool}{a b:ak}{xs ys:Array ah}{Q:qV}(N:SQB t a s.heap xs)(L:SQB u b s.heap ys)
  (h:∀h',ZSt (s.heap.objs.size+4) (s.heap.objs.size+2) (s.heap.objs.size+3) s.heap.objs.size (s.heap.objs.size+1) (ITB t s.heap.objs.size a) (ITB u (s.heap.objs.size+1) b) .none 0 h'->h'.objs.size=s.heap.objs.size+5 ->
   (∀c o,s.heap.get? c=some o->h'.get? c=some o)->Q (.ref (s.heap.objs.size+4)) { s with heap:=h' }) :
  wpAny (model prog w) A (call (.type "zip") [.ref a,.ref b]) Q E s:=by
 refine callType_new F.called_zip (by decide) (F.typeCall_zip_2 _ _) (F.newCall_zip_2 _ _) (fun obj=>F.args_object_init_3 obj _ _) F.entry_zip_new (znv t u a b xs ys) ⟨N,L,?_⟩
 have I:(zA s.heap t a).objs.size=s.heap.objs.size+1:=fj ..;have l:(zB s.heap t u a b).objs.size=s.heap.objs.size+2:=by rw[fj,I]
 have G:(zC s.heap t u a b).objs.size=s.heap.objs.size+3:=by rw[fj,l]
 have C:(zD s.heap t u a b).objs.size=s.heap.objs.size+4:=by rw[fj,G]
 have R:(zE s.heap t u a b).objs.size=s.heap.objs.size+5:=by rw[fj,C]
 have v:(zE s.heap t u a b).get? (zD s.heap t u a b).objs.size=some _:=aI _ rfl;have J:(zE s.heap t u a b).get? (zC s.heap t u a b).objs.size=some _:=av _ (aI _ rfl);have g3:(zE s.heap t u a b).get? (zB s.heap t u a b).objs.size=some _:=av _ (av _ (aI _ rfl));have g2:(zE s.heap t u a b).get? (zA s.heap t a).objs.size=some _:=av _ (av _ (av _ (aI _ rfl)))
 have g1:(zE s.heap t u a b).get? s.heap.objs.size=some _:=av _ (av _ (av _ (av _ (aI _ rfl))));show _/\_
 rw[l,G,C]at v;rw[I,l]at g3;rw[G]at J;rw[I]at g2;rw[C];refine⟨⟨_,v,rfl⟩,h _ ⟨v,g3,⟨_,_,J⟩,.new g1,.new g2⟩ R fun c o x=>?_⟩
 iterate 5 refine av _ ?_
 exact x
end
def Itz(t u:Bool)(K:qF)(a b:ak):It :=
 ⟨fun i H=>∃xs ys x y,SqB t K H a xs/\SqB u K H b ys/\xs[i]?=some x/\ys[i]?=some y,
  fun i H v l=>∃p x y,H p=none/\v=.ref p/\(∀xs,SqB t K H a xs->xs[i]?=some x)/\(∀ys,SqB u K H b ys->ys[i]?=some y)/\l=upd H p (.tup [x,y]),
  fun i H=>∃xs ys,SqB t K H a xs/\SqB u K H b ys/\(xs.length<=i\/ys.length<=i)⟩
theorem zmW{P:aK}{w:aW}{K:qF}{elts:List aX}{x1:_}{pos:Pos}{t u:Bool}{z TI TO C G a b:ak}(D:ZAp z TI TO C G a b) :
  Turn P w K (.Tuple elts x1 pos) (Itz t u K a b) [z,TI,TO,C,G] z (fun i h=>ZSt z TI TO C G (ITB t C a) (ITB u G b) .none i h) where
 mem:=by simp
 obj:=fun i h st c hc=>by
  obtain⟨R,ti,⟨U,Y,to⟩,J,L⟩:=st;simp only[aA,aQ,or_false]at hc;rcases hc with rfl|rfl|rfl|rfl|rfl
  ·exact⟨_,R,fun v y=>by cases y⟩
  ·exact⟨_,ti,fun v y=>by cases y⟩
  ·exact⟨_,to,fun v y=>by cases y⟩
  ·exact(nx_B (prog:=P) (w:=w) t).rcd _ _ J
  ·exact(nx_B (prog:=P) (w:=w) u).rcd _ _ L
 keep:=fun i h h' st k=>by
  obtain⟨R,ti,⟨U,Y,to⟩,J,L⟩:=st;exact⟨k _ (by simp) _ R,k _ (by simp) _ ti,⟨U,Y,k _ (by simp) _ to⟩,(nx_B (prog:=P) (w:=w) t).keep _ _ _ J (k _ (by simp)),(nx_B (prog:=P) (w:=w) u).keep _ _ _ L (k _ (by simp))⟩
 item:=by
  intro X hP hw hK hc i pins s σ H E I hf st hg;subst hP hw hK;obtain⟨xs,ys,x,y,q1,q2,hx,hy⟩:=hg;obtain⟨its,r1,p1,z1⟩:=I.seqB q1;obtain⟨jts,r2,p2,z2⟩:=I.seqB q2;obtain⟨N,hux,rux⟩:=r1.get hx;obtain⟨S,huy,ruy⟩:=r2.get hy;refine zqY D (nx_B t) (nx_B u) st p1 p2 (x:=N) (y:=S) (by simpa using hux) (by simpa using huy) fun h' st' pr sz kp=>?_
  refine⟨_,rfl,?_⟩;refine wpAny_letOwnedTupleGo_zip (s:={ s with heap:=h' }) st'.zip fun h2 z2' sb=>?_
  obtain⟨⟨d1,d2,d3,d4,d5,d6,d7,d8,d9,d10⟩,_,_⟩:=zkh D;have big:∀c∈[z,TI,TO,C,G],c<s.heap.objs.size:=fun c hc=>by
   obtain⟨R,ti,⟨U,Y,to⟩,J,L⟩:=st;simp only[aA,aQ,or_false]at hc;rcases hc with rfl|rfl|rfl|rfl|rfl
   ·exact aD R
   ·exact aD ti
   ·exact aD to
   ·obtain⟨o,e,_⟩:=(nx_B (prog:=X.prog) (w:=X.w) t).rcd _ _ J;exact aD e
   ·obtain⟨o,e,_⟩:=(nx_B (prog:=X.prog) (w:=X.w) u).rcd _ _ L;exact aD e
  have hp:H s.heap.objs.size=none:=I.hok.fresh (aC _);have I1:Inv X pins σ (upd H s.heap.objs.size (.tup [x,y])) { s with heap:=s.heap.push { cls:=.type "tuple",data:=.seq #[N,S] } } :=
   I.laid (t':=s.toks) (fun b o e=>av _ e) (aC _) (show JL X.prog X.w _ _ _ (.tup [x,y]) from⟨by show 2<=sizeLine;decide,[N,S],.cons rux (.cons ruy .nil),IsTD.new _ _⟩)
  have Z:∀c∈[z,TI,TO,C,G],c≠s.heap.objs.size:=fun c hc=>aL (big c hc)
  have fu:∀c∈[z,TI,TO,C,G],upd H s.heap.objs.size (.tup [x,y]) c=none:=fun c hc=>by rw[Jn (Z c hc)];exact(hf c hc).1
  refine⟨.ref s.heap.objs.size,upd H s.heap.objs.size (.tup [x,y]),?_,rfl,⟨_,x,y,hp,rfl,fun xs' h=>by rw[I.injB h q1];exact hx,fun ys' h=>by rw[I.injB h q2];exact hy,rfl⟩,?_,fu⟩
  ·refine Inv.turnedL (s:={ s with heap:=s.heap.push { cls:=.type "tuple",data:=.seq #[N,S] } }) (t':=s.toks) [z,TO,C,G] I1 (fun c o hc e=>?_) fun c hc=>?_
   ·simp only[aA,aQ,or_false,not_or]at hc;refine sb.extBut _ _ hc.1 ?_
    by_cases y:c=s.heap.objs.size
    ·subst y;have e':(s.heap.push { cls:=.type "tuple",data:=.seq #[N,S] }).get? s.heap.objs.size=some _:=aI _ rfl;have e2:some o=some _:=e.symm.trans e';cases e2;exact pr
    ·have e':s.heap.get? c=some o:=by
      have e3:(s.heap.push { cls:=.type "tuple",data:=.seq #[N,S] }).get? c=some o:=e
      rwa [cE _ _ _ y]at e3
     exact kp c o hc.1 hc.2.1 hc.2.2.1 hc.2.2.2 e'
   ·have m:c∈[z,TI,TO,C,G]:=by simp only[aA,aQ,or_false]at hc ⊢;rcases hc with h|h|h|h <;> simp[h]
    exact⟨fu c m,(hf c m).2⟩
  ·obtain⟨R,ti,⟨U,Y,to⟩,J,L⟩:=st';exact⟨z2',sb.extBut _ _ d1.symm ti,⟨U,Y,sb.extBut _ _ d2.symm to⟩,(nx_B (prog:=X.prog) (w:=X.w) t).keep _ _ _ J fun o e=>sb.extBut _ _ d3.symm e,(nx_B (prog:=X.prog) (w:=X.w) u).keep _ _ _ L fun o e=>sb.extBut _ _ d4.symm e⟩
 done:=by
  intro X hP hw hK hc i pins s σ H E I hf st hg;subst hP hw hK;obtain⟨xs,ys,q1,q2,hx⟩:=hg;obtain⟨its,r1,p1,z1⟩:=I.seqB q1;obtain⟨jts,r2,p2,z2⟩:=I.seqB q2;have l1:=r1.length;have l2:=r2.length;refine zqX (I.ok.hd hc) D (nx_B t) (nx_B u) st p1 p2 (by rcases hx with h|h;exact .inl (by simp;omega);exact .inr (by simp;omega)) fun h' kp=>⟨rfl,?_⟩
  refine Inv.turnedL (t':=s.toks) [z,TO,C,G] I (fun c o hc e=>?_) fun c hc=>hf c ?_
  ·simp only[aA,aQ,or_false,not_or]at hc;exact kp c o hc.1 hc.2.1 hc.2.2.1 hc.2.2.2 e
  ·simp only[aA,aQ,or_false]at hc ⊢;rcases hc with h|h|h|h <;> simp[h]
 self:=fun _ _ _ _ _ st h=>oq st.zip h
section
variable{X:Cx}{a b:aX}{elts:List aX}{x1:Nat}{p p' pos:Pos}
def iZip(K:qF)(v:TA):TI:=fun σ H R=>v σ H fun x l=>∃(t u:Bool) (c d:ak) (xs ys:List V),x=[.ref c,.ref d]/\SqB t K l c xs/\SqB u K l d ys/\R (Itz t u K c d) l
theorem SQB.lt{t:Bool}{c:ak}{xs:Array ah}{h:aY}(x:SQB t c h xs):c<h.objs.size:=by
 cases t
 ·obtain⟨o,e,_⟩:=x;exact aD e
 ·obtain⟨o,e,_⟩:=x;exact aD e
theorem zoQ{n:Nat}{c d:ak}(x:c<n)(v:d<n):ZAp (n+4) (n+2) (n+3) n (n+1) c d:=by
 have ne:∀(e:ak) (k:Nat),e<n->e≠n+k:=fun e k h=>aL (aF h (gi _ _))
 refine⟨by simp,fun e u=>?_⟩
 have l:e<n:=by
  simp only[aA,aQ,or_false]at u;rcases u with rfl|rfl
  ·exact x
  ·exact v
 simp only[aA,aQ,or_false,not_or];exact⟨ne e 4 l,ne e 2 l,ne e 3 l,aL l,ne e 1 l⟩
theorem zrM{U:TA}(hg:Gl X "zip") (hm:X.mg "zip" = none) (ha:PA X [a,b] U) (hs:starEach [a,b] X.env=[(false,eval a X.env),(false,eval b X.env)]) (x:starEach [b] X.env=[(false,eval b X.env)]) :
  PI X (.Tuple elts x1 p') (.Call (.Name "zip" p) [a,b] [] pos) (iZip X.K U):=by
 intro pins s σ H R I h;refine Call_ (Zf I hg hm boot_zip (fO (thn (ha pos pins s σ H _ I h) fun us s1 ⟨vs,H1,v,r1,q1⟩=>?_) (by rw[hs,x]) (by rw[x];rfl)))
 obtain⟨t,u,c,d,xs,ys,rfl,y,G,q⟩:=q1;cases r1 with
 | cons r J =>
  cases J with
  | cons Z J =>
   cases J;cases r;cases Z;obtain⟨its,_,S,_⟩:=v.seqB y;obtain⟨Y,_,p2,_⟩:=v.seqB G;refine zqC S p2 fun h' st sz kp=>?_
   refine oq (s:={ s1 with heap:=h' }) st.zip ?_
   refine⟨_,_,_,_,H1,rfl,v.kept (t':=s1.toks) kp,zmW (zoQ S.lt p2.lt),st,fun e L=>?_,q⟩
   have ge:s1.heap.objs.size<=e:=by
    simp only[aA,aQ,or_false]at L;rcases L with rfl|rfl|rfl|rfl|rfl
    ·exact gi _ _
    ·exact gi _ _
    ·exact gi _ _
    ·exact aC _
    ·exact gi _ _
   exact v.fpOk ge (v.hok.fresh ge)
theorem srcB{K:qF}{hd:Option ak}{P O:ak->Prop}{H:Hp}{v:V}{t:af}{ts:qD}(N:∀a,¬O a->P a)(r:Rep K hd O H v t)(h:t=.tuple ts\/t=.list ts) :
  ∃(k:Bool) (q:ak) (x:List V),v=.ref q/\SqB k K H q x/\∀(C:ak->Prop) (y:Hp),(∀a o,H a=some o->P a->y a=some o)->(∀a o,H a=some o->¬O a->¬C a)->SqB k K y q x/\Reps K hd C y x ts:=by
 have R:∀x,Reps K hd O H x ts->∀(C:ak->Prop) (y:Hp),(∀a o,H a=some o->P a->y a=some o)->(∀a o,H a=some o->¬O a->¬C a)->Reps K hd C y x ts:=fun x r C y G I =>
  r.mono (fun a o L z=>gm fun no=>I a o L no z) fun a o no L=>G a o L (N a no)
 rcases h with rfl|rfl
 ·cases r with
  | @tup q x ds h o r=>exact⟨true,q,x,rfl,.inl (.inl h),fun C y G I=>⟨.inl (.inl (G q _ h (N q o))),R x r C y G I⟩⟩
  | @tupS q x ds h r=>exact⟨true,q,x,rfl,h.sq,fun C y G I=>⟨h.sq,R x r C y G I⟩⟩
 ·obtain⟨q,x,rfl,J,no,r⟩:=r.lstI;exact⟨false,q,x,rfl,SqL.of J,fun C y G I=>⟨SqL.of (G q _ J (N q no)),R x r C y G I⟩⟩
def zipD(xs ys:qD):List af:=(xs.zip ys).map fun q=>.tuple [q.1,q.2]
def dZip(C db:DTE):DTA:=fun l n R=>C l n fun x u=>db l u fun y v=>JX x fun xs=>JX y fun ys=>R (zipD xs ys) v
theorem zjc{t:af}{R:List af->Prop}(h:JX t R):∃ts,(t=.tuple ts\/t=.list ts)/\R ts:=by
 cases t with
 | list ts=>exact⟨ts,.inr rfl,h⟩
 | tuple ts=>exact⟨ts,.inl rfl,h⟩
 | _=>exact h.elim
theorem ztS{da db:DTE}(hm:X.mg "zip" = none) (h:DE X a da) (h':DE X b db) (hg:Gl X "zip":=by rfl) (hs:starEach [a,b] X.env=[(false,eval a X.env),(false,eval b X.env)]:=by rfl) (G:starEach [b] X.env=[(false,eval b X.env)]:=by rfl) :
  DI X (.Tuple elts x1 p') (.Call (.Name "zip" p) [a,b] [] pos) (dZip da db):=by
 obtain⟨ta,pa,h⟩:=h;obtain⟨tb,pb,h'⟩:=h';refine⟨_,zrM hg hm (Ub pa (Ub pb US G) (by rw[hs,G])) hs G,fun C ρ σ H n Q R S hd hq=>?_⟩
 refine h C ρ σ H n _ _ S hd fun x n1 v H1 r1 e1 hn1 q1=>?_
 have S1:=S.on e1 hn1;refine h' C ρ σ H1 n1 _ _ S1 r1 fun y n2 w H2 J e2 hn2 q2=>?_
 have q1':=e2.rep S.hx q1;obtain⟨xs,hx,J⟩:=zjc J;obtain⟨ys,hy,J⟩:=zjc J;obtain⟨k1,c,vs,rfl,s1,f1⟩:=srcB (P:=fun a=>¬Own C ρ σ a) (fun _ z=>z) q1' hx
 obtain⟨k2,d,ws,rfl,s2,f2⟩:=srcB (P:=fun a=>¬Own C ρ σ a) (fun _ z=>z) q2 hy
 refine⟨k1,k2,c,d,vs,ws,rfl,s1,s2,hq _ n2 _ H2 J (e1.trans e2) hn2 ?_⟩;intro O2 H3 h1 h2 h3;obtain⟨g1,U⟩:=f1 O2 H3 h1 h2;obtain⟨g2,L⟩:=f2 O2 H3 h1 h2;refine⟨fun i t I=>?_,?_⟩
 ·unfold zipD at I;rw[bg]at I;cases ez:(xs.zip ys)[i]? with
  | none=>rw[ez]at I;cases I
  | some q =>
   rw[ez]at I;cases I;obtain⟨ex,ey⟩:=List.getElem?_zip_eq_some.mp ez;obtain⟨vx,Y,rx⟩:=U.get ex;obtain⟨vy,Z,ry⟩:=L.get ey;refine⟨⟨vs,ws,vx,vy,g1,g2,Y,Z⟩,fun v H4 hyd=>?_⟩
   obtain⟨pp,x',y',hp,rfl,hx',hy',rfl⟩:=hyd;have e1:x'=vx:=aO ((hx' vs g1).symm.trans Y);have e2:y'=vy:=aO ((hy' ws g2).symm.trans Z);subst e1 e2;exact⟨JQ hp,.newT (fun z=>h3 pp z hp) hp (.cons rx (.cons ry .nil))⟩
 ·refine⟨vs,ws,g1,g2,?_⟩;have:=U.length;have:=L.length;unfold zipD;simp only[aZ,oZ];omega
end
section
variable{d da db:DTE}{dlo dhi:DTO}{ρ:En}{n:Nat}{R:qN}{Ro:Option Int->Nat->Prop}{Rl:List af->Nat->Prop}{xs ys:qD}{lo hi:Option Int}{Q:af->Prop}{Ql:List af->Prop}
theorem ztj(h:d ρ n fun t v=>dlo ρ v fun lo l=>dhi ρ l fun hi u=>lSl t lo hi fun z=>Rl z u):dSlL d dlo dhi ρ n Rl:=h
theorem zlQ(h:Ro none n):ziq ρ n Ro:=h
theorem zp5(h:d ρ n fun t l=>lInt t fun i=>Ro (some i) l):zqt d ρ n Ro:=h
theorem zvO(h:Ql (cutD xs lo hi)):lSl (.list xs) lo hi Ql:=h
theorem ztf(h:da ρ n fun x u=>db ρ u fun y l=>JX x fun xs=>JX y fun ys=>Rl (zipD xs ys) l):dZip da db ρ n Rl:=h
end
class Stp (P:Prop)(Q:outParam Prop):Prop where
 go:Q->P
section
variable{t u tb:DTS}{D:JP}{ρ ρ0:En}{n i j m:Nat}{d da db dc d1 d2:DTE}{ds di:DTA}{c c' tt:DTT}{g:G2}{g':G2}{gc:GC}{gd:GD}{tg:DTG}{tgs:DTGs}{R:qN}{Rb:Bool->Nat->Prop}{Rl:List af->Nat->Prop}{Re:En->Prop}{x y:af}{xs ys acc:qD}{f:Int->Int->Int}{fb:af->Bool}{k:Bool}{capt:List Nat}
instance zuq :Stp (sSeq t u D ρ n) ((t { D with nx:=u D } ρ n)):=⟨fun h=>zs7 h⟩
instance zrk :Stp (Z8 D ρ n) ((D.nx ρ n)):=⟨fun h=>zp0 h⟩
instance zur :Stp (sRet d D ρ n) ((d ρ n fun t n'=>D.rt t n')):=⟨fun h=>zs8 h⟩
instance zvs :Stp (sIf c t u D ρ n) ((c ρ n fun b n1=>if b=true then t D ρ n1 else u D ρ n1)):=⟨fun h=>zwa h⟩
instance zut :Stp (sAsg d tg D ρ n) ((d ρ n fun t n'=>tg t ρ fun ρ'=>D.nx ρ' n')):=⟨fun h=>zta h⟩
instance zus :Stp (sFor di tg tb D ρ n) ((di ρ n fun ts n1=>forP tg tb D ts ρ n1)):=⟨fun h=>zs_ h⟩
instance zwA :Stp (dC x ρ n R) ((R x n)):=⟨fun h=>i_dC h⟩
instance zvu :Stp (dOp g da db ρ n R) ((da ρ n fun x n1=>db ρ n1 fun y n2=>g x y fun z=>R z n2)):=⟨fun h=>zwe h⟩
instance zuE :Stp (dNew ds ρ n R) ((ds ρ n fun ts n'=>R (.list ts) n')):=⟨fun h=>ztn h⟩
instance zuy :Stp (dTup ds ρ n R) ((ds ρ n fun ts n1=>R (.tuple ts) n1)):=⟨fun h=>zth h⟩
instance zuD :Stp (dNil ρ n Rl) ((Rl [] n)):=⟨fun h=>ztm h⟩
instance zrq :Stp (Qk d ds ρ n Rl) ((d ρ n fun t n1=>ds ρ n1 fun ts n2=>Rl (t::ts) n2)):=⟨fun h=>zp7 h⟩
instance zvv :Stp (dFn gd ds ρ n R) ((ds ρ n fun ts n1=>gd ts n1 R)):=⟨fun h=>zwf h⟩
instance zuJ :Stp (dFnL gd ds ρ n R) ((ds ρ n fun ts n1=>gd ts n1 fun t n2=>JV t=true/\R t n2)):=⟨fun h=>zts h⟩
instance zqW :Stp (Y4 gc ds ρ n R) ((ds ρ n fun ts n1=>gc ts fun z=>R z n1)):=⟨fun h=>znQ h⟩
instance zuv :Stp (isiD fb d ρ n R) ((d ρ n fun t n1=>lIsi fb t fun z=>R z n1)):=⟨fun h=>zte h⟩
instance zuL :Stp (dAnd c c' ρ n Rb) ((c ρ n fun b n1=>if b=true then c' ρ n1 Rb else Rb false n1)):=⟨fun h=>ztu h⟩
instance zvt :Stp (dOr c c' ρ n Rb) ((c ρ n fun b n1=>if b=true then Rb true n1 else c' ρ n1 Rb)):=⟨fun h=>zwd h⟩
instance zuC :Stp (dNot c ρ n Rb) ((c ρ n fun b n1=>Rb (!b) n1)):=⟨fun h=>ztl h⟩
instance zrr :Stp (zqw da db ρ n R) ((da ρ n fun t n1=>bolD t fun b=>if b=true then db ρ n1 R else R (.bool false) n1)):=⟨fun h=>zp9 h⟩
instance zuB :Stp (dOrV da db ρ n R) ((da ρ n fun t n1=>bolD t fun b=>if b=true then R (.bool true) n1 else db ρ n1 R)):=⟨fun h=>ztk h⟩
instance zrp :Stp (zqu da ρ n R) ((da ρ n fun t n1=>bolD t fun b=>R (.bool (!b)) n1)):=⟨fun h=>zp6 h⟩
instance zuI :Stp (dIfE c da db ρ n R) ((c ρ n fun b n1=>if b=true then da ρ n1 R else db ρ n1 R)):=⟨fun h=>ztr h⟩
instance zuz :Stp (dTru d ρ n Rb) ((d ρ n fun t n'=>truD t fun b=>Rb b n')):=⟨fun h=>zti h⟩
instance zux :Stp (dYes ρ n Rb) ((Rb true n)):=⟨fun h=>ztg h⟩
instance zri :Stp (Yb tgs (.tuple xs) ρ Re) ((tgs xs ρ Re)):=⟨fun h=>zpY h⟩
instance zrj :Stp (U9 [] ρ Re) ((Re ρ)):=⟨fun h=>zpZ h⟩
instance zqT :Stp (Q5 tg tgs (x::xs) ρ Re) ((tg x ρ fun ρ'=>tgs xs ρ' Re)):=⟨fun h=>znM h⟩
instance zrl :Stp (QY d ρ n Rb) ((d ρ n fun t n'=>bolD t fun b=>Rb b n')):=⟨fun h=>zp2 h⟩
instance zuK :Stp (dCat da db ρ n Rl) ((da ρ n fun x n1=>db ρ n1 fun y n2=>lCat x y fun zs=>Rl zs n2)):=⟨fun h=>ztt h⟩
instance zuH :Stp (dItL d ρ n Rl) ((d ρ n fun t n'=>lLst t fun ts=>Rl ts n')):=⟨fun h=>ztq h⟩
instance zuG :Stp (dItT d ρ n Rl) ((d ρ n fun t n'=>lTup t fun ts=>Rl ts n')):=⟨fun h=>ztp h⟩
instance zrn :Stp (YC d ρ n Rl) ((d ρ n fun t n'=>lInt t fun j=>(-(2 ^ 62)<=j/\j<2 ^ 62)/\Rl (QL 0 j.toNat) n')):=⟨fun h=>zp4 h⟩
instance zuF :Stp (dNeg d ρ n R) ((d ρ n fun t n'=>lInt t fun i=>R (.int (-i)) n')):=⟨fun h=>zto h⟩
instance zqU :Stp (Y5 k d ρ n R) ((d ρ n fun t n'=>lLst t fun ts=>∃bs:List Bool,ts=bs.map cK/\R (.int (countIn (.bool k) (bs.map cK))) n')):=⟨fun h=>znO h⟩
instance zqV :Stp (Ye g g' da db dc ρ n R) ((da ρ n fun x n1=>db ρ n1 fun y n2=>g x y fun z=>bolD z fun b=>if b=true then dc ρ n2 fun w n3=>g' y w fun z=>R z n3 else R (.bool false) n2)):=⟨fun h=>znP h⟩
instance zuu {b:Bool}{A B:Prop}:Stp (if (!b)=true then A else B) ((if b=true then B else A)):=⟨fun h=>ztc h⟩
end
section
variable{C:Int->Int->Prop}{f:Int->Int->Int}{fb:Int->Int->Bool}{i j k:Int}{R:af->Prop}{Rb:Bool->Prop}{xs ys:qD}{s t:Str}{a b:Bool}{u v x y:af}{Rn:qN}{n:Nat}
instance zup :Stp (oAdd (.int i) (.int j) R) ((R (.int (i+j)))):=⟨fun h=>zs0 h⟩
instance zuo :Stp (oAdd (.str s) (.str t) R) (((s.length+t.length<=16777216/\R (.str (s++t))))):=⟨fun h=>zsZ h⟩
instance zvo :Stp (oEq (.int i) (.int j) R) ((R (.bool (decide (i=j))))):=⟨fun h=>zv7 h⟩
instance zvm :Stp (oEq (.str s) (.str t) R) ((R (.bool (decide (s=t))))):=⟨fun h=>zv5 h⟩
instance zvl :Stp (oEq (.tuple xs) (.tuple ys) R) (((Okd (.tuple xs)/\Okd (.tuple ys)/\R (.bool (cM (.tuple xs) (.tuple ys)))))):=⟨fun h=>zv4 h⟩
instance zvn :Stp (oEq (.list xs) (.list ys) R) (((Okd (.list xs)/\Okd (.list ys)/\R (.bool (cM (.list xs) (.list ys)))))):=⟨fun h=>zv6 h⟩
instance zva :Stp (oNe (.int i) (.int j) R) ((R (.bool (!decide (i=j))))):=⟨fun h=>zvS h⟩
instance zu9 :Stp (oNe (.str s) (.str t) R) ((R (.bool (!decide (s=t))))):=⟨fun h=>zvQ h⟩
instance zu_ :Stp (oNe (.list xs) (.list ys) R) (((Okd (.list xs)/\Okd (.list ys)/\R (.bool (!PyData.eqv (.list xs) (.list ys)))))):=⟨fun h=>zvR h⟩
instance zvj :Stp (oIs u .none R) ((R (.bool (isNone u)))):=⟨fun h=>zv2 h⟩
instance zrh :Stp (oIsN u .none R) ((R (.bool (!isNone u)))):=⟨fun h=>zpV h⟩
instance zqQ :Stp (Zh u (.tuple xs) R) (((Okd u/\(∀t∈xs,Okd t)/\R (.bool (!xs.any fun t=>t.eqv u))))):=⟨fun h=>znH h⟩
instance zvf :Stp (oLtA (.int i) (.int j) R) ((R (.bool (decide (i<j))))):=⟨fun h=>zvX h⟩
instance zvi :Stp (oLeA (.int i) (.int j) R) ((R (.bool (decide (i<=j))))):=⟨fun h=>zv0 h⟩
instance zvh :Stp (oLeA (.str s) (.str t) R) ((R (.bool (!decide (t.cps.toList<s.cps.toList))))):=⟨fun h=>zvZ h⟩
instance zuk :Stp (oIx (.tuple (u::xs)) (.int 0) R) ((R u)):=⟨fun h=>zsU h⟩
instance zuj :Stp (oIx (.tuple (u::v::xs)) (.int 1) R) ((R v)):=⟨fun h=>zsT h⟩
instance zui {w:af}:Stp (oIx (.tuple (u::v::w::xs)) (.int 2) R) ((R w)):=⟨fun h=>zsS h⟩
instance zum :Stp (oIx (.list (u::xs)) (.int 0) R) ((R u)):=⟨fun h=>zlJ h⟩
instance zul :Stp (oIx (.list (u::v::xs)) (.int 1) R) ((R v)):=⟨fun h=>zsX h⟩
instance zuc :Stp (truD (.bool a) Rb) ((Rb a)):=⟨fun h=>zsK h⟩
instance zub :Stp (truD (.list xs) Rb) ((Rb (!xs.isEmpty))):=⟨fun h=>zsJ h⟩
instance zvq :Stp (bolD (.bool a) Rb) ((Rb a)):=⟨fun h=>zv9 h⟩
instance zuh :Stp (bLen [.list xs] R) ((R (.int xs.length))):=⟨fun h=>zsR h⟩
instance zuf :Stp (bLen [.tuple xs] R) ((R (.int xs.length))):=⟨fun h=>zsP h⟩
instance zug :Stp (bLen [.str s] R) (((s.length<=16777216/\R (.int s.length)))):=⟨fun h=>zsQ h⟩
instance zqR {ns:List Int}:Stp (bLen [SCR ns] R) ((R (.int ns.length))):=⟨fun h=>znI h⟩
instance zvd :Stp (bMin [.int i,.int j] R) ((R (.int (if j<i then j else i)))):=⟨fun h=>zvV h⟩
instance zve :Stp (bMax [.int i,.int j] R) ((R (.int (if j > i then j else i)))):=⟨fun h=>zvW h⟩
instance zqP :Stp (Y8 [.list xs] R) ((R (.tuple xs))):=⟨fun h=>znG h⟩
instance zud :Stp (YB [u] R) (((Shd u/\R (.str u.shown)))):=⟨fun h=>zsM h⟩
instance zrg {Rl:List af->Prop}:Stp (JX (.list xs) Rl) ((Rl xs)):=⟨fun h=>zpU h⟩
instance zqS {Rl:List af->Prop}:Stp (JX (.tuple xs) Rl) ((Rl xs)):=⟨fun h=>znJ h⟩
instance zvp {Q:List af->Prop}:Stp (lCat (.list xs) (.list ys) Q) (((xs.length+ys.length<=16777216/\Q (xs++ys)))):=⟨fun h=>zv8 h⟩
instance zvg {Q:List af->Prop}:Stp (lLst (.list xs) Q) ((Q xs)):=⟨fun h=>zvY h⟩
instance zu5 {Q:List af->Prop}:Stp (lTup (.tuple xs) Q) ((Q xs)):=⟨fun h=>zvM h⟩
instance zvk {i:Int}{Q:Int->Prop}:Stp (lInt (.int i) Q) ((Q i)):=⟨fun h=>zv3 h⟩
instance zue {Q:af->af->Prop}:Stp (YT [x,y] Q) ((Q x y)):=⟨fun h=>zsN h⟩
instance zvb :Stp (oMul (.int i) (.int j) R) ((CMul i j)/\(R (.int (i*j)))):=⟨fun h=>zvT h.1 h.2⟩
instance zvc :Stp (oMod (.int i) (.int j) R) ((0<j)/\(R (.int (i % j)))):=⟨fun h=>zvU h.1 h.2⟩
instance zun :Stp (UN (.int i) (.int j) R) ((YE i j)/\(R (.int (i / j)))):=⟨fun h=>zsY h.1 h.2⟩
instance zu8 :Stp (oShl (.int i) (.int j) R) ((CPow i j)/\(R (.int (i*2 ^ j.toNat)))):=⟨fun h=>zvP h.1 h.2⟩
instance zu6 :Stp (oSub (.int i) (.int j) R) ((R (.int (i - j)))):=⟨fun h=>zvN h⟩
instance zu4 :Stp (oXor (.int i) (.int j) R) ((R (.int (fg i j)))):=⟨fun h=>zvL h⟩
instance zvr :Stp (oAnd (.int i) (.int j) R) ((R (.int (fT i j)))):=⟨fun h=>zv_ h⟩
instance zwx :Stp (gB fb (.int i) (.int j) R) ((R (.bool (fb i j)))):=⟨fun h=>j_gB h⟩
instance zm6 :Stp (lIsi isInt (.int i) R) ((R (.bool true))):=⟨fun h=>zih h⟩
instance zmN :Stp (lIsi isInt (.bool a) R) ((R (.bool true))):=⟨fun h=>zhm h⟩
instance zm5 :Stp (lIsi isInt (.str s) R) ((R (.bool false))):=⟨fun h=>zig h⟩
instance zky :Stp (lIsi isInt (.tuple xs) R) ((R (.bool false))):=⟨fun h=>zfZ h⟩
instance zmL :Stp (lIsi isInt (.list xs) R) ((R (.bool false))):=⟨fun h=>zhk h⟩
instance zmK :Stp (lIsi isInt (.none) R) ((R (.bool false))):=⟨fun h=>zhj h⟩
instance zmM :Stp (lIsi isInt (.dict []) R) ((R (.bool false))):=⟨fun h=>zhl h⟩
instance zmO :Stp (lIsi isBool (.int i) R) ((R (.bool false))):=⟨fun h=>zhn h⟩
instance zkz :Stp (lIsi isBool (.bool a) R) ((R (.bool true))):=⟨fun h=>zf0 h⟩
instance zm2 :Stp (lIsi isTup (.int i) R) ((R (.bool false))):=⟨fun h=>zid h⟩
instance zmF :Stp (lIsi isTup (.bool a) R) ((R (.bool false))):=⟨fun h=>zhe h⟩
instance zm1 :Stp (lIsi isTup (.str s) R) ((R (.bool false))):=⟨fun h=>zic h⟩
instance zkw :Stp (lIsi isTup (.tuple xs) R) ((R (.bool true))):=⟨fun h=>zfX h⟩
instance zmD :Stp (lIsi isTup (.list xs) R) ((R (.bool false))):=⟨fun h=>zhc h⟩
instance zmC :Stp (lIsi isTup (.none) R) ((R (.bool false))):=⟨fun h=>zhb h⟩
instance zmE :Stp (lIsi isTup (.dict []) R) ((R (.bool false))):=⟨fun h=>zhd h⟩
instance zm4 :Stp (lIsi isStr (.int i) R) ((R (.bool false))):=⟨fun h=>zif h⟩
instance zmJ :Stp (lIsi isStr (.bool a) R) ((R (.bool false))):=⟨fun h=>zhi h⟩
instance zm3 :Stp (lIsi isStr (.str s) R) ((R (.bool true))):=⟨fun h=>zie h⟩
instance zkx :Stp (lIsi isStr (.tuple xs) R) ((R (.bool false))):=⟨fun h=>zfY h⟩
instance zmH :Stp (lIsi isStr (.list xs) R) ((R (.bool false))):=⟨fun h=>zhg h⟩
instance zmG :Stp (lIsi isStr (.none) R) ((R (.bool false))):=⟨fun h=>zhf h⟩
instance zmI :Stp (lIsi isStr (.dict []) R) ((R (.bool false))):=⟨fun h=>zhh h⟩
end
section
variable{d da db:DTE}{dlo dhi:DTO}{ρ:En}{n:Nat}{R:qN}{Ro:Option Int->Nat->Prop}{Rl:List af->Nat->Prop}{xs ys:qD}{lo hi:Option Int}{Q:af->Prop}{Ql:List af->Prop}
instance zuA :Stp (dSlL d dlo dhi ρ n Rl) ((d ρ n fun t n1=>dlo ρ n1 fun lo n2=>dhi ρ n2 fun hi n3=>lSl t lo hi fun z=>Rl z n3)):=⟨fun h=>ztj h⟩
instance zoX :Stp (ziq ρ n Ro) ((Ro none n)):=⟨fun h=>zlQ h⟩
instance zro :Stp (zqt d ρ n Ro) ((d ρ n fun t n'=>lInt t fun i=>Ro (some i) n')):=⟨fun h=>zp5 h⟩
instance zuw :Stp (dZip da db ρ n Rl) ((da ρ n fun x n1=>db ρ n1 fun y n2=>JX x fun xs=>JX y fun ys=>Rl (zipD xs ys) n2)):=⟨fun h=>ztf h⟩
instance zu7 :Stp (lSl (.list xs) lo hi Ql) ((Ql (cutD xs lo hi))):=⟨fun h=>zvO h⟩
end
section
instance zrm {d:DTE}{ρ:En}{n:Nat}{Rl:List af->Nat->Prop}:Stp (zqs d ρ n Rl) ((d ρ n fun t n1=>YU t fun ts=>Rl ts n1)):=⟨fun h=>zp3 h⟩
end
section
variable{R:af->Prop}{b:Bool}{A B:Prop}
instance zwy:Stp (if true=true then A else B) A:=⟨fun h=>iteT h⟩
instance zwz:Stp (if false=true then A else B) B:=⟨fun h=>iteF h⟩
end
class GetN (ρ:En)(i:Nat)(c:outParam (Option Cell)):Prop where
 e:ρ[i]?=some c
class SetN (ρ:En)(i:Nat)(c:Option Cell)(ρ':outParam En):Prop where
 e:ρ.set i c=ρ'
instance{a0:Option Cell}{as:En}:GetN (a0::as) 0 a0:=⟨rfl⟩
instance{a0 c:Option Cell}{as:En}:SetN (a0::as) 0 c (c::as):=⟨rfl⟩
instance{a0 a1:Option Cell}{as:En}:GetN (a0::a1::as) 1 a1:=⟨rfl⟩
instance{a0 a1 c:Option Cell}{as:En}:SetN (a0::a1::as) 1 c (a0::c::as):=⟨rfl⟩
instance{a0 a1 a2:Option Cell}{as:En}:GetN (a0::a1::a2::as) 2 a2:=⟨rfl⟩
instance{a0 a1 a2 c:Option Cell}{as:En}:SetN (a0::a1::a2::as) 2 c (a0::a1::c::as):=⟨rfl⟩
instance{a0 a1 a2 a3:Option Cell}{as:En}:GetN (a0::a1::a2::a3::as) 3 a3:=⟨rfl⟩
instance{a0 a1 a2 a3 c:Option Cell}{as:En}:SetN (a0::a1::a2::a3::as) 3 c (a0::a1::a2::c::as):=⟨rfl⟩
instance{a0 a1 a2 a3 c:Option Cell}{as:En}{i:Nat}[h:GetN as i c]:GetN (a0::a1::a2::a3::as) (i+4) c:=⟨h.e⟩
instance{a0 a1 a2 a3 c:Option Cell}{as bs:En}{i:Nat}[h:SetN as i c bs]:SetN (a0::a1::a2::a3::as) (i+4) c (a0::a1::a2::a3::bs):=⟨by rw[<- h.e];rfl⟩
class NormE (ρ:En)(ρ':outParam En):Prop where
 e:ρ=ρ'
instance{a:Option Cell}{as:En}:NormE (a::as) (a::as):=⟨rfl⟩
instance{ρ ρ1 ρ2:En}{i:Nat}{c:Option Cell}[h:NormE ρ ρ1][k:SetN ρ1 i c ρ2]:NormE (ρ.set i c) ρ2:=⟨by rw[h.e];exact k.e⟩
class NoneN (as:En)(nn:outParam En):Prop where
 e:bX as.length none=nn
instance:NoneN [] []:=⟨rfl⟩
instance{a:Option Cell}{as nn:En}[h:NoneN as nn]:NoneN (a::as) (none::nn):=⟨by rw[aP,cy,h.e]⟩
class StartN (N:List Str)(ts:qD)(ρ:outParam En):Prop where
 e:Qb N ts=ρ
instance:StartN [] [] []:=⟨rfl⟩
instance{x:Str}{N:List Str}{ρ:En}[h:StartN N [] ρ]:StartN (x::N) [] (none::ρ):=⟨by
 have:=h.e;simp only[Qb,fC,eD,cY,t5]at this ⊢;rw[aP,cy,this]⟩
instance{x:Str}{N:List Str}{t:af}{ts:qD}{ρ:En}[h:StartN N ts ρ]:StartN (x::N) (t::ts) (some (.val t)::ρ):=⟨by
 have:=h.e;simp only[Qb]at this ⊢;rw[bZ,aP,aP,c9,Nat.add_sub_add_right,this]⟩
theorem zjJ{d:DTS}{D:JP}{n:Nat}{N:List Str}{ts:qD}{l:En}[e:StartN N ts l](h:d D l n):d D (Qb N ts) n:=e.e.symm▸h
class CapN (is:List Nat)(ρ:En)(out:outParam En):Prop where
 e:(is.map fun i=>capV (ρ.getD i none))=out
class CapC (c:Option Cell)(c':outParam (Option Cell)):Prop where
 e:capV c=c'
instance{d:af}:CapC (some (.val d)) (some (.val d)):=⟨rfl⟩
instance{d:qD}:CapC (some (.own d)) none:=⟨rfl⟩
instance:CapC none none:=⟨rfl⟩
instance{ρ:En}:CapN [] ρ []:=⟨rfl⟩
instance{i:Nat}{is:List Nat}{ρ out:En}{c c':Option Cell}[g:GetN ρ i c][k:CapC c c'][h:CapN is ρ out]:CapN (i::is) ρ (c'::out):=⟨by
 have ge:=g.e;rw[bZ,h.e,ba,ge,fi,k.e]⟩
class CompN (m:Nat)(capt:List Nat)(ρ:En)(ρ':outParam En):Prop where
 e:Jz m capt ρ=ρ'
instance{x:Str}{capt:List Nat}{ρ out:En}[h:CapN capt ρ out]:CompN (dQ [x]) capt ρ (none::out):=⟨by unfold Jz;rw[h.e];rfl⟩
instance{x y:Str}{capt:List Nat}{ρ out:En}[h:CapN capt ρ out]:CompN (dQ [x,y]) capt ρ (none::none::out):=⟨by unfold Jz;rw[h.e];rfl⟩
instance{x y z:Str}{capt:List Nat}{ρ out:En}[h:CapN capt ρ out]:CompN (dQ [x,y,z]) capt ρ (none::none::none::out):=⟨by unfold Jz;rw[h.e];rfl⟩
instance{x y z u:Str}{capt:List Nat}{ρ out:En}[h:CapN capt ρ out]:CompN (dQ [x,y,z,u]) capt ρ (none::none::none::none::out):=⟨by unfold Jz;rw[h.e];rfl⟩
def SetK(i:Nat)(c:Option Cell)(K:En->Nat->Prop)(l:En)(n:Nat):Prop:=K (l.set i c) n
section
variable{t u:DTS}{D:JP}{ρ ρ0 ρ':En}{n i j m:Nat}{d dj:DTE}{ds di:DTA}{tt:DTT}{tg:DTG}{R:qN}{Rl:List af->Nat->Prop}{Re:En->Prop}{x:af}{xs:qD}{f:Int->Int->Int}{capt:List Nat}{c:Option Cell}{K:En->Nat->Prop}{q:Int}
instance zwI [h:SetN ρ i c ρ']:Stp (SetK i c K ρ n) (K ρ' n):=⟨fun k=>by unfold SetK;rw[h.e];exact k⟩
instance zws:Stp (sSet i d D ρ n) (d ρ n fun t n'=>SetK i (some (.val t)) D.nx ρ n'):=⟨fun h=>h⟩
instance zwt:Stp (sOwn i ds D ρ n) (ds ρ n fun t n'=>SetK i (some (.own t)) D.nx ρ n'):=⟨fun h=>h⟩
instance zt_ [h:SetN ρ i (some (.val x)) ρ']:Stp (Qo i x ρ Re) (Re ρ'):=⟨fun k=>by unfold Qo;rw[h.e];exact k⟩
instance zwE [h:GetN ρ i (some (.val x))]:Stp (dVar i ρ n R) (R x n):=⟨fun k=>zoD h.e k⟩
instance zwF [h:GetN ρ i (some (.own xs))]:Stp (dOwn i ρ n R) (R (.list xs) n):=⟨fun k=>zoE h.e k⟩
instance zuO [h:GetN ρ i (some (.own xs))]:Stp (Yr i d D ρ n) (d ρ n fun t n'=>xs.length<16777216/\SetK i (some (.own (xs++[t]))) D.nx ρ n'):=⟨fun k=>zjg h.e k⟩
instance zuM [h:GetN ρ i (some (.own xs))][h':SetN ρ i (some (.val (.list xs))) ρ']:Stp (ZD i t D ρ n) (t D ρ' n):=⟨fun k=>zjf h.e (by rw[h'.e];exact k)⟩
instance zwR [h:GetN ρ i (some (.val (.int q)))]:Stp (sAug i f d D ρ n) (d ρ n fun t n'=>lInt t fun k=>SetK i (some (.val (.int (f q k)))) D.nx ρ n'):=⟨fun k=>zwg h.e k⟩
instance zwM:Stp (sPar i j ds D ρ n) (ds ρ n fun ts n'=>YT ts fun t u=>SetK i (some (.val t)) (fun ρ1 n1=>SetK j (some (.val u)) D.nx ρ1 n1) ρ n'):=⟨fun h=>zs9 h⟩
instance zwG [h:CompN m capt ρ ρ0]:Stp (dComp m capt di tg tt d ρ n Rl) (di ρ n fun ts n1=>JN tg tt d ρ0 ts [] n1 Rl):=⟨fun k=>zp8 (by rw[h.e];exact k)⟩
theorem zrC{D:JP}{ρ:En}{i:Nat}{xs:qD}{x:af}{n:Nat}{j:Int}{k:Nat}(e:ixN xs.length j=some k)(h:SetK i (some (.own (xs.set k x))) D.nx ρ n) :
  (match ixN xs.length j with|some k=>D.nx (ρ.set i (some (.own (xs.set k x)))) n|none=>False):=by rw[e];exact h
instance zwL [h:GetN ρ i (some (.own xs))]:Stp (sPut i dj d D ρ n) (d ρ n fun t n1=>UL ρ i D dj t n1 xs):=⟨fun k=>zwb h.e k⟩
instance zwu:Stp (UL ρ i D dj x n xs) (dj ρ n fun j n2=>lInt j fun j=>(match ixN xs.length j with|some k=>D.nx (ρ.set i (some (.own (xs.set k x)))) n2|none=>False)):=⟨fun h=>ztb h⟩
end
theorem Qr{l:En}{i:Nat}:l.set i (l.getD i none)=l:=by
 apply nM
 intro j
 by_cases h:i=j
 ·subst h
  by_cases hl:i<l.length
  ·rw[cf hl,ba,au hl];rfl
  ·rw[cw (by simp;omega),cw (by omega)]
 ·rw[aV h]
section
variable{g:DTG}{tb:DTS}{D:JP}{ts:qD}{ρ:En}{n:Nat}
theorem ztH(J I:Nat)(Inv:Nat->Option Cell->Option Cell->Nat->Prop){v:Option Cell->Option Cell->En}[N:∀l a1,NormE ((ρ.set J l).set I a1) (v l a1)](h0:Inv 0 (ρ.getD J none) (ρ.getD I none) n)
  (turn:∀(k:Nat) (t:af) (l a1:Option Cell) (m:Nat) (K:En->Nat->Prop) (R:qN) (L:En->Nat->Prop),ts[k]?=some t->Inv k l a1 m->(∀y x G,Inv (k+1) y x G->K (v y x) G)->(∀t m,D.rt t m->R t m)->(∀ρ m,D.nx ρ m->L ρ m)->g t (v l a1) fun u=>tb { nx:=K,rt:=R,bk:=L,ct:=K,xr:=D.xr } u m)
  (fin:∀l a1 m,Inv ts.length l a1 m->D.nx (v l a1) m):forP g tb D ts ρ n:=by
 refine U4 (fun k u m=>∃l a1,u=((ρ.set J l).set I a1)/\Inv k l a1 m) ⟨_,_,?_,h0⟩ ?_ ?_
 ·rw[Qr,Qr]
 ·rintro k t u m K e ⟨l,a1,rfl,C⟩ hK;rw[(N l a1).e];exact turn k t l a1 m K D.rt D.nx e C (fun y x G h=>(N y x).e▸hK _ _ ⟨y,x,rfl,h⟩) (fun _ _ h=>h) (fun _ _ h=>h)
 ·rintro u m ⟨l,a1,rfl,C⟩;rw[(N l a1).e];exact fin l a1 m C
theorem ztG(R L I:Nat)(Inv:Nat->Option Cell->Option Cell->Option Cell->Nat->Prop){v:Option Cell->Option Cell->Option Cell->En}[N:∀l a1 a2,NormE (((ρ.set R l).set L a1).set I a2) (v l a1 a2)](h0:Inv 0 (ρ.getD R none) (ρ.getD L none) (ρ.getD I none) n)
  (turn:∀(k:Nat) (t:af) (l a1 a2:Option Cell) (m:Nat) (K:En->Nat->Prop) (U:qN) (S:En->Nat->Prop),ts[k]?=some t->Inv k l a1 a2 m->(∀y x C J,Inv (k+1) y x C J->K (v y x C) J)->(∀t m,D.rt t m->U t m)->(∀ρ m,D.nx ρ m->S ρ m)->g t (v l a1 a2) fun u=>tb { nx:=K,rt:=U,bk:=S,ct:=K,xr:=D.xr } u m)
  (fin:∀l a1 a2 m,Inv ts.length l a1 a2 m->D.nx (v l a1 a2) m):forP g tb D ts ρ n:=by
 refine U4 (fun k u m=>∃l a1 a2,u=(((ρ.set R l).set L a1).set I a2)/\Inv k l a1 a2 m) ⟨_,_,_,?_,h0⟩ ?_ ?_
 ·rw[Qr,Qr,Qr]
 ·rintro k t u m K e ⟨l,a1,a2,rfl,G⟩ hK;rw[(N l a1 a2).e];exact turn k t l a1 a2 m K D.rt D.nx e G (fun y x C J h=>(N y x C).e▸hK _ _ ⟨y,x,C,rfl,h⟩) (fun _ _ h=>h) (fun _ _ h=>h)
 ·rintro u m ⟨l,a1,a2,rfl,G⟩;rw[(N l a1 a2).e];exact fin l a1 a2 m G
theorem zoK(Y U R L:Nat)(Inv:Nat->Option Cell->Option Cell->Option Cell->Option Cell->Nat->Prop){x:Option Cell->Option Cell->Option Cell->Option Cell->En}[N:∀u a1 a2 l,NormE ((((ρ.set Y u).set U a1).set R a2).set L l) (x u a1 a2 l)](h0:Inv 0 (ρ.getD Y none) (ρ.getD U none) (ρ.getD R none) (ρ.getD L none) n)
  (turn:∀(k:Nat) (t:af) (u a1 a2 l:Option Cell) (m:Nat) (K:En->Nat->Prop) (RT:qN) (Z:En->Nat->Prop),ts[k]?=some t->Inv k u a1 a2 l m->(∀G y I C S,Inv (k+1) G y I C S->K (x G y I C) S)->(∀t m,D.rt t m->RT t m)->(∀ρ m,D.nx ρ m->Z ρ m)->g t (x u a1 a2 l) fun v=>tb { nx:=K,rt:=RT,bk:=Z,ct:=K,xr:=D.xr } v m)
  (fin:∀u a1 a2 l m,Inv ts.length u a1 a2 l m->D.nx (x u a1 a2 l) m):forP g tb D ts ρ n:=by
 refine U4 (fun k v m=>∃u a1 a2 l,v=((((ρ.set Y u).set U a1).set R a2).set L l)/\Inv k u a1 a2 l m) ⟨_,_,_,_,?_,h0⟩ ?_ ?_
 ·rw[Qr,Qr,Qr,Qr]
 ·rintro k t v m K e ⟨u,a1,a2,l,rfl,J⟩ hK;rw[(N u a1 a2 l).e];exact turn k t u a1 a2 l m K D.rt D.nx e J (fun G y I C S h=>(N G y I C).e▸hK _ _ ⟨G,y,I,C,rfl,h⟩) (fun _ _ h=>h) (fun _ _ h=>h)
 ·rintro v m ⟨u,a1,a2,l,rfl,J⟩;rw[(N u a1 a2 l).e];exact fin u a1 a2 l m J
theorem zoJ(i0 Z U S i4:Nat)(Inv:Nat->Option Cell->Option Cell->Option Cell->Option Cell->Option Cell->Nat->Prop){y:Option Cell->Option Cell->Option Cell->Option Cell->Option Cell->En}[N:∀v a1 a2 l u,NormE (((((ρ.set i0 v).set Z a1).set U a2).set S l).set i4 u) (y v a1 a2 l u)](h0:Inv 0 (ρ.getD i0 none) (ρ.getD Z none) (ρ.getD U none) (ρ.getD S none) (ρ.getD i4 none) n)
  (turn:∀(k:Nat) (t:af) (v a1 a2 l u:Option Cell) (m:Nat) (K:En->Nat->Prop) (RT:qN) (BK:En->Nat->Prop),ts[k]?=some t->Inv k v a1 a2 l u m->(∀I C J G L Y,Inv (k+1) I C J G L Y->K (y I C J G L) Y)->(∀t m,D.rt t m->RT t m)->(∀ρ m,D.nx ρ m->BK ρ m)->g t (y v a1 a2 l u) fun x=>tb { nx:=K,rt:=RT,bk:=BK,ct:=K,xr:=D.xr } x m)
  (fin:∀v a1 a2 l u m,Inv ts.length v a1 a2 l u m->D.nx (y v a1 a2 l u) m):forP g tb D ts ρ n:=by
 refine U4 (fun k x m=>∃v a1 a2 l u,x=(((((ρ.set i0 v).set Z a1).set U a2).set S l).set i4 u)/\Inv k v a1 a2 l u m) ⟨_,_,_,_,_,?_,h0⟩ ?_ ?_
 ·rw[Qr,Qr,Qr,Qr,Qr]
 ·rintro k t x m K e ⟨v,a1,a2,l,u,rfl,R⟩ hK;rw[(N v a1 a2 l u).e];exact turn k t v a1 a2 l u m K D.rt D.nx e R (fun I C J G L Y h=>(N I C J G L).e▸hK _ _ ⟨I,C,J,G,L,rfl,h⟩) (fun _ _ h=>h) (fun _ _ h=>h)
 ·rintro x m ⟨v,a1,a2,l,u,rfl,R⟩;rw[(N v a1 a2 l u).e];exact fin v a1 a2 l u m R
theorem znN{i j:Nat}{u:DTS}{D:JP}{G nn C y:En}{n:Nat}{ns:List Int}{k:Int}[ej:GetN (some (.val (SCR ns))::G) j (some (.val (.int k)))][e1:NoneN G nn][e2:SetN (some (.val (SCR ns))::nn) j (some (.val (.int k))) C][e3:SetN C i (some (.val HAND)) y](R:ns.length<=63)(k0:0<=k)(k1:k<=100)
  (h:∀(N:En->Nat->Prop) (L:qN) (J I:En->Nat->Prop),(∀x m,D.nx (JJ x) n->N x m)->(∀b m,D.rt (.bool b) n->L (.bool b) m)->(∀x m,D.bk (JJ x) n->J x m)->(∀x m,D.ct (JJ x) n->I x m) ->
   u { nx:=N,rt:=L,bk:=J,ct:=I } y 0):U8 i j u D (some (.val (SCR ns))::G) n:=by
 refine zp1 (ρd:=some (.val (SCR ns))::nn) rfl ej.e R k0 k1 ?_ ?_
 ·show some (Cell.val (SCR ns))::bX (dQ (some (Cell.val (SCR ns))::G) - 1) none=_
  rw[aP,Nat.add_sub_cancel,e1.e]
 ·rw[e2.e,e3.e];exact h _ _ _ _ (fun _ _ h=>h) (fun b _ h=>⟨b,rfl,h⟩) (fun _ _ h=>h) (fun _ _ h=>h)
theorem Vy{c:DTT}{tb:DTS}{D:JP}{ρ:En}{n:Nat}(Inv:Nat->En->Nat->Prop){m:Nat}(h0:Inv m ρ n)
  (turn:∀m ρ n (K:En->Nat->Prop) (C:qN) (x:En->Nat->Prop),Inv m ρ n->(∀u l v,u<m->Inv u l v->K l v)->(∀t m,D.rt t m->C t m)->(∀ρ m,D.nx ρ m->x ρ m) ->
   c ρ n fun b y=>if b=true then tb { nx:=K,rt:=C,bk:=x,ct:=K,xr:=D.xr } ρ y else x ρ y):zkA c tb D ρ n :=
 zgc Inv h0 fun m ρ n h=>turn m ρ n (fun l v=>∃u,u<m/\Inv u l v) D.rt D.nx h (fun u _ _ a b=>⟨u,a,b⟩) (fun _ _ h=>h) (fun _ _ h=>h)
end
open Builtin Builtin.Str
def cutS(x:Str)(lo hi:Option Int):Str:=⟨((x.cps.toList.drop (HT.sIx x.length 0 lo)).take (HT.sIx x.length x.length hi - HT.sIx x.length 0 lo)).toArray⟩
theorem VB(n d:Nat)(i:Int):((HT.sIx n d (some i):Nat):Int)=max 0 (min (if i<0 then i+(n:Int) else i) (n:Int)):=by
 simp only[HT.sIx]
 by_cases h:i<0
 ·simp only[h,if_true] <;> lia
 ·simp only[h,if_false] <;> lia
theorem zq7(lo hi:Option Int)(n:Nat):strSliceIndices lo hi 1 n=sliceRange ((HT.sIx n 0 lo:Nat):Int) ((HT.sIx n n hi:Nat):Int) 1:=by
 have u:((HT.sIx n 0 none:Nat):Int)=0:=by simp[HT.sIx]
 have l:((HT.sIx n n none:Nat):Int)=n:=by simp[HT.sIx]
 cases lo with
 | none =>
  cases hi with
  | none=>rw[u,l];rfl
  | some j=>rw[u,VB];rfl
 | some i =>
  cases hi with
  | none=>rw[l,VB];rfl
  | some j=>rw[VB,VB];rfl
theorem zkt(x:Str)(lo hi:Option Int):ot x lo hi=cutS x lo hi:=by
 have e:strSliceIndices lo hi 1 x.length=(fw (HT.sIx x.length x.length hi - HT.sIx x.length 0 lo)).map (HT.sIx x.length 0 lo+·):=by rw[zq7,pK]
 have v:(strSliceIndices lo hi 1 x.length).filterMap (x.cps[·]?)=(x.cps.toList.drop (HT.sIx x.length 0 lo)).take (HT.sIx x.length x.length hi - HT.sIx x.length 0 lo):=by rw[e,u3]
 unfold ot;split
 ·rename_i h;have u:(strSliceIndices lo hi 1 x.length).length=x.length:=by simpa using h
  rw[e,aZ,List.length_range]at u;unfold cutS;have y:HT.sIx x.length x.length hi<=x.length:=by
   cases hi with
   | none=>simp[HT.sIx]
   | some i=>simp only[HT.sIx];split <;> lia
  have z:HT.sIx x.length 0 lo=0\/x.length=0:=by lia
  have:(x.cps.toList.drop (HT.sIx x.length 0 lo)).take (HT.sIx x.length x.length hi - HT.sIx x.length 0 lo)=x.cps.toList:=by
   have sz:x.cps.toList.length=x.length:=by simp[kX]
   rcases z with z|z
   ·rw[z,kc,ck (by lia)]
   ·have:x.cps.toList=[]:=gR.mp (by lia)
    rw[this];simp
  rw[this]
 ·rw[v];rfl
section
variable{X:Cx}
theorem zfp{v:ah}{p:Option Int}(h:kE v p):∃l:Option (Int×Tok),v=partValue l/\l.map (·.1)=p:=by
 cases h with
 | none=>exact⟨none,rfl,rfl⟩
 | int i t=>exact⟨some (i,t),rfl,rfl⟩
def rSlS:V->Option Int->Option Int->Hp->VK->Prop:=fun x lo hi H Q=>∃z,x=.str z/\z.length<=sizeLine/\Q (.str (cutS z lo hi)) H
theorem zrd:SlR X rSlS:=by
 intro pins s σ H x v S U lo hi L Q I R N pl J h;obtain⟨z,rfl,G,q⟩:=h;obtain⟨t,rfl⟩:=R;obtain⟨l,rfl,rfl⟩:=zfp pl;obtain⟨u,rfl,rfl⟩:=zfp J;have C:s.heap.IsSlice L l u none:=N;refine⟨"str",_,F.slot_str_getitem.lookup,pJ _ _ _,wpAny_getItem_str_slice (l:=l) (u:=u) (st:=none) C rfl (post_val_or_str ?_)⟩;have e:(if (((none:Option (Int×Tok)).map (·.1)).getD 1 == 1&&(slicePicked z l u none).length == z.length)=true then z else⟨((slicePicked z l u none).filterMap (z.cps[·]?)).toArray⟩)=ot z (l.map (·.1)) (u.map (·.1)):=rfl
 rw[e];refine⟨cH (Txt.slice_le z _ _) G,fun t' k=>⟨.str (ot z (l.map (·.1)) (u.map (·.1))),H,I.tok _,⟨_,rfl⟩,?_⟩⟩
 rw[zkt];exact q
def oSlA(t:af)(lo hi:Option Int)(R:af->Prop):Prop:=match t with
 | .tuple ts=>R (.tuple (cutD ts lo hi))
 | .str x=>x.length<=16777216/\R (.str (cutS x lo hi))
 | _=>False
def dSlA(d:DTE)(dl x:DTO):DTE:=fun l n R=>d l n fun t u=>dl l u fun lo v=>x l v fun hi y=>oSlA t lo hi fun z=>R z y
variable{e a b iter tg:aX}{d da db:DTE}{lo hi:Option aX}{dlo dhi:DTO}{pos p2:Pos}
theorem ZI(h:DL X e d)(U:DP X lo dlo)(hu:DP X hi dhi):DE X (.Subscript e (.Slice lo hi none p2) pos) (dSlA d dlo dhi):=by
 obtain⟨ta,pa,h⟩:=h;obtain⟨tl,pl,U⟩:=U;obtain⟨tu,pu,hu⟩:=hu;refine⟨_,ziY (SlR.or (SlR.or zrc zoU) zrd) pa pl pu,fun C ρ σ H n Q R S hd Y=>?_⟩
 refine h C ρ σ H n _ _ S hd fun t n1 v H1 r1 N h1 q1=>?_
 have S1:=S.on N h1;refine U C ρ σ H1 n1 _ _ S1 r1 fun lo n2 H2 r2 I h2=>?_
 have S2:=S1.on I h2;refine hu C ρ σ H2 n2 _ _ S2 r2 fun hi n3 H3 G y L=>?_
 have S3:=S2.on y L;have Z:=(I.trans y).repT S.hx q1;cases t with
 | tuple ts =>
  obtain⟨a,x,rfl,hs,rs⟩:=Z.tupI
  by_cases w:HT.sIx x.length 0 lo=0/\HT.sIx x.length x.length hi=x.length
  ·refine .inl (.inr ⟨a,x,rfl,hs,w,Y _ n3 _ H3 G (N.trans (I.trans y)) L ?_⟩);rw[zj_ (by rw[<- rs.length];exact w)]
   exact Z.rep (by intro _ z;cases z)
  ·refine .inl (.inl ⟨a,x,rfl,hs,w,fun p J=>Y _ n3 _ _ G (N.trans (I.trans (y.trans (ExtE.new J)))) (L.same (JQ J)) ?_⟩)
   exact .newT (S3.free J) J (zju rs lo hi)
 | str z =>
  rw[Z.strI];exact .inr ⟨z,rfl,G.1,Y _ n3 _ H3 G.2 (N.trans (I.trans y)) L (.str _)⟩
 | _=>exact G.elim
def repS(x:Str)(n:Int):Str:=⟨(bX n.toNat x.cps.toList).flatten.toArray⟩
theorem zhu(x:Array Nat):∀(n:Nat) (u:Array Nat),(bX n x).foldl (·++·) u=(u.toList++(bX n x.toList).flatten).toArray
 | 0,u=>by simp
 | n+1,u=>by
  rw[cy,oS,zhu x n,cy,nR];simp
theorem zpm:OpR X (binaryOp .Mult) (fun x y H Q=>∃i j,x=.str i/\y=.int j/\-100000<=j/\j<=100000/\i.length<=100/\Q (.str (repS i j)) H):=by
 intro pins s σ H x y v u Q I U R h;obtain⟨i,j,rfl,rfl,j0,j1,hi,q⟩:=h;obtain⟨t,rfl⟩:=U;obtain⟨t',rfl⟩:=R;have L:decide (j < -(2 ^ 63:Int))=false:=decide_eq_false (by lia)
 have S:decide (j>=2 ^ 63)=false:=decide_eq_false (by lia)
 have C:∀n:Nat,n<=100000->i.length*n<=10000000:=fun n N=>Nat.mul_le_mul hi N
 refine P.mul_str (by rw[L,S];rfl) (fun G _ Z=>?_) (fun G _=>?_) ?_
 ·have h3:(100:Int)<=(2 ^ 63 - 1) / j:=by
   apply Int.le_ediv_of_mul_le (by lia)
   lia
  lia
 ·have:=C j.toNat (by lia)
  unfold tooLong;exact decide_eq_false (by have:sizeLine=16777216:=rfl;lia)
 ·by_cases c1:j<1
  ·rw[if_pos c1];have e:repS i j=iU:=by
    unfold repS;rw[show j.toNat=0 by lia];rfl
   rw[e]at q;exact⟨by decide,.str iU,H,I.tok _,⟨_,rfl⟩,q⟩
  ·rw[if_neg c1]
   by_cases c2:(j == 1||i.length == 0)=true
   ·rw[if_pos c2];have e:repS i j=i:=by
     unfold repS;rw[Bool.or_eq_true,beq_iff_eq,beq_iff_eq]at c2;rcases c2 with c2|c2
     ·subst c2;simp
     ·have z:i.cps.toList=[]:=gR.mp (by simpa[kX] using c2)
      have J:i.cps=#[]:=by
       have:=congrArg List.toArray z;simpa using this
      rw[z];have:(bX j.toNat ([]:List Nat)).flatten=[]:=by simp
      rw[this,<- J]
    rw[e]at q;exact⟨.str i,H,I,⟨_,rfl⟩,q⟩
   ·rw[if_neg c2];have e:repS i j=⟨(bX j.toNat i.cps).foldl (·++·) #[]⟩:=by
     unfold repS;rw[zhu];simp
    rw[e]at q;refine⟨?_,.str _,H,I.tok _,⟨_,rfl⟩,q⟩;have:=C j.toNat (by lia)
    show(⟨(bX j.toNat i.cps).foldl (·++·) #[]⟩:Str).length<=sizeLine
    rw[<- e];unfold repS kX;rw[aG,List.length_flatten,List.map_replicate,List.sum_replicate_nat,cU];have Y:sizeLine=16777216:=rfl;have e4:j.toNat*i.cps.size=i.length*j.toNat:=by rw[lz];rfl
    lia
def ZY:G2
 | .int i,.int j,R=>CMul i j/\R (.int (i*j))
 | .str i,.int j,R=>-100000<=j/\j<=100000/\i.length<=100/\R (.str (repS i j))
 | _,_,_=>False
theorem zpn:OpR X (binaryOp .Mult) (fun x y H Q=>(rI CMul fun i j=>.int (i*j)) x y H Q\/∃i j,x=.str i/\y=.int j/\-100000<=j/\j<=100000/\i.length<=100/\Q (.str (repS i j)) H):=OpR.or QV zpm
theorem zqb:Gp2 X (fun x y H Q=>(rI CMul fun i j=>.int (i*j)) x y H Q\/∃i j,x=.str i/\y=.int j/\-100000<=j/\j<=100000/\i.length<=100/\Q (.str (repS i j)) H) ZY:=by
 intro hd O H x y t u Q R dom G v g C;unfold ZY at g;split at g
 ·rw[G.intI,v.intI];exact .inl ⟨_,_,rfl,rfl,g.1,C _ _ H g.2 (Same.refl _) (.int _)⟩
 ·rw[G.strI,v.intI];exact .inr ⟨_,_,rfl,rfl,g.1,g.2.1,g.2.2.1,C _ _ H g.2.2.2 (Same.refl _) (.str _)⟩
 ·exact g.elim
theorem zqp(x:DL X a da)(v:DL X b db):DE X (.BinOp a .Mult b pos) (dOp ZY da db):=QR zpn zqb x v
end
def Its(z:Str):It:=⟨fun i _=>i<z.cps.size,fun i H x l=>l=H/\∃c,z.cps[i]?=some c/\x=.str ⟨#[c]⟩,fun i _=>z.cps.size<=i⟩
theorem zmX{P:aK}{w:aW}{K:qF}{tg:aX}(z:Str)(t:Tok)(it:ak)(T:String)(N:T = "str_ascii_iterator" \/ T = "str_iterator"):Turn P w K tg (Its z) [it] it (fun i h=>h.IsStrIter it T z t i) where
 mem:=by simp
 obj:=fun i h st b C=>by
  have e:b=it:=by simpa using C
  subst e;obtain⟨o,e,c,d⟩:=st;exact⟨o,e,fun v z=>by rw[d]at z;cases z⟩
 keep:=fun i h h' st k=>by
  obtain⟨o,e,r⟩:=st;exact⟨o,k it (by simp) o e,r⟩
 item:=by
  intro X U hw Z hc i pins s σ H E I hf st G;subst U hw Z;obtain⟨f0,f1,f2,S,f4,R⟩:=hf it (by simp)
  have G:i<z.cps.size:=G;have J:z.cps[i]?=some z.cps[i]:=by simp[G]
  have fin:∀h',h'.IsStrIter it T z t (i+1)->eE it s.heap h'->∃u,some (iT ⟨#[z.cps[i]]⟩ s.toks)=some u /\
    wpAny (model X.prog X.w) X.A (letOwnedTupleGo tg (.ref it) u) (fun _ s2=>∃x Y,Inv X pins σ Y s2/\RelV x u/\(Its z).yld i H x Y/\s2.heap.IsStrIter it T z t (i+1)/\∀b∈[it],Y b=none) E { s with heap:=h',toks:=s.toks+1 }:=by
   intro h' L sb;have I1:Inv X pins σ H { s with heap:=h',toks:=s.toks+1 }:=I.turned (t':=s.toks+1) (fun b o C e=>(sb.2 b C).trans e) f0 f1 S f4 R
   obtain⟨o,e,c,d⟩:=id L;have ne:(T = "enumerate")=False:=by rcases N with rfl|rfl <;> decide
   refine⟨_,rfl,Z1 (s:={ s with heap:=h',toks:=s.toks+1 }) (n:=T) e c d (by rcases N with rfl|rfl <;> decide) ⟨.str ⟨#[z.cps[i]]⟩,H,I1,⟨_,rfl⟩,⟨rfl,_,J,rfl⟩,L,fun b C=>(hf b C).1⟩⟩
  rcases N with rfl|rfl
  ·exact wpAny_pyNext_ascii_item st J fin
  ·exact wpAny_pyNext_wide_item st J fin
 done:=by
  intro X U hw Z hc i pins s σ H E I hf st G;subst U hw Z;obtain⟨f0,f1,f2,S,f4,R⟩:=hf it (by simp)
  have G:z.cps.size<=i:=G;have J:z.cps[i]?=none:=by simp[G]
  rcases N with rfl|rfl
  ·exact wpAny_pyNext_ascii_end (I.ok.hd hc) st J fun h' eb=>⟨rfl,I.turned (t':=s.toks) (fun b o C e=>eb b o C e) f0 f1 S f4 R⟩
  ·exact wpAny_pyNext_wide_end (I.ok.hd hc) st J fun h' eb=>⟨rfl,I.turned (t':=s.toks) (fun b o C e=>eb b o C e) f0 f1 S f4 R⟩
 self:=fun _ _ _ _ _ st h=>by
  rcases N with rfl|rfl
  ·exact wpAny_pyIter_striter_ascii st h
  ·exact wpAny_pyIter_striter_wide st h
section
variable{X:Cx}{tg iter:aX}{d:DTE}
def iStr(l:TE):TI:=fun σ H R=>l σ H fun x u=>∃z,x=.str z/\R (Its z) u
theorem zrO{l:aX}{C:TE}(G:PE X l C):PI X tg l (iStr C):=by
 intro pins s σ H R I h;refine thn (G pins s σ H _ I h) fun v s1 ⟨x,U,u,L,S⟩=>?_
 obtain⟨z,rfl,q⟩:=S;obtain⟨t,rfl⟩:=L;have key:∀T,(T = "str_ascii_iterator" \/ T = "str_iterator")->PIE X pins σ tg R (.ref s1.heap.objs.size) { s1 with heap:=s1.heap.push { cls:=.type T,data:=.fields #[.str z t,.int 0 0] } }:=by
  intro T J;refine⟨s1.heap.objs.size,[s1.heap.objs.size],_,_,U,rfl,u.kept (t':=s1.toks) fun b o e=>av _ e,zmX z t _ T J,⟨_,aI _ rfl,rfl,rfl⟩,fun b N=>?_,q⟩
  have e:b=s1.heap.objs.size:=by simpa using N
  subst e;exact u.fpOk (aC _) (u.hok.fresh (aC _))
 cases ha:z.cps.all (·<128)
 ·exact wpAny_pyIter_wide ha (key _ (.inr rfl))
 ·exact wpAny_pyIter_ascii ha (key _ (.inl rfl))
def sgnD(z:Str):List af:=z.cps.toList.map fun c=>.str ⟨#[c]⟩
theorem zs6{K:qF}{hd:Option ak}{P O:ak->Prop}{H:Hp}{z:Str}:ItOk K hd P O H (Its z) (sgnD z):=by
 intro R J _ _ _;have sz:z.cps.toList.length=z.cps.size:=by simp
 refine⟨fun i t u=>?_,by show z.cps.size<=(sgnD z).length;unfold sgnD;rw[aZ];lia⟩
 unfold sgnD at u;rw[bg]at u;cases ec:z.cps.toList[i]? with
 | none=>rw[ec]at u;cases u
 | some c =>
  rw[ec]at u;cases u;obtain⟨hi,G⟩:=ax.mp ec;have y:i<z.cps.size:=by lia
  have v:z.cps[i]?=some c:=by rw[<- cN];exact ec
  refine⟨y,fun x N I=>?_⟩
  obtain⟨rfl,L,C,rfl⟩:=I;rw[v]at C;cases C;exact⟨Same.refl _,.str _⟩
def lStr:af->(Str->Prop)->Prop
 | .str z,R=>R z
 | _,_=>False
def dItS(d:DTE):DTA:=fun u n R=>d u n fun t l=>lStr t fun z=>R (sgnD z) l
theorem ztT(h:DE X iter d):DI X tg iter (dItS d):=by
 obtain⟨J,pa,h⟩:=h;refine⟨_,zrO pa,fun C u σ H n Q R S hd l=>?_⟩
 refine h C u σ H n _ _ S hd fun t G v x r I y q=>?_
 cases t with
 | str z =>
  rw[q.strI];exact⟨z,rfl,l _ G _ x r I y zs6⟩
 | _=>exact r.elim
end
section
variable{X:Cx}{a b:aX}{rest:List aX}{ta tb:TE}{da db:DTE}{pos:Pos}
def tOrA(K:qF)(ta tb:TE):TE:=fun σ H Q=>ta σ H fun x l=>∃k,TruV K x l k/\if k=true then Q x l else tb σ l Q
theorem zrT(S:PE X a ta)(U:PE X (.BoolOp .Or (b::rest) pos) tb):PE X (.BoolOp .Or (a::b::rest) pos) (tOrA X.K ta tb):=by
 intro pins s σ H Q I h;refine BoolOp_or (thn (S pins s σ H _ I h) fun v s1 ⟨x,J,L,G,u⟩=>?_)
 obtain⟨k,e,u⟩:=u;refine thn (zoh pins s1 σ J x v (fun c N=>c=k/\N=J) L G ⟨k,e,rfl,rfl⟩) fun c s2 R=>?_
 obtain⟨C,y,rfl,rfl⟩:=R;cases c with
 | false=>exact U pins s2 σ C Q y u
 | true=>exact⟨x,C,y,G,u⟩
def dOrA(da db:DTE):DTE:=fun u n R=>da u n fun t l=>truD t fun b=>if b=true then R t l else db u l R
theorem ztX(h:DE X a da)(h':DE X (.BoolOp .Or (b::rest) pos) db):DE X (.BoolOp .Or (a::b::rest) pos) (dOrA da db):=by
 obtain⟨ta,pa,h⟩:=h;obtain⟨tb,pb,h'⟩:=h';refine⟨_,zrT pa pb,fun C G σ H n Q R S hd y=>?_⟩
 refine h C G σ H n _ _ S hd fun t L v u r x I N=>?_
 refine zoi (Q:=fun k u=>if k=true then Q v u else tb σ u Q) (.inl N) r fun b J=>?_
 cases b with
 | true=>exact iteT (y _ L _ u J x I N)
 | false=>exact iteF (h' C G σ u L Q R (S.on x I) J fun t Y v U r e2 Z q2=>y t Y v U r (x.trans e2) Z q2)
end
section
variable{ρ:En}{n:Nat}{d da db:DTE}{dlo dhi:DTO}{R:qN}{Rl:List af->Nat->Prop}{Q:af->Prop}{xs:qD}{lo hi:Option Int}{x:Str}{i j:Int}{Ql:List af->Prop}
instance zwN:Stp (dOrA da db ρ n R) (da ρ n fun t n1=>truD t fun b=>if b=true then R t n1 else db ρ n1 R):=⟨fun h=>h⟩
instance zwK:Stp (dSlA d dlo dhi ρ n R) (d ρ n fun t n1=>dlo ρ n1 fun lo n2=>dhi ρ n2 fun hi n3=>oSlA t lo hi fun z=>R z n3):=⟨fun h=>h⟩
instance zwq:Stp (oSlA (.tuple xs) lo hi Q) (Q (.tuple (cutD xs lo hi))):=⟨fun h=>h⟩
instance zwr:Stp (oSlA (.str x) lo hi Q) (x.length<=16777216/\Q (.str (cutS x lo hi))):=⟨fun h=>h⟩
instance zwv:Stp (ZY (.str x) (.int j) Q) (-100000<=j/\j<=100000/\x.length<=100/\Q (.str (repS x j))):=⟨fun h=>h⟩
instance zwO:Stp (dItS d ρ n Rl) (d ρ n fun t n'=>lStr t fun z=>Rl (sgnD z) n'):=⟨fun h=>h⟩
instance zww {Rs:Str->Prop}:Stp (lStr (.str x) Rs) (Rs x):=⟨fun h=>h⟩
end
mutual
def plnD:af->Bool
 | .dict []=>true
 | .dict _=>false
 | .tuple ts=>decide (ts.length<=1000000)&&U7 ts
 | .list ts=>decide (ts.length<=1000000)&&U7 ts
 | .str x=>decide (x.length<=1000000)
 | _=>true
def U7:List af->Bool
 | []=>true
 | t::ts=>plnD t&&U7 ts
end
def PlnD(d:af):Prop:=plnD d=true
theorem zel:∀{ts:qD},U7 ts=true↔∀t∈ts,PlnD t
 | []=>by simp[U7]
 | t::ts=>by
  rw[U7,aM,zel (ts:=ts)];constructor
  ·rintro⟨a,b⟩ u l;rcases aA.mp l with rfl|l
   ·exact a
   ·exact b u l
  ·intro h;exact⟨h t (by simp),fun u l=>h u (by simp[l])⟩
theorem PlnD.tup{ts:qD}(h:PlnD (.tuple ts)):ts.length<=1000000/\∀t∈ts,PlnD t:=by
 unfold PlnD plnD at h;rw[aM,decide_eq_true_iff,zel]at h;exact h
theorem PlnD.str{x:Str}(h:PlnD (.str x)):x.length<=1000000:=by
 unfold PlnD plnD at h;exact decide_eq_true_iff.mp h
theorem ziU{ts:qD}(l:ts.length<=1000000)(h:∀t∈ts,PlnD t):PlnD (.tuple ts):=by
 unfold PlnD plnD;rw[aM,decide_eq_true_iff,zel];exact⟨l,h⟩
theorem ziV{x:Str}(h:x.length<=1000000):PlnD (.str x):=by unfold PlnD plnD;exact decide_eq_true h
theorem ziX{i:Int}:PlnD (.int i):=by unfold PlnD plnD;rfl
theorem ziW:∀t∈([]:qD),PlnD t:=fun t h=>nomatch h
theorem ZW{x:af}{xs:qD}(h:PlnD x)(h':∀t∈xs,PlnD t):∀t∈x::xs,PlnD t:=fun t l=>by
 rcases aA.mp l with rfl|l
 ·exact h
 ·exact h' t l
theorem PlnD.pln{d:af}(h:PlnD d):Pln d:=by
 cases d with
 | dict l =>
  cases l with
  | nil=>exact Uy
  | cons a b=>cases a with|mk x y=>simp[PlnD,plnD]at h
 | none=>exact UA
 | bool=>exact Q9
 | int=>exact Uc
 | str=>exact UC
 | list=>exact Uz
 | tuple=>exact Uu
def IsNm(s:Str):Prop:=1<=s.length/\s.length<=8/\∀c∈s.cps.toList,97<=c/\c<=122
def nmS(s:Str):Bool:=decide (1<=s.length)&&decide (s.length<=8)&&s.cps.toList.all fun c=>decide (97<=c)&&decide (c<=122)
theorem zpE{s:Str}:nmS s=true↔IsNm s:=by
 unfold nmS IsNm;simp only[aM,decide_eq_true_iff,bw,and_assoc]
def nmD:af->Bool
 | .str s=>nmS s
 | _=>false
theorem Qq(s:Str):s.cps.toList.length=s.length:=by simp[kX]
theorem zk1{a b:Nat}:(([a]:List Nat)<[b])↔a<b:=by
 constructor
 ·intro h;cases h with
  | rel h=>exact h
  | cons h=>cases h
 ·intro h;exact .rel h
theorem zpN{a c:Nat}:(!decide (([c]:List Nat)<[a]))=decide (a<=c):=by
 rw[<- decide_not];exact decide_eq_decide.mpr (by rw[zk1];lia)
theorem ziA(a b:Str):(a++b).cps.toList=a.cps.toList++b.cps.toList:=by
 show(a.cps++b.cps).toList=_
 simp
theorem Str.ext'{a b:Str}(h:a.cps.toList=b.cps.toList):a=b:=by
 cases a with|mk a =>
 cases b with|mk b =>
 have:a=b:=oi.mp h;rw[this]
theorem zsV{x:Str}{i:Int}{k c:Nat}{R:af->Prop}(l:x.length<=16777216)(hi:i=(k:Int))(e:x.cps.toList[k]?=some c)(h:R (.str ⟨#[c]⟩)):oIx (.str x) (.int i) R:=by
 subst hi;have a:atI x.cps.toList (k:Int)=some c:=Bd.ze1 (by lia) (by simpa using e)
 show x.length<=16777216/\(match atI x.cps.toList (k:Int) with|some c=>R (.str ⟨#[c]⟩)|none=>False)
 rw[a];exact⟨l,h⟩
theorem letters{k:Nat}(h:k<26):(aa "abcdefghijklmnopqrstuvwxyz").cps.toList[k]?=some (97+k):=by
 have:∀i:Fin 26,(aa "abcdefghijklmnopqrstuvwxyz").cps.toList[i.val]?=some (97+i.val):=by decide +kernel
 exact this ⟨k,h⟩
theorem zeS{x:Str}{i:Int}{k:Nat}(h:i=(k:Int)):(cutS x none (some i)).cps.toList=x.cps.toList.take k:=by
 subst h;unfold cutS;rw[HT.zdR,HT.zhW];simp only[kc,t5];rw[<- Qq x];simp[lO]
theorem zhz{x:Str}{i:Int}{k:Nat}(h:i=(k:Int))(l:k<=x.length):(cutS x (some i) none).cps.toList=x.cps.toList.drop k:=by
 subst h;unfold cutS;rw[HT.zdR,HT.zhW,lF l];show(List.take _ (List.drop k x.cps.toList))=_
 rw[ck (by rw[fh,Qq];lia)]
def OkK(k:Nat)(t:af):Prop:=t.canLay0=true/\t.depth<=k
theorem OkK.okd{k:Nat}{t:af}(h:OkK k t)(l:k<=60:=by decide):Okd t:=⟨h.1,cH h.2 l⟩
theorem zpx{i:Int}:OkK 0 (.int i):=⟨by simp[bN],by simp[cS]⟩
theorem znr:OkK 0 .none:=⟨by simp[bN],by simp[cS]⟩
theorem zpv{s:Str}(h:bN (.str s)=true):OkK 0 (.str s):=⟨h,by simp[cS]⟩
theorem OkK.mono{k u:Nat}{t:af}(h:OkK k t)(l:k<=u):OkK u t:=⟨h.1,cH h.2 l⟩
theorem zh5{k:Nat}:∀{ts:qD},(∀t∈ts,OkK k t)->bu ts=true/\cb ts<=k
 | [],_=>⟨by simp[bu],by simp[cb]⟩
 | t::ts,h=>by
  obtain⟨a,b⟩:=zh5 (ts:=ts) fun u l=>h u (by simp[l])
  have c:=h t (by simp)
  refine⟨by simp[bu,c.1,a],?_⟩
  have:=c.2;simp only[cb];lia
theorem zk7{k:Nat}{ts:qD}(h:∀t∈ts,OkK k t):OkK (k+1) (.tuple ts):=by
 obtain⟨a,b⟩:=zh5 h;exact⟨by simpa only[bN] using a,by simp only[cS];lia⟩
theorem zpw{k:Nat}{ts:qD}(h:∀t∈ts,OkK k t):OkK (k+1) (.list ts):=by
 obtain⟨a,b⟩:=zh5 h;exact⟨by simpa only[bN] using a,by simp only[cS];lia⟩
theorem zsj{b:Int×Int}:OkK 1 (prD b):=zk7 fun t l=>by
 simp only[aA,aQ,or_false]at l;rcases l with rfl|rfl <;> exact zpx
theorem ZX{s:Str}(h:IsNm s):OkK 0 (.str s):=zpv (by
 simp only[bN];show(s.cps.all (·<0x110000))=true
 rw[<- Array.all_toList,bw];intro c hc;have:=h.2.2 c hc;exact decide_eq_true (by lia))
theorem znY{xs:qD}:cM (.list xs) (.list [])=xs.isEmpty:=by
 cases xs with
 | nil=>rfl
 | cons a b=>rfl
theorem Yu{α:Type}{cs:List α}{D:α->af}{L:DTG}{tt:DTT}{d:DTE}{y:En}{n:Nat}{J:List af->Nat->Prop}(p:α->Bool)(F:α->af)(N:cs.length<=16777216)
  (step:∀b∈cs,∀(K:qN) (X:Nat->Prop),(p b=true->K (F b) n)->(p b=false->X n)->L (D b) y fun C=>tt C n fun c I=>if c=true then d C I K else X I) (fin:J ((cs.filter p).map F) n):JN L tt d y (cs.map D) [] n J:=by
 refine Z9 (fun j u m=>m=n/\u=((cs.take j).filter p).map F) ⟨rfl,rfl⟩ ?_ ?_
 ·rintro j x u m K v ⟨rfl,rfl⟩ hK;rw[bg]at v;cases eb:cs[j]? with
  | none=>rw[eb]at v;cases v
  | some b =>
   rw[eb]at v;cases v;obtain⟨S,R⟩:=ax.mp eb;have tk:cs.take (j+1)=cs.take j++[b]:=by rw[dD,eb];rfl
   refine step b (aN eb) _ _ (fun G=>⟨?_,hK _ _ ⟨rfl,?_⟩⟩) (fun G=>hK _ _ ⟨rfl,?_⟩)
   ·have:=dH p (cs.take j);simp at this ⊢;lia
   ·rw[tk,mZ,eu];simp[G]
   ·rw[tk,mZ,eu];simp[G]
 ·rintro u m ⟨rfl,rfl⟩;rw[aZ,fk];exact fin
theorem znb{x:Str}{n:Int}:(repS x n).cps.toList=(bX n.toNat x.cps.toList).flatten:=rfl
theorem zsW{xs:qD}{r:Int}{R:af->Prop}(v:0<=r)(y:r<xs.length)(h:∀x∈xs,R x):oIx (.list xs) (.int r) R:=by
 have u:r.toNat<xs.length:=by omega
 rw[Yd (Bd.ze1 v (au u))];exact h _ (dM u)
theorem zn_{ts:qD}:cutD ts none (some (-1))=ts.take (ts.length - 1):=by
 unfold cutD;have e:HT.sIx ts.length ts.length (some (-1))=ts.length - 1:=by
  have:HT.sIx ts.length ts.length (some (-1))=if (-1:Int)<0 then((-1:Int)+(ts.length:Int)).toNat else min (-1:Int).toNat ts.length:=by
   first|rfl|(unfold HT.sIx;rfl)|(simp[HT.sIx];done)
  rw[this,if_pos (by decide)];omega
 rw[HT.zdR,e];simp
section
variable{prog:aK}{w:aW}{A:bq}{R:n8->aq->Prop}{s:aq}{elt tg1 it1 tg2 it2:aX}{HW HL:List aX}{scope:fv}{pos:Pos}{it acc:ah}{env:Env}
theorem zhC(it acc:ah)(env:Env):compTurn (.ListComp elt [⟨tg1,it1,HW,0⟩,⟨tg2,it2,HL,0⟩] scope pos) 0 it acc env=(do
      standAt it1.pos
      match <- pyNext it with
      | none=>pure (.done .next)
      | some v =>
       letOwnedTupleGo tg1 it v
       assign tg1 env v
       let mut ok:=true
       for c in HW do
        if ok then ok <- isTrue c env (eval c env)
       if ok then
        let x <- eval it2 env
        standAt it2.pos
        let x <- foldedSetIterable it2 env x
        let _ <- runOwn (.compStart (.ListComp elt [⟨tg1,it1,HW,0⟩,⟨tg2,it2,HL,0⟩] scope pos) 1 (<- holding [x] (pyIter x)) acc env) env
       again (.compLoop (.ListComp elt [⟨tg1,it1,HW,0⟩,⟨tg2,it2,HL,0⟩] scope pos) 0 it acc env)):=by rfl
theorem zir(it acc:ah)(env:Env):compTurn (.ListComp elt [⟨tg1,it1,HW,0⟩,⟨tg2,it2,HL,0⟩] scope pos) 1 it acc env=(do
      standAt it2.pos
      match <- pyNext it with
      | none=>pure (.done .next)
      | some v =>
       letOwnedTupleGo tg2 it v
       assign tg2 env v
       let mut ok:=true
       for c in HL do
        if ok then ok <- isTrue c env (eval c env)
       if ok then
        (do let _ <- call (.builtin "list.append") [acc,<- eval elt env])
       again (.compLoop (.ListComp elt [⟨tg1,it1,HW,0⟩,⟨tg2,it2,HL,0⟩] scope pos) 1 it acc env)):=by rfl
theorem zmV(I:Nat->aq->Prop)
  (turn:∀n s,I n s->wpAny (model prog w) A (pyNext it) (fun r G=>match r with
   | none=>R (.ok .next) G
   | some v=>wpAny (model prog w) A (letOwnedTupleGo tg2 it v) (fun _ J=>wpAny (model prog w) A (assign tg2 env v) (fun _ Y =>
     wpAny (model prog w) A (forIn HL true fun c r=>if r=true then do let ok <- isTrue c env (eval c env);pure (cA ok) else pure (cA r)) (fun ok y =>
      if ok=true then wpAny (model prog w) A (eval elt env) (fun x Z=>wpAny (model prog w) A (call (.builtin "list.append") [acc,x]) (fun _ S=>∃m,m<n/\I m S) NoX Z) NoX y
      else ∃m,m<n/\I m y) NoX Y) NoX J) NoX G) NoX s) (n:Nat) (h:I n s) :
  codeAny (model prog w) A (.compLoop (.ListComp elt [⟨tg1,it1,HW,0⟩,⟨tg2,it2,HL,0⟩] scope pos) 1 it acc env) R s:=by
 refine nG rfl I (fun n s hI=>?_) n h
 show wpAny _ A ((compTurn (.ListComp elt [⟨tg1,it1,HW,0⟩,⟨tg2,it2,HL,0⟩] scope pos) 1 it acc env).onRaise (fun x=>do noteFrame x env;theTreesLotGoes x)) _ _ s
 refine oG (c8 (E:=NoX) ?_ (fun _ _ q=>q) fun _ _ z=>cB z)
 rw[zir];refine ae (dN (ae (thn (turn n s hI) fun r G N=>?_)))
 cases r with
 | none=>exact aj N
 | some v =>
  refine ae (thn N fun _ J h₂=>ae (thn h₂ fun _ Y h₃=>ae (thn h₃ fun ok y U=>?_)))
  cases ok with
  | false=>exact aj ⟨rfl,U⟩
  | true =>
   refine ae (ae (thn U fun x Z h₅=>ae (thn h₅ fun _ S h₆=>?_)))
   exact aj (aj ⟨rfl,h₆⟩)
theorem zkn(hs:∀x,foldedSetIterable it2 env x=pure x)(I:Nat->aq->Prop)
  (turn:∀n s,I n s->wpAny (model prog w) A (pyNext it) (fun r u=>match r with
   | none=>R (.ok .next) u
   | some v=>wpAny (model prog w) A (letOwnedTupleGo tg1 it v) (fun _ y=>wpAny (model prog w) A (assign tg1 env v) (fun _ Y =>
     wpAny (model prog w) A (forIn HW true fun c r=>if r=true then do let ok <- isTrue c env (eval c env);pure (cA ok) else pure (cA r)) (fun ok l =>
      if ok=true then wpAny (model prog w) A (eval it2 env) (fun x Z=>wpAny (model prog w) A (pyIter x) (fun itv J =>
       codeAny (model prog w) A (.compStart (.ListComp elt [⟨tg1,it1,HW,0⟩,⟨tg2,it2,HL,0⟩] scope pos) 1 itv acc env) (fun r N=>r=.ok .next/\∃m,m<n/\I m N) J) NoX Z) NoX l
      else ∃m,m<n/\I m l) NoX Y) NoX y) NoX u) NoX s) (n:Nat) (h:I n s) :
  codeAny (model prog w) A (.compLoop (.ListComp elt [⟨tg1,it1,HW,0⟩,⟨tg2,it2,HL,0⟩] scope pos) 0 it acc env) R s:=by
 refine nG rfl I (fun n s hI=>?_) n h
 show wpAny _ A ((compTurn (.ListComp elt [⟨tg1,it1,HW,0⟩,⟨tg2,it2,HL,0⟩] scope pos) 0 it acc env).onRaise (fun x=>do noteFrame x env;theTreesLotGoes x)) _ _ s
 refine oG (c8 (E:=NoX) ?_ (fun _ _ q=>q) fun _ _ z=>cB z)
 rw[zhC];refine ae (dN (ae (thn (turn n s hI) fun r u G=>?_)))
 cases r with
 | none=>exact aj G
 | some v =>
  refine ae (thn G fun _ y h₂=>ae (thn h₂ fun _ Y h₃=>ae (thn h₃ fun ok l U=>?_)))
  cases ok with
  | false=>exact aj ⟨rfl,U⟩
  | true =>
   refine ae (thn U fun x Z h₅=>ae (dN (ae (wpAny_of_eq (hs x) (ae (cn (thn h₅ fun itv J h₆=>?_)))))))
   refine ae (wpAny_runOwn (gV h₆ fun r N h₇=>?_))
   obtain⟨rfl,m,hm,hI'⟩:=h₇;exact aj ⟨rfl,m,hm,hI'⟩
theorem zmZ
  (h0:codeAny (model prog w) A (.compLoop (.ListComp elt [⟨tg1,it1,HW,0⟩,⟨tg2,it2,HL,0⟩] scope pos) 1 it acc env) R s)
  (h:wpAny (model prog w) A (pyIter it) (fun l s'=>codeAny (model prog w) A (.compLoop (.ListComp elt [⟨tg1,it1,HW,0⟩,⟨tg2,it2,HL,0⟩] scope pos) 1 l acc env) R s')
   (notedBy (model prog w) A env fun x s'=>R (.error x) s') s) :
  codeAny (model prog w) A (.compStart (.ListComp elt [⟨tg1,it1,HW,0⟩,⟨tg2,it2,HL,0⟩] scope pos) 1 it acc env) R s:=by
 refine codeAny_of_tree ?_;show wpAny _ _ ((compStart (.ListComp elt [⟨tg1,it1,HW,0⟩,⟨tg2,it2,HL,0⟩] scope pos) 1 it acc env).onRaise (fun x=>do noteFrame x env;standAt theWindowsPlace)) _ _ s
 refine wpAny_notedAt ?_;unfold compStart;show wpAny _ _ (PySem.ask >>= _) _ _ s
 refine ae (wpAny_askSetting (wpAny_ite ?_));split
 ·first
   | exact ae (aj (aj (mn rfl h0)))
   | exact aj (mn rfl h0)
 ·first
   | exact ae (dq (ae (dN (ae (c8 h (fun l s' h'=>aj (mn rfl h')) fun _ _ x=>x)))))
   | (refine ae (dq ?_);show wpAny _ _ (standAt it2.pos >>= _) _ _ s;exact ae (dN (ae (c8 h (fun l s' h'=>aj (mn rfl h')) fun _ _ x=>x))))
end
def Y7(g:TG)(tt:TT)(U:TE)(σ:St)(J:It)(Y:Hp)(D:ak)(Q:Hp->Prop):Prop:=∃W:Nat->Nat->Hp->Prop,(∃m,W 0 m Y)/\∀i m y,W i m y ->
 (J.stop i y/\Q y)\/(J.go i y/\∃(N:V->Hp->Prop) (R:Hp->Prop),(∀v I,N v I->∃ys,I D=some (.lst ys)/\ys.length<sizeLine/\∃G,G<m/\W (i+1) G (upd I D (.lst (ys++[v]))))/\(∀C,R C->∃G,G<m/\W (i+1) G C) /\
  ∀x L,J.yld i y x L->g x σ L fun u S=>Wk σ u/\tt u S fun b C=>if b=true then U u C N else R C)
section
variable{Y:Cx}{elt tg1 it1 tg2 it2:aX}{HW HL:List aX}{scope:fv}{pos:Pos}{g:TG}{tt:TT}{te:TE}
theorem zlP(u:Y.xe=NoX)(hc:Y.calm=true)(hg:PG Y tg2 g)(ht:PTs Y HL tt)(he:PE Y elt te){pins:qO}{σ:St}{D:ak}{I:ah}{s:aq}{Q:Hp->Prop}{R:n8->aq->Prop}
  (h:PIE Y pins σ tg2 (fun J H1=>Y7 g tt te σ J H1 D Q) I s) (hR:∀s' U,Inv Y pins σ U s'->Q U->R (.ok .next) s') :
  codeAny (model Y.prog Y.w) Y.A (.compStart (.ListComp elt [⟨tg1,it1,HW,0⟩,⟨tg2,it2,HL,0⟩] scope pos) 1 I (.ref D) Y.env) R s:=by
 obtain⟨it,fp,tn,J,H2,e,I2,T,G,f2,W,⟨m0,w0⟩,turn⟩:=h;subst e;have loop:codeAny (model Y.prog Y.w) Y.A (.compLoop (.ListComp elt [⟨tg1,it1,HW,0⟩,⟨tg2,it2,HL,0⟩] scope pos) 1 (.ref it) (.ref D) Y.env) R s:=by
  refine zmV (CompI Y pins σ fp tn W) ?_ m0 ⟨0,_,I2,G,fun b Z=>(f2 b Z).1,w0⟩
  rintro n s4 ⟨i,H4,I4,st4,fr4,w4⟩;refine zfC u hc hg ht T (fun hn b Z=>⟨hn b Z,(f2 b Z).2⟩) I4 st4 fr4 ?_
  rcases turn i n H4 w4 with⟨stop,qn⟩|⟨go,N,N',hN,hN',step⟩
  ·exact .inl ⟨stop,fun s5 I5=>hR _ _ I5 qn⟩
  ·refine .inr ⟨go,fun σ4 H5=>te σ4 H5 N,N',fun {p6 σ7 H8 s8} I8 q8 again=>?_,hN',step⟩
   have a3:=he _ s8 σ7 H8 N I8 q8;rw[u]at a3;refine thn a3 fun y s9 ⟨v,H9,I9,r9,q9⟩=>?_
   obtain⟨ys,hD,hl,m',hm,w9⟩:=hN v H9 q9;have a4:=zes (X:=Y) _ s9 σ7 H9 (.ref D) [v] _ [y] (fun _ U=>U=upd H9 D (.lst (ys++[v]))) I9 rfl (.cons r9 .nil) ⟨_,ys,v,rfl,rfl,hD,hl,rfl⟩
   rw[u]at a4;refine thn a4 fun _ s10 ⟨_,H10,I10,_,q10⟩=>?_
   subst q10;exact again I10 hm w9
 exact zmZ loop (T.self Y.A 0 _ _ _ G loop)
end
def zmA(own:List Str)(capt:List Nat)(g:TG)(tt:TT)(I:TI)(g2:TG)(L:TT)(Y:TE)(σ:St)(J:It)(H1:Hp)(D:ak)(Q:VK):Prop:=∃W:Nat->Nat->Hp->Prop,(∃m,W 0 m (upd H1 D (.lst [])))/\∀i m v,W i m v ->
 (J.stop i v/\Q (.ref D) v)\/(J.go i v/\∃(N S:Hp->Prop),(∀G,N G->∃C,C<m/\W (i+1) C G)/\(∀y,S y->∃C,C<m/\W (i+1) C y) /\
  ∀x R,J.yld i v x R->g x (Jw own++capS capt σ) R fun u U=>Wk (Jw own++capS capt σ) u/\tt u U fun b y=>if b=true then I u y (fun Z G=>Y7 g2 L Y u Z G D N) else S y)
def zq4(own:List Str)(capt:List Nat)(x:TI)(g:TG)(tt:TT)(l:TI)(g2:TG)(u:TT)(y:TE):TE:=fun σ H Q=>x σ H fun J v=>∀D,v D=none->zmA own capt g tt l g2 u y σ J v D Q
section
variable{X:Cx}{scope:fv}{own:List Str}{capt:List Nat}{elt tg iter tg2 it2:aX}{ifs HL:List aX}{pos:Pos}{wi wi2:TI}{g g2:TG}{tt tt2:TT}{te:TE}
theorem zmj(hc:X.calm=true)(S:JG scope own capt X)
  (hg:∀C s₀ H₀ v,PG (Jf X scope own capt C s₀ H₀ v) tg g) (ht:∀C s₀ H₀ v,PTs (Jf X scope own capt C s₀ H₀ v) ifs tt) (hi2:∀C s₀ H₀ v,PI (Jf X scope own capt C s₀ H₀ v) tg2 it2 wi2)
  (hg2:∀C s₀ H₀ v,PG (Jf X scope own capt C s₀ H₀ v) tg2 g2) (ht2:∀C s₀ H₀ v,PTs (Jf X scope own capt C s₀ H₀ v) HL tt2) (he:∀C s₀ H₀ v,PE (Jf X scope own capt C s₀ H₀ v) elt te)
  (hs2:∀(C:ak) (x:ah),foldedSetIterable it2 (compEnvC scope (closed X.env scope.names []) C X.env) x=pure x)
  {pins:qO} {σ:St} {Q:VK} {R:ah} {s2:aq} {E:qV} {RR:ah->ak->n8->aq->Prop}
  (h2:PIE X pins σ tg (fun J H1=>∀D,H1 D=none->zmA own capt g tt wi2 g2 tt2 te σ J H1 D Q) R s2)
  (hR:∀D C s' U,(∃m,s'.heap.Ns C m)->(∀h'',eE C s'.heap h''->Inv X pins σ U { s' with heap:=h'' })->U C=none->FpOk X pins U C->Q (.ref D) U->RR (.ref D) C (.ok .next) s') :
  wpAny (model X.prog X.w) X.A (newList []) (fun I s₃=>wpAny (model X.prog X.w) X.A (newFunctionEnv scope X.env.globals (closed X.env scope.names []) [] X.env.qual none .none (some X.env)) (fun u G =>
   codeAny (model X.prog X.w) X.A (.compStart (.ListComp elt [⟨tg,iter,ifs,0⟩,⟨tg2,it2,HL,0⟩] scope pos) 0 R I { u with scope:=relabel scope X.env }) (RR I u.locals) G) E s₃) E s2:=by
 refine zhB (CA:=fun I u G=>codeAny (model X.prog X.w) X.A (.compStart (.ListComp elt [⟨tg,iter,ifs,0⟩,⟨tg2,it2,HL,0⟩] scope pos) 0 R I u) (RR I u.locals) G) S h2 fun it v tn J H2 D C Z e T rd hnD st1 fr0 J0 II out=>?_
 subst e;obtain⟨W,⟨m0,w0⟩,turn⟩:=rd _ hnD;have loop:∀tk:Tok,codeAny (model X.prog X.w) X.A (.compLoop (.ListComp elt [⟨tg,iter,ifs,0⟩,⟨tg2,it2,HL,0⟩] scope pos) 0 (.ref it) (.ref D) (compEnvC scope (closed X.env scope.names []) C X.env)) (RR (.ref D) C) { s2 with heap:=Z,toks:=tk }:=fun tk=>by
  refine zkn (hs2 _) (CompI (Jf X scope own capt C s2 H2 v) [] (Jw own++capS capt σ) v tn W) ?_ m0 ⟨0,_,J0 tk,st1,fr0,w0⟩;rintro n s4 ⟨i,H4,I4,st4,fr4,w4⟩;refine zfC (Y:=Jf X scope own capt C s2 H2 v) rfl hc (hg _ _ _ _) (ht _ _ _ _) T II I4 st4 fr4 ?_;rcases turn i n H4 w4 with⟨stop,qn⟩|⟨go,N,N',hN,hN',step⟩
  ·exact .inl ⟨stop,fun s5 I5=>let ⟨o1,o2,o3,o4⟩:=out s5 H4 I5;hR _ _ s5 H4 o1 o2 o3 o4 qn⟩
  ·refine .inr ⟨go,fun σ4 H5=>wi2 σ4 H5 (fun J2 H6=>Y7 g2 tt2 te σ4 J2 H6 D N),N',fun {p6 σ7 H8 s8} I8 q8 again=>?_,hN',step⟩
   refine thn (hi2 _ _ _ _ _ s8 σ7 H8 _ I8 q8) fun y s9 h9=>thn h9 fun itv2 s10 h10=>?_
   refine zlP (Y:=Jf X scope own capt C s2 H2 v) rfl hc (hg2 _ _ _ _) (ht2 _ _ _ _) (he _ _ _ _) h10 fun s' U I' q'=>⟨rfl,?_⟩
   obtain⟨m',hm,w9⟩:=hN U q';exact again I' hm w9
 exact k8 (loop _) (T.self X.A 0 _ _ _ st1 (loop _))
theorem zkR(hc:X.calm=true)(S:JG scope own capt X)(hi:PI X tg iter wi)
  (hg:∀C s₀ H₀ l,PG (Jf X scope own capt C s₀ H₀ l) tg g) (ht:∀C s₀ H₀ l,PTs (Jf X scope own capt C s₀ H₀ l) ifs tt) (N:∀C s₀ H₀ l,PI (Jf X scope own capt C s₀ H₀ l) tg2 it2 wi2)
  (y:∀C s₀ H₀ l,PG (Jf X scope own capt C s₀ H₀ l) tg2 g2) (u:∀C s₀ H₀ l,PTs (Jf X scope own capt C s₀ H₀ l) HL tt2) (Y:∀C s₀ H₀ l,PE (Jf X scope own capt C s₀ H₀ l) elt te)
  (hs:∀x,foldedSetIterable iter X.env x=pure x:=by intro _;rfl) (U:∀(C:ak) (x:ah),foldedSetIterable it2 (compEnvC scope (closed X.env scope.names []) C X.env) x=pure x:=by intro _ _;rfl) :
  PE X (.ListComp elt [⟨tg,iter,ifs,0⟩,⟨tg2,it2,HL,0⟩] scope pos) (zq4 own capt wi g tt wi2 g2 tt2 te):=by
 intro pins s σ H Q I h;rw[eval_ListComp];refine gA (use:=none) rfl hs (zbf (S.cells I.ok)) S.kind S.names (thn (hi pins s σ H _ I h) fun v s1 h1=>thn h1 fun itv s2 h2=>?_)
 refine zmj (RR:=fun G C=>compPost (model X.prog X.w) X.A X.xe none (EP X pins σ Q) G C) hc S hg ht N y u Y U h2 fun D C s' H' R J _ _ q=>?_
 obtain⟨m,R⟩:=R;exact⟨m,R,fun h'' Z=>⟨.ref D,H',J h'' Z,rfl,q⟩⟩
end
theorem zj7{J:It}{n:Nat}{g:TG}{tt:TT}{S:TE}{σ:St}{I:Hp}{D:ak}{Q:Hp->Prop}(C:Nat->List V->Hp->Prop)(h0:∃ys,I D=some (.lst ys)/\C 0 ys I)
  (turn:∀i ys u,i<n->u D=some (.lst ys)->C i ys u->J.go i u/\∀x R,J.yld i u x R->g x σ R fun y U=>Wk σ y/\tt y U fun b G =>
   if b=true then S y G (fun v L=>∃zs,L D=some (.lst zs)/\zs.length<sizeLine/\C (i+1) (zs++[v]) (upd L D (.lst (zs++[v])))) else ∃zs,G D=some (.lst zs)/\C (i+1) zs G)
  (stop:∀ys u,u D=some (.lst ys)->C n ys u->J.stop n u/\Q u):Y7 g tt S σ J I D Q:=by
 refine⟨fun i m H=>m=n - i/\i<=n/\∃ys,H D=some (.lst ys)/\C i ys H,⟨n,rfl,eU _,h0⟩,?_⟩
 rintro i m u ⟨rfl,hi,ys,N,p⟩
 by_cases hlt:i<n
 ·obtain⟨go,st⟩:=turn i ys u hlt N p;refine .inr ⟨go,_,_,?_,?_,st⟩
  ·rintro v L ⟨zs,e,l,q⟩;exact⟨zs,e,l,n - (i+1),by omega,rfl,hlt,_,JM,q⟩
  ·rintro G ⟨zs,e,q⟩;exact⟨n - (i+1),by omega,rfl,hlt,zs,e,q⟩
 ·have e:i=n:=by omega
  subst e;exact .inl (stop ys u N p)
theorem zkb{J:It}{n:Nat}{own:List Str}{capt:List Nat}{g g2:TG}{tt G:TT}{C:TI}{R:TE}{σ:St}{S:Hp}{D:ak}{Q:VK}(y:Nat->List V->Hp->Prop)(h0:y 0 [] (upd S D (.lst [])))
  (turn:∀i ys u,i<n->u D=some (.lst ys)->y i ys u->J.go i u/\∀x N,J.yld i u x N->g x (Jw own++capS capt σ) N fun v Z=>Wk (Jw own++capS capt σ) v/\tt v Z fun b I =>
   if b=true then C v I (fun J2 Y=>Y7 g2 G R v J2 Y D fun U=>∃zs,U D=some (.lst zs)/\y (i+1) zs U) else ∃zs,I D=some (.lst zs)/\y (i+1) zs I)
  (stop:∀ys u,u D=some (.lst ys)->y n ys u->J.stop n u/\Q (.ref D) u) :
  zmA own capt g tt C g2 G R σ J S D Q:=by
 refine⟨fun i m H=>m=n - i/\i<=n/\∃ys,H D=some (.lst ys)/\y i ys H,⟨n,rfl,eU _,[],JM,h0⟩,?_⟩
 rintro i m u ⟨rfl,hi,ys,L,p⟩
 by_cases hlt:i<n
 ·obtain⟨go,st⟩:=turn i ys u hlt L p;refine .inr ⟨go,_,_,?_,?_,st⟩
  ·rintro Y ⟨zs,e,q⟩;exact⟨n - (i+1),by omega,rfl,hlt,zs,e,q⟩
  ·rintro I ⟨zs,e,q⟩;exact⟨n - (i+1),by omega,rfl,hlt,zs,e,q⟩
 ·have e:i=n:=by omega
  subst e;exact .inl (stop ys u L p)
theorem DI.uni{N:Type}{Xf:N->Cx}{K:qF}(x:∀i,(Xf i).K=K){G e:aX}{d:DTA}(h:∀i,DI (Xf i) G e d):∃y:TI,(∀i,PI (Xf i) G e y)/\∀(C:Ctx) (l:En) (σ:St) (H:Hp) (n:Nat) (Q:It->Hp->Prop) (R:List af->Nat->Prop),Stt K C l σ H n->d l n R ->
  (∀ts v J u,R ts v->ExtE C.hd H u->Hn C.hd u v->ItOk K C.hd (fun a=>¬Own C l σ a) (Own C l σ) u J ts->Q J u)->y σ H Q:=by
 refine⟨fun σ H Q=>∀i,(ig (h i)) σ H Q,fun i pins s σ H R I hw=>(cL (h i)).1 pins s σ H R I (hw i),fun C l σ H n Q R S hd L i=>?_⟩
 have:=(cL (h i)).2 C l σ H n Q R;exact this (by rw[x i];exact S) hd fun t v J u r e h q=>L t v J u r e h (by rw[<- x i];exact q)
theorem Stt.onX{K:qF}{C:Ctx}{L:En}{σ:St}{H J:Hp}{n R:Nat}(S:Stt K C L σ H n)(k:∀a o,H a=some o->¬C.ext a->J a=some o)(Y:∀a,C.ext a->MutO (J a))(kr:∀a U,H a=some (.dK U)->C.ext a->C.hd≠some a->J a=some (.dK U))(hn:Hn C.hd J R):Stt K C L σ J R where
 len:=S.len
 val:=fun i d hi=>by
  obtain⟨v,y,x⟩:=S.val i d hi;exact⟨v,y,x.mono (fun _ _ _ z=>z) fun a o no h=>k a o h fun z=>no (.inl z)⟩
 own:=fun i ds hi=>by
  obtain⟨a,I,y,x,G,u⟩:=S.own i ds hi;exact⟨a,I,y,k a _ x u,G.mono (fun _ _ _ z=>z) (fun a o no h=>k a o h fun z=>no (.inl z)),u⟩
 dct:=fun i ds hi=>by
  obtain⟨a,I,y,x,G,u⟩:=S.dct i ds hi;exact⟨a,I,y,k a _ x u,G.mono (fun _ _ _ z=>z) (fun a o no h=>k a o h fun z=>no (.inl z)),u⟩
 rdo:=fun i ds hi=>by
  obtain⟨a,I,y,x,G,u,N⟩:=S.rdo i ds hi;exact⟨a,I,y,kr a _ x u N,G.mono (fun _ _ _ z=>z) (fun a o no h=>k a o h fun z=>no (.inl z)),u,N⟩
 dtt:=fun i ds hi=>by
  obtain⟨a,I,Z,y,x,G,u⟩:=S.dtt i ds hi;exact⟨a,I,Z,y,k a _ x u,G.mono (fun _ _ _ z=>z) (fun a o no h=>k a o h fun z=>no (.inl z)),u⟩
 dif:=S.dif
 hnd:=hn
 ext:=Y
 hx:=S.hx
def Uq(g:DTG)(tt:DTT)(l:DTA)(g2:DTG)(u:DTT)(G:DTE)(y:En):List af->List af->Nat->(List af->Nat->Prop)->Prop
 | [],acc,n,R=>R acc n
 | x::xs,acc,n,R=>g x y fun v=>tt v n fun b I=>if b=true then l v I fun ts L=>JN g2 u G v ts acc L fun C J=>Uq g tt l g2 u G y xs C J R else Uq g tt l g2 u G y xs acc I R
def zmd(m:Nat)(capt:List Nat)(y:DTA)(g:DTG)(tt:DTT)(l:DTA)(g2:DTG)(u:DTT)(C:DTE):DTA:=fun v n R=>y v n fun ts x=>Uq g tt l g2 u C (Jz m capt v) ts [] x R
section
variable{X:Cx}{scope:fv}{own:List Str}{capt:List Nat}{elt tg iter tg2 it2:aX}{ifs HL:List aX}{pos:Pos}{di di2:DTA}{is is2:List Nat}{g g2:DTG}{tt tt2:DTT}{te:DTE}
theorem zn5(hc:X.calm=true)(S:JG scope own capt X)(hi:DIL X tg iter di)
  (hg:∀C s₀ H₀ I,DG (Jf X scope own capt C s₀ H₀ I) tg is g) (hin:∀i∈is,i<own.length) (ht:∀C s₀ H₀ I,DTs (Jf X scope own capt C s₀ H₀ I) ifs tt)
  (hi2:∀C s₀ H₀ I,DI (Jf X scope own capt C s₀ H₀ I) tg2 it2 di2) (hg2:∀C s₀ H₀ I,DG (Jf X scope own capt C s₀ H₀ I) tg2 is2 g2) (hin2:∀i∈is2,i<own.length/\i∉is) (ht2:∀C s₀ H₀ I,DTs (Jf X scope own capt C s₀ H₀ I) HL tt2)
  (he:∀C s₀ H₀ I,DE (Jf X scope own capt C s₀ H₀ I) elt te)
  (hs:∀x,foldedSetIterable iter X.env x=pure x:=by intro _;rfl) (hs2:∀(C:ak) (x:ah),foldedSetIterable it2 (compEnvC scope (closed X.env scope.names []) C X.env) x=pure x:=by intro _ _;rfl) :
  DN X (.ListComp elt [⟨tg,iter,ifs,0⟩,⟨tg2,it2,HL,0⟩] scope pos) (zmd own.length capt di g tt di2 g2 tt2 te):=by
 obtain⟨wi,pi,hi⟩:=hi
 let Xf:(ak×aq×Hp×List ak)->Cx:=fun q=>Jf X scope own capt q.1 q.2.1 q.2.2.1 q.2.2.2
 have hK:∀q,(Xf q).K=X.K:=fun _=>rfl
 have hne:Nonempty (ak×aq×Hp×List ak):=⟨(0,X.s₀,X.H₀,[])⟩;obtain⟨gg,pg,hgg⟩:=DG.uni (Xf:=Xf) hK fun q=>hg q.1 q.2.1 q.2.2.1 q.2.2.2
 obtain⟨gt,pt,hgt⟩:=DTs.uni (Xf:=Xf) hK fun q=>ht q.1 q.2.1 q.2.2.1 q.2.2.2
 obtain⟨wi2,pi2,hwi2⟩:=DI.uni (Xf:=Xf) hK fun q=>hi2 q.1 q.2.1 q.2.2.1 q.2.2.2
 obtain⟨gg2,pg2,hgg2⟩:=DG.uni (Xf:=Xf) hK fun q=>hg2 q.1 q.2.1 q.2.2.1 q.2.2.2
 obtain⟨gt2,pt2,hgt2⟩:=DTs.uni (Xf:=Xf) hK fun q=>ht2 q.1 q.2.1 q.2.2.1 q.2.2.2
 obtain⟨ge,pe,hge⟩:=DE.uni (Xf:=Xf) hK fun q=>he q.1 q.2.1 q.2.2.1 q.2.2.2
 refine⟨_,zkR hc S pi (fun C s₀ H₀ I=>pg (C,s₀,H₀,I)) (fun C s₀ H₀ I=>pt (C,s₀,H₀,I)) (fun C s₀ H₀ I=>pi2 (C,s₀,H₀,I)) (fun C s₀ H₀ I=>pg2 (C,s₀,H₀,I)) (fun C s₀ H₀ I=>pt2 (C,s₀,H₀,I)) (fun C s₀ H₀ I=>pe (C,s₀,H₀,I)) hs hs2,fun C N σ H n Q R St hd hq=>?_⟩
 refine hi C N σ H n _ _ St hd fun ts n1 J H1 r e1 hn it=>fun D hD1=>?_
 have St1:=St.on e1 hn;have hD:H D=none:=VH e1 hn hD1;have nhd:C.hd≠some D:=fun z=>St.dom (.inl (St.hx D z)) hD
 refine zkb (n:=ts.length) (fun i ys H2=>∃U n2,Uq g tt di2 g2 tt2 te (Jz own.length capt N) (ts.drop i) U n2 R/\Reps X.K C.hd (fun a=>Own C N σ a\/a=D) H2 ys U/\ExtE C.hd H1 H2/\Hn C.hd H2 n2)
  ⟨[],n1,by simpa using r,.nil,ExtE.new hD1,hn.same (JQ hD1)⟩ ?_ ?_
 ·rintro i ys H2 hlt hy ⟨U,n2,c2,r2,e2,hn2⟩;have et:ts[i]?=some ts[i]:=au hlt;rw[bE hlt]at c2;have itq:=it (fun a=>Own C N σ a\/a=D) H2 (fun a o u nh=>e2 a o u nh) (fun a o u no z=>z.elim no fun z=>by subst z;rw[hD1]at u;cases u) (fun a z=>z.elim (fun z=>(St1.on e2 hn2).dom z) fun z=>by subst z;rw[hy];exact fun z=>by cases z)
  obtain⟨go,yl⟩:=itq.1 i _ et;refine⟨go,fun x H3 hyd=>?_⟩
  obtain⟨sm,rx⟩:=yl x H3 hyd;have hn3:=hn2.same sm;have e3:ExtE C.hd H1 H3:=e2.trans sm.ext;obtain⟨I3,no3⟩:=zjv (own:=own) (capt:=capt) (D:=D) (ys:=ys) St (e1.trans e3) hn3 hD (sm _ _ hy);have rx':Rep X.K C.hd (Own ⟨C.hd,fun a=>Own C N σ a\/a=D⟩ (Jz own.length capt N) (Jw own++capS capt σ)) H3 x ts[i]:=rx.mono (fun a o _ z=>z.elim id fun z=>absurd z (no3 a)) fun _ _ _ z=>z
  refine hgg ⟨C.hd,fun a=>Own C N σ a\/a=D⟩ (Jz own.length capt N) (Jw own++capS capt σ) H3 n2 x ts[i] _ _ I3 rx' c2 fun Y σ4 r4 S4 k4 hj hl=>⟨Wk.of hl.symm fun j v ej=>zof hin hj ej,?_⟩
  ·refine hgt _ Y σ4 H3 n2 _ _ S4 r4 fun b n5 H5 r5 e5 hn5=>?_
   have S5:=S4.on e5 hn5;have hy5:H5 D=some (.lst ys):=e5 D _ (sm _ _ hy) nhd;have r25:∀{H6},ExtE C.hd H2 H6->Reps X.K C.hd (fun a=>Own C N σ a\/a=D) H6 ys U:=fun e=>r2.mono (fun _ _ _ z=>z) fun a o no u=>e a o u fun z=>no (.inl (.inl (St.hx a z)))
   cases b with
   | false =>
    refine iteF ⟨ys,hy5,U,n5,by simpa using r5,r25 ((Same.ext sm).trans e5),e3.trans e5,hn5⟩
   | true =>
    refine iteT (hwi2 ⟨C.hd,fun a=>Own C N σ a\/a=D⟩ Y σ4 H5 n5 _ _ S5 (by simpa using r5) fun us n6 J2 H6 r6 e6 hn6 it6=>?_)
    have S6:=S5.on e6 hn6;have hy6:H6 D=some (.lst ys):=e6 D _ hy5 nhd;refine zj7 (n:=us.length) (fun k zs H7=>∃G n7,JN g2 tt2 te Y (us.drop k) G n7 (fun G n4=>Uq g tt di2 g2 tt2 te (Jz own.length capt N) (ts.drop (i+1)) G n4 R)/\Reps X.K C.hd (fun a=>Own C N σ a\/a=D) H7 zs G/\ExtE C.hd H1 H7/\Hn C.hd H7 n7/\∀a o,H6 a=some o->¬(Own C N σ a\/a=D)->H7 a=some o)
     ⟨ys,hy6,U,n6,by simpa using r6,r25 ((Same.ext sm).trans (e5.trans e6)),e3.trans (e5.trans e6),hn6,fun _ _ h _=>h⟩ ?_ ?_
    ·rintro k zs H7 hk hz ⟨G,n7,c7,r7,e7,hn7,k7⟩;have et2:us[k]?=some us[k]:=au hk;rw[bE hk]at c7;have S7:Stt X.K ⟨C.hd,fun a=>Own C N σ a\/a=D⟩ Y σ4 H7 n7:=S6.onX k7 (fun a z=>z.elim (fun z=>(St1.on e7 hn7).lst z) fun z=>by subst z;exact .inl ⟨_,hz⟩) (fun a ks u z nh=>z.elim (fun z=>by
      have Z:ExtE C.hd H1 H6:=e3.trans (e5.trans e6);rcases St1.lst z with⟨xs,q⟩|⟨xs,q⟩|⟨b,xs,ep,q⟩
      ·rw[Z a _ q nh]at u;cases u
      ·rw[Z a _ q nh]at u;cases u;exact e7 a _ q nh
      ·rw[Z a _ q nh]at u;cases u) (fun z=>by subst z;rw[hy6]at u;cases u)) hn7
     have Kq:=it6 (Own ⟨C.hd,fun a=>Own C N σ a\/a=D⟩ Y σ4) H7 (fun a o u no=>k7 a o u fun z=>no (.inl z)) (fun a o u no=>no) (fun a z=>S7.dom z)
     obtain⟨go2,yl2⟩:=Kq.1 k _ et2;refine⟨go2,fun y H8 hyd2=>?_⟩
     obtain⟨sm8,ry⟩:=yl2 y H8 hyd2;have hn8:=hn7.same sm8;have S8:=S7.on (Same.ext sm8) hn8;refine hgg2 _ Y σ4 H8 n7 y us[k] _ _ S8 ry c7 fun ρ9 σ9 r9 S9 k9 hj9 hl9=>⟨Wk.of hl9.symm fun j v ej=>?_,?_⟩
     ·by_cases hjo:j∈is2
      ·exfalso;obtain⟨lo,nis⟩:=hin2 j hjo;rw[hj j nis,bT (by simpa using lo),bg]at ej
       cases z:own[j]? with
       | none=>rw[z]at ej;cases ej
       | some q=>rw[z]at ej;cases ej
      ·rw[hj9 j hjo];exact ej
     ·refine hgt2 _ ρ9 σ9 H8 n7 _ _ S9 r9 fun b n10 H10 r10 e10 hn10=>?_
      have S10:=S9.on e10 hn10;have KB:H10 D=some (.lst zs):=e10 D _ (sm8 _ _ hz) nhd;have Kr:∀{H'},ExtE C.hd H7 H'->Reps X.K C.hd (fun a=>Own C N σ a\/a=D) H' zs G:=fun e=>r7.mono (fun _ _ _ z=>z) fun a o no u=>e a o u fun z=>no (.inl (.inl (St.hx a z)))
      have kk:∀{H'},ExtE C.hd H7 H'->∀a o,H6 a=some o->¬(Own C N σ a\/a=D)->H' a=some o:=fun e a o u no=>e a o (k7 a o u no) fun z=>no (.inl (.inl (St.hx a z)))
      cases b with
      | false=>exact iteF ⟨zs,KB,G,n10,by simpa using r10,Kr ((Same.ext sm8).trans e10),e7.trans ((Same.ext sm8).trans e10),hn10,kk ((Same.ext sm8).trans e10)⟩
      | true =>
       refine iteT (hge _ ρ9 σ9 H10 n10 _ _ S10 (by simpa using r10) fun t n11 v H11 r11 e11 hn11 q11=>?_)
       have hz11:H11 D=some (.lst zs):=e11 D _ KB nhd;have Kj:ExtE C.hd H7 H11:=(Same.ext sm8).trans (e10.trans e11);have rl:=(Kr Kj).length;refine⟨zs,hz11,by rw[rl];exact r11.1,G++[t],n11,r11.2,?_,?_,?_,?_⟩
       ·have q11':Rep X.K C.hd (fun a=>Own C N σ a\/a=D) H11 v t:=q11.mono (fun _ _ _ z=>.inl z) fun _ _ _ z=>z
        have all:=(Kr Kj).append (Reps.cons q11' .nil);exact all.mono (fun _ _ _ z=>z) fun a o no u=>by rw[Jn (show a≠D from fun z=>no (.inr z))];exact u
       ·exact ExtE.updR hD1 (e7.trans Kj)
       ·exact Hn.updR nhd hn11
       ·exact fun a o u no=>by
         rw[Jn (show a≠D from fun z=>no (.inr z))]
         exact kk Kj a o u no
    ·rintro zs H7 hz ⟨G,n7,c7,r7,e7,hn7,k7⟩;rw[ic]at c7;have S7:Stt X.K ⟨C.hd,fun a=>Own C N σ a\/a=D⟩ Y σ4 H7 n7:=S6.onX k7 (fun a z=>z.elim (fun z=>(St1.on e7 hn7).lst z) fun z=>by subst z;exact .inl ⟨_,hz⟩) (fun a ks u z nh=>z.elim (fun z=>by
      have Z:ExtE C.hd H1 H6:=e3.trans (e5.trans e6);rcases St1.lst z with⟨xs,q⟩|⟨xs,q⟩|⟨b,xs,ep,q⟩
      ·rw[Z a _ q nh]at u;cases u
      ·rw[Z a _ q nh]at u;cases u;exact e7 a _ q nh
      ·rw[Z a _ q nh]at u;cases u) (fun z=>by subst z;rw[hy6]at u;cases u)) hn7
     have Kq:=it6 (Own ⟨C.hd,fun a=>Own C N σ a\/a=D⟩ Y σ4) H7 (fun a o u no=>k7 a o u fun z=>no (.inl z)) (fun a o u no=>no) (fun a z=>S7.dom z)
     exact⟨Kq.2,zs,hz,G,n7,c7,r7,e7,hn7⟩
 ·rintro ys H2 hy ⟨U,n2,c2,r2,e2,hn2⟩;rw[ic]at c2;have itq:=it (fun a=>Own C N σ a\/a=D) H2 (fun a o u nh=>e2 a o u nh) (fun a o u no z=>z.elim no fun z=>by subst z;rw[hD1]at u;cases u) (fun a z=>z.elim (fun z=>(St1.on e2 hn2).dom z) fun z=>by subst z;rw[hy];exact fun z=>by cases z)
  exact⟨itq.2,hq U n2 D ys H2 c2 (e1.trans e2) hn2 hD hy r2⟩
end
section
variable{ρ ρ0:En}{n m:Nat}{di di2:DTA}{g g2:DTG}{tt tt2:DTT}{te:DTE}{capt:List Nat}{Rl:List af->Nat->Prop}
instance zvw [h:CompN m capt ρ ρ0]:Stp (zmd m capt di g tt di2 g2 tt2 te ρ n Rl) (di ρ n fun ts n1=>Uq g tt di2 g2 tt2 te ρ0 ts [] n1 Rl):=⟨fun k=>by unfold zmd;rw[h.e];exact k⟩
end
abbrev Run:=Int×Int
def NR(rs:List Run):Prop:=(∀r∈rs,r.1<r.2)/\rs.Pairwise fun a b=>a.2<b.1
def mR(x:Int)(rs:List Run):Prop:=∃r∈rs,r.1<=x/\x<r.2
def mB(x:Int)(bs:qB):Prop:=∃b∈bs,b.1<=x/\x<eB b
theorem JY{x:Int}{r:Run}{rs:List Run}:mR x (r::rs)↔(r.1<=x/\x<r.2)\/mR x rs:=by
 unfold mR;constructor
 ·rintro⟨s,u,h⟩;rcases aA.mp u with rfl|u
  ·exact .inl h
  ·exact .inr ⟨s,u,h⟩
 ·rintro(h|⟨s,u,h⟩)
  ·exact⟨r,by simp,h⟩
  ·exact⟨s,by simp[u],h⟩
theorem Qp{x:Int}:¬mR x []:=fun⟨_,h,_⟩=>nomatch h
theorem Q7{x:Int}{rs ss:List Run}:mR x (rs++ss)↔mR x rs\/mR x ss:=by
 unfold mR;constructor
 ·rintro⟨s,u,h⟩;rcases aw.mp u with u|u
  ·exact .inl ⟨s,u,h⟩
  ·exact .inr ⟨s,u,h⟩
 ·rintro(⟨s,u,h⟩|⟨s,u,h⟩)
  ·exact⟨s,by simp[u],h⟩
  ·exact⟨s,by simp[u],h⟩
theorem zpJ{x:Int}{b:Int×Int}{bs:qB}:mB x (b::bs)↔(b.1<=x/\x<eB b)\/mB x bs:=by
 unfold mB;constructor
 ·rintro⟨s,u,h⟩;rcases aA.mp u with rfl|u
  ·exact .inl h
  ·exact .inr ⟨s,u,h⟩
 ·rintro(h|⟨s,u,h⟩)
  ·exact⟨b,by simp,h⟩
  ·exact⟨s,by simp[u],h⟩
theorem zoy{x:Int}:¬mB x []:=fun⟨_,h,_⟩=>nomatch h
theorem zsp{x:Int}{bs cs:qB}:mB x (bs++cs)↔mB x bs\/mB x cs:=by
 unfold mB;constructor
 ·rintro⟨s,u,h⟩;rcases aw.mp u with u|u
  ·exact .inl ⟨s,u,h⟩
  ·exact .inr ⟨s,u,h⟩
 ·rintro(⟨s,u,h⟩|⟨s,u,h⟩)
  ·exact⟨s,by simp[u],h⟩
  ·exact⟨s,by simp[u],h⟩
theorem zpI{x:Int}{bs cs:qB}(h:bs.Perm cs):mB x bs↔mB x cs:=by
 unfold mB;constructor
 ·rintro⟨s,l,q⟩;exact⟨s,h.mem_iff.mp l,q⟩
 ·rintro⟨s,l,q⟩;exact⟨s,h.mem_iff.mpr l,q⟩
theorem NR.tail{r:Run}{rs:List Run}(h:NR (r::rs)):NR rs:=⟨fun s l=>h.1 s (by simp[l]),(gL.mp h.2).2⟩
theorem NR.ahead{r:Run}{rs:List Run}(h:NR (r::rs)){x:Int}(hx:mR x rs):r.2<x:=by
 obtain⟨s,l,v,u⟩:=hx;have:=(gL.mp h.2).1 s l;lia
theorem NR.uniq:∀{rs ss:List Run},NR rs->NR ss->(∀x,mR x rs↔mR x ss)->rs=ss
 | [],[],_,_,_=>rfl
 | [],s::ss,_,h,e=>by
  exfalso;have:=h.1 s (by simp)
  exact Qp ((e s.1).mpr (JY.mpr (.inl ⟨bQ _,this⟩)))
 | r::rs,[],h,_,e=>by
  exfalso;have:=h.1 r (by simp)
  exact Qp ((e r.1).mp (JY.mpr (.inl ⟨bQ _,this⟩)))
 | r::rs,s::ss,hr,hs,e=>by
  have v:=hr.1 r (by simp)
  have s1:=hs.1 s (by simp)
  have a:∀x,mR x (r::rs)->r.1<=x:=fun x hx=>by
   rcases JY.mp hx with z|z
   ·exact z.1
   ·have:=hr.ahead z;lia
  have b:∀x,mR x (s::ss)->s.1<=x:=fun x hx=>by
   rcases JY.mp hx with z|z
   ·exact z.1
   ·have:=hs.ahead z;lia
  have C:r.1=s.1:=by
   have:=b r.1 ((e r.1).mp (JY.mpr (.inl ⟨bQ _,v⟩)));have:=a s.1 ((e s.1).mpr (JY.mpr (.inl ⟨bQ _,s1⟩)));lia
  have nr:¬mR r.2 (r::rs):=fun z=>by
   rcases JY.mp z with y|y
   ·lia
   ·have:=hr.ahead y;lia
  have ns:¬mR s.2 (s::ss):=fun z=>by
   rcases JY.mp z with y|y
   ·lia
   ·have:=hs.ahead y;lia
  have G:r.2=s.2:=by
   rcases hG r.2 s.2 with z|z|z
   ·exact absurd ((e r.2).mpr (JY.mpr (.inl ⟨by lia,z⟩))) nr
   ·exact z
   ·exact absurd ((e s.2).mp (JY.mpr (.inl ⟨by lia,z⟩))) ns
  have u:r=s:=iF C G;subst u;rw[NR.uniq hr.tail hs.tail fun x=>?_]
  have ex:=e x;rw[JY,JY]at ex;constructor
  ·intro z;have:=hr.ahead z;rcases ex.mp (ou z) with y|y
   ·lia
   ·exact y
  ·intro z;have:=hs.ahead z;rcases ex.mpr (ou z) with y|y
   ·lia
   ·exact y
def QP(lo hi:Int)(h:Nat):Prop:=lo % 2 ^ h=0/\(2:Int) ^ h<=hi - lo/\¬(lo % 2 ^ (h+1)=0/\(2:Int) ^ (h+1)<=hi - lo)
theorem zfm{a b:Nat}(h:a<=b):((2:Int) ^ a)∣2 ^ b:=⟨2 ^ (b - a),by rw[<- fV];congr 1;lia⟩
theorem Uv{a b:Nat}(h:a<=b):(2:Int) ^ a<=2 ^ b:=by
 obtain⟨c,e⟩:=zfm h;have pa:=Bd.Qm a;have l:=Bd.Qm b;have pc:0<c:=by
  rcases hG c 0 with z|z|z
  ·have:=kh pa z;lia
  ·subst z;lia
  ·exact z
 rw[e];have:=Int.mul_le_mul_of_nonneg_left (show(1:Int)<=c by lia) (show(0:Int)<=2 ^ a by lia)
 lia
theorem ZU{lo:Int}{a b:Nat}(h:a<=b)(e:lo % 2 ^ b=0):lo % 2 ^ a=0:=by
 have d:((2:Int) ^ b)∣lo:=dZ e;exact gS (Int.dvd_trans (zfm h) d)
theorem QP.uniq{lo hi:Int}{h g:Nat}(a:QP lo hi h)(b:QP lo hi g):h=g:=by
 rcases eX h g with z|z|z
 ·exfalso;exact a.2.2 ⟨ZU (show h+1<=g by lia) b.1,dE (Uv (show h+1<=g by lia)) b.2.1⟩
 ·exact z
 ·exfalso;exact b.2.2 ⟨ZU (show g+1<=h by lia) a.1,dE (Uv (show g+1<=h by lia)) a.2.1⟩
def JE:Int->Int->List (Int×Int)->Prop
 | lo,hi,[]=>lo=hi
 | lo,hi,b::r=>lo<hi/\b.1=lo/\0<=b.2/\QP lo hi b.2.toNat/\JE (lo+2 ^ b.2.toNat) hi r
theorem JE.le:∀{bs:qB}{lo hi:Int},JE lo hi bs->lo<=hi
 | [],_,_,h=>by have:_=_:=h;lia
 | b::r,lo,hi,h=>by have:=h.1;lia
theorem JE.uniq:∀{bs cs:qB}{lo hi:Int},JE lo hi bs->JE lo hi cs->bs=cs
 | [],[],_,_,_,_=>rfl
 | [],c::cs,lo,hi,h,k=>by have:lo=hi:=h;have:=k.1;lia
 | b::bs,[],lo,hi,h,k=>by have:lo=hi:=k;have:=h.1;lia
 | b::bs,c::cs,lo,hi,h,k=>by
  obtain⟨I,G,C,x,v⟩:=h;obtain⟨k1,k2,k3,l,k5⟩:=k;have e:=x.uniq l;have y:b.2=c.2:=by lia
  have u:b=c:=iF (by lia) y
  subst u;rw[JE.uniq v k5]
theorem JE.blk{bits:Int}(J:0<=bits):∀{bs:qB}{lo hi:Int},JE lo hi bs->0<=lo->hi<=2 ^ bits.toNat->Bks bits bs
 | [],_,_,_,_,_=>fun b y=>nomatch y
 | b::r,lo,hi,h,l0,l1=>by
  obtain⟨L,G,I,u,v⟩:=h;have p:=Bd.Qm b.2.toNat;have l:=JE.le v;have C:=JE.blk J v (by lia) l1
  intro c hc;rcases aA.mp hc with rfl|hc
  ·have y:c.2.toNat<=bits.toNat:=by
    rcases cg bits.toNat c.2.toNat with z|z
    ·exfalso;have:=Uv (show bits.toNat+1<=c.2.toNat by lia)
     have p2:=Bd.Qm bits.toNat;rw[dz]at this;have:=u.2.1;lia
    ·exact z
   obtain⟨k,x⟩:=dZ u.1;have k0:0<=k:=by
    rcases Int.lt_or_le k 0 with z|z
    ·have:=kh p z;lia
    ·exact z
   refine⟨I,by lia,k,k0,by rw[G,x,eF],?_⟩
   have e:(2:Int) ^ bits.toNat=2 ^ (bits - c.2).toNat*2 ^ c.2.toNat:=by rw[<- fV];congr 1;lia
   have up:k*2 ^ c.2.toNat<2 ^ (bits - c.2).toNat*2 ^ c.2.toNat:=by
    rw[<- e,eF,<- x];lia
   exact Int.lt_of_mul_lt_mul_right up (by lia)
  ·exact C c hc
theorem zgr:∀{bs:qB}{lo hi:Int}{k:Nat},JE lo hi bs->lo % 2 ^ k=0->hi - lo<2 ^ k->bs.length<=k
 | [],_,_,_,_,_,_=>eU _
 | b::r,lo,hi,k,h,d,l=>by
  obtain⟨C,y,x,u,v⟩:=h;have G:b.2.toNat<k:=by
   rcases cg b.2.toNat k with z|z
   ·exact z
   ·have:=Uv z;have:=u.2.1;lia
  have up:¬(2:Int) ^ (b.2.toNat+1)<=hi - lo:=fun z=>u.2.2 ⟨ZU (show b.2.toNat+1<=k by lia) d,z⟩
  rw[dz]at up;have:=zgr (k:=b.2.toNat) v (by rw[t9,u.1];simp) (by lia)
  rw[aP];lia
theorem zgq{K:Nat}:∀{bs:qB}{lo hi:Int}{k:Nat},JE lo hi bs->lo % 2 ^ k=0->hi - lo<2 ^ K->k<=K->bs.length<=(K - k)+K
 | [],_,_,_,_,_,_,_=>eU _
 | b::r,lo,hi,k,h,d,l,hkK=>by
  obtain⟨I,C,L,u,v⟩:=h;have p:=Bd.Qm b.2.toNat;have G:b.2.toNat<K:=by
   rcases cg b.2.toNat K with z|z
   ·exact z
   ·have:=Uv z;have:=u.2.1;lia
  rw[aP]
  by_cases up:(2:Int) ^ (b.2.toNat+1)<=hi - lo
  ·have nd:¬lo % 2 ^ (b.2.toNat+1)=0:=fun z=>u.2.2 ⟨z,up⟩
   have J:k<=b.2.toNat:=by
    rcases cg b.2.toNat k with z|z
    ·exact absurd (ZU (show b.2.toNat+1<=k by lia) d) nd
    ·exact z
   have d':(lo+2 ^ b.2.toNat) % 2 ^ (b.2.toNat+1)=0:=by
    obtain⟨q,eq⟩:=dZ u.1;have y:(2:Int) ^ (b.2.toNat+1)=2 ^ b.2.toNat*2:=dz _ _;rw[y]at nd ⊢;have odd:q % 2=1:=by
     rcases Int.emod_two_eq q with z|z
     ·exfalso;obtain⟨t,x⟩:=dZ z;apply nd;apply gS;exact⟨t,by rw[eq,x,fK]⟩
     ·exact z
    apply gS;refine⟨(q+1) / 2,?_⟩;have:q+1=2*((q+1) / 2):=by lia
    rw[eq,fK,<- this,Int.mul_add,oE]
   have:=zgq (K:=K) (k:=b.2.toNat+1) v d' (by lia) (by lia)
   lia
  ·rw[dz]at up;have:=zgr (k:=b.2.toNat) v (by rw[t9,u.1];simp) (by lia)
   lia
theorem JE.len{bs:qB}{lo hi:Int}(h:JE lo hi bs)(u:0<=lo)(l:hi<=2 ^ 64):bs.length<=130:=by
 have:=zgq (K:=65) (k:=0) h (by simp) (by have e:(2:Int) ^ 65=2*2 ^ 64:=(by decide);lia) (by decide)
 lia
theorem zji{lo hi:Int}(h:lo<hi):∃g,QP lo hi g:=by
 have key:∀(d k:Nat),lo % 2 ^ k=0->(2:Int) ^ k<=hi - lo->(hi - lo).toNat<2 ^ (k+d)->∃g,QP lo hi g:=by
  intro d;induction d with
  | zero =>
   intro k _ b c;exfalso;have:((2 ^ k:Nat):Int)=(2:Int) ^ k:=by rw[fI];rfl
   rw[Nat.add_zero]at c;lia
  | succ d l =>
   intro k a b c
   by_cases z:lo % 2 ^ (k+1)=0/\(2:Int) ^ (k+1)<=hi - lo
   ·exact l (k+1) z.1 z.2 (by rw[show k+1+d=k+(d+1) by lia];exact c)
   ·exact⟨k,a,b,z⟩
 refine key (hi - lo).toNat 0 (by simp) (by simp;lia) ?_
 rw[dO];exact Nat.lt_two_pow_self
theorem zhV:∀(n:Nat) (lo hi:Int),(hi - lo).toNat<=n->lo<=hi->∃bs,JE lo hi bs:=by
 intro n;induction n with
 | zero =>
  intro lo hi h l;exact⟨[],by show lo=hi;lia⟩
 | succ n u =>
  intro lo hi h l
  by_cases z:lo<hi
  ·obtain⟨g,G⟩:=zji z;have p:=Bd.Qm g;have:=G.2.1;obtain⟨bs,B⟩:=u (lo+2 ^ g) hi (by lia) (by lia)
   exact⟨(lo,(g:Int))::bs,z,rfl,by show(0:Int)<=(g:Int);lia,by simpa using G,by simpa using B⟩
  ·exact⟨[],by show lo=hi;lia⟩
def PatS:List Run->List (Int×Int)->Prop
 | [],ps=>ps=[]
 | r::rs,ps=>∃a b,ps=a++b/\JE r.1 r.2 a/\PatS rs b
theorem PatS.uniq:∀{rs:List Run}{ps qs:qB},PatS rs ps->PatS rs qs->ps=qs
 | [],_,_,h,k=>by rw[show _=[] from h,show _=[] from k]
 | r::rs,_,_,h,k=>by
  obtain⟨a,b,rfl,u,l⟩:=h;obtain⟨c,d,rfl,k1,k2⟩:=k;rw[u.uniq k1,PatS.uniq l k2]
theorem PatS.len:∀{rs:List Run}{ps:qB},PatS rs ps->(∀r∈rs,0<=r.1/\r.2<=2 ^ 64)->ps.length<=130*rs.length
 | [],_,h,_=>by cases(show _=[] from h);simp
 | r::rs,_,h,w=>by
  obtain⟨a,b,rfl,v,u⟩:=h;have l:=w r (by simp)
  have:=v.len l.1 l.2;have:=PatS.len u fun s x=>w s (by simp[x])
  rw[aT,aP];lia
def CanP(S:Int->Prop)(ps:qB):Prop:=∃rs,NR rs/\(∀x,mR x rs↔S x)/\PatS rs ps
theorem CanP.uniq{S T:Int->Prop}{ps qs:qB}(h:CanP S ps)(k:CanP T qs)(e:∀x,S x↔T x):ps=qs:=by
 obtain⟨rs,v,u,l⟩:=h;obtain⟨ss,k1,k2,k3⟩:=k;have:rs=ss:=v.uniq k1 fun x=>by rw[u,k2,e]
 subst this;exact l.uniq k3
theorem CanP.nil{S:Int->Prop}(h:∀x,¬S x):CanP S []:=⟨[],⟨(fun r l=>nomatch l),fP⟩,(fun x=>⟨fun z=>absurd z Qp,fun z=>absurd z (h x)⟩),rfl⟩
section
variable{X:Cx}{a:aX}{da:DTE}{ρ:En}{n:Nat}{R:qN}
theorem zld:MtR X "int.bit_length" (fun x xs H Q=>∃i,x=.int i/\xs=[]/\Q (.int (fc i)) H):=by
 intro pins s σ H x xs v u Q I l rs h;obtain⟨i,rfl,rfl,q⟩:=h;obtain⟨t,rfl⟩:=l;cases rs;exact call_int_bit_length ⟨.int _,H,I.tok _,⟨_,rfl⟩,q⟩
def zme(d:DTE):DTE:=fun ρ n R=>d ρ n fun t l=>lInt t fun i=>R (.int (fc i)) l
theorem zhw{p2 x:Pos}(h:DL X a da)(I:attributeBase a "bit_length" X.env (eval a X.env)=eval a X.env:=by rfl) (y:(p2.endLine == x.line)=true:=by rfl):DE X (.Call (.Attribute a "bit_length" p2) [] [] x) (zme da):=by
 obtain⟨Z,pa,h⟩:=h;refine⟨_,zrZ PySem.F.plainAttrs_int slot_int_bit_length type_int_bit_length zld pa I y,fun C ρ σ H n Q R S hd G=>?_⟩
 refine h C ρ σ H n _ _ S hd fun t L v U r Y J N=>?_
 cases t with
 | int i =>
  rw[N.intI];exact⟨rfl,i,rfl,rfl,G _ L _ U r Y J (.int _)⟩
 | _=>exact r.elim
instance zuN:Stp (zme da ρ n R) (da ρ n fun t n1=>lInt t fun i=>R (.int (fc i)) n1):=⟨fun h=>h⟩
end
theorem zeB{i:Int}(h:0<i):(fc i:Int) - 1=(i.toNat.log2:Int):=by
 unfold fc;have:(i == 0)=false:=by simp;lia
 rw[this];have e:i.natAbs=i.toNat:=by lia
 rw[e];simp
theorem zlm{i:Int}(h:0<i):(2:Int) ^ i.toNat.log2<=i:=by
 have:=Nat.log2_self_le (n:=i.toNat) (by lia)
 have e:((2 ^ i.toNat.log2:Nat):Int)=(2:Int) ^ i.toNat.log2:=by rw[fI];rfl
 lia
theorem zli{i:Int}(h:0<i):i<(2:Int) ^ (i.toNat.log2+1):=by
 have:=Nat.lt_log2_self (n:=i.toNat);have e:((2 ^ (i.toNat.log2+1):Nat):Int)=(2:Int) ^ (i.toNat.log2+1):=by rw[fI];rfl
 lia
theorem zlo(t:Nat):∀x:Nat,x % 2 ^ t=0->¬x % 2 ^ (t+1)=0->x - (x &&& (x - 1))=2 ^ t:=by
 induction t with
 | zero =>
  intro x _ h;have G:x % 2=1:=by
   have:¬x % 2=0:=by simpa using h
   lia
  have e:x &&& (x - 1)=x - 1:=by
   apply mi;intro i;rw[lH];cases i with
   | zero =>
    have:(x - 1).testBit 0=false:=by rw[kQ];simp;lia
    rw[this,hU]
   | succ i =>
    have:x / 2=(x - 1) / 2:=by lia
    rw[gj,gj,this,Bool.and_self]
  rw[e];simp;lia
 | succ t u =>
  intro x l y;have ev:x % 2=0:=by
   have:2∣2 ^ (t+1):=⟨2 ^ t,by rw[lA,lz]⟩
   exact hV (Nat.dvd_trans this (hW l))
  have hx:x=2*(x / 2):=by lia
  have v:(x / 2) % 2 ^ t=0:=by
   obtain⟨q,e⟩:=hW l;apply hV;refine⟨q,?_⟩;rw[lA]at e;have:x=2*(2 ^ t*q):=by rw[e];rw[lz (2 ^ t) 2,sJ]
   lia
  have p2:¬(x / 2) % 2 ^ (t+1)=0:=fun z=>by
   obtain⟨q,e⟩:=hW z;apply y;apply hV;refine⟨q,?_⟩;rw[lA,lz (2 ^ (t+1)) 2,sJ,<- e];exact hx
  have:=u (x / 2) v p2;have e:x &&& (x - 1)=2*(x / 2 &&& (x / 2 - 1)):=by
   apply mi;intro i;rw[lH];cases i with
   | zero =>
    have a:x.testBit 0=false:=by rw[kQ];simp;lia
    rw[a,cC,kQ];simp
   | succ i =>
    have C:0<x / 2:=by
     rcases Nat.eq_zero_or_pos (x / 2) with z|z
     ·rw[z]at p2;simp at p2
     ·exact z
    have b:(x - 1) / 2=x / 2 - 1:=by lia
    rw[gj,gj,gj,b,Nat.mul_div_cancel_left _ (by decide:0<2),lH]
  rw[e,lA];have le:(x / 2 &&& (x / 2 - 1))<=x / 2:=o5;lia
theorem zqL{b:Int}(h:0<b){t:Nat}(v:b % 2 ^ t=0)(u:¬b % 2 ^ (t+1)=0):fT b (-b)=2 ^ t:=by
 have e:fT b (-b)=b - ((b.toNat &&& (b.toNat - 1):Nat):Int):=by
  have h0:decide (0<=b)=true:=decide_eq_true (by lia)
  have l:decide (0<=-b)=false:=decide_eq_false (by lia)
  show(match decide (0<=b),decide (0<=-b) with
   | true,true=>((b.toNat &&& (-b).toNat:Nat):Int)
   | true,false=>b - ((b.toNat &&& (fo (-b)).toNat:Nat):Int)
   | false,true=>(-b) - (((-b).toNat &&& (fo b).toNat:Nat):Int)
   | false,false=>fo (((fo b).toNat|||(fo (-b)).toNat:Nat):Int))=_
  rw[h0,l];have:(fo (-b)).toNat=b.toNat - 1:=by
   have:fo (-b)=b - 1:=by show -(-b) - 1=b - 1;lia
   rw[this];lia
  rw[this]
 have cast:∀k:Nat,b % (2:Int) ^ k=((b.toNat % 2 ^ k:Nat):Int):=fun k=>by
  rw[Int.natCast_emod,fI,Int.toNat_of_nonneg (by lia)];rfl
 rw[cast]at v u;have:=zlo t b.toNat (by lia) (by lia)
 have le:(b.toNat &&& (b.toNat - 1))<=b.toNat:=o5;rw[e];have x:((2 ^ t:Nat):Int)=(2:Int) ^ t:=by rw[fI];rfl
 lia
theorem zuQ{b:Int}(h:0<b):∃t:Nat,b % 2 ^ t=0/\¬b % 2 ^ (t+1)=0:=by
 obtain⟨g,G⟩:=zji (lo:=b) (hi:=b+b+1) (by lia)
 refine⟨g,G.1,fun z=>?_⟩
 have d:=dZ z;have:=Int.le_of_dvd h d;exact G.2.2 ⟨z,by lia⟩
theorem zjb{xs:qD}{x:af}:ixN (xs++[x]).length (-1)=some xs.length:=by
 unfold ixN;simp;lia
theorem zja{xs:qD}{x:af}{Q:af->Prop}(h:Q x):oIx (.list (xs++[x])) (.int (-1)) Q:=by
 have e:atI (xs++[x]) (-1)=some x:=by
  unfold atI;rw[zjb];simp
 rw[Yd e];exact h
end L2
namespace Bd
open PySem L2
def oD(os:List ((Int×Int)×Str)):List af:=os.map fun p=>.tuple [prD p.1,.str p.2]
theorem QX{os:List ((Int×Int)×Str)}:(oD os).length=os.length:=by simp[oD]
def Shr(bits:Int)(os:List ((Int×Int)×Str)):Prop:=Ptc bits (os.map (·.1))/\∀p∈os,IsNm p.2
def apB(a b:Int×Int):Prop:=eB a<=b.1\/eB b<=a.1
def okPr(p q:(Int×Int)×Str):Prop:=p.2=q.2\/apB p.1 q.1
def Agr(os l:List ((Int×Int)×Str)):Prop:=∀p∈os,∀q∈l,okPr p q
abbrev Deal:=Int×List ((Int×Int)×Str)×List ((Int×Int)×Str)
def dlD(d:Deal):af:=.tuple [.int d.1,.tuple (oD d.2.1),.tuple (oD d.2.2)]
def Dl(d:Deal):Prop:=1<=d.1/\d.1<=64/\Shr d.1 d.2.1/\Shr d.1 d.2.2/\Agr d.2.1 d.2.2
def nD(l:List Str):List af:=l.map .str
theorem zla{u:List Str}:(nD u).length=u.length:=by simp[nD]
end Bd
namespace L2
open PySem PySem.Spec PyProof.Rows
section
variable{X:Cx}{tg iter:aX}{d:DTE}
def iSeq(K:qF)(u:TE):TI:=fun σ H R=>u σ H fun x l=>∃a,x=.ref a/\(((∃xs,SqL K l a xs)/\R (Itl K a) l)\/((∃xs,SqT K l a xs)/\R (Itt K a) l))
theorem zrP{l:aX}{L:TE}(S:PE X l L):PI X tg l (iSeq X.K L):=by
 intro pins s σ H R I h;refine thn (S pins s σ H _ I h) fun v s1 ⟨x,N,u,Y,J⟩=>?_
 obtain⟨a,e,J⟩:=J;subst e;cases Y;rcases J with⟨⟨xs,C⟩,q⟩|⟨⟨xs,C⟩,q⟩
 ·obtain⟨y,Z,p,U⟩:=u.list C;refine gU p.isList ?_;refine⟨s1.heap.objs.size,[s1.heap.objs.size],_,_,N,rfl,u.kept (t':=s1.toks) fun b o e=>av _ e,zgj a _,⟨_,aI _ rfl,rfl,rfl⟩,fun b G=>?_,q⟩
  have e:b=s1.heap.objs.size:=by simpa using G
  subst e;exact u.fpOk (aC _) (u.hok.fresh (aC _))
 ·obtain⟨y,Z,p,U⟩:=u.tuple C;refine iX (show s1.heap.IsTuple a y.toArray from p) ?_
  refine⟨s1.heap.objs.size,[s1.heap.objs.size],_,_,N,rfl,u.kept (t':=s1.toks) fun b o e=>av _ e,zfd a _,⟨_,aI _ rfl,rfl,rfl⟩,fun b G=>?_,q⟩
  have e:b=s1.heap.objs.size:=by simpa using G
  subst e;exact u.fpOk (aC _) (u.hok.fresh (aC _))
def dItA(d:DTE):DTA:=fun u n R=>d u n fun t l=>JX t fun ts=>R ts l
theorem zoM(h:DE X iter d):DI X tg iter (dItA d):=by
 obtain⟨Y,pa,h⟩:=h;refine⟨_,zrP pa,fun C G σ H n Q R S hd y=>?_⟩
 refine h C G σ H n _ _ S hd fun t L v I r N J q=>?_
 cases t with
 | tuple ts =>
  obtain⟨p,x,rfl,u,it⟩:=zoA (P:=fun a=>¬Own C G σ a) (fun _ z=>z) q
  exact⟨p,rfl,.inr ⟨⟨x,u⟩,y ts L _ I r N J it⟩⟩
 | list ts =>
  obtain⟨p,x,rfl,u,no,U⟩:=q.lstI;exact⟨p,rfl,.inl ⟨⟨x,SqL.of u⟩,y ts L _ I r N J (VI u no (fun _ z=>z) U)⟩⟩
 | _=>exact r.elim
end
section
variable{ρ:En}{n:Nat}{d:DTE}{Rl:List af->Nat->Prop}
instance zwP:Stp (dItA d ρ n Rl) (d ρ n fun t n'=>JX t fun ts=>Rl ts n'):=⟨fun h=>h⟩
end
section
variable{Q:af->Prop}{s t:Str}{i j:Int}{b:Bool}{xs ys:qD}
theorem zk3:Okd .none:=znr.okd
instance zwD:Stp (oEq (.str s) .none Q) (Okd (.str s)/\Q (.bool false)):=⟨fun h=>⟨h.1,zk3,h.2⟩⟩
end
end L2
namespace Bd
open PySem L2
def zqN(nm:af):Prop:=nm=.none\/∃s,nm=.str s/\IsNm s
def who(s:Str):af->Bool
 | .str t=>decide (s=t)
 | _=>false
def ofName(os:List ((Int×Int)×Str))(nm:af):List (Int×Int):=(os.filter fun p=>who p.2 nm).map (·.1)
end Bd
namespace L2
open PySem Bd
theorem zso{u:List Run}{a:Nat}{p:Run}(e:u[a]?=some p)(x:Int):mR x (u.take (a+1))↔mR x (u.take a)\/(p.1<=x/\x<p.2):=by
 rw[dD,e,Q7];constructor
 ·rintro(z|⟨r,v,h⟩)
  ·exact .inl z
  ·cases az.mp v;exact .inr h
 ·rintro(z|z)
  ·exact .inl z
  ·exact .inr ⟨p,by simp,z⟩
theorem zi7{u:List Run}{a:Nat}{p:Run}(e:u[a]?=some p){x:Int}(h:mR x u):mR x (u.take a)\/(p.1<=x/\x<p.2)\/∃r∈u.drop (a+1),r.1<=x:=by
 obtain⟨r,C,v,y⟩:=h;obtain⟨i,hi,rfl⟩:=bL C;have G:=(ax.mp e).1;rcases eX i a with z|z|z
 ·exact .inl ⟨u[i],gn.mpr ⟨i,by omega,rfl⟩,v,y⟩
 ·subst z;rw[au hi]at e;cases e;exact .inr (.inl ⟨v,y⟩)
 ·refine .inr (.inr ⟨u[i],?_,v⟩);rw[ki];exact⟨i - (a+1),by omega,by congr 1;omega⟩
theorem NR.beyond{l:List Run}(n:NR l){a:Nat}{p:Run}(e:l[a]?=some p):∀r∈l.drop (a+1),p.2<r.1:=fun r v=>by
 obtain⟨i,hi,rfl⟩:=ki.mp v;have u:=(ax.mp e).1;have:=bp.mp n.2 a (a+1+i) u (by omega) (by omega)
 rw[au u]at e;cases e;exact this
structure ShI(as bs cs:List Run)(a b:Nat):Prop where
 nr:NR cs
 me:∀x,mR x cs↔mR x as/\mR x bs/\(mR x (as.take a)\/mR x (bs.take b))
 gp:∀c∈cs,∀r∈as.drop a,∀s∈bs.drop b,c.2<max r.1 s.1
 ln:cs.length<=a+b
def shr2(p q:Run):List Run:=if max p.1 q.1<min p.2 q.2 then[(max p.1 q.1,min p.2 q.2)] else[]
theorem zi6{p q:Run}{x:Int}:mR x (shr2 p q)↔(p.1<=x/\x<p.2)/\(q.1<=x/\x<q.2):=by
 unfold shr2;split
 ·constructor
  ·rintro⟨r,l,h⟩;cases az.mp l;dsimp only at h;omega
  ·intro h;exact⟨_,az.mpr rfl,by dsimp only;omega,by dsimp only;omega⟩
 ·exact⟨fun z=>absurd z Qp,fun z=>by omega⟩
theorem VC{p q:Run}:∀c∈shr2 p q,c.1=max p.1 q.1/\c.2=min p.2 q.2/\c.1<c.2:=by
 unfold shr2;split
 ·intro c hc;cases az.mp hc;exact⟨rfl,rfl,by assumption⟩
 ·intro c hc;cases hc
theorem ziP{p q:Run}:(shr2 p q).length<=1:=by unfold shr2;split <;> simp
variable{as bs cs:List Run}{a b:Nat}
theorem ShI.zero:ShI as bs [] 0 0:=⟨⟨fun r l=>(nomatch l),fP⟩,fun x=>⟨fun z=>absurd z Qp,fun z=>by
 rcases z.2.2 with y|y
 ·exact absurd y Qp
 ·exact absurd y Qp⟩,fun c hc=>(nomatch hc),aC _⟩
theorem V7{as:List Run}{a:Nat}{p:Run}(e:as[a]?=some p):p∈as.drop a/\∀r∈as.drop (a+1),r∈as.drop a:=by
 obtain⟨h,rfl⟩:=ax.mp e;have e:=bE h;exact⟨by rw[e];exact cm,fun r l=>by rw[e];exact bV _ l⟩
theorem ShI.nrx(h:ShI as bs cs a b){p q:Run}(u:as[a]?=some p)(eq:bs[b]?=some q):NR (cs++shr2 p q):=by
 refine⟨fun r v=>?_,?_⟩
 ·rcases aw.mp v with z|z
  ·exact h.nr.1 r z
  ·exact(VC r z).2.2
 ·rw[cF];refine⟨h.nr.2,?_,fun c hc d hd=>?_⟩
  ·unfold shr2;split
   ·exact de _ _
   ·exact .nil
  ·rw[(VC d hd).1];exact h.gp c hc p (V7 u).1 q (V7 eq).1
theorem ShI.stepA(h:ShI as bs cs a b)(nb:NR bs)(na:NR as){p q:Run}(C:as[a]?=some p)(eq:bs[b]?=some q)(lt:p.2<q.2):ShI as bs (cs++shr2 p q) (a+1) b:=by
 have pa:p∈as:=aN C;have J:q∈bs:=aN eq;refine⟨h.nrx C eq,fun x=>?_,fun c hc r I s G=>?_,by have:=h.ln;have:=ziP (p:=p) (q:=q);rw[aT];omega⟩
 ·rw[Q7,h.me,zi6,zso C];constructor
  ·rintro(⟨u,v,L⟩|⟨u,v⟩)
   ·exact⟨u,v,L.elim (fun y=>.inl (.inl y)) .inr⟩
   ·exact⟨⟨p,pa,u⟩,⟨q,J,v⟩,.inl (.inr u)⟩
  ·rintro⟨u,v,(z|z)|z⟩
   ·exact .inl ⟨u,v,.inl z⟩
   ·rcases zi7 eq v with y|y|⟨s,G,y⟩
    ·exact .inl ⟨u,v,.inr y⟩
    ·exact .inr ⟨z,y⟩
    ·have:=nb.beyond eq s G;omega
   ·exact .inl ⟨u,v,.inr z⟩
 ·rcases aw.mp hc with z|z
  ·exact h.gp c z r ((V7 C).2 r I) s G
  ·have:=na.beyond C r I;have:=VC c z;omega
theorem ShI.stepB(h:ShI as bs cs a b)(nb:NR bs)(na:NR as){p q:Run}(C:as[a]?=some p)(eq:bs[b]?=some q)(lt:¬p.2<q.2):ShI as bs (cs++shr2 p q) a (b+1):=by
 have pa:p∈as:=aN C;have I:q∈bs:=aN eq;refine⟨h.nrx C eq,fun x=>?_,fun c hc r J s G=>?_,by have:=h.ln;have:=ziP (p:=p) (q:=q);rw[aT];omega⟩
 ·rw[Q7,h.me,zi6,zso eq];constructor
  ·rintro(⟨u,v,L⟩|⟨u,v⟩)
   ·exact⟨u,v,L.elim .inl (fun y=>.inr (.inl y))⟩
   ·exact⟨⟨p,pa,u⟩,⟨q,I,v⟩,.inr (.inr v)⟩
  ·rintro⟨u,v,z|(z|z)⟩
   ·exact .inl ⟨u,v,.inl z⟩
   ·exact .inl ⟨u,v,.inr z⟩
   ·rcases zi7 C u with y|y|⟨s,G,y⟩
    ·exact .inl ⟨u,v,.inl y⟩
    ·exact .inr ⟨y,z⟩
    ·have:=na.beyond C s G;omega
 ·rcases aw.mp hc with z|z
  ·exact h.gp c z r J s ((V7 eq).2 s G)
  ·have:=nb.beyond eq s G;have:=VC c z;omega
theorem ShI.fin(h:ShI as bs cs a b)(e:as.length<=a\/bs.length<=b)(x:Int):mR x cs↔mR x as/\mR x bs:=by
 rw[h.me];refine⟨fun z=>⟨z.1,z.2.1⟩,fun z=>⟨z.1,z.2,?_⟩⟩
 rcases e with e|e
 ·exact .inl (by rw[ck e];exact z.1)
 ·exact .inr (by rw[ck e];exact z.2)
end L2
namespace L2
open PySem PySem.Spec PyProof.Rows
abbrev KT(H:Hp):List (List Key×V)->List (List Key×ak×ah)->Prop:=eL fun p q=>p.1=q.1/\H q.2.1=some (.tup (p.1.map kV))/\RelV p.2 q.2.2
def NoSl(i:aX):Prop:=∀u l,subscripted i false u l=operate [u,l] (getItem u l)
theorem zkp{prog:aK}{w:aW}{A:bq}{E:qV}{s:aq}{env:Env}{value slice:aX}{pos:Pos}{T id:String}{Q:qV}
  (R:typeLookup (.type T) "__getitem__" = pure (some (.builtin id))) (U:NoSl slice)
  (h:wpAny (model prog w) A (eval value env) (fun o I=>wpAny (model prog w) A (eval slice env) (fun i v=>v.TypeIs o T/\wpAny (model prog w) A (getItem o i) Q E v) E I) E s) :
  wpAny (model prog w) A (eval (.Subscript value slice pos) env) Q E s:=by
 refine pI (c8 h (fun o I J=>c8 J (fun i v C=>?_) fun _ _ x=>x) fun _ _ x=>x)
 obtain⟨N,C⟩:=C;unfold subscriptTail;refine ae ?_;rw[getitemInPython_of_ne N.not_modules];refine ae (o6 N R ?_);have fin:wpAny (model prog w) A (subscripted slice false o i) (fun r G=>wpAny (model prog w) A (letTemporaryGo value o r >>= fun _=>pure r) Q E G) E v:=by
  rw[U o i];exact wpAny_operating (c8 C (fun r G L=>ae (wpAny_letTemporaryGo (aj L))) fun _ _ x=>x)
 first
  | exact aj (ae fin)
  | exact ae (aj (ae fin))
  | exact ae fin
end L2
namespace L2
open PySem PySem.Spec PyProof PyProof.Rows
abbrev KD:=List (Key×af)
section
variable{D:JP}{ρ ρ':En}{n i j:Nat}{d dk dv:DTE}{R:qN}{ks:KD}
instance{ks:KD}:CapC (some (.dct ks)) (some (.rdo ks)):=⟨rfl⟩
instance{ks:KD}:CapC (some (.rdo ks)) (some (.rdo ks)):=⟨rfl⟩
end
theorem UT{bits:Int}(v:0<=bits){bs:qB}(B:Bks bits bs){x:Int}(h:mB x bs):0<=x/\x<2 ^ bits.toNat:=by
 obtain⟨b,y,C,l⟩:=h;have:=(B b y).bounds v;unfold eB at l;lia
theorem Y2{bits:Int}(v:0<=bits)(u:bits<=64){S:Int->Prop}{rs:qB}(nr:NR rs)(e:∀x,mR x rs↔S x)(w:∀x,S x->0<=x/\x<2 ^ bits.toNat):∀r∈rs,0<=r.1/\r.1<=r.2/\r.2<=2 ^ 64:=fun r l=>by
 have lt:=nr.1 r l;have a:=w r.1 ((e _).mp ⟨r,l,bQ _,lt⟩);have b:=w (r.2 - 1) ((e _).mp ⟨r,l,by lia,by lia⟩)
 have:=Bd.ZS (k:=bits.toNat) (by lia)
 lia
section
variable{X:Cx}
theorem zcC{α v:Type}{F:α->v->Prop}{l:List α}{u:List v}(r:eL F l u){b:v}(h:b∈u):∃a∈l,F a b:=by
 induction r with
 | nil=>cases h
 | cons f t y =>
  rcases aA.mp h with rfl|h
  ·exact⟨_,cm,f⟩
  ·obtain⟨b,x,g⟩:=y h;exact⟨b,bV _ x,g⟩
end
end L2
namespace Bd
open PySem L2
theorem zq_{s:Str}(h:bN (.str s)=true)(hc:∀c∈s.cps.toList,c<16 ^ 8):Sm s.cps.size 0 (.str s) :=
 ⟨by
  simp only[gG,bw,decide_eq_true_eq];exact hc,rfl,h,aC _,aC _⟩
theorem zu1{s:Str}(h:IsNm s):Sm 8 0 (.str s):=(zq_ (ZX h).1 fun c hc=>by have:=(h.2.2 c hc).2;lia).mono h.2.1 (aC _)
theorem zra{bits:Int}(y:0<=bits)(G:bits<=64){bs:qB}(B:Bks bits bs)(l:bs.length<=1300):Shd (.tuple (pD bs)):=by
 have h:=VV (w:=282) (k:=1) (xs:=pD bs) fun x hx=>by
  obtain⟨b,C,rfl⟩:=aS.mp hx;have v:=B b C;have bd:=v.bounds y;have p:=Qm b.2.toNat;have q:=ZS (k:=bits.toNat) (by lia)
  have e:(18446744073709551616:Nat)<10 ^ 40:=by decide
  have I:(2:Int) ^ 64=18446744073709551616:=by decide
  have:=v.1;have:=v.2.1;exact zkr (by lia) (by lia)
 exact h.shd (by rw[Jv];lia) (by decide)
end Bd
namespace Bd
open PySem L2
def Dq(K:qF)(mg:qM)(x:Str)(st:dG)(ps:List Str):Prop:=∃f fd,Def K mg x st ps f fd
def Fq(P:aK)(w:aW)(K:qF)(mg:qM)(base:aY)(x:Str)(st:dG)(ps:List Str)(k:Nat)(l:Sp):Prop:=∃f fd,Def K mg x st ps f fd/\FnOk P w K mg base CX0 k f fd ps l
end Bd
namespace L2
open PySem PySem.Spec PyProof.Rows
section
variable{X:Cx}{x:Str}{st:dG}{ps:List Str}{k n m:Nat}{g:GD}{e:aX}{es:List aX}{ds:DTA}{p pos:Pos}
theorem Je(F:Bd.Fq X.prog X.w X.K X.mg X.base x st ps k (spD X.K m g))(y:Room n X.A)(h:DB X (e::es) ds)(J:k<=n:=by decide)(v:(e::es).length=m:=by rfl)(I:Gl X x:=by rfl)
  (u:(x == ("__debug__":Str))=false:=by rfl):DE X (.Call (.Name x p) (e::es) [] pos) (dFn g ds):=by
 obtain⟨f,fd,D,G⟩:=F;exact zwn D G (y.mono J) h v I u
theorem ztZ(F:Bd.Fq X.prog X.w X.K X.mg X.base x st ps k (spD X.K m g))(y:Room n X.A)(h:DBL X (e::es) ds)(J:k<=n:=by decide)(v:(e::es).length=m:=by rfl)(I:Gl X x:=by rfl)
  (u:(x == ("__debug__":Str))=false:=by rfl):DE X (.Call (.Name x p) (e::es) [] pos) (dFnL g ds):=by
 obtain⟨f,fd,D,G⟩:=F;exact zt0 D G (y.mono J) h v I u
end
section
variable{X:Cx}{hx s kx x:Str}{st:dG}{ps:List Str}{k n:Nat}{p p1 p2 p3 pos pos':Pos}{sts:List dG}{u:DTS}
theorem zl3{i j:Nat}(F:Bd.Fq X.prog X.w X.K X.mg X.base hx st ps k (Vl X.K))(hr:Room n X.A)(hN:X.N.Nodup)(hi:X.N[i]?=some x)(R:Loc X.env.scope x)(hu:DSs X sts u)(hk:k<=n:=by decide)(U:i≠0:=by decide)(I:j≠0:=by decide)(y:j≠i:=by decide)
  (h0:X.N[0]?=some s:=by rfl) (hj:X.N[j]?=some kx:=by rfl) (L:Vis X.env.scope s:=by walk_at "V") (S:Vis X.env.scope kx:=by walk_at "V")
  (Y:(s == ("__debug__":Str))=false:=by rfl) (Z:(s == ("__classdict__":Str))=false:=by rfl) (v:(kx == ("__debug__":Str))=false:=by rfl) (Ko:(kx == ("__classdict__":Str))=false:=by rfl) (hg:Gl X hx:=by rfl) (J:(hx == ("__debug__":Str))=false:=by rfl)
  (hs:swapsWith (.Call (.Name hx p) [.Name s p1,.Name kx p2] [] p3) (some (.Name x pos')) pos.line X.env=pure false:=by rfl) (hf:X.fn x=true\/X.env.scope.names.lookup x=some .local:=by walk_at "F") :
  DSs X (.Assign [.Name x pos'] (.Call (.Name hx p) [.Name s p1,.Name kx p2] [] p3) pos::sts) (U8 i j u):=by
 obtain⟨f,fd,D,G⟩:=F;exact zn1 D G (hr.mono hk) hN hi R hu U I y h0 hj L S Y Z v Ko hg J hs hf
end
end L2
namespace Bd
open PySem L2
section
variable{K:qF}{h:aY}{mg:qM}{x:Str}{st:dG}{ps:List Str}
abbrev BndA(x:Str)(st:dG)(ps:List Str):Prop:=∀(kV doc pm:ah) (an:Option ak) (cdv ct:ah) (us:List ah),us.length=ps.length->bindArgs (dw x x (Qy st) (Qh st) (JF st) .none kV doc pm an cdv ct) ⟨us,[]⟩=pure (ps.zip us)
theorem lenS{l:List ah}{n:Nat}(h:l.length=n+1):∃a t,l=a::t/\t.length=n:=by
 cases l with
 | nil=>cases h
 | cons a t=>exact⟨a,t,rfl,ub h⟩
theorem len1{l:List ah}(h:l.length=1):∃a,l=[a]:=by
 obtain⟨a,t,rfl,e⟩:=lenS h;exact⟨a,by rw[List.eq_nil_of_length_eq_zero e]⟩
theorem len2{l:List ah}(h:l.length=2):∃a b,l=[a,b]:=by
 obtain⟨a,t,rfl,e⟩:=lenS h;obtain⟨b,rfl⟩:=len1 e;exact⟨a,b,rfl⟩
theorem len3{l:List ah}(h:l.length=3):∃a b c,l=[a,b,c]:=by
 obtain⟨a,t,rfl,e⟩:=lenS h;obtain⟨b,c,rfl⟩:=len2 e;exact⟨a,b,c,rfl⟩
theorem len4{l:List ah}(h:l.length=4):∃a b c d,l=[a,b,c,d]:=by
 obtain⟨a,t,rfl,e⟩:=lenS h;obtain⟨b,c,d,rfl⟩:=len3 e;exact⟨a,b,c,d,rfl⟩
end
end Bd
namespace L2
open PySem PySem.Spec PyProof PyProof.Rows
section
variable{prog:aK}{w:aW}{A:bq}{E:qV}{s:aq}
theorem zii{l:ak}{items:Array ah}{Q:List ah->aq->Prop}(I:m5 s.heap l items)(U:A.handled=none)(S:2<=items.size)(N:items.size<=sizeLine)
  (h:∀(h':aY) (tk:Nat),(∀b o,s.heap.get? b=some o->h'.get? b=some o)->Q (items.toList.take 2++[.ref h'.objs.size]) { s with heap:=h'.push { cls:=.type "list",data:=.seq (items.toList.drop 2).toArray },toks:=tk }) :
  wpAny (model prog w) A (unpackItems (.ref l) 3 (some 2)) Q E s:=by
 have G:l≠s.heap.objs.size:=by obtain⟨o,R,_⟩:=I;exact aL (aD R)
 unfold unpackItems;refine ae ?_;unfold notIterableAtAll;refine ae (o6 I.typeIs slot_tuple_iter.lookup (aj ?_));simp only[aJ,if_false];refine ae (cn (iter_tuple I ?_));refine ae (cn (draw_tuple G 2 0 _ _ ⟨_,aI _ rfl,rfl,rfl⟩ (I.push _) (by lia) fun v hit L=>?_))
 have C:m5 v l items:=(I.push _).extBut L.extBut G;have a1:∃o,v.get? s.heap.objs.size=some o:=by obtain⟨o,q,_⟩:=hit;exact⟨o,q⟩
 have a2:∃o,v.get? l=some o:=by obtain⟨o,q,_⟩:=C;exact⟨o,q⟩
 obtain⟨o1,a1⟩:=a1;obtain⟨o2,a2⟩:=a2;rw[kc];have fl:(items.toList.take 2).length=2:=by rw[eG,cU];lia
 rw[if_neg (show ¬((items.toList.take 2).length<2) by lia)]
 refine ae (cn (PySem.W.kun_collect (s:={ s with heap:=v }) (T:="tuple_iterator") (.inr (.inr (.inr rfl))) (Walks.tuple (A:=A.in1) U s.heap.objs.size l G items) (fun j u st=>st.1.typeIs) (k:=2) S ⟨hit,C⟩ (aD a1) (aD a2) (fun J tk Y=>?_) N))
 rw[if_neg (by lia)]
 show wpAny _ _ (newList ((items.toList.drop 2).take ((items.toList.drop 2).length - (3 - 1 - 2))) >>= fun d=>pure (items.toList.take 2++[d]++(items.toList.drop 2).drop ((items.toList.drop 2).length - (3 - 1 - 2)))) _ _ _
 have Z:(items.toList.drop 2).take ((items.toList.drop 2).length - (3 - 1 - 2))=items.toList.drop 2:=ck (by lia)
 have e2:(items.toList.drop 2).drop ((items.toList.drop 2).length - (3 - 1 - 2))=[]:=fD (by lia)
 rw[Z,e2];refine ae (iD (aj ?_) (by rw[fh,cU];lia))
 rw[bK];exact h J tk fun b o q=>Y b o (aL (aD q)) (L.extBut b o (aL (aD q)) (av _ q))
end
theorem zpj{xs:List V}{u:List ah}(r:Vals xs u):Vals (xs.drop 2) (u.drop 2):=by
 cases r with
 | nil=>exact .nil
 | cons _ r=>cases r with
  | nil=>exact .nil
  | cons _ r=>exact r
theorem zpi{xs:List V}{x:List ah}{v:V}{u:ah}(r:Vals xs x)(q:RelV v u):Vals (xs.take 2++[v]) (x.take 2++[u]):=by
 cases r with
 | nil=>exact .cons q .nil
 | cons a r=>cases r with
  | nil=>exact .cons a (.cons q .nil)
  | cons b r=>exact .cons a (.cons b (.cons q .nil))
section
variable{X:Cx}{a b c e:aX}{pos p3:Pos}{t:TGs}{te:TE}
def zwl(K:qF)(t:TGs):TG:=fun v σ H Q=>∃a xs,v=.ref a/\SqT K H a xs/\2<=xs.length/\∀p,H p=none->t (xs.take 2++[.ref p]) σ (upd H p (.lst (xs.drop 2))) Q
theorem zo_{k:Nat}(hc:X.calm=true)(h:PGs X [a,b,c] t)(Y:(assignEach [a,b,.Starred c p3] X.env).length=3:=by rfl)(G:(assignEach [a,b,.Starred c p3] X.env).findIdx? (·.1)=some 2:=by rfl)
  (U:(assignEach [a,b,.Starred c p3] X.env).map (·.2)=(assignEach [a,b,c] X.env).map (·.2):=by rfl):PG X (.Tuple [a,b,.Starred c p3] k pos) (zwl X.K t):=by
 intro pins s σ H v u Q I r hw;obtain⟨q,xs,rfl,N,hl,hw⟩:=hw;cases r;obtain⟨C,J,Z,hz⟩:=I.tuple N;have le:=J.length;rw[assign_Tuple];refine ae (dN ?_);unfold unpack;rw[Y,G,U];refine ae (cn (zii Z (I.ok.hd hc) (by rw[aG];lia) (by rw[aG];lia) fun h' tk kp=>?_))
 have L:Inv X pins σ H { s with heap:=h',toks:=tk }:=I.kept kp
 have R:Inv X pins σ (upd H h'.objs.size (.lst (xs.drop 2))) { s with heap:=h'.push { cls:=.type "list",data:=.seq (C.drop 2).toArray },toks:=tk }:=L.laid (t':=tk) (fun b o q=>av _ q) (aC _) ⟨by rw[fh];lia,C.drop 2,0,zpj J,aI _ rfl⟩
 exact h pins _ σ _ _ _ Q R (zpi J (show RelV (.ref h'.objs.size) (.ref h'.objs.size) from rfl)) (hw _ (L.hok.fresh (aC _)))
end
section
variable{X:Cx}{e:aX}{x y z:Str}{pos px py pz p3 pt:Pos}{d:DTE}
def Z3(t:af)(Q:af->af->List af->Prop):Prop:=match t with
 | .tuple (x::y::r)=>Q x y r
 | _=>False
def zrs(i j k:Nat)(d:DTE):DTS:=fun D G n=>d G n fun t I=>Z3 t fun x y r=>SetK i (some (.val x)) (fun u C=>SetK j (some (.val y)) (fun u C=>SetK k (some (.val (.list r))) D.nx u C) u C) G I
theorem zqk{i j k kt:Nat}(hc:X.calm=true)(J:X.N.Nodup)(hi:X.N[i]?=some x)(hj:X.N[j]?=some y)(hk:X.N[k]?=some z)(hx:Loc X.env.scope x)(hy:Loc X.env.scope y)(hz:Loc X.env.scope z)(h:DE X e d)
  (fx:X.fn x=true\/X.env.scope.names.lookup x=some .local:=by walk_at "F") (fy:X.fn y=true\/X.env.scope.names.lookup y=some .local:=by walk_at "F") (fz:X.fn z=true\/X.env.scope.names.lookup z=some .local:=by walk_at "F")
  (hs:swapsWithSole [.Tuple [.Name x px,.Name y py,.Starred (.Name z pz) p3] kt pt] e pos.line X.env=pure false:=by rfl) (hw:swappedStores [.Tuple [.Name x px,.Name y py,.Starred (.Name z pz) p3] kt pt] e X.env=pure none:=by rfl) :
  DS X (.Assign [.Tuple [.Name x px,.Name y py,.Starred (.Name z pz) p3] kt pt] e pos) (zrs i j k d):=by
 obtain⟨ta,pa,h⟩:=h;refine⟨_,Zk pa (zo_ hc (VS (VA J hi hx fx) (VS (VA J hj hy fy) (VS (VA J hk hz fz) zkP)))) hs hw,fun C R σ H n D D' S hd g=>?_⟩
 refine h C R σ H n _ _ S hd fun t n' v Z r e1 U q=>?_
 unfold Z3 at r;split at r
 ·rename_i u w us;obtain⟨p,vs,rfl,h1,L⟩:=q.tupI;cases L with
  | cons ru L =>
   cases L with
   | @cons v2 d2 vr ds2 rw rs =>
    refine⟨p,_,rfl,h1,by simp,fun q I=>?_⟩
    have G:ExtE C.hd Z (upd Z q (.lst vr)):=ExtE.new I;have Y:=S.on e1 U;have S2:=Y.on G (U.same (JQ I));have r3:Rep X.K C.hd (Own C R σ) _ (.ref q) (.list us):=.lst JM (Y.free I) (G.reps S.hx rs);have T1:=S2.put (i:=i) (G.rep S.hx ru);have T2:=T1.put (i:=j) (Keep.rep Qw S.hx (G.rep S.hx rw));have T3:=T2.put (i:=k) (Keep.rep (Qw.trans Qw) S.hx r3);exact⟨_,_,rfl,_,_,rfl,_,_,rfl,rfl,g.nx _ _ _ n' r T3 ((e1.keep.trans G.keep).trans ((Qw.trans Qw).trans Qw))⟩
 ·exact r.elim
end
def StD(P:aK)(w:aW)(K:qF)(mg:qM)(x:Str)(y:List (Str×List Str)):Prop :=
 ∃(a:ak) (o:Obj) (l:Array dI) (C:Nat) (v:List (Str×ah)),mg x=some (.ref a)/\(a == sysModules)=false/\K.lookup a=some o/\o.ExactDict/\o.data=.dict l C/\KeysOf (strKind P w) l/\Pairs (strKind P w) l.toList v/\(v.map (·.1)).Nodup /\
  eL (fun(p:Str×List Str) (q:Str×ah)=>p.1=q.1/\∃b,q.2=.ref b/\StT K b (p.2.map V.str)) y v
def getT(l:List (Str×List Str))(z:Str):Option (List Str):=(l.find? fun u=>decide (u.1=z)).map (·.2)
theorem znW{K:qF}{l:List (Str×List Str)}{v:List (Str×ah)}(r:eL (fun(p:Str×List Str) (q:Str×ah)=>p.1=q.1/\∃b,q.2=.ref b/\StT K b (p.2.map V.str)) l v)(z:Str) :
  (valueAt v z).isSome=(getT l z).isSome/\∀u,getT l z=some u->∃b,valueAt v z=some (.ref b)/\StT K b (u.map V.str):=by
 induction r with
 | nil=>exact⟨rfl,fun u h=>by cases h⟩
 | @cons p q ps qs h t ih =>
  obtain⟨x,b,C,y⟩:=h
  by_cases e:q.1=z
  ·have a1:valueAt (q::qs) z=some q.2:=by simp[valueAt,fJ,e]
   have a2:getT (p::ps) z=some p.2:=by simp[getT,fJ,x.trans e]
   rw[a1,a2];exact⟨rfl,fun u I=>by cases I;exact⟨b,by rw[C],y⟩⟩
  ·have a1:valueAt (q::qs) z=valueAt qs z:=by simp[valueAt,fJ,e]
   have a2:getT (p::ps) z=getT ps z:=by simp[getT,fJ,show ¬p.1=z from fun G=>e (x.symm.trans G)]
   rw[a1,a2];exact ih
section
variable{X:Cx}{e:aX}{x:Str}{pos p1:Pos}{d:DTE}{te:TE}{kvs:List (Str×List Str)}
theorem StD.at(h:StD X.prog X.w X.K X.mg x kvs):∃(a:ak) (l:List (Str×ah)),X.mg x=some (.ref a)/\(a == sysModules)=false/\(∀{pins σ H s},Inv X pins σ H s->s.heap.DictOf (strKind X.prog X.w) a l) /\
  ∀z,(valueAt l z).isSome=(getT kvs z).isSome/\∀u,getT kvs z=some u->∃b,valueAt l z=some (.ref b)/\StT X.K b (u.map V.str):=by
 obtain⟨a,o,Y,v,l,J,C,R,y,G,U,N,L,Z⟩:=h;exact⟨a,l,J,C,fun I=>⟨o,Y,v,I.kIn a o R,y,G,U,N,L⟩,znW Z⟩
def zuU(kvs:List (Str×List Str))(te:TE):TE:=fun σ H Q=>te σ H fun y u=>∃z,y=.str z/\Q (.bl (!(getT kvs z).isSome)) u
theorem zpk(h:StD X.prog X.w X.K X.mg x kvs)(L:Gl X x)(v:PE X e te)(hd:(x == ("__debug__":Str))=false:=by rfl):PC X .NotIn e (.Name x p1) (zuU kvs te):=by
 obtain⟨a,vs,R,G,S,C⟩:=h.at;intro pins s σ H Q I hw;refine thn (v pins s σ H _ I hw) fun J s1 ⟨y,Y,u,U,z,Z,q⟩=>U1 u L R ?_ hd
 subst Z;obtain⟨t,rfl⟩:∃t,J=iT z t:=U;refine wpAny_notIn_of (knd:=strKind X.prog X.w) (k:=z) (by show df z (.str z t)=true;simp[df]) G (S u).mapOf ?_
 rw[(C z).1];exact⟨.bl _,Y,u.tok _,rfl,q⟩
def zuV(kvs:List (Str×List Str))(K:qF)(te:TE):TE:=fun σ H Q=>te σ H fun y u=>∃z l,y=.str z/\getT kvs z=some l/\∀b,StT K b (l.map V.str)->Q (.ref b) u
theorem zpb(h:StD X.prog X.w X.K X.mg x kvs)(J:Gl X x)(C:PE X e te)(hs:NoSl e)(hd:(x == ("__debug__":Str))=false:=by rfl):PE X (.Subscript (.Name x p1) e pos) (zuV kvs X.K te):=by
 obtain⟨a,vs,R,h2,v,G⟩:=h.at;intro pins s σ H Q I hw;refine zkp kj.lookup hs (U1 I J R (thn (C pins s σ H _ I hw) fun L s1 ⟨y,Y,l,U,z,ks,Z,g,q⟩=>?_) hd)
 subst Z;obtain⟨t,rfl⟩:∃t,L=iT z t:=U;obtain⟨b,g1,g2⟩:=(G z).2 ks g;refine⟨(v l).typeIs,ow (knd:=strKind X.prog X.w) (k:=z) (by show df z (.str z t)=true;simp[df]) (v l).mapOf g1 ⟨.ref b,Y,l.tok _,rfl,q b g2⟩⟩
def zt3(kvs:List (Str×List Str))(d:DTE):DTE:=fun v n R=>d v n fun y u=>lStr y fun z=>R (.bool (!(getT kvs z).isSome)) u
theorem zqj(h:StD X.prog X.w X.K X.mg x kvs)(u:DE X e d)(L:Gl X x:=by rfl)(hd:(x == ("__debug__":Str))=false:=by rfl) (U:behindInMarks .NotIn (.Name x p1)=false:=by rfl):DT X (.Compare e [.NotIn] [.Name x p1] pos) (QY (zt3 kvs d)):=by
 obtain⟨ta,pa,u⟩:=u;refine⟨_,zrF (zpk h L pa hd) U,fun C J σ H n Q R S hd G=>?_⟩
 refine u C J σ H n _ _ S hd fun y Y v Z r e1 l q=>?_
 cases y with
 | str z=>exact⟨z,q.strI,_,rfl,G _ Y Z r e1 l⟩
 | _=>exact r.elim
def dGGet(kvs:List (Str×List Str))(d:DTE):DTE:=fun G n R=>d G n fun y C=>lStr y fun z=>∃v,getT kvs z=some v/\R (.tuple (v.map gM)) C
theorem ziR{K:qF}{hd:Option ak}{O:ak->Prop}{H:Hp}:∀u:List Str,Reps K hd O H (u.map V.str) (u.map gM)
 | []=>.nil
 | k::u=>.cons (.str k) (ziR u)
theorem zqr(h:StD X.prog X.w X.K X.mg x kvs)(G:DE X e d)(U:Gl X x:=by rfl)(hd:(x == ("__debug__":Str))=false:=by rfl) (hs:NoSl e:=by intro _ _;rfl):DE X (.Subscript (.Name x p1) e pos) (dGGet kvs d):=by
 obtain⟨ta,pa,G⟩:=G;refine⟨_,zpb h U pa hs hd,fun C L σ H n Q R S hd J=>?_⟩
 refine G C L σ H n _ _ S hd fun y Z v H1 r e1 l q=>?_
 cases y with
 | str z =>
  obtain⟨I,g,r⟩:=r;exact⟨z,I,q.strI,g,fun b Y=>J _ Z _ H1 r e1 l (.tupS Y (ziR I))⟩
 | _=>exact r.elim
end
section
variable{i j k:Nat}{ρ:En}{n:Nat}{D:JP}{d:DTE}{x y:af}{r:qD}{R:qN}{kvs:List (Str×List Str)}
instance zwp:Stp (zrs i j k d D ρ n) (d ρ n fun t n'=>Z3 t fun x y r=>SetK i (some (.val x)) (fun ρ1 n1=>SetK j (some (.val y)) (fun ρ1 n1=>SetK k (some (.val (.list r))) D.nx ρ1 n1) ρ1 n1) ρ n'):=⟨fun h=>h⟩
instance zu3 {Q:af->af->List af->Prop}:Stp (Z3 (.tuple (x::y::r)) Q) (Q x y r):=⟨fun h=>h⟩
instance zwB:Stp (zt3 kvs d ρ n R) (d ρ n fun y n1=>lStr y fun z=>R (.bool (!(getT kvs z).isSome)) n1):=⟨fun h=>h⟩
instance zwC:Stp (dGGet kvs d ρ n R) (d ρ n fun y n1=>lStr y fun z=>∃ks,getT kvs z=some ks/\R (.tuple (ks.map gM)) n1):=⟨fun h=>h⟩
end
def PtE(w:aW)(K:qF)(e:dI)(p:Str×List Str):Prop:=e.hash=hashStr w p.1/\(∃t,e.key=.str p.1 t)/\∃b,e.val=.ref b/\StT K b (p.2.map V.str)
theorem zrD{P:aK}{w:aW}{K:qF}{x:List dI}{u:List (Str×List Str)}(r:eL (PtE w K) x u):∃v,Pairs (strKind P w) x v/\v.map (·.1)=u.map (·.1)/\(∀e∈x,∃k,(strKind P w).is k e.key=true/\e.hash=(strKind P w).hash k) /\
  eL (fun(p:Str×List Str) (q:Str×ah)=>p.1=q.1/\∃b,q.2=.ref b/\StT K b (p.2.map V.str)) u v:=by
 induction r with
 | nil=>exact⟨[],.nil,rfl,(fun e h=>nomatch h),.nil⟩
 | @cons e p x ps h t ih =>
  obtain⟨v,a1,a2,N,R⟩:=ih;obtain⟨L,⟨t,J⟩,b,S,I⟩:=h;have C:(strKind P w).is p.1 e.key=true:=by rw[J];show df p.1 (.str p.1 t)=true;simp[df]
  refine⟨(p.1,e.val)::v,.cons C rfl a1,by simp[a2],fun G y=>?_,.cons ⟨rfl,b,S,I⟩ R⟩
  rcases aA.mp y with rfl|y
  ·exact⟨p.1,C,L⟩
  ·exact N G y
theorem zq8{P:aK}{w:aW}{K:qF}{mg:qM}{x:Str}{l:List (Str×List Str)}{a:ak}{v:Array dI}{C:Nat}(R:mg x=some (.ref a))(S:(a == sysModules)=false)(G:K.lookup a=some ⟨.type "dict",none,.dict v C,#[]⟩)
  (r:eL (PtE w K) v.toList l) (nd:(l.map (·.1)).Nodup):StD P w K mg x l:=by
 obtain⟨U,a1,a2,J,L⟩:=zrD (P:=P) r;exact⟨a,_,v,C,U,R,S,G,⟨rfl,rfl,rfl⟩,rfl,fun e I=>J e (by simpa using I),a1,by rw[a2];exact nd,L⟩
section
variable{prog:aK}{w:aW}{A:bq}{E:qV}{s:aq}
theorem PrIn.tk{h:aY}{p:ak}{b k:Int}(x:PrIn h (.ref p) b k):IsTupleKey (Zy prog w) h [.inl b,.inl k] p:=by
 obtain⟨a,o,t,t',n,u,v,C,y⟩:=x;cases u;exact⟨o,_,n,v,C,y,.cons (zha b t) (.cons (zha k t') .nil)⟩
theorem zqi{p q:ak}{b k l u:Int}(v:A.units<cLine)(x:PrIn s.heap (.ref p) b k)(y:PrIn s.heap (.ref q) l u):mT A s (.ref p) (.ref q) (decide (b=l/\k=u)):=fun prog w E Q h=>by
 refine wpAny_eqBool_tuple (knd:=Zy prog w) v x.tk y.tk ?_;have:decide (([iz b,iz k]:List Key)=[iz l,iz u])=decide (b=l/\k=u):=by
  rw[decide_eq_decide];constructor
  ·intro z;cases z;exact⟨rfl,rfl⟩
  ·rintro⟨rfl,rfl⟩;rfl
 rw[this];exact h
theorem zpK{p q:ak}{b k v C:Int}(J:A.units<cLine)(x:PrIn s.heap (.ref p) b k)(y:PrIn s.heap (.ref q) v C):LtAt prog w A s false (.ref p) (.ref q) (HT.lexLt [b,k] [v,C]):=fun E Q h=>by
 obtain⟨a,o,t,t',n,N,S,Y,G⟩:=x;obtain⟨a',U,u,Z,R,f0,f1,f2,I⟩:=y;cases N;cases f0;rw[tv];simp only[aJ,if_false];refine ae (show wpAny (model prog w) A (compareOp .Lt (.ref p) (.ref q)) _ E s from HT.zfn ⟨o,S,Y,n,G⟩ ⟨U,f1,f2,R,I⟩ (.cons _ _ (.cons _ _ .nil)) (.cons _ _ (.cons _ _ .nil)) J ?_)
 exact bW h
theorem zpL{a b c d:Int}:HT.lexLt [a,b] [c,d]=decide (a<c\/(a=c/\b<d)):=by
 have e:HT.lexLt [a,b] [c,d]=if a=c then(if b=d then false else decide (b<d)) else decide (a<c):=rfl
 rw[e];split
 ·rename_i h;subst h;split
  ·symm;rw[decide_eq_false_iff_not];lia
  ·rw[decide_eq_decide];lia
 ·rw[decide_eq_decide];lia
end
theorem zm_{α:Type}{P:α->ah->Prop}{rk:ah->Int}{f:α->Int}{u:List ah}{J:List α}{y:bP}(hv:eL P J u)(hr:∀a v,P a v->rk v=f a)(pm:(arrOf y).Perm (pairsOf u))(up:Up rk (arrOf y) u.length) :
  ∃bs:List α,bs.Perm J/\bs.Pairwise (fun a b=>f a<=f b)/\eL P bs ((arrOf y).map (·.2)).toList:=by
 have C:(arrOf y).toList.Perm (u.zip u):=by
  have:=cQ.mp pm;simpa[pairsOf] using this
 have hl:J.length=u.length:=mJ hv;have each:∀x∈J.zip u,P x.1 x.2:=by
  clear pm up C hl;induction hv with
  | nil=>intro x hx;simp at hx
  | cons h t R =>
   intro x hx;rcases aA.mp (by simpa using hx) with rfl|hx
   ·exact h
   ·exact R x hx
 have N:((arrOf y).toList.map (·.2)).Perm ((J.zip u).map (·.2)):=by
  refine(C.map _).trans ?_;rw[eJ (aC _),eJ (by lia)]
 obtain⟨G,S,p2⟩:=VR N;have U:∀x∈G,P x.1 x.2:=fun x hx=>each x (S.mem_iff.mp hx)
 have IU:∀z∈(arrOf y).toList,z.1=z.2:=fun z hz=>by
  have:z∈u.zip u:=C.mem_iff.mp hz;obtain⟨i,hi,rfl⟩:=bL this;simp
 have Z:(arrOf y).size=u.length:=by
  have:=C.length_eq;simpa using this
 refine⟨G.map (·.1),?_,?_,?_⟩
 ·have:=S.map (·.1)
  rwa [ir (by lia)]at this
 ·rw[dY,bp];intro i j hi hj Y;have lw:G.length=u.length:=by
   have:=congrArg dQ p2;simpa[Z] using this
  have gw:∀k (hk:k<G.length),rkAt rk (arrOf y) k=f G[k].1:=fun k hk=>by
   have I:k<(arrOf y).size:=by lia
   have e1:(arrOf y).toList[k]'(by simpa using I)=(arrOf y)[k]:=by simp
   have e2:G[k].2=(arrOf y)[k].2:=by
    have:(G.map (·.2))[k]'(by simpa using hk)=((arrOf y).toList.map (·.2))[k]'(by simpa using I):=by simp only[p2]
    simpa using this
   have e3:(arrOf y)[k].1=(arrOf y)[k].2:=IU _ (by rw[<- e1];exact dM _)
   unfold rkAt;rw[bU I];simp only[gF,fi];rw[e3,<- e2];exact hr _ _ (U _ (dM _))
  have:=up i j Y (by lia)
  rwa [gw i hi,gw j hj]at this
 ·rw[oj,<- p2];clear S p2 N pm up;induction G with
  | nil=>exact .nil
  | cons a l R=>exact .cons (U a (.head _)) (R fun x hx=>U x (.tail _ hx))
section
variable{prog:aK}{w:aW}{A:bq}{E:qV}{s:aq}{rk:ah->Int}
theorem zh8{h:aY}{u:List ah}{b:ak}{o:Obj}(v:h.get? b=some o):(midH (h.push (seqObj "list" u.toArray 0)) h.objs.size u).get? b=some o:=by
 have l:b<h.objs.size:=aD v;unfold midH;rw[cE _ _ _ (by rw[eh,cJ,eh];lia),cE _ _ _ (by rw[cJ,eh];lia),gq _ _ _ _ (aL l),cE _ _ _ (aL l)]
 exact v
theorem zkq{l:List ah}{P:qV}(u:l.length<100000)(J:Kinds prog w A { s with heap:=midH (s.heap.push (seqObj "list" l.toArray 0)) s.heap.objs.size l } rk l)
  (h:∀h' (y:bP) (e:Nat),(∀b o,s.heap.get? b=some o->h'.get? b=some o)->(arrOf y).Perm (pairsOf l)->Up rk (arrOf y) l.length->h'.get? s.heap.objs.size=some (seqObj "list" ((arrOf y).map (·.2)) e)->P .none { s with heap:=h' }) :
  wpAny (model prog w) A (fZ.«list.sort» ⟨[.ref s.heap.objs.size],[]⟩) (fun f s'=>∃v,f=.done (.ret v)/\P v s') E { s with heap:=s.heap.push (seqObj "list" l.toArray 0) }:=by
 have x:(s.heap.push (seqObj "list" l.toArray 0)).get? s.heap.objs.size=some (seqObj "list" l.toArray 0):=aI _ rfl;refine zi8 (s:={ s with heap:=s.heap.push (seqObj "list" l.toArray 0) }) x u J fun y I p2=>⟨_,rfl,?_⟩
 obtain⟨e,G⟩:=sortedHeap_at (out:=(arrOf y).map (·.2)) x;refine h _ y e (fun b o C=>?_) I p2 G
 have lt:=aD C;rw[sortedHeap_old (aL lt) (by rw[eh];exact nS lt),cE _ _ _ (aL lt)]
 exact C
end
section
variable{prog:aK}{w:aW}{A:bq}{E:qV}{s:aq}{rk:aY->ah->Int}
theorem zjK{x:ah}{C:aY->Nat->List ah->Prop}{Q:qV}(J:∀(I:bq) (S:qV) (R:List ah->aq->Prop),I.handled=A.handled->(∀h' tk v,C h' tk v->R v { s with heap:=h',toks:=tk })->wpAny (model prog w) I (collect x) R S s)
  (N:∀h' tk v,C h' tk v->v.length<100000)
  (hk:∀h' tk v (I:bq),C h' tk v->I.units<=A.units+16->Kinds prog w I { s with heap:=midH (h'.push (seqObj "list" v.toArray 0)) h'.objs.size v,toks:=tk } (rk h') v)
  (h:∀h' tk v G (y:bP) (e:Nat),C h' tk v->(∀b o,h'.get? b=some o->G.get? b=some o)->(arrOf y).Perm (pairsOf v)->Up (rk h') (arrOf y) v.length->G.get? h'.objs.size=some (seqObj "list" ((arrOf y).map (·.2)) e)->Q (.ref h'.objs.size) { s with heap:=G,toks:=tk }) :
  wpAny (model prog w) A (call (.builtin "sorted") [x]) Q E s:=by
 have hs:100000<=sizeLine:=by decide
 refine kg kind_sorted plain_sorted entry_sorted (args_sorted1 _) ?_;unfold fZ.«sorted»;refine ae (m:=checkCount "sorted" 1 1 _) (aj (ae (J _ _ _ rfl fun h' tk v c=>?_)))
 have L:=N h' tk v c;refine ae (iD (hsz:=by show v.toArray.size<=_;rw[aG];lia) ?_)
 have Z:(h'.push (seqObj "list" v.toArray 0)).get? h'.objs.size=some (seqObj "list" v.toArray 0):=aI _ rfl;refine ae (cn (eI pU ⟨_,Z,rfl⟩ oW ?_ (pV _)));refine zkq (s:={ s with heap:=h',toks:=tk }) L (hk h' tk v _ c (by show A.units+1+1<=_;lia)) fun G y e kp Y p2 U=>?_
 exact aj ⟨_,rfl,h h' tk v G y e c kp Y p2 U⟩
end
section
variable{X:Cx}
theorem zu0{pins:qO}{σ:St}{H:Hp}{s:aq}{q:ak}{b k:Int}(I:Inv X pins σ H s)(h:SqT X.K H q [.int b,.int k]):PrIn s.heap (.ref q) b k:=by
 obtain⟨is,rs,⟨o,f1,f2,n,l⟩,_⟩:=I.tuple h;cases rs with
 | cons a1 a2 =>
  cases a2 with
  | cons u v =>
   cases v;obtain⟨t,rfl⟩:=a1;obtain⟨t',rfl⟩:=u;exact⟨q,o,t,t',n,rfl,f1,f2,l⟩
end
section
variable{K:qF}{hd:Option ak}{O:ak->Prop}{H:Hp}{zs:ZT}{ks:KT2}
theorem Rep.bkI{v:V}{a b:Int}(h:Rep K hd O H v (.tuple [.int a,.int b])):∃q,v=.ref q/\SqT K H q [.int a,.int b]:=by
 obtain⟨q,J,rfl,sq,I⟩:=h.tupI;cases I with
 | cons C y =>
  cases y with
  | cons x G =>
   cases G;rw[C.intI,x.intI]at sq;exact⟨q,rfl,sq⟩
end
end L2
namespace L2
open PySem
abbrev RL:=List ((Int×Int)×Int)
end L2
namespace Bd
open PySem PySem.W PySem.Calls L2 PyProof.Rows
structure ZZ where
 P:aK
 w:aW
 K:qF
 mg:Str->Option ah
 base:aY
def FQ(Z:ZZ)(x:Str)(st:dG)(ps:List Str)(k:Nat)(l:Sp):Prop:=Fq Z.P Z.w Z.K Z.mg Z.base x st ps k l
theorem okQ{Z:ZZ}{x:Str}{st:dG}{ps N:List Str}{k m:Nat}{g:GD}(D:Dq Z.K Z.mg x st ps)(S:Ua N ps (JF st))(u:m=ps.length)
  (v:∀(f:ak) (l:ah) (A:bq) (outer:List Env) (s:aq) (H:Hp) (E:XK),Room k (A.deeper (envOfC x (JF st) s.heap.objs.size f l))->∃d,DSs (cxOf CX0 Z.P Z.w Z.K Z.mg Z.base N x (JF st) f l A outer s H E).nox (Qh st) d /\
   ∀ts n R,ts.length=m->g ts n R->d { nx:=fun _ y=>R .none y,rt:=R } (Qb N ts) n):FQ Z x st ps (k+1) (spD Z.K m g):=by
 obtain⟨f,fd,D⟩:=D;exact⟨f,fd,D,D.okD S u fun l A outer s H E C=>v f l A outer s H E C⟩
theorem bnd1{x:Str}{st:dG}{a:Str}(h:∀(kV doc pm:ah) (an:Option ak) (l ct u:ah),bindArgs (dw x x (Qy st) (Qh st) (JF st) .none kV doc pm an l ct) ⟨[u],[]⟩=pure [(a,u)]):BndA x st [a]:=fun _ _ _ _ _ _ y v=>by obtain⟨_,rfl⟩:=len1 v;exact h ..
theorem bnd2{x:Str}{st:dG}{a b:Str}(h:∀(kV doc pm:ah) (an:Option ak) (l ct u v:ah),bindArgs (dw x x (Qy st) (Qh st) (JF st) .none kV doc pm an l ct) ⟨[u,v],[]⟩=pure [(a,u),(b,v)]):BndA x st [a,b]:=fun _ _ _ _ _ _ C y=>by obtain⟨_,_,rfl⟩:=len2 y;exact h ..
theorem bnd3{x:Str}{st:dG}{a b c:Str}(h:∀(kV doc pm:ah) (an:Option ak) (l ct u v y:ah),bindArgs (dw x x (Qy st) (Qh st) (JF st) .none kV doc pm an l ct) ⟨[u,v,y],[]⟩=pure [(a,u),(b,v),(c,y)]):BndA x st [a,b,c]:=fun _ _ _ _ _ _ G C=>by obtain⟨_,_,_,rfl⟩:=len3 C;exact h ..
theorem bnd4{x:Str}{st:dG}{a b c d:Str}(h:∀(kV doc pm:ah) (an:Option ak) (l ct u v y z:ah),bindArgs (dw x x (Qy st) (Qh st) (JF st) .none kV doc pm an l ct) ⟨[u,v,y,z],[]⟩=pure [(a,u),(b,v),(c,y),(d,z)]):BndA x st [a,b,c,d]:=fun _ _ _ _ _ _ G C=>by obtain⟨_,_,_,_,rfl⟩:=len4 C;exact h ..
def JH(h:aY):qF:=(fw h.objs.size).filterMap fun a=>(h.get? a).map fun o=>(a,o)
theorem zlk{h:aY}:∀{x:List ak}{a:ak},a∈x->(x.filterMap fun a=>(h.get? a).map fun o=>(a,o)).lookup a=h.get? a\/h.get? a=none
 | [],_,m=>nomatch m
 | b::x,a,m=>by
  by_cases e:a=b
  ·subst e;cases g:h.get? a with
   | none=>exact .inr rfl
   | some o=>exact .inl (by rw[dF];simp[g,cR])
  ·have y:a∈x:=(aA.mp m).resolve_left e;rcases zlk (h:=h) y with z|z
   ·refine .inl ?_;rw[dF];cases g:h.get? b with
    | none=>exact z
    | some o =>
     have:(a == b)=false:=by simpa using e
     simp only[gF];rw[cR,this];exact z
   ·exact .inr z
theorem U6{h:aY}{a:ak}{o:Obj}(e:h.get? a=some o):(JH h).lookup a=some o:=by
 have m:a∈fw h.objs.size:=gT.mpr (aD e);rcases zlk (h:=h) m with z|z
 ·exact z.trans e
 ·rw[e]at z;cases z
theorem zkj{h:aY}:(JH h).In h:=fun a o e=>by
 have key:∀(v:List ak),(v.filterMap fun a=>(h.get? a).map fun o=>(a,o)).lookup a=some o->h.get? a=some o:=by
  intro v;induction v with
  | nil=>intro z;cases z
  | cons b v x =>
   intro z;rw[dF]at z;cases g:h.get? b with
   | none=>rw[g]at z;exact x z
   | some y =>
    rw[g]at z;simp only[gF,cR]at z;cases q:a == b with
    | true=>rw[q]at z;cases z;rw[eq_of_beq q];exact g
    | false=>rw[q]at z;exact x z
 exact key _ e
def Vg:dG->Bool
 | .FunctionDef ..=>true
 | _=>false
def defName:dG->Str
 | .FunctionDef n _ _ _ _ _ _ _ _ _=>n
 | _=>aa ""
def ztU:dG->Pos
 | .FunctionDef _ _ _ _ _ _ _ _ _ p=>p
 | _=>⟨0,0,0,0⟩
def recD(st:dG):DefRec:=⟨defName st,Qy st,Qh st,JF st,ztU st⟩
theorem getD_mem{l:List dG}{i:Nat}(h:Vg (l.getD i (.Pass ⟨0,0,0,0⟩))=true):l.getD i (.Pass ⟨0,0,0,0⟩)∈l:=by
 rw[ba]at h ⊢;cases e:l[i]? with
 | none=>rw[e]at h;cases h
 | some s=>exact aN e
section
variable{q:aK}{loose:List Str}{IL:nT->Option ah}{mg mb:qM}{h:aY}{x:Str}{st:dG}{ps:List Str}
theorem zmm{cd:ah}{n:Str}(c:h.CodeRec cd n):gX (JH h) cd n=true:=by
 obtain⟨a,o,l,t,rfl,g,d,e⟩:=c;unfold gX;dsimp only;rw[U6 g];obtain⟨u,v,dd,y⟩:=o;cases(show dd=_ from d)
 have l2:l.toList[1]?=some (.str n t):=by simpa using e
 dsimp only
 match hv:l.toList,l2 with
 | [],l2=>simp at l2
 | [_],l2=>simp at l2
 | a::b::r,l2 =>
  have:b=.str n t:=by simpa using l2
  subst this;simp
theorem dq_g(T:Top q loose IL mg mb h)(hd:recD st∈recsOf q)(G:defName st=x)(R:BndA x st ps):Dq (JH h) mg x st ps:=by
 obtain⟨a,o,pm,cd,doc,y,J,C,v⟩:=T.fn _ hd;have y:mg (defName st)=some (.ref a):=y;have v:h.CodeRec cd (defName st):=v;rw[G]at y v;obtain⟨I,L,dd,N⟩:=o;have C:dd=.func (docDef (defName st) (Qy st) (Qh st) (JF st) pm cd doc):=C;rw[G]at C;have l:(JH h).lookup a=some ⟨I,L,.func (dw x x (Qy st) (Qh st) (JF st) .none .none doc pm none cd .none),N⟩:=by
  rw[U6 J,C];rfl
 have kp:gW (JH h) (.ref a)=true:=by
  unfold gW;dsimp only;rw[l]
 exact⟨a,_,zoI l (zmm v) kp,(zoI l (zmm v) kp).binds R,y⟩
end
end Bd
namespace L2
open PySem PySem.Spec PyProof PyProof.Rows
abbrev BL:=List (Int×Int)
abbrev PR:=List ((Int×Int)×(Int×Int))
abbrev upH(b:Int×Int):Int×Int:=(fg b.1 (2 ^ (b.2 - 1).toNat),b.2 - 1)
abbrev loH(b:Int×Int):Int×Int:=(b.1,b.2 - 1)
abbrev NP:=(Int×Int)×Str
def PsIn(h:aY)(u:ah)(r:NP):Prop:=∃(a p:ak) (o:Obj) (t:Tok) (n:Nat),u=.ref a/\h.get? a=some o/\o.cls=.type "tuple" /\ o.data=.seq #[.ref p,.str r.2 t] n/\PrIn h (.ref p) r.1.1 r.1.2
theorem PsIn.kept{h h':aY}{u:ah}{r:NP}(p:PsIn h u r)(kp:∀b o,h.get? b=some o->h'.get? b=some o):PsIn h' u r:=by
 obtain⟨a,q,o,t,n,l,x,C,y,v⟩:=p;exact⟨a,q,o,t,n,l,kp _ _ x,C,y,v.kept kp⟩
theorem PsIn.uniq{h:aY}{u:ah}{r C:NP}(p:PsIn h u r)(I:PsIn h u C):r=C:=by
 obtain⟨a,q,o,t,n,rfl,S,_,U,⟨x,ox,t1,t2,m,x0,N,_,G⟩⟩:=p;obtain⟨a',q',o',t',n',R,f1,_,f2,⟨y,oy,Z,Y,m',J,v,_,l⟩⟩:=I;cases R;rw[S]at f1;cases f1;rw[U]at f2
 injection f2 with f2 _
 have f2:=congrArg aR f2;simp at f2;obtain⟨L,f4,_⟩:=f2;cases x0;cases J;subst L;rw[N]at v;cases v;rw[G]at l
 injection l with l _
 have l:=congrArg aR l;simp at l;exact iF (iF l.1.1 l.2.1) f4
def npLt(a b:NP):Bool:=if a.1=b.1 then decide (a.2.cps.toList<b.2.cps.toList) else decide (a.1.1<b.1.1\/(a.1.1=b.1.1/\a.1.2<b.1.2))
theorem VO{a b:NP}:npLt a b=true↔(a.1.1<b.1.1\/(a.1.1=b.1.1/\(a.1.2<b.1.2\/(a.1.2=b.1.2/\a.2.cps.toList<b.2.cps.toList)))):=by
 unfold npLt;obtain⟨⟨a1,a2⟩,y⟩:=a;obtain⟨⟨u,v⟩,x⟩:=b;dsimp only
 by_cases e:(a1,a2)=(u,v)
 ·rw[if_pos e];cases e;simp
 ·rw[if_neg e,decide_eq_true_eq];have:¬(a1=u/\a2=v):=fun z=>e (by rw[z.1,z.2])
  constructor
  ·rintro(h|h)
   ·exact .inl h
   ·exact .inr ⟨h.1,.inl h.2⟩
  ·rintro(h|⟨h,h'|h'⟩)
   ·exact .inl h
   ·exact .inr ⟨h,h'⟩
   ·exact absurd ⟨h,h'.1⟩ this
theorem zqx(x y:Str):x.cps.toList<y.cps.toList\/x=y\/y.cps.toList<x.cps.toList:=by
 by_cases h:x.cps.toList<y.cps.toList
 ·exact .inl h
 ·by_cases h':y.cps.toList<x.cps.toList
  ·exact .inr (.inr h')
  ·refine .inr (.inl (L2.Str.ext' ?_));exact List.le_antisymm (vE.mp h') (vE.mp h)
theorem zi5(a:NP):npLt a a=false:=by
 rw[g7,ne_eq,VO];rintro(h|⟨_,h|⟨_,h⟩⟩)
 ·omega
 ·omega
 ·exact p7 _ h
theorem zi4(a b:NP):npLt a b=true\/a=b\/npLt b a=true:=by
 rw[VO,VO];obtain⟨⟨a1,a2⟩,y⟩:=a;obtain⟨⟨u,x⟩,v⟩:=b;dsimp only;rcases hG a1 u with h|rfl|h
 ·exact .inl (.inl h)
 ·rcases hG a2 x with h|rfl|h
  ·exact .inl (.inr ⟨rfl,.inl h⟩)
  ·rcases zqx y v with h|rfl|h
   ·exact .inl (.inr ⟨rfl,.inr ⟨rfl,h⟩⟩)
   ·exact .inr (.inl rfl)
   ·exact .inr (.inr (.inr ⟨rfl,.inr ⟨rfl,h⟩⟩))
  ·exact .inr (.inr (.inr ⟨rfl,.inl h⟩))
 ·exact .inr (.inr (.inl h))
theorem zjW{a b c:NP}(h:npLt a b=true)(h':npLt b c=true):npLt a c=true:=by
 rw[VO]at h h' ⊢;rcases h with h|⟨e,h|⟨u,h⟩⟩ <;> rcases h' with h'|⟨f,h'|⟨f2,h'⟩⟩
 ·exact .inl (by omega)
 ·exact .inl (by omega)
 ·exact .inl (by omega)
 ·exact .inl (by omega)
 ·exact .inr ⟨by omega,.inl (by omega)⟩
 ·exact .inr ⟨by omega,.inl (by omega)⟩
 ·exact .inl (by omega)
 ·exact .inr ⟨by omega,.inl (by omega)⟩
 ·exact .inr ⟨by omega,.inr ⟨by omega,List.lt_trans h h'⟩⟩
def npRk(rs:List NP)(r:NP):Int:=((rs.filter fun q=>npLt q r).length:Int)
theorem zl2{α:Type}{p q:α->Bool}{l:List α}(h:∀x,p x=true->q x=true):(l.filter p).length<=(l.filter q).length:=by
 induction l with
 | nil=>exact aC _
 | cons a l u =>
  rw[iu,iu];cases e:p a
  ·cases q a
   ·exact u
   ·exact Nat.le_succ_of_le u
  ·rw[h a e];exact Nat.succ_le_succ u
theorem zl1{α:Type}{p q:α->Bool}{l:List α}(h:∀x,p x=true->q x=true){a:α}(u:a∈l)(y:p a=false)(v:q a=true):(l.filter p).length<(l.filter q).length:=by
 induction l with
 | nil=>cases u
 | cons b l C =>
  rw[iu,iu];rcases aA.mp u with rfl|u
  ·rw[y,v];exact Nat.lt_succ_of_le (zl2 h)
  ·have:=C u;cases e:p b
   ·cases q b
    ·exact this
    ·exact nS this
   ·rw[h b e];exact Nat.succ_lt_succ this
theorem ZV{rs:List NP}{a b:NP}(u:a∈rs)(h:npLt a b=true):npRk rs a<npRk rs b:=by
 unfold npRk;have:=zl1 (p:=fun q=>npLt q a) (q:=fun q=>npLt q b) (l:=rs) (fun x hx=>zjW hx h) u (zi5 a) h
 omega
theorem zpB{rs:List NP}{a b:NP}(l:a∈rs)(u:b∈rs):npLt a b=decide (npRk rs a<npRk rs b):=by
 rcases zi4 a b with h|rfl|h
 ·rw[h,decide_eq_true (ZV l h)]
 ·rw[zi5];symm;rw[decide_eq_false_iff_not];exact Int.lt_irrefl _
 ·have:=ZV u h;rw[decide_eq_false (by omega)]
  cases e:npLt a b with
  | false=>rfl
  | true=>have:=ZV l e;omega
open Classical in
noncomputable def rkNP (rs:List NP) (h:aY) (u:ah):Int:=if z:∃r,PsIn h u r then npRk rs z.choose else 0
theorem PsIn.rk{rs:List NP}{h:aY}{u:ah}{r:NP}(p:PsIn h u r):rkNP rs h u=npRk rs r:=by
 unfold rkNP;have z:∃r,PsIn h u r:=⟨r,p⟩;rw[dif_pos z,z.choose_spec.uniq p]
section
variable{prog:aK}{w:aW}{A:bq}{E:qV}{s:aq}
theorem zpP{G:List ah}{Q:eN->aq->Prop}(h1:1<=G.length)(hp:∀v∈G,∃r,PsIn s.heap v r)(h:Q (tuples' false) s):wpAny (model prog w) A (keyKind' G.toArray) Q E s:=by
 rw[keyKind'_eq,g9,map_eq_pure_bind];refine ae (ae (ZJ (P:=fun _ r=>∃(p:ak) (o:Obj),r=some (.ref p)/\s.heap.get? p=some o/\o.cls=.type "tuple") G (fun v R Q' I=>?_) fun rs N=>aj ?_))
 ·obtain⟨r,a,p,o,t,n,rfl,C,e2,e3,a',Z,t1,t2,n',e4,e5,e6,e7⟩:=hp v R;cases e4;rw[zjm];refine ae (gf (T:="tuple") ⟨o,C,e2⟩ ?_);rw[if_neg (by decide)]
  exact ae (gh C e3 (aj (I _ ⟨p,Z,rfl,e5,e6⟩)))
 ·have al:∀r∈rs,∃(p:ak) (o:Obj),r=some (.ref p)/\s.heap.get? p=some o/\o.cls=.type "tuple":=fun r S=>by
   obtain⟨_,_,h⟩:=zcC N S;exact h
  have Kd:(rs.toArray.all fun x=>x.isSome)=true:=by
   rw[iq,bw];intro x hx;obtain⟨p,o,rfl,_⟩:=al x hx
   rfl
  rw[if_pos Kd];refine ae (dq ?_);rw[oX];have L:rs.toArray.filterMap id=(rs.filterMap id).toArray:=by simp
  rw[L,g9,map_eq_pure_bind];refine ae (ae (ae (ZJ (P:=fun _ r=>r=bH "tuple") _ (fun v R Q' I=>?_) fun ts J=>aj ?_)))
  ·obtain⟨x,hx,e⟩:=fA.mp R;obtain⟨p,o,rfl,g,c⟩:=al x hx;cases e;exact gf (T:="tuple") ⟨o,g,c⟩ (I _ rfl)
  ·have u:∀r∈ts,r=bH "tuple":=fun r S=>by
    obtain⟨_,_,h⟩:=zcC J S;exact h
   cases ts with
   | nil=>exact aj (aj h)
   | cons Y U =>
    have C:Y=bH "tuple":=u Y (.head _);subst C;have Kg:(((bH "tuple")::U).toArray.all fun x=>x == bH "tuple")=true:=by
     rw[iq,bw];intro x hx;rw[u x hx];rfl
    have h0:((bH "tuple")::U).toArray[0]?=some (bH "tuple"):=by simp
    rw[h0];simp only[Kg,if_true];refine aj (aj ?_);exact h
theorem znw(x y:Str)(t u:Tok):LtAt prog w A s false (.str x t) (.str y u) (decide (x.cps.toList<y.cps.toList)):=fun E Q q=>by
 rw[tv];simp only[aJ,if_false];refine ae (show wpAny (model prog w) A (compareOp .Lt (.str x t) (.str y u)) _ E s from wd ?_)
 exact bW q
theorem znD{l:List ah}{h0:aY}{rs:List NP}(I:A.units<cLine)(C:∀v∈l,∃r,r∈rs/\PsIn s.heap v r/\rkNP rs h0 v=npRk rs r):Kinds prog w A s (rkNP rs h0) l:=fun h2=>by
 refine⟨tuples' false,fun E Q q=>zpP (by lia) (fun v U=>?_) q,fun p q E Q mp R h=>?_⟩
 ·obtain⟨r,_,h,_⟩:=C v U;exact⟨r,h⟩
 ·have mem:∀z∈(pairsOf l).toList,z.1∈l:=fun z J=>by
   have:z∈l.zip l:=by simpa[pairsOf] using J
   exact(ee this).1
  obtain⟨⟨⟨b,k⟩,g⟩,m1,⟨a,x,o,t,n,Y,e1,e2,N,G⟩,Z⟩:=C _ (mem p mp);obtain⟨⟨⟨u,y⟩,g'⟩,m2,⟨a',x',o',t',n',f0,f1,f2,S,f4⟩,r2⟩:=C _ (mem q R);rw[Z,r2,<- zpB m1 m2]at h;rw[Y,f0];refine zg_ e1 N f1 S (zqi I G f4) (SeqAt.EqAt.str_str g t g' t') (fun _=>zpK I G f4) (fun _=>znw g g' t t') ?_
  have:(if decide (b=u/\k=y)=true then(if (g == g')=true then false else decide (g.cps.toList<g'.cps.toList)) else HT.lexLt [b,k] [u,y])=npLt ((b,k),g) ((u,y),g'):=by
   rw[zpL];unfold npLt;dsimp only
   by_cases e:b=u/\k=y
   ·obtain⟨rfl,rfl⟩:=e;rw[if_pos (by simp),if_pos rfl]
    by_cases eg:g=g'
    ·subst eg;rw[if_pos (by simp)]
     symm;rw[decide_eq_false_iff_not];exact p7 _
    ·rw[if_neg (by simpa using eg)]
   ·rw[if_neg (by simpa using e),if_neg (fun z=>e (by cases z;exact⟨rfl,rfl⟩))]
  rw[this];exact h
end
section
variable{X:Cx}
def PsV(K:qF)(H:Hp)(z:V×NP):Prop:=∃a q,z.1=.ref a/\SqT K H a [.ref q,.str z.2.2]/\SqT K H q [.int z.2.1.1,.int z.2.1.2]
theorem zuZ{pins:qO}{σ:St}{H:Hp}{s:aq}{a q:ak}{r:NP}(I:Inv X pins σ H s)(h:SqT X.K H a [.ref q,.str r.2])(l:SqT X.K H q [.int r.1.1,.int r.1.2]):PsIn s.heap (.ref a) r:=by
 obtain⟨is,rs,⟨o,f1,f2,n,u⟩,_⟩:=I.tuple h;cases rs with
 | cons a1 a2 =>
  cases a2 with
  | cons v x =>
   cases x;cases(show _=cG q from a1)
   obtain⟨t,rfl⟩:=v;exact⟨a,q,o,t,n,rfl,f1,f2,u,zu0 I l⟩
theorem zf_(hu:X.A.units+64<cLine):JU X (.builtin "sorted") (fun xs H Q=>∃(p:ak) (zs:List (V×NP)),xs=[.ref p]/\(SqL X.K H p (zs.map (·.1))\/SqT X.K H p (zs.map (·.1)))/\zs.length<100000/\(∀z∈zs,PsV X.K H z) /\
  ∀N:List (V×NP),N.Perm zs->N.Pairwise (fun a b=>npRk (zs.map (·.2)) a.2<=npRk (zs.map (·.2)) b.2)->∀l,H l=none->Q (.ref l) (upd H l (.lst (N.map (·.1))))):=by
 intro pins s σ H xs us Q I r h;obtain⟨p,zs,rfl,J,h64,hp,q⟩:=h;obtain⟨u,rfl,rx⟩:=vals1 r;cases rx;have hs:100000<=sizeLine:=by decide
 have key:∀(v:List ah) (o:Obj) (T:String) (n:Nat),Vals (zs.map (·.1)) v->s.heap.get? p=some o->o.cls=.type T->(T = "list" \/ T = "tuple")->o.data=.seq v.toArray n ->
   wpAny (model X.prog X.w) X.A (call (.builtin "sorted") [.ref p]) (EP X pins σ Q) X.xe s:=fun v o T n rv U hc hT hd=>by
  have hlen:zs.length=v.length:=by simpa using rv.length
  have cell:eL (fun(z:V×NP) (u:ah)=>RelV z.1 u/\PsIn s.heap u z.2) zs v:=by
   have go:∀(zs:List (V×NP)) (v:List ah),(∀z∈zs,PsV X.K H z)->Vals (zs.map (·.1)) v->eL (fun(z:V×NP) (u:ah)=>RelV z.1 u/\PsIn s.heap u z.2) zs v:=by
    intro zs;induction zs with
    | nil=>intro v _ r;cases r;exact .nil
    | cons z zs ih =>
     intro v Y r;cases r with
     | cons Z r2 =>
      obtain⟨a,q,e1,e2,e3⟩:=Y z (.head _);refine .cons ⟨Z,?_⟩ (ih _ (fun y hy=>Y y (.tail _ hy)) r2)
      dsimp only at Z;rw[e1]at Z;cases(show _=cG a from Z)
      exact zuZ I e2 e3
   exact go zs v hp rv
  refine zjK (A:=X.A) (x:=.ref p) (rk:=rkNP (zs.map (·.2))) (C:=fun h' tk S=>S=v/\(∀b o,s.heap.get? b=some o->h'.get? b=some o)/\s.heap.objs.size<=h'.objs.size) ?_ ?_ ?_ ?_
  ·intro A' E' Q' hA J;refine zeT U hc hT hd (by lia) ?_
   have hq':=J ((s.heap.push (seqObj "list" #[] 0)).update s.heap.objs.size (eZ (·++v.toArray))) s.toks v ⟨rfl,fun b ob hb=>?_,?_⟩
   ·exact hq'
   ·rw[gq _ _ _ _ (aL (aD hb))];exact av _ hb
   ·rw[cJ,eh];exact ko _
  ·rintro h' tk S ⟨rfl,_,_⟩;lia
  ·rintro h' tk S A' ⟨rfl,kp,_⟩ hA';refine znD (by lia) fun u hu=>?_
   obtain⟨x,mx,_,rl⟩:=zcC cell hu;have R:=rl.kept kp;exact⟨x.2,mH mx,R.kept fun b o e=>zh8 e,R.rk⟩
  ·rintro h' tk S h2 y e ⟨rfl,kp,sz⟩ kp2 pm up he;have G:eL (fun(z:V×NP) (u:ah)=>RelV z.1 u/\PsIn h' u z.2) zs S:=Paired.mapP cell fun _ _ h=>⟨h.1,h.2.kept kp⟩
   obtain⟨ws,p1,p2,p3⟩:=zm_ (f:=fun x=>npRk (zs.map (·.2)) x.2) G (fun x u hx=>hx.2.rk) pm up
   have rv':Vals (ws.map (·.1)) ((arrOf y).map (·.2)).toList:=by
    have:∀{l:List (V×NP)} {m:List ah},eL (fun(z:V×NP) (u:ah)=>RelV z.1 u/\PsIn h' u z.2) l m->Vals (l.map (·.1)) m:=by
     intro l m p;induction p with
     | nil=>exact .nil
     | cons h t ih=>exact .cons h.1 ih
    exact this p3
   refine⟨.ref h'.objs.size,_,I.laid (a:=h'.objs.size) (o:=.lst (ws.map (·.1))) (t':=tk) (fun b o hb=>kp2 b o (kp b o hb)) sz ?_,rfl,q ws p1 p2 _ (I.hok.fresh sz)⟩
   refine⟨?_,_,e,rv',by rw[he]⟩
   have:=p1.length_eq;rw[aZ];lia
 rcases J with J|J
 ·obtain⟨v,r',pl,Y⟩:=I.list J;obtain⟨o,U,hc,n,hd⟩:=pl.isList;exact key v o "list" n r' U hc (.inl rfl) hd
 ·obtain⟨v,r',pl,Y⟩:=I.tuple J;obtain⟨o,U,hc,n,hd⟩:=pl;exact key v o "tuple" n r' U hc (.inr rfl) hd
end
section
variable{X:Cx}{e:aX}{d:DTE}{pos p:Pos}{k:Nat}
theorem zkD{K:qF}{hd:Option ak}{O:ak->Prop}{H:Hp}:∀{y:List V}{rs:List NP},Reps K hd O H y (Bd.oD rs)->∀z∈y.zip rs,PsV K H z/\Rep K hd O H z.1 (.tuple [.tuple [.int z.2.1.1,.int z.2.1.2],.str z.2.2])
 | _,[],r=>by cases r;intro z v;simp at v
 | _,a::rs,r=>by
  cases r with
  | cons h r =>
   intro z v;rcases aA.mp (by simpa using v) with rfl|v
   ·refine⟨?_,h⟩;obtain⟨b,N,rfl,sq,J⟩:=h.tupI;cases J with
    | cons I G =>
     cases G with
     | cons C L =>
      cases L;obtain⟨q,rfl,x⟩:=I.bkI;rw[C.strI]at sq;exact⟨b,q,rfl,sq,x⟩
   ·exact zkD r z v
def zmb(d:DTE):DTA:=fun v n R=>d v n fun t u=>JX t fun ts=>∃rs:List NP,ts=Bd.oD rs/\rs.length<100000/\∀l:List NP,l.Perm rs->l.Pairwise (fun a b=>npRk rs a<=npRk rs b)->R (Bd.oD l) u
theorem zeN(hr:Room k X.A)(hm:X.mg "sorted" = none) (h:DL X e d) (hs:starEach [e] X.env=[(false,eval e X.env)]) (hg:Gl X "sorted":=by rfl):DN X (.Call (.Name "sorted" p) [e] [] pos) (zmb d):=by
 obtain⟨ta,pa,h⟩:=h;refine⟨_,Ui (zf_ (by have:=hr.un;lia)) hm boot_sorted (Qi pa QD hs) hg,fun C Z σ H n Q R S hd hq=>?_⟩
 refine h C Z σ H n _ _ S hd fun t n1 v I r1 e1 h1 q1=>?_
 have S1:=S.on e1 h1;have go:∀(p:ak) J ts,(SqL X.K I p J\/SqT X.K I p J)->Reps X.K C.hd (Own C Z σ) I J ts->(∃rs:List NP,ts=Bd.oD rs/\rs.length<100000/\∀Y:List NP,Y.Perm rs->Y.Pairwise (fun a b=>npRk rs a<=npRk rs b)->R (Bd.oD Y) n1) ->
   ∃(p':ak) (zs:List (V×NP)),[V.ref p]=[V.ref p']/\(SqL X.K I p' (zs.map (·.1))\/SqT X.K I p' (zs.map (·.1)))/\zs.length<100000/\(∀z∈zs,PsV X.K I z) /\
  ∀G:List (V×NP),G.Perm zs->G.Pairwise (fun a b=>npRk (zs.map (·.2)) a.2<=npRk (zs.map (·.2)) b.2)->∀l,I l=none->Q (.ref l) (upd I l (.lst (G.map (·.1)))):=fun p J ts hs rp ⟨rs,ets,l64,hR⟩=>by
  subst ets;have ln:=rp.length;rw[Bd.QX]at ln;have rel:=zkD rp;refine⟨p,J.zip rs,rfl,?_,by simp;lia,fun z hz=>(rel z hz).1,fun G pm pw l L=>?_⟩
  ·rw[ir (by lia)];exact hs
  ·have hl0:H l=none:=by
    cases z:H l with
    | none=>rfl
    | some o =>
     by_cases y:C.hd=some l
     ·obtain⟨d,m,t,q,_⟩:=h1 l y;rw[L]at q;cases q
     ·rw[e1 l o z y]at L;cases L
   have pr:(G.map (·.2)).Perm rs:=by
    have:=pm.map (·.2)
    rwa [eJ (by lia)]at this
   have rp':∀zs:List (V×NP),(∀z∈zs,Rep X.K C.hd (Own C Z σ) I z.1 (.tuple [.tuple [.int z.2.1.1,.int z.2.1.2],.str z.2.2]))->Reps X.K C.hd (Own C Z σ) I (zs.map (·.1)) (Bd.oD (zs.map (·.2))):=by
    intro zs;induction zs with
    | nil=>intro _;exact .nil
    | cons a l ih=>intro h;exact .cons (h a (.head _)) (ih fun x hx=>h x (.tail _ hx))
   refine hq _ n1 l _ _ (hR _ pr (by rw[dY];rw[eJ (by lia)]at pw;exact pw)) (e1.trans (ExtE.new L)) (h1.same (JQ L)) hl0 JM ?_
   refine(rp' G fun z hz=>(rel z (pm.mem_iff.mp hz)).2).mono (fun b o hb z=>z.elim id fun z=>?_) fun b o _ hb=>JQ L b o hb
   subst z;rw[L]at hb;cases hb
 cases t with
 | list ts =>
  obtain⟨p,J,rfl,U,h2⟩:=q1.lstI;exact go p J ts (.inl (.of U)) h2 r1
 | tuple ts =>
  obtain⟨p,J,rfl,U,h2⟩:=q1.tupI;exact go p J ts (.inr U) h2 r1
 | _=>exact r1.elim
instance zua {ρ:En}{n:Nat}{R:List af->Nat->Prop}:Stp (zmb d ρ n R) (d ρ n fun t n1=>JX t fun ts=>∃rs:List NP,ts=Bd.oD rs/\rs.length<100000/\∀rs':List NP,rs'.Perm rs->rs'.Pairwise (fun a b=>npRk rs a<=npRk rs b)->R (Bd.oD rs') n1):=⟨fun h=>h⟩
end
def StG(K:qF)(mg:qM)(x:Str)(l:List Str):Prop:=∃a,mg x=some (.ref a)/\StT K a (l.map V.str)
end L2
namespace Bd
open PySem PySem.W PySem.Calls L2 PyProof.Rows
def Vc:List ah->List Str->Bool
 | [],[]=>true
 | .str x _::r,y::z=>decide (x=y)&&Vc r z
 | _,_=>false
theorem zeK:∀{u:List ah}{v:List Str},Vc u v=true->Vals (v.map V.str) u
 | [],[],_=>.nil
 | .str x t::r,y::z,h=>by
  simp only[Vc,aM,decide_eq_true_eq]at h;obtain⟨rfl,h⟩:=h;exact .cons ⟨t,rfl⟩ (zeK h)
def tupO(h:aY)(l:List Str):ah->Bool
 | .ref a=>(match h.get? a with
  | some ⟨.type c,none,.seq vs _,_⟩=>decide (c = "tuple")&&decide (vs.size<=100)&&Vc vs.toList l
  | _=>false)
 | _=>false
def UM(l:List (Str×List Str))(s:aq):Bool:=l.all fun q=>(s.heap.nsMap mainGlobals q.1).any (tupO s.heap q.2)
def TupsAre(l:List (Str×List Str))(mg:qM)(h:aY):Prop:=∀q∈l,∃v,mg q.1=some v/\tupO h q.2 v=true
theorem zq1{l:List (Str×List Str)}{s:aq}(x:UM l s=true):TupsAre l (s.heap.nsMap mainGlobals) s.heap:=fun q u=>by
 have e:=bw.mp x q u;cases g:s.heap.nsMap mainGlobals q.1 with
 | none=>rw[g]at e;cases e
 | some v=>rw[g]at e;exact⟨v,rfl,e⟩
theorem zgm{h h':aY}{l:List Str}{v:ah}(x:tupO h l v=true)(k:∀b o,h.get? b=some o->h'.get? b=some o):tupO h' l v=true:=by
 unfold tupO at x ⊢;split at x
 ·rename_i a;cases e:h.get? a with
  | none=>rw[e]at x;cases x
  | some o=>rw[e]at x;rw[k _ _ e];exact x
 ·cases x
theorem TupsAre.keeps{l:List (Str×List Str)}{mg:qM}{h h':aY}(x:TupsAre l mg h)(k:∀b o,h.get? b=some o->h'.get? b=some o):TupsAre l mg h':=fun q u=>by
 obtain⟨v,a,b⟩:=x q u;exact⟨v,a,zgm b k⟩
theorem TupsAre.st{l:List (Str×List Str)}{mg:qM}{h:aY}(x:TupsAre l mg h){n:Str}{u:List Str}(m:(n,u)∈l):StG (JH h) mg n u:=by
 obtain⟨v,a,b⟩:=x _ m;unfold tupO at b;split at b
 ·rename_i p;split at b
  ·rename_i c G C J e;simp only[aM,decide_eq_true_eq]at b;obtain⟨⟨rfl,I⟩,y⟩:=b;exact⟨p,a,_,G,C,U6 e,rfl,rfl,cH I (by decide),zeK y,rfl⟩
  ·cases b
 ·cases b
end Bd
namespace L2
open PySem PySem.Spec PyProof.Rows
def ndup:List Str->Bool
 | []=>true
 | x::l=>!l.any (fun y=>decide (x=y))&&ndup l
theorem ndB{l:List Str}(h:ndup l=true):l.Nodup:=by
 induction l with
 | nil=>exact .nil
 | cons x l u =>
  simp only[ndup,aM,fR,nt,decide_eq_true_eq]at h;exact eS.mpr ⟨fun m=>h.1 x m rfl,u h.2⟩
def fnB(N P:List Str)(sc:fv):Bool:=(match sc.kind with|.function=>true|_=>false)&&!sc.isCoroutine&&!sc.isGenerator&&ndup N&&decide (N.take P.length=P)&&P.all (fun x=>decide (sc.names.lookup x=some .local\/sc.names.lookup x=some .cell))&&sc.names.all fun y=>decide (y.2≠.free)
theorem fnS{N P:List Str}{sc:fv}(h:fnB N P sc=true):Ua N P sc:=by
 simp only[fnB,aM,fR,decide_eq_true_eq,bw]at h;obtain⟨⟨⟨⟨⟨⟨a,b⟩,c⟩,d⟩,e⟩,f⟩,g⟩:=h;exact⟨(by cases q:sc.kind <;> rw[q]at a <;> first|rfl|(exact nomatch a)),b,c,ndB d,e,f,g⟩
section
variable{X:Cx}{x:Str}{e:aX}{es:List aX}{d:DTE}{ds:DTA}{pos pos':Pos}
theorem dlv(i:Nat)(u:X.N[i]?=some x:=by rfl)(v:Vis X.env.scope x:=by walk_at "V")(hd:(x == ("__debug__":Str))=false:=by rfl)
  (l:(x == ("__classdict__":Str))=false:=by rfl):DL X (.Name x pos) (dVar i):=dl (Jj i u v hd l)
theorem dli{i j}:DL X (.Constant (.int i) j pos) (dC (.int i)):=dl Jg
theorem dbc(h:DE X e d)(u:DB X es ds)(l:starEach (e::es) X.env=(false,eval e X.env)::starEach es X.env:=by rfl):DB X (e::es) (Qk d ds):=zma h u l
theorem dbv(i:Nat)(u:DB X es ds)(v:X.N[i]?=some x:=by rfl)(y:Vis X.env.scope x:=by walk_at "V")(hd:(x == ("__debug__":Str))=false:=by rfl)
  (l:(x == ("__classdict__":Str))=false:=by rfl):DB X (.Name x pos::es) (Qk (dVar i) ds):=zma (Jj i v y hd l) u rfl
theorem dsv(i:Nat)(v:X.N.Nodup)(h:DE X e d)(hi:X.N[i]?=some x:=by rfl)(hx:Loc X.env.scope x:=by first|exact cX rfl|exact ou rfl)(u:swapsWith e (some (.Name x pos')) pos.line X.env=pure false:=by rfl)
  (hf:X.fn x=true\/X.env.scope.names.lookup x=some .local:=by walk_at "F"):DS X (.Assign [.Name x pos'] e pos) (sSet i d):=ztP v hi hx h u hf
theorem dgv(i:Nat)(u:X.N.Nodup)(hi:X.N[i]?=some x:=by rfl)(hx:Loc X.env.scope x:=by first|exact cX rfl|exact ou rfl)(hf:X.fn x=true\/X.env.scope.names.lookup x=some .local:=by walk_at "F"):DG X (.Name x pos) [i] (Qo i):=zqn u hi hx hf
end
section
variable{X:Cx}{scope:fv}{iter elt:aX}{ifs:List aX}{tg:aX}{pos:Pos}{is:List Nat}{di:DTA}{g:DTG}{tt:DTT}{te:DTE}
theorem dnc(own:List Str)(capt:List Nat)(hi:DIL X tg iter di)(y:∀C s₀ H₀ l,DG (Jf X scope own capt C s₀ H₀ l) tg is g)(v:∀C s₀ H₀ l,DE (Jf X scope own capt C s₀ H₀ l) elt te)
  (hc:X.calm=true:=by rfl) (h:VM scope X.env.scope X.N capt=true:=by rfl) (u:∀i∈is,i<own.length:=by decide) (G:∀x,foldedSetIterable iter X.env x=pure x:=by intro _;rfl):DN X (.ListComp elt [⟨tg,iter,[],0⟩] scope pos) (dComp own.length capt di g dYes te) :=
 zl5 hc (JG.of h) hi y u (fun _ _ _ _=>Zz) v G
theorem dnf(own:List Str)(capt:List Nat)(hi:DIL X tg iter di)(G:∀C s₀ H₀ l,DG (Jf X scope own capt C s₀ H₀ l) tg is g)(v:∀C s₀ H₀ l,DTs (Jf X scope own capt C s₀ H₀ l) ifs tt)(y:∀C s₀ H₀ l,DE (Jf X scope own capt C s₀ H₀ l) elt te)
  (hc:X.calm=true:=by rfl) (h:VM scope X.env.scope X.N capt=true:=by rfl) (u:∀i∈is,i<own.length:=by decide) (I:∀x,foldedSetIterable iter X.env x=pure x:=by intro _;rfl):DN X (.ListComp elt [⟨tg,iter,ifs,0⟩] scope pos) (dComp own.length capt di g tt te) :=
 zl5 hc (JG.of h) hi G u v y I
end
end L2
namespace Bd
open PySem PySem.W PySem.Calls L2 PyProof.Rows
def Qs(h:aY):ah->Option (List dI)
 | .ref a=>if a == sysModules then none else(match h.get? a with
  | some ⟨.type c,none,.dict es _,sl⟩=>if decide (c = "dict")&&decide (sl.size=0) then some es.toList else none
  | _=>none)
 | _=>none
theorem zds{h h':aY}{v:ah}{l:List dI}(x:Qs h v=some l)(k:∀b o,h.get? b=some o->h'.get? b=some o):Qs h' v=some l:=by
 unfold Qs at x ⊢;split at x
 ·rename_i a;split at x
  ·cases x
  ·rename_i q;rw[if_neg q];cases e:h.get? a with
   | none=>rw[e]at x;cases x
   | some o=>rw[e]at x;rw[k _ _ e];exact x
 ·cases x
theorem zjr{h:aY}{v:ah}{u:List dI}(x:Qs h v=some u):∃a ar l,v=.ref a/\(a == sysModules)=false/\h.get? a=some ⟨.type "dict",none,.dict ar l,#[]⟩/\ar.toList=u:=by
 unfold Qs at x;split at x
 ·rename_i a;split at x
  ·cases x
  ·rename_i q;split at x
   ·rename_i c ar l G e;split at x
    ·rename_i z;simp only[aM,decide_eq_true_eq]at z;obtain⟨rfl,C⟩:=z;have:G=#[]:=Array.eq_empty_of_size_eq_zero C;subst this;cases x;exact⟨a,ar,l,rfl,by simpa using q,e,rfl⟩
    ·cases x
   ·cases x
 ·cases x
def keyO(k:Str):ah->Bool
 | .str x _=>decide (x=k)
 | _=>false
def Uo(h:aY):List dI->List (Str×List Str)->Bool
 | [],[]=>true
 | e::r,q::z=>keyO q.1 e.key&&tupO h q.2 e.val&&Uo h r z
 | _,_=>false
def zrw:ah->Option ah->Bool
 | .ref a,some (.ref b)=>a == b
 | _,_=>false
def YR(mg:qM):List dI->List Str->Bool
 | [],[]=>true
 | e::r,k::z=>keyO k e.key&&zrw e.val (mg k)&&YR mg r z
 | _,_=>false
abbrev PLs:=List (Str×List (Str×List Str))
abbrev FLs:=List (Str×List Str)
def UF(pl:PLs)(fl:FLs)(s:aq):Bool :=
 (pl.all fun q=>(s.heap.nsMap mainGlobals q.1).any fun v=>(Qs s.heap v).any fun l=>Uo s.heap l q.2)&&fl.all fun q=>(s.heap.nsMap mainGlobals q.1).any fun v=>(Qs s.heap v).any fun l=>YR (s.heap.nsMap mainGlobals) l q.2
structure DctsAre(pl:PLs)(fl:FLs)(mg:qM)(h:aY):Prop where
 p:∀q∈pl,∃v es,mg q.1=some v/\Qs h v=some es/\Uo h es q.2=true
 f:∀q∈fl,∃v es,mg q.1=some v/\Qs h v=some es/\YR mg es q.2=true
theorem Vj{α:Type}{o:Option α}{p:α->Bool}(h:o.any p=true):∃v,o=some v/\p v=true:=by
 cases o with
 | none=>cases h
 | some v=>exact⟨v,rfl,h⟩
theorem zt2{pl:PLs}{fl:FLs}{s:aq}(x:UF pl fl s=true):DctsAre pl fl (s.heap.nsMap mainGlobals) s.heap:=by
 obtain⟨a,b⟩:=bh.mp x;refine⟨fun q l=>?_,fun q l=>?_⟩
 ·obtain⟨v,e,y⟩:=Vj (bw.mp a q l);obtain⟨u,C,y⟩:=Vj y;exact⟨v,u,e,C,y⟩
 ·obtain⟨v,e,y⟩:=Vj (bw.mp b q l);obtain⟨u,C,y⟩:=Vj y;exact⟨v,u,e,C,y⟩
theorem zem{h h':aY}(k:∀b o,h.get? b=some o->h'.get? b=some o):∀{es ks},Uo h es ks=true->Uo h' es ks=true
 | [],[],_=>rfl
 | e::r,q::z,x=>by
  simp only[Uo,aM]at x ⊢;exact⟨⟨x.1.1,zgm x.1.2 k⟩,zem k x.2⟩
theorem DctsAre.keeps{pl:PLs}{fl:FLs}{mg:qM}{h h':aY}(x:DctsAre pl fl mg h)(k:∀b o,h.get? b=some o->h'.get? b=some o):DctsAre pl fl mg h' :=
 ⟨fun q l=>let ⟨v,es,a,b,c⟩:=x.p q l;⟨v,es,a,zds b k,zem k c⟩,fun q l=>let ⟨v,es,a,b,c⟩:=x.f q l;⟨v,es,a,zds b k,c⟩⟩
def hshs(dl:FLs)(h:aY):List (Option (List Int)):=dl.map fun q=>((globalOf h q.1).bind (Qs h)).map (nH (·.hash))
def hshW(dl:FLs)(w:aW):List (Option (List Int)):=dl.map fun q=>some (q.2.map (hashStr w))
def HshOk(dl:FLs)(w:aW)(h:aY):Prop:=∀q∈dl,((globalOf h q.1).bind (Qs h)).map (nH (·.hash))=some (q.2.map (hashStr w))
theorem ztv{dl:FLs}(w:aW)(s:aq)(e:hshs dl s.heap=hshW dl w):HshOk dl w s.heap:=by
 unfold hshs hshW at e;intro q l;exact List.map_inj_left.mp e q l
theorem zf4{h h':aY}{x:Str}{v:ah}(e:globalOf h x=some v)(k:∀b o,h.get? b=some o->h'.get? b=some o):globalOf h' x=some v:=by
 unfold globalOf at e ⊢;cases g:h.get? mainNs with
 | none=>rw[g]at e;cases e
 | some o=>rw[g]at e;rw[k _ _ g];exact e
theorem znR{dl:FLs}(w:aW)(h h':aY)(x:HshOk dl w h)(k:∀b o,h.get? b=some o->h'.get? b=some o):HshOk dl w h':=fun q l=>by
 have e:=x q l;cases g:globalOf h q.1 with
 | none=>rw[g]at e;cases e
 | some v =>
  rw[g]at e;rw[zf4 g k];simp only[oA]at e ⊢;cases g2:Qs h v with
  | none=>rw[g2]at e;cases e
  | some u=>rw[g2]at e;rw[zds g2 k];exact e
theorem HshOk.at{dl:FLs}{w:aW}{h:aY}{mg:qM}(x:HshOk dl w h)(G:h.Ns mainGlobals mg){n:Str}{l:List Str}(m:(n,l)∈dl){v:ah}{u:List dI}(e:mg n=some v)(d:Qs h v=some u):u.map (·.hash)=l.map (hashStr w):=by
 have y:=x _ m;rw[Claim2Try.globalOf_of_ns G,e]at y;simp only[oA]at y;rw[d]at y;exact aO y
theorem zlH{k:Str}{v:ah}(h:keyO k v=true):∃t,v=.str k t:=by
 unfold keyO at h;split at h
 ·rename_i x t;have:x=k:=by simpa using h
  subst this;exact⟨t,rfl⟩
 ·cases h
theorem ziZ{w:aW}{h:aY}:∀{v:List dI}{u:List (Str×List Str)},Uo h v u=true->v.map (·.hash)=(u.map (·.1)).map (hashStr w)->eL (PtE w (JH h)) v u
 | [],[],_,_=>.nil
 | e::r,q::z,x,y=>by
  simp only[Uo,aM]at x;obtain⟨⟨L,J⟩,C⟩:=x;simp only[bZ,gE]at y;have s:TupsAre [(q.1,q.2)] (fun _=>some e.val) h:=fun p G=>by
   cases az.mp G;exact⟨_,rfl,J⟩
  obtain⟨b,I,st⟩:=s.st (az.mpr rfl);exact .cons ⟨y.1,zlH L,b,aO I,st⟩ (ziZ C y.2)
theorem DctsAre.st{pl:PLs}{fl dl:FLs}{P:aK}{w:aW}{mg:qM}{h:aY}(x:DctsAre pl fl mg h)(y:HshOk dl w h)(G:h.Ns mainGlobals mg){n:Str}{l:List (Str×List Str)}(m:(n,l)∈pl)(m2:(n,l.map (·.1))∈dl)(nd:(l.map (·.1)).Nodup):StD P w (JH h) mg n l:=by
 obtain⟨v,J,a,b,c⟩:=x.p _ m;have C:=y.at G m2 a b;obtain⟨ad,ar,I,rfl,ns,e,rfl⟩:=zjr b;exact zq8 a ns (U6 e) (ziZ c C) nd
def StF(P:aK)(w:aW)(K:qF)(mg:qM)(x:Str)(C:List Str):Prop :=
 ∃(a:ak) (o:Obj) (l:Array dI) (y:Nat) (v:List (Str×ah)),mg x=some (.ref a)/\(a == sysModules)=false/\K.lookup a=some o/\o.ExactDict/\o.data=.dict l y/\KeysOf (strKind P w) l/\Pairs (strKind P w) l.toList v/\(v.map (·.1)).Nodup /\
  ∀k∈C,∃f,valueAt v k=some (.ref f)/\mg k=some (.ref f)
theorem zlY{P:aK}{w:aW}{mg:qM}:∀{G:List dI}{I:List Str},YR mg G I=true->G.map (·.hash)=I.map (hashStr w) ->
  ∃v,Pairs (strKind P w) G v/\v.map (·.1)=I/\(∀e∈G,∃k,(strKind P w).is k e.key=true/\e.hash=(strKind P w).hash k)/\∀k∈I,∃f,(k,cG f)∈v/\mg k=some (.ref f)
 | [],[],_,_=>⟨[],.nil,rfl,(fun e h=>nomatch h),fun k h=>nomatch h⟩
 | e::r,q::z,x,y=>by
  simp only[YR,aM]at x;obtain⟨⟨S,C⟩,L⟩:=x;simp only[bZ,gE]at y;obtain⟨v,a1,a2,U,Y⟩:=zlY (P:=P) L y.2;obtain⟨t,R⟩:=zlH S;have u:(strKind P w).is q e.key=true:=by rw[R];show df q (.str q t)=true;simp[df]
  refine⟨(q,e.val)::v,.cons u rfl a1,by simp[a2],fun N J=>?_,fun k u=>?_⟩
  ·rcases aA.mp J with rfl|J
   ·exact⟨q,u,y.1⟩
   ·exact U N J
  ·rcases aA.mp u with rfl|u
   ·unfold zrw at C;split at C
    ·rename_i a b Z e2;have:a=b:=by simpa using C
     subst this;exact⟨a,by rw[Z];exact .head _,e2⟩
    ·cases C
   ·obtain⟨f,m,g⟩:=Y k u;exact⟨f,.tail _ m,g⟩
theorem zhT{l:List (Str×ah)}(nd:(l.map (·.1)).Nodup){k:Str}{v:ah}(m:(k,v)∈l):valueAt l k=some v:=by
 induction l with
 | nil=>exact nomatch m
 | cons p l x =>
  rw[bZ,eS]at nd;rcases aA.mp m with rfl|m
  ·simp[valueAt,fJ]
  ·have ne:¬p.1=k:=fun z=>nd.1 (z▸aS.mpr ⟨_,m,rfl⟩)
   have:=x nd.2 m;simpa[valueAt,fJ,ne] using this
theorem DctsAre.sf{pl:PLs}{fl dl:FLs}{P:aK}{w:aW}{mg:qM}{h:aY}(x:DctsAre pl fl mg h)(y:HshOk dl w h)(G:h.Ns mainGlobals mg){n:Str}{C:List Str}(m:(n,C)∈fl)(m2:(n,C)∈dl)(nd:C.Nodup):StF P w (JH h) mg n C:=by
 obtain⟨v,es,a,b,c⟩:=x.f _ m;have S:=y.at G m2 a b;obtain⟨ad,ar,J,rfl,ns,e,rfl⟩:=zjr b;obtain⟨I,a1,a2,Y,Z⟩:=zlY (P:=P) c S;have l:(I.map (·.1)).Nodup:=by rw[a2];exact nd
 refine⟨ad,_,ar,J,I,a,ns,U6 e,⟨rfl,rfl,rfl⟩,rfl,fun R L=>Y R (by simpa using L),a1,l,fun k U=>?_⟩
 obtain⟨f,m,g⟩:=Z k U;exact⟨f,zhT l m,g⟩
theorem zuP{lw:PySem.W.OpenLaw}{q:aK}{loose:List Str}{XP:(Str->Option ah)->aY->Prop}{YP:aW->aY->Prop}{d:DefRec}{k:Nat}(U:k<=60)(Z:lw.most=some 63)(L:d.params.defaults=[])
  (F:∀(w:aW) (s₀:aq) (mg C:qM) (y:ak) (h:aY),Ground q loose [] XP w s₀ mg C h->YP w h->mg d.name=some (.ref y) ->
   ∃fd:cT,(∀(s:aq) (u:ah),o8 s fd ⟨[u],[]⟩ [("_law_script",u)])/\∀base:aY,(JH h).In base->base.Ns mainGlobals mg->FnOk lw.prog w (JH h) mg base CX0 k y fd ["_law_script"] (zoT (JH h))) :
  PySem.W.WalkO q loose XP YP lw.row.toRowW d [] (fun f R=>wZ f R):=by
 refine Att.attach_call Z L fun w s₀ N mg C y o pm cd doc a R ns G Y ho hd hcd J x v l S=>?_
 obtain⟨fd,hb,hF⟩:=F w s₀ mg C y _ G Y J;exact znA zkj G.T.g G.T.b G.T.builtins G.T.nolimit S x v (cH l (by decide)) ((show Room 60 callerA from⟨rfl,by decide,by decide,rfl⟩).mono U) hF hb (fun H hO hS=>⟨a,ns,rfl,hS,l,fun _=>rfl⟩) fun H e s' z=>z
end Bd
namespace L2
open PySem PySem.Spec PyProof.Rows
section
variable{K:qF}{C:Ctx}{ρ:En}{σ:St}{H:Hp}{n:Nat}
theorem zi1{i:Nat}{v:V}(hi:ρ[i]?=some none){a:ak}:Own C ρ (σ.set i (some v)) a↔Own C ρ σ a:=by
 have key:OwnS ρ (σ.set i (some v)) a↔OwnS ρ σ a:=by
  constructor
  ·rintro⟨j,c,m,l,u⟩;have ne:i≠j:=fun z=>by subst z;rw[hi]at l;cases l
   rw[aV ne]at u;exact⟨j,c,m,l,u⟩
  ·rintro⟨j,c,m,l,u⟩;have ne:i≠j:=fun z=>by subst z;rw[hi]at l;cases l
   exact⟨j,c,m,l,by rw[aV ne];exact u⟩
 unfold Own;rw[key]
theorem Stt.hole{i:Nat}{v:V}(hi:ρ[i]?=some none)(S:Stt K C ρ σ H n):Stt K C ρ (σ.set i (some v)) H n:=by
 have l:Own C ρ (σ.set i (some v))=Own C ρ σ:=funext fun a=>propext (zi1 hi)
 have ne:∀{j:Nat} {c:Cell},ρ[j]?=some (some c)->(σ.set i (some v))[j]?=σ[j]?:=fun {j c} h=>aV fun z=>by subst z;rw[hi]at h;cases h
 refine⟨by rw[fH];exact S.len,fun j d h=>?_,fun j d h=>?_,fun j d h=>?_,fun j d h=>?_,fun j d h=>?_,fun j k c e a m1 m2 y x G u=>?_,S.hnd,S.ext,S.hx⟩
 ·rw[l,ne h];exact S.val j d h
 ·rw[l,ne h];exact S.own j d h
 ·rw[l,ne h];exact S.dct j d h
 ·rw[l,ne h];exact S.rdo j d h
 ·rw[l,ne h];exact S.dtt j d h
 ·rw[ne y]at G;rw[ne x]at u;exact S.dif j k c e a m1 m2 y x G u
end
section
variable{X:Cx}{e:aX}{es:List aX}{x y:Str}{pos p1 p2 p3 p4 p5 p6:Pos}{e1:aX}{d:DTE}{te:TE}{t:TA}{ks:List Str}{ds:DTA}{i m n:Nat}
def zuW(X:Cx)(ks:List Str)(te:TE):TE:=fun σ H Q=>te σ H fun y l=>∃z,y=.str z/\z∈ks/\∀f,X.mg z=some (.ref f)->Q (.ref f) l
theorem zpd(h:Bd.StF X.prog X.w X.K X.mg x ks)(L:Gl X x)(C:PE X e te)(hs:NoSl e)(hd:(x == ("__debug__":Str))=false:=by rfl):PE X (.Subscript (.Name x p1) e pos) (zuW X ks te):=by
 obtain⟨a,o,es,v,vs,U,h2,h3,G,J,h6,h7,Y,h9⟩:=h;intro pins s σ H Q I hw;refine zkp kj.lookup hs (U1 I L U (thn (C pins s σ H _ I hw) fun R s1 ⟨y,H1,l,ry,z,ez,Z,q⟩=>?_) hd)
 subst ez;obtain⟨t,rfl⟩:∃t,R=iT z t:=ry;obtain⟨f,g1,g2⟩:=h9 z Z;have dd:s1.heap.DictOf (strKind X.prog X.w) a vs:=⟨o,es,v,l.kIn a o h3,G,J,h6,h7,Y⟩;exact⟨dd.typeIs,ow (knd:=strKind X.prog X.w) (k:=z) (by show df z (.str z t)=true;simp[df]) dd.mapOf g1 ⟨.ref f,H1,l.tok _,rfl,q f g2⟩⟩
end
end L2
namespace Bd
open PySem PySem.W PySem.Calls L2 PyProof.Rows
def JW(u:String->Option fZ)(p:aK)(w:aW)(l:Nat)(ann:Option ah):Nat->uc->Thread->Option uc
 | 0,_,_=>none
 | n+1,s,t=>match through t with
  | true=>some s
  | false=>match stepOk l ann t with
   | false=>none
   | true=>match stepT (denote u) p w s t with
    | some (s',t')=>JW u p w l ann n s' t'
    | none=>none
theorem zfe{u:String->Option fZ}{p:aK}{w:aW}{l:Nat}{ann:Option ah}:∀{n:Nat}{s s':uc}{t:Thread},JW u p w l ann n s t=some s'->topRun u p w l ann n s.abs t=some s'.abs
 | 0,_,_,_,h=>by cases h
 | n+1,s,s',t,h=>by
  unfold JW at h;unfold topRun;cases he:through t with
  | true=>rw[he]at h;cases h;rfl
  | false =>
   rw[he]at h;cases hk:stepOk l ann t with
   | false=>rw[hk]at h;cases h
   | true =>
    rw[hk]at h;cases hs:stepT (denote u) p w s t with
    | none=>rw[hs]at h;cases h
    | some r=>obtain⟨v,x⟩:=r;rw[hs]at h;dsimp only at h ⊢;rw[stepT_spec hs];exact zfe h
def zoC:List Obj->Nat->BT->BT
 | [],_,t=>t
 | o::r,i,t=>zoC r (i+1) (t.ins i o)
noncomputable def zqG (P:pL):BT:=zoC (bz P).objs.toList 0 .nil
noncomputable def zci (w:aW) (os:fe):uc:=⟨zqG w.params,11,(bz w.params).life,#[],lB,mo,os⟩
theorem boot_abs(P:pL):absHeap (zqG P) 11 (bz P).life=bz P:=by kernel_rfl
theorem zmv(P:pL):(bz P).objs.size=11:=by kernel_rfl
theorem zqF(P:pL):(bz P).isNs mainGlobals=true:=by kernel_rfl
def UG(p:aK)(h₀:aY)(l:aq):Bool:=staticsOk (importedModules p.main.body) h₀ l.heap&&namesBound p l.heap&&gensDone l&&laidKept h₀ l.heap
theorem zln{p q:aK}{loose:List Str}{y:aq->Bool}{α:Type}{v:aq->α}{x:aW->α}{N:Nat}(e:opening p=plainProg p.main.scope.names)(I:Nat.ble 600 N=true)(R:∀s,fenceModules? p s=some s)
  (run:∀(w:aW) (os:fe),(JW treeTable p w 11 ((bz w.params).nsMap mainGlobals "__annotations__") N (zci w os) (topStub p)).map (fun s=>(UG p (bz w.params) s.abs,openSeen q loose (importedModules p.main.body) y true s.abs,v s.abs))=some (true,openGood q loose,x w)) :
  LeftO p q loose y v x N true:=fun w=>by
 obtain⟨⟨h,gs,d,k,os⟩,L,S⟩:=lC.mp (boot_open e I R w);obtain⟨rfl,rfl,rfl,rfl⟩:h=bz w.params/\gs=#[]/\d=lB/\k=mo:=by simpa using S
 obtain⟨u,r,l⟩:=lC.mp (run w os);have J:(zci w os).abs=⟨bz w.params,#[],lB,mo,os⟩:=by
  show(⟨absHeap (zqG w.params) 11 (bz w.params).life,#[],lB,mo,os⟩:aq)=_
  rw[boot_abs]
 have r:=zfe r;rw[J]at r;obtain⟨C,l2⟩:=vF l;obtain⟨l2,G⟩:=vF l2;have t:topFrom treeTable p w N ⟨bz w.params,#[],lB,mo,os⟩=some u.abs:=by
  unfold topFrom;dsimp only;rw[zqF,zmv,r];show(match UG p (bz w.params) u.abs with|true=>_|false=>_)=_
  rw[C]
 unfold openEnds;rw[L];show(topFrom treeTable p w N _).map _=_
 rw[t];exact congrArg some (iF l2 G)
theorem zsn{α T1 T2 T3 T4 T5 T6 T7 T8 T9 C G:Type}{o:Option α}{f1:α->T1}{f2:α->T2}{L:α->T3}{f4:α->T4}{I:α->T5}{R:α->T6}{J:α->T7}{f8:α->T8}{N:α->T9}{u:α->C}{l:α->G}{S:T1}{U:T2}{v3:T3}{v4:T4}{v5:T5}{Y:T6}{Z:T7}{v8:T8}{v9:T9}{y:C}{v:G}
  (ha:o.map (fun s=>(f1 s,l s,L s,f8 s,u s,R s))=some (S,v,v3,v8,y,Y)) (hb:o.map f2=some U) (hc:o.map f4=some v4) (hd:o.map I=some v5) (he:o.map J=some Z) (hf:o.map N=some v9) :
  o.map (fun s=>(f1 s,(f2 s,L s,f4 s,I s,R s,J s,f8 s,N s,u s),l s))=some (S,(U,v3,v4,v5,Y,Z,v8,v9,y),v):=by
 cases o with
 | none=>cases hc
 | some x =>
  have a:(f1 x,l x,L x,f8 x,u x,R x)=(S,v,v3,v8,y,Y):=aO ha;have b:f2 x=U:=aO hb;have e:J x=Z:=aO he;have f:N x=v9:=aO hf;have c:f4 x=v4:=aO hc;have d:I x=v5:=aO hd;simp only[kF]at a;show some (f1 x,(f2 x,L x,f4 x,I x,R x,J x,f8 x,N x,u x),l x)=_
  rw[a.1,a.2.1,a.2.2.1,a.2.2.2.1,a.2.2.2.2.1,a.2.2.2.2.2,b,c,d,e,f]
theorem zkB{w:aW}{P:aW->Prop}(row:String)(h0:∀w:aW,P (w.withFollow row false))(l:∀w:aW,P (w.withFollow row true)):P w:=by
 have e:=World.withFollow_self w row;cases hb:w.params.followText row <;> rw[hb]at e
 ·rw[<- e];exact h0 w
 ·rw[<- e];exact l w
end Bd
namespace L2
open PySem PySem.Spec PyProof.Rows
abbrev GX:=List af->Nat->(af->Nat->Prop)->(Str->Nat->Prop)->Prop
def spX(K:qF)(mg:qM)(m:Nat)(g:GX):Sp:=fun y H Q E=>∃(hd:Option ak) (O:ak->Prop) (ts:qD) (n:Nat) (R:qN) (x:Str->Nat->Prop),Reps K hd O H y ts/\Hn hd H n/\(∀a,O a->MutO (H a))/\(∀a,hd=some a->O a)/\ts.length=m/\g ts n R x /\
 (∀t u v l,R t u->ExtE hd H l->Hn hd l u->Rep K hd O l v t->Q v l)/\∀c u l C,x c u->ExtE hd H l->Hn hd l u->mg c=some (.ref C)->E (.ref C) none l
def EX(X:Cx):XK:=fun u _ l=>∃C,u=.ref C/\XW X C l
def OwnE(K:qF)(mg:qM)(x:Str):Prop:=∃C,mg x=some (.ref C)/\OwnX K mg x C
theorem zjq{X:Cx}{x:Str}{np v pos:Pos}(O:OwnE X.K X.mg x)(hc:X.calm=true:=by rfl)(u:Gl X x:=by rfl)(hd:(x == ("__debug__":Str))=false:=by rfl):DS X (.Raise (some (.Call (.Name x np) [] [] v)) none pos) (fun D _ n=>D.xr x n):=by
 obtain⟨C,b,O⟩:=O;exact⟨_,znh O hc u hd,fun _ _ _ H n D G S h g=>g.xr x n H h S.hnd (fun a o y _ _=>y) C b⟩
section
variable{X:Cx}{e e1:aX}{es:List aX}{x y:Str}{pos p1 p2 p3 p4 p5 p6:Pos}{d:DTE}{t:TA}{ks:List Str}{ds:DTA}{i m n:Nat}
def zq5(X:Cx)(i:Nat)(t:TA):TE:=fun σ H Q=>∃(z:Str) (st:dG) (f:ak) (fd:cT) (k:Nat) (ps:List Str) (l:Sp),σ[i]?=some (some (.ref f))/\Bd.Def X.K X.mg z st ps f fd/\FnOk X.prog X.w X.K X.mg X.base (CX1 X.prog X.w) k f fd ps l/\Room k X.A/\t σ H fun v u=>l v u Q (EX X)
theorem znm(h:PB X (e::es) t)(Y:X.N[i]?=some y)(Z:Vis X.env.scope y)(hd:(y == ("__debug__":Str))=false:=by rfl) (J:(y == ("__classdict__":Str))=false:=by rfl):PE X (.Call (.Name y p1) (e::es) [] pos) (zq5 X i t):=by
 intro pins s σ H Q I hw;obtain⟨z,st,f,fd,k,ps,sp,e1,D,G,hr,hw⟩:=hw;refine fB (thn (QW (pos:=p1) Y Z hd J pins s σ H (fun v L=>v=.ref f/\L=H) I ⟨_,e1,rfl,rfl⟩) fun u s1 ⟨v,L,S,r,ev,U⟩=>?_)
 subst ev U;cases(show u=.ref f from r)
 refine i5 (h₀:=X.base) S.ok.mod.kin D.F.kp (thn (h.pa pos pins s1 σ L _ S hw) fun us s2 ⟨vs,H2,R,r2,q⟩=>⟨R.kIn,?_⟩) h.hd.1 (h.hd.2 pos)
 exact zon G hr D.b .nil zvC R r2 (by rw[bK];exact q)
end
end L2
namespace Bd
open PySem PySem.W PySem.Calls L2 PyProof.Rows
def FqX(P:aK)(w:aW)(K:qF)(mg:qM)(base:aY)(x:Str)(st:dG)(ps:List Str)(k:Nat)(l:Sp):Prop:=∃f fd,Def K mg x st ps f fd/\FnOk P w K mg base (CX1 P w) k f fd ps l
def FQX(Z:ZZ)(x:Str)(st:dG)(ps:List Str)(k m:Nat)(g:GX):Prop:=FqX Z.P Z.w Z.K Z.mg Z.base x st ps k (spX Z.K Z.mg m g)
theorem okX{Z:ZZ}{x:Str}{st:dG}{ps N:List Str}{k m:Nat}{g:GX}(D:Dq Z.K Z.mg x st ps)(S:Ua N ps (JF st))(hm:m=ps.length)
  (hb:∀(f:ak) (l:ah) (A:bq) (outer:List Env) (s:aq) (H:Hp) (E:XK),Room k (A.deeper (envOfC x (JF st) s.heap.objs.size f l))->∃d,DSs (cxOf (CX1 Z.P Z.w) Z.P Z.w Z.K Z.mg Z.base N x (JF st) f l A outer s H E) (Qh st) d /\
   ∀ts n R U,ts.length=m->g ts n R U->d { nx:=fun _ u=>R .none u,rt:=R,xr:=U } (Qb N ts) n):FQX Z x st ps (k+1) m g:=by
 obtain⟨f,fd,D⟩:=D;refine⟨f,fd,D,?_⟩;obtain⟨oc,od,kV,doc,pm,an,l,ct,osl,rfl,lk,hcd⟩:=D.F.ex;refine ztI lk hcd S (fun vs H Q E h=>?_) fun A outer s H vs Q E hr h=>?_
 ·obtain⟨hd,O,ts,n,R,U,r,_,_,_,Y,_⟩:=h;rw[r.length,Y,hm]
 ·obtain⟨hd,O,ts,n,R,U,r,hn,dom,hx,Y,hg,hq,hE⟩:=h;obtain⟨d,⟨t,pt,ht⟩,hd'⟩:=hb f l A outer s H E hr;obtain⟨S0,no⟩:=zgn (N:=N) r hn dom hx;refine⟨t,pt,ht ⟨hd,O⟩ _ _ H n _ _ S0 (hd' ts n R U Y hg) ⟨fun ρ' σ' I u h S' J=>?_,fun t u v I h y J rp=>?_,fun _ _ _ _ h=>h.elim,fun _ _ _ _ h=>h.elim,fun c u I h y J C hC=>?_⟩⟩
  ·exact hq .none u .non I h (fun a o L G=>(J a o L G (no a)).1) S'.hnd .non
  ·exact hq t u v I h (fun a o L G=>J a o L G (no a)) y rp
  ·exact zmQ (hE c u I C h (fun a o L G=>J a o L G (no a)) y hC)
theorem FQX.nox{Z:ZZ}{x:Str}{st:dG}{ps:List Str}{k m:Nat}{g:GX}(F:FQX Z x st ps k m g):FQ Z x st ps k (spD Z.K m fun ts n R=>g ts n R fun _ _=>False):=by
 obtain⟨f,fd,D,G⟩:=F;have up:∀{l H Q E},spD Z.K m (fun ts n R=>g ts n R fun _ _=>False) l H Q E->spX Z.K Z.mg m g l H Q (fun _ _ _=>False):=fun {l H Q E} h=>by
  obtain⟨hd,O,ts,n,R,r,L,dom,hx,u,C,v⟩:=h;exact⟨hd,O,ts,n,R,_,r,L,dom,hx,u,C,v,fun _ _ _ _ h=>h.elim⟩
 refine⟨f,fd,D,⟨fun l H Q E h=>G.len l H Q _ (up h),fun A outer s H args J l Q E S y N I U=>?_⟩⟩
 refine gV (G.run A outer s H args J l Q (fun _ _ _=>False) S y N I (up U)) fun r s' h=>?_
 cases r with
 | error e=>obtain⟨_,_,_,_,_,_,_,z⟩:=h;exact z.elim
 | ok fl=>cases fl <;> exact h
end Bd
namespace L2
open PySem PySem.Spec PyProof.Rows
section
variable{X:Cx}{e e1:aX}{es:List aX}{x y:Str}{pos p1 p2 p3 p4 p5 p6:Pos}{d:DTE}{ks:List Str}{ds:DTA}{i m n:Nat}
def zru(i:Nat)(C:List (Str×GX))(d:DTE)(ds:DTA):DTS:=fun D l n=>d l n fun t u=>lStr t fun z=>l[i]?=some none/\∃q∈C,q.1=z/\ds l u fun ts v=>q.2 ts v D.rt D.xr
def UI(X:Cx)(ks:List Str)(n m:Nat)(l:List (Str×GX)):Prop:=∀q∈l,q.1∈ks/\∃st ps k,k<=n/\Bd.FqX X.prog X.w X.K X.mg X.base q.1 st ps k (spX X.K X.mg m q.2)
theorem UI.nil{X:Cx}{ks:List Str}{n m:Nat}:UI X ks n m []:=fun _ h=>nomatch h
theorem UI.cons{X:Cx}{ks:List Str}{n m k:Nat}{st:dG}{ps:List Str}{x:Str}{g:GX}{u:List (Str×GX)}(F:Bd.FqX X.prog X.w X.K X.mg X.base x st ps k (spX X.K X.mg m g))(r:UI X ks n m u)(hx:x∈ks:=by decide +kernel)(v:k<=n:=by decide):UI X ks n m ((x,g)::u):=fun q l=>by
 rcases aA.mp l with rfl|l
 ·exact⟨hx,st,ps,k,v,F⟩
 ·exact r q l
theorem zn2(M:Bd.StF X.prog X.w X.K X.mg x ks){tb:List (Str×GX)}(F:UI X ks n m tb)(hr:Room n X.A)(hN:X.N.Nodup)(h:DE X e d)(I:DB X (e1::es) ds)(hm:(e1::es).length=m:=by rfl)(hi:X.N[i]?=some y:=by rfl)(hl:Loc X.env.scope y:=by first|exact cX rfl|exact ou rfl)
  (hs:swapsWith (.Subscript (.Name x p1) e p2) (some (.Name y p3)) p4.line X.env=pure false:=by rfl) (hf:X.fn y=true\/X.env.scope.names.lookup y=some .local:=by walk_at "F") (hg:Gl X x:=by rfl) (hsl:NoSl e:=by intro _ _;rfl)
  (hd:(x == ("__debug__":Str))=false:=by rfl) (hv:Vis X.env.scope y:=by walk_at "V") (hd2:(y == ("__debug__":Str))=false:=by rfl) (hcd:(y == ("__classdict__":Str))=false:=by rfl) :
  DSs X [.Assign [.Name y p3] (.Subscript (.Name x p1) e p2) p4,.Return (some (.Call (.Name y p5) (e1::es) [] p6)) pos] (zru i tb d ds):=by
 obtain⟨ta,pa,h⟩:=h;obtain⟨tb',pb,I⟩:=I;refine⟨_,Qx (Qz hN hi hl (zpd M hg pa hsl hd) hs hf) (U2 (Zl (znm pb hi hv hd2 hcd))),fun C L σ H n0 D D' S hw g=>?_⟩
 refine h C L σ H n0 _ _ S hw fun t n1 v H1 U e1 h1 q1=>?_
 cases t with
 | str z =>
  obtain⟨ho,q,mq,rfl,U⟩:=U;obtain⟨mk,st,ps,k,hk,f,fd,Df,G⟩:=F q mq;refine⟨_,q1.strI,mk,fun J ef=>?_⟩
  have:J=f:=by have:=Df.m.symm.trans ef;cases this;rfl
  subst this;have S1:=(S.on e1 h1).hole (v:=.ref J) ho;have li:i<σ.length:=by
   have:i<L.length:=(ax.mp ho).1;rw[<- S.len];exact this
  refine⟨q.1,st,J,fd,k,ps,_,by rw[cf li],Df,G,hr.mono hk,?_⟩
  refine I C L _ H1 n1 _ _ S1 U fun ts n2 vs H2 r2 e2 h2 q2 l2=>?_
  have S2:=S1.on e2 h2;refine⟨C.hd,Own C L (σ.set i (some (V.ref J))),ts,n2,D'.rt,D'.xr,q2,h2,fun a=>S2.lst,fun a z=>.inl (S.hx a z),l2.trans hm,r2,fun t n' v H' rt Z h3 q3=>?_,fun c n' H' Cc rx Z h3 hC=>?_⟩
  ·exact g.rt t n' v H' rt h3 (fun a o I Y _=>(e1.trans (e2.trans Z)) a o I Y) (q3.mono (fun _ _ _ z=>.inl z) fun _ _ _ z=>z)
  ·exact⟨Cc,rfl,g.xr c n' H' rx h3 (fun a o I Y _=>(e1.trans (e2.trans Z)) a o I Y) Cc hC⟩
 | _=>exact U.elim
end
section
variable{i:Nat}{tb:List (Str×GX)}{d:DTE}{ds:DTA}{D:JP}{ρ:En}{n:Nat}
instance zwH:Stp (zru i tb d ds D ρ n) (d ρ n fun t n1=>lStr t fun z=>ρ[i]?=some none/\∃q∈tb,q.1=z/\ds ρ n1 fun ts n2=>q.2 ts n2 D.rt D.xr):=⟨fun h=>h⟩
end
theorem isiF{f:af->Bool}{b:Bool}{t:af}{R:af->Prop}(p:Pln t)(e:f t=b)(h:R (.bool b)):lIsi f t R:=⟨p,e▸h⟩
theorem znL{d:af}(h:isTup d=true):∃ts,d=.tuple ts:=by
 cases d with
 | tuple ts=>exact⟨ts,rfl⟩
 | _=>cases h
theorem zvH{l:qD}(h:l.length=2):∃a b,l=[a,b]:=by
 cases l with
 | nil=>cases h
 | cons a t =>
  obtain⟨b,e⟩:=List.length_eq_one_iff.mp (ub h);exact⟨a,b,e▸rfl⟩
end L2
namespace L2
open PySem PySem.Spec PySem.W PySem.Calls PyProof.Rows
section
variable{X:Cx}{pins:qO}{σ:St}{H H':Hp}{s:aq}
theorem Inv.adopt{a:ak}{o:HO}(I:Inv X pins σ H s)(v:H a=none)(h0:X.s₀.heap.get? a=none)(C:a≠X.env.locals)(hc:∀x c,X.env.cells.lookup x=some c->c≠a)(l:∀p∈X.pn++pins,p.1≠a)
  (new:JL X.prog X.w (upd H a o) s.heap a o):Inv X pins σ (upd H a o) s:=by
 have up:∀b u,H b=some u->upd H a o b=some u:=fun b u e=>by rw[Jn (Qv e v)];exact e
 refine⟨I.ok,I.os,I.bare,⟨I.base.keep,I.base.slot,fun b u e n hx=>?_,I.base.there,fun b xs e=>up b _ (I.base.tups b xs e),fun b u xs e=>up b _ (I.base.frzs b u xs e),fun b q e=>up b _ (I.base.tbls b q e)⟩,I.loc,I.cell,?_,fun x c e=>?_,fun p h=>?_,fun b u e=>?_,I.len⟩
 ·rw[Jn fun z=>by rw[z,h0]at e;cases e]
  exact I.base.free b u e n hx
 ·rw[Jn C.symm];exact I.free
 ·rw[Jn (hc x c e)];exact I.freeC x c e
 ·have q:=I.pin p h;exact⟨q.1,by rw[Jn (l p h)];exact q.2.1,q.2.2⟩
 ·by_cases hb:b=a
  ·subst hb;rw[JM]at e;cases e;exact new
  ·rw[Jn hb]at e;exact(I.hok b u e).stay (fun _ _ _ q=>q) (fun d q=>up d _ q) (fun d xs q=>up d _ q) fun d G xs q=>up d _ q
theorem Inv.unbound{i:Nat}{n:Str}{h':aY}{t':Nat}{v:Option ah}{m:qM}(I:Inv X pins σ H s)(hN:X.N.Nodup)(hi:X.N[i]?=some n)(hk:X.env.kindOf n=some .local)(hm:s.heap.Ns X.env.locals m)
  (hn:h'.Ns X.env.locals (fun x=>if x=n then v else m x)) (hs:eE X.env.locals s.heap h'):Inv X pins (σ.set i none) H { s with heap:=h',toks:=t' }:=by
 have Y:Inv X pins (σ.set i none) H s:=I.weak (by simp) fun j u e=>by
  rw[g6]at e;split at e
  ·split at e <;> cases e
  ·exact e
 obtain⟨m0,J,hl⟩:=id Y.loc;have em:m0=m:=by
  obtain⟨o,es,ep,e,d,_,r⟩:=J;obtain⟨R,es',ep',U,d',_,r'⟩:=hm;rw[e]at U;cases U;rw[d]at d';cases d'
  funext n
  rw[<- r n,r' n]
 subst em;have kp:∀b o,b≠X.env.locals->s.heap.get? b=some o->h'.get? b=some o:=fun b o C e=>(hs.2 b C).trans e
 have fr:∀b u,H b=some u->b≠X.env.locals:=fun b u e z=>by rw[z,I.free]at e;cases e
 refine⟨I.ok,I.os,I.bare,⟨fun b o e L C hx=>?_,fun b o e L C hx=>?_,I.base.free,fun b o e hx=>?_,I.base.tups,I.base.frzs,I.base.tbls⟩,⟨_,hn,fun j x u N S e3=>?_⟩,fun x c e=>?_,I.free,I.freeC,fun p Z=>?_,fun b u e=>?_,Y.len⟩
 ·exact kp b o (aL (aF (aD e) I.ok.above)) (I.base.keep b o e L C hx)
 ·obtain⟨sl,q⟩:=I.base.slot b o e L C hx;exact⟨sl,kp b _ (aL (aF (aD e) I.ok.above)) q⟩
 ·obtain⟨R,q⟩:=I.base.there b o e hx;exact⟨R,kp b R (aL (aF (aD e) I.ok.above)) q⟩
 ·obtain⟨w,r,l⟩:=hl j x u N S e3;refine⟨w,r,?_⟩;rcases l with⟨k,e⟩|⟨k,c,e,z⟩
  ·refine .inl ⟨k,?_⟩;have:x≠n:=fun z=>by
    subst z;have:=zfS hN N hi;subst this;rw[cf (by
     have:=(ax.mp N).1;rw[I.len];exact this)]at S
    cases S
   show(if x=n then v else m0 x)=some w
   rw[if_neg this];exact e
  ·obtain⟨o,G,hd⟩:=z;exact .inr ⟨k,c,e,o,kp c o (I.cne x c e) G,hd⟩
 ·obtain⟨v',o,G,hd⟩:=I.cell x c e;exact⟨v',o,kp c o (I.cne x c e) G,hd⟩
 ·have q:=I.pin p Z;exact⟨kp p.1 p.2 q.2.2.1 q.1,q.2⟩
 ·refine(I.hok b u e).stay (fun c w hc q=>kp c w ?_ q) (fun _ q=>q) (fun _ _ q=>q) fun _ _ _ q=>q
  rcases hc with rfl|hc
  ·exact fr _ _ e
  ·exact fr _ _ hc
end
def SubK(l K:qF):Prop:=∀a o,l.lookup a=some o->K.lookup a=some o
theorem SubK.in{l K:qF}{h:aY}(s:SubK l K)(x:K.In h):l.In h:=fun a o e=>x a o (s a o e)
def Cx.marked(X:Cx)(e:ah):Cx:={ X with A:=X.A.mark (some e),calm:=false,xe:=fun _ _=>False }
section
variable{X:Cx}{pins:qO}{σ:St}{H H':Hp}{s:aq}{e:ah}
theorem Inv.marked(I:Inv X pins σ H s):Inv (X.marked e) pins σ H s :=
 ⟨⟨I.ok.mod,I.ok.kind,I.ok.glob,I.ok.blt,I.ok.above,I.ok.inj,I.ok.has,I.ok.cab,(fun z=>by cases z),I.ok.frames,I.ok.stk,I.ok.exf,I.ok.bs,I.ok.bsz,I.ok.noex,I.ok.exfs,I.ok.funs,I.ok.frf⟩,I.os,I.bare,I.base,I.loc,I.cell,I.free,I.freeC,I.pin,I.hok,I.len⟩
theorem Inv.unmarked(ok:X.Ok)(I:Inv (X.marked e) pins σ H s):Inv X pins σ H s :=
 ⟨ok,I.os,I.bare,I.base,I.loc,I.cell,I.free,I.freeC,I.pin,I.hok,I.len⟩
end
section
variable{X:Cx}{k i ie:Nat}{f Dc:ak}{fd:cT}{ps:List Str}{sp:Sp}{fn T en x:Str}{st:dG}{e:aX}{es:List aX}{t:TA}{p p1 p2 p3 p4 p5 p6 pos:Pos}
def tTry(X:Cx)(i ie:Nat)(Dc:ak)(sp:Sp)(t:TA):TS:=fun D σ H=>t σ H fun I y=>sp I y (fun _ u=>D.nx σ u)
 fun G _ u=>∃C,G=.ref C/\(∃v,SubK v X.K/\exmOne v (.ref C) (.ref Dc)=some true)/\∀l,u l=none->D.nx (((σ.set ie (some (.ref l))).set i (some (.ref l))).set ie none) (upd u l (EXO l C))
theorem zrG(D:Bd.Def X.K X.mg fn st ps f fd)(F:FnOk X.prog X.w X.K X.mg X.base (CX1 X.prog X.w) k f fd ps sp)(hr:Room k X.A)(ha:PB X.nox (e::es) t)(hc:X.calm=true)(hst:X.stack=X.env::X.outer)(hfr:X.env.frame=some X.env.locals)
  (hT:X.mg T=some (.ref Dc)) (hN:X.N.Nodup) (hi:X.N[i]?=some x) (L:X.N[ie]?=some en) (hne:i≠ie) (hx:Loc X.env.scope x) (hen:X.env.kindOf en=some .local) (Y:X.env.scope.names.lookup en=some .local) (hx0:X.ex=[]) (hg:Gl X fn) (hgT:Gl X T)
  (hdb:(fn == ("__debug__":Str))=false) (hdT:(T == ("__debug__":Str))=false) (hde:(en == ("__debug__":Str))=false) (hce:(en == ("__classdict__":Str))=false)
  (hsw:swapsWith (.Call (.Name fn p1) (e::es) [] p2) none p3.line X.env=pure false) (Ks:swapsWith (.Name en p6) (some (.Name x p5)) p4.line X.env=pure false) (hf:X.fn x=true\/X.env.scope.names.lookup x=some .local) (hfe:X.fn en=true\/X.env.scope.names.lookup en=some .local) :
  PS X (.Try [.Expr (.Call (.Name fn p1) (e::es) [] p2) p3] [.ExceptHandler (some (.Name T p)) (some en) [.Assign [.Name x p5] (.Name en p6) p4] pos] [] [] pos) (tTry X i ie Dc sp t):=by
 intro pins s σ H De I h;have hA:X.A.frames=some (X.env::X.outer):=by rw[<- hst];exact I.ok.frames
 refine wpAny_Try_except ?_;refine kK (pd ?_ I.quiet hsw);refine fB (U1 I hg D.m ?_ hdb);refine i5 (h₀:=X.base) I.ok.mod.kin D.F.kp ?_ ha.hd.1 (ha.hd.2 p2);refine c8 (ha.pa p2 pins s σ H _ (I.wish _) h) (fun us s1 hu=>?_) fun _ _ z=>cB z
 obtain⟨vs,H1,U,r,q⟩:=hu;have U:=U.unwish;refine⟨U.kIn,?_⟩;have hl:us.length=ps.length:=by rw[<- r.length];exact F.len _ _ _ _ q
 refine mS (gV (F.run X.A X.stack s1 H1 ⟨us,[]⟩ us vs _ _ hr U.env0 (by have:=D.b s1 us U.kIn (by rw[bK];exact hl);rwa [bK]at this) r q) fun rs s2 hq=>?_)
 cases rs with
 | ok fl =>
  cases fl with
  | ret u =>
   obtain⟨v,H2,J,_,hn⟩:=U.after hq;exact fF (fF ⟨σ,H2,J,hn⟩)
  | next=>exact cB hq
  | brk=>exact cB hq
  | cont=>exact cB hq
 | error ev =>
  obtain⟨G,C,H2,rfl,os,bare,⟨B,a0,fl,ne,nn,st'⟩,C',eC,⟨K0,sK,hex⟩,hnx⟩:=hq;cases eC;have hnx:=hnx G ne;rw[hst]at fl;refine wpAny_looks_onW hA hfr fl fun h3 held up3=>?_
  refine wpAny_landsW held fun h4 fl4 up4=>?_
  have inv:∀R,nK B (X.env::X.outer) G (.ref C) a0 R->s2.heap.UpToSlots R->Inv X pins σ H2 { s2 with heap:=R }:=fun R f5 u5=>by
   obtain⟨un,hk⟩:=st' R f5.1 u5;obtain⟨hh,g,d,tk,os'⟩:=s2;obtain rfl:os'=s1.os:=os;show Inv X pins σ H2 { s1 with heap:=R,gens:=g,drawn:=d,toks:=tk }
   exact U.call (h':=R) (g':=g) (d':=d) (t':=tk) (ch:=[]) un hk bare (fun b z=>absurd z (by simp))
  have J4:=inv h4 fl4 (up3.trans up4);have LT:∀R,nK B (X.env::X.outer) G (.ref C) a0 R->tD (model X.prog X.w) R (typeOf (.ref G)) (.ref C):=fun R f5=>by
   obtain⟨ob,ho,hc⟩:=f5.there;exact hc▸(AX ho).andThen .now
  refine wpAny_handleBy_cons (codeAny_handlers_test ?_) (by intro z;cases z)
  refine fS J4.ok.kind hgT (kJ (by rw[J4.ok.glob];exact J4.mod.glob.keeps J4.bk) hT ?_) hdT
  refine(exm_one (sK.in J4.kIn) (LT h4 fl4) hex).here ?_;refine codeAny_handlers_suite_as (lands_againW fl4 fun R fl5 up5=>?_)
  have J5:=inv R fl5 ((up3.trans up4).trans up5);obtain⟨_,_,_,oe,ws,T',oT,ts,he,⟨hcl,_⟩,hdt,_⟩:=fl5;have nL:G≠X.env.locals:=fun z=>by
   obtain⟨m,⟨o,_,_,q,_⟩,_⟩:=U.loc;rw[<- z,nn]at q;cases q
  have nC:∀y c,X.env.cells.lookup y=some c->c≠G:=fun y c hc z=>by
   obtain⟨v,o,q,_⟩:=U.cell y c hc;rw[z,nn]at q;cases q
  have n0:X.s₀.heap.get? G=none:=by
   cases q:X.s₀.heap.get? G with
   | none=>rfl
   | some o =>
    obtain⟨o',z⟩:=U.base.there G o q (by rw[hx0];simp)
    rw[nn]at z;cases z
  have nP:∀p∈X.pn++pins,p.1≠G:=fun p hp z=>by
   have q:=(U.pin p hp).1;rw[z,nn]at q;cases q
  have J6:=J5.adopt (o:=EXO G C) ne n0 nL nC nP ⟨⟨oe,he,hcl,ws,hdt⟩,⟨oe,he⟩,fun h1 h2 z k=>by
   obtain⟨o,z1,z2⟩:=z;exact⟨o,k o z1,z2⟩⟩
  refine U5 (v:=.ref G) J6 hN L (.inl Y) rfl (fun s6 J7=>?_) hfe
  refine c8 (U2 (show PS (X.marked (.ref G)) (.Assign [.Name x p5] (.Name en p6) p4) (tAsg (tVar ie) (YS i)) from Qz hN hi hx (QW L (.inl Y) hde hce) Ks hf) pins s6 (σ.set ie (some (.ref G))) (upd H2 G (EXO G C))
   { nx:=fun σ' H'=>σ'=(σ.set ie (some (.ref G))).set i (some (.ref G))/\H'=upd H2 G (EXO G C),rt:=fun _ _=>False } J7.marked ⟨.ref G,?_,rfl,rfl⟩) (fun fl s7 hs=>?_) fun _ _ z=>cB z
  ·rw[cf];have:=(ax.mp L).1;rw[I.len];exact this
  cases fl with
  | ret u=>obtain⟨_,_,_,_,_,z⟩:=hs;exact z.elim
  | brk=>obtain⟨_,_,_,z⟩:=hs;exact z.elim
  | cont=>obtain⟨_,_,_,z⟩:=hs;exact z.elim
  | next =>
  obtain⟨σ',H',J8,rfl,rfl⟩:=hs;have J8:=J8.unmarked I.ok;refine ae (lT (U5 (v:=.non) J8 hN L (.inl Y) rfl (fun s8 J9=>?_) hfe))
  obtain⟨m,hm,hlo⟩:=id J9.loc;have li:ie<((σ.set ie (some (V.ref G))).set i (some (V.ref G))).length:=by
   have:=(ax.mp L).1;rw[fH,fH,I.len];exact this
  have some':(m en).isSome=true:=by
   obtain⟨u,ru,lu⟩:=hlo ie en .non L (by rw[cf li]) (.inl Y)
   rcases lu with⟨_,z⟩|⟨z,_⟩
   ·rw[z];rfl
   ·rw[hen]at z;rcases z with z|z <;> cases z
  have hp:(X.env.scope.kind == .class||(X.env.scope.kind == .module&&X.env.locals != X.env.globals))=false:=by rw[I.ok.kind];rfl
  unfold unbindBehindTheSuite;refine iE ?_;unfold unbindName;refine ae (wpAny_point (ae ?_));unfold deleteName;simp only[hen,hp];rw[if_neg (by decide)]
  refine ae (wpAny_nsDel_keeps hm fun h₂ v Z hs₂=>?_)
  simp only[some',dP,aJ,if_false];refine aj (wpAny_point ?_);have J10:=J9.unbound (t':=s8.toks) hN L hen hm Z hs₂;rw[List.set_set]at J10;exact⟨_,_,J10,hnx⟩
end
def zjE(K:qF)(mg:qM)(cs:List Str)(T:Str):Prop:=∃l,mg T=some (.ref l)/\∀c∈cs,∀C,mg c=some (.ref C)->∃u,SubK u K/\exmOne u (.ref C) (.ref l)=some true
def sTry(mg:qM)(cs:List Str)(i ie:Nat)(g:GX)(ds:DTA):DTS:=fun D u n=>u[ie]?=some none/\ds u n fun ts y=>g ts y (fun _ x=>D.nx u x) fun c x=>c∈cs/\∀C,mg c=some (.ref C)->D.nx (u.set i (some (.val (EXC C)))) x
section
variable{K:qF}{C:Ctx}{ρ:En}{σ:St}{H:Hp}{n:Nat}
theorem zkW{i:Nat}(hi:ρ[i]?=some none):Own C ρ (σ.set i none) a↔Own C ρ σ a:=by
 have key:OwnS ρ (σ.set i none) a↔OwnS ρ σ a:=by
  constructor <;> rintro⟨j,c,m,l,u⟩ <;> refine⟨j,c,m,l,?_⟩ <;>
  ·have ne:i≠j:=fun z=>by subst z;rw[hi]at l;cases l
   first|(rw[aV ne]at u;exact u)|(rw[aV ne];exact u)
 exact or_congr aU key
theorem Stt.hole0{i:Nat}(hi:ρ[i]?=some none)(S:Stt K C ρ σ H n):Stt K C ρ (σ.set i none) H n:=by
 have l:Own C ρ (σ.set i none)=Own C ρ σ:=funext fun a=>propext (zkW hi)
 have ne:∀{j:Nat} {c:Cell},ρ[j]?=some (some c)->(σ.set i none)[j]?=σ[j]?:=fun {j c} h=>aV fun z=>by subst z;rw[hi]at h;cases h
 refine⟨by rw[fH];exact S.len,fun j d h=>?_,fun j d h=>?_,fun j d h=>?_,fun j d h=>?_,fun j d h=>?_,fun j k c e a m1 m2 x v y u=>?_,S.hnd,S.ext,S.hx⟩
 ·rw[l,ne h];exact S.val j d h
 ·rw[l,ne h];exact S.own j d h
 ·rw[l,ne h];exact S.dct j d h
 ·rw[l,ne h];exact S.rdo j d h
 ·rw[l,ne h];exact S.dtt j d h
 ·rw[ne x]at y;rw[ne v]at u;exact S.dif j k c e a m1 m2 x v y u
end
section
variable{X:Cx}{k n m i ie:Nat}{ps:List Str}{fn T en x:Str}{st:dG}{e:aX}{es:List aX}{ds:DTA}{p p1 p2 p3 p4 p5 p6 pos:Pos}{g:GX}{cs:List Str}
theorem ztO(i ie:Nat)(F:Bd.FqX X.prog X.w X.K X.mg X.base fn st ps k (spX X.K X.mg m g))(M:zjE X.K X.mg cs T)(hr:Room n X.A)(hN:X.N.Nodup)(h:DB X.nox (e::es) ds)(hk:k<=n:=by decide)(hm:(e::es).length=m:=by rfl)(hc:X.calm=true:=by rfl)(hst:X.stack=X.env::X.outer:=by rfl)(hfr:X.env.frame=some X.env.locals:=by rfl)
  (hi:X.N[i]?=some x:=by rfl) (hie:X.N[ie]?=some en:=by rfl) (Y:i≠ie:=by decide) (hx:Loc X.env.scope x:=by first|exact cX rfl|exact ou rfl) (hen:X.env.kindOf en=some .local:=by rfl) (hel:X.env.scope.names.lookup en=some .local:=by rfl) (hx0:X.ex=[]:=by rfl) (hg:Gl X fn:=by rfl) (hgT:Gl X T:=by rfl)
  (hdb:(fn == ("__debug__":Str))=false:=by rfl) (hdT:(T == ("__debug__":Str))=false:=by rfl) (hde:(en == ("__debug__":Str))=false:=by rfl) (hce:(en == ("__classdict__":Str))=false:=by rfl)
  (hsw:swapsWith (.Call (.Name fn p1) (e::es) [] p2) none p3.line X.env=pure false:=by rfl) (Ks:swapsWith (.Name en p6) (some (.Name x p5)) p4.line X.env=pure false:=by rfl) (hf:X.fn x=true\/X.env.scope.names.lookup x=some .local:=by walk_at "F") (hfe:X.fn en=true\/X.env.scope.names.lookup en=some .local:=by walk_at "F") :
  DS X (.Try [.Expr (.Call (.Name fn p1) (e::es) [] p2) p3] [.ExceptHandler (some (.Name T p)) (some en) [.Assign [.Name x p5] (.Name en p6) p4] pos] [] [] pos) (sTry X.mg cs i ie g ds):=by
 obtain⟨f,fd,D,G⟩:=F;obtain⟨Dc,hT,hM⟩:=M;obtain⟨ta,pa,h⟩:=h;refine⟨_,zrG D G (hr.mono hk) pa hc hst hfr hT hN hi hie Y hx hen hel hx0 hg hgT hdb hdT hde hce hsw Ks hf hfe,fun C L σ H n De D' S hw gd=>?_⟩
 obtain⟨ho,hw⟩:=hw;refine h C L σ H n _ _ S hw fun ts n1 vs H1 r1 e1 h1 q1 l1=>?_
 have S1:=S.on e1 h1;refine⟨C.hd,Own C L σ,ts,n1,_,_,q1,h1,fun a=>S1.lst,fun a z=>.inl (S.hx a z),l1.trans hm,r1,fun t n' v H' rt Z h2 q2=>gd.nx L σ H' n' rt (S1.on Z h2) ((e1.trans Z).keep),fun c n' H' J rx Z h2 hC=>⟨J,rfl,hM c rx.1 J hC,fun U u=>?_⟩⟩
 have S2:=S1.on Z h2;have e3:ExtE C.hd H (upd H' U (EXO U J)):=(e1.trans Z).trans (ExtE.new u);have S3:=S2.on (ExtE.new (o:=EXO U J) u) (h2.same (JQ u));have S4:=S3.hole (v:=.ref U) ho;have li:ie<σ.length:=by
  have:ie<L.length:=(ax.mp ho).1;rw[<- S.len];exact this
 have S5:=S4.put (i:=i) (v:=.ref U) (t:=EXC J) (.exc JM fun z=>S2.free u ((zi1 ho).mp z))
 have R:(L.set i (some (Cell.val (EXC J))))[ie]?=some none:=by rw[aV Y];exact ho
 refine gd.nx _ _ _ n' (rx.2 J hC) (S5.hole0 R) fun a o ha nh no=>⟨e3 a o ha nh,fun⟨j,c',mc,I,z2⟩=>no ⟨j,c',mc,?_,?_⟩⟩
 all_goals
  have nj:ie≠j:=fun z=>by subst z;rw[R]at I;cases I
  have ni:i≠j:=fun z=>by
   subst z
   by_cases hl:i<L.length
   ·rw[cf hl]at I;cases I;cases mc
   ·rw[cw (by rw[fH];omega)]at I;cases I
 ·rw[aV ni]at I;exact I
 ·rw[aV nj,aV ni,aV nj]at z2;exact z2
end
end L2
namespace L2
open PySem PySem.Spec PySem.W PySem.Calls PyProof.Rows Builtin Builtin.ObjectAttr Builtin.Getset_descriptor
def ExAt(x C:ak)(h:aY):Prop:=∃o,h.get? x=some o/\o.cls=.ref C
def clsB(K:qF)(D:ak):Bool:=(clsIn K D).isSome&&(findIn K (.ref D) "__getattribute__" == some (some (.builtin "BaseException.__getattribute__")))&&(findIn K (.ref D) "__getattr__" == some none)&&(findIn K (.ref D) "__class__" == some (some (.builtin "object.__class__")))
 && (specialIn K (.builtin "object.__class__") "__get__" == some (some (.builtin "getset_descriptor.__get__")))&&(takesIn K (.builtin "object.__class__") == some true)&&(mroIn K D (.type "object") == some true)&&(mroIn K D (.type "BaseException") == some true)
section
variable{K:qF}{x D:ak}
theorem ExAt.type{M:m7}{h:aY}(I:ExAt x D h):tD M h (typeOf (.ref x)) (.ref D):=by
 obtain⟨o,l,hc⟩:=I;exact hc▸(AX l).andThen .now
theorem zkc{prog:aK}{w:aW}{A:bq}{s:aq}{R:n8->aq->Prop}{G:ah}(X:K.In s.heap)(I:ExAt x D s.heap)(v:mroIn K D (.type "object")=some true)
  (h:R (.ok (.ret (.ref D))) s):codeAny (model prog w) A (.call (.builtin "getset_descriptor.__get__") ⟨[.builtin "object.__class__",.ref x,G],[]⟩) R s:=by
 obtain⟨C,g,J,t,os⟩:=s;have N:tD (model prog w) C (typeOf (.ref x)) (.ref D):=I.type;have L:=looks_mroIn (M:=model prog w) X v;refine mj KF.slot_gs.plain KF.entry_gs (KF.slot_gs.check _ _ _ _ _ _ _ _ KF.type_class (KF.args_gs _ _ _) ?_);unfold fZ.«getset_descriptor.__get__» descrGet;rw[dga_obj];refine ae (aj ?_);unfold descrGetter descrCheckInstance descrNameAndClass isInstance
 simp only[KF.owner_class]
 repeat lk
 refine⟨mX _ (by decide +kernel),lG KF.entry_class ?_⟩
 unfold fZ.«object.__class__» shownTypeOf
 repeat lk
 exact h
theorem zki{M:m7}{A:bq}{E:qV}{Q:Unit->aq->Prop}{s:aq}{m:Sem Unit}(e:m=pure ())(h:Q () s):wpAny M A m Q E s:=by rw[e];exact aj h
theorem zi_(hB:clsB K D=true):KitX K (.ref x) (.ref D) (ExAt x D):=by
 unfold clsB at hB;simp only[aM,beq_iff_eq]at hB;obtain⟨⟨⟨⟨⟨⟨⟨G,L⟩,R⟩,hca⟩,S⟩,htk⟩,hm⟩,Y⟩:=hB;obtain⟨cdD,v⟩:=kC.mp G;refine⟨fun M h _ I=>I.type,fun M h X _=>?_,fun h tp dd its n sl X J=>?_,fun {prog w A E Q s} X I k=>?_⟩
 ·unfold clsIn at v;split at v
  ·rename_i c' d' U Z N;intro A' Q' E' s' k q;unfold isType loadHead;exact ae (wpAny_loadPart (k _ _ (X _ _ N)) (aj q))
  ·cases v
 ·refine g7.mpr fun q=>?_
  have e:D=tp:=Value.ref.inj (beq_iff_eq.mp q);subst e;unfold clsIn at v;split at v
  ·rename_i c' d' U Z N;have z:=(X _ _ N).symm.trans J;cases z
  ·cases v
 ·obtain⟨C,g,d,t,os⟩:=s;have L0:tD (model prog w) C (typeOf (.ref x)) (.ref D):=I.type;have L1:=nU (M:=model prog w) X L;have Lf:tD (model prog w) C (find (.ref x) (.ref D) "__class__") (.bind (.builtin "getset_descriptor.__get__") (.builtin "object.__class__")):=by
   refine(nU X hca).andThen ((show tD (model prog w) C (getOf (some (.builtin "object.__class__"))) (some (.builtin "getset_descriptor.__get__")) from looks_specialIn X S).andThen ?_)
   exact(show tD (model prog w) C (dataDescriptor? (some (.builtin "object.__class__")) (some (.builtin "getset_descriptor.__get__"))) (some (.builtin "getset_descriptor.__get__",.builtin "object.__class__")) from(looks_takesIn X htk).andThen .now).andThen (Looks.tag .now)
  have Lh:=nU (M:=model prog w) X R;have f3:=kf.ga.bind (.ref x);have L2:=looks_mroIn (M:=model prog w) X Y;have hk:builtinKind "BaseException.__getattribute__" = some .slot:=by decide +kernel
  have Kt:splitId "BaseException.__getattribute__" = some ("BaseException","__getattribute__"):=by decide +kernel
  unfold getAttr? getAttrBy? getAttrBy;refine ae (wpAny_mkText (ae (iC (cn (ae (L0.at (ae (L1.at ?_))))))));show wpAny _ _ (if (onTheHeap (cG D)&&kH "BaseException.__getattribute__" == kH "object.__getattribute__")=true then _ else getAttrByItsOwn _ _ _ _ _ _) _ _ _
  have hx2:(kH "BaseException.__getattribute__" == kH "object.__getattribute__")=false:=by decide +kernel
  rw[if_neg (by rw[hx2,hU];decide)]
  unfold getAttrByItsOwn;refine ae (show wpAny _ _ (typeLookup (.ref D) "__getattr__") _ _ _ from Lh.at ?_)
  unfold callGetattribute boundAndCalled;rw[if_neg (by decide)]
  refine ae (iC (cn (ae ?_)));rw[f3];refine aj ?_;refine mS (mj kf.ga.plain PySem.F.entry_bexc_ga ?_);have ha:=PySem.F.args_bexc_ga (.ref x) (.str "__class__" t);simp only[checkBuiltinCall,hk,Kt,c9,eD];unfold isInstance;refine ae (ae (L0.at (L2.at ?_)));rw[if_neg (by decide)]
  refine zki ha ?_;unfold fZ.«object.__getattribute__»;refine ae (aj (ae (aj (ae (L0.at (ae (Lf.at ?_)))))));show wpAny _ _ (holding [.builtin "object.__class__"] (call (.builtin "getset_descriptor.__get__") [.builtin "object.__class__",.ref x,.ref D]) >>= ret) _ _ _
  refine ae (cn (mS (zkc (s:=⟨C,g,d,t+1,os⟩) X I hm ?_)));refine aj ?_;exact handed_on rfl (aj k)
end
end L2
namespace L2
open PySem PySem.Spec PySem.W PySem.Calls PyProof.Rows
def excT(l:qF)(mg:qM)(cs ys:List Str)(T:Str):Bool:=cs.all fun c=>match mg c,mg T with
 | some (.ref C),some (.ref D)=>clsB l C&&(exmOne l (.ref C) (.ref D) == some true)&&(kitOne l (.ref C) (.type "ValueError") == some true)&&ys.all fun y=>match mg y with
  | some (.ref E)=>kitOne l (.ref C) (.ref E) == some (decide (c=y))
  | _=>false
 | _,_=>false
def QO(K:qF)(mg:qM)(cs ys:List Str)(T:Str):Prop:=∃l,SubK l K/\((∃D,mg T=some (.ref D))/\∀y∈ys,∃E,mg y=some (.ref E))/\excT l mg cs ys T=true
section
variable{K:qF}{mg:qM}{cs ys:List Str}{T:Str}
theorem QO.at(M:QO K mg cs ys T):∃l,SubK l K/\∀c∈cs,∀C,mg c=some (.ref C)->clsB l C=true/\(∀D,mg T=some (.ref D)->exmOne l (.ref C) (.ref D)=some true)/\kitOne l (.ref C) (.type "ValueError")=some true/\∀y∈ys,∃E,mg y=some (.ref E)/\kitOne l (.ref C) (.ref E)=some (decide (c=y)):=by
 obtain⟨l,sK,⟨⟨D,v⟩,_⟩,e⟩:=M;refine⟨l,sK,fun c hc C I=>?_⟩
 have e:=bw.mp e c hc;rw[I,v]at e;simp only[aM,beq_iff_eq]at e;obtain⟨⟨⟨L,N⟩,G⟩,u⟩:=e;refine⟨L,fun R h'=>by rw[v]at h';cases h';exact N,G,fun y J=>?_⟩
 have u:=bw.mp u y J;split at u
 ·rename_i E x;exact⟨E,x,beq_iff_eq.mp u⟩
 ·cases u
theorem QO.under(M:QO K mg cs ys T):zjE K mg cs T:=by
 obtain⟨u,sK,h⟩:=M.at;obtain⟨_,_,⟨⟨D,l⟩,_⟩,_⟩:=M;exact⟨D,l,fun c hc C v=>⟨u,sK,(h c hc C v).2.1 D l⟩⟩
end
theorem Rep.excI{K:qF}{hd:Option ak}{O:ak->Prop}{H:Hp}{v:V}{C:ak}(h:Rep K hd O H v (EXC C)):∃a,v=.ref a/\H a=some (EXO a C):=by
 generalize e:EXC C=d at h;cases h with
 | exc h _ =>
  simp only[EXC,kA,gE,kF,PyData.int.injEq,true_and,and_true]at e;have e:=Int.ofNat.inj e;subst e;exact⟨_,rfl,h⟩
 | dct _ _=>cases e
 | dcK _ _ _ u=>cases e;exact(dict_noK u).elim
 | dcT _ _ _ u=>cases e;exact(dict_noT u).elim
 | hand _=>simp[HAND,EXC]at e
 | scr _ _=>simp[SCR,EXC]at e
 | scrS _=>simp[SCR,EXC]at e
 | _=>cases e
section
variable{X:Cx}
theorem ztN{pins:qO}{σ:St}{H:Hp}{s:aq}{a C:ak}(I:Inv X pins σ H s)(h:H a=some (EXO a C)):ExAt a C s.heap:=by
 obtain⟨⟨o,l,hc,_⟩,_⟩:=I.hok a _ h;exact⟨o,l,hc⟩
theorem zjA:JU X (.builtin "isinstance") (fun xs H Q=>∃a C c w b v,xs=[.ref a,w]/\(w=.ty "ValueError" /\ c=bH "ValueError" \/ ∃D,w=.ref D/\c=cG D)/\H a=some (EXO a C)/\SubK v X.K/\clsB v C=true/\kitOne v (.ref C) c=some b/\Q (.bl b) H):=by
 intro pins s σ H xs U Q I r h;obtain⟨a,C,c,w,b,v,rfl,hw,G,sK,S,e,q⟩:=h;cases r with
 | cons N R =>
  cases R with
  | cons L x =>
   cases x;cases N;have key:∀u,u=c->wpAny (model X.prog X.w) X.A (call (.builtin "isinstance") [.ref a,u]) (EP X pins σ Q) X.xe s:=fun u J=>by
    subst J;exact kia_one (zi_ S) (sK.in I.kIn) (ztN I G) e (fun z=>by cases z) fun tk=>⟨.bl b,H,I.tok tk,rfl,q⟩
   rcases hw with⟨rfl,rfl⟩|⟨D,rfl,rfl⟩ <;> exact key _ L
theorem zmp:JU X (.builtin "isinstance") (fun xs H Q=>∃a C p N L x y v,xs=[.ref a,.ref p]/\H p=some (.tup [.ref N,.ref L])/\H a=some (EXO a C)/\SubK v X.K/\clsB v C=true/\kitOne v (.ref C) (.ref N)=some x/\kitOne v (.ref C) (.ref L)=some y/\Q (.bl (x||y)) H):=by
 intro pins s σ H xs us Q I r h;obtain⟨a,C,p,N,L,x,y,v,rfl,R,hH,sK,hB,e1,e2,q⟩:=h;cases r with
 | cons r1 r2 =>
  cases r2 with
  | cons r3 U =>
   cases U;cases r1;cases r3;obtain⟨_,its,J,⟨oc,od,dt,sl⟩,Z,hc,⟨n,hd⟩,G⟩:=I.hok p _ R;cases J with
   | cons S J =>
    cases J with
    | cons Y J =>
     cases J;cases S;cases Y;dsimp only at hc hd G;subst hc hd G;have e:kitAny v (.ref C) [.ref N,.ref L]=some (x||y):=by
      unfold kitAny;rw[e1];cases x with
      | true=>rfl
      | false =>
       dsimp only;unfold kitAny;rw[e2];cases y <;> rfl
     exact kia_tup (zi_ hB) (sK.in I.kIn) (ztN I hH) Z e (fun z=>by cases z) fun tk=>⟨.bl (x||y),H,I.tok tk,rfl,q⟩
end
def lIsE(mg:qM)(cs:List Str)(f:Str->Bool)(t:af)(R:af->Prop):Prop:=∃c C,c∈cs/\mg c=some (.ref C)/\t=EXC C/\R (.bool (f c))
def dIsE(mg:qM)(cs:List Str)(f:Str->Bool)(d:DTE):DTE:=fun u n R=>d u n fun t l=>lIsE mg cs f t fun z=>R z l
theorem isE{mg:qM}{cs:List Str}{f:Str->Bool}{c:Str}{C:ak}{R:af->Prop}(hc:c∈cs)(u:mg c=some (.ref C))(h:R (.bool (f c))):lIsE mg cs f (EXC C) R:=⟨c,C,hc,u,rfl,h⟩
section
variable{X:Cx}{e:aX}{d:DTE}{y y1 y2 T:Str}{cs ys:List Str}{p p2 p3 p4 pos:Pos}{k:Nat}
theorem zhZ{D:ak}(l:X.mg y=some (.ref D))(u:Gl X y)(hd:(y == ("__debug__":Str))=false):PE X (.Name y p) (tC (.ref D)):=fun pins s σ H Q I h=>U1 I u l ⟨.ref D,H,I,rfl,h⟩ hd
theorem zl9(M:QO X.K X.mg cs ys T)(L:y∈ys)(hm:X.mg "isinstance" = none) (h:DE X e d) (hs:starEach (e::[.Name y p2]) X.env=(false,eval e X.env)::starEach [.Name y p2] X.env) (hg:Gl X "isinstance":=by rfl) (x:Gl X y:=by rfl) (hd:(y == ("__debug__":Str))=false:=by rfl) :
  DE X (.Call (.Name "isinstance" p) [e,.Name y p2] [] pos) (dIsE X.mg cs (fun c=>decide (c=y)) d):=by
 obtain⟨ta,pa,h⟩:=h;obtain⟨Z,sK,hK⟩:=M.at;obtain⟨_,_,⟨_,U⟩,_⟩:=M;obtain⟨D,J⟩:=U y L;refine⟨_,Ui zjA hm VX (Qi pa (zh0 (zhZ J x hd) QD) hs) hg,fun C ρ σ H n Q R S hd Y=>?_⟩
 refine h C ρ σ H n _ _ S hd fun t n1 v H1 G e1 h1 q1=>?_
 obtain⟨c,I,hc,hC,rfl,G⟩:=G;obtain⟨a,rfl,ha⟩:=q1.excI;obtain⟨k1,k2,k3,k4⟩:=hK c hc I hC;obtain⟨E,u,k5⟩:=k4 y L;rw[J]at u;cases u;exact⟨a,I,.ref D,.ref D,_,Z,rfl,.inr ⟨D,rfl,rfl⟩,ha,sK,k1,k5,Y _ n1 _ H1 G e1 h1 (.bl _)⟩
theorem zod:bootBuiltins "ValueError" = some (.type "ValueError"):=by decide +kernel
theorem ztY(M:QO X.K X.mg cs ys T)(hm:X.mg "isinstance" = none) (hv:X.mg "ValueError" = none) (h:DE X e d) (hs:starEach (e::[.Name "ValueError" p2]) X.env=(false,eval e X.env)::starEach [.Name "ValueError" p2] X.env) (Y:Gl X "isinstance":=by rfl) (u:Gl X "ValueError":=by rfl) :
  DE X (.Call (.Name "isinstance" p) [e,.Name "ValueError" p2] [] pos) (dIsE X.mg cs (fun _=>true) d):=by
 obtain⟨ta,pa,h⟩:=h;obtain⟨J,sK,U⟩:=M.at;refine⟨_,Ui zjA hm VX (Qi pa (zh0 (Bd.zrR hv zod u) QD) hs) Y,fun C L σ H n Q R S hd I=>?_⟩
 refine h C L σ H n _ _ S hd fun t n1 v H1 x e1 Z q1=>?_
 obtain⟨c,G,hc,hC,rfl,x⟩:=x;obtain⟨a,rfl,ha⟩:=q1.excI;obtain⟨k1,k2,k3,k4⟩:=U c hc G hC;exact⟨a,G,.type "ValueError",.ty "ValueError",_,J,rfl,.inl ⟨rfl,rfl⟩,ha,sK,k1,k3,I _ n1 _ H1 x e1 Z (.bl _)⟩
theorem zqq(M:QO X.K X.mg cs ys T)(U:y1∈ys)(G:y2∈ys)(hm:X.mg "isinstance" = none) (h:DE X e d) (hs:starEach (e::[.Tuple [.Name y1 p2,.Name y2 p3] k p4]) X.env=(false,eval e X.env)::starEach [.Tuple [.Name y1 p2,.Name y2 p3] k p4] X.env)
  (hs2:starEach [.Tuple [.Name y1 p2,.Name y2 p3] k p4] X.env=[(false,eval (.Tuple [.Name y1 p2,.Name y2 p3] k p4) X.env)]:=by rfl) (hs3:starEach [.Name y1 p2,.Name y2 p3] X.env=(false,eval (.Name y1 p2) X.env)::starEach [.Name y2 p3] X.env:=by rfl) (hs4:starEach [.Name y2 p3] X.env=(false,eval (.Name y2 p3) X.env)::starEach [] X.env:=by rfl)
  (hg:Gl X "isinstance":=by rfl) (hg1:Gl X y1:=by rfl) (Z:Gl X y2:=by rfl) (hd1:(y1 == ("__debug__":Str))=false:=by rfl) (hd2:(y2 == ("__debug__":Str))=false:=by rfl) :
  DE X (.Call (.Name "isinstance" p) [e,.Tuple [.Name y1 p2,.Name y2 p3] k p4] [] pos) (dIsE X.mg cs (fun c=>decide (c=y1)||decide (c=y2)) d):=by
 obtain⟨ta,pa,h⟩:=h;obtain⟨K0,sK,hK⟩:=M.at;obtain⟨_,_,⟨_,hE⟩,_⟩:=M;obtain⟨D1,L⟩:=hE y1 U;obtain⟨D2,J⟩:=hE y2 G;refine⟨_,Ui zmp hm VX (Qi pa (Qi (zor (Ub (zhZ L hg1 hd1) (Ub (zhZ J Z hd2) US hs4) hs3)) QD hs2) hs) hg,fun C ρ σ H n Q R S hd hq=>?_⟩
 refine h C ρ σ H n _ _ S hd fun t n1 v H1 r1 e1 h1 q1=>?_
 obtain⟨c,Cc,hc,hC,rfl,r1⟩:=r1;obtain⟨a,rfl,ha⟩:=q1.excI;obtain⟨k1,k2,k3,k4⟩:=hK c hc Cc hC;obtain⟨E1,Y,k5⟩:=k4 y1 U;obtain⟨E2,I,k6⟩:=k4 y2 G;rw[L]at Y;cases Y;rw[J]at I;cases I;refine⟨by show 2<=sizeLine;rw[lU];decide,fun q x=>?_⟩
 refine⟨a,Cc,q,D1,D2,_,_,K0,rfl,JM,?_,sK,k1,k5,k6,hq _ n1 _ _ r1 (e1.trans (ExtE.new x)) (h1.same (JQ x)) (.bl _)⟩;rw[Jn (Qv ha x)];exact ha
instance zwQ {mg:qM}{f:Str->Bool}{ρ:En}{n:Nat}{R:qN}:Stp (dIsE mg cs f d ρ n R) (d ρ n fun t n1=>lIsE mg cs f t fun z=>R z n1):=⟨fun h=>h⟩
instance zwJ {mg:qM}{i ie:Nat}{g:GX}{ds:DTA}{D:JP}{ρ:En}{n:Nat}:Stp (sTry mg cs i ie g ds D ρ n) (ρ[ie]?=some none/\ds ρ n fun ts n1=>g ts n1 (fun _ n2=>D.nx ρ n2) fun c n2=>c∈cs/\∀C,mg c=some (.ref C)->D.nx (ρ.set i (some (.val (EXC C)))) n2):=⟨fun h=>h⟩
end
section
variable{X:Cx}{a:aX}{da:DTE}
theorem zlb:MtR X "list.index" (fun x xs H Q=>∃(l:ak) (bs:List Bool) (k:Bool),x=.ref l/\xs=[.bl k]/\SqL X.K H l (bs.map V.bl)/\k∈bs/\bs.length<=1000000/\Q (.int (bs.idxOf k:Nat)) H):=by
 intro pins s σ H x xs v us Q I rx rs h;obtain⟨l,bs,k,rfl,rfl,N,G,U,q⟩:=h;cases rx;cases rs with
 | cons r1 r2 =>
  cases r2;cases(show _=eK k from r1)
  obtain⟨C,S,p,sz⟩:=I.list N;have e:C=bs.map eK:=by
   clear p N G U q sz;induction bs generalizing C with
   | nil=>cases S;rfl
   | cons b bs Y =>
    cases S with
    | cons a b=>cases(show _=eK _ from a);rw[Y _ b];rfl
  subst e;obtain⟨⟨cls,dd,data,sl⟩,R,hc,n,hd⟩:=p.isList;simp only at hc hd;subst hc hd;have Z:bs.idxOf k<bs.length:=kI.mpr G;refine call_meets kR ⟨_,R,rfl⟩ PySem.F.entry_list_index (PySem.F.args_list_index_2 _ _)
   (sN l (bs.map eK).toArray n dd sl (.bool k) (fun u=>match u with|.bool b=>b == k|_=>false) (bs.idxOf k) (by simpa using Z) (by omega) ?_ ?_) ⟨R,fun y hy=>?_,⟨.int _,H,I.tok _,⟨_,rfl⟩,q⟩⟩
  ·simp
  ·intro j J L;have hjb:j<bs.length:=by simpa using J
   have:bs[j]≠k:=fun z=>by
    have:=kI.mpr G;exact absurd (List.not_of_lt_findIdx (p:=(· == k)) (xs:=bs) (i:=j) L) (by simp[z])
   simpa using this
  ·obtain⟨b,_,rfl⟩:=aS.mp (by simpa using hy:y∈bs.map eK)
   exact p8 b k
def zqv(k:Bool)(d:DTE):DTE:=fun v n R=>d v n fun t u=>∃bs:List Bool,t=.list (bs.map cK)/\k∈bs/\bs.length<=1000000/\R (.int (bs.idxOf k:Nat)) u
theorem zl_{k:Bool}{j}{N p2 y:Pos}(h:DL X a da)(U:attributeBase a "index" X.env (eval a X.env)=eval a X.env:=by rfl) (G:(p2.endLine == y.line)=true:=by rfl):DE X (.Call (.Attribute a "index" p2) [.Constant (.bool k) j N] [] y) (zqv k da):=by
 obtain⟨ta,pa,h⟩:=h;refine⟨_,zpf gQ kR PySem.F.type_list_index zlb pa (Ub zph US rfl) U rfl G rfl rfl,fun C L σ H n Q R S hd I=>?_⟩
 refine h C L σ H n _ _ S hd fun t n1 v H1 r e1 Y q1=>?_
 obtain⟨bs,rfl,Z,J,r⟩:=r;obtain⟨p,vs,rfl,x,h3⟩:=q1.lstI;rw[V6 h3]at x;exact⟨.inl ⟨rfl,_,SqL.of x⟩,p,bs,k,rfl,rfl,.of x,Z,J,I _ n1 _ H1 r e1 Y (.int _)⟩
end
end L2
namespace Bd
open PySem PySem.W PySem.Calls L2 PyProof.Rows
def kOne(h:aY)(v:Option ah):qF:=match v with
 | some (.ref C)=>(match h.get? C with
  | some o=>(C,o)::(match o.data with
   | .cls cd=>(match h.get? cd.ns with|some n=>[(cd.ns,n)]|none=>[])
   | _=>[])
  | none=>[])
 | _=>[]
def kOf(h:aY)(mg:qM)(xs:List Str):qF:=xs.flatMap fun x=>kOne h (mg x)
theorem zpR{h:aY}{v:Option ah}{p:ak×Obj}(m:p∈kOne h v):h.get? p.1=some p.2:=by
 unfold kOne at m;split at m
 ·split at m
  ·rename_i C o l;rcases aA.mp m with rfl|m
   ·exact l
   ·split at m
    ·split at m
     ·rename_i n u;cases az.mp m;exact u
     ·cases m
    ·cases m
  ·cases m
 ·cases m
theorem zny{K:qF}{a:ak}{o:Obj}(e:K.lookup a=some o):(a,o)∈K:=by
 induction K with
 | nil=>cases e
 | cons p K v =>
  obtain⟨b,u⟩:=p;rw[cR]at e;cases q:a == b with
  | true=>rw[q]at e;cases e;rw[eq_of_beq q];exact .head _
  | false=>rw[q]at e;exact .tail _ (v e)
theorem zsI{h:aY}{mg:qM}{xs:List Str}:(kOf h mg xs).In h:=fun a o e=>by
 obtain⟨x,_,m⟩:=List.mem_flatMap.mp (zny e);exact zpR m
def isRef:Option ah->Bool
 | some (.ref _)=>true
 | _=>false
def excAt(xs cs ys:List Str)(T:Str)(s:aq):Bool:=isRef (s.heap.nsMap mainGlobals T)&&ys.all (fun y=>isRef (s.heap.nsMap mainGlobals y))&&excT (kOf s.heap (s.heap.nsMap mainGlobals) xs) (s.heap.nsMap mainGlobals) cs ys T
def ExcsAre(cs ys:List Str)(T:Str)(mg:qM)(h:aY):Prop:=∃l:qF,l.In h/\((∃D,mg T=some (.ref D))/\∀y∈ys,∃E,mg y=some (.ref E))/\excT l mg cs ys T=true
theorem zjd{v:Option ah}(h:isRef v=true):∃D,v=some (.ref D):=by
 unfold isRef at h;split at h
 ·exact⟨_,rfl⟩
 ·cases h
theorem ztK{xs cs ys:List Str}{T:Str}{s:aq}(x:excAt xs cs ys T s=true):ExcsAre cs ys T (s.heap.nsMap mainGlobals) s.heap:=by
 unfold excAt at x;simp only[aM]at x;exact⟨_,zsI,⟨zjd x.1.1,fun y l=>zjd (bw.mp x.1.2 y l)⟩,x.2⟩
theorem ExcsAre.keeps{cs ys:List Str}{T:Str}{mg:qM}{h h':aY}(x:ExcsAre cs ys T mg h)(k:∀b o,h.get? b=some o->h'.get? b=some o):ExcsAre cs ys T mg h':=by
 obtain⟨l,i,r⟩:=x;exact⟨l,fun a o e=>k a o (i a o e),r⟩
theorem ExcsAre.ok{cs ys:List Str}{T:Str}{mg:qM}{h:aY}(x:ExcsAre cs ys T mg h):QO (JH h) mg cs ys T:=by
 obtain⟨l,i,r⟩:=x;exact⟨l,fun a o e=>U6 (i a o e),r⟩
theorem zr2{q:aK}{loose:List Str}{y:nT->Option ah}{mg l:qM}{h:aY}{x:Str}(T:Top q loose y mg l h)(v:specOf q x=some ("ValueError.__new__",ztL)):OwnE (JH h) mg x:=by
 obtain⟨C,O,_⟩:=T.ownAt v;exact⟨C,O.bound,fun h' u=>(O.keeps fun b o e=>u b o (U6 e)).own⟩
end Bd
namespace Bd
open PySem L2
theorem zpA{rs u L:List NP}(p:rs.Perm L)(x:u.Perm L)(h:rs.Pairwise fun a b=>npRk rs a<=npRk rs b)(h':u.Pairwise fun a b=>npRk u a<=npRk u b):rs=u:=by
 have q:=p.trans x.symm;have e:∀a,npRk rs a=npRk u a:=fun a=>by unfold npRk;rw[(q.filter _).length_eq]
 refine List.Perm.eq_of_pairwise (le:=fun a b=>npRk rs a<=npRk rs b) (fun a b y v G C=>?_) h (h'.imp fun {a b} z=>by rw[e,e];exact z) q
 rcases zi4 a b with z|z|z
 ·have:=ZV y z;lia
 ·exact z
 ·have:=ZV (q.mem_iff.mpr v) z;lia
def Nb(p:NP):Prop:=p.1.1.natAbs<10 ^ 40/\p.1.2.natAbs<10 ^ 40/\IsNm p.2
theorem zpG{bits:Int}{p:NP}(x:1<=bits)(l:bits<=64)(B:IsBk bits p.1.1 p.1.2)(N:IsNm p.2):Nb p:=by
 have v:=B.lt (by lia) l
 have:=B.1;have:=B.2.1;have u:=B.bounds (by lia)
 exact⟨by lia,by lia,N⟩
theorem zrb{os:List NP}{a:Nat}(h:∀p∈os,Nb p)(l:os.length<=a):Sm (567*a) 3 (.tuple (oD os)):=by
 refine(VV (w:=566) (k:=2) (xs:=oD os) fun x hx=>?_).mono (by rw[QX];lia) (aC _)
 obtain⟨p,v,rfl⟩:=aS.mp hx;obtain⟨a,b,N⟩:=h p v;exact zq9 (zkr a b) ((zu1 N).mono (by decide) (by decide))
theorem zu2{d:Deal}{a b:Nat}(y:1<=d.1)(x:d.1<=64)(v:∀p∈d.2.1,Nb p)(u:d.2.1.length<=a)(l:∀p∈d.2.2,Nb p)(l2:d.2.2.length<=b):Sm (567*a+567*b+143) 4 (dlD d):=by
 have A:=zrb v u;have B:=zrb l l2;have C:Sm 140 0 (.int d.1):=zks (by lia)
 have:=A.wt;have:=B.wt;have:=C.wt;have:=A.dp;have:=B.dp;have:=C.dp;exact⟨by have a:=A.ls;have b:=B.ls;have c:=C.ls;simp only[dlD,gG,fL,gC,aM]at a b c ⊢;exact⟨c,a,b⟩,by have a:=A.sh;have b:=B.sh;have c:=C.sh;simp only[dlD,iI,gH,gC,aM]at a b c ⊢;exact⟨c,a,b⟩,by have a:=A.cl;have b:=B.cl;have c:=C.cl;simp only[dlD,bN,bu,gC,aM]at a b c ⊢;first|exact⟨c,a,b⟩|exact⟨a,b⟩|simp_all,by simp only[dlD,cS,cb]at *;lia,by simp only[dlD,mL,ik]at *;lia⟩
theorem zre{d:Deal}{a b:Nat}(C:567*a+567*b+200<=380000)(x:1<=d.1)(u:d.1<=64)(y:∀p∈d.2.1,Nb p)(v:d.2.1.length<=a)(l:∀p∈d.2.2,Nb p)(l2:d.2.2.length<=b):Shd (dlD d):=(zu2 x u y v l l2).shd (by lia) (by decide)
theorem Dl.o{d:Deal}(D:Dl d):∀p∈d.2.1,Nb p:=fun p l=>zpG D.1 D.2.1 (D.2.2.1.1.1 _ (aS.mpr ⟨p,l,rfl⟩)) (D.2.2.1.2 p l)
theorem Dl.k{d:Deal}(D:Dl d):∀p∈d.2.2,Nb p:=fun p l=>zpG D.1 D.2.1 (D.2.2.2.1.1.1 _ (aS.mpr ⟨p,l,rfl⟩)) (D.2.2.2.1.2 p l)
theorem zk2{p:NP}(h:IsNm p.2):Okd (.tuple [prD p.1,.str p.2]):=by
 have e:=(ZX h).1;exact⟨by simp[prD,bN,bu]at e ⊢;exact e,by simp[prD,cS,cb]⟩
end Bd
namespace Bd
open PySem L2
def top(i:Nat):dG:=ft.main.body.getD i (.Pass ⟨0,0,0,0⟩)
set_option maxHeartbeats 4000000
local macro_rules | `(tactic| walk_at "S") => `(tactic| first | with_reducible refine zjJ ?_ | with_reducible refine Stp.go ?_ | with_reducible refine j_all (by with_unfolding_all rfl) ?_ | with_reducible refine j_any (by with_unfolding_all rfl) ?_ | with_reducible refine zoD (by with_unfolding_all rfl) ?_ | with_reducible refine zoE (by with_unfolding_all rfl) ?_ | with_reducible refine zjg (by with_unfolding_all rfl) ?_ | with_reducible refine zjf (by with_unfolding_all rfl) ?_)
set_option hygiene false in
local macro_rules | `(tactic| walk_at "K") => `(tactic| first | walk_at "S" | with_reducible refine ztd (fun hc => ?_) (fun hc => ?_) | with_reducible refine zwc (fun hc => ?_) (fun hc => ?_) | with_reducible refine And.intro ?_ ?_)
set_option hygiene false in
local macro_rules | `(tactic| wp_walk using $ts:term,*) => `(tactic| repeat' (first $[| with_reducible refine $ts:term]* | walk_at "K"))
local macro_rules | `(tactic| wp_walk) => `(tactic| repeat' walk_at "K")
structure Txt(mg:qM):Prop where
 isi:mg "isinstance" = none
 int:mg "int" = none
 boo:mg "bool" = none
 tup:mg "tuple" = none
 len:mg "len" = none
 min:mg "min" = none
 max:mg "max" = none
 str:mg "str" = none
 rep:mg "repr" = none
 all:mg "all" = none
 any:mg "any" = none
 ran:mg "range" = none
 sum:mg "sum" = none
 srt:mg "sorted" = none
 lst:mg "list" = none
 abs:mg "abs" = none
 zip:mg "zip" = none
 dct:mg "dict" = none
 rev:mg "reversed" = none
 enu:mg "enumerate" = none
 vae:mg "ValueError" = none
def EXS:List Str:=["NoDeed","NotTheirs","NoRoom"]
def EYS:List Str:=["NoDeed","NotTheirs","NoRoom","NoLine","NoText"]
section
open PySem.W PyProof.Rows
def pw:aK:=ft
def PL:PLs:=[(aa "PARTS",[(aa "take",[aa "height"]),(aa "near",[aa "height",aa "address"]),(aa "give",[aa "block"]),(aa "grow",[aa "block"]),(aa "keep",[aa "block"]),(aa "loose",[aa "block"]),(aa "move",[aa "block",aa "block"])])]
def FL:FLs:=[(aa "DEEDS",["take","near","give","grow","keep","loose","move"])]
def DL:FLs:=[(aa "PARTS",["take","near","give","grow","keep","loose","move"]),(aa "DEEDS",["take","near","give","grow","keep","loose","move"])]
def TL:List (Str×List Str):=[]
def zvK:dG->Bool
 | .FunctionDef ..=>true
 | .ClassDef ..=>true
 | .Assign [.Name x _] _ _=>!(x == aa "__name__")
 | _=>false
def qv:aK:={ pw with main:={ pw.main with body:=pw.main.body.filter zvK } }
theorem zoZ:recsOf qv=(pw.main.body.filter Vg).map recD:=by kernel_rfl
theorem zox{i:Nat}(h:Vg (top i)=true):recD (top i)∈recsOf qv:=by
 rw[zoZ];exact mH (cz.mpr ⟨getD_mem h,h⟩)
theorem dqG{i:Nat}{x:Str}{ps:List Str}{y:nT->Option ah}{mg u:qM}{h:aY}(T:iw qv (looseW qv [aa "DEEDS",aa "PARTS"]) y mg u h) (C:BndA x (top i) ps) (v:Vg (top i)=true:=by kernel_rfl) (l:defName (top i)=x:=by kernel_rfl):Dq (JH h) mg x (top i) ps:=dq_g T (zox v) l C
def ztE:List Str:=[aa "isinstance",aa "int",aa "bool",aa "tuple",aa "len",aa "min",aa "max",aa "str",aa "repr",aa "all",aa "any",aa "range",aa "sum",aa "sorted",aa "list",aa "abs",aa "zip",aa "dict",aa "reversed",aa "enumerate",aa "ValueError"]
def ztF(x:Str):Bool:=!startupNames.contains x&&!(looseW qv [aa "DEEDS",aa "PARTS"]).contains x&&!((recsOf qv).map (·.name)).contains x&&!((litsOf qv).map (·.1)).contains x&&!((clssOf qv (looseW qv [aa "DEEDS",aa "PARTS"])).map (·.name)).contains x
theorem zqf:ztE.all ztF=true:=by kernel_rfl
theorem zqg{u:nT->Option ah}{mg l:qM}{h:aY}(T:iw qv (looseW qv [aa "DEEDS",aa "PARTS"]) u mg l h) {x:Str} (m:x∈ztE):mg x=none:=by
 have e:=bw.mp zqf x m;unfold ztF at e;simp only[aM,fR,List.contains_eq_mem,decide_eq_false_iff_not]at e;obtain⟨⟨⟨⟨a,b⟩,c⟩,d⟩,f⟩:=e;exact T.free x a b c d f
theorem zq0{u:nT->Option ah}{mg l:qM}{h:aY}(T:iw qv (looseW qv [aa "DEEDS",aa "PARTS"]) u mg l h):Txt mg:=by
 constructor <;> exact zqg T (List.contains_iff_mem.mp (by kernel_rfl))
theorem zoW:aE.wellSaid=true:=by kernel_rfl
theorem zsB(w:aW)(os:fe):(JW treeTable pw (w.withFollow "special-get-raises" false) 11 ((bz ((w.withFollow "special-get-raises" false)).params).nsMap mainGlobals "__annotations__") 20000 (zci (w.withFollow "special-get-raises" false) os) (topStub pw)).map (fun s=>(UG pw (bz ((w.withFollow "special-get-raises" false)).params) s.abs,(fun s=>hshs DL s.heap) s.abs,s.abs.heap.bltView,plainSeenD qv [aa "DEEDS",aa "PARTS"] s.abs,clsSeenW qv [aa "DEEDS",aa "PARTS"] s.abs,pinSeenD qv (drecsOf qv) s.abs))=some (true,(hshW DL) (w.withFollow "special-get-raises" false),bltViewBooted,plainGoodD qv [aa "DEEDS",aa "PARTS"],clsGoodW qv [aa "DEEDS",aa "PARTS"],pinGoodD (drecsOf qv)):=by kernel_rfl
theorem zsA(w:aW)(os:fe):(JW treeTable pw (w.withFollow "special-get-raises" false) 11 ((bz ((w.withFollow "special-get-raises" false)).params).nsMap mainGlobals "__annotations__") 20000 (zci (w.withFollow "special-get-raises" false) os) (topStub pw)).map (fun s=>seen ((recsOf qv).map (·.name)) (ownsOf qv) [] { s.abs with gens:=#[] })=some (expectedOf qv):=by kernel_rfl
theorem zsx(w:aW)(os:fe):(JW treeTable pw (w.withFollow "special-get-raises" false) 11 ((bz ((w.withFollow "special-get-raises" false)).params).nsMap mainGlobals "__annotations__") 20000 (zci (w.withFollow "special-get-raises" false) os) (topStub pw)).map (fun s=>plainSeenE qv (looseW qv [aa "DEEDS",aa "PARTS"]) s.abs)=some (plainGoodE qv (looseW qv [aa "DEEDS",aa "PARTS"])):=by kernel_rfl
theorem zsw(w:aW)(os:fe):(JW treeTable pw (w.withFollow "special-get-raises" false) 11 ((bz ((w.withFollow "special-get-raises" false)).params).nsMap mainGlobals "__annotations__") 20000 (zci (w.withFollow "special-get-raises" false) os) (topStub pw)).map (fun s=>wideSeen qv s.abs)=some (wideGood qv):=by kernel_rfl
theorem zsz(w:aW)(os:fe):(JW treeTable pw (w.withFollow "special-get-raises" false) 11 ((bz ((w.withFollow "special-get-raises" false)).params).nsMap mainGlobals "__annotations__") 20000 (zci (w.withFollow "special-get-raises" false) os) (topStub pw)).map (fun s=>(s.abs.heap.keysOk (looseW qv [aa "DEEDS",aa "PARTS"]) ((recsOf qv).map (·.name)) ((litsOf qv).map (·.1)) ((clssOf qv (looseW qv [aa "DEEDS",aa "PARTS"])).map (·.name))&&s.abs.heap.accountedOkI (importedModules pw.main.body)&&s.abs.heap.isNs mainGlobals&&s.abs.heap.isNs builtinsNs&&tablesOk qv s.abs.heap&&(fun s=>xlAt qv [] s&&recOk (hY aE.row.toRowW) s&&UM TL s&&UF PL FL s&&excAt ["DealError","NoDeed","NotTheirs","NoRoom","NoLine","NoText"] EXS EYS (aa "DealError") s) s.abs&&(if true then s.abs.gens.size == 0 else !leftWithCleanup s.abs.gens)))=some true:=by kernel_rfl
theorem zsy(w:aW)(os:fe):(JW treeTable pw (w.withFollow "special-get-raises" false) 11 ((bz ((w.withFollow "special-get-raises" false)).params).nsMap mainGlobals "__annotations__") 20000 (zci (w.withFollow "special-get-raises" false) os) (topStub pw)).map (fun s=>tabsOk qv s.abs)=some true:=by kernel_rfl
theorem zvJ(w:aW)(os:fe):(JW treeTable pw (w.withFollow "special-get-raises" false) 11 ((bz ((w.withFollow "special-get-raises" false)).params).nsMap mainGlobals "__annotations__") 20000 (zci (w.withFollow "special-get-raises" false) os) (topStub pw)).map (fun s=>(UG pw (bz ((w.withFollow "special-get-raises" false)).params) s.abs,openSeen qv [aa "DEEDS",aa "PARTS"] (importedModules pw.main.body) (fun s=>xlAt qv [] s&&recOk (hY aE.row.toRowW) s&&UM TL s&&UF PL FL s&&excAt ["DealError","NoDeed","NotTheirs","NoRoom","NoLine","NoText"] EXS EYS (aa "DealError") s) true s.abs,(fun s=>hshs DL s.heap) s.abs))=some (true,openGood qv [aa "DEEDS",aa "PARTS"],(hshW DL) (w.withFollow "special-get-raises" false)):=zsn (zsB w os) (zsA w os) (zsz w os) (zsy w os) (zsx w os) (zsw w os)
theorem zsv(w:aW)(os:fe):(JW treeTable pw (w.withFollow "special-get-raises" true) 11 ((bz ((w.withFollow "special-get-raises" true)).params).nsMap mainGlobals "__annotations__") 20000 (zci (w.withFollow "special-get-raises" true) os) (topStub pw)).map (fun s=>(UG pw (bz ((w.withFollow "special-get-raises" true)).params) s.abs,(fun s=>hshs DL s.heap) s.abs,s.abs.heap.bltView,plainSeenD qv [aa "DEEDS",aa "PARTS"] s.abs,clsSeenW qv [aa "DEEDS",aa "PARTS"] s.abs,pinSeenD qv (drecsOf qv) s.abs))=some (true,(hshW DL) (w.withFollow "special-get-raises" true),bltViewBooted,plainGoodD qv [aa "DEEDS",aa "PARTS"],clsGoodW qv [aa "DEEDS",aa "PARTS"],pinGoodD (drecsOf qv)):=by kernel_rfl
theorem zsu(w:aW)(os:fe):(JW treeTable pw (w.withFollow "special-get-raises" true) 11 ((bz ((w.withFollow "special-get-raises" true)).params).nsMap mainGlobals "__annotations__") 20000 (zci (w.withFollow "special-get-raises" true) os) (topStub pw)).map (fun s=>seen ((recsOf qv).map (·.name)) (ownsOf qv) [] { s.abs with gens:=#[] })=some (expectedOf qv):=by kernel_rfl
theorem zsr(w:aW)(os:fe):(JW treeTable pw (w.withFollow "special-get-raises" true) 11 ((bz ((w.withFollow "special-get-raises" true)).params).nsMap mainGlobals "__annotations__") 20000 (zci (w.withFollow "special-get-raises" true) os) (topStub pw)).map (fun s=>plainSeenE qv (looseW qv [aa "DEEDS",aa "PARTS"]) s.abs)=some (plainGoodE qv (looseW qv [aa "DEEDS",aa "PARTS"])):=by kernel_rfl
theorem zsq(w:aW)(os:fe):(JW treeTable pw (w.withFollow "special-get-raises" true) 11 ((bz ((w.withFollow "special-get-raises" true)).params).nsMap mainGlobals "__annotations__") 20000 (zci (w.withFollow "special-get-raises" true) os) (topStub pw)).map (fun s=>wideSeen qv s.abs)=some (wideGood qv):=by kernel_rfl
theorem zst(w:aW)(os:fe):(JW treeTable pw (w.withFollow "special-get-raises" true) 11 ((bz ((w.withFollow "special-get-raises" true)).params).nsMap mainGlobals "__annotations__") 20000 (zci (w.withFollow "special-get-raises" true) os) (topStub pw)).map (fun s=>(s.abs.heap.keysOk (looseW qv [aa "DEEDS",aa "PARTS"]) ((recsOf qv).map (·.name)) ((litsOf qv).map (·.1)) ((clssOf qv (looseW qv [aa "DEEDS",aa "PARTS"])).map (·.name))&&s.abs.heap.accountedOkI (importedModules pw.main.body)&&s.abs.heap.isNs mainGlobals&&s.abs.heap.isNs builtinsNs&&tablesOk qv s.abs.heap&&(fun s=>xlAt qv [] s&&recOk (hY aE.row.toRowW) s&&UM TL s&&UF PL FL s&&excAt ["DealError","NoDeed","NotTheirs","NoRoom","NoLine","NoText"] EXS EYS (aa "DealError") s) s.abs&&(if true then s.abs.gens.size == 0 else !leftWithCleanup s.abs.gens)))=some true:=by kernel_rfl
theorem zss(w:aW)(os:fe):(JW treeTable pw (w.withFollow "special-get-raises" true) 11 ((bz ((w.withFollow "special-get-raises" true)).params).nsMap mainGlobals "__annotations__") 20000 (zci (w.withFollow "special-get-raises" true) os) (topStub pw)).map (fun s=>tabsOk qv s.abs)=some true:=by kernel_rfl
theorem zvI(w:aW)(os:fe):(JW treeTable pw (w.withFollow "special-get-raises" true) 11 ((bz ((w.withFollow "special-get-raises" true)).params).nsMap mainGlobals "__annotations__") 20000 (zci (w.withFollow "special-get-raises" true) os) (topStub pw)).map (fun s=>(UG pw (bz ((w.withFollow "special-get-raises" true)).params) s.abs,openSeen qv [aa "DEEDS",aa "PARTS"] (importedModules pw.main.body) (fun s=>xlAt qv [] s&&recOk (hY aE.row.toRowW) s&&UM TL s&&UF PL FL s&&excAt ["DealError","NoDeed","NotTheirs","NoRoom","NoLine","NoText"] EXS EYS (aa "DealError") s) true s.abs,(fun s=>hshs DL s.heap) s.abs))=some (true,openGood qv [aa "DEEDS",aa "PARTS"],(hshW DL) (w.withFollow "special-get-raises" true)):=zsn (zsv w os) (zsu w os) (zst w os) (zss w os) (zsr w os) (zsq w os)
theorem zpM:LeftO pw qv [aa "DEEDS",aa "PARTS"] (fun s=>xlAt qv [] s&&recOk (hY aE.row.toRowW) s&&UM TL s&&UF PL FL s&&excAt ["DealError","NoDeed","NotTheirs","NoRoom","NoLine","NoText"] EXS EYS (aa "DealError") s) (fun s=>hshs DL s.heap) (hshW DL) 20000:=zln (by kernel_rfl) (by decide) (fun _=>rfl) (fun w=>zkB (w:=w) (P:=fun w=>∀os:fe,(JW treeTable pw w 11 ((bz (w).params).nsMap mainGlobals "__annotations__") 20000 (zci w os) (topStub pw)).map (fun s=>(UG pw (bz (w).params) s.abs,openSeen qv [aa "DEEDS",aa "PARTS"] (importedModules pw.main.body) (fun s=>xlAt qv [] s&&recOk (hY aE.row.toRowW) s&&UM TL s&&UF PL FL s&&excAt ["DealError","NoDeed","NotTheirs","NoRoom","NoLine","NoText"] EXS EYS (aa "DealError") s) true s.abs,(fun s=>hshs DL s.heap) s.abs))=some (true,openGood qv [aa "DEEDS",aa "PARTS"],(hshW DL) w)) "special-get-raises" zvJ zvI)
end
section
variable{P:aK}{w:aW}{K:qF}{mg:qM}{base:aY}{Z:ZZ}
def zpW:af->Bool|.int _=>true|_=>false
def zdo:GD:=fun ts n R=>match ts with
 | [d]=>Pln d/\R (.bool (zpW d)) n
 | _=>False
theorem Ud{d:af}{b:Bool}{n:Nat}{R:qN}(e:zpW d=b)(h:Pln d)(h':R (.bool b) n):zdo [d] n R:=⟨h,e▸h'⟩
def V5(Z:ZZ):Prop:=FQ Z "is_whole" (top 1) ["thing"] 1 (spD Z.K 1 zdo)
theorem zh2(D:Dq Z.K Z.mg "is_whole" (top 1) ["thing"]) (T:Txt Z.mg):V5 Z:=by
 refine' okQ D (fnS (N:=["thing"]) (by decide +kernel)) rfl fun f l A outer s H E x=>⟨_,(Jc (Ji (Yk (Yl ztw T.isi T.int boot_int (dlv 0) Jq) (Q1 (zqo (Yl zqa T.isi T.boo zkf (dlv 0) Jq)))))),?_⟩
 intro ts n R v h;unfold zdo at h;split at h
 ·rename_i d;obtain⟨p,h⟩:=h;cases d with
  | dict u =>
   cases u with
   | nil =>
    wp_walk
    exact h
   | cons a b=>exact absurd rfl p
  | _ =>
   wp_walk
   exact h
 ·exact h.elim
def QK(bits:Int):af->Bool
 | .tuple [.int b,.int h]=>decide (0<=h/\h<=bits/\0<=b/\b<2 ^ bits.toNat/\b % 2 ^ h.toNat=0)
 | _=>false
theorem zij{bits b h:Int}:QK bits (.tuple [.int b,.int h])=decide (0<=h/\h<=bits/\0<=b/\b<2 ^ bits.toNat/\b % 2 ^ h.toNat=0):=rfl
theorem zlM{bits b h:Int}(y:0<=bits):QK bits (.tuple [.int b,.int h])=true↔IsBk bits b h:=by
 unfold QK;rw[decide_eq_true_iff];constructor
 ·rintro⟨h0,v,C,g1,g2⟩;have p:=Qm h.toNat;have e:=Int.emod_add_mul_ediv b (2 ^ h.toNat);refine⟨h0,v,b / 2 ^ h.toNat,o7 C (by lia),?_,?_⟩
  ·rw[eF];lia
  ·apply Int.ediv_lt_of_lt_mul p;rw[<- fV,show(bits - h).toNat+h.toNat=bits.toNat by lia]
   exact g1
 ·intro B;have x:=B.bounds y;obtain⟨h0,v,k,k0,rfl,k1⟩:=B;refine⟨h0,v,x.1,?_,Int.mul_emod_left _ _⟩;have:=Qm h.toNat;lia
def Pl2(d:af):Prop:=Pln d/\∀ts,d=.tuple ts->∀t∈ts,Pln t
def zft:GD:=fun ts n R=>∃(bits:Int) (d:af),ts=[.int bits,d]/\0<=bits/\bits<=64/\Pl2 d/\R (.bool (QK bits d)) n
theorem zkd{bits:Int}{d:af}{n:Nat}{R:qN}(v:0<=bits)(u:bits<=64)(h:Pl2 d)(h':R (.bool (QK bits d)) n):zft [.int bits,d] n R:=⟨bits,d,rfl,v,u,h,h'⟩
theorem zlN{bits:Int}{d:af}(h:∀b g,d≠.tuple [.int b,.int g]):QK bits d=false:=by
 unfold QK;split
 ·exact absurd rfl (h _ _)
 ·rfl
theorem ztJ{b c:Bool}{n:Nat}{R:qN}(e:b=c)(h:R (.bool c) n):R (.bool b) n:=e▸h
def zfk(Z:ZZ):Prop:=FQ Z "is_block" (top 2) ["bits","thing"] 2 (spD Z.K 2 zft)
theorem zh3(D:Dq Z.K Z.mg "is_block" (top 2) ["bits","thing"]) (I:V5 Z) (T:Txt Z.mg):zfk Z:=by
 refine' okQ D (fnS (N:=["bits","thing","begin","height"]) (by decide +kernel)) rfl fun f J A outer s H E v=>⟨_,(Jb (Jt (Qc (QS (QB (Qe (dl (Yl zjh T.isi T.tup QN (dlv 1) Jq)))) (Um (Jl (UQ v) UH (dl (Jx QE QC T.len Qu (Jk (dlv 1) Jp Jq))) dli (Jh _))))) (Jc (Ji QQ)) Jy) (Jb (QU (Jj 1) (JT rfl (Jo (dgv 2 (ndB rfl)) (Jo (dgv 3 (ndB rfl)) JR)))) (Jb (Jt (Qc (QS (QB (Qe (dl (Je I v (dbv 2 Ja))))) (Um (QB (Qe (dl (Je I v (dbv 3 Ja)))))))) (Jc (Ji QQ)) Jy) (Jb (Jt (Qc (QS (Jl (Qa v) J1 (dlv 3) dli (Jh _)) (Um (Jl Z0 gp_B (dlv 3) (dlv 0) (Jh _))))) (Jc (Ji QQ)) Jy) (Jc (Ji (Yk (VZ J3 JZ (Qa v) J1 dli (dlv 2) (dl (JK dli (dlv 0)))) (Q1 (QT (Qf v) Qd (dl (Va (dlv 2) (dl (JK dli (dlv 3))))) dli (Jh _)))))))))),?_⟩
 intro ts n R L h;obtain⟨bits,d,rfl,U,S,⟨p,p2⟩,h⟩:=h;have no:(∀b g,d≠.tuple [.int b,.int g])->R (.bool false) n:=fun z=>by rw[zlN z]at h;exact h
 cases hf:isTup d with
 | false =>
  wp_walk using isiF p hf ?_
  exact no fun b g e=>by rw[e]at hf;cases hf
 | true =>
  obtain⟨ts,rfl⟩:=znL hf;have p2:=p2 ts rfl
  by_cases l2:ts.length=2
  ·obtain⟨x,y,rfl⟩:=zvH l2;have C:=p2 x (by simp)
   have py:=p2 y (by simp)
   have G:∀t,(∃b,t=.int b)\/zpW t=false:=fun t=>by
    cases t with
    | int b=>exact .inl ⟨b,rfl⟩
    | _=>exact .inr rfl
   rcases G x with⟨b,rfl⟩|wx
   ·rcases G y with⟨g,rfl⟩|wy
    ·wp_walk using Ud (b:=true) rfl C ?_,Ud (b:=true) rfl py ?_
     all_goals first
      | exact cpow (by lia) (by lia)
      | (rw[QF];exact Qm _)
      | skip
     all_goals
      refine ztJ ?_ h
      try simp only[QF]at *
      rw[zij];generalize (2:Int) ^ bits.toNat=X at *;generalize b % (2:Int) ^ g.toNat=Y at *
      first
       | (symm;rw[decide_eq_false_iff_not];lia)
       | (rw[decide_eq_decide];lia)
       | (exfalso;simp at hc;done)
    ·wp_walk using Ud (b:=true) rfl C ?_,Ud wy py ?_
     all_goals first|exact no fun _ _ e=>by cases e;cases wy|(exfalso;simp at hc;done)
   ·wp_walk using Ud wx C ?_
    all_goals first|exact no fun _ _ e=>by cases e;cases wx|(exfalso;simp at hc;done)
  ·wp_walk
   all_goals first|exact no fun _ _ e=>l2 (by cases e;rfl)|(exfalso;lia)
def zhp:GD:=fun ts n R=>∃i h:Int,ts=[.tuple [.int i,.int h]]/\0<=h/\h<=1000/\R (.int (2 ^ h.toNat)) n
theorem zms{i h:Int}{n:Nat}{R:qN}(v:0<=h)(g1:h<=1000)(h':R (.int (2 ^ h.toNat)) n):zhp [.tuple [.int i,.int h]] n R:=⟨_,_,rfl,v,g1,h'⟩
def zgx(Z:ZZ):Prop:=FQ Z "size_of" (top 3) ["block"] 1 (spD Z.K 1 zhp)
theorem zjR(D:Dq Z.K Z.mg "size_of" (top 3) ["block"]) (T:Txt Z.mg):zgx Z:=by
 refine' okQ D (fnS (N:=["block"]) (by decide +kernel)) rfl fun f u A outer s H E y=>⟨_,(Jc (Ji (JK dli (dl (Jd (dlv 0) dli))))),?_⟩
 intro ts n R v l;obtain⟨i,h,rfl,x,g1,l⟩:=l
 wp_walk
 ·exact cpow (by lia) (by lia)
 ·rw[QF];exact l
def zjl:GD:=fun ts n R=>∃i h g:Int,ts=[.tuple [.int i,.int h],.int g]/\0<=g/\g<=1000/\0<=i/\i<2 ^ 64/\R (.tuple [.int (i / 2 ^ g.toNat*2 ^ g.toNat),.int g]) n
theorem zoc{i h g:Int}{n:Nat}{R:qN}(x:0<=g)(g1:g<=1000)(y:0<=i)(v:i<2 ^ 64)(h':R (.tuple [.int (i / 2 ^ g.toNat*2 ^ g.toNat),.int g]) n):zjl [.tuple [.int i,.int h],.int g] n R:=⟨_,_,_,rfl,x,g1,y,v,h'⟩
def ziS(Z:ZZ):Prop:=FQ Z "around" (top 5) ["block","height"] 1 (spD Z.K 2 zjl)
theorem zk6(D:Dq Z.K Z.mg "around" (top 5) ["block","height"]) (T:Txt Z.mg):ziS Z:=by
 refine' okQ D (fnS (N:=["block","height"]) (by decide +kernel)) rfl fun f x A outer s H E G=>⟨_,(Jc (Ji (Jm (dbc (JK (dl (ztW (dl (Jd (dlv 0) dli)) (dlv 1))) (dlv 1)) (dbv 1 Ja))))),?_⟩
 intro ts n R y l;obtain⟨i,h,g,rfl,u,g1,v,C,l⟩:=l;simp only[Vs,Vr,Vt,u_dC,Z6,Vn,Vp,Vo,VE,Z5,VW,Vq,Vv,ZH,Za,Zb,Zc,ZG,Zd,ZN,Ze,ZM,Y0,Y1,oSub,oMul,oMod,UN,oShl,oShr,oXor,oAnd,isNone,isInt,isBool,isTup,isStr,l_gI,Z4,Zm,Zn,YW,YY,YZ,YX,YM,YO,YN,YF,Zw,ZQ,YJ,YH,YI,Zq,Zr,Zs,Zo,Zp,Zu,Zv,YV,YL,YK,ZR,Zt,Zx,ZP,Uc,Q9,UC,Uu,Uz,UA,Uy,ZK,Ux,Qb,Jz,capV,bZ,fC,aP,cY,cy,gu,c9,eD,bK,dX,fq,fE,gN,gv,gx,dO,Nat.reduceAdd,Nat.reduceSub,iR,true_and,and_true,aJ,if_true,if_false,ite_true,ite_false,dP,fX,iy]
 refine⟨u,⟨u,by lia,?_⟩,l⟩
 have:i / 2 ^ g.toNat<=i:=Int.ediv_le_self _ v;have:0<=i / 2 ^ g.toNat:=o7 v (cO (Qm _));lia
def zlW:GD:=fun ts n R=>∃i h j g:Int,ts=[.tuple [.int i,.int h],.tuple [.int j,.int g]]/\0<=h/\h<=1000/\0<=j/\j<2 ^ 64/\R (.bool (hldD i h j g)) n
theorem zqD{i h j g:Int}{n:Nat}{R:qN}(h0:0<=h)(y:h<=1000)(x:0<=j)(v:j<2 ^ 64)(h':R (.bool (hldD i h j g)) n):zlW [.tuple [.int i,.int h],.tuple [.int j,.int g]] n R:=⟨_,_,_,_,rfl,h0,y,x,v,h'⟩
def zkG(Z:ZZ):Prop:=FQ Z "holds" (top 4) ["one","other"] 2 (spD Z.K 2 zlW)
theorem znq(D:Dq Z.K Z.mg "holds" (top 4) ["one","other"]) (v:ziS Z) (T:Txt Z.mg):zkG Z:=by
 refine' okQ D (fnS (N:=["one","other"]) (by decide +kernel)) rfl fun f C A outer s H E u=>⟨_,(Jc (Ji (Yk (QT zsd gp_B (dl (Jd (dlv 0) dli)) (dl (Jd (dlv 1) dli)) (Jh _)) (Q1 (QT (Qf u) Qd (dl (Je v u (dbv 1 (dbc (Jd (dlv 0) dli) Ja)))) (dlv 0) (Jh _)))))),?_⟩
 intro ts n R I l;obtain⟨i,h,j,g,rfl,G,g1,y,x,l⟩:=l;unfold hldD at l
 wp_walk using zoc G g1 y x ?_
 ·exact Ux
 ·exact Ux
 ·rw[decide_eq_true hc,dh]at l;rw[znX];simpa using l
 ·rw[decide_eq_false hc,cC]at l;exact l
def zhs:GD:=fun ts n R=>∃d,ts=[d]/\PlnD d/\R (.bool (nmD d)) n
theorem zhF{d:af}{n:Nat}{R:qN}(p:PlnD d)(h:R (.bool (nmD d)) n):zhs [d] n R:=⟨d,rfl,p,h⟩
def zgA(Z:ZZ):Prop:=FQ Z "is_name" (top 8) ["thing"] 1 (spD Z.K 1 zhs)
theorem zjU(D:Dq Z.K Z.mg "is_name" (top 8) ["thing"]) (T:Txt Z.mg):zgA Z:=by
 refine' okQ D (fnS (N:=["thing"]) (by decide +kernel)) rfl fun f I A outer s H E hr=>⟨_,(Jb (Jt (Qc (QS (QB (Qe (dl (Yl zoG T.isi T.str zhK (dlv 0) Jq)))) (Um (QB (zn0 J3 JZ J3 JZ dli (dl (Jx QE QC T.len Qu (Jk (dlv 0) Jp Jq))) dli))))) (Jc (Ji QQ)) Jy) (Jc (Ji (Jx (zeV rfl) zlV T.all zeY (Jk (dl (Jr (dnc ["letter"] [] (dil (ztT (Jj 0))) (fun _ _ _ _=>(dgv 0 (ndB rfl))) (fun _ _ _ _=>(VZ J3 JZ J3 JZ (dl Qt) (dlv 0) (dl Qt)))))) Jp ZF))))),?_⟩
 intro ts n R Y h;obtain⟨d,rfl,p,h⟩:=h;cases d with
 | str z =>
  have hz:=p.str;have C:(aa "a").cps.toList=[97]:=by decide +kernel
  have J:(aa "z").cps.toList=[122]:=by decide +kernel
  have e:nmD (.str z)=(decide (1<=z.length)&&decide (z.length<=8)&&z.cps.toList.all fun c=>decide (97<=c)&&decide (c<=122)):=rfl
  rw[e]at h
  wp_walk
  ·lia
  ·refine Ut (cs:=z.cps.toList) (D:=fun c=>.str ⟨#[c]⟩) (fun c=>.bool (decide (97<=c)&&decide (c<=122))) (by rw[Qq];lia) ?_ ?_
   ·intro c G K2 X2 u
    wp_walk
    ·have z:c<97:=zk1.mp (show([c]:List Nat)<[97] from C▸hc)
     rw[decide_eq_false (show ¬97<=c by lia),cC]at u
     exact u
    ·have z:¬c<97:=fun y=>hc (C.symm▸zk1.mpr y)
     rw[decide_eq_true (show 97<=c by lia),dh]at u
     have U:(!decide ((aa "z").cps.toList<(⟨#[c]⟩:Str).cps.toList))=decide (c<=122):=by
      rw[J];exact zpN
     rw[U];exact u
   ·wp_walk using zlR ?_
    have v:1<=z.length:=by lia
    have x:z.length<=8:=by lia
    rw[decide_eq_true v,decide_eq_true x]at h;exact h
  ·have x:¬z.length<=8:=by lia
   rw[decide_eq_false x,hU,cC]at h;exact h
  ·have v:¬1<=z.length:=by lia
   rw[decide_eq_false v,cC,cC]at h;exact h
 | dict S =>
  cases S with
  | nil =>
   wp_walk
   exact h
  | cons a b=>exact absurd rfl (PlnD.pln p)
 | _ =>
  wp_walk
  exact h
def zjk:GD:=fun ts n R=>∃i h:Int,ts=[.tuple [.int i,.int h]]/\0<=h/\h<=1000/\R (.int (i+2 ^ h.toNat)) n
theorem VY{i h:Int}{n:Nat}{R:qN}(v:0<=h)(g1:h<=1000)(h':R (.int (i+2 ^ h.toNat)) n):zjk [.tuple [.int i,.int h]] n R:=⟨_,_,rfl,v,g1,h'⟩
def VU(Z:ZZ):Prop:=FQ Z "end_of" (top 18) ["block"] 2 (spD Z.K 1 zjk)
theorem zk5(D:Dq Z.K Z.mg "end_of" (top 18) ["block"]) (v:zgx Z) (T:Txt Z.mg):VU Z:=by
 refine' okQ D (fnS (N:=["block"]) (by decide +kernel)) rfl fun f u A outer s H E x=>⟨_,(Jc (Ji (JC (dl (Jd (dlv 0) dli)) (dl (Je v x (dbv 0 Ja)))))),?_⟩
 intro ts n R y l;obtain⟨i,h,rfl,C,g1,l⟩:=l
 wp_walk using zms ?_ ?_ ?_
 ·lia
 ·lia
 ·exact l
theorem zj8{hi:Int}(h:0<hi):QP 0 hi hi.toNat.log2:=⟨by simp,by have:=zlm h;lia,fun z=>by have:=zli h;have:=z.2;lia⟩
theorem zlU{lo hi:Int}{t:Nat}(h:lo<hi)(u:lo % 2 ^ t=0)(v:¬lo % 2 ^ (t+1)=0):QP lo hi (min (hi - lo).toNat.log2 t):=by
 have a:=zlm (i:=hi - lo) (by lia)
 have b:=zli (i:=hi - lo) (by lia)
 rcases Nat.le_total (hi - lo).toNat.log2 t with z|z
 ·rw[lF z];exact⟨ZU z u,a,fun y=>by have:=y.2;lia⟩
 ·rw[Nat.min_eq_right z];exact⟨u,dE (Uv z) a,fun y=>v y.1⟩
theorem znz(t:Nat):((2:Int) ^ t).toNat.log2=t:=by
 have e:((2:Int) ^ t).toNat=2 ^ t:=by
  have:((2 ^ t:Nat):Int)=(2:Int) ^ t:=by rw[fI];rfl
  rw[<- this];rfl
 rw[e,Nat.log2_two_pow]
def zbK:GD:=fun ts n R=>∃lo hi:Int,ts=[.int lo,.int hi]/\0<=lo/\lo<hi/\∀g:Nat,QP lo hi g->R (.int g) n
theorem zdx{lo hi:Int}{n:Nat}{R:qN}(u:0<=lo)(l:lo<hi)(h:∀g:Nat,QP lo hi g->R (.int g) n):zbK [.int lo,.int hi] n R:=⟨lo,hi,rfl,u,l,h⟩
def zbH(Z:ZZ):Prop:=FQ Z "greatest_height" (top 19) ["begin","high"] 1 (spD Z.K 2 zbK)
theorem zcX(D:Dq Z.K Z.mg "greatest_height" (top 19) ["begin","high"]) (T:Txt Z.mg):zbH Z:=by
 refine' okQ D (fnS (N:=["begin","high","room"]) (by decide +kernel)) rfl fun f x A outer s H E y=>⟨_,(Jb (dsv 2 (ndB rfl) (QI (dl (zhw (dl (QI (dlv 1) (dlv 0))))) dli)) (Jb (Jt (Jl (Qf y) Qd (dlv 0) dli (Jh _)) (Jc (Ji (Jj 2))) Jy) (Jc (Ji (Jx (VL rfl) Vf T.min VJ (Jk (dlv 2) (Jk (dl (QI (dl (zhw (dl (zt1 (dlv 0) (dl (Yg (Jj 0))))))) dli)) Jp UZ) Jq)))))),?_⟩
 intro ts n R C h;obtain⟨lo,hi,rfl,G,u,h⟩:=h;have room:=zeB (i:=hi - lo) (by lia)
 wp_walk
 ·rw[room];subst hc;have:=h _ (zj8 u);rw[Int.sub_zero];exact this
 ·obtain⟨t,t1,t2⟩:=zuQ (b:=lo) (by lia)
  have an:=zqL (b:=lo) (by lia) t1 t2
  have v:=zeB (i:=(2:Int) ^ t) (Qm t);rw[znz]at v;rw[an,room,v];have:=h _ (zlU u t1 t2);have e:(if (t:Int)<((hi - lo).toNat.log2:Int) then(t:Int) else((hi - lo).toNat.log2:Int))=((min (hi - lo).toNat.log2 t:Nat):Int):=by
   split <;> lia
  rw[e];exact this
def Y6:GD:=fun ts n R=>∃lo hi:Int,ts=[.int lo,.int hi]/\0<=lo/\lo<=hi/\hi<=2 ^ 64/\∀bs,JE lo hi bs->R (.tuple (pD bs)) n
theorem zt5{lo hi:Int}{n:Nat}{R:qN}(x:0<=lo)(v:lo<=hi)(l2:hi<=2 ^ 64)(h:∀bs,JE lo hi bs->R (.tuple (pD bs)) n):Y6 [.int lo,.int hi] n R:=⟨lo,hi,rfl,x,v,l2,h⟩
def zop(Z:ZZ):Prop:=FQ Z "span" (top 11) ["low","high"] 3 (spD Z.K 2 Y6)
theorem zps(D:Dq Z.K Z.mg "span" (top 11) ["low","high"]) (HJ:VU Z) (U:zbH Z) (T:Txt Z.mg):zop Z:=by
 refine' okQ D (fnS (N:=["low","high","blocks","begin","block"]) (by decide +kernel)) rfl fun f cdv A outer s H E C=>⟨_,(Jb (QA (i:=2) (ndB rfl) rfl (cX rfl) (JI Ja)) (Jb (dsv 3 (ndB rfl) (Jj 0)) (Jb (ZO cc (Jl (Qa C) J1 (dlv 3) (dlv 1) (Jh _)) (Jb (dsv 4 (ndB rfl) (Jm (dbv 3 (dbc (Je U C (dbv 3 (dbv 1 Ja))) Ja)))) (Jb (Qn 2 (Jj 4)) (Jc (dsv 3 (ndB rfl) (Je HJ C (dbv 4 Ja))))))) (QM 2 (Jc (Ji (QZ Uf Q8 T.tup QN (Jk (dlv 2) Jp Jq)))))))),?_⟩
 intro ts n R hl h;obtain⟨lo,hi,rfl,l0,Y,l2,h⟩:=h;obtain⟨all,A⟩:=zhV _ lo hi (aC _) Y;have al:=A.len l0 l2
 wp_walk
 refine Vy (fun m J L=>L=n/\∃(bs rest:qB) (y:Int) (I:Option Cell),J=[some (.val (.int lo)),some (.val (.int hi)),some (.own (pD bs)),some (.val (.int y)),I]/\all=bs++rest/\JE y hi rest/\lo<=y/\m=rest.length) (m:=all.length) ⟨rfl,[],all,lo,_,rfl,rfl,A,bQ _,rfl⟩ ?_
 rintro m J L NX RT BK ⟨rfl,bs,rest,y,I,rfl,x,S,lb,rfl⟩ hN hR hB
 wp_walk
 ·cases rest with
  | nil=>have:y=hi:=S;lia
  | cons b r =>
   obtain⟨s1,s2,s3,s4,s5⟩:=S;refine zdx (by lia) hc fun g G=>?_
   have eg:b.2.toNat=g:=s4.uniq G;have eb:b=(y,(g:Int)):=iF s2 (by show b.2=(g:Int);lia)
   have gl:g<=64:=by
    rcases cg 64 g with z|z
    ·have:=Uv (show 65<=g by lia)
     have:=G.2.1;have e:(2:Int) ^ 65=2*2 ^ 64:=by decide
     lia
    ·exact z
   wp_walk using VY (by lia) (by lia) ?_
   ·rw[Jv];have:=congrArg dQ x;rw[aT]at this;lia
   ·refine hN r.length _ _ (by simp) ⟨rfl,bs++[b],r,y+2 ^ (g:Int).toNat,some (.val (.tuple [.int y,.int (g:Int)])),by rw[eb,<- UR],by rw[x];simp,?_,?_,rfl⟩
    ·rw[eg]at s5;simpa using s5
    ·have:=Qm (g:Int).toNat;lia
 ·have e:y=hi:=by have:=S.le;lia
  cases rest with
  | cons b r=>have:=S.1;lia
  | nil =>
   refine hB _ _ ?_
   wp_walk
   rw[bK]at x;rw[<- x];exact h _ A
theorem zpS{bits:Int}{bs:qB}{t:af}{N:List af->Prop}(Y:t=.list (pD bs)\/t=.tuple (pD bs))(y:bits<=64)(B:Bks bits bs)(L:bs.length<100000)
  (h:∀cs:List (Int×Int),cs.Perm bs->cs.Pairwise (fun a b=>a.1<=b.1)->N (pD cs)):YU t N:=by
 have key:(pD bs).length<100000/\(∀x∈pD bs,IsPr x)/\∀v:List af,v.Perm (pD bs)->v.Pairwise (fun a b=>rkD a<=rkD b)->N v:=by
  refine⟨by rw[Jv];exact L,fun x hx=>?_,fun v pm pw=>?_⟩
  ·obtain⟨b,G,rfl⟩:=aS.mp hx;have:=B b G;exact⟨b.1,b.2,rfl,this.1,by have:=this.2.1;lia⟩
  ·have J:v.Perm ((bs.map fun b=>(b,prD b)).map (·.2)):=by
    have:(bs.map fun b=>(b,prD b)).map (·.2)=pD bs:=by simp[pD]
    rw[this];exact pm
   obtain⟨zs,R,p2⟩:=VR J;have ez:∀z∈zs,z.2=prD z.1:=fun z I=>by
    obtain⟨b,_,rfl⟩:=aS.mp (R.mem_iff.mp I)
    rfl
   have e:v=pD (zs.map (·.1)):=by
    rw[<- p2];unfold pD;rw[cZ];exact iN fun z I=>ez z I
   have pc:(zs.map (·.1)).Perm bs:=by
    have:=R.map (·.1);rw[cZ]at this;have e2:bs.map ((fun x:(Int×Int)×af=>x.1)∘fun b=>(b,prD b))=bs:=by
     show bs.map id=bs
     exact vw _
    rwa [e2]at this
   rw[e];have C:Bks bits (zs.map (·.1)):=fun b y=>B b (pc.mem_iff.mp y)
   rw[e]at pw;unfold pD at pw;rw[dY]at pw;refine h _ pc (gD ?_ pw);intro a b U y S;have S:a.1*1000+a.2<=b.1*1000+b.2:=S;have a0:=(C a U).1;have a1:=(C a U).2.1;have b0:=(C b y).1;have b1:=(C b y).2.1;lia
 rcases Y with rfl|rfl <;> exact key
def zhq:GD:=fun ts n R=>∃(bits:Int) (bs:qB) (t:af),ts=[t]/\(t=.list (pD bs)\/t=.tuple (pD bs))/\0<=bits/\bits<=64/\Bks bits bs/\bs.length<100000/\∀rs,NR rs->(∀x,mR x rs↔mB x bs)->rs.length<=bs.length->R (.list (pD rs)) n
theorem zeW{bits:Int}{bs:qB}{t:af}{n:Nat}{R:qN}(y:t=.list (pD bs)\/t=.tuple (pD bs))(C:0<=bits)(v:bits<=64)(B:Bks bits bs)(l:bs.length<100000)(h:∀rs,NR rs->(∀x,mR x rs↔mB x bs)->rs.length<=bs.length->R (.list (pD rs)) n):zhq [t] n R:=⟨bits,bs,t,rfl,y,C,v,B,l,h⟩
def zgy(Z:ZZ):Prop:=FQ Z "runs_of" (top 21) ["blocks"] 3 (spD Z.K 1 zhq)
theorem zjS(D:Dq Z.K Z.mg "runs_of" (top 21) ["blocks"]) (HJ:VU Z) (T:Txt Z.mg):zgy Z:=by
 refine' okQ D (fnS (N:=["blocks","runs","block","low","high"]) (by decide +kernel)) rfl fun f cdv A outer s H E C=>⟨_,(Jb (QA (i:=1) (ndB rfl) rfl (cX rfl) (JI Ja)) (Jb (Q3 cc rfl (Ur (Jr (zhv C T.srt (dlv 0) Jq))) (dgv 2 (ndB rfl)) (Jc (Jt (Qc (Q6 (Qe (Ul 1)) (Us (Jl J3 JZ (dl (Jd (dlv 2) dli)) (dl (Jd (dl (Jd (Ul 1) (dl (Yg Jg)))) dli)) (Jh _))))) (Jb (QU (Jd (Ul 1) (dl (Yg Jg))) (JT rfl (Jo (dgv 3 (ndB rfl)) (Jo (dgv 4 (ndB rfl)) JR)))) (Jc (ztQ 1 (Yg Jg) (Jm (dbv 3 (dbc (Jx (Yx rfl) Yh T.max Yw (Jk (dlv 4) (Jk (dl (Je HJ C (dbv 2 Ja))) Jp U0) Jq)) Ja)))))) (Jc (Qn 1 (Jm (dbc (Jd (dlv 2) dli) (dbc (Je HJ C (dbv 2 Ja)) Ja)))))))) (QM 1 (Jc (Ji (Jj 1)))))),?_⟩
 intro ts n R hl h;obtain⟨bits,bs,t,rfl,ht,b0,b1,B,l,h⟩:=h
 wp_walk
 refine zpS ht b1 B l fun cs pm pw=>?_
 have Bc:Bks bits cs:=fun b G=>B b (pm.mem_iff.mp G)
 have lc:=pm.length_eq;refine zoK 1 2 3 4 (fun k a1 _ _ _ m=>m=n/\∃rs:List (Int×Int),a1=some (.own (pD rs))/\NR rs/\(∀x,mR x rs↔mB x (cs.take k))/\rs.length<=k/\∀r∈rs,∀b∈cs.drop k,r.1<=b.1) ⟨rfl,[],rfl,⟨(fun r C=>nomatch C),.nil⟩,(fun x=>⟨fun z=>absurd z Qp,fun z=>absurd z zoy⟩),aC _,fun r C=>nomatch C⟩ ?_ ?_
 ·rintro k t' a1 a2 a3 a4 m K RT BK et ⟨rfl,rs,rfl,nr,me,lr,lo⟩ hK hRT hBK;obtain⟨i,g,Y,rfl⟩:=Zi et;have kl:=(ax.mp Y).1;have Bb:=Bc _ (aN Y);have g0:0<=g:=Bb.1;have g1:g<=bits:=Bb.2.1;have pg:=Qm g.toNat;have tk:cs.take (k+1)=cs.take k++[(i,g)]:=by rw[dD,Y];rfl
  have S:cs.drop k=(i,g)::cs.drop (k+1):=by
   rw[bE kl];congr 1;have:=au kl;rw[Y]at this;exact(aO this).symm
  have after:∀b∈cs.drop (k+1),i<=b.1:=fun b G=>by
   have:cs.Pairwise fun a b=>a.1<=b.1:=pw
   have:=(this.sublist (kB k cs));rw[S]at this;exact(gL.mp this).1 b G
  have m1:∀x,mB x (cs.take (k+1))↔mB x (cs.take k)\/(i<=x/\x<i+2 ^ g.toNat):=fun x=>by
   rw[tk,zsp,zpJ];constructor
   ·rintro(z|z|z)
    ·exact .inl z
    ·exact .inr z
    ·exact absurd z zoy
   ·rintro(z|z)
    ·exact .inl z
    ·exact .inr (.inl z)
  have new:(∀r∈rs,r.2<i)->∀c2 c3 c4,K [some (.val t),some (.own (pD rs++[.tuple [.int i,.int (i+2 ^ g.toNat)]])),c2,c3,c4] m:=fun hlt c2 c3 c4 =>
   hK _ _ _ _ _ ⟨rfl,rs++[(i,i+2 ^ g.toNat)],by rw[<- UR],⟨fun r C=>by
    rcases aw.mp C with z|z
    ·exact nr.1 r z
    ·cases az.mp z;show i<i+2 ^ g.toNat;lia,by
    rw[cF];exact⟨nr.2,de _ _,fun a ha b G=>by cases az.mp G;exact hlt a ha⟩⟩,(fun x=>by
    rw[Q7,me,m1,JY];constructor
    ·rintro(z|z|z)
     ·exact .inl z
     ·exact .inr z
     ·exact absurd z Qp
    ·rintro(z|z)
     ·exact .inl z
     ·exact .inr (.inl z)),by simp;lia,fun r C b G=>by
    rcases aw.mp C with z|z
    ·exact lo r z b (by rw[S];simp[G])
    ·cases az.mp z;exact after b G⟩
  rcases lP rs with rfl|⟨I,r,rfl⟩
  ·wp_walk using VY g0 (by lia) ?_
   ·show 0<16777216;decide
   ·exact new (fun r C=>nomatch C) _ _ _
   ·exact absurd hc (by simp[pD])
  ·rw[lQ]at *;have sn:pD (I++[r])=pD I++[.tuple [.int r.1,.int r.2]]:=by simp[pD]
   have lr':I.length+1<=k:=by simpa using lr
   have r12:=nr.1 r (by simp)
   have rlo:r.1<=i:=lo r (by simp) (i,g) (by rw[S];simp)
   have J:=cF.mp nr.2;rw[sn]at new ⊢
   wp_walk using zja ?_,VY g0 (by lia) ?_
   all_goals first
    | (exfalso;simp at hc;done)
    | (exfalso;rename_i y;simp at y;done)
    | (simp[Jv];lia)
    | skip
   ·refine zrC zjb ?_
    wp_walk
    rw[List.set_append_right _ _ (aC _),iR];have mx:(if i+2 ^ g.toNat > r.2 then i+2 ^ g.toNat else r.2)=max r.2 (i+2 ^ g.toNat):=by split <;> lia
    refine hK _ _ _ _ _ ⟨rfl,I++[(r.1,max r.2 (i+2 ^ g.toNat))],?_,⟨fun s U=>?_,?_⟩,fun x=>?_,by simp;lia,fun s U b G=>?_⟩
    ·rw[mx];simp[pD]
    ·rcases aw.mp U with z|z
     ·exact nr.1 s (by simp[z])
     ·cases az.mp z;show r.1<max r.2 _;lia
    ·rw[cF];exact⟨J.1,de _ _,fun a ha b G=>by cases az.mp G;exact J.2.2 a ha r (by simp)⟩
    ·have L:=me x;rw[Q7,JY]at L;rw[Q7,JY,m1,<- L];have nn:=Qp (x:=x);show _\/(r.1<=x/\x<max r.2 (i+2 ^ g.toNat))\/_↔_
     constructor
     ·rintro(z|z|z)
      ·exact .inl (.inl z)
      ·by_cases w:x<r.2
       ·exact .inl (.inr (.inl ⟨z.1,w⟩))
       ·exact .inr (by lia)
      ·exact absurd z nn
     ·rintro((z|z|z)|z)
      ·exact .inl z
      ·exact .inr (.inl (by lia))
      ·exact absurd z nn
      ·exact .inr (.inl (by lia))
    ·rcases aw.mp U with z|z
     ·exact lo s (by simp[z]) b (by rw[S];simp[G])
     ·cases az.mp z;exact lo r (by simp) b (by rw[S];simp[G])
   ·refine new (fun s U=>?_) _ _ _
    rcases aw.mp U with z|z
    ·have:=J.2.2 s z r (by simp);have:=nr.1 r (by simp);lia
    ·cases az.mp z;lia
 ·rintro a1 a2 a3 a4 m ⟨rfl,rs,rfl,nr,me,lr,lo⟩;rw[Jv]at me lr;rw[fk]at me
  wp_walk
  exact h rs nr (fun x=>by rw[me x,zpI pm]) (by lia)
def zfs:GD:=fun ts n R=>∃rs:List (Int×Int),ts=[.list (pD rs)]/\(∀r∈rs,0<=r.1/\r.1<=r.2/\r.2<=2 ^ 64)/\rs.length<=100000/\∀ps,PatS rs ps->R (.tuple (pD ps)) n
theorem zfy{rs:qB}{n:Nat}{R:qN}(w:∀r∈rs,0<=r.1/\r.1<=r.2/\r.2<=2 ^ 64)(l:rs.length<=100000)(h:∀ps,PatS rs ps->R (.tuple (pD ps)) n):zfs [.list (pD rs)] n R:=⟨rs,rfl,w,l,h⟩
theorem zkU:∀{rs:qB},(∀r∈rs,r.1<=r.2)->∃ps,PatS rs ps
 | [],_=>⟨[],rfl⟩
 | r::rs,h=>by
  obtain⟨a,A⟩:=zhV _ r.1 r.2 (aC _) (h r (by simp))
  obtain⟨b,B⟩:=zkU (rs:=rs) fun s l=>h s (by simp[l])
  exact⟨a++b,a,b,rfl,A,B⟩
theorem zjx{g:DTG}{d:DTE}{v:En}{n:Nat}{C:List af->Nat->Prop}:∀(xs l:qD),(∀x∈xs,∀K:af->Nat->Prop,K x n->g x v fun u=>d u n K)->l.length+xs.length<=16777216->C (l++xs) n->JN g dYes d v xs l n C
 | [],l,_,_,h=>by simpa[JN] using h
 | x::xs,l,hg,hl,h=>by
  have e:(fun u=>dYes u n fun b G=>if b=true then d u G fun t I=>l.length<16777216/\JN g dYes d v xs (l++[t]) I C else JN g dYes d v xs l G C)=fun u=>d u n fun t I=>l.length<16777216/\JN g dYes d v xs (l++[t]) I C:=by
   funext u
   exact propext ⟨fun z=>by simpa[dYes] using z,fun z=>by simpa[dYes] using z⟩
  show g x v fun u=>dYes u n fun b G=>if b=true then d u G fun t I=>l.length<16777216/\JN g dYes d v xs (l++[t]) I C else JN g dYes d v xs l G C
  rw[e];refine hg x (by simp) _ ⟨by simp at hl;lia,zjx xs (l++[x]) (fun y J=>hg y (by simp[J])) (by simp at hl ⊢;lia) (by simpa using h)⟩
def zfj(Z:ZZ):Prop:=FQ Z "patch_of" (top 20) ["runs"] 4 (spD Z.K 1 zfs)
theorem zh1(D:Dq Z.K Z.mg "patch_of" (top 20) ["runs"]) (IY:zop Z) (T:Txt Z.mg):zfj Z:=by
 refine' okQ D (fnS (N:=["runs"]) (by decide +kernel)) rfl fun f cdv A outer s H E L=>⟨_,(Jc (Ji (QZ Uf Q8 T.tup QN (Jk (dl (Jr (zn5 (own:=["low","high","block"]) (capt:=[]) rfl (JG.of rfl) (dil (zoM (Jj 0))) (fun _ _ _ _=>(JT rfl (Jo (dgv 0 (ndB rfl)) (Jo (dgv 1 (ndB rfl)) JR)))) (by decide) (fun _ _ _ _=>Zz) (fun _ _ _ _=>(QJ (Je IY L (dbv 0 (dbv 1 Ja))))) (fun _ _ _ _=>(dgv 2 (ndB rfl))) (by decide) (fun _ _ _ _=>Zz) (fun _ _ _ _=>(Jj 2))))) Jp ZF)))),?_⟩
 intro ts n R hl h;obtain⟨rs,rfl,w,l,h⟩:=h
 wp_walk
 have key:∀(rs:qB) (v ps:qB),(∀r∈rs,0<=r.1/\r.1<=r.2/\r.2<=2 ^ 64)->v.length+130*rs.length<=16777216->PatS rs ps->∀K:List af->Nat->Prop,K (pD (v++ps)) n ->
   Uq (Yb (Q5 (Qo 0) (Q5 (Qo 1) U9))) dYes (dItT (dFn Y6 (Qk (dVar 0) (Qk (dVar 1) dNil)))) (Qo 2) dYes (dVar 2) [none,none,none] (pD rs) (pD v) n K:=by
  intro rs;induction rs with
  | nil =>
   intro v ps _ _ P K I;cases(show ps=[] from P)
   rw[bK]at I;exact I
  | cons r rs U =>
   intro v ps w la P K I;obtain⟨a,b,rfl,S,Pb⟩:=P;have G:=w r (by simp)
   have ll:=S.len G.1 G.2.2;show Yb (Q5 (Qo 0) (Q5 (Qo 1) U9)) (.tuple [.int r.1,.int r.2]) [none,none,none] fun y=>dYes y n fun b Y=>if b=true then dItT (dFn Y6 (Qk (dVar 0) (Qk (dVar 1) dNil))) y Y fun ts n3=>JN (Qo 2) dYes (dVar 2) y ts (pD v) n3 fun C n4=>Uq (Yb (Q5 (Qo 0) (Q5 (Qo 1) U9))) dYes (dItT (dFn Y6 (Qk (dVar 0) (Qk (dVar 1) dNil)))) (Qo 2) dYes (dVar 2) [none,none,none] (pD rs) C n4 K else _
   rw[aP]at la
   wp_walk using zt5 G.1 G.2.1 G.2.2 (fun bs B=>?_)
   rw[B.uniq S];refine zjx _ _ (fun x hx K2 J=>?_) (by rw[Jv,Jv];lia) ?_
   ·wp_walk
    exact J
   ·rw[Vx];exact U (v++a) b (fun s hs=>w s (by simp[hs])) (by rw[aT];lia) Pb K (by rw[bR];exact I)
 obtain⟨ps,P⟩:=zkU (rs:=rs) fun r L=>(w r L).2.1
 refine key rs [] ps w (by simp;lia) P _ ?_
 wp_walk
 exact h ps P
theorem zoz{xs:qD}{i:Int}{k:Nat}{x:af}{R:af->Prop}(hi:i=(k:Int))(e:xs[k]?=some x)(h:R x):oIx (.list xs) (.int i) R:=by
 subst hi;have u:=(ax.mp e).1;rw[Yd (x:=x)]
 ·exact h
 ·unfold atI ixN;have v:xs[k]=x:=by rw[au u]at e;exact aO e
  simp[u,v]
def zc4:GD:=fun ts n R=>∃u bs:List (Int×Int),ts=[.list (pD u),.list (pD bs)]/\NR u/\NR bs/\u.length<=1000000/\bs.length<=1000000/\∀cs,NR cs->(∀x,mR x cs↔mR x u/\mR x bs)->cs.length<=u.length+bs.length->R (.list (pD cs)) n
theorem zdf{u bs:qB}{n:Nat}{R:qN}(na:NR u)(nb:NR bs)(y:u.length<=1000000)(v:bs.length<=1000000)(h:∀cs,NR cs->(∀x,mR x cs↔mR x u/\mR x bs)->cs.length<=u.length+bs.length->R (.list (pD cs)) n):zc4 [.list (pD u),.list (pD bs)] n R:=⟨u,bs,rfl,na,nb,y,v,h⟩
def zcR(Z:ZZ):Prop:=FQ Z "shared_runs" (top 23) ["ones","others"] 1 (spD Z.K 2 zc4)
theorem ze2(D:Dq Z.K Z.mg "shared_runs" (top 23) ["ones","others"]) (T:Txt Z.mg):zcR Z:=by
 refine' okQ D (fnS (N:=["ones","others","shared","at","by","low","high"]) (by decide +kernel)) rfl fun f cdv A outer s H E C=>⟨_,(Jb (QA (i:=2) (ndB rfl) rfl (cX rfl) (JI Ja)) (Jb (dsv 3 (ndB rfl) Jg) (Jb (dsv 4 (ndB rfl) Jg) (Jb (ZO cc (Qc (Q6 (Jl (Qa C) J1 (dlv 3) (dl (Jx QE QC T.len Qu (Jk (dlv 0) Jp Jq))) (Jh _)) (Us (Jl (Qa C) J1 (dlv 4) (dl (Jx QE QC T.len Qu (Jk (dlv 1) Jp Jq))) (Jh _))))) (Jb (dsv 5 (ndB rfl) (Jx (Yx rfl) Yh T.max Yw (Jk (dl (Jd (dl (Jd (dlv 0) (dlv 3))) dli)) (Jk (dl (Jd (dl (Jd (dlv 1) (dlv 4))) dli)) Jp Vm) Vm))) (Jb (dsv 6 (ndB rfl) (Jx (VL rfl) Vf T.min VJ (Jk (dl (Jd (dl (Jd (dlv 0) (dlv 3))) dli)) (Jk (dl (Jd (dl (Jd (dlv 1) (dlv 4))) dli)) Jp Vm) Vm))) (Jb (Jt (Jl (Qa C) J1 (dlv 5) (dlv 6) (Jh _)) (Jc (Qn 2 (Jm (dbv 5 (dbv 6 Ja))))) Jy) (Jc (Jt (Jl (Qa C) J1 (dl (Jd (dl (Jd (dlv 0) (dlv 3))) dli)) (dl (Jd (dl (Jd (dlv 1) (dlv 4))) dli)) (Jh _)) (Jc (zoL (i:=3) (ndB rfl) rfl (cX rfl) Jg zoB)) (Jc (zoL (i:=4) (ndB rfl) rfl (cX rfl) Jg zoB)))))))) (QM 2 (Jc (Ji (Jj 2)))))))),?_⟩
 intro ts n R hl h;obtain⟨u,bs,rfl,na,nb,la,lb,h⟩:=h
 wp_walk
 refine Vy (fun m ρ Y=>Y=n/\∃(a b:Nat) (cs:qB) (G L:Option Cell),ρ=[some (.val (.list (pD u))),some (.val (.list (pD bs))),some (.own (pD cs)),some (.val (.int a)),some (.val (.int b)),G,L]/\m=(u.length - a)+(bs.length - b)/\a<=u.length/\b<=bs.length/\ShI u bs cs a b) ⟨rfl,0,0,[],_,_,rfl,rfl,by lia,by lia,.zero⟩ ?_
 rintro m ρ Y NX RT BK ⟨rfl,a,b,cs,G,L,rfl,rfl,ha,hb,I⟩ hN hR hB;have fin:(u.length<=a\/bs.length<=b)->BK [some (.val (.list (pD u))),some (.val (.list (pD bs))),some (.own (pD cs)),some (.val (.int a)),some (.val (.int b)),G,L] Y:=fun e=>hB _ _ (by
  wp_walk
  exact h cs I.nr (I.fin e) (by have:=I.ln;lia))
 have lc:=I.ln
 wp_walk
 ·rename_i hx;rw[Jv]at hx hc;have J:a<u.length:=by lia
  have U:b<bs.length:=by lia
  obtain⟨p,S⟩:∃p,u[a]?=some p:=⟨_,au J⟩;obtain⟨q,eq⟩:∃q,bs[b]?=some q:=⟨_,au U⟩;have x:=I.stepA nb na S eq;have sB:=I.stepB nb na S eq
  wp_walk using zoz (k:=a) rfl (Y3 S) ?_,zoz (k:=b) rfl (Y3 eq) ?_
  ·rw[Jv];lia
  all_goals
   have e1:(if q.1 > p.1 then q.1 else p.1)=max p.1 q.1:=by split <;> lia
   have e2:(if q.2<p.2 then q.2 else p.2)=min p.2 q.2:=by split <;> lia
   rename_i hd;rw[e1,e2]at hd
  ·have y:shr2 p q=[(max p.1 q.1,min p.2 q.2)]:=by unfold shr2;rw[if_pos hd]
   have x:=x hc;rw[y]at x;exact hN ((u.length - (a+1))+(bs.length - b)) _ _ (by lia) ⟨rfl,a+1,b,cs++[(max p.1 q.1,min p.2 q.2)],_,_,by rw[e1,e2,<- Vx];rfl,rfl,by lia,by lia,x⟩
  ·have y:shr2 p q=[(max p.1 q.1,min p.2 q.2)]:=by unfold shr2;rw[if_pos hd]
   have sB:=sB hc;rw[y]at sB;exact hN ((u.length - a)+(bs.length - (b+1))) _ _ (by lia) ⟨rfl,a,b+1,cs++[(max p.1 q.1,min p.2 q.2)],_,_,by rw[e1,e2,<- Vx];rfl,rfl,by lia,by lia,sB⟩
  ·have y:shr2 p q=[]:=by unfold shr2;rw[if_neg hd]
   have x:=x hc;rw[y,bK]at x;exact hN ((u.length - (a+1))+(bs.length - b)) _ _ (by lia) ⟨rfl,a+1,b,cs,_,_,rfl,rfl,by lia,by lia,x⟩
  ·have y:shr2 p q=[]:=by unfold shr2;rw[if_neg hd]
   have sB:=sB hc;rw[y,bK]at sB;exact hN ((u.length - a)+(bs.length - (b+1))) _ _ (by lia) ⟨rfl,a,b+1,cs,_,_,rfl,rfl,by lia,by lia,sB⟩
 ·rw[Jv]at hc;exact fin (.inr (by lia))
 ·rw[Jv]at hc;exact fin (.inl (by lia))
def zdI:GD:=fun ts n R=>∃(rs:qB) (top:Int),ts=[.list (pD rs),.int top]/\NR rs/\(∀r∈rs,0<=r.1)/\0<=top/\rs.length<=100000/\∀(gs:qB) (B:Int),NR gs->(∀x,mR x gs↔0<=x/\x<B/\¬mR x rs)->gs.length<=rs.length+1->top<=B->(B=top\/∃r∈rs,B=r.2)->R (.list (pD gs)) n
theorem zdg{rs:qB}{top:Int}{n:Nat}{R:qN}(nr:NR rs)(w:∀r∈rs,0<=r.1)(t0:0<=top)(l:rs.length<=100000)(h:∀(gs:qB) (B:Int),NR gs->(∀x,mR x gs↔0<=x/\x<B/\¬mR x rs)->gs.length<=rs.length+1->top<=B->(B=top\/∃r∈rs,B=r.2)->R (.list (pD gs)) n):zdI [.list (pD rs),.int top] n R:=⟨rs,top,rfl,nr,w,t0,l,h⟩
def zdB(Z:ZZ):Prop:=FQ Z "gaps_below" (top 22) ["runs","top"] 1 (spD Z.K 2 zdI)
theorem zfM(D:Dq Z.K Z.mg "gaps_below" (top 22) ["runs","top"]) (T:Txt Z.mg):zdB Z:=by
 refine' okQ D (fnS (N:=["runs","top","gaps","begin","low","high"]) (by decide +kernel)) rfl fun f cdv A outer s H E C=>⟨_,(Jb (QA (i:=2) (ndB rfl) rfl (cX rfl) (JI Ja)) (Jb (dsv 3 (ndB rfl) Jg) (Jb (Q3 cc rfl (zoM (Jj 0)) (JT rfl (Jo (dgv 4 (ndB rfl)) (Jo (dgv 5 (ndB rfl)) JR))) (Jb (Jt (Jl (Qa C) J1 (dlv 3) (dlv 4) (Jh _)) (Jc (Qn 2 (Jm (dbv 3 (dbv 4 Ja))))) Jy) (Jc (dsv 3 (ndB rfl) (Jj 5))))) (Jb (Jt (Jl (Qa C) J1 (dlv 3) (dlv 1) (Jh _)) (Jc (Qn 2 (Jm (dbv 3 (dbv 1 Ja))))) Jy) (QM 2 (Jc (Ji (Jj 2)))))))),?_⟩
 intro ts n R hl h;obtain⟨rs,top,rfl,nr,w,t0,l,h⟩:=h
 wp_walk
 refine zoK 2 3 4 5 (fun k a2 a3 _ _ m=>m=n/\∃(gs:qB) (G:Int),a2=some (.own (pD gs))/\a3=some (.val (.int G))/\NR gs/\(∀x,mR x gs↔0<=x/\x<G/\¬mR x (rs.take k))/\gs.length<=k/\0<=G/\(G=0\/∃r∈rs,G=r.2)/\(∀r∈rs.take k,r.2<=G)/\(∀g∈gs,g.2<G)/\(∀r∈rs.drop k,(k=0/\G=0/\G<=r.1)\/G<r.1)) ⟨rfl,[],0,rfl,rfl,⟨(fun r C=>nomatch C),.nil⟩,(fun x=>⟨fun z=>absurd z Qp,fun z=>by lia⟩),aC _,bQ _,.inl rfl,(fun r C=>nomatch C),(fun r C=>nomatch C),fun r C=>.inl ⟨rfl,rfl,w r C⟩⟩ ?_ ?_
 ·rintro k t' a2 a3 a4 a5 m K RT BK et ⟨rfl,gs,G,rfl,rfl,J,me,lg,be0,S,ti,gl,dr⟩ hK hRT hBK;obtain⟨lo,hi,U,rfl⟩:=Zi et;have kl:=(ax.mp U).1;have mr:=aN U;have L:=nr.1 _ mr;have L:lo<hi:=L;have wr:=w _ mr;have wr1:0<=lo:=wr;have tk:rs.take (k+1)=rs.take k++[(lo,hi)]:=by rw[dD,U];rfl
  have dk:rs.drop k=(lo,hi)::rs.drop (k+1):=by
   rw[bE kl];congr 1;have:=au kl;rw[U]at this;exact(aO this).symm
  have after:∀r∈rs.drop (k+1),hi<r.1:=fun r C=>by
   have:=(nr.2.sublist (kB k rs));rw[dk]at this;exact(gL.mp this).1 r C
  have here:=dr (lo,hi) (by rw[dk];simp)
  have here:G<=lo:=by rcases here with z|z;exact z.2.2;exact cO z
  have mt:∀x,mR x (rs.take (k+1))↔mR x (rs.take k)\/(lo<=x/\x<hi):=fun x=>by
   rw[tk,Q7,JY];constructor
   ·rintro(z|z|z)
    ·exact .inl z
    ·exact .inr z
    ·exact absurd z Qp
   ·rintro(z|z)
    ·exact .inl z
    ·exact .inr (.inl z)
  have old:∀x,G<=x->¬mR x (rs.take k):=fun x hx ⟨r,C,h1,h2⟩=>by have:=ti r C;lia
  have go:∀(I:qB) (c4 c5:Option Cell),NR I->(∀x,mR x I↔mR x gs\/(G<=x/\x<lo))->I.length<=k+1->(∀g∈I,g.2<hi)->K [some (.val (.list (pD rs))),some (.val (.int top)),some (.own (pD I)),some (.val (.int hi)),c4,c5] m:=fun I c4 c5 n' m' l' g' =>
   hK _ _ _ _ _ ⟨rfl,I,hi,rfl,rfl,n',(fun x=>by
    rw[m',me,mt];have Y:=old x;constructor
    ·rintro(⟨a,b,c⟩|⟨a,b⟩)
     ·exact⟨a,by lia,fun z=>z.elim c fun z=>by lia⟩
     ·exact⟨by lia,by lia,fun z=>z.elim (Y a) fun z=>by lia⟩
    ·rintro⟨a,b,c⟩
     by_cases y:x<G
     ·exact .inl ⟨a,y,fun z=>c (.inl z)⟩
     ·refine .inr ⟨by lia,?_⟩
      by_cases u:x<lo
      ·exact u
      ·exact absurd (.inr ⟨by lia,b⟩) c),l',by lia,.inr ⟨_,mr,rfl⟩,(fun r C=>by
    rw[tk]at C;rcases aw.mp C with z|z
    ·have:=ti r z;lia
    ·cases az.mp z;exact bQ _),g',fun r C=>.inr (after r C)⟩
  wp_walk
  ·rw[Jv];lia
  ·rw[UR];refine go (gs++[(G,lo)]) _ _ ⟨fun r C=>?_,?_⟩ (fun x=>?_) (by simp;lia) fun g hg=>?_
   ·rcases aw.mp C with z|z
    ·exact J.1 r z
    ·cases az.mp z;exact hc
   ·rw[cF];exact⟨J.2,de _ _,fun a ha b hb=>by cases az.mp hb;exact gl a ha⟩
   ·rw[Q7,JY];constructor
    ·rintro(z|z|z)
     ·exact .inl z
     ·exact .inr z
     ·exact absurd z Qp
    ·rintro(z|z)
     ·exact .inl z
     ·exact .inr (.inl z)
   ·rcases aw.mp hg with z|z
    ·have:=gl g z;lia
    ·cases az.mp z;exact L
  ·refine go gs _ _ J (fun x=>⟨.inl,fun z=>z.elim id fun z=>by lia⟩) (by lia) fun g hg=>?_
   have:=gl g hg;lia
 ·rintro a2 a3 a4 a5 m ⟨rfl,gs,G,rfl,rfl,J,me,lg,be0,S,ti,gl,dr⟩;rw[Jv]at me lg ti;rw[fk]at me ti;have old:∀x,G<=x->¬mR x rs:=fun x hx ⟨r,C,h1,h2⟩=>by have:=ti r C;lia
  wp_walk
  ·rw[Jv];lia
  ·rw[UR];refine h (gs++[(G,top)]) top ⟨fun r C=>?_,?_⟩ (fun x=>?_) (by simp;lia) (bQ _) (.inl rfl)
   ·rcases aw.mp C with z|z
    ·exact J.1 r z
    ·cases az.mp z;exact hc
   ·rw[cF];exact⟨J.2,de _ _,fun a ha b hb=>by cases az.mp hb;exact gl a ha⟩
   ·rw[Q7,JY,me];have Y:=old x;constructor
    ·rintro(⟨a,b,c⟩|z|z)
     ·exact⟨a,by lia,c⟩
     ·exact⟨by have:=z.1;lia,z.2,Y z.1⟩
     ·exact absurd z Qp
    ·rintro⟨a,b,c⟩
     by_cases y:x<G
     ·exact .inl ⟨a,y,c⟩
     ·exact .inr (.inl ⟨by show G<=x;lia,b⟩)
  ·refine h gs G J me (by lia) (by lia) ?_
   rcases S with z|z
   ·exact .inl (by lia)
   ·exact .inr z
def zeC:GD:=fun ts n R=>∃(bits:Int) (ps qs:qB),ts=[.tuple (pD ps),.tuple (pD qs)]/\0<=bits/\bits<=64/\Bks bits ps/\Bks bits qs/\ps.length<100000/\qs.length<100000/\ps.length+qs.length<=90000/\∀cs,CanP (fun x=>mB x ps/\¬mB x qs) cs->cs.length<=130*(ps.length+qs.length+1)->R (.tuple (pD cs)) n
theorem zmr{bits:Int}{ps qs:qB}{n:Nat}{R:qN}(C:0<=bits)(v:bits<=64)(A:Bks bits ps)(B:Bks bits qs)(y:ps.length<100000)(l2:qs.length<100000)(G:ps.length+qs.length<=90000)(h:∀cs,CanP (fun x=>mB x ps/\¬mB x qs) cs->cs.length<=130*(ps.length+qs.length+1)->R (.tuple (pD cs)) n):zeC [.tuple (pD ps),.tuple (pD qs)] n R:=⟨bits,ps,qs,rfl,C,v,A,B,y,l2,G,h⟩
def zgw(Z:ZZ):Prop:=FQ Z "without" (top 13) ["one","other"] 5 (spD Z.K 2 zeC)
theorem zjQ(D:Dq Z.K Z.mg "without" (top 13) ["one","other"]) (Iq:zgy Z) (Ir:zfj Z) (HS:zcR Z) (HX:zdB Z) (T:Txt Z.mg):zgw Z:=by
 refine' okQ D (fnS (N:=["one","other","runs","top"]) (by decide +kernel)) rfl fun f cdv A outer s H E v=>⟨_,(Jb (dsv 2 (ndB rfl) (Je Iq v (dbv 0 Ja))) (Jb (dsv 3 (ndB rfl) (zn8 (Qe (dlv 2)) (Jd (dl (Jd (dlv 2) (dl (Yg Jg)))) dli) Jg)) (Jc (Ji (Je Ir v (dbc (Je HS v (dbv 2 (dbc (Je HX v (dbc (Je Iq v (dbv 1 Ja)) (dbv 3 Ja))) Ja))) Ja)))))),?_⟩
 intro ts n R hl h;obtain⟨bits,ps,qs,rfl,C,L,A,B,l1,l2,l3,h⟩:=h
 wp_walk
 refine zeW (.inr rfl) C L A l1 (fun rs nr me lr=>?_)
 have wr:=Y2 C L nr me fun x hx=>UT C A hx
 rcases lP rs with rfl|⟨S,r,rfl⟩
 ·have t0:(0:Int)<=0:=bQ _;have tt:∀r∈([]:qB),r.2<=0:=fun r v=>nomatch v
  wp_walk
  ·refine zeW (.inr rfl) C L B l2 (fun ss ns Y ls=>?_)
   have ws:=Y2 C L ns Y fun x hx=>UT C B hx
   wp_walk using zdg ns (fun r v=>(ws r v).1) t0 (by lia) (fun gs Bd ng mg lg tb _=>?_)
   refine zdf nr ng (by lia) (by lia) (fun cs U mc lc=>?_)
   have G:∀x,mR x cs↔mB x ps/\¬mB x qs:=fun x=>by
    rw[mc,mg,Y];constructor
    ·rintro⟨J,z2,z3,z4⟩;exact⟨(me x).mp J,z4⟩
    ·rintro⟨J,z2⟩;have I:=(me x).mpr J;refine⟨I,(UT C A J).1,?_,z2⟩;obtain⟨r,v,_,y⟩:=I;have:=tt r v;lia
   have w:=Y2 C L U G fun x hx=>UT C A hx.1
   wp_walk using zfy w (by lia) (fun es P=>?_)
   have:=P.len fun r v=>⟨(w r v).1,(w r v).2.2⟩
   exact h es ⟨cs,U,G,P⟩ (by lia)
  ·exact absurd hc (by simp[pD])
 ·rw[lQ]at *;have sn:pD (S++[r])=pD S++[.tuple [.int r.1,.int r.2]]:=by simp[pD]
  have wl:=wr r (by simp)
  have t0:0<=r.2:=by lia
  have tt:∀s∈S++[r],s.2<=r.2:=fun s hs=>by
   rcases aw.mp hs with z|z
   ·have:=(cF.mp nr.2).2.2 s z r (by simp);lia
   ·cases az.mp z;exact bQ _
  rw[sn]
  wp_walk using zja ?_
  ·exact absurd hc (by simp)
  ·refine zeW (.inr rfl) C L B l2 (fun ss ns Y ls=>?_)
   have ws:=Y2 C L ns Y fun x hx=>UT C B hx
   wp_walk using zdg ns (fun r v=>(ws r v).1) t0 (by lia) (fun gs Bd ng mg lg tb _=>?_)
   rw[<- sn];refine zdf nr ng (by lia) (by lia) (fun cs U mc lc=>?_)
   have G:∀x,mR x cs↔mB x ps/\¬mB x qs:=fun x=>by
    rw[mc,mg,Y];constructor
    ·rintro⟨J,z2,z3,z4⟩;exact⟨(me x).mp J,z4⟩
    ·rintro⟨J,z2⟩;have I:=(me x).mpr J;refine⟨I,(UT C A J).1,?_,z2⟩;obtain⟨r,v,_,y⟩:=I;have:=tt r v;lia
   have w:=Y2 C L U G fun x hx=>UT C A hx.1
   wp_walk using zfy w (by lia) (fun es P=>?_)
   have:=P.len fun r v=>⟨(w r v).1,(w r v).2.2⟩
   exact h es ⟨cs,U,G,P⟩ (by lia)
def zfu:GD:=fun ts n R=>∃(bits:Int) (bs:qB) (a:Int),ts=[.tuple (pD bs),.int a]/\bits<=64/\Ptc bits bs/\bs.length<1000000/\∀k:Nat,k<=bs.length->(∀(j:Nat) (b:Int×Int),j<k->bs[j]?=some b->eB b<=a)->(∀(j:Nat) (b:Int×Int),k<=j->bs[j]?=some b->a<eB b)->R (.int (k:Int)) n
theorem zke{bits a:Int}{bs:qB}{n:Nat}{R:qN}(x:bits<=64)(P:Ptc bits bs)(v:bs.length<1000000)(h:∀k:Nat,k<=bs.length->(∀(j:Nat) (b:Int×Int),j<k->bs[j]?=some b->eB b<=a)->(∀(j:Nat) (b:Int×Int),k<=j->bs[j]?=some b->a<eB b)->R (.int (k:Int)) n):zfu [.tuple (pD bs),.int a] n R:=⟨bits,bs,a,rfl,x,P,v,h⟩
def zfl(Z:ZZ):Prop:=FQ Z "ended_by" (top 17) ["patch","address"] 3 (spD Z.K 2 zfu)
theorem zh4(D:Dq Z.K Z.mg "ended_by" (top 17) ["patch","address"]) (HJ:VU Z) (T:Txt Z.mg):zfl Z:=by
 refine' okQ D (fnS (N:=["patch","address","low","high","middle"]) (by decide +kernel)) rfl fun f cdv A outer s H E hr=>⟨_,(Jb (dsv 2 (ndB rfl) Jg) (Jb (dsv 3 (ndB rfl) (Jx QE QC T.len Qu (Jk (dlv 0) Jp Jq))) (Jb (ZO cc (Jl (Qa hr) J1 (dlv 2) (dlv 3) (Jh _)) (Jb (dsv 4 (ndB rfl) (zin (dl (JC (dlv 2) (dlv 3))) dli)) (Jc (Jt (Jl J3 JZ (dl (Je HJ hr (dbc (Jd (dlv 0) (dlv 4)) Ja))) (dlv 1) (Jh _)) (Jc (dsv 2 (ndB rfl) (JC (dlv 4) dli))) (Jc (dsv 3 (ndB rfl) (Jj 4))))))) (Jc (Ji (Jj 2)))))),?_⟩
 intro ts n R hl L;obtain⟨bits,bs,a,rfl,b1,P,hl6,L⟩:=L;have srt:=P.ends
 wp_walk
 rw[Jv];refine zgc (m:=bs.length) (fun m U n'=>n'=n/\∃lo hi:Nat,∃c,U=[some (.val (.tuple (pD bs))),some (.val (.int a)),some (.val (.int (lo:Int))),some (.val (.int (hi:Int))),c]/\lo<=hi/\hi<=bs.length/\m=hi - lo/\(∀(j:Nat) (b:Int×Int),j<lo->bs[j]?=some b->eB b<=a)/\(∀(j:Nat) (b:Int×Int),hi<=j->bs[j]?=some b->a<eB b)) ?_ ?_
 ·refine⟨rfl,0,bs.length,none,rfl,eU _,aC _,rfl,fun j b C=>absurd C (Nat.not_lt_zero _),fun j b C e=>?_⟩
  rw[cw C]at e;cases e
 ·rintro m U n' ⟨rfl,lo,hi,c,rfl,h1,Y,rfl,h3,S⟩
  wp_walk
  ·exact zqz
  ·have hm:(lo+hi) / 2<bs.length:=by lia
   obtain⟨b,I⟩:∃b,bs[(lo+hi) / 2]?=some b:=⟨_,au hm⟩;have hb:=P.1 b (aN I);refine zpT (k:=(lo+hi) / 2) (by lia) (Y3 I) ?_
   have sx:∀(i j:Nat) (x y:Int×Int),bs[i]?=some x->bs[j]?=some y->i<=j->eB x<=eB y:=fun i j x y ei J hij=>by
    by_cases z:i=j
    ·subst z;rw[ei]at J;cases J;exact bQ _
    ·obtain⟨l1,rfl⟩:=ax.mp ei;obtain⟨l2,rfl⟩:=ax.mp J;exact bp.mp srt i j l1 l2 (by lia)
   wp_walk using VY ?_ ?_ ?_
   ·exact hb.1
   ·have:=hb.2.1;lia
   ·have hc:eB b<=a:=hc;refine⟨_,?_,rfl,(lo+hi) / 2+1,hi,some (.val (.int (((lo+hi) / 2:Nat):Int))),?_,by lia,Y,rfl,fun j x C e=>?_,S⟩
    ·lia
    ·have G:((lo:Int)+hi) / 2=(((lo+hi) / 2:Nat):Int):=by lia
     first|(rw[G];done)|(rw[G];rfl)
    ·exact dE (sx _ _ _ _ e I (by lia)) hc
   ·have hc:¬eB b<=a:=hc;refine⟨_,?_,rfl,lo,(lo+hi) / 2,some (.val (.int (((lo+hi) / 2:Nat):Int))),?_,by lia,by lia,rfl,h3,fun j x C e=>?_⟩
    ·lia
    ·have G:((lo:Int)+hi) / 2=(((lo+hi) / 2:Nat):Int):=by lia
     first|(rw[G];done)|(rw[G];rfl)
    ·have:=sx _ _ _ _ I e (by lia);lia
  ·have e:lo=hi:=by lia
   subst e;exact L lo Y h3 S
def zdJ:GD:=fun ts n R=>∃(bits:Int) (bs:qB) (a:Int),ts=[.tuple (pD bs),.int a]/\bits<=64/\Ptc bits bs/\bs.length<1000000/\(∀b∈bs,b.1<=a->a<eB b->R (.tuple [.int b.1,.int b.2]) n)/\((∀b∈bs,¬(b.1<=a/\a<eB b))->R .none n)
theorem zhH{bits a:Int}{bs:qB}{n:Nat}{R:qN}(x:bits<=64)(P:Ptc bits bs)(v:bs.length<1000000)(h:∀b∈bs,b.1<=a->a<eB b->R (.tuple [.int b.1,.int b.2]) n)(h':(∀b∈bs,¬(b.1<=a/\a<eB b))->R .none n):zdJ [.tuple (pD bs),.int a] n R:=⟨bits,bs,a,rfl,x,P,v,h,h'⟩
def zdC(Z:ZZ):Prop:=FQ Z "block_with" (top 14) ["patch","address"] 4 (spD Z.K 2 zdJ)
theorem zfN(D:Dq Z.K Z.mg "block_with" (top 14) ["patch","address"]) (Iu:zfl Z) (T:Txt Z.mg):zdC Z:=by
 refine' okQ D (fnS (N:=["patch","address","at"]) (by decide +kernel)) rfl fun f cdv A outer s H E L=>⟨_,(Jb (dsv 2 (ndB rfl) (Je Iu L (dbv 0 (dbv 1 Ja)))) (Jb (Jt (Qc (Q6 (Jl (Qa L) J1 (dlv 2) (dl (Jx QE QC T.len Qu (Jk (dlv 0) Jp Jq))) (Jh _)) (Us (Jl J3 JZ (dl (Jd (dl (Jd (dlv 0) (dlv 2))) dli)) (dlv 1) (Jh _))))) (Jc (Ji (Jd (dlv 0) (dlv 2)))) Jy) (Jc (Ji UU)))),?_⟩
 intro ts n R hl G;obtain⟨bits,bs,a,rfl,U,P,I,G,J⟩:=G
 wp_walk using zke U P I (fun k k0 k1 k2=>?_)
 ·rw[Jv]at hc;have hm:k<bs.length:=by lia
  obtain⟨b,u⟩:∃b,bs[k]?=some b:=⟨_,au hm⟩;refine zpT (k:=k) rfl (Y3 u) ?_
  wp_walk
  ·refine zpT (k:=k) rfl (Y3 u) ?_;exact G b (aN u) (by assumption) (k2 k b (aC _) u)
  ·have hx:¬b.1<=a:=hc;refine J fun x l ⟨x0,Y⟩=>?_
   obtain⟨j,C,rfl⟩:=bL l;have v:=au C
   by_cases z:j<k
   ·have:=k1 j _ z v;lia
   ·by_cases y:j=k
    ·subst y;rw[v]at u;cases u;exact hx x0
    ·obtain⟨S,rfl⟩:=ax.mp u;have:=bp.mp P.2 k j S C (by lia)
     have:=UW bs[k];exact hx (by lia)
 ·rw[Jv]at hc;refine J fun x l ⟨x0,Y⟩=>?_
  obtain⟨j,C,rfl⟩:=bL l;have:=k1 j _ (by lia) (au C)
  lia
theorem zsh{bits:Int}{bs:qB}(P:Ptc bits bs){p q:Int×Int}{x:Int}(u:p∈bs)(v:q∈bs)(G:p.1<=x)(p2:x<eB p)(y:q.1<=x)(C:x<eB q):p=q:=by
 obtain⟨i,hi,rfl⟩:=bL u;obtain⟨j,l,rfl⟩:=bL v;rcases eX i j with z|z|z
 ·have:=bp.mp P.2 i j hi l z;lia
 ·subst z;rfl
 ·have:=bp.mp P.2 j i l hi z;lia
def zc5:GD:=fun ts n R=>∃(bits:Int) (bs:qB) (b:Int×Int),ts=[.tuple (pD bs),.tuple [.int b.1,.int b.2]]/\0<=bits/\bits<=64/\Ptc bits bs/\bs.length<1000000/\IsBk bits b.1 b.2/\(∀p∈bs,p.1<=b.1->eB b<=eB p->R (.tuple [.int p.1,.int p.2]) n)/\((∀p∈bs,¬(p.1<=b.1/\eB b<=eB p))->R .none n)
theorem zga{bits:Int}{bs:qB}{b:Int×Int}{n:Nat}{R:qN}(y:0<=bits)(x:bits<=64)(P:Ptc bits bs)(v:bs.length<1000000)(B:IsBk bits b.1 b.2)(h:∀p∈bs,p.1<=b.1->eB b<=eB p->R (.tuple [.int p.1,.int p.2]) n)(h':(∀p∈bs,¬(p.1<=b.1/\eB b<=eB p))->R .none n):zc5 [.tuple (pD bs),.tuple [.int b.1,.int b.2]] n R:=⟨bits,bs,b,rfl,y,x,P,v,B,h,h'⟩
def zcS(Z:ZZ):Prop:=FQ Z "block_about" (top 15) ["patch","block"] 5 (spD Z.K 2 zc5)
theorem ze3(D:Dq Z.K Z.mg "block_about" (top 15) ["patch","block"]) (J:zdC Z) (Y:zkG Z) (T:Txt Z.mg):zcS Z:=by
 refine' okQ D (fnS (N:=["patch","block","found"]) (by decide +kernel)) rfl fun f cdv A outer s H E y=>⟨_,(Jb (dsv 2 (ndB rfl) (Je J y (dbv 0 (dbc (Jd (dlv 1) dli) Ja)))) (Jb (Jt (Qc (Q6 (Jl zpo zqc (dlv 2) (dl UU) (Jh _)) (Us (Qe (dl (Je Y y (dbv 2 (dbv 1 Ja)))))))) (Jc (Ji (Jj 2))) Jy) (Jc (Ji UU)))),?_⟩
 intro ts n R hl S;obtain⟨bits,bs,b,rfl,b0,L,P,u,B,h,h'⟩:=S;have bd:=B.bounds b0;have pe:=UW b;have I:(2:Int) ^ bits.toNat<=2 ^ 64:=Bd.ZS (by lia)
 have pb:=Bd.Qm b.2.toNat;have U:b.1<2 ^ 64:=by lia
 have x:∀p∈bs,p.2<=1000:=fun p l=>by have:=(P.1 p l).2.1;lia
 have v:∀p∈bs,0<=p.2:=fun p l=>(P.1 p l).1
 wp_walk using zhH L P u (fun p l i1 i2=>?_) (fun no=>?_),zqD (v _ l) (x _ l) bd.1 U ?_
 ·exact absurd hc (by simp[isNone])
 ·rw[zoF (P.1 p l) B]at hc;have hd:=of_decide_eq_true hc;exact h p l hd.1 hd.2
 ·rw[zoF (P.1 p l) B]at hc;have hd:=of_decide_eq_false hc;refine h' fun q C z=>?_
  have G:q=p:=zsh P C l z.1 (by lia) i1 i2
  subst G;exact hd z
 ·exact h' fun p l z=>no p l ⟨z.1,by lia⟩
 ·exact absurd hc (by simp[isNone])
def zcG:GD:=fun ts n R=>∃(os:List ((Int×Int)×Str)) (nm:af),ts=[.tuple (oD os),nm]/\zqN nm/\(∀p∈os,IsNm p.2)/\os.length<=1000000/\R (.tuple (pD (ofName os nm))) n
theorem ziu{os:List ((Int×Int)×Str)}{nm:af}{n:Nat}{R:qN}(hw:zqN nm)(v:∀p∈os,IsNm p.2)(l:os.length<=1000000)(h:R (.tuple (pD (ofName os nm))) n):zcG [.tuple (oD os),nm] n R:=⟨os,nm,rfl,hw,v,l,h⟩
def zee(Z:ZZ):Prop:=FQ Z "blocks_of" (top 27) ["pairs","name"] 1 (spD Z.K 2 zcG)
theorem zgL(D:Dq Z.K Z.mg "blocks_of" (top 27) ["pairs","name"]) (T:Txt Z.mg):zee Z:=by
 refine' okQ D (fnS (N:=["pairs","name"]) (by decide +kernel)) rfl fun f G A outer s H E J=>⟨_,(Jc (Ji (QZ Uf Q8 T.tup QN (Jk (dl (Jr (dnf ["block","theirs"] [1] (dil (QJ (Jj 0))) (fun _ _ _ _=>(JT rfl (Jo (dgv 0 (ndB rfl)) (Jo (dgv 1 (ndB rfl)) JR)))) (fun _ _ _ _=>(Yo (Jl (Qf J) Qd (dlv 1) (dlv 2) (Jh _)))) (fun _ _ _ _=>(Jj 0))))) Jp ZF)))),?_⟩
 intro ts n R L h;obtain⟨y,nm,rfl,hw,I,l,h⟩:=h
 wp_walk
 refine Yu (cs:=y) (D:=fun p=>.tuple [prD p.1,.str p.2]) (fun p=>who p.2 nm) (fun p=>prD p.1) (by lia) ?_ ?_
 ·intro p C U S x v;rcases hw with rfl|⟨s,rfl,ns⟩
  ·wp_walk
   ·exact(ZX (I p C)).okd
   ·exact v rfl
  ·wp_walk
   ·exact x (by show decide (p.2=s)=true;rw[decide_eq_true hc])
   ·exact v (by show decide (p.2=s)=false;rw[decide_eq_false hc])
 ·wp_walk
  have:((y.filter fun p=>who p.2 nm).map fun p=>prD p.1)=pD (ofName y nm):=by
   unfold pD ofName;rw[cZ];rfl
  rw[this];exact h
def htD(bits:Int):af->Bool|.int i=>decide (0<=i)&&decide (i<=bits)|_=>false
def zeE:GD:=fun ts n R=>∃(bits:Int) (d:af),ts=[.int bits,d]/\Pln d/\R (.bool (htD bits d)) n
theorem zis{bits:Int}{d:af}{n:Nat}{R:qN}(p:Pln d)(h:R (.bool (htD bits d)) n):zeE [.int bits,d] n R:=⟨bits,d,rfl,p,h⟩
def zec(Z:ZZ):Prop:=FQ Z "is_height" (top 33) ["bits","thing"] 2 (spD Z.K 2 zeE)
theorem zgJ(D:Dq Z.K Z.mg "is_height" (top 33) ["bits","thing"]) (v:V5 Z) (T:Txt Z.mg):zec Z:=by
 refine' okQ D (fnS (N:=["bits","thing"]) (by decide +kernel)) rfl fun f u A outer s H E x=>⟨_,(Jc (Ji (Yk (Je v x (dbv 1 Ja)) (Q1 (VZ J3 JZ J3 JZ dli (dlv 1) (dlv 0)))))),?_⟩
 intro ts n R y h;obtain⟨bits,d,rfl,p,h⟩:=h;cases d with
 | int i =>
  have h:R (.bool (decide (0<=i)&&decide (i<=bits))) n:=h
  wp_walk using Ud (b:=true) rfl p ?_
  ·rw[decide_eq_true hc,dh]at h;exact h
  ·rw[decide_eq_false hc,cC]at h;exact h
 | _ =>
  wp_walk using Ud (b:=false) rfl p ?_
  exact h
def adD(bits:Int):af->Bool|.int i=>decide (0<=i)&&decide (i<2 ^ bits.toNat)|_=>false
def zdH:GD:=fun ts n R=>∃(bits:Int) (d:af),ts=[.int bits,d]/\0<=bits/\bits<=64/\Pln d/\R (.bool (adD bits d)) n
theorem zhG{bits:Int}{d:af}{n:Nat}{R:qN}(v:0<=bits)(u:bits<=64)(p:Pln d)(h:R (.bool (adD bits d)) n):zdH [.int bits,d] n R:=⟨bits,d,rfl,v,u,p,h⟩
def zdA(Z:ZZ):Prop:=FQ Z "is_address" (top 34) ["bits","thing"] 2 (spD Z.K 2 zdH)
theorem zfL(D:Dq Z.K Z.mg "is_address" (top 34) ["bits","thing"]) (x:V5 Z) (T:Txt Z.mg):zdA Z:=by
 refine' okQ D (fnS (N:=["bits","thing"]) (by decide +kernel)) rfl fun f v A outer s H E u=>⟨_,(Jc (Ji (Yk (Je x u (dbv 1 Ja)) (Q1 (VZ J3 JZ (Qa u) J1 dli (dlv 1) (dl (JK dli (dlv 0)))))))),?_⟩
 intro ts n R y h;obtain⟨bits,d,rfl,G,C,p,h⟩:=h;cases d with
 | int i =>
  have h:R (.bool (decide (0<=i)&&decide (i<2 ^ bits.toNat))) n:=h
  wp_walk using Ud (b:=true) rfl p ?_
  all_goals first
   | exact cpow (by lia) (by lia)
   | skip
  ·rw[decide_eq_true hc,dh]at h;rw[QF];exact h
  ·rw[decide_eq_false hc,cC]at h;exact h
 | _ =>
  wp_walk using Ud (b:=false) rfl p ?_
  exact h
def ptD(bits:Int)(k:Str)(d:af):Bool:=if k=aa "height" then htD bits d else if k=aa "address" then adD bits d else QK bits d
def zhr:GD:=fun ts n R=>∃(bits:Int) (k:Str) (d:af),ts=[.int bits,.str k,d]/\0<=bits/\bits<=64/\PlnD d/\R (.bool (ptD bits k d)) n
theorem zmt{bits:Int}{k:Str}{d:af}{n:Nat}{R:qN}(v:0<=bits)(u:bits<=64)(p:PlnD d)(h:R (.bool (ptD bits k d)) n):zhr [.int bits,.str k,d] n R:=⟨bits,k,d,rfl,v,u,p,h⟩
theorem zrL{d:af}(h:PlnD d):Pl2 d:=⟨h.pln,fun ts e t u=>by subst e;exact(h.tup.2 t u).pln⟩
def zgz(Z:ZZ):Prop:=FQ Z "is_part" (top 32) ["bits","kind","thing"] 3 (spD Z.K 3 zhr)
theorem zjT(D:Dq Z.K Z.mg "is_part" (top 32) ["bits","kind","thing"]) (G:zfk Z) (I:zec Z) (y:zdA Z) (T:Txt Z.mg):zgz Z:=by
 refine' okQ D (fnS (N:=["bits","kind","thing"]) (by decide +kernel)) rfl fun f C A outer s H E l=>⟨_,(Jb (Jt (Jl (Qf l) Qd (dlv 1) (dl Qt) (Jh _)) (Jc (Ji (Je I l (dbv 0 (dbv 2 Ja))))) Jy) (Jb (Jt (Jl (Qf l) Qd (dlv 1) (dl Qt) (Jh _)) (Jc (Ji (Je y l (dbv 0 (dbv 2 Ja))))) Jy) (Jc (Ji (Je G l (dbv 0 (dbv 2 Ja))))))),?_⟩
 intro ts n R J h;obtain⟨bits,k,d,rfl,x,v,p,h⟩:=h;unfold ptD at h
 wp_walk using zis p.pln ?_,zhG x v p.pln ?_,zkd x v (zrL p) ?_
 ·rw[if_pos hc]at h;exact h
 ·rename_i u;rw[if_neg u,if_pos hc]at h;exact h
 ·rename_i u;rw[if_neg u,if_neg hc]at h;exact h
def Ys:List (Str×List Str):=[(aa "take",[aa "height"]),(aa "near",[aa "height",aa "address"]),(aa "give",[aa "block"]),(aa "grow",[aa "block"]),(aa "keep",[aa "block"]),(aa "loose",[aa "block"]),(aa "move",[aa "block",aa "block"])]
def hEq:List af->Bool
 | [.tuple [_,.int g],.tuple [_,.int h]]=>decide (g=h)
 | _=>false
def prtD(bits:Int)(w:Str)(ps:qD):Bool:=match getT Ys w with
 | none=>false
 | some u=>decide (ps.length=u.length)&&((u.zip ps).all fun q=>ptD bits q.1 q.2)&&(decide (w≠aa "move")||hEq ps)
def dedD(bits:Int):af->Bool
 | .tuple (.str w::nm::ps)=>nmD nm&&prtD bits w ps
 | _=>false
def zht:GD:=fun ts n R=>∃(bits:Int) (d:af),ts=[.int bits,d]/\0<=bits/\bits<=64/\PlnD d/\R (.bool (dedD bits d)) n
theorem zmu{bits:Int}{d:af}{n:Nat}{R:qN}(v:0<=bits)(u:bits<=64)(p:PlnD d)(h:R (.bool (dedD bits d)) n):zht [.int bits,d] n R:=⟨bits,d,rfl,v,u,p,h⟩
theorem zhM{bits:Int}{d:af}(h:QK bits d=true):∃b g:Int,d=.tuple [.int b,.int g]:=by
 unfold QK at h;split at h
 ·exact⟨_,_,rfl⟩
 ·cases h
theorem zmP{l:List Str}{ps:qD}:zipD (l.map gM) ps=(l.zip ps).map fun q=>iS [.str q.1,q.2]:=by
 unfold zipD;rw[List.zip_map_left,cZ]
 rfl
theorem zgC{bits:Int}{d:af}:ptD bits (aa "block") d=QK bits d:=by
 unfold ptD;rw[if_neg (by decide +kernel),if_neg (by decide +kernel)]
theorem zpH:getT Ys (aa "move")=some [aa "block",aa "block"]:=by decide +kernel
def zgB(Z:ZZ):Prop:=FQ Z "is_deed" (top 31) ["bits","thing"] 4 (spD Z.K 2 zht)
theorem zjV(D:Dq Z.K Z.mg "is_deed" (top 31) ["bits","thing"]) (Iz:zgA Z) (IA:zgz Z) (L:StD Z.P Z.w Z.K Z.mg "PARTS" Ys) (T:Txt Z.mg):zgB Z:=by
 refine' okQ D (fnS (N:=["bits","thing","word","name","parts","kinds"]) (by decide +kernel)) rfl fun f cdv A outer s H E y=>⟨_,(Jb (Jt (Qc (QS (QB (Qe (dl (Yl zjh T.isi T.tup QN (dlv 1) Jq)))) (Um (Jl (Qa y) J1 (dl (Jx QE QC T.len Qu (Jk (dlv 1) Jp Jq))) dli (Jh _))))) (Jc (Ji QQ)) Jy) (Jb (zqk (i:=2) (j:=3) (k:=4) rfl (ndB rfl) rfl rfl rfl (cX rfl) (cX rfl) (cX rfl) (Jj 1)) (Jb (Jt (Qc (QS (QB (Qe (dl (Yl zoG T.isi T.str zhK (dlv 2) Jq)))) (QS (zqj L (Jj 2)) (Um (QB (Qe (dl (Je Iz y (dbv 3 Ja))))))))) (Jc (Ji QQ)) Jy) (Jb (dsv 5 (ndB rfl) (zqr L (Jj 2))) (Jb (Jt (Jl (UQ y) UH (dl (Jx QE QC T.len Qu (Jk (dlv 4) Jp Jq))) (dl (Jx QE QC T.len Qu (Jk (dlv 5) Jp Jq))) (Jh _)) (Jc (Ji QQ)) Jy) (Jb (Jt (QB (Qe (dl (Jx (zeV rfl) zlV T.all zeY (Jk (dl (Jr (dnc ["kind","part"] [0] (dil (ztS T.zip (Jj 5) (Jj 4))) (fun _ _ _ _=>(JT rfl (Jo (dgv 0 (ndB rfl)) (Jo (dgv 1 (ndB rfl)) JR)))) (fun _ _ _ _=>(Je IA y (dbv 2 (dbv 0 (dbv 1 Ja)))))))) Jp ZF))))) (Jc (Ji QQ)) Jy) (Jc (Ji (zoO (QT (UQ y) UH (dlv 2) (dl Qt) (Jh _)) (Q1 (QT (Qf y) Qd (dl (Jd (dl (Jd (dlv 4) dli)) dli)) (dl (Jd (dl (Jd (dlv 4) dli)) dli)) (Jh _)))))))))))),?_⟩
 intro ts n R hl h;obtain⟨bits,d,rfl,b0,Y,p,h⟩:=h;cases d with
 | dict C =>
  cases C with
  | nil =>
   wp_walk
   exact h
  | cons a b=>exact absurd rfl p.pln
 | tuple ts =>
  obtain⟨l6,G⟩:=p.tup
  match ts,G,h with
  | [],_,h =>
   wp_walk
   all_goals first|exact h|(exfalso;simp at hc;done)
  | [x],_,h =>
   have e:dedD bits (.tuple [x])=false:=by unfold dedD;split <;> simp_all
   rw[e]at h
   wp_walk
   all_goals first|exact h|(exfalso;simp at hc;done)
  | x::nm::ps,G,h =>
   have pn:=G nm (by simp)
   cases x with
   | str w =>
    have e:dedD bits (.tuple (.str w::nm::ps))=(nmD nm&&prtD bits w ps):=rfl;rw[e]at h;unfold prtD at h;cases g:getT Ys w with
    | none =>
     rw[g]at h;simp only[hU]at h
     wp_walk using zhF pn ?_
     all_goals first|exact h|(exfalso;simp at hc;done)|(exfalso;rw[g]at *;simp at *;done)
    | some C =>
     rw[g]at h;dsimp only at h
     wp_walk using zhF pn ?_
     ·exfalso;simp at hc;lia
     ·rename_i h1 h2;rw[hc,dh]at h;refine⟨C,g,?_⟩
      wp_walk
      ·have I:ps.length=C.length:=by simp at hc;lia
       rw[decide_eq_true I,dh]at h;rw[zmP];refine Ut (cs:=C.zip ps) (D:=fun q:Str×af=>iS [.str q.1,q.2]) (fun q=>.bool (ptD bits q.1 q.2)) (by rw[oZ];simp at l6;lia) ?_ ?_
       ·intro q S K2 X2 J;have pq:=G q.2 (by have:=(ee S).2;simp[this])
        wp_walk using zmt b0 Y pq ?_
        exact J
       ·wp_walk using zlR ?_
        ·rename_i v;subst hc;rw[v,dh,decide_eq_false (fun z:aa "move" ≠ aa "move"=>z rfl),Bool.false_or]at h
         rw[zpH]at g;cases g
         match ps,I,v,h with
         | [p0,p1],_,v,h =>
          simp only[i7,ny,List.all_cons,List.all_nil,gC,aM,zgC]at v;obtain⟨b',g',rfl⟩:=zhM v.1;obtain⟨U,g'',rfl⟩:=zhM v.2
          wp_walk
          exact h
        ·rename_i v;rw[v,dh,decide_eq_true hc,Bool.true_or]at h;exact h
        ·rw[hc,cC]at h;exact h
      ·have I:¬ps.length=C.length:=by simp at hc;lia
       rw[decide_eq_false I,cC,cC]at h;exact h
     ·rw[hc,cC]at h;exact h
     ·exfalso;rw[g]at hc;cases hc
   | dict ds =>
    have px:=G _ (cm ..);cases ds with
    | nil =>
     have h:R (.bool false) n:=h
     wp_walk
     all_goals first|exact h|(exfalso;simp at hc;lia)
    | cons a b=>exact absurd rfl px.pln
   | _ =>
    have h:R (.bool false) n:=h
    wp_walk
    all_goals first|exact h|(exfalso;simp at hc;lia)
 | _ =>
  wp_walk
  exact h
def exO(os:List NP)(nm:Str)(gs cs:BL):List NP:=(os.filter fun p=>decide (p.1∉gs))++cs.map fun b=>(b,nm)
theorem zoP{gs:BL}{b:Int×Int}:((pD gs).any fun t=>t.eqv (prD b))=decide (b∈gs):=by
 rw[fG,List.any_eq_true,decide_eq_true_eq];constructor
 ·rintro⟨t,l,e⟩;obtain⟨c,hc,rfl⟩:=aS.mp l;have:c=b:=by simpa[prD,cM,e8,uf] using e
  exact this▸hc
 ·intro u;exact⟨prD b,aS.mpr ⟨b,u,rfl⟩,by simp[prD,cM,e8]⟩
def zcF:GD:=fun ts n R=>∃(d:Deal) (nm:Str) (gs cs:BL),ts=[dlD d,.str nm,.tuple (pD gs),.tuple (pD cs)]/\d.2.1.length+cs.length<100000/\d.2.1.length+cs.length<=1000/\gs.length<=1000 /\
 ∀rs:List NP,rs.Perm (exO d.2.1 nm gs cs)->rs.Pairwise (fun a b=>npRk rs a<=npRk rs b)->R (dlD (d.1,rs,d.2.2)) n
theorem zit{d:Deal}{nm:Str}{gs cs:BL}{n:Nat}{R:qN}(l:d.2.1.length+cs.length<100000)(v:d.2.1.length+cs.length<=1000)(l2:gs.length<=1000)(h:∀rs:List NP,rs.Perm (exO d.2.1 nm gs cs)->rs.Pairwise (fun a b=>npRk rs a<=npRk rs b)->R (dlD (d.1,rs,d.2.2)) n):zcF [dlD d,.str nm,.tuple (pD gs),.tuple (pD cs)] n R:=⟨d,nm,gs,cs,rfl,l,v,l2,h⟩
def zed(Z:ZZ):Prop:=FQ Z "exchanged" (top 55) ["deal","name","gone","come"] 1 (spD Z.K 4 zcF)
theorem zgK(D:Dq Z.K Z.mg "exchanged" (top 55) ["deal","name","gone","come"]) (T:Txt Z.mg):zed Z:=by
 refine' okQ D (fnS (N:=["deal","name","gone","come","bits","outs","kept","staying"]) (by decide +kernel)) rfl fun f L A outer s H E G=>⟨_,(Jb (QU (Jj 0) (JT rfl (Jo (dgv 4 (ndB rfl)) (Jo (dgv 5 (ndB rfl)) (Jo (dgv 6 (ndB rfl)) JR))))) (Jb (VF (ZC (i:=7) (ndB rfl) rfl (cX rfl) (own:=["pair"]) (capt:=[2]) rfl (JG.of rfl) (dil (QJ (Jj 5))) (fun _ _ _ _=>(dgv 0 (ndB rfl))) (by decide) (fun _ _ _ _=>(Yo (Jl (zkX G) znU (dl (Jd (dlv 0) dli)) (dlv 1) rfl))) (fun _ _ _ _=>(Jj 0)))) (Jc (Ji (Jm (dbv 4 (dbc (QZ Uf Q8 T.tup QN (Jk (dl (Jr (zeN G T.srt (dl (Jr (UV (dlv 7) (dl (Jr (dnc ["block"] [1] (dil (QJ (Jj 3))) (fun _ _ _ _=>(dgv 0 (ndB rfl))) (fun _ _ _ _=>(Jm (dbv 0 (dbv 1 Ja)))))))))) UZ))) Jp U0)) (dbv 6 Ja)))))))),?_⟩
 intro ts n R Y h;obtain⟨⟨bits,os,I⟩,nm,gs,cs,rfl,l,C,l2,h⟩:=h;have l:os.length+cs.length<100000:=l;have C:os.length+cs.length<=1000:=C;have e:dlD (bits,os,I)=.tuple [.int bits,.tuple (oD os),.tuple (oD I)]:=rfl;rw[e]
 wp_walk
 refine Yu (cs:=os) (D:=fun p=>.tuple [prD p.1,.str p.2]) (fun p=>decide (p.1∉gs)) (fun p=>.tuple [prD p.1,.str p.2]) (by lia) ?_ ?_
 ·intro p U K2 X2 v x
  wp_walk
  ·exact Ux
  ·intro t S;obtain⟨b,_,rfl⟩:=aS.mp S;exact Ux
  ·rw[zoP]at hc;exact x (by simpa using hc)
  ·rw[zoP]at hc;exact v (by simpa using hc)
 ·wp_walk
  refine Ut (cs:=cs) (D:=prD) (fun b=>.tuple [prD b,.str nm]) (by lia) ?_ ?_
  ·intro b hb K X J
   wp_walk
   exact J
  ·have lf:(os.filter fun p=>decide (p.1∉gs)).length<=os.length:=dH ..
   wp_walk
   ·simp only[aZ];lia
   refine⟨exO os nm gs cs,?_,?_,fun y pm pw=>?_⟩
   ·simp only[oD,exO,eu,cZ];rfl
   ·simp only[exO,aZ,aT];lia
   ·wp_walk
    exact h y pm (pw.imp fun {a b} h=>by unfold npRk at h ⊢;rw[(pm.filter _).length_eq,(pm.filter _).length_eq];exact h)
theorem ztx{os:List ((Int×Int)×Str)}{nm:af}:∀b∈ofName os nm,b∈os.map (·.1):=fun b u=>by
 obtain⟨p,l,rfl⟩:=aS.mp u;exact aS.mpr ⟨p,(cz.mp l).1,rfl⟩
theorem zty{os:List ((Int×Int)×Str)}{nm:af}:(ofName os nm).length<=os.length:=by
 unfold ofName;rw[aZ];exact dH _ _
def zoH:GX:=fun ts n R v=>∃(d:Deal) (w:af) (nm:Str) (b:Int×Int),ts=[dlD d,.tuple [w,.str nm,.tuple [.int b.1,.int b.2]]]/\Dl d/\IsNm nm/\IsBk d.1 b.1 b.2/\d.2.1.length<=500/\((∀p∈ofName d.2.1 (.str nm),¬(p.1<=b.1/\eB b<=eB p))->v (aa "NotTheirs") n) /\
 ∀p∈ofName d.2.1 (.str nm),p.1<=b.1->eB b<=eB p->∀cs,CanP (fun x=>mB x [p]/\¬mB x [b]) cs->cs.length<=390->∀rs:List NP,rs.Perm (exO d.2.1 nm [p] cs)->rs.Pairwise (fun a b=>npRk rs a<=npRk rs b)->R (.tuple [dlD (d.1,rs,d.2.2),.tuple (pD cs)]) n
def zoq(Z:ZZ):Prop:=FQX Z "give" (top 45) ["deal","deed"] 6 2 zoH
theorem zpt(D:Dq Z.K Z.mg "give" (top 45) ["deal","deed"]) (HU:zcS Z) (IB:zgw Z) (Y:zee Z) (Ih:zed Z) (Ii:OwnE Z.K Z.mg "NotTheirs") (T:Txt Z.mg):zoq Z:=by
 refine' okX D (fnS (N:=["deal","deed","name","block","held","rest"]) (by decide +kernel)) rfl fun f cdv A outer s H E I=>⟨_,(Jb (QU (ZI (dlv 1) (Yn Jg) Ym) (JT rfl (Jo (dgv 2 (ndB rfl)) (Jo (dgv 3 (ndB rfl)) JR)))) (Jb (dsv 4 (ndB rfl) (Je HU I (dbc (Je Y I (dbc (Jd (dlv 0) dli) (dbv 2 Ja))) (dbv 3 Ja)))) (Jb (Jt (Jl zsc ztz (dlv 4) (dl UU) (Jh _)) (Jc (zjq Ii)) Jy) (Jb (dsv 5 (ndB rfl) (Je IB I (dbc (Jm (dbv 4 Ja)) (dbc (Jm (dbv 3 Ja)) Ja)))) (Jc (Ji (Jm (dbc (Je Ih I (dbv 0 (dbv 2 (dbc (Jm (dbv 4 Ja)) (dbv 5 Ja))))) (dbv 5 Ja))))))))),?_⟩
 intro ts n R Rx hl h;obtain⟨⟨bits,os,v⟩,w,nm,b,rfl,D,hn,B,l,J,k⟩:=h;have b0:1<=bits:=D.1;have S:bits<=64:=D.2.1;have L:Shr bits os:=D.2.2.1;have l:os.length<=500:=l;have B:IsBk bits b.1 b.2:=B;have hw:zqN (.str nm):=.inr ⟨nm,rfl,hn⟩;have lo:=zty (os:=os) (nm:=.str nm);have P:Ptc bits (ofName os (.str nm)):=⟨fun b hb=>L.1.1 b (ztx b hb),L.1.2.sublist ((List.filter_sublist (l:=os)).map _)⟩
 have J:(∀p∈ofName os (.str nm),¬(p.1<=b.1/\eB b<=eB p))->Rx (aa "NotTheirs") n:=J;have k:∀p∈ofName os (.str nm),p.1<=b.1->eB b<=eB p->∀cs,CanP (fun x=>mB x [p]/\¬mB x [b]) cs->cs.length<=390->∀rs:List NP,rs.Perm (exO os nm [p] cs)->rs.Pairwise (fun a b=>npRk rs a<=npRk rs b)->R (.tuple [dlD (bits,rs,v),.tuple (pD cs)]) n:=k
 have U:∀{n:Nat} {R:qN},R (.tuple (pD (ofName os (.str nm)))) n->zcG [.tuple (oD os),.str nm] n R:=fun {n R} z=>ziu hw (fun p G=>L.2 p G) (by lia) z
 have ex:∀{p:Int×Int} {cs:BL} {n:Nat} {R:qN},cs.length<=390->(∀rs:List NP,rs.Perm (exO os nm [p] cs)->rs.Pairwise (fun a b=>npRk rs a<=npRk rs b)->R (dlD (bits,rs,v)) n)->zcF [.tuple [.int bits,.tuple (oD os),.tuple (oD v)],.str nm,.tuple [.tuple [.int p.1,.int p.2]],.tuple (pD cs)] n R:=fun {p cs n R} y z=>zit (d:=(bits,os,v)) (gs:=[p]) (by show os.length+cs.length<_;lia) (by show os.length+cs.length<=_;lia) (by simp) z
 have wo:∀{p:Int×Int} {n:Nat} {R:qN},IsBk bits p.1 p.2->(∀cs,CanP (fun x=>mB x [p]/\¬mB x [b]) cs->cs.length<=390->R (.tuple (pD cs)) n)->zeC [.tuple [.tuple [.int p.1,.int p.2]],.tuple [.tuple [.int b.1,.int b.2]]] n R:=fun {p n R} Bp z=>zmr (bits:=bits) (ps:=[p]) (qs:=[b]) (by lia) S (fun x hx=>by cases az.mp hx;exact Bp) (fun x hx=>by cases az.mp hx;exact B) (by simp) (by simp) (by simp) fun cs C y=>z cs C (by simpa using y)
 rw[show dlD (bits,os,v)=.tuple [.int bits,.tuple (oD os),.tuple (oD v)] from rfl]
 wp_walk
 rw[show cutD [w,.str nm,.tuple [.int b.1,.int b.2]] (some 1) none=[.str nm,.tuple [.int b.1,.int b.2]] from rfl]
 wp_walk using U ?_
 refine zga (by lia) S P (by lia) B (fun p G h1 h2=>?_) fun no=>?_
 ·wp_walk
  ·exact absurd hc (by simp[isNone])
  refine wo (P.1 p G) fun cs C y=>?_
  wp_walk using ex y (fun rs pm pw=>?_)
  ·exact k p G h1 h2 cs C y rs pm pw
 ·wp_walk
  ·exact J no
  ·exact absurd hc (by simp[isNone])
theorem zqe:getT Ys (aa "give")=some [aa "block"]:=by decide +kernel
theorem zn7{bits:Int}{b:Int×Int}{nm:Str}(v:IsNm nm)(x:0<=bits)(B:IsBk bits b.1 b.2):dedD bits (.tuple [.str (aa "give"),.str nm,.tuple [.int b.1,.int b.2]])=true:=by
 show(nmD (.str nm)&&prtD bits (aa "give") [.tuple [.int b.1,.int b.2]])=true
 rw[show nmD (.str nm)=true from zpE.mpr v,dh]
 unfold prtD;rw[zqe];have e:ptD bits (aa "block") (.tuple [.int b.1,.int b.2])=true:=zgC.trans ((zlM x).mpr B);simp[e];exact .inl (by decide +kernel)
theorem zsl{nm:Str}(l:IsNm nm):nm.length<=1000000:=by
 have:=l.2.1;lia
def UX:GX:=fun ts n R v=>∃(d:Deal) (nm:Str) (b:Int×Int),ts=[dlD d,.tuple [.str (aa "give"),.str nm,.tuple [.int b.1,.int b.2]]]/\Dl d/\IsNm nm/\IsBk d.1 b.1 b.2/\zoH ts n R v
theorem zle{ts:qD}{n:Nat}{R x:qN}{X y:Str->Nat->Prop}(h:UX ts n R X)(hR:∀t m,R t m->x t m)(hX:∀c m,X c m->y c m):UX ts n x y:=by
 obtain⟨d,nm,b,e,D,hn,B,d',w,u,S,J,I,v,B',l,U,Y⟩:=h;exact⟨d,nm,b,e,D,hn,B,d',w,u,S,J,I,v,B',l,fun no=>hX _ _ (U no),fun p G N L cs C lc rs pm pw=>hR _ _ (Y p G N L cs C lc rs pm pw)⟩
def zkH(Z:ZZ):Prop:=FQX Z "done" (top 51) ["deal","deed"] 7 2 UX
theorem zpu(D:Dq Z.K Z.mg "done" (top 51) ["deal","deed"]) (J:zoq Z) (L:zgB Z) (S:OwnE Z.K Z.mg "NoDeed") (I:StF Z.P Z.w Z.K Z.mg "DEEDS" ["take","near","give","grow","keep","loose","move"]) (T:Txt Z.mg):zkH Z:=by
 refine' okX D (fnS (N:=["deal","deed","act"]) (by decide +kernel)) rfl fun f G A outer s H E x=>⟨_,(Jb (Jt (QB (Qe (dl (Je L x (dbc (Jd (dlv 0) dli) (dbv 1 Ja)))))) (Jc (zjq S)) Jy) (zn2 (i:=2) I (.cons J UI.nil) x (ndB rfl) (Jd (dlv 1) dli) (dbv 0 (dbv 1 Ja)))),?_⟩
 intro ts n R Rx U h;obtain⟨d,nm,b,rfl,D,v,B,k⟩:=h;obtain⟨bits,os,y⟩:=d;have Y:1<=bits:=D.1;have C:bits<=64:=D.2.1;have B:IsBk bits b.1 b.2:=B;have pl:PlnD (.tuple [.str (aa "give"),.str nm,.tuple [.int b.1,.int b.2]]):=ziU (by simp) (ZW (ziV (by decide +kernel)) (ZW (ziV (zsl v)) (ZW (ziU (by simp) (ZW ziX (ZW ziX ziW))) ziW)))
 rw[show dlD (bits,os,y)=.tuple [.int bits,.tuple (oD os),.tuple (oD y)] from rfl]at k ⊢
 wp_walk
 refine zmu (by lia) C pl ?_
 rw[zn7 v (by lia) B]
 wp_walk
 ·rfl
 refine⟨_,.head _,rfl,?_⟩
 wp_walk
 exact k
theorem scH:Ua ["_law_script","_law_k","_law_cell"] ["_law_script","_law_k"] (JF (top 57)):=⟨rfl,rfl,rfl,by decide +kernel,rfl,by decide +kernel,by decide +kernel⟩
theorem zgR{f:ak}{fd:cT}(D:Def K mg "_law_hand" (top 57) ["_law_script","_law_k"] f fd) (T:Txt mg):FnOk P w K mg base CX0 1 f fd ["_law_script","_law_k"] (Vl K):=by
 refine D.F.ok scH (fun G H Q E h=>?_) (fun y A outer s H G Q E J h=>?_)
 ·obtain⟨a,ns,k,rfl,_⟩:=h
  rfl
 ·obtain⟨a,ns,k,rfl,v,I,k0,k1,q⟩:=h;refine⟨_,Qx (Qz (i:=2) scH.nd rfl (cX rfl) JD)
   (Qx (zo5 (zhX zr_ (pv 1) (Ui zhE T.len Qu (pb_v 0 QD)) (Jh _)) (U2 (Qz (i:=2) scH.nd rfl (cX rfl) (Uj UB (pv 0) (pv 1) (fun _ _=>rfl)))) zhY)
   (U2 (Zl (zkQ (zos (JA QV (pv 2) (zrY zmq T.int boot_int (zr1 (zkS zsd (pv 2) (JA zr7 JD JD) (Jh _)) QD)))
    (zos (JA Q4 (JA Q4 (JA UP (pv 2) JD) (JA QV JD (pv 1))) JD) (pb_i QD))))))),?_⟩
  refine⟨_,rfl,_,rfl,a,_,rfl,.inl v,_,_,rfl,rfl,_,rfl,?_⟩;have fin:∀c:Int,tRet (tLst (QG (tOp (rI CMul fun i j=>V.int (i*j)) (tVar 2) (tCB (fun xs H Q=>(∃i,xs=[.int i]/\Q (.int i) H)\/∃k,xs=[.bl k]/\Q (.int (if k then 1 else 0)) H) (QG (tOp (rI0 fun i j=>.bl (decide (j<=i))) (tVar 2) (tOp (rI CPow fun i j=>.int (i ^ j.toNat)) (tC (.int 10)) (tC (.int 18)))) tNil)))
    (QG (tOp (rI0 fun i j=>.int (i+j)) (tOp (rI0 fun i j=>.int (i+j)) (tOp (rI (fun _ j=>0<j) fun i j=>.int (i % j)) (tVar 2) (tC (.int 2305843009213693951))) (tOp (rI CMul fun i j=>V.int (i*j)) (tC (.int 7919)) (tVar 1))) (tC (.int 3))) (QG (tC (.int 0)) tNil))))
    { nx:=fun _ x=>Q .non x,rt:=Q } [some (.ref a),some (.int k),some (.int c)] H:=by
   intro c;refine⟨_,rfl,_,rfl,_,_,rfl,rfl,⟨by decide,by decide,by decide⟩,_,_,rfl,rfl,.inr ⟨_,rfl,_,_,rfl,rfl,.inr ?_,?_⟩⟩
   ·split <;> decide
   ·refine⟨_,rfl,_,_,rfl,rfl,(by show(0:Int)<2305843009213693951;decide),_,rfl,_,_,rfl,rfl,.inl ⟨by decide,by decide⟩,_,_,rfl,rfl,_,_,rfl,rfl,(by show 3<=sizeLine;decide),fun l u=>?_⟩
    refine q l _ u ⟨_,_,_,JM,?_,?_,bQ _,bQ _⟩ (zm0 u)
    ·lia
    ·lia
  refine zs5 (fun c=>?_) (fun c=>?_)
  ·have C:k.toNat<ns.length:=by rw[aZ]at c;lia
   refine⟨_,rfl,_,rfl,a,_,_,V.int (ns[k.toNat]),rfl,rfl,v,?_,?_⟩
   ·exact ze1 k0 (by rw[bg,au C];rfl)
   ·exact fin _
  ·exact fin 0
def zeh(Z:ZZ):Prop:=FQ Z "_law_hand" (top 57) ["_law_script","_law_k"] 1 (Vl Z.K)
theorem zfK(D:Dq Z.K Z.mg "_law_hand" (top 57) ["_law_script","_law_k"]) (T:Txt Z.mg):zeh Z:=by
 obtain⟨f,fd,D⟩:=D;exact⟨f,fd,D,zgR D T⟩
theorem zgu{H:Hp}{hd:ak}{o:HO}:zt8 hd H (upd H hd o):=fun b u e n=>by rw[Jn n];exact e
theorem scT:Ua ["_law_hand_here","_law_many","_law_digit","_law_turn","_law_mixed","_law_other"] ["_law_hand_here","_law_many"] (JF (top 58)):=⟨rfl,rfl,rfl,by decide +kernel,rfl,by decide +kernel,by decide +kernel⟩
theorem znp{f:ak}{fd:cT}(D:Def K mg "_law_take" (top 58) ["_law_hand_here","_law_many"] f fd) (T:Txt mg):FnOk P w K mg base CX0 1 f fd ["_law_hand_here","_law_many"] zok:=by
 refine D.F.ok scT (fun C H Q E h=>?_) (fun y A outer s H C Q E I h=>?_)
 ·obtain⟨hd,many,n,rfl,_⟩:=h
  rfl
 ·obtain⟨hd,many,n,rfl,⟨d,m,t,u,m0,m1,t0,t1⟩,G,v,x,q⟩:=h;refine⟨_,Qx (zo5 (zhX Z0 (Uj UB (pv 0) JD (fun _ _=>rfl)) JD (Jh _))
    (Qx (Qz (i:=2) scT.nd rfl (cX rfl) (JA UP (Uj UB (pv 0) JD (fun _ _=>rfl)) (pv 1)))
    (Qx (Zk (JA VP (Uj UB (pv 0) JD (fun _ _=>rfl)) (pv 1)) (pg_sub (pv 0) JD set_list))
    (U2 (Zl (pv 2))))) zhY)
   (Qx (Zk (JA Q4 (Uj UB (pv 0) JD (fun _ _=>rfl)) JD) (pg_sub (pv 0) JD set_list))
   (Qx (Qz (i:=3) scT.nd rfl (cX rfl) (Uj UB (pv 0) JD (fun _ _=>rfl)))
   (Qx (Qz (i:=4) scT.nd rfl (cX rfl) (JA UP (JA QV (Uj UB (pv 0) JD (fun _ _=>rfl)) (JA Q4 (JA Q4 JD (JA QV (JA QV JD (pv 3)) (pv 3))) (JA QV JD (pv 3)))) JD))
   (Qx (Qz (i:=5) scT.nd rfl (cX rfl) (JA Q4 (JA Q4 (JA UP (pv 4) JD) (JA QV (pv 3) JD)) JD))
   (Qx (Qz (i:=4) scT.nd rfl (cX rfl) (JA UP (JA QV (pv 4) (pv 5)) JD))
   (U2 (Zl (JA UP (JA Q4 (JA VP (pv 4) JD) (JA VP (pv 4) JD)) (pv 1))))))))),?_⟩
  refine⟨_,rfl,hd,_,_,_,rfl,rfl,.of u,rfl,_,_,rfl,rfl,_,rfl,?_⟩;refine zs5 (fun c=>?_) (fun c=>?_)
  ·refine⟨_,rfl,hd,_,_,_,rfl,rfl,.of u,rfl,_,rfl,_,_,rfl,rfl,v,?_⟩;refine⟨_,rfl,hd,_,_,_,rfl,rfl,.of u,rfl,_,rfl,_,_,rfl,rfl,⟨v,x⟩,?_⟩;refine⟨_,rfl,hd,_,_,0,rfl,rfl,u,rfl,?_⟩;refine⟨_,rfl,?_⟩;exact q _ _ (iM _ (by lia)) (gO _ v) ⟨_,_,_,JM,m0,m1,t0,by lia⟩ zgu
  ·refine⟨_,rfl,hd,_,_,_,rfl,rfl,.of u,rfl,_,_,rfl,rfl,?_⟩;refine⟨_,rfl,hd,_,_,2,rfl,rfl,u,rfl,?_⟩;refine⟨_,rfl,hd,_,_,_,rfl,rfl,.of JM,rfl,?_⟩;refine⟨_,rfl,hd,_,_,_,rfl,rfl,.of JM,rfl,_,rfl,_,_,rfl,rfl,.inl ⟨by decide,by decide⟩,_,rfl,_,_,rfl,rfl,.inr ⟨by lia,by lia⟩,_,_,rfl,rfl,_,rfl,_,_,rfl,rfl,.inl ⟨by decide,by decide⟩,_,_,rfl,rfl,_,_,rfl,rfl,.inl ⟨by lia,by lia⟩,_,_,rfl,rfl,(by show(0:Int)<2305843009213693921;decide),?_⟩
   refine⟨_,rfl,_,_,rfl,rfl,(by show(0:Int)<1000003;decide),_,rfl,_,_,rfl,rfl,.inr ⟨by decide,by decide⟩,_,_,rfl,rfl,_,_,rfl,rfl,?_⟩
   refine⟨_,rfl,_,rfl,_,_,rfl,rfl,.inl ⟨by lia,by lia⟩,_,_,rfl,rfl,(by show(0:Int)<2305843009213693907;decide),?_⟩
   refine⟨_,rfl,_,_,rfl,rfl,⟨by decide,by decide⟩,_,rfl,_,_,rfl,rfl,⟨by decide,by decide⟩,_,_,rfl,rfl,_,rfl,_,_,rfl,rfl,v,?_⟩
   exact q _ _ (iM _ (by lia)) (gO _ v) ⟨_,_,_,JM,m0,m1,by lia,by lia⟩ zgu
theorem zgM{f:ak}{fd:cT}(D:Def K mg "_law_take" (top 58) ["_law_hand_here","_law_many"] f fd) (T:Txt mg):FnOk P w K mg base CX0 1 f fd ["_law_hand_here","_law_many"] (spD K 2 UY) :=
 (znp D T).imp zmY
def UE(Z:ZZ):Prop:=FQ Z "_law_take" (top 58) ["_law_hand_here","_law_many"] 1 (spD Z.K 2 UY)
theorem zfJ(D:Dq Z.K Z.mg "_law_take" (top 58) ["_law_hand_here","_law_many"]) (T:Txt Z.mg):UE Z:=by
 obtain⟨f,fd,D⟩:=D;exact⟨f,fd,D,zgM D T⟩
def Yv:GD:=fun ts n R=>match ts with
 | [h,.list xs]=>h=HAND/\xs≠[]/\xs.length<=1000000/\n<=1000000000000/\∀x∈xs,R x (n+1)
 | [h,.tuple xs]=>h=HAND/\xs≠[]/\xs.length<=1000000/\n<=1000000000000/\∀x∈xs,R x (n+1)
 | _=>False
theorem Yt{xs:qD}{n:Nat}{R:qN}(h0:xs≠[])(v:xs.length<=1000000)(u:n<=1000000000000)(h:∀x∈xs,R x (n+1)):Yv [HAND,.list xs] n R:=⟨rfl,h0,v,u,h⟩
def UD(Z:ZZ):Prop:=FQ Z "_law_pick" (top 59) ["_law_hand_here","_law_some"] 2 (spD Z.K 2 Yv)
theorem zgN(D:Dq Z.K Z.mg "_law_pick" (top 59) ["_law_hand_here","_law_some"]) (I:UE Z) (T:Txt Z.mg):UD Z:=by
 refine' okQ D (fnS (N:=["_law_hand_here","_law_some"]) (by decide +kernel)) rfl fun f C A outer s H E J=>⟨_,(Jc (Ji (Jd (dlv 1) (dl (Je I J (dbv 0 (dbc (Jx QE QC T.len Qu (Jk (dlv 1) Jp Jq)) Ja))))))),?_⟩
 intro ts n R L h;unfold Yv at h;split at h
 ·rename_i hd xs;obtain⟨rfl,h0,y,v,h⟩:=h;have x:0<xs.length:=mI.mpr h0
  wp_walk using Q0 (by lia) (by lia) v (fun r u G=>?_)
  have l:r.toNat<xs.length:=by lia
  rw[Yd (ze1 u (au l))];exact h _ (dM l)
 ·rename_i hd xs;obtain⟨rfl,h0,y,v,h⟩:=h;have x:0<xs.length:=mI.mpr h0
  wp_walk using Q0 (by lia) (by lia) v (fun r u G=>?_)
  have l:r.toNat<xs.length:=by lia
  rw[YG (ze1 u (au l))];exact h _ (dM l)
 ·exact h.elim
def zcI:GD:=fun ts n R=>match ts with
 | [h]=>h=HAND/\n<=1000000000000/\∀b:Int,1<=b->b<=64->R (.int b) (n+1)
 | _=>False
theorem ziy{n:Nat}{R:qN}(l:n<=1000000000000)(h:∀b:Int,1<=b->b<=64->R (.int b) (n+1)):zcI [HAND] n R:=⟨rfl,l,h⟩
def zek(Z:ZZ):Prop:=FQ Z "_law_bits" (top 60) ["_law_hand_here"] 3 (spD Z.K 1 zcI)
theorem zgU(D:Dq Z.K Z.mg "_law_bits" (top 60) ["_law_hand_here"]) (v:UD Z) (T:Txt Z.mg):zek Z:=by
 refine' okQ D (fnS (N:=["_law_hand_here"]) (by decide +kernel)) rfl fun f u A outer s H E y=>⟨_,(Jc (Ji (Je v y (dbv 0 (dbc (Jr (JI (dbc Jg (dbc Jg (dbc Jg (dbc Jg (dbc Jg (dbc Jg (dbc Jg (dbc Jg (dbc Jg (dbc Jg Ja)))))))))))) Ja))))),?_⟩
 intro ts n R C h;unfold zcI at h;split at h
 ·obtain⟨rfl,l,h⟩:=h;simp only[Vs,Vr,Vt,u_dC,Z6,Vn,Vp,Vo,VE,Z5,VW,Vq,Vv,ZH,Za,Zb,Zc,ZG,Zd,ZN,Ze,ZM,Y0,Y1,oSub,oMul,oMod,UN,oShl,oShr,oXor,oAnd,isNone,isInt,isBool,isTup,isStr,l_gI,Z4,Zm,Zn,YW,YY,YZ,YX,YM,YO,YN,YF,Zw,ZQ,YJ,YH,YI,Zq,Zr,Zs,Zo,Zp,Zu,Zv,YV,YL,YK,ZR,Zt,Zx,ZP,Uc,Q9,UC,Uu,Uz,UA,Uy,ZK,Ux,Qb,Jz,capV,bZ,fC,aP,cY,cy,gu,c9,eD,bK,dX,fq,fE,gN,gv,gx,dO,Nat.reduceAdd,Nat.reduceSub,iR,true_and,and_true,aJ,if_true,if_false,ite_true,ite_false,dP,fX,iy,Yv]
  refine⟨by simp,by decide,l,fun x hx=>?_⟩
  simp only[aA,aQ,or_false]at hx;rcases hx with rfl|rfl|rfl|rfl|rfl|rfl|rfl|rfl|rfl|rfl <;> exact h _ (by decide) (by decide)
 ·exact h.elim
def zca:GD:=fun ts n R=>match ts with
 | [h,.int bits]=>h=HAND/\1<=bits/\bits<=64/\n<=1000000000000 - 10/\∀i h:Int,IsBk bits i h->R (.tuple [.int i,.int h]) (n+3)
 | _=>False
theorem zch{bits:Int}{n:Nat}{R:qN}(y:1<=bits)(v:bits<=64)(x:n<=1000000000000 - 10)(h:∀i h:Int,IsBk bits i h->R (.tuple [.int i,.int h]) (n+3)):zca [HAND,.int bits] n R:=⟨rfl,y,v,x,h⟩
def V9(Z:ZZ):Prop:=FQ Z "_law_block" (top 61) ["_law_hand_here","_law_bits_here"] 3 (spD Z.K 2 zca)
theorem zfR(D:Dq Z.K Z.mg "_law_block" (top 61) ["_law_hand_here","_law_bits_here"]) (I:UD Z) (y:UE Z) (T:Txt Z.mg):V9 Z:=by
 refine' okQ D (fnS (N:=["_law_hand_here","_law_bits_here","_law_height"]) (by decide +kernel)) rfl fun f G A outer s H E v=>⟨_,(Jb (dsv 2 (ndB rfl) (Jx (VL rfl) Vf T.min VJ (Jk (dlv 1) (Jk (dl (Je I v (dbv 0 (dbc (Jr (JI (dbc Jg (dbc Jg (dbc Jg (dbc Jg (dbc Jg (dbc Jg (dbc (Je y v (dbv 0 (dbc (JC (dlv 1) dli) Ja))) (dbv 1 Ja)))))))))) Ja)))) Jp U0) Jq))) (Jc (Ji (Jm (dbc (Vb (dl (Je y v (dbv 0 (dbc (JK dli (dl (QI (dlv 1) (dlv 2)))) Ja)))) (dl (JK dli (dlv 2)))) (dbv 2 Ja)))))),?_⟩
 intro ts n R S h;unfold zca at h;split at h
 ·rename_i hd bits;obtain⟨rfl,b0,Y,hn,h⟩:=h;simp only[Vs,Vr,Vt,u_dC,Z6,Vn,Vp,Vo,VE,Z5,VW,Vq,Vv,ZH,Za,Zb,Zc,ZG,Zd,ZN,Ze,ZM,Y0,Y1,oSub,oMul,oMod,UN,oShl,oShr,oXor,oAnd,isNone,isInt,isBool,isTup,isStr,l_gI,Z4,Zm,Zn,YW,YY,YZ,YX,YM,YO,YN,YF,Zw,ZQ,YJ,YH,YI,Zq,Zr,Zs,Zo,Zp,Zu,Zv,YV,YL,YK,ZR,Zt,Zx,ZP,Uc,Q9,UC,Uu,Uz,UA,Uy,ZK,Ux,Qb,Jz,capV,bZ,fC,aP,cY,cy,gu,c9,eD,bK,dX,fq,fE,gN,gv,gx,dO,Nat.reduceAdd,Nat.reduceSub,iR,true_and,and_true,aJ,if_true,if_false,ite_true,ite_false,dP,fX,iy,Yv,UY]
  refine⟨by lia,by lia,by lia,fun r U r1=>⟨by simp,by decide,by lia,fun x hx=>?_⟩⟩
  have C:∃b:Int,x=.int b/\0<=b:=by
   simp only[aA,aQ,or_false]at hx;rcases hx with h|h|h|h|h|h|h|h <;> first|exact⟨_,h,by decide⟩|exact⟨_,h,by lia⟩
  obtain⟨b,rfl,bb⟩:=C;simp only[Vs,Vr,Vt,u_dC,Z6,Vn,Vp,Vo,VE,Z5,VW,Vq,Vv,ZH,Za,Zb,Zc,ZG,Zd,ZN,Ze,ZM,Y0,Y1,oSub,oMul,oMod,UN,oShl,oShr,oXor,oAnd,isNone,isInt,isBool,isTup,isStr,l_gI,Z4,Zm,Zn,YW,YY,YZ,YX,YM,YO,YN,YF,Zw,ZQ,YJ,YH,YI,Zq,Zr,Zs,Zo,Zp,Zu,Zv,YV,YL,YK,ZR,Zt,Zx,ZP,Uc,Q9,UC,Uu,Uz,UA,Uy,ZK,Ux,Qb,Jz,capV,bZ,fC,aP,cY,cy,gu,c9,eD,bK,dX,fq,fE,gN,gv,gx,dO,Nat.reduceAdd,Nat.reduceSub,iR,true_and,and_true,aJ,if_true,if_false,ite_true,ite_false,dP,fX,iy,UY]
  have key:∀m:Int,0<=m->m<=bits->(CPow 1 (bits - m)/\(0:Int)<1*2 ^ (bits - m).toNat/\1*2 ^ (bits - m).toNat<(2:Int) ^ 128/\n+1+1<=1000000000000/\∀r:Int,0<=r->r<1*2 ^ (bits - m).toNat->CPow 1 m/\CMul r (1*2 ^ m.toNat)/\R (.tuple [.int (r*(1*2 ^ m.toNat)),.int m]) (n+1+1+1)):=by
   intro m m0 m1;have J:(1:Int)*2 ^ (bits - m).toNat=2 ^ (bits - m).toNat:=bO _;have L:(1:Int)*2 ^ m.toNat=2 ^ m.toNat:=bO _;rw[J,L];refine⟨cpow (by lia) (by lia),Qm _,zkL (by lia),by lia,fun k k0 k1=>⟨cpow m0 (by lia),.inl ⟨by lia,?_⟩,?_⟩⟩
   ·have:=ZS (k:=(bits - m).toNat) (by lia);lia
   ·exact h _ m ⟨m0,m1,k,k0,rfl,k1⟩
  exact key (if b<bits then b else bits) (by split <;> lia) (by split <;> lia)
 ·exact h.elim
def zeH:GD:=fun ts n R=>∃bits i h:Int,ts=[HAND,.int bits,.tuple [.int i,.int h]]/\1<=bits/\bits<=64/\n<=1000000000000 - 100/\IsBk bits i h/\∀j g:Int,IsBk bits j g->R (.tuple [.int j,.int g]) (n+7)
theorem zcK{bits i h:Int}{n:Nat}{R:qN}(y:1<=bits)(v:bits<=64)(x:n<=1000000000000 - 100)(B:IsBk bits i h)(h':∀j g:Int,IsBk bits j g->R (.tuple [.int j,.int g]) (n+7)):zeH [HAND,.int bits,.tuple [.int i,.int h]] n R:=⟨_,_,_,rfl,y,v,x,B,h'⟩
def zcA(Z:ZZ):Prop:=FQ Z "_law_near" (top 62) ["_law_hand_here","_law_bits_here","_law_block_here"] 4 (spD Z.K 3 zeH)
theorem zgQ(D:Dq Z.K Z.mg "_law_near" (top 62) ["_law_hand_here","_law_bits_here","_law_block_here"]) (J:UD Z) (G:V9 Z) (T:Txt Z.mg):zcA Z:=by
 refine' okQ D (fnS (N:=["_law_hand_here","_law_bits_here","_law_block_here","_law_begin","_law_height","_law_size","_law_some"]) (by decide +kernel)) rfl fun f I A outer s H E y=>⟨_,(Jb (QU (Jj 2) (JT rfl (Jo (dgv 3 (ndB rfl)) (Jo (dgv 4 (ndB rfl)) JR)))) (Jb (dsv 5 (ndB rfl) (JK dli (dlv 4))) (Jb (QA (i:=6) (ndB rfl) rfl (cX rfl) (JI (dbv 2 (dbc (Jm (dbv 3 (dbc (Jx (Yx rfl) Yh T.max Yw (Jk dli (Jk (dl (QI (dlv 4) dli)) Jp UZ) Y9)) Ja))) (dbc (Je G y (dbv 0 (dbv 1 Ja))) (dbc (Je G y (dbv 0 (dbv 1 Ja))) Ja)))))) (Jb (Jt (Jl Z0 gp_B (dlv 4) dli (Jh _)) (Jc (Qn 6 (Jm (dbc (JC (dlv 3) (dl (zin (dlv 5) dli))) (dbc (QI (dlv 4) dli) Ja))))) Jy) (Jb (Jt (Jl (Qa y) J1 (dlv 4) (dlv 1) (Jh _)) (Jb (Qn 6 (Jm (dbc (QI (dlv 3) (dl (Va (dlv 3) (dl (Vb dli (dlv 5)))))) (dbc (JC (dlv 4) dli) Ja)))) (Jc (Qn 6 (Jm (dbc (ztV (dlv 3) (dlv 5)) (dbv 4 Ja)))))) Jy) (Jb (Jt (Jl J3 JZ (dl (JC (dlv 3) (dl (Vb dli (dlv 5))))) (dl (JK dli (dlv 1))) (Jh _)) (Jc (Qn 6 (Jm (dbc (JC (dlv 3) (dlv 5)) (dbv 4 Ja))))) Jy) (QM 6 (Jc (Ji (Je J y (dbv 0 (dbv 6 Ja)))))))))))),?_⟩
 intro ts n R S C;obtain⟨bits,i,h,rfl,b0,U,hn,B,C⟩:=C;have h0:=B.1;have Y:=B.2.1;have v:∀j g:Int,IsBk bits j g->∀m,m=n+7->R (.tuple [.int j,.int g]) m:=fun j g b m e=>e▸C j g b
 have L:IsBk bits i (if h - 1 > 0 then h - 1 else 0):=by
  split
  ·exact B.low (by lia)
  ·by_cases z:h=0
   ·subst z;exact B
   ·have:h=1:=by lia
    subst this;exact B.low (by decide)
 wp_walk using zch ?_ ?_ ?_ (fun _ _ _=>?_),Yt ?_ ?_ ?_ ?_
 all_goals first
  | lia
  | exact cpow (by lia) (by lia)
  | exact zwo
  | exact zqz
  | (rw[QF];exact Int.mul_pos (by decide) (Qm _))
  | (intro z;simp at z;done)
  | (simp only[c9,eD,aP,cY];decide)
  | skip
 all_goals
  simp only[c9,eD,List.forall_mem_cons,QF]at *
  repeat' (with_reducible refine mn ?_ ?_)
 all_goals first
  | exact v _ _ B _ rfl
  | exact v _ _ L _ rfl
  | exact v _ _ (by assumption) _ rfl
  | exact v _ _ (B.up (by lia)) _ rfl
  | exact v _ _ (B.abt (by lia)) _ rfl
  | exact v _ _ (B.oth (by lia)) _ rfl
  | exact v _ _ (B.nxt (by assumption)) _ rfl
  | (intro x hx;simp at hx)
def zc7:GD:=fun ts n R=>∃bits most:Int,ts=[HAND,.int bits,.int most]/\1<=bits/\bits<=64/\0<=most/\most<=1000/\n<=1000000000000 - 100000/\∀(bs:qB) (m:Nat),Bks bits bs->bs.length<=most.toNat->m<=n+1+12*most.toNat->R (.list (pD bs)) m
theorem zgb{bits most:Int}{n:Nat}{R:qN}(x:1<=bits)(u:bits<=64)(m0:0<=most)(m1:most<=1000)(v:n<=1000000000000 - 100000)(h:∀(bs:qB) (m:Nat),Bks bits bs->bs.length<=most.toNat->m<=n+1+12*most.toNat->R (.list (pD bs)) m):zc7 [HAND,.int bits,.int most] n R:=⟨bits,most,rfl,x,u,m0,m1,v,h⟩
def zcU(Z:ZZ):Prop:=FQ Z "_law_blocks" (top 63) ["_law_hand_here","_law_bits_here","_law_most"] 5 (spD Z.K 3 zc7)
theorem ze5(D:Dq Z.K Z.mg "_law_blocks" (top 63) ["_law_hand_here","_law_bits_here","_law_most"]) (HE:UE Z) (HG:V9 Z) (HK:zcA Z) (HF:UD Z) (T:Txt Z.mg):zcU Z:=by
 refine' okQ D (fnS (N:=["_law_hand_here","_law_bits_here","_law_most","_law_found","_law_k","_law_block_here"]) (by decide +kernel)) rfl fun f cdv A outer s H E G=>⟨_,(Jb (QA (i:=3) (ndB rfl) rfl (cX rfl) (JI Ja)) (Jb (Q3 cc rfl (zeP T.ran (Je HE G (dbv 0 (dbc (JC (dlv 2) dli) Ja)))) (dgv 4 (ndB rfl)) (Jb (dsv 5 (ndB rfl) (Je HG G (dbv 0 (dbv 1 Ja)))) (Jb (Jt (Qc (Q6 (Jl (UQ G) UH (Ul 3) (dl (Jr (JI Ja))) (Jh _)) (Us (Jl Z0 gp_B (dl (Je HE G (dbv 0 (dbc Jg Ja)))) dli (Jh _))))) (Jc (dsv 5 (ndB rfl) (Je HK G (dbv 0 (dbv 1 (dbc (ztZ HF G (Jk (dlv 0) (Jk (Ul 3) Jp Jq) Jq)) Ja)))))) Jy) (Jc (Qn 3 (Jj 5)))))) (QM 3 (Jc (Ji (Jj 3)))))),?_⟩
 intro ts n R hl S;obtain⟨bits,most,rfl,b0,b1,m0,m1,hn,S⟩:=S
 wp_walk using Q0 ?_ ?_ ?_ (fun r r0 r1=>?_)
 ·lia
 ·lia
 ·lia
 ·lia
 ·lia
 refine U4 (fun k L m=>∃bs:List (Int×Int),∃J I,L=[some (.val HAND),some (.val (.int bits)),some (.val (.int most)),some (.own (pD bs)),J,I]/\Bks bits bs/\bs.length=k/\m<=n+1+12*k) ⟨[],_,_,rfl,(fun b hb=>nomatch hb),rfl,by lia⟩ ?_ ?_
 ·rintro k t L m K et ⟨bs,J,I,rfl,B,U,hm⟩ hK;obtain⟨hk2,rfl⟩:=zfi et;have hk3:k<1000:=by lia
  have fin:∀(i h:Int) (x4 x5:Option Cell) (Y:Nat),IsBk bits i h->Y<=m+12->K [some (.val HAND),some (.val (.int bits)),some (.val (.int most)),some (.own (pD bs++[.tuple [.int i,.int h]])),x4,x5] Y:=fun i h x4 x5 Y C hm' =>
   hK _ _ ⟨bs++[(i,h)],_,_,by rw[<- UR],B.app C,by simp[U],by lia⟩
  wp_walk using zch ?_ ?_ ?_ (fun i h C=>?_),Q0 ?_ ?_ ?_ (fun q q0 q1=>?_),Yt ?_ ?_ ?_ ?_,zcK ?_ ?_ ?_ ?_ (fun j g C'=>?_)
  all_goals first
   | lia
   | exact zot
   | exact Yp
   | (rw[Jv];lia)
   | decide
   | (intro z
      have y:cM (.list (pD bs)) (.list [])=false:=by assumption
      rw[zqh]at y;have y2:bs=[]:=by
       have:=congrArg dQ z;rw[Jv]at this;exact gR.mp this
      rw[y2]at y;cases y)
   | exact fin _ _ _ _ _ (by assumption) (by lia)
   | skip
  all_goals
   intro x hx;obtain⟨b,hb,rfl⟩:=aS.mp hx;refine⟨zjX,?_⟩;have C0:=B b hb
   wp_walk using zcK ?_ ?_ ?_ ?_ (fun j g C'=>?_)
   all_goals first
    | lia
    | exact C0
    | (rw[Jv];lia)
    | exact fin _ _ _ _ _ (by assumption) (by lia)
 ·rintro L m ⟨bs,J,I,rfl,B,U,hm⟩;have el:bs.length<=most.toNat:=by
   rw[U];unfold QL;simp;lia
  wp_walk
  exact S bs m B el (by lia)
def zdK:GD:=fun ts n R=>∃bits most:Int,ts=[HAND,.int bits,.int most]/\1<=bits/\bits<=64/\0<=most/\most<64/\n<=1000000000000 - 100000/\∀(bs:qB) (m:Nat),Ptc bits bs->bs.length<=most.toNat->m<=n+1+12*most.toNat->R (.tuple (pD bs)) m
theorem zdO{bits most:Int}{n:Nat}{R:qN}(y:1<=bits)(v:bits<=64)(m0:0<=most)(m1:most<64)(x:n<=1000000000000 - 100000)(h:∀(bs:qB) (m:Nat),Ptc bits bs->bs.length<=most.toNat->m<=n+1+12*most.toNat->R (.tuple (pD bs)) m):zdK [HAND,.int bits,.int most] n R:=⟨bits,most,rfl,y,v,m0,m1,x,h⟩
def zdE(Z:ZZ):Prop:=FQ Z "_law_patch" (top 64) ["_law_hand_here","_law_bits_here","_law_most"] 6 (spD Z.K 3 zdK)
theorem zfP(D:Dq Z.K Z.mg "_law_patch" (top 64) ["_law_hand_here","_law_bits_here","_law_most"]) (HV:zcU Z) (T:Txt Z.mg):zdE Z:=by
 refine' okQ D (fnS (N:=["_law_hand_here","_law_bits_here","_law_most","_law_found","_law_begin","_law_height"]) (by decide +kernel)) rfl fun f cdv A outer s H E hr=>⟨_,(Jb (QA (i:=3) (ndB rfl) rfl (cX rfl) (JI Ja)) (Jb (Q3 cc rfl (Ur (Je HV hr (dbv 0 (dbv 1 (dbv 2 Ja))))) (JT rfl (Jo (dgv 4 (ndB rfl)) (Jo (dgv 5 (ndB rfl)) JR))) (Jc (Jt (Qe (dl (Jx (zeV rfl) zlV T.all zeY (Jk (dl (Jr (dnc ["_law_one"] [4,5] (zn6 (Ul 3)) (fun _ _ _ _=>(dgv 0 (ndB rfl))) (fun _ _ _ _=>(zoO (QT J3 JZ (dl (JC (dlv 1) (dl (JK dli (dlv 2))))) (dl (Jd (dlv 0) dli)) (Jh _)) (Q1 (QT J3 JZ (dl (JC (dl (Jd (dlv 0) dli)) (dl (JK dli (dl (Jd (dlv 0) dli)))))) (dlv 1) (Jh _)))))))) Jp ZF)))) (Jc (Qn 3 (Jm (dbv 4 (dbv 5 Ja))))) Jy))) (QM 3 (Jc (Ji (QZ Uf Q8 T.tup QN (Jk (dl (Jr (zhv hr T.srt (dlv 3) Jq))) Jp U0))))))),?_⟩
 intro ts n R hl S;obtain⟨bits,most,rfl,b0,b1,m0,m1,hn,S⟩:=S
 wp_walk using zgb ?_ ?_ ?_ ?_ ?_ (fun bs m B Y hm=>?_)
 ·lia
 ·lia
 ·lia
 ·lia
 ·lia
 refine U4 (fun k L U=>U=m/\∃cs:List (Int×Int),∃J I,L=[some (.val HAND),some (.val (.int bits)),some (.val (.int most)),some (.own (pD cs)),J,I]/\Bks bits cs/\(cs.Pairwise fun a b=>eB a<=b.1\/eB b<=a.1)/\cs.length<=k) ⟨rfl,[],_,_,rfl,(fun b y=>nomatch y),.nil,aC _⟩ ?_ ?_
 ·rintro k t L U K et ⟨rfl,cs,J,I,rfl,C,u,hk⟩ hK;obtain⟨i,h,eb,rfl⟩:=Zi et;have y:=B _ (aN eb);have h0:0<=h:=y.1;have h1:h<=bits:=y.2.1;have hk3:k<64:=by
   have:=(ax.mp eb).1;lia
  wp_walk
  refine Ut (D:=prD) (fun b=>.bool (decide (i+2 ^ h.toNat<=b.1)||decide (eB b<=i))) (by lia) ?_ ?_
  ·rintro⟨i',h'⟩ x K2 X2 hK2;have G:=C _ x;have h0':0<=h':=G.1;have h1':h'<=bits:=G.2.1
   wp_walk
   ·exact cpow (by lia) (by lia)
   ·have hc:i+2 ^ h.toNat<=i':=by rw[QF]at hc;exact hc
    rw[decide_eq_true hc]at hK2;exact hK2
   ·exact cpow (by lia) (by lia)
   ·have hc:¬i+2 ^ h.toNat<=i':=by rw[QF]at hc;exact hc
    rw[decide_eq_false hc]at hK2;rw[QF];exact hK2
  ·wp_walk using zlR ?_
   ·rw[Jv];lia
   ·have al:∀b∈cs,i+2 ^ h.toNat<=b.1\/eB b<=i:=fun b y=>by
     have:=bw.mp hc b y;simpa using this
    refine hK _ _ ⟨rfl,cs++[(i,h)],_,_,by rw[<- UR],C.app y,?_,by simp;lia⟩
    rw[cF];refine⟨u,de _ _,fun a ha b x=>?_⟩
    cases az.mp x;rcases al a ha with z|z
    ·exact .inr z
    ·exact .inl z
   ·exact hK _ _ ⟨rfl,cs,_,_,rfl,C,u,by lia⟩
 ·rintro L U ⟨rfl,cs,J,I,rfl,C,u,hk⟩;rw[Jv]at hk
  wp_walk
  refine zsL b1 C u (by lia) fun es P pm=>?_
  wp_walk
  exact S es _ P (by have:=pm.length_eq;lia) (by lia)
def nmL(l:List Nat)(k c:Nat):Str:=⟨(l.take k++[c]++l.drop k).toArray⟩
theorem zsm{u:List Nat}{k c:Nat}(y:u.length<=7)(v:∀x∈u,97<=x/\x<=122)(hc:97<=c/\c<=122):IsNm (nmL u k c):=by
 have e:(nmL u k c).cps.toList=u.take k++[c]++u.drop k:=rfl;have l:(nmL u k c).length=u.length+1:=by
  rw[<- Qq,e];simp;lia
 refine⟨by lia,by lia,fun x hx=>?_⟩
 rw[e]at hx;simp only[aw,az]at hx;rcases hx with(hx|rfl)|hx
 ·exact v x (cP hx)
 ·exact hc
 ·exact v x (fW hx)
theorem zpF{l:List Nat}{k c d:Nat}(h:nmL l k c=nmL l k d):c=d:=by
 have e:l.take k++[c]++l.drop k=l.take k++[d]++l.drop k:=congrArg (fun s:Str=>s.cps.toList) h
 rw[bR,bR]at e;have:=List.append_cancel_left e;simpa using this
theorem zmg{step:Int}(h:step=1\/step=3\/step=5\/step=7\/step=9\/step=11){first i j:Int}(x:0<=i)(u:i<26)(v:0<=j)(l:j<26)(e:(first+step*i) % 26=(first+step*j) % 26):i=j:=by
 rcases h with rfl|rfl|rfl|rfl|rfl|rfl <;> lia
def zdL:GD:=fun ts n R=>∃many:Int,ts=[HAND,.int many]/\0<=many/\many<=26/\n<=1000000000000 - 1000/\∀u:List Str,u.length=many.toNat->(∀s∈u,IsNm s)->u.Nodup->R (.list (u.map .str)) (n+5)
theorem zhJ{many:Int}{n:Nat}{R:qN}(m0:0<=many)(m1:many<=26)(v:n<=1000000000000 - 1000)(h:∀u:List Str,u.length=many.toNat->(∀s∈u,IsNm s)->u.Nodup->R (.list (u.map .str)) (n+5)):zdL [HAND,.int many] n R:=⟨many,rfl,m0,m1,v,h⟩
def zdF(Z:ZZ):Prop:=FQ Z "_law_names" (top 65) ["_law_hand_here","_law_many"] 3 (spD Z.K 2 zdL)
theorem zfQ(D:Dq Z.K Z.mg "_law_names" (top 65) ["_law_hand_here","_law_many"]) (S:UE Z) (HF:UD Z) (T:Txt Z.mg):zdF Z:=by
 refine' okQ D (fnS (N:=["_law_hand_here","_law_many","_law_letters","_law_first","_law_step","_law_stem","_law_at"]) (by decide +kernel)) rfl fun f cdv A outer s H E G=>⟨_,(Jb (dsv 2 (ndB rfl) Qt) (Jb (QU (Jm (dbc (Je S G (dbv 0 (dbc Jg Ja))) (dbc (Je HF G (dbv 0 (dbc (Jr (JI (dbc Jg (dbc Jg (dbc Jg (dbc Jg (dbc Jg (dbc Jg Ja)))))))) Ja))) Ja))) (JT rfl (Jo (dgv 3 (ndB rfl)) (Jo (dgv 4 (ndB rfl)) JR)))) (Jb (dsv 5 (ndB rfl) (zqp (dl (Jd (dlv 2) (dl (Je S G (dbv 0 (dbc Jg Ja)))))) (dl (Je HF G (dbv 0 (dbc (Jr (JI (dbc Jg (dbc Jg (dbc Jg (dbc Jg (dbc Jg Ja))))))) Ja)))))) (Jb (dsv 6 (ndB rfl) (Je S G (dbv 0 (dbc (JC (dl (Jx QE QC T.len Qu (Jk (dlv 5) Jp Jq))) dli) Ja)))) (Jc (Ji (Jr (dnc ["_law_k"] [5,2,6,3,4] (dil (zeP T.ran (Jj 1))) (fun _ _ _ _=>(dgv 0 (ndB rfl))) (fun _ _ _ _=>(JC (dl (JC (dl (ZI (dlv 1) Ym (Yn (Jj 3)))) (dl (Jd (dlv 2) (dl (Va (dl (JC (dlv 4) (dl (Vb (dlv 5) (dlv 0))))) dli)))))) (dl (ZI (dlv 1) (Yn (Jj 3)) Ym)))))))))))),?_⟩
 intro ts n R hl h;obtain⟨many,rfl,m0,m1,hn,h⟩:=h
 wp_walk using Q0 ?_ ?_ ?_ (fun r r0 r1=>?_),Yt ?_ ?_ ?_ (fun x hx=>?_)
 all_goals first|lia|exact cpow (by lia) (by lia)|(simp;done)|skip
 rename_i first f0 f1
 revert r r0 r1;intro l l0 l1;obtain⟨step,rfl,C⟩:∃s:Int,x=.int s/\(s=1\/s=3\/s=5\/s=7\/s=9\/s=11):=by
  simp only[aA,aQ,or_false]at hx;rcases hx with rfl|rfl|rfl|rfl|rfl|rfl <;> exact⟨_,rfl,by simp⟩
 refine zsV (k:=l.toNat) (by decide) (by lia) (letters (by lia)) ?_
 wp_walk using Yt ?_ ?_ ?_ (fun y hy=>?_)
 all_goals first|lia|exact cpow (by lia) (by lia)|(simp;done)|skip
 obtain⟨m,rfl,mm0,mm7⟩:∃m:Int,y=.int m/\0<=m/\m<=7:=by
  simp only[aA,aQ,or_false]at hy;rcases hy with rfl|rfl|rfl|rfl|rfl <;> exact⟨_,rfl,by decide,by decide⟩
 have v:(repS (⟨#[97+l.toNat]⟩:Str) m).cps.toList=bX m.toNat (97+l.toNat):=by
  rw[znb];show(bX m.toNat [97+l.toNat]).flatten=_
  generalize m.toNat=k;induction k with
  | zero=>rfl
  | succ k ih=>rw[cy,nR,ih,cy];rfl
 have u:(repS (⟨#[97+l.toNat]⟩:Str) m).length=m.toNat:=by rw[<- Qq,v,hZ]
 wp_walk using Q0 ?_ ?_ ?_ (fun a a0 a1=>?_)
 ·lia
 ·lia
 ·show 1<=100;decide
 ·rw[u];lia
 ·rw[u];lia
 ·rw[u];lia
 ·lia
 ·lia
 ·lia
 rw[u]at a1;generalize repS (⟨#[97+l.toNat]⟩:Str) m=HI at v u;have U:∀x∈HI.cps.toList,97<=x/\x<=122:=fun x hx=>by
  rw[v]at hx;have:=List.eq_of_mem_replicate hx;lia
 refine Ut (cs:=fw many.toNat) (D:=fun(i:Nat)=>.int (0+(i:Int))) (fun i=>.str (nmL HI.cps.toList a.toNat (97+((first+step*(i:Int)) % 26).toNat))) (by simp;lia) ?_ ?_
 ·intro i hi K2 X2 I;have hi:=gT.mp hi;have q0:0<=(first+step*(0+(i:Int))) % 26:=iM _ (by decide)
  have q1:(first+step*(0+(i:Int))) % 26<26:=gO _ (by decide)
  wp_walk using zsV (k:=((first+step*(0+(i:Int))) % 26).toNat) (by decide) (by lia) (letters (by lia)) ?_
  all_goals first
   | lia
   | exact .inl ⟨by lia,by lia⟩
   | skip
  ·have l3:(cutS HI none (some a)).length<=7:=by
    rw[<- Qq,zeS (k:=a.toNat) (by lia)]
    have:=Qq HI;simp;lia
   show(cutS HI none (some a)).length+1<=16777216
   lia
  ·have l3:(cutS HI none (some a)).length<=7:=by
    rw[<- Qq,zeS (k:=a.toNat) (by lia)]
    have:=Qq HI;simp;lia
   have l4:(cutS HI (some a) none).length<=7:=by
    rw[<- Qq,zhz (k:=a.toNat) (by lia) (by lia),fh]
    have:=Qq HI;lia
   rw[<- Qq,ziA,aT,Qq];show _+1+_<=_
   lia
  ·have e:(cutS HI none (some a)++(⟨#[97+((first+step*(0+(i:Int))) % 26).toNat]⟩:Str)++cutS HI (some a) none)=nmL HI.cps.toList a.toNat (97+((first+step*(i:Int)) % 26).toNat):=by
    apply L2.Str.ext';rw[ziA,ziA,zeS (k:=a.toNat) (by lia),zhz (k:=a.toNat) (by lia) (by lia),Int.zero_add]
    rfl
   rw[e];exact I
 ·have e:((fw many.toNat).map fun(i:Nat)=>gM (nmL HI.cps.toList a.toNat (97+((first+step*(i:Int)) % 26).toNat)))=((fw many.toNat).map fun(i:Nat)=>nmL HI.cps.toList a.toNat (97+((first+step*(i:Int)) % 26).toNat)).map .str:=by rw[cZ];rfl
  rw[e];have J:∀i:Nat,0<=(first+step*(i:Int)) % 26/\(first+step*(i:Int)) % 26<26:=fun i=>⟨iM _ (by decide),gO _ (by decide)⟩
  refine h _ (by simp) (fun s hs=>?_) ?_
  ·obtain⟨i,hi,rfl⟩:=aS.mp hs;have:=J i;have:=Qq HI;exact zsm (by lia) U (by lia)
  ·rw[List.Nodup,dY];refine gD ?_ (List.nodup_range (n:=many.toNat));intro i j hi Y ne e;have hi:=gT.mp hi;have Y:=gT.mp Y;have e':=zpF e;have:=J i;have:=J j;have:=zmg C (first:=first) (i:=i) (j:=j) (by lia) (by lia) (by lia) (by lia) (by lia)
   exact ne (by lia)
def zeI:GD:=fun ts n R=>∃(bits most:Int) (u:List Str),ts=[HAND,.int bits,.list (nD u),.int most]/\1<=bits/\bits<=64/\0<=most/\most<64/\u≠[]/\u.length<=1000/\(∀s∈u,IsNm s)/\n<=1000000000000 - 200000 /\
 ∀(d:Deal) (m:Nat),Dl d->d.1=bits->d.2.1.length<=most.toNat->d.2.2.length<=most.toNat->(∀p∈d.2.1++d.2.2,p.2∈u)->m<=n+10000->R (dlD d) m
theorem zeX{bits most:Int}{u:List Str}{n:Nat}{R:qN}(C:1<=bits)(v:bits<=64)(m0:0<=most)(m1:most<64)(ne:u≠[])(l:u.length<=1000)(x:∀s∈u,IsNm s)(y:n<=1000000000000 - 200000)
 (h:∀(d:Deal) (m:Nat),Dl d->d.1=bits->d.2.1.length<=most.toNat->d.2.2.length<=most.toNat->(∀p∈d.2.1++d.2.2,p.2∈u)->m<=n+10000->R (dlD d) m):zeI [HAND,.int bits,.list (nD u),.int most] n R:=⟨bits,most,u,rfl,C,v,m0,m1,ne,l,x,y,h⟩
def zei(Z:ZZ):Prop:=FQ Z "_law_deal" (top 66) ["_law_hand_here","_law_bits_here","_law_names_here","_law_most"] 7 (spD Z.K 4 zeI)
theorem zgS(D:Dq Z.K Z.mg "_law_deal" (top 66) ["_law_hand_here","_law_bits_here","_law_names_here","_law_most"]) (HP:zdE Z) (HF:UD Z) (HE:UE Z) (T:Txt Z.mg):zei Z:=by
 refine' okQ D (fnS (N:=["_law_hand_here","_law_bits_here","_law_names_here","_law_most","_law_outs_here","_law_kept","_law_block_here","_law_name","_law_size","_law_there"]) (by decide +kernel)) rfl fun f cdv A outer s H E Y=>⟨_,(Jb (VF (ZC (i:=4) (ndB rfl) rfl (cX rfl) (own:=["_law_block_here"]) (capt:=[0,2]) rfl (JG.of rfl) (dil (QJ (Je HP Y (dbv 0 (dbv 1 (dbv 3 Ja)))))) (fun _ _ _ _=>(dgv 0 (ndB rfl))) (by decide) (fun _ _ _ _=>Zz) (fun _ _ _ _=>(Jm (dbv 0 (dbc (Je HF Y (dbv 1 (dbv 2 Ja))) Ja)))))) (Jb (QA (i:=5) (ndB rfl) rfl (cX rfl) (JI Ja)) (Jb (Q3 cc rfl (QJ (Je HP Y (dbv 0 (dbv 1 (dbv 3 Ja))))) (dgv 6 (ndB rfl)) (Jb (dsv 7 (ndB rfl) (Je HF Y (dbv 0 (dbv 2 Ja)))) (Jb (dsv 8 (ndB rfl) (JK dli (dl (Jd (dlv 6) dli)))) (Jb (VF (ZC (i:=9) (ndB rfl) rfl (cX rfl) (own:=["_law_one"]) (capt:=[8,6]) rfl (JG.of rfl) (dil (Ur (Jj 4))) (fun _ _ _ _=>(dgv 0 (ndB rfl))) (by decide) (fun _ _ _ _=>(Yo (Qc (Q6 (Jl (Qa Y) J1 (dl (Jd (dl (Jd (dlv 0) dli)) dli)) (dl (JC (dl (Jd (dlv 2) dli)) (dlv 1))) (Jh _)) (Us (Jl (Qa Y) J1 (dl (Jd (dlv 2) dli)) (dl (JC (dl (Jd (dl (Jd (dlv 0) dli)) dli)) (dl (JK dli (dl (Jd (dl (Jd (dlv 0) dli)) dli)))))) (Jh _))))))) (fun _ _ _ _=>(Jj 0)))) (Jb (Jt (Qc (QS (Jl (Qf Y) Qd (dlv 9) (dl (Jr (JI Ja))) (Jh _)) (Um (Jl (Qf Y) Qd (dl (Je HE Y (dbv 0 (dbc Jg Ja)))) dli (Jh _))))) (Jc (dsv 7 (ndB rfl) (Jd (dl (Jr (UV (dl (Jr (dnc ["_law_one"] [] (dil (Ur (Jj 9))) (fun _ _ _ _=>(dgv 0 (ndB rfl))) (fun _ _ _ _=>(Jd (dlv 0) dli))))) (dl (Jr (JI (dbv 7 Ja))))))) dli))) Jy) (Jc (Jt (Jl (Qf Y) Qd (dl (Jr (dnf ["_law_one"] [7] (dil (Ur (Jj 9))) (fun _ _ _ _=>(dgv 0 (ndB rfl))) (fun _ _ _ _=>(Yo (Jl (UQ Y) UH (dl (Jd (dlv 0) dli)) (dlv 1) (Jh _)))) (fun _ _ _ _=>(Jj 0))))) (dl (Jr (JI Ja))) (Jh _)) (Jc (Qn 5 (Jm (dbv 6 (dbv 7 Ja))))) Jy))))))) (QM 5 (Jc (Ji (Jm (dbv 1 (dbc (QZ Uf Q8 T.tup QN (Jk (dlv 4) Jp Jq)) (dbc (QZ Uf Q8 T.tup QN (Jk (dlv 5) Jp Jq)) Ja)))))))))),?_⟩
 intro ts n R hl h;obtain⟨bits,most,I,rfl,b0,b1,m0,m1,ne,l,hm,hn,h⟩:=h;have pick:∀{n:Nat} {Q:qN},n<=1000000000000->(∀s∈I,Q (.str s) (n+1))->Yv [HAND,.list (nD I)] n Q:=fun {n Q} hn J=>Yt (by intro z;cases I with|nil=>exact ne rfl|cons a b=>cases z) (by simp[nD];lia) hn fun x hx=>by
  obtain⟨s,hs,rfl⟩:=aS.mp hx;exact J s hs
 wp_walk using zdO b0 b1 m0 m1 ?_ (fun bs m P hlen hm1=>?_)
 ·lia
 refine Z9 (fun j acc m'=>m'=m+j/\∃os:List ((Int×Int)×Str),acc=oD os/\os.map (·.1)=bs.take j/\∀p∈os,p.2∈I) ⟨rfl,[],rfl,by simp,fun p C=>nomatch C⟩ ?_ ?_
 ·rintro j x acc m' K ej ⟨rfl,os,rfl,e1,e2⟩ hK;obtain⟨i,g,eb,rfl⟩:=Zi ej;have jl:=(ax.mp eb).1;have lo:os.length=j:=by
   have:=congrArg dQ e1;simp at this;lia
  wp_walk using pick ?_ (fun s hs=>?_)
  ·lia
  ·rw[QX];lia
  ·refine hK _ _ ⟨by lia,os++[((i,g),s)],by simp[oD],?_,?_⟩
   ·rw[eu,e1,dD,eb];rfl
   ·intro p C;rcases aw.mp C with z|z
    ·exact e2 p z
    ·cases az.mp z;exact hs
 ·rintro acc m' ⟨rfl,os,rfl,e1,e2⟩;rw[Jv,fk]at e1
  wp_walk using zdO b0 b1 m0 m1 ?_ (fun cs m2 P2 hlen2 hm2=>?_)
  ·rw[Jv];lia
  rw[Jv]at hm2;have lo:os.length=bs.length:=by rw[<- aZ (f:=(·.1)),e1]
  have Bo:∀p∈os,IsBk bits p.1.1 p.1.2:=fun p C=>P.1 _ (by rw[<- e1];exact aS.mpr ⟨p,C,rfl⟩)
  refine zoJ 5 6 7 8 9 (fun k a5 _ _ _ _ m'=>m'<=m2+2*k/\∃L:List ((Int×Int)×Str),a5=some (.own (oD L))/\(L.map (·.1)).Sublist (cs.take k)/\(∀q∈L,q.2∈I)/\Agr os L) ⟨by lia,[],rfl,by simp,fun q J=>(nomatch J),fun p C q J=>(nomatch J)⟩ ?_ ?_
  ·rintro k t a5 a6 a7 a8 a9 m' K RT BK et ⟨hm',L,rfl,sb,kn,ag⟩ hK hRT hBK;obtain⟨i,g,eb,rfl⟩:=Zi et;have kl:=(ax.mp eb).1;have Bb:=P2.1 _ (aN eb);have g0:0<=g:=Bb.1;have g1:g<=bits:=Bb.2.1;have pg:=Qm g.toNat;have tk:cs.take (k+1)=cs.take k++[(i,g)]:=by rw[dD,eb];rfl
   have lks:L.length<=64:=by
    have:=sb.length_le;simp at this;lia
   have skip:∀(G:Nat) (b6 b7 b8 b9:Option Cell),G<=m'+2->K [some (.val HAND),some (.val (.int bits)),some (.val (.list (nD I))),some (.val (.int most)),some (.val (.list (oD os))),some (.own (oD L)),b6,b7,b8,b9] G:=fun G b6 b7 b8 b9 h2 =>
    hK _ _ _ _ _ _ ⟨by lia,L,rfl,by rw[tk];exact sb.trans (List.sublist_append_left _ _),kn,ag⟩
   have put:∀(G:Nat) (b6 b7 b8 b9:Option Cell) (s:Str),G<=m'+2->s∈I->(∀p∈os,p.1.1<i+2 ^ g.toNat->i<p.1.1+2 ^ p.1.2.toNat->p.2=s)->K [some (.val HAND),some (.val (.int bits)),some (.val (.list (nD I))),some (.val (.int most)),some (.val (.list (oD os))),some (.own (oD L++[.tuple [.tuple [.int i,.int g],.str s]])),b6,b7,b8,b9] G:=fun G b6 b7 b8 b9 s h2 hs al =>
    hK _ _ _ _ _ _ ⟨by lia,L++[((i,g),s)],by simp[oD],by rw[tk,eu];exact sb.append (xW _),(fun q J=>by
     rcases aw.mp J with z|z
     ·exact kn q z
     ·cases az.mp z;exact hs),fun p C q J=>by
     rcases aw.mp J with z|z
     ·exact ag p C q z
     ·cases az.mp z
      by_cases y:p.1.1<i+2 ^ g.toNat/\i<p.1.1+2 ^ p.1.2.toNat
      ·exact .inl (al p C y.1 y.2)
      ·right
       show eB p.1<=i\/i+2 ^ g.toNat<=p.1.1
       unfold eB;lia⟩
   wp_walk using pick ?_ (fun s hs=>?_)
   ·lia
   ·exact cpow (by lia) (by lia)
   refine Yu (cs:=os) (D:=fun p=>.tuple [prD p.1,.str p.2]) (fun p=>decide (p.1.1<i+2 ^ g.toNat)&&decide (i<p.1.1+2 ^ p.1.2.toNat)) (fun p=>.tuple [prD p.1,.str p.2]) (by lia) ?_ ?_
   ·intro p C K2 X2 U hX2;have Bp:=Bo p C;have p0:=Bp.1;have p1:=Bp.2.1
    wp_walk
    ·exact cpow (by lia) (by lia)
    all_goals simp only[QF]at *
    ·rename_i y;exact U (by rw[decide_eq_true y,decide_eq_true hc];rfl)
    ·exact hX2 (by rw[decide_eq_false hc,hU])
    ·exact hX2 (by rw[decide_eq_false hc,cC])
   ·rw[show((os.filter fun p=>decide (p.1.1<i+2 ^ g.toNat)&&decide (i<p.1.1+2 ^ p.1.2.toNat)).map fun p=>iS [prD p.1,gM p.2])=oD (os.filter fun p=>decide (p.1.1<i+2 ^ g.toNat)&&decide (i<p.1.1+2 ^ p.1.2.toNat)) from rfl]
    generalize ets:(os.filter fun p=>decide (p.1.1<i+2 ^ g.toNat)&&decide (i<p.1.1+2 ^ p.1.2.toNat))=us
    have Ku:∀p∈us,p∈os:=fun p C=>by rw[<- ets]at C;exact(cz.mp C).1
    have uin:∀p∈os,p.1.1<i+2 ^ g.toNat->i<p.1.1+2 ^ p.1.2.toNat->p∈us:=fun p C y z=>by
     rw[<- ets];exact cz.mpr ⟨C,by rw[decide_eq_true y,decide_eq_true z];rfl⟩
    have lus:us.length<=64:=by
     have:=dH (fun p:(Int×Int)×Str=>decide (p.1.1<i+2 ^ g.toNat)&&decide (i<p.1.1+2 ^ p.1.2.toNat)) os
     rw[ets]at this;lia
    have ok3:∀vs:List ((Int×Int)×Str),(∀p∈vs,p∈os)->Okd (.list (oD vs)):=fun vs hv=>(zpw (k:=2) fun t ht=>by
     obtain⟨p,C,rfl⟩:=aS.mp ht;refine zk7 fun u hu=>?_
     simp only[aA,aQ,or_false]at hu;rcases hu with rfl|rfl
     ·exact zsj
     ·exact(ZX (hm _ (e2 _ (hv p C)))).mono (by decide)).okd
    have tail:∀(G:Nat) (s':Str) (b8:Option Cell),G<=m'+2->s'∈I ->
      sIf (QY (dOp oEq (dNew (dComp [aa "_law_one"].length [7] (dItL (dVar 9)) (Qo 0) (QY (dOp oNe (dOp oIx (dVar 0) (dC (b5 1))) (dVar 1))) (dVar 0))) (dNew dNil))) (Yr 5 (dTup (Qk (dVar 6) (Qk (dVar 7) dNil)))) Z8 { nx:=K,rt:=RT,bk:=BK,ct:=K }
       [some (.val HAND),some (.val (.int bits)),some (.val (.list (nD I))),some (.val (.int most)),some (.val (.list (oD os))),some (.own (oD L)),some (.val (.tuple [.int i,.int g])),some (.val (.str s')),b8,some (.val (.list (oD us)))] G:=by
     intro G s' b8 hm'' hs'
     wp_walk
     refine Yu (cs:=us) (D:=fun p=>.tuple [prD p.1,.str p.2]) (fun p=>!decide (p.2=s')) (fun p=>.tuple [prD p.1,.str p.2]) (by lia) ?_ ?_
     ·intro p C K2 X2 U hX2
      wp_walk
      ·exact hX2 (by rw[decide_eq_true hc];rfl)
      ·exact U (by rw[decide_eq_false hc];rfl)
     ·wp_walk
      ·exact ok3 _ fun p C=>Ku p (cz.mp C).1
      ·exact Yp
      ·rw[QX];lia
      ·rw[znY]at hc;refine put _ _ _ _ _ s' hm'' hs' fun p C y z=>?_
       by_cases w:p.2=s'
       ·exact w
       ·exfalso;have:p∈us.filter fun p=>!decide (p.2=s'):=cz.mpr ⟨uin p C y z,by rw[decide_eq_false w];rfl⟩
        have e0:us.filter (fun p=>!decide (p.2=s'))=[]:=by simpa using hc
        rw[e0]at this;cases this
      ·exact skip _ _ _ _ _ hm''
    have nm:∀{Q:af->Prop},(∀s'∈I,Q (.str s'))->oIx (.list ((us.map fun p=>gM p.2)++[.str s])) (.int 0) Q:=fun {Q} J=>by
     cases us with
     | nil=>exact zlJ (J s hs)
     | cons u v=>exact zlJ (J u.2 (e2 u (Ku u (by simp))))
    wp_walk using Q0 ?_ ?_ ?_ (fun r r0 r1=>?_),tail _ _ _ ?_ ?_
    all_goals first
     | exact ok3 _ Ku
     | exact Yp
     | exact hs
     | lia
     | skip
    all_goals
     refine Ut (cs:=us) (D:=fun p=>.tuple [prD p.1,.str p.2]) (fun p=>.str p.2) (by lia) ?_ ?_
     ·intro p C K2 X2 U
      wp_walk
      exact U
     ·wp_walk using nm (fun s' hs'=>?_),tail _ _ _ ?_ ?_
      ·simp;lia
      ·lia
      ·exact hs'
  ·rintro a5 a6 a7 a8 a9 m' ⟨hm',L,rfl,sb,kn,ag⟩;rw[Jv,fk]at sb
   wp_walk
   refine h (bits,os,L) _ ⟨b0,b1,⟨by rw[e1];exact P,fun p C=>hm _ (e2 p C)⟩,⟨⟨fun b hb=>P2.1 b (sb.subset hb),P2.2.sublist sb⟩,fun q J=>hm _ (kn q J)⟩,ag⟩ rfl (by show os.length<=_;lia) ?_ ?_ ?_
   ·have:=sb.length_le;rw[aZ]at this;show L.length<=_
    lia
   ·intro p C;rcases aw.mp C with z|z
    ·exact e2 p z
    ·exact kn p z
   ·rw[Jv]at hm';lia
def zeJ:GD:=fun ts n R=>ts=[HAND]/\n<=1000000000000 - 400000/\∀(d:Deal) (v:List Str) (m:Nat),Dl d->v≠[]->v.length<=4->(∀s∈v,IsNm s)->d.2.1.length<=40->d.2.2.length<=40->(∀p∈d.2.1++d.2.2,p.2∈v)->m<=n+20000->R (.tuple [dlD d,.list (nD v)]) m
theorem zix{n:Nat}{R:qN}(x:n<=1000000000000 - 400000)(h:∀(d:Deal) (v:List Str) (m:Nat),Dl d->v≠[]->v.length<=4->(∀s∈v,IsNm s)->d.2.1.length<=40->d.2.2.length<=40->(∀p∈d.2.1++d.2.2,p.2∈v)->m<=n+20000->R (.tuple [dlD d,.list (nD v)]) m):zeJ [HAND] n R:=⟨rfl,x,h⟩
def zej(Z:ZZ):Prop:=FQ Z "_law_case" (top 67) ["_law_hand_here"] 8 (spD Z.K 1 zeJ)
theorem zgT(D:Dq Z.K Z.mg "_law_case" (top 67) ["_law_hand_here"]) (U:zek Z) (H0:zdF Z) (Y:zei Z) (J:UE Z) (T:Txt Z.mg):zej Z:=by
 refine' okQ D (fnS (N:=["_law_hand_here","_law_bits_here","_law_names_here","_law_deal_here"]) (by decide +kernel)) rfl fun f cdv A outer s H E u=>⟨_,(Jb (dsv 1 (ndB rfl) (Je U u (dbv 0 Ja))) (Jb (dsv 2 (ndB rfl) (Je H0 u (dbv 0 (dbc (JC dli (dl (Je J u (dbv 0 (dbc Jg Ja))))) Ja)))) (Jb (dsv 3 (ndB rfl) (Je Y u (dbv 0 (dbv 1 (dbc (ztX (Jr (zn4 (dlv 2) Ym (Yn (Yg Jg)))) (Q1 (Jj 2))) (dbc (Jd (dl (Jr (JI (dbc Jg (dbc Jg (dbc Jg (dbc Jg (dbc Jg (dbc Jg (dbc Jg (dbc Jg Ja))))))))))) (dl (Je J u (dbv 0 (dbc Jg Ja))))) Ja)))))) (Jc (Ji (Jm (dbv 3 (dbv 2 Ja)))))))),?_⟩
 intro ts n R hl h;obtain⟨rfl,hn,h⟩:=h;have ml:∀x∈[b5 5,b5 5,b5 5,b5 5,b5 5,b5 5,b5 5,b5 40],∃most:Int,x=.int most/\0<=most/\most<=40:=fun x hx=>by
  simp only[aA,aQ,or_false]at hx;rcases hx with rfl|rfl|rfl|rfl|rfl|rfl|rfl|rfl <;> exact⟨_,rfl,by decide,by decide⟩
 wp_walk using ziy ?_ (fun bits I G=>?_),Q0 ?_ ?_ ?_ (fun r r0 r1=>?_),zhJ ?_ ?_ ?_ (fun l nl v nd=>?_)
 all_goals first|lia|exact cpow (by lia) (by lia)|(simp;done)|skip
 all_goals
  have ne:l≠[]:=fun z=>by rw[z]at nl;simp at nl;lia
  refine zsW (by lia) (by simp;lia) fun x hx=>?_
  obtain⟨most,rfl,m0,m1⟩:=ml x hx
  wp_walk
 ·refine zeX I G m0 (by lia) ne (by lia) v (by lia) fun d m D e S l2 pn hm=>?_
  wp_walk
  exact h d l m D ne (by lia) v (by lia) (by lia) pn (by lia)
 ·have e0:cutD (nH gM l) none (some (-1))=nD (l.take (l.length - 1)):=by
   rw[zn_,aZ,<- sR];rfl
  rw[e0]at hc ⊢;have C:∀s∈l.take (l.length - 1),s∈l:=fun s y=>cP y
  refine zeX I G m0 (by lia) (fun z=>by rw[z]at hc;cases hc) (by simp;lia) (fun s y=>v s (C s y)) (by lia) fun d m D e S l2 pn hm=>?_
  wp_walk
  exact h d l m D ne (by lia) v (by lia) (by lia) (fun p L=>C _ (pn p L)) (by lia)
def zc6:GD:=fun ts n R=>∃lo hi:Int,ts=[.int lo,.int hi]/\0<=lo/\lo<=hi/\hi<=2 ^ 64/\∀bs,JE lo hi bs->R (.list (pD bs)) n
theorem zdh{lo hi:Int}{n:Nat}{R:qN}(v:0<=lo)(u:lo<=hi)(l2:hi<=2 ^ 64)(h:∀bs,JE lo hi bs->R (.list (pD bs)) n):zc6 [.int lo,.int hi] n R:=⟨lo,hi,rfl,v,u,l2,h⟩
theorem zkm{k:Nat}:(2:Int)*2 ^ (k:Int).toNat=2 ^ (k+1):=by rw[dU,dz,eF]
def zcT(Z:ZZ):Prop:=FQ Z "_law_pieces" (top 68) ["_law_low","_law_high"] 1 (spD Z.K 2 zc6)
theorem ze4(D:Dq Z.K Z.mg "_law_pieces" (top 68) ["_law_low","_law_high"]) (T:Txt Z.mg):zcT Z:=by
 refine' okQ D (fnS (N:=["_law_low","_law_high","_law_found","_law_height"]) (by decide +kernel)) rfl fun f cdv A outer s H E U=>⟨_,(Jb (QA (i:=2) (ndB rfl) rfl (cX rfl) (JI Ja)) (Jb (ZO cc (Jl (Qa U) J1 (dlv 0) (dlv 1) (Jh _)) (Jb (dsv 3 (ndB rfl) Jg) (Jb (ZO cc (Qc (Q6 (Jl (Qf U) Qd (dl (Va (dlv 0) (dl (JK dli (dlv 3))))) dli (Jh _)) (Us (Jl J3 JZ (dl (JC (dlv 0) (dl (JK dli (dlv 3))))) (dlv 1) (Jh _))))) (Jc (dsv 3 (ndB rfl) (JC (dlv 3) dli)))) (Jb (Qn 2 (Jm (dbv 0 (dbv 3 Ja)))) (Jc (dsv 0 (ndB rfl) (JC (dlv 0) (dl (JK dli (dlv 3)))))))))) (QM 2 (Jc (Ji (Jj 2)))))),?_⟩
 intro ts n R hl h;obtain⟨lo,hi,rfl,l0,Y,l2,h⟩:=h;obtain⟨all,A⟩:=zhV _ lo hi (aC _) Y;have al:=A.len l0 l2;have KC:∀k:Nat,(2:Int) ^ k<=2 ^ 64->k<=64:=fun k hk=>by
  rcases cg 64 k with z|z
  ·have:=Uv (show 65<=k by lia)
   have e:(2:Int) ^ 65=2*2 ^ 64:=by decide
   lia
  ·exact z
 wp_walk
 refine Vy (fun m C I=>I=n/\∃(bs rest:qB) (x:Int) (L:Option Cell),C=[some (.val (.int x)),some (.val (.int hi)),some (.own (pD bs)),L]/\all=bs++rest/\JE x hi rest/\lo<=x/\m=rest.length) (m:=all.length) ⟨rfl,[],all,lo,_,rfl,rfl,A,bQ _,rfl⟩ ?_
 rintro m C I NX RT BK ⟨rfl,bs,rest,x,L,rfl,u,S,lb,rfl⟩ hN hR hB
 wp_walk
 ·cases rest with
  | nil=>have:x=hi:=S;lia
  | cons b r =>
   obtain⟨s1,s2,s3,s4,s5⟩:=S;refine Vy (fun m C G=>G=I/\∃k:Nat,C=[some (.val (.int x)),some (.val (.int hi)),some (.own (pD bs)),some (.val (.int (k:Int)))]/\x % 2 ^ k=0/\(2:Int) ^ k<=hi - x/\m=65 - k) (m:=65) ⟨rfl,0,rfl,by simp,by simp;lia,rfl⟩ ?_
   rintro m2 ρ2 n2 NX2 RT2 J ⟨rfl,k,rfl,k1,k2,rfl⟩ hN2 hR2 hB2;have k64:=KC k (by lia)
   have pk:=Qm (k+1);have fin:¬(x % 2 ^ (k+1)=0/\(2:Int) ^ (k+1)<=hi - x)->J [some (.val (.int x)),some (.val (.int hi)),some (.own (pD bs)),some (.val (.int (k:Int)))] n2:=fun hn=>by
    have eg:b.2.toNat=k:=s4.uniq ⟨k1,k2,hn⟩;have eb:b=(x,(k:Int)):=iF s2 (by show b.2=(k:Int);lia)
    refine hB2 _ _ ?_
    wp_walk
    ·rw[Jv];have:=congrArg dQ u;rw[aT]at this;lia
    ·exact cpow (by lia) (by lia)
    ·refine hN r.length _ _ (by simp) ⟨rfl,bs++[b],r,x+1*2 ^ (k:Int).toNat,some (.val (.int (k:Int))),by rw[eb,<- UR],by rw[u];simp,?_,?_,rfl⟩
     ·rw[QF,dU];rw[eg]at s5;exact s5
     ·have:=Qm (k:Int).toNat;rw[QF];lia
   wp_walk
   ·exact⟨by lia,by lia,by decide⟩
   ·rw[zkm];exact pk
   ·exact⟨by lia,by lia,by decide⟩
   all_goals simp only[zkm]at *
   ·rename_i y;exact hN2 (65 - (k+1)) _ _ (by lia) ⟨rfl,k+1,rfl,y,by lia,rfl⟩
   ·exact fin fun z=>hc (by lia)
   ·exact fin fun z=>hc z.1
 ·have e:x=hi:=by have:=S.le;lia
  cases rest with
  | cons b r=>have:=S.1;lia
  | nil =>
   refine hB _ _ ?_
   wp_walk
   rw[bK]at u;rw[<- u];exact h _ A
def msg(c:Str):Str:=if c=aa "NoDeed" then aa "no deed" else if c=aa "NotTheirs" then aa "not theirs" else aa "no room"
def zcw:GD:=fun ts n R=>∃a b,ts=[a,b]/\UX [a,b] n (fun _ m=>R .none m) fun c m=>c∈EXS/\R (.str (msg c)) m
theorem zfa{a b:af}{n:Nat}{R:qN}(h:UX [a,b] n (fun _ m=>R .none m) fun c m=>c∈EXS/\R (.str (msg c)) m):zcw [a,b] n R:=⟨a,b,rfl,h⟩
def zct(Z:ZZ):Prop:=FQ Z "_law_refused" (top 69) ["_law_deal_here","_law_deed"] 8 (spD Z.K 2 zcw)
theorem zer(D:Dq Z.K Z.mg "_law_refused" (top 69) ["_law_deal_here","_law_deed"]) (J:zkH Z) (x:QO Z.K Z.mg EXS EYS "DealError") (T:Txt Z.mg):zct Z:=by
 refine' okQ D (fnS (N:=["_law_deal_here","_law_deed","_law_caught","e","_law_marks"]) (by decide +kernel)) rfl fun f L A outer s H E I=>⟨_,(Jb (dsv 2 (ndB rfl) UU) (Jb (ztO (i:=2) (ie:=3) J x.under I (ndB rfl) (dbv 0 (dbv 1 Ja))) (Jb (Jt (Jl zsc ztz (dlv 2) (dl UU) (Jh _)) (Jc (Ji UU)) Jy) (Jb (dsv 4 (ndB rfl) (Jr (JI (dbc (zl9 x (by decide +kernel) T.isi (Jj 2) Jq) (dbc (zl9 x (by decide +kernel) T.isi (Jj 2) Jq) (dbc (zl9 x (by decide +kernel) T.isi (Jj 2) Jq) Ja)))))) (Jb (Jt (Qc (QS (Jl (UQ I) UH (dl (zn9 (dlv 4))) dli (Jh _)) (QS (Qe (dl (zqq x (by decide +kernel) (by decide +kernel) T.isi (Jj 2) Jq))) (Um (QB (Qe (dl (ztY x T.isi T.vae (Jj 2) Jq)))))))) (Jc (Ji Qt)) Jy) (Jc (Ji (Jd (dl (Jr (JI (dbc Qt (dbc Qt (dbc Qt Ja)))))) (dl (zl_ (dlv 4))))))))))),?_⟩
 intro ts n R S h;obtain⟨a,b,rfl,h⟩:=h
 wp_walk
 ·rfl
 wp_walk
 refine zle h (fun t m z=>?_) fun c m z=>⟨z.1,fun C G=>?_⟩
 ·wp_walk
  ·exact z
  ·exact absurd hc (by simp[isNone])
 ·obtain⟨u,z⟩:=z;have e:c=aa "NoDeed" \/ c=aa "NotTheirs" \/ c=aa "NoRoom":=by
   simpa[EXS] using u
  have y:(decide (c=aa "NoLine")||decide (c=aa "NoText"))=false:=by rcases e with rfl|rfl|rfl <;> decide +kernel
  change SetK 2 (some (.val (EXC C))) _ _ _
  wp_walk using isE u G ?_
  ·exact absurd hc (by simp[isNone,EXC])
  refine⟨[_,_,_],rfl,?_⟩
  wp_walk using isE u G ?_
  ·rw[y]at hc;cases hc
  ·change dVar 4 _ _ _
   wp_walk
   refine⟨[_,_,_],rfl,?_,(by simp),?_⟩
   ·rcases e with rfl|rfl|rfl <;> decide +kernel
   ·rcases e with rfl|rfl|rfl
    ·rw[show p9 true [decide (aa "NoDeed" = aa "NoDeed"),decide (aa "NoDeed" = aa "NotTheirs"),decide (aa "NoDeed" = aa "NoRoom")]=0 from by decide +kernel]
     wp_walk
     exact z
    ·rw[show p9 true [decide (aa "NotTheirs" = aa "NoDeed"),decide (aa "NotTheirs" = aa "NotTheirs"),decide (aa "NotTheirs" = aa "NoRoom")]=1 from by decide +kernel]
     wp_walk
     exact z
    ·rw[show p9 true [decide (aa "NoRoom" = aa "NoDeed"),decide (aa "NoRoom" = aa "NotTheirs"),decide (aa "NoRoom" = aa "NoRoom")]=2 from by decide +kernel]
     wp_walk
     exact z
  ·exfalso;refine hc ?_;rcases e with rfl|rfl|rfl <;> decide +kernel
def goD:Option NP->af
 | none=>.none
 | some p=>.tuple [prD p.1,.str p.2]
def outO(os:List NP)(g:Option NP)(cs:List NP):List NP:=(os.filter fun p=>decide (some p≠g))++cs
theorem ztC{p:NP}{g:Option NP}:(iS [prD p.1,.str p.2]).eqv (goD g)=decide (some p=g):=by
 cases g with
 | none=>simp[goD,cM]
 | some q =>
  rw[fG,decide_eq_true_eq];obtain⟨⟨a,b⟩,c⟩:=p;obtain⟨⟨u,l⟩,x⟩:=q;simp[goD,prD,cM,e8,uf,and_assoc]
theorem ztB{g:Option NP}(h:∀p,g=some p->IsNm p.2):Okd (goD g):=by
 cases g with
 | none=>exact ZK
 | some q=>exact zk2 (h q rfl)
theorem zsO{p:NP}{g:Option NP}{R:af->Prop}(x:IsNm p.2)(y:∀p,g=some p->IsNm p.2)(h:R (.bool (decide (some p≠g)))):oNe (.tuple [prD p.1,.str p.2]) (goD g) R:=by
 have e:(!(iS [prD p.1,.str p.2]).eqv (goD g))=decide (some p≠g):=by rw[ztC];simp
 have o:=ztB y;cases g with
 | none=>exact⟨zk2 x,o,by rw[e];exact h⟩
 | some q=>exact⟨zk2 x,o,by rw[e];exact h⟩
def zcH:GD:=fun ts n R=>∃(d:Deal) (g:Option NP) (cs:List NP),ts=[dlD d,goD g,.list (oD cs)]/\d.2.1.length+cs.length<100000/\(∀p∈d.2.1,IsNm p.2)/\(∀p,g=some p->IsNm p.2)/\∀rs:List NP,rs.Perm (outO d.2.1 g cs)->rs.Pairwise (fun a b=>npRk rs a<=npRk rs b)->R (dlD (d.1,rs,d.2.2)) n
theorem ziw{d:Deal}(g:Option NP){cs:List NP}{n:Nat}{R:qN}(l:d.2.1.length+cs.length<100000)(v:∀p∈d.2.1,IsNm p.2)(u:∀p,g=some p->IsNm p.2)(h:∀rs:List NP,rs.Perm (outO d.2.1 g cs)->rs.Pairwise (fun a b=>npRk rs a<=npRk rs b)->R (dlD (d.1,rs,d.2.2)) n):zcH [dlD d,goD g,.list (oD cs)] n R:=⟨d,g,cs,rfl,l,v,u,h⟩
def zeg(Z:ZZ):Prop:=FQ Z "_law_outs" (top 70) ["_law_deal_here","_law_gone","_law_come"] 1 (spD Z.K 3 zcH)
theorem zgP(D:Dq Z.K Z.mg "_law_outs" (top 70) ["_law_deal_here","_law_gone","_law_come"]) (T:Txt Z.mg):zeg Z:=by
 refine' okQ D (fnS (N:=["_law_deal_here","_law_gone","_law_come"]) (by decide +kernel)) rfl fun f L A outer s H E C=>⟨_,(Jc (Ji (Jm (dbc (Jd (dlv 0) dli) (dbc (QZ Uf Q8 T.tup QN (Jk (dl (Jr (zeN C T.srt (dl (Jr (UV (dl (Jr (dnf ["_law_pair"] [1] (dil (QJ (Jd (dlv 0) dli))) (fun _ _ _ _=>(dgv 0 (ndB rfl))) (fun _ _ _ _=>(Yo (Jl (UQ C) UH (dlv 0) (dlv 1) (Jh _)))) (fun _ _ _ _=>(Jj 0))))) (dlv 2)))) UZ))) Jp U0)) (dbc (Jd (dlv 0) dli) Ja)))))),?_⟩
 intro ts n R U h;obtain⟨⟨bits,os,G⟩,g,cs,rfl,l,S,J,h⟩:=h;have l:os.length+cs.length<100000:=l;have e:dlD (bits,os,G)=.tuple [.int bits,.tuple (oD os),.tuple (oD G)]:=rfl;rw[e]
 wp_walk
 refine Yu (cs:=os) (D:=fun p=>.tuple [prD p.1,.str p.2]) (fun p=>decide (some p≠g)) (fun p=>.tuple [prD p.1,.str p.2]) (by lia) ?_ ?_
 ·intro p I K2 Y v x
  wp_walk using zsO (S p I) J ?_
  ·exact v (by simpa using hc)
  ·exact x (by simpa using hc)
 ·have lf:(os.filter fun p=>decide (some p≠g)).length<=os.length:=dH ..
  wp_walk
  ·simp only[aZ,oD];lia
  refine⟨outO os g cs,?_,?_,fun y pm pw=>?_⟩
  ·simp only[oD,outO,eu]
  ·simp only[outO,aT];lia
  ·wp_walk
   exact h y pm (pw.imp fun {a b} h=>by unfold npRk at h ⊢;rw[(pm.filter _).length_eq,(pm.filter _).length_eq];exact h)
theorem ZA{bits l r:Int}{b:Int×Int}(B:IsBk bits b.1 b.2)(x:0<=l)(y:l<=b.2)(C:0<=r)(G:r<2 ^ (b.2 - l).toNat):IsBk bits (b.1+r*2 ^ l.toNat) l:=by
 obtain⟨I,g1,k,k0,e,k1⟩:=B;have u:(2:Int) ^ b.2.toNat=2 ^ (b.2 - l).toNat*2 ^ l.toNat:=by rw[<- fV];congr 1;lia
 have v:(2:Int) ^ (bits - l).toNat=2 ^ (bits - b.2).toNat*2 ^ (b.2 - l).toNat:=by rw[<- fV];congr 1;lia
 have p:(0:Int)<2 ^ (b.2 - l).toNat:=vL (by decide)
 refine⟨x,by lia,k*2 ^ (b.2 - l).toNat+r,?_,?_,?_⟩
 ·have:=pP k0 (cO p);lia
 ·rw[e,u,eV,fK]
 ·rw[v];have:(k+1)*2 ^ (b.2 - l).toNat<=2 ^ (bits - b.2).toNat*2 ^ (b.2 - l).toNat:=dJ (by lia) (cO p)
  rw[eV,bO]at this;lia
def zeG:GD:=fun ts n R=>∃(bits:Int) (b:Int×Int),ts=[HAND,.tuple [.int b.1,.int b.2]]/\1<=bits/\bits<=64/\IsBk bits b.1 b.2/\n<=1000000000000 - 10/\∀c:Int×Int,IsBk bits c.1 c.2->R (.tuple [.int c.1,.int c.2]) (n+2)
theorem ziv{bits:Int}{b:Int×Int}{n:Nat}{R:qN}(y:1<=bits)(v:bits<=64)(B:IsBk bits b.1 b.2)(x:n<=1000000000000 - 10)(h:∀c:Int×Int,IsBk bits c.1 c.2->R (.tuple [.int c.1,.int c.2]) (n+2)):zeG [HAND,.tuple [.int b.1,.int b.2]] n R:=⟨bits,b,rfl,y,v,B,x,h⟩
def zef(Z:ZZ):Prop:=FQ Z "_law_part" (top 71) ["_law_hand_here","_law_block_here"] 2 (spD Z.K 2 zeG)
theorem zgO(D:Dq Z.K Z.mg "_law_part" (top 71) ["_law_hand_here","_law_block_here"]) (x:UE Z) (T:Txt Z.mg):zef Z:=by
 refine' okQ D (fnS (N:=["_law_hand_here","_law_block_here","_law_begin","_law_height","_law_low"]) (by decide +kernel)) rfl fun f I A outer s H E y=>⟨_,(Jb (QU (Jj 1) (JT rfl (Jo (dgv 2 (ndB rfl)) (Jo (dgv 3 (ndB rfl)) JR)))) (Jb (dsv 4 (ndB rfl) (Je x y (dbv 0 (dbc (JC (dlv 3) dli) Ja)))) (Jc (Ji (Jm (dbc (JC (dlv 2) (dl (JK (dl (Je x y (dbv 0 (dbc (JK dli (dl (QI (dlv 3) (dlv 4)))) Ja)))) (dlv 4)))) (dbv 4 Ja))))))),?_⟩
 intro ts n R J h;obtain⟨bits,b,rfl,U,L,B,S,h⟩:=h;have Y:=B.1;have g1:=B.2.1
 wp_walk using Q0 ?_ ?_ ?_ (fun r G v=>?_)
 all_goals first|lia|exact cpow (by lia) (by lia)|skip
 ·rw[bO];exact vL (by decide)
 ·rw[bO];have:=ZS (k:=(b.2 - r).toNat) (by lia)
  lia
 ·rename_i l u C;have:=ZS (k:=(b.2 - l).toNat) (by lia)
  exact⟨u,by lia,by lia⟩
 ·rename_i l u C;rw[bO]at v;exact h (_,_) (ZA B u (by lia) G v)
theorem zqB{lo m1 m2 hi:Int}{l bs:qB}(A:JE lo m1 l)(B:JE m2 hi bs)(J:m1<m2):CanP (fun x=>(lo<=x/\x<hi)/\¬(m1<=x/\x<m2)) (l++bs):=by
 have N:=A.le;have L:=B.le;have run:∀rs:List L2.Run,(∀r∈rs,r.1<r.2)->rs.Pairwise (fun a b=>a.2<b.1)->(∀x,mR x rs↔((lo<=x/\x<hi)/\¬(m1<=x/\x<m2)))->PatS rs (l++bs)->CanP (fun x=>(lo<=x/\x<hi)/\¬(m1<=x/\x<m2)) (l++bs):=fun rs G C I y=>⟨rs,⟨G,C⟩,I,y⟩
 have u:lo=m1->l=[]:=fun e=>A.uniq (show JE lo m1 [] from e)
 have v:m2=hi->bs=[]:=fun e=>B.uniq (show JE m2 hi [] from e)
 by_cases a:lo<m1
 ·by_cases b:m2<hi
  ·refine run [(lo,m1),(m2,hi)] (by simp[a,b]) (by simp[J]) (fun x=>?_) ⟨l,bs,rfl,A,bs,[],by simp,B,rfl⟩
   simp only[mR,aA,aQ,or_false,exists_eq_or_imp,exists_eq_left];lia
  ·rw[v (by lia)]
   refine⟨[(lo,m1)],⟨by simp[a],by simp⟩,fun x=>?_,l,[],by simp,A,rfl⟩
   simp only[mR,aA,aQ,or_false,exists_eq_left];lia
 ·rw[u (by lia)]
  by_cases b:m2<hi
  ·refine⟨[(m2,hi)],⟨by simp[b],by simp⟩,fun x=>?_,bs,[],by simp,B,rfl⟩
   simp only[mR,aA,aQ,or_false,exists_eq_left];lia
  ·rw[v (by lia)]
   exact CanP.nil fun x z=>by lia
theorem zqE{d:Deal}{nm:Str}{b:Int×Int}{n:Nat}{R:qN}{X:Str->Nat->Prop}(D:Dl d)(v:IsNm nm)(B:IsBk d.1 b.1 b.2)(l:d.2.1.length<=500)(y:(∀p∈ofName d.2.1 (.str nm),¬(p.1<=b.1/\eB b<=eB p))->X (aa "NotTheirs") n)
  (k:∀p∈ofName d.2.1 (.str nm),p.1<=b.1->eB b<=eB p->∀cs,CanP (fun x=>mB x [p]/\¬mB x [b]) cs->cs.length<=390->∀rs:List NP,rs.Perm (exO d.2.1 nm [p] cs)->rs.Pairwise (fun a b=>npRk rs a<=npRk rs b)->R (.tuple [dlD (d.1,rs,d.2.2),.tuple (pD cs)]) n):UX [dlD d,.tuple [.str (aa "give"),.str nm,.tuple [.int b.1,.int b.2]]] n R X :=
 ⟨d,nm,b,rfl,D,v,B,d,_,nm,b,rfl,D,v,B,l,y,k⟩
theorem zeu{os:List NP}{nm:Str}{q:Int×Int}(h:q∈ofName os (.str nm)):∃p∈os,p.1=q/\p.2=nm:=by
 obtain⟨p,l,rfl⟩:=aS.mp h;obtain⟨v,u⟩:=cz.mp l;refine⟨p,v,rfl,?_⟩;simpa[who] using u
theorem zh6{os:List NP}{nm:Str}{p:NP}(h:p∈os)(e:p.2=nm):p.1∈ofName os (.str nm):=aS.mpr ⟨p,cz.mpr ⟨h,by simp[who,e]⟩,rfl⟩
theorem zou{bits x:Int}{os:List NP}(S:Shr bits os){p q:NP}(u:p∈os)(v:q∈os)(y:p.1.1<=x)(p2:x<eB p.1)(G:q.1.1<=x)(C:x<eB q.1):p=q:=by
 have P:=S.1;obtain⟨i,hi,rfl⟩:=bL u;obtain⟨j,l,rfl⟩:=bL v;have pw:=bp.mp P.2;rcases eX i j with z|z|z
 ·have:=pw i j (by simpa using hi) (by simpa using l) z;simp only[oB]at this;lia
 ·subst z;rfl
 ·have:=pw j i (by simpa using l) (by simpa using hi) z;simp only[oB]at this;lia
theorem ztM{bits:Int}{os:List NP}(S:Shr bits os){p:NP}(u:p∈os){cs:BL}:exO os p.2 [p.1] cs=outO os (some p) (cs.map fun b=>(b,p.2)):=by
 unfold exO outO;congr 1;refine List.filter_congr fun q v=>?_
 rw[decide_eq_decide];have l:=UW p.1;constructor
 ·intro h e;cases e;exact h (by simp)
 ·intro h e;have e:q.1=p.1:=by simpa using e
  exact h (by rw[zou S v u (x:=p.1.1) (by rw[e];lia) (by rw[e];exact l) (by lia) l])
def Wa:GD:=fun ts n R=>∃(d:Deal) (nm:Str) (b:Int×Int),ts=[dlD d,.str nm,.tuple [.int b.1,.int b.2]]/\Dl d/\IsNm nm/\IsBk d.1 b.1 b.2/\d.2.1.length<=40/\d.2.2.length<=40/\R (.bool true) n
theorem zhI{d:Deal}{nm:Str}{b:Int×Int}{n:Nat}{R:qN}(D:Dl d)(x:IsNm nm)(B:IsBk d.1 b.1 b.2)(v:d.2.1.length<=40)(l2:d.2.2.length<=40)(k:R (.bool true) n):Wa [dlD d,.str nm,.tuple [.int b.1,.int b.2]] n R:=⟨d,nm,b,rfl,D,x,B,v,l2,k⟩
def zdD(Z:ZZ):Prop:=FQ Z "_law_right" (top 72) ["_law_deal_here","_law_name","_law_block_here"] 9 (spD Z.K 3 Wa)
theorem zfO(D:Dq Z.K Z.mg "_law_right" (top 72) ["_law_deal_here","_law_name","_law_block_here"]) (ID:zkH Z) (Il:zeg Z) (HQ:zct Z) (HN:zcT Z) (T:Txt Z.mg):zdD Z:=by
 refine' okQ D (fnS (N:=["_law_deal_here","_law_name","_law_block_here","_law_begin","_law_height","_law_end","_law_held","_law_low","_law_high","_law_rest","_law_behind","_law_told","_law_due"]) (by decide +kernel)) rfl fun f cdv A outer s H E v=>⟨_,(Jb (QU (Jj 2) (JT rfl (Jo (dgv 3 (ndB rfl)) (Jo (dgv 4 (ndB rfl)) JR)))) (Jb (dsv 5 (ndB rfl) (JC (dlv 3) (dl (JK dli (dlv 4))))) (Jb (VF (ZC (i:=6) (ndB rfl) rfl (cX rfl) (own:=["_law_one","_law_owner"]) (capt:=[1,3,5]) rfl (JG.of rfl) (dil (QJ (Jd (dlv 0) dli))) (fun _ _ _ _=>(JT rfl (Jo (dgv 0 (ndB rfl)) (Jo (dgv 1 (ndB rfl)) JR)))) (by decide) (fun _ _ _ _=>(Yo (Qc (Q6 (Jl (Qf v) Qd (dlv 1) (dlv 2) (Jh _)) (Q6 (Jl J3 JZ (dl (Jd (dlv 0) dli)) (dlv 3) (Jh _)) (Us (Jl J3 JZ (dlv 4) (dl (JC (dl (Jd (dlv 0) dli)) (dl (JK dli (dl (Jd (dlv 0) dli)))))) (Jh _)))))))) (fun _ _ _ _=>(Jj 0)))) (Jb (Jt (Jl (Qf v) Qd (dlv 6) (dl (Jr (JI Ja))) (Jh _)) (Jc (Ji (QT (Qf v) Qd (dl (Je HQ v (dbv 0 (dbc (Jm (dbc Qt (dbv 1 (dbv 2 Ja)))) Ja)))) (dl Qt) (Jh _)))) Jy) (Jb (ztR (i:=7) (j:=8) rfl (ndB rfl) rfl rfl (by decide) rfl rfl (dbc (Jd (dl (Jd (dlv 6) dli)) dli) (dbc (JC (dl (Jd (dl (Jd (dlv 6) dli)) dli)) (dl (JK dli (dl (Jd (dl (Jd (dlv 6) dli)) dli))))) Ja))) (Jb (dsv 9 (ndB rfl) (QZ Uf Q8 T.tup QN (Jk (dl (Jr (UV (dl (Je HN v (dbv 7 (dbv 3 Ja)))) (dl (Je HN v (dbv 5 (dbv 8 Ja))))))) Jp UZ))) (Jb (QU (Je (FQX.nox ID) v (dbv 0 (dbc (Jm (dbc Qt (dbv 1 (dbv 2 Ja)))) Ja))) (JT rfl (Jo (dgv 10 (ndB rfl)) (Jo (dgv 11 (ndB rfl)) JR)))) (Jb (dsv 12 (ndB rfl) (Je Il v (dbv 0 (dbc (Jm (dbc (Jd (dlv 6) dli) (dbv 1 Ja))) (dbc (Jr (dnc ["_law_one"] [1] (dil (QJ (Jj 9))) (fun _ _ _ _=>(dgv 0 (ndB rfl))) (fun _ _ _ _=>(Jm (dbv 0 (dbv 1 Ja)))))) Ja))))) (Jc (Ji (Yk (QT (Qf v) Qd (dl (Jx (V2 v) VG T.rep V1 (Jk (dlv 11) Jp Jq))) (dl (Jx (V2 v) VG T.rep V1 (Jk (dlv 9) Jp Jq))) (Jh _)) (Q1 (QT (Qf v) Qd (dl (Jx (V2 v) VG T.rep V1 (Jk (dlv 10) Jp Jq))) (dl (Jx (V2 v) VG T.rep V1 (Jk (dlv 12) Jp Jq))) (Jh _)))))))))))))),?_⟩
 intro ts n R hl h;obtain⟨⟨bits,os,G⟩,nm,b,rfl,D,hn,B,l1,l2,k⟩:=h;have b0:1<=bits:=D.1;have b1:bits<=64:=D.2.1;have S1:Shr bits os:=D.2.2.1;have l1:os.length<=40:=l1;have l2:G.length<=40:=l2;have B:IsBk bits b.1 b.2:=B;have g0:=B.1;have g1:=B.2.1;have dg:∀{n:Nat} {R:qN} {X:Str->Nat->Prop},((∀p∈ofName os (.str nm),¬(p.1<=b.1/\eB b<=eB p))->X (aa "NotTheirs") n)->(∀p∈ofName os (.str nm),p.1<=b.1->eB b<=eB p->∀cs,CanP (fun x=>mB x [p]/\¬mB x [b]) cs->cs.length<=390->∀rs:List NP,rs.Perm (exO os nm [p] cs)->rs.Pairwise (fun a b=>npRk rs a<=npRk rs b)->R (.tuple [dlD (bits,rs,G),.tuple (pD cs)]) n)->UX [.tuple [.int bits,.tuple (oD os),.tuple (oD G)],.tuple [.str (aa "give"),.str nm,.tuple [.int b.1,.int b.2]]] n R X:=fun {n R X} z1 z2=>zqE (d:=(bits,os,G)) D hn B (by show os.length<=500;lia) z1 z2
 rw[show dlD (bits,os,G)=.tuple [.int bits,.tuple (oD os),.tuple (oD G)] from rfl]
 wp_walk
 ·exact cpow (by lia) (by lia)
 refine Yu (cs:=os) (D:=fun p=>.tuple [prD p.1,.str p.2]) (fun p=>decide (p.2=nm/\p.1.1<=b.1/\eB b<=eB p.1)) (fun p=>prD p.1) (by lia) ?_ ?_
 ·intro p y K2 X2 S I;have L:=S1.1.1 _ (aS.mpr ⟨p,y,rfl⟩);have:=L.1;have:=L.2.1;unfold eB at S I
  wp_walk
  ·exact cpow (by lia) (by lia)
  all_goals first
   | exact S (by rw[bO,bO]at hc;exact decide_eq_true ⟨by assumption,by assumption,hc⟩)
   | exact I (decide_eq_false fun z=>hc (by rw[bO,bO];exact z.2.2))
   | exact I (decide_eq_false fun z=>hc z.2.1)
   | exact I (decide_eq_false fun z=>hc z.1)
 ·cases e:os.filter (fun p=>decide (p.2=nm/\p.1.1<=b.1/\eB b<=eB p.1)) with
  | nil =>
   rw[fC]
   wp_walk
   ·exact Yp
   ·exact Yp
   ·refine zfa (dg (fun no=>⟨by decide +kernel,?_⟩) fun q U h1 h2=>?_)
    ·rw[show msg (aa "NotTheirs")=aa "not theirs" from by decide +kernel]
     wp_walk
     simpa using k
    ·obtain⟨p,y,rfl,e2⟩:=zeu U;have z:p∈os.filter (fun p=>decide (p.2=nm/\p.1.1<=b.1/\eB b<=eB p.1)):=cz.mpr ⟨y,decide_eq_true ⟨e2,h1,h2⟩⟩
     rw[e]at z;cases z
   ·exact absurd hc (by simp[cM,e8])
  | cons p r =>
   have Y:Okd (.list (prD p.1::r.map fun p=>prD p.1)):=by
    have z:=zot (bs:=p.1::r.map (·.1));unfold pD at z;rw[bZ,cZ]at z;exact z
   obtain⟨y,cp⟩:=cz.mp (show p∈os.filter _ by rw[e];exact .head _)
   obtain⟨pn,p1,p2⟩:=of_decide_eq_true cp;clear e cp;subst pn;have L:=S1.1.1 _ (aS.mpr ⟨p,y,rfl⟩);have h0:=L.1;have h1:=L.2.1;have q2:=L.bounds (by lia)
   have q3:=B.bounds (by lia)
   have p64:=ZS (k:=bits.toNat) (by lia)
   have eb:=UW b;have ebd:eB b=b.1+1*2 ^ b.2.toNat:=by unfold eB;rw[bO]
   have epd:eB p.1=p.1.1+1*2 ^ p.1.2.toNat:=by unfold eB;rw[bO]
   rw[bZ];generalize (r.map fun p=>prD p.1)=rr at Y
   wp_walk
   ·exact Y
   ·exact Yp
   ·exact absurd hc (by simp[cM,e8])
   ·exact cpow (by lia) (by lia)
   rw[<- ebd,<- epd];refine zdh (by lia) p1 (by lia) fun J A=>?_
   have la:=A.len (by lia) (by lia)
   wp_walk
   refine zdh (by lia) p2 (by lia) fun bs Bs=>?_
   have lb:=Bs.len (by lia) (by lia)
   wp_walk
   ·rw[Jv,Jv];lia
   rw[Vx];refine dg (fun no=>absurd ⟨p1,p2⟩ (no p.1 (zh6 y rfl))) fun q U h1 h2 cs C lc rs pm pw=>?_
   obtain⟨p',hp',rfl,_⟩:=zeu U;cases zou S1 hp' y (x:=b.1) h1 (by lia) p1 (by lia)
   cases C.uniq (zqB A Bs eb) fun x=>by simp[mB]
   rw[ztM S1 y]at pm;have BA:=A.blk (bits:=bits) (by lia) (by lia) (by lia)
   have BB:=Bs.blk (bits:=bits) (by lia) (by lia) (by lia)
   have BC:Bks bits (J++bs):=fun c hc=>(aw.mp hc).elim (BA c) (BB c)
   have lab:(J++bs).length<=260:=by rw[aT];lia
   have lr:rs.length<=300:=by
    have z:=pm.length_eq;unfold outO at z;rw[aT,aZ]at z;have:=dH (fun q=>decide (some q≠some p)) os
    lia
   have sd:Shd (dlD (bits,rs,G)):=zre (a:=300) (b:=40) (by decide) b0 b1 (fun q U=>by
    rcases aw.mp (pm.mem_iff.mp U) with z|z
    ·exact D.o q (cz.mp z).1
    ·obtain⟨c,hc,rfl⟩:=aS.mp z;exact zpG b0 b1 (BC c hc) hn) lr D.k l2
   have co:∀{n:Nat} {R:qN},R (dlD (bits,rs,G)) n->zcH [.tuple [.int bits,.tuple (oD os),.tuple (oD G)],.tuple [.tuple [.int p.1.1,.int p.1.2],.str p.2],.list ((J++bs).map fun b=>.tuple [prD b,.str p.2])] n R:=fun {n R} z=>by
    have e:=ziw (d:=(bits,os,G)) (some p) (cs:=(J++bs).map fun b=>(b,p.2)) (n:=n) (R:=R) (by rw[aZ];show os.length+_<_;lia) (fun p y=>(D.o p y).2.2) (fun q z=>by cases z;exact hn) fun rs' pm' pw'=>by
     have e:=zpA pm pm' pw pw';subst e;exact z
    rw[show oD ((J++bs).map fun b=>(b,p.2))=(J++bs).map fun b=>.tuple [prD b,.str p.2] from by unfold oD;rw[cZ];rfl]at e
    exact e
   wp_walk
   refine Ut (cs:=J++bs) (D:=prD) (fun b=>.tuple [prD b,.str p.2]) (by lia) ?_ ?_
   ·intro c hc K4 X4 hK4
    wp_walk
    exact hK4
   ·wp_walk using co ?_
    ·exact zra (by lia) b1 BC (by lia)
    ·exact zra (by lia) b1 BC (by lia)
    ·exact sd
    ·exact sd
    ·rw[decide_eq_true rfl];exact k
    ·exact absurd rfl hc
theorem zmf{ts:qD}{k:Nat}:cutD ts none (some (k:Int))=ts.take k:=by
 unfold cutD;rw[HT.zdR,HT.zhW];simp[lO]
theorem Vw{a b:List NP}:oD (a++b)=oD a++oD b:=by unfold oD;exact eu
theorem zk9{a:List NP}{k:Nat}:(oD a).take k=oD (a.take k):=by unfold oD;rw[sR]
theorem zt6{bits:Int}{b:Int×Int}(B:IsBk bits b.1 b.2):IsBk bits b.1 0/\IsBk bits (b.1+1*2 ^ b.2.toNat - 1) 0/\IsBk bits b.1 (if b.2 - 1 > 0 then b.2 - 1 else 0)/\IsBk bits (b.1+1*2 ^ b.2.toNat / 2) (if b.2 - 1 > 0 then b.2 - 1 else 0):=by
 have G:=B.1;have pp:=Qm b.2.toNat;have x:(2:Int) ^ (0:Int).toNat=1:=rfl;have v:(b.2 - 0).toNat=b.2.toNat:=by lia
 have z:=ZA B (l:=0) (r:=0) (by lia) (by lia) (by lia) (by rw[v];exact pp)
 have u:=ZA B (l:=0) (r:=2 ^ b.2.toNat - 1) (by lia) (by lia) (by lia) (by rw[v];lia)
 rw[x,oE]at z u;rw[nV]at z;refine⟨z,?_,?_,?_⟩
 ·rw[bO,show b.1+2 ^ b.2.toNat - 1=b.1+(2 ^ b.2.toNat - 1) from by lia];exact u
 ·split
  ·have y:=ZA B (l:=b.2 - 1) (r:=0) (by lia) (by lia) (by lia) (Qm _)
   rw[Int.zero_mul,nV]at y;exact y
  ·exact z
 ·rw[bO]
  by_cases h:b.2=0
  ·rw[h];simp only[show(2:Int) ^ (0:Int).toNat / 2=0 from rfl,nV]
   exact z
  ·have y:=ZA B (l:=b.2 - 1) (r:=1) (by lia) (by lia) (by lia) (by rw[show(b.2 - (b.2 - 1)).toNat=1 from by lia];decide)
   rw[bO]at y;have C:(2:Int) ^ b.2.toNat / 2=2 ^ (b.2 - 1).toNat:=by
    rw[show b.2.toNat=(b.2 - 1).toNat+1 from by lia,dz];exact Int.mul_ediv_cancel _ (by decide)
   rw[C];split
   ·exact y
   ·rw[show(b.2 - 1)=0 from by lia]at y ⊢;exact y
def Okp(bits:Int)(l:List Str)(p:NP):Prop:=IsBk bits p.1.1 p.1.2/\p.2∈l
theorem zsi{f:ak}{fd:cT}(D:Def Z.K Z.mg "law" (top 73) ["_law_script"] f fd) (Im:zeh Z) (Io:zej Z) (HG:V9 Z) (Ip:zef Z) (Ia:zdD Z) (HK:zcA Z) (HF:UD Z) (T:Txt Z.mg):FnOk Z.P Z.w Z.K Z.mg Z.base CX0 10 f fd ["_law_script"] (spD Z.K 1 ztD):=by
 refine D.okD (fnS (N:=["_law_script","_law_k","_law_hand_here","_law_deal_here","_law_names_here","_law_some","_law_begin","_law_height","_law_name","_law_parts","_law_block_here"]) (by decide +kernel)) rfl fun cdv A outer s H E hr=>?_
 refine'⟨_,(Jb (Q3 cc rfl (zeP T.ran (Jx (Yx rfl) Yh T.max Yw (Jk dli (Jk (dl (Jx (VL rfl) Vf T.min VJ (Jk dli (Jk (dl (Jx QE QC T.len Qu (Jk (dlv 0) Jp Jq))) Jp U0) Y9))) Jp U0) Y9))) (dgv 1 (ndB rfl)) (zl3 (i:=2) (j:=1) Im hr (ndB rfl) rfl (ou rfl) (Jb (QU (Je Io hr (dbv 2 Ja)) (JT rfl (Jo (dgv 3 (ndB rfl)) (Jo (dgv 4 (ndB rfl)) JR)))) (Jb (zql (ZC (i:=5) (ndB rfl) rfl (cX rfl) (own:=["_law_name"]) (capt:=[2,3]) rfl (JG.of rfl) (dil (Ur (Jj 4))) (fun _ _ _ _=>(dgv 0 (ndB rfl))) (by decide) (fun _ _ _ _=>Zz) (fun _ _ _ _=>(Jm (dbc (Je HG hr (dbv 1 (dbc (Jd (dlv 2) dli) Ja))) (dbv 0 Ja)))))) (Jb (Q3 cc rfl (QJ (ZI (dl (Jd (dlv 3) dli)) Ym (Yn Jg))) (JT rfl (Jo (JT rfl (Jo (dgv 6 (ndB rfl)) (Jo (dgv 7 (ndB rfl)) JR))) (Jo (dgv 8 (ndB rfl)) JR))) (Jb (QA (i:=9) (ndB rfl) rfl (cX rfl) (JI (dbc (Jm (dbv 6 (dbv 7 Ja))) (dbc (Jm (dbv 6 (dbc Jg Ja))) (dbc (Jm (dbc (QI (dl (JC (dlv 6) (dl (JK dli (dlv 7))))) dli) (dbc Jg Ja))) (dbc (Je Ip hr (dbv 2 (dbc (Jm (dbv 6 (dbv 7 Ja))) Ja))) Ja)))))) (Jb (QA (i:=9) (ndB rfl) rfl (cX rfl) (UV (Ul 9) (dl (Jr (JI (dbc (Jm (dbv 6 (dbc (Jx (Yx rfl) Yh T.max Yw (Jk dli (Jk (dl (QI (dlv 7) dli)) Jp UZ) Y9)) Ja))) (dbc (Je HK hr (dbv 2 (dbc (Jd (dlv 3) dli) (dbc (Jm (dbv 6 (dbv 7 Ja))) Ja)))) Ja))))))) (Jb (Qn 9 (Jm (dbc (JC (dlv 6) (dl (zin (dl (JK dli (dlv 7))) dli))) (dbc (Jx (Yx rfl) Yh T.max Yw (Jk dli (Jk (dl (QI (dlv 7) dli)) Jp UZ) Y9)) Ja)))) (QM 9 (Jc (QA (i:=5) (ndB rfl) rfl (cX rfl) (UV (dl (Jr (UV (Ul 5) (dl (Jr (dnc ["_law_part_here"] [8] (dil (Ur (Jj 9))) (fun _ _ _ _=>(dgv 0 (ndB rfl))) (fun _ _ _ _=>(Jm (dbv 0 (dbv 1 Ja)))))))))) (dl (Jr (JI (dbc (Jm (dbc (Jd (dlv 9) dli) (dbc (Je HF hr (dbv 2 (dbv 4 Ja))) Ja))) Ja)))))))))))) (Jb (Q3 cc rfl (QJ (ZI (dl (Jd (dlv 3) dli)) Ym (Yn Jg))) (JT rfl (Jo (dgv 10 (ndB rfl)) (Jo (dgv 8 (ndB rfl)) JR))) (Jc (Qn 5 (Jm (dbv 10 (dbv 8 Ja)))))) (QM 5 (Jc (Q3 cc rfl (Ur (Jj 5)) (JT rfl (Jo (dgv 10 (ndB rfl)) (Jo (dgv 8 (ndB rfl)) JR))) (Jc (Jt (QB (Qe (dl (Je Ia hr (dbv 3 (dbv 8 (dbv 10 Ja))))))) (Jc (Ji QQ)) Jy))))))))))) (Jc (Ji QQ))),?_⟩
 intro ts n R hl hh;obtain⟨ns,rfl,hl63,hh⟩:=hh
 wp_walk
 ·split <;> (try split) <;> lia
 ·split <;> (try split) <;> lia
 refine U4 (fun _ ρ m=>∃a1 a2 a3 a4 S a6 a7 a8 a9 J,ρ=[some (.val (SCR ns)),a1,a2,a3,a4,S,a6,a7,a8,a9,J]/\m=n) ⟨_,_,_,_,_,_,_,_,_,_,rfl,rfl⟩ ?_ ?_
 ·rintro k t ρ m K et ⟨a1,a2,a3,a4,S,a6,a7,a8,a9,J,rfl,rfl⟩ hK;obtain⟨hk,rfl⟩:=zfi et;have hk8:k<8:=by
   revert hk;split <;> (try split) <;> lia
  with_reducible refine Stp.go ?_
  refine znN hl63 (by lia) (by lia) fun NX RT BK CT hNX hRT hBK hCT=>?_
  wp_walk using zix ?_ (fun d y m3 D ne ln nk l1 l2 nin hm3=>?_)
  ·lia
  have rt:∀{p:NP} {n:Nat} {R:qN},Okp d.1 y p->R (.bool true) n->Wa [dlD d,.str p.2,.tuple [.int p.1.1,.int p.1.2]] n R:=fun {p n R} h z=>zhI D (nk _ h.2) h.1 l1 l2 z
  have oo:∀p∈d.2.1,Okp d.1 y p:=fun p G=>⟨D.2.2.1.1.1 _ (aS.mpr ⟨p,G,rfl⟩),nin p (aw.mpr (.inl G))⟩
  have ok:∀p∈d.2.2,Okp d.1 y p:=fun p G=>⟨D.2.2.2.1.1.1 _ (aS.mpr ⟨p,G,rfl⟩),nin p (aw.mpr (.inr G))⟩
  obtain⟨bits,os,ks⟩:=d;have b0:1<=bits:=D.1;have b1:bits<=64:=D.2.1;have rt:∀{p:NP} {n:Nat} {R:qN},Okp bits y p->R (.bool true) n->Wa [dlD (bits,os,ks),.str p.2,.tuple [.int p.1.1,.int p.1.2]] n R:=rt;have oo:∀p∈os,Okp bits y p:=oo;have ok:∀p∈ks,Okp bits y p:=ok;rw[show dlD (bits,os,ks)=.tuple [.int bits,.tuple (oD os),.tuple (oD ks)] from rfl]at *
  wp_walk
  refine Z9 (fun j acc m=>m=m3+3*j/\∃ps:List NP,acc=oD ps/\ps.length=j/\∀p∈ps,Okp bits y p) ⟨rfl,[],rfl,rfl,by simp⟩ ?_ ?_
  ·rintro j x acc m K2 ex ⟨rfl,ps,rfl,lp,C⟩ I;have jl:=(ax.mp ex).1;rw[zla]at jl;obtain⟨s,hs,rfl⟩:=aS.mp (aN ex)
   wp_walk using zch b0 b1 ?_ (fun i g B=>?_)
   ·lia
   ·rw[QX];lia
   ·exact I _ _ ⟨by lia,ps++[((i,g),s)],by rw[Vw];rfl,by simp[lp],fun p G=>by
     rcases aw.mp G with z|z
     ·exact C p z
     ·cases az.mp z;exact⟨B,hs⟩⟩
  ·rintro acc m ⟨rfl,ps,rfl,lp,C⟩;rw[zla]at *
   wp_walk
   rw[show cutD (oD os) none (some 6)=oD (os.take 6) from(zmf (k:=6)).trans zk9]
   have lo:(os.take 6).length<=6:=by rw[eG];lia
   have oo:∀p∈os.take 6,Okp bits y p:=fun p G=>oo p (cP G)
   generalize os.take 6=us at lo oo;refine zoJ 5 6 7 8 9 (fun j S _ _ _ _ m=>m=m3+3*y.length+10*j/\∃ps:List NP,S=some (.own (oD ps))/\ps.length<=4+8*j/\∀p∈ps,Okp bits y p) ⟨rfl,ps,rfl,by lia,C⟩ ?_ ?_
   ·rintro j t S a6 a7 a8 a9 m K2 RT2 BK2 L ⟨rfl,ps,rfl,lp,C⟩ I hRT2 hBK2;have jl:=(ax.mp L).1;rw[QX]at jl;obtain⟨p,G,rfl⟩:=aS.mp (aN L);obtain⟨B,hn⟩:=oo p G;have g0:=B.1;have g1:=B.2.1
    wp_walk using ziv b0 b1 B ?_ (fun c Bc=>?_),zcK b0 b1 ?_ B (fun i g Bn=>?_)
    ·exact cpow (by lia) (by lia)
    ·lia
    ·lia
    ·show 4+2<=16777216;decide
    ·exact cpow (by lia) (by lia)
    ·exact zqz
    ·show 6<16777216;decide
    obtain⟨z1,z2,z3,z4⟩:=zt6 B;obtain⟨U,Y⟩:∃U:BL,U=[(p.1.1,0),(p.1.1+1*2 ^ p.1.2.toNat - 1,0),c,(p.1.1,if p.1.2 - 1 > 0 then p.1.2 - 1 else 0),(i,g),(p.1.1+1*2 ^ p.1.2.toNat / 2,if p.1.2 - 1 > 0 then p.1.2 - 1 else 0)]:=⟨_,rfl⟩
    have bb:∀x∈p.1::U,IsBk bits x.1 x.2:=by
     rw[Y];intro x hx;simp only[aA,aQ,or_false]at hx;rcases hx with rfl|rfl|rfl|rfl|rfl|rfl|rfl
     ·exact B
     ·exact z1
     ·exact z2
     ·exact Bc
     ·exact z3
     ·exact Bn
     ·exact z4
    have bbl:U.length=6:=by rw[Y];rfl
    rw[show([.tuple [.int p.1.1,.int p.1.2],.tuple [.int p.1.1,.int 0],.tuple [.int (p.1.1+1*2 ^ p.1.2.toNat - 1),.int 0],.tuple [.int c.1,.int c.2]]++[.tuple [.int p.1.1,.int (if p.1.2 - 1 > 0 then p.1.2 - 1 else 0)],.tuple [.int i,.int g]]++[.tuple [.int (p.1.1+1*2 ^ p.1.2.toNat / 2),.int (if p.1.2 - 1 > 0 then p.1.2 - 1 else 0)]]:qD)=.tuple [.int p.1.1,.int p.1.2]::pD U from by rw[Y];rfl]
    clear Y;change JN _ _ _ _ ((p.1::U).map prD) [] _ _;refine Ut (cs:=p.1::U) (D:=prD) (fun b=>.tuple [prD b,.str p.2]) (by rw[aP];lia) ?_ ?_
    ·intro x hx K4 X4 hK4
     wp_walk
     exact hK4
    ·wp_walk
     ·rw[QX,aZ,aP];lia
     refine Yt (by cases y with|nil=>exact absurd rfl ne|cons a l=>simp[nD]) (by rw[zla];lia) (by lia) fun x hx=>?_
     obtain⟨s,hs,rfl⟩:=aS.mp hx
     wp_walk
     ·rw[aT,QX,aZ,aP];show _+1<=_;lia
     ·exact I _ _ _ _ _ _ ⟨by lia,ps++((p.1::U).map fun b=>(b,p.2))++[(p.1,s)],by rw[Vw,Vw,show oD ((p.1::U).map fun b=>(b,p.2))=(p.1::U).map fun b=>.tuple [prD b,.str p.2] from by unfold oD;rw[cZ];rfl];rfl,by simp[bbl];lia,fun q hq=>by
       rcases aw.mp hq with z|z
       ·rcases aw.mp z with z|z
        ·exact C q z
        ·obtain⟨c,hc,rfl⟩:=aS.mp z;exact⟨bb c hc,hn⟩
       ·cases az.mp z;exact⟨B,hs⟩⟩
   ·rintro S a6 a7 a8 a9 m ⟨rfl,ps,rfl,lp,C⟩;rw[QX]at *
    wp_walk
    rw[show cutD (oD ks) none (some 3)=oD (ks.take 3) from(zmf (k:=3)).trans zk9]
    have lk:(ks.take 3).length<=3:=by rw[eG];lia
    have ok:∀p∈ks.take 3,Okp bits y p:=fun p G=>ok p (cP G)
    generalize ks.take 3=vs at lk ok;generalize m3+3*y.length+10*us.length=m4;refine ztG 5 8 10 (fun j S _ _ m=>m=m4/\∃ps:List NP,S=some (.own (oD ps))/\ps.length<=52+j/\∀p∈ps,Okp bits y p) ⟨rfl,ps,rfl,by lia,C⟩ ?_ ?_
    ·rintro j t S a8 J m K2 RT2 BK2 L ⟨rfl,ps,rfl,lp,C⟩ I hRT2 hBK2;have jl:=(ax.mp L).1;rw[QX]at jl;obtain⟨p,G,rfl⟩:=aS.mp (aN L)
     wp_walk
     ·rw[QX];lia
     ·exact I _ _ _ _ ⟨rfl,ps++[p],by rw[Vw];rfl,by rw[aT];show ps.length+1<=_;lia,fun q hq=>by
       rcases aw.mp hq with z|z
       ·exact C q z
       ·cases az.mp z;exact ok _ G⟩
    ·rintro S a8 J m ⟨rfl,ps,rfl,lp,C⟩
     wp_walk
     refine ztH 8 10 (fun j _ _ m'=>m'=m) rfl ?_ ?_
     ·rintro j t a8 J m' K2 RT2 BK2 L rfl I hRT2 hBK2;obtain⟨p,G,rfl⟩:=aS.mp (aN L)
      wp_walk using rt (C p G) ?_
      exact I _ _ _ rfl
     ·rintro a8 J m' rfl;exact hNX _ _ (hK _ _ ⟨_,_,_,_,_,_,_,_,_,_,rfl,rfl⟩)
 ·rintro ρ m ⟨a1,a2,a3,a4,S,a6,a7,a8,a9,J,rfl,rfl⟩
  wp_walk
  exact hh _
end
section
open PySem.W PyProof.Rows
theorem zt7{IL:nT->Option ah}{mg mb:qM}{h:aY}{w:aW}{J:ak}(T0:iw qv (looseW qv [aa "DEEDS",aa "PARTS"]) IL mg mb h) (L:mg (defName (top 73))=some (.ref J)) (XT:TupsAre TL mg h) (S:DctsAre PL FL mg h) (R:HshOk DL w h) (XE:ExcsAre EXS EYS (aa "DealError") mg h) :
  ∃fd:cT,(∀(s:aq) (v:ah),o8 s fd ⟨[v],[]⟩ [("_law_script",v)])/\∀base:aY,(JH h).In base->base.Ns mainGlobals mg->FnOk aE.prog w (JH h) mg base CX0 10 J fd ["_law_script"] (zoT (JH h)):=by
 have T:=zq0 T0;have IG:StD aE.prog w (JH h) mg (aa "PARTS") Ys:=S.st R T0.g (by repeat (first|exact .head _|refine .tail _ ?_)) (by repeat (first|exact .head _|refine .tail _ ?_)) (by decide +kernel)
 have IW:StF aE.prog w (JH h) mg (aa "DEEDS") ["take","near","give","grow","keep","loose","move"]:=S.sf R T0.g (by repeat (first|exact .head _|refine .tail _ ?_)) (by repeat (first|exact .head _|refine .tail _ ?_)) (by decide +kernel)
 have IP:OwnE (JH h) mg (aa "NoDeed"):=zr2 T0 (by kernel_rfl)
 have Ii:OwnE (JH h) mg (aa "NotTheirs"):=zr2 T0 (by kernel_rfl)
 have IF:QO (JH h) mg EXS EYS (aa "DealError"):=XE.ok;obtain⟨f,fd,DL⟩:=dq_g (x:="law") (ps:=["_law_script"]) T0 (zox (i:=73) (by kernel_rfl)) (by kernel_rfl) fun _ _ _ _ _ _ us hl=>by obtain⟨_,rfl⟩:=len1 hl;rfl
 have e0:cG f=cG J:=aO (DL.m.symm.trans L);cases e0;refine⟨fd,fun s v=>?_,fun base _ _=>?_⟩
 ·obtain⟨oc,od,kV,doc,pm,an,cdv,ct,osl,rfl,_,_⟩:=DL.F.ex;exact .of_eq rfl
 let Z:ZZ:=⟨aE.prog,w,JH h,mg,base⟩
 have G:=zh2 (Z:=Z) (dqG (i:=1) T0 (bnd1 fun _ _ _ _ _ _ _=>rfl))  T
 have Iv:=zh3 (Z:=Z) (dqG (i:=2) T0 (bnd2 fun _ _ _ _ _ _ _ _=>rfl)) G T
 have Iy:=zjR (Z:=Z) (dqG (i:=3) T0 (bnd1 fun _ _ _ _ _ _ _=>rfl))  T
 have IM:=zk6 (Z:=Z) (dqG (i:=5) T0 (bnd2 fun _ _ _ _ _ _ _ _=>rfl))  T
 have IV:=znq (Z:=Z) (dqG (i:=4) T0 (bnd2 fun _ _ _ _ _ _ _ _=>rfl)) IM T
 have Iz:=zjU (Z:=Z) (dqG (i:=8) T0 (bnd1 fun _ _ _ _ _ _ _=>rfl))  T
 have N:=zk5 (Z:=Z) (dqG (i:=18) T0 (bnd1 fun _ _ _ _ _ _ _=>rfl)) Iy T
 have HM:=zcX (Z:=Z) (dqG (i:=19) T0 (bnd2 fun _ _ _ _ _ _ _ _=>rfl))  T
 have IY:=zps (Z:=Z) (dqG (i:=11) T0 (bnd2 fun _ _ _ _ _ _ _ _=>rfl)) N HM T
 have Iq:=zjS (Z:=Z) (dqG (i:=21) T0 (bnd1 fun _ _ _ _ _ _ _=>rfl)) N T
 have Ir:=zh1 (Z:=Z) (dqG (i:=20) T0 (bnd1 fun _ _ _ _ _ _ _=>rfl)) IY T
 have HS:=ze2 (Z:=Z) (dqG (i:=23) T0 (bnd2 fun _ _ _ _ _ _ _ _=>rfl))  T
 have HX:=zfM (Z:=Z) (dqG (i:=22) T0 (bnd2 fun _ _ _ _ _ _ _ _=>rfl))  T
 have IB:=zjQ (Z:=Z) (dqG (i:=13) T0 (bnd2 fun _ _ _ _ _ _ _ _=>rfl)) Iq Ir HS HX T
 have Iu:=zh4 (Z:=Z) (dqG (i:=17) T0 (bnd2 fun _ _ _ _ _ _ _ _=>rfl)) N T
 have HY:=zfN (Z:=Z) (dqG (i:=14) T0 (bnd2 fun _ _ _ _ _ _ _ _=>rfl)) Iu T
 have HU:=ze3 (Z:=Z) (dqG (i:=15) T0 (bnd2 fun _ _ _ _ _ _ _ _=>rfl)) HY IV T
 have Ig:=zgL (Z:=Z) (dqG (i:=27) T0 (bnd2 fun _ _ _ _ _ _ _ _=>rfl))  T
 have Ie:=zgJ (Z:=Z) (dqG (i:=33) T0 (bnd2 fun _ _ _ _ _ _ _ _=>rfl)) G T
 have HZ:=zfL (Z:=Z) (dqG (i:=34) T0 (bnd2 fun _ _ _ _ _ _ _ _=>rfl)) G T
 have IA:=zjT (Z:=Z) (dqG (i:=32) T0 (bnd3 fun _ _ _ _ _ _ _ _ _=>rfl)) Iv Ie HZ T
 have IC:=zjV (Z:=Z) (dqG (i:=31) T0 (bnd2 fun _ _ _ _ _ _ _ _=>rfl)) Iz IA IG T
 have Ih:=zgK (Z:=Z) (dqG (i:=55) T0 (bnd4 fun _ _ _ _ _ _ _ _ _ _=>rfl))  T
 have IZ:=zpt (Z:=Z) (dqG (i:=45) T0 (bnd2 fun _ _ _ _ _ _ _ _=>rfl)) HU IB Ig Ih Ii T
 have U:=zpu (Z:=Z) (dqG (i:=51) T0 (bnd2 fun _ _ _ _ _ _ _ _=>rfl)) IZ IC IP IW T
 have Im:=zfK (Z:=Z) (dqG (i:=57) T0 (bnd2 fun _ _ _ _ _ _ _ _=>rfl))  T
 have y:=zfJ (Z:=Z) (dqG (i:=58) T0 (bnd2 fun _ _ _ _ _ _ _ _=>rfl))  T
 have u:=zgN (Z:=Z) (dqG (i:=59) T0 (bnd2 fun _ _ _ _ _ _ _ _=>rfl)) y T
 have Ij:=zgU (Z:=Z) (dqG (i:=60) T0 (bnd1 fun _ _ _ _ _ _ _=>rfl)) u T
 have C:=zfR (Z:=Z) (dqG (i:=61) T0 (bnd2 fun _ _ _ _ _ _ _ _=>rfl)) u y T
 have Y:=zgQ (Z:=Z) (dqG (i:=62) T0 (bnd3 fun _ _ _ _ _ _ _ _ _=>rfl)) u C T
 have HV:=ze5 (Z:=Z) (dqG (i:=63) T0 (bnd3 fun _ _ _ _ _ _ _ _ _=>rfl)) y C Y u T
 have HP:=zfP (Z:=Z) (dqG (i:=64) T0 (bnd3 fun _ _ _ _ _ _ _ _ _=>rfl)) HV T
 have H0:=zfQ (Z:=Z) (dqG (i:=65) T0 (bnd2 fun _ _ _ _ _ _ _ _=>rfl)) y u T
 have Ik:=zgS (Z:=Z) (dqG (i:=66) T0 (bnd4 fun _ _ _ _ _ _ _ _ _ _=>rfl)) HP u y T
 have Io:=zgT (Z:=Z) (dqG (i:=67) T0 (bnd1 fun _ _ _ _ _ _ _=>rfl)) Ij H0 Ik y T
 have HN:=ze4 (Z:=Z) (dqG (i:=68) T0 (bnd2 fun _ _ _ _ _ _ _ _=>rfl))  T
 have HQ:=zer (Z:=Z) (dqG (i:=69) T0 (bnd2 fun _ _ _ _ _ _ _ _=>rfl)) U IF T
 have Il:=zgP (Z:=Z) (dqG (i:=70) T0 (bnd3 fun _ _ _ _ _ _ _ _ _=>rfl))  T
 have Ip:=zgO (Z:=Z) (dqG (i:=71) T0 (bnd2 fun _ _ _ _ _ _ _ _=>rfl)) y T
 have Ia:=zfO (Z:=Z) (dqG (i:=72) T0 (bnd3 fun _ _ _ _ _ _ _ _ _=>rfl)) U Il HQ HN T
 exact(zsi (Z:=Z) DL Im Io C Ip Ia Y u T).imp zpO
end
end Bd
open PySem PySem.W PyProof.Rows
set_option maxRecDepth 100000 in
set_option maxHeartbeats 0 in
theorem PySem.Challenge.cw_blockdeal_k28_given_back_holds : PySem.Challenge.rw_blockdeal_k28_given_back.Holds := by
 w_on
 refine holds_law Bd.zoW fun l=>?_
 refine holds_open (r:=aE.row) (d:=Bd.recD (Bd.top 73)) (kwd:=[]) Bd.zpM (YP:=Bd.HshOk Bd.DL) Bd.ztv Bd.znR (XP:=fun mg h=>XL Bd.qv [] mg h/\Bd.TupsAre Bd.TL mg h/\Bd.DctsAre Bd.PL Bd.FL mg h/\Bd.ExcsAre Bd.EXS Bd.EYS (aa "DealError") mg h) (fun s e=>⟨xl_of s (bh.mp (bh.mp (bh.mp (bh.mp e).1).1).1).1,Bd.zq1 (bh.mp (bh.mp (bh.mp e).1).1).2,Bd.zt2 (bh.mp (bh.mp e).1).2,Bd.ztK (bh.mp e).2⟩) (fun mg h h' x k=>⟨XL.keeps mg h h' x.1 k,x.2.1.keeps k,x.2.2.1.keeps k,x.2.2.2.keeps k⟩) (by kernel_rfl) (by kernel_rfl) (by kernel_rfl) (fun s e=>recFacts_of (bh.mp (bh.mp (bh.mp (bh.mp e).1).1).1).2) (by kernel_rfl) l (by kernel_rfl) ⟨rfl,rfl,rfl,rfl,rfl,by decide +kernel⟩ ?hw ?hc
 case hw=>w_witness2
 case hc=>exact Bd.zuP (lw:=aE) (k:=10) (by decide) rfl rfl fun w s₀ mg v y h G Y u=>Bd.zt7 G.T u G.X.2.1 G.X.2.2.1 Y G.X.2.2.2
