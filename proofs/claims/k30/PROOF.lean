import PyProof.Rows.All
import Wide.All
import OpenK.AllK
import Wide.FinOn
import Lean
import PyProof.EqAt
import PyProof.EqKinds
import PyProof.TupleCall
import PySem.Challenge.RW_blockdeal_k30_no_deeds
open PySem.Str renaming ofString->aa,empty->iR,length->kZ
open PySem renaming wpAny_bind->ae,PyData->af,Value->ah,wpAny_pure->aj,Addr->ak,Shared->aq,Program->aL,World->aT,Expr->aV,Heap->aW,Around->br,wpAny_truthy_bool->bV,wpAny_holding->cg,FuncData->cR,wpAny_field->cU,wpAny_mono->c8,wpAny_newObj_type->dm,wpAny_rule->dw,Stmt->dH,DictEntry->dI,wpAny_standAt->dN,wpAny_callSpecial?_slot->dY,wpAny_call_entry->eJ,Paired->eN,NameKind->eO,wpAny_seqItems->eR,wpAny_setField_rec->eS,wpAny_passesOwn->eV,mem_of_lookup->fc,OsState->fg,Scope->fA,wpAny_Call_Name_kw->fF,wpAny_execs_nil->fK,Builtin->gp,wpAny_typeOf->gq,wpAny_comprehension_free->gG,wpAny_pyIter_list->gW,wpAny_attempt->iA,wpAny_newList->iB,wpAny_onRaise->iC,wpAny_updateSeq_pair->iD,codeAny_mono->iL,wpAny_pyIter_tuple->iU,IsPart->kH,Builtin->kJ,wpAny_execs_cons->kN,noFill_tuple_add->kO,codeAny_compStart_list->lx,IsPair->lB,codeAny_builtin->lJ,wpAny_isTrue_Compare1->lL,wpAny_bindName->lS,sizeLine_eq->lT,codeAny_call_builtin->mi,seq_tuple_add->mI,wpAny_call->mP,Model->m4,wpAny_assign_Name->m5,concat_meets->nt,wpAny_sequenceKey->nu,seqIndex_neg->nv,slot_list_getitem->ny,codeAny_loop->nA,ExcName->nR,PassesOwn->nW,Result->nY,wpAny_pyIter_zip->oj,wpAny_getItem_of->oo,CmpOp->ow,seqIndex_of->oz,wpAny_noted->oA,IsZip->oC,wpAny_letGo->oE,wpAny_loadPart'->oI,wpAny_specialOf->oX,BindsTo->oZ,wpAny_Name->o5,wpAny_Expr_any->o6,typeIs_str->pE,sliceRange_one->pF,Params->pG,ReadsAll->pI,repr_of_reads'->pJ,wpAny_newTuple->pN,wpAny_setField->pR,PyData->tq,Within->tv,Keyword->tI,Value->uK,pick_run->uX,call->wV
open PySem.Heap renaming get?_push_of_some->au,lt_size->aD,get?_push_size->aH,get?_push_ne->cz,size_update->cH,SameBut->eG,size_push->fq,get?_update_ne->gC,get?_update_other->k8,get?_update_self->lN,FlyingW->nG,ExtBut->vq
open List renaming mem_append->av,getElem?_eq_getElem->aw,mem_cons->ax,getElem?_eq_some_iff->az,mem_singleton->aB,size_toArray->aF,length_append->aM,length_cons->aN,pairwise_iff_getElem->aP,not_mem_nil->aR,getElem?_set_ne->aS,mem_of_getElem?->aX,mem_map->aZ,length_map->ba,getElem_of_mem->bg,getElem?_map->bh,append_assoc->bp,replicate->bu,getElem?_append_right->bw,getD_eq_getElem?_getD->bz,all_eq_true->bG,getElem?_append_left->bQ,drop_eq_getElem_cons->bR,append_nil->bW,mem_append_right->bX,replicate_succ->bY,mem_cons_of_mem->b5,getElem?_set_self->cc,map_cons->cj,getElem?_eq_none->cn,mem_cons_self->cC,length_nil->cE,pairwise_append->cM,lookup_cons->cO,take_of_length_le->cP,cons_append->cQ,getElem?_cons_succ->c9,filterMap_cons->dF,nil_append->dG,getElem_mem->dM,map_map->dO,length->dQ,take_succ->dU,mem_of_mem_take->dW,getElem?_replicate->dX,pairwise_map->ee,getElem?_cons_zero->eh,pairwise_singleton->eu,mem_filter->eD,of_mem_zip->eE,length_drop->eI,map_snd_zip->eK,set_cons_succ->eQ,nodup_cons->eW,replicate_zero->fh,getD_cons_succ->fi,getD_cons_zero->fj,length_take->fk,take_length->fv,range->fD,mem_filterMap->fE,map_nil->fG,drop_of_length_le->fH,pairwise_cons->fI,set_cons_zero->fJ,length_set->fM,map_append->fN,find?_cons->fP,length_replicate->fR,take_append_drop->fT,length_filter_le->fV,mem_of_mem_drop->gk,length_eq_zero_iff->gU,mem_range->gV,getElem?_set->g7,mapM_toArray->hG,drop_length->hZ,all_toArray->ip,map_fst_zip->iq,filter_cons->ir,forIn_cons->iE,map_congr_left->iK,perm_append_comm_assoc->iM,zip_cons_cons->iZ,getElem?_drop->i8,drop_zero->ka,mem_take_iff_getElem->kg,drop_sublist->kE,getElem?_take_of_lt->kG,idxOf_lt_length_iff->kL,zipIdx_cons->kS,perm_append_comm->lQ,mem_append_left->lR,forIn_nil->mf,getElem?_range->mC,mem_map_of_mem->mF,length_pos_iff->mG,filter_append->mX,any_eq_false->m8,take_sublist->nc,zip_nil_left->nq,map->nB,ext_getElem?->nH,flatten_cons->nK,perm_middle->oa,any_eq_true->ou,foldl_cons->oN,zipIdx_nil->oS,length_zip->oU,lt_irrefl->pT,idxOf->pV,take_nil->sr,drop_nil->su,lookup->u0,map_id->vp,not_lt->vB
open PyProof.Rows renaming wpS_bind->aA,wpS_pure->aG,Keyed->bM,SortSt->bO,wpS_forRange->cf,slot_tuple_getitem->cm,wpS_mono->dS,size_push'->eF,SortKind->eP,callWith_type1->fW,IntsAre->gn,listItems_at->gr,wpS_modify->ik,Top->iu,AllBare->iy,wpS_get->iz,assignInOrder_cons->iT,wpS_lift->kR,subscriptTail_builtinR->kY,pairsOf_size->lA,wpS_reverse->lZ,mirror_perm->ma,entry_tuple_getitem->my,listUpdate_at->mL,args_tuple_getitem->mS,IsTup->mY,assignInOrder_nil->m6,callWith_builtin1->nZ,get?_update_seq->oO,entry_list_sort->oQ,oneTypeOnly'_eq->oR,slicePart_none->pf,Subscript_->ph,slot_list_sort->pO,args_list_sort->pP,oneLt'_eq->sW,elem'_eq->vg,lt_int->vO,lt_str->wa
open Nat renaming le_refl->aC,lt_of_lt_of_le->aE,ne_of_lt->aJ,lt_or_ge->cq,le_trans->cB,zero_add->dE,zero_le->dR,lt_trichotomy->dZ,add_sub_of_le->eY,le_add_right->gu,testBit_succ->gv,lt_irrefl->gE,lt_of_lt_of_eq->gP,mod_eq_zero_of_dvd->hU,dvd_of_mod_eq_zero->hV,sub_self->hY,le_succ->kB,shiftLeft_eq->kQ,testBit_zero->kT,mul_comm->lC,pow_succ->lD,min_eq_left->lI,testBit_and->lK,eq_of_testBit_eq->mh,add_assoc->mK,eq_or_lt_of_le->mT,le_of_lt->mZ,ne_of_gt->m7,lt_succ_of_lt->nQ,le_of_not_lt->n9,and_le_left->oW,mul_assoc->sC,sub_zero->tS,le_total->tX,log2_lt->u4,one_mul->u9
open Bool renaming false_eq_true->aI,and_eq_true->aK,false_ne_true->bf,and_eq_true_iff->bo,false_and->bN,true_and->cW,not_true->dh,and_false->eT,not_false->ft,eq_iff_iff->fL,eq_false_iff->fZ,not_eq_true'->gf,and_true->gH,beq_eq_decide_eq->lO,or_eq_false_iff->lW,not_eq_false'->mU,or_false->r8
open Option.some renaming inj->aO
open Array renaming toList->aQ,getElem?_eq_getElem->bS,toList_append->cu,getElem?_toList->cK,perm_iff_toList_perm->cN,length_toList->cS,push->gO,getElem?_extract->lz,toList_extract->lX,toList_reverse->lY,toList_modify->mD,toList_push->nI,toList_inj->og,toList_map->oh
open Iff renaming rfl->aU
open Int renaming le_refl->aY,dvd_of_emod_eq_zero->bq,pow_succ->cD,one_mul->cV,le_of_lt->c6,emod_eq_zero_of_dvd->df,le_trans->dD,mul_le_mul_of_nonneg_right->dJ,mul_comm->dP,mul_assoc->e9,add_mul->fB,mul_le_mul_of_nonneg_left->fC,natCast_pow->fO,toNat_natCast->fX,natCast_zero->gx,mul_neg_of_pos_of_neg->gA,emod_lt_of_pos->gQ,pow_add->gT,lt_trichotomy->g8,emod_nonneg->iJ,lt_or_le->iP,natCast_nonneg->iV,fdiv_eq_ediv_of_nonneg->iW,not_lt->i9,lt_of_mul_lt_mul_right->kc,lt_of_mul_lt_mul_left->ki,mul_one->ku,eq_ofNat_of_zero_le->kP,add_emod->nM,mul_emod_left->nN,mul_add->oF,emod_two_eq->oV,ediv_nonneg->oY,sub_mul->ve
open PySem.PyData renaming canLayAll0->bE,canLay0->bT,int->bU,depthAll->bZ,hasDict_of_canLay->ck,hasDict->cF,bool->cI,eqv->cT,depth->cZ,eqvAll->fQ,leavesShortAll->fS,hasDictAll->fY,str->gm,leavesShort->gM,showableAll->gN,shown->g6,weightAll->ig,showable->iF,none->lV,weight->mJ,noDict_hsm->nF,tuple->nT,dict->vc,list->vd
open PySem.W renaming boot_heap->bH,kia_one->bP,fnOf->dz,kitx_dict->eX,keepIn->gX,codeIn->gY,callWith_K->iX,methodObj->km,cellsFrom_some->kX,boot_drawn->lE,instObj->lG,lookIn->lU,boot_toks->mn,hideAll_get->mo,of_hideAll->mM,kitx_tuple->mO,kitx_list->m9,looks_findIn->nS,plainGet->nX,hideAll->oH,findIn->o8,kitOne->o9,Looks->td,SharedT->t5
open PySem.Builtin.SmallTypes renaming nextOf->bK,ownedTupleIsFree->cX,ownedTupleHandOut->gD
open PySem.Value renaming type->bL,ref->cA,isStrOf->dg,bool->eM,str->iQ,none->iS,builtin->kK,int->sJ,isInt->uL,float->uM
open ForInStep renaming yield->cw
open False renaming elim->cx
open PySem.NameKind renaming free->cy
open PySem.PassesOwn renaming never->cG
open Classical renaming choose_spec->cJ,byContradiction->gz,choose->ic
open PySem.Builtin renaming bitXor->cL,bitNot->fw,bitAnd->gi
open Or renaming inl->cY,inr->xj
open PySem.Builtin.Slice renaming slicePlaces->eU,sliceAdjust->gy,sliceApplied->i6,slicePartIndex->oJ,sliceFields->rm
open PySem.Builtin.Tuple renaming tupleExact->eZ,tupleItemsOf->i7,tupleCompareSizes->nU,tupleIsExact->pQ,tupleHashOf->rq
open PySem.Obj renaming mapSeq->e8,data_mapFields->mW
open PySem.Builtin.Int renaming intBits->fe
open Option renaming getD_some->fo,map_some->gL,isSome_iff_exists->kF,map_eq_some_iff->lF,getD_none->n8,bind_some->ot
open List.Perm renaming append_left->fU,trans->iG,append_right->ly,refl->pL
open PySem.Calls renaming Name_function_global->gh,call_function_entry->kh,loadGlobal_global->kM,callWith_builtin->lh,call_len_list->mw
open PySem.F renaming excBase_ValueError->gj,args_tuple_add_2->gF,entry_tuple_add->gR,plainAttrs_list->gS,slot_tuple_add->gZ,args_tuple_iterator_next_1->iH,slot_zip_next->iI,entry_tuple_iterator_next->iO,slot_tuple_iterator_next->kb,excAttr_ValueError->ke,slot_dict_getitem->kj,slot_list_index->kU,args_zip_next_1->nJ,entry_zip_next->oi
open List.Pairwise renaming imp_of_mem->gJ,nil->kA,sublist->lP,and->xH
open List.cons renaming injEq->gK
open PySem.Builtin.List renaming listItems->g9,listExtendWith->iN,listUpdate->sV
open PySem.W.RowW renaming records->hW
open Sum renaming inl->iw,inr->mj
open PySem.SeqAt.EqAt renaming int_int->iY,bool_bool->pU
open Prod renaming ext->i5,ext_iff->t8
open Ne renaming symm->ko
open Function renaming comp_def->kC
open PySem.PyData.dict renaming injEq->kD,inj->lH
open Prod.mk renaming injEq->kI,inj->vC
open True renaming intro->kW
open And renaming intro->mm
open PySem.Heap.SameBut renaming update->mE,refl->xF
open PySem.Paired renaming length->mH
open PySem.SeqAt renaming EqAt->mQ,list_indexAt->sG
open PySem.Code renaming quiet_builtin->mV
open PySem.PyData.list renaming injEq->nE
open PySem.Txt renaming slice->om
open Array.Perm renaming refl->oP
open PySem.EqNone renaming eq_none_none->pW,eq_none_bool->pX,eq_bool_none->pY,ne_none_none->p8,ne_none_bool->p9,ne_bool_none->rf,eq_none_int->rK,eq_none_str->rL,eq_int_none->rM,eq_str_none->rO,ne_none_int->rQ,ne_none_str->rR,ne_int_none->rS,ne_str_none->rV
open PySem.EqMixed renaming eq_bool_str->pZ,eq_str_bool->p7,ne_bool_str->rg,ne_str_bool->rh,eq_int_str->rN,eq_str_int->rP,ne_int_str->rT,ne_str_int->rW
open PySem.Builtin.Range renaming rangeSize->sM
open Nat.succ renaming inj->tZ
open PySem.Shared renaming heap->vv
open PySem.Heap.IsSliceOf renaming new->wK
open PySem.W.WShape renaming has->wU
open PyProof.Rows.SortSt renaming mk'->w5
open PySem.Heap.IsTuple renaming push->xJ
open List.Sublist renaming refl->xS
open PySem.Flow renaming next->x8
open PySem.W.WData renaming int->yp
open PySem.Heap.IsList renaming push->yy
open PySem.Heap.DictOf renaming new->yY
open PySem.W.Looks renaming ld->AV
local macro_rules | `(tactic| walk_at "V") => `(tactic| first | exact Or.inl rfl | exact Or.inr (Or.inl rfl) | exact Or.inr (Or.inr rfl))
local macro_rules | `(tactic| walk_at "F") => `(tactic| first | exact .inl rfl | exact .inr rfl | assumption)
abbrev qF:=PySem.W.Frag
abbrev qB:=List (Int×Int)
abbrev qN:=tq->Nat->Prop
abbrev qM:=PySem.Str->Option uK
abbrev qV:=uK->PySem.Shared->Prop
abbrev qD:=List tq
abbrev qO:=List (PySem.Addr×PySem.Obj)
set_option Elab.async false
set_option linter.all false
set_option maxRecDepth 100000
set_option maxHeartbeats 4000000
namespace L2
open PySem PySem.Spec PyProof.Rows
abbrev Key:=Sum Int Str
def Vj:Key->ah->Bool
 | .inl k,v=>uL k v
 | .inr x,v=>dg x v
def keyH(w:aT):Key->Int
 | .inl k=>hashInt k
 | .inr x=>hashStr w x
theorem Us:∀{k:Key}{v:ah},Vj k v=true->(∃i t,k=iw i/\v=sJ i t)\/(∃x t,k=mj x/\v=iQ x t)
 | .inl i,v,h=>by
  obtain⟨t,e⟩:=Value.isInt_shape (k:=i) (v:=v) h;exact .inl ⟨i,t,rfl,e⟩
 | .inr x,v,h=>by
  obtain⟨t,e⟩:=Value.isStrOf_shape (x:=x) (v:=v) h;exact .inr ⟨x,t,rfl,e⟩
theorem zhA(i:Int)(t:Tok):Vj (.inl i) (.int i t)=true:=by simp[Vj,uL]
theorem ztd(a b:Int):decide ((iw a:Key)=iw b)=(a == b):=by
 by_cases e:a=b
 ·subst e;simp
 ·have h:¬(iw a:Key)=iw b:=fun q=>e (Sum.inl.inj q)
  rw[decide_eq_false h];exact(beq_eq_false_iff_ne.mpr e).symm
theorem zta(a b:Str):decide ((mj a:Key)=mj b)=decide (a=b):=by
 by_cases e:a=b
 ·subst e;simp
 ·have h:¬(mj a:Key)=mj b:=fun q=>e (Sum.inr.inj q)
  rw[decide_eq_false h,decide_eq_false e]
theorem ztc(a:Int)(b:Str):decide ((iw a:Key)=mj b)=false:=decide_eq_false (fun q=>nomatch q)
theorem ztb(a:Str)(b:Int):decide ((mj a:Key)=iw b)=false:=decide_eq_false (fun q=>nomatch q)
def Y0(prog:aL)(w:aT):PySem.KeyKind prog w Key where
 is:=Vj
 hash:=keyH w
 inj:=fun v a b I C=>by
  rcases Us I with⟨i,t,rfl,rfl⟩|⟨x,t,rfl,rfl⟩
  ·rcases Us C with⟨j,u,rfl,e⟩|⟨y,u,rfl,e⟩
   ·injection e with e1 _;rw[e1]
   ·exact nomatch e
  ·rcases Us C with⟨j,u,rfl,e⟩|⟨y,u,rfl,e⟩
   ·exact nomatch e
   ·injection e with e1 _;rw[e1]
 byValue:=fun k v h=>by
  rcases Us h with⟨i,t,rfl,rfl⟩|⟨x,t,rfl,rfl⟩ <;> rfl
 pyHash:=fun l h=>by
  rcases Us l with⟨i,t,rfl,rfl⟩|⟨x,t,rfl,rfl⟩
  ·exact wpAny_pyHash_int h
  ·exact wpAny_pyHash_str h
 eqBool:=fun G l h=>by
  rcases Us G with⟨i,t,rfl,rfl⟩|⟨x,t,rfl,rfl⟩
  ·rcases Us l with⟨j,u,rfl,rfl⟩|⟨y,u,rfl,rfl⟩
   ·rw[ztd]at h;exact wpAny_eqBool_int h
   ·rw[ztc]at h;exact SeqAt.EqAt.int_str i t y u _ _ _ _ h
  ·rcases Us l with⟨j,u,rfl,rfl⟩|⟨y,u,rfl,rfl⟩
   ·rw[ztb]at h;exact SeqAt.EqAt.str_int x t j u _ _ _ _ h
   ·rw[zta]at h;exact wpAny_eqBool_str h
 «strs»:=fun k x t v h=>by
  rcases Us h with⟨i,u,rfl,e⟩|⟨y,u,rfl,e⟩
  ·exact nomatch e
  ·injection e with e1 _
   subst e1;cases v <;> rfl
inductive V where
 | non|bl (b:Bool)|int (i:Int)|str (x:Str)|byt (b:Array UInt8)|flt (b:UInt64)|ref (a:ak)|ty (n:String)
 deriving DecidableEq
def RelV:V->ah->Prop
 | .non,u=>u=iS
 | .bl b,u=>u=eM b
 | .int i,u=>∃t,u=sJ i t
 | .str x,u=>∃t,u=iQ x t
 | .byt b,u=>∃t,u=Value.bytes b t
 | .flt b,u=>∃t,u=uM b t
 | .ref a,u=>u=cA a
 | .ty n,u=>u=bL n
abbrev Vals:List V->List ah->Prop:=eN RelV
theorem Vals.length{xs:List V}{l:List ah}(r:Vals xs l):xs.length=l.length:=mH r
theorem Vals.get:∀{xs:List V}{v:List ah}{i:Nat}{x:V},Vals xs v->xs[i]?=some x->∃u,v[i]?=some u/\RelV x u
 | _,_,_,_,.nil,e=>by simp at e
 | _,_,0,_,.cons r _,e=>by simp at e;subst e;exact⟨_,rfl,r⟩
 | _,_,i+1,x,.cons _ t,e=>by
  obtain⟨u,y,C⟩:=Vals.get (i:=i) (x:=x) t (by simpa using e)
  exact⟨u,by simpa using y,C⟩
theorem Vals.set{x:V}{u:ah}(r:RelV x u):∀{xs:List V}{v:List ah} (i:Nat),Vals xs v->Vals (xs.set i x) (v.set i u)
 | _,_,_,.nil=>.nil
 | _,_,0,.cons _ t=>.cons r t
 | _,_,i+1,.cons q t=>.cons q (Vals.set r i t)
theorem Vals.append{xs ys:List V}{l u:List ah}(h:Vals xs l)(s:Vals ys u):Vals (xs++ys) (l++u):=by
 induction h with
 | nil=>exact s
 | cons r _ v=>exact .cons r v
theorem Vals.take:∀{xs:List V}{u:List ah} (n:Nat),Vals xs u->Vals (xs.take n) (u.take n)
 | _,_,0,_=>.nil
 | _,_,_+1,.nil=>.nil
 | _,_,n+1,.cons r t=>.cons r (Vals.take n t)
theorem Vals.drop:∀{xs:List V}{u:List ah} (n:Nat),Vals xs u->Vals (xs.drop n) (u.drop n)
 | _,_,0,r=>r
 | _,_,_+1,.nil=>.nil
 | _,_,n+1,.cons _ t=>Vals.drop n t
def RelO:Option V->Option ah->Prop
 | some v,some u=>RelV v u
 | none,none=>True
 | _,_=>False
def KV{l:Type}:List (l×V)->List (l×ah)->Prop:=eN fun(p:l×V) (q:l×ah)=>p.1=q.1/\RelV p.2 q.2
def kV:Key->V
 | .inl i=>.int i
 | .inr x=>.str x
inductive HO where
 | lst (xs:List V)
 | tup (xs:List V)
 | dK (kvs:List (Key×V))|dT (kvs:List (List Key×V))
 | set (S:Int->Bool) (n:Nat)
 | ins (C dx:ak) (fs:List (Str×V))
 | own (x:ak)
 | xd (fs:List (Str×V))
 | met (f x:ak)
 | rng (lo hi:Int)
 | frz (o:Obj) (u:HO)
 | tbl (q:Str)
 | ext (φ:aW->Prop)
abbrev Hp:=ak->Option HO
def upd(H:Hp)(a:ak)(o:HO):Hp:=fun b=>if b=a then some o else H b
theorem JM{H:Hp}{a:ak}{o:HO}:upd H a o a=some o:=by unfold upd;rw[if_pos rfl]
theorem Jn{H:Hp}{a b:ak}{o:HO}(h:b≠a):upd H a o b=H b:=by unfold upd;rw[if_neg h]
theorem Qx{H:Hp}{a b:ak}{o:HO}(h:H a=some o)(h':H b=none):a≠b:=by
 intro e;subst e;rw[h]at h';cases h'
def IsTD(h:aW)(a:ak)(items:Array ah):Prop:=∃o,h.get? a=some o/\o.cls=.type "tuple" /\ (∃n,o.data=.seq items n)/\o.dict=none
theorem IsTD.tup{h:aW}{a:ak}{items:Array ah}(x:IsTD h a items):mY h a items:=by
 obtain⟨o,e,c,d,_⟩:=x;exact⟨o,e,c,d⟩
theorem IsTD.lt{h:aW}{a:ak}{items:Array ah}(x:IsTD h a items):a<h.objs.size:=x.tup.lt
theorem IsTD.new(h:aW)(items:Array ah):IsTD (h.push { cls:=.type "tuple",data:=.seq items }) h.objs.size items:=⟨_,aH _ rfl,rfl,⟨_,rfl⟩,rfl⟩
def TabOk(H:Hp)(q:Str)(ps:Array ah):Prop:=TriplesOk ps.toList/\∀(pos:Pos) (x:ah),codeAmong pos ps.toList=some x->∃(c:ak) (o:Obj) (u:HO) (v:Array ah) (t:Tok),x=.ref c/\H c=some (.frz o u)/\o.data=.fields v/\v[1]?=some (.str q t)
section
variable(P:aL)(w:aT)
def JK(H:Hp)(h:aW)(a:ak):HO->Prop
 | .lst xs=>xs.length<=sizeLine/\∃(G:List ah) (n:Nat),Vals xs G/\h.get? a=some { cls:=.type "list",data:=.seq G.toArray n }
 | .tup xs=>xs.length<=sizeLine/\∃G:List ah,Vals xs G/\IsTD h a G.toArray
 | .dK I=>I.length<=sizeLine/\(a == sysModules)=false/\∃Y,KV I Y/\h.DictOf (Y0 P w) a Y
 | .dT I=>I.length<=sizeLine/\(a == sysModules)=false/\∃xs:List (List Key×ak×ah),
   eN (fun(p:List Key×V) (q:List Key×ak×ah)=>p.1=q.1/\H q.2.1=some (.tup (p.1.map kV))/\RelV p.2 q.2.2) I xs /\
   ∃o U ep,h.get? a=some o/\o.ExactDict/\o.data=.dict U ep/\U.toList=xs.map (entryOfKey (tupleKind (Y0 P w)))/\(xs.map (·.1)).Nodup
 | .set S n=>h.SetOf (intKind P w) a S n
 | .ins C L fs=>H L=some (.own a)/\fs.length<=1000/\L≠a/\h.get? a=some (lG C L) /\
   ∃J,h.Ns1 L J/\(∀f,RelO (fs.lookup f) (J f))/\tv J (fs.map (·.1))
 | .own _=>∃o,h.get? a=some o
 | .xd fs=>∃J,h.Ns1 a J/\∀f,RelO (fs.lookup f) (J f)
 | .rng lo hi=>∃t u v,h.get? a=some { cls:=.type "range",data:=.fields #[.int lo t,.int hi u,.int 1 v] }
 | .frz o u=>h.get? a=some o/\JK H h a u
 | .tbl q=>∃ps:Array ah,h.get? a=some { cls:=.none,data:=.fields ps }/\TabOk H q ps
 | .met f x=>h.get? a=some (km (.ref f) (.ref x))
 | .ext R=>R h/\(∃o,h.get? a=some o)/\∀h1 Z:aW,R h1->(∀o,h1.get? a=some o->Z.get? a=some o)->R Z
def HOk(H:Hp)(h:aW):Prop:=∀a o,H a=some o->JK P w H h a o
end
section
variable{P:aL}{w:aT}{H H':Hp}{h h':aW}{a:ak}{o:HO}
theorem JK.lt(x:JK P w H h a o):a<h.objs.size:=by
 cases o with
 | lst xs=>obtain⟨_,_,_,_,e⟩:=x;exact aD e
 | tup xs=>obtain⟨_,_,_,p⟩:=x;exact p.lt
 | dK l=>obtain⟨_,_,_,_,o,_,_,e,_⟩:=x;exact aD e
 | dT l=>obtain⟨_,_,_,_,o,_,_,e,_⟩:=x;exact aD e
 | set S n=>obtain⟨o,_,_,_,e,_⟩:=x;exact aD e
 | ins C v fs=>obtain⟨_,_,_,e,_⟩:=x;exact aD e
 | own y=>obtain⟨_,e⟩:=x;exact aD e
 | xd fs=>obtain⟨_,⟨_,_,_,e,_⟩,_⟩:=x;exact aD e
 | rng lo hi=>obtain⟨_,_,_,e⟩:=x;exact aD e
 | frz I u=>obtain⟨e,_⟩:=x;exact aD e
 | tbl q=>obtain⟨_,e,_⟩:=x;exact aD e
 | met f y=>exact aD (show h.get? a=some _ from x)
 | ext G=>obtain⟨_,⟨_,e⟩,_⟩:=x;exact aD e
theorem Paired.mapP{α x:Type}{F G:α->x->Prop}{v:List α}{u:List x}(h:eN F v u)(f:∀a b,F a b->G a b):eN G v u:=by
 induction h with
 | nil=>exact .nil
 | cons r _ y=>exact .cons (f _ _ r) y
theorem JK.stay(x:JK P w H h a o)(k:∀b u,(b=a\/H b=some (.own a))->h.get? b=some u->h'.get? b=some u)
  (ho:∀b,H b=some (.own a)->H' b=some (.own a)) (ht:∀b xs,H b=some (.tup xs)->H' b=some (.tup xs)) (hf:∀b G u,H b=some (.frz G u)->H' b=some (.frz G u)):JK P w H' h' a o:=by
 induction o with
 | lst xs=>obtain⟨z,L,n,r,e⟩:=x;exact⟨z,L,n,r,k _ _ (.inl rfl) e⟩
 | tup xs=>obtain⟨z,L,r,G,e,c⟩:=x;exact⟨z,L,r,G,k _ _ (.inl rfl) e,c⟩
 | dK R=>obtain⟨z,y,U,r,G,I,J,e,c⟩:=x;exact⟨z,y,U,r,G,I,J,k _ _ (.inl rfl) e,c⟩
 | dT R =>
  obtain⟨z,y,xs,r,G,I,J,e,c⟩:=x;exact⟨z,y,xs,Paired.mapP r fun p q z=>⟨z.1,ht _ _ z.2.1,z.2.2⟩,G,I,J,k _ _ (.inl rfl) e,c⟩
 | set S n=>obtain⟨G,I,J,t,e,c⟩:=x;exact⟨G,I,J,t,k _ _ (.inl rfl) e,c⟩
 | ins C dx fs =>
  obtain⟨d,z,ne,e,Z,⟨Y,I,J,N,c⟩,r⟩:=x;exact⟨ho _ d,z,ne,k _ _ (.inl rfl) e,Z,⟨Y,I,J,k _ _ (.inr d) N,c⟩,r⟩
 | own y=>obtain⟨G,e⟩:=x;exact⟨G,k _ _ (.inl rfl) e⟩
 | xd fs=>obtain⟨Z,⟨Y,I,J,e,c⟩,r⟩:=x;exact⟨Z,⟨Y,I,J,k _ _ (.inl rfl) e,c⟩,r⟩
 | rng lo hi=>obtain⟨t,u,v,e⟩:=x;exact⟨t,u,v,k _ _ (.inl rfl) e⟩
 | frz G u ih=>obtain⟨e,q⟩:=x;exact⟨k _ _ (.inl rfl) e,ih q⟩
 | tbl q =>
  obtain⟨ps,e,z,r⟩:=x;refine⟨ps,k a _ (.inl rfl) e,z,fun pos cv m=>?_⟩
  obtain⟨c,o,u,U,t,e1,N,e3⟩:=r pos cv m;exact⟨c,o,u,U,t,e1,hf _ _ _ N,e3⟩
 | met f y =>
  have e:h.get? a=some (km (.ref f) (.ref y)):=x;show h'.get? a=some (km (.ref f) (.ref y))
  exact k a _ (.inl rfl) e
 | ext φ=>obtain⟨p,⟨o,e⟩,st⟩:=x;exact⟨st _ _ p fun o q=>k _ _ (.inl rfl) q,⟨o,k _ _ (.inl rfl) e⟩,st⟩
theorem HOk.lt(x:HOk P w H h)(e:H a=some o):a<h.objs.size:=(x a o e).lt
theorem HOk.fresh(x:HOk P w H h)(e:h.objs.size<=a):H a=none:=by
 cases q:H a with
 | none=>rfl
 | some u=>exact absurd (aE (x.lt q) e) (gE _)
theorem HOk.kept(x:HOk P w H h)(k:∀b u,h.get? b=some u->h'.get? b=some u):HOk P w H h':=fun a o e =>
 (x a o e).stay (fun b u _ q=>k b u q) (fun _ q=>q) (fun _ _ q=>q) fun _ _ _ q=>q
theorem HOk.laid(x:HOk P w H h)(k:∀b u,h.get? b=some u->h'.get? b=some u)(C:h.objs.size<=a)(new:JK P w (upd H a o) h' a o):HOk P w (upd H a o) h':=fun b u e=>by
 have l:=x.fresh C
 by_cases hb:b=a
 ·subst hb;rw[JM]at e;cases e;exact new
 ·rw[Jn hb]at e;exact(x b u e).stay (fun c v _ q=>k c v q) (fun c q=>by rw[Jn (Qx q l)];exact q) (fun c xs q=>by rw[Jn (Qx q l)];exact q) fun c G xs q=>by rw[Jn (Qx q l)];exact q
end
def Rd(H:Hp)(a:ak)(u:HO):Prop:=H a=some u\/∃o,H a=some (.frz o u)
theorem Rd.ok{P:aL}{w:aT}{H:Hp}{h:aW}{a:ak}{u:HO}(r:Rd H a u)(x:HOk P w H h):JK P w H h a u:=by
 rcases r with r|⟨o,r⟩
 ·exact x a u r
 ·obtain⟨_,q⟩:=x a _ r;exact q
def Mut:Option HO->Prop
 | some (.lst _)=>True
 | some (.dK _)=>True
 | some (.dT _)=>True
 | some (.set _ _)=>True
 | some (.ins _ _ _)=>True
 | some (.ext _)=>True
 | _=>False
section
variable{P:aL}{w:aT}{H:Hp}{h h':aW}{x e:ak}{o':HO}
theorem HOk.write(ok:HOk P w H h)(l:Mut (H x))(L:e=x\/H e=some (.own x))(k:∀b u,b≠e->h.get? b=some u->h'.get? b=some u)(J:∃u,h'.get? e=some u)
  (new:JK P w (upd H x o') h' x o'):HOk P w (upd H x o') h':=fun b u q=>by
 have N:∀c y,H c=some (.own y)->c≠x:=fun c y r z=>by subst z;rw[r]at l;exact l
 have G:∀c xs,H c=some (.tup xs)->c≠x:=fun c xs r z=>by subst z;rw[r]at l;exact l
 have C:∀c I xs,H c=some (.frz I xs)->c≠x:=fun c I xs r z=>by subst z;rw[r]at l;exact l
 by_cases hb:b=x
 ·subst hb;rw[JM]at q;cases q;exact new
 ·rw[Jn hb]at q
  by_cases hbe:b=e
  ·have R:H b=some (.own x):=by
    rcases L with z|z
    ·exact absurd (hbe.trans z) hb
    ·rw[hbe];exact z
   rw[q]at R;cases R;obtain⟨v,S⟩:=J;exact⟨v,by rw[hbe];exact S⟩
  ·refine(ok b u q).stay (fun c v hc r=>k c v ?_ r) (fun c r=>by rw[Jn (N c b r)];exact r) (fun c xs r=>by rw[Jn (G c xs r)];exact r) fun c I xs r=>by rw[Jn (C c I xs r)];exact r
   rcases hc with rfl|hc
   ·exact hbe
   ·rintro rfl;rcases L with z|z
    ·exact N c b hc z
    ·rw[hc]at z;cases z;exact hb rfl
end
structure Un(fs ex:List ak)(H H':Hp)(h h':aW):Prop where
 keep:∀b o,h.get? b=some o->H b=none->b∉fs->b∉ex->h'.get? b=some o
 slot:∀b o,h.get? b=some o->H b=none->b∈fs->b∉ex->∃sl,h'.get? b=some { o with slots:=sl }
 free:∀b o,h.get? b=some o->H b=none->b∉ex->H' b=none
 there:∀b o,h.get? b=some o->b∉ex->∃o',h'.get? b=some o'
 tups:∀b xs,H b=some (.tup xs)->H' b=some (.tup xs)
 frzs:∀b o u,H b=some (.frz o u)->H' b=some (.frz o u)
 tbls:∀b q,H b=some (.tbl q)->H' b=some (.tbl q)
section
variable{fs fs' ex ex':List ak}{H H1 H2:Hp}{h h1 h2 h':aW}{a x e:ak}{o:HO}
theorem Un.any(u:Un fs ex H H1 h h1){b:ak}{l:Obj}(q:h.get? b=some l)(n:H b=none)(hx:b∉ex):∃v,h1.get? b=some { l with slots:=v }:=by
 by_cases hb:b∈fs
 ·exact u.slot b l q n hb hx
 ·exact⟨l.slots,u.keep b l q n hb hx⟩
theorem Un.kept(k:∀b u,h.get? b=some u->h'.get? b=some u):Un fs ex H H h h' :=
 ⟨fun b l q _ _ _=>k b l q,fun b l q _ _ _=>⟨l.slots,k b l q⟩,fun _ _ _ n _=>n,fun b l q _=>⟨l,k b l q⟩,fun _ _ q=>q,fun _ _ _ q=>q,fun _ _ q=>q⟩
theorem Un.refl:Un fs ex H H h h:=Un.kept fun _ _ q=>q
theorem Un.laid(k:∀b u,h.get? b=some u->h'.get? b=some u)(v:h.objs.size<=a)(l:H a=none):Un fs ex H (upd H a o) h h' where
 keep:=fun b u q _ _ _=>k b u q
 slot:=fun b u q _ _ _=>⟨u.slots,k b u q⟩
 free:=fun b u q n _=>by rw[Jn (aJ (aE (aD q) v))];exact n
 there:=fun b u q _=>⟨u,k b u q⟩
 tups:=fun b xs q=>by rw[Jn (Qx q l)];exact q
 frzs:=fun b u xs q=>by rw[Jn (Qx q l)];exact q
 tbls:=fun b ps q=>by rw[Jn (Qx q l)];exact q
theorem Un.write(l:Mut (H x))(G:e=x\/H e=some (.own x))(k:∀b u,b≠e->h.get? b=some u->h'.get? b=some u)(v:∃u,h'.get? e=some u):Un fs ex H (upd H x o) h h':=by
 have hx:∀b,H b=none->b≠x:=fun b n z=>by subst z;rw[n]at l;exact l
 have C:∀b,H b=none->b≠e:=fun b n z=>by
  subst z;rcases G with r|r
  ·exact hx b n r
  ·rw[n]at r;cases r
 have y:∀b u,H b=some u->¬Mut (some u)->b≠x:=fun b u q nm z=>by subst z;rw[q]at l;exact nm l
 refine⟨fun b u q n _ _=>k b u (C b n) q,fun b u q n _ _=>⟨u.slots,k b u (C b n) q⟩,fun b u q n _=>by rw[Jn (hx b n)];exact n,fun b u q _=>?_,
  fun b xs q=>by rw[Jn (y b _ q fun z=>z)];exact q,fun b u xs q=>by rw[Jn (y b _ q fun z=>z)];exact q,fun b ps q=>by rw[Jn (y b _ q fun z=>z)];exact q⟩
 by_cases hbe:b=e
 ·subst hbe;exact v
 ·exact⟨u,k b u hbe q⟩
end
def trk(h:aW)(H:Hp):List ak:=(fD h.objs.size).filter fun a=>(H a).isSome
def hidT(h:aW)(H:Hp):aW:=oH h (trk h H)
theorem zmk(h:aW)(H:Hp):(hidT h H).objs.size=h.objs.size:=PySem.W.hideAll_size _ _
theorem zor{h:aW}{H:Hp}{b:ak}{o:Obj}(e:h.get? b=some o)(n:H b=none):(hidT h H).get? b=some o :=
 mo _ e fun l=>by
  have q:(H b).isSome=true:=(eD.mp l).2;rw[n]at q;simp at q
theorem zqg{h:aW}{H:Hp}{b:ak}{o:Obj}(e:(hidT h H).get? b=some o):h.get? b=some o/\H b=none:=by
 have l:h.get? b=some o:=mM (trk h H) e;refine⟨l,?_⟩;cases q:H b with
 | none=>rfl
 | some x =>
  have u:b∈trk h H:=eD.mpr ⟨gV.mpr (aD l),by simp[q]⟩
  have z:(hidT h H).get? b=none:=PySem.W.hideAll_none (trk h H) u;rw[z]at e;cases e
structure Mod(K:qF)(mg:qM)(base:aW):Prop where
 kin:K.In base
 glob:base.Ns mainGlobals mg
 blt:∃mb,base.Ns builtinsNs mb/\∀x:Str,x ≠ "__name__" -> mb x=bootBuiltins x
 nolimit:base.NoLimit
structure Cx where
 prog:aL
 w:aT
 K:qF
 mg:Str->Option ah
 base:aW
 A:br
 N:List Str
 s₀:aq
 H₀:Hp
 env:Env
 outer:List Env
 stack:List Env
 ex:List ak
 fn:Str->Bool
 calm:Bool
 pn:List (ak×Obj)
 xe:ah->aq->Prop
def frs(l:List Env):List ak:=l.filterMap (·.frame)
abbrev Cx.fs(X:Cx):List ak:=frs X.outer
def Vis(sc:fA)(x:Str):Prop:=sc.names.lookup x=some .local\/sc.names.lookup x=some .cell\/sc.names.lookup x=some .free
def Loc(sc:fA)(x:Str):Prop:=sc.names.lookup x=some .local\/sc.names.lookup x=some .cell
def Look(env:Env)(h:aW)(m:qM)(x:Str)(u:ah):Prop :=
 (env.kindOf x=some .local/\m x=some u)\/((env.kindOf x=some .cell\/env.kindOf x=some .free)/\∃c,env.cells.lookup x=some c/\h.IsCell c (some u))
structure Cx.Ok(X:Cx):Prop where
 mod:Mod X.K X.mg X.base
 kind:X.env.scope.kind=.function
 glob:X.env.globals=mainGlobals
 blt:X.env.builtins=builtinsNs
 above:X.s₀.heap.objs.size<=X.env.locals
 inj:∀x y c,X.env.cells.lookup x=some c->X.env.cells.lookup y=some c->x=y
 has:∀x,(X.env.kindOf x=some .cell\/X.env.kindOf x=some .free)->∃c,X.env.cells.lookup x=some c
 cab:∀x c,X.fn x=true->X.env.cells.lookup x=some c->X.s₀.heap.objs.size<=c
 hd:X.calm=true->X.A.handled=none
 frames:X.A.frames=some X.stack
 stk:X.stack=X.outer\/(X.stack=X.env::X.outer/\X.env.frame=some X.env.locals)
 exf:∀b∈X.ex,b≠X.env.locals/\∀x c,X.env.cells.lookup x=some c->c≠b
 bs:∀b o,X.base.get? b=some o->X.s₀.heap.get? b=some o/\X.H₀ b=none
 bsz:X.base.objs.size<=X.s₀.heap.objs.size
 noex:∀b o,X.base.get? b=some o->b∉X.ex
 exfs:∀b∈X.ex,b∉X.fs
 funs:X.s₀.heap.FunFrames X.base X.outer
 frf:∀b∈X.fs,X.H₀ b=none
structure Inv(X:Cx)(pins:qO)(σ:List (Option V))(H:Hp)(s:aq):Prop where
 ok:X.Ok
 os:s.os=X.s₀.os
 bare:iy s.gens
 base:Un X.fs X.ex X.H₀ H X.s₀.heap s.heap
 loc:∃m,s.heap.Ns X.env.locals m/\∀(i:Nat) (x:Str) (v:V),X.N[i]?=some x->σ[i]?=some (some v)->Vis X.env.scope x->∃u,RelV v u/\Look X.env s.heap m x u
 cell:∀x c,X.env.cells.lookup x=some c->∃v,s.heap.IsCell c v
 free:H X.env.locals=none
 freeC:∀x c,X.env.cells.lookup x=some c->H c=none
 pin:∀p∈X.pn++pins,s.heap.get? p.1=some p.2/\H p.1=none/\p.1≠X.env.locals/\p.1∉X.fs/\∀v,p.2.data≠.cell v
 hok:HOk X.prog X.w H s.heap
 len:σ.length=X.N.length
section
variable{X:Cx}{pins:qO}{σ:List (Option V)}{H H':Hp}{s:aq}{h':aW}
theorem Cx.Ok.nofr(ok:X.Ok){b:ak}{o:Obj}(e:X.base.get? b=some o):b∉X.fs:=fun l=>by
 have:=(ok.funs.mem l).1;rw[e]at this;cases this
theorem Inv.bs(I:Inv X pins σ H s):∀b o,X.base.get? b=some o->s.heap.get? b=some o/\H b=none:=fun b o e =>
 ⟨I.base.keep b o (I.ok.bs b o e).1 (I.ok.bs b o e).2 (I.ok.nofr e) (I.ok.noex b o e),I.base.free b o (I.ok.bs b o e).1 (I.ok.bs b o e).2 (I.ok.noex b o e)⟩
theorem Inv.bk(I:Inv X pins σ H s):∀b o,X.base.get? b=some o->s.heap.get? b=some o:=fun b o e=>(I.bs b o e).1
theorem Inv.mod(I:Inv X pins σ H s):Mod X.K X.mg X.base:=I.ok.mod
theorem Inv.kIn(I:Inv X pins σ H s):X.K.In s.heap:=I.ok.mod.kin.keeps I.bk
theorem Inv.lt(I:Inv X pins σ H s):X.env.locals<s.heap.objs.size:=let ⟨_,hn,_⟩:=I.loc;hn.lt
theorem Inv.sz(I:Inv X pins σ H s):X.s₀.heap.objs.size<=s.heap.objs.size:=cB I.ok.above (mZ I.lt)
theorem Inv.nofs(I:Inv X pins σ H s){a:ak}(h:s.heap.objs.size<=a):a∉X.fs:=fun u=>by
 obtain⟨_,o,l,_⟩:=I.ok.funs.mem u;exact absurd (aE (aD l) (cB I.sz h)) (gE _)
theorem Inv.cne(I:Inv X pins σ H s):∀x c,X.env.cells.lookup x=some c->c≠X.env.locals:=fun x c e z=>by
 obtain⟨v,o,y,hd⟩:=I.cell x c e;obtain⟨m,⟨J,C,G,l,u,_⟩,_⟩:=I.loc;rw[z,l]at y;cases y;rw[u]at hd;cases hd
theorem Inv.funs(I:Inv X pins σ H s):s.heap.FunFrames X.base X.outer:=by
 have all:∀(l:List Env),(∀b∈frs l,b∈X.fs)->X.s₀.heap.FunFrames X.base l->s.heap.FunFrames X.base l:=by
  intro l;induction l with
  | nil=>intro _ _;trivial
  | cons env r N =>
   intro x y;obtain⟨G,⟨L,o,hf,R,J,hd⟩,C⟩:=y;have u:L∈X.fs:=x L (by unfold frs;rw[dF,hf];exact cC)
   obtain⟨S,e⟩:=I.base.slot L o J (I.ok.frf L u) u fun z=>I.ok.exfs L z u
   exact⟨G,⟨L,_,hf,R,e,hd⟩,N (fun b v=>x b (by unfold frs;rw[dF,hf];exact b5 _ v)) C⟩
 exact all X.outer (fun _ v=>v) I.ok.funs
theorem Inv.stack(I:Inv X pins σ H s):s.heap.FunFrames X.base X.stack:=by
 rcases I.ok.stk with e|⟨e,hf⟩
 ·rw[e];exact I.funs
 ·rw[e];obtain⟨m,l,_⟩:=I.loc;refine .cons (by rw[I.ok.kind];decide) hf l ?_ I.funs
  exact Heap.get?_none_of_le (cB I.ok.bsz I.ok.above)
theorem Inv.stkSub(I:Inv X pins σ H s):∀b∈frs X.stack,b∈X.env.locals::X.fs:=fun b l=>by
 rcases I.ok.stk with e|⟨e,hf⟩
 ·rw[e]at l;exact b5 _ l
 ·rw[e]at l;unfold frs at l;rw[dF,hf]at l;exact l
theorem Inv.stkFree(I:Inv X pins σ H s):∀b∈frs X.stack,H b=none:=fun b l=>by
 rcases ax.mp (I.stkSub b l) with e|l
 ·rw[e];exact I.free
 ·obtain⟨_,o,u,_⟩:=I.ok.funs.mem l;exact I.base.free b o u (I.ok.frf b l) fun z=>I.ok.exfs b z l
theorem Inv.step{g':Array GenState}{t':Nat}{d':Drawn}{ch:List ak}(I:Inv X pins σ H s)
  (C:∀b∈ch,(b∈X.ex\/X.s₀.heap.objs.size<=b)/\b≠X.env.locals/\(∀x c,X.env.cells.lookup x=some c->c≠b)/\∀p∈X.pn++pins,p.1≠b)
  (keep:∀b o,b≠X.env.locals->b∉X.fs->b∉ch->s.heap.get? b=some o->H b=none->h'.get? b=some o)
  (slot:∀b o,b≠X.env.locals->b∈X.fs->b∉ch->s.heap.get? b=some o->H b=none->∃Y,h'.get? b=some { o with slots:=Y }) (free:∀b o,b∉ch->s.heap.get? b=some o->H b=none->H' b=none)
  (there:∀b o,b∉ch->s.heap.get? b=some o->∃R,h'.get? b=some R)
  (tups:∀b xs,H b=some (.tup xs)->H' b=some (.tup xs)) (frzs:∀b o u,H b=some (.frz o u)->H' b=some (.frz o u)) (tbls:∀b q,H b=some (.tbl q)->H' b=some (.tbl q))
  (ns:∀m,s.heap.Ns X.env.locals m->h'.Ns X.env.locals m) (hok:HOk X.prog X.w H' h') (hg:iy g') :
  Inv X pins σ H' { s with heap:=h',gens:=g',drawn:=d',toks:=t' }:=by
 have S:∀b o,X.s₀.heap.get? b=some o->b≠X.env.locals:=fun b o e=>aJ (aE (aD e) I.ok.above)
 have G:∀b o,X.s₀.heap.get? b=some o->b∉X.ex->b∉ch:=fun b o e hx L=>by
  rcases(C b L).1 with z|z
  ·exact hx z
  ·exact absurd (aE (aD e) z) (gE _)
 have cellK:∀x c,X.env.cells.lookup x=some c->∀v,s.heap.IsCell c v->h'.IsCell c v:=fun x c e v ⟨o,N,hd⟩=>by
  have y:c∉ch:=fun z=>(C c z).2.2.1 x c e rfl
  by_cases hc:c∈X.fs
  ·obtain⟨Y,q⟩:=slot c o (I.cne x c e) hc y N (I.freeC x c e);exact⟨_,q,hd⟩
  ·exact⟨o,keep c o (I.cne x c e) hc y N (I.freeC x c e),hd⟩
 refine⟨I.ok,I.os,hg,⟨fun b o e n L hx=>?_,fun b o e n L hx=>?_,fun b o e n hx=>?_,fun b o e hx=>?_,fun b xs e=>tups b xs (I.base.tups b xs e),fun b o xs e=>frzs b o xs (I.base.frzs b o xs e),fun b ps e=>?_⟩,?_,fun x c e=>?_,?_,fun x c e=>?_,fun p hp=>?_,hok,I.len⟩
 ·exact keep b o (S b o e) L (G b o e hx) (I.base.keep b o e n L hx) (I.base.free b o e n hx)
 ·obtain⟨Y,J⟩:=I.base.slot b o e n L hx;obtain⟨U,Z⟩:=slot b _ (S b o e) L (G b o e hx) J (I.base.free b o e n hx);exact⟨U,Z⟩
 ·obtain⟨R,J⟩:=I.base.there b o e hx;exact free b R (G b o e hx) J (I.base.free b o e n hx)
 ·obtain⟨R,J⟩:=I.base.there b o e hx;exact there b R (G b o e hx) J
 ·exact tbls b ps (I.base.tbls b ps e)
 ·obtain⟨m,hn,hl⟩:=I.loc;refine⟨m,ns m hn,fun i x v J Z e3=>?_⟩
  obtain⟨u,r,l⟩:=hl i x v J Z e3;refine⟨u,r,?_⟩;rcases l with l|⟨k,c,e,z⟩
  ·exact .inl l
  ·exact .inr ⟨k,c,e,cellK x c e _ z⟩
 ·obtain⟨v,z⟩:=I.cell x c e;exact⟨v,cellK x c e v z⟩
 ·obtain⟨m,⟨o,_,_,N,_⟩,_⟩:=I.loc;exact free _ o (fun z=>(C _ z).2.1 rfl) N I.free
 ·obtain⟨v,o,N,hd⟩:=I.cell x c e;exact free c o (fun z=>(C c z).2.2.1 x c e rfl) N (I.freeC x c e)
 ·obtain⟨e,n,ne,nf,d⟩:=I.pin p hp;have y:p.1∉ch:=fun z=>(C p.1 z).2.2.2 p hp rfl
  exact⟨keep p.1 p.2 ne nf y e n,free p.1 p.2 y e n,ne,nf,d⟩
theorem Inv.un{t':Nat}(I:Inv X pins σ H s)(u:Un X.fs [] H H' s.heap h')(hok:HOk X.prog X.w H' h'):Inv X pins σ H' { s with heap:=h',toks:=t' }:=by
 obtain⟨m,⟨o,N,U,C,r⟩,_⟩:=id I.loc;obtain⟨S,G⟩:=u.any C I.free (by simp)
 exact I.step (g':=s.gens) (d':=s.drawn) (ch:=[]) (fun _ z=>nomatch z) (fun b o _ x _ e n=>u.keep b o e n x (by simp)) (fun b o _ x _ e n=>u.slot b o e n x (by simp)) (fun b o _ e n=>u.free b o e n (by simp)) (fun b o _ e=>u.there b o e (by simp)) u.tups u.frzs u.tbls (fun R L=>by
  obtain⟨Y,y,v,l,J⟩:=L;rw[C]at l;cases l;exact⟨_,y,v,G,J⟩) hok I.bare
theorem Inv.call{g':Array GenState}{t':Nat}{d':Drawn}{ch:List ak}(I:Inv X pins σ H s)(u:Un (frs X.stack) ch H H' s.heap h')(hok:HOk X.prog X.w H' h')(N:iy g')
  (y:∀b∈ch,(b∈X.ex\/X.s₀.heap.objs.size<=b)/\b≠X.env.locals/\(∀x c,X.env.cells.lookup x=some c->c≠b)/\∀p∈X.pn++pins,p.1≠b) :
  Inv X pins σ H' { s with heap:=h',gens:=g',drawn:=d',toks:=t' }:=by
 obtain⟨m,⟨o,Y,ep,L,r⟩,_⟩:=id I.loc;obtain⟨sl,C⟩:=u.any L I.free fun z=>(y _ z).2.1 rfl
 exact I.step (ch:=ch) y (fun b o C U hc e n=>u.keep b o e n (fun z=>(ax.mp (I.stkSub b z)).elim C U) hc) (fun b o _ _ hc e n=>u.any e n hc) (fun b o hc e n=>u.free b o e n hc) (fun b o hc e=>u.there b o e hc) u.tups u.frzs u.tbls (fun Z S=>by
  obtain⟨o',J,G,v,R⟩:=S;rw[L]at v;cases v;exact⟨_,J,G,C,R⟩) hok N
theorem Inv.turned{t':Nat}{it:ak}(I:Inv X pins σ H s)(k:∀b o,b≠it->s.heap.get? b=some o->h'.get? b=some o)(R:H it=none)(C:it≠X.env.locals)
  (Y:it∈X.ex\/X.s₀.heap.objs.size<=it) (S:∀x c,X.env.cells.lookup x=some c->c≠it) (L:∀p∈X.pn++pins,p.1≠it):Inv X pins σ H { s with heap:=h',toks:=t' }:=by
 have l:∀b u,H b=some u->b≠it:=fun b u e z=>by rw[z,R]at e;cases e
 refine I.step (g':=s.gens) (d':=s.drawn) (ch:=[it]) (fun b Z=>?_) (fun b o _ _ hc e _=>k b o (fun z=>hc (by simp[z])) e) (fun b o _ _ hc e _=>⟨o.slots,k b o (fun z=>hc (by simp[z])) e⟩) (fun _ _ _ _ n=>n)
  (fun b o hc e=>⟨o,k b o (fun z=>hc (by simp[z])) e⟩) (fun _ _ e=>e) (fun _ _ _ e=>e) (fun _ _ e=>e) (fun m U=>?_) (fun b u e=>?_) I.bare
 ·have e:b=it:=by simpa using Z
  subst e;exact⟨Y,C,S,L⟩
 ·obtain⟨o,G,N,J,r⟩:=U;exact⟨o,G,N,k _ o (ko C) J,r⟩
 ·refine(I.hok b u e).stay (fun c v hc q=>k c v ?_ q) (fun _ q=>q) (fun _ _ q=>q) fun _ _ _ q=>q
  rcases hc with z|z
  ·rw[z];exact l b u e
  ·exact l c _ z
theorem Inv.tok(I:Inv X pins σ H s)(t:Nat):Inv X pins σ H { s with toks:=t }:=I.un (h':=s.heap) (t':=t) Un.refl I.hok
theorem Inv.kept{t':Nat}(I:Inv X pins σ H s)(k:∀b u,s.heap.get? b=some u->h'.get? b=some u):Inv X pins σ H { s with heap:=h',toks:=t' }:=I.un (Un.kept k) (I.hok.kept k)
theorem Inv.laid{a:ak}{o:HO}{t':Nat}(I:Inv X pins σ H s)(k:∀b u,s.heap.get? b=some u->h'.get? b=some u)(l:s.heap.objs.size<=a)(new:JK X.prog X.w (upd H a o) h' a o) :
  Inv X pins σ (upd H a o) { s with heap:=h',toks:=t' }:=I.un (Un.laid k l (I.hok.fresh l)) (I.hok.laid k l new)
theorem Inv.write{x e:ak}{o:HO}{t':Nat}(I:Inv X pins σ H s)(y:Mut (H x))(v:e=x\/H e=some (.own x))(k:∀b u,b≠e->s.heap.get? b=some u->h'.get? b=some u)(l:∃u,h'.get? e=some u)
  (new:JK X.prog X.w (upd H x o) h' x o):Inv X pins σ (upd H x o) { s with heap:=h',toks:=t' }:=I.un (Un.write y v k l) (I.hok.write y v k l new)
theorem Inv.weak{σ':List (Option V)}(I:Inv X pins σ H s)(l:σ'.length=σ.length)(w:∀(i:Nat) v,σ'[i]?=some (some v)->σ[i]?=some (some v)):Inv X pins σ' H s :=
 ⟨I.ok,I.os,I.bare,I.base,let ⟨m,hn,hl'⟩:=I.loc;⟨m,hn,fun i x v y C u=>hl' i x v y (w i v C) u⟩,I.cell,I.free,I.freeC,I.pin,I.hok,l.trans I.len⟩
theorem Inv.pins_of{u:qO}(I:Inv X pins σ H s)(h:∀p∈u,s.heap.get? p.1=some p.2/\H p.1=none/\p.1≠X.env.locals/\p.1∉X.fs/\∀v,p.2.data≠.cell v):Inv X u σ H s :=
 ⟨I.ok,I.os,I.bare,I.base,I.loc,I.cell,I.free,I.freeC,fun p x=>(av.mp x).elim (fun z=>I.pin p (lR _ z)) (h p),I.hok,I.len⟩
theorem zgj{N:List Str}(l:N.Nodup){i j:Nat}{x:Str}(a:N[i]?=some x)(b:N[j]?=some x):i=j:=by
 obtain⟨y,u⟩:=az.mp a;obtain⟨C,v⟩:=az.mp b;exact(List.getElem_inj l).mp (u.trans v.symm)
theorem zgY{M:m4}{A:br}{E:qV}{i:Nat}{x:Str}{v:V}{u:ah}{Q:Unit->aq->Prop}(I:Inv X pins σ H s)(hN:X.N.Nodup)(hi:X.N[i]?=some x)(hx:Loc X.env.scope x)(r:RelV v u)
  (h:∀s',Inv X pins (σ.set i (some v)) H s'->(∃a,eG a s.heap s'.heap/\(a=X.env.locals\/X.env.cells.lookup x=some a))->Q () s') (hf:X.fn x=true\/X.env.scope.names.lookup x=some .local:=by walk_at "F"):wpAny M A (storeName X.env x u) Q E s:=by
 obtain⟨m,hn,hl⟩:=id I.loc;have Z:(X.env.scope.kind == .class||(X.env.scope.kind == .module&&X.env.locals != X.env.globals))=false:=by rw[I.ok.kind];rfl
 have L:i<σ.length:=by rw[I.len];exact(az.mp hi).1
 have cne:=I.cne;have tracked:∀{a:ak} {h':aW},(∃o,s.heap.get? a=some o/\H a=none)->eG a s.heap h'->HOk X.prog X.w H h':=fun {a h'} ha C b ob e=>by
  obtain⟨_,_,Iz⟩:=ha;refine(I.hok b ob e).stay (fun c w' hc q=>(C.2 c ?_).trans q) (fun _ q=>q) (fun _ _ q=>q) fun _ _ _ q=>q
  rintro rfl;rcases hc with rfl|hc
  ·rw[Iz]at e;cases e
  ·rw[Iz]at hc;cases hc
 rcases hx with hk|hk
 ·refine wpAny_storeName_local hk hn (fun h' hn' C=>?_) Z
  obtain⟨oL,_,_,hoL,_⟩:=id hn;refine h _ ⟨I.ok,I.os,I.bare,⟨fun b o e n N hx=>?_,fun b o e n N hx=>?_,I.base.free,fun b o e hx=>?_,I.base.tups,I.base.frzs,I.base.tbls⟩,⟨_,hn',fun j y v' G J e3=>?_⟩,fun y c e=>?_,I.free,I.freeC,fun p hp=>?_,tracked ⟨oL,hoL,I.free⟩ C,by simpa using I.len⟩ ⟨_,C,.inl rfl⟩
  ·exact(C.2 b (aJ (aE (aD e) I.ok.above))).trans (I.base.keep b o e n N hx)
  ·obtain⟨sl,G⟩:=I.base.slot b o e n N hx;exact⟨sl,(C.2 b (aJ (aE (aD e) I.ok.above))).trans G⟩
  ·obtain⟨o',G⟩:=I.base.there b o e hx;exact⟨o',(C.2 b (aJ (aE (aD e) I.ok.above))).trans G⟩
  ·by_cases hj:j=i
   ·subst hj;rw[hi]at G;cases G;rw[cc L]at J;cases J;exact⟨u,r,.inl ⟨hk,by simp⟩⟩
   ·rw[aS (ko hj)]at J;obtain⟨u',r',q⟩:=hl j y v' G J e3;refine⟨u',r',?_⟩;rcases q with⟨k,e⟩|⟨k,c,e,z⟩
    ·refine .inl ⟨k,?_⟩;have:y≠x:=fun e=>hj (zgj hN G (e▸hi))
     simp[this,e]
    ·exact .inr ⟨k,c,e,z.sameBut C (cne y c e)⟩
  ·obtain⟨w',z⟩:=I.cell y c e;exact⟨w',z.sameBut C (cne y c e)⟩
  ·obtain⟨e,n,ne,nf,d⟩:=I.pin p hp;exact⟨(C.2 p.1 ne).trans e,n,ne,nf,d⟩
 ·have R:X.fn x=true:=by
   rcases hf with z|z
   ·exact z
   ·rw[z]at hk;cases hk
  obtain⟨c,hc⟩:=I.ok.has x (.inl hk);obtain⟨w',z⟩:=I.cell x c hc;refine wpAny_storeName_cell I.ok.kind hk hc z (fun h' U C=>?_)
  obtain⟨oc,Y,S⟩:=id z;refine h { s with heap:=h' } ⟨I.ok,I.os,I.bare,⟨fun b o e n N hx=>?_,fun b o e n N hx=>?_,I.base.free,fun b o e hx=>?_,I.base.tups,I.base.frzs,I.base.tbls⟩,⟨m,hn.sameBut C (ko (cne x c hc)),fun j y v' G J e3=>?_⟩,fun y c' e=>?_,I.free,I.freeC,fun p hp=>?_,tracked ⟨oc,Y,I.freeC x c hc⟩ C,by simpa using I.len⟩ ⟨c,C,.inr hc⟩
  ·exact(C.2 b (aJ (aE (aD e) (I.ok.cab x c R hc)))).trans (I.base.keep b o e n N hx)
  ·obtain⟨sl,G⟩:=I.base.slot b o e n N hx;exact⟨sl,(C.2 b (aJ (aE (aD e) (I.ok.cab x c R hc)))).trans G⟩
  ·obtain⟨o',G⟩:=I.base.there b o e hx;exact⟨o',(C.2 b (aJ (aE (aD e) (I.ok.cab x c R hc)))).trans G⟩
  ·by_cases hj:j=i
   ·subst hj;rw[hi]at G;cases G;rw[cc L]at J;cases J;exact⟨u,r,.inr ⟨.inl hk,c,hc,U⟩⟩
   ·rw[aS (ko hj)]at J;obtain⟨u',r',q⟩:=hl j y v' G J e3;refine⟨u',r',?_⟩;rcases q with q|⟨k,c',e,z'⟩
    ·exact .inl q
    ·refine .inr ⟨k,c',e,z'.sameBut C ?_⟩;rintro rfl;exact hj (zgj hN G (I.ok.inj _ _ _ e hc▸hi))
  ·by_cases hcc:c'=c
   ·subst hcc;exact⟨_,U⟩
   ·obtain⟨w2,z2⟩:=I.cell y c' e;exact⟨w2,z2.sameBut C hcc⟩
  ·obtain⟨e,n,ne,nf,d⟩:=I.pin p hp;refine⟨(C.2 p.1 ?_).trans e,n,ne,nf,d⟩;intro q;rw[q,Y]at e;have q':oc=p.2:=aO e;exact d w' (by rw[<- q'];exact S)
theorem Za{M:m4}{A:br}{E:qV}{i:Nat}{x:Str}{v:V}{u:ah}{Q:Unit->aq->Prop}(I:Inv X pins σ H s)(y:X.N.Nodup)(hi:X.N[i]?=some x)(hx:Loc X.env.scope x)(r:RelV v u)
  (h:∀s',Inv X pins (σ.set i (some v)) H s'->Q () s') (hf:X.fn x=true\/X.env.scope.names.lookup x=some .local:=by walk_at "F"):wpAny M A (storeName X.env x u) Q E s :=
 zgY I y hi hx r (fun s' C _=>h s' C) hf
theorem Inv.call'{s':aq}{ch:List ak}(I:Inv X pins σ H s)(v:s'.os=s.os)(u:Un (frs X.stack) ch H H' s.heap s'.heap)(hok:HOk X.prog X.w H' s'.heap)(y:iy s'.gens)
  (l:∀b∈ch,(b∈X.ex\/X.s₀.heap.objs.size<=b)/\b≠X.env.locals/\(∀x c,X.env.cells.lookup x=some c->c≠b)/\∀p∈X.pn++pins,p.1≠b):Inv X pins σ H' s':=by
 obtain⟨h',g',d',t',C⟩:=s';have e:C=s.os:=v;subst e;exact I.call (g':=g') (t':=t') (d':=d') u hok y l
end
abbrev XK:=ah->Option ak->Hp->Prop
abbrev St:=List (Option V)
abbrev VK:=V->Hp->Prop
abbrev TE:=St->Hp->VK->Prop
abbrev TT:=St->Hp->(Bool->Hp->Prop)->Prop
abbrev TA:=St->Hp->(List V->Hp->Prop)->Prop
structure Ends where
 nx:St->Hp->Prop
 rt:VK
 bk:St->Hp->Prop:=fun _ _=>False
 ct:St->Hp->Prop:=fun _ _=>False
abbrev TS:=Ends->St->Hp->Prop
def EP(X:Cx)(pins:qO)(σ:St)(Q:VK)(u:ah)(s':aq):Prop:=∃v l,Inv X pins σ l s'/\RelV v u/\Q v l
def TP(X:Cx)(pins:qO)(σ:St)(Q:Bool->Hp->Prop)(b:Bool)(s':aq):Prop:=∃l,Inv X pins σ l s'/\Q b l
def AP(X:Cx)(pins:qO)(σ:St)(Q:List V->Hp->Prop)(v:List ah)(s':aq):Prop:=∃u l,Inv X pins σ l s'/\Vals u v/\Q u l
def SP(X:Cx)(pins:qO)(D:Ends)(f:Flow)(s':aq):Prop :=
 match f with
 | .next=>∃σ' l,Inv X pins σ' l s'/\D.nx σ' l
 | .brk=>∃σ' l,Inv X pins σ' l s'/\D.bk σ' l
 | .cont=>∃σ' l,Inv X pins σ' l s'/\D.ct σ' l
 | .ret u=>∃v σ' l,Inv X pins σ' l s'/\RelV v u/\D.rt v l
def PE(X:Cx)(e:aV)(t:TE):Prop :=
 ∀(pins:qO) (s:aq) (σ:St) (H:Hp) (Q:VK),Inv X pins σ H s->t σ H Q->wpAny (model X.prog X.w) X.A (eval e X.env) (EP X pins σ Q) X.xe s
def PT(X:Cx)(e:aV)(t:TT):Prop :=
 ∀(pins:qO) (s:aq) (σ:St) (H:Hp) (Q:Bool->Hp->Prop),Inv X pins σ H s->t σ H Q->wpAny (model X.prog X.w) X.A (isTrue e X.env (eval e X.env)) (TP X pins σ Q) X.xe s
def PW(X:Cx)(e:aV)(t:TT):Prop :=
 ∀(whole:Sem ah) (pins:qO) (s:aq) (σ:St) (H:Hp) (Q:Bool->Hp->Prop),Inv X pins σ H s->t σ H Q->wpAny (model X.prog X.w) X.A (isTrue e X.env whole) (TP X pins σ Q) X.xe s
theorem PW.pt{X:Cx}{e:aV}{t:TT}(h:PW X e t):PT X e t:=h _
def PA(X:Cx)(l:List aV)(t:TA):Prop :=
 ∀(pos:Pos) (pins:qO) (s:aq) (σ:St) (H:Hp) (Q:List V->Hp->Prop),Inv X pins σ H s->t σ H Q->wpAny (model X.prog X.w) X.A (spliced (backTo pos (starEach l X.env))) (AP X pins σ Q) X.xe s
def PS(X:Cx)(st:dH)(t:TS):Prop :=
 ∀(pins:qO) (s:aq) (σ:St) (H:Hp) (D:Ends),Inv X pins σ H s->t D σ H->wpAny (model X.prog X.w) X.A (exec st X.env) (SP X pins D) X.xe s
def PSs(X:Cx)(st:List dH)(t:TS):Prop :=
 ∀(pins:qO) (s:aq) (σ:St) (H:Hp) (D:Ends),Inv X pins σ H s->t D σ H->wpAny (model X.prog X.w) X.A (execs st X.env) (SP X pins D) X.xe s
theorem thn{α:Type}{t:Sem α}{Q l:α->aq->Prop}{M:m4}{A:br}{E:qV}{s:aq}(h:wpAny M A t Q E s)(u:∀a s,Q a s->l a s):wpAny M A t l E s:=c8 h u fun _ _ x=>x
section
variable{X:Cx}
def tVar(i:Nat):TE:=fun σ H Q=>∃v,σ[i]?=some (some v)/\Q v H
def tC(v:V):TE:=fun _ H Q=>Q v H
theorem QX{i:Nat}{x:Str}{pos:Pos}(L:X.N[i]?=some x)(R:Vis X.env.scope x)(hd:(x == ("__debug__":Str))=false:=by decide) (G:(x == ("__classdict__":Str))=false:=by decide):PE X (.Name x pos) (tVar i):=by
 intro pins s σ H Q I h;obtain⟨v,e,h⟩:=h;obtain⟨m,S,J⟩:=I.loc;obtain⟨u,r,l⟩:=J i x v L e R;have fin:EP X pins σ Q u s:=⟨v,H,I,r,h⟩;rcases l with⟨C,U⟩|⟨C,c,hc,y⟩
 ·exact o5 (wpAny_loadName_local I.ok.kind C S U fin) hd
 ·rcases C with C|C
  ·exact o5 (wpAny_loadName_cell I.ok.kind C hc y fin) hd
  ·exact o5 (wpAny_loadName_free I.ok.kind C hc y fin G) hd
theorem JD{i j pos}:PE X (.Constant (.int i) j pos) (tC (.int i)):=fun _ _ _ H _ I h=>wpAny_Constant_int ⟨.int i,H,I.tok _,⟨_,rfl⟩,h⟩
theorem zpY{b j pos}:PE X (.Constant (.bool b) j pos) (tC (.bl b)):=fun _ _ _ H _ I h=>Constant_bool ⟨.bl b,H,I,rfl,h⟩
theorem zsw{j pos}:PE X (.Constant .none j pos) (tC .non):=fun _ _ _ H _ I h=>Constant_none ⟨.non,H,I,rfl,h⟩
theorem zss{x j pos}:PE X (.Constant (.str x) j pos) (tC (.str x)):=fun _ _ _ H _ I h=>Calls.Constant_str ⟨.str x,H,I.tok _,⟨_,rfl⟩,h⟩
def Gl(X:Cx)(x:Str):Prop:=X.env.kindOf x=some .globalImplicit
theorem U4{E:qV}{pins:qO}{s:aq}{σ:St}{H:Hp}{x:Str}{u:ah}{pos:Pos}{Q:qV}(I:Inv X pins σ H s)(l:Gl X x)(v:X.mg x=some u)(h:Q u s)
  (hd:(x == ("__debug__":Str))=false:=by decide):wpAny (model X.prog X.w) X.A (eval (.Name x pos) X.env) Q E s :=
 gh I.ok.kind l (kM (by rw[I.ok.glob];exact I.mod.glob.keeps I.bk) v h) hd
theorem ZC{E:qV}{pins:qO}{s:aq}{σ:St}{H:Hp}{x:Str}{u:ah}{pos:Pos}{Q:qV}(I:Inv X pins σ H s)(l:Gl X x)(G:X.mg x=none)(v:bootBuiltins x=some u)(h:Q u s)
  (y:x ≠ "__name__":=by decide) (hd:(x == ("__debug__":Str))=false:=by decide):wpAny (model X.prog X.w) X.A (eval (.Name x pos) X.env) Q E s:=by
 obtain⟨L,J,C⟩:=I.mod.blt;exact gh I.ok.kind l (Calls.loadGlobal_builtin (by rw[I.ok.glob];exact I.mod.glob.keeps I.bk) G (by rw[I.ok.blt];exact J.keeps I.bk) ((C x y).trans v) h) hd
theorem zpX{x:Str}{v:V}{u:ah}{pos:Pos}(l:Gl X x)(G:X.mg x=none)(y:bootBuiltins x=some u)(r:RelV v u)(C:x ≠ "__name__":=by decide) (hd:(x == ("__debug__":Str))=false:=by decide):PE X (.Name x pos) (tC v) :=
 fun _ _ _ H _ I h=>ZC I l G y ⟨v,H,I,r,h⟩ C hd
variable{a b:aV}{ta tb:TE}{pos:Pos}
def PC(X:Cx)(op:ow)(a b:aV)(t:TE):Prop :=
 ∀(pins:qO) (s:aq) (σ:St) (H:Hp) (Q:VK),Inv X pins σ H s->t σ H Q ->
  wpAny (model X.prog X.w) X.A (eval a X.env) (fun v x=>wpAny (model X.prog X.w) X.A (eval b X.env) (fun u l=>wpAny (model X.prog X.w) X.A (compareOp op v u) (EP X pins σ Q) X.xe l) X.xe x) X.xe s
def tB(t:TE):TT:=fun σ H Q=>t σ H fun x u=>∃c,x=.bl c/\Q c u
theorem zsf{op:ow}{t:TE}(h:PC X op a b t)(l:behindInMarks op b=false:=by first|exact nobehind _ (by decide) (by decide)|rfl):PT X (.Compare a [op] [b] pos) (tB t):=by
 intro pins s σ H Q I hw;refine lL (thn (h pins s σ H _ I hw) fun v s1 l=>thn l fun u s2 J=>thn J fun c s3 ⟨x,y,L,N,G⟩=>?_) l
 obtain⟨d,rfl,q⟩:=G;cases N;exact bV ⟨y,L,q⟩
variable{tA tB':TT}{rest:List aV}
def tAnd(t u:TT):TT:=fun σ H Q=>t σ H fun c l=>if c=true then u σ l Q else Q false l
def tOr(t u:TT):TT:=fun σ H Q=>t σ H fun c l=>if c=true then Q true l else u σ l Q
def tNot(t:TT):TT:=fun σ H Q=>t σ H fun c l=>Q (!c) l
theorem zpG(u:PT X a tA):PW X (.BoolOp .And [a] pos) tA:=by
 intro v pins s σ H Q I h;refine isTrue_and (thn (u pins s σ H Q I h) fun c s1 e=>?_)
 cases c with
 | true=>exact isTrue_and_nil e
 | false=>exact e
theorem zsa(u:PT X a tA):PW X (.BoolOp .Or [a] pos) tA:=by
 intro v pins s σ H Q I h;refine isTrue_or (thn (u pins s σ H Q I h) fun c s1 e=>?_)
 cases c with
 | false=>exact isTrue_or_nil e
 | true=>exact e
theorem zsb(C:PT X a tA)(G:PW X (.BoolOp .And (b::rest) pos) tB'):PW X (.BoolOp .And (a::b::rest) pos) (tAnd tA tB'):=by
 intro y pins s σ H Q I h;refine isTrue_and (thn (C pins s σ H _ I h) fun c s1 ⟨v,u,x⟩=>?_)
 cases c with
 | true=>exact G y pins s1 σ v Q u x
 | false=>exact⟨v,u,x⟩
theorem zv8(C:PT X a tA)(G:PW X (.BoolOp .Or (b::rest) pos) tB'):PW X (.BoolOp .Or (a::b::rest) pos) (tOr tA tB'):=by
 intro y pins s σ H Q I h;refine isTrue_or (thn (C pins s σ H _ I h) fun c s1 ⟨v,u,x⟩=>?_)
 cases c with
 | true=>exact⟨v,u,x⟩
 | false=>exact G y pins s1 σ v Q u x
theorem zse(l:PT X a tA):PT X (.UnaryOp .Not a pos) (tNot tA):=by
 intro pins s σ H Q I h;exact isTrue_not (l pins s σ H (fun c u=>Q (!c) u) I h)
def zvw(ta tb:TE):TE:=fun σ H Q=>ta σ H fun x u=>∃c,x=.bl c/\if c=true then tb σ u Q else Q (.bl false) u
def tOrV(ta tb:TE):TE:=fun σ H Q=>ta σ H fun x u=>∃c,x=.bl c/\if c=true then Q (.bl true) u else tb σ u Q
def zvp(ta:TE):TE:=fun σ H Q=>ta σ H fun x u=>∃c,x=.bl c/\Q (.bl (!c)) u
theorem zsu{op}{t:TE}(h:PE X a t):PE X (.BoolOp op [a] pos) t:=fun pins s σ H Q I hw=>BoolOp_one (h pins s σ H Q I hw)
theorem zsA(G:PE X a ta)(L:PE X (.BoolOp .And (b::rest) pos) tb):PE X (.BoolOp .And (a::b::rest) pos) (zvw ta tb):=by
 intro pins s σ H Q I h;refine BoolOp_and (thn (G pins s σ H _ I h) fun v s1 ⟨x,y,C,J,u⟩=>?_)
 obtain⟨c,rfl,u⟩:=u;cases J;refine bV ?_;cases c with
 | true=>exact L pins s1 σ y Q C u
 | false=>exact⟨.bl false,y,C,rfl,u⟩
theorem zv_(G:PE X a ta)(L:PE X (.BoolOp .Or (b::rest) pos) tb):PE X (.BoolOp .Or (a::b::rest) pos) (tOrV ta tb):=by
 intro pins s σ H Q I h;refine BoolOp_or (thn (G pins s σ H _ I h) fun v s1 ⟨x,y,C,J,u⟩=>?_)
 obtain⟨c,rfl,u⟩:=u;cases J;refine bV ?_;cases c with
 | false=>exact L pins s1 σ y Q C u
 | true=>exact⟨.bl true,y,C,rfl,u⟩
theorem zsv(L:PE X a ta):PE X (.UnaryOp .Not a pos) (zvp ta):=by
 intro pins s σ H Q I h;refine UnaryOp_ (thn (L pins s σ H _ I h) fun v s1 ⟨x,J,C,G,u⟩=>?_)
 obtain⟨c,rfl,u⟩:=u;cases G;exact not_of (bV ⟨.bl (!c),J,C,rfl,u⟩)
def tIf(t:TT)(ta tb:TE):TE:=fun σ H Q=>t σ H fun c l=>if c=true then ta σ l Q else tb σ l Q
theorem znS{c:aV}(hc:PT X c tA)(y:PE X a ta)(C:PE X b tb):PE X (.IfExp c a b pos) (tIf tA ta tb):=by
 intro pins s σ H Q I h;refine wpAny_IfExp (thn (hc pins s σ H _ I h) fun d s1 ⟨u,l,v⟩=>?_)
 cases d with
 | true=>exact y pins s1 σ u Q l v
 | false=>exact C pins s1 σ u Q l v
end
def SqL(K:qF)(H:Hp)(a:ak)(xs:List V):Prop :=
 Rd H a (.lst xs) \/
  ∃(o:Obj) (u:Array ah) (n:Nat),K.lookup a=some o/\o.cls=.type "list" /\ o.dict=none/\o.data=.seq u n/\u.size<=sizeLine/\Vals xs u.toList
def SqT(K:qF)(H:Hp)(a:ak)(xs:List V):Prop :=
 Rd H a (.tup xs) \/
  ∃(o:Obj) (l:Array ah) (n:Nat),K.lookup a=some o/\o.cls=.type "tuple" /\ o.data=.seq l n/\l.size<=sizeLine/\Vals xs l.toList
def absV:ah->Option V
 | .none=>some .non
 | .bool b=>some (.bl b)
 | .int i _=>some (.int i)
 | .str x _=>some (.str x)
 | .bytes b _=>some (.byt b)
 | .float b _=>some (.flt b)
 | .ref a=>some (.ref a)
 | .type n=>some (.ty n)
 | _=>none
theorem RelV.abs{x:V}{u:ah}(r:RelV x u):absV u=some x:=by
 cases x with
 | non=>cases r;rfl
 | bl _=>cases r;rfl
 | int _=>obtain⟨t,rfl⟩:=r;rfl
 | str _=>obtain⟨t,rfl⟩:=r;rfl
 | byt _=>obtain⟨t,rfl⟩:=r;rfl
 | flt _=>obtain⟨t,rfl⟩:=r;rfl
 | ref _=>cases r;rfl
 | ty _=>cases r;rfl
theorem RelV.inj{x y:V}{u:ah}(r:RelV x u)(q:RelV y u):x=y:=aO (r.abs.symm.trans q.abs)
theorem Vals.inj{xs ys:List V}{l:List ah}(h:Vals xs l)(k:Vals ys l):xs=ys:=by
 induction h generalizing ys with
 | nil=>cases k;rfl
 | cons r t u =>
  cases k with
  | cons v t'=>rw[r.inj v,u t']
section
variable{X:Cx}{pins:qO}{σ:St}{H:Hp}{s:aq}{a:ak}{xs ys:List V}
theorem SqL.of{K:qF}(h:H a=some (.lst xs)):SqL K H a xs:=.inl (.inl h)
theorem Inv.list(I:Inv X pins σ H s)(h:SqL X.K H a xs):∃l:List ah,Vals xs l/\PlainL s.heap a l.toArray/\xs.length<=sizeLine:=by
 rcases h with h|⟨o,l,n,u,hc,hd,v,x,r⟩
 ·obtain⟨z,l,n,r,e⟩:=h.ok I.hok;exact⟨l,r,⟨_,n,e,rfl,rfl,rfl⟩,z⟩
 ·refine⟨l.toList,r,⟨o,n,I.kIn a o u,hc,hd,by simpa using v⟩,?_⟩
  have e:=r.length;simp only[cS]at e;lia
theorem Inv.tuple(I:Inv X pins σ H s)(h:SqT X.K H a xs):∃l:List ah,Vals xs l/\mY s.heap a l.toArray/\xs.length<=sizeLine:=by
 rcases h with h|⟨o,l,n,u,hc,v,x,r⟩
 ·obtain⟨z,l,r,p⟩:=h.ok I.hok;exact⟨l,r,p.tup,z⟩
 ·refine⟨l.toList,r,⟨o,I.kIn a o u,hc,n,by simpa using v⟩,?_⟩
  have e:=r.length;simp only[cS]at e;lia
theorem Inv.list_inj(I:Inv X pins σ H s)(h:SqL X.K H a xs)(h':SqL X.K H a ys):xs=ys:=by
 obtain⟨l,r,⟨o,n,e,_,_,d⟩,_⟩:=I.list h;obtain⟨its',v,⟨y,x,u,_,_,d'⟩,_⟩:=I.list h';rw[e]at u;cases u;rw[d]at d'
 injection d' with d1 _
 have:l=its':=by simpa using congrArg aQ d1
 subst this;exact r.inj v
theorem Inv.tuple_inj(I:Inv X pins σ H s)(h:SqT X.K H a xs)(h':SqT X.K H a ys):xs=ys:=by
 obtain⟨l,r,⟨o,e,_,n,d⟩,_⟩:=I.tuple h;obtain⟨its',v,⟨y,u,_,x,d'⟩,_⟩:=I.tuple h';rw[e]at u;cases u;rw[d]at d'
 injection d' with d1 _
 have:l=its':=by simpa using congrArg aQ d1
 subst this;exact r.inj v
end
abbrev Cx.wish(X:Cx)(E:qV):Cx:={ X with xe:=E }
abbrev Cx.nox(X:Cx):Cx:=X.wish fun _ _=>False
theorem Cx.Ok.wish{X:Cx}(ok:X.Ok)(E:qV):(X.wish E).Ok :=
 ⟨ok.mod,ok.kind,ok.glob,ok.blt,ok.above,ok.inj,ok.has,ok.cab,ok.hd,ok.frames,ok.stk,ok.exf,ok.bs,ok.bsz,ok.noex,ok.exfs,ok.funs,ok.frf⟩
theorem Cx.Ok.unwish{X:Cx}{E:qV}(ok:(X.wish E).Ok):X.Ok :=
 ⟨ok.mod,ok.kind,ok.glob,ok.blt,ok.above,ok.inj,ok.has,ok.cab,ok.hd,ok.frames,ok.stk,ok.exf,ok.bs,ok.bsz,ok.noex,ok.exfs,ok.funs,ok.frf⟩
section
variable{X:Cx}{pins:qO}{σ:St}{H:Hp}{s:aq}{E:qV}
theorem Inv.wish(I:Inv X pins σ H s)(E:qV):Inv (X.wish E) pins σ H s:=⟨I.ok.wish E,I.os,I.bare,I.base,I.loc,I.cell,I.free,I.freeC,I.pin,I.hok,I.len⟩
theorem Inv.unwish(I:Inv (X.wish E) pins σ H s):Inv X pins σ H s:=⟨I.ok.unwish,I.os,I.bare,I.base,I.loc,I.cell,I.free,I.freeC,I.pin,I.hok,I.len⟩
theorem SP.unwish{D:Ends}{f:Flow}{s':aq}(h:SP (X.wish E) pins D f s'):SP X pins D f s':=by
 cases f with
 | next=>obtain⟨σ',l,I,q⟩:=h;exact⟨σ',l,I.unwish,q⟩
 | brk=>obtain⟨σ',l,I,q⟩:=h;exact⟨σ',l,I.unwish,q⟩
 | cont=>obtain⟨σ',l,I,q⟩:=h;exact⟨σ',l,I.unwish,q⟩
 | ret u=>obtain⟨v,σ',l,I,r,q⟩:=h;exact⟨v,σ',l,I.unwish,r,q⟩
theorem PSs.nox{st:List dH}{t:TS}(h:PSs X.nox st t):PSs X st t:=fun pins s σ H D I hw =>
 c8 (h pins s σ H D (I.wish _) hw) (fun _ _ q=>q.unwish) fun _ _ z=>cx z
end
section
variable{X:Cx}{st:dH}{rest:List dH}{t u:TS}{e:aV}{te:TE}{pos:Pos}
def zvq:TS:=fun D σ H=>D.nx σ H
def tSeq(t u:TS):TS:=fun D σ H=>t { D with nx:=u D } σ H
theorem zix:PSs X [] zvq:=fun _ _ σ H _ I h=>fK ⟨σ,H,I,h⟩
theorem Qy(y:PS X st t)(C:PSs X rest u):PSs X (st::rest) (tSeq t u):=by
 intro pins s σ H D I h;refine kN (thn (y pins s σ H { D with nx:=u D } I h) fun f s1 q=>?_)
 cases f with
 | next =>
  obtain⟨σ',l,x,q⟩:=q;exact C pins s1 σ' l D x q
 | ret v=>exact q
 | brk=>exact q
 | cont=>exact q
theorem U6(l:PS X st t):PSs X [st] t:=by
 intro pins s σ H D I h;refine kN (thn (l pins s σ H D I h) fun f s1 q=>?_)
 cases f with
 | next=>exact fK q
 | ret v=>exact q
 | brk=>exact q
 | cont=>exact q
theorem Inv.quiet{pins:qO}{σ:St}{H:Hp}{s:aq}(I:Inv X pins σ H s):interactive X.env=false:=by simp[interactive,I.ok.kind]
def zvv(te:TE):TS:=fun D σ H=>te σ H fun _ l=>D.nx σ l
theorem zpK(J:PE X e te)(G:swapsWith e none pos.line X.env=pure false:=by rfl):PS X (.Expr e pos) (zvv te):=by
 intro pins s σ H D I h;exact o6 (thn (J pins s σ H _ I h) fun v s1 ⟨x,y,l,L,C⟩=>⟨σ,y,l,C⟩) I.quiet G
def tRet(te:TE):TS:=fun D σ H=>te σ H D.rt
theorem ZO(J:PE X e te):PS X (.Return (some e) pos) (tRet te):=by
 intro pins s σ H D I h;exact wpAny_Return_some (thn (J pins s σ H _ I h) fun v s1 ⟨x,C,l,y,G⟩=>⟨x,σ,C,l,y,G⟩)
def tIfS(c:TT)(t u:TS):TS:=fun D σ H=>c σ H fun b l=>if b=true then t D σ l else u D σ l
theorem zpJ{c:aV}{a b:List dH}{y:TT}(hc:PT X c y)(C:PSs X a t)(G:PSs X b u):PS X (.If c a b pos) (tIfS y t u):=by
 intro pins s σ H D I h;refine wpAny_If (thn (hc pins s σ H _ I h) fun d s1 ⟨l,x,v⟩=>?_)
 cases d with
 | true=>exact C pins s1 σ l D x v
 | false=>exact G pins s1 σ l D x v
end
abbrev TG:=V->St->Hp->(St->Hp->Prop)->Prop
abbrev TGs:=List V->St->Hp->(St->Hp->Prop)->Prop
def PG(X:Cx)(target:aV)(t:TG):Prop :=
 ∀(pins:qO) (s:aq) (σ:St) (H:Hp) (v:V) (u:ah) (Q:St->Hp->Prop),Inv X pins σ H s->RelV v u->t v σ H Q ->
  wpAny (model X.prog X.w) X.A (assign target X.env u) (fun _ s'=>∃σ' l,Inv X pins σ' l s'/\Q σ' l) X.xe s
def PGs(X:Cx)(ts:List aV)(t:TGs):Prop :=
 ∀(pins:qO) (s:aq) (σ:St) (H:Hp) (v:List V) (l:List ah) (Q:St->Hp->Prop),Inv X pins σ H s->Vals v l->t v σ H Q ->
  wpAny (model X.prog X.w) X.A (assignInOrder ((assignEach ts X.env).map (·.2)) l) (fun _ s'=>∃σ' u,Inv X pins σ' u s'/\Q σ' u) X.xe s
abbrev TSet:=V->V->V->Hp->(Hp->Prop)->Prop
def PSet(X:Cx)(t:TSet):Prop :=
 ∀(pins:qO) (s:aq) (σ:St) (H:Hp) (o i v:V) (l x u:ah) (Q:Hp->Prop),Inv X pins σ H s->RelV o l->RelV i x->RelV v u->t o i v H Q ->
  wpAny (model X.prog X.w) X.A (setItem l x u) (fun _ s'=>∃y,Inv X pins σ y s'/\Q y) X.xe s
section
variable{X:Cx}{pos:Pos}
def Zk(i:Nat):TG:=fun v σ H Q=>Q (σ.set i (some v)) H
theorem VM{i:Nat}{x:Str}(y:X.N.Nodup)(hi:X.N[i]?=some x)(hx:Loc X.env.scope x)(hf:X.fn x=true\/X.env.scope.names.lookup x=some .local:=by walk_at "F"):PG X (.Name x pos) (Zk i):=by
 intro pins s σ H v u Q I r h;exact m5 (Za I y hi hx r (fun s' C=>⟨_,H,C,h⟩) hf)
def gNil:TGs:=fun l σ H Q=>l=[]/\Q σ H
def zwY(t:TG)(u:TGs):TGs:=fun x σ H Q=>∃v r,x=v::r/\t v σ H fun σ' l=>u r σ' l Q
theorem zlu:PGs X [] gNil:=by
 intro pins s σ H u l Q I r h;obtain⟨e,h⟩:=h;subst e;cases r;exact m6 ⟨σ,H,I,h⟩
theorem VR{e:aV}{l:List aV}{t:TG}{u:TGs}(R:PG X e t)(G:PGs X l u)
  (N:(assignEach (e::l) X.env).map (·.2)=assign e X.env::(assignEach l X.env).map (·.2):=by rfl):PGs X (e::l) (zwY t u):=by
 intro pins s σ H Z Y Q I r h;obtain⟨v,U,L,h⟩:=h;subst L;cases r with
 | cons r S =>
  rw[N];refine iT (thn (R pins s σ H _ _ _ I r h) fun _ s1 ⟨x,y,J,C⟩=>?_)
  exact G pins s1 x y _ _ Q J S C
def gTup(K:qF)(n:Nat)(t:TGs):TG:=fun v σ H Q=>∃a xs,v=.ref a/\SqT K H a xs/\xs.length=n/\t xs σ H Q
theorem zsq{y:List aV}{k:Nat}{t:TGs}{n:Nat}(hc:X.calm=true)(h:PGs X y t)
  (R:(assignEach y X.env).length=n:=by rfl) (C:(assignEach y X.env).findIdx? (·.1)=none:=by rfl):PG X (.Tuple y k pos) (gTup X.K n t):=by
 intro pins s σ H v u Q I r hw;obtain⟨a,xs,U,Y,J,hw⟩:=hw;subst U;cases r;obtain⟨L,G,N,Z⟩:=I.tuple Y;refine assign_Tuple_tuple (I.ok.hd hc) N (by simp[R,<- J,G.length]) C fun h' hx=>?_
 have S:Inv X pins σ H { s with heap:=h' }:=I.kept (t':=s.toks) fun b o e=>hx b o (aJ (aD e)) e
 exact h pins _ σ H xs _ Q S (by simpa using G) hw
def gSub(to ti:TE)(t:TSet):TG:=fun v σ H Q=>to σ H fun o l=>ti σ l fun i u=>t o i v u fun x=>Q σ x
theorem pg_sub{o i:aV}{to ti:TE}{t:TSet}(N:PE X o to)(hi:PE X i ti)(hs:PSet X t)
  (Z:∀v,assign (.Subscript o i pos) X.env v=(do
   let l <- holding [v] (eval o X.env)
   let C <- holding [v,l] (eval i X.env)
   standAt pos
   holding [v,l,C] (setItem l C v)
   release [v,l,C] []):=by intro _;rfl):PG X (.Subscript o i pos) (gSub to ti t):=by
 intro pins s σ H v u Q I r h;rw[Z];refine ae (cg (thn (N pins s σ H _ I h) fun l s1 ⟨x,G,Y,r1,J⟩=>?_))
 refine ae (cg (thn (hi pins s1 σ G _ Y J) fun C s2 ⟨y,R,L,r2,q2⟩=>?_))
 refine ae (dN (ae (cg (thn (hs pins s2 σ R x y v l C u _ L r1 r2 r q2) fun _ s3 ⟨H3,I3,U⟩=>?_))))
 exact wpAny_release ⟨σ,H3,I3,U⟩
def tAsg(u:TE)(g:TG):TS:=fun D σ H=>u σ H fun x l=>g x σ l D.nx
theorem ZI{l e:aV}{u:TE}{g:TG}(G:PE X e u)(J:PG X l g)(N:swapsWithSole [l] e pos.line X.env=pure false:=by rfl)(hw:swappedStores [l] e X.env=pure none:=by rfl)
  (R:(assignEach [l] X.env).map (·.2)=[assign l X.env]:=by rfl):PS X (.Assign [l] e pos) (tAsg u g):=by
 intro pins s σ H D I h;refine wpAny_Assign_stores (thn (G pins s σ H _ I h) fun v s1 ⟨x,y,L,S,C⟩=>?_) N hw
 rw[R];exact thn (J pins s1 σ y x v _ L S C) fun _ s2 q=>q
theorem QG{i:Nat}{x:Str}{e:aV}{C:TE}{u:Pos}(S:X.N.Nodup)(hi:X.N[i]?=some x)(hx:Loc X.env.scope x)(R:PE X e C)(Y:swapsWith e (some (.Name x u)) pos.line X.env=pure false:=by rfl)(hf:X.fn x=true\/X.env.scope.names.lookup x=some .local:=by walk_at "F") :
  PS X (.Assign [.Name x u] e pos) (tAsg C (Zk i)):=by
 intro pins s σ H D I h;refine wpAny_Assign_Name (thn (R pins s σ H _ I h) fun v s1 ⟨y,G,U,Z,J⟩=>?_) Y
 exact Za U S hi hx Z (fun s2 L=>⟨_,G,L,J⟩) hf
def tPar(i j:Nat)(l:TA):TS:=fun D σ H=>l σ H fun x u=>∃v w,x=[v,w]/\D.nx ((σ.set i (some v)).set j (some w)) u
theorem zsh{i j:Nat}{x y:Str}{a b:aV}{ta:TA}{R py pt:Pos}{kt k2 pt2}(hc:X.calm=true)(hN:X.N.Nodup)(hi:X.N[i]?=some x)(hj:X.N[j]?=some y)(S:i≠j)
  (hx:X.env.scope.names.lookup x=some .local) (Y:X.env.scope.names.lookup y=some .local) (ha:PA X [a,b] ta)
  (hw:swappedStores [.Tuple [.Name x R,.Name y py] kt pt] (.Tuple [a,b] k2 pt2) X.env=pure (some [x,y]))
  (hs:swapsWithSole [.Tuple [.Name x R,.Name y py] kt pt] (.Tuple [a,b] k2 pt2) pos.line X.env=pure false:=by rfl) :
  PS X (.Assign [.Tuple [.Name x R,.Name y py] kt pt] (.Tuple [a,b] k2 pt2) pos) (tPar i j ta):=by
 intro pins s σ H D I h;rw[exec_Assign_arm];refine ae (dN ?_);rw[hs];refine ae (aj ?_);rw[if_neg (by decide)]
 refine ae (Tuple_ (thn (ha _ pins s σ H _ I h) fun us s1 ⟨vs,Z,I1,r1,L⟩=>?_))
 obtain⟨v,w,e1,L⟩:=L;subst e1;obtain⟨G,C,rfl,rv,J⟩:∃G C,us=[G,C]/\RelV v G/\RelV w C:=by
  cases r1 with
  | cons p q =>
   cases q with
   | cons p' q' =>
    cases q';exact⟨_,_,rfl,p,p'⟩
 refine dm ?_ (by show 2<=sizeLine;decide)
 have I2:Inv X pins σ Z { s1 with heap:=s1.heap.push { cls:=.type "tuple",data:=.seq [G,C].toArray } }:=I1.kept (t':=s1.toks) fun b o e=>au _ e
 rw[hw];refine ae (aj ?_);show wpAny (model X.prog X.w) X.A (do rule "assign.swapped-stores";let items <- unpackItems (.ref s1.heap.objs.size) 2 none;assignInOrder [fun v=>bindName X.env y v,fun v=>bindName X.env x v] items.reverse;pure x8) _ _ _
 refine ae (dw (ae (unpackItems_tuple (items:=#[G,C]) (I.ok.hd hc) (IsTup.new s1.heap _) fun h' U=>?_)))
 have I3:=I2.kept (h':=h') (t':=s1.toks) fun b o e=>U b o (aJ (aD e)) e
 show wpAny _ _ (assignInOrder [fun v=>bindName X.env y v,fun v=>bindName X.env x v] [C,G] >>= fun _=>pure x8) _ _ _
 refine ae (iT (lS (Za I3 hN hj (.inl Y) J (fun s2 I4=>?_) (.inr Y))))
 refine iT (lS (Za I4 hN hi (.inl hx) rv (fun s3 I5=>m6 (aj ?_)) (.inr hx)))
 rw[List.set_comm _ _ (ko S)]at I5;exact⟨_,Z,I5,L⟩
end
section
variable{X:Cx}{pos:Pos}
def zrE(c:TT)(x:TS):TS:=fun D σ H=>∃W:Nat->St->Hp->Prop,(∃m,W m σ H)/\∀m σ H,W m σ H ->
 c σ H fun b l=>if b=true then ∃N:St->Hp->Prop,(∀σ' u,N σ' u->∃v,v<m/\W v σ' u)/\x { D with nx:=N,ct:=N,bk:=D.nx } σ l else D.nx σ l
theorem znO{c:aV}{body:List dH}{tc:TT}{tb:TS}(hp:nW (model X.prog X.w) X.A X.env X.xe)(hc:PT X c tc)(hb:PSs X body tb):PS X (.While c body [] pos) (zrE tc tb):=by
 intro pins s σ H D I h;obtain⟨W,⟨m0,w0⟩,turn⟩:=h;refine wpAny_While (codeAny_whileLoop (fun n s'=>∃σ' H',Inv X pins σ' H' s'/\W n σ' H') ?_ m0 ⟨σ,H,I,w0⟩)
 rintro n s1 ⟨x,Y,I1,w1⟩;refine eV hp (thn (hc pins s1 x Y _ I1 (turn n x Y w1)) fun b s2 ⟨H2,Z,G⟩=>?_)
 cases b with
 | true =>
  obtain⟨N,hN,G⟩:=G;rw[if_pos rfl];refine eV hp (thn (hb pins s2 x H2 _ Z G) fun f s3 C=>?_)
  cases f with
  | next =>
   obtain⟨u,y,R,L⟩:=C;obtain⟨J,S,U⟩:=hN u y L;exact⟨J,S,u,y,R,U⟩
  | cont =>
   obtain⟨u,y,R,L⟩:=C;obtain⟨J,S,U⟩:=hN u y L;exact⟨J,S,u,y,R,U⟩
  | brk=>exact C
  | ret v=>exact C
 | false =>
  rw[if_neg bf];exact fK ⟨x,H2,Z,G⟩
end
structure It where
 go:Nat->Hp->Prop
 yld:Nat->Hp->V->Hp->Prop
 stop:Nat->Hp->Prop
def FpOk(X:Cx)(pins:qO)(H:Hp)(b:ak):Prop :=
 H b=none/\b≠X.env.locals/\b∉X.fs/\(b∈X.ex\/X.s₀.heap.objs.size<=b)/\(∀x c,X.env.cells.lookup x=some c->c≠b)/\∀p∈X.pn++pins,p.1≠b
theorem Inv.fpOk{X:Cx}{pins:qO}{σ:St}{H u:Hp}{s:aq}{b:ak}(I:Inv X pins σ H s)(l:s.heap.objs.size<=b)(C:u b=none):FpOk X pins u b:=by
 refine⟨C,m7 (aE I.lt l),I.nofs l,.inr (cB I.sz l),fun x c e z=>?_,fun p y z=>?_⟩
 ·obtain⟨v,q⟩:=I.cell x c e;exact absurd (aE q.lt (by rw[z];exact l)) (gE _)
 ·exact absurd (aE (aD (I.pin p y).1) (by rw[z];exact l)) (gE _)
structure Turn(P:aL)(w:aT)(K:qF)(tg:aV)(J:It)(fp:List ak)(it:ak)(tn:Nat->aW->Prop):Prop where
 mem:it∈fp
 obj:∀i h,tn i h->∀b∈fp,∃o,h.get? b=some o/\∀v,o.data≠.cell v
 keep:∀i h h',tn i h->(∀b∈fp,∀o,h.get? b=some o->h'.get? b=some o)->tn i h'
 item:∀(X:Cx),X.prog=P->X.w=w->X.K=K->X.calm=true->∀(i:Nat) (pins:qO) (s:aq) (σ:St) (H:Hp) (E:qV),Inv X pins σ H s->(∀b∈fp,FpOk X pins H b)->tn i s.heap->J.go i H ->
  wpAny (model P w) X.A (pyNext (.ref it)) (fun r s1=>∃u,r=some u /\
   wpAny (model P w) X.A (letOwnedTupleGo tg (.ref it) u) (fun _ s2=>∃x H',Inv X pins σ H' s2/\RelV x u/\J.yld i H x H'/\tn (i+1) s2.heap/\∀b∈fp,H' b=none) E s1) E s
 done:∀(X:Cx),X.prog=P->X.w=w->X.K=K->X.calm=true->∀(i:Nat) (pins:qO) (s:aq) (σ:St) (H:Hp) (E:qV),Inv X pins σ H s->(∀b∈fp,FpOk X pins H b)->tn i s.heap->J.stop i H ->
  wpAny (model P w) X.A (pyNext (.ref it)) (fun r s1=>r=none/\Inv X pins σ H s1) E s
 self:∀(A:br) (i:Nat) (s:aq) (Q:qV) (E:qV),tn i s.heap->Q (.ref it) s->wpAny (model P w) A (pyIter (.ref it)) Q E s
abbrev TI:=St->Hp->(It->Hp->Prop)->Prop
def PIE(X:Cx)(pins:qO)(σ:St)(y:aV)(R:It->Hp->Prop)(u:ah)(s2:aq):Prop :=
 ∃(it:ak) (v:List ak) (x:Nat->aW->Prop) (J:It) (l:Hp),u=.ref it/\Inv X pins σ l s2/\Turn X.prog X.w X.K y J v it x/\x 0 s2.heap/\(∀b∈v,FpOk X pins l b)/\R J l
def PI(X:Cx)(l iter:aV)(u:TI):Prop :=
 ∀(pins:qO) (s:aq) (σ:St) (H:Hp) (R:It->Hp->Prop),Inv X pins σ H s->u σ H R ->
  wpAny (model X.prog X.w) X.A (eval iter X.env) (fun v s1=>wpAny (model X.prog X.w) X.A (pyIter v) (PIE X pins σ l R) X.xe s1) X.xe s
theorem Vi{M:m4}{A:br}{E:qV}{s:aq}{C:aV}{it:ak}{u:ah}{o:Obj}{n:String}{x:Array ah}{Q:Unit->aq->Prop}(G:s.heap.get? it=some o)(hc:o.cls=.type n)(hd:o.data=.fields x)
  (I:["enumerate","zip","dict_itemiterator","dict_reverseitemiterator","odict_iterator","itertools.zip_longest","itertools.pairwise"].contains n=false) (v:Q () s):wpAny M A (letOwnedTupleGo C (.ref it) u) Q E s:=by
 unfold letOwnedTupleGo;cases C <;> first
  | exact aj v
  | (cases u <;> first
    | exact aj v
    | (refine ae (wpAny_load G ?_)
       rw[hc,hd];show wpAny M A (if (["enumerate","zip","dict_itemiterator","dict_reverseitemiterator","odict_iterator","itertools.zip_longest","itertools.pairwise"].contains n&&x[0]? == some (rawInt _))=true then _ else _) Q E s
       rw[if_neg (by intro h;rw[I,bN]at h;cases h)]
       exact aj v))
def Itl(K:qF)(a:ak):It :=
 ⟨fun i H=>∃xs x,SqL K H a xs/\xs[i]?=some x,fun i H x l=>l=H/\∀xs,SqL K H a xs->xs[i]?=some x,fun i H=>∃xs,SqL K H a xs/\xs.length<=i⟩
def Itt(K:qF)(a:ak):It :=
 ⟨fun i H=>∃xs x,SqT K H a xs/\xs[i]?=some x,fun i H x l=>l=H/\∀xs,SqT K H a xs->xs[i]?=some x,fun i H=>∃xs,SqT K H a xs/\xs.length<=i⟩
def Itr(lo:Int)(n:Nat):It:=⟨fun i _=>i<n,fun i H x l=>l=H/\x=.int (lo+i),fun i _=>n<=i⟩
theorem zgT{P:aL}{w:aT}{K:qF}{tg:aV}(a it:ak):Turn P w K tg (Itl K a) [it] it (fun i h=>h.IsListIter it a i) where
 mem:=by simp
 obj:=fun i h st b l=>by
  have e:b=it:=by simpa using l
  subst e;obtain⟨o,e,c,d⟩:=st;exact⟨o,e,fun v z=>by rw[d]at z;cases z⟩
 keep:=fun i h h' st k=>st.at fun o e=>k it (by simp) o e
 item:=by
  intro X U hw S hc i pins s σ H E I hf st L;subst U hw S;obtain⟨xs,x,C,hx⟩:=L;obtain⟨J,N,p,hz⟩:=I.list C;obtain⟨u,Z,ru⟩:=N.get hx;obtain⟨f0,f1,f2,R,f4,G⟩:=hf it (by simp)
  refine wpAny_pyNext_list_item st p.isList (x:=u) (by simpa using Z) fun h' y sb=>?_
  have I1:Inv X pins σ H { s with heap:=h' }:=I.turned (t':=s.toks) (fun b o l e=>(sb.2 b l).trans e) f0 f1 R f4 G
  obtain⟨o,e,c,d⟩:=id y;exact⟨u,rfl,Vi (s:={ s with heap:=h' }) e c d (by decide) ⟨x,H,I1,ru,⟨rfl,fun ys Y=>by rw[I.list_inj Y C];exact hx⟩,y,fun b l=>(hf b l).1⟩⟩
 done:=by
  intro X U hw S hc i pins s σ H E I hf st L;subst U hw S;obtain⟨xs,C,hx⟩:=L;obtain⟨J,N,p,hz⟩:=I.list C;obtain⟨f0,f1,f2,R,f4,G⟩:=hf it (by simp)
  have hl:=N.length;exact wpAny_pyNext_list_end (I.ok.hd hc) st p.isList (by simp;lia) fun h' eb=>⟨rfl,I.turned (t':=s.toks) (fun b o l e=>eb b o l e) f0 f1 R f4 G⟩
 self:=fun _ _ _ _ _ st h=>wpAny_pyIter_listiter st h
theorem zfo{P:aL}{w:aT}{K:qF}{tg:aV}(a it:ak):Turn P w K tg (Itt K a) [it] it (fun i h=>h.IsTupleIter it a i) where
 mem:=by simp
 obj:=fun i h st b y=>by
  have e:b=it:=by simpa using y
  subst e;obtain⟨o,e,c,d⟩:=st;exact⟨o,e,fun v z=>by rw[d]at z;cases z⟩
 keep:=fun i h h' st k=>st.at fun o e=>k it (by simp) o e
 item:=by
  intro X U hw S hc i pins s σ H E I hf st L;subst U hw S;obtain⟨xs,x,G,hx⟩:=L;obtain⟨l,N,p,hz⟩:=I.tuple G;obtain⟨u,Z,ru⟩:=N.get hx;obtain⟨f0,f1,f2,R,f4,J⟩:=hf it (by simp)
  refine wpAny_pyNext_tuple_item st (show s.heap.IsTuple a l.toArray from p) (x:=u) (by simpa using Z) fun h' C sb=>?_
  have I1:Inv X pins σ H { s with heap:=h' }:=I.turned (t':=s.toks) (fun b o y e=>(sb.2 b y).trans e) f0 f1 R f4 J
  obtain⟨o,e,c,d⟩:=id C;exact⟨u,rfl,Vi (s:={ s with heap:=h' }) e c d (by decide) ⟨x,H,I1,ru,⟨rfl,fun ys Y=>by rw[I.tuple_inj Y G];exact hx⟩,C,fun b y=>(hf b y).1⟩⟩
 done:=by
  intro X U hw S hc i pins s σ H E I hf st L;subst U hw S;obtain⟨xs,G,hx⟩:=L;obtain⟨l,N,p,hz⟩:=I.tuple G;obtain⟨f0,f1,f2,R,f4,J⟩:=hf it (by simp)
  have hl:=N.length;exact wpAny_pyNext_tuple_end (I.ok.hd hc) st (show s.heap.IsTuple a l.toArray from p) (by simp;lia) fun h' eb=>⟨rfl,I.turned (t':=s.toks) (fun b o y e=>eb b o y e) f0 f1 R f4 J⟩
 self:=fun _ _ _ _ _ st h=>wpAny_pyIter_tupleiter st h
theorem zj2{P:aL}{w:aT}{K:qF}{L:aV}(it:ak)(lo:Int)(n:Nat):Turn P w K L (Itr lo n) [it] it (fun i h=>IsRangeIter h it (lo+(i:Nat)*1) ((n:Int) - (i:Nat)) 1) where
 mem:=by simp
 obj:=fun i h st b l=>by
  have e:b=it:=by simpa using l
  subst e;exact⟨_,st,fun v z=>by
   have N:Data.fields _=Data.cell v:=z;cases N⟩
 keep:=fun i h h' st k=>k it (by simp) _ st
 item:=by
  intro X J hw G hc i pins s σ H E I hf st y;subst J hw G;obtain⟨f0,f1,f2,C,f4,x⟩:=hf it (by simp)
  have W:=Walks.range (prog:=X.prog) (w:=X.w) (I.ok.hd hc) it lo 1 n;refine W.item i s _ _ y st fun v h' tk R u Y=>?_
  obtain⟨t,rfl⟩:=R;have S:Inv X pins σ H { s with heap:=h',toks:=tk }:=I.turned (fun b o l e=>Y b o (by simpa using l) e) f0 f1 C f4 x
  refine⟨_,rfl,Vi (s:={ s with heap:=h',toks:=tk }) (n:="range_iterator") u rfl rfl (by decide) ⟨.int (lo+i),H,S,⟨t,?_⟩,⟨rfl,rfl⟩,u,fun b l=>(hf b l).1⟩⟩
  rw[ku]
 done:=by
  intro X J hw G hc i pins s σ H E I hf st y;subst J hw G;obtain⟨f0,f1,f2,C,f4,x⟩:=hf it (by simp)
  exact wpAny_pyNext_range_end (I.ok.hd hc) st (by have:n<=i:=y;lia) fun h' U=>⟨rfl,I.turned (t':=s.toks) (fun b o l e=>U b o l e) f0 f1 C f4 x⟩
 self:=fun _ _ _ _ _ st h=>wpAny_pyIter_rangeiter st h
section
variable{X:Cx}{tg:aV}
def zwU(K:qF)(u:TE):TI:=fun σ H R=>u σ H fun x l=>∃a,x=.ref a/\(∃xs,SqL K l a xs)/\R (Itl K a) l
def iTup(K:qF)(u:TE):TI:=fun σ H R=>u σ H fun x l=>∃a,x=.ref a/\(∃xs,SqT K l a xs)/\R (Itt K a) l
theorem zls{l:aV}{y:TE}(C:PE X l y):PI X tg l (zwU X.K y):=by
 intro pins s σ H R I h;refine thn (C pins s σ H _ I h) fun v s1 ⟨x,G,u,S,J⟩=>?_
 obtain⟨a,e,⟨xs,N⟩,q⟩:=J;subst e;cases S;obtain⟨L,Y,p,Z⟩:=u.list N;refine gW p.isList ?_;refine⟨s1.heap.objs.size,[s1.heap.objs.size],_,_,G,rfl,u.kept (t':=s1.toks) fun b o e=>au _ e,zgT a _,⟨_,aH _ rfl,rfl,rfl⟩,fun b U=>?_,q⟩
 have e:b=s1.heap.objs.size:=by simpa using U
 subst e;exact u.fpOk (aC _) (u.hok.fresh (aC _))
theorem zsn{l:aV}{C:TE}(G:PE X l C):PI X tg l (iTup X.K C):=by
 intro pins s σ H R I h;refine thn (G pins s σ H _ I h) fun v s1 ⟨x,J,u,S,L⟩=>?_
 obtain⟨a,e,⟨xs,N⟩,q⟩:=L;subst e;cases S;obtain⟨y,Y,p,Z⟩:=u.tuple N;refine iU (show s1.heap.IsTuple a y.toArray from p) ?_
 refine⟨s1.heap.objs.size,[s1.heap.objs.size],_,_,J,rfl,u.kept (t':=s1.toks) fun b o e=>au _ e,zfo a _,⟨_,aH _ rfl,rfl,rfl⟩,fun b U=>?_,q⟩
 have e:b=s1.heap.objs.size:=by simpa using U
 subst e;exact u.fpOk (aC _) (u.hok.fresh (aC _))
theorem znL{pins:qO}{σ:St}{H:Hp}{s:aq}{R:It->Hp->Prop}{E:qV}{lo hi:Int}{t u v:Tok}{tk:Nat}(I:Inv X pins σ H s)(S:-(2 ^ 62)<=lo)(G:lo<2 ^ 62)(C:-(2 ^ 62)<=hi)(J:hi<2 ^ 62)
  (q:R (Itr lo (hi - lo).toNat) H):wpAny (model X.prog X.w) X.A (pyIter (.ref s.heap.objs.size)) (PIE X pins σ tg R) E { s with heap:=s.heap.push { cls:=.type "range",data:=.fields #[.int lo t,.int hi u,.int 1 v] },toks:=tk }:=by
 refine wpAny_pyIter_range (IsRange.new ..) (small_one S G C J) ?_;have x:Inv X pins σ H { s with heap:=s.heap.push { cls:=.type "range",data:=.fields #[.int lo t,.int hi u,.int 1 v] },toks:=tk }:=I.kept fun b o e=>au _ e
 refine⟨(s.heap.push { cls:=.type "range",data:=.fields #[.int lo t,.int hi u,.int 1 v] }).objs.size,[(s.heap.push { cls:=.type "range",data:=.fields #[.int lo t,.int hi u,.int 1 v] }).objs.size],_,_,H,rfl,
  x.kept (t':=tk) fun b o e=>au _ e,zj2 _ lo (hi - lo).toNat,?_,fun b U=>?_,q⟩
 ·have L:lo+((0:Nat):Int)*1=lo:=by simp
  have Y:(((hi - lo).toNat:Nat):Int) - ((0:Nat):Int)=sM lo hi 1:=by rw[rangeSize_one];split <;> lia
  show IsRangeIter _ _ (lo+((0:Nat):Int)*1) ((((hi - lo).toNat:Nat):Int) - ((0:Nat):Int)) 1
  rw[L,Y];exact aH _ rfl
 ·have e:b=(s.heap.push { cls:=.type "range",data:=.fields #[.int lo t,.int hi u,.int 1 v] }).objs.size:=by simpa using U
  subst e;exact x.fpOk (aC _) (x.hok.fresh (aC _))
def zwT(l:TA):TI:=fun σ H R=>l σ H fun v u=>∃j:Int,v=[.int j]/\-(2 ^ 62)<=j/\j<2 ^ 62/\R (Itr 0 j.toNat) u
theorem zlr{a:aV}{v:TA}{p pos:Pos}(x:Gl X "range") (S:X.mg "range" = none) (G:PA X [a] v) (J:starEach [a] X.env=[(false,eval a X.env)]:=by rfl):PI X tg (.Call (.Name "range" p) [a] [] pos) (zwT v):=by
 intro pins s σ H R I h;refine Call_ (ZC I x S boot_range (fW (thn (G pos pins s σ H _ I h) fun us s1 ⟨vs,Z,y,U,u⟩=>?_) J rfl))
 obtain⟨j,e,u,L,q⟩:=u;subst e;cases U with
 | cons r Y =>
  cases Y;obtain⟨t,rfl⟩:=r;exact call_range_1 (znL y (by lia) (by lia) u L (by simpa using q))
def tFor(y:TI)(g:TG)(I:TS):TS:=fun D σ H=>y σ H fun J C=>∃W:Nat->Nat->St->Hp->Prop,(∃m,W 0 m σ C)/\∀i m σ H,W i m σ H ->
 (J.stop i H/\D.nx σ H)\/(J.go i H/\∃N:St->Hp->Prop,(∀σ' l,N σ' l->∃v,v<m/\W (i+1) v σ' l)/\∀x l,J.yld i H x l->g x σ l fun u G=>I { D with nx:=N,ct:=N,bk:=D.nx } u G)
def ZH(l:List ak)(h:aW):List (ak×Obj):=l.filterMap fun b=>(h.get? b).map fun o=>(b,o)
theorem V6{l:List ak}{h:aW}{b:ak}{o:Obj}(u:b∈l)(e:h.get? b=some o):(b,o)∈ZH l h:=fE.mpr ⟨b,u,by rw[e];rfl⟩
theorem zlO{l:List ak}{h:aW}{p:ak×Obj}(u:p∈ZH l h):p.1∈l/\h.get? p.1=some p.2:=by
 obtain⟨b,x,e⟩:=fE.mp u;cases q:h.get? b with
 | none=>rw[q]at e;cases e
 | some o =>
  rw[q]at e;have v:(b,o)=p:=aO e;subst v;exact⟨x,q⟩
theorem Inv.pinned{pins:qO}{σ:St}{H:Hp}{s:aq}{u:List ak}(I:Inv X pins σ H s)(hf:∀b∈u,FpOk X pins H b)(C:∀b∈u,∃o,s.heap.get? b=some o/\∀v,o.data≠.cell v):Inv X (pins++ZH u s.heap) σ H s :=
 I.pins_of fun p G=>(av.mp G).elim (fun z=>I.pin p (bX _ z)) fun z=>by
  obtain⟨y,e⟩:=zlO z;obtain⟨f0,f1,f2,_⟩:=hf p.1 y;obtain⟨o,x,d⟩:=C p.1 y;rw[e]at x;cases x;exact⟨e,f0,f1,f2,d⟩
theorem Inv.unpinned{pins pl:qO}{σ:St}{H:Hp}{s:aq}(I:Inv X (pins++pl) σ H s):Inv X pins σ H s:=I.pins_of fun p l=>I.pin p (bX _ (lR _ l))
theorem zsi{iter:aV}{body:List dH}{wi:TI}{g:TG}{tb:TS}{pos:Pos}(Y:nW (model X.prog X.w) X.A X.env X.xe)(hc:X.calm=true)(hi:PI X tg iter wi)(hg:PG X tg g)(L:PSs X body tb)
  (hs:∀x,foldedSetIterable iter X.env x=pure x:=by intro _;rfl):PS X (.For tg iter body [] pos) (tFor wi g tb):=by
 intro pins s σ H D I h;refine wpAny_For (thn (hi pins s σ H _ I h) fun v s1 h1=>thn h1 fun itv s2 h2=>?_) hs
 obtain⟨it,fp,tn,J,H2,e,I2,T,st2,f2,W,⟨m0,w0⟩,turn⟩:=h2;subst e;have IA:∀{R:Hp},(∀b∈fp,R b=none)->∀b∈fp,FpOk X pins R b:=fun hn b L=>⟨hn b L,(f2 b L).2⟩
 refine codeAny_forLoop_any (fun n s'=>∃i σ' R,Inv X pins σ' R s'/\tn i s'.heap/\(∀b∈fp,R b=none)/\W i n σ' R) ?_ m0 ⟨0,σ,H2,I2,st2,fun b L=>(f2 b L).1,w0⟩
 rintro n s3 ⟨i,G,H3,I3,st3,fr3,w3⟩;rcases turn i n G H3 w3 with⟨stop,qn⟩|⟨go,N,hN,step⟩
 ·refine eV Y (thn (T.done X rfl rfl rfl hc i pins s3 G H3 X.xe I3 (IA fr3) st3 stop) fun r s4 ⟨hr,I4⟩=>?_)
  subst hr;exact fK ⟨G,H3,I4,qn⟩
 ·refine eV Y (thn (T.item X rfl rfl rfl hc i pins s3 G H3 X.xe I3 (IA fr3) st3 go) fun r s4 ⟨u,hr,h4⟩=>?_)
  subst hr;refine eV Y (thn h4 fun _ s5 ⟨x,H5,I5,r5,y5,U,fr5⟩=>?_)
  have I5':=I5.pinned (IA fr5) (T.obj _ _ U);refine eV Y (thn (hg _ s5 G H5 x u _ I5' r5 (step x H5 y5)) fun _ s6 ⟨σ6,H6,I6,q6⟩=>?_)
  refine eV Y (thn (L _ s6 σ6 H6 _ I6 q6) fun f s7 S=>?_)
  have again:∀{l:St} {C:Hp},Inv X (pins++ZH fp s5.heap) l C s7->N l C->∃m,m<n/\∃i σ' R,Inv X pins σ' R s7/\tn i s7.heap/\(∀b∈fp,R b=none)/\W i m σ' R:=fun {l C} y Z=>by
   obtain⟨m',hm,w7⟩:=hN l C Z;refine⟨m',hm,i+1,l,C,y.unpinned,T.keep _ _ _ U fun b L o e=>(y.pin (b,o) (bX _ (bX _ (V6 L e)))).1,fun b L=>?_,w7⟩
   obtain⟨o,e,d⟩:=T.obj _ _ U b L;exact(y.pin (b,o) (bX _ (bX _ (V6 L e)))).2.1
  cases f with
  | next=>obtain⟨l,C,y,Z⟩:=S;exact again y Z
  | cont=>obtain⟨l,C,y,Z⟩:=S;exact again y Z
  | brk=>obtain⟨l,C,y,S⟩:=S;exact⟨l,C,y.unpinned,S⟩
  | ret v=>obtain⟨x7,l,C,y,r7,S⟩:=S;exact⟨x7,l,C,y.unpinned,r7,S⟩
end
abbrev R2:=V->V->Hp->VK->Prop
def OpR(X:Cx)(f:ah->ah->Sem ah)(r:R2):Prop :=
 ∀(pins:qO) (s:aq) (σ:St) (H:Hp) (x y:V) (v u:ah) (Q:VK),Inv X pins σ H s->RelV x v->RelV y u->r x y H Q ->
  wpAny (model X.prog X.w) X.A (f v u) (EP X pins σ Q) X.xe s
def UnR(X:Cx)(f:ah->Sem ah)(r:V->Hp->VK->Prop):Prop :=
 ∀(pins:qO) (s:aq) (σ:St) (H:Hp) (x:V) (v:ah) (Q:VK),Inv X pins σ H s->RelV x v->r x H Q ->
  wpAny (model X.prog X.w) X.A (f v) (EP X pins σ Q) X.xe s
def JX(X:Cx)(f:ah)(r:List V->Hp->VK->Prop):Prop :=
 ∀(pins:qO) (s:aq) (σ:St) (H:Hp) (xs:List V) (l:List ah) (Q:VK),Inv X pins σ H s->Vals xs l->r xs H Q ->
  wpAny (model X.prog X.w) X.A (call f l) (EP X pins σ Q) X.xe s
def TruR(X:Cx)(r:V->Hp->(Bool->Hp->Prop)->Prop):Prop :=
 ∀(pins:qO) (s:aq) (σ:St) (H:Hp) (x:V) (v:ah) (Q:Bool->Hp->Prop),Inv X pins σ H s->RelV x v->r x H Q ->
  wpAny (model X.prog X.w) X.A (truthy v) (TP X pins σ Q) X.xe s
def tOp(r:R2)(l C:TE):TE:=fun σ H Q=>l σ H fun x u=>C σ u fun y v=>r x y v Q
def tUn(r:V->Hp->VK->Prop)(l:TE):TE:=fun σ H Q=>l σ H fun x u=>r x u Q
def rI(C:Int->Int->Prop)(g:Int->Int->V):R2:=fun x y H Q=>∃i j,x=.int i/\y=.int j/\C i j/\Q (g i j) H
def rI0(g:Int->Int->V):R2:=fun x y H Q=>∃i j,x=.int i/\y=.int j/\Q (g i j) H
def rU(g:Int->V):V->Hp->VK->Prop:=fun x H Q=>∃i,x=.int i/\Q (g i) H
section
variable{X:Cx}{a b c:aV}{ta tb tc:TE}{pos:Pos}
theorem binT(U:PE X a ta)(hb:PE X b tb){pins:qO}{s:aq}{σ:St}{H:Hp}{R:V->V->Hp->Prop}(I:Inv X pins σ H s)
  (h:ta σ H fun x J=>tb σ J fun y l=>R x y l) {Q:qV} {f:ah->ah->Sem ah}
  (hf:∀v u s2 x y l,Inv X pins σ l s2->RelV x v->RelV y u->R x y l->wpAny (model X.prog X.w) X.A (f v u) Q X.xe s2) :
  wpAny (model X.prog X.w) X.A (eval a X.env) (fun v G=>wpAny (model X.prog X.w) X.A (eval b X.env) (fun u C=>wpAny (model X.prog X.w) X.A (f v u) Q X.xe C) X.xe G) X.xe s:=by
 refine thn (U pins s σ H _ I h) fun v s1 ⟨x,J,S,Z,L⟩=>?_
 refine thn (hb pins s1 σ J _ S L) fun u s2 ⟨y,l,N,r2,Y⟩=>?_
 exact hf v u s2 x y l N Z r2 Y
theorem JC{op:Operator}{r:R2}(G:OpR X (binaryOp op) r)(L:PE X a ta)(R:PE X b tb):PE X (.BinOp a op b pos) (tOp r ta tb):=by
 intro pins s σ H Q I h;exact wpAny_BinOp (binT L R I h fun v u s2 x y J C l N q=>G pins s2 σ J x y v u Q C l N q)
theorem zv9{op:UnaryOp}{r:V->Hp->VK->Prop}(u:UnR X (unaryOp op) r)(G:PE X a ta):PE X (.UnaryOp op a pos) (tUn r ta):=by
 intro pins s σ H Q I h;exact UnaryOp_ (thn (G pins s σ H _ I h) fun v s1 ⟨x,J,l,C,L⟩=>u pins s1 σ J x v Q l C L)
theorem opI{f:ah->ah->Sem ah}{C:Int->Int->Prop}{g:Int->Int->Int}
  (rule:∀(i j:Int) (t u:Tok) (s:aq) (Q:qV) (E:qV),C i j->Q (.int (g i j) s.toks) { s with toks:=s.toks+1 }->wpAny (model X.prog X.w) X.A (f (.int i t) (.int j u)) Q E s) :
  OpR X f (rI C fun i j=>.int (g i j)):=by
 intro pins s σ H x y v u Q I l G h;obtain⟨i,j,rfl,rfl,hc,q⟩:=h;obtain⟨t,rfl⟩:=l;obtain⟨t',rfl⟩:=G;exact rule i j t t' s _ _ hc ⟨.int (g i j),H,I.tok _,⟨_,rfl⟩,q⟩
theorem opI0{f:ah->ah->Sem ah}{g:Int->Int->Int}
  (rule:∀(i j:Int) (t u:Tok) (s:aq) (Q:qV) (E:qV),Q (.int (g i j) s.toks) { s with toks:=s.toks+1 }->wpAny (model X.prog X.w) X.A (f (.int i t) (.int j u)) Q E s) :
  OpR X f (rI0 fun i j=>.int (g i j)):=by
 intro pins s σ H x y v u Q I l C h;obtain⟨i,j,rfl,rfl,q⟩:=h;obtain⟨t,rfl⟩:=l;obtain⟨t',rfl⟩:=C;exact rule i j t t' s _ _ ⟨.int (g i j),H,I.tok _,⟨_,rfl⟩,q⟩
theorem opB0{f:ah->ah->Sem ah}{g:Int->Int->Bool}
  (rule:∀(i j:Int) (t u:Tok) (s:aq) (Q:qV) (E:qV),Q (.bool (g i j)) s->wpAny (model X.prog X.w) X.A (f (.int i t) (.int j u)) Q E s) :
  OpR X f (rI0 fun i j=>.bl (g i j)):=by
 intro pins s σ H x y v u Q I C G h;obtain⟨i,j,rfl,rfl,q⟩:=h;obtain⟨t,rfl⟩:=C;obtain⟨t',rfl⟩:=G;exact rule i j t t' s _ _ ⟨.bl (g i j),H,I,rfl,q⟩
def CPow(i j:Int):Prop:=0<=j/\j<=1000000/\i.natAbs<2 ^ 64
def CMul(i j:Int):Prop:=(-(2 ^ 64)<i/\i<2 ^ 64)\/(-(2 ^ 64)<j/\j<2 ^ 64)
theorem CMul.ok{i j:Int}(h:CMul i j):IntMulOk i j:=by
 rcases h with⟨u,v⟩|⟨u,v⟩
 ·exact .of_left (intBits_le_64 u v)
 ·exact .of_right (intBits_le_64 u v)
theorem zj1(k:Nat):(0:Int)<=2 ^ k:=by
 rw[two_pow_cast];exact iV _
theorem Uf:OpR X (binaryOp .Add) (rI0 fun i j=>.int (i+j)):=opI0 fun _ _ _ _ _ _ _ q=>add_int q
theorem zsD:OpR X (binaryOp .Sub) (rI0 fun i j=>.int (i - j)):=opI0 fun _ _ _ _ _ _ _ q=>sub_int q
theorem Q5:OpR X (binaryOp .Mult) (rI CMul fun i j=>.int (i*j)):=opI fun _ _ _ _ _ _ _ hc q=>mul_int q hc.ok
theorem UW:OpR X (binaryOp .Mod) (rI (fun _ j=>0<j) fun i j=>.int (i % j)):=opI fun i j _ _ _ _ _ hc q=>by
 have l:(0:Int)<j:=hc;exact mod_int' (by lia) (by rw[Int.fmod_eq_emod_of_nonneg i (by lia)];exact q)
theorem zsG:OpR X (binaryOp .Pow) (rI CPow fun i j=>.int (i ^ j.toNat)):=opI fun _ _ _ _ _ _ _ hc q=>pow_int_small hc.1 hc.2.1 hc.2.2 q
theorem zsF:OpR X (binaryOp .LShift) (rI CPow fun i j=>.int (i*2 ^ j.toNat)):=opI fun _ _ _ _ _ _ _ hc q=>lshift_int_small hc.1 hc.2.1 hc.2.2 q
theorem zsE:OpR X (binaryOp .RShift) (rI (fun _ j=>0<=j) fun i j=>.int (i / 2 ^ j.toNat)):=opI fun i j _ _ _ _ _ hc q =>
 rshift_int hc (by rw[iW i (zj1 _)];exact q)
theorem zsP:OpR X (binaryOp .BitAnd) (rI0 fun i j=>.int (gi i j)):=opI0 fun _ _ _ _ _ _ _ q=>and_int q
theorem zsC:OpR X (binaryOp .BitXor) (rI0 fun i j=>.int (cL i j)):=opI0 fun _ _ _ _ _ _ _ q=>xor_int q
theorem unI{f:ah->Sem ah}{g:Int->Int}
  (rule:∀(i:Int) (t:Tok) (s:aq) (Q:qV) (E:qV),Q (.int (g i) s.toks) { s with toks:=s.toks+1 }->wpAny (model X.prog X.w) X.A (f (.int i t)) Q E s) :
  UnR X f (rU fun i=>.int (g i)):=by
 intro pins s σ H x v Q I l h;obtain⟨i,rfl,q⟩:=h;obtain⟨t,rfl⟩:=l;exact rule i t s _ _ ⟨.int (g i),H,I.tok _,⟨_,rfl⟩,q⟩
theorem zrB:UnR X (unaryOp .USub) (rU fun i=>.int (-i)):=unI fun _ _ _ _ _ q=>neg_int q
end
def scal:V->V->Bool
 | .non,.non=>true|.non,.int _=>true|.int _,.non=>true|.non,.bl _=>true|.bl _,.non=>true|.non,.str _=>true|.str _,.non=>true
 | .int _,.int _=>true|.bl _,.bl _=>true|.str _,.str _=>true|.byt _,.byt _=>true
 | .int _,.str _=>true|.str _,.int _=>true|.bl _,.str _=>true|.str _,.bl _=>true
 | _,_=>false
def rEq:R2:=fun x y H Q=>scal x y=true/\Q (.bl (decide (x=y))) H
def rNe:R2:=fun x y H Q=>scal x y=true/\Q (.bl (!decide (x=y))) H
theorem zmC{i j:Int}:decide (V.int i=V.int j)=(i == j):=by
 rw[fL];simp
theorem zpl{i j:Bool}:decide (V.bl i=V.bl j)=(i == j):=by
 rw[fL];simp
theorem zmB{i j:Str}:decide (V.str i=V.str j)=(i == j):=by
 rw[fL];simp
theorem zmD{i j:Array UInt8}:decide (V.byt i=V.byt j)=(i.toList == j.toList):=by
 rw[fL];cases i;cases j;simp
section
variable{X:Cx}{a b c:aV}{ta tb tc:TE}{pos:Pos}
theorem Jv{pins:qO}{σ:St}{H:Hp}{s:aq}{Q:VK}{k u:Bool}(I:Inv X pins σ H s)(q:Q (.bl k) H)(e:k=u):EP X pins σ Q (.bool u) s:=by
 subst e;exact⟨.bl k,H,I,rfl,q⟩
theorem zwf:OpR X (compareOp .Eq) rEq:=by
 intro pins s σ H x y v u Q I G l h;obtain⟨C,q⟩:=h;cases x with
 | non =>
  cases G;cases y with
  | non=>cases l;exact pW (Jv I q (by simp))
  | bl j=>cases l;exact pX (Jv I q (by simp))
  | int j=>obtain⟨t',rfl⟩:=l;exact rK (Jv I q (by simp))
  | str j=>obtain⟨t',rfl⟩:=l;exact rL (Jv I q (by simp))
  | _=>exact absurd (show false=true from C) bf
 | bl i =>
  cases G;cases y with
  | non=>cases l;exact pY (Jv I q (by simp))
  | bl j=>cases l;exact eq_bool (Jv I q zpl)
  | str j=>obtain⟨t',rfl⟩:=l;exact pZ (Jv I q (by simp))
  | _=>exact absurd (show false=true from C) bf
 | int i =>
  obtain⟨t,rfl⟩:=G;cases y with
  | non=>cases l;exact rM (Jv I q (by simp))
  | int j=>obtain⟨t',rfl⟩:=l;exact eq_int (Jv I q zmC)
  | str j=>obtain⟨t',rfl⟩:=l;exact rN (Jv I q (by simp))
  | _=>exact absurd (show false=true from C) bf
 | str i =>
  obtain⟨t,rfl⟩:=G;cases y with
  | non=>cases l;exact rO (Jv I q (by simp))
  | bl j=>cases l;exact p7 (Jv I q (by simp))
  | int j=>obtain⟨t',rfl⟩:=l;exact rP (Jv I q (by simp))
  | str j=>obtain⟨t',rfl⟩:=l;exact eq_str (Jv I q zmB)
  | _=>exact absurd (show false=true from C) bf
 | byt i =>
  obtain⟨t,rfl⟩:=G;cases y with
  | byt j=>obtain⟨t',rfl⟩:=l;exact PySem.W.eq_bytes (Jv I q zmD)
  | _=>exact absurd (show false=true from C) bf
 | _=>cases y <;> exact absurd (show false=true from C) bf
theorem zwc:OpR X (compareOp .NotEq) rNe:=by
 intro pins s σ H x y v u Q I G l h;obtain⟨C,q⟩:=h;cases x with
 | non =>
  cases G;cases y with
  | non=>cases l;exact p8 (Jv I q (by simp))
  | bl j=>cases l;exact p9 (Jv I q (by simp))
  | int j=>obtain⟨t',rfl⟩:=l;exact rQ (Jv I q (by simp))
  | str j=>obtain⟨t',rfl⟩:=l;exact rR (Jv I q (by simp))
  | _=>exact absurd (show false=true from C) bf
 | bl i =>
  cases G;cases y with
  | non=>cases l;exact rf (Jv I q (by simp))
  | bl j=>cases l;exact ne_bool (Jv I q (congrArg not zpl))
  | str j=>obtain⟨t',rfl⟩:=l;exact rg (Jv I q (by simp))
  | _=>exact absurd (show false=true from C) bf
 | int i =>
  obtain⟨t,rfl⟩:=G;cases y with
  | non=>cases l;exact rS (Jv I q (by simp))
  | int j=>obtain⟨t',rfl⟩:=l;exact ne_int (Jv I q (congrArg not zmC))
  | str j=>obtain⟨t',rfl⟩:=l;exact rT (Jv I q (by simp))
  | _=>exact absurd (show false=true from C) bf
 | str i =>
  obtain⟨t,rfl⟩:=G;cases y with
  | non=>cases l;exact rV (Jv I q (by simp))
  | bl j=>cases l;exact rh (Jv I q (by simp))
  | int j=>obtain⟨t',rfl⟩:=l;exact rW (Jv I q (by simp))
  | str j=>obtain⟨t',rfl⟩:=l;exact ne_str (Jv I q (congrArg not zmB))
  | _=>exact absurd (show false=true from C) bf
 | byt i =>
  obtain⟨t,rfl⟩:=G;cases y with
  | byt j=>obtain⟨t',rfl⟩:=l;exact PySem.W.ne_bytes (Jv I q (congrArg not zmD))
  | _=>exact absurd (show false=true from C) bf
 | _=>cases y <;> exact absurd (show false=true from C) bf
theorem zsJ:OpR X (compareOp .Lt) (rI0 fun i j=>.bl (decide (i<j))):=opB0 fun _ _ _ _ _ _ _ q=>lt_int q
theorem zwd:OpR X (compareOp .LtE) (rI0 fun i j=>.bl (decide (i<=j))):=opB0 fun _ _ _ _ _ _ _ q=>le_int q
theorem Zq:OpR X (compareOp .Gt) (rI0 fun i j=>.bl (decide (j<i))):=opB0 fun _ _ _ _ _ _ _ q=>gt_int q
theorem zsM:OpR X (compareOp .GtE) (rI0 fun i j=>.bl (decide (j<=i))):=opB0 fun _ _ _ _ _ _ _ q=>ge_int q
theorem zlB:OpR X (compareOp .Lt) (fun x y H Q=>∃i j,x=.str i/\y=.str j/\Q (.bl (decide (i.cps.toList<j.cps.toList))) H):=by
 intro pins s σ H x y v u Q I C G h;obtain⟨i,j,rfl,rfl,q⟩:=h;obtain⟨t,rfl⟩:=C;obtain⟨t',rfl⟩:=G;exact lt_str (Jv I q rfl)
theorem zsK:OpR X (compareOp .Is) (fun x y H Q=>y=.non/\Q (.bl (decide (x=.non))) H):=by
 intro pins s σ H x y v u Q I C G h;obtain⟨rfl,q⟩:=h;cases G;refine is_none_gen (Jv I q ?_);cases x <;> first
  | (cases C;rfl)
  | (obtain⟨t,rfl⟩:=C;rfl)
theorem zp4:OpR X (compareOp .IsNot) (fun x y H Q=>y=.non/\Q (.bl (!decide (x=.non))) H):=by
 intro pins s σ H x y v u Q I C G h;obtain⟨rfl,q⟩:=h;cases G;refine isnot_none_gen (Jv I q ?_);cases x <;> first
  | (cases C;rfl)
  | (obtain⟨t,rfl⟩:=C;rfl)
theorem OpR.or{f:ah->ah->Sem ah}{r G:R2}(h:OpR X f r)(h':OpR X f G):OpR X f (fun x y H Q=>r x y H Q\/G x y H Q):=by
 intro pins s σ H x y v u Q I l C q;rcases q with q|q
 ·exact h pins s σ H x y v u Q I l C q
 ·exact h' pins s σ H x y v u Q I l C q
theorem Jl(b:aV){op:ow}(h:op≠.In:=by decide)(v:op≠.NotIn:=by decide):behindInMarks op b=false:=by
 have l:(op == CmpOp.In)=false:=by cases op <;> first|rfl|exact absurd rfl h
 have u:(op == CmpOp.NotIn)=false:=by cases op <;> first|rfl|exact absurd rfl v
 cases b <;> simp[behindInMarks,l,u]
theorem zlx{op:ow}{r:R2}(J:OpR X (compareOp op) r)(N:PE X a ta)(U:PE X b tb)(R:behindInMarks op b=false):PE X (.Compare a [op] [b] pos) (tOp r ta tb):=by
 intro pins s σ H Q I h;exact wpAny_Compare1 (binT N U I h fun v u s2 x y L G l S q=>J pins s2 σ L x y v u Q G l S q) R
def zrF(t:TE):TT:=fun σ H Q=>t σ H fun x u=>∃k,x=.bl k/\Q k u
theorem ziw{op:ow}{r:R2}(N:OpR X (compareOp op) r)(Y:PE X a ta)(hb:PE X b tb)(hm:behindInMarks op b=false):PT X (.Compare a [op] [b] pos) (zrF (tOp r ta tb)):=by
 intro pins s σ H Q I h;refine lL (thn (Y pins s σ H _ I h) fun v s1 ⟨x,l,U,r1,G⟩=>thn (hb pins s1 σ l _ U G) fun u s2 ⟨y,R,L,r2,q2⟩ =>
  thn (N pins s2 σ R x y v u _ L r1 r2 q2) fun c s3 ⟨z,H3,Z,J,k,e,S⟩=>?_) hm
 subst e;cases J;exact bV ⟨H3,Z,S⟩
def zoS(r v:R2)(ta tb tc:TE):TE:=fun σ H Q=>ta σ H fun x C=>tb σ C fun y I=>r x y I fun z u=>∃k,z=.bl k /\
 (if k=true then tc σ u fun G J=>v y G J Q else Q (.bl false) u)
theorem znT{op G:ow}{r L:R2}(ho:OpR X (compareOp op) r)(J:OpR X (compareOp G) L)(ha:PE X a ta)(hb:PE X b tb)(hc:PE X c tc)
  (hm:lastMarks [op,G] [b,c]=false:=by with_unfolding_all rfl):PE X (.Compare a [op,G] [b,c] pos) (zoS r L ta tb tc):=by
 intro pins s σ H Q I h;refine Compare_chain (thn (ha pins s σ H _ I h) fun v s1 ⟨x,Y,I1,r1,Z⟩=>chain_link (thn (hb pins s1 σ Y _ I1 Z) fun u s2 ⟨y,H2,I2,U,q2⟩ =>
  thn (ho pins s2 σ H2 x y v u _ I2 r1 U q2) fun d s3 ⟨z,S,R,r3,k,e,N⟩=>?_)) hm
 subst e;cases r3;refine bV ?_;cases k with
 | false=>exact ite_ff ⟨.bl false,S,R,rfl,N⟩
 | true=>exact ite_tt (chain_last (thn (hc pins s3 σ S _ R N) fun w' s4 ⟨z',H4,I4,r4,q4⟩=>J pins s4 σ H4 y z' u w' Q I4 U r4 q4))
theorem znN{op l:ow}{r J:R2}(ho:OpR X (compareOp op) r)(G:OpR X (compareOp l) J)(ha:PE X a ta)(hb:PE X b tb)(hc:PE X c tc)
  (hm:lastMarks [op,l] [b,c]=false:=by with_unfolding_all rfl):PT X (.Compare a [op,l] [b,c] pos) (zrF (zoS r J ta tb tc)):=by
 intro pins s σ H Q I h;refine isTrue_chain (thn (ha pins s σ H _ I h) fun v s1 ⟨x,U,I1,r1,Y⟩=>test_link (thn (hb pins s1 σ U _ I1 Y) fun u s2 ⟨y,H2,I2,S,q2⟩ =>
  thn (ho pins s2 σ H2 x y v u _ I2 r1 S q2) fun d s3 ⟨z,R,N,Z,k,e,L⟩=>?_)) hm
 subst e;cases Z;refine bV ?_;cases k with
 | false =>
  obtain⟨k',e',q'⟩:=L;cases e';exact ite_ff ⟨R,N,q'⟩
 | true =>
  refine ite_tt (test_last (thn (hc pins s3 σ R _ N L) fun w' s4 ⟨z',H4,I4,r4,q4⟩=>thn (G pins s4 σ H4 y z' u w' _ I4 S r4 q4) fun d' s5 ⟨z2,H5,I5,r5,k2,e2,q5⟩=>?_))
  subst e2;cases r5;exact bV ⟨H5,I5,q5⟩
def TruV(K:qF)(x:V)(H:Hp)(k:Bool):Prop :=
 match x with
 | .non=>k=false
 | .bl b=>k=b
 | .int i=>k=(i != 0)
 | .str y=>y.length<=sizeLine/\k=((y.length:Int) != 0)
 | .byt y=>y.size<=sizeLine/\k=((y.size:Int) != 0)
 | .ref p=>(∃xs,SqL K H p xs/\k=!xs.isEmpty)\/(∃xs,SqT K H p xs/\k=!xs.isEmpty)\/∃u,H p=some (.dK u)/\k=!u.isEmpty
 | _=>False
theorem zkF{u:Type}{l:List (u×V)}{v:List (u×ah)}(r:KV l v):(!v.isEmpty)=!l.isEmpty:=by
 cases r <;> rfl
theorem zfP{xs:List V}{l:List ah}(r:Vals xs l):(!l.toArray.isEmpty)=!xs.isEmpty:=by
 cases r <;> simp
theorem U1:(sizeLine:Nat)<2 ^ 63:=by rw[lT];decide
theorem zoQ:TruR X (fun x H Q=>∃k,TruV X.K x H k/\Q k H):=by
 intro pins s σ H x v Q I J h;obtain⟨k,e,q⟩:=h;have Y:=U1;have Z:sizeLine=16777216:=lT;cases x with
 | non =>
  cases J;have u:k=false:=e;subst u;exact truthy_none ⟨H,I,q⟩
 | bl b =>
  cases J;have u:k=b:=e;subst u;exact bV ⟨H,I,q⟩
 | int i =>
  obtain⟨t,rfl⟩:=J;have u:k=(i != 0):=e;subst u;exact PySem.P.truthy_int ⟨H,I,q⟩
 | str y =>
  obtain⟨t,rfl⟩:=J;obtain⟨S,u⟩:y.length<=sizeLine/\k=((y.length:Int) != 0):=e;subst u;exact PySem.P.truthy_str (by lia) ⟨H,I.tok _,q⟩
 | byt y =>
  obtain⟨t,rfl⟩:=J;obtain⟨S,u⟩:y.size<=sizeLine/\k=((y.size:Int) != 0):=e;subst u;exact PySem.W.truthy_bytes (by lia) ⟨H,I.tok _,q⟩
 | ref p =>
  cases J;have u:(∃xs,SqL X.K H p xs/\k=!xs.isEmpty)\/(∃xs,SqT X.K H p xs/\k=!xs.isEmpty)\/∃C,H p=some (.dK C)/\k=!C.isEmpty:=e;rcases u with⟨xs,hx,u⟩|⟨xs,hx,u⟩|⟨C,hx,u⟩
  ·subst u;obtain⟨N,r,pl,R⟩:=I.list hx;have G:=r.length;exact wpAny_truthy_list pl.isList (by simp only[aF];lia) ⟨H,I.tok _,by rw[zfP r];exact q⟩
  ·subst u;obtain⟨N,r,pl,R⟩:=I.tuple hx;have G:=r.length;exact truthy_tuple pl (by simp only[aF];lia) ⟨H,I.tok _,by rw[zfP r];exact q⟩
  ·subst u;obtain⟨R,U,L,r,m⟩:C.length<=sizeLine/\(p == sysModules)=false/\∃L,KV C L/\s.heap.DictOf (Y0 X.prog X.w) p L:=I.hok p _ hx;have G:C.length=L.length:=mH r;exact wpAny_truthy_dict U m (by lia) ⟨H,I.tok _,by rw[zkF r];exact q⟩
 | _=>exact(show False from e).elim
theorem znM(J:PE X a ta)(C:∀whole,isTrue a X.env whole=(do let v <- whole;standAt a.pos;holding [v] (truthy v))) :
  PT X a (fun σ H Q=>ta σ H fun x l=>∃k,TruV X.K x l k/\Q k l):=by
 intro pins s σ H Q I h;exact isTrue_plain (thn (J pins s σ H _ I h) fun v s1 ⟨x,u,G,L,y⟩=>zoQ pins s1 σ u x v Q G L y) (C _)
theorem zj9:OpR X (binaryOp .Add) (fun x y H Q=>∃i j,x=.str i/\y=.str j/\i.length+j.length<=sizeLine/\Q (.str (i++j)) H):=by
 intro pins s σ H x y v u Q I l G h;obtain⟨i,j,rfl,rfl,C,q⟩:=h;obtain⟨t,rfl⟩:=l;obtain⟨t',rfl⟩:=G;exact add_str (fun t' tk=>⟨.str (i++j),H,I.tok _,⟨_,rfl⟩,q⟩) C
theorem vals1{x:V}{l:List ah}(r:Vals [x] l):∃u,l=[u]/\RelV x u:=by
 cases r with
 | cons v y=>cases y;exact⟨_,rfl,v⟩
theorem vals2{x y:V}{l:List ah}(r:Vals [x,y] l):∃u v,l=[u,v]/\RelV x u/\RelV y v:=by
 cases r with
 | cons C J =>
  cases J with
  | cons I G=>cases G;exact⟨_,_,rfl,C,I⟩
theorem ze0(hc:X.calm=true):JX X (.builtin "max") (fun xs H Q=>∃i j,xs=[.int i,.int j]/\Q (.int (if j > i then j else i)) H):=by
 intro pins s σ H xs v Q I r h;obtain⟨i,j,rfl,q⟩:=h;obtain⟨u,x,rfl,⟨t,rfl⟩,⟨t',rfl⟩⟩:=vals2 r;refine max_two_ints (I.ok.hd hc) fun h' tk k=>⟨_,H,I.kept k,?_,q⟩
 by_cases hj:j > i
 ·rw[if_pos hj,if_pos hj];exact⟨_,rfl⟩
 ·rw[if_neg hj,if_neg hj];exact⟨_,rfl⟩
theorem zeZ(hc:X.calm=true):JX X (.builtin "min") (fun xs H Q=>∃i j,xs=[.int i,.int j]/\Q (.int (if j<i then j else i)) H):=by
 intro pins s σ H xs v Q I r h;obtain⟨i,j,rfl,q⟩:=h;obtain⟨u,x,rfl,⟨t,rfl⟩,⟨t',rfl⟩⟩:=vals2 r;refine min_two_ints (I.ok.hd hc) fun h' tk k=>⟨_,H,I.kept k,?_,q⟩
 by_cases hj:j<i
 ·rw[if_pos hj,if_pos hj];exact⟨_,rfl⟩
 ·rw[if_neg hj,if_neg hj];exact⟨_,rfl⟩
theorem zmY:JX X (.type "int") (fun xs H Q=>(∃i,xs=[.int i]/\Q (.int i) H)\/∃k,xs=[.bl k]/\Q (.int (if k then 1 else 0)) H):=by
 intro pins s σ H xs x Q I r h;rcases h with⟨i,rfl,q⟩|⟨k,rfl,q⟩
 ·obtain⟨u,rfl,t,rfl⟩:=vals1 r;exact call_int_int ⟨.int i,H,I,⟨_,rfl⟩,q⟩
 ·obtain⟨u,rfl,v⟩:=vals1 r;cases v;exact call_int_bool ⟨.int (if k then 1 else 0),H,I.tok _,⟨_,rfl⟩,q⟩
def LenV(K:qF)(x:V)(H:Hp)(n:Nat):Prop :=
 match x with
 | .str y=>y.length<=sizeLine/\n=y.length
 | .byt y=>y.size<=sizeLine/\n=y.size
 | .ref p=>(∃xs,SqL K H p xs/\n=xs.length)\/∃xs,SqT K H p xs/\n=xs.length
 | _=>False
theorem Q6:JX X (.builtin "len") (fun xs H Q=>∃x n,xs=[x]/\LenV X.K x H n/\Q (.int n) H):=by
 intro pins s σ H xs U Q I r h;obtain⟨x,n,rfl,e,q⟩:=h;obtain⟨u,rfl,G⟩:=vals1 r;have S:=U1;have Y:sizeLine=16777216:=lT;cases x with
 | str y =>
  obtain⟨t,rfl⟩:=G;obtain⟨N,C⟩:y.length<=sizeLine/\n=y.length:=e;subst C;exact len_str (by lia) ⟨.int _,H,I.tok _,⟨_,rfl⟩,q⟩
 | byt y =>
  obtain⟨t,rfl⟩:=G;obtain⟨N,C⟩:y.size<=sizeLine/\n=y.size:=e;subst C;exact PySem.W.len_bytes (by lia) ⟨.int _,H,I.tok _,⟨_,rfl⟩,q⟩
 | ref p =>
  cases G;have C:(∃xs,SqL X.K H p xs/\n=xs.length)\/∃xs,SqT X.K H p xs/\n=xs.length:=e;rcases C with⟨xs,hx,C⟩|⟨xs,hx,C⟩
  ·subst C;obtain⟨J,L,pl,R⟩:=I.list hx;have v:=L.length;exact mw pl.isList (by simp only[aF];lia) ⟨.int xs.length,H,I.tok _,⟨_,by simp only[aF];rw[v]⟩,q⟩
  ·subst C;obtain⟨J,L,pl,R⟩:=I.tuple hx;have v:=L.length;exact len_tuple pl (by simp only[aF];lia) ⟨.int xs.length,H,I.tok _,⟨_,by simp only[aF];rw[v]⟩,q⟩
 | _=>exact(show False from e).elim
end
structure ObjM(h:aW)(x dx C:ak)(mA:qM):Prop where
 obj:h.get? x=some (lG C dx)
 ns:h.Ns1 dx mA
 ne:dx≠x
theorem zl1{h:aW}{v:ak}{C:qM}(n:h.Ns1 v C):∃x,h.get? v=some x/\∀name,lU name x=some (C name):=by
 obtain⟨o,u,R,J,hd,I,_,L⟩:=n;refine⟨o,J,fun name=>?_⟩
 have e:=L name;unfold nsFind findBy at e;rw[<- Array.find?_toList]at e;unfold lU;rw[hd];dsimp only;split
 ·rename_i y q;rw[q]at e;exact congrArg some e
 ·rename_i q;rw[q]at e;have a:u.toList.any (·.refKey)=false:=by
   rw[m8];intro y G;obtain⟨z,t,l⟩:=I y (Array.mem_toList_iff.mp G);simp[DictEntry.refKey,l]
  have N:¬u.toList.any (·.refKey)=true:=by rw[a];exact bf
  rw[if_neg N];exact congrArg some e
theorem ObjM.look{h:aW}{x v C:ak}{u:qM}(I:ObjM h x v C u):∃l,PySem.W.InstAt h x (lG C v) C (some l)/\∀name,lU name l=some (u name) :=
 let ⟨l,ho,hl⟩:=zl1 I.ns
 ⟨l,⟨I.obj,rfl,rfl,ho⟩,hl⟩
section
variable{P:aL}{w:aT}{H H':Hp}{h h':aW}{a C dx:ak}{fs fs':List (Str×V)}
theorem zqC(hok:HOk P w H h)(e:H a=some (.ins C dx fs)):∃l,ObjM h a dx C l/\(∀f,RelO (fs.lookup f) (l f))/\tv l (fs.map (·.1))/\fs.length<=1000/\H dx=some (.own a):=by
 obtain⟨d,z,ne,u,l,n,r,q⟩:=(show JK P w H h a (.ins C dx fs) from hok a _ e)
 exact⟨l,⟨u,n,ne⟩,r,q,z,d⟩
end
structure Cls(K:qF)(C:ak):Prop where
 pg:nX K C iR=true
 hd:PySem.W.hasDictIn K C=true
 po:PySem.W.plainOver K C=true
 sa:o8 K (.ref C) "__setattr__" = some (some (.builtin "object.__setattr__"))
theorem Cls.get{K:qF}{C:ak}(c:Cls K C)(f:Str):nX K C f=true:=c.pg
section
variable{X:Cx}{pins:qO}{σ:St}{H:Hp}{s:aq}{A:br}{E:qV}{Q:qV}{c:ah}{b:Bool}
inductive TyOf (K:qF)(H:Hp):V->ah->Prop where
 | non:TyOf K H .non (.type "NoneType")
 | bl (x:Bool):TyOf K H (.bl x) (.type "bool")
 | int (i:Int):TyOf K H (.int i) (.type "int")
 | str (x:Str):TyOf K H (.str x) (.type "str")
 | flt (x:UInt64):TyOf K H (.flt x) (.type "float")
 | lst {a:ak} {xs:List V} (e:H a=some (.lst xs)):TyOf K H (.ref a) (.type "list")
 | frz {a:ak} {o:Obj} {xs:List V} (e:H a=some (.frz o (.lst xs))):TyOf K H (.ref a) (.type "list")
 | tup {a:ak} {xs:List V} (e:H a=some (.tup xs)):TyOf K H (.ref a) (.type "tuple")
 | dK {a:ak} {kvs:List (Key×V)} (e:H a=some (.dK kvs)):TyOf K H (.ref a) (.type "dict")
 | dT {a:ak} {kvs:List (List Key×V)} (e:H a=some (.dT kvs)):TyOf K H (.ref a) (.type "dict")
 | ins {a C dx:ak} {fs:List (Str×V)} (e:H a=some (.ins C dx fs)) (cl:Cls K C) (ha:o8 K (.ref C) "__class__" = some (some (.builtin "object.__class__")))
   (hn:PySem.W.specialIn K (.builtin "object.__class__") "__get__" = some (some (.builtin "getset_descriptor.__get__"))) (htk:PySem.W.takesIn K (.builtin "object.__class__")=some true)
   (hm:PySem.W.mroIn K C (.type "object")=some true):TyOf K H (.ref a) (.ref C)
theorem zmd{x:V}{u t:ah}(I:Inv X pins σ H s)(v:RelV x u)(ty:TyOf X.K H x t)(e:o9 X.K t c=some b)(h:∀tk,Q (.bool b) { s with toks:=tk }) :
  wpAny (model X.prog X.w) A (call (.builtin "isinstance") [u,c]) Q E s:=by
 cases ty with
 | non=>cases(show u=iS from v);exact bP PySem.W.kitx_none I.kIn kW e (fun z=>nomatch z) h
 | bl y=>cases(show u=eM y from v);exact bP PySem.W.kitx_bool I.kIn kW e (fun z=>nomatch z) h
 | int i=>obtain⟨t,q⟩:=(show ∃t,u=sJ i t from v);cases q;exact bP PySem.W.kitx_int I.kIn kW e (fun z=>nomatch z) h
 | str y=>obtain⟨t,q⟩:=(show ∃t,u=iQ y t from v);cases q;exact bP PySem.W.kitx_str I.kIn kW e (fun z=>nomatch z) h
 | flt y=>obtain⟨t,q⟩:=(show ∃t,u=uM y t from v);cases q;exact bP PySem.W.kitx_float I.kIn kW e (fun z=>nomatch z) h
 | @lst a xs ea =>
  cases(show u=cA a from v)
  obtain⟨_,_,n,_,G⟩:=(show JK X.prog X.w H s.heap a (.lst xs) from I.hok a _ ea)
  exact bP m9 I.kIn ⟨_,G,rfl⟩ e (fun z=>nomatch z) h
 | @frz a ob xs ea =>
  cases(show u=cA a from v)
  obtain⟨_,_,_,n,_,G⟩:=(show JK X.prog X.w H s.heap a (.frz ob (.lst xs)) from I.hok a _ ea)
  exact bP m9 I.kIn ⟨_,G,rfl⟩ e (fun z=>nomatch z) h
 | @tup a xs ea =>
  cases(show u=cA a from v)
  obtain⟨_,_,_,p⟩:=(show JK X.prog X.w H s.heap a (.tup xs) from I.hok a _ ea)
  obtain⟨o,G,L,_⟩:=p;exact bP mO I.kIn ⟨o,G,L⟩ e (fun z=>nomatch z) h
 | @dK a kvs ea =>
  cases(show u=cA a from v)
  obtain⟨_,_,S,_,p⟩:=(show JK X.prog X.w H s.heap a (.dK kvs) from I.hok a _ ea)
  obtain⟨o,N,R,G,L,_⟩:=p;exact bP eX I.kIn ⟨o,G,L.1⟩ e (fun z=>nomatch z) h
 | @dT a kvs ea =>
  cases(show u=cA a from v)
  obtain⟨_,_,xs,_,o,N,R,G,L,_⟩:=(show JK X.prog X.w H s.heap a (.dT kvs) from I.hok a _ ea)
  exact bP eX I.kIn ⟨o,G,L.1⟩ e (fun z=>nomatch z) h
 | @ins a C dx fs ea cl ha hn htk hm =>
  cases(show u=cA a from v)
  obtain⟨Y,O,_⟩:=zqC I.hok ea;obtain⟨U,J,_⟩:=O.look;exact bP (PySem.W.kitx_own (cl.get _) cl.hd ha hn htk hm) I.kIn J e (fun z=>nomatch z) h
end
structure Room(k:Nat)(A:br):Prop where
 hd:A.handled=none
 dp:A.depth+3*k+5<recursionLimit
 un:A.units+16*k+200<cLine
 gd:A.guards=some []
theorem Room.mono{j k:Nat}{A:br}(r:Room k A)(h:j<=k):Room j A:=⟨r.hd,by have:=r.dp;lia,by have:=r.un;lia,r.gd⟩
theorem Room.deeper{k:Nat}{A:br}(r:Room (k+1) A)(env:Env):Room k (A.deeper env) :=
 ⟨r.hd,by have:=r.dp;show A.depth+1+3*k+5<_;lia,by have:=r.un;show A.units+3+16*k+200<_;lia,r.gd⟩
theorem Room.depth{k:Nat}{A:br}(r:Room k A):A.depth<recursionLimit:=by have:=r.dp;lia
theorem Room.units{k:Nat}{A:br}(r:Room k A):A.units+64<cLine:=by have:=r.un;lia
theorem Room.units0{k:Nat}{A:br}(r:Room k A):A.units<cLine:=by have:=r.un;lia
def tNil:TA:=fun _ H Q=>Q [] H
def QK(u:TE)(l:TA):TA:=fun σ H Q=>u σ H fun x v=>l σ v fun xs y=>Q (x::xs) y
section
variable{X:Cx}{e:aV}{es:List aV}{te:TE}{t:TA}{pos:Pos}
theorem UX:PA X [] tNil:=fun _ _ _ _ H Q I h=>Calls.spliced_nil ⟨[],H,I,.nil,h⟩
theorem Um(L:PE X e te)(y:PA X es t)(N:starEach (e::es) X.env=(false,eval e X.env)::starEach es X.env:=by rfl):PA X (e::es) (QK te t):=by
 intro pos pins s σ H Q I h;rw[N];show wpAny _ _ (spliced ((false,eval e X.env)::backTo pos (starEach es X.env))) _ _ s
 refine Calls.spliced_cons (thn (L pins s σ H _ I h) fun u s1 ⟨x,l,J,S,v⟩=>?_)
 exact thn (y pos pins s1 σ l _ J v) fun Y s2 ⟨xs,G,C,U,R⟩=>⟨x::xs,G,C,.cons S U,R⟩
def tTup(t:TA):TE:=fun σ H Q=>t σ H fun xs l=>xs.length<=sizeLine/\∀p,l p=none->Q (.ref p) (upd l p (.tup xs))
def tLst(t:TA):TE:=fun σ H Q=>t σ H fun xs u=>xs.length<=sizeLine/\∀p,u p=none->Q (.ref p) (upd u p (.lst xs))
theorem zo5{x1}(h:PA X es t):PE X (.Tuple es x1 pos) (tTup t):=by
 intro pins s σ H Q I C;refine wpAny_Tuple_spliced (thn (h pos pins s σ H _ I C) fun y s1 ⟨xs,v,x,r,z,q⟩=>⟨by rw[<- r.length];exact z,?_⟩)
 have hf:v s1.heap.objs.size=none:=x.hok.fresh (aC _);refine⟨.ref s1.heap.objs.size,upd v s1.heap.objs.size (.tup xs),x.laid (t':=s1.toks) (fun b u e=>au _ e) (aC _) ?_,rfl,q _ hf⟩
 exact⟨z,y,r,⟨_,aH _ rfl,rfl,⟨_,rfl⟩,rfl⟩⟩
theorem zsx(h:PA X es t):PE X (.List es pos) (tLst t):=by
 intro pins s σ H Q I C;refine wpAny_List_spliced (thn (h pos pins s σ H _ I C) fun y s1 ⟨xs,v,x,r,z,q⟩=>⟨by rw[<- r.length];exact z,?_⟩)
 have hf:v s1.heap.objs.size=none:=x.hok.fresh (aC _);refine⟨.ref s1.heap.objs.size,upd v s1.heap.objs.size (.lst xs),x.laid (t':=s1.toks) (fun b u e=>au _ e) (aC _) ?_,rfl,q _ hf⟩
 exact⟨z,y,0,r,aH _ rfl⟩
end
abbrev Sp:=List V->Hp->VK->XK->Prop
abbrev CXT:=List Env->Hp->aq->XK->ah->aq->Prop
structure Env0(P:aL)(w:aT)(K:qF)(mg:qM)(base:aW)(A:br)(outer:List Env)(s:aq)(H:Hp):Prop where
 frames:A.frames=some outer
 mod:Mod K mg base
 bs:∀b o,base.get? b=some o->s.heap.get? b=some o/\H b=none
 bsz:base.objs.size<=s.heap.objs.size
 funs:s.heap.FunFrames base outer
 frf:∀b∈frs outer,H b=none
 hok:HOk P w H s.heap
 bare:iy s.gens
def CE(outer:List Env)(P:aL)(w:aT)(H:Hp)(s:aq)(Q:VK)(u:ah)(s':aq):Prop :=
 ∃v l,s'.os=s.os/\iy s'.gens/\Un (frs outer) [] H l s.heap s'.heap/\HOk P w l s'.heap/\RelV v u/\Q v l
def CR(l:CXT)(outer:List Env)(P:aL)(w:aT)(H:Hp)(s:aq)(Q:VK)(E:XK)(r:nY)(s':aq):Prop :=
 match r with
 | .ok (.ret u)=>CE outer P w H s Q u s'
 | .ok _=>False
 | .error e=>l outer H s E e s'
structure FnOk(P:aL)(w:aT)(K:qF)(mg:qM)(base:aW)(CX:CXT)(k:Nat)(f:ak)(fd:cR)(ps:List Str)(sp:Sp):Prop where
 len:∀vs H Q E,sp vs H Q E->vs.length=ps.length
 run:∀(A:br) (outer:List Env) (s:aq) (H:Hp) (args:Args) (us:List ah) (vs:List V) (Q:VK) (E:XK),Room k A->Env0 P w K mg base A outer s H->oZ s fd args (ps.zip us)->Vals vs us->sp vs H Q E ->
  codeAny (model P w) A (.call (.ref f) args) (CR CX outer P w H s Q E) s
theorem FnOk.imp{P:aL}{w:aT}{K:qF}{mg:qM}{base:aW}{v:CXT}{k:Nat}{f:ak}{fd:cR}{ps:List Str}{x u:Sp}(F:FnOk P w K mg base v k f fd ps x)
  (h:∀l H Q E,u l H Q E->x l H Q E):FnOk P w K mg base v k f fd ps u :=
 ⟨fun l H Q E q=>F.len l H Q E (h _ _ _ _ q),fun A outer s H args G l Q E y C L I J=>F.run A outer s H args G l Q E y C L I (h _ _ _ _ J)⟩
section
variable{X:Cx}{pins:qO}{σ:St}{H:Hp}{s s':aq}
theorem Inv.env0(I:Inv X pins σ H s):Env0 X.prog X.w X.K X.mg X.base X.A X.stack s H :=
 ⟨I.ok.frames,I.ok.mod,I.bs,cB I.ok.bsz I.sz,I.stack,I.stkFree,I.hok,I.bare⟩
theorem Inv.after{Q:VK}{u:ah}(I:Inv X pins σ H s)(h:CE X.stack X.prog X.w H s Q u s'):EP X pins σ Q u s':=by
 obtain⟨v,y,os,bare,un,hok,r,q⟩:=h;obtain⟨x,g,d,t,l⟩:=s';obtain rfl:l=s.os:=os;exact⟨v,y,I.call (h':=x) (g':=g) (d':=d) (t':=t) (ch:=[]) un hok bare (fun b z=>absurd z (by simp)),r,q⟩
end
def zrI(u:Sp)(l:List V)(E:XK)(t:TA):TE:=fun σ H Q=>t σ H fun x v=>u (x++l) v Q E
def Binds(K:qF)(fd:cR)(ps:List Str)(ds:List ah):Prop :=
 ∀(s:aq) (u:List ah),K.In s.heap->(u++ds).length=ps.length->oZ s fd ⟨u,[]⟩ (ps.zip (u++ds))
theorem Binds.all{K:qF}{fd:cR}{ps:List Str}(h:∀l:List ah,l.length=ps.length->bindArgs fd ⟨l,[]⟩=pure (ps.zip l)):Binds K fd ps []:=fun s l _ u=>by
 rw[bW]at u ⊢;exact .of_eq (h l u)
def Vv(l:CXT)(X:Cx)(E:XK):Prop:=∀(pins:qO) (σ:St) (H:Hp) (s:aq) (e:ah) (s':aq),Inv X pins σ H s->l X.stack H s E e s'->X.xe e s'
section
variable{X:Cx}{CX:CXT}{k:Nat}{f C:ak}{fd:cR}{ps:List Str}{sp:Sp}{dvs:List V}{ds:List ah}{E:XK}{x m:Str}{p pos apos:Pos}{e o:aV}{es:List aV}{ta:TE}{t:TA}
theorem zoX{pins:qO}{σ:St}{H:Hp}{s:aq}{Q:VK}{v:List ah}{G:List V}(F:FnOk X.prog X.w X.K X.mg X.base CX k f fd ps sp)(N:Room k X.A)(R:Binds X.K fd ps ds)(hd:Vals dvs ds)(hx:Vv CX X E)
  (I:Inv X pins σ H s) (r:Vals G v) (h:sp (G++dvs) H Q E):wpAny (model X.prog X.w) X.A (call (.ref f) v) (EP X pins σ Q) X.xe s:=by
 have J:Vals (G++dvs) (v++ds):=r.append hd;have L:(v++ds).length=ps.length:=by rw[<- J.length];exact F.len _ _ _ _ h
 refine mP (iL (F.run X.A X.stack s H ⟨v,[]⟩ (v++ds) (G++dvs) Q E N I.env0 (R s v I.kIn L) J h) fun r s' y=>?_)
 cases r with
 | error e=>exact hx pins σ H s e s' I y
 | ok fl =>
  cases fl with
  | ret u=>exact I.after y
  | next=>exact cx y
  | brk=>exact cx y
  | cont=>exact cx y
theorem zpV(F:FnOk X.prog X.w X.K X.mg X.base CX k f fd ps sp)(J:Room k X.A)(S:Gl X x)(Y:X.mg x=some (.ref f))(R:gX X.K (.ref f)=true)(Z:Binds X.K fd ps ds)(hd:Vals dvs ds)(hx:Vv CX X E)
  (U:PA X (e::es) t) (u:(x == ("__debug__":Str))=false:=by decide) (L:starEach (e::es) X.env=(false,eval e X.env)::starEach es X.env:=by rfl) (v:(backTo pos (starEach es X.env)).any (·.1)=false:=by rfl) :
  PE X (.Call (.Name x p) (e::es) [] pos) (zrI sp dvs E t):=by
 intro pins s σ H Q I h;refine fF (U4 I S Y ?_ u);refine iX (h₀:=X.base) I.ok.mod.kin R (thn (U pos pins s σ H _ I h) fun us s1 ⟨vs,H1,G,r,q⟩=>⟨G.kIn,?_⟩) L v
 exact zoX F J Z hd hx G r q
end
structure Uq(N P:List Str)(sc:fA):Prop where
 kind:sc.kind=.function
 co:sc.isCoroutine=false
 gen:sc.isGenerator=false
 nd:N.Nodup
 pre:N.take P.length=P
 par:∀x∈P,sc.names.lookup x=some .local\/sc.names.lookup x=some .cell
 nofree:∀y∈sc.names,y.2≠.free
theorem zik{kindOf:Str->Option eO}{x:Str}:∀{binds:List (Str×ah)}{m:qM},(∀v,(x,v)∉binds)->bindL kindOf binds m x=m x
 | [],_,_=>rfl
 | (n,v)::r,m,h=>by
  unfold bindL;rw[zik fun w hw=>h w (b5 _ hw)]
  split
  ·have:x≠n:=by rintro rfl;exact h v cC
   simp[this]
  ·rfl
theorem zim{kindOf:Str->Option eO}{x:Str}:∀{binds:List (Str×ah)}{m:qM},(∀v,(x,v)∉binds)->bindC kindOf binds m x=m x
 | [],_,_=>rfl
 | (n,v)::r,m,h=>by
  unfold bindC;rw[zim fun w hw=>h w (b5 _ hw)]
  split
  ·rfl
  ·have:x≠n:=by rintro rfl;exact h v cC
   simp[this]
theorem zil{kindOf:Str->Option eO}{x:Str}{v:ah}:∀{P:List Str}{u:List ah}{i:Nat}{m:qM},P.Nodup->P[i]?=some x->u[i]?=some v->kindOf x=some .local ->
  bindL kindOf (P.zip u) m x=some v
 | [],_,_,_,_,h,_,_=>by simp at h
 | _::_,[],_,_,_,_,h,_=>by simp at h
 | p::P,w::u,0,m,nd,h1,h2,hk=>by
  simp at h1 h2;subst h1;subst h2;show bindL kindOf ((p,w)::P.zip u) m p=_
  unfold bindL;rw[zik fun v y=>(eW.mp nd).1 (eE y).1,if_pos hk]
  simp
 | p::P,w::u,i+1,m,nd,h1,h2,hk=>by
  show bindL kindOf ((p,w)::P.zip u) m x=_
  unfold bindL;exact zil (i:=i) (eW.mp nd).2 (by simpa using h1) (by simpa using h2) hk
theorem zin{kindOf:Str->Option eO}{x:Str}{v:ah}:∀{P:List Str}{u:List ah}{i:Nat}{m:qM},P.Nodup->P[i]?=some x->u[i]?=some v->kindOf x≠some .local ->
  bindC kindOf (P.zip u) m x=some v
 | [],_,_,_,_,h,_,_=>by simp at h
 | _::_,[],_,_,_,_,h,_=>by simp at h
 | p::P,w::u,0,m,nd,h1,h2,hk=>by
  simp at h1 h2;subst h1;subst h2;show bindC kindOf ((p,w)::P.zip u) m p=_
  unfold bindC;rw[zim fun v y=>(eW.mp nd).1 (eE y).1,if_neg hk]
  simp
 | p::P,w::u,i+1,m,nd,h1,h2,hk=>by
  show bindC kindOf ((p,w)::P.zip u) m x=_
  unfold bindC;exact zin (i:=i) (eW.mp nd).2 (by simpa using h1) (by simpa using h2) hk
def start(N:List Str)(l:List V):St:=l.map some++bu (N.length - l.length) none
def cxOf(u:CXT)(P:aL)(w:aT)(K:qF)(mg:qM)(base:aW)(N:List Str)(qual:Str)(scope:fA)(f:ak)(cd:ah)(A:br)(outer:List Env)(s:aq)(H:Hp)(E:XK):Cx where
 prog:=P
 w:=w
 K:=K
 mg:=mg
 base:=base
 A:=A.deeper (envOfC qual scope s.heap.objs.size f cd)
 N:=N
 s₀:=s
 H₀:=H
 env:=envOfC qual scope s.heap.objs.size f cd
 outer:=outer
 stack:=envOfC qual scope s.heap.objs.size f cd::outer
 ex:=[]
 calm:=true
 fn:=fun _=>true
 pn:=[]
 xe:=fun e s'=>wpAny (model P w) (A.deeper (envOfC qual scope s.heap.objs.size f cd)) (leaving (envOfC qual scope s.heap.objs.size f cd) e) (fun _ l=>u outer H s E e l) (fun v l=>u outer H s E v l) s'
theorem zjR{sc:fA}{n:Nat}{x:Str}(h:sc.names.lookup x=some .cell):∃c,(cellsFrom n sc.names []).lookup x=some c:=by
 have q:=kX sc.names n [] (.inl h);exact kF.mp q
theorem zmf{CX:CXT}{P:aL}{w:aT}{K:qF}{mg:qM}{base:aW}{N ps:List Str}{qual:Str}{scope:fA}{f:ak}{cd:ah}{A:br}{outer:List Env}{s s1:aq}{H:Hp}{E:XK}{Z:List ah}{L:List V}
  (S:Uq N ps scope) (hd:A.handled=none) (G:Env0 P w K mg base A outer s H) (hl:L.length=ps.length) (r:Vals L Z)
  (x:InCallC s s.heap.objs.size (bindL (envOfC qual scope s.heap.objs.size f cd).kindOf (ps.zip Z) fun _=>none) (cellsFrom (s.heap.objs.size+1) scope.names []) (bindC (envOfC qual scope s.heap.objs.size f cd).kindOf (ps.zip Z) fun _=>none) s1) :
  Inv (cxOf CX P w K mg base N qual scope f cd A outer s H E) [] (start N L) H s1:=by
 have hpl:ps.length<=N.length:=by have:=congrArg dQ S.pre;rw[fk]at this;lia
 obtain⟨Y,tk,rfl,hk⟩:=x.done;have J:∀b:ak,b∉(cxOf CX P w K mg base N qual scope f cd A outer s H E).ex:=fun b z=>absurd (show b∈([]:List ak) from z) (by simp)
 refine⟨⟨G.mod,S.kind,rfl,rfl,aC _,fun y z c Y C=>?_,fun y I=>?_,fun y c _ h=>?_,fun _=>hd,Around.frames_deeper G.frames,.inr ⟨rfl,rfl⟩,fun b z=>absurd z (J b),G.bs,G.bsz,fun b _ _=>J b,fun b z=>absurd z (J b),G.funs,G.frf⟩,
  rfl,G.bare,Un.kept hk,⟨_,x.toInCall.ns,fun i y v Y C h3=>?_⟩,fun y c h=>⟨_,x.cell y c h⟩,G.hok.fresh (aC _),fun y c h=>?_,fun p U=>absurd (show p∈([]:qO) from U) (by simp),G.hok.kept hk,?_⟩
 ·exact name_of_addr x.apart (fc Y) (fc C)
 ·have I:scope.names.lookup y=some .cell\/scope.names.lookup y=some .free:=I;rcases I with I|I
  ·exact zjR I
  ·exact absurd rfl (S.nofree _ (fc I))
 ·exact mZ (x.above y c (fc h))
 ·have hi:i<L.length:=by
   unfold start at C
   by_cases hi:i<L.length
   ·exact hi
   ·rw[bw (by simpa using hi)]at C
    rw[dX]at C;split at C <;> cases C
  have ha:L[i]?=some v:=by
   unfold start at C;rw[bQ (by simpa using hi),bh]at C
   cases e:L[i]? with
   | none=>rw[e]at C;cases C
   | some a=>rw[e]at C;cases C;rfl
  obtain⟨u,hu,rv⟩:=r.get ha;have U:ps[i]?=some y:=by
   rw[<- S.pre,kG (by lia)];exact Y
  have R:ps.Nodup:=by rw[<- S.pre];exact S.nd.sublist (nc _ _)
  refine⟨u,rv,?_⟩;rcases S.par y (aX U) with k|k
  ·exact .inl ⟨k,zil R U hu k⟩
  ·obtain⟨c,e⟩:=zjR (n:=s.heap.objs.size+1) k;refine .inr ⟨.inl k,c,e,?_⟩;have q:=x.cell y c e;rw[zin R U hu (by show scope.names.lookup y≠_;rw[k];decide)]at q
   exact q
 ·exact G.hok.fresh (mZ (x.above y c (fc h)))
 ·unfold start;show _=N.length
  rw[aM,ba,fR];lia
theorem zue{Z:CXT}{P:aL}{w:aT}{K:qF}{mg:qM}{base:aW}{k:Nat}{f:ak}{name qual:Str}{params:Arguments}{body:List dH}{scope:fA}{dV kV doc pm C ct oc:ah}{an od:Option ak}
  {osl:Array (Option ah)} {N ps:List Str} {sp:Sp} (lk:K.lookup f=some ⟨oc,od,.func (dz name qual params body scope dV kV doc pm an C ct),osl⟩) (hcd:gY K C qual=true) (S:Uq N ps scope)
  (len:∀G H Q E,sp G H Q E->G.length=ps.length)
  (Ka:∀(A:br) (outer:List Env) (s:aq) (H:Hp) (G:List V) (Q:VK) (E:XK),Room k (A.deeper (envOfC qual scope s.heap.objs.size f C))->sp G H Q E ->
   ∃t,PSs (cxOf Z P w K mg base N qual scope f C A outer s H E) body t/\t { nx:=fun _ L=>Q .non L,rt:=Q } (start N G) H) :
  FnOk P w K mg base Z (k+1) f (dz name qual params body scope dV kV doc pm an C ct) ps sp:=by
 refine⟨len,fun A outer s H args us G Q E hr Y hb r U=>?_⟩
 have hl:=len _ _ _ _ U;have KX:K.In s.heap:=Y.mod.kin.keeps fun b o e=>(Y.bs b o e).1
 have lim:s.heap.NoLimit:=Y.mod.nolimit.keeps fun b o e=>(Y.bs b o e).1
 have IV:∀y∈ps.zip us,scope.names.lookup y.1=some .local\/(scope.names.lookup y.1=some .cell/\((cellsFrom (s.heap.objs.size+1) scope.names []).lookup y.1).isSome=true):=fun⟨n,v⟩ hy=>by
  rcases S.par n (eE hy).1 with q|q
  ·exact .inl q
  ·exact .inr ⟨q,kX _ _ _ (.inl q)⟩
 refine codeAny_call_function hr.depth (KX _ _ lk) rfl S.co S.gen rfl (PySem.W.codeRec_of KX hcd) (hb _ _ _ _ ?_);refine wpAny_newFunctionEnv_cells S.kind IV fun env he s1 x=>?_
 subst he;refine⟨lim.keeps x.toInCall.keep,codeAny_func ?_⟩;obtain⟨t,ht,hq⟩:=Ka A outer s H G Q E (hr.deeper _) U;have I:Inv (cxOf Z P w K mg base N qual scope f C A outer s H E) [] (start N G) H s1:=zmf S hr.hd Y hl r x;refine c8 (ht [] s1 (start N G) H _ I hq) (fun fl s' R=>?_) fun e s' R=>R
 have fin:∀{σ':St} {L:Hp} {v:V} {u:ah},Inv (cxOf Z P w K mg base N qual scope f C A outer s H E) [] σ' L s'->RelV v u->Q v L->CE outer P w H s Q u s' :=
  fun {σ' L v u} J rv q=>⟨v,L,J.os,J.bare,J.base,J.hok,rv,q⟩
 cases fl with
 | ret u =>
  obtain⟨v,σ',L,J,rv,q⟩:=R;exact fin J rv q
 | next =>
  obtain⟨σ',L,J,q⟩:=R;exact fin (v:=V.non) (u:=iS) J rfl q
 | brk =>
  obtain⟨_,_,_,q⟩:=R;exact cx q
 | cont =>
  obtain⟨_,_,_,q⟩:=R;exact cx q
section
variable{X:Cx}{x:Str}{p pos:Pos}{e:aV}{es:List aV}{t:TA}{id T:String}{r:List V->Hp->VK->Prop}
def tCB(r:List V->Hp->VK->Prop)(t:TA):TE:=fun σ H Q=>t σ H fun u l=>r u l Q
theorem znV(hc:JX X (.builtin id) r)(U:Gl X x)(hm:X.mg x=none)(Y:bootBuiltins x=some (.builtin id))(ha:PA X (e::es) t)(Z:x ≠ "__name__":=by decide) (v:(x == ("__debug__":Str))=false:=by decide)
  (R:starEach (e::es) X.env=(false,eval e X.env)::starEach es X.env:=by rfl) (G:(backTo pos (starEach es X.env)).any (·.1)=false:=by rfl):PE X (.Call (.Name x p) (e::es) [] pos) (tCB r t):=by
 intro pins s σ H Q I h;refine fF (ZC I U hm Y ?_ Z v);exact nZ (thn (ha pos pins s σ H _ I h) fun S s1 ⟨vs,J,I1,r1,L⟩=>hc pins s1 σ J vs S Q I1 r1 L) R G
theorem zly(hc:JX X (.type T) r)(S:Gl X x)(hm:X.mg x=none)(U:bootBuiltins x=some (.type T))(ha:PA X (e::es) t)(Y:x ≠ "__name__":=by decide) (u:(x == ("__debug__":Str))=false:=by decide)
  (L:starEach (e::es) X.env=(false,eval e X.env)::starEach es X.env:=by rfl) (v:(backTo pos (starEach es X.env)).any (·.1)=false:=by rfl):PE X (.Call (.Name x p) (e::es) [] pos) (tCB r t):=by
 intro pins s σ H Q I h;refine fF (ZC I S hm U ?_ Y u);exact fW (thn (ha pos pins s σ H _ I h) fun R s1 ⟨Z,G,I1,r1,J⟩=>hc pins s1 σ G Z R Q I1 r1 J) L v
end
end L2
namespace HT
open PySem PyProof.Rows
def lexLt:List Int->List Int->Bool
 | [],[]=>false
 | [],_::_=>true
 | _::_,[]=>false
 | x::xs,y::ys=>if x=y then lexLt xs ys else decide (x<y)
theorem zkn(x y:Int)(xs ys:List Int):lexLt (x::xs) (y::ys)=if x=y then lexLt xs ys else decide (x<y):=rfl
theorem zgp:lexLt [] []=false:=rfl
theorem zfd(y:Int)(ys:List Int):lexLt [] (y::ys)=true:=rfl
theorem zfe(x:Int)(xs:List Int):lexLt (x::xs) []=false:=rfl
theorem zow(A:br)(s:aq)(a:Int)(t:Tok)(c:Int)(u:Tok):∃e,mQ A s (.int a t) (.int c u) e/\(e=true↔a=c) :=
 ⟨(a == c),iY a t c u,by simp⟩
theorem znK(A:br)(s:aq)(a:Int)(t:Tok)(c:Int)(u:Tok)(prog:aL)(w:aT)(E:qV)(Q:qV)(h:Q (.bool (decide (a<c))) s) :
  wpAny (model prog w) A (richCompare .Lt (.int a t) (.int c u)) Q E s :=
 (vO h:wpAny (model prog w) A (compareOp .Lt (.int a t) (.int c u)) Q E s)
section
open PySem.SeqAt
open PySem.AutoSeq1 (wpAny_loadPart')
open PySem.MeetsSeq PySem.MeetsSeq2 PySem.MeetsSeq3
theorem zf1(l b:ak)(items Y:Array ah)(n n2:Nat)(dd dd2:Option ak)(sl sl2:Array (Option ah))(ns ms:List Int)(hi:gn items.toList ns)(hj:gn Y.toList ms) :
  Meets (gp.«tuple.__lt__» ⟨[.ref l,.ref b],[]⟩)
   (fun _ R s=>s.heap.get? l=some { cls:=.type "tuple",dict:=dd,data:=.seq items n,slots:=sl }/\s.heap.get? b=some { cls:=.type "tuple",dict:=dd2,data:=.seq Y n2,slots:=sl2 } /\
    R (.ok (.ret (.bool (lexLt ns ms)))) s) :=
 .of_wp fun prog w A R s h=>by
  obtain⟨hp,g,d,tk,os⟩:=s;obtain⟨hl,hb,h⟩:=h;have f2:=AutoSeq1.sub_tuple_tuple;have z1:items.size=ns.length:=by rw[<- hi.length];simp
  have z2:Y.size=ms.length:=by rw[<- hj.length];simp
  wp_walk using oI hl,oI hb,wpAny_forIn_list _ (fun rest b s'=>b.1=none/\s'=⟨hp,g,d,tk,os⟩/\∃(vs ws:List ah) (G C:List Int),rest=vs.zip ws /\
   gn vs G/\gn ws C/\G.length+Y.size=C.length+items.size/\R (.ok (.ret (.bool (lexLt G C)))) ⟨hp,g,d,tk,os⟩) _
  case turn =>
   rintro⟨y,x⟩ rest b s' ⟨S,rfl,vs,ws,G,C,J,U,I,v,L⟩;cases U with
   | nil=>rw[nq]at J;cases J
   | cons a t hvi' =>
    cases I with
    | nil=>rw[List.zip_nil_right]at J;cases J
    | cons c u Z =>
     rw[iZ]at J
     injection J with hyx hrest
     injection hyx with hy hx
     subst hy hx;rw[zkn]at L;simp only[aN]at v;obtain⟨e,he,N⟩:=zow A.in1 ⟨hp,g,d,tk,os⟩ a t c u;refine ae (he prog w _ _ ?_);cases e with
     | true =>
      rw[if_pos (N.mp rfl)]at L
      wp_walk
      exact⟨rfl,rfl,_,_,_,_,hrest,hvi',Z,by lia,L⟩
     | false =>
      rw[if_neg (fun q=>absurd (N.mpr q) bf)]at L
      have hri:=znK A.in1 ⟨hp,g,d,tk,os⟩ a t c u prog w
      wp_walk using hri
      exact⟨_,rfl,by simpa using L⟩
  case fin =>
   rintro⟨b1,b2⟩ s' ⟨S,rfl,vs,ws,G,C,J,U,I,v,L⟩;simp only at S;subst S;have hv:lexLt G C=decide (items.size<Y.size):=by
    cases U with
    | nil =>
     cases I with
     | nil =>
      simp only[cE]at v;rw[zgp];exact(decide_eq_false (by lia)).symm
     | cons c u hw =>
      simp only[cE,aN]at v;rw[zfd];exact(decide_eq_true (by lia)).symm
    | cons a t hv =>
     cases I with
     | nil =>
      simp only[cE,aN]at v;rw[zfe];exact(decide_eq_false (by lia)).symm
     | cons c u hw =>
      rw[iZ]at J;cases J
   rw[hv]at L
   wp_walk
   exact⟨_,rfl,by simpa[nU] using L⟩
  case h =>
   exact⟨rfl,rfl,items.toList,Y.toList,ns,ms,rfl,hi,hj,by lia,h⟩
end
section
variable{prog:aL}{w:aT}{A:br}{E:qV}{s:aq}
theorem zfB{l b:ak}{items G:Array ah}{ns y:List Int}{Q:qV}(S:mY s.heap l items)(hb:mY s.heap b G)(hi:gn items.toList ns)(R:gn G.toList y)
  (U:A.units<cLine) (h:Q (.bool (lexLt ns y)) s):wpAny (model prog w) A (compareOp .Lt (.ref l) (.ref b)) Q E s:=by
 obtain⟨⟨cls,dd,data,Y⟩,J,hc,n,hd⟩:=id S;obtain⟨⟨N,I,data2,C⟩,v,u,Z,hd2⟩:=id hb;simp only at hc hd u hd2;subst hc hd u hd2;exact richCompare_meets_room (op:=.Lt) ⟨_,J,rfl⟩ ⟨_,v,rfl⟩ PySem.F.slot_tuple_lt PySem.F.entry_tuple_lt (PySem.F.args_tuple_lt_2 _ _) (zf1 l b items G n Z dd I Y C ns y hi R)
  ⟨J,v,show eM (lexLt ns y)≠Value.notImplemented/\Q (.bool (lexLt ns y)) s from⟨(fun x=>nomatch x),h⟩⟩ U
theorem zrd{t b:ak}{v l:List ah}{Q:qV}(S:mY s.heap t v.toArray)(Z:mY s.heap b l.toArray)(N:v≠[])
  (Y:l=[]->Q (.ref t) s) (U:l≠[]->Q (.ref s.heap.objs.size) { s with heap:=s.heap.push { cls:=.type "tuple",data:=.seq (v++l).toArray } })
  (hsz:v.length+l.length<=sizeLine):wpAny (model prog w) A (binaryOp .Add (.ref t) (.ref b)) Q E s:=by
 obtain⟨⟨cls,dd,data,J⟩,I,hc,n,hd⟩:=id S;obtain⟨⟨R,G,data2,C⟩,u,x,L,hd2⟩:=id Z;simp only at hc hd x hd2;subst hc hd x hd2;have e:v.toArray++l.toArray=(v++l).toArray:=by simp
 by_cases hw:l=[]
 ·exact nt ⟨_,I,rfl⟩ ⟨_,u,rfl⟩ kO mI gZ gR (gF _ _)
   (tuple_addW1 t b v.toArray l.toArray n L dd G J C (by simpa using N) (by simp[hw])) ⟨I,u,Y hw⟩
 ·refine nt ⟨_,I,rfl⟩ ⟨_,u,rfl⟩ kO mI gZ gR (gF _ _)
   (tuple_addW2 t b v.toArray l.toArray n L dd G J C (by simpa using N) (by simpa using hw) (by rw[aF,aF];exact hsz)) ⟨I,u,?_⟩
  rw[e];exact U hw
def sIx(n d:Nat):Option Int->Nat
 | none=>d
 | some v=>if v<0 then(v+(n:Int)).toNat else min v.toNat n
theorem zf4(n d:Nat):sIx n d none=d:=rfl
theorem zlc(n d k:Nat):sIx n d (some (k:Int))=min k n:=by
 show(if (k:Int)<0 then((k:Int)+(n:Int)).toNat else min (k:Int).toNat n)=min k n
 rw[if_neg (by lia),fX]
theorem zr4(n d:Nat)(hd:d<=n)(o:Option Int):sIx n d o<=n:=by
 cases o with
 | none=>exact hd
 | some v =>
  show(if v<0 then(v+(n:Int)).toNat else min v.toNat n)<=n
  by_cases hv:v<0
  ·rw[if_pos hv];lia
  ·rw[if_neg hv];exact Nat.min_le_right _ _
theorem zmV(v:Int)(n d:Nat):(if v<0 then max (v+(n:Int)) 0 else min v (n:Int))=((sIx n d (some v):Nat):Int):=by
 show(if v<0 then max (v+(n:Int)) 0 else min v (n:Int))=(((if v<0 then(v+(n:Int)).toNat else min v.toNat n):Nat):Int)
 by_cases hv:v<0
 ·simp only[if_pos hv];lia
 ·simp only[if_neg hv];lia
theorem zkQ(lo hi:Option Int)(n:Nat):gy lo hi 1 (n:Int)=(((sIx n 0 lo:Nat):Int),((sIx n n hi:Nat):Int)):=by
 have l:¬((1:Int)<0):=by lia
 unfold gy;simp only[l,if_false];refine i5 ?_ ?_
 ·cases lo with
  | none=>rfl
  | some v=>exact zmV v n 0
 ·cases hi with
  | none=>rfl
  | some v=>exact zmV v n n
theorem zj8(i j:Nat):eU (i:Int) (j:Int) 1=j - i:=by
 unfold eU;have l:(1:Int) > 0:=by lia
 simp only[l,if_true,Int.ediv_one];split <;> lia
theorem zfq{v:ah}{o:Option Int}{Q:Option Int->aq->Prop}(p:kH v o)(h:Q o s):wpAny (model prog w) A (oJ v) Q E s:=by
 cases p with
 | none=>exact pf h
 | int i t=>exact slicePart_int h
theorem zb3{C:ak}{y v:ah}{lo hi:Option Int}{n:Nat}{Q:Int×Int×Nat->aq->Prop}(J:s.heap.IsSliceOf C y v .none)(pl:kH y lo)(G:kH v hi)
  (h:Q (((sIx n 0 lo:Nat):Int),1,sIx n n hi - sIx n 0 lo) s):wpAny (model prog w) A (i6 (.ref C) (pure (n:Int))) Q E s:=by
 obtain⟨os,u,I,l⟩:=id J;unfold i6 rm;refine ae (ae (cU u l (x:=y) rfl (ae (cU u l (x:=v) rfl (ae (cU u l (x:=.none) rfl (aj ?_)))))));refine ae (pf ?_);show wpAny _ _ (if ((1:Int) == 0)=true then _ else _) _ _ s
 rw[if_neg (by decide)]
 refine ae (zfq pl (ae (zfq G (ae (aj ?_)))));show wpAny _ _ (match gy lo hi 1 (n:Int) with|(lo,hi)=>pure (lo,(1:Int),eU lo hi 1)) _ _ s
 rw[zkQ lo hi n];show wpAny _ _ (pure (((sIx n 0 lo:Nat):Int),(1:Int),eU ((sIx n 0 lo:Nat):Int) ((sIx n n hi:Nat):Int) 1)) _ _ s
 rw[zj8];exact aj h
theorem znQ(xs:Array ah)(i k:Nat):((fD k).filterMap fun(m:Nat)=>xs[((i:Int)+(m:Int)*1).toNat]?).toArray=((xs.toList.drop i).take k).toArray:=by
 have e:(fun(m:Nat)=>xs[((i:Int)+(m:Int)*1).toNat]?)=fun m=>xs[i+m]?:=by
  funext m
  have:((i:Int)+(m:Int)*1).toNat=i+m:=by lia
  rw[this]
 rw[e];have:=uX xs i k;rw[List.filterMap_map]at this;have u:((fun x=>xs[x]?)∘fun x=>i+x)=fun m=>xs[i+m]?:=rfl
 rw[u]at this;rw[this]
theorem zdt{t C:ak}{items:Array ah}{L J:ah}{lo hi:Option Int}{Q:qV}(u:mY s.heap t items)(N:s.heap.IsSliceOf C L J .none)(pl:kH L lo)(R:kH J hi)
  (hw:¬(sIx items.size 0 lo=0/\sIx items.size items.size hi=items.size))
  (h:Q (.ref s.heap.objs.size) { s with heap:=s.heap.push { cls:=.type "tuple",data:=.seq ((items.toList.drop (sIx items.size 0 lo)).take (sIx items.size items.size hi - sIx items.size 0 lo)).toArray } })
  (hsz:items.size<=sizeLine):wpAny (model prog w) A (getItem (.ref t) (.ref C)) Q E s:=by
 have l:sizeOk (.seq ((items.toList.drop (sIx items.size 0 lo)).take (sIx items.size items.size hi - sIx items.size 0 lo)).toArray):=by
  show((items.toList.drop (sIx items.size 0 lo)).take (sIx items.size items.size hi - sIx items.size 0 lo)).toArray.size<=sizeLine
  rw[aF,fk,eI,cS];lia
 have U:sIx items.size items.size hi<=items.size:=zr4 _ _ (aC _) hi;obtain⟨os,x,I,S⟩:=id N;have v:s.TypeIs (.ref C) "slice":=⟨os,x,I⟩;unfold getItem
 try with_reducible refine cg ?_
 first|refine ae (aj ?_)|skip
 refine ae (nu u.typeIs (by decide) ?_)
 refine ae (dY (name:=aa "__getitem__") u.typeIs cm
  (eJ cm u.typeIs my ?_ (mS _ _)))
 show wpAny _ _ (i7 (.ref t) >>= _) _ _ s
 refine ae (tupleItemsOf_ u ?_);refine ae (gq v ?_);rw[if_pos (by decide)]
 refine ae (zb3 N pl R ?_);have G:¬((((sIx items.size 0 lo:Nat):Int) == 0&&(1:Int) == 1&&(sIx items.size items.size hi - sIx items.size 0 lo) == items.size)=true):=by
  intro q;rw[aK,aK]at q;have Y:((sIx items.size 0 lo:Nat):Int)=0:=eq_of_beq q.1.1;have Z:sIx items.size items.size hi - sIx items.size 0 lo=items.size:=eq_of_beq q.2;exact hw ⟨by lia,by lia⟩
 show wpAny _ _ (if (((sIx items.size 0 lo:Nat):Int) == 0&&(1:Int) == 1&&(sIx items.size items.size hi - sIx items.size 0 lo) == items.size)=true then _ else _) _ _ s
 rw[if_neg G,znQ]
 first
  | exact ae (m:=eZ _) (dm (aj ⟨_,rfl,aj h⟩) l)
  | exact ae (m:=eZ _) (dm (ae (aj (aj ⟨_,rfl,aj h⟩))) l)
  | exact ae (ae (m:=eZ _) (dm (aj (aj ⟨_,rfl,aj h⟩)) l))
  | exact ae (ae (m:=eZ _) (dm (aj ⟨_,rfl,aj h⟩) l))
end
end HT
namespace L2
open PySem PySem.Spec PyProof.Rows
abbrev TO:=St->Hp->(Option Int->Hp->Prop)->Prop
def PO(X:Cx)(e:Option aV)(t:TO):Prop :=
 ∀(pins:qO) (s:aq) (σ:St) (H:Hp) (Q:Option Int->Hp->Prop),Inv X pins σ H s->t σ H Q ->
  wpAny (model X.prog X.w) X.A (evalPart e X.env) (fun u s'=>∃o l,Inv X pins σ l s'/\kH u o/\Q o l) X.xe s
def zpv:TO:=fun _ H Q=>Q none H
def zvo(t:TE):TO:=fun σ H Q=>t σ H fun x l=>∃i,x=.int i/\Q (some i) l
theorem intsAre_of{ns:List Int}:∀{u:List ah},Vals (ns.map V.int) u->gn u ns:=by
 induction ns with
 | nil=>intro u r;rw[fG]at r;cases r;exact .nil
 | cons n ns x =>
  intro u r;rw[cj]at r;cases r with
  | cons v y =>
   obtain⟨t,e⟩:=v;subst e;exact .cons n t (x y)
section
variable{X:Cx}{e:aV}{te:TE}{lo hi:Option aV}{tl th:TO}{pos p2:Pos}
theorem zpO:PO X none zpv:=by
 intro pins s σ H Q I h;rw[evalPart_none];exact aj ⟨none,H,I,.none,h⟩
theorem zpN(h:PE X e te):PO X (some e) (zvo te):=by
 intro pins s σ H Q I hw;rw[evalPart_some];refine thn (h pins s σ H _ I hw) fun u s1 ⟨x,l,y,C,v⟩=>?_
 obtain⟨i,rfl,q⟩:=v;obtain⟨t,rfl⟩:=C;exact⟨some i,l,y,.int i t,q⟩
def SlR(X:Cx)(r:V->Option Int->Option Int->Hp->VK->Prop):Prop :=
 ∀(pins:qO) (s:aq) (σ:St) (H:Hp) (x:V) (v I C:ah) (lo hi:Option Int) (G:ak) (Q:VK),Inv X pins σ H s->RelV x v->s.heap.IsSliceOf G I C .none->kH I lo->kH C hi->r x lo hi H Q ->
  ∃T id,typeLookup (.type T) "__getitem__" = pure (some (.builtin id))/\s.TypeIs v T/\wpAny (model X.prog X.w) X.A (getItem v (.ref G)) (EP X pins σ Q) X.xe s
theorem SlR.or{r J:V->Option Int->Option Int->Hp->VK->Prop}(h:SlR X r)(h':SlR X J):SlR X (fun x lo hi H Q=>r x lo hi H Q\/J x lo hi H Q):=by
 intro pins s σ H x v C u lo hi G Q I l L pl y q;rcases q with q|q
 ·exact h pins s σ H x v C u lo hi G Q I l L pl y q
 ·exact h' pins s σ H x v C u lo hi G Q I l L pl y q
def tSl(r:V->Option Int->Option Int->Hp->VK->Prop)(te:TE)(tl th:TO):TE:=fun σ H Q=>te σ H fun x v=>tl σ v fun l y=>th σ y fun u C=>r x l u C Q
theorem zjl{r:V->Option Int->Option Int->Hp->VK->Prop}(Z:SlR X r)(he:PE X e te)(L:PO X lo tl)(Y:PO X hi th):PE X (.Subscript e (.Slice lo hi none p2) pos) (tSl r te tl th):=by
 intro pins s σ H Q I h;refine ph (thn (he pins s σ H _ I h) fun v s1 ⟨x,R,I1,r1,U⟩=>?_)
 refine wpAny_Slice (thn (L pins s1 σ R _ I1 U) fun G s2 ⟨l,H2,I2,pl,q2⟩=>thn (Y pins s2 σ H2 _ I2 q2) fun C s3 ⟨u,J,I3,N,q3⟩=>?_)
 rw[evalPart_none];refine aj ?_;have I4:Inv X pins σ J { s3 with heap:=s3.heap.push { cls:=.type "slice",data:=.fields #[G,C,.none] } }:=I3.kept (t':=s3.toks) fun b ob q=>au _ q
 obtain⟨T,id,hT,ht,hg⟩:=Z pins { s3 with heap:=s3.heap.push { cls:=.type "slice",data:=.fields #[G,C,.none] } } σ J x v G C l u s3.heap.objs.size Q I4 r1 (wK ..) pl N q3
 show wpAny (model X.prog X.w) X.A (subscriptTail e (.Slice lo hi none p2) v (.ref s3.heap.objs.size)) (EP X pins σ Q) X.xe { s3 with heap:=s3.heap.push { cls:=.type "slice",data:=.fields #[G,C,.none] } }
 exact tail_any (ops:=[.ref s3.heap.objs.size,v]) ht hT hg (by with_unfolding_all rfl)
def cutV(xs:List V)(lo hi:Option Int):List V:=(xs.drop (HT.sIx xs.length 0 lo)).take (HT.sIx xs.length xs.length hi - HT.sIx xs.length 0 lo)
theorem zeV(xs:List V)(lo hi:Option Int):(cutV xs lo hi).length<=xs.length:=by
 unfold cutV;rw[fk,eI];lia
def rSlT(K:qF):V->Option Int->Option Int->Hp->VK->Prop:=fun x lo hi H Q=>∃a xs,x=.ref a/\SqT K H a xs /\
 ¬(HT.sIx xs.length 0 lo=0/\HT.sIx xs.length xs.length hi=xs.length)/\∀p,H p=none->Q (.ref p) (upd H p (.tup (cutV xs lo hi)))
theorem zrO:SlR X (rSlT X.K):=by
 intro pins s σ H x v S R lo hi U Q I J N pl L h;obtain⟨a,xs,rfl,hx,hw,q⟩:=h;cases J;obtain⟨y,r,C,G⟩:=I.tuple hx;have l:y.toArray.size=xs.length:=by rw[aF];exact r.length.symm
 refine⟨"tuple",_,cm.lookup,C.typeIs,?_⟩;refine HT.zdt C N pl L (by rw[l];exact hw) ?_ (by rw[l];exact G)
 rw[l];refine⟨.ref s.heap.objs.size,_,I.laid (t':=s.toks) (o:=.tup (cutV xs lo hi)) (fun b Y q=>au _ q) (aC _) ?_,rfl,q _ (I.hok.fresh (aC _))⟩
 exact⟨cB (zeV xs lo hi) G,_,(r.drop (HT.sIx xs.length 0 lo)).take (HT.sIx xs.length xs.length hi - HT.sIx xs.length 0 lo),IsTD.new _ _⟩
def rLtT(K:qF):R2:=fun x y H Q=>∃a b ns u,x=.ref a/\y=.ref b/\SqT K H a (ns.map V.int)/\SqT K H b (u.map V.int)/\Q (.bl (HT.lexLt ns u)) H
theorem zsI(S:X.A.units<cLine):OpR X (compareOp .Lt) (rLtT X.K):=by
 intro pins s σ H x y v u Q I N ry h;obtain⟨a,b,ns,J,rfl,rfl,U,hb,q⟩:=h;cases N;cases ry;obtain⟨G,Z,p1,_⟩:=I.tuple U;obtain⟨C,r2,p2,_⟩:=I.tuple hb;have Y:gn G.toArray.toList ns:=intsAre_of Z;have R:gn C.toArray.toList J:=intsAre_of r2;exact HT.zfB p1 p2 Y R S ⟨.bl (HT.lexLt ns J),H,I,rfl,q⟩
def zv7(K:qF):R2:=fun x y H Q=>∃a b xs ys,x=.ref a/\y=.ref b/\SqT K H a xs/\SqT K H b ys/\xs≠[]/\xs.length+ys.length<=sizeLine /\
 (ys=[]->Q (.ref a) H)/\(ys≠[]->∀p,H p=none->Q (.ref p) (upd H p (.tup (xs++ys))))
theorem Vals.nil_iff{xs:List V}{l:List ah}(r:Vals xs l):l=[]↔xs=[]:=by
 cases r with
 | nil=>simp
 | cons _ _=>simp
theorem zp7:OpR X (binaryOp .Add) (zv7 X.K):=by
 intro pins s σ H x y v u Q I L Y h;obtain⟨a,b,xs,ys,rfl,rfl,S,Z,hx,J,N,U⟩:=h;cases L;cases Y;obtain⟨R,C,p1,_⟩:=I.tuple S;obtain⟨G,l,p2,_⟩:=I.tuple Z;refine HT.zrd p1 p2 (fun z=>hx (C.nil_iff.mp z)) (fun z=>⟨.ref a,H,I,rfl,N (l.nil_iff.mp z)⟩) (fun z=>?_) (by rw[<- C.length,<- l.length];exact J)
 refine⟨.ref s.heap.objs.size,_,I.laid (t':=s.toks) (o:=.tup (xs++ys)) (fun b ob q=>au _ q) (aC _) ?_,rfl,U (fun w=>z (l.nil_iff.mpr w)) _ (I.hok.fresh (aC _))⟩
 exact⟨by rw[aM];exact J,_,C.append l,IsTD.new _ _⟩
end
def ixN(n:Nat)(i:Int):Option Nat:=if 0<=i then(if i<n then some i.toNat else none) else if -(n:Int)<=i then some (i+n).toNat else none
def atI{α:Type}(xs:List α)(i:Int):Option α:=(ixN xs.length i).bind fun j=>xs[j]?
theorem zmc{n:Nat}{i:Int}{j:Nat}(h:ixN n i=some j):seqIndex? i n=some j/\j<n/\-(n:Int)<=i/\i<n:=by
 unfold ixN at h
 by_cases h0:0<=i
 ·rw[if_pos h0]at h
  by_cases h1:i<n
  ·rw[if_pos h1]at h;have e:i.toNat=j:=aO h;exact⟨by rw[oz h0 h1,e],by lia,by lia,h1⟩
  ·rw[if_neg h1]at h;cases h
 ·rw[if_neg h0]at h
  by_cases h1:-(n:Int)<=i
  ·rw[if_pos h1]at h;have e:(i+n).toNat=j:=aO h;exact⟨by rw[nv (by lia) h1,e],by lia,h1,by lia⟩
  ·rw[if_neg h1]at h;cases h
theorem zi_{α:Type}{xs:List α}{i:Int}{v:α}(h:atI xs i=some v):∃j,seqIndex? i xs.length=some j/\xs[j]?=some v/\j<xs.length/\-(xs.length:Int)<=i/\i<xs.length:=by
 unfold atI at h;cases e:ixN xs.length i with
 | none=>rw[e]at h;cases h
 | some j =>
  rw[e]at h;obtain⟨y,l,x,u⟩:=zmc e;exact⟨j,y,h,l,x,u⟩
theorem zrm{α:Type}{xs:List α}{j:Nat}{v:α}(h:xs[j]?=some v):atI xs (j:Int)=some v:=by
 have l:j<xs.length:=(az.mp h).1;have e:ixN xs.length (j:Int)=some j:=by
  unfold ixN;rw[if_pos (by lia),if_pos (by lia)];simp
 unfold atI;rw[e];exact h
def zm9(b:aV):Prop:=∀o i,subscripted b false o i=operate [o,i] (getItem o i)
def IxR(X:Cx)(r:R2):Prop :=
 ∀(value slice:aV) (pins:qO) (s:aq) (σ:St) (H:Hp) (x y:V) (v u:ah) (Q:VK),Inv X pins σ H s->RelV x v->RelV y u->r x y H Q ->
  subscripted slice false v u=operate [v,u] (getItem v u)->wpAny (model X.prog X.w) X.A (subscriptTail value slice v u) (EP X pins σ Q) X.xe s
def MtR(X:Cx)(id:String)(r:V->List V->Hp->VK->Prop):Prop :=
 ∀(pins:qO) (s:aq) (σ:St) (H:Hp) (x:V) (xs:List V) (v:ah) (y:List ah) (Q:VK),Inv X pins σ H s->RelV x v->Vals xs y->r x xs H Q ->
  wpAny (model X.prog X.w) X.A (call (.builtin id) (v::y)) (EP X pins σ Q) X.xe s
section
variable{X:Cx}{a b:aV}{ta tb:TE}{pos:Pos}
theorem IxR.or{r C:R2}(h:IxR X r)(h':IxR X C):IxR X (fun x y H Q=>r x y H Q\/C x y H Q):=by
 intro value slice pins s σ H x y v u Q I l J q G;rcases q with q|q
 ·exact h value slice pins s σ H x y v u Q I l J q G
 ·exact h' value slice pins s σ H x y v u Q I l J q G
theorem Ux{r:R2}(G:IxR X r)(L:PE X a ta)(U:PE X b tb)(N:zm9 b):PE X (.Subscript a b pos) (tOp r ta tb):=by
 intro pins s σ H Q I h;exact ph (binT L U I h fun v u s2 x y J C l R q=>G a b pins s2 σ J x y v u Q C l R q (N _ _))
def rIxL(K:qF):R2:=fun x y H Q=>∃p xs i v,x=.ref p/\y=.int i/\SqL K H p xs/\atI xs i=some v/\Q v H
def rIxT(K:qF):R2:=fun x y H Q=>∃p xs i v,x=.ref p/\y=.int i/\SqT K H p xs/\atI xs i=some v/\Q v H
def rIxS:R2:=fun x y H Q=>∃z i c,x=.str z/\y=.int i/\z.length<=sizeLine/\atI z.cps.toList i=some c/\Q (.str ⟨#[c]⟩) H
theorem UI:IxR X (rIxL X.K):=by
 intro value slice pins s σ H x y v u Q I S ry h R;obtain⟨p,xs,i,z,rfl,rfl,hq,Y,q⟩:=h;cases S;obtain⟨t,rfl⟩:=ry;obtain⟨J,r,pl,hz⟩:=I.list hq;obtain⟨j,l,Z,h3,h4,h5⟩:=zi_ Y;obtain⟨w,L,C⟩:=r.get Z;have U:=r.length;have hn:=U1;have fin:EP X pins σ Q w s:=⟨z,H,I,C,q⟩
 by_cases h0:0<=i
 ·have G:i.toNat=j:=by
   rw[oz h0 h5]at l;exact aO l
  exact item_listR pl.isList h0 (by lia) (by rw[G];simpa using L) fin R
 ·have G:(i+(J.toArray.size:Int)).toNat=j:=by
   rw[nv (by lia) h4]at l
   rw[aF,<- U];exact aO l
  exact kY (x:=w) pl.isList.typeIs ny.lookup
   (wpAny_getItem_list_neg (Q:=fun r s'=>r=w/\EP X pins σ Q r s') pl.isList (by lia) (by rw[aF] <;> lia) (by lia) (by rw[G];simpa using L) ⟨rfl,fin⟩) R
theorem ztz:IxR X (rIxT X.K):=by
 intro value slice pins s σ H x y v u Q I C Z h S;obtain⟨p,xs,i,z,rfl,rfl,Y,N,q⟩:=h;cases C;obtain⟨t,rfl⟩:=Z;obtain⟨L,r,pl,hz⟩:=I.tuple Y;obtain⟨j,U,R,h3,h4,h5⟩:=zi_ N;obtain⟨w,G,l⟩:=r.get R;have J:=r.length;have hn:=U1;have fin:EP X pins σ Q w s:=⟨z,H,I,l,q⟩;exact kY (x:=w) pl.typeIs slot_tuple_getitem.lookup
  (getItem_tuple (j:=j) (Q:=fun r s'=>r=w/\EP X pins σ Q r s') pl (by lia) (by lia) (by rw[aF,<- J];exact U) (by simpa using G) ⟨rfl,fin⟩) S
theorem ztA:IxR X rIxS:=by
 intro value slice pins s σ H x y v u Q I C U h S;obtain⟨z,i,c,rfl,rfl,hz,J,q⟩:=h;obtain⟨t,rfl⟩:=C;obtain⟨t',rfl⟩:=U;obtain⟨j,l,L,h3,N,Y⟩:=zi_ J;have G:z.cps.toList.length=z.length:=by simp[kZ]
 rw[G]at l N Y;have hn:=U1;exact tail_any (pE s z t) slot_str_getitem.lookup (getItem_str (c:=c) (by
  have R:decide (i < -(2 ^ 63:Int))=false:=decide_eq_false (by lia)
  have Z:decide (i>=2 ^ 63)=false:=decide_eq_false (by lia)
  rw[R,Z,r8]) (by rw[l];simpa using L) ⟨.str ⟨#[c]⟩,H,I.tok _,⟨_,rfl⟩,q⟩) S
def rIx(K:qF):R2:=fun x y H Q=>rIxL K x y H Q\/rIxT K x y H Q\/rIxS x y H Q
theorem ztB:IxR X (rIx X.K):=UI.or (ztz.or ztA)
theorem zkm(l:List ah)(n j:Nat)(u:ah):e8 (·.setIfInBounds j u) { cls:=.type "list",data:=.seq l.toArray n }={ cls:=.type "list",data:=.seq (l.set j u).toArray n }:=by
 simp[e8]
theorem Inv.lst{pins:qO}{σ:St}{H:Hp}{s:aq}{p:ak}{xs:List V}(I:Inv X pins σ H s)(h:H p=some (.lst xs)) :
  ∃(u:List ah) (n:Nat),Vals xs u/\s.heap.get? p=some { cls:=.type "list",data:=.seq u.toArray n }/\xs.length<=sizeLine:=by
 obtain⟨z,u,n,r,e⟩:=I.hok p _ h;exact⟨u,n,r,e,z⟩
theorem Inv.lstUpd{pins:qO}{σ:St}{H:Hp}{s:aq}{p:ak}{xs ys:List V}{v its':List ah}{n C:Nat}{f:Obj->Obj}(I:Inv X pins σ H s)(h:H p=some (.lst xs))
  (G:s.heap.get? p=some { cls:=.type "list",data:=.seq v.toArray n }) (hf:f { cls:=.type "list",data:=.seq v.toArray n }={ cls:=.type "list",data:=.seq its'.toArray C }) (r:Vals ys its') (J:ys.length<=sizeLine) (t:Nat) :
  Inv X pins σ (upd H p (.lst ys)) { s with heap:=s.heap.update p f,toks:=t }:=by
 have e:(s.heap.update p f).get? p=some { cls:=.type "list",data:=.seq its'.toArray C }:=by
  rw[lN f G (by rw[hf] <;> rfl),hf]
 refine I.write (x:=p) (e:=p) (by rw[h];trivial) (.inl rfl) (fun b u L q=>(k8 _ _ (ko L)).trans q) ⟨_,e⟩ ?_
 exact⟨J,its',C,r,e⟩
def zv6:V->V->V->Hp->(Hp->Prop)->Prop:=fun o i v H Q=>∃p xs k j,o=.ref p/\i=.int k/\H p=some (.lst xs)/\ixN xs.length k=some j/\Q (upd H p (.lst (xs.set j v)))
theorem set_list:PSet X zv6:=by
 intro pins s σ H o i v ov iv u Q I ro Z rv h;obtain⟨p,xs,k,j,rfl,rfl,U,Y,q⟩:=h;cases ro;obtain⟨t,rfl⟩:=Z;obtain⟨x,n,r,J,hz⟩:=I.lst U;obtain⟨y,h2,R,S⟩:=zmc Y;have C:=r.length;have hn:=U1;have L:Inv X pins σ (upd H p (.lst (xs.set j v))) { s with heap:=s.heap.update p (e8 (·.setIfInBounds j u)) } :=
  I.lstUpd U J (zkm x n j u) (r.set rv j) (by rw[fM];exact hz) s.toks
 by_cases h0:0<=k
 ·have G:k.toNat=j:=by
   rw[oz h0 S]at y;exact aO y
  exact PySem.W.ki_setAt J h0 (by lia) (by rw[aF,<- C];exact S) (by rw[G];exact⟨_,L,q⟩)
 ·have G:(k+(x.toArray.size:Int)).toNat=j:=by
   rw[nv (by lia) R]at y
   rw[aF,<- C];exact aO y
  exact PySem.W.ki_setBack J (by lia) (by rw[aF,<- C];exact R) (by lia) (by rw[G];exact⟨_,L,q⟩)
theorem zg1(lo hi:Option Int)(n:Nat):(sliceBounds lo hi none n).1=((HT.sIx n 0 lo:Nat):Int)/\(sliceBounds lo hi none n).2.1=((HT.sIx n n hi:Nat):Int)/\(sliceBounds lo hi none n).2.2=1:=by
 refine⟨?_,?_,rfl⟩
 ·cases lo with
  | none=>simp[sliceBounds,HT.sIx]
  | some i =>
   simp only[sliceBounds,HT.sIx,n8,show(1:Int) > 0 by decide,if_true]
   by_cases h:i<0
   ·simp only[h,if_true] <;> lia
   ·simp only[h,if_false] <;> lia
 ·cases hi with
  | none=>simp[sliceBounds,HT.sIx]
  | some i =>
   simp only[sliceBounds,HT.sIx,n8,show(1:Int) > 0 by decide,if_true]
   by_cases h:i<0
   ·simp only[h,if_true] <;> lia
   ·simp only[h,if_false] <;> lia
theorem zf3(l:List ah)(lo hi:Option Int):slicePick l.toArray lo hi none=((l.drop (HT.sIx l.length 0 lo)).take (HT.sIx l.length l.length hi - HT.sIx l.length 0 lo)).toArray:=by
 obtain⟨v,x,u⟩:=zg1 lo hi l.toArray.size;unfold slicePick;rw[v,x,u];simp only[pF,uX,aF] <;> rfl
def rSlL(K:qF):V->Option Int->Option Int->Hp->VK->Prop:=fun x lo hi H Q=>∃a xs,x=.ref a/\SqL K H a xs/\∀p,H p=none->Q (.ref p) (upd H p (.lst (cutV xs lo hi)))
theorem zpz:SlR X (rSlL X.K):=by
 intro pins s σ H x v S R lo hi U Q I C L pl G h;obtain⟨a,xs,rfl,hx,q⟩:=h;cases C;obtain⟨J,r,y,N⟩:=I.list hx;have u:=r.length;refine⟨"list",_,ny.lookup,y.isList.typeIs,?_⟩;refine wpAny_getItem_list_slice y.isList L pl G .none (by simp) ?_ (by rw[aF] <;> lia)
 rw[zf3,<- u];refine⟨.ref s.heap.objs.size,_,I.laid (t':=s.toks) (o:=.lst (cutV xs lo hi)) (fun b Y q=>au _ q) (aC _) ?_,rfl,q _ (I.hok.fresh (aC _))⟩
 exact⟨cB (zeV xs lo hi) N,_,0,(r.drop (HT.sIx xs.length 0 lo)).take (HT.sIx xs.length xs.length hi - HT.sIx xs.length 0 lo),aH _ rfl⟩
theorem zh8:JX X (.builtin "len") (fun xs H Q=>∃p ys,xs=[.ref p]/\(SqL X.K H p ys\/SqT X.K H p ys)/\Q (.int ys.length) H):=by
 intro pins s σ H xs L Q I r h;obtain⟨p,ys,rfl,x,q⟩:=h;obtain⟨u,rfl,G⟩:=vals1 r;cases G;have N:=U1;rcases x with x|x
 ·obtain⟨y,C,pl,J⟩:=I.list x;have v:=C.length;exact mw pl.isList (by simp only[aF] <;> lia) ⟨.int ys.length,H,I.tok _,⟨s.toks+1,by rw[aF,v]⟩,q⟩
 ·obtain⟨y,C,pl,J⟩:=I.tuple x;have v:=C.length;exact len_tuple pl (by simp only[aF] <;> lia) ⟨.int ys.length,H,I.tok _,⟨s.toks+1,by rw[aF,v]⟩,q⟩
theorem UM:JX X (.type "tuple") (fun xs H Q=>∃p ys,xs=[.ref p]/\((SqL X.K H p ys/\∀l,H l=none->Q (.ref l) (upd H l (.tup ys)))\/(SqT X.K H p ys/\Q (.ref p) H))):=by
 intro pins s σ H xs S Q I r h;obtain⟨p,ys,rfl,h⟩:=h;obtain⟨u,rfl,N⟩:=vals1 r;cases N;rcases h with⟨C,q⟩|⟨C,q⟩
 ·obtain⟨v,x,pl,L⟩:=I.list C;have G:=x.length;refine call_tuple_list pl.isList (fun h' kp=>?_) (by simp only[aF] <;> lia)
  have J:Inv X pins σ H { s with heap:=h' }:=I.kept (t':=s.toks) kp
  have R:Inv X pins σ (upd H h'.objs.size (.tup ys)) { s with heap:=h'.push { cls:=.type "tuple",data:=.seq v.toArray } } :=
   J.laid (t':=s.toks) (fun b o e=>au _ e) (aC _) (show JK X.prog X.w _ _ _ (.tup ys) from⟨L,v,x,IsTD.new _ _⟩)
  exact⟨.ref h'.objs.size,_,R,rfl,q _ (J.hok.fresh (aC _))⟩
 ·obtain⟨v,x,pl,L⟩:=I.tuple C;exact call_tuple_same pl ⟨.ref p,H,I,rfl,q⟩
def tyV(K:qF)(T:String)(x:V)(H:Hp):Prop:=match x with
 | .str _=>T = "str"
 | .int _=>T = "int"
 | .ref p=>(T = "list" /\ ∃xs,SqL K H p xs)\/(T = "tuple" /\ ∃o,K.lookup p=some o/\o.cls=.type "tuple" /\ o.dict=none) \/
   (T = "dict" /\ ((∃l,H p=some (.dK l))\/∃l,H p=some (.dT l)))\/(T = "set" /\ ∃S n,H p=some (.set S n))
 | _=>False
theorem zoP{pins:qO}{σ:St}{H:Hp}{s:aq}{T:String}{x:V}{v:ah}(I:Inv X pins σ H s)(r:RelV x v)(ty:tyV X.K T x H) :
  s.TypeIs v T/\∀a,v=.ref a->∃C,s.heap.get? a=some C/\C.dict=none:=by
 cases x with
 | str z =>
  obtain⟨t,rfl⟩:=r;cases(show T = "str" from ty)
  exact⟨pE s z t,fun _ e=>nomatch e⟩
 | int i =>
  obtain⟨t,rfl⟩:=r;cases(show T = "int" from ty)
  exact⟨typeIs_int s i t,fun _ e=>nomatch e⟩
 | ref p =>
  cases r;rcases ty with⟨rfl,xs,J⟩|⟨rfl,o,l,hc,hd⟩|⟨rfl,l⟩|⟨rfl,S,n,l⟩
  ·obtain⟨G,_,pl,_⟩:=I.list J;refine⟨pl.isList.typeIs,fun a e=>?_⟩
   cases e;obtain⟨o,n,e,c,hd,_⟩:=pl;exact⟨o,e,hd⟩
  ·refine⟨⟨o,I.kIn p o l,hc⟩,fun a e=>?_⟩
   cases e;exact⟨o,I.kIn _ o l,hd⟩
  ·have z:∃o,s.heap.get? p=some o/\o.ExactDict:=by
    rcases l with⟨u,l⟩|⟨u,l⟩
    ·obtain⟨_,_,_,_,o,_,_,e,ex,_⟩:=I.hok p _ l;exact⟨o,e,ex⟩
    ·obtain⟨_,_,_,_,o,_,_,e,ex,_⟩:=I.hok p _ l;exact⟨o,e,ex⟩
   obtain⟨o,e,ex⟩:=z;refine⟨⟨o,e,ex.1⟩,fun a y=>?_⟩
   cases y;exact⟨o,e,ex.2.1⟩
  ·obtain⟨o,_,_,_,e,ex,_⟩:=I.hok p _ l;refine⟨⟨o,e,ex.1⟩,fun a y=>?_⟩
   cases y;exact⟨o,e,ex.2.1⟩
 | _=>exact cx ty
def tBM0(K:qF)(T:String)(r:V->List V->Hp->VK->Prop)(to:TE):TE:=fun σ H Q=>to σ H fun x l=>tyV K T x l/\r x [] l Q
def tBM(K:qF)(T:String)(r:V->List V->Hp->VK->Prop)(to:TE)(t:TA):TE:=fun σ H Q=>to σ H fun x l=>tyV K T x l/\t σ l fun xs u=>r x xs u Q
variable{o e:aV}{es:List aV}{to:TE}{t:TA}{name:Str}{apos Im:Pos}{T id:String}{r:V->List V->Hp->VK->Prop}
theorem zsz(pa:PlainAttrs T)(slot:Slot T name id)(G:typeOf (.builtin id)=pure (.type "method_descriptor")) (hm:MtR X id r) (U:PE X o to)
  (S:attributeBase o name X.env (eval o X.env)=eval o X.env:=by rfl) (Y:(apos.endLine == Im.line)=true:=by rfl):PE X (.Call (.Attribute o name apos) [] [] Im) (tBM0 X.K T r to):=by
 intro pins s σ H Q I h;refine wpAny_Call_method0_late S Y (thn (U pins s σ H _ I h) fun v s1 ⟨x,N,J,L,ty,R⟩=>?_)
 obtain⟨h1,Z⟩:=zoP J L ty;exact⟨T,id,pa,slot,G,h1,Z,lh rfl (PySem.evalArgs_none (hm pins s1 σ N x [] v [] Q J L .nil R))⟩
theorem zpW(pa:PlainAttrs T)(slot:Slot T name id)(G:typeOf (.builtin id)=pure (.type "method_descriptor")) (hm:MtR X id r) (Z:PE X o to) (ha:PA X (e::es) t)
  (U:attributeBase o name X.env (eval o X.env)=eval o X.env:=by rfl)
  (Kf:((backTo Im (starEach (e::es) X.env)).all (fun x=>!x.1)&&(backToKw Im (keywordEach [] X.env)).all (fun x=>x.1.isSome)
   && decide ((e::es).length+([]:List tI).length+(if ([]:List tI).isEmpty then 0 else 1)<30))=true:=by rfl)
  (H0:(apos.endLine == Im.line)=true:=by rfl) (hs:starEach (e::es) X.env=(false,eval e X.env)::starEach es X.env:=by rfl) (Kg:(backTo Im (starEach es X.env)).any (·.1)=false:=by rfl) :
  PE X (.Call (.Attribute o name apos) (e::es) [] Im) (tBM X.K T r to t):=by
 intro pins s σ H Q I h;refine wpAny_Call_method_late U Kf H0 rfl (thn (Z pins s σ H _ I h) fun v s1 ⟨x,R,J,L,ty,S⟩=>?_)
 obtain⟨h1,h2⟩:=zoP J L ty;refine⟨T,id,pa,slot,G,h1,h2,?_⟩;have N:=ha Im pins s1 σ R _ J S;rw[hs]at N ⊢;refine lh (by show(false||(backTo Im (starEach es X.env)).any (·.1))=false;rw[Kg] <;> rfl) (Calls.evalArgs_plain ?_)
 exact thn N fun us s2 ⟨vs,H2,Y,r2,q2⟩=>hm pins s2 σ H2 x vs v us Q Y L r2 q2
end
def MtM(X:Cx)(id:String)(r:V->List V->Hp->VK->Prop):Prop :=
 ∀(pins:qO) (s:aq) (σ:St) (H:Hp) (x:V) (xs:List V) (v:ah) (y:List ah) (Q:VK),Inv X pins σ H s->RelV x v->Vals xs y->r x xs H Q ->
  wpAny (model X.prog X.w) X.A (call (.builtin id) (v::y)) (EP X pins σ Q) X.xe s
theorem Vals.one{x:V}{l:List ah}(h:Vals [x] l):∃u,l=[u]/\RelV x u:=by
 cases h with
 | cons r t=>cases t;exact⟨_,rfl,r⟩
section
variable{X:Cx}{pins:qO}{σ:St}{H:Hp}{s:aq}{l b:ak}{xs ys zs:List V}
theorem Inv.lset{v its':List ah}{n:Nat}{f:Array ah->Array ah}{t':Nat}(I:Inv X pins σ H s)(N:H l=some (.lst xs))
  (e:s.heap.get? l=some { cls:=.type "list",data:=.seq v.toArray n }) (hf:f v.toArray=its'.toArray) (G:Vals ys its') (C:ys.length<=sizeLine) :
  Inv X pins σ (upd H l (.lst ys)) { s with heap:=s.heap.update l (e8 f),toks:=t' }:=by
 have q:=PySem.IsL.update e f;rw[hf]at q;refine I.write (x:=l) (e:=l) (by rw[N];exact trivial) (.inl rfl) (fun R u L J=>(k8 s.heap (e8 f) (ko L)).trans J) ⟨_,q⟩ ?_
 exact⟨C,its',_,G,q⟩
theorem Inv.lnew{u:List ah}{t':Nat}(I:Inv X pins σ H s)(x:Vals ys u)(v:ys.length<=sizeLine) :
  Inv X pins σ (upd H s.heap.objs.size (.lst ys)) { s with heap:=s.heap.push { cls:=.type "list",data:=.seq u.toArray },toks:=t' } :=
 I.laid (fun _ _ q=>au _ q) (aC _) ⟨v,u,0,x,aH _ rfl⟩
theorem Inv.fresh(I:Inv X pins σ H s):H s.heap.objs.size=none:=I.hok.fresh (aC _)
theorem Inv.lstM(I:Inv X pins σ H s)(v:H l=some (.lst xs)):xs.length<=sizeLine/\∃(u:List ah) (n:Nat),Vals xs u/\xs.length=u.length/\s.heap.get? l=some { cls:=.type "list",data:=.seq u.toArray n }:=by
 obtain⟨z,u,n,r,e⟩:=I.hok l _ v;exact⟨z,u,n,r,r.length,e⟩
end
section
variable{X:Cx}
def zpF:V->List V->Hp->VK->Prop:=fun x u H Q=>∃l xs y,x=.ref l/\u=[y]/\H l=some (.lst xs)/\xs.length<sizeLine/\Q .non (upd H l (.lst (xs++[y])))
theorem zeC:MtM X "list.append" zpF:=by
 intro pins s σ H x U v S Q I J L h;obtain⟨l,xs,y,rfl,rfl,G,Y,q⟩:=h;cases J;obtain⟨u,rfl,N⟩:=L.one;obtain⟨z,C,n,r,R,e⟩:=I.lstM G;refine call_meets F.slot_list_append ⟨_,e,rfl⟩ F.entry_list_append (F.args_list_append_2 _ _) (PySem.list_append l C.toArray n u (by rw[aF];lia)) ⟨e,?_⟩
 refine⟨.non,_,I.lset (its':=C++[u]) G e (by simp) (r.append (.cons N .nil)) ?_,rfl,q⟩
 rw[aM,List.length_singleton];lia
def rCat:R2:=fun x y H Q=>∃l b xs zs,x=.ref l/\y=.ref b/\H l=some (.lst xs)/\H b=some (.lst zs)/\xs.length+zs.length<=sizeLine/\∀p,H p=none->Q (.ref p) (upd H p (.lst (xs++zs)))
theorem zsO:OpR X (binaryOp .Add) rCat:=by
 intro pins s σ H x y v u Q I J U h;obtain⟨l,b,xs,zs,rfl,rfl,N,S,hz,q⟩:=h;cases J;cases U;obtain⟨z,G,n,r,hl,e⟩:=I.lstM N;obtain⟨z2,C,n2,Y,L,Z⟩:=I.lstM S;refine PySem.P.add_list e Z ?_ (by rw[aF,aF];lia)
 have R:G.toArray++C.toArray=(G++C).toArray:=by simp
 rw[R];exact⟨.ref _,_,I.lnew (t':=s.toks) (r.append Y) (by rw[aM];lia),rfl,q _ I.fresh⟩
end
end L2
namespace Att
open PySem PySem.W PySem.Calls PyProof.Rows
theorem zeE{P:pG}{h:aW}:∀(ns:List Int) (u:List ah),WellAll P h u (ns.map yp)->gn u ns:=by
 intro ns;induction ns with
 | nil =>
  intro u w;rw[fG]at w;cases w;exact .nil
 | cons n ns v =>
  intro u w;rw[cj]at w;cases w with
  | cons a b =>
   cases a;exact .cons _ _ (v _ b)
theorem zk7{l:OpenLaw}{n:Nat}(R:l.most=some n){P:pG}{h:aW}{args:List WData}{vals:List ah}
  (I:l.row.toRowW.claim.pre args=true) (C:WellAll P h vals args) :
  ∃a J ns,vals=[cA a]/\args=[WData.list (ns.map yp)]/\h.get? a=some { cls:=.type "list",data:=.seq J.toArray }/\gn J ns/\ns.length<=n:=by
 have G:WShape.hasAll [] args [.list .int]=true:=(pre_splitW I).1;have hc:l.pre.holds [] { args:=args }=true:=(pre_splitW I).2;obtain⟨d,r,rfl,Z,S⟩:=hasAllW_cons G;obtain rfl:=hasAllW_nil S;obtain⟨xs,rfl,N⟩:=hasW_list Z;obtain⟨ns,rfl⟩:=items_int N;have u:ns.length<=n:=by
  unfold OpenLaw.pre at hc;have v:(WTm.not (.lt (.lit (.int (n:Int))) (.len (.arg 0)))).holds [] { args:=[.list (ns.map .int)] }=true:=by
   have v:=(holds_andW hc).1;rw[R]at v;exact v
  have x:=condW_of v (w_not (w_lt w_lit (w_len_list (w_arg rfl))));rw[ba]at x;refine n9 fun q=>?_
  have U:(n:Int)<((ns.length:Nat):Int):=by lia
  first
   | (rw[decide_eq_true U]at x;exact absurd x (by decide))
   | (simp at x;lia)
 cases C with
 | cons w1 w2 =>
  cases w2;cases w1 with
  | list L Y=>exact⟨_,_,ns,rfl,rfl,L,zeE ns _ Y,u⟩
theorem zlp(l:OpenLaw)(args:List WData):l.row.toRowW.claim.post args (.bool true) args=true :=
 postW_of (r:=l.row.toRowW) (X:=(true == true))
  (show wU [] (.bool true) .bool=true by first|rfl|decide|simp[wU,WShape.arms,WShape.armsAll])
  (show(WTm.eq .res (.lit (.bool true))).value [] { args:=args,res:=some (.bool true),after:=args }=some (.bool (true == true)) from w_eq_bool (w_res rfl) w_lit) rfl
theorem attach_call{l:OpenLaw}{n:Nat}{q:aL}{loose:List Str}{XP:(Str->Option ah)->aW->Prop}{YP:aT->aW->Prop}{d:DefRec}
  (hn:l.most=some n) (S:d.params.defaults=[])
  (call:∀(w:aT) (s₀ v:aq) (mg Z:qM) (I:ak) (o:Obj) (pm cd doc:ah) (a:ak) (C:List ah) (ns:List Int),
   Ground q loose [] XP w s₀ mg Z v.heap->YP w v.heap ->
   v.heap.get? I=some o->o.data=.func (docDef d.name d.params d.body d.scope pm cd doc)->v.heap.CodeRec cd d.name->mg d.name=some (.ref I) ->
   v.heap.get? a=some { cls:=.type "list",data:=.seq C.toArray }->gn C ns->ns.length<=n->v.gens=#[] ->
   codeAny (model l.prog w) callerA (.call (.ref I) ⟨[.ref a],[]⟩) (fun r s'=>r=.ok (.ret (.bool true))/\OldK v.heap s'.heap/\s'.os=v.os/\iy s'.gens) v) :
  WalkO q loose XP YP l.row.toRowW d [] (fun f C=>wV f C):=by
 intro w s₀ v mg Z G Y I o pm cd doc dV kV ho hd R hD U hg args vals as Kc hlay hrd N hlo;obtain rfl:dV=.none:=Dflts.none hD S;obtain rfl:kV=.none:=Dflts.noKw hD;obtain⟨a,C,ns,rfl,rfl,L,x,J⟩:=zk7 hn Kc N;refine enter_call (iL (call w s₀ v mg Z I o pm cd doc a C ns G Y ho (fd_plain hd) R U L x J hg) fun r s' hq=>?_)
 obtain⟨rfl,h2,h3,h4⟩:=hq;exact⟨.inl ⟨.bool true,.bool true,[],rfl,fun _=>rfl,.bool true,zlp l _,fun _=>⟨kA,fun _ hm=>(nomatch hm)⟩⟩,h2,h3,h4⟩
end Att
namespace L2
open PySem PySem.Spec PyProof.Rows
theorem zgK:∀{u:List ah}{ns:List Int},gn u ns->Vals (ns.map V.int) u
 | _,_,.nil=>.nil
 | _,_,.cons n t h=>.cons ⟨t,rfl⟩ (zgK h)
def Only(H:Hp):Prop:=∀b,H b=none\/∃o xs,H b=some (.frz o (.lst xs))
theorem zn9{P:aL}{w:aT}{K:qF}{mg mb:qM}{CX:CXT}{k:Nat}{fa a:ak}{fd:cR}{x:Str}{sp:Sp}{C:aq}{J:List ah}{ns:List Int}
  (KX:K.In C.heap) (hns:C.heap.Ns mainGlobals mg) (G:C.heap.Ns builtinsNs mb) (hbb:∀x:Str,x ≠ "__name__" -> mb x=bootBuiltins x) (Y:C.heap.NoLimit) (hg:C.gens=#[])
  (ha:C.heap.get? a=some { cls:=.type "list",data:=.seq J.toArray }) (hi:gn J ns) (hl:ns.length<=sizeLine) (hr:Room k callerA)
  (F:∀base:aW,K.In base->base.Ns mainGlobals mg->FnOk P w K mg base CX k fa fd [x] sp) (Kr:∀(s:aq) (u:ah),oZ s fd ⟨[u],[]⟩ [(x,u)])
  (hsp:∀H:Hp,Only H->SqL K H a (ns.map V.int)->sp [.ref a] H (fun v _=>v=.bl true) fun _ _ _=>False)
  (hCX:∀H e s',CX [] H C (fun _ _ _=>False) e s'->False) :
  codeAny (model P w) callerA (.call (.ref fa) ⟨[.ref a],[]⟩) (fun r s'=>r=.ok (.ret (.bool true))/\OldK C.heap s'.heap/\s'.os=C.os/\iy s'.gens) C:=by
 have rv:=zgK hi;have U:=hi.length;have core:∀H:Hp,Only H->SqL K H a (ns.map V.int)->HOk P w H C.heap->(∀b,H b≠none->b=a)->(H a≠none->K.lookup a=none) ->
   codeAny (model P w) callerA (.call (.ref fa) ⟨[.ref a],[]⟩) (fun r s'=>r=.ok (.ret (.bool true))/\OldK C.heap s'.heap/\s'.os=C.os/\iy s'.gens) C:=by
  intro H hO hS hok hA hK;have IX:∀{b:ak} {o:Obj},C.heap.get? b=some o->H b=none->(hidT C.heap H).get? b=some o:=fun e n=>zor e n
  have noA:∀{b:ak} {o:Obj} {L:Array dI} {ep:Nat},C.heap.get? b=some o->o.data=.dict L ep->H b=none:=fun {b o L ep} e d=>by
   cases q:H b with
   | none=>rfl
   | some u =>
    have e':b=a:=hA b (by rw[q];simp)
    subst e';rw[ha]at e;cases e;have d':Data.seq J.toArray _=Data.dict L ep:=d;cases d'
  have I:∀{b:ak} {m:qM},C.heap.Ns b m->(hidT C.heap H).Ns b m:=fun {b m} ⟨o,L,ep,e,d,r⟩=>⟨o,L,ep,IX e (noA e d),d,r⟩
  have Z:K.In (hidT C.heap H):=fun b o e=>IX (KX b o e) (by
   cases q:H b with
   | none=>rfl
   | some u =>
    have e':b=a:=hA b (by rw[q];simp)
    subst e';rw[hK (by rw[q];simp)]at e;cases e)
  have hM:Mod K mg (hidT C.heap H):=⟨Z,I hns,⟨mb,I G,hbb⟩,let ⟨mc,h1,h2⟩:=Y;⟨mc,I h1,h2⟩⟩
  have e0:Env0 P w K mg (hidT C.heap H) callerA [] C H:=⟨rfl,hM,fun b o e=>zqg e,Nat.le_of_eq (zmk _ _),trivial,fun b G=>absurd (show b∈([]:List ak) from G) (by simp),hok,.of_eq hg⟩
  refine iL ((F _ Z (I hns)).run callerA [] C H ⟨[.ref a],[]⟩ [.ref a] [.ref a] _ _ hr e0 (Kr C (.ref a)) (.cons rfl .nil) (hsp H hO hS)) fun r s' h=>?_
  cases r with
  | error e=>exact(hCX H e s' h).elim
  | ok fl =>
   cases fl with
   | next=>exact cx h
   | brk=>exact cx h
   | cont=>exact cx h
   | ret u =>
    obtain⟨v,H',os,bare,un,S,r',q⟩:=h;have q':v=.bl true:=q;subst q';obtain rfl:u=eM true:=r';refine⟨rfl,OldK.of_keep fun b o e=>?_,os,bare⟩
    cases q:H b with
    | none=>exact un.keep b o e q (by intro z;exact absurd (show b∈([]:List ak) from z) (by simp)) (by simp)
    | some u =>
     rcases hO b with z|⟨ob,xs,z⟩
     ·rw[q]at z;cases z
     ·have z2:=un.frzs b ob _ z;obtain⟨e1,_⟩:=hok b _ z;obtain⟨e2,_⟩:=S b _ z2;rw[e]at e1;cases e1;exact e2
 cases hk:K.lookup a with
 | some o =>
  have e:=KX a o hk;rw[ha]at e;cases e;refine core (fun _=>none) (fun _=>.inl rfl) (.inr ⟨_,J.toArray,_,hk,rfl,rfl,rfl,by rw[aF,U];exact hl,by simpa using rv⟩) (fun b u z=>by have R:(none:Option HO)=some u:=z;cases R) (fun b z=>absurd rfl z) fun z=>absurd rfl z
 | none =>
  refine core (fun b=>if b=a then some (.frz { cls:=.type "list",data:=.seq J.toArray } (.lst (ns.map V.int))) else none) (fun b=>?_) (.inl (.inr ⟨{ cls:=.type "list",data:=.seq J.toArray },if_pos rfl⟩)) (fun b u z=>?_) (fun b z=>?_) fun _=>hk
  ·by_cases G:b=a
   ·exact .inr ⟨_,_,if_pos G⟩
   ·exact .inl (if_neg G)
  ·by_cases G:b=a
   ·have R:=(if_pos G).symm.trans z;cases R;subst G;exact⟨ha,by rw[ba];exact hl,J,_,rv,ha⟩
   ·have R:=(if_neg G).symm.trans z;cases R
  ·by_cases G:b=a
   ·exact G
   ·exact absurd (if_neg G) z
def Qz(s:dH):Arguments:=match s with
 | .FunctionDef _ a _ _ _ _ _ _ _ _=>a
 | _=>{ posonlyargs:=[],args:=[],vararg:=none,kwonlyargs:=[],kw_defaults:=[],kwarg:=none,defaults:=[] }
def Qe(s:dH):List dH:=match s with
 | .FunctionDef _ _ b _ _ _ _ _ _ _=>b
 | _=>[]
def JF(s:dH):fA:=match s with
 | .FunctionDef _ _ _ _ _ _ sc _ _ _=>sc
 | _=>{ kind:=.function,names:=[],isGenerator:=false,isCoroutine:=false }
abbrev CX0:CXT:=fun _ _ _ _ _ _=>False
abbrev E0:XK:=fun _ _ _=>False
theorem zwb{X:Cx}:Vv CX0 X E0:=fun _ _ _ _ _ _ _ h=>h.elim
structure Fun(K:qF)(x qual:Str)(st:dH)(f:ak)(fd:cR):Prop where
 ex:∃(oc:ah) (od:Option ak) (kV doc pm:ah) (an:Option ak) (cdv ct:ah) (osl:Array (Option ah)),
  fd=dz x qual (Qz st) (Qe st) (JF st) .none kV doc pm an cdv ct/\K.lookup f=some ⟨oc,od,.func fd,osl⟩/\gY K cdv qual=true
 kp:gX K (.ref f)=true
section
variable{P:aL}{w:aT}{K:qF}{mg:qM}{base:aW}
theorem Fun.ok{x qual:Str}{st:dH}{f:ak}{fd:cR}{N ps:List Str}{k:Nat}{C:Sp}(F:Fun K x qual st f fd)(S:Uq N ps (JF st))(len:∀u H Q E,C u H Q E->u.length=ps.length)
  (J:∀(l:ah) (A:br) (outer:List Env) (s:aq) (H:Hp) (u:List V) (Q:VK) (E:XK),Room k (A.deeper (envOfC qual (JF st) s.heap.objs.size f l))->C u H Q E ->
   ∃t,PSs (cxOf CX0 P w K mg base N qual (JF st) f l A outer s H E).nox (Qe st) t/\t { nx:=fun _ R=>Q .non R,rt:=Q } (start N u) H):FnOk P w K mg base CX0 (k+1) f fd ps C:=by
 obtain⟨Y,U,kV,doc,pm,an,l,ct,G,rfl,L,y⟩:=F.ex;refine zue L y S len fun A outer s H u Q E I v=>?_
 obtain⟨t,h,q⟩:=J l A outer s H u Q E I v;exact⟨t,h.nox,q⟩
theorem Fun.binds{x qual:Str}{st:dH}{f:ak}{fd:cR}{ps:List Str}(F:Fun K x qual st f fd)
  (h:∀(kV doc pm:ah) (an:Option ak) (u ct:ah) (v:List ah),v.length=ps.length->bindArgs (dz x qual (Qz st) (Qe st) (JF st) .none kV doc pm an u ct) ⟨v,[]⟩=pure (ps.zip v)):Binds K fd ps []:=by
 obtain⟨I,G,kV,doc,pm,an,u,ct,y,rfl,J,C⟩:=F.ex;exact .all (h kV doc pm an u ct)
theorem zph{x qual:Str}{st:dH}{f:ak}{C:ah}{G an:Option ak}{y:Array (Option ah)}{kV doc pm v ct:ah}(l:K.lookup f=some ⟨C,G,.func (dz x qual (Qz st) (Qe st) (JF st) .none kV doc pm an v ct),y⟩)
  (c:gY K v qual=true) (k:gX K (.ref f)=true):Fun K x qual st f (dz x qual (Qz st) (Qe st) (JF st) .none kV doc pm an v ct):=⟨⟨C,G,kV,doc,pm,an,v,ct,y,rfl,l,c⟩,k⟩
end
section
variable{X:Cx}
theorem pv(i:Nat){x:Str}{pos:Pos}(u:X.N[i]?=some x:=by rfl)(v:Vis X.env.scope x:=by walk_at "V")(hd:(x == ("__debug__":Str))=false:=by decide)
  (l:(x == ("__classdict__":Str))=false:=by decide):PE X (.Name x pos) (tVar i):=QX u v hd l
end
theorem iteF{A B:Prop}(h:B):if false=true then A else B:=by
 rw[if_neg bf];exact h
theorem iteT{A B:Prop}(h:A):if true=true then A else B:=by
 rw[if_pos rfl];exact h
def Same(H l:Hp):Prop:=∀b o,H b=some o->l b=some o
theorem Same.refl(H:Hp):Same H H:=fun _ _ h=>h
def closed(env:Env):List (Str×eO)->List (Str×ak)->List (Str×ak)
 | [],acc=>acc
 | (n,k)::r,acc=>closed env r (if (k == .free)=true then(n,(env.cells.lookup n).getD 0)::acc else acc)
theorem zeY{env:Env}:∀(l:List (Str×eO)) (u:List (Str×ak)),(∀x∈l,x.2=.free->∃c,env.cells.lookup x.1=some c) ->
  (forIn l u fun x __s=>if (x.snd == cy)=true then do
    let c <- cellOf env x.fst
    pure (cw ((x.fst,c)::__s))
   else pure (cw __s):Sem (List (Str×ak)))=pure (closed env l u)
 | [],u,_=>rfl
 | (n,k)::r,u,h=>by
  have y:=fun a=>zeY (env:=env) r a fun x hx=>h x (b5 _ hx)
  rw[iE]
  by_cases e:(k == cy)=true
  ·obtain⟨c,hc⟩:=h (n,k) cC (by simpa using e)
   have v:u0 n env.cells=some c:=hc;have G:cellOf env n=pure c:=by unfold cellOf;rw[v]
   simp only[e,if_true,G,pure_bind];rw[y]
   conv=>rhs;unfold closed
   simp only[e,if_true,v,fo]
  ·have C:(k == cy)=false:=by simpa using e
   simp only[C,aI,if_false,pure_bind];rw[y]
   conv=>rhs;unfold closed
   simp only[C,aI,if_false]
theorem zbn{scope:fA}{env:Env}(h:∀x∈scope.names,x.2=.free->∃c,env.cells.lookup x.1=some c):closureFor scope env=pure (closed env scope.names []):=by
 simp only[closureFor];rw[zeY scope.names [] h]
 rfl
theorem V4{env:Env}:∀(l:List (Str×eO)) (v:List (Str×ak)),(∀x∈l,x.2=.free->∃c,env.cells.lookup x.1=some c) ->
  (∀x c,v.lookup x=some c->env.cells.lookup x=some c)->∀x c,(closed env l v).lookup x=some c->env.cells.lookup x=some c
 | [],v,_,ha=>ha
 | (n,k)::r,v,h,ha=>by
  unfold closed;refine V4 r _ (fun x hx=>h x (b5 _ hx)) fun x c=>?_
  by_cases e:(k == cy)=true
  ·obtain⟨d,hd⟩:=h (n,k) cC (by simpa using e)
   have y:u0 n env.cells=some d:=hd;simp only[e,if_true,y,fo];intro q;rw[cO]at q
   by_cases ex:(x == n)=true
   ·simp only[ex]at q;have G:x=n:=by simpa using ex
    cases q;rw[G];exact y
   ·have C:(x == n)=false:=by simpa using ex
    simp only[C]at q;exact ha x c q
  ·have I:(k == cy)=false:=by simpa using e
   simp only[I,aI,if_false];exact ha x c
theorem zfU{env:Env}:∀(l:List (Str×eO)) (v:List (Str×ak)) (x:Str),(∃c,v.lookup x=some c)->∃c,(closed env l v).lookup x=some c
 | [],_,_,h=>h
 | (n,k)::r,v,x,h=>by
  unfold closed;refine zfU r _ x ?_
  by_cases e:(k == cy)=true
  ·simp only[e,if_true];rw[cO];cases(x == n) with
   | true=>exact⟨_,rfl⟩
   | false=>exact h
  ·have y:(k == cy)=false:=by simpa using e
   simp only[y,aI,if_false];exact h
theorem zdy{env:Env}:∀(l:List (Str×eO)) (v:List (Str×ak)) (x:Str),(x,cy)∈l->∃c,(closed env l v).lookup x=some c
 | [],_,_,h=>nomatch h
 | (n,k)::r,v,x,h=>by
  unfold closed;rcases ax.mp h with e|h
  ·cases e;refine zfU r _ _ ?_;have y:(cy == cy)=true:=rfl;simp only[y,if_true];rw[cO];simp
  ·exact zdy r _ x h
theorem lookup_mem{α:Type}{l:List (Str×α)}{x:Str}{v:α}(h:l.lookup x=some v):(x,v)∈l:=by
 induction l with
 | nil=>simp at h
 | cons p r u =>
  obtain⟨n,w⟩:=p;rw[cO]at h
  by_cases e:(x == n)=true
  ·simp only[e]at h;cases h;have y:x=n:=by simpa using e
   rw[y];exact cC
  ·have C:(x == n)=false:=by simpa using e
   simp only[C]at h;exact b5 _ (u h)
def Uz(env:Env)(p:Str×eO):Str×eO:=if (p.2 == cy&&env.scope.kind == .function&&env.kindOf p.1 == some .cell)=true then(p.1,.cell) else p
theorem zlh(env:Env)(p:Str×eO):(Uz env p).1=p.1:=by
 unfold Uz
 by_cases c:(p.2 == cy&&env.scope.kind == .function&&env.kindOf p.1 == some .cell)=true
 ·rw[if_pos c]
 ·rw[if_neg c]
def kin(env:Env)(x:Str):Option eO->Option eO
 | some .free=>if (env.scope.kind == .function&&env.kindOf x == some .cell)=true then some .cell else some .free
 | o=>o
theorem zlg(env:Env)(x:Str)(k:eO):some (Uz env (x,k)).2=kin env x (some k):=by
 unfold Uz
 by_cases c:(k == cy&&env.scope.kind == .function&&env.kindOf x == some .cell)=true
 ·rw[if_pos c];rw[aK,aK]at c;have y:k=.free:=by simpa using c.1.1
  subst y;unfold kin;rw[if_pos (by rw[aK];exact⟨c.1.2,c.2⟩)]
 ·rw[if_neg c];cases k with
  | free =>
   have:¬(env.scope.kind == .function&&env.kindOf x == some .cell)=true:=fun z=>c (by
    have v:(cy == cy)=true:=rfl;rw[v,cW];exact z)
   unfold kin;rw[if_neg this]
  | _=>rfl
theorem zf6(scope:fA)(env:Env):(relabel scope env).names=scope.names.map (Uz env):=by
 show scope.names.map _=_
 refine iK fun p _=>?_
 obtain⟨n,k⟩:=p
 rfl
theorem zfs(env:Env):∀(l:List (Str×eO)) (x:Str),(l.map (Uz env)).lookup x=kin env x (l.lookup x)
 | [],_=>rfl
 | (n,k)::r,x=>by
  have v:=zfs env r x;have C:Uz env (n,k)=(n,(Uz env (n,k)).2):=i5 (zlh env (n,k)) rfl;rw[cj,C,cO,cO]
  by_cases e:(x == n)=true
  ·have y:x=n:=by simpa using e
   subst y;simp only[beq_self_eq_true];exact zlg env x k
  ·have G:(x == n)=false:=by simpa using e
   simp only[G];exact v
theorem zdB(scope:fA)(env:Env)(x:Str):(relabel scope env).names.lookup x=kin env x (scope.names.lookup x):=by
 rw[zf6];exact zfs env _ x
abbrev capN(X:Cx)(capt:List Nat):List Str:=capt.map fun i=>X.N.getD i iR
abbrev capS(capt:List Nat)(σ:St):St:=capt.map fun i=>σ.getD i none
abbrev Jx(own:List Str):St:=own.map fun _=>none
abbrev Jg(X:Cx)(scope:fA)(own:List Str)(capt:List Nat)(C:ak)(s₀:aq)(H₀:Hp)(fp:List ak):Cx :=
 { X with N:=own++capN X capt,s₀:=s₀,H₀:=H₀,env:=compEnvC scope (closed X.env scope.names []) C X.env,outer:=X.stack,stack:=X.stack,ex:=fp,fn:=fun _=>false,pn:=[],xe:=fun _ _=>False }
structure JN(scope:fA)(own:List Str)(capt:List Nat)(X:Cx):Prop where
 kind:scope.kind=.function
 nocell:∀y∈scope.names,y.2≠.cell
 names:∀y∈scope.names,y.2=.local->scope.names.lookup y.1=some .local
 frees:∀y∈scope.names,y.2=.free->X.env.kindOf y.1=some .cell\/X.env.kindOf y.1=some .free
 caps:∀k∈capt,scope.names.lookup (X.N.getD k iR)=some .free
theorem getD_some{α:Type}{l:List (Option α)}{k:Nat}{v:α}(h:l.getD k none=some v):l[k]?=some (some v):=by
 rw[bz]at h;cases e:l[k]? with
 | none=>rw[e]at h;cases h
 | some o=>rw[e]at h;simp at h;rw[h]
section
variable{X:Cx}{scope:fA}{own:List Str}{capt:List Nat}
theorem JN.cells(S:JN scope own capt X)(ok:X.Ok):∀x∈scope.names,x.2=.free->∃c,X.env.cells.lookup x.1=some c:=fun x hx hf=>ok.has x.1 (S.frees x hx hf)
theorem zrc{pins:qO}{σ:St}{H₀:Hp}{s₀:aq}{C:ak}{N:List ak}(S:JN scope own capt X)(I:Inv X pins σ H₀ s₀)(hf:∀b∈N,FpOk X pins H₀ b)(J:∀b∈N,b<s₀.heap.objs.size)(U:s₀.heap.objs.size<=C) :
  (Jg X scope own capt C s₀ H₀ N).Ok:=by
 have sub:=V4 scope.names [] (S.cells I.ok) (fun x c h=>nomatch (show(none:Option ak)=some c from h))
 refine⟨I.ok.mod,S.kind,I.ok.glob,I.ok.blt,U,fun x y c h1 Z=>I.ok.inj x y c (sub x c h1) (sub y c Z),fun x Y=>?_,fun x c z=>absurd (show false=true from z) bf,I.ok.hd,I.ok.frames,.inl rfl,fun b G=>?_,I.bs,cB I.ok.bsz I.sz,fun b o e G=>?_,fun b G z=>?_,I.stack,I.stkFree⟩
 ·have e:=zdB scope X.env x;have v:(relabel scope X.env).names.lookup x=some .cell\/(relabel scope X.env).names.lookup x=some .free:=Y;rw[e]at v;cases q:scope.names.lookup x with
  | none=>rw[q]at v;rcases v with z|z <;> cases z
  | some k =>
   rw[q]at v;cases k with
   | free=>exact zdy scope.names [] x (lookup_mem q)
   | cell=>exact absurd rfl (S.nocell _ (lookup_mem q))
   | _=>rcases v with z|z <;> cases z
 ·obtain⟨f0,f1,f2,L,f4,R⟩:=hf b G;exact⟨aJ (aE (J b G) U),fun x c e=>f4 x c (sub x c e)⟩
 ·obtain⟨f0,f1,f2,L,f4,R⟩:=hf b G;rcases L with z|z
  ·exact I.ok.noex b o e z
  ·exact absurd (aE (aD (I.ok.bs b o e).1) z) (gE _)
 ·obtain⟨f0,f1,f2,L,f4,R⟩:=hf b G;rcases ax.mp (I.stkSub b z) with q|q
  ·exact f1 q
  ·exact f2 q
theorem zmS{J:HO}{pins:qO}{σ:St}{H₀:Hp}{s₀:aq}{fp:List ak}{h':aW}{D C:ak}{tk:Nat}(S:JN scope own capt X)(I:Inv X pins σ H₀ s₀)(hf:∀b∈fp,FpOk X pins H₀ b)(hfp:∀b∈fp,b<s₀.heap.objs.size)
  (hD:s₀.heap.objs.size<=D) (hC:s₀.heap.objs.size<=C) (hDC:D≠C) (old:∀b o,s₀.heap.get? b=some o->h'.get? b=some o) (hns:h'.Ns C (fun _=>none)) (R:JK X.prog X.w (upd H₀ D J) h' D J) :
  Inv (Jg X scope own capt C s₀ H₀ fp) [] (Jx own++capS capt σ) (upd H₀ D J) { s₀ with heap:=h',toks:=tk }:=by
 have ok:=zrc S I hf hfp hC;have sub:=V4 scope.names [] (S.cells I.ok) (fun x c h=>nomatch (show(none:Option ak)=some c from h))
 have hn:H₀ D=none:=I.hok.fresh hD;refine⟨ok,rfl,I.bare,Un.laid old hD hn,⟨_,hns,fun i x v e1 L e3=>?_⟩,fun x c e=>?_,?_,fun x c e=>?_,fun p hp=>absurd (show p∈([]:qO) from hp) (by simp),I.hok.laid (o:=J) old hD R,(by show(Jx own++capS capt σ).length=(own++capN X capt).length;simp[Jx,capS,capN])⟩
 ·have N:(Jx own).length=own.length:=ba ..
  by_cases hi:i<own.length
  ·rw[bQ (by rw[N];exact hi)]at L
   unfold Jx at L;rw[bh]at L;cases q:own[i]? with
   | none=>rw[q]at L;cases L
   | some z=>rw[q]at L;cases L
  ·have Y:own.length<=i:=n9 hi;have G:(own++capN X capt)[i]?=some x:=e1;rw[bw Y]at G;rw[bw (by rw[N];exact Y),N]at L
   unfold capN at G;unfold capS at L;rw[bh]at G L;cases q:capt[i - own.length]? with
   | none=>rw[q]at G;cases G
   | some k =>
    rw[q]at G L;have ex:X.N.getD k iR=x:=aO G;have ev:σ.getD k none=some v:=aO L;have hk:k∈capt:=aX q;have hv:=getD_some ev;have Z:k<X.N.length:=by
     rw[<- I.len];exact(az.mp hv).1
    have hx:X.N[k]?=some x:=by
     rw[bz,aw Z]at ex;rw[aw Z];exact congrArg some ex
    have Iz:=S.caps k hk;rw[ex]at Iz;have IV:=S.frees _ (lookup_mem Iz) rfl;obtain⟨m,hm,hl⟩:=I.loc;have vis:Vis X.env.scope x:=by
     rcases IV with z|z
     ·exact .inr (.inl z)
     ·exact .inr (.inr z)
    obtain⟨u,r,l⟩:=hl k x v hx hv vis;refine⟨u,r,.inr ⟨?_,?_⟩⟩
    ·have e:=zdB scope X.env x;rw[Iz]at e;show(relabel scope X.env).names.lookup x=some .cell\/(relabel scope X.env).names.lookup x=some .free
     rw[e];unfold kin
     by_cases c:(X.env.scope.kind == .function&&X.env.kindOf x == some .cell)=true
     ·rw[if_pos c];exact .inl rfl
     ·rw[if_neg c];exact .inr rfl
    ·rcases l with⟨z,_⟩|⟨_,c,hc,U⟩
     ·rcases IV with y|y <;> (have y':X.env.kindOf x=_:=y;rw[z]at y';cases y')
     ·obtain⟨d,hd⟩:=zdy (env:=X.env) scope.names [] x (lookup_mem Iz);have:=sub x d hd;rw[hc]at this;cases this;obtain⟨o,R,hod⟩:=U;exact⟨c,hd,o,old _ _ R,hod⟩
 ·obtain⟨v,o,R,hd⟩:=I.cell x c (sub x c e);exact⟨v,o,old _ _ R,hd⟩
 ·show upd H₀ D J C=none
  rw[Jn (ko hDC)];exact I.hok.fresh hC
 ·obtain⟨v,o,R,hd⟩:=I.cell x c (sub x c e);show upd H₀ D J c=none
  rw[Jn (aJ (aE (aD R) hD))];exact I.freeC x c (sub x c e)
theorem zoK{pins:qO}{σ:St}{H₀:Hp}{s₀:aq}{x:List ak}{h':aW}{D C:ak}{tk:Nat}(S:JN scope own capt X)(I:Inv X pins σ H₀ s₀)(hf:∀b∈x,FpOk X pins H₀ b)(u:∀b∈x,b<s₀.heap.objs.size)
  (J:s₀.heap.objs.size<=D) (N:s₀.heap.objs.size<=C) (v:D≠C) (old:∀b o,s₀.heap.get? b=some o->h'.get? b=some o) (G:h'.Ns C (fun _=>none)) (L:h'.get? D=some { cls:=.type "list",data:=.seq ([]:List ah).toArray 0 }) :
  Inv (Jg X scope own capt C s₀ H₀ x) [] (Jx own++capS capt σ) (upd H₀ D (.lst [])) { s₀ with heap:=h',toks:=tk }:=zmS S I hf u J N v old G ⟨dR _,[],0,.nil,L⟩
theorem zoJ{pins Iv:qO}{σ σ':St}{H₀ x:Hp}{s₀ s':aq}{R:List ak}{h'':aW}{C:ak}(I:Inv X pins σ H₀ s₀)(hf:∀b∈R,FpOk X pins H₀ b)(hC:s₀.heap.objs.size<=C)
  (J:Inv (Jg X scope own capt C s₀ H₀ R) Iv σ' x s') (N:eG C s'.heap h''):Inv X pins σ x { s' with heap:=h'' }:=by
 have L:x C=none:=J.free;have l:∀b o,s₀.heap.get? b=some o->b≠C:=fun b o e=>aJ (aE (aD e) hC)
 have u:Un (frs X.stack) R H₀ x s₀.heap s'.heap:=J.base;have u2:Un (frs X.stack) R H₀ x s₀.heap h'':=by
  refine⟨fun b o q n S G=>(N.2 b (l b o q)).trans (u.keep b o q n S G),fun b o q n S G=>?_,u.free,fun b o q G=>?_,u.tups,u.frzs,u.tbls⟩
  ·obtain⟨Y,e⟩:=u.slot b o q n S G;exact⟨Y,(N.2 b (l b o q)).trans e⟩
  ·obtain⟨Z,e⟩:=u.there b o q G;exact⟨Z,(N.2 b (l b o q)).trans e⟩
 have hok:HOk X.prog X.w x h'':=fun b ob e=>by
  refine(J.hok b ob e).stay (fun c v hc q=>(N.2 c ?_).trans q) (fun _ q=>q) (fun _ _ q=>q) fun _ _ _ q=>q
  rintro rfl;rcases hc with z|z
  ·subst z;rw[L]at e;cases e
  ·rw[L]at z;cases z
 refine I.call' (s':={ s' with heap:=h'' }) J.os u2 hok J.bare fun b hb=>?_
 obtain⟨f0,f1,f2,f3,f4,U⟩:=hf b hb;exact⟨f3,f1,f4,U⟩
end
def PTs(Y:Cx)(ifs:List aV)(t:TT):Prop :=
 ∀(pins:qO) (s:aq) (σ:St) (H:Hp) (Q:Bool->Hp->Prop),Inv Y pins σ H s->t σ H Q ->
  wpAny (model Y.prog Y.w) Y.A (forIn ifs true fun c r=>if r=true then do let ok <- isTrue c Y.env (eval c Y.env);pure (cw ok) else pure (cw r)) (TP Y pins σ Q) Y.xe s
def tYes:TT:=fun _ H Q=>Q true H
theorem zpI{Y:Cx}:PTs Y [] tYes:=fun _ _ _ H _ I h=>wpAny_tests_nil ⟨H,I,h⟩
theorem zpH{Y:Cx}{c:aV}{t:TT}(h:PT Y c t):PTs Y [c] t:=fun pins s σ H Q I q=>wpAny_tests_one (h pins s σ H Q I q)
abbrev NoX:ah->aq->Prop:=fun _ _=>False
theorem zkK{prog:aL}{w:aT}{A:br}{R:nY->aq->Prop}{s:aq}{elt target iter:aV}{ifs:List aV}{scope:fA}{pos:Pos}{it acc:ah}{env:Env}(I:Nat->aq->Prop)
  (turn:∀n s,I n s->wpAny (model prog w) A (pyNext it) (fun r G=>match r with
   | none=>R (.ok .next) G
   | some v=>wpAny (model prog w) A (letOwnedTupleGo target it v) (fun _ S=>wpAny (model prog w) A (assign target env v) (fun _ N =>
     wpAny (model prog w) A (forIn ifs true fun c r=>if r=true then do let ok <- isTrue c env (eval c env);pure (cw ok) else pure (cw r)) (fun ok y =>
      if ok=true then wpAny (model prog w) A (eval elt env) (fun x U=>wpAny (model prog w) A (call (.builtin "list.append") [acc,x]) (fun _ Y=>∃m,m<n/\I m Y) NoX U) NoX y
      else ∃m,m<n/\I m y) NoX N) NoX S) NoX G) NoX s) (n:Nat) (h:I n s) :
  codeAny (model prog w) A (.compLoop (.ListComp elt [⟨target,iter,ifs,0⟩] scope pos) 0 it acc env) R s:=by
 refine nA rfl I (fun n s hI=>?_) n h
 show wpAny _ A ((compTurn (.ListComp elt [⟨target,iter,ifs,0⟩] scope pos) 0 it acc env).onRaise (fun x=>do noteFrame x env;theTreesLotGoes x)) _ _ s
 refine oA (c8 (E:=NoX) ?_ (fun _ _ q=>q) fun _ _ z=>cx z)
 rw[compTurn_list];refine ae (dN (ae (thn (turn n s hI) fun r G Z=>?_)))
 cases r with
 | none=>exact aj Z
 | some v =>
  refine ae (thn Z fun _ S h₂=>ae (thn h₂ fun _ N h₃=>ae (thn h₃ fun ok y J=>?_)))
  cases ok with
  | false=>exact aj ⟨rfl,J⟩
  | true =>
   refine ae (ae (thn J fun x U h₅=>ae (thn h₅ fun _ Y h₆=>?_)))
   exact aj (aj ⟨rfl,h₆⟩)
def Wk:St->St->Prop
 | [],[]=>True
 | none::r,_::r'=>Wk r r'
 | some v::r,o::r'=>o=some v/\Wk r r'
 | _,_=>False
theorem Wk.weak:∀{σ σ':St},Wk σ σ'->σ.length=σ'.length/\∀(i:Nat) v,σ[i]?=some (some v)->σ'[i]?=some (some v)
 | [],[],_=>⟨rfl,fun _ _ h=>by simp at h⟩
 | none::r,o::r',h=>by
  obtain⟨a,b⟩:=Wk.weak (σ:=r) (σ':=r') h;refine⟨by simp[a],fun i v e=>?_⟩
  cases i with
  | zero=>simp at e
  | succ i=>simpa using b i v (by simpa using e)
 | some w::r,o::r',h=>by
  obtain⟨h0,l⟩:o=some w/\Wk r r':=h;obtain⟨a,b⟩:=Wk.weak l;refine⟨by simp[a],fun i v e=>?_⟩
  cases i with
  | zero=>rw[h0];simpa using e
  | succ i=>simpa using b i v (by simpa using e)
 | none::_,[],h=>cx h
 | some _::_,[],h=>cx h
 | [],_::_,h=>cx h
def zrq(own:List Str)(capt:List Nat)(g:TG)(tt:TT)(U:TE)(σ:St)(J:It)(S:Hp)(D:ak)(Q:VK):Prop:=∃W:Nat->Nat->Hp->Prop,(∃m,W 0 m (upd S D (.lst [])))/\∀i m C,W i m C ->
 (J.stop i C/\Q (.ref D) C)\/(J.go i C/\∃(N:V->Hp->Prop) (L:Hp->Prop),(∀v I,N v I->∃ys,I D=some (.lst ys)/\ys.length<sizeLine/\∃y,y<m/\W (i+1) y (upd I D (.lst (ys++[v]))))/\(∀G,L G->∃y,y<m/\W (i+1) y G) /\
  ∀x R,J.yld i C x R->g x (Jx own++capS capt σ) R fun u Y=>Wk (Jx own++capS capt σ) u/\tt u Y fun b G=>if b=true then U u G N else L G)
def tComp(own:List Str)(capt:List Nat)(u:TI)(g:TG)(tt:TT)(v:TE):TE:=fun σ H Q=>u σ H fun J l=>∀D,l D=none->zrq own capt g tt v σ J l D Q
def CompI(Y:Cx)(pins:qO)(σ:St)(u:List ak)(v:Nat->aW->Prop)(W:Nat->Nat->Hp->Prop)(n:Nat)(s':aq):Prop:=∃i l,Inv Y pins σ l s'/\v i s'.heap/\(∀b∈u,l b=none)/\W i n l
theorem zf0{Y:Cx}{tg:aV}{ifs:List aV}{g:TG}{tt:TT}(hxe:Y.xe=NoX)(hc:Y.calm=true)(hg:PG Y tg g)(ht:PTs Y ifs tt){pins:qO}{σ:St}{it:ak}{I:List ak}{tn:Nat->aW->Prop}{J:It}(T:Turn Y.prog Y.w Y.K tg J I it tn)
  (IA:∀{H':Hp},(∀b∈I,H' b=none)->∀b∈I,FpOk Y pins H' b) {W:Nat->Nat->Hp->Prop} {n i:Nat} {s4:aq} {L:Hp} {Dn AC:aq->Prop} (I4:Inv Y pins σ L s4) (st4:tn i s4.heap) (fr4:∀b∈I,L b=none)
  (h:(J.stop i L/\∀s5,Inv Y pins σ L s5->Dn s5)\/(J.go i L/\∃(NT:St->Hp->Prop) (NF:Hp->Prop),(∀{p6 l C U},Inv Y (pins++p6) l C U->NT l C->(∀{s9 H9 y},Inv Y (pins++p6) l H9 s9->y<n->W (i+1) y H9->∃m,m<n/\CompI Y pins σ I tn W m s9)->AC U) /\
   (∀H5,NF H5->∃y,y<n/\W (i+1) y H5)/\∀x H3,J.yld i L x H3->g x σ H3 fun R H5=>Wk σ R/\tt R H5 fun b H6=>if b=true then NT R H6 else NF H6)) :
  wpAny (model Y.prog Y.w) Y.A (pyNext (.ref it)) (fun r G=>match r with
   | none=>Dn G
   | some v=>wpAny (model Y.prog Y.w) Y.A (letOwnedTupleGo tg (.ref it) v) (fun _ s₂=>wpAny (model Y.prog Y.w) Y.A (assign tg Y.env v) (fun _ s₃ =>
     wpAny (model Y.prog Y.w) Y.A (forIn ifs true fun c r=>if r=true then do let ok <- isTrue c Y.env (eval c Y.env);pure (cw ok) else pure (cw r)) (fun ok N =>
      if ok=true then AC N else ∃m,m<n/\CompI Y pins σ I tn W m N) NoX s₃) NoX s₂) NoX G) NoX s4:=by
 rcases h with⟨stop,dn⟩|⟨go,NT,NF,hT,hF,step⟩
 ·refine thn (T.done Y rfl rfl rfl hc i pins s4 _ L NoX I4 (IA fr4) st4 stop) fun r s5 ⟨hr,I5⟩=>?_
  subst hr;exact dn s5 I5
 ·refine thn (T.item Y rfl rfl rfl hc i pins s4 _ L NoX I4 (IA fr4) st4 go) fun r s5 ⟨u,hr,h5⟩=>?_
  subst hr;refine thn h5 fun _ s6 ⟨x,H6,I6,r6,y6,S,fr6⟩=>?_
  have I6':=I6.pinned (IA fr6) (T.obj _ _ S);have a1:=hg _ s6 _ H6 x u _ I6' r6 (step x H6 y6);rw[hxe]at a1;refine thn a1 fun _ s7 ⟨l,H7,I7,wk,q7⟩=>?_
  obtain⟨wl,wv⟩:=wk.weak;have again:∀{U:aq} {C:Hp} {y:Nat},Inv Y (pins++ZH I s6.heap) l C U->y<n->W (i+1) y C->∃m,m<n/\CompI Y pins σ I tn W m U:=fun {U C y} Z hm w8=>by
   refine⟨y,hm,i+1,C,(Z.unpinned).weak wl wv,T.keep _ _ _ S fun b hb o e=>(Z.pin (b,o) (bX _ (bX _ (V6 hb e)))).1,fun b hb=>?_,w8⟩
   obtain⟨o,e,d⟩:=T.obj _ _ S b hb;exact(Z.pin (b,o) (bX _ (bX _ (V6 hb e)))).2.1
  have a2:=ht _ s7 l H7 _ I7 q7;rw[hxe]at a2;refine thn a2 fun ok U ⟨C,Z,q8⟩=>?_
  cases ok with
  | false =>
   obtain⟨y,hm,w8⟩:=hF C (by simpa using q8)
   exact again Z hm w8
  | true=>exact hT Z (by simpa using q8) again
section
variable{X:Cx}{scope:fA}{own:List Str}{capt:List Nat}{elt tg iter:aV}{ifs:List aV}{pos:Pos}{wi:TI}{g:TG}{tt:TT}{te:TE}
theorem zmP(S:JN scope own capt X){pins:qO}{σ:St}{G:Hp}{s2:aq}{u:List ak}{C:ak}(I:Inv X pins σ G s2)(f2:∀b∈u,FpOk X pins G b)(y:∀b∈u,b<s2.heap.objs.size)(U:s2.heap.objs.size<=C){J:Hp}(N:∀b∈u,J b=none):∀b∈u,FpOk (Jg X scope own capt C s2 G u) [] J b:=fun b v=>by
 obtain⟨Z,g1,g2,g3,L,Y⟩:=f2 b v;have sub:=V4 scope.names [] (S.cells I.ok) (fun x c h=>nomatch (show(none:Option ak)=some c from h))
 refine⟨N b v,aJ (aE (y b v) U),fun z=>?_,.inl v,fun x c e=>L x c (sub x c e),fun p R=>absurd (show p∈([]:qO) from R) (by simp)⟩
 rcases ax.mp (I.stkSub b z) with q|q
 ·exact g1 q
 ·exact g2 q
theorem zh5(S:JN scope own capt X){pins:qO}{σ:St}{R:It->Hp->Prop}{Y:ah}{s2:aq}{E:qV}{CA:ah->Env->aq->Prop}(h2:PIE X pins σ tg R Y s2)
  (k:∀(it:ak) (G:List ak) (tn:Nat->aW->Prop) (J:It) (I:Hp) (D C:ak) (v:aW),Y=.ref it->Turn X.prog X.w X.K tg J G it tn->R J I->I D=none->tn 0 v->(∀b∈G,upd I D (.lst []) b=none) ->
   (∀tk,Inv (Jg X scope own capt C s2 I G) [] (Jx own++capS capt σ) (upd I D (.lst [])) { s2 with heap:=v,toks:=tk })->(∀{H':Hp},(∀b∈G,H' b=none)->∀b∈G,FpOk (Jg X scope own capt C s2 I G) [] H' b) ->
   (∀s5 H4,Inv (Jg X scope own capt C s2 I G) [] (Jx own++capS capt σ) H4 s5->(∃m,s5.heap.Ns C m)/\(∀h'',eG C s5.heap h''->Inv X pins σ H4 { s5 with heap:=h'' })/\H4 C=none/\FpOk X pins H4 C) ->
   CA (.ref D) (compEnvC scope (closed X.env scope.names []) C X.env) { s2 with heap:=v }) :
  wpAny (model X.prog X.w) X.A (newList []) (fun acc Z=>wpAny (model X.prog X.w) X.A (newFunctionEnv scope X.env.globals (closed X.env scope.names []) [] X.env.qual none .none (some X.env)) (fun cenv U=>CA acc { cenv with scope:=relabel scope X.env } U) E Z) E s2:=by
 obtain⟨it,G,tn,J,I,e,N,T,st2,f2,rd⟩:=h2;have L:∀b∈G,b<s2.heap.objs.size:=fun b hb=>by
  obtain⟨o,e,_⟩:=T.obj 0 _ st2 b hb;exact aD e
 refine dm (wpAny_newFunctionEnv S.nocell (by intro y hy;simp at hy) (fun v x u=>?_) S.kind)
 dsimp only at x u ⊢;generalize hH3:s2.heap.push { cls:=.type "list",dict:=none,data:=.seq ([]:List ah).toArray }=H3 at x u ⊢;have hC:H3.objs.size=s2.heap.objs.size+1:=by rw[<- hH3,fq]
 have hDC:s2.heap.objs.size≠H3.objs.size:=by rw[hC];exact aJ (Nat.lt_succ_self _)
 have IM:s2.heap.objs.size<=H3.objs.size:=by rw[hC];exact kB _
 have neC:∀b o,s2.heap.get? b=some o->b≠H3.objs.size:=fun b o e=>aJ (aE (aD e) IM)
 have old:∀b o,s2.heap.get? b=some o->v.get? b=some o:=fun b o e=>u.extBut b o (neC b o e) (au _ (hH3▸au _ e))
 have Kh:v.get? s2.heap.objs.size=some { cls:=.type "list",data:=.seq ([]:List ah).toArray 0 }:=u.extBut _ _ hDC (au _ (hH3▸aH _ rfl));refine k it G tn J I s2.heap.objs.size H3.objs.size v e T rd (N.hok.fresh (aC _)) (T.keep _ _ _ st2 fun b hb o e=>old b o e) (fun b hb=>by rw[Jn (aJ (L b hb))];exact(f2 b hb).1)
  (fun tk=>zoK (tk:=tk) S N f2 L (aC _) IM hDC old x Kh) (zmP S N f2 L IM) (fun s5 H4 I5=>?_)
 obtain⟨m,hn,_⟩:=I5.loc;exact⟨⟨m,hn⟩,fun h'' sb=>zoJ N f2 IM I5 sb,I5.free,N.fpOk IM I5.free⟩
theorem zjP(hc:X.calm=true)(S:JN scope own capt X)
  (hg:∀C s₀ H₀ R,PG (Jg X scope own capt C s₀ H₀ R) tg g) (ht:∀C s₀ H₀ R,PTs (Jg X scope own capt C s₀ H₀ R) ifs tt) (he:∀C s₀ H₀ R,PE (Jg X scope own capt C s₀ H₀ R) elt te)
  {pins:qO} {σ:St} {Q:VK} {U:ah} {s2:aq} {E:qV} {RR:ah->ak->nY->aq->Prop}
  (h2:PIE X pins σ tg (fun J H1=>∀D,H1 D=none->zrq own capt g tt te σ J H1 D Q) U s2)
  (hR:∀D C s' Z,(∃m,s'.heap.Ns C m)->(∀h'',eG C s'.heap h''->Inv X pins σ Z { s' with heap:=h'' })->Z C=none->FpOk X pins Z C->Q (.ref D) Z->RR (.ref D) C (.ok .next) s') :
  wpAny (model X.prog X.w) X.A (newList []) (fun G s₃=>wpAny (model X.prog X.w) X.A (newFunctionEnv scope X.env.globals (closed X.env scope.names []) [] X.env.qual none .none (some X.env)) (fun u I =>
   codeAny (model X.prog X.w) X.A (.compStart (.ListComp elt [⟨tg,iter,ifs,0⟩] scope pos) 0 U G { u with scope:=relabel scope X.env }) (RR G u.locals) I) E s₃) E s2:=by
 refine zh5 (CA:=fun G u I=>codeAny (model X.prog X.w) X.A (.compStart (.ListComp elt [⟨tg,iter,ifs,0⟩] scope pos) 0 U G u) (RR G u.locals) I) S h2 fun it R tn J H2 D C h₁ e T rd hnD st1 fr0 J0 IA out=>?_
 subst e;obtain⟨W,⟨m0,w0⟩,turn⟩:=rd _ hnD;have loop:∀tk:Tok,codeAny (model X.prog X.w) X.A (.compLoop (.ListComp elt [⟨tg,iter,ifs,0⟩] scope pos) 0 (.ref it) (.ref D) (compEnvC scope (closed X.env scope.names []) C X.env)) (RR (.ref D) C) { s2 with heap:=h₁,toks:=tk }:=fun tk=>by
  refine zkK (CompI (Jg X scope own capt C s2 H2 R) [] (Jx own++capS capt σ) R tn W) ?_ m0 ⟨0,_,J0 tk,st1,fr0,w0⟩;rintro n s4 ⟨i,H4,I4,st4,fr4,w4⟩;refine zf0 (Y:=Jg X scope own capt C s2 H2 R) rfl hc (hg _ _ _ _) (ht _ _ _ _) T IA I4 st4 fr4 ?_;rcases turn i n H4 w4 with⟨stop,qn⟩|⟨go,N,N',hN,hN',step⟩
  ·exact .inl ⟨stop,fun s5 I5=>let ⟨o1,o2,o3,o4⟩:=out s5 H4 I5;hR _ _ s5 H4 o1 o2 o3 o4 qn⟩
  ·refine .inr ⟨go,fun σ4 H5=>te σ4 H5 N,N',fun {p6 σ7 H8 s8} I8 q8 again=>?_,hN',step⟩
   refine thn (he _ _ _ _ _ s8 σ7 H8 N I8 q8) fun y s9 ⟨v,H9,I9,r9,q9⟩=>?_
   obtain⟨ys,hD,hl,m',hm,w9⟩:=hN v H9 q9;refine thn (zeC (X:=Jg X scope own capt C s2 H2 R) _ s9 σ7 H9 (.ref D) [v] _ [y] (fun _ Z=>Z=upd H9 D (.lst (ys++[v]))) I9 rfl (.cons r9 .nil) ⟨_,ys,v,rfl,rfl,hD,hl,rfl⟩) fun _ s10 ⟨_,H10,I10,_,q10⟩=>?_
   subst q10;exact again I10 hm w9
 exact lx (loop _) (T.self X.A 0 _ _ _ st1 (loop _))
theorem znR(hc:X.calm=true)(S:JN scope own capt X)(hi:PI X tg iter wi)
  (N:∀C s₀ H₀ l,PG (Jg X scope own capt C s₀ H₀ l) tg g) (R:∀C s₀ H₀ l,PTs (Jg X scope own capt C s₀ H₀ l) ifs tt) (G:∀C s₀ H₀ l,PE (Jg X scope own capt C s₀ H₀ l) elt te)
  (hs:∀x,foldedSetIterable iter X.env x=pure x:=by intro _;rfl):PE X (.ListComp elt [⟨tg,iter,ifs,0⟩] scope pos) (tComp own capt wi g tt te):=by
 intro pins s σ H Q I h;rw[eval_ListComp];refine gG (use:=none) rfl hs (zbn (S.cells I.ok)) S.kind S.names (thn (hi pins s σ H _ I h) fun v s1 h1=>thn h1 fun Y s2 Z=>?_)
 refine zjP (RR:=fun y C=>compPost (model X.prog X.w) X.A X.xe none (EP X pins σ Q) y C) hc S N R G Z fun D C s' H' u J _ _ q=>?_
 obtain⟨m,u⟩:=u;exact⟨m,u,fun h'' U=>⟨.ref D,H',J h'' U,rfl,q⟩⟩
theorem zlk(hc:X.calm=true)(S:JN scope own capt X)(hi:PI X tg iter wi)
  (hg:∀C s₀ H₀ y,PG (Jg X scope own capt C s₀ H₀ y) tg g) (ht:∀C s₀ H₀ y,PTs (Jg X scope own capt C s₀ H₀ y) ifs tt) (he:∀C s₀ H₀ y,PE (Jg X scope own capt C s₀ H₀ y) elt te)
  {i:Nat} {x:Str} {u IL:Pos} (hN:X.N.Nodup) (hxi:X.N[i]?=some x) (hx:Loc X.env.scope x)
  (hs:∀x,foldedSetIterable iter X.env x=pure x:=by intro _;rfl) (hsw:swapsWith (.ListComp elt [⟨tg,iter,ifs,0⟩] scope pos) (some (.Name x u)) IL.line X.env=pure true:=by rfl)
  (hf:X.fn x=true\/X.env.scope.names.lookup x=some .local:=by walk_at "F") :
  PS X (.Assign [.Name x u] (.ListComp elt [⟨tg,iter,ifs,0⟩] scope pos) IL) (tAsg (tComp own capt wi g tt te) (Zk i)):=by
 intro pins s σ H D I h;rw[exec_Assign_Name_used _ _ _ _ hsw];refine ae (dN (ae ?_));show wpAny _ X.A (do let _ <- comprehension (.ListComp elt [⟨tg,iter,ifs,0⟩] scope pos) scope X.env _ (newList []) false (eval iter X.env) (some (assign (.Name x u) X.env))) _ _ s
 refine ae (c8 (gG (use:=some (assign (.Name x u) X.env)) (Q:=fun _ s'=>SP X pins D .next s') rfl hs (zbn (S.cells I.ok)) S.kind S.names (thn (hi pins s σ H _ I h) fun v s1 h1=>thn h1 fun itv s2 h2=>?_)) (fun _ s' hq=>aj (aj hq)) fun _ _ e=>e)
 refine zjP (RR:=fun acc C=>compPost (model X.prog X.w) X.A X.xe (some (assign (.Name x u) X.env)) (fun _ s'=>SP X pins D .next s') acc C) hc S hg ht he h2 fun D' C s' H' Z J hCn y q=>?_
 obtain⟨m,Z⟩:=Z;obtain⟨f0,f1,f2,f3,f4,f5⟩:=y;have Is:Inv X pins σ H' s':=J s'.heap (xF _ _);refine m5 (zgY Is hN hxi hx (show RelV (.ref D') (.ref D') from rfl) (fun G U Y=>?_) hf)
 obtain⟨a,Y,ha⟩:=Y;have neA:C≠a:=by
  rcases ha with rfl|ha
  ·exact f1
  ·exact fun z=>f4 x a ha z.symm
 have hn':G.heap.Ns C m:=Z.sameBut Y neA;exact⟨m,hn',fun h' R=>⟨_,H',U.turned (t':=G.toks) (fun b o hb e=>(R.2 b hb).trans e) f0 f1 f3 f4 f5,q⟩⟩
end
theorem zmR{J:It}{n:Nat}{own:List Str}{capt:List Nat}{g:TG}{tt:TT}{R:TE}{σ:St}{L:Hp}{D:ak}{Q:VK}(C:Nat->List V->Hp->Prop)(h0:C 0 [] (upd L D (.lst [])))
  (turn:∀i ys u,i<n->u D=some (.lst ys)->C i ys u->J.go i u/\∀x S,J.yld i u x S->g x (Jx own++capS capt σ) S fun y U=>Wk (Jx own++capS capt σ) y/\tt y U fun b G =>
   if b=true then R y G (fun v I=>∃zs,I D=some (.lst zs)/\zs.length<sizeLine/\C (i+1) (zs++[v]) (upd I D (.lst (zs++[v])))) else ∃zs,G D=some (.lst zs)/\C (i+1) zs G)
  (stop:∀ys u,u D=some (.lst ys)->C n ys u->J.stop n u/\Q (.ref D) u) :
  zrq own capt g tt R σ J L D Q:=by
 refine⟨fun i m H=>m=n - i/\i<=n/\∃ys,H D=some (.lst ys)/\C i ys H,⟨n,rfl,dR _,[],JM,h0⟩,?_⟩
 rintro i m u ⟨rfl,hi,ys,N,p⟩
 by_cases hlt:i<n
 ·obtain⟨go,st⟩:=turn i ys u hlt N p;refine .inr ⟨go,_,_,?_,?_,st⟩
  ·rintro v I ⟨zs,e,l,q⟩;exact⟨zs,e,l,n - (i+1),by omega,rfl,hlt,_,JM,q⟩
  ·rintro G ⟨zs,e,q⟩;exact⟨n - (i+1),by omega,rfl,hlt,zs,e,q⟩
 ·have e:i=n:=by omega
  subst e;exact .inl (stop ys u N p)
def VO(scope outer:fA)(N:List Str)(capt:List Nat):Bool :=
 scope.kind == .function&&scope.names.all (fun y=>!(y.2 == .cell))&&scope.names.all (fun y=>!(y.2 == .local)||scope.names.lookup y.1 == some .local) &&
 scope.names.all (fun y=>!(y.2 == .free)||(outer.names.lookup y.1 == some .cell||outer.names.lookup y.1 == some .free))&&capt.all (fun k=>scope.names.lookup (N.getD k iR) == some .free)
theorem JN.of{X:Cx}{scope:fA}{own:List Str}{capt:List Nat}(h:VO scope X.env.scope X.N capt=true):JN scope own capt X:=by
 unfold VO at h;simp only[aK]at h;obtain⟨⟨⟨⟨L,v⟩,G⟩,x⟩,C⟩:=h;rw[bG]at v G x C;refine⟨by simpa using L,fun y u=>?_,fun y u J=>?_,fun y u hf=>?_,fun k I=>?_⟩
 ·simpa using v y u
 ·have:=G y u;rw[J]at this;simpa using this
 ·have:=x y u;rw[hf]at this;show X.env.scope.names.lookup y.1=some .cell\/X.env.scope.names.lookup y.1=some .free
  simpa using this
 ·simpa using C k I
section
variable{X:Cx}
theorem zsL:OpR X (compareOp .Is) (fun x y H Q=>∃a b,x=.bl a/\y=.bl b/\Q (.bl (a == b)) H):=by
 intro pins s σ H x y v u Q I C G h;obtain⟨a,b,rfl,rfl,q⟩:=h;cases C;cases G;exact is_bool ⟨.bl (a == b),H,I,rfl,q⟩
theorem zlE:OpR X (compareOp .IsNot) (fun x y H Q=>∃a b,x=.bl a/\y=.bl b/\Q (.bl (a != b)) H):=by
 intro pins s σ H x y v u Q I C G h;obtain⟨a,b,rfl,rfl,q⟩:=h;cases C;cases G;exact isnot_bool ⟨.bl (a != b),H,I,rfl,q⟩
def kitB(t T:String):Option Bool:=if (bL t == bL T)=true then some true else if PySem.W.kitMeta T=true then(fastBuiltinMro t).map (·.contains (.type T)) else none
theorem YJ(K:qF)(t T:String):o9 K (.type t) (.type T)=kitB t T:=rfl
inductive Ty (H:Hp):V->String->Prop where
 | non:Ty H .non "NoneType"
 | bl (x:Bool):Ty H (.bl x) "bool"
 | int (i:Int):Ty H (.int i) "int"
 | str (x:Str):Ty H (.str x) "str"
 | lst {a:ak} {xs:List V} (e:H a=some (.lst xs)):Ty H (.ref a) "list"
 | tup {a:ak} {xs:List V} (e:H a=some (.tup xs)):Ty H (.ref a) "tuple"
 | dK {a:ak} {kvs:List (Key×V)} (e:H a=some (.dK kvs)):Ty H (.ref a) "dict"
theorem Ty.of{K:qF}{H:Hp}{v:V}{t:String}(h:Ty H v t):TyOf K H v (.type t):=by
 cases h with
 | non=>exact .non
 | bl x=>exact .bl x
 | int i=>exact .int i
 | str x=>exact .str x
 | lst e=>exact .lst e
 | tup e=>exact .tup e
 | dK e=>exact .dK e
theorem VU:bootBuiltins "isinstance" = some (.builtin "isinstance"):=by decide +kernel
theorem boot_int:bootBuiltins "int" = some (.type "int"):=by decide +kernel
theorem zkP:bootBuiltins "bool" = some (.type "bool"):=by decide +kernel
theorem Ub:bootBuiltins "tuple" = some (.type "tuple"):=by decide +kernel
theorem zig:bootBuiltins "str" = some (.type "str"):=by decide +kernel
theorem ze8:bootBuiltins "all" = some (.builtin "all"):=by decide +kernel
theorem zfY:bootBuiltins "repr" = some (.builtin "repr"):=by decide +kernel
theorem ze6:bootBuiltins "min" = some (.builtin "min"):=by decide +kernel
theorem ze7:bootBuiltins "max" = some (.builtin "max"):=by decide +kernel
theorem QR:bootBuiltins "len" = some (.builtin "len"):=by decide +kernel
theorem zih:∀{bs:List Bool}{u:List ah},Vals (bs.map V.bl) u->LSm.BoolsAre u bs
 | [],_,h=>by cases h;exact .nil
 | b::bs,_,h=>by
  cases h with
  | cons r t =>
   cases(show _=eM b from r)
   exact .cons b (zih t)
theorem ze1(hc:X.calm=true):JX X (.builtin "all") (fun xs H Q=>∃(a:ak) (bs:List Bool),xs=[.ref a]/\SqL X.K H a (bs.map V.bl)/\Q (.bl (bs.all id)) H):=by
 intro pins s σ H xs Z Q I r h;obtain⟨a,bs,rfl,S,q⟩:=h;cases r with
 | cons U Y =>
  cases Y;cases(show _=cA a from U)
  obtain⟨x,N,p,hz⟩:=I.list S;have J:=zih N;have y:s.heap.IsList a x.toArray:=p.isList;have C:a<s.heap.objs.size:=by obtain⟨_,e,_⟩:=y;exact aD e
  refine call_all_walk (gW y ?_);refine⟨s.heap.objs.size,[s.heap.objs.size,a],[s.heap.objs.size],x.toArray.size,_,_,fun i=>(bs[i]?).getD true,rfl,Walks.list (A:=X.A.in1) (I.ok.hd hc) _ a (aJ C) x.toArray,
   ⟨⟨_,aH _ rfl,rfl,rfl⟩,y.push _⟩,fun i v s' Q' E' R G=>?_,fun h' tk L=>?_⟩
  ·obtain⟨b,e,rfl⟩:=J.get i v (by simpa using R)
   simp only[e,fo]at G;exact bV G
  ·have e:((fD x.toArray.size).all fun i=>(bs[i]?).getD true)=bs.all id:=by
    rw[aF,J.length];exact LSm.range_all bs
   rw[e];exact⟨.bl _,H,I.kept (LSm.kept_iter L),rfl,q⟩
mutual
inductive UP (H:Hp):V->af->Prop
 | non:UP H .non .none
 | bl (b:Bool):UP H (.bl b) (.bool b)
 | int (i:Int):UP H (.int i) (.int i)
 | str (x:Str):UP H (.str x) (.str x)
 | lst {a:ak} {xs:List V} {ds:qD}:H a=some (.lst xs)->Va H xs ds->UP H (.ref a) (.list ds)
 | tup {a:ak} {xs:List V} {ds:qD}:H a=some (.tup xs)->Va H xs ds->UP H (.ref a) (.tuple ds)
inductive Va (H:Hp):List V->List af->Prop
 | nil:Va H [] []
 | cons {v:V} {vs:List V} {d:af} {ds:qD}:UP H v d->Va H vs ds->Va H (v::vs) (d::ds)
end
theorem Inv.bigM{pins:qO}{σ:St}{H:Hp}{s:aq}(I:Inv X pins σ H s):sysModules<s.heap.objs.size :=
 Nat.lt_trans (by decide) (I.mod.glob.keeps I.bk).lt
def Zi(i j:Int):Prop:=0<j/\j<2 ^ 128
theorem V1:OpR X (binaryOp .FloorDiv) (rI Zi fun i j=>.int (i / j)):=opI fun i j _ _ _ _ _ hc q=>by
 have y:(0:Int)<j:=hc.1;have C:j<2 ^ 128:=hc.2;refine floordiv_int (by omega) (by rw[iW i (by omega)];exact q) (.inl (PyProof.noPylong_of_log2 ?_))
 have u:j.natAbs<2 ^ 128:=by omega
 have x:j.natAbs.log2<128:=(u4 (by omega)).mpr u
 omega
end
def Pl(X:Cx)(l:List aV):Prop:=∀pos,(backTo pos (starEach l X.env)).any (·.1)=false
def Hd(X:Cx):List aV->Prop
 | []=>True
 | e::r=>starEach (e::r) X.env=(false,eval e X.env)::starEach r X.env/\Pl X r
structure PB(X:Cx)(es:List aV)(t:TA):Prop where
 pa:PA X es t
 pl:Pl X es
 hd:Hd X es
section
variable{X:Cx}{es:List aV}{t:TA}{te:TE}
theorem QF:PB X [] tNil:=⟨UX,fun _=>rfl,trivial⟩
theorem Qf(h:PE X e te)(l:PB X es t)(u:starEach (e::es) X.env=(false,eval e X.env)::starEach es X.env):PB X (e::es) (QK te t) :=
 ⟨Um h l.pa u,fun pos=>by
  rw[u];have:(backTo pos ((false,eval e X.env)::starEach es X.env)).any (·.1)=(false||(backTo pos (starEach es X.env)).any (·.1)):=rfl
  rw[this,l.pl pos];rfl,u,l.pl⟩
theorem pb_i{j pos}(l:PB X es t):PB X (.Constant (.int i) j pos::es) (QK (tC (.int i)) t):=Qf JD l rfl
theorem pb_v(i:Nat){x:Str}{pos:Pos}(y:PB X es t)(u:X.N[i]?=some x:=by rfl)(v:Vis X.env.scope x:=by walk_at "V")(hd:(x == ("__debug__":Str))=false:=by rfl)
  (l:(x == ("__classdict__":Str))=false:=by rfl):PB X (.Name x pos::es) (QK (tVar i) t):=Qf (QX u v hd l) y rfl
theorem ziz(h:PE X (.Name x pos) te)(l:PB X es t):PB X (.Name x pos::es) (QK te t):=Qf h l rfl
theorem zo6{a b c d}(h:PE X (.BinOp a b c d) te)(l:PB X es t):PB X (.BinOp a b c d::es) (QK te t):=Qf h l rfl
theorem zsB{a b c d}(h:PE X (.Compare a b c d) te)(l:PB X es t):PB X (.Compare a b c d::es) (QK te t):=Qf h l rfl
variable{e:aV}{x:Str}{p pos:Pos}
theorem zpQ{x1}(h:PB X es t):PE X (.Tuple es x1 pos) (tTup t):=zo5 h.pa
theorem zlv(h:PB X es t):PE X (.List es pos) (tLst t):=zsx h.pa
theorem Uw{id:String}{r:List V->Hp->VK->Prop}(hc:JX X (.builtin id) r)(J:X.mg x=none)(G:bootBuiltins x=some (.builtin id))(h:PB X (e::es) t)(y:Gl X x:=by rfl)(I:x ≠ "__name__":=by decide) (v:(x == ("__debug__":Str))=false:=by rfl) :
  PE X (.Call (.Name x p) (e::es) [] pos) (tCB r t):=znV hc y J G h.pa I v h.hd.1 (h.hd.2 pos)
theorem zsy(hc:JX X (.type T) r)(J:X.mg x=none)(G:bootBuiltins x=some (.type T))(h:PB X (e::es) t)(v:Gl X x:=by rfl)(I:x ≠ "__name__":=by decide) (u:(x == ("__debug__":Str))=false:=by rfl) :
  PE X (.Call (.Name x p) (e::es) [] pos) (tCB r t):=zly hc v J G h.pa I u h.hd.1 (h.hd.2 pos)
end
end L2
namespace Bd
open PySem L2
structure Def(K:qF)(mg:qM)(x:Str)(st:dH)(ps:List Str)(f:ak)(fd:cR):Prop where
 F:Fun K x x st f fd
 b:Binds K fd ps []
 m:mg x=some (.ref f)
section
variable{X:Cx}{k:Nat}{f:ak}{fd:cR}{ps:List Str}{sp:Sp}{x:Str}{p pos:Pos}{e:aV}{es:List aV}{t:TA}{st:dH}
theorem zpT(D:Def X.K X.mg x st ps f fd)(G:FnOk X.prog X.w X.K X.mg X.base CX0 k f fd ps sp)(y:Room k X.A)(h:PB X (e::es) t)(v:Gl X x:=by rfl)
  (u:(x == ("__debug__":Str))=false:=by rfl):PE X (.Call (.Name x p) (e::es) [] pos) (zrI sp [] E0 t):=zpV G y v D.m D.F.kp D.b .nil zwb h.pa u h.hd.1 (h.hd.2 pos)
theorem zsr(C:X.mg x=none)(u:bootBuiltins x=some (.type T))(l:Gl X x:=by rfl)(v:x ≠ "__name__":=by decide) (hd:(x == ("__debug__":Str))=false:=by rfl):PE X (.Name x p) (tC (.ty T)) :=
 zpX l C u rfl v hd
end
theorem iteP{c A B:Prop}[Decidable c](hc:c)(h:A):if decide c=true then A else B:=by
 rw[decide_eq_true hc];exact iteT h
theorem iteN{c A B:Prop}[Decidable c](hc:¬c)(h:B):if decide c=true then A else B:=by
 rw[decide_eq_false hc];exact iteF h
theorem ztD{c A B:Prop}[Decidable c](l:c->A)(u:¬c->B):if decide c=true then A else B:=by
 by_cases h:c
 ·exact iteP h (l h)
 ·exact iteN h (u h)
theorem ze9{α:Type}{xs:List α}{k:Int}{v:α}(h0:0<=k)(h:xs[k.toNat]?=some v):atI xs k=some v:=by
 obtain⟨n,rfl⟩:=kP h0;exact zrm h
theorem QH(k:Nat):(0:Int)<2 ^ k:=by
 have:(0:Nat)<2 ^ k:=Nat.two_pow_pos k;have e:((2 ^ k:Nat):Int)=(2:Int) ^ k:=by simp
 omega
theorem zlo(h:k<=64):(2:Int) ^ k<2 ^ 128:=by
 have:(2:Nat) ^ k<2 ^ 128:=Nat.pow_lt_pow_right (by decide) (by omega)
 have e:((2 ^ k:Nat):Int)=(2:Int) ^ k:=by simp
 omega
theorem zdY(h:k<=64):(2:Int) ^ k<=2 ^ 64:=by
 have:(2:Nat) ^ k<=2 ^ 64:=Nat.pow_le_pow_right (by decide) (by omega)
 have e:((2 ^ k:Nat):Int)=(2:Int) ^ k:=by simp
 omega
theorem znx(h:H p=none):Same H (upd H p o):=fun b u e=>by
 rw[Jn (Qx e h)];exact e
end Bd
namespace L2
open PySem PySem.Spec PyProof.Rows
theorem zrn(k h:Nat):(k*2 ^ h) &&& (2 ^ h)=(k % 2)*2 ^ h:=by
 have u:k*2 ^ h=k <<< h:=(kQ k h).symm;have v:(2:Nat) ^ h=1 <<< h:=by rw[kQ,u9]
 have l:(k &&& 1) <<< h=k <<< h &&& 1 <<< h:=Nat.shiftLeft_and_distrib;rw[u]
 conv=>lhs;rw[v]
 rw[<- l,Nat.and_one_is_mod,kQ]
theorem znq(h:Nat)(k0:0<=k):cL (k*2 ^ h) (2 ^ h)=if k % 2=0 then k*2 ^ h+2 ^ h else k*2 ^ h - 2 ^ h:=by
 obtain⟨n,rfl⟩:=kP k0;have l:((2 ^ h:Nat):Int)=(2:Int) ^ h:=by simp
 have u:((n:Int)*2 ^ h)=((n*2 ^ h:Nat):Int):=by rw[Int.natCast_mul,l]
 rw[bitXor_and,u,<- l,bitAnd_pp (iV _) (iV _)];have v:((n*2 ^ h:Nat):Int).toNat &&& ((2 ^ h:Nat):Int).toNat=(n % 2)*2 ^ h:=by
  rw[fX,fX];exact zrn n h
 rw[v];rcases Nat.mod_two_eq_zero_or_one n with z|z
 ·have:((n:Int)) % 2=0:=by lia
  rw[if_pos this,z];simp
 ·have:¬((n:Int)) % 2=0:=by lia
  rw[if_neg this,z,u9];lia
def HAND:af:=.dict [(.none,.none)]
def SCR(ns:List Int):af:=.dict [(.none,.list (ns.map .int))]
def Vu(H:Hp)(hd:ak)(n:Int):Prop:=∃d m t:Int,H hd=some (.lst [.int d,.int m,.int t])/\0<=m/\m<2 ^ 62/\0<=t/\t<=n
def StT(K:qF)(a:ak)(xs:List V):Prop :=
 ∃(o:Obj) (l:Array ah) (n:Nat),K.lookup a=some o/\o.cls=.type "tuple" /\ o.data=.seq l n/\l.size<=sizeLine/\Vals xs l.toList/\o.dict=none
theorem StT.sq{K:qF}{H:Hp}{a:ak}{xs:List V}(h:StT K a xs):SqT K H a xs:=by
 obtain⟨o,l,n,C,u,y,v,x,_⟩:=h;exact .inr ⟨o,l,n,C,u,y,v,x⟩
def hsT(k:Int×Int):Int:=reduceHash (rq [hashInt k.1,hashInt k.2])
def entZ(z:(Int×Int)×ak×V)(e:dI):Prop:=e.hash=hsT z.1/\e.key=.ref z.2.1/\RelV z.2.2 e.val
abbrev ZT:=List ((Int×Int)×ak×V)
def ZDO(a:ak)(zs:ZT)(v:Nat):HO:=.ext fun h=>(a == sysModules)=false/\zs.length<=sizeLine/\(zs.map (·.1)).Nodup/\∃o l,h.get? a=some o/\o.ExactDict/\o.data=.dict l v/\eN entZ zs l.toList
abbrev KT2:=List ((Int×Int)×af)
def entI(z:Int×V)(e:dI):Prop:=e.hash=hashInt z.1/\(∃t,e.key=.int z.1 t)/\RelV z.2 e.val
def KDO(a:ak)(zs:List (Int×V))(v:Nat):HO:=.ext fun h=>(a == sysModules)=false/\zs.length<=sizeLine/\(zs.map (·.1)).Nodup/\∃o l,h.get? a=some o/\o.ExactDict/\o.data=.dict l v/\eN entI zs l.toList
def blkT(k:Int×Int):af:=.tuple [.int k.1,.int k.2]
def zq0(l:List (Int×af)):List (af×af):=l.map fun q=>(.int q.1,q.2)
def Ys(l:KT2):List (af×af):=l.map fun q=>(blkT q.1,q.2)
def EXC(C:ak):af:=.dict [(.none,.int (C:Int))]
def EXO(a C:ak):HO:=.ext fun h=>∃o,h.get? a=some o/\o.cls=.ref C/\∃u,o.data=.fields u
mutual
inductive Rep (K:qF)(hd:Option ak)(O:ak->Prop)(H:Hp):V->af->Prop
 | non:Rep K hd O H .non .none
 | bl (b:Bool):Rep K hd O H (.bl b) (.bool b)
 | int (i:Int):Rep K hd O H (.int i) (.int i)
 | str (x:Str):Rep K hd O H (.str x) (.str x)
 | tup {a vs ds} (h:H a=some (.tup vs)) (o:¬O a) (r:Reps K hd O H vs ds):Rep K hd O H (.ref a) (.tuple ds)
 | tupS {a vs ds} (h:StT K a vs) (r:Reps K hd O H vs ds):Rep K hd O H (.ref a) (.tuple ds)
 | lst {a vs ds} (h:H a=some (.lst vs)) (o:¬O a) (r:Reps K hd O H vs ds):Rep K hd O H (.ref a) (.list ds)
 | dct {a ep} (h:H a=some (KDO a [] ep)) (o:¬O a):Rep K hd O H (.ref a) (.dict [])
 | dcK {a kvs ep ks ps} (h:H a=some (KDO a kvs ep)) (o:¬O a) (r:Zn K hd O H kvs ks) (e:ps=zq0 ks):Rep K hd O H (.ref a) (.dict ps)
 | dcT {a zs ep ks ps} (h:H a=some (ZDO a zs ep)) (o:¬O a) (r:Qg K hd O H zs ks) (e:ps=Ys ks):Rep K hd O H (.ref a) (.dict ps)
 | hand {a} (h:hd=some a):Rep K hd O H (.ref a) HAND
 | scr {a ns} (h:Rd H a (.lst (ns.map V.int))) (o:¬O a):Rep K hd O H (.ref a) (SCR ns)
 | scrS {a} {ns:List Int} (h:∀H':Hp,SqL K H' a (ns.map V.int)):Rep K hd O H (.ref a) (SCR ns)
 | exc {a C} (h:H a=some (EXO a C)) (o:¬O a):Rep K hd O H (.ref a) (EXC C)
inductive Reps (K:qF)(hd:Option ak)(O:ak->Prop)(H:Hp):List V->List af->Prop
 | nil:Reps K hd O H [] []
 | cons {v d vs ds} (h:Rep K hd O H v d) (r:Reps K hd O H vs ds):Reps K hd O H (v::vs) (d::ds)
inductive Zn (K:qF)(hd:Option ak)(O:ak->Prop)(H:Hp):List (Int×V)->List (Int×af)->Prop
 | nil:Zn K hd O H [] []
 | cons {k v d kvs ks} (h:Rep K hd O H v d) (r:Zn K hd O H kvs ks):Zn K hd O H ((k,v)::kvs) ((k,d)::ks)
inductive Qg (K:qF)(hd:Option ak)(O:ak->Prop)(H:Hp):ZT->KT2->Prop
 | nil:Qg K hd O H [] []
 | cons {k q v d zs ks} (h:Rep K hd O H (.ref q) (.tuple [.int k.1,.int k.2])) (h2:Rep K hd O H v d) (r:Qg K hd O H zs ks):Qg K hd O H ((k,q,v)::zs) ((k,d)::ks)
end
section
variable{K:qF}{hd:Option ak}{O O':ak->Prop}{H H':Hp}
theorem Rep.mono(y:∀a o,H a=some o->O' a->O a)(C:∀a o,¬O a->H a=some o->H' a=some o)(q:Rep K hd O H v d):Rep K hd O' H' v d :=
 Rep.rec (motive_1:=fun v d _=>Rep K hd O' H' v d) (motive_2:=fun v d _=>Reps K hd O' H' v d) (motive_3:=fun v d _=>Zn K hd O' H' v d) (motive_4:=fun v d _=>Qg K hd O' H' v d)
  .non .bl .int .str (fun h o _ r=>.tup (C _ _ o h) (fun z=>o (y _ _ h z)) r) (fun h _ r=>.tupS h r) (fun h o _ r=>.lst (C _ _ o h) (fun z=>o (y _ _ h z)) r) (fun h o=>.dct (C _ _ o h) (fun z=>o (y _ _ h z))) (fun h o _ e r=>.dcK (C _ _ o h) (fun z=>o (y _ _ h z)) r e) (fun h o _ e r=>.dcT (C _ _ o h) (fun z=>o (y _ _ h z)) r e) .hand
  (fun h o=>h.elim (fun h=>.scr (.inl (C _ _ o h)) fun z=>o (y _ _ h z)) fun h=>h.elim fun u h=>.scr (.inr ⟨u,C _ _ o h⟩) fun z=>o (y _ _ h z)) .scrS (fun h o=>.exc (C _ _ o h) (fun z=>o (y _ _ h z)))
  .nil (fun _ _ h r=>.cons h r) .nil (fun _ _ h r=>.cons h r) .nil (fun _ _ _ h k r=>.cons h k r) q
theorem Reps.ind{P:List V->List af->Prop}(n:P [] [])(c:∀{v d vs ds},Rep K hd O H v d->Reps K hd O H vs ds->P vs ds->P (v::vs) (d::ds))(q:Reps K hd O H vs ds):P vs ds:=by
 refine Reps.rec (motive_1:=fun _ _ _=>True) (motive_2:=fun v d _=>P v d) (motive_3:=fun _ _ _=>True) (motive_4:=fun _ _ _=>True) ?_ ?_ ?_ ?_ ?_ ?_ ?_ ?_ ?_ ?_ ?_ ?_ ?_ ?_ n (fun h r _ i=>c h r i) ?_ ?_ ?_ ?_ q <;> intros <;> trivial
theorem Qg.ind{P:ZT->KT2->Prop}(n:P [] [])(c:∀{k q v d vs ds},Rep K hd O H (.ref q) (.tuple [.int k.1,.int k.2])->Rep K hd O H v d->Qg K hd O H vs ds->P vs ds->P ((k,q,v)::vs) ((k,d)::ds))(q:Qg K hd O H vs ds):P vs ds:=by
 refine Qg.rec (motive_1:=fun _ _ _=>True) (motive_4:=fun v d _=>P v d) (motive_2:=fun _ _ _=>True) (motive_3:=fun _ _ _=>True) ?_ ?_ ?_ ?_ ?_ ?_ ?_ ?_ ?_ ?_ ?_ ?_ ?_ ?_ ?_ ?_ ?_ ?_ n (fun h k r _ _ i=>c h k r i) q <;> intros <;> trivial
theorem Reps.mono(u:∀a o,H a=some o->O' a->O a)(v:∀a o,¬O a->H a=some o->H' a=some o)(q:Reps K hd O H vs ds):Reps K hd O' H' vs ds:=q.ind .nil fun h _ r=>.cons (h.mono u v) r
theorem Qg.mono(u:∀a o,H a=some o->O' a->O a)(v:∀a o,¬O a->H a=some o->H' a=some o)(q:Qg K hd O H vs ds):Qg K hd O' H' vs ds:=q.ind .nil fun h k _ r=>.cons (h.mono u v) (k.mono u v) r
theorem dict_noK(e:(lV,v)::r=zq0 l):False:=by
 cases l with
 | nil=>cases e
 | cons q l=>cases e
theorem dict_noT(e:(lV,v)::r=Ys l):False:=by
 cases l with
 | nil=>cases e
 | cons q l=>cases e
theorem Reps.length(q:Reps K hd O H vs ds):vs.length=ds.length:=q.ind (P:=fun a b=>a.length=b.length) rfl fun _ _ e=>congrArg (·+1) e
theorem Reps.get{i:Nat}(q:Reps K hd O H l ds):ds[i]?=some d->∃v,l[i]?=some v/\Rep K hd O H v d :=
 q.ind (P:=fun l ds=>∀(i:Nat),ds[i]?=some d->∃v,l[i]?=some v/\Rep K hd O H v d) (fun _ e=>nomatch e) (fun {v _ _ _} h _ r i=>i.casesOn (fun e=>⟨v,rfl,aO e▸h⟩) fun i e=>r i e) i
theorem Reps.append(q:Reps K hd O H vs ds)(s:Reps K hd O H ws es):Reps K hd O H (vs++ws) (ds++es):=q.ind (P:=fun a b=>Reps K hd O H (a++ws) (b++es)) s fun h _ r=>.cons h r
theorem Reps.take(n:Nat)(q:Reps K hd O H u ds):Reps K hd O H (u.take n) (ds.take n) :=
 q.ind (P:=fun u ds=>∀n:Nat,Reps K hd O H (u.take n) (ds.take n)) (fun n=>by rw[sr,sr];exact .nil) (fun h _ r n=>n.casesOn .nil fun n=>.cons h (r n)) n
theorem Reps.drop(n:Nat)(q:Reps K hd O H u ds):Reps K hd O H (u.drop n) (ds.drop n) :=
 q.ind (P:=fun u ds=>∀n:Nat,Reps K hd O H (u.drop n) (ds.drop n)) (fun n=>by rw[su,su];exact .nil) (fun h k r n=>n.casesOn (.cons h k) fun n=>r n) n
theorem Reps.set{v d}(h:Rep K hd O H v d)(n:Nat)(q:Reps K hd O H u ds):Reps K hd O H (u.set n v) (ds.set n d) :=
 q.ind (P:=fun u ds=>∀n:Nat,Reps K hd O H (u.set n v) (ds.set n d)) (fun n=>.nil) (fun k s r n=>n.casesOn (.cons h s) fun n=>.cons k (r n)) n
theorem Rep.tupI(h:Rep K hd O H v (.tuple ds)):∃a x,v=.ref a/\SqT K H a x/\Reps K hd O H x ds:=by
 cases h with
 | tup h o r=>exact⟨_,_,rfl,.inl (.inl h),r⟩
 | tupS h r=>exact⟨_,_,rfl,h.sq,r⟩
theorem Rep.lstI(h:Rep K hd O H v (.list ds)):∃a u,v=.ref a/\H a=some (.lst u)/\¬O a/\Reps K hd O H u ds:=by
 cases h with
 | lst h o r=>exact⟨_,_,rfl,h,o,r⟩
theorem Rep.intI(h:Rep K hd O H v (.int i)):v=.int i:=by cases h;rfl
theorem Rep.blI(h:Rep K hd O H v (.bool b)):v=.bl b:=by cases h;rfl
theorem Rep.strI(h:Rep K hd O H v (.str x)):v=.str x:=by cases h;rfl
theorem Rep.nonI(h:Rep K hd O H v .none):v=.non:=by cases h;rfl
theorem Rep.handI(h:Rep K hd O H v HAND):∃a,v=.ref a/\hd=some a:=by
 generalize e:HAND=d at h;cases h with
 | hand h=>exact⟨_,rfl,h⟩
 | dct _ _=>cases e
 | dcK _ _ _ u=>cases e;exact(dict_noK u).elim
 | dcT _ _ _ u=>cases e;exact(dict_noT u).elim
 | scr _ _=>simp[HAND,SCR]at e
 | scrS _=>simp[HAND,SCR]at e
 | exc _ _=>simp[HAND,EXC]at e
 | _=>cases e
theorem Rep.scrI(h:Rep K hd O H v (SCR ns)):∃a,v=.ref a/\SqL K H a (ns.map V.int):=by
 generalize e:SCR ns=d at h;cases h with
 | hand h=>simp[HAND,SCR]at e
 | dct _ _=>cases e
 | dcK _ _ _ u=>cases e;exact(dict_noK u).elim
 | dcT _ _ _ u=>cases e;exact(dict_noT u).elim
 | @scr a ms h o =>
  have:ns=ms:=by
   have u:(ns.map bU)=ms.map bU:=by simpa[SCR] using e
   have:=congrArg (nB fun x=>match x with|bU i=>i|_=>0) u
   simpa[dO,kC] using this
  subst this;exact⟨_,rfl,.inl h⟩
 | @scrS a ms h =>
  have:ns=ms:=by
   have u:(ns.map bU)=ms.map bU:=by simpa[SCR] using e
   have:=congrArg (nB fun x=>match x with|bU i=>i|_=>0) u
   simpa[dO,kC] using this
  subst this;exact⟨_,rfl,h H⟩
 | exc _ _=>simp[SCR,EXC]at e
 | _=>cases e
end
mutual
def JW:af->Bool
 | .list _=>false
 | .tuple ts=>ZE ts
 | .dict [(.none,.none)]=>true
 | .dict _=>false
 | _=>true
def ZE:List af->Bool
 | []=>true
 | t::ts=>JW t&&ZE ts
end
section
variable{K:qF}{hd:Option ak}{O O':ak->Prop}{H:Hp}
theorem zql(e:JW (.dict (zq0 ks))=true):False:=by
 unfold JW at e;split at e
 ·rename_i h;cases h
 ·rename_i h;cases h
 ·rename_i h;exact dict_noK (lH h).symm
 ·cases e
 ·rename_i h;exact h _ rfl
theorem zqk(e:JW (.dict (Ys ks))=true):False:=by
 unfold JW at e;split at e
 ·rename_i h;cases h
 ·rename_i h;cases h
 ·rename_i h;exact dict_noT (lH h).symm
 ·cases e
 ·rename_i h;exact h _ rfl
def MutO(o:Option HO):Prop:=(∃xs,o=some (.lst xs))\/(∃v,o=some (.dK v))\/∃a zs u,o=some (ZDO a zs u)
theorem Rep.up(y:∀a,O a->MutO (H a))(q:Rep K hd O' H v d):JW d=true->Rep K hd O H v d:=by
 refine Rep.rec (motive_1:=fun v d _=>JW d=true->Rep K hd O H v d) (motive_2:=fun v d _=>ZE d=true->Reps K hd O H v d) (motive_3:=fun _ _ _=>True) (motive_4:=fun _ _ _=>True)
  (fun _=>.non) (fun b _=>.bl b) (fun b _=>.int b) (fun b _=>.str b) (fun h _ _ r e=>.tup h (fun z=>by rcases y _ z with⟨xs,q⟩|⟨xs,q⟩|⟨xs,zs,C,q⟩ <;> (rw[h]at q;cases q)) (r (by simpa[JW] using e))) (fun h _ r e=>.tupS h (r (by simpa[JW] using e)))
  (fun _ _ _ _ e=>by simp[JW]at e) (fun _ _ e=>by simp[JW]at e) (fun _ _ _ x _ e=>by subst x;exact(zql e).elim) (fun _ _ _ x _ e=>by subst x;exact(zqk e).elim) (fun h _=>.hand h) (fun _ _ e=>by simp[SCR,JW]at e) (fun _ e=>by simp[SCR,JW]at e) (fun _ _ e=>by simp[EXC,JW]at e)
  (fun _=>.nil) (fun _ _ h r e=>by rw[ZE,aK]at e;exact .cons (h e.1) (r e.2)) trivial ?_ trivial ?_ q <;> intros <;> trivial
end
section
variable{X:Cx}{pins:qO}{σ:St}{H:Hp}{s:aq}{hd:Option ak}{O:ak->Prop}
theorem Rep.reads(I:Inv X pins σ H s){u:ah}(q:Rep X.K hd O H v d):RelV v u->d.hasDict=false->∃C,Reads s.heap u d C:=by
 refine Rep.rec (motive_1:=fun v d _=>∀u,RelV v u->d.hasDict=false->∃C,Reads s.heap u d C) (motive_2:=fun v d _=>∀u,Vals v u->fY d=false->∃C,pI s.heap u d C) (motive_3:=fun _ _ _=>True) (motive_4:=fun _ _ _=>True)
  (fun _ r _=>by cases r;exact⟨_,.none⟩) (fun b _ r _=>by cases r;exact⟨_,.bool b⟩) (fun i _ r _=>by obtain⟨t,rfl⟩:=r;exact⟨_,.int i t⟩) (fun x _ r _=>by obtain⟨t,rfl⟩:=r;exact⟨_,.str x t⟩)
  (fun {_ vs _} h _ _ q _ r e=>?_) (fun {_ vs _} h _ q _ r e=>?_) (fun {_ vs _} h _ _ q _ r e=>?_) (fun _ _ _ _ e=>by simp[cF]at e) (fun _ _ _ _ _ _ _ e=>by simp[cF]at e) (fun _ _ _ _ _ _ _ e=>by simp[cF]at e)
  (fun _ _ _ e=>by simp[HAND,cF]at e) (fun _ _ _ _ e=>by simp[SCR,cF]at e) (fun _ _ _ e=>by simp[SCR,cF]at e) (fun _ _ _ _ e=>by simp[EXC,cF]at e)
  (fun _ r _=>by cases r;exact⟨_,.nil⟩) (fun _ _ h q _ r e=>?_) trivial (by intros;trivial) trivial (by intros;trivial) q u
 ·cases r;obtain⟨J,N,p,_⟩:=I.tuple (xs:=vs) (.inl (.inl h));obtain⟨o,L,hc,n,y⟩:=p;obtain⟨C,G⟩:=q _ N (by simpa[cF] using e)
  exact⟨_,.tuple L hc y (by simpa using G)⟩
 ·cases r;obtain⟨J,N,p,_⟩:=I.tuple (xs:=vs) h.sq;obtain⟨o,L,hc,n,y⟩:=p;obtain⟨C,G⟩:=q _ N (by simpa[cF] using e)
  exact⟨_,.tuple L hc y (by simpa using G)⟩
 ·cases r;obtain⟨J,N,p,_⟩:=I.list (xs:=vs) (.inl (.inl h));obtain⟨o,n,L,hc,_,y⟩:=p;obtain⟨C,G⟩:=q _ N (by simpa[cF] using e)
  exact⟨_,.list L hc y (by simpa using G)⟩
 ·cases r with
  | cons S U =>
   rw[fY,lW]at e;obtain⟨C,G⟩:=h _ S e.1;obtain⟨bs,R⟩:=q _ U e.2;exact⟨_,.cons G R⟩
theorem Reps.reads(I:Inv X pins σ H s){u:List ah}(q:Reps X.K hd O H x ds):Vals x u->fY ds=false->∃v,pI s.heap u ds v :=
 q.ind (P:=fun x ds=>∀u,Vals x u->fY ds=false->∃v,pI s.heap u ds v) (fun _ r _=>by cases r;exact⟨_,.nil⟩) (fun h _ q _ r e=>by
  cases r with
  | cons y G =>
   rw[fY,lW]at e;obtain⟨v,J⟩:=h.reads I y e.1;obtain⟨bs,C⟩:=q _ G e.2;exact⟨_,.cons J C⟩) u
end
inductive Cell where
 | val (d:af)
 | own (ds:qD)
 | dct (ks:List (Key×af))
 | rdo (ks:List (Key×af))
 | dtt (ks:KT2)
def Cell.mine:Cell->Bool
 | .val _=>false
 | .own _=>true
 | .dct _=>true
 | .rdo _=>false
 | .dtt _=>true
def UO(K:qF)(hd:Option ak)(O:ak->Prop)(H:Hp)(l:List (Key×V))(u:List (Key×af)):Prop:=eN (fun(p:Key×V) (q:Key×af)=>p.1=q.1/\Rep K hd O H p.2 q.2) l u
theorem UO.mono{K:qF}{hd:Option ak}{O u:ak->Prop}{H v:Hp}(y:∀a o,H a=some o->u a->O a)(C:∀a o,¬O a->H a=some o->v a=some o){l:List (Key×V)}{x:List (Key×af)}(r:UO K hd O H l x):UO K hd u v l x :=
 Paired.mapP r fun _ _ z=>⟨z.1,z.2.mono y C⟩
abbrev En:=List (Option Cell)
structure Ctx where
 hd:Option ak
 ext:ak->Prop
def OwnS(l:En)(σ:St)(a:ak):Prop:=∃(i:Nat) (c:Cell),c.mine=true/\l[i]?=some (some c)/\σ[i]?=some (some (V.ref a))
def Own(C:Ctx)(l:En)(σ:St)(a:ak):Prop:=C.ext a\/OwnS l σ a
def Hn(hd:Option ak)(H:Hp)(n:Nat):Prop:=∀a,hd=some a->Vu H a n
structure Stt(K:qF)(C:Ctx)(ρ:En)(σ:St)(H:Hp)(n:Nat):Prop where
 len:ρ.length=σ.length
 val:∀(i:Nat) (d:af),ρ[i]?=some (some (Cell.val d))->∃v,σ[i]?=some (some v)/\Rep K C.hd (Own C ρ σ) H v d
 own:∀(i:Nat) (ds:qD),ρ[i]?=some (some (Cell.own ds))->∃a vs,σ[i]?=some (some (V.ref a))/\H a=some (.lst vs)/\Reps K C.hd (Own C ρ σ) H vs ds/\¬C.ext a
 dct:∀(i:Nat) (ks:List (Key×af)),ρ[i]?=some (some (Cell.dct ks))->∃a kvs,σ[i]?=some (some (V.ref a))/\H a=some (.dK kvs)/\UO K C.hd (Own C ρ σ) H kvs ks/\¬C.ext a
 rdo:∀(i:Nat) (ks:List (Key×af)),ρ[i]?=some (some (Cell.rdo ks))->∃a kvs,σ[i]?=some (some (V.ref a))/\H a=some (.dK kvs)/\UO K C.hd (Own C ρ σ) H kvs ks/\C.ext a/\C.hd≠some a
 dtt:∀(i:Nat) (ks:KT2),ρ[i]?=some (some (Cell.dtt ks))->∃a zs ep,σ[i]?=some (some (V.ref a))/\H a=some (ZDO a zs ep)/\Qg K C.hd (Own C ρ σ) H zs ks/\¬C.ext a
 dif:∀(i j:Nat) (c e:Cell) (a:ak),c.mine=true->e.mine=true->ρ[i]?=some (some c)->ρ[j]?=some (some e)->σ[i]?=some (some (V.ref a))->σ[j]?=some (some (V.ref a))->i=j
 hnd:Hn C.hd H n
 ext:∀a,C.ext a->MutO (H a)
 hx:∀a,C.hd=some a->C.ext a
def ExtE(hd:Option ak)(H l:Hp):Prop:=∀a o,H a=some o->hd≠some a->l a=some o
theorem ExtE.refl:ExtE hd H H:=fun _ _ h _=>h
theorem ExtE.trans(a:ExtE hd H H1)(b:ExtE hd H1 H2):ExtE hd H H2:=fun c o h n=>b c o (a c o h n) n
theorem ExtE.new(h:H p=none):ExtE hd H (upd H p o):=fun b u e _=>by
 rw[Jn (Qx e h)];exact e
section
variable{K:qF}{C:Ctx}{ρ:En}{σ:St}{H H':Hp}{n n':Nat}
theorem MutO.ne(h:MutO o):o≠none:=by
 rcases h with⟨_,rfl⟩|⟨_,rfl⟩|⟨_,_,_,rfl⟩ <;> exact fun z=>by cases z
theorem Stt.at(S:Stt K C ρ σ H n){i:Nat}{c:Cell}(m:c.mine=true)(G:ρ[i]?=some (some c)):∃a:ak,σ[i]?=some (some (V.ref a))/\MutO (H a)/\¬C.ext a:=by
 cases c with
 | val d=>cases m
 | own ds =>
  obtain⟨a,I,v,x,_,u⟩:=S.own i ds G;exact⟨a,v,.inl ⟨_,x⟩,u⟩
 | dct y =>
  obtain⟨a,I,v,x,_,u⟩:=S.dct i y G;exact⟨a,v,.inr (.inl ⟨_,x⟩),u⟩
 | rdo y=>cases m
 | dtt y =>
  obtain⟨a,I,J,v,x,_,u⟩:=S.dtt i y G;exact⟨a,v,.inr (.inr ⟨_,_,_,x⟩),u⟩
theorem Stt.lst(S:Stt K C ρ σ H n){a:ak}(h:Own C ρ σ a):MutO (H a):=by
 rcases h with h|⟨i,c,m,x,u⟩
 ·exact S.ext a h
 ·obtain⟨b,l,v,_⟩:=S.at m x;rw[u]at l;cases l;exact v
theorem Stt.dom(S:Stt K C ρ σ H n)(h:Own C ρ σ a):H a≠none:=(S.lst h).ne
theorem Stt.free(S:Stt K C ρ σ H n)(h:H a=none):¬Own C ρ σ a:=fun z=>S.dom z h
theorem ExtE.rep(e:ExtE C.hd H H')(hx:∀a,C.hd=some a->C.ext a){v d}(r:Rep K C.hd (Own C ρ σ) H v d):Rep K C.hd (Own C ρ σ) H' v d :=
 r.mono (fun _ _ _ z=>z) fun a o no h=>e a o h fun z=>no (.inl (hx a z))
theorem ExtE.reps(e:ExtE C.hd H H')(hx:∀a,C.hd=some a->C.ext a){v d}(r:Reps K C.hd (Own C ρ σ) H v d):Reps K C.hd (Own C ρ σ) H' v d :=
 r.mono (fun _ _ _ z=>z) fun a o no h=>e a o h fun z=>no (.inl (hx a z))
theorem Stt.on(S:Stt K C ρ σ H n)(e:ExtE C.hd H H')(h:Hn C.hd H' n'):Stt K C ρ σ H' n' where
 len:=S.len
 val:=fun i d hi=>by
  obtain⟨v,y,x⟩:=S.val i d hi;exact⟨v,y,e.rep S.hx x⟩
 own:=fun i ds hi=>by
  obtain⟨a,I,y,x,G,u⟩:=S.own i ds hi;exact⟨a,I,y,e a _ x fun z=>u (S.hx a z),e.reps S.hx G,u⟩
 dct:=fun i J hi=>by
  obtain⟨a,I,y,x,G,u⟩:=S.dct i J hi;exact⟨a,I,y,e a _ x fun z=>u (S.hx a z),Paired.mapP G fun _ _ z=>⟨z.1,e.rep S.hx z.2⟩,u⟩
 rdo:=fun i J hi=>by
  obtain⟨a,I,y,x,G,u,N⟩:=S.rdo i J hi;exact⟨a,I,y,e a _ x N,Paired.mapP G fun _ _ z=>⟨z.1,e.rep S.hx z.2⟩,u,N⟩
 dtt:=fun i J hi=>by
  obtain⟨a,I,L,y,x,G,u⟩:=S.dtt i J hi;exact⟨a,I,L,y,e a _ x fun z=>u (S.hx a z),G.mono (fun _ _ _ z=>z) (fun a o no h=>e a o h fun z=>no (.inl (S.hx a z))),u⟩
 dif:=S.dif
 hnd:=h
 ext:=fun a R=>by
  by_cases z:C.hd=some a
  ·obtain⟨d,m,t,q,_⟩:=h a z;exact .inl ⟨_,q⟩
  ·rcases S.ext a R with⟨xs,q⟩|⟨xs,q⟩|⟨b,xs,L,q⟩
   ·exact .inl ⟨xs,e a _ q z⟩
   ·exact .inr (.inl ⟨xs,e a _ q z⟩)
   ·exact .inr (.inr ⟨b,xs,L,e a _ q z⟩)
 hx:=S.hx
end
abbrev DTE:=En->Nat->(af->Nat->Prop)->Prop
abbrev DTT:=En->Nat->(Bool->Nat->Prop)->Prop
abbrev DTA:=En->Nat->(List af->Nat->Prop)->Prop
def DE(X:Cx)(e:aV)(d:DTE):Prop:=∃y,PE X e y/\∀(C:Ctx) (u:En) (σ:St) (H:Hp) (n:Nat) (Q:VK) (R:qN),Stt X.K C u σ H n->d u n R ->
 (∀t x v l,R t x->ExtE C.hd H l->Hn C.hd l x->Rep X.K C.hd (Own C u σ) l v t->Q v l)->y σ H Q
def RepT(K:qF)(hd:Option ak)(O:ak->Prop)(H:Hp)(v:V)(t:af):Prop :=
 Rep K hd O H v t\/(∃a x ds,v=.ref a/\t=.list ds/\H a=some (.lst x)/\Reps K hd O H x ds/\hd≠some a)\/∃a zs y u,v=.ref a/\t=.dict (Ys u)/\H a=some (ZDO a zs y)/\Qg K hd O H zs u/\hd≠some a
def DL(X:Cx)(e:aV)(d:DTE):Prop:=∃y,PE X e y/\∀(C:Ctx) (u:En) (σ:St) (H:Hp) (n:Nat) (Q:VK) (R:qN),Stt X.K C u σ H n->d u n R ->
 (∀t x v l,R t x->ExtE C.hd H l->Hn C.hd l x->RepT X.K C.hd (Own C u σ) l v t->Q v l)->y σ H Q
def DN(X:Cx)(e:aV)(d:DTA):Prop:=∃y,PE X e y/\∀(C:Ctx) (v:En) (σ:St) (H:Hp) (n:Nat) (Q:VK) (R:List af->Nat->Prop),Stt X.K C v σ H n->d v n R ->
 (∀ts x p G u,R ts x->ExtE C.hd H u->Hn C.hd u x->H p=none->u p=some (.lst G)->Reps X.K C.hd (fun a=>Own C v σ a\/a=p) u G ts->Q (.ref p) u)->y σ H Q
def DT(X:Cx)(e:aV)(d:DTT):Prop:=∃x,PT X e x/\∀(C:Ctx) (v:En) (σ:St) (H:Hp) (n:Nat) (Q:Bool->Hp->Prop) (R:Bool->Nat->Prop),Stt X.K C v σ H n->d v n R ->
 (∀b u l,R b u->ExtE C.hd H l->Hn C.hd l u->Q b l)->x σ H Q
def DW(X:Cx)(e:aV)(d:DTT):Prop:=∃x,PW X e x/\∀(C:Ctx) (v:En) (σ:St) (H:Hp) (n:Nat) (Q:Bool->Hp->Prop) (R:Bool->Nat->Prop),Stt X.K C v σ H n->d v n R ->
 (∀b u l,R b u->ExtE C.hd H l->Hn C.hd l u->Q b l)->x σ H Q
def DB(X:Cx)(v:List aV)(d:DTA):Prop:=∃x,PB X v x/\∀(C:Ctx) (u:En) (σ:St) (H:Hp) (n:Nat) (Q:List V->Hp->Prop) (R:List af->Nat->Prop),Stt X.K C u σ H n->d u n R ->
 (∀ts y G l,R ts y->ExtE C.hd H l->Hn C.hd l y->Reps X.K C.hd (Own C u σ) l G ts->ts.length=v.length->Q G l)->x σ H Q
section
variable{X:Cx}{e a b c:aV}{es:List aV}{d da db dc:DTE}{pos:Pos}
theorem dl(h:DE X e d):DL X e d:=by
 obtain⟨L,p,h⟩:=h;exact⟨L,p,fun C y σ H n Q R S hd I=>h C y σ H n Q R S hd fun t x v J r e G u=>I t x v J r e G (.inl u)⟩
def dNew(d:DTA):DTE:=fun v n R=>d v n fun ts u=>R (.list ts) u
theorem Jo{d:DTA}(h:DN X e d):DE X e (dNew d):=by
 obtain⟨N,p,h⟩:=h;refine⟨N,p,fun C G σ H n Q R S hd J=>h C G σ H n Q _ S hd fun ts y p U L r e I v u x=>J _ y _ L r e I (.lst u (S.free v) (x.mono (fun _ _ _ z=>.inl z) fun _ _ _ z=>z))⟩
def dVar(i:Nat):DTE:=fun l n R=>match l[i]? with|some (some (Cell.val d))=>R d n|_=>False
def dOwn(i:Nat):DTE:=fun u n R=>match u[i]? with|some (some (Cell.own d))=>R (.list d) n|_=>False
def dC(t:af):DTE:=fun _ n R=>R t n
theorem Jk(i:Nat)(u:X.N[i]?=some x:=by rfl)(y:Vis X.env.scope x:=by walk_at "V")(hd:(x == ("__debug__":Str))=false:=by rfl)
  (l:(x == ("__classdict__":Str))=false:=by rfl):DE X (.Name x pos) (dVar i):=by
 refine⟨_,QX u y hd l,fun C L σ H n Q R S h J=>?_⟩
 unfold dVar at h;split at h
 ·rename_i d e;obtain⟨v,I,G⟩:=S.val i d e;exact⟨v,I,J d n v H h ExtE.refl S.hnd G⟩
 ·exact h.elim
theorem QB(i:Nat)(y:X.N[i]?=some x:=by rfl)(G:Vis X.env.scope x:=by walk_at "V")(hd:(x == ("__debug__":Str))=false:=by rfl)
  (u:(x == ("__classdict__":Str))=false:=by rfl):DL X (.Name x pos) (dOwn i):=by
 refine⟨_,QX y G hd u,fun C Z σ H n Q R S h Y=>?_⟩
 unfold dOwn at h;split at h
 ·rename_i ds e;obtain⟨p,I,U,J,v,L⟩:=S.own i ds e;exact⟨.ref p,U,Y _ n _ H h ExtE.refl S.hnd (.inr (.inl ⟨p,I,ds,rfl,rfl,J,v,fun z=>L (S.hx p z)⟩))⟩
 ·exact h.elim
theorem Jd{i j pos}:DE X (.Constant (.int i) j pos) (dC (.int i)):=⟨_,JD,fun _ _ _ H n _ _ S h l=>l _ n _ H h ExtE.refl S.hnd (.int i)⟩
theorem Qq{b j pos}:DE X (.Constant (.bool b) j pos) (dC (.bool b)):=⟨_,zpY,fun _ _ _ H n _ _ S h u=>u _ n _ H h ExtE.refl S.hnd (.bl b)⟩
theorem QA{j pos}:DE X (.Constant .none j pos) (dC .none):=⟨_,zsw,fun _ _ _ H n _ _ S h l=>l _ n _ H h ExtE.refl S.hnd .non⟩
theorem Jj{x j pos}:DE X (.Constant (.str x) j pos) (dC (.str x)):=⟨_,zss,fun _ _ _ H n _ _ S h l=>l _ n _ H h ExtE.refl S.hnd (.str x)⟩
end
section
variable{K:qF}{hd:Option ak}{O:ak->Prop}{H H':Hp}{v:V}{t:af}{n:Nat}
theorem Same.ext(h:Same H H'):ExtE hd H H':=fun a o e _=>h a o e
theorem Hn.same(h:Hn hd H n)(s:Same H H'):Hn hd H' n:=fun a e=>by
 obtain⟨d,m,t,q,r⟩:=h a e;exact⟨d,m,t,s _ _ q,r⟩
theorem Reps.same{vs ts}(s:Same H H')(r:Reps K hd O H vs ts):Reps K hd O H' vs ts:=r.mono (fun _ _ _ z=>z) fun a o _ h=>s a o h
theorem ExtE.repT(e:ExtE C.hd H H')(hx:∀a,C.hd=some a->C.ext a)(r:RepT K C.hd (Own C ρ σ) H v t):RepT K C.hd (Own C ρ σ) H' v t:=by
 rcases r with r|⟨a,L,ds,I,y,x,G,u⟩|⟨a,zs,J,N,I,y,x,G,u⟩
 ·exact .inl (e.rep hx r)
 ·exact .inr (.inl ⟨a,L,ds,I,y,e _ _ x u,e.reps hx G,u⟩)
 ·exact .inr (.inr ⟨a,zs,J,N,I,y,e _ _ x u,G.mono (fun _ _ _ z=>z) (fun a o no h=>e a o h fun z=>no (.inl (hx a z))),u⟩)
theorem RepT.lstI{ds}(h:RepT K hd O H v (.list ds)):∃a u,v=.ref a/\H a=some (.lst u)/\Reps K hd O H u ds:=by
 rcases h with h|⟨a,u,I,C,x,y,G,_⟩|⟨a,u,J,I,C,x,y,G,_⟩
 ·obtain⟨a,u,C,x,_,y⟩:=h.lstI;exact⟨a,u,C,x,y⟩
 ·cases x;exact⟨a,u,C,y,G⟩
 ·cases x
theorem RepT.tupI{ds}(h:RepT K hd O H v (.tuple ds)):∃a x,v=.ref a/\SqT K H a x/\Reps K hd O H x ds:=by
 rcases h with h|⟨a,x,G,J,y,I,C,_⟩|⟨a,x,L,G,J,y,I,C,_⟩
 ·exact h.tupI
 ·cases y
 ·cases y
theorem RepT.rep(h:RepT K hd O H v t)(nl:∀ds,t≠.list ds)(nd:∀y,t≠.dict (Ys y):=by intro y z;first|cases z|exact dict_noT (lH z)):Rep K hd O H v t:=by
 rcases h with h|⟨a,I,x,J,u,G,C,_⟩|⟨a,I,L,x,J,u,G,C,_⟩
 ·exact h
 ·exact absurd u (nl x)
 ·exact absurd u (nd x)
theorem RepT.intI{i}(h:RepT K hd O H v (.int i)):v=.int i:=(h.rep (by intro _ z;cases z)).intI
theorem RepT.blI{i}(h:RepT K hd O H v (.bool i)):v=.bl i:=(h.rep (by intro _ z;cases z)).blI
theorem RepT.strI{i}(h:RepT K hd O H v (.str i)):v=.str i:=(h.rep (by intro _ z;cases z)).strI
theorem RepT.nonI(h:RepT K hd O H v .none):v=.non:=(h.rep (by intro _ z;cases z)).nonI
theorem Rep.newT{vs ts}(no:¬O p)(h:H p=none)(r:Reps K hd O H vs ts):Rep K hd O (upd H p (.tup vs)) (.ref p) (.tuple ts) :=
 .tup JM no (r.same (fun b u e=>by rw[Jn (Qx e h)];exact e))
end
theorem JS(h:H p=none):Same H (upd H p o):=fun b u e=>by
 rw[Jn (Qx e h)];exact e
abbrev G2:=af->af->(af->Prop)->Prop
def dOp(g:G2)(C db:DTE):DTE:=fun l n R=>C l n fun x v=>db l v fun y u=>g x y fun z=>R z u
def Gp2(X:Cx)(r:R2)(g:G2):Prop:=∀(hd:Option ak) (O:ak->Prop) (H:Hp) (x y:V) (t u:af) (Q:VK) (R:af->Prop),(∀p,O p->H p≠none)->RepT X.K hd O H x t->RepT X.K hd O H y u->g t u R ->
 (∀z v l,R z->Same H l->Rep X.K hd O l v z->Q v l)->r x y H Q
section
variable{X:Cx}{a b c:aV}{da db dc:DTE}{pos:Pos}{r r':R2}{g g':G2}
theorem two{C:Ctx}{l:En}{σ:St}{H:Hp}{n:Nat}{ta Z:TE}(ha:∀(C:Ctx) (l:En) (σ:St) (H:Hp) (n:Nat) (Q:VK) (R:qN),Stt X.K C l σ H n->da l n R ->
  (∀t L v I,R t L->ExtE C.hd H I->Hn C.hd I L->RepT X.K C.hd (Own C l σ) I v t->Q v I)->ta σ H Q)
  (hb:∀(C:Ctx) (l:En) (σ:St) (H:Hp) (n:Nat) (Q:VK) (R:qN),Stt X.K C l σ H n->db l n R ->
  (∀t L v I,R t L->ExtE C.hd H I->Hn C.hd I L->RepT X.K C.hd (Own C l σ) I v t->Q v I)->Z σ H Q)
  {Q2:V->V->Hp->Prop} {R2:af->af->Nat->Prop} (S:Stt X.K C l σ H n) (h:da l n fun x U=>db l U fun y J=>R2 x y J)
  (hq:∀x y J v w G,R2 x y J->ExtE C.hd H G->Stt X.K C l σ G J->RepT X.K C.hd (Own C l σ) G v x->RepT X.K C.hd (Own C l σ) G w y->Q2 v w G) :
  ta σ H fun v N=>Z σ N fun w G=>Q2 v w G:=by
 refine ha C l σ H n _ _ S h fun t U v N r1 e1 h1 q1=>?_
 have S1:=S.on e1 h1;refine hb C l σ N U _ _ S1 r1 fun u J w G r2 Y h2 q2=>?_
 exact hq t u J v w G r2 (e1.trans Y) (S1.on Y h2) (Y.repT S.hx q1) q2
theorem QT{op:Operator}(U:OpR X (binaryOp op) r)(Y:Gp2 X r g)(l:DL X a da)(G:DL X b db):DE X (.BinOp a op b pos) (dOp g da db):=by
 obtain⟨ta,pa,l⟩:=l;obtain⟨tb,pb,G⟩:=G;refine⟨_,JC U pa pb,fun C ρ σ H n Q R S h hq=>?_⟩
 refine two l G S h fun x y Z v w H2 r2 e J N q2=>?_
 exact Y C.hd (Own C ρ σ) H2 v w x y Q _ (fun p=>J.dom) N q2 r2 fun z u H' rz I L=>hq z Z u H' rz (e.trans I.ext) (J.hnd.same I) L
theorem UB{op:ow}(U:OpR X (compareOp op) r)(Y:Gp2 X r g)(l:DL X a da)(G:DL X b db)(hm:behindInMarks op b=false):DE X (.Compare a [op] [b] pos) (dOp g da db):=by
 obtain⟨ta,pa,l⟩:=l;obtain⟨tb,pb,G⟩:=G;refine⟨_,zlx U pa pb hm,fun C ρ σ H n Q R S h hq=>?_⟩
 refine two l G S h fun x y Z v w H2 r2 e J N q2=>?_
 exact Y C.hd (Own C ρ σ) H2 v w x y Q _ (fun p=>J.dom) N q2 r2 fun z u H' rz I L=>hq z Z u H' rz (e.trans I.ext) (J.hnd.same I) L
def Uc(d:DTE):DTT:=fun v n R=>d v n fun t u=>match t with|.bool k=>R k u|_=>False
theorem Jq{op:ow}(Y:OpR X (compareOp op) r)(Z:Gp2 X r g)(l:DL X a da)(G:DL X b db)(hm:behindInMarks op b=false):DT X (.Compare a [op] [b] pos) (Uc (dOp g da db)):=by
 obtain⟨ta,pa,l⟩:=l;obtain⟨tb,pb,G⟩:=G;refine⟨_,ziw Y pa pb hm,fun C ρ σ H n Q R S h hq=>?_⟩
 refine two l G S h fun x y n2 v w H2 r2 e L U q2=>?_
 refine Z C.hd (Own C ρ σ) H2 v w x y _ _ (fun p=>L.dom) U q2 r2 fun z u H' J I N=>?_
 cases z with
 | bool k =>
  cases N;exact⟨k,rfl,hq k n2 H' J (e.trans I.ext) (L.hnd.same I)⟩
 | _=>exact J.elim
def YI(g g':G2)(da db dc:DTE):DTE:=fun u n R=>da u n fun x C=>db u C fun y v=>g x y fun z=>match z with
 | .bool true=>dc u v fun w G=>g' y w fun z=>R z G
 | .bool false=>R (.bool false) v
 | _=>False
def gI(C:Int->Int->Prop)(f:Int->Int->Int):G2
 | .int i,.int j,R=>C i j/\R (.int (f i j))
 | _,_,_=>False
def gB(f:Int->Int->Bool):G2
 | .int i,.int j,R=>R (.bool (f i j))
 | _,_,_=>False
theorem gp_I:Gp2 X (rI C fun i j=>.int (f i j)) (gI C f):=by
 intro hd O H x y t u Q R dom v G h l;unfold gI at h;split at h
 ·rename_i i j;exact⟨i,j,v.intI,G.intI,h.1,l _ _ H h.2 (Same.refl H) (.int _)⟩
 ·exact h.elim
def gI0(f:Int->Int->Int):G2
 | .int i,.int j,R=>R (.int (f i j))
 | _,_,_=>False
theorem zqS:Gp2 X (rI0 fun i j=>.int (f i j)) (gI0 f):=by
 intro hd O H x y t u Q R dom v C h l;unfold gI0 at h;split at h
 ·rename_i i j;exact⟨i,j,v.intI,C.intI,l _ _ H h (Same.refl H) (.int _)⟩
 ·exact h.elim
theorem gp_B:Gp2 X (rI0 fun i j=>.bl (f i j)) (gB f):=by
 intro hd O H x y t u Q R dom C G h v;unfold gB at h;split at h
 ·rename_i i j;exact⟨i,j,C.intI,G.intI,v _ _ H h (Same.refl H) (.bl _)⟩
 ·exact h.elim
end
section
variable{X:Cx}{a b c:aV}{da db dc:DTE}{pos:Pos}
def oSub:=gI0 fun i j=>i - j
def oMod:=gI (fun _ j=>0<j) fun i j=>i % j
def Uv:=gI Zi fun i j=>i / j
def oShl:=gI CPow fun i j=>i*2 ^ j.toNat
def oShr:=gI (fun _ j=>0<=j) fun i j=>i / 2 ^ j.toNat
def oXor:=gI0 cL
def oAnd:=gI0 gi
theorem UD(l:DL X a da)(v:DL X b db):DE X (.BinOp a .Sub b pos) (dOp oSub da db):=QT zsD zqS l v
theorem zmE(l:DL X a da)(u:DL X b db):DE X (.BinOp a .Mod b pos) (dOp oMod da db):=QT UW gp_I l u
theorem zmH(u:DL X a da)(x:DL X b db):DE X (.BinOp a .FloorDiv b pos) (dOp Uv da db):=QT V1 gp_I u x
theorem JZ(l:DL X a da)(u:DL X b db):DE X (.BinOp a .LShift b pos) (dOp oShl da db):=QT zsF gp_I l u
theorem zur(l:DL X a da)(u:DL X b db):DE X (.BinOp a .RShift b pos) (dOp oShr da db):=QT zsE gp_I l u
theorem zpm(l:DL X a da)(u:DL X b db):DE X (.BinOp a .BitXor b pos) (dOp oXor da db):=QT zsC zqS l u
theorem zuw(l:DL X a da)(u:DL X b db):DE X (.BinOp a .BitAnd b pos) (dOp oAnd da db):=QT zsP zqS l u
end
section
variable{X:Cx}{pins:qO}{σ:St}{H:Hp}{s:aq}{hd:Option ak}{O:ak->Prop}
theorem RepT.reads(I:Inv X pins σ H s)(h:RepT X.K hd O H v d)(r:RelV v u)(e:d.hasDict=false):∃G,Reads s.heap u d G:=by
 rcases h with h|⟨a,R,ds,rfl,rfl,y,C,_⟩|⟨a,zs,U,Y,rfl,rfl,y,C,_⟩
 rotate_left 2
 ·simp[cF]at e
 ·exact h.reads I r e
 ·cases r;obtain⟨J,N,p,_⟩:=I.list (xs:=R) (.inl (.inl y));obtain⟨o,n,L,hc,_,x⟩:=p;obtain⟨G,S⟩:=Reps.reads I C N (by simpa[cF] using e)
  exact⟨_,.list L hc x (by simpa using S)⟩
end
def Okd(t:af):Prop:=t.canLay0=true/\t.depth<=60
section
variable{X:Cx}{a b c:aV}{da db dc:DTE}{pos:Pos}{k:Nat}
def rEqD(K:qF)(neg:Bool):R2:=fun x y H Q=>∃hd O t u,RepT K hd O H x t/\RepT K hd O H y u/\Okd t/\Okd u/\Q (.bl (if neg then !t.eqv u else t.eqv u)) H
theorem zsN(L:Room k X.A):OpR X (compareOp .Eq) (rEqD X.K false):=by
 intro pins s σ H x y v u Q I J U h;obtain⟨hd,O,t,w,S,R,C,G,q⟩:=h;obtain⟨Z,Y⟩:=S.reads I J (ck _ C.1);obtain⟨bs,N⟩:=R.reads I U (ck _ G.1);refine SeqAt.compareEq_reads Y N C.1 G.1 ?_ ⟨.bl _,H,I,rfl,q⟩;have:=L.un;have:=C.2;omega
theorem zsH(L:Room k X.A):OpR X (compareOp .NotEq) (rEqD X.K true):=by
 intro pins s σ H x y v u Q I J Y h;obtain⟨hd,O,t,w,U,S,C,G,q⟩:=h;obtain⟨as,Z⟩:=U.reads I J (ck _ C.1);obtain⟨bs,R⟩:=S.reads I Y (ck _ G.1);refine SeqAt.compareNe_reads Z R C.1 G.1 ?_ ⟨.bl _,H,I,rfl,q⟩;have:=L.un;have:=C.2;omega
def oEq:G2
 | .int i,.int j,R=>R (.bool (decide (i=j)))
 | .str i,.str j,R=>R (.bool (decide (i=j)))
 | .bool i,.bool j,R=>R (.bool (decide (i=j)))
 | t,u,R=>Okd t/\Okd u/\R (.bool (t.eqv u))
def oNe:G2
 | .int i,.int j,R=>R (.bool (!decide (i=j)))
 | .str i,.str j,R=>R (.bool (!decide (i=j)))
 | .bool i,.bool j,R=>R (.bool (!decide (i=j)))
 | t,u,R=>Okd t/\Okd u/\R (.bool (!t.eqv u))
def rEqA(K:qF):R2:=fun x y H Q=>rEq x y H Q\/rEqD K false x y H Q
def rNeA(K:qF):R2:=fun x y H Q=>rNe x y H Q\/rEqD K true x y H Q
theorem Q4(l:Room k X.A):OpR X (compareOp .Eq) (rEqA X.K):=OpR.or zwf (zsN l)
theorem QW(l:Room k X.A):OpR X (compareOp .NotEq) (rNeA X.K):=OpR.or zwc (zsH l)
theorem QU:Gp2 X (rEqA X.K) oEq:=by
 intro hd O H x y t u Q R dom C G h v;unfold oEq at h;split at h
 ·rename_i i j;rw[C.intI,G.intI];refine .inl ⟨rfl,?_⟩;have e:decide (V.int i=V.int j)=decide (i=j):=decide_eq_decide.mpr ⟨fun z=>by cases z;rfl,fun z=>by rw[z]⟩
  rw[e];exact v _ _ H h (Same.refl H) (.bl _)
 ·rename_i i j;rw[C.strI,G.strI];refine .inl ⟨rfl,?_⟩;have e:decide (V.str i=V.str j)=decide (i=j):=decide_eq_decide.mpr ⟨fun z=>by cases z;rfl,fun z=>by rw[z]⟩
  rw[e];exact v _ _ H h (Same.refl H) (.bl _)
 ·rename_i i j;rw[C.blI,G.blI];refine .inl ⟨rfl,?_⟩;have e:decide (V.bl i=V.bl j)=decide (i=j):=decide_eq_decide.mpr ⟨fun z=>by cases z;rfl,fun z=>by rw[z]⟩
  rw[e];exact v _ _ H h (Same.refl H) (.bl _)
 ·exact .inr ⟨hd,O,_,_,C,G,h.1,h.2.1,v _ _ H h.2.2 (Same.refl H) (.bl _)⟩
theorem QV:Gp2 X (rNeA X.K) oNe:=by
 intro hd O H x y t u Q R dom C G h v;unfold oNe at h;split at h
 ·rename_i i j;rw[C.intI,G.intI];refine .inl ⟨rfl,?_⟩;have e:decide (V.int i=V.int j)=decide (i=j):=decide_eq_decide.mpr ⟨fun z=>by cases z;rfl,fun z=>by rw[z]⟩
  rw[e];exact v _ _ H h (Same.refl H) (.bl _)
 ·rename_i i j;rw[C.strI,G.strI];refine .inl ⟨rfl,?_⟩;have e:decide (V.str i=V.str j)=decide (i=j):=decide_eq_decide.mpr ⟨fun z=>by cases z;rfl,fun z=>by rw[z]⟩
  rw[e];exact v _ _ H h (Same.refl H) (.bl _)
 ·rename_i i j;rw[C.blI,G.blI];refine .inl ⟨rfl,?_⟩;have e:decide (V.bl i=V.bl j)=decide (i=j):=decide_eq_decide.mpr ⟨fun z=>by cases z;rfl,fun z=>by rw[z]⟩
  rw[e];exact v _ _ H h (Same.refl H) (.bl _)
 ·exact .inr ⟨hd,O,_,_,C,G,h.1,h.2.1,v _ _ H h.2.2 (Same.refl H) (.bl _)⟩
def isNone:af->Bool
 | .none=>true
 | _=>false
def oIs:G2
 | .bool a,.bool b,R=>R (.bool (a == b))
 | t,.none,R=>R (.bool (isNone t))
 | _,_,_=>False
def oIsN:G2
 | .bool a,.bool b,R=>R (.bool (a != b))
 | t,.none,R=>R (.bool (!isNone t))
 | _,_,_=>False
def rIs:R2:=fun x y H Q=>(y=.non/\Q (.bl (decide (x=.non))) H)\/∃a b,x=.bl a/\y=.bl b/\Q (.bl (a == b)) H
def rIsN:R2:=fun x y H Q=>(y=.non/\Q (.bl (!decide (x=.non))) H)\/∃a b,x=.bl a/\y=.bl b/\Q (.bl (a != b)) H
theorem zwe:OpR X (compareOp .Is) rIs:=OpR.or zsK zsL
theorem zlD:OpR X (compareOp .IsNot) rIsN:=OpR.or zp4 zlE
theorem RepT.isN{K:qF}{hd:Option ak}{O:ak->Prop}{H:Hp}{v:V}{t:af}(h:RepT K hd O H v t):decide (v=.non)=(isNone t):=by
 rcases h with h|⟨a,C,ds,rfl,rfl,u,l,_⟩|⟨a,zs,x,y,rfl,rfl,u,l,_⟩
 ·cases h <;> simp[HAND,SCR,EXC,isNone]
 ·simp[isNone]
 ·simp[isNone]
theorem zwW:Gp2 X rIs oIs:=by
 intro hd O H x y t u Q R dom C G h v;unfold oIs at h;split at h
 ·rename_i i j;exact .inr ⟨i,j,C.blI,G.blI,v _ _ H h (Same.refl H) (.bl _)⟩
 ·refine .inl ⟨G.nonI,?_⟩;rw[C.isN];exact v _ _ H h (Same.refl H) (.bl _)
 ·exact h.elim
theorem zmp:Gp2 X rIsN oIsN:=by
 intro hd O H x y t u Q R dom C G h v;unfold oIsN at h;split at h
 ·rename_i i j;exact .inr ⟨i,j,C.blI,G.blI,v _ _ H h (Same.refl H) (.bl _)⟩
 ·refine .inl ⟨G.nonI,?_⟩;rw[C.isN];exact v _ _ H h (Same.refl H) (.bl _)
 ·exact h.elim
def rInD(K:qF)(neg:Bool):R2:=fun x y H Q=>∃hd O t ts,RepT K hd O H x t/\(RepT K hd O H y (.tuple ts)\/RepT K hd O H y (.list ts))/\Okd t/\(∀u∈ts,Okd u)/\Q (.bl (if neg then !ts.any (fun u=>u.eqv t) else ts.any (fun u=>u.eqv t))) H
theorem zlJ:∀{ts:qD},(∀u∈ts,Okd u)->bE ts=true
 | [],_=>by simp[bE]
 | t::ts,h=>by
  simp only[bE,aK];exact⟨(h t (by simp)).1,zlJ fun u l=>h u (by simp[l])⟩
theorem zey(Y:Room k X.A):OpR X (compareOp .NotIn) (rInD X.K true):=by
 intro pins s σ H x y v u Q I U R h;obtain⟨hd,O,t,ts,h1,C,G,Z,q⟩:=h;obtain⟨as,S⟩:=h1.reads I U (ck _ G.1);have cl:=zlJ Z;have L:X.A.units+1+min (bZ ts) t.depth<cLine:=by
  have:=Y.un;have:=G.2;omega
 rcases C with C|C
 ·obtain⟨bs,J⟩:=C.reads I R (ck _ (by simpa[bT] using cl))
  exact SeqAt.notIn_tuple_reads J S cl G.1 L ⟨.bl _,H,I,rfl,q⟩
 ·obtain⟨bs,J⟩:=C.reads I R (ck _ (by simpa[bT] using cl))
  exact SeqAt.notIn_list_reads J S cl G.1 L ⟨.bl _,H,I,rfl,q⟩
def ZF:G2
 | t,.tuple ts,R=>Okd t/\(∀u∈ts,Okd u)/\R (.bool (!ts.any fun u=>u.eqv t))
 | t,.list ts,R=>Okd t/\(∀u∈ts,Okd u)/\R (.bool (!ts.any fun u=>u.eqv t))
 | _,_,_=>False
theorem zgw:Gp2 X (rInD X.K true) ZF:=by
 intro hd O H x y t u Q R dom C G h v;unfold ZF at h;split at h
 ·exact⟨hd,O,_,_,C,.inl G,h.1,h.2.1,v _ _ H h.2.2 (Same.refl H) (.bl _)⟩
 ·exact⟨hd,O,_,_,C,.inr G,h.1,h.2.1,v _ _ H h.2.2 (Same.refl H) (.bl _)⟩
 ·exact h.elim
def oLtA:G2
 | .int i,.int j,R=>R (.bool (decide (i<j)))
 | .str i,.str j,R=>R (.bool (decide (i.cps.toList<j.cps.toList)))
 | .tuple xs,.tuple ys,R=>∃ns v,xs=ns.map bU/\ys=v.map bU/\R (.bool (HT.lexLt ns v))
 | _,_,_=>False
def rLtA(K:qF):R2:=fun x y H Q=>(rI0 fun i j=>.bl (decide (i<j))) x y H Q\/(∃i j,x=.str i/\y=.str j/\Q (.bl (decide (i.cps.toList<j.cps.toList))) H)\/rLtT K x y H Q
theorem QE(l:Room k X.A):OpR X (compareOp .Lt) (rLtA X.K):=OpR.or zsJ (OpR.or zlB (zsI l.units0))
theorem zeg{K:qF}{hd:Option ak}{O:ak->Prop}{H:Hp}:∀{ns:List Int}{l:List V},Reps K hd O H l (ns.map bU)->l=ns.map V.int
 | [],_,h=>by cases h;rfl
 | n::ns,_,h=>by
  cases h with
  | cons h r=>rw[h.intI,zeg r];rfl
theorem QC:Gp2 X (rLtA X.K) oLtA:=by
 intro hd O H x y t u Q R dom v G h C;unfold oLtA at h;split at h
 ·exact .inl ⟨_,_,v.intI,G.intI,C _ _ H h (Same.refl H) (.bl _)⟩
 ·exact .inr (.inl ⟨_,_,v.strI,G.strI,C _ _ H h (Same.refl H) (.bl _)⟩)
 ·obtain⟨ns,I,rfl,rfl,h⟩:=h;obtain⟨p,U,J,s1,L⟩:=v.tupI;obtain⟨q,Y,S,s2,N⟩:=G.tupI;rw[zeg L]at s1;rw[zeg N]at s2;exact .inr (.inr ⟨p,q,ns,I,J,S,s1,s2,C _ _ H h (Same.refl H) (.bl _)⟩)
 ·exact h.elim
def oLeA:G2
 | .int i,.int j,R=>R (.bool (decide (i<=j)))
 | .str i,.str j,R=>R (.bool (!decide (j.cps.toList<i.cps.toList)))
 | _,_,_=>False
def rLeA:R2:=fun x y H Q=>(rI0 fun i j=>.bl (decide (i<=j))) x y H Q\/(∃i j,x=.str i/\y=.str j/\Q (.bl (!decide (j.cps.toList<i.cps.toList))) H)
theorem zlC:OpR X (compareOp .LtE) (fun x y H Q=>∃i j,x=.str i/\y=.str j/\Q (.bl (!decide (j.cps.toList<i.cps.toList))) H):=by
 intro pins s σ H x y v u Q I C G h;obtain⟨i,j,rfl,rfl,q⟩:=h;obtain⟨t,rfl⟩:=C;obtain⟨t',rfl⟩:=G;exact PySem.P.le_str ⟨.bl _,H,I,rfl,q⟩
theorem Qu:OpR X (compareOp .LtE) rLeA:=OpR.or zwd zlC
theorem Qt:Gp2 X rLeA oLeA:=by
 intro hd O H x y t u Q R dom C G h v;unfold oLeA at h;split at h
 ·exact .inl ⟨_,_,C.intI,G.intI,v _ _ H h (Same.refl H) (.bl _)⟩
 ·exact .inr ⟨_,_,C.strI,G.strI,v _ _ H h (Same.refl H) (.bl _)⟩
 ·exact h.elim
variable{r r':R2}{g g':G2}
theorem VW(ho:OpR X (compareOp op) r)(hg:Gp2 X r g)(ho':OpR X (compareOp op') r')(hg':Gp2 X r' g')(ha:DL X a da)(hb:DL X b db)(hc:DL X c dc)
  (hm:lastMarks [op,op'] [b,c]=false:=by with_unfolding_all rfl):DE X (.Compare a [op,op'] [b,c] pos) (YI g g' da db dc):=by
 obtain⟨ta,pa,ha⟩:=ha;obtain⟨tb,pb,hb⟩:=hb;obtain⟨tc,pc,hc⟩:=hc;refine⟨_,znT ho ho' pa pb pc hm,fun C ρ σ H n Q R S h hq=>?_⟩
 refine two ha hb S h fun x y n2 v w H2 r2 e S2 q1 q2=>?_
 refine hg C.hd (Own C ρ σ) H2 v w x y _ _ (fun p=>S2.dom) q1 q2 r2 fun z u L I G N=>?_
 have Y:=S2.on G.ext (S2.hnd.same G);cases z with
 | bool k =>
  cases N;refine⟨k,rfl,?_⟩;cases k with
  | false=>exact iteF (hq _ n2 _ L I (e.trans G.ext) Y.hnd (.bl _))
  | true =>
   refine iteT (hc C ρ σ L n2 _ _ Y I fun z2 n3 w2 H4 r4 U h4 q4=>?_)
   have S4:=Y.on U h4;have Z:=U.repT S.hx ((Same.ext G:ExtE C.hd H2 L).repT S.hx q2);exact hg' C.hd (Own C ρ σ) H4 w w2 y z2 Q _ (fun p=>S4.dom) Z q4 r4 fun z u L I J N=>hq z n3 u L I (((e.trans G.ext).trans U).trans J.ext) (S4.hnd.same J) N
 | _=>exact I.elim
end
section
variable{X:Cx}{a b c e:aV}{es rest:List aV}{d da db dc:DTE}{t u:DTT}{pos p:Pos}{k:Nat}
def truD:af->(Bool->Prop)->Prop
 | .none,R=>R false
 | .bool b,R=>R b
 | .int i,R=>R (decide (i≠0))
 | .str x,R=>x.length<=16777216/\R (decide (x.length≠0))
 | .list ts,R=>R (!ts.isEmpty)
 | .tuple ts,R=>R (!ts.isEmpty)
 | _,_=>False
def dTru(d:DTE):DTT:=fun v n R=>d v n fun t l=>truD t fun b=>R b l
theorem zoR{K:qF}{hd:Option ak}{O:ak->Prop}{H:Hp}{v:V}{t:af}{Q:Bool->Hp->Prop}{R:Bool->Prop}(r:RepT K hd O H v t)(h:truD t R)(y:∀b,R b->Q b H):∃k,TruV K v H k/\Q k H:=by
 cases t with
 | none=>exact⟨false,by rw[r.nonI];rfl,y _ h⟩
 | bool b=>exact⟨b,by rw[r.blI];rfl,y _ h⟩
 | int i=>exact⟨decide (i≠0),by rw[r.intI];show _=(i != 0);by_cases z:i=0 <;> simp[z],y _ h⟩
 | str x =>
  refine⟨decide (x.length≠0),by rw[r.strI];exact⟨h.1,by by_cases z:x.length=0 <;> simp[z]⟩,y _ h.2⟩
 | list ts =>
  obtain⟨p,C,e,I,G⟩:=r.lstI;subst e;refine⟨!ts.isEmpty,.inl ⟨C,.of I,?_⟩,y _ h⟩;cases G <;> rfl
 | tuple ts =>
  obtain⟨p,C,e,I,G⟩:=r.tupI;subst e;refine⟨!ts.isEmpty,.inr (.inl ⟨C,I,?_⟩),y _ h⟩;cases G <;> rfl
 | dict _=>exact h.elim
theorem Qc(l:DL X a da)(x:∀whole,isTrue a X.env whole=(do let v <- whole;standAt a.pos;holding [v] (truthy v)):=by intro _;rfl):DT X a (dTru da):=by
 obtain⟨Y,pa,l⟩:=l;refine⟨_,znM pa x,fun C I σ H n Q R S h N=>?_⟩
 refine l C I σ H n _ _ S h fun t G v U r J L q=>?_
 exact zoR q r fun b y=>N b G U y J L
def dAnd(t u:DTT):DTT:=fun l n R=>t l n fun b v=>if b=true then u l v R else R false v
def dOr(t u:DTT):DTT:=fun l n R=>t l n fun b v=>if b=true then R true v else u l v R
def dNot(t:DTT):DTT:=fun l n R=>t l n fun b v=>R (!b) v
theorem Qr(h:DW X a t):DT X a t:=by
 obtain⟨l,pa,h⟩:=h;exact⟨_,pa.pt,h⟩
theorem Z9(h:DT X a t):DW X (.BoolOp .And [a] pos) t:=by
 obtain⟨v,pa,h⟩:=h;exact⟨_,zpG pa,h⟩
theorem Ue(h:DT X a t):DW X (.BoolOp .Or [a] pos) t:=by
 obtain⟨v,pa,h⟩:=h;exact⟨_,zsa pa,h⟩
theorem ZJ(h:DT X a t)(h':DW X (.BoolOp .And (b::rest) pos) u):DW X (.BoolOp .And (a::b::rest) pos) (dAnd t u):=by
 obtain⟨ta,pa,h⟩:=h;obtain⟨tb,Y,h'⟩:=h';refine⟨_,zsb pa Y,fun C y σ H n Q R S hd J=>?_⟩
 refine h C y σ H n _ _ S hd fun b G x r v I=>?_
 cases b with
 | true=>exact iteT (h' C y σ x G Q R (S.on v I) (by simpa using r) fun b L N r Z U=>J b L N r (v.trans Z) U)
 | false=>exact iteF (J _ G x (by simpa using r) v I)
theorem QM(h:DT X a t)(h':DW X (.BoolOp .Or (b::rest) pos) u):DW X (.BoolOp .Or (a::b::rest) pos) (dOr t u):=by
 obtain⟨ta,pa,h⟩:=h;obtain⟨tb,Y,h'⟩:=h';refine⟨_,zv8 pa Y,fun C y σ H n Q R S hd J=>?_⟩
 refine h C y σ H n _ _ S hd fun b G x r v I=>?_
 cases b with
 | false=>exact iteF (h' C y σ x G Q R (S.on v I) (by simpa using r) fun b L N r Z U=>J b L N r (v.trans Z) U)
 | true=>exact iteT (J _ G x (by simpa using r) v I)
theorem Qw(h:DT X a t):DT X (.UnaryOp .Not a pos) (dNot t):=by
 obtain⟨L,pa,h⟩:=h;refine⟨_,zse pa,fun C v σ H n Q R S hd J=>?_⟩
 exact h C v σ H n _ _ S hd fun b G l r x I=>J _ G l r x I
def bolD:af->(Bool->Prop)->Prop
 | .bool b,R=>R b
 | _,_=>False
def zra(da db:DTE):DTE:=fun v n R=>da v n fun t x=>bolD t fun b=>if b=true then db v x R else R (.bool false) x
def dOrV(da db:DTE):DTE:=fun v n R=>da v n fun t x=>bolD t fun b=>if b=true then R (.bool true) x else db v x R
def zq9(da:DTE):DTE:=fun v n R=>da v n fun t x=>bolD t fun b=>R (.bool (!b)) x
theorem UC{op}(h:DE X a d):DE X (.BoolOp op [a] pos) d:=by
 obtain⟨v,pa,h⟩:=h;exact⟨_,zsu pa,h⟩
theorem Z6(h:DE X a da)(h':DE X (.BoolOp .And (b::rest) pos) db):DE X (.BoolOp .And (a::b::rest) pos) (zra da db):=by
 obtain⟨ta,pa,h⟩:=h;obtain⟨tb,pb,h'⟩:=h';refine⟨_,zsA pa pb,fun C G σ H n Q R S hd L=>?_⟩
 refine h C G σ H n _ _ S hd fun t I v y r x J N=>?_
 cases t with
 | bool b =>
  cases N;refine⟨b,rfl,?_⟩;cases b with
  | true=>exact iteT (h' C G σ y I Q R (S.on x J) (by simpa[bolD] using r) fun t U v Y r e2 Z q2=>L t U v Y r (x.trans e2) Z q2)
  | false=>exact iteF (L _ I _ y (by simpa[bolD] using r) x J (.bl _))
 | _=>exact r.elim
theorem zpn(h:DE X a da)(h':DE X (.BoolOp .Or (b::rest) pos) db):DE X (.BoolOp .Or (a::b::rest) pos) (dOrV da db):=by
 obtain⟨ta,pa,h⟩:=h;obtain⟨tb,pb,h'⟩:=h';refine⟨_,zv_ pa pb,fun C G σ H n Q R S hd L=>?_⟩
 refine h C G σ H n _ _ S hd fun t I v y r x J N=>?_
 cases t with
 | bool b =>
  cases N;refine⟨b,rfl,?_⟩;cases b with
  | false=>exact iteF (h' C G σ y I Q R (S.on x J) (by simpa[bolD] using r) fun t U v Y r e2 Z q2=>L t U v Y r (x.trans e2) Z q2)
  | true=>exact iteT (L _ I _ y (by simpa[bolD] using r) x J (.bl _))
 | _=>exact r.elim
theorem zq3(h:DE X a da):DE X (.UnaryOp .Not a pos) (zq9 da):=by
 obtain⟨ta,pa,h⟩:=h;refine⟨_,zsv pa,fun C I σ H n Q R S hd Z=>?_⟩
 refine h C I σ H n _ _ S hd fun t L v x r J Y G=>?_
 cases t with
 | bool b =>
  cases G;exact⟨b,rfl,Z _ L _ x r J Y (.bl _)⟩
 | _=>exact r.elim
def dIfE(t:DTT)(da db:DTE):DTE:=fun l n R=>t l n fun b v=>if b=true then da l v R else db l v R
theorem zoF(hc:DT X c t)(h:DE X a da)(h':DE X b db):DE X (.IfExp c a b pos) (dIfE t da db):=by
 obtain⟨tc,pc,hc⟩:=hc;obtain⟨ta,pa,h⟩:=h;obtain⟨tb,pb,h'⟩:=h';refine⟨_,znS pc pa pb,fun C L σ H n Q R S hd hq=>?_⟩
 refine hc C L σ H n _ _ S hd fun b Z Y r l h1=>?_
 cases b with
 | true=>exact iteT (h C L σ Y Z Q R (S.on l h1) (by simpa using r) fun t y v G r U J N=>hq t y v G r (l.trans U) J N)
 | false=>exact iteF (h' C L σ Y Z Q R (S.on l h1) (by simpa using r) fun t y v G r U J N=>hq t y v G r (l.trans U) J N)
def dNil:DTA:=fun _ n R=>R [] n
def Qi(d:DTE)(ds:DTA):DTA:=fun l n R=>d l n fun t x=>ds l x fun ts v=>R (t::ts) v
theorem Ja:DB X [] dNil:=⟨_,QF,fun C x σ H n Q R S h v=>v [] n [] H h ExtE.refl S.hnd .nil rfl⟩
theorem zmI(h:DE X e d)(l:DB X es ds)(Y:starEach (e::es) X.env=(false,eval e X.env)::starEach es X.env):DB X (e::es) (Qi d ds):=by
 obtain⟨ta,pa,h⟩:=h;obtain⟨tb,pb,l⟩:=l;refine⟨_,Qf pa pb Y,fun C x σ H n Q R S hd hq=>?_⟩
 refine h C x σ H n _ _ S hd fun t n1 v I r y h1 J=>?_
 refine l C x σ I n1 _ _ (S.on y h1) r fun ts L vs N r2 G U Z l2=>?_
 exact hq _ L _ N r2 (y.trans G) U (.cons (G.rep S.hx J) Z) (by simp[l2])
def Zm(K:qF)(hd:Option ak)(O:ak->Prop)(H:Hp):List V->List af->Prop:=eN (RepT K hd O H)
def DBL(X:Cx)(es:List aV)(d:DTA):Prop:=∃x,PB X es x/\∀(C:Ctx) (v:En) (σ:St) (H:Hp) (n:Nat) (Q:List V->Hp->Prop) (R:List af->Nat->Prop),Stt X.K C v σ H n->d v n R ->
 (∀ts y G l,R ts y->ExtE C.hd H l->Hn C.hd l y->Zm X.K C.hd (Own C v σ) l G ts->ts.length=es.length->Q G l)->x σ H Q
theorem JA:DBL X [] dNil:=⟨_,QF,fun C x σ H n Q R S h v=>v [] n [] H h ExtE.refl S.hnd .nil rfl⟩
theorem Js(h:DL X e d)(l:DBL X es ds)(Y:starEach (e::es) X.env=(false,eval e X.env)::starEach es X.env):DBL X (e::es) (Qi d ds):=by
 obtain⟨ta,pa,h⟩:=h;obtain⟨tb,pb,l⟩:=l;refine⟨_,Qf pa pb Y,fun C x σ H n Q R S hd hq=>?_⟩
 refine h C x σ H n _ _ S hd fun t n1 v I r y h1 J=>?_
 refine l C x σ I n1 _ _ (S.on y h1) r fun ts L vs N r2 G U Z l2=>?_
 exact hq _ L _ N r2 (y.trans G) U (.cons (G.repT S.hx J) Z) (by simp[l2])
def dTup(ds:DTA):DTE:=fun v n R=>ds v n fun ts x=>R (.tuple ts) x
theorem Je(h:DB X es ds)(J:es.length<=sizeLine:=by decide):DE X (.Tuple es x1 pos) (dTup ds):=by
 obtain⟨ta,pa,h⟩:=h;refine⟨_,zpQ pa,fun C N σ H n Q R S hd Y=>?_⟩
 refine h C N σ H n _ _ S hd fun ts U vs Z r y G x I=>⟨by rw[x.length,I];exact J,fun p v=>?_⟩
 have L:=S.on y G;exact Y _ U _ _ r (y.trans (ExtE.new v)) (G.same (JS v)) (.newT (L.free v) v x)
theorem Jz(h:DB X es ds)(U:es.length<=sizeLine:=by decide):DN X (.List es pos) ds:=by
 obtain⟨ta,pa,h⟩:=h;refine⟨_,zlv pa,fun C Z σ H n Q R S hd hq=>?_⟩
 refine h C Z σ H n _ _ S hd fun ts n1 Y H1 r G I J N=>⟨by rw[J.length,N];exact U,fun p l=>?_⟩
 have S1:=S.on G I;have x:H p=none:=by
  cases z:H p with
  | none=>rfl
  | some o =>
   by_cases y:C.hd=some p
   ·obtain⟨d,m,t,q,_⟩:=I p y;rw[l]at q;cases q
   ·rw[G p o z y]at l;cases l
 refine hq ts n1 p Y _ r (G.trans (ExtE.new l)) (I.same (JS l)) x JM ?_;refine J.mono (fun b o v z=>z.elim id fun z=>?_) fun b o _ v=>JS l b o v
 subst z;rw[l]at v;cases v
end
section
variable{X:Cx}{a b c e:aV}{es rest:List aV}{d da db dc:DTE}{ds:DTA}{pos p:Pos}{k:Nat}{x:Str}
abbrev GC:=List af->(af->Prop)->Prop
def ZM(g:GC)(ds:DTA):DTE:=fun l n R=>ds l n fun ts u=>g ts fun z=>R z u
def GpC(X:Cx)(r:List V->Hp->VK->Prop)(g:GC):Prop:=∀(hd:Option ak) (O:ak->Prop) (H:Hp) (xs:List V) (ts:qD) (Q:VK) (R:af->Prop),(∀p,O p->H p≠none)->Zm X.K hd O H xs ts->g ts R ->
 (∀z v l,R z->Same H l->Rep X.K hd O l v z->Q v l)->r xs H Q
theorem JQ{id:String}{r:List V->Hp->VK->Prop}{g:GC}(hc:JX X (.builtin id) r)(y:GpC X r g)(hm:X.mg x=none)(hv:bootBuiltins x=some (.builtin id))(h:DBL X (e::es) ds)(hg:Gl X x:=by rfl)(hn:x ≠ "__name__":=by decide) (v:(x == ("__debug__":Str))=false:=by rfl) :
  DE X (.Call (.Name x p) (e::es) [] pos) (ZM g ds):=by
 obtain⟨ta,pa,h⟩:=h;refine⟨_,Uw hc hm hv pa hg hn v,fun C I σ H n Q R S hd hq=>?_⟩
 refine h C I σ H n _ _ S hd fun ts n1 vs Y r1 J L Z _=>?_
 have S1:=S.on J L;exact y C.hd (Own C I σ) Y vs ts Q _ (fun p=>S1.dom) Z r1 fun z u H' rz G U=>hq z n1 u H' rz (J.trans G.ext) (L.same G) U
theorem Uy(hc:JX X (.type T) r)(G:GpC X r g)(hm:X.mg x=none)(hv:bootBuiltins x=some (.type T))(h:DBL X (e::es) ds)(hg:Gl X x:=by rfl)(hn:x ≠ "__name__":=by decide) (v:(x == ("__debug__":Str))=false:=by rfl) :
  DE X (.Call (.Name x p) (e::es) [] pos) (ZM g ds):=by
 obtain⟨ta,pa,h⟩:=h;refine⟨_,zsy hc hm hv pa hg hn v,fun C J σ H n Q R S hd hq=>?_⟩
 refine h C J σ H n _ _ S hd fun ts n1 vs Z r1 L U q1 _=>?_
 have S1:=S.on L U;exact G C.hd (Own C J σ) Z vs ts Q _ (fun p=>S1.dom) q1 r1 fun z u H' rz I Y=>hq z n1 u H' rz (L.trans I.ext) (U.same I) Y
theorem UG{K:qF}{hd:Option ak}{O:ak->Prop}{H:Hp}{xs:List V}{t:af}(h:Zm K hd O H xs [t]):∃v,xs=[v]/\RepT K hd O H v t:=by
 cases h with
 | cons h r=>cases r;exact⟨_,rfl,h⟩
theorem zoY{K:qF}{hd:Option ak}{O:ak->Prop}{H:Hp}{xs:List V}{t u:af}(h:Zm K hd O H xs [t,u]):∃v w,xs=[v,w]/\RepT K hd O H v t/\RepT K hd O H w u:=by
 cases h with
 | cons h r=>cases r with|cons l r=>cases r;exact⟨_,_,rfl,h,l⟩
def bLen:GC:=fun l R=>(∃ts,l=[.list ts]/\R (.int ts.length))\/(∃ts,l=[.tuple ts]/\R (.int ts.length))\/(∃x:Str,l=[.str x]/\x.length<=16777216/\R (.int x.length))\/∃ts,l=[.dict [(.none,.list ts)]]/\R (.int ts.length)
def rLen(K:qF):List V->Hp->VK->Prop:=fun xs H Q=>∃x n,xs=[x]/\LenV K x H n/\Q (.int n) H
theorem Q3:GpC X (rLen X.K) bLen:=by
 intro hd O H xs ts Q R dom rs h y;rcases h with⟨ts,rfl,h⟩|⟨ts,rfl,h⟩|⟨x,rfl,h⟩|⟨ts,rfl,h⟩
 ·obtain⟨v,rfl,r⟩:=UG rs;obtain⟨p,C,rfl,u,G⟩:=r.lstI;exact⟨_,_,rfl,.inl ⟨C,.of u,rfl⟩,by rw[G.length];exact y _ _ H h (Same.refl H) (.int _)⟩
 ·obtain⟨v,rfl,r⟩:=UG rs;obtain⟨p,C,rfl,u,G⟩:=r.tupI;exact⟨_,_,rfl,.inr ⟨C,u,rfl⟩,by rw[G.length];exact y _ _ H h (Same.refl H) (.int _)⟩
 ·obtain⟨v,rfl,r⟩:=UG rs;rw[r.strI];exact⟨_,_,rfl,⟨h.1,rfl⟩,y _ _ H h.2 (Same.refl H) (.int _)⟩
 ·obtain⟨v,rfl,r⟩:=UG rs;have r:=r.rep (by intro _ z;cases z)
  generalize e:(vc [(lV,vd ts)])=t at r;cases r with
  | scr u o =>
   simp only[SCR,kD,gK,kI,nE,true_and,and_true]at e;subst e;exact⟨_,_,rfl,.inl ⟨_,.inl u,rfl⟩,by simpa using y _ _ H h (Same.refl H) (.int _)⟩
  | scrS u =>
   simp only[SCR,kD,gK,kI,nE,true_and,and_true]at e;subst e;exact⟨_,_,rfl,.inl ⟨_,u H,rfl⟩,by simpa using y _ _ H h (Same.refl H) (.int _)⟩
  | hand _=>simp[HAND]at e
  | exc _ _=>simp[EXC]at e
  | dct _ _=>cases e
  | dcK _ _ _ I=>cases e;exact(dict_noK I).elim
  | dcT _ _ _ I=>cases e;exact(dict_noT I).elim
  | _=>cases e
def bMin:GC
 | [.int i,.int j],R=>R (.int (if j<i then j else i))
 | _,_=>False
def bMax:GC
 | [.int i,.int j],R=>R (.int (if j > i then j else i))
 | _,_=>False
theorem zmn:GpC X (fun xs H Q=>∃i j,xs=[.int i,.int j]/\Q (.int (if j<i then j else i)) H) bMin:=by
 intro hd O H xs ts Q R dom rs h l;unfold bMin at h;split at h
 ·obtain⟨v,w,rfl,u,y⟩:=zoY rs;rw[u.intI,y.intI];exact⟨_,_,rfl,l _ _ H h (Same.refl H) (.int _)⟩
 ·exact h.elim
theorem zmo:GpC X (fun xs H Q=>∃i j,xs=[.int i,.int j]/\Q (.int (if j > i then j else i)) H) bMax:=by
 intro hd O H xs ts Q R dom rs h l;unfold bMax at h;split at h
 ·obtain⟨v,w,rfl,u,y⟩:=zoY rs;rw[u.intI,y.intI];exact⟨_,_,rfl,l _ _ H h (Same.refl H) (.int _)⟩
 ·exact h.elim
def bAll:GC
 | [.list ts],R=>∃bs:List Bool,ts=bs.map cI/\R (.bool (bs.all id))
 | _,_=>False
theorem V8{K:qF}{hd:Option ak}{O:ak->Prop}{H:Hp}:∀{ns:List Bool}{l:List V},Reps K hd O H l (ns.map cI)->l=ns.map V.bl
 | [],_,h=>by cases h;rfl
 | n::ns,_,h=>by
  cases h with
  | cons h r=>rw[h.blI,V8 r];rfl
theorem zmq:GpC X (fun xs H Q=>∃(a:ak) (bs:List Bool),xs=[.ref a]/\SqL X.K H a (bs.map V.bl)/\Q (.bl (bs.all id)) H) bAll:=by
 intro hd O H xs ts Q R dom rs h C;unfold bAll at h;split at h
 ·obtain⟨bs,rfl,h⟩:=h;obtain⟨v,rfl,G⟩:=UG rs;obtain⟨p,I,rfl,u,y⟩:=G.lstI;rw[V8 y]at u;exact⟨p,bs,rfl,.of u,C _ _ H h (Same.refl H) (.bl _)⟩
 ·exact h.elim
def ZA:GC
 | [.list ts],R=>R (.tuple ts)
 | [.tuple ts],R=>R (.tuple ts)
 | _,_=>False
theorem UK:GpC X (fun xs H Q=>∃p ys,xs=[.ref p]/\((SqL X.K H p ys/\∀l,H l=none->Q (.ref l) (upd H l (.tup ys)))\/(SqT X.K H p ys/\Q (.ref p) H))) ZA:=by
 intro hd O H xs ts Q R dom rs h L;unfold ZA at h;split at h
 ·obtain⟨v,rfl,y⟩:=UG rs;obtain⟨p,G,rfl,I,J⟩:=y.lstI;refine⟨p,G,rfl,.inl ⟨.of I,fun l C=>?_⟩⟩
  exact L _ _ _ h (JS C) (.newT (fun z=>dom l z C) C J)
 ·obtain⟨v,rfl,y⟩:=UG rs;obtain⟨p,G,rfl,I,J⟩:=y.tupI;exact⟨p,G,rfl,.inr ⟨I,L _ _ H h (Same.refl H) (y.rep (by intro _ z;cases z))⟩⟩
 ·exact h.elim
def J3:af->(List af->Prop)->Prop
 | .list ts,R=>R ts
 | .tuple ts,R=>R ts
 | _,_=>False
def tyN:af->Option String
 | .none=>some "NoneType"
 | .bool _=>some "bool"
 | .int _=>some "int"
 | .str _=>some "str"
 | .list _=>some "list"
 | .tuple _=>some "tuple"
 | .dict []=>some "dict"
 | .dict _=>none
def rIsi(K:qF):List V->Hp->VK->Prop:=fun xs H Q=>∃x hd O t T y b,xs=[x,.ty T]/\RepT K hd O H x t/\tyN t=some y/\kitB y T=some b/\Q (.bl b) H
theorem zmW:JX X (.builtin "isinstance") (rIsi X.K):=by
 intro pins s σ H xs us Q I r h;obtain⟨x,hd,O,t,T,y,b,rfl,J,ty,e,q⟩:=h;cases r with
 | cons C r2 =>
  cases r2 with
  | cons U Z =>
   cases Z;cases(show _=bL T from U)
   have fin:∀G,tyN t=some G->G=y:=fun G h=>aO (h.symm.trans ty)
   have go:Ty H x y->wpAny (model X.prog X.w) X.A (call (.builtin "isinstance") [_,bL T]) (EP X pins σ Q) X.xe s:=fun ty=>zmd I C ty.of ((YJ X.K y T).trans e) fun tk=>⟨.bl b,H,I.tok tk,rfl,q⟩
   rcases J with J|⟨a,vs,ds,rfl,rfl,L,h4,_⟩|⟨a,zs,N,R,rfl,rfl,L,h4,_⟩
   ·cases J with
    | non=>cases ty;exact go .non
    | bl b=>cases ty;exact go (.bl b)
    | int i=>cases ty;exact go (.int i)
    | str i=>cases ty;exact go (.str i)
    | tup h o r=>cases ty;exact go (.tup h)
    | lst h o r=>cases ty;exact go (.lst h)
    | @dct a N h o =>
      cases ty;cases(show _=cA a from C)
      obtain⟨⟨_,_,_,v,es,g1,g2,_⟩,_⟩:=I.hok a _ h;exact bP eX I.kIn ⟨v,g1,g2.1⟩ ((YJ X.K "dict" T).trans e) (fun z=>nomatch z) fun tk=>⟨.bl b,H,I.tok tk,rfl,q⟩
    | @dcK a kvs N R ps h o r e' =>
     cases ps with
     | nil =>
      cases ty;cases(show _=cA a from C)
      obtain⟨⟨_,_,_,v,es,g1,g2,_⟩,_⟩:=I.hok a _ h;exact bP eX I.kIn ⟨v,g1,g2.1⟩ ((YJ X.K "dict" T).trans e) (fun z=>nomatch z) fun tk=>⟨.bl b,H,I.tok tk,rfl,q⟩
     | cons _ _=>simp[tyN]at ty
    | @dcT a zs N R ps h o r e' =>
     cases ps with
     | nil =>
      cases ty;cases(show _=cA a from C)
      obtain⟨⟨_,_,_,v,es,g1,g2,_⟩,_⟩:=I.hok a _ h;exact bP eX I.kIn ⟨v,g1,g2.1⟩ ((YJ X.K "dict" T).trans e) (fun z=>nomatch z) fun tk=>⟨.bl b,H,I.tok tk,rfl,q⟩
     | cons _ _=>simp[tyN]at ty
    | hand h=>simp[HAND,tyN]at ty
    | scr h o=>simp[SCR,tyN]at ty
    | scrS h=>simp[SCR,tyN]at ty
    | exc h o=>simp[EXC,tyN]at ty
    | @tupS a vs ds h r =>
     cases ty;cases(show _=cA a from C)
     obtain⟨o,S,n,Y,hc,_⟩:=h;exact bP mO I.kIn ⟨o,I.kIn a o Y,hc⟩ ((YJ X.K "tuple" T).trans e) (fun z=>nomatch z) fun tk=>⟨.bl b,H,I.tok tk,rfl,q⟩
   ·cases ty;exact go (.lst L)
   ·cases R with
    | nil =>
     cases ty;cases(show _=cA a from C)
     obtain⟨⟨_,_,_,v,es,g1,g2,_⟩,_⟩:=I.hok a _ L;exact bP eX I.kIn ⟨v,g1,g2.1⟩ ((YJ X.K "dict" T).trans e) (fun z=>nomatch z) fun tk=>⟨.bl b,H,I.tok tk,rfl,q⟩
    | cons _ _=>simp[tyN,Ys]at ty
def Shd(t:af):Prop:=t.showable=true/\t.hasDict=false/\t.depth<=60/\t.shown.length<=16777216
def zr8(K:qF):List V->Hp->VK->Prop:=fun xs H Q=>∃x hd O d,xs=[x]/\RepT K hd O H x d/\Shd d/\Q (.str d.shown) H
theorem zfV(y:Room k X.A):JX X (.builtin "repr") (zr8 X.K):=by
 intro pins s σ H xs us Q I r h;obtain⟨x,hd,O,d,rfl,S,⟨N,C,h3,J⟩,q⟩:=h;cases r with
 | cons Y r2 =>
  cases r2;have fin:∀h' tk u,(∀b o,s.heap.get? b=some o->h'.get? b=some o)->EP X pins σ Q (.str d.shown u) { s with heap:=h',toks:=tk }:=fun h' tk u v=>⟨.str d.shown,H,I.kept v,⟨_,rfl⟩,q⟩
  have G:∀tk u,EP X pins σ Q (.str d.shown u) { s with toks:=tk }:=fun tk u=>⟨.str d.shown,H,I.tok tk,⟨_,rfl⟩,q⟩
  obtain⟨as,U⟩:=S.reads I Y C;cases U with
  | none=>exact P.repr_of_none (by simpa only[g6] using G _ _)
  | bool b=>exact P.repr_of_bool (by simpa only[g6] using G _ _)
  | int i=>exact P.repr_of_int (by simpa[iF] using N) (by simpa only[g6] using G _ _)
  | str x=>exact P.repr_of_str (by simpa only[g6] using G _ _) (by have Z:_<=sizeLine:=J;simpa only[g6] using Z)
  | list a1 a2 R L=>exact pJ (.list a1 a2 R L) N (nF C) y.gd (by have:=y.units;omega) (fun _ _ e=>e) (fun h' u tk v=>fin h' tk u v) J
  | tuple a1 a2 R L=>exact pJ (.tuple a1 a2 R L) N (nF C) y.gd (by have:=y.units;omega) (fun _ _ e=>e) (fun h' u tk v=>fin h' tk u v) J
  | dict _ _ _ _ _=>simp[cF]at C
def Zo:GC
 | [t],R=>Shd t/\R (.str t.shown)
 | _,_=>False
theorem zmm:GpC X (zr8 X.K) Zo:=by
 intro hd O H xs ts Q R dom rs h l;unfold Zo at h;split at h
 ·obtain⟨v,rfl,u⟩:=UG rs;exact⟨v,hd,O,_,rfl,u,h.1,l _ _ H h.2 (Same.refl H) (.str _)⟩
 ·exact h.elim
end
section
variable{X:Cx}{a b c e:aV}{es rest:List aV}{d da db dc:DTE}{ds:DTA}{pos p:Pos}{k:Nat}{x:Str}
theorem Reps.atI{K:qF}{hd:Option ak}{O:ak->Prop}{H:Hp}{vs ts}{i:Int}{t}(r:Reps K hd O H vs ts)(h:L2.atI ts i=some t):∃v,L2.atI vs i=some v/\Rep K hd O H v t:=by
 unfold L2.atI at h ⊢;rw[r.length];cases e:ixN ts.length i with
 | none=>rw[e]at h;cases h
 | some j =>
  rw[e]at h;have h:ts[j]?=some t:=h;exact r.get h
def oIx:G2
 | .list ts,.int i,R=>match atI ts i with|some t=>R t|none=>False
 | .tuple ts,.int i,R=>match atI ts i with|some t=>R t|none=>False
 | .str x,.int i,R=>x.length<=16777216/\match atI x.cps.toList i with|some c=>R (.str ⟨#[c]⟩)|none=>False
 | _,_,_=>False
theorem zwV:Gp2 X (rIx X.K) oIx:=by
 intro hd O H x y t u Q R dom C U h S;unfold oIx at h;split at h
 ·rename_i ts i;obtain⟨p,J,rfl,N,L⟩:=C.lstI;split at h
  ·rename_i t G;obtain⟨v,ev,I⟩:=L.atI G;exact .inl ⟨p,J,i,v,rfl,U.intI,.of N,ev,S _ _ H h (Same.refl H) I⟩
  ·exact h.elim
 ·rename_i ts i;obtain⟨p,J,rfl,N,L⟩:=C.tupI;split at h
  ·rename_i t G;obtain⟨v,ev,I⟩:=L.atI G;exact .inr (.inl ⟨p,J,i,v,rfl,U.intI,N,ev,S _ _ H h (Same.refl H) I⟩)
  ·exact h.elim
 ·rename_i z i;obtain⟨h0,h⟩:=h;split at h
  ·rename_i c Y;exact .inr (.inr ⟨z,i,c,C.strI,U.intI,h0,Y,S _ _ H h (Same.refl H) (.str _)⟩)
  ·exact h.elim
 ·exact h.elim
theorem Ji(l:DL X a da)(G:DL X b db)(hs:zm9 b:=by intro _ _;rfl):DE X (.Subscript a b pos) (dOp oIx da db):=by
 obtain⟨ta,pa,l⟩:=l;obtain⟨tb,pb,G⟩:=G;refine⟨_,Ux ztB pa pb hs,fun C ρ σ H n Q R S h hq=>?_⟩
 refine two l G S h fun x y U v w Y r2 e J N q2=>?_
 exact zwV C.hd (Own C ρ σ) Y v w x y Q _ (fun p=>J.dom) N q2 r2 fun z u H' Z I L=>hq z U u H' Z (e.trans I.ext) (J.hnd.same I) L
def dNeg(d:DTE):DTE:=fun l n R=>d l n fun t u=>match t with|.int i=>R (.int (-i)) u|_=>False
theorem UZ(h:DE X a da):DE X (.UnaryOp .USub a pos) (dNeg da):=by
 obtain⟨Z,pa,h⟩:=h;refine⟨_,zv9 zrB pa,fun C I σ H n Q R S hd Y=>?_⟩
 refine h C I σ H n _ _ S hd fun t L v l r J N G=>?_
 cases t with
 | int i=>rw[G.intI];exact⟨i,rfl,Y _ L _ l r J N (.int _)⟩
 | _=>exact r.elim
def zr9(K:qF):R2:=fun x y H Q=>∃a b xs ys,x=.ref a/\y=.ref b/\SqT K H a xs/\SqT K H b ys/\xs.length+ys.length<=sizeLine /\
 (xs=[]->Q (.ref b) H)/\(ys=[]->Q (.ref a) H)/\∀p,H p=none->Q (.ref p) (upd H p (.tup (xs++ys)))
theorem zp8:OpR X (binaryOp .Add) (zr9 X.K):=by
 intro pins s σ H x y v u Q I R Z h;obtain⟨a,b,xs,ys,rfl,rfl,Y,hb,hz,q0,q1,q2⟩:=h
 by_cases hx:xs=[]
 ·cases R;cases Z;obtain⟨C,r1,p1,_⟩:=I.tuple Y;obtain⟨J,r2,p2,_⟩:=I.tuple hb;have hv:C=[]:=r1.nil_iff.mpr hx;obtain⟨⟨cls,dd,data,sl⟩,S,hc,n,hd⟩:=id p1;obtain⟨⟨U,N,data2,L⟩,G,l,n2,hd2⟩:=id p2;simp only at hc hd l hd2;subst hc hd l hd2;exact nt ⟨_,S,rfl⟩ ⟨_,G,rfl⟩ kO mI gZ gR (gF _ _)
   (tuple_addW0 a b C.toArray J.toArray n n2 dd N sl L (by simp[hv])) ⟨S,G,⟨.ref b,H,I,rfl,q0 hx⟩⟩
 ·exact zp7 pins s σ H _ _ v u Q I R Z ⟨a,b,xs,ys,rfl,rfl,Y,hb,hx,hz,q1,fun _=>q2⟩
def oAdd:G2
 | .int i,.int j,R=>R (.int (i+j))
 | .str i,.str j,R=>i.length+j.length<=16777216/\R (.str (i++j))
 | .tuple xs,.tuple ys,R=>xs.length+ys.length<=16777216/\R (.tuple (xs++ys))
 | _,_,_=>False
def zr_(K:qF):R2:=fun x y H Q=>(rI0 fun i j=>.int (i+j)) x y H Q\/(∃i j,x=.str i/\y=.str j/\i.length+j.length<=sizeLine/\Q (.str (i++j)) H)\/zr9 K x y H Q
theorem zp9:OpR X (binaryOp .Add) (zr_ X.K):=OpR.or Uf (OpR.or zj9 zp8)
theorem zt6:Gp2 X (zr_ X.K) oAdd:=by
 intro hd O H x y t u Q R dom C G h v;unfold oAdd at h;split at h
 ·exact .inl ⟨_,_,C.intI,G.intI,v _ _ H h (Same.refl H) (.int _)⟩
 ·exact .inr (.inl ⟨_,_,C.strI,G.strI,h.1,v _ _ H h.2 (Same.refl H) (.str _)⟩)
 ·rename_i xs ys;obtain⟨p,S,rfl,Y,J⟩:=C.tupI;obtain⟨q,U,rfl,N,L⟩:=G.tupI;refine .inr (.inr ⟨p,q,S,U,rfl,rfl,Y,N,by rw[J.length,L.length];exact h.1,fun e=>?_,fun e=>?_,fun l I=>?_⟩)
  ·subst e;cases J;exact v _ _ H h.2 (Same.refl H) (G.rep (by intro _ z;cases z))
  ·subst e;cases L;exact v _ _ H h.2 (Same.refl H) (by rw[bW];exact C.rep (by intro _ z;cases z))
  ·exact v _ _ _ h.2 (JS I) (.newT (fun z=>dom l z I) I (J.append L))
 ·exact h.elim
theorem JO(l:DL X a da)(u:DL X b db):DE X (.BinOp a .Add b pos) (dOp oAdd da db):=QT zp9 zt6 l u
def dCat(da db:DTE):DTA:=fun u n R=>da u n fun x C=>db u C fun y v=>match x,y with|.list xs,.list ys=>xs.length+ys.length<=16777216/\R (xs++ys) v|_,_=>False
theorem VE{C:Ctx}{H u:Hp}{I:Nat}{p:ak}(G:ExtE C.hd H u)(v:Hn C.hd u I)(l:u p=none):H p=none:=by
 cases z:H p with
 | none=>rfl
 | some o =>
  by_cases y:C.hd=some p
  ·obtain⟨d,m,t,q,_⟩:=v p y;rw[l]at q;cases q
  ·rw[G p o z y]at l;cases l
theorem znI{K:qF}{hd:Option ak}{O:ak->Prop}{H:Hp}{p:ak}{o:HO}{vs ts}(u:H p=none)(r:Reps K hd O H vs ts):Reps K hd (fun a=>O a\/a=p) (upd H p o) vs ts:=by
 refine r.mono (fun b o l z=>z.elim id fun z=>?_) fun b o _ l=>JS u b o l
 subst z;rw[u]at l;cases l
theorem QZ(I:DL X a da)(J:DL X b db):DN X (.BinOp a .Add b pos) (dCat da db):=by
 obtain⟨ta,pa,I⟩:=I;obtain⟨tb,pb,J⟩:=J;refine⟨_,JC zsO pa pb,fun C ρ σ H n Q R S h hq=>?_⟩
 refine two I J S h fun x y n2 v w H2 G e U Y q2=>?_
 split at G
 ·obtain⟨p,vs,rfl,h1,L⟩:=Y.lstI;obtain⟨q,ws,rfl,Z,N⟩:=q2.lstI;refine⟨p,q,vs,ws,rfl,rfl,h1,Z,by rw[L.length,N.length];exact G.1,fun l u=>?_⟩
  exact hq _ n2 l _ _ G.2 (e.trans (ExtE.new u)) (U.hnd.same (JS u)) (VE e U.hnd u) JM (znI u (L.append N))
 ·exact G.elim
def oMul:=gI CMul fun i j=>i*j
theorem Vz(v:DL X a da)(y:DL X b db):DE X (.BinOp a .Mult b pos) (dOp oMul da db):=QT Q5 gp_I v y
abbrev GD:=List af->Nat->(af->Nat->Prop)->Prop
def spD(K:qF)(m:Nat)(g:GD):Sp:=fun y H Q _=>∃(hd:Option ak) (O:ak->Prop) (ts:qD) (n:Nat) (R:qN),Reps K hd O H y ts/\Hn hd H n/\(∀a,O a->MutO (H a))/\(∀a,hd=some a->O a)/\ts.length=m/\g ts n R /\
 ∀t u v l,R t u->ExtE hd H l->Hn hd l u->Rep K hd O l v t->Q v l
def dFn(g:GD)(ds:DTA):DTE:=fun l n R=>ds l n fun ts u=>g ts u R
theorem zwZ{st:dH}{ps:List Str}{f:ak}{fd:cR}{g:GD}{m:Nat}(D:Bd.Def X.K X.mg x st ps f fd)(G:FnOk X.prog X.w X.K X.mg X.base CX0 k f fd ps (spD X.K m g))(Y:Room k X.A)(h:DB X (e::es) ds)(hm:(e::es).length=m:=by rfl)(Z:Gl X x:=by rfl)
  (u:(x == ("__debug__":Str))=false:=by rfl):DE X (.Call (.Name x p) (e::es) [] pos) (dFn g ds):=by
 obtain⟨ta,pa,h⟩:=h;refine⟨_,Bd.zpT D G Y pa Z u,fun C y σ H n Q R S hd hq=>?_⟩
 refine h C y σ H n _ _ S hd fun ts n1 vs H1 r1 I J U L=>?_
 have S1:=S.on I J;rw[bW];exact⟨C.hd,Own C y σ,ts,n1,R,U,J,fun a=>S1.lst,fun a z=>.inl (S.hx a z),L.trans hm,r1,fun t n' v H' rt e2 h2 q2=>hq t n' v H' rt (I.trans e2) h2 q2⟩
def dFnL(g:GD)(ds:DTA):DTE:=fun u n R=>ds u n fun ts v=>g ts v fun t l=>JW t=true/\R t l
theorem zuv{st:dH}{ps:List Str}{f:ak}{fd:cR}{g:GD}{m:Nat}(D:Bd.Def X.K X.mg x st ps f fd)(G:FnOk X.prog X.w X.K X.mg X.base CX0 k f fd ps (spD X.K m g))(hr:Room k X.A)(h:DBL X (e::es) ds)(hm:(e::es).length=m:=by rfl)(hg:Gl X x:=by rfl)
  (y:(x == ("__debug__":Str))=false:=by rfl):DE X (.Call (.Name x p) (e::es) [] pos) (dFnL g ds):=by
 obtain⟨ta,pa,h⟩:=h;refine⟨_,Bd.zpT D G hr pa hg y,fun C ρ σ H n Q R S hd hq=>?_⟩
 refine h C ρ σ H n _ _ S hd fun ts n1 u Y r1 e1 L q1 l1=>?_
 have S1:=S.on e1 L;rw[bW];have lend:∀{u ts},Zm X.K C.hd (Own C ρ σ) Y u ts->Reps X.K C.hd (fun a=>C.hd=some a) Y u ts:=by
  intro u ts q;induction q with
  | nil=>exact .nil
  | cons r _ ih =>
   refine .cons ?_ ih;rcases r with r|⟨a,ws,us,rfl,rfl,I,J,U⟩|⟨a,zs,ep,ks,rfl,rfl,I,J,U⟩
   ·exact r.mono (fun a o _ z=>.inl (S.hx a z)) fun _ _ _ z=>z
   ·exact .lst I U (J.mono (fun a o _ z=>.inl (S.hx a z)) fun _ _ _ z=>z)
   ·exact .dcT I U (J.mono (fun a o _ z=>.inl (S.hx a z)) fun _ _ _ z=>z) rfl
 refine⟨C.hd,fun a=>C.hd=some a,ts,n1,_,lend q1,L,fun a z=>?_,fun a z=>z,l1.trans hm,r1,fun t n' v H' rt e2 Z q2=>?_⟩
 ·obtain⟨d,m,t,q,_⟩:=L a z;exact .inl ⟨_,q⟩
 ·exact hq t n' v H' rt.2 (e1.trans e2) Z (q2.up (fun a z=>(S1.on e2 Z).lst z) rt.1)
end
section
variable{X:Cx}{pins:qO}{σ:St}{H H':Hp}{s s':aq}{C e:ak}
theorem Inv.land(I:Inv X pins σ H s)(st:∀b o,s.heap.get? b=some o->b∉frs X.stack->h''.get? b=some o)(up:∀b o,s.heap.get? b=some o->b∈frs X.stack->∃l,h''.get? b=some { o with slots:=l }) :
  Un (frs X.stack) [] H H s.heap h''/\HOk X.prog X.w H h'':=by
 refine⟨⟨fun b o e _ x _=>st b o e x,fun b o e _ hf _=>up b o e hf,fun _ _ _ n _=>n,fun b o e _=>?_,fun _ _ q=>q,fun _ _ _ q=>q,fun _ _ q=>q⟩,fun a u e=>?_⟩
 ·by_cases hf:b∈frs X.stack
  ·obtain⟨l,q⟩:=up b o e hf;exact⟨_,q⟩
  ·exact⟨o,st b o e hf⟩
 ·refine(I.hok a u e).stay (fun c v hc q=>st c v q fun hf=>?_) (fun _ q=>q) (fun _ _ q=>q) fun _ _ _ q=>q
  have n:=I.stkFree c hf;rcases hc with z|z
  ·rw[z]at n;rw[n]at e;cases e
  ·rw[n]at z;cases z
def Fly1(P:aL)(w:aT)(l:List Env)(H H':Hp)(h:aW)(C e:ak)(h':aW):Prop :=
 ∃B u,nG B l e (.ref C) u h'/\H' e=none/\h.get? e=none/\∀h'',B.StaysIn h''->h'.UpToSlots h''->Un (frs l) [] H H' h h''/\HOk P w H' h''
def CX1(P:aL)(w:aT):CXT:=fun outer H s E e s'=>∃l C H',e=.ref l/\s'.os=s.os/\iy s'.gens/\Fly1 P w outer H H' s.heap C l s'.heap/\E (.ref C) none H'
inductive FlyX (X:Cx)(C:ak)(H':Hp)(e:ak)(s':aq):Prop
 | made {Iv:qO} {σ':St} {s h1} (I:Inv X Iv σ' H' s) (m:Heap.MadeExcOf s.heap h1 e (.ref C) []) (hs:s'={ s with heap:=h1 })
 | on {Iv:qO} {σ':St} {H1:Hp} {s} (I:Inv X Iv σ' H1 s) (os:s'.os=s.os) (bare:iy s'.gens) (f:Fly1 X.prog X.w X.stack H1 H' s.heap C e s'.heap)
def XW(X:Cx)(C:ak)(H':Hp):Prop:=∀e s',FlyX X C H' e s'->X.xe (.ref e) s'
theorem zwa:Vv (CX1 X.prog X.w) X (fun v _ H'=>∃C,v=.ref C/\XW X C H'):=fun pins σ H s e s' I l=>by
 obtain⟨u,C,H',rfl,os,bare,f,G,y,x⟩:=l;cases y;exact x u s' (.on I os bare f)
theorem zmj(x:HOk P w H h)(e:H a=some u):∃o,h.get? a=some o:=by
 have x:=x a u e;cases u with
 | lst xs=>obtain⟨_,_,_,_,e⟩:=x;exact⟨_,e⟩
 | tup xs=>obtain⟨_,_,_,o,e,_⟩:=x;exact⟨_,e⟩
 | dK l=>obtain⟨_,_,_,_,o,_,_,e,_⟩:=x;exact⟨_,e⟩
 | dT l=>obtain⟨_,_,_,_,o,_,_,e,_⟩:=x;exact⟨_,e⟩
 | set S n=>obtain⟨o,_,_,_,e,_⟩:=x;exact⟨_,e⟩
 | ins C v fs=>obtain⟨_,_,_,e,_⟩:=x;exact⟨_,e⟩
 | own y=>obtain⟨_,e⟩:=x;exact⟨_,e⟩
 | xd fs=>obtain⟨_,⟨_,_,_,e,_⟩,_⟩:=x;exact⟨_,e⟩
 | rng lo hi=>obtain⟨_,_,_,e⟩:=x;exact⟨_,e⟩
 | frz I u=>obtain⟨e,_⟩:=x;exact⟨_,e⟩
 | tbl ps=>obtain⟨_,e,_⟩:=x;exact⟨_,e⟩
 | met f y=>exact⟨_,show h.get? a=some _ from x⟩
 | ext G=>obtain⟨_,e,_⟩:=x;exact e
theorem zoq(x:HOk P w H h)(n:h.get? a=none):H a=none:=by
 cases q:H a with
 | none=>rfl
 | some u=>obtain⟨o,e⟩:=zmj x q;rw[n]at e;cases e
end
section
variable{P:aL}{w:aT}{K:qF}{mg:qM}{base:aW}{N:List Str}{qual:Str}{scope:fA}{f:ak}{cd:ah}{A:br}{outer:List Env}{s₀:aq}{H₀:Hp}{E:XK}{C:ak}{H':Hp}
theorem znp(hE:E (.ref C) none H'):XW (cxOf (CX1 P w) P w K mg base N qual scope f cd A outer s₀ H₀ E) C H':=by
 intro e s' fx;generalize hX:cxOf (CX1 P w) P w K mg base N qual scope f cd A outer s₀ H₀ E=X at fx;have Z:X.xe=fun e s'=>wpAny (model P w) (A.deeper (envOfC qual scope s₀.heap.objs.size f cd)) (leaving (envOfC qual scope s₀.heap.objs.size f cd) e) (fun _ y=>CX1 P w outer H₀ s₀ E e y) (fun e' y=>CX1 P w outer H₀ s₀ E e' y) s':=by rw[<- hX];rfl
 have l:X.stack=envOfC qual scope s₀.heap.objs.size f cd::outer:=by rw[<- hX];rfl
 have hA:X.A=A.deeper (envOfC qual scope s₀.heap.objs.size f cd):=by rw[<- hX];rfl
 have v:X.s₀=s₀:=by rw[<- hX];rfl
 have R:X.H₀=H₀:=by rw[<- hX];rfl
 have hex:X.ex=[]:=by rw[<- hX];rfl
 have Y:X.fs=frs outer:=by rw[<- hX];rfl
 have hP:X.prog=P:=by rw[<- hX];rfl
 have hw:X.w=w:=by rw[<- hX];rfl
 have fin:∀{pins σ H s} (I:Inv X pins σ H s) {h'':aW},Un (frs X.stack) [] H H' s.heap h''->HOk X.prog X.w H' h''->Un (frs outer) [] H₀ H' s₀.heap h''/\HOk P w H' h'':=fun {pins σ H s} I {h''} u x=>by
  have J:=(I.call (h':=h'') (g':=s.gens) (d':=s.drawn) (t':=s.toks) u x I.bare (fun b z=>absurd z (by simp))).base
  rw[hex,Y,R,v]at J;rw[hP,hw]at x;exact⟨J,x⟩
 have old:∀{pins σ H s} (I:Inv X pins σ H s) {a:ak},s.heap.get? a=none->s₀.heap.get? a=none:=fun {pins σ H s} I {a} n=>by
  cases q:s₀.heap.get? a with
  | none=>rfl
  | some o =>
   have b:=I.base;rw[v]at b;obtain⟨o',z⟩:=b.there a o q (by rw[hex];simp)
   rw[n]at z;cases z
 rw[Z];cases fx with
 | @made pins σ s h1 I m hs =>
  subst hs;have fr:(A.deeper (envOfC qual scope s₀.heap.objs.size f cd)).frames=some (envOfC qual scope s₀.heap.objs.size f cd::outer):=by rw[<- hA,<- l];exact I.ok.frames
  have ff:=I.stack;rw[l]at ff;refine wpAny_leaves_madeW (base:=oH s.heap (frs X.stack)) (h:=s.heap) fr rfl (fun b o q=>mM _ q) (PySem.W.funFrames_hide ff fun env he b hb=>by rw[l];exact fE.mpr ⟨env,he,hb⟩) m fun h' t fl tup bt up=>?_
  refine⟨e,C,H',rfl,I.os.trans (by rw[v]),I.bare,⟨_,_,fl,zoq I.hok m.new,old I m.new,fun h'' st G=>?_⟩,hE⟩
  obtain⟨u,x⟩:=I.land (h'':=h'') (fun b o q nf=>st b o (mo _ q nf)) (fun b o q hf=>by
   obtain⟨_,o',L,S⟩:=I.stack.mem hf;rw[q]at L;cases L;exact(up.trans G) b o (m.keeps b o q) S)
  exact fin I u x
 | @on pins σ H s I os bare g =>
  obtain⟨B,a0,fl,ne,nn,st⟩:=g;have fr:(A.deeper (envOfC qual scope s₀.heap.objs.size f cd)).frames=some (envOfC qual scope s₀.heap.objs.size f cd::outer):=by rw[<- hA,<- l];exact I.ok.frames
  rw[l]at fl;refine wpAny_leaves_onW fr rfl fl fun h' fl' up=>⟨e,C,H',rfl,(os.trans I.os).trans (by rw[v]),bare,⟨B,a0,fl',ne,old I nn,fun h'' U G=>?_⟩,hE⟩
  obtain⟨u,x⟩:=st h'' U (up.trans G);exact fin I u x
end
def zuh:List ah:=[.type "ValueError",.type "Exception",.type "BaseException",.type "object"]
def OwnX(K:qF)(mg:qM)(x:Str)(C:ak):Prop:=∀h:aW,K.In h->OwnCls x C zuh "ValueError.__new__" mg h
section
variable{X:Cx}{x:Str}{C:ak}{np Im pos:Pos}
theorem znP(O:OwnX X.K X.mg x C)(hc:X.calm=true)(y:Gl X x)(hd:(x == ("__debug__":Str))=false:=by rfl):PS X (.Raise (some (.Call (.Name x np) [] [] Im)) none pos) (fun _ _ H=>XW X C H):=by
 intro pins s σ H D I h;have v:=(O X.base I.ok.mod.kin).keeps I.bk;obtain⟨J,N,nm,q,bs,hdct,sn,sub,ab,col,dd,k0,k1,k2,k3,k5,mN,L,G,u,T⟩:=v.obj;refine wpAny_Raise_call_subU (C:=C) (nm:=nm) (q:=q) (N:=N) (bs:=bs) (bm:=J) (hdct:=hdct) (sn:=sn) (sub:=sub) (ab:=ab) (col:=col) (dd:=dd) (k0:=k0) (k1:=k1) (k2:=k2) (k3:=k3) (k5:=k5)
  gj (by decide) gj (mN:=mN) (T.hasType gj.hasBase) (I.ok.hd hc) rfl u (U4 I y v.bound ⟨rfl,?_⟩ hd)
 exact evalArgs_empty ⟨rfl,dR _,L,G,T,fun h' e m=>h e _ (.made I m rfl)⟩
end
def Keep(C:Ctx)(v:En)(σ:St)(H:Hp)(l:En)(σ':St)(u:Hp):Prop:=∀a o,H a=some o->C.hd≠some a->¬OwnS v σ a->u a=some o/\¬OwnS l σ' a
structure JU where
 nx:En->Nat->Prop
 rt:af->Nat->Prop
 bk:En->Nat->Prop:=fun _ _=>False
 ct:En->Nat->Prop:=fun _ _=>False
 xr:Str->Nat->Prop:=fun _ _=>False
abbrev DTS:=JU->En->Nat->Prop
def XN(X:Cx)(c:Str)(l:Hp):Prop:=∀C,X.mg c=some (.ref C)->XW X C l
structure Good(X:Cx)(C:Ctx)(ρ:En)(σ:St)(H:Hp)(D:Ends)(D':JU):Prop where
 nx:∀ρ' σ' H' n',D'.nx ρ' n'->Stt X.K C ρ' σ' H' n'->Keep C ρ σ H ρ' σ' H'->D.nx σ' H'
 rt:∀t n' v H',D'.rt t n'->Hn C.hd H' n'->(∀a o,H a=some o->C.hd≠some a->¬OwnS ρ σ a->H' a=some o)->Rep X.K C.hd C.ext H' v t->D.rt v H'
 bk:∀ρ' σ' H' n',D'.bk ρ' n'->Stt X.K C ρ' σ' H' n'->Keep C ρ σ H ρ' σ' H'->D.bk σ' H'
 ct:∀ρ' σ' H' n',D'.ct ρ' n'->Stt X.K C ρ' σ' H' n'->Keep C ρ σ H ρ' σ' H'->D.ct σ' H'
 xr:∀c n' H',D'.xr c n'->Hn C.hd H' n'->(∀a o,H a=some o->C.hd≠some a->¬OwnS ρ σ a->H' a=some o)->XN X c H'
def DS(X:Cx)(st:dH)(d:DTS):Prop:=∃ts,PS X st ts/\∀(C:Ctx) (l:En) (σ:St) (H:Hp) (n:Nat) (D:Ends) (u:JU),Stt X.K C l σ H n->d u l n->Good X C l σ H D u->ts D σ H
def DSs(X:Cx)(st:List dH)(d:DTS):Prop:=∃ts,PSs X st ts/\∀(C:Ctx) (l:En) (σ:St) (H:Hp) (n:Nat) (D:Ends) (u:JU),Stt X.K C l σ H n->d u l n->Good X C l σ H D u->ts D σ H
section
variable{K:qF}{C:Ctx}{ρ ρ1 ρ2:En}{σ σ1 σ2:St}{H H1 H2:Hp}{n n1:Nat}{D:Ends}{D':JU}
theorem Keep.refl:Keep C ρ σ H ρ σ H:=fun _ _ h _ no=>⟨h,no⟩
theorem Keep.trans(k1:Keep C ρ σ H ρ1 σ1 H1)(k2:Keep C ρ1 σ1 H1 ρ2 σ2 H2):Keep C ρ σ H ρ2 σ2 H2:=fun a o h u no=>by
 obtain⟨v,l⟩:=k1 a o h u no;exact k2 a o v u l
theorem ExtE.keep(e:ExtE C.hd H H1):Keep C ρ σ H ρ σ H1:=fun a o h l no=>⟨e a o h l,no⟩
theorem Good.on{X:Cx}(g:Good X C ρ σ H D D')(k:Keep C ρ σ H ρ1 σ1 H1):Good X C ρ1 σ1 H1 D D' where
 nx:=fun l σ' y x h S u=>g.nx l σ' y x h S (k.trans u)
 rt:=fun t x v y h J u r=>g.rt t x v y h J (fun a o L I no=>by
  obtain⟨N,G⟩:=k a o L I no;exact u a o N I G) r
 bk:=fun l σ' y x h S u=>g.bk l σ' y x h S (k.trans u)
 ct:=fun l σ' y x h S u=>g.ct l σ' y x h S (k.trans u)
 xr:=fun c x y h J u=>g.xr c x y h J fun a o L I no=>by
  obtain⟨N,G⟩:=k a o L I no;exact u a o N I G
theorem Keep.rep(k:Keep C ρ σ H ρ1 σ1 H1)(hx:∀a,C.hd=some a->C.ext a){v t}(r:Rep K C.hd (Own C ρ σ) H v t):Rep K C.hd (Own C ρ1 σ1) H1 v t :=
 Rep.mono (O:=Own C ρ σ) (fun a o h z=>by
  by_cases q:Own C ρ σ a
  ·exact q
  ·rcases z with z|z
   ·exact .inl z
   ·exact absurd z (k a o h (fun y=>q (.inl (hx a y))) fun y=>q (.inr y)).2) (fun a o no h=>(k a o h (fun y=>no (.inl (hx a y))) fun y=>no (.inr y)).1) r
theorem Keep.reps(k:Keep C ρ σ H ρ1 σ1 H1)(hx:∀a,C.hd=some a->C.ext a){v t}(r:Reps K C.hd (Own C ρ σ) H v t):Reps K C.hd (Own C ρ1 σ1) H1 v t :=
 Reps.mono (O:=Own C ρ σ) (fun a o h z=>by
  by_cases q:Own C ρ σ a
  ·exact q
  ·rcases z with z|z
   ·exact .inl z
   ·exact absurd z (k a o h (fun y=>q (.inl (hx a y))) fun y=>q (.inr y)).2) (fun a o no h=>(k a o h (fun y=>no (.inl (hx a y))) fun y=>no (.inr y)).1) r
theorem Jy{α:Type}{l:List (Option α)}{i j:Nat}{v w:α}(h:(l.set i (some v))[j]?=some (some w)):(i=j/\v=w)\/(i≠j/\l[j]?=some (some w)):=by
 by_cases e:i=j
 ·subst e;rw[g7]at h;simp only[↓reduceIte]at h;split at h
  ·simp at h;exact .inl ⟨rfl,h⟩
  ·cases h
 ·rw[aS e]at h;exact .inr ⟨e,h⟩
theorem YB{α:Type}{l:List (Option α)}{i j:Nat}{v w:α}(e:i≠j)(h:l[j]?=some (some w)):(l.set i (some v))[j]?=some (some w):=by
 rw[aS e];exact h
theorem zoW{α:Type}{l:List (Option α)}{i j:Nat}{v:α}{w:Option α}(h:(l.set i (some v))[j]?=some w)(e:i=j):i<l.length:=by
 subst e;rw[g7]at h;simp only[↓reduceIte]at h;split at h
 ·assumption
 ·cases h
theorem zk6{α:Type}{l:List (Option α)}{i:Nat}{v:α}(h:i<l.length):(l.set i (some v))[i]?=some (some v):=by
 rw[g7];simp[h]
theorem V2{i:Nat}{t:af}{v:V}{a:ak}(h:OwnS (ρ.set i (some (.val t))) (σ.set i (some v)) a):OwnS ρ σ a:=by
 obtain⟨j,c,m,x,u⟩:=h;rcases Jy x with⟨_,z⟩|⟨e,x⟩
 ·subst z;cases m
 ·rcases Jy u with⟨z,_⟩|⟨_,u⟩
  ·exact absurd z e
  ·exact⟨j,c,m,x,u⟩
def QN(K:qF)(hd:Option ak)(O:ak->Prop)(H:Hp)(a:ak):Cell->Prop
 | .val _=>False
 | .rdo _=>False
 | .own ts=>∃y,H a=some (.lst y)/\Reps K hd O H y ts
 | .dct x=>∃u,H a=some (.dK u)/\UO K hd O H u x
 | .dtt x=>∃zs G,H a=some (ZDO a zs G)/\Qg K hd O H zs x
theorem QN.mono(x:QN K hd O H a c)(y:∀a o,H a=some o->O' a->O a)(I:∀a o,¬O a->H a=some o->H' a=some o)(G:∀o,H a=some o->H' a=some o):QN K hd O' H' a c:=by
 cases c with
 | val _=>exact x.elim
 | rdo _=>exact x.elim
 | own ts=>obtain⟨l,u,v⟩:=x;exact⟨l,G _ u,v.mono y I⟩
 | dct L=>obtain⟨l,u,v⟩:=x;exact⟨l,G _ u,v.mono y I⟩
 | dtt L=>obtain⟨l,J,u,v⟩:=x;exact⟨l,J,G _ u,v.mono y I⟩
theorem QN.some(x:QN K hd O H a c):∃o,H a=some o:=by
 cases c with
 | val _=>exact x.elim
 | rdo _=>exact x.elim
 | own ts=>obtain⟨u,l,v⟩:=x;exact⟨_,l⟩
 | dct y=>obtain⟨u,l,v⟩:=x;exact⟨_,l⟩
 | dtt y=>obtain⟨u,G,l,v⟩:=x;exact⟨_,l⟩
theorem QN.mine(x:QN K hd O H a c):c.mine=true:=by
 cases c with
 | val _=>exact x.elim
 | rdo _=>exact x.elim
 | own ts=>rfl
 | dct l=>rfl
 | dtt l=>rfl
theorem Stt.cell(S:Stt K C ρ σ H n){i:Nat}{c:Cell}(m:c.mine=true)(h:ρ[i]?=some (some c)):∃a:ak,σ[i]?=some (some (V.ref a))/\QN K C.hd (Own C ρ σ) H a c/\¬C.ext a:=by
 cases c with
 | val _=>cases m
 | rdo _=>cases m
 | own ts=>obtain⟨a,x,y,l,v,u⟩:=S.own i ts h;exact⟨a,y,⟨x,l,v⟩,u⟩
 | dct G=>obtain⟨a,x,y,l,v,u⟩:=S.dct i G h;exact⟨a,y,⟨x,l,v⟩,u⟩
 | dtt G=>obtain⟨a,x,I,y,l,v,u⟩:=S.dtt i G h;exact⟨a,y,⟨x,I,l,v⟩,u⟩
def zrp(K:qF)(C:Ctx)(ρ:En)(σ:St)(H:Hp):Prop:=∀(i:Nat) (u:List (Key×af)),ρ[i]?=some (some (Cell.rdo u))->∃a l,σ[i]?=some (some (V.ref a))/\H a=some (.dK l)/\UO K C.hd (Own C ρ σ) H l u/\C.ext a/\C.hd≠some a
theorem Stt.mk'(len:ρ.length=σ.length)(val:∀(i:Nat) (d:af),ρ[i]?=some (some (Cell.val d))->∃v,σ[i]?=some (some v)/\Rep K C.hd (Own C ρ σ) H v d)
  (cell:∀(i:Nat) (c:Cell),c.mine=true->ρ[i]?=some (some c)->∃a:ak,σ[i]?=some (some (V.ref a))/\QN K C.hd (Own C ρ σ) H a c/\¬C.ext a)
  (rdo:zrp K C ρ σ H) (dif:∀(i j:Nat) (c e:Cell) (a:ak),c.mine=true->e.mine=true->ρ[i]?=some (some c)->ρ[j]?=some (some e)->σ[i]?=some (some (V.ref a))->σ[j]?=some (some (V.ref a))->i=j)
  (hnd:Hn C.hd H n) (ext:∀a,C.ext a->MutO (H a)) (hx:∀a,C.hd=some a->C.ext a):Stt K C ρ σ H n where
 len:=len
 val:=val
 own:=fun i ts h=>by obtain⟨a,G,⟨u,x,l⟩,y⟩:=cell i _ rfl h;exact⟨a,u,G,x,l,y⟩
 dct:=fun i ts h=>by obtain⟨a,G,⟨u,x,l⟩,y⟩:=cell i _ rfl h;exact⟨a,u,G,x,l,y⟩
 rdo:=rdo
 dtt:=fun i ts h=>by obtain⟨a,G,⟨u,I,x,l⟩,y⟩:=cell i _ rfl h;exact⟨a,u,I,G,x,l,y⟩
 dif:=dif
 hnd:=hnd
 ext:=ext
 hx:=hx
theorem Stt.put(S:Stt K C ρ σ H n){i:Nat}{t:af}{v:V}(r:Rep K C.hd (Own C ρ σ) H v t):Stt K C (ρ.set i (some (.val t))) (σ.set i (some v)) H n:=by
 have sub:∀a o,H a=some o->Own C (ρ.set i (some (.val t))) (σ.set i (some v)) a->Own C ρ σ a:=fun a o _ z=>z.elim .inl fun z=>.inr (V2 z)
 have mono:∀{w u},Rep K C.hd (Own C ρ σ) H w u->Rep K C.hd (Own C (ρ.set i (some (.val t))) (σ.set i (some v))) H w u:=fun q=>q.mono sub fun _ _ _ z=>z
 refine .mk' (by simp[S.len]) (fun j d h=>?_) (fun j c m h=>?_) (fun j ks h=>?_) (fun j k c e a m1 m2 y x I h4=>?_) S.hnd S.ext S.hx
 rotate_left 2
 ·rcases Jy h with⟨_,z⟩|⟨e,h'⟩
  ·cases z
  ·obtain⟨a,G,Y,q2,Z,q4⟩:=S.rdo j ks h';exact⟨a,G,YB e Y,q2,Z.mono sub fun _ _ _ z=>z,q4⟩
 rotate_left 1
 ·rcases Jy h with⟨e,z⟩|⟨e,h'⟩
  ·cases z;have:=zoW h e;subst e;exact⟨v,zk6 (by rw[<- S.len];exact this),mono r⟩
  ·obtain⟨w,y,x⟩:=S.val j d h';exact⟨w,YB e y,mono x⟩
 ·rcases Jy h with⟨e,z⟩|⟨e,h'⟩
  ·subst z;cases m
  ·obtain⟨a,y,x,I⟩:=S.cell m h';exact⟨a,YB e y,x.mono sub (fun _ _ _ z=>z) fun _ z=>z,I⟩
 ·rcases Jy y with⟨e,z⟩|⟨e,R⟩
  ·subst z;cases m1
  ·rcases Jy x with⟨U,z⟩|⟨U,J⟩
   ·subst z;cases m2
   ·rcases Jy I with⟨z,_⟩|⟨_,N⟩
    ·exact absurd z e
    ·rcases Jy h4 with⟨z,_⟩|⟨_,L⟩
     ·exact absurd z U
     ·exact S.dif j k c _ a m1 m2 R J N L
theorem QI:Keep C ρ σ H (ρ.set i (some (.val t))) (σ.set i (some v)) H:=fun a o h _ no=>⟨h,fun z=>no (V2 z)⟩
theorem zjo{i:Nat}{c:Cell}{p a:ak}(h:OwnS (ρ.set i (some c)) (σ.set i (some (.ref p))) a):OwnS ρ σ a\/a=p:=by
 obtain⟨j,ds,m,v,u⟩:=h;rcases Jy u with⟨e,z⟩|⟨e,u⟩
 ·cases z;exact .inr rfl
 ·rcases Jy v with⟨z,_⟩|⟨_,v⟩
  ·exact absurd z e
  ·exact .inl ⟨j,ds,m,v,u⟩
theorem Stt.putNew(S:Stt K C ρ σ H n){i:Nat}{c:Cell}{p:ak}{Y:Hp}(e:ExtE C.hd H Y)(h:Hn C.hd Y n1)(hp:H p=none)(r:QN K C.hd (fun a=>Own C ρ σ a\/a=p) Y p c) :
  Stt K C (ρ.set i (some c)) (σ.set i (some (.ref p))) Y n1:=by
 have S':=S.on e h;have mc:=r.mine;have sub:∀a,Own C (ρ.set i (some c)) (σ.set i (some (.ref p))) a->Own C ρ σ a\/a=p:=fun a z=>z.elim (fun z=>.inl (.inl z)) fun z=>(zjo z).elim (fun z=>.inl (.inr z)) .inr
 have npx:¬C.ext p:=fun z=>S.dom (.inl z) hp
 have sb:∀a o,H a=some o->Own C (ρ.set i (some c)) (σ.set i (some (.ref p))) a->Own C ρ σ a:=fun a o L z=>(sub a z).elim id fun z=>by subst z;rw[hp]at L;cases L
 have kp:∀a o,¬Own C ρ σ a->H a=some o->Y a=some o:=fun a o no L=>e a o L fun z=>no (.inl (S.hx a z))
 have Ks:∀(j:Nat) (d:Cell),d.mine=true->ρ[j]?=some (some d)->σ[j]?≠some (some (V.ref p)):=fun j d m G u=>by
  obtain⟨a,e1,Z,_⟩:=S.cell m G;rw[u]at e1;cases e1;obtain⟨o,Z⟩:=Z.some;rw[hp]at Z;cases Z
 refine .mk' (by simp[S.len]) (fun j d I=>?_) (fun j d m I=>?_) (fun j ks I=>?_) (fun j k c1 c2 a m1 m2 G u h3 N=>?_) h S'.ext S.hx
 rotate_left 2
 ·rcases Jy I with⟨_,z⟩|⟨v,h'⟩
  ·subst z;cases mc
  ·obtain⟨a,kvs,q1,q2,q3,q4,q5⟩:=S.rdo j ks h';exact⟨a,kvs,YB v q1,e a _ q2 q5,q3.mono sb kp,q4,q5⟩
 rotate_left 1
 ·rcases Jy I with⟨_,z⟩|⟨v,h'⟩
  ·subst z;cases mc
  ·obtain⟨w,G,u⟩:=S.val j d h';exact⟨w,YB v G,u.mono sb kp⟩
 ·rcases Jy I with⟨v,z⟩|⟨v,h'⟩
  ·subst z;have:=zoW I v;subst v;exact⟨p,zk6 (by rw[<- S.len];exact this),r.mono (fun a o _ z=>sub a z) (fun _ _ _ z=>z) fun _ z=>z,npx⟩
  ·obtain⟨a,G,u,N⟩:=S.cell m h';exact⟨a,YB v G,u.mono sb kp (fun o L=>e a o L fun z=>N (S.hx a z)),N⟩
 ·rcases Jy h3 with⟨e3,z3⟩|⟨e3,R⟩
  ·cases z3;rcases Jy N with⟨J,_⟩|⟨J,y⟩
   ·rw[<- e3,<- J]
   ·rcases Jy u with⟨z,_⟩|⟨_,x⟩
    ·exact absurd z J
    ·exact absurd y (Ks k _ m2 x)
  ·rcases Jy G with⟨z,_⟩|⟨_,U⟩
   ·exact absurd z e3
   ·rcases Jy N with⟨J,z4⟩|⟨J,y⟩
    ·cases z4;exact absurd R (Ks j _ m1 U)
    ·rcases Jy u with⟨z,_⟩|⟨_,x⟩
     ·exact absurd z J
     ·exact S.dif j k _ _ a m1 m2 U x R y
theorem Stt.putOwn(S:Stt K C ρ σ H n)(e:ExtE C.hd H H')(h:Hn C.hd H' n1)(v:H p=none)(u:H' p=some (.lst vs))(r:Reps K C.hd (fun a=>Own C ρ σ a\/a=p) H' vs ts) :
  Stt K C (ρ.set i (some (.own ts))) (σ.set i (some (.ref p))) H' n1:=S.putNew e h v ⟨vs,u,r⟩
theorem ziN(e:ExtE C.hd H H')(u:H p=none):Keep C ρ σ H (ρ.set i (some c)) (σ.set i (some (.ref p))) H':=fun a o h v no =>
 ⟨e a o h v,fun z=>(zjo z).elim no fun z=>by subst z;rw[u]at h;cases h⟩
theorem ziM(e:ExtE C.hd H H')(l:H p=none):Keep C ρ σ H (ρ.set i (some (.own ts))) (σ.set i (some (.ref p))) H':=ziN e l
theorem Stt.chgC(S:Stt K C ρ σ H n){i:Nat}{c y:Cell}{p:ak}{L:HO}(m:c.mine=true)(m':y.mine=true)(Y:ρ[i]?=some (some c))(N:σ[i]?=some (some (.ref p)))
  (r:∀(O':ak->Prop) (H':Hp),(∀a o,H a=some o->O' a->Own C ρ σ a)->(∀a o,¬Own C ρ σ a->H a=some o->H' a=some o)->H' p=some L->QN K C.hd O' H' p y) :
  Stt K C (ρ.set i (some y)) σ (upd H p L) n/\Keep C ρ σ H (ρ.set i (some y)) σ (upd H p L):=by
 have op:OwnS ρ σ p:=⟨i,c,m,Y,N⟩;obtain⟨p',e1,hp,x⟩:=S.cell m Y;rw[N]at e1;cases e1;have IZ:∀a,OwnS (ρ.set i (some y)) σ a->OwnS ρ σ a:=fun a ⟨j,d,G,u,v⟩=>by
  rcases Jy u with⟨e,_⟩|⟨e,u⟩
  ·subst e;rw[N]at v;cases v;exact op
  ·exact⟨j,d,G,u,v⟩
 have sub:∀a o,H a=some o->Own C (ρ.set i (some y)) σ a->Own C ρ σ a:=fun a o _ z=>z.elim .inl fun z=>.inr (IZ a z)
 have kp:∀a o,¬Own C ρ σ a->H a=some o->upd H p L a=some o:=fun a o no ho=>by rw[Jn (show a≠p from fun z=>no (by rw[z];exact .inr op))];exact ho
 have rd:zrp K C (ρ.set i (some y)) σ (upd H p L):=fun j ks J=>by
  rcases Jy J with⟨_,z⟩|⟨R,h'⟩
  ·subst z;cases m'
  ·obtain⟨a,kvs,u,v,q3,I,q5⟩:=S.rdo j ks h';exact⟨a,kvs,u,by rw[Jn (show a≠p from fun z=>x (by rw[<- z];exact I))];exact v,q3.mono sub kp,I,q5⟩
 refine⟨.mk' (by simp[S.len]) (fun j d J=>?_) (fun j d G J=>?_) rd (fun j k c1 c2 a m1 m2 u v q3 I=>?_) (fun a U=>?_) (fun a U=>?_) S.hx,fun a o h nh no=>⟨by rw[Jn (show a≠p from fun z=>no (by rw[z];exact op))];exact h,fun z=>no (IZ a z)⟩⟩
 ·rcases Jy J with⟨_,z⟩|⟨R,h'⟩
  ·subst z;cases m'
  ·obtain⟨w,u,v⟩:=S.val j d h';exact⟨w,u,v.mono sub kp⟩
 ·rcases Jy J with⟨R,z⟩|⟨R,h'⟩
  ·subst z;subst R;exact⟨p,N,r _ _ sub kp JM,x⟩
  ·obtain⟨a,u,v,I⟩:=S.cell G h';have:a≠p:=fun z=>by subst z;exact R (S.dif i j c d a m G Y h' N u)
   exact⟨a,u,v.mono sub kp (fun o ho=>by rw[Jn this];exact ho),I⟩
 ·have get:∀(j:Nat) (d:Cell),d.mine=true->(ρ.set i (some y))[j]?=some (some d)->∃d':Cell,d'.mine=true/\ρ[j]?=some (some d'):=fun j d G q=>by
   rcases Jy q with⟨e,_⟩|⟨_,q⟩
   ·subst e;exact⟨_,m,Y⟩
   ·exact⟨_,G,q⟩
  obtain⟨d1,Z,g1⟩:=get j c1 m1 u;obtain⟨d2,md2,g2⟩:=get k c2 m2 v;exact S.dif j k d1 d2 a Z md2 g1 g2 q3 I
 ·obtain⟨d,m,t,q,rest⟩:=S.hnd a U;exact⟨d,m,t,by rw[Jn (show a≠p from fun z=>x (by rw[<- z];exact S.hx a U))];exact q,rest⟩
 ·by_cases z:a=p
  ·subst z;exact absurd U x
  ·rw[Jn z];exact S.ext a U
theorem Stt.chg(S:Stt K C ρ σ H n)(v:ρ[i]?=some (some (.own ts)))(x:σ[i]?=some (some (.ref p)))(r:Reps K C.hd (Own C ρ σ) H ws us) :
  Stt K C (ρ.set i (some (.own us))) σ (upd H p (.lst ws)) n/\Keep C ρ σ H (ρ.set i (some (.own us))) σ (upd H p (.lst ws)):=S.chgC rfl rfl v x fun _ _ a b u=>⟨ws,u,r.mono a b⟩
theorem Stt.freeze(S:Stt K C ρ σ H n){i:Nat}{ts:qD}(Y:ρ[i]?=some (some (.own ts))):Stt K C (ρ.set i (some (.val (.list ts)))) σ H n/\Keep C ρ σ H (ρ.set i (some (.val (.list ts)))) σ H:=by
 obtain⟨p,vs,U,hp,Z,L⟩:=S.own i ts Y;have R:∀a,OwnS (ρ.set i (some (.val (.list ts)))) σ a->OwnS ρ σ a/\a≠p:=fun a ⟨j,ds,m,u,x⟩=>by
  rcases Jy u with⟨_,z⟩|⟨e,u⟩
  ·subst z;cases m
  ·exact⟨⟨j,ds,m,u,x⟩,fun z=>by subst z;exact e (S.dif i j (.own ts) ds a rfl m Y u U x)⟩
 have sub:∀a o,H a=some o->Own C (ρ.set i (some (.val (.list ts)))) σ a->Own C ρ σ a:=fun a o _ z=>z.elim .inl fun z=>.inr (R a z).1
 have rd:zrp K C (ρ.set i (some (.val (.list ts)))) σ H:=fun j ks y=>by
  rcases Jy y with⟨_,z⟩|⟨J,h'⟩
  ·cases z
  ·obtain⟨a,N,u,x,G,I⟩:=S.rdo j ks h';exact⟨a,N,u,x,G.mono sub fun _ _ _ z=>z,I⟩
 refine⟨.mk' (by simp[S.len]) (fun j d y=>?_) (fun j d m y=>?_) rd (fun j k c1 c2 a m1 m2 u x G I=>?_) S.hnd S.ext S.hx,fun a o h _ no=>⟨h,fun z=>no (R a z).1⟩⟩
 ·rcases Jy y with⟨J,z⟩|⟨J,h'⟩
  ·cases z;subst J;exact⟨.ref p,U,.lst hp (fun z=>z.elim L fun z=>(R p z).2 rfl) (Z.mono sub fun _ _ _ z=>z)⟩
  ·obtain⟨w,u,x⟩:=S.val j d h';exact⟨w,u,x.mono sub fun _ _ _ z=>z⟩
 ·rcases Jy y with⟨_,z⟩|⟨J,h'⟩
  ·subst z;cases m
  ·obtain⟨a,u,G,I⟩:=S.cell m h';exact⟨a,u,G.mono sub (fun _ _ _ z=>z) fun _ z=>z,I⟩
 ·rcases Jy u with⟨_,z⟩|⟨_,g1⟩
  ·subst z;cases m1
  ·rcases Jy x with⟨_,z⟩|⟨_,g2⟩
   ·subst z;cases m2
   ·exact S.dif j k _ _ a m1 m2 g1 g2 G I
end
section
variable{X:Cx}{a b c e:aV}{es rest:List aV}{d da db dc:DTE}{ds:DTA}{dt:DTT}{t u:DTS}{st:dH}{sts sa sb:List dH}{pos p:Pos}{k:Nat}{x:Str}
def Vn:DTS:=fun D l n=>D.nx l n
def sSeq(t u:DTS):DTS:=fun D l n=>t { D with nx:=u D } l n
theorem Jw:DSs X [] Vn:=⟨_,zix,fun C l σ H n D v S h g=>g.nx l σ H n h S Keep.refl⟩
theorem Jb(y:DS X st t)(v:DSs X sts u):DSs X (st::sts) (sSeq t u):=by
 obtain⟨Z,pa,y⟩:=y;obtain⟨Y,R,v⟩:=v;refine⟨_,Qy pa R,fun C L σ H n D G S h g=>?_⟩
 exact y C L σ H n _ _ S h ⟨fun l σ' U J I N k=>v C l σ' U J D G N I (g.on k),g.rt,g.bk,g.ct,g.xr⟩
theorem Jc(l:DS X st t):DSs X [st] t:=by
 obtain⟨v,pa,l⟩:=l;exact⟨_,U6 pa,l⟩
def Z1(i:Nat)(t:DTS):DTS:=fun D y n=>match y[i]? with|some (some (.own ts))=>t D (y.set i (some (.val (.list ts)))) n|_=>False
theorem Ut(i:Nat)(l:DSs X sts t):DSs X sts (Z1 i t):=by
 obtain⟨I,pa,l⟩:=l;refine⟨_,pa,fun C J σ H n D G S h g=>?_⟩
 unfold Z1 at h;split at h
 ·rename_i ts y;obtain⟨v,kp⟩:=S.freeze y;exact l C _ σ H n D G v h (g.on kp)
 ·exact h.elim
def sRet(d:DTE):DTS:=fun D v n=>d v n fun t l=>D.rt t l
theorem Jh(h:DE X e d):DS X (.Return (some e) pos) (sRet d):=by
 obtain⟨Z,pa,h⟩:=h;refine⟨_,ZO pa,fun C I σ H n D Y S hd g=>?_⟩
 refine h C I σ H n _ _ S hd fun t y v N r J L q=>?_
 exact g.rt t y v N r L (fun a o G U _=>J a o G U) (q.mono (fun _ _ _ z=>.inl z) fun _ _ _ z=>z)
def sIf(c:DTT)(t u:DTS):DTS:=fun D l n=>c l n fun b v=>if b=true then t D l v else u D l v
theorem Jt(hc:DT X c dt)(G:DSs X sa t)(v:DSs X sb u):DS X (.If c sa sb pos) (sIf dt t u):=by
 obtain⟨Z,pc,hc⟩:=hc;obtain⟨ta,pa,G⟩:=G;obtain⟨Y,U,v⟩:=v;refine⟨_,zpJ pc pa U,fun C y σ H n D L S hd g=>?_⟩
 refine hc C y σ H n _ _ S hd fun b R J r l N=>?_
 cases b with
 | true=>exact iteT (G C y σ J R D L (S.on l N) (by simpa using r) (g.on l.keep))
 | false=>exact iteF (v C y σ J R D L (S.on l N) (by simpa using r) (g.on l.keep))
def sSet(i:Nat)(d:DTE):DTS:=fun D y n=>d y n fun t C=>D.nx (y.set i (some (.val t))) C
theorem zuk(G:X.N.Nodup)(hi:X.N[i]?=some x)(hx:Loc X.env.scope x)(h:DE X e d)(L:swapsWith e (some (.Name x pos')) pos.line X.env=pure false:=by rfl)(hf:X.fn x=true\/X.env.scope.names.lookup x=some .local:=by walk_at "F") :
  DS X (.Assign [.Name x pos'] e pos) (sSet i d):=by
 obtain⟨Z,pa,h⟩:=h;refine⟨_,QG G hi hx pa L hf,fun C J σ H n D Y S hd g=>?_⟩
 refine h C J σ H n _ _ S hd fun t I v U r y R q=>?_
 exact g.nx _ _ U I r ((S.on y R).put q) (y.keep.trans QI)
def sOwn(i:Nat)(d:DTA):DTS:=fun D l n=>d l n fun ts v=>D.nx (l.set i (some (.own ts))) v
theorem Qm(I:X.N.Nodup)(hi:X.N[i]?=some x)(hx:Loc X.env.scope x)(h:DN X e ds)(R:swapsWith e (some (.Name x pos')) pos.line X.env=pure false:=by rfl)(hf:X.fn x=true\/X.env.scope.names.lookup x=some .local:=by walk_at "F") :
  DS X (.Assign [.Name x pos'] e pos) (sOwn i ds):=by
 obtain⟨ta,pa,h⟩:=h;refine⟨_,QG I hi hx pa R hf,fun C L σ H n D Z S hd g=>?_⟩
 refine h C L σ H n _ _ S hd fun ts J p vs Y r G U y v q=>?_
 exact g.nx _ _ Y J r (S.putOwn G U y v q) (ziM G y)
abbrev DTG:=af->En->(En->Prop)->Prop
abbrev DTGs:=List af->En->(En->Prop)->Prop
def DG(X:Cx)(G:aV)(is:List Nat)(d:DTG):Prop:=(∀t y R,d t y R->∃l,R l)/\∃g,PG X G g/\∀(C:Ctx) (y:En) (σ:St) (H:Hp) (n:Nat) (v:V) (t:af) (Q:St->Hp->Prop) (R:En->Prop),Stt X.K C y σ H n->Rep X.K C.hd (Own C y σ) H v t->d t y R ->
 (∀l σ',R l->Stt X.K C l σ' H n->Keep C y σ H l σ' H->(∀j,j∉is->σ'[j]?=σ[j]?)->σ'.length=σ.length->Q σ' H)->g v σ H Q
def DGs(X:Cx)(y:List aV)(is:List Nat)(d:DTGs):Prop:=(∀ts v R,d ts v R->ts.length=y.length)/\(∀t v R,d t v R->∃l,R l)/\∃g,PGs X y g/\∀(C:Ctx) (v:En) (σ:St) (H:Hp) (n:Nat) (G:List V) (ts:qD) (Q:St->Hp->Prop) (R:En->Prop),Stt X.K C v σ H n->Reps X.K C.hd (Own C v σ) H G ts->d ts v R ->
 (∀l σ',R l->Stt X.K C l σ' H n->Keep C v σ H l σ' H->(∀j,j∉is->σ'[j]?=σ[j]?)->σ'.length=σ.length->Q σ' H)->g G σ H Q
def Qk(i:Nat):DTG:=fun t y R=>R (y.set i (some (.val t)))
def UQ:DTGs:=fun ts l R=>match ts with|[]=>R l|_=>False
def QY(d:DTG)(ds:DTGs):DTGs:=fun ts v R=>match ts with|t::ts=>d t v fun l=>ds ts l R|[]=>False
def UR(ds:DTGs):DTG:=fun t v R=>match t with|.tuple ts=>ds ts v R|_=>False
theorem zq1(G:X.N.Nodup)(hi:X.N[i]?=some x)(hx:Loc X.env.scope x)(hf:X.fn x=true\/X.env.scope.names.lookup x=some .local:=by walk_at "F"):DG X (.Name x pos) [i] (Qk i):=by
 refine⟨fun t I R h=>⟨_,h⟩,_,VM G hi hx hf,fun C I σ H n v t Q R S r hd J=>?_⟩
 exact J _ _ hd (S.put r) QI (fun j y=>by rw[aS (fun z=>y (by simp[z]))]) (by simp)
theorem Qb:DGs X [] [] UQ:=by
 refine⟨fun ts l R h=>?_,fun ts l R h=>?_,_,zlu,fun C l σ H n y ts Q R S r hd v=>?_⟩
 ·cases ts with
  | nil=>rfl
  | cons _ _=>exact h.elim
 ·cases ts with
  | nil=>exact⟨_,h⟩
  | cons _ _=>exact h.elim
 ·cases r with
  | nil=>exact⟨rfl,v _ _ hd S Keep.refl (fun _ _=>rfl) rfl⟩
  | cons _ _=>exact hd.elim
theorem Jp(Z:DG X e is g)(U:DGs X es js gs)(hs:(assignEach (e::es) X.env).map (·.2)=assign e X.env::(assignEach es X.env).map (·.2):=by rfl):DGs X (e::es) (is++js) (QY g gs):=by
 obtain⟨w1,ga,pa,Z⟩:=Z;obtain⟨l2,w2,gb,pb,U⟩:=U;refine⟨fun ts v R h=>?_,fun ts v R h=>?_,_,VR pa pb hs,fun C v σ H n vs ts Q R S r hd hq=>?_⟩
 ·cases ts with
  | nil=>exact h.elim
  | cons t ts =>
   obtain⟨l,h'⟩:=w1 t v _ h;simp[l2 ts l R h']
 ·cases ts with
  | nil=>exact h.elim
  | cons t ts =>
   obtain⟨l,h'⟩:=w1 t v _ h;exact w2 ts l R h'
 ·cases r with
  | nil=>exact hd.elim
  | cons r rs =>
   refine⟨_,_,rfl,Z C v σ H n _ _ _ _ S r hd fun l σ' hr S' kp hj hl=>?_⟩
   refine U C l σ' H n _ _ _ _ S' (kp.reps S.hx rs) hr fun L G Y S2 N J I=>?_
   exact hq L G Y S2 (kp.trans N) (fun j y=>by rw[J j (fun z=>y (by simp[z])),hj j (fun z=>y (by simp[z]))]) (I.trans hl)
theorem J1(hc:X.calm=true)(h:DGs X es is gs)(N:(assignEach es X.env).length=es.length:=by rfl)(G:(assignEach es X.env).findIdx? (·.1)=none:=by rfl):DG X (.Tuple es k pos) is (UR gs):=by
 obtain⟨l,w,g,pg,h⟩:=h;refine⟨fun t y R h=>?_,_,zsq hc pg N G,fun C y σ H n v t Q R S r hd Y=>?_⟩
 ·cases t with
  | tuple ts=>exact w ts y R h
  | _=>exact h.elim
 ·cases t with
  | tuple ts =>
   obtain⟨p,J,rfl,U,L⟩:=r.tupI;exact⟨p,J,rfl,U,by rw[L.length];exact l ts y R hd,h C y σ H n J ts Q R S L hd Y⟩
  | _=>exact hd.elim
def sAsg(d:DTE)(g:DTG):DTS:=fun D v n=>d v n fun t y=>g t v fun l=>D.nx l y
theorem QO(h:DE X e d)(l:DG X tg is g)(U:swapsWithSole [tg] e pos.line X.env=pure false:=by rfl)(hw:swappedStores [tg] e X.env=pure none:=by rfl)
  (Y:(assignEach [tg] X.env).map (·.2)=[assign tg X.env]:=by rfl):DS X (.Assign [tg] e pos) (sAsg d g):=by
 obtain⟨ta,pa,h⟩:=h;obtain⟨w,gb,pb,l⟩:=l;refine⟨_,ZI pa pb U hw Y,fun C I σ H n D D' S hd gd=>?_⟩
 refine h C I σ H n _ _ S hd fun t G v L r J R q=>?_
 exact l C I σ L G v t _ _ (S.on J R) q r fun y σ' N Z kp _ _=>gd.nx y σ' L G N Z (J.keep.trans kp)
def sPar(i j:Nat)(ds:DTA):DTS:=fun D y n=>ds y n fun ts C=>match ts with|[t,u]=>D.nx ((y.set i (some (.val t))).set j (some (.val u))) C|_=>False
theorem zum{kt k2 pt2}(hc:X.calm=true)(U:X.N.Nodup)(hi:X.N[i]?=some x)(J:X.N[j]?=some y)(G:i≠j)
  (hx:X.env.scope.names.lookup x=some .local) (L:X.env.scope.names.lookup y=some .local) (h:DB X [a,b] ds)
  (hw:swappedStores [.Tuple [.Name x px,.Name y py] kt pt] (.Tuple [a,b] k2 pt2) X.env=pure (some [x,y]):=by rfl)
  (hs:swapsWithSole [.Tuple [.Name x px,.Name y py] kt pt] (.Tuple [a,b] k2 pt2) pos.line X.env=pure false:=by rfl) :
  DS X (.Assign [.Tuple [.Name x px,.Name y py] kt pt] (.Tuple [a,b] k2 pt2) pos) (sPar i j ds):=by
 obtain⟨ta,pa,h⟩:=h;refine⟨_,zsh hc U hi J G hx L pa.pa hw hs,fun C Z σ H n D D' S hd g=>?_⟩
 refine h C Z σ H n _ _ S hd fun ts n1 vs R r I h1 v _=>?_
 cases v with
 | nil=>exact r.elim
 | cons r1 v =>
  cases v with
  | nil=>exact r.elim
  | cons r2 v =>
   cases v with
   | cons _ _=>exact r.elim
   | nil =>
    have Y:=(S.on I h1).put (i:=i) r1;exact⟨_,_,rfl,g.nx _ _ R n1 r (Y.put (Keep.rep QI S.hx r2)) ((I.keep.trans QI).trans QI)⟩
def Y2(i:Nat)(d:DTE):DTS:=fun D l n=>match l[i]? with
 | some (some (.own ts))=>d l n fun t v=>ts.length<16777216/\D.nx (l.set i (some (.own (ts++[t])))) v
 | _=>False
theorem Qp(i:Nat){R p2 G:Pos}(h:DE X e d)(hN:X.N[i]?=some x:=by rfl)(hv:Vis X.env.scope x:=by walk_at "V")(hd:(x == ("__debug__":Str))=false:=by rfl)
  (hcd:(x == ("__classdict__":Str))=false:=by rfl) (hs:swapsWith (.Call (.Attribute (.Name x R) "append" p2) [e] [] G) none pos.line X.env=pure false:=by rfl)
  (HZ:attributeBase (.Name x R) "append" X.env (eval (.Name x R) X.env)=eval (.Name x R) X.env:=by rfl)
  (Kf:((backTo G (starEach [e] X.env)).all (fun x=>!x.1)&&(backToKw G (keywordEach [] X.env)).all (fun x=>x.1.isSome)
   && decide ([e].length+([]:List tI).length+(if ([]:List tI).isEmpty then 0 else 1)<30))=true:=by rfl)
  (H0:(p2.endLine == G.line)=true:=by rfl) (L:starEach [e] X.env=[(false,eval e X.env)]:=by rfl):DS X (.Expr (.Call (.Attribute (.Name x R) "append" p2) [e] [] G) pos) (Y2 i d):=by
 obtain⟨ta,pa,h⟩:=h;refine⟨_,zpK (zpW gS PySem.F.slot_list_append PySem.F.type_list_append zeC (QX hN hv hd hcd) (Um pa UX L) HZ Kf H0 L rfl) hs,fun C ρ σ H n D D' S hd g=>?_⟩
 unfold Y2 at hd;split at hd
 ·rename_i ts U;obtain⟨p,vs,h1,h2,h3,h4⟩:=S.own i ts U;refine⟨.ref p,h1,.inl ⟨rfl,_,SqL.of h2⟩,?_⟩;refine h C ρ σ H n _ _ S hd fun t n' v H' r e1 hn q=>?_
  have S1:=S.on e1 hn;obtain⟨p',Y,J,Z,I,h4'⟩:=S1.own i ts U;rw[h1]at J;cases J;refine⟨p,Y,v,rfl,rfl,Z,by rw[I.length];exact r.1,?_⟩
  obtain⟨S2,k2⟩:=S1.chg U h1 (I.append (.cons q .nil));exact g.nx _ _ _ n' r.2 S2 (e1.keep.trans k2)
 ·exact hd.elim
def sPut(i:Nat)(y d:DTE):DTS:=fun D l n=>d l n fun t C=>match l[i]? with
 | some (some (.own ts))=>y l C fun j v=>match j with|.int j=>(match ixN ts.length j with|some k=>D.nx (l.set i (some (.own (ts.set k t)))) v|none=>False)|_=>False
 | _=>False
theorem zul(i:Nat){dj:DTE}{l p2:Pos}(L:DE X b dj)(h:DE X e d)(hN:X.N[i]?=some x:=by rfl)(hv:Vis X.env.scope x:=by walk_at "V")(hd:(x == ("__debug__":Str))=false:=by rfl)
  (hcd:(x == ("__classdict__":Str))=false:=by rfl) (hs:swapsWithSole [.Subscript (.Name x l) b p2] e pos.line X.env=pure false:=by rfl) (hw:swappedStores [.Subscript (.Name x l) b p2] e X.env=pure none:=by rfl)
  (y:(assignEach [.Subscript (.Name x l) b p2] X.env).map (·.2)=[assign (.Subscript (.Name x l) b p2) X.env]:=by rfl)
  (hsub:PG X (.Subscript (.Name x l) b p2)=PG X (.Subscript (.Name x l) b p2):=rfl) (pg:∀{to ti:TE} {t:TSet},PE X (.Name x l) to->PE X b ti->PSet X t->PG X (.Subscript (.Name x l) b p2) (L2.gSub to ti t):=by intro _ _ _ y h2 h3;exact pg_sub y h2 h3) :
  DS X (.Assign [.Subscript (.Name x l) b p2] e pos) (sPut i dj d):=by
 obtain⟨ta,pa,h⟩:=h;obtain⟨tj,pj,L⟩:=L;refine⟨_,ZI pa (pg (QX hN hv hd hcd) pj set_list) hs hw y,fun C ρ σ H n D D' S hd g=>?_⟩
 refine h C ρ σ H n _ _ S hd fun t n1 v H1 r e1 hn q=>?_
 have S1:=S.on e1 hn;split at r
 ·rename_i ts R;obtain⟨p,vs,y,h2,h3,h4⟩:=S1.own i ts R;refine⟨.ref p,y,L C ρ σ H1 n1 _ _ S1 r fun j n2 w H2 G e2 U q2=>?_⟩
  have S2:=S1.on e2 U;cases j with
  | int j =>
   have G:(match ixN ts.length j with|some k=>D'.nx (ρ.set i (some (.own (ts.set k t)))) n2|none=>False):=G
   cases ek:ixN ts.length j with
   | none=>rw[ek]at G;exact G.elim
   | some m =>
    rw[ek]at G;obtain⟨p',Y,I,Z,J,h4'⟩:=S2.own i ts R;rw[y]at I;cases I;refine⟨p,Y,j,m,rfl,q2.intI,Z,by rw[J.length];exact ek,?_⟩
    obtain⟨S3,k3⟩:=S2.chg R y (J.set (e2.rep S.hx q) m);exact g.nx _ _ _ n2 G S3 ((e1.trans e2).keep.trans k3)
  | _=>exact G.elim
 ·exact r.elim
def zlb(c:DTT)(I:DTS):DTS:=fun D v n=>∃W:Nat->En->Nat->Prop,(∃m,W m v n)/\∀m v n,W m v n ->
 c v n fun b G=>if b=true then I { D with nx:=fun l C=>∃y,y<m/\W y l C,ct:=fun l C=>∃y,y<m/\W y l C,bk:=D.nx } v G else D.nx v G
theorem zjJ(hp:nW (model X.prog X.w) X.A X.env X.xe)(hc:DT X c dt)(hb:DSs X sa t):DS X (.While c sa [] pos) (zlb dt t):=by
 obtain⟨tc,pc,hc⟩:=hc;obtain⟨tb,pb,hb⟩:=hb;refine⟨_,znO hp pc pb,fun C ρ σ H n D D' S hd g=>?_⟩
 obtain⟨W,⟨m0,w0⟩,turn⟩:=hd;refine⟨fun m L H1=>∃G Z,W m G Z/\Stt X.K C G L H1 Z/\Keep C ρ σ H G L H1,⟨m0,ρ,n,w0,S,Keep.refl⟩,?_⟩
 rintro m L H1 ⟨G,Z,w1,S1,k1⟩;refine hc C G L H1 Z _ _ S1 (turn m G Z w1) fun b n2 H2 r e2 hn2=>?_
 have S2:=S1.on e2 hn2;have k2:=k1.trans e2.keep;cases b with
 | true =>
  refine iteT ⟨fun σ' N=>∃J,J<m/\∃y I,W J y I/\Stt X.K C y σ' N I/\Keep C ρ σ H y σ' N,fun σ' N ⟨J,Y,z⟩=>⟨J,Y,z⟩,?_⟩
  refine hb C G L H2 n2 _ { D' with nx:=fun y I=>∃J,J<m/\W J y I,ct:=fun y I=>∃J,J<m/\W J y I,bk:=D'.nx } S2 (by simpa using r) ⟨?_,fun t I v N h hn R r=>g.rt t I v N h hn (fun a o ha U no=>?_) r,?_,?_,fun c I N h hn R=>g.xr c I N h hn fun a o ha U no=>R a o (k2 a o ha U no).1 U (k2 a o ha U no).2⟩
  ·rintro y σ' N I ⟨J,Y,w'⟩ S' R;exact⟨J,Y,y,I,w',S',k2.trans R⟩
  ·obtain⟨q1,q2⟩:=k2 a o ha U no;exact R a o q1 U q2
  ·intro y σ' N I h' S' R;exact g.nx y σ' N I h' S' (k2.trans R)
  ·rintro y σ' N I ⟨J,Y,w'⟩ S' R;exact⟨J,Y,y,I,w',S',k2.trans R⟩
 | false=>exact iteF (g.nx G L H2 n2 (by simpa using r) S2 k2)
end
def ItOk(K:qF)(hd:Option ak)(P O:ak->Prop)(H:Hp)(J:It)(ts:qD):Prop:=∀(u:ak->Prop) (l:Hp),(∀a o,H a=some o->P a->l a=some o)->(∀a o,H a=some o->¬O a->¬u a)->(∀a,u a->l a≠none) ->
 (∀i t,ts[i]?=some t->J.go i l/\∀x v,J.yld i l x v->Same l v/\Rep K hd u v x t)/\J.stop ts.length l
def DI(X:Cx)(y iter:aV)(d:DTA):Prop:=∃x,PI X y iter x/\∀(C:Ctx) (u:En) (σ:St) (H:Hp) (n:Nat) (Q:It->Hp->Prop) (R:List af->Nat->Prop),Stt X.K C u σ H n->d u n R ->
 (∀ts v J l,R ts v->ExtE C.hd H l->Hn C.hd l v->ItOk X.K C.hd (fun a=>¬Own C u σ a) (Own C u σ) l J ts->Q J l)->x σ H Q
def DIL(X:Cx)(y iter:aV)(d:DTA):Prop:=∃x,PI X y iter x/\∀(C:Ctx) (u:En) (σ:St) (H:Hp) (n:Nat) (Q:It->Hp->Prop) (R:List af->Nat->Prop),Stt X.K C u σ H n->d u n R ->
 (∀ts v J l,R ts v->ExtE C.hd H l->Hn C.hd l v->ItOk X.K C.hd (fun a=>C.hd≠some a) (Own C u σ) l J ts->Q J l)->x σ H Q
section
variable{X:Cx}{a b c e tg iter:aV}{es rest:List aV}{d da db dc:DTE}{ds di:DTA}{dt:DTT}{t u:DTS}{st:dH}{sts sa sb:List dH}{pos p:Pos}{k:Nat}{x:Str}
theorem dil(h:DI X tg iter di):DIL X tg iter di:=by
 obtain⟨Y,pi,h⟩:=h;refine⟨Y,pi,fun C Z σ H n Q R S hd hq=>h C Z σ H n Q R S hd fun ts L J H' r e1 G it=>hq ts L J H' r e1 G ?_⟩
 exact fun N y h1 I v=>it N y (fun a o U no=>h1 a o U fun z=>no (.inl (S.hx a z))) I v
theorem Reps.getP{K:qF}{hd:Option ak}{O:ak->Prop}{H:Hp}{vs ts}{i:Nat}{t}{x:V}(r:Reps K hd O H vs ts)(h:ts[i]?=some t)(hx:vs[i]?=some x):Rep K hd O H x t:=by
 obtain⟨v,l,y⟩:=r.get h;rw[hx]at l;cases l;exact y
theorem VF{K:qF}{hd:Option ak}{P O:ak->Prop}{H:Hp}{q:ak}{vs ts}(Y:H q=some (.lst vs))(U:P q)(Z:∀a,¬O a->P a)(r:Reps K hd O H vs ts):ItOk K hd P O H (Itl K q) ts:=by
 intro S N J R _;have y:=J q _ Y U;have L:Reps K hd S N vs ts:=r.mono (fun a o G z=>gz fun no=>R a o G no z) fun a o no G=>J a o G (Z a no)
 refine⟨fun i t I=>?_,⟨vs,.of y,by rw[r.length];exact aC _⟩⟩
 obtain⟨v,ev,rv⟩:=L.get I;refine⟨⟨vs,v,.of y,ev⟩,fun x H3 C=>?_⟩
 obtain⟨rfl,C⟩:=C;exact⟨Same.refl _,L.getP I (C vs (.of y))⟩
theorem zpb{K:qF}{hd:Option ak}{P O:ak->Prop}{H:Hp}{v:V}{ts}(Y:∀a,¬O a->P a)(r:Rep K hd O H v (.tuple ts)):∃q y,v=.ref q/\SqT K H q y/\ItOk K hd P O H (Itt K q) ts:=by
 have key:∀q y,Reps K hd O H y ts->(∀(I:ak->Prop) (G:Hp),(∀a o,H a=some o->P a->G a=some o)->(∀a o,H a=some o->¬O a->¬I a)->SqT K G q y)->ItOk K hd P O H (Itt K q) ts:=by
  intro q y r Z I G J S _;have C:=Z I G J S;have U:Reps K hd I G y ts:=r.mono (fun a o N z=>gz fun no=>S a o N no z) fun a o no N=>J a o N (Y a no)
  refine⟨fun i t R=>?_,⟨y,C,by rw[r.length];exact aC _⟩⟩
  obtain⟨v,ev,rv⟩:=U.get R;refine⟨⟨y,v,C,ev⟩,fun x H3 L=>?_⟩
  obtain⟨rfl,L⟩:=L;exact⟨Same.refl _,U.getP R (L y C)⟩
 cases r with
 | @tup q y ds h o r=>exact⟨q,y,rfl,.inl (.inl h),key q y r fun I G J _=>.inl (.inl (J q _ h (Y q o)))⟩
 | @tupS q y ds h r=>exact⟨q,y,rfl,h.sq,key q y r fun I G _ _=>h.sq⟩
def dItL(d:DTE):DTA:=fun y n R=>d y n fun t v=>match t with|.list ts=>R ts v|_=>False
def dItT(d:DTE):DTA:=fun y n R=>d y n fun t v=>match t with|.tuple ts=>R ts v|_=>False
theorem U3(h:DE X iter d):DI X tg iter (dItL d):=by
 obtain⟨Z,pa,h⟩:=h;refine⟨_,zls pa,fun C L σ H n Q R S hd U=>?_⟩
 refine h C L σ H n _ _ S hd fun t J v Y r N y q=>?_
 cases t with
 | list ts =>
  obtain⟨p,G,rfl,l,no,I⟩:=q.lstI;exact⟨p,rfl,⟨G,.of l⟩,U ts J _ Y r N y (VF l no (fun _ z=>z) I)⟩
 | _=>exact r.elim
theorem zoD(h:DL X iter d):DIL X tg iter (dItL d):=by
 obtain⟨ta,pa,h⟩:=h;refine⟨_,zls pa,fun C ρ σ H n Q R S hd Y=>?_⟩
 refine h C ρ σ H n _ _ S hd fun t N v Z r U L q=>?_
 cases t with
 | list ts =>
  rcases q with q|⟨p,J,ds,rfl,I,y,G,nh⟩|⟨p,zs,ep,ks,rfl,I,y,G,nh⟩
  rotate_left 2
  ·cases I
  ·obtain⟨p,J,rfl,y,no,G⟩:=q.lstI;exact⟨p,rfl,⟨J,.of y⟩,Y ts N _ Z r U L (VF y (fun z=>no (.inl (S.hx p z))) (fun a no z=>no (.inl (S.hx a z))) G)⟩
  ·cases I;exact⟨p,rfl,⟨J,.of y⟩,Y ts N _ Z r U L (VF y nh (fun a no z=>no (.inl (S.hx a z))) G)⟩
 | _=>exact r.elim
theorem Ud(h:DE X iter d):DI X tg iter (dItT d):=by
 obtain⟨Y,pa,h⟩:=h;refine⟨_,zsn pa,fun C l σ H n Q R S hd N=>?_⟩
 refine h C l σ H n _ _ S hd fun t I v U r J y q=>?_
 cases t with
 | tuple ts =>
  obtain⟨p,G,rfl,L,it⟩:=zpb (P:=fun a=>¬Own C l σ a) (fun _ z=>z) q
  exact⟨p,rfl,⟨G,L⟩,N ts I _ U r J y it⟩
 | _=>exact r.elim
def QQ(lo:Int)(n:Nat):List af:=(fD n).map fun(i:Nat)=>bU (lo+(i:Int))
theorem zoi{K:qF}{hd:Option ak}{P O:ak->Prop}{H:Hp}{lo:Int}{m:Nat}:ItOk K hd P O H (Itr lo m) (QQ lo m):=by
 intro C G _ _ _;refine⟨fun i t v=>?_,by show m<=(QQ lo m).length;simp[QQ]⟩
 unfold QQ at v;rw[bh]at v
 by_cases hi:i<m
 ·rw[mC hi]at v;cases v;refine⟨hi,fun x I y=>?_⟩
  obtain⟨rfl,rfl⟩:=y;exact⟨Same.refl _,.int _⟩
 ·rw[cn (by simp;omega)]at v
  cases v
def Zl(d:DTE):DTA:=fun v n R=>d v n fun t l=>match t with|.int j=>(-(2 ^ 62)<=j/\j<2 ^ 62)/\R (QQ 0 j.toNat) l|_=>False
theorem zeS(Y:X.mg "range" = none) (h:DE X a d) (G:Gl X "range":=by rfl) (y:starEach [a] X.env=[(false,eval a X.env)]:=by rfl):DI X tg (.Call (.Name "range" p) [a] [] pos) (Zl d):=by
 obtain⟨ta,pa,h⟩:=h;refine⟨_,zlr G Y (Um pa UX y) y,fun C L σ H n Q R S hd Z=>?_⟩
 refine h C L σ H n _ _ S hd fun t J v H' r U I q=>?_
 cases t with
 | int j =>
  rw[q.intI];exact⟨j,rfl,r.1.1,r.1.2,Z _ J _ H' r.2 U I zoi⟩
 | _=>exact r.elim
def forP(g:DTG)(v:DTS)(D:JU):List af->En->Nat->Prop
 | [],ρ,n=>D.nx ρ n
 | t::ts,ρ,n=>g t ρ fun l=>v { D with nx:=forP g v D ts,ct:=forP g v D ts,bk:=D.nx } l n
def sFor(di:DTA)(g:DTG)(y:DTS):DTS:=fun D l n=>di l n fun ts v=>forP g y D ts l v
theorem Q0(hp:nW (model X.prog X.w) X.A X.env X.xe)(hc:X.calm=true)(hi:DI X tg iter di)(hg:DG X tg is g)(hb:DSs X sa t)
  (hs:∀x,foldedSetIterable iter X.env x=pure x:=by intro _;rfl):DS X (.For tg iter sa [] pos) (sFor di g t):=by
 obtain⟨wi,pi,hi⟩:=hi;obtain⟨_,gg,pg,hg⟩:=hg;obtain⟨tb,pb,hb⟩:=hb;refine⟨_,zsi hp hc pi pg pb hs,fun C ρ σ H n D D' S hd gd=>?_⟩
 refine hi C ρ σ H n _ _ S hd fun ts n1 J H1 r e1 hn it=>?_
 have S1:=S.on e1 hn;refine⟨fun i m L H2=>m=ts.length - i/\i<=ts.length/\∃I n2,forP g t D' (ts.drop i) I n2/\Stt X.K C I L H2 n2/\Keep C ρ σ H1 I L H2,⟨ts.length,by simp,dR _,ρ,n1,by simpa using r,S1,Keep.refl⟩,?_⟩
 rintro i m L H2 ⟨rfl,hi',I,n2,f2,S2,k2⟩;have itq:=it (Own C I L) H2 (fun a o Y no=>(k2 a o Y (fun z=>no (.inl (S.hx a z))) fun z=>no (.inr z)).1) (fun a o Y no z=>z.elim (fun z=>no (.inl z)) fun z=>(k2 a o Y (fun y=>no (.inl (S.hx a y))) fun y=>no (.inr y)).2 z) (fun a=>S2.dom)
 by_cases hlt:i<ts.length
 ·have et:ts[i]?=some ts[i]:=aw hlt;obtain⟨go,yl⟩:=itq.1 i _ et;rw[bR hlt]at f2;refine .inr ⟨go,fun σ' R=>∃G N,forP g t D' (ts.drop (i+1)) G N/\Stt X.K C G σ' R N/\Keep C ρ σ H1 G σ' R,fun σ' R z=>⟨ts.length - (i+1),by omega,rfl,hlt,z⟩,fun x H3 hy=>?_⟩
  obtain⟨sm,rx⟩:=yl x H3 hy;have S3:=S2.on sm.ext (S2.hnd.same sm);have k3:Keep C ρ σ H1 I L H3:=k2.trans (Same.ext sm:ExtE C.hd H2 H3).keep;refine hg C I L H3 n2 x _ _ _ S3 rx f2 fun ρ4 σ4 r4 S4 k4 _ _=>?_
  have k5:=k3.trans k4;refine hb C ρ4 σ4 H3 n2 _ { D' with nx:=forP g t D' (ts.drop (i+1)),ct:=forP g t D' (ts.drop (i+1)),bk:=D'.nx } S4 r4 ⟨fun G σ' R N h' S' U=>⟨G,N,h',S',k5.trans U⟩,fun t N v R h Z U rp=>gd.rt t N v R h Z (fun a o Y nh no=>?_) rp,fun G σ' R N h' S' U=>gd.nx G σ' R N h' S' (e1.keep.trans (k5.trans U)),fun G σ' R N h' S' U=>⟨G,N,h',S',k5.trans U⟩,fun c N R h Z U=>gd.xr c N R h Z fun a o Y nh no=>U a o ((e1.keep.trans k5) a o Y nh no).1 nh ((e1.keep.trans k5) a o Y nh no).2⟩
  obtain⟨q1,q2⟩:=(e1.keep.trans k5) a o Y nh no;exact U a o q1 nh q2
 ·have e:i=ts.length:=by omega
  subst e;rw[hZ]at f2;exact .inl ⟨itq.2,gd.nx I L H2 n2 f2 S2 (e1.keep.trans k2)⟩
def Qa(N:List Str)(ts:qD):En:=ts.map (fun t=>some (.val t))++bu (N.length - ts.length) none
theorem zgX{K:qF}{hd:Option ak}{O:ak->Prop}{H:Hp}{n:Nat}{N:List Str}{y:List V}{ts:qD}(r:Reps K hd O H y ts)(I:Hn hd H n)(dom:∀a,O a->MutO (H a))(hx:∀a,hd=some a->O a) :
  Stt K ⟨hd,O⟩ (Qa N ts) (start N y) H n/\∀a,¬OwnS (Qa N ts) (start N y) a:=by
 have get:∀(i:Nat) c,(Qa N ts)[i]?=some (some c)->∃t,c=.val t/\ts[i]?=some t:=fun i c h=>by
  unfold Qa at h
  by_cases hi:i<ts.length
  ·rw[bQ (by simpa using hi),bh]at h
   cases e:ts[i]? with
   | none=>rw[e]at h;cases h
   | some t=>rw[e]at h;cases h;exact⟨t,rfl,rfl⟩
  ·rw[bw (by simpa using hi),dX]at h
   split at h <;> cases h
 have no:∀a,¬OwnS (Qa N ts) (start N y) a:=fun a ⟨i,ds,m,J,_⟩=>by
  obtain⟨t,e,_⟩:=get i _ J;subst e;cases m
 refine⟨.mk' (by unfold Qa start;simp[r.length]) (fun i d h=>?_) (fun i ds m h=>?_) (fun i L h=>by obtain⟨t,e,_⟩:=get i _ h;cases e) (fun i j ds es a m _ h=>?_) I dom hx,no⟩
 ·obtain⟨t,e,C⟩:=get i _ h;cases e;obtain⟨v,ev,G⟩:=r.get C;refine⟨v,?_,G.mono (fun a o _ z=>z.elim id fun z=>absurd z (no a)) fun _ _ _ z=>z⟩
  unfold start;have hi:i<y.length:=by
   rcases cq i y.length with z|z
   ·exact z
   ·rw[cn z]at ev;cases ev
  rw[bQ (by simpa using hi),bh,ev];rfl
 ·obtain⟨t,e,_⟩:=get i _ h;subst e;cases m
 ·obtain⟨t,e,_⟩:=get i _ h;subst e;cases m
end
end L2
namespace Bd
open PySem L2 PyProof.Rows
theorem Def.okD{P:aL}{w:aT}{K:qF}{mg:qM}{base:aW}{x:Str}{st:dH}{ps N:List Str}{f:ak}{fd:cR}{k m:Nat}{g:GD}(D:Def K mg x st ps f fd)(S:Uq N ps (JF st))(hm:m=ps.length)
  (hb:∀(l:ah) (A:br) (outer:List Env) (s:aq) (H:Hp) (E:XK),Room k (A.deeper (envOfC x (JF st) s.heap.objs.size f l))->∃d,DSs (cxOf CX0 P w K mg base N x (JF st) f l A outer s H E).nox (Qe st) d /\
   ∀ts n R,ts.length=m->g ts n R->d { nx:=fun _ u=>R .none u,rt:=R } (Qa N ts) n):FnOk P w K mg base CX0 (k+1) f fd ps (spD K m g):=by
 refine D.F.ok S (fun vs H Q E h=>?_) (fun l A outer s H vs Q E hr h=>?_)
 ·obtain⟨hd,O,ts,n,R,r,_,_,_,y,_⟩:=h;rw[r.length,y,hm]
 ·obtain⟨hd,O,ts,n,R,r,hn,dom,hx,y,hg,Y⟩:=h;obtain⟨d,⟨t,pt,ht⟩,C⟩:=hb l A outer s H E hr;obtain⟨S0,no⟩:=zgX (N:=N) r hn dom hx;refine⟨t,pt,ht ⟨hd,O⟩ _ _ H n _ _ S0 (C ts n R y hg) ⟨fun ρ' σ' L u h S' G=>?_,fun t u v L h J G Z=>?_,fun _ _ _ _ h=>h.elim,fun _ _ _ _ h=>h.elim,fun _ _ _ h=>h.elim⟩⟩
  ·exact Y .none u .non L h (fun a o I U=>(G a o I U (no a)).1) S'.hnd .non
  ·exact Y t u v L h (fun a o I U=>G a o I U (no a)) J Z
end Bd
namespace L2
open PySem PySem.Spec PyProof.Rows
def DTs(Y:Cx)(ifs:List aV)(d:DTT):Prop:=∃x,PTs Y ifs x/\∀(C:Ctx) (v:En) (σ:St) (H:Hp) (n:Nat) (Q:Bool->Hp->Prop) (R:Bool->Nat->Prop),Stt Y.K C v σ H n->d v n R ->
 (∀b u l,R b u->ExtE C.hd H l->Hn C.hd l u->Q b l)->x σ H Q
def dYes:DTT:=fun _ n R=>R true n
section
variable{Y:Cx}{c:aV}{d:DTT}
theorem VJ:DTs Y [] dYes:=⟨_,zpI,fun C u σ H n Q R S h l=>l true n H h ExtE.refl S.hnd⟩
theorem VD(h:DT Y c d):DTs Y [c] d:=by
 obtain⟨l,p,h⟩:=h;exact⟨_,zpH p,h⟩
end
theorem DE.uni{J:Type}{Xf:J->Cx}{K:qF}(y:∀i,(Xf i).K=K){e:aV}{d:DTE}(h:∀i,DE (Xf i) e d):∃G:TE,(∀i,PE (Xf i) e G)/\∀(C:Ctx) (u:En) (σ:St) (H:Hp) (n:Nat) (Q:VK) (R:qN),Stt K C u σ H n->d u n R ->
  (∀t x v l,R t x->ExtE C.hd H l->Hn C.hd l x->Rep K C.hd (Own C u σ) l v t->Q v l)->G σ H Q:=by
 refine⟨fun σ H Q=>∀i,(ic (h i)) σ H Q,fun i pins s σ H Q I hw=>(cJ (h i)).1 pins s σ H Q I (hw i),fun C u σ H n Q R S hd L i=>?_⟩
 have:=(cJ (h i)).2 C u σ H n Q R;exact this (by rw[y i];exact S) hd fun t x v l r e h q=>L t x v l r e h (by rw[<- y i];exact q)
theorem DTs.uni{y:Type}{Xf:y->Cx}{K:qF}(G:∀i,(Xf i).K=K){e:List aV}{d:DTT}(h:∀i,DTs (Xf i) e d):∃x:TT,(∀i,PTs (Xf i) e x)/\∀(C:Ctx) (l:En) (σ:St) (H:Hp) (n:Nat) (Q:Bool->Hp->Prop) (R:Bool->Nat->Prop),Stt K C l σ H n->d l n R ->
  (∀b v u,R b v->ExtE C.hd H u->Hn C.hd u v->Q b u)->x σ H Q:=by
 refine⟨fun σ H Q=>∀i,(ic (h i)) σ H Q,fun i pins s σ H Q I hw=>(cJ (h i)).1 pins s σ H Q I (hw i),fun C l σ H n Q R S hd J i=>?_⟩
 have:=(cJ (h i)).2 C l σ H n Q R;exact this (by rw[G i];exact S) hd J
theorem DG.uni{G:Type}[Nonempty G]{Xf:G->Cx}{K:qF}(y:∀i,(Xf i).K=K){e:aV}{is:List Nat}{d:DTG}(h:∀i,DG (Xf i) e is d):∃J:TG,(∀i,PG (Xf i) e J)/\∀(C:Ctx) (x:En) (σ:St) (H:Hp) (n:Nat) (v:V) (t:af) (Q:St->Hp->Prop) (R:En->Prop),Stt K C x σ H n->Rep K C.hd (Own C x σ) H v t->d t x R ->
  (∀l σ',R l->Stt K C l σ' H n->Keep C x σ H l σ' H->(∀j,j∉is->σ'[j]?=σ[j]?)->σ'.length=σ.length->Q σ' H)->J v σ H Q:=by
 refine⟨fun v σ H Q=>∀i,(ic (h i).2) v σ H Q,fun i pins s σ H v u Q I r hw=>(cJ (h i).2).1 pins s σ H v u Q I r (hw i),fun C x σ H n v t Q R S r hd N i=>?_⟩
 have:=(cJ (h i).2).2 C x σ H n v t Q R;exact this (by rw[y i];exact S) (by rw[y i];exact r) hd fun l σ' L U=>N l σ' L (by rw[<- y i];exact U)
theorem Wk.of:∀{σ σ':St},σ.length=σ'.length->(∀(i:Nat) v,σ[i]?=some (some v)->σ'[i]?=some (some v))->Wk σ σ'
 | [],[],_,_=>trivial
 | [],_::_,h,_=>by simp at h
 | _::_,[],h,_=>by simp at h
 | none::r,o::r',h,k=>Wk.of (σ:=r) (σ':=r') (by simpa using h) fun i v e=>by simpa using k (i+1) v (by simpa using e)
 | some w::r,o::r',h,k=>⟨by simpa using k 0 w rfl,Wk.of (by simpa using h) fun i v e=>by simpa using k (i+1) v (by simpa using e)⟩
def capV:Option Cell->Option Cell
 | some (.val d)=>some (.val d)
 | some (.dct ks)=>some (.rdo ks)
 | some (.rdo ks)=>some (.rdo ks)
 | _=>none
def JB(m:Nat)(capt:List Nat)(l:En):En:=bu m none++capt.map fun i=>capV (l.getD i none)
def JT(g:DTG)(tt:DTT)(v:DTE)(l:En):List af->List af->Nat->(List af->Nat->Prop)->Prop
 | [],acc,n,R=>R acc n
 | x::xs,acc,n,R=>g x l fun u=>tt u n fun b y=>if b=true then v u y fun t C=>acc.length<16777216/\JT g tt v l xs (acc++[t]) C R else JT g tt v l xs acc y R
def dComp(m:Nat)(capt:List Nat)(u:DTA)(g:DTG)(tt:DTT)(v:DTE):DTA:=fun l n R=>u l n fun ts x=>JT g tt v (JB m capt l) ts [] x R
theorem zoO{own:List Str}{capt is:List Nat}{σ u:St}(x:∀i∈is,i<own.length)(y:∀j,j∉is->u[j]?=(Jx own++capS capt σ)[j]?){j:Nat}{v:V}(l:(Jx own++capS capt σ)[j]?=some (some v)):u[j]?=some (some v):=by
 by_cases hjo:j<own.length
 ·rw[bQ (by simpa using hjo),bh]at l
  cases z:own[j]? with
  | none=>rw[z]at l;cases l
  | some q=>rw[z]at l;cases l
 ·rw[y j (fun z=>hjo (x j z))];exact l
theorem ExtE.updR{hd:Option ak}{l v:Hp}{D:ak}{o:HO}(C:l D=none)(e:ExtE hd l v):ExtE hd l (upd v D o):=fun a u x y=>by
 rw[Jn (Qx x C)];exact e a u x y
theorem Hn.updR{hd:Option ak}{u:Hp}{D:ak}{o:HO}{n:Nat}(l:hd≠some D)(h:Hn hd u n):Hn hd (upd u D o) n:=fun a v=>by
 obtain⟨d,m,t,q,rest⟩:=h a v;exact⟨d,m,t,by rw[Jn (show a≠D from fun z=>l (by rw[<- z];exact v))];exact q,rest⟩
section
variable{X:Cx}{scope:fA}{own:List Str}{capt:List Nat}{elt tg iter:aV}{ifs:List aV}{pos:Pos}{di:DTA}{is:List Nat}{g:DTG}{tt:DTT}{te:DTE}
theorem zgy{x:En}{i:Nat}{c:Cell}(h:capV (x.getD i none)=some c):(∃d,c=.val d/\x[i]?=some (some (.val d)))\/∃u,c=.rdo u/\(x[i]?=some (some (.dct u))\/x[i]?=some (some (.rdo u))):=by
 rw[bz]at h;cases e:x[i]? with
 | none=>rw[e]at h;cases h
 | some o =>
  rw[e]at h;cases o with
  | none=>cases h
  | some y =>
   cases y with
   | val d'=>simp[capV]at h;exact .inl ⟨d',h.symm,rfl⟩
   | own _=>simp[capV]at h
   | dct u=>simp[capV]at h;exact .inr ⟨u,h.symm,.inl rfl⟩
   | dtt u=>simp[capV]at h
   | rdo u=>simp[capV]at h;exact .inr ⟨u,h.symm,.inr rfl⟩
theorem zmO{K:qF}{C:Ctx}{u:En}{σ:St}{H L:Hp}{n n2:Nat}{D:ak}(S:Stt K C u σ H n)(e:ExtE C.hd H L)(hn:Hn C.hd L n2)(hD:H D=none)(hy:MutO (L D)) :
  Stt K ⟨C.hd,fun a=>Own C u σ a\/a=D⟩ (JB own.length capt u) (Jx own++capS capt σ) L n2/\∀a,¬OwnS (JB own.length capt u) (Jx own++capS capt σ) a:=by
 have get:∀(i:Nat) c,(JB own.length capt u)[i]?=some (some c)->∃j,capV (u.getD j none)=some c/\own.length<=i/\capt[i - own.length]?=some j:=fun i c h=>by
  unfold JB at h
  by_cases hi:i<own.length
  ·rw[bQ (by simpa using hi),dX]at h
   split at h <;> cases h
  ·rw[bw (by simpa using hi),fR,bh]at h
   cases ej:capt[i - own.length]? with
   | none=>rw[ej]at h;cases h
   | some j =>
    rw[ej]at h;exact⟨j,by simpa using h,by omega,rfl⟩
 have slot:∀(i j:Nat) (v:V),own.length<=i->capt[i - own.length]?=some j->σ[j]?=some (some v)->(Jx own++capS capt σ)[i]?=some (some v):=fun i j v hi J y=>by
  rw[bw (by simpa using hi)]
  simp only[ba,bh,J,gL];rw[bz,y];rfl
 have nm:∀(i:Nat) (c:Cell),c.mine=true->(JB own.length capt u)[i]?=some (some c)->False:=fun i c m h=>by
  obtain⟨j,U,_⟩:=get i c h;rcases zgy U with⟨d,rfl,_⟩|⟨R,rfl,_⟩ <;> cases m
 have no:∀a,¬OwnS (JB own.length capt u) (Jx own++capS capt σ) a:=fun a ⟨i,c,m,y,_⟩=>nm i c m y
 have S2:=S.on e hn;have sub:∀a o,H a=some o->Own ⟨C.hd,fun a=>Own C u σ a\/a=D⟩ (JB own.length capt u) (Jx own++capS capt σ) a->Own C u σ a:=fun a o x z=>by
  rcases z with z|z
  ·rcases z with z|z
   ·exact z
   ·subst z;rw[hD]at x;cases x
  ·exact absurd z (no a)
 have kp:∀a o,¬Own C u σ a->H a=some o->L a=some o:=fun a o nO x=>e a o x fun z=>nO (.inl (S.hx a z))
 refine⟨.mk' (by unfold JB;simp) (fun i d h=>?_) (fun i ds m h=>(nm i _ m h).elim) (fun i R h=>?_) (fun i j ds es a m _ h=>(nm i _ m h).elim) hn (fun a x=>?_) (fun a x=>.inl (.inl (S.hx a x))),no⟩
 ·obtain⟨j,U,hi,J⟩:=get i _ h;rcases zgy U with⟨d',z,G⟩|⟨R,z,_⟩
  ·cases z;obtain⟨v,y,N⟩:=S.val j d G;exact⟨v,slot i j v hi J y,N.mono sub kp⟩
  ·cases z
 ·obtain⟨j,U,hi,J⟩:=get i _ h;rcases zgy U with⟨d',z,G⟩|⟨ks',z,G⟩
  ·cases z
  ·cases z;rcases G with G|G
   ·obtain⟨a,I,y,N,Z,h4⟩:=S.dct j R G;have Y:C.hd≠some a:=fun z=>h4 (S.hx a z)
    exact⟨a,I,slot i j _ hi J y,e a _ N Y,Z.mono sub kp,.inl (.inr ⟨j,.dct R,rfl,G,y⟩),Y⟩
   ·obtain⟨a,I,y,N,Z,h4,Y⟩:=S.rdo j R G;exact⟨a,I,slot i j _ hi J y,e a _ N Y,Z.mono sub kp,.inl (.inl h4),Y⟩
 ·rcases x with x|rfl
  ·exact S2.lst x
  ·exact hy
theorem zjO{K:qF}{C:Ctx}{u:En}{σ:St}{H v:Hp}{n x:Nat}{D:ak}{ys:List V}(S:Stt K C u σ H n)(e:ExtE C.hd H v)(G:Hn C.hd v x)(I:H D=none)(y:v D=some (.lst ys)) :
  Stt K ⟨C.hd,fun a=>Own C u σ a\/a=D⟩ (JB own.length capt u) (Jx own++capS capt σ) v x/\∀a,¬OwnS (JB own.length capt u) (Jx own++capS capt σ) a:=zmO S e G I (.inl ⟨_,y⟩)
def zuE(K:qF)(te:TE)(d:DTA):Prop:=∀(C:Ctx) (v:En) (σ:St) (H:Hp) (n:Nat) (Q:VK) (R:List af->Nat->Prop),Stt K C v σ H n->d v n R ->
 (∀ts x p y u,R ts x->ExtE C.hd H u->Hn C.hd u x->H p=none->u p=some (.lst y)->Reps K C.hd (fun a=>Own C v σ a\/a=p) u y ts->Q (.ref p) u)->te σ H Q
theorem zh4(hi:DIL X tg iter di)
  (hg:∀C s₀ H₀ y,DG (Jg X scope own capt C s₀ H₀ y) tg is g) (hin:∀i∈is,i<own.length) (ht:∀C s₀ H₀ y,DTs (Jg X scope own capt C s₀ H₀ y) ifs tt) (he:∀C s₀ H₀ y,DE (Jg X scope own capt C s₀ H₀ y) elt te) :
  ∃(wi:TI) (gg:TG) (gt:TT) (ge:TE),PI X tg iter wi/\(∀C s₀ H₀ y,PG (Jg X scope own capt C s₀ H₀ y) tg gg)/\(∀C s₀ H₀ y,PTs (Jg X scope own capt C s₀ H₀ y) ifs gt)/\(∀C s₀ H₀ y,PE (Jg X scope own capt C s₀ H₀ y) elt ge)/\zuE X.K (tComp own capt wi gg gt ge) (dComp own.length capt di g tt te):=by
 obtain⟨wi,pi,hi⟩:=hi
 let Xf:(ak×aq×Hp×List ak)->Cx:=fun q=>Jg X scope own capt q.1 q.2.1 q.2.2.1 q.2.2.2
 have hK:∀q,(Xf q).K=X.K:=fun _=>rfl
 have hne:Nonempty (ak×aq×Hp×List ak):=⟨(0,X.s₀,X.H₀,[])⟩;obtain⟨gg,pg,hgg⟩:=DG.uni (Xf:=Xf) hK fun q=>hg q.1 q.2.1 q.2.2.1 q.2.2.2
 obtain⟨gt,pt,hgt⟩:=DTs.uni (Xf:=Xf) hK fun q=>ht q.1 q.2.1 q.2.2.1 q.2.2.2
 obtain⟨ge,pe,hge⟩:=DE.uni (Xf:=Xf) hK fun q=>he q.1 q.2.1 q.2.2.1 q.2.2.2
 refine⟨wi,gg,gt,ge,pi,(fun C s₀ H₀ y=>pg (C,s₀,H₀,y)),(fun C s₀ H₀ y=>pt (C,s₀,H₀,y)),(fun C s₀ H₀ y=>pe (C,s₀,H₀,y)),fun C N σ H n Q R St hd hq=>?_⟩
 refine hi C N σ H n _ _ St hd fun ts n1 J H1 r e1 hn it=>fun D I=>?_
 have St1:=St.on e1 hn;have hD:H D=none:=VE e1 hn I;have nhd:C.hd≠some D:=fun z=>St.dom (.inl (St.hx D z)) hD
 refine zmR (n:=ts.length) (fun i ys S=>∃u n2,JT g tt te (JB own.length capt N) (ts.drop i) u n2 R/\Reps X.K C.hd (fun a=>Own C N σ a\/a=D) S ys u/\ExtE C.hd H1 S/\Hn C.hd S n2)
  ⟨[],n1,by simpa using r,.nil,ExtE.new I,hn.same (JS I)⟩ ?_ ?_
 ·rintro i ys S hlt hy ⟨u,n2,c2,r2,Z,L⟩;have et:ts[i]?=some ts[i]:=aw hlt;rw[bR hlt]at c2;have itq:=it (fun a=>Own C N σ a\/a=D) S (fun a o G nh=>Z a o G nh) (fun a o G no z=>z.elim no fun z=>by subst z;rw[I]at G;cases G) (fun a z=>z.elim (fun z=>(St1.on Z L).dom z) fun z=>by subst z;rw[hy];exact fun z=>by cases z)
  obtain⟨go,yl⟩:=itq.1 i _ et;refine⟨go,fun x H3 hyd=>?_⟩
  obtain⟨sm,rx⟩:=yl x H3 hyd;have hn3:=L.same sm;have e3:ExtE C.hd H1 H3:=Z.trans sm.ext;obtain⟨I3,no3⟩:=zjO (own:=own) (capt:=capt) (D:=D) (ys:=ys) St (e1.trans e3) hn3 hD (sm _ _ hy);have rx':Rep X.K C.hd (Own ⟨C.hd,fun a=>Own C N σ a\/a=D⟩ (JB own.length capt N) (Jx own++capS capt σ)) H3 x ts[i]:=rx.mono (fun a o _ z=>z.elim id fun z=>absurd z (no3 a)) fun _ _ _ z=>z
  refine hgg ⟨C.hd,fun a=>Own C N σ a\/a=D⟩ (JB own.length capt N) (Jx own++capS capt σ) H3 n2 x ts[i] _ _ I3 rx' c2 fun ρ4 σ4 r4 S4 k4 hj hl=>⟨Wk.of hl.symm fun j v ej=>zoO hin hj ej,?_⟩
  ·refine hgt _ ρ4 σ4 H3 n2 _ _ S4 r4 fun b n5 H5 r5 Y hn5=>?_
   have S5:=S4.on Y hn5;have hy5:H5 D=some (.lst ys):=Y D _ (sm _ _ hy) nhd;have U:∀{H6},ExtE C.hd S H6->Reps X.K C.hd (fun a=>Own C N σ a\/a=D) H6 ys u:=fun e=>r2.mono (fun _ _ _ z=>z) fun a o no G=>e a o G fun z=>no (.inl (.inl (St.hx a z)))
   cases b with
   | false =>
    refine iteF ⟨ys,hy5,u,n5,by simpa using r5,U ((Same.ext sm).trans Y),e3.trans Y,hn5⟩
   | true =>
    refine iteT (hge _ ρ4 σ4 H5 n5 _ _ S5 (by simpa using r5) fun t n6 v H6 r6 e6 hn6 q6=>?_)
    have hy6:H6 D=some (.lst ys):=e6 D _ hy5 nhd;have rl:=(U ((Same.ext sm).trans (Y.trans e6))).length;refine⟨ys,hy6,by rw[rl];exact r6.1,u++[t],n6,r6.2,?_,?_,?_⟩
    ·have q6':Rep X.K C.hd (fun a=>Own C N σ a\/a=D) H6 v t:=q6.mono (fun _ _ _ z=>.inl z) fun _ _ _ z=>z
     have all:=(U ((Same.ext sm).trans (Y.trans e6))).append (Reps.cons q6' .nil);exact all.mono (fun _ _ _ z=>z) fun a o no G=>by rw[Jn (show a≠D from fun z=>no (.inr z))];exact G
    ·exact ExtE.updR I (e3.trans (Y.trans e6))
    ·exact Hn.updR nhd hn6
 ·rintro ys S hy ⟨u,n2,c2,r2,Z,L⟩;rw[hZ]at c2;have itq:=it (fun a=>Own C N σ a\/a=D) S (fun a o G nh=>Z a o G nh) (fun a o G no z=>z.elim no fun z=>by subst z;rw[I]at G;cases G) (fun a z=>z.elim (fun z=>(St1.on Z L).dom z) fun z=>by subst z;rw[hy];exact fun z=>by cases z)
  exact⟨itq.2,hq u n2 D ys S c2 (e1.trans Z) L hD hy r2⟩
theorem zmA(hc:X.calm=true)(S:JN scope own capt X)(hi:DIL X tg iter di)
  (y:∀C s₀ H₀ l,DG (Jg X scope own capt C s₀ H₀ l) tg is g) (u:∀i∈is,i<own.length) (G:∀C s₀ H₀ l,DTs (Jg X scope own capt C s₀ H₀ l) ifs tt) (v:∀C s₀ H₀ l,DE (Jg X scope own capt C s₀ H₀ l) elt te)
  (I:∀x,foldedSetIterable iter X.env x=pure x:=by intro _;rfl):DN X (.ListComp elt [⟨tg,iter,ifs,0⟩] scope pos) (dComp own.length capt di g tt te):=by
 obtain⟨R,N,gt,ge,a,b,c,d,J⟩:=zh4 hi y u G v;exact⟨_,znR hc S a b c d I,J⟩
def DNA(X:Cx)(x:Str)(l:Pos)(e:aV)(pos:Pos)(i:Nat)(d:DTA):Prop:=∃te,PS X (.Assign [.Name x l] e pos) (tAsg te (Zk i))/\zuE X.K te d
theorem zgC{x:Str}{u J:Pos}{i:Nat}(Z:X.N.Nodup)(G:X.N[i]?=some x)(hx:Loc X.env.scope x)(hc:X.calm=true)(S:JN scope own capt X)(hi:DIL X tg iter di)
  (U:∀C s₀ H₀ v,DG (Jg X scope own capt C s₀ H₀ v) tg is g) (y:∀i∈is,i<own.length) (Y:∀C s₀ H₀ v,DTs (Jg X scope own capt C s₀ H₀ v) ifs tt) (R:∀C s₀ H₀ v,DE (Jg X scope own capt C s₀ H₀ v) elt te)
  (hs:∀x,foldedSetIterable iter X.env x=pure x:=by intro _;rfl) (I:swapsWith (.ListComp elt [⟨tg,iter,ifs,0⟩] scope pos) (some (.Name x u)) J.line X.env=pure true:=by rfl)
  (hf:X.fn x=true\/X.env.scope.names.lookup x=some .local:=by walk_at "F") :
  DNA X x u (.ListComp elt [⟨tg,iter,ifs,0⟩] scope pos) J i (dComp own.length capt di g tt te):=by
 obtain⟨wi,gg,gt,ge,a,b,c,d,sp⟩:=zh4 hi U y Y R;exact⟨_,zlk hc S a b c d Z G hx hs I hf,sp⟩
theorem ziZ{x:Str}{v y:Pos}{e:aV}{i:Nat}{d:DTA}(h:DNA X x v e y i d):DS X (.Assign [.Name x v] e y) (sSet i (dNew d)):=by
 obtain⟨ta,pa,h⟩:=h;refine⟨_,pa,fun C U σ H n D D' S hd g=>?_⟩
 refine h C U σ H n _ _ S hd fun ts R p vs Z r G Y J I L=>?_
 exact g.nx _ _ Z R r ((S.on G Y).put (.lst I (S.free J|> fun z=>z) (L.mono (fun _ _ _ z=>.inl z) fun _ _ _ z=>z))) (G.keep.trans QI)
end
def Vs(K:qF):Sp:=fun u H Q _=>∃(a:ak) (ns:List Int) (k:Int),u=[.ref a,.int k]/\SqL K H a (ns.map V.int)/\ns.length<=63/\0<=k/\k<=100 /\
 ∀hd l,H hd=none->Vu l hd 0->Same H l->Q (.ref hd) l
def zuD(hd:ak)(H l:Hp):Prop:=∀b o,H b=some o->b≠hd->l b=some o
def zoT:Sp:=fun l H Q _=>∃(hd:ak) (many n:Int),l=[.ref hd,.int many]/\Vu H hd n/\n<=1000000000000/\0<many/\many<2 ^ 128 /\
 ∀(r:Int) H',0<=r->r<many->Vu H' hd (n+1)->zuD hd H H'->Q (.int r) H'
def U0:GD:=fun ts n R=>match ts with
 | [h,.int many]=>h=HAND/\0<many/\many<2 ^ 128/\n<=1000000000000/\∀r:Int,0<=r->r<many->R (.int r) (n+1)
 | _=>False
theorem znv{K:qF}(v:List V)(H:Hp)(Q:VK)(E:XK)(h:spD K 2 U0 v H Q E):zoT v H Q E:=by
 obtain⟨hd,O,ts,n,R,r,C,dom,hx,Z,g,J⟩:=h;unfold U0 at g;split at g
 ·rename_i u many;obtain⟨rfl,m0,m1,I,g⟩:=g;cases r with
  | cons L r =>
   cases r with
   | cons S r =>
    cases r;obtain⟨a,rfl,l⟩:=L.handI;rw[S.intI];refine⟨a,many,n,rfl,C a l,by omega,m0,m1,fun q N Y y u G=>?_⟩
    refine J _ (n+1) _ N (g q Y y) (fun b o U nb=>G b o U fun z=>nb (by rw[l,z])) (fun b x=>?_) (.int _)
    rw[l]at x;cases x;exact u
 ·exact g.elim
def zrQ:Option (Option Cell)->(List af->Prop)->Prop
 | some (some (.val (.dict [(.none,.list ts)]))),R=>R ts
 | _,_=>False
def JL(u:En):En:=match (u[(0:Nat)]?:Option (Option Cell)) with
 | some (some (.val (.dict [(.none,.list ts)])))=>some (.val (.dict [(.none,.list ts)]))::bu (u.length - 1) none
 | _=>bu u.length none
def intOf:Option (Option Cell)->(Int->Prop)->Prop
 | some (some (.val (.int k))),R=>R k
 | _,_=>False
def Yw(i j:Nat)(u:DTS):DTS:=fun D y n=>zrQ y[0]? fun ts=>intOf y[j]? fun k=>(∃ns:List Int,ts=ns.map bU/\ns.length<=63)/\0<=k/\k<=100 /\
 u { nx:=fun x _=>D.nx (JL x) n,rt:=fun t _=>∃b,t=.bool b/\D.rt t n,bk:=fun x _=>D.bk (JL x) n,ct:=fun x _=>D.ct (JL x) n } (((JL y).set j (some (.val (.int k)))).set i (some (.val HAND))) 0
theorem U9(h:(JL ρ)[i]?=some (some c)):i=0/\ρ[0]?=some (some c)/\∃ts,c=.val (.dict [(.none,.list ts)]):=by
 unfold JL at h;split at h
 ·rename_i ts e;cases i with
  | zero=>simp at h;subst h;exact⟨rfl,e,ts,rfl⟩
  | succ i =>
   rw[c9,dX]at h;split at h <;> cases h
 ·rw[dX]at h;split at h <;> cases h
theorem zoA:(JL ρ).length=ρ.length:=by
 unfold JL;split
 ·rename_i ts e;cases ρ with
  | nil=>simp at e
  | cons a r=>simp
 ·simp
theorem zgB:¬OwnS (JL ρ) σ a:=fun⟨i,ds,m,h,_⟩=>by
 obtain⟨_,_,ts,e⟩:=U9 h;subst e;cases m
theorem Rep.scrHd{K:qF}{hd G:Option ak}{O I:ak->Prop}{H J:Hp}{v:V}{ts:qD}(h:Rep K hd O H v (.dict [(.none,.list ts)]))(C:∀a o,H a=some o->¬O a->J a=some o/\¬I a):Rep K G I J v (.dict [(.none,.list ts)])/\∃ns:List Int,ts=ns.map bU:=by
 generalize e:(vc [(lV,vd ts)])=t at h;cases h with
 | @scr a ns x o =>
  have y:ts=ns.map bU:=by simpa[SCR] using e
  subst y;refine⟨?_,ns,rfl⟩;rcases x with x|⟨u,x⟩
  ·exact .scr (.inl (C a _ x o).1) (C a _ x o).2
  ·exact .scr (.inr ⟨u,(C a _ x o).1⟩) (C a _ x o).2
 | @scrS a ns x =>
  have y:ts=ns.map bU:=by simpa[SCR] using e
  subst y;exact⟨.scrS x,ns,rfl⟩
 | hand _=>simp[HAND]at e
 | dct _ _=>cases e
 | dcK _ _ _ y=>cases e;exact(dict_noK y).elim
 | dcT _ _ _ y=>cases e;exact(dict_noT y).elim
 | _=>cases e
theorem Stt.drop{K:qF}{C y:Ctx}{u:En}{σ:St}{H l:Hp}{n G:Nat}(S:Stt K y u σ H n)(N:Hn C.hd l G)(J:∀a,C.ext a->MutO (l a))(hx:∀a,C.hd=some a->C.ext a)
  (x:∀a o,H a=some o->¬Own y u σ a->l a=some o/\¬C.ext a):Stt K C (JL u) σ l G where
 len:=by rw[zoA];exact S.len
 val:=fun i d h=>by
  obtain⟨rfl,Y,ts,L⟩:=U9 h;cases L;obtain⟨v,U,R⟩:=S.val 0 _ Y;exact⟨v,U,(R.scrHd fun a o I no=>⟨(x a o I no).1,fun z=>z.elim (x a o I no).2 zgB⟩).1⟩
 own:=fun i ds h=>by
  obtain⟨_,_,ts,e⟩:=U9 h;cases e
 dct:=fun i ds h=>by
  obtain⟨_,_,ts,e⟩:=U9 h;cases e
 rdo:=fun i ds h=>by
  obtain⟨_,_,ts,e⟩:=U9 h;cases e
 dtt:=fun i ds h=>by
  obtain⟨_,_,ts,e⟩:=U9 h;cases e
 dif:=fun i j ds Z a m _ h=>by
  obtain⟨_,_,ts,e⟩:=U9 h;subst e;cases m
 hnd:=N
 ext:=J
 hx:=hx
section
variable{X:Cx}{st:dH}{sts:List dH}{ps:List Str}{f:ak}{fd:cR}{u:DTS}{x s kx hx:Str}{pos pos' p p1 p2 p3:Pos}{k:Nat}
theorem zoy{i j:Nat}(D:Bd.Def X.K X.mg hx st ps f fd)(G:FnOk X.prog X.w X.K X.mg X.base CX0 k f fd ps (Vs X.K))(hr:Room k X.A)(hN:X.N.Nodup)(hi:X.N[i]?=some x)(hlx:Loc X.env.scope x)(hu:DSs X sts u)(hij:i≠0:=by decide)(hj0:j≠0:=by decide)(hji:j≠i:=by decide)
  (h0:X.N[0]?=some s:=by rfl) (hj:X.N[j]?=some kx:=by rfl) (hv0:Vis X.env.scope s:=by walk_at "V") (hvj:Vis X.env.scope kx:=by walk_at "V")
  (hd0:(s == ("__debug__":Str))=false:=by rfl) (Ki:(s == ("__classdict__":Str))=false:=by rfl) (hdj:(kx == ("__debug__":Str))=false:=by rfl) (Kj:(kx == ("__classdict__":Str))=false:=by rfl) (hg:Gl X hx:=by rfl) (hdb:(hx == ("__debug__":Str))=false:=by rfl)
  (hs:swapsWith (.Call (.Name hx p) [.Name s p1,.Name kx p2] [] p3) (some (.Name x pos')) pos.line X.env=pure false:=by rfl) (hf:X.fn x=true\/X.env.scope.names.lookup x=some .local:=by walk_at "F") :
  DSs X (.Assign [.Name x pos'] (.Call (.Name hx p) [.Name s p1,.Name kx p2] [] p3) pos::sts) (Yw i j u):=by
 obtain⟨tu,pu,hu⟩:=hu;refine⟨_,Qy (QG hN hi hlx (Bd.zpT D G hr (Qf (QX h0 hv0 hd0 Ki) (Qf (QX hj hvj hdj Kj) QF rfl) rfl) hg hdb) hs hf) pu,fun C ρ σ H n Dn D' S hd g=>?_⟩
 unfold Yw zrQ at hd;split at hd
 ·rename_i ts e0;unfold intOf at hd;split at hd
  ·rename_i U ej;obtain⟨⟨ns,rfl,hl⟩,k0,k1,hd⟩:=hd;obtain⟨v0,s0,r0⟩:=S.val 0 _ e0;obtain⟨vj,sj,rj⟩:=S.val j _ ej;obtain⟨a0,rfl,sq0⟩:=r0.scrI;rw[rj.intI]at sj;refine⟨_,s0,_,sj,?_⟩;refine⟨a0,ns,U,rfl,sq0,hl,k0,k1,fun h H1 Z hok Y=>?_⟩
   have S1:=S.on (Same.ext Y:ExtE C.hd H H1) (S.hnd.same Y);have nx:¬Own C ρ σ h:=fun z=>S.dom z Z
   have Sd:Stt X.K ⟨some h,fun a=>C.ext a\/a=h⟩ (JL ρ) σ H1 0:=S.drop (fun a ea=>by cases ea;exact hok) (fun a z=>z.elim (fun z=>S1.ext a z) fun z=>by subst z;obtain⟨_,_,_,q,_⟩:=hok;exact .inl ⟨_,q⟩) (fun a ea=>.inr (by cases ea;rfl))
    (fun a o J no=>⟨Y a o J,fun z=>z.elim (fun z=>no (.inl z)) fun z=>by subst z;rw[Z]at J;cases J⟩)
   have Sd2:=(Sd.put (i:=j) (t:=.int U) (v:=.int U) (.int U)).put (i:=i) (t:=HAND) (v:=.ref h) (.hand rfl);have Kk:∀a,¬OwnS (((JL ρ).set j (some (.val (.int U)))).set i (some (.val HAND))) ((σ.set j (some (.int U))).set i (some (.ref h))) a:=fun a z=>zgB (V2 (V2 z))
   have es:(σ.set j (some (V.int U)))=σ:=by
    apply nH
    intro q
    by_cases z:j=q
    ·subst z;have:j<σ.length:=by
      rcases cq j σ.length with w|w
      ·exact w
      ·rw[cn w]at sj;cases sj
     rw[zk6 this,sj]
    ·rw[aS z]
   rw[es]at Sd2 Kk;refine hu _ _ _ H1 0 _ _ Sd2 hd ?_;have back:∀{y σ' I n'},Stt X.K ⟨some h,fun a=>C.ext a\/a=h⟩ y σ' I n'->(∀a o,H1 a=some o->some h≠some a->I a=some o)->Stt X.K C (JL y) σ' I n:=fun {y σ' I n'} S' kp =>
    S'.drop (fun a ea=>by
      obtain⟨d,m,t,q,rest⟩:=S.hnd a ea;exact⟨d,m,t,kp a _ (Y _ _ q) (fun z=>by cases z;rw[Z]at q;cases q),rest⟩)
     (fun a z=>by
      rcases S.ext a z with⟨xs,q⟩|⟨xs,q⟩|⟨b,xs,ep,q⟩
      ·exact .inl ⟨xs,kp a _ (Y _ _ q) (fun z=>by cases z;rw[Z]at q;cases q)⟩
      ·exact .inr (.inl ⟨xs,kp a _ (Y _ _ q) (fun z=>by cases z;rw[Z]at q;cases q)⟩)
      ·exact .inr (.inr ⟨b,xs,ep,kp a _ (Y _ _ q) (fun z=>by cases z;rw[Z]at q;cases q)⟩)) S.hx (fun a o J no=>⟨J,fun z=>no (.inl (.inl z))⟩)
   have R:∀{y σ' I},Keep ⟨some h,fun a=>C.ext a\/a=h⟩ (((JL ρ).set j (some (.val (.int U)))).set i (some (.val HAND))) (σ.set i (some (.ref h))) H1 y σ' I->∀a o,H1 a=some o->some h≠some a->I a=some o:=fun k a o J na=>(k a o J na (Kk a)).1
   have kp2:∀{y σ' I},Keep ⟨some h,fun a=>C.ext a\/a=h⟩ (((JL ρ).set j (some (.val (.int U)))).set i (some (.val HAND))) (σ.set i (some (.ref h))) H1 y σ' I->Keep C ρ σ H (JL y) σ' I:=fun k a o J _ _=>⟨R k a o (Y a o J) (fun z=>by cases z;rw[Z]at J;cases J),zgB⟩
   refine⟨fun y σ' I n' h' S' L=>g.nx _ _ I n h' (back S' (R L)) (kp2 L),fun t n' v I h' hn' L rp=>?_,fun y σ' I n' h' S' L=>g.bk _ _ I n h' (back S' (R L)) (kp2 L),fun y σ' I n' h' S' L=>g.ct _ _ I n h' (back S' (R L)) (kp2 L),fun _ _ _ h=>h.elim⟩
   obtain⟨b,rfl,h'⟩:=h';rw[rp.blI];have kq:∀a o,H a=some o->I a=some o:=fun a o J=>L a o (Y a o J) (fun z=>by cases z;rw[Z]at J;cases J) (Kk a)
   refine g.rt _ n _ I h' (fun a ea=>?_) (fun a o J _ _=>kq a o J) (.bl b)
   obtain⟨d,m,t,q,rest⟩:=S.hnd a ea;exact⟨d,m,t,kq a _ q,rest⟩
  ·exact hd.elim
 ·exact hd.elim
end
def zpw(K:qF):Sp:=fun v H Q _=>∃(a:ak) (ns:List Int),v=[.ref a]/\SqL K H a (ns.map V.int)/\ns.length<=63/\∀u,Q (.bl true) u
def zt8:GD:=fun ts n R=>∃ns:List Int,ts=[SCR ns]/\ns.length<=63/\∀u,R (.bool true) u
theorem zqs{K:qF}(u:List V)(H:Hp)(Q:VK)(E:XK)(h:zpw K u H Q E):spD K 1 zt8 u H Q E:=by
 obtain⟨a,ns,rfl,sq,y,q⟩:=h;refine⟨none,fun _=>False,[SCR ns],0,fun t _=>t=.bool true,.cons ?_ .nil,(fun a e=>by cases e),(fun a z=>z.elim),(fun a e=>by cases e),rfl,⟨ns,rfl,y,fun _=>rfl⟩,fun t I v G C _ _ x=>?_⟩
 ·rcases sq with sq|sq
  ·exact .scr sq (fun z=>z)
  ·exact .scrS fun _=>.inr sq
 ·subst C;rw[x.blI];exact q G
section
variable{env:Env}{es:List aV}{a b:aV}{l1 l2:List aV}{p:Pos}{x:Str}
theorem Ju:starEach (.Name x p::es) env=(false,eval (.Name x p) env)::starEach es env:=rfl
theorem zk0{j}:starEach (.Constant (.int i) j p::es) env=(false,eval (.Constant (.int i) j p) env)::starEach es env:=rfl
theorem Y3{c d}:starEach (.Call a l1 c d::es) env=(false,eval (.Call a l1 c d) env)::starEach es env:=rfl
theorem zk1{o}:starEach (.BinOp a o b p::es) env=(false,eval (.BinOp a o b p) env)::starEach es env:=rfl
theorem Y4{g s}:starEach (.ListComp a g s p::es) env=(false,eval (.ListComp a g s p) env)::starEach es env:=rfl
end
section
variable{X:Cx}{a b c e:aV}{da db dc:DTE}{pos p:Pos}{r r':R2}{g g':G2}
theorem zox(ho:OpR X (compareOp op) r)(hg:Gp2 X r g)(ho':OpR X (compareOp op') r')(Z:Gp2 X r' g')(ha:DL X a da)(hb:DL X b db)(hc:DL X c dc)
  (hm:lastMarks [op,op'] [b,c]=false:=by with_unfolding_all rfl):DT X (.Compare a [op,op'] [b,c] pos) (Uc (YI g g' da db dc)):=by
 obtain⟨ta,pa,ha⟩:=ha;obtain⟨tb,pb,hb⟩:=hb;obtain⟨tc,pc,hc⟩:=hc;refine⟨_,znN ho ho' pa pb pc hm,fun C ρ σ H n Q R S h hq=>?_⟩
 refine two ha hb S h fun x y n2 v w H2 r2 e S2 q1 q2=>?_
 refine hg C.hd (Own C ρ σ) H2 v w x y _ _ (fun p=>S2.dom) q1 q2 r2 fun z u J l G L=>?_
 have U:=S2.on G.ext (S2.hnd.same G);cases z with
 | bool k =>
  cases L;refine⟨k,rfl,?_⟩;cases k with
  | false=>exact iteF ⟨false,rfl,hq _ n2 J l (e.trans G.ext) U.hnd⟩
  | true =>
   refine iteT (hc C ρ σ J n2 _ _ U l fun z2 n3 w2 H4 r4 N h4 q4=>?_)
   have S4:=U.on N h4;have Y:=N.repT S.hx ((Same.ext G:ExtE C.hd H2 J).repT S.hx q2);refine Z C.hd (Own C ρ σ) H4 w w2 y z2 _ _ (fun p=>S4.dom) Y q4 r4 fun z u J l I L=>?_
   cases z with
   | bool k=>cases L;exact⟨k,rfl,hq _ n3 J l (((e.trans G.ext).trans N).trans I.ext) (S4.hnd.same I)⟩
   | _=>exact l.elim
 | _=>exact l.elim
def zvr:TE:=fun _ H Q=>∀p,H p=none->∀l,Q (.ref p) (upd H p (KDO p [] l))
theorem zpR:PE X (.Dict [] [] pos) zvr:=fun pins s σ H Q I h=>by
 have R:(s.heap.objs.size == sysModules)=false:=beq_eq_false_iff_ne.mpr (ko (aJ I.bigM));obtain⟨o,u,v,g1,g2,g3,_,x,_⟩:=yY (knd:=Y0 X.prog X.w) s.heap;have ok:JK X.prog X.w (upd H s.heap.objs.size (KDO s.heap.objs.size [] v)) (s.heap.push { cls:=.type "dict",data:=.dict #[] }) s.heap.objs.size (KDO s.heap.objs.size [] v):=by
  refine⟨⟨R,dR _,.nil,o,u,g1,g2,g3,?_⟩,⟨o,g1⟩,?_⟩
  ·cases hq:u.toList with
   | nil=>exact .nil
   | cons _ _=>rw[hq]at x;cases x
  ·rintro U S ⟨G,J,C,o,u,N,L⟩ k;exact⟨G,J,C,o,u,k o N,L⟩
 exact wpAny_Dict_empty ⟨.ref s.heap.objs.size,_,I.laid (a:=s.heap.objs.size) (o:=KDO s.heap.objs.size [] v) (t':=s.toks) (fun _ _ q=>au _ q) (aC _) ok,rfl,h _ (I.hok.fresh (aC _)) v⟩
theorem zoG:DE X (.Dict [] [] pos) (dC (.dict [])):=by
 refine⟨_,zpR,fun C x σ H n Q R S h u p l v=>?_⟩
 exact u _ n _ _ h (ExtE.new l) (S.hnd.same (JS l)) (.dct JM (S.free l))
def zpE(K:qF):V->List V->Hp->VK->Prop:=fun x xs H Q=>∃(l:ak) (bs:List Bool) (k:Bool),x=.ref l/\xs=[.bl k]/\SqL K H l (bs.map V.bl)/\Q (.int (countIn (.bool k) (bs.map cI))) H
theorem zeh:∀{h:aW}{bs:List Bool}{u:List ah},Vals (bs.map V.bl) u->pI h u (bs.map cI) []
 | _,[],_,r=>by cases r;exact .nil
 | _,b::bs,_,r=>by
  cases r with
  | cons v x =>
   cases(show _=eM b from v)
   exact .cons (.bool b) (zeh x)
theorem zlQ:MtR X "list.count" (zpE X.K):=by
 intro pins s σ H x xs v N Q I u rs h;obtain⟨l,bs,k,rfl,rfl,y,q⟩:=h;cases u;cases rs with
 | cons J L =>
  cases L;cases(show _=eM k from J)
  obtain⟨C,G,p,_⟩:=I.list y;exact count_list_bools p.isList (zeh (h:=s.heap) G) (by induction bs with|nil=>rfl|cons b bs R=>simp[Shape.has]) ⟨.int _,H,I.tok _,⟨_,rfl⟩,q⟩
def ZN(k:Bool)(d:DTE):DTE:=fun u n R=>d u n fun t v=>match t with|.list ts=>∃bs:List Bool,ts=bs.map cI/\R (.int (countIn (.bool k) (bs.map cI))) v|_=>False
theorem zoH{k:Bool}{j}{p1 p2 y:Pos}(h:DL X a da)(J:attributeBase a "count" X.env (eval a X.env)=eval a X.env:=by rfl) (N:(p2.endLine == y.line)=true:=by rfl):DE X (.Call (.Attribute a "count" p2) [.Constant (.bool k) j p1] [] y) (ZN k da):=by
 obtain⟨ta,pa,h⟩:=h;refine⟨_,zpW gS PySem.F.slot_list_count PySem.F.type_list_count zlQ pa (Um zpY UX rfl) J rfl N rfl rfl,fun C U σ H n Q R S hd hq=>?_⟩
 refine h C U σ H n _ _ S hd fun t Z v G r Y h1 I=>?_
 cases t with
 | list ts =>
  obtain⟨bs,rfl,r⟩:=r;obtain⟨p,vs,rfl,x,L⟩:=I.lstI;rw[V8 L]at x;exact⟨.inl ⟨rfl,_,SqL.of x⟩,p,bs,k,rfl,rfl,.of x,hq _ Z _ G r Y h1 (.int _)⟩
 | _=>exact r.elim
end
section
variable{C:Int->Int->Prop}{f:Int->Int->Int}{fb:Int->Int->Bool}{i j k:Int}{R:af->Prop}{Rb:Bool->Prop}{xs ys:qD}{s t:Str}{a b:Bool}{u v:af}
theorem l_gI:gI C f (.int i) (.int j) R=(C i j/\R (.int (f i j))):=propext aU
theorem Zt:gI0 f (.int i) (.int j) R=R (.int (f i j)):=propext aU
theorem YK:oAdd (.int i) (.int j) R=R (.int (i+j)):=propext aU
theorem YL:oAdd (.str s) (.str t) R=(s.length+t.length<=16777216/\R (.str (s++t))):=propext aU
theorem YM:oAdd (.tuple xs) (.tuple ys) R=(xs.length+ys.length<=16777216/\R (.tuple (xs++ys))):=propext aU
theorem Yu:oEq (.int i) (.int j) R=R (.bool (decide (i=j))):=propext aU
theorem Yg:oEq (.str s) (.str t) R=R (.bool (decide (s=t))):=propext aU
theorem Yh:oEq (.tuple xs) (.tuple ys) R=(Okd (.tuple xs)/\Okd (.tuple ys)/\R (.bool (cT (.tuple xs) (.tuple ys)))):=propext aU
theorem Ye:oEq (.list xs) (.list ys) R=(Okd (.list xs)/\Okd (.list ys)/\R (.bool (cT (.list xs) (.list ys)))):=propext aU
theorem Yo:oNe (.int i) (.int j) R=R (.bool (!decide (i=j))):=propext aU
theorem Yq:oNe (.str s) (.str t) R=R (.bool (!decide (s=t))):=propext aU
theorem Yp:oNe (.list xs) (.list ys) R=(Okd (.list xs)/\Okd (.list ys)/\R (.bool (!PyData.eqv (.list xs) (.list ys)))):=propext aU
theorem Yi:oIs u .none R=R (.bool (isNone u)):=by cases u <;> exact propext aU
theorem YY:oIsN u .none R=R (.bool (!isNone u)):=by cases u <;> exact propext aU
theorem Y8:ZF u (.tuple xs) R=(Okd u/\(∀t∈xs,Okd t)/\R (.bool (!xs.any fun t=>t.eqv u))):=by cases u <;> exact propext aU
theorem Yl:oLtA (.int i) (.int j) R=R (.bool (decide (i<j))):=propext aU
theorem Yj:oLeA (.int i) (.int j) R=R (.bool (decide (i<=j))):=propext aU
theorem Yk:oLeA (.str s) (.str t) R=R (.bool (!decide (t.cps.toList<s.cps.toList))):=propext aU
theorem Zu(h:atI xs i=some x):oIx (.list xs) (.int i) R=R x:=by show(match atI xs i with|some t=>R t|none=>False)=_;rw[h]
theorem Zv(h:atI xs i=some x):oIx (.tuple xs) (.int i) R=R x:=by show(match atI xs i with|some t=>R t|none=>False)=_;rw[h]
theorem YQ:oIx (.tuple (u::xs)) (.int 0) R=R u:=Zv (by unfold atI ixN;simp)
theorem YR:oIx (.tuple (u::v::xs)) (.int 1) R=R v:=Zv (by unfold atI ixN;simp;rw[if_pos (by omega)];rfl)
theorem YS:oIx (.tuple (u::v::w::xs)) (.int 2) R=R w:=Zv (by unfold atI ixN;simp;rw[if_pos (by omega)];rfl)
theorem YN:oIx (.list (u::xs)) (.int 0) R=R u:=Zu (by unfold atI ixN;simp)
theorem YO:oIx (.list (u::v::xs)) (.int 1) R=R v:=Zu (by unfold atI ixN;simp;rw[if_pos (by omega)];rfl)
theorem YU:truD (.bool a) Rb=Rb a:=propext aU
theorem YV:truD (.list xs) Rb=Rb (!xs.isEmpty):=propext aU
theorem Yt:bolD (.bool a) Rb=Rb a:=propext aU
theorem Yn:bMin [.int i,.int j] R=R (.int (if j<i then j else i)):=propext aU
theorem Ym:bMax [.int i,.int j] R=R (.int (if j > i then j else i)):=propext aU
theorem Y9:ZA [.list xs] R=R (.tuple xs):=propext aU
theorem YT:Zo [u] R=(Shd u/\R (.str u.shown)):=propext aU
theorem YZ:J3 (.list xs) Rl=Rl xs:=propext aU
theorem Y7:J3 (.tuple xs) Rl=Rl xs:=propext aU
theorem ztf(y:String)(h:y∈["NoneType","bool","int","str","list","tuple","dict"]):kitB y "int" = some (decide (y = "int")||decide (y = "bool")):=by
 simp only[ax,aR,or_false]at h;rcases h with rfl|rfl|rfl|rfl|rfl|rfl|rfl <;> decide +kernel
theorem zqv(y:String)(h:y∈["NoneType","bool","int","str","list","tuple","dict"]):kitB y "bool" = some (decide (y = "bool")):=by
 simp only[ax,aR,or_false]at h;rcases h with rfl|rfl|rfl|rfl|rfl|rfl|rfl <;> decide +kernel
theorem zoc(y:String)(h:y∈["NoneType","bool","int","str","list","tuple","dict"]):kitB y "tuple" = some (decide (y = "tuple")):=by
 simp only[ax,aR,or_false]at h;rcases h with rfl|rfl|rfl|rfl|rfl|rfl|rfl <;> decide +kernel
theorem zte(y:String)(h:y∈["NoneType","bool","int","str","list","tuple","dict"]):kitB y "str" = some (decide (y = "str")):=by
 simp only[ax,aR,or_false]at h;rcases h with rfl|rfl|rfl|rfl|rfl|rfl|rfl <;> decide +kernel
def Pln(t:af):Prop:=tyN t≠none
def isInt:af->Bool|.int _=>true|.bool _=>true|_=>false
def isBool:af->Bool|.bool _=>true|_=>false
def isTup:af->Bool|.tuple _=>true|_=>false
def isStr:af->Bool|.str _=>true|_=>false
variable{d:DTE}{ρ:En}{n:Nat}{Rn:qN}
theorem VL(h:tyN u=some y):y∈["NoneType","bool","int","str","list","tuple","dict"]:=by
 unfold tyN at h;split at h <;> cases h <;> simp
def isiD(f:af->Bool)(d:DTE):DTE:=fun ρ n R=>d ρ n fun t x=>Pln t/\R (.bool (f t)) x
end
section
variable{X:Cx}{e:aV}{d:DTE}{p p2 pos:Pos}
theorem YX(U:∀t y,tyN t=some y->kitB y T=some (f t))(hm:X.mg "isinstance" = none) (x:X.mg y=none) (Y:bootBuiltins y=some (.type T)) (h:DL X e d) (hs:starEach (e::[.Name y p2]) X.env=(false,eval e X.env)::starEach [.Name y p2] X.env) (Z:Gl X "isinstance":=by rfl) (u:Gl X y:=by rfl) (hn:y ≠ "__name__":=by decide) (hd:(y == ("__debug__":Str))=false:=by rfl) :
  DE X (.Call (.Name "isinstance" p) [e,.Name y p2] [] pos) (isiD f d):=by
 obtain⟨ta,pa,h⟩:=h;refine⟨_,Uw zmW hm VU (Qf pa (ziz (Bd.zsr x Y u hn hd) QF) hs) Z,fun C G σ H n Q R S hd hq=>?_⟩
 refine h C G σ H n _ _ S hd fun t n1 v J I e1 h1 L=>?_
 cases et:tyN t with
 | none=>exact absurd et I.1
 | some z=>exact⟨v,C.hd,Own C G σ,t,T,z,f t,rfl,L,et,U t z et,hq _ n1 _ J I.2 e1 h1 (.bl _)⟩
theorem zt5:∀t y,tyN t=some y->kitB y "int" = some (isInt t):=fun t y e=>by
 rw[ztf y (VL e)];unfold tyN at e;split at e <;> cases e <;> rfl
theorem zqP:∀t y,tyN t=some y->kitB y "bool" = some (isBool t):=fun t y e=>by
 rw[zqv y (VL e)];unfold tyN at e;split at e <;> cases e <;> rfl
theorem zjA:∀t y,tyN t=some y->kitB y "tuple" = some (isTup t):=fun t y e=>by
 rw[zoc y (VL e)];unfold tyN at e;split at e <;> cases e <;> rfl
theorem zpg:∀t y,tyN t=some y->kitB y "str" = some (isStr t):=fun t y e=>by
 rw[zte y (VL e)];unfold tyN at e;split at e <;> cases e <;> rfl
theorem Ua:Pln (.int i):=by simp[Pln,tyN]
theorem Q8:Pln (.bool i):=by simp[Pln,tyN]
theorem Uo:Pln (.str i):=by simp[Pln,tyN]
theorem Uk:Pln (.tuple i):=by simp[Pln,tyN]
theorem Ui:Pln (.list i):=by simp[Pln,tyN]
theorem Uj:Pln .none:=by simp[Pln,tyN]
theorem Uh:Pln (.dict []):=by simp[Pln,tyN]
end
abbrev blk(i h:Int):af:=.tuple [.int i,.int h]
theorem Ug:Okd (.tuple [.int i,.int h]):=⟨by simp[bT,bE],by simp[cZ,bZ]⟩
theorem zou:cT (.tuple [.int i,.int h]) (.tuple [.int j,.int g])=(decide (i=j)&&decide (h=g)):=by
 simp only[cT,fQ,gH];rw[lO,lO]
def IsBk(bits i h:Int):Prop:=0<=h/\h<=bits/\∃k:Int,0<=k/\i=k*2 ^ h.toNat/\k<2 ^ (bits - h).toNat
theorem VS(k:Nat):(0:Int)<2 ^ k:=Bd.QH k
theorem zjk:(2:Int) ^ (a+b)=2 ^ a*2 ^ b:=gT 2 a b
theorem IsBk.bounds(l:0<=bits)(H:IsBk bits i h):0<=i/\i+2 ^ h.toNat<=2 ^ bits.toNat:=by
 obtain⟨h0,u,k,k0,rfl,k1⟩:=H;have p:=VS h.toNat;refine⟨Int.mul_nonneg k0 (c6 p),?_⟩;have e:bits.toNat=(bits - h).toNat+h.toNat:=by lia
 rw[e,zjk];have:(k+1)*2 ^ h.toNat<=2 ^ (bits - h).toNat*2 ^ h.toNat:=dJ (by lia) (c6 p)
 rw[fB,cV]at this;exact this
theorem zln(h:k<=64):(2:Int) ^ k<=18446744073709551616:=by
 have:=Bd.zdY h;simpa using this
theorem IsBk.lt(l:0<=bits)(u:bits<=64)(H:IsBk bits i h):0<=i/\i<18446744073709551616:=by
 obtain⟨a,b⟩:=H.bounds l;have:=zln (show bits.toNat<=64 by lia)
 have:=VS h.toNat;lia
theorem cpow(h0:0<=j)(l:j<=1000000):CPow 1 j:=⟨h0,l,by decide⟩
section
variable{t u tb:DTS}{D:JU}{ρ ρ0:En}{n i j m:Nat}{d da db dc d1 d2:DTE}{ds di:DTA}{c c' tt:DTT}{g:G2}{g':G2}{gc:GC}{gd:GD}{tg:DTG}{tgs:DTGs}{R:qN}{Rb:Bool->Nat->Prop}{Rl:List af->Nat->Prop}{Re:En->Prop}{x y:af}{xs ys acc:qD}{f:Int->Int->Int}{fb:af->Bool}{k:Bool}{capt:List Nat}{h:Option Cell}
theorem ZW:(sSeq t u D ρ n)=(t { D with nx:=u D } ρ n):=propext aU
theorem ZV:(sRet d D ρ n)=(d ρ n fun t l=>D.rt t l):=propext aU
theorem ZX:(sSet i d D ρ n)=(d ρ n fun t C=>D.nx (ρ.set i (some (.val t))) C):=propext aU
theorem ZU:(sAsg d tg D ρ n)=(d ρ n fun t v=>tg t ρ fun l=>D.nx l v):=propext aU
theorem u_dC:(dC x ρ n R)=(R x n):=propext aU
theorem Zx:(dOp g da db ρ n R)=(da ρ n fun x v=>db ρ v fun y l=>g x y fun z=>R z l):=propext aU
theorem ZP:(dNew ds ρ n R)=(ds ρ n fun ts v=>R (.list ts) v):=propext aU
theorem ZR:(dTup ds ρ n R)=(ds ρ n fun ts v=>R (.tuple ts) v):=propext aU
theorem ZQ:(dNil ρ n Rl)=(Rl [] n):=propext aU
theorem Z3:(Qi d ds ρ n Rl)=(d ρ n fun t l=>ds ρ l fun ts v=>Rl (t::ts) v):=propext aU
theorem Zw:(dFn gd ds ρ n R)=(ds ρ n fun ts l=>gd ts l R):=propext aU
theorem Vd:(ZM gc ds ρ n R)=(ds ρ n fun ts l=>gc ts fun z=>R z l):=propext aU
theorem Vf:(Qk i x ρ Re)=(Re (ρ.set i (some (.val x)))):=propext aU
theorem Z5:(UR tgs (.tuple xs) ρ Re)=(tgs xs ρ Re):=propext aU
theorem Z4:(UQ [] ρ Re)=(Re ρ):=propext aU
theorem Ve:(QY tg tgs (x::xs) ρ Re)=(tg x ρ fun l=>tgs xs l Re):=propext aU
def cVal:Option Cell->(af->Prop)->Prop
 | some (.val d),R=>R d
 | _,_=>False
def cOwn:Option Cell->(List af->Prop)->Prop
 | some (.own d),R=>R d
 | _,_=>False
theorem ZB:cVal (some (.val x)) Q=Q x:=propext aU
theorem ZS:dVar i ρ n R=cVal (ρ.getD i none) fun d=>R d n:=by
 unfold dVar;rw[bz];cases e:ρ[i]? with
 | none=>exact propext aU
 | some o=>cases o with
  | none=>exact propext aU
  | some c=>cases c <;> exact propext aU
theorem Y6:Uc d ρ n Rb=(d ρ n fun t l=>bolD t fun b=>Rb b l):=by
 unfold Uc;congr 1
 funext t l
 cases t <;> exact propext aU
def lCat:af->af->(List af->Prop)->Prop
 | .list xs,.list ys,R=>xs.length+ys.length<=16777216/\R (xs++ys)
 | _,_,_=>False
theorem YC:dCat da db ρ n Rl=(da ρ n fun x v=>db ρ v fun y l=>lCat x y fun zs=>Rl zs l):=by
 unfold dCat;congr 1
 funext x v
 congr 1
 funext y l
 cases x <;> cases y <;> exact propext aU
def lLst:af->(List af->Prop)->Prop
 | .list xs,R=>R xs
 | _,_=>False
def lTup:af->(List af->Prop)->Prop
 | .tuple xs,R=>R xs
 | _,_=>False
theorem YE:dItL d ρ n Rl=(d ρ n fun t l=>lLst t fun ts=>Rl ts l):=by
 unfold dItL;congr 1
 funext t l
 cases t <;> exact propext aU
theorem YF:dItT d ρ n Rl=(d ρ n fun t l=>lTup t fun ts=>Rl ts l):=by
 unfold dItT;congr 1
 funext t l
 cases t <;> exact propext aU
def lInt:af->(Int->Prop)->Prop
 | .int i,R=>R i
 | _,_=>False
theorem Y5:Zl d ρ n Rl=(d ρ n fun t l=>lInt t fun j=>(-(2 ^ 62)<=j/\j<2 ^ 62)/\Rl (QQ 0 j.toNat) l):=by
 unfold Zl;congr 1
 funext t l
 cases t <;> exact propext aU
theorem YG:dNeg d ρ n R=(d ρ n fun t l=>lInt t fun i=>R (.int (-i)) l):=by
 unfold dNeg;congr 1
 funext t l
 cases t <;> exact propext aU
theorem Zc:ZN k d ρ n R=(d ρ n fun t v=>lLst t fun ts=>∃bs:List Bool,ts=bs.map cI/\R (.int (countIn (.bool k) (bs.map cI))) v):=by
 unfold ZN;congr 1
 funext t v
 cases t <;> exact propext aU
def Zr:List af->(af->af->Prop)->Prop
 | [x,y],R=>R x y
 | _,_=>False
theorem YH:sPar i j ds D ρ n=(ds ρ n fun ts C=>Zr ts fun t u=>D.nx ((ρ.set i (some (.val t))).set j (some (.val u))) C):=by
 unfold sPar;congr 1
 funext ts C
 rcases ts with _|⟨a,_|⟨b,_|⟨c,r⟩⟩⟩ <;> exact propext aU
theorem Zb:YI g g' da db dc ρ n R=(da ρ n fun x C=>db ρ C fun y v=>g x y fun z=>bolD z fun b=>if b=true then dc ρ v fun w G=>g' y w fun z=>R z G else R (.bool false) v):=by
 unfold YI;congr 1
 funext x C
 congr 1
 funext y v
 congr 1
 funext z
 cases z with
 | bool b=>cases b <;> simp[bolD]
 | _=>exact propext aU
def UU(ρ:En)(i:Nat)(D:JU)(v:DTE)(t:af)(C:Nat)(ts:qD):Prop:=v ρ C fun j l=>lInt j fun j=>(match ixN ts.length j with|some k=>D.nx (ρ.set i (some (.own (ts.set k t)))) l|none=>False)
theorem Yx:sPut i dj d D ρ n=(d ρ n fun t l=>cOwn (ρ.getD i none) fun xs=>UU ρ i D dj t l xs):=by
 unfold sPut;congr 1
 funext t l
 rw[bz];cases e:ρ[i]? with
 | none=>exact propext aU
 | some o=>cases o with
  | none=>exact propext aU
  | some c=>cases c with
   | val _=>exact propext aU
   | dct _=>exact propext aU
   | dtt _=>exact propext aU
   | rdo _=>exact propext aU
   | own xs =>
    show(dj ρ l fun j v=>_)=UU ρ i D dj t l xs
    unfold UU;congr 1
    funext j v
    cases j <;> exact propext aU
end
section
variable{t u tb:DTS}{D:JU}{ρ ρ0:En}{n i j m:Nat}{d da db dc d1 d2:DTE}{ds di:DTA}{c c' tt:DTT}{g:G2}{g':G2}{gc:GC}{gd:GD}{tg:DTG}{tgs:DTGs}{R:qN}{Rb:Bool->Nat->Prop}{Rl:List af->Nat->Prop}{Re:En->Prop}{x y:af}{xs ys acc:qD}{f:Int->Int->Int}{fb:af->Bool}{k:Bool}{capt:List Nat}
theorem ztF(h:t { D with nx:=u D } ρ n):sSeq t u D ρ n:=h
theorem zqF(h:D.nx ρ n):Vn D ρ n:=h
theorem ztG(h:d ρ n fun t l=>D.rt t l):sRet d D ρ n:=h
theorem zwM(h:c ρ n fun b l=>if b=true then t D ρ l else u D ρ l):sIf c t u D ρ n:=h
theorem ztJ(h:d ρ n fun t v=>tg t ρ fun l=>D.nx l v):sAsg d tg D ρ n:=h
theorem ztI(h:di ρ n fun ts l=>forP tg tb D ts ρ l):sFor di tg tb D ρ n:=h
theorem i_dC(h:R x n):dC x ρ n R:=h
theorem zwQ(h:da ρ n fun x v=>db ρ v fun y l=>g x y fun z=>R z l):dOp g da db ρ n R:=h
theorem ztW(h:ds ρ n fun ts v=>R (.list ts) v):dNew ds ρ n R:=h
theorem ztQ(h:ds ρ n fun ts v=>R (.tuple ts) v):dTup ds ρ n R:=h
theorem ztV(h:Rl [] n):dNil ρ n Rl:=h
theorem zqM(h:d ρ n fun t v=>ds ρ v fun ts l=>Rl (t::ts) l):Qi d ds ρ n Rl:=h
theorem zwR(h:ds ρ n fun ts l=>gd ts l R):dFn gd ds ρ n R:=h
theorem zt1(h:ds ρ n fun ts v=>gd ts v fun t l=>JW t=true/\R t l):dFnL gd ds ρ n R:=h
theorem zoo(h:ds ρ n fun ts l=>gc ts fun z=>R z l):ZM gc ds ρ n R:=h
theorem zt3(h:c ρ n fun b l=>if b=true then c' ρ l Rb else Rb false l):dAnd c c' ρ n Rb:=h
theorem zwP(h:c ρ n fun b l=>if b=true then Rb true l else c' ρ l Rb):dOr c c' ρ n Rb:=h
theorem ztU(h:c ρ n fun b l=>Rb (!b) l):dNot c ρ n Rb:=h
theorem zqO(h:da ρ n fun t v=>bolD t fun b=>if b=true then db ρ v R else R (.bool false) v):zra da db ρ n R:=h
theorem ztT(h:da ρ n fun t v=>bolD t fun b=>if b=true then R (.bool true) v else db ρ v R):dOrV da db ρ n R:=h
theorem zqL(h:da ρ n fun t v=>bolD t fun b=>R (.bool (!b)) v):zq9 da ρ n R:=h
theorem zt0(h:c ρ n fun b l=>if b=true then da ρ l R else db ρ l R):dIfE c da db ρ n R:=h
theorem ztR(h:d ρ n fun t l=>truD t fun b=>Rb b l):dTru d ρ n Rb:=h
theorem zqN(h:di ρ n fun ts l=>JT tg tt d (JB m capt ρ) ts [] l Rl):dComp m capt di tg tt d ρ n Rl:=h
theorem ztP(h:Rb true n):dYes ρ n Rb:=h
theorem zqD(h:tgs xs ρ Re):UR tgs (.tuple xs) ρ Re:=h
theorem zqE(h:Re ρ):UQ [] ρ Re:=h
theorem zok(h:tg x ρ fun l=>tgs xs l Re):QY tg tgs (x::xs) ρ Re:=h
theorem zqH(h:d ρ n fun t l=>bolD t fun b=>Rb b l):Uc d ρ n Rb:=Y6.symm▸h
theorem zt2(h:da ρ n fun x v=>db ρ v fun y l=>lCat x y fun zs=>Rl zs l):dCat da db ρ n Rl:=YC.symm▸h
theorem ztZ(h:d ρ n fun t l=>lLst t fun ts=>Rl ts l):dItL d ρ n Rl:=YE.symm▸h
theorem ztY(h:d ρ n fun t l=>lTup t fun ts=>Rl ts l):dItT d ρ n Rl:=YF.symm▸h
theorem zqJ(h:d ρ n fun t l=>lInt t fun j=>(-(2 ^ 62)<=j/\j<2 ^ 62)/\Rl (QQ 0 j.toNat) l):Zl d ρ n Rl:=Y5.symm▸h
theorem ztX(h:d ρ n fun t l=>lInt t fun i=>R (.int (-i)) l):dNeg d ρ n R:=YG.symm▸h
theorem zom(h:d ρ n fun t v=>lLst t fun ts=>∃bs:List Bool,ts=bs.map cI/\R (.int (countIn (.bool k) (bs.map cI))) v):ZN k d ρ n R:=Zc.symm▸h
theorem zon(h:da ρ n fun x C=>db ρ C fun y v=>g x y fun z=>bolD z fun b=>if b=true then dc ρ v fun w G=>g' y w fun z=>R z G else R (.bool false) v):YI g g' da db dc ρ n R:=Zb.symm▸h
theorem ztH(h:ds ρ n fun ts C=>Zr ts fun t u=>D.nx ((ρ.set i (some (.val t))).set j (some (.val u))) C):sPar i j ds D ρ n:=YH.symm▸h
def lIsi(fb:af->Bool)(t:af)(R:af->Prop):Prop:=Pln t/\R (.bool (fb t))
theorem ztN(h:d ρ n fun t l=>lIsi fb t fun z=>R z l):isiD fb d ρ n R:=h
theorem zpd(e:ρ[i]?=some (some (.val x)))(h:R x n):dVar i ρ n R:=by unfold dVar;rw[e];exact h
theorem zpe(e:ρ[i]?=some (some (.own xs)))(h:R (.list xs) n):dOwn i ρ n R:=by unfold dOwn;rw[e];exact h
theorem zjz(e:ρ[i]?=some (some (.own xs)))(h:d ρ n fun t l=>xs.length<16777216/\D.nx (ρ.set i (some (.own (xs++[t])))) l):Y2 i d D ρ n:=by unfold Y2;rw[e];exact h
theorem zjy(e:ρ[i]?=some (some (.own xs)))(h:t D (ρ.set i (some (.val (.list xs)))) n):Z1 i t D ρ n:=by unfold Z1;rw[e];exact h
theorem zwN(e:ρ[i]?=some (some (.own xs)))(h:d ρ n fun t l=>UU ρ i D dj t l xs):sPut i dj d D ρ n:=by
 rw[Yx,bz,e];exact h
theorem ztK(h:dj ρ n fun j l=>lInt j fun j=>(match ixN xs.length j with|some k=>D.nx (ρ.set i (some (.own (xs.set k x)))) l|none=>False)):UU ρ i D dj x n xs:=h
theorem zwO{A B:Prop}(l:b=true->A)(v:b=false->B):if b=true then A else B:=by cases b with|true=>exact iteT (l rfl)|false=>exact iteF (v rfl)
theorem ztM{p:Prop}[Decidable p]{A B:Prop}(l:p->A)(v:¬p->B):if decide p=true then A else B:=by
 by_cases h:p
 ·rw[decide_eq_true h];exact iteT (l h)
 ·rw[decide_eq_false h];exact iteF (v h)
theorem ztL{A B:Prop}(h:if b=true then B else A):if (!b)=true then A else B:=by
 cases b with|true=>exact iteF h|false=>exact iteT h
end
section
variable{C:Int->Int->Prop}{f:Int->Int->Int}{fb:Int->Int->Bool}{i j k:Int}{R:af->Prop}{Rb:Bool->Prop}{xs ys:qD}{s t:Str}{a b:Bool}{u v x y:af}{Rn:qN}{n:Nat}
theorem zty(h:R (.int (i+j))):oAdd (.int i) (.int j) R:=YK.symm▸h
theorem ztx(h:(s.length+t.length<=16777216/\R (.str (s++t)))):oAdd (.str s) (.str t) R:=YL.symm▸h
theorem ztw(h:(xs.length+ys.length<=16777216/\R (.tuple (xs++ys)))):oAdd (.tuple xs) (.tuple ys) R:=YM.symm▸h
theorem zwI(h:R (.bool (decide (i=j)))):oEq (.int i) (.int j) R:=Yu.symm▸h
theorem zwG(h:R (.bool (decide (s=t)))):oEq (.str s) (.str t) R:=Yg.symm▸h
theorem zwF(h:(Okd (.tuple xs)/\Okd (.tuple ys)/\R (.bool (cT (.tuple xs) (.tuple ys))))):oEq (.tuple xs) (.tuple ys) R:=Yh.symm▸h
theorem zwH(h:(Okd (.list xs)/\Okd (.list ys)/\R (.bool (cT (.list xs) (.list ys))))):oEq (.list xs) (.list ys) R:=Ye.symm▸h
theorem zwt(h:R (.bool (!decide (i=j)))):oNe (.int i) (.int j) R:=Yo.symm▸h
theorem zwr(h:R (.bool (!decide (s=t)))):oNe (.str s) (.str t) R:=Yq.symm▸h
theorem zws(h:(Okd (.list xs)/\Okd (.list ys)/\R (.bool (!PyData.eqv (.list xs) (.list ys))))):oNe (.list xs) (.list ys) R:=Yp.symm▸h
theorem zwD(h:R (.bool (isNone u))):oIs u .none R:=Yi.symm▸h
theorem zqA(h:R (.bool (!isNone u))):oIsN u .none R:=YY.symm▸h
theorem zoe(h:(Okd u/\(∀t∈xs,Okd t)/\R (.bool (!xs.any fun t=>t.eqv u)))):ZF u (.tuple xs) R:=Y8.symm▸h
theorem zwy(h:R (.bool (decide (i<j)))):oLtA (.int i) (.int j) R:=Yl.symm▸h
theorem zwB(h:R (.bool (decide (i<=j)))):oLeA (.int i) (.int j) R:=Yj.symm▸h
theorem zwA(h:R (.bool (!decide (t.cps.toList<s.cps.toList)))):oLeA (.str s) (.str t) R:=Yk.symm▸h
theorem ztr(h:R u):oIx (.tuple (u::xs)) (.int 0) R:=YQ.symm▸h
theorem ztq(h:R v):oIx (.tuple (u::v::xs)) (.int 1) R:=YR.symm▸h
theorem ztp(h:R w):oIx (.tuple (u::v::w::xs)) (.int 2) R:=YS.symm▸h
theorem zmb(h:R u):oIx (.list (u::xs)) (.int 0) R:=YN.symm▸h
theorem ztu(h:R v):oIx (.list (u::v::xs)) (.int 1) R:=YO.symm▸h
theorem zti(h:Rb a):truD (.bool a) Rb:=YU.symm▸h
theorem zth(h:Rb (!xs.isEmpty)):truD (.list xs) Rb:=YV.symm▸h
theorem zwK(h:Rb a):bolD (.bool a) Rb:=Yt.symm▸h
theorem zto(h:R (.int xs.length)):bLen [.list xs] R:=.inl ⟨xs,rfl,h⟩
theorem ztm(h:R (.int xs.length)):bLen [.tuple xs] R:=.inr (.inl ⟨xs,rfl,h⟩)
theorem ztn(h:(s.length<=16777216/\R (.int s.length))):bLen [.str s] R:=.inr (.inr (.inl ⟨s,rfl,h⟩))
theorem zof(h:R (.int ns.length)):bLen [SCR ns] R:=.inr (.inr (.inr ⟨_,rfl,by rw[ba];exact h⟩))
theorem zww(h:R (.int (if j<i then j else i))):bMin [.int i,.int j] R:=Yn.symm▸h
theorem zwx(h:R (.int (if j > i then j else i))):bMax [.int i,.int j] R:=Ym.symm▸h
theorem zod(h:R (.tuple xs)):ZA [.list xs] R:=Y9.symm▸h
theorem ztk(h:(Shd u/\R (.str u.shown))):Zo [u] R:=YT.symm▸h
theorem zqz(h:Rl xs):J3 (.list xs) Rl:=YZ.symm▸h
theorem zoh(h:Rl xs):J3 (.tuple xs) Rl:=Y7.symm▸h
theorem zwJ(h:(xs.length+ys.length<=16777216/\Q (xs++ys))):lCat (.list xs) (.list ys) Q:=h
theorem zwz(h:Q xs):lLst (.list xs) Q:=h
theorem zwn(h:Q xs):lTup (.tuple xs) Q:=h
theorem zwE(h:Q i):lInt (.int i) Q:=h
theorem ztl(h:Q x y):Zr [x,y] Q:=h
theorem zwu(c:CMul i j)(h:R (.int (i*j))):oMul (.int i) (.int j) R:=⟨c,h⟩
theorem zwv(c:0<j)(h:R (.int (i % j))):oMod (.int i) (.int j) R:=⟨c,h⟩
theorem ztv(c:Zi i j)(h:R (.int (i / j))):Uv (.int i) (.int j) R:=⟨c,h⟩
theorem zwq(c:CPow i j)(h:R (.int (i*2 ^ j.toNat))):oShl (.int i) (.int j) R:=⟨c,h⟩
theorem zwo(h:R (.int (i - j))):oSub (.int i) (.int j) R:=h
theorem zwm(h:R (.int (cL i j))):oXor (.int i) (.int j) R:=h
theorem zwL(h:R (.int (gi i j))):oAnd (.int i) (.int j) R:=h
theorem j_gB(h:R (.bool (fb i j))):gB fb (.int i) (.int j) R:=h
theorem ziT(h:R (.bool true)):lIsi isInt (.int i) R:=⟨Ua,h⟩
theorem zhM(h:R (.bool true)):lIsi isInt (.bool a) R:=⟨Q8,h⟩
theorem ziS(h:R (.bool false)):lIsi isInt (.str s) R:=⟨Uo,h⟩
theorem zgs(h:R (.bool false)):lIsi isInt (.tuple xs) R:=⟨Uk,h⟩
theorem zhK(h:R (.bool false)):lIsi isInt (.list xs) R:=⟨Ui,h⟩
theorem zhJ(h:R (.bool false)):lIsi isInt (.none) R:=⟨Uj,h⟩
theorem zhL(h:R (.bool false)):lIsi isInt (.dict []) R:=⟨Uh,h⟩
theorem zhN(h:R (.bool false)):lIsi isBool (.int i) R:=⟨Ua,h⟩
theorem zgt(h:R (.bool true)):lIsi isBool (.bool a) R:=⟨Q8,h⟩
theorem ziP(h:R (.bool false)):lIsi isTup (.int i) R:=⟨Ua,h⟩
theorem zhE(h:R (.bool false)):lIsi isTup (.bool a) R:=⟨Q8,h⟩
theorem ziO(h:R (.bool false)):lIsi isTup (.str s) R:=⟨Uo,h⟩
theorem zgq(h:R (.bool true)):lIsi isTup (.tuple xs) R:=⟨Uk,h⟩
theorem zhC(h:R (.bool false)):lIsi isTup (.list xs) R:=⟨Ui,h⟩
theorem zhB(h:R (.bool false)):lIsi isTup (.none) R:=⟨Uj,h⟩
theorem zhD(h:R (.bool false)):lIsi isTup (.dict []) R:=⟨Uh,h⟩
theorem ziR(h:R (.bool false)):lIsi isStr (.int i) R:=⟨Ua,h⟩
theorem zhI(h:R (.bool false)):lIsi isStr (.bool a) R:=⟨Q8,h⟩
theorem ziQ(h:R (.bool true)):lIsi isStr (.str s) R:=⟨Uo,h⟩
theorem zgr(h:R (.bool false)):lIsi isStr (.tuple xs) R:=⟨Uk,h⟩
theorem zhG(h:R (.bool false)):lIsi isStr (.list xs) R:=⟨Ui,h⟩
theorem zhF(h:R (.bool false)):lIsi isStr (.none) R:=⟨Uj,h⟩
theorem zhH(h:R (.bool false)):lIsi isStr (.dict []) R:=⟨Uh,h⟩
end
theorem zpM{h:Int}(h0:0<h):(2:Int) ^ h.toNat=2*2 ^ (h - 1).toNat:=by
 have e:h.toNat=(h - 1).toNat+1:=by lia
 rw[e,cD,dP]
theorem zsk{h:Int}(h0:0<=h):(2:Int) ^ (h+1).toNat=2*2 ^ h.toNat:=by
 have:=zpM (h:=h+1) (by lia)
 rw[this];simp
theorem IsBk.low{bits i h:Int}(B:IsBk bits i h)(l:0<h):IsBk bits i (h - 1):=by
 obtain⟨h0,u,k,k0,rfl,k1⟩:=B;refine⟨by lia,by lia,2*k,by lia,?_,?_⟩
 ·rw[zpM l,<- e9,dP k 2]
 ·have e:(bits - (h - 1)).toNat=(bits - h).toNat+1:=by lia
  rw[e,cD];lia
theorem IsBk.up{bits i h:Int}(B:IsBk bits i h)(l:0<h):IsBk bits (i+2 ^ h.toNat / 2) (h - 1):=by
 obtain⟨h0,u,k,k0,rfl,k1⟩:=B;refine⟨by lia,by lia,2*k+1,by lia,?_,?_⟩
 ·rw[zpM l];have:2*(2:Int) ^ (h - 1).toNat / 2=2 ^ (h - 1).toNat:=by lia
  rw[this,fB,cV,<- e9,dP k 2]
 ·have e:(bits - (h - 1)).toNat=(bits - h).toNat+1:=by lia
  rw[e,cD];lia
theorem zn2(P:Int)(l:0<P):k*P % (2*P)=(k % 2)*P:=by
 rw[dP 2 P,dP k P,Int.mul_emod_mul_of_pos _ _ l,dP]
theorem IsBk.abt{bits i h:Int}(B:IsBk bits i h)(l:h<bits):IsBk bits (i - i % (2*2 ^ h.toNat)) (h+1):=by
 obtain⟨h0,u,k,k0,rfl,k1⟩:=B;refine⟨by lia,by lia,k / 2,by lia,?_,?_⟩
 ·rw[zn2 _ (VS _),zsk h0,<- ve];have:k - k % 2=k / 2*2:=by lia
  rw[this,e9]
 ·have e:(bits - h).toNat=(bits - (h+1)).toNat+1:=by lia
  rw[e,cD]at k1;lia
theorem IsBk.oth(B:IsBk bits i h)(u:h<bits):IsBk bits (cL i (2 ^ h.toNat)) h:=by
 obtain⟨h0,l,k,k0,rfl,k1⟩:=B;rw[znq _ k0];have e:(bits - h).toNat=(bits - (h+1)).toNat+1:=by lia
 split
 ·refine⟨h0,l,k+1,by lia,by rw[fB,cV],?_⟩
  rw[e,cD]at k1 ⊢;lia
 ·refine⟨h0,l,k - 1,by lia,by rw[ve,cV],by lia⟩
theorem IsBk.nxt(B:IsBk bits i h)(l:i+2*2 ^ h.toNat<=2 ^ bits.toNat):IsBk bits (i+2 ^ h.toNat) h:=by
 obtain⟨h0,u,k,k0,rfl,k1⟩:=B;refine⟨h0,u,k+1,by lia,by rw[fB,cV],?_⟩
 have e:bits.toNat=(bits - h).toNat+h.toNat:=by lia
 rw[e,zjk]at l;have p:=VS h.toNat;have:(k+2)*2 ^ h.toNat<=2 ^ (bits - h).toNat*2 ^ h.toNat:=by rw[fB];exact l
 have:=Int.le_of_mul_le_mul_right this p;lia
theorem zw0:CMul 2 j:=.inl ⟨by decide,by decide⟩
theorem zuA:Zi j 2:=⟨by decide,by decide⟩
theorem QJ(h:Nat):(1:Int)*2 ^ h=2 ^ h:=cV _
def BlkN(bits i:Int)(h:Nat):Prop:=(h:Int)<=bits/\∃k:Int,0<=k/\i=k*2 ^ h/\k<2 ^ (bits.toNat - h)
theorem IsBk.n(B:IsBk bits i h):BlkN bits i h.toNat:=by
 obtain⟨h0,l,k,k0,e,k1⟩:=B;refine⟨by lia,k,k0,e,?_⟩
 have:(bits - h).toNat=bits.toNat - h.toNat:=by lia
 rw[<- this];exact k1
theorem zm4(b:BlkN bits j g)(l:g<=h):j / 2 ^ h*2 ^ h<=j/\j+2 ^ g<=(j / 2 ^ h+1)*2 ^ h:=by
 obtain⟨_,m,m0,rfl,_⟩:=b;have C:=Bd.QH h;have v:=Bd.QH g;have x:=Bd.QH (h - g);have u:(2:Int) ^ h=2 ^ (h - g)*2 ^ g:=by rw[<- gT];congr 1;lia
 refine⟨Int.ediv_mul_le _ (by lia),?_⟩
 have eq:(m*2 ^ g) / 2 ^ h=m / 2 ^ (h - g):=by rw[u];exact Int.mul_ediv_mul_of_pos_left m _ v
 rw[eq,u,<- e9];have y:m*2 ^ g+2 ^ g=(m+1)*2 ^ g:=by rw[fB,cV]
 rw[y];refine dJ ?_ (by lia)
 have:=Int.lt_ediv_add_one_mul_self m x;lia
theorem zjq{a b A:Int}(p:0<A)(l:a<b):(a+1)*A<=b*A:=dJ (by lia) (by lia)
theorem ziW(y:BlkN bits i h)(v:BlkN bits j g):(g<=h/\j / 2 ^ h*2 ^ h=i)↔(i<=j/\j+2 ^ g<=i+2 ^ h):=by
 have u:=Bd.QH h;have C:=Bd.QH g;constructor
 ·rintro⟨l,e⟩;have t:=zm4 v l;rw[e,fB,cV,e]at t;exact t
 ·rintro⟨x,l2⟩;have l:g<=h:=by
   by_cases z:g<=h
   ·exact z
   ·exfalso;have:(2:Int) ^ h<2 ^ g:=by
     have e:(2:Int) ^ g=2 ^ (g - h)*2 ^ h:=by rw[<- gT];congr 1;lia
     have p2:(2:Int)<=2 ^ (g - h):=by
      obtain⟨d,hd⟩:∃d,g - h=d+1:=⟨g - h - 1,by lia⟩
      rw[hd,cD];have:=Bd.QH d;lia
     rw[e];have:=dJ p2 (show(0:Int)<=2 ^ h by lia)
     lia
    lia
  refine⟨l,?_⟩;obtain⟨_,k,k0,rfl,_⟩:=y;have e:j / 2 ^ h=k:=by
   have a1:k<=j / 2 ^ h:=(Int.le_ediv_iff_mul_le u).mpr x;have a2:j / 2 ^ h<k+1:=(Int.ediv_lt_iff_lt_mul u).mpr (by rw[fB,cV];lia)
   lia
  rw[e]
theorem zii{bits i j:Int}{h g:Nat}(x:BlkN bits i h)(v:BlkN bits j g)(l:g<=h):(g<=h/\j / 2 ^ h*2 ^ h=i)\/j+2 ^ g<=i\/i+2 ^ h<=j:=by
 have u:=Bd.QH h;have t:=zm4 v l;obtain⟨_,k,k0,rfl,_⟩:=x;rcases g8 (j / 2 ^ h) k with z|z|z
 ·have:=zjq u z;exact .inr (.inl (by lia))
 ·exact .inl ⟨l,by rw[z]⟩
 ·have:=zjq u z;rw[fB,cV]at this;exact .inr (.inr (by lia))
def hldD(i h j g:Int):Bool:=decide (g<=h)&&decide (j / 2 ^ h.toNat*2 ^ h.toNat=i)
theorem zpf(A:IsBk bits i h)(B:IsBk bits j g):hldD i h j g=decide (i<=j/\j+2 ^ g.toNat<=i+2 ^ h.toNat):=by
 have:=ziW A.n B.n;unfold hldD;rw[<- Bool.decide_and];refine decide_eq_decide.mpr ⟨fun z=>this.mp ⟨by have:=A.1;have:=B.1;lia,z.2⟩,fun z=>?_⟩
 obtain⟨l,e⟩:=this.mpr z;exact⟨by have:=A.1;have:=B.1;lia,e⟩
theorem zmv(Inv:Nat->En->Nat->Prop):∀(ts:qD) (i:Nat) {v:En}{n:Nat},Inv i v n ->
  (∀(k:Nat) (t:af) (v:En) (n:Nat) (K:En->Nat->Prop),ts[k]?=some t->Inv (i+k) v n->(∀x y,Inv (i+k+1) x y->K x y)->g t v fun x=>tb { D with nx:=K,ct:=K,bk:=D.nx } x n) ->
  (∀v n,Inv (i+ts.length) v n->D.nx v n)->forP g tb D ts v n
 | [],i,v,n,h0,_,fin=>fin v n (by simpa using h0)
 | t::ts,i,v,n,h0,turn,fin=>by
  refine turn 0 t v n _ rfl (by simpa using h0) fun x y h'=>?_
  refine zmv Inv ts (i+1) (by simpa using h') (fun k u v n K e C G=>?_) (fun v n h=>fin v n ?_)
  ·refine turn (k+1) u v n K (by simpa using e) ?_ fun x y h'=>G x y ?_
   ·have:i+(k+1)=i+1+k:=by lia
    rw[this];exact C
   ·have:i+1+k+1=i+(k+1)+1:=by lia
    rw[this];exact h'
  ·have:i+(t::ts).length=i+1+ts.length:=by simp;lia
   rw[this]at *;exact h
theorem UJ(Inv:Nat->En->Nat->Prop)(h0:Inv 0 u n)
  (turn:∀(k:Nat) (t:af) (u:En) (n:Nat) (K:En->Nat->Prop),ts[k]?=some t->Inv k u n->(∀l v,Inv (k+1) l v->K l v)->g t u fun l=>tb { D with nx:=K,ct:=K,bk:=D.nx } l n)
  (fin:∀u n,Inv ts.length u n->D.nx u n):forP g tb D ts u n:=by
 refine zmv Inv ts 0 h0 (fun k t u n K e x y=>turn k t u n K e (by simpa using x) fun l v h'=>y l v (by simpa using h')) fun u n h=>fin u n (by simpa using h)
theorem zft{lo:Int}{m i:Nat}{t:af}(h:(QQ lo m)[i]?=some t):i<m/\t=.int (lo+(i:Int)):=by
 unfold QQ at h;rw[bh]at h
 by_cases hi:i<m
 ·rw[mC hi]at h;cases h;exact⟨hi,rfl⟩
 ·rw[cn (by simp;lia)]at h
  cases h
theorem zgJ(Inv:Nat->En->Nat->Prop)(h0:Inv m u n)
  (turn:∀m u n,Inv m u n->c u n fun b y=>if b=true then tb { D with nx:=fun l x=>∃v,v<m/\Inv v l x,ct:=fun l x=>∃v,v<m/\Inv v l x,bk:=D.nx } u y else D.nx u y):zlb c tb D u n :=
 ⟨Inv,⟨m,h0⟩,turn⟩
structure Sm(w k:Nat)(d:af):Prop where
 ls:d.leavesShort 41=true
 sh:d.showable=true
 cl:d.canLay0=true
 dp:d.depth<=k
 wt:d.weight<=w
theorem Sm.shd(h:Sm w k d)(hw:w<=380000)(l:k<=60):Shd d:=by
 refine⟨h.sh,ck _ h.cl,cB h.dp l,?_⟩;have:=PyData.shown_le 41 (by decide) d h.ls
 have:=h.wt;lia
theorem Sm.mono(h:Sm w k d)(hw:w<=w')(l:k<=k'):Sm w' k' d:=⟨h.ls,h.sh,h.cl,cB h.dp l,cB h.wt hw⟩
theorem zk4(h:i.natAbs<10 ^ 40):Sm 140 0 (.int i):=by
 have x:i.natAbs<2 ^ 139:=aE h (by decide)
 have u:i.natAbs≠0->i.natAbs.log2<139:=fun z=>(u4 z).mpr x
 refine⟨?_,?_,by simp[bT],by simp[cZ],?_⟩
 ·have e:=int_text_length_le10 (k:=40) (by decide) h
  have v:(g6 (.int i)).length<=41:=by
   show(aa (toString i)).length<=41
   rw[PySem.ofString_length];exact e
  simp only[gM];exact decide_eq_true v
 ·simp only[iF,decide_eq_true_eq]
  by_cases z:i.natAbs=0
  ·rw[z];decide
  ·have:=u z;lia
 ·simp only[mJ];split
  ·lia
  ·rename_i z;have:i.natAbs≠0:=fun y=>z (by simp;lia)
   have:=u this;lia
theorem zoU:∀{xs:qD},(∀x∈xs,Sm w k x)->fS 41 xs=true/\gN xs=true/\bE xs=true/\bZ xs<=k/\ig xs<=(w+1)*xs.length
 | [],_=>⟨by simp[fS],by simp[gN],by simp[bE],by simp[bZ],by simp[ig]⟩
 | x::xs,h=>by
  obtain⟨a,b,c,d,e⟩:=zoU (xs:=xs) fun y l=>h y (by simp[l])
  have hx:=h x (by simp)
  refine⟨by simp[fS,hx.ls,a],by simp[gN,hx.sh,b],by simp[bE,hx.cl,c],?_,?_⟩
  ·simp only[bZ];have:=hx.dp;lia
  ·simp only[ig,aN,Nat.mul_add];have:=hx.wt;lia
theorem zf2(h:∀x∈xs,Sm w k x):Sm ((w+1)*xs.length) (k+1) (.tuple xs):=by
 obtain⟨a,b,c,d,e⟩:=zoU h;exact⟨by simpa[gM] using a,by simpa[iF] using b,by simpa[bT] using c,by simp only[cZ];lia,by simpa[mJ] using e⟩
theorem zpx(a:i.natAbs<10 ^ 40)(b:h.natAbs<10 ^ 40):Sm 282 1 (.tuple [.int i,.int h]):=by
 have:=zf2 (w:=140) (k:=0) (xs:=[.int i,.int h]) (by intro x hx;simp at hx;rcases hx with rfl|rfl;exact zk4 a;exact zk4 b)
 exact this.mono (by simp) (by decide)
theorem zrL(a:Sm w k p)(b:Sm w k q):Sm ((w+1)*2) (k+1) (.tuple [p,q]) :=
 zf2 (xs:=[p,q]) (by intro x hx;simp at hx;rcases hx with rfl|rfl;exact a;exact b)
theorem zqG(C:ρ[0]?=some (some (.val (SCR ns))))(G:ρ[j]?=some (some (.val (.int k))))(y:ns.length<=63)(k0:0<=k)(k1:k<=100)(I:JL ρ=ρd)
  (h:u { nx:=fun x _=>D.nx (JL x) n,rt:=fun t _=>∃b,t=.bool b/\D.rt t n,bk:=fun x _=>D.bk (JL x) n,ct:=fun x _=>D.ct (JL x) n } ((ρd.set j (some (.val (.int k)))).set i (some (.val HAND))) 0):Yw i j u D ρ n:=by
 subst I;unfold Yw;rw[C,G];exact⟨⟨ns,rfl,y⟩,k0,k1,h⟩
def rkAt(rk:ah->Int)(xs:Array bM)(i:Nat):Int:=((xs[i]?).map fun p=>rk p.1).getD 0
theorem Y1(h:xs[i]?=ys[j]?):rkAt rk xs i=rkAt rk ys j:=by unfold rkAt;rw[h]
theorem zr6(v:u<xs.size)(hd:d<=u)(k:Nat) :
  (k=u - d->rkAt rk (bubble xs u d) k=rkAt rk xs u)/\(u - d<k->k<=u->rkAt rk (bubble xs u d) k=rkAt rk xs (k - 1))/\(k<u - d\/u<k->rkAt rk (bubble xs u d) k=rkAt rk xs k):=by
 have e:=getElem?_bubble v d hd k;refine⟨fun h=>?_,fun x l=>?_,fun h=>?_⟩
 ·rw[if_pos h]at e;exact Y1 e
 ·rw[if_neg (by lia),if_pos ⟨x,l⟩]at e;exact Y1 e
 ·rw[if_neg (by lia),if_neg (by lia)]at e;exact Y1 e
theorem Vr(u:j<=xs.size)(k:Nat) :
  (i<=k->k<j->rkAt rk (mirror xs i j ((j - i) / 2)) k=rkAt rk xs (i+j - 1 - k))/\(k<i\/j<=k->rkAt rk (mirror xs i j ((j - i) / 2)) k=rkAt rk xs k):=by
 have e:=getElem?_mirror_all (i:=i) u k;refine⟨fun v l=>?_,fun h=>?_⟩
 ·rw[if_pos ⟨v,l⟩]at e;exact Y1 e
 ·rw[if_neg (by lia)]at e;exact Y1 e
structure Sb(kd:eP)(a0:Array bM)(z:bO):Prop where
 pm:(arrOf z).Perm a0
 kn:kindOf z=kd
 fl:failedOf z=none
 pe:pendingOf z=#[]
def Up(rk:ah->Int)(xs:Array bM)(m:Nat):Prop:=∀i j,i<j->j<m->rkAt rk xs i<=rkAt rk xs j
section
variable{prog:aL}{w:aT}{A:br}{E:qV}{s:aq}{kd:eP}{rk:ah->Int}{a0:Array bM}
def Cmp(prog:aL)(w:aT)(A:br)(s:aq)(kd:eP)(rk:ah->Int)(a0:Array bM):Prop :=
 ∀(p q:bM) (E:qV) (Q:Bool->aq->Prop),p∈a0.toList->q∈a0.toList->Q (decide (rk p.1<rk q.1)) s->wpAny (model prog w) A (keyLt' kd p.1 q.1) Q E s
theorem Sb.sz(b:Sb kd a0 z):(arrOf z).size=a0.size:=b.pm.size_eq
end
section
variable{prog:aL}{w:aT}{A:br}{E:qV}{s:aq}{kd:eP}{rk:ah->Int}{a0:Array bM}
theorem UL(l:j<=xs.size)(al:∀k,i<=k->k<j->rkAt rk xs k=rkAt rk xs (j - 1))(k:Nat):rkAt rk (mirror xs i j ((j - i) / 2)) k=rkAt rk xs k:=by
 obtain⟨p,q⟩:=Vr (rk:=rk) (i:=i) l k
 by_cases g:i<=k/\k<j
 ·rw[p g.1 g.2,al _ (by omega) (by omega),al k g.1 g.2]
 ·exact q (by omega)
end
def ziX:Bool->bM->Array bM->Nat->Nat->Nat->StateT bO Sem (Option Nat):=sortPriv% PySem.Builtin.gallop
section
variable{prog:aL}{w:aT}{A:br}{E:qV}{s:aq}{kd:eP}{rk:ah->Int}{a0:Array bM}
theorem Zp(c:Cmp prog w A s kd rk a0)(k:kindOf z=kd)(u:p∈a0.toList)(l:q∈a0.toList)
  (h:Q (some (decide (rk p.1<rk q.1))) z):wpS (model prog w) A E s (lt' p q) Q z:=by
 rw[lt'_eq];refine aA (iz (aA (kR (iA ?_))));rw[k];exact c p q _ _ u l ⟨rfl,aG h⟩
def bey(rk:ah->Int)(left:Bool)(key:bM)(arr:Array bM)(base i:Nat):Bool:=if left then decide (rkAt rk arr (base+i)<rk key.1) else !decide (rk key.1<rkAt rk arr (base+i))
theorem Zg(c:Cmp prog w A s kd rk a0)(k:kindOf z=kd)(hk:key∈a0.toList)
  (ha:∀i,i<n->∃p,arr[base+i]?=some p/\p∈a0.toList) (hn:hint<n) (up:∀i j,i<j->j<n->rkAt rk arr (base+i)<=rkAt rk arr (base+j))
  (h:∀m,m<=n->(∀i,i<m->bey rk left key arr base i=true)->(∀i,m<=i->i<n->bey rk left key arr base i=false)->Q (some m) z):wpS (model prog w) A E s (ziX left key arr base n hint) Q z:=by
 have e_:ziX=ziX:=rfl
 conv at e_=>rhs;whnf
 rw[e_];dsimp only;clear e_;have U:∀(i:Nat) (Q:Option Bool->bO->Prop),i<n->Q (some (bey rk left key arr base i)) z->wpS (model prog w) A E s (do
   let x <- elem' arr (base+i)
   if left then lt' x key else return (<- lt' key x).map (!·)) Q z:=by
  intro i Q hi Y;obtain⟨p,ep,mp⟩:=ha i hi;have r:rkAt rk arr (base+i)=rk p.1:=by unfold rkAt;rw[ep];rfl
  simp only[vg,ep,pure_bind];unfold bey at Y;rw[r]at Y;cases left with
  | true=>exact Zp c k mp hk (by simpa using Y)
  | false =>
   refine aA (Zp c k hk mp ?_);exact aG (by simpa using Y)
 have mono:∀i j,i<=j->j<n->bey rk left key arr base j=true->bey rk left key arr base i=true:=by
  intro i j hij hj R;rcases mT hij with rfl|hlt
  ·exact R
  ·have:=up i j hlt hj;unfold bey at *;cases left <;> simp at * <;> omega
 refine aA (U hint _ hn ?_);dsimp only;cases hr:bey rk left key arr base hint with
 | true =>
  rw[if_pos rfl];refine aA (dS (cf (I:=fun x c G=>G=z/\∃l r,c=(none,l,r)/\l<r/\x<r/\hint+l<n/\bey rk left key arr base (hint+l)=true)
   (Q:=fun c G=>G=z/\∃l r,c=(none,l,r)/\l<r/\hint+l<n/\bey rk left key arr base (hint+l)=true/\(n - hint<=r\/(hint+r<n/\bey rk left key arr base (hint+r)=false))) ?turn ?last ⟨rfl,0,1,rfl,by omega,by omega,by omega,hr⟩) ?post)
  case post =>
   rintro c G ⟨rfl,l,r,rfl,N,J,C,v⟩;dsimp only;have b1:∀i,i<hint+l+1->bey rk left key arr base i=true:=fun i hi=>mono i (hint+l) (by omega) J C
   have Z:∀i,hint+min r (n - hint)<=i->i<n->bey rk left key arr base i=false:=fun i hi L=>by
    rcases v with v|⟨v,S⟩
    ·omega
    ·cases hb':bey rk left key arr base i with
     | false=>rfl
     | true=>rw[mono (hint+r) i (by omega) L hb']at S;cases S
   refine aA (dS (cf (I:=fun x c y=>y=G/\∃l r,c=(none,l,r)/\l<=r/\r<=n/\r - l<=n - x/\(∀i,i<l->bey rk left key arr base i=true)/\(∀i,r<=i->i<n->bey rk left key arr base i=false))
    (Q:=fun c y=>y=G/\∃r,c=(none,r,r)/\r<=n/\(∀i,i<r->bey rk left key arr base i=true)/\(∀i,r<=i->i<n->bey rk left key arr base i=false)) ?turn2 ?last2 ⟨rfl,hint+l+1,hint+min r (n - hint),rfl,by omega,by omega,by omega,b1,Z⟩) ?post2)
   case post2 =>
    rintro c y ⟨rfl,r,rfl,q1,q2,q3⟩;exact aG (h r q1 q2 q3)
   case last2 =>
    rintro c y ⟨rfl,l,r,rfl,N,J,C,v,S⟩;have:l=r:=by omega
    subst this;exact⟨rfl,l,rfl,J,v,S⟩
   case turn2 =>
    rintro x c y _ hx ⟨rfl,l,r,rfl,N,J,C,v,S⟩;dsimp only
    by_cases hge:l>=r
    ·rw[if_pos hge];have:l=r:=by omega
     subst this;exact aG ⟨rfl,l,rfl,J,v,S⟩
    ·rw[if_neg hge];refine aA (U _ _ (by omega) ?_)
     dsimp only;cases R:bey rk left key arr base (l+(r - l) / 2) with
     | true =>
      rw[if_pos rfl];exact aG ⟨rfl,_,_,rfl,by omega,J,by omega,fun i hi=>mono i _ (by omega) (by omega) R,S⟩
     | false =>
      rw[if_neg (by simp)]
      refine aG ⟨rfl,_,_,rfl,by omega,by omega,by omega,v,fun i hi L=>?_⟩
      cases hb':bey rk left key arr base i with
      | false=>rfl
      | true=>rw[mono _ i hi L hb']at R;cases R
  case last =>
   rintro c G ⟨rfl,l,r,rfl,N,J,C,v⟩;exact⟨rfl,l,r,rfl,N,C,v,.inl (by omega)⟩
  case turn =>
   rintro x c G _ hx ⟨rfl,l,r,rfl,N,J,C,v⟩;dsimp only
   by_cases hge:r>=n - hint
   ·rw[if_pos hge];exact aG ⟨rfl,l,r,rfl,N,C,v,.inl hge⟩
   ·rw[if_neg hge];refine aA (U _ _ (by omega) ?_)
    dsimp only;cases R:bey rk left key arr base (hint+r) with
    | true =>
     rw[if_neg (by simp)]
     exact aG ⟨rfl,r,_,rfl,by omega,by omega,by omega,R⟩
    | false =>
     rw[if_pos (by simp)]
     exact aG ⟨rfl,l,r,rfl,N,C,v,.inr ⟨by omega,R⟩⟩
 | false =>
  rw[if_neg (by simp)]
  refine aA (dS (cf (I:=fun x c G=>G=z/\∃l r,c=(none,l,r)/\l<r/\x<r/\l<=hint/\bey rk left key arr base (hint - l)=false)
   (Q:=fun c G=>G=z/\∃l r,c=(none,l,r)/\l<r/\l<=hint/\bey rk left key arr base (hint - l)=false/\(hint+1<=r\/(r<=hint/\bey rk left key arr base (hint - r)=true))) ?turn ?last ⟨rfl,0,1,rfl,by omega,by omega,by omega,hr⟩) ?post)
  case post =>
   rintro c G ⟨rfl,l,r,rfl,N,J,C,v⟩;dsimp only;have b1:∀i,i<hint+1 - min r (hint+1)->bey rk left key arr base i=true:=fun i hi=>by
    rcases v with v|⟨v,S⟩
    ·omega
    ·exact mono i (hint - r) (by omega) (by omega) S
   have Z:∀i,hint - l<=i->i<n->bey rk left key arr base i=false:=fun i hi L=>by
    cases hb':bey rk left key arr base i with
    | false=>rfl
    | true=>rw[mono (hint - l) i (by omega) L hb']at C;cases C
   refine aA (dS (cf (I:=fun x c y=>y=G/\∃l r,c=(none,l,r)/\l<=r/\r<=n/\r - l<=n - x/\(∀i,i<l->bey rk left key arr base i=true)/\(∀i,r<=i->i<n->bey rk left key arr base i=false))
    (Q:=fun c y=>y=G/\∃r,c=(none,r,r)/\r<=n/\(∀i,i<r->bey rk left key arr base i=true)/\(∀i,r<=i->i<n->bey rk left key arr base i=false)) ?turn2 ?last2 ⟨rfl,hint+1 - min r (hint+1),hint - l,rfl,by omega,by omega,by omega,b1,Z⟩) ?post2)
   case post2 =>
    rintro c y ⟨rfl,r,rfl,q1,q2,q3⟩;exact aG (h r q1 q2 q3)
   case last2 =>
    rintro c y ⟨rfl,l,r,rfl,N,J,C,v,S⟩;have:l=r:=by omega
    subst this;exact⟨rfl,l,rfl,J,v,S⟩
   case turn2 =>
    rintro x c y _ hx ⟨rfl,l,r,rfl,N,J,C,v,S⟩;dsimp only
    by_cases hge:l>=r
    ·rw[if_pos hge];have:l=r:=by omega
     subst this;exact aG ⟨rfl,l,rfl,J,v,S⟩
    ·rw[if_neg hge];refine aA (U _ _ (by omega) ?_)
     dsimp only;cases R:bey rk left key arr base (l+(r - l) / 2) with
     | true =>
      rw[if_pos rfl];exact aG ⟨rfl,_,_,rfl,by omega,J,by omega,fun i hi=>mono i _ (by omega) (by omega) R,S⟩
     | false =>
      rw[if_neg (by simp)]
      refine aG ⟨rfl,_,_,rfl,by omega,by omega,by omega,v,fun i hi L=>?_⟩
      cases hb':bey rk left key arr base i with
      | false=>rfl
      | true=>rw[mono _ i hi L hb']at R;cases R
  case last =>
   rintro c G ⟨rfl,l,r,rfl,N,J,C,v⟩;exact⟨rfl,l,r,rfl,N,C,v,.inl (by omega)⟩
  case turn =>
   rintro x c G _ hx ⟨rfl,l,r,rfl,N,J,C,v⟩;dsimp only
   by_cases hge:r>=hint+1
   ·rw[if_pos hge];exact aG ⟨rfl,l,r,rfl,N,C,v,.inl hge⟩
   ·rw[if_neg hge];refine aA (U _ _ (by omega) ?_)
    dsimp only;cases R:bey rk left key arr base (hint - r) with
    | true =>
     rw[if_pos rfl];exact aG ⟨rfl,l,r,rfl,N,C,v,.inr ⟨by omega,R⟩⟩
    | false =>
     rw[if_neg (by simp)]
     exact aG ⟨rfl,r,_,rfl,by omega,by omega,by omega,R⟩
end
end L2
namespace L2
section
variable{α:Type}{r:α->Int}{a b out:List α}{ia ib na nb k:Nat}
theorem m1{x:α}{l m:List α}(h:x∈l):x∈l++m:=av.mpr (.inl h)
theorem m2{x:α}{l m:List α}(h:x∈m):x∈l++m:=av.mpr (.inr h)
def Ris(r:α->Int)(l:List α):Prop:=l.Pairwise fun x y=>r x<=r y
structure MLo(r:α->Int)(a b out:List α)(ia ib:Nat):Prop where
 pm:(out++(a.drop ia++b.drop ib)).Perm (a++b)
 so:Ris r out
 le:∀x∈out,∀y∈a.drop ia++b.drop ib,r x<=r y
theorem JR{l m:List α}:Ris r (l++m)↔Ris r l/\Ris r m/\∀x∈l,∀y∈m,r x<=r y:=cM
theorem Ris.drop{l:List α}(h:Ris r l)(k:Nat):Ris r (l.drop k):=lP (kE k l) h
theorem Ris.take{l:List α}(h:Ris r l)(k:Nat):Ris r (l.take k):=lP (nc k l) h
theorem cut2(l:List α)(i k:Nat):l.drop i=(l.drop i).take k++l.drop (i+k):=by rw[<- List.drop_drop];exact(fT k _).symm
theorem MLo.takeB(h:MLo r a b out ia ib)(I:Ris r b)(c:∀y∈(b.drop ib).take k,∀x∈a.drop ia,r y<=r x):MLo r a b (out++(b.drop ib).take k) ia (ib+k):=by
 have e:=cut2 b ib k;obtain⟨C,G,v⟩:=h;have l:=I.drop ib;rw[e]at C v l;have l:=JR.mp l;refine⟨?_,JR.mpr ⟨G,l.1,fun x hx y u=>v x hx y (m2 (m1 u))⟩,fun x hx y u=>?_⟩
 ·refine iG ?_ C;rw[bp];exact fU _ (iM _ _ _)
 ·rcases av.mp hx with z|z
  ·refine v x z y ?_;rcases av.mp u with w|w
   ·exact m1 w
   ·exact m2 (m2 w)
  ·rcases av.mp u with w|w
   ·exact c x z y w
   ·exact l.2.2 x z y w
theorem MLo.takeA(h:MLo r a b out ia ib)(I:Ris r a)(c:∀x∈(a.drop ia).take k,∀y∈b.drop ib,r x<=r y):MLo r a b (out++(a.drop ia).take k) (ia+k) ib:=by
 have e:=cut2 a ia k;obtain⟨C,G,v⟩:=h;have l:=I.drop ia;rw[e]at C v l;have l:=JR.mp l;refine⟨?_,JR.mpr ⟨G,l.1,fun x hx y u=>v x hx y (m1 (m1 u))⟩,fun x hx y u=>?_⟩
 ·refine iG ?_ C;simp only[bp];exact pL _
 ·rcases av.mp hx with z|z
  ·refine v x z y ?_;rcases av.mp u with w|w
   ·exact m1 (m2 w)
   ·exact m2 w
  ·rcases av.mp u with w|w
   ·exact l.2.2 x z y w
   ·exact c x z y w
theorem take1{l:List α}{i:Nat}{y:α}(h:l[i]?=some y):(l.drop i).take 1=[y]:=by
 have hi:=(az.mp h).1;rw[bR hi];have:=(az.mp h).2;simp[this]
theorem MLo.pushB{y:α}(h:MLo r a b out ia ib)(u:Ris r b)(e:b[ib]?=some y)(c:∀x∈a.drop ia,r y<=r x):MLo r a b (out++[y]) ia (ib+1):=by
 have:=h.takeB (k:=1) u (by rw[take1 e];intro z l x hx;cases aB.mp l;exact c x hx)
 rwa [take1 e]at this
theorem MLo.pushA{x:α}(h:MLo r a b out ia ib)(v:Ris r a)(e:a[ia]?=some x)(c:∀y∈b.drop ib,r x<=r y):MLo r a b (out++[x]) (ia+1) ib:=by
 have:=h.takeA (k:=1) v (by rw[take1 e];intro z l y u;cases aB.mp l;exact c y u)
 rwa [take1 e]at this
theorem MLo.done(h:MLo r a b out ia ib)(l:Ris r a)(u:Ris r b)(c:∀x∈a.drop ia,∀y∈b.drop ib,r x<=r y):(out++a.drop ia++b.drop ib).Perm (a++b)/\Ris r (out++a.drop ia++b.drop ib):=by
 refine⟨by rw[bp];exact h.pm,?_⟩
 rw[bp];exact JR.mpr ⟨h.so,JR.mpr ⟨l.drop _,u.drop _,c⟩,h.le⟩
theorem MLo.last(h:MLo r a b out ia ib)(u:Ris r a)(v:Ris r b)(c:∀y∈b.drop ib,∀x∈a.drop ia,r y<=r x):(out++b.drop ib++a.drop ia).Perm (a++b)/\Ris r (out++b.drop ib++a.drop ia):=by
 refine⟨?_,?_⟩
 ·rw[bp];exact(fU _ lQ).trans h.pm
 ·rw[bp];refine JR.mpr ⟨h.so,JR.mpr ⟨v.drop _,u.drop _,c⟩,fun x hx y l=>h.le x hx y ?_⟩
  rcases av.mp l with w|w
  ·exact m2 w
  ·exact m1 w
structure MHi(r:α->Int)(a b out:List α)(na nb:Nat):Prop where
 pm:((a.take na++b.take nb)++out).Perm (a++b)
 so:Ris r out
 le:∀x∈a.take na++b.take nb,∀y∈out,r x<=r y
theorem cut3(l:List α){n k:Nat}(h:k<=n):l.take n=l.take k++(l.take n).drop k:=by
 have:=fT k (l.take n);rw[List.take_take,lI h]at this;exact this.symm
theorem MHi.takeB(h:MHi r a b out na nb)(J:Ris r b)(G:k<=nb)(c:∀x∈a.take na,∀y∈(b.take nb).drop k,r x<=r y):MHi r a b ((b.take nb).drop k++out) na k:=by
 have e:=cut3 b G;obtain⟨C,I,v⟩:=h;have l:=J.take nb;rw[e]at C v l;have l:=JR.mp l;refine⟨?_,JR.mpr ⟨l.2.1,I,fun x hx y u=>v x (m2 (m2 hx)) y u⟩,fun x hx y u=>?_⟩
 ·refine iG ?_ C;simp only[bp];exact pL _
 ·rcases av.mp u with z|z
  ·rcases av.mp hx with w|w
   ·exact c x w y z
   ·exact l.2.2 x w y z
  ·refine v x ?_ y z;rcases av.mp hx with w|w
   ·exact m1 w
   ·exact m2 (m1 w)
theorem MHi.takeA(h:MHi r a b out na nb)(J:Ris r a)(G:k<=na)(c:∀x∈b.take nb,∀y∈(a.take na).drop k,r x<=r y):MHi r a b ((a.take na).drop k++out) k nb:=by
 have e:=cut3 a G;obtain⟨C,I,v⟩:=h;have l:=J.take na;rw[e]at C v l;have l:=JR.mp l;refine⟨?_,JR.mpr ⟨l.2.1,I,fun x hx y u=>v x (m1 (m2 hx)) y u⟩,fun x hx y u=>?_⟩
 ·refine iG ?_ C;simp only[bp];exact fU _ (iM _ _ _)
 ·rcases av.mp u with z|z
  ·rcases av.mp hx with w|w
   ·exact l.2.2 x w y z
   ·exact c x w y z
  ·refine v x ?_ y z;rcases av.mp hx with w|w
   ·exact m1 (m1 w)
   ·exact m2 w
theorem Uu{l:List α}{n:Nat}{y:α}(h:l[n]?=some y):(l.take (n+1)).drop n=[y]:=by
 have hi:=(az.mp h).1;have e:(l.take (n+1))=l.take n++[y]:=by rw[dU,h];rfl
 rw[e,List.drop_append_of_le_length (by simp;omega),fH (by simp;omega)]
 rfl
theorem MHi.pushB{y:α}(h:MHi r a b out na (nb+1))(u:Ris r b)(e:b[nb]?=some y)(c:∀x∈a.take na,r x<=r y):MHi r a b (y::out) na nb:=by
 have:=h.takeB (k:=nb) u (by omega) (by rw[Uu e];intro x hx z l;cases aB.mp l;exact c x hx)
 rwa [Uu e]at this
theorem MHi.pushA{x:α}(h:MHi r a b out (na+1) nb)(v:Ris r a)(e:a[na]?=some x)(c:∀y∈b.take nb,r y<=r x):MHi r a b (x::out) na nb:=by
 have:=h.takeA (k:=na) v (by omega) (by rw[Uu e];intro y u z l;cases aB.mp l;exact c y u)
 rwa [Uu e]at this
theorem MHi.done(h:MHi r a b out na nb)(l:Ris r a)(u:Ris r b)(c:∀x∈a.take na,∀y∈b.take nb,r x<=r y):(a.take na++b.take nb++out).Perm (a++b)/\Ris r (a.take na++b.take nb++out) :=
 ⟨h.pm,JR.mpr ⟨JR.mpr ⟨l.take _,u.take _,c⟩,h.so,h.le⟩⟩
theorem MHi.first(h:MHi r a b out na nb)(u:Ris r a)(v:Ris r b)(c:∀y∈b.take nb,∀x∈a.take na,r y<=r x):(b.take nb++a.take na++out).Perm (a++b)/\Ris r (b.take nb++a.take na++out):=by
 refine⟨(ly _ lQ).trans h.pm,JR.mpr ⟨JR.mpr ⟨v.take _,u.take _,c⟩,h.so,fun x hx y l=>h.le x ?_ y l⟩⟩
 rcases av.mp hx with w|w
 ·exact m2 w
 ·exact m1 w
end
section
open PySem PySem.Spec PyProof.Rows
theorem ex4{C:Type}{y:Type}{G:Type}{I:Type}{A R:Prop}{X:C->y->G->I->Prop}(h:A/\∃x0 u v l,X x0 u v l)(k:A->∀x0 u v l,X x0 u v l->R):R:=by
 obtain⟨a,x0,u,v,l,x⟩:=h;exact k a x0 u v l x
theorem ex5{I:Type}{C:Type}{J:Type}{L:Type}{G:Type}{A R:Prop}{X:I->C->J->L->G->Prop}(h:A/\∃x0 u v l y,X x0 u v l y)(k:A->∀x0 u v l y,X x0 u v l y->R):R:=by
 obtain⟨a,x0,u,v,l,y,x⟩:=h;exact k a x0 u v l y x
theorem eo5{J:Type}{G:Type}{L:Type}{I:Type}{N:Type}{U S:Type}{A R:Prop}{X:J->G->L->I->N->Prop}{Y:U->S->Prop}(h:A/\((∃x0 u v l C,X x0 u v l C)\/∃m r,Y m r))(k:A->∀x0 u v l C,X x0 u v l C->R)(k2:A->∀m r,Y m r->R):R:=by
 obtain⟨a,⟨x0,u,v,l,C,x⟩|⟨m,r,y⟩⟩:=h
 ·exact k a x0 u v l C x
 ·exact k2 a m r y
theorem ex6{L:Type}{G:Type}{N:Type}{I:Type}{S:Type}{J:Type}{A R:Prop}{X:L->G->N->I->S->J->Prop}(h:A/\∃x0 u v l C y,X x0 u v l C y)(k:A->∀x0 u v l C y,X x0 u v l C y->R):R:=by
 obtain⟨a,x0,u,v,l,C,y,x⟩:=h;exact k a x0 u v l C y x
theorem eo6{N:Type}{I:Type}{S:Type}{J:Type}{U:Type}{L:Type}{β Z:Type}{A R:Prop}{X:N->I->S->J->U->L->Prop}{Y:β->Z->Prop}(h:A/\((∃x0 u v l G C,X x0 u v l G C)\/∃m r,Y m r))(k:A->∀x0 u v l G C,X x0 u v l G C->R)(k2:A->∀m r,Y m r->R):R:=by
 obtain⟨a,⟨x0,u,v,l,G,C,x⟩|⟨m,r,y⟩⟩:=h
 ·exact k a x0 u v l G C x
 ·exact k2 a m r y
theorem JE{M:m4}{A:br}{E:qV}{s:aq}{σ α:Type}{c:Prop}{_:Decidable c}{t e:StateT σ Sem α}{Q:α->σ->Prop}{z:σ}(l:c->wpS M A E s t Q z)(u:¬c->wpS M A E s e Q z):wpS M A E s (if c then t else e) Q z:=by
 by_cases h:c
 ·rw[if_pos h];exact l h
 ·rw[if_neg h];exact u h
theorem zoN{M:m4}{A:br}{E:qV}{s:aq}{σ α u:Type}{c:u->Prop}{_:∀o,Decidable (c o)}{t F:u->StateT σ Sem α}{Q:α->σ->Prop}{z:σ}(l:u)(P:u->Prop)
  (v:∀o,P o->wpS M A E s (F o) Q z) (y:c l->(∀o,P o->wpS M A E s (F o) Q z)->wpS M A E s (t l) Q z) (x:¬c l->P l):∀o,l=o->wpS M A E s (if c o then t o else F o) Q z:=by
 rintro o rfl;exact JE (fun h=>y h v) (fun h=>v _ (x h))
theorem Vt{M:m4}{A:br}{E:qV}{s:aq}{σ α x v:Type}{c:x->v->Prop}{_:∀o i,Decidable (c o i)}{t F:x->v->StateT σ Sem α}{Q:α->σ->Prop}{z:σ}(l:x)(u:v)(P:x->v->Prop)
  (y:∀o i,P o i->wpS M A E s (F o i) Q z) (G:c l u->(∀o i,P o i->wpS M A E s (F o i) Q z)->wpS M A E s (t l u) Q z) (C:¬c l u->P l u):∀o,l=o->∀i,u=i->wpS M A E s (if c o i then t o i else F o i) Q z:=by
 rintro o rfl i rfl;exact JE (fun h=>G h y) (fun h=>y _ _ (C h))
end
end L2
namespace L2
open PySem PySem.Spec PyProof.Rows
def zgm:Array bM->Array bM->StateT bO Sem (Array bM):=sortPriv% PySem.Builtin.mergeLo
def zbV:Nat->StateT bO Sem Unit:=sortPriv% PySem.Builtin.setMinGallop
section
variable{prog:aL}{w:aT}{A:br}{E:qV}{s:aq}{kd:eP}{rk:ah->Int}{a0:Array bM}
structure SmS(z z':bO):Prop where
 kn:kindOf z'=kindOf z
 ar:arrOf z'=arrOf z
 pe:pendingOf z'=pendingOf z
 fl:failedOf z'=failedOf z
theorem SmS.refl(z:bO):SmS z z:=⟨rfl,rfl,rfl,rfl⟩
theorem SmS.trans{x y z:bO}(h:SmS x y)(k:SmS y z):SmS x z:=⟨k.kn.trans h.kn,k.ar.trans h.ar,k.pe.trans h.pe,k.fl.trans h.fl⟩
theorem V9{g:Nat}{z:bO}{Q:Unit->bO->Prop}(h:∀u,SmS z u->Q () u):wpS (model prog w) A E s (zbV g) Q z:=by
 have l:zbV=zbV:=rfl
 conv at l=>rhs;whnf
 rw[l];dsimp only;clear l;exact ik (h _ ⟨rfl,rfl,rfl,rfl⟩)
theorem JV{x:Array bM}{i:Nat}{p:bM}{z:bO}{Q:bM->bO->Prop}(e:x[i]?=some p)(h:Q p z):wpS (model prog w) A E s (elem' x i) Q z:=by
 rw[vg,e];exact aG h
abbrev rkP(rk:ah->Int)(p:bM):Int:=rk p.1
theorem VY{x:Array bM}{i:Nat}:(x.extract i x.size).toList=x.toList.drop i:=by
 rw[lX];exact cP (by simp)
theorem VZ{x:Array bM}{i k:Nat}:(x.extract i (i+k)).toList=(x.toList.drop i).take k:=by simp
theorem zlU{l:List bM}{i k:Nat}{x:bM}(h:x∈(l.drop i).take k):∃j,j<k/\l[i+j]?=some x:=by
 obtain⟨j,u,e⟩:=kg.mp h;refine⟨j,by omega,?_⟩
 have:=aw (l:=l.drop i) (i:=j) (by omega)
 rw[i8,e]at this;exact this
theorem ziJ{l:List bM}{i:Nat}{x:bM}(h:x∈l.drop i):∃j,i+j<l.length/\l[i+j]?=some x:=by
 obtain⟨j,u,e⟩:=bg h;have:=aw u;rw[i8,e]at this;exact⟨j,by simp at u;omega,this⟩
theorem Qd{x:Array bM}{i:Nat}{p:bM}(h:x.toList[i]?=some p):rkAt rk x i=rkP rk p:=by
 unfold rkAt;rw[cK]at h;rw[h];rfl
theorem Vk{x:Array bM}(h:Ris (rkP rk) x.toList){i j:Nat}(u:i<j)(v:j<x.size):rkAt rk x i<=rkAt rk x j:=by
 have hi:i<x.toList.length:=by simp;omega
 have l:j<x.toList.length:=by simpa using v
 rw[Qd (aw hi),Qd (aw l)];exact aP.mp h i j hi l u
theorem zkj{a b:Array bM}{z:bO}{Q:Array bM->bO->Prop}(c0:Cmp prog w A s kd rk a0)(k:kindOf z=kd)(ha:∀p∈a.toList,p∈a0.toList)(hb:∀p∈b.toList,p∈a0.toList)
  (sa:Ris (rkP rk) a.toList) (sb:Ris (rkP rk) b.toList) (na:0<a.size) (nb:0<b.size) (f1:∀y,b.toList[0]?=some y->∀x∈a.toList,rkP rk y<=rkP rk x)
  (f2:∀x,a.toList[a.size - 1]?=some x->∀y∈b.toList,rkP rk y<=rkP rk x)
  (h:∀m N,m.toList.Perm (a.toList++b.toList)->Ris (rkP rk) m.toList->SmS z N->Q m N):wpS (model prog w) A E s (zgm a b) Q z:=by
 have e_:zgm=zgm:=rfl
 conv at e_=>rhs;whnf
 rw[e_];clear e_;have gb:∀i,i<b.size->∃p,b[i]?=some p/\b.toList[i]?=some p/\p∈a0.toList:=fun i hi=>⟨b[i],bS hi,by simp[hi],hb _ (by simp)⟩
 have ga:∀i,i<a.size->∃p,a[i]?=some p/\a.toList[i]?=some p/\p∈a0.toList:=fun i hi=>⟨a[i],bS hi,by simp[hi],ha _ (by simp)⟩
 have gaA:∀u i,i<a.size - u->∃p,a[u+i]?=some p/\p∈a0.toList:=fun u i hi=>by
  obtain⟨p,e,_,m⟩:=ga (u+i) (by omega)
  exact⟨p,e,m⟩
 have gbA:∀u i,i<b.size - u->∃p,b[u+i]?=some p/\p∈a0.toList:=fun u i hi=>by
  obtain⟨p,e,_,m⟩:=gb (u+i) (by omega)
  exact⟨p,e,m⟩
 have upA:∀u i j,i<j->j<a.size - u->rkAt rk a (u+i)<=rkAt rk a (u+j):=fun u i j hij hj=>Vk sa (by omega) (by omega)
 have upB:∀u i j,i<j->j<b.size - u->rkAt rk b (u+i)<=rkAt rk b (u+j):=fun u i j hij hj=>Vk sb (by omega) (by omega)
 have Kt:∀i p,b.toList[i]?=some p->∀y∈b.toList.drop i,rkP rk p<=rkP rk y:=fun i p lp y J=>by
  have e:=cut2 b.toList i 1;rw[take1 lp]at e;have:=sb.drop i;rw[e]at this J;rcases av.mp J with z|z
  ·cases aB.mp z;exact aY _
  ·exact(JR.mp this).2.2 p (by simp) y z
 have Ku:∀i p,a.toList[i]?=some p->∀y∈a.toList.drop i,rkP rk p<=rkP rk y:=fun i p lp y J=>by
  have e:=cut2 a.toList i 1;rw[take1 lp]at e;have:=sa.drop i;rw[e]at this J;rcases av.mp J with z|z
  ·cases aB.mp z;exact aY _
  ·exact(JR.mp this).2.2 p (by simp) y z
 obtain⟨b0,eb0,lb0,mb0⟩:=gb 0 nb;have M0:MLo (rkP rk) a.toList b.toList [b0] 0 1:=by
  have:MLo (rkP rk) a.toList b.toList [] 0 0:=⟨by simp,kA,fun x hx=>nomatch hx⟩
  have:=this.pushB sb lb0 (by simpa using f1 b0 lb0)
  simpa using this
 refine aA (kR (dw ⟨rfl,?_⟩));refine aA (JV eb0 ?_);have IB:∀(out:Array bM) (v C:Nat) (N:bO),SmS z N->MLo (rkP rk) a.toList b.toList out.toList v C->(v=a.size\/C=b.size)->(out++a.extract v a.size++b.extract C b.size).toList.Perm (a.toList++b.toList)/\Ris (rkP rk) (out++a.extract v a.size++b.extract C b.size).toList:=fun out v C N S M e=>by
  rw[cu,cu,VY,VY];refine M.done sa sb fun x hx y J=>?_
  rcases e with rfl|rfl
  ·rw[fH (by simp)]at hx;cases hx
  ·rw[fH (by simp)]at J;cases J
 have IG:∀(out:Array bM) (v C:Nat) (N:bO),SmS z N->MLo (rkP rk) a.toList b.toList out.toList v C->v+1=a.size->(out++b.extract C b.size++a.extract v a.size).toList.Perm (a.toList++b.toList)/\Ris (rkP rk) (out++b.extract C b.size++a.extract v a.size).toList:=fun out v C N S M e=>by
  rw[cu,cu,VY,VY];refine M.last sa sb fun y J x hx=>?_
  obtain⟨p,ep,lp,mp⟩:=ga v (by omega)
  have:x=p:=by
   have R:=take1 lp;rw[cP (by simp;omega)]at R
   rw[R]at hx;exact aB.mp hx
  subst this;exact f2 x (by rw[show a.size - 1=v by omega];exact lp) y (gk J)
 refine JE (fun h1=>?_) (fun h1=>?_)
 ·have:=IB #[b0] 0 1 z (.refl z) (by simpa using M0) (.inr (by simpa using h1))
  exact aG (h _ z this.1 this.2 (.refl z))
 refine JE (fun h2=>?_) (fun h2=>?_)
 ·have:=IG #[b0] 0 1 z (.refl z) (by simpa using M0) (by simpa using h2)
  exact aG (h _ z this.1 this.2 (.refl z))
 have h1:b.size≠1:=fun e=>h1 (by simp[e])
 have h2:a.size≠1:=fun e=>h2 (by simp[e])
 refine aA (iz ?_);refine aA (dS (cf (I:=fun X c N=>SmS z N/\∃out v C mg,c=(none,out,v,C,mg)/\MLo (rkP rk) a.toList b.toList (aQ out) v C/\v+1<a.size/\C<b.size/\X+1<=v+C)
  (Q:=fun c N=>SmS z N/\∃m rest,c=(some m,rest)/\(aQ m).Perm (a.toList++b.toList)/\Ris (rkP rk) (aQ m)) ?turn ?last ⟨.refl z,#[b0],0,1,_,rfl,by simpa using M0,by omega,by omega,by omega⟩) ?post)
 case post =>
  rintro c N ⟨S,m,rest,rfl,q1,q2⟩;exact aG (h m N q1 q2 S)
 case last =>
  intro c N hI;refine ex4 hI fun S out v C mg q=>?_
  obtain rfl:=q.1;have M:=q.2.1;have l1:=q.2.2.1;have l2:=q.2.2.2.1;have l3:=q.2.2.2.2;omega
 case turn =>
  intro X c N _ hX hI;refine ex4 hI fun S out v C mg q=>?_
  obtain rfl:=q.1;have M:=q.2.1;have l1:=q.2.2.1;have l2:=q.2.2.2.1;have l3:=q.2.2.2.2;have kz:kindOf N=kd:=S.kn.trans k;refine aA (dS (cf (I:=fun x c G=>SmS z G/\∃out v C Z bc,c=(none,out,v,C,Z,bc)/\MLo (rkP rk) a.toList b.toList (aQ out) v C/\v+1<a.size/\C<b.size/\X+1+x<=v+C)
   (Q:=fun c G=>SmS z G/\((∃out v C Z bc,c=(none,out,v,C,Z,bc)/\MLo (rkP rk) a.toList b.toList (aQ out) v C/\v+1<a.size/\C<b.size/\X+2<=v+C)\/∃m rest,c=(some m,rest)/\(aQ m).Perm (a.toList++b.toList)/\Ris (rkP rk) (aQ m))) ?turn1 ?Uu ⟨S,out,v,C,0,0,rfl,M,l1,l2,by omega⟩) ?post1)
  case Uu =>
   intro c G hI;refine ex5 hI fun S out v C Z bc q=>?_
   obtain rfl:=q.1;have M:=q.2.1;have l1:=q.2.2.1;have l2:=q.2.2.2.1;have l3:=q.2.2.2.2;exact⟨S,.inl ⟨out,v,C,Z,bc,rfl,M,l1,l2,by omega⟩⟩
  case turn1 =>
   intro x c G _ hx hI;refine ex5 hI fun S out v C Z bc q=>?_
   obtain rfl:=q.1;have M:=q.2.1;have l1:=q.2.2.1;have l2:=q.2.2.2.1;have l3:=q.2.2.2.2;have kz:kindOf G=kd:=S.kn.trans k;dsimp only;obtain⟨p,ep,lp,mp⟩:=gb C l2;obtain⟨q,eq,lq,mq⟩:=ga v (by omega)
   have dB:∀y∈b.toList.drop C,rkP rk p<=rkP rk y:=fun y J=>by
    have e:=cut2 b.toList C 1;rw[take1 lp]at e;have:=sb.drop C;rw[e]at this J;rcases av.mp J with z|z
    ·cases aB.mp z;exact aY _
    ·exact(JR.mp this).2.2 p (by simp) y z
   have dA:∀y∈a.toList.drop v,rkP rk q<=rkP rk y:=fun y J=>by
    have e:=cut2 a.toList v 1;rw[take1 lq]at e;have:=sa.drop v;rw[e]at this J;rcases av.mp J with z|z
    ·cases aB.mp z;exact aY _
    ·exact(JR.mp this).2.2 q (by simp) y z
   refine aA (JV ep (aA (JV eq (aA (Zp c0 kz mp mq ?_)))));dsimp only;refine JE (fun Y=>?_) fun Y=>?_
   ·have Y:=of_decide_eq_true Y;have M':=M.pushB sb lp fun x hx=>dD (c6 Y) (dA x hx)
    refine aA (JV ep ?_);refine JE (fun R=>?_) (fun R=>?_)
    ·have:=IB (out.push p) v (C+1) G S (by simpa using M') (.inr (by simpa using R))
     exact aG ⟨S,.inr ⟨_,_,rfl,this.1,this.2⟩⟩
    ·have R:C+1≠b.size:=fun e=>R (by simp[e])
     refine JE (fun e2=>?_) (fun e2=>?_)
     ·exact aG ⟨S,.inl ⟨_,_,_,_,_,rfl,by simpa using M',l1,by omega,by omega⟩⟩
     ·exact aG ⟨S,_,_,_,_,_,rfl,by simpa using M',l1,by omega,by omega⟩
   ·have Y:=of_decide_eq_false (fZ.mpr Y);have M':=M.pushA sa lq fun y J=>dD (i9.mp Y) (dB y J)
    refine aA (JV eq ?_);refine JE (fun R=>?_) (fun R=>?_)
    ·have:=IG (out.push q) (v+1) C G S (by simpa using M') (by simpa using R)
     exact aG ⟨S,.inr ⟨_,_,rfl,this.1,this.2⟩⟩
    ·have R:v+1+1≠a.size:=fun e=>R (by simp[e])
     refine JE (fun e2=>?_) (fun e2=>?_)
     ·exact aG ⟨S,.inl ⟨_,_,_,_,_,rfl,by simpa using M',by omega,l2,by omega⟩⟩
     ·exact aG ⟨S,_,_,_,_,_,rfl,by simpa using M',by omega,l2,by omega⟩
  case post1 =>
   intro c G hI;refine eo5 hI (fun S out v C Z bc q=>?_) (fun S m rest q=>?_)
   ·obtain rfl:=q.1;have M:=q.2.1;have l1:=q.2.2.1;have l2:=q.2.2.2.1;have l3:=q.2.2.2.2;refine aA (kR (dw ⟨rfl,?_⟩));refine aA (dS (cf (I:=fun x c G=>SmS z G/\∃out v C mg Z bc,c=(none,out,v,C,mg,Z,bc)/\MLo (rkP rk) a.toList b.toList (aQ out) v C/\v+1<a.size/\C<b.size/\X+2<=v+C)
     (Q:=fun c G=>SmS z G/\((∃out v C mg Z bc,c=(none,out,v,C,mg,Z,bc)/\MLo (rkP rk) a.toList b.toList (aQ out) v C/\v+1<a.size/\C<b.size/\X+2<=v+C)\/∃m rest,c=(some m,rest)/\(aQ m).Perm (a.toList++b.toList)/\Ris (rkP rk) (aQ m))) ?turn2 ?last2 ⟨S,out,v,C,_,Z,bc,rfl,M,l1,l2,by omega⟩) ?post2)
    case last2 =>
     rintro c G ⟨S,r⟩;exact⟨S,.inl r⟩
    case post2 =>
     intro c G hI;refine eo6 hI (fun S out v C mg Z bc q=>?_) (fun S m rest q=>?_)
     ·obtain rfl:=q.1;have M:=q.2.1;have l1:=q.2.2.1;have l2:=q.2.2.2.1;have l3:=q.2.2.2.2;dsimp only;refine aA (V9 fun z3 S3=>?_)
      exact aG ⟨S.trans S3,out,v,C,_,rfl,M,l1,l2,by omega⟩
     ·obtain rfl:=q.1;have q1:=q.2.1;have q2:=q.2.2;exact aG ⟨S,m,_,rfl,q1,q2⟩
    case turn2 =>
     intro x c G _ hx hI;refine ex6 hI fun S out v C mg Z bc q=>?_
     obtain rfl:=q.1;have M:=q.2.1;have l1:=q.2.2.1;have l2:=q.2.2.2.1;have l3:=q.2.2.2.2;obtain⟨p,ep,lp,mp⟩:=gb C l2;have dB:=Kt C p lp;dsimp only;generalize hg:mg=g0;revert g0;refine zoN mg (fun _=>True) ?_ ?_ (fun _=>trivial)
     rotate_left
     ·exact fun _ hF=>hF _ trivial
     intro mg _;refine aA (V9 fun z3 S3=>?_)
     have S':=S.trans S3;have kz:kindOf z3=kd:=S'.kn.trans k;refine aA (JV ep (aA (Zg c0 kz mp (gaA v) (by omega) (upA v) fun k1 k1n k1t k1f=>?_)))
     dsimp only;have gA1:∀x∈(a.toList.drop v).take k1,∀y∈b.toList.drop C,rkP rk x<=rkP rk y:=fun x hx y J=>by
      obtain⟨j,jk,ej⟩:=zlU hx;have:=k1t j jk;unfold bey at this;rw[if_neg (by simp),Qd ej,gf,decide_eq_false_iff_not]at this
      exact dD (i9.mp this) (dB y J)
     have gA2:∀x∈a.toList.drop (v+k1),rkP rk p<=rkP rk x:=fun x hx=>by
      obtain⟨j,jl,ej⟩:=ziJ hx;have:=k1f (k1+j) (by omega) (by simp at jl;omega)
      unfold bey at this;rw[if_neg (by simp),show v+(k1+j)=v+k1+j by omega,Qd ej,mU,decide_eq_true_iff]at this
      exact c6 this
     generalize ho:out=o0;generalize hi:v=i0;revert i0;revert o0;refine Vt out v (fun o i=>MLo (rkP rk) a.toList b.toList (aQ o) i C/\i+1<a.size/\X+2<=i+C/\∀x∈a.toList.drop i,rkP rk p<=rkP rk x) ?_ ?_ ?_
     rotate_left
     ·intro hk1 hF;have M2:=M.takeA (k:=k1) sa gA1;rw[<- VZ,<- cu]at M2;refine JE (fun e0=>?_) (fun e0=>JE (fun R=>?_) (fun R=>?_))
      ·have:=IG (out++a.extract v (v+k1)) (v+k1) C z3 S' M2 (by simpa using e0)
       exact aG ⟨S',.inr ⟨_,_,rfl,this.1,this.2⟩⟩
      ·have:=IB (out++a.extract v (v+k1)) (v+k1) C z3 S' M2 (.inl (by simpa using R))
       exact aG ⟨S',.inr ⟨_,_,rfl,this.1,this.2⟩⟩
      ·have e0:v+k1+1≠a.size:=fun e=>e0 (by simp[e])
       have R:v+k1≠a.size:=fun e=>R (by simp[e])
       exact hF _ _ ⟨M2,by omega,by omega,gA2⟩
     ·intro hk1;have hk0:k1=0:=by omega
      subst hk0;exact⟨M,l1,l3,gA2⟩
     intro o i ⟨M2,i1,i2,g⟩;have M3:=M2.pushB sb lp g;rw[<- nI]at M3;refine aA (JV ep ?_);refine JE (fun e2=>?_) (fun e2=>?_)
     ·have:=IB (gO o p) i (C+1) z3 S' M3 (.inr (by simpa using e2))
      exact aG ⟨S',.inr ⟨_,_,rfl,this.1,this.2⟩⟩
     have e2:C+1≠b.size:=fun e=>e2 (by simp[e])
     obtain⟨q,eq,lq,mq⟩:=ga i (by omega)
     have dA:=Ku i q lq;refine aA (JV eq (aA (Zg c0 kz mq (gbA (C+1)) (by omega) (upB (C+1)) fun k2 k2n k2t k2f=>?_)))
     dsimp only;have gB1:∀y∈(b.toList.drop (C+1)).take k2,∀x∈a.toList.drop i,rkP rk y<=rkP rk x:=fun y J x hx=>by
      obtain⟨j,jk,ej⟩:=zlU J;have:=k2t j jk;unfold bey at this;rw[if_pos rfl,Qd ej,decide_eq_true_iff]at this;exact dD (c6 this) (dA x hx)
     have gB2:∀y∈b.toList.drop (C+1+k2),rkP rk q<=rkP rk y:=fun y J=>by
      obtain⟨j,jl,ej⟩:=ziJ J;have:=k2f (k2+j) (by omega) (by simp at jl;omega)
      unfold bey at this;rw[if_pos rfl,show C+1+(k2+j)=C+1+k2+j by omega,Qd ej,decide_eq_false_iff_not]at this
      exact i9.mp this
     have l4:C+1<b.size:=by omega
     have l5:X+2<=i+(C+1):=by omega
     clear k2t k2f k1t k1f gA1 gA2 l3 M dB e2 l2;generalize gO o p=o2 at M3 ⊢;generalize C+1=j2 at M3 gB1 gB2 l4 l5 k2n ⊢;generalize ho:o2=o0;generalize hi:j2=i0;revert i0;revert o0;refine Vt o2 j2 (fun o' j=>MLo (rkP rk) a.toList b.toList (aQ o') i j/\j<b.size/\X+2<=i+j/\∀y∈b.toList.drop j,rkP rk q<=rkP rk y) ?_ ?_ ?_
     rotate_left
     ·intro hk2 hF;have M4:=M3.takeB (k:=k2) sb gB1;rw[<- VZ,<- cu]at M4;refine JE (fun e3=>?_) (fun e3=>?_)
      ·have:=IB (o2++b.extract j2 (j2+k2)) i (j2+k2) z3 S' M4 (.inr (by simpa using e3))
       exact aG ⟨S',.inr ⟨_,_,rfl,this.1,this.2⟩⟩
      ·have e3:j2+k2≠b.size:=fun e=>e3 (by simp[e])
       exact hF _ _ ⟨M4,by omega,by omega,gB2⟩
     ·intro hk2;have hk0:k2=0:=by omega
      subst hk0;exact⟨M3,l4,l5,gB2⟩
     intro o3 j ⟨M4,j1,j3,g'⟩;have M5:=M4.pushA sa lq g';rw[<- nI]at M5;refine aA (JV eq ?_);refine JE (fun e4=>?_) (fun e4=>?_)
     ·have:=IG (gO o3 q) (i+1) j z3 S' M5 (by simpa using e4)
      exact aG ⟨S',.inr ⟨_,_,rfl,this.1,this.2⟩⟩
     have e4:i+1+1≠a.size:=fun e=>e4 (by simp[e])
     refine JE (fun _=>?_) fun _=>?_
     ·exact aG ⟨S',.inl ⟨_,_,_,_,_,_,rfl,M5,by omega,by omega,by omega⟩⟩
     ·exact aG ⟨S',_,_,_,_,_,_,rfl,M5,by omega,by omega,by omega⟩
   ·obtain rfl:=q.1;have q1:=q.2.1;have q2:=q.2.2;exact aG ⟨S,m,_,rfl,q1,q2⟩
end
def zgn:Array bM->Array bM->StateT bO Sem (Array bM):=sortPriv% PySem.Builtin.mergeHi
section
variable{prog:aL}{w:aT}{A:br}{E:qV}{s:aq}{kd:eP}{rk:ah->Int}{a0:Array bM}
theorem VC{x:Array bM}{k:Nat}:(x.extract 0 k).toList=x.toList.take k:=by simp
theorem VB{x:Array bM}{i k:Nat}:(x.extract i k).toList=(x.toList.take k).drop i:=by
 rw[lX,List.drop_take]
theorem zo_{l:List bM}{n:Nat}{x:bM}(h:x∈l.take n):∃j,j<n/\l[j]?=some x:=by
 obtain⟨j,u,e⟩:=kg.mp h;exact⟨j,by omega,by rw[aw (by omega),e]⟩
theorem zlT{l:List bM}{n i:Nat}{x:bM}(h:x∈(l.take n).drop i):∃j,i<=j/\j<n/\l[j]?=some x:=by
 obtain⟨j,u,e⟩:=ziJ h;rw[fk]at u;rw[kG (by omega)]at e
 exact⟨i+j,by omega,by omega,e⟩
theorem MHi.pushB'{r:bM->Int}{a b out:List bM}{na nb:Nat}{y:bM}(h:MHi r a b out na nb)(l:Ris r b)(p:1<=nb)(e:b[nb - 1]?=some y)(c:∀x∈a.take na,r x<=r y):MHi r a b (y::out) na (nb - 1):=by
 obtain⟨m,rfl⟩:∃m,nb=m+1:=⟨nb - 1,by omega⟩
 exact h.pushB l e c
theorem MHi.pushA'{r:bM->Int}{a b out:List bM}{na nb:Nat}{x:bM}(h:MHi r a b out na nb)(l:Ris r a)(p:1<=na)(e:a[na - 1]?=some x)(c:∀y∈b.take nb,r y<=r x):MHi r a b (x::out) (na - 1) nb:=by
 obtain⟨m,rfl⟩:∃m,na=m+1:=⟨na - 1,by omega⟩
 exact h.pushA l e c
theorem zkk{a b:Array bM}{z:bO}{Q:Array bM->bO->Prop}(c0:Cmp prog w A s kd rk a0)(k:kindOf z=kd)(ha:∀p∈a.toList,p∈a0.toList)(hb:∀p∈b.toList,p∈a0.toList)
  (sa:Ris (rkP rk) a.toList) (sb:Ris (rkP rk) b.toList) (na:0<a.size) (nb:0<b.size) (f1:∀y,b.toList[0]?=some y->∀x∈a.toList,rkP rk y<=rkP rk x)
  (f2:∀x,a.toList[a.size - 1]?=some x->∀y∈b.toList,rkP rk y<=rkP rk x)
  (h:∀m z',m.toList.Perm (a.toList++b.toList)->Ris (rkP rk) m.toList->SmS z z'->Q m z'):wpS (model prog w) A E s (zgn a b) Q z:=by
 have e_:zgn=zgn:=rfl
 conv at e_=>rhs;whnf
 rw[e_];clear e_;have gb:∀i,i<b.size->∃p,b[i]?=some p/\b.toList[i]?=some p/\p∈a0.toList:=fun i hi=>⟨b[i],bS hi,by simp[hi],hb _ (by simp)⟩
 have ga:∀i,i<a.size->∃p,a[i]?=some p/\a.toList[i]?=some p/\p∈a0.toList:=fun i hi=>⟨a[i],bS hi,by simp[hi],ha _ (by simp)⟩
 have gaA:∀u i,i<u->u<=a.size->∃p,a[0+i]?=some p/\p∈a0.toList:=fun u i hi hu=>by
  obtain⟨p,e,_,m⟩:=ga i (by omega)
  exact⟨p,by rw[dE];exact e,m⟩
 have gbA:∀u i,i<u->u<=b.size->∃p,b[0+i]?=some p/\p∈a0.toList:=fun u i hi hu=>by
  obtain⟨p,e,_,m⟩:=gb i (by omega)
  exact⟨p,by rw[dE];exact e,m⟩
 have upA:∀u i j,u<=a.size->i<j->j<u->rkAt rk a (0+i)<=rkAt rk a (0+j):=fun u i j hu hij hj=>Vk sa (by omega) (by omega)
 have upB:∀u i j,u<=b.size->i<j->j<u->rkAt rk b (0+i)<=rkAt rk b (0+j):=fun u i j hu hij hj=>Vk sb (by omega) (by omega)
 have IH:∀(l:List bM),Ris (rkP rk) l->∀n p,l[n]?=some p->∀y∈l.take (n+1),rkP rk y<=rkP rk p:=fun l sl n p lp y J=>by
  have e:l.take (n+1)=l.take n++[p]:=by rw[dU,lp];rfl
  have:=sl.take (n+1);rw[e]at this J;rcases av.mp J with z|z
  ·exact(JR.mp this).2.2 y z p (by simp)
  ·cases aB.mp z;exact aY _
 obtain⟨x0,ex0,lx0,mx0⟩:=ga (a.size - 1) (by omega)
 have M0:MHi (rkP rk) a.toList b.toList [x0] (a.size - 1) b.size:=by
  have:MHi (rkP rk) a.toList b.toList [] (a.size - 1+1) b.size:=⟨by rw[cP (by simp;omega),cP (by simp)];simp,kA,fun x _ y J=>nomatch J⟩
  exact this.pushA sa lx0 fun y J=>f2 x0 lx0 y (dW J)
 refine aA (kR (dw ⟨rfl,?_⟩));refine aA (JV ex0 ?_);have IB:∀(out:Array bM) (na nb:Nat),MHi (rkP rk) a.toList b.toList out.toList.reverse na nb->(na=0\/nb=0)->(a.extract 0 na++b.extract 0 nb++out.reverse).toList.Perm (a.toList++b.toList)/\Ris (rkP rk) (a.extract 0 na++b.extract 0 nb++out.reverse).toList:=fun out na nb M e=>by
  rw[cu,cu,VC,VC,lY];refine M.done sa sb fun x hx y J=>?_
  rcases e with rfl|rfl
  ·simp at hx
  ·simp at J
 have IG:∀(out:Array bM) (na nb:Nat),MHi (rkP rk) a.toList b.toList out.toList.reverse na nb->nb=1->(b.extract 0 nb++a.extract 0 na++out.reverse).toList.Perm (a.toList++b.toList)/\Ris (rkP rk) (b.extract 0 nb++a.extract 0 na++out.reverse).toList:=fun out na nb M e=>by
  rw[cu,cu,VC,VC,lY];refine M.first sa sb fun y J x hx=>?_
  subst e;obtain⟨p,ep,lp,mp⟩:=gb 0 (by omega)
  have N:=take1 lp;rw[ka]at N;rw[N]at J;cases aB.mp J;exact f1 _ lp x (dW hx)
 refine JE (fun h1=>?_) (fun h1=>?_)
 ·have:=IB #[x0] (a.size - 1) b.size (by simpa using M0) (.inl (by simpa using h1))
  exact aG (h _ z this.1 this.2 (.refl z))
 refine JE (fun h2=>?_) (fun h2=>?_)
 ·have:=IG #[x0] (a.size - 1) b.size (by simpa using M0) (by simpa using h2)
  exact aG (h _ z this.1 this.2 (.refl z))
 have h1:a.size - 1≠0:=fun e=>h1 (by simp[e])
 have h2:b.size≠1:=fun e=>h2 (by simp[e])
 refine aA (iz ?_);refine aA (dS (cf (I:=fun X c z'=>SmS z z'/\∃na nb out mg,c=(none,na,nb,out,mg)/\MHi (rkP rk) a.toList b.toList (aQ out).reverse na nb/\1<=na/\2<=nb/\na<=a.size/\nb<=b.size/\na+nb+X+1<=a.size+b.size)
  (Q:=fun c z'=>SmS z z'/\∃m rest,c=(some m,rest)/\(aQ m).Perm (a.toList++b.toList)/\Ris (rkP rk) (aQ m)) ?turn ?last ⟨.refl z,a.size - 1,b.size,#[x0],_,rfl,by simpa using M0,by omega,by omega,by omega,by omega,by omega⟩) ?post)
 case post =>
  rintro c z' ⟨S,m,rest,rfl,q1,q2⟩;exact aG (h m z' q1 q2 S)
 case last =>
  intro c z' hI;refine ex4 hI fun S na nb out mg q=>?_
  obtain rfl:=q.1;have M:=q.2.1;have l1:=q.2.2.1;have l2:=q.2.2.2.1;have l4:=q.2.2.2.2.1;have l5:=q.2.2.2.2.2.1;have l3:=q.2.2.2.2.2.2;omega
 case turn =>
  intro X c z' _ hX hI;refine ex4 hI fun S na nb out mg q=>?_
  obtain rfl:=q.1;have M:=q.2.1;have l1:=q.2.2.1;have l2:=q.2.2.2.1;have l4:=q.2.2.2.2.1;have l5:=q.2.2.2.2.2.1;have l3:=q.2.2.2.2.2.2;have kz:kindOf z'=kd:=S.kn.trans k;refine aA (dS (cf (I:=fun x c C=>SmS z C/\∃na nb out Y Z,c=(none,na,nb,out,Y,Z)/\MHi (rkP rk) a.toList b.toList (aQ out).reverse na nb/\1<=na/\2<=nb/\na<=a.size/\nb<=b.size/\na+nb+X+1+x<=a.size+b.size)
   (Q:=fun c C=>SmS z C/\((∃na nb out Y Z,c=(none,na,nb,out,Y,Z)/\MHi (rkP rk) a.toList b.toList (aQ out).reverse na nb/\1<=na/\2<=nb/\na<=a.size/\nb<=b.size/\na+nb+X+2<=a.size+b.size)\/∃m rest,c=(some m,rest)/\(aQ m).Perm (a.toList++b.toList)/\Ris (rkP rk) (aQ m))) ?turn1 ?Uu ⟨S,na,nb,out,0,0,rfl,M,l1,l2,l4,l5,by omega⟩) ?post1)
  case Uu =>
   intro c C hI;refine ex5 hI fun S na nb out Y Z q=>?_
   obtain rfl:=q.1;have M:=q.2.1;have l1:=q.2.2.1;have l2:=q.2.2.2.1;have l4:=q.2.2.2.2.1;have l5:=q.2.2.2.2.2.1;have l3:=q.2.2.2.2.2.2;exact⟨S,.inl ⟨na,nb,out,Y,Z,rfl,M,l1,l2,l4,l5,by omega⟩⟩
  case turn1 =>
   intro x c C _ hx hI;refine ex5 hI fun S na nb out Y Z q=>?_
   obtain rfl:=q.1;have M:=q.2.1;have l1:=q.2.2.1;have l2:=q.2.2.2.1;have l4:=q.2.2.2.2.1;have l5:=q.2.2.2.2.2.1;have l3:=q.2.2.2.2.2.2;have kz:kindOf C=kd:=S.kn.trans k;dsimp only;obtain⟨p,ep,lp,mp⟩:=gb (nb - 1) (by omega)
   obtain⟨q,eq,lq,mq⟩:=ga (na - 1) (by omega)
   have dB:=IH b.toList sb (nb - 1) p lp;rw[show nb - 1+1=nb by omega]at dB
   have dA:=IH a.toList sa (na - 1) q lq;rw[show na - 1+1=na by omega]at dA
   refine aA (JV ep (aA (JV eq (aA (Zp c0 kz mp mq ?_)))));dsimp only;refine JE (fun R=>?_) fun R=>?_
   ·have R:=of_decide_eq_true R;have M':=M.pushA' sa (by omega) lq fun y J=>dD (dB y J) (c6 R)
    refine aA (JV eq ?_);refine JE (fun N=>?_) (fun N=>?_)
    ·have:=IB (out.push q) (na - 1) nb (by simpa using M') (.inl (by simpa using N))
     exact aG ⟨S,.inr ⟨_,_,rfl,this.1,this.2⟩⟩
    ·have N:na - 1≠0:=fun e=>N (by simp[e])
     refine JE (fun e2=>?_) (fun e2=>?_)
     ·exact aG ⟨S,.inl ⟨_,_,_,_,_,rfl,by simpa using M',by omega,by omega,by omega,by omega,by omega⟩⟩
     ·exact aG ⟨S,_,_,_,_,_,rfl,by simpa using M',by omega,by omega,by omega,by omega,by omega⟩
   ·have R:=of_decide_eq_false (fZ.mpr R);have M':=M.pushB' sb (by omega) lp fun x hx=>dD (dA x hx) (i9.mp R)
    refine aA (JV ep ?_);refine JE (fun N=>?_) (fun N=>?_)
    ·have:=IG (out.push p) na (nb - 1) (by simpa using M') (by simpa using N)
     exact aG ⟨S,.inr ⟨_,_,rfl,this.1,this.2⟩⟩
    ·have N:nb - 1≠1:=fun e=>N (by simp[e])
     refine JE (fun e2=>?_) (fun e2=>?_)
     ·exact aG ⟨S,.inl ⟨_,_,_,_,_,rfl,by simpa using M',by omega,by omega,by omega,by omega,by omega⟩⟩
     ·exact aG ⟨S,_,_,_,_,_,rfl,by simpa using M',by omega,by omega,by omega,by omega,by omega⟩
  case post1 =>
   intro c C hI;refine eo5 hI (fun S na nb out Y Z q=>?_) (fun S m rest q=>?_)
   ·obtain rfl:=q.1;have M:=q.2.1;have l1:=q.2.2.1;have l2:=q.2.2.2.1;have l4:=q.2.2.2.2.1;have l5:=q.2.2.2.2.2.1;have l3:=q.2.2.2.2.2.2;refine aA (kR (dw ⟨rfl,?_⟩));refine aA (dS (cf (I:=fun x c C=>SmS z C/\∃na nb out mg Y Z,c=(none,na,nb,out,mg,Y,Z)/\MHi (rkP rk) a.toList b.toList (aQ out).reverse na nb/\1<=na/\2<=nb/\na<=a.size/\nb<=b.size/\na+nb+X+2<=a.size+b.size)
     (Q:=fun c C=>SmS z C/\((∃na nb out mg Y Z,c=(none,na,nb,out,mg,Y,Z)/\MHi (rkP rk) a.toList b.toList (aQ out).reverse na nb/\1<=na/\2<=nb/\na<=a.size/\nb<=b.size/\na+nb+X+2<=a.size+b.size)\/∃m rest,c=(some m,rest)/\(aQ m).Perm (a.toList++b.toList)/\Ris (rkP rk) (aQ m))) ?turn2 ?last2 ⟨S,na,nb,out,_,Y,Z,rfl,M,l1,l2,l4,l5,by omega⟩) ?post2)
    case last2 =>
     rintro c C ⟨S,r⟩;exact⟨S,.inl r⟩
    case post2 =>
     intro c C hI;refine eo6 hI (fun S na nb out mg Y Z q=>?_) (fun S m rest q=>?_)
     ·obtain rfl:=q.1;have M:=q.2.1;have l1:=q.2.2.1;have l2:=q.2.2.2.1;have l4:=q.2.2.2.2.1;have l5:=q.2.2.2.2.2.1;have l3:=q.2.2.2.2.2.2;dsimp only;refine aA (V9 fun z3 S3=>?_)
      exact aG ⟨S.trans S3,na,nb,out,_,rfl,M,l1,l2,l4,l5,by omega⟩
     ·obtain rfl:=q.1;have q1:=q.2.1;have q2:=q.2.2;exact aG ⟨S,m,_,rfl,q1,q2⟩
    case turn2 =>
     intro x c C _ hx hI;refine ex6 hI fun S na nb out mg Y Z q=>?_
     obtain rfl:=q.1;have M:=q.2.1;have l1:=q.2.2.1;have l2:=q.2.2.2.1;have l4:=q.2.2.2.2.1;have l5:=q.2.2.2.2.2.1;have l3:=q.2.2.2.2.2.2;obtain⟨p,ep,lp,mp⟩:=gb (nb - 1) (by omega)
     have dB:=IH b.toList sb (nb - 1) p lp;rw[show nb - 1+1=nb by omega]at dB
     dsimp only;generalize hg:mg=g0;revert g0;refine zoN mg (fun _=>True) ?_ ?_ (fun _=>trivial)
     rotate_left
     ·exact fun _ hF=>hF _ trivial
     intro mg _;refine aA (V9 fun z3 S3=>?_)
     have S':=S.trans S3;have kz:kindOf z3=kd:=S'.kn.trans k;refine aA (JV ep (aA (Zg c0 kz mp (fun i hi=>gaA na i hi (by omega)) (by omega) (fun i j=>upA na i j (by omega)) fun G k1n k1t k1f=>?_)))
     dsimp only;have gA1:∀x∈b.toList.take nb,∀y∈(a.toList.take na).drop G,rkP rk x<=rkP rk y:=fun x hx y J=>by
      obtain⟨j,j1,j2,ej⟩:=zlT J;have:=k1f j j1 j2;unfold bey at this;rw[if_neg (by simp),dE,Qd ej,mU,decide_eq_true_iff]at this
      exact dD (dB x hx) (c6 this)
     have gA2:∀x∈a.toList.take G,rkP rk x<=rkP rk p:=fun x hx=>by
      obtain⟨j,j1,ej⟩:=zo_ hx;have:=k1t j j1;unfold bey at this;rw[if_neg (by simp),dE,Qd ej,gf,decide_eq_false_iff_not]at this
      exact i9.mp this
     generalize hk:na - G=k1;generalize ho:out=o0;generalize hi:na=i0;revert i0;revert o0;refine Vt out na (fun o i=>MHi (rkP rk) a.toList b.toList (aQ o).reverse i nb/\1<=i/\i<=na/\∀x∈a.toList.take i,rkP rk x<=rkP rk p) ?_ ?_ ?_
     rotate_left
     ·intro hk1 hF;have M2:=M.takeA (k:=G) sa k1n gA1;rw[<- VB]at M2;have M2':MHi (rkP rk) a.toList b.toList (aQ (out++(a.extract G na).reverse)).reverse G nb:=by simpa using M2
      refine JE (fun N=>?_) (fun N=>?_)
      ·have:=IB (out++(a.extract G na).reverse) G nb M2' (.inl (by simpa using N))
       exact aG ⟨S',.inr ⟨_,_,rfl,this.1,this.2⟩⟩
      ·have N:G≠0:=fun e=>N (by simp[e])
       exact hF _ _ ⟨M2',by omega,k1n,gA2⟩
     ·intro hk1;have hk0:G=na:=by omega
      rw[hk0]at gA2;exact⟨M,l1,aC _,gA2⟩
     intro o i ⟨M2,i1,i2,g⟩;have M3:=M2.pushB' sb (by omega) lp g
     have M3':MHi (rkP rk) a.toList b.toList (aQ (gO o p)).reverse i (nb - 1):=by simpa using M3
     refine aA (JV ep ?_);refine JE (fun e2=>?_) (fun e2=>?_)
     ·have:=IG (gO o p) i (nb - 1) M3' (by simpa using e2)
      exact aG ⟨S',.inr ⟨_,_,rfl,this.1,this.2⟩⟩
     have e2:nb - 1≠1:=fun e=>e2 (by simp[e])
     obtain⟨q,eq,lq,mq⟩:=ga (i - 1) (by omega)
     have dA:=IH a.toList sa (i - 1) q lq;rw[show i - 1+1=i by omega]at dA
     refine aA (JV eq (aA (Zg c0 kz mq (fun i hi=>gbA (nb - 1) i hi (by omega)) (by omega) (fun i j=>upB (nb - 1) i j (by omega)) fun at2 k2n k2t k2f=>?_)))
     dsimp only;have gB1:∀x∈a.toList.take i,∀y∈(b.toList.take (nb - 1)).drop at2,rkP rk x<=rkP rk y:=fun x hx y J=>by
      obtain⟨j,j1,j2,ej⟩:=zlT J;have:=k2f j j1 j2;unfold bey at this;rw[if_pos rfl,dE,Qd ej,decide_eq_false_iff_not]at this;exact dD (dA x hx) (i9.mp this)
     have gB2:∀y∈b.toList.take at2,rkP rk y<=rkP rk q:=fun y J=>by
      obtain⟨j,j1,ej⟩:=zo_ J;have:=k2t j j1;unfold bey at this;rw[if_pos rfl,dE,Qd ej,decide_eq_true_iff]at this;exact c6 this
     have l6:2<=nb - 1:=by omega
     have l7:nb - 1<=b.size:=by omega
     have l8:i+(nb - 1)+X+2<=a.size+b.size:=by omega
     have l9:i<=a.size:=by omega
     clear k2t k2f k1t k1f gA1 gA2 dB e2 M M2 M3 hk k1n l1 l2 l3 l4 l5 i2;generalize gO o p=o2 at M3' ⊢;generalize nb - 1=j2 at M3' gB1 l6 l7 l8 k2n ⊢;generalize hk2:j2 - at2=k2;generalize ho:o2=o0;generalize hi:j2=i0;revert i0;revert o0;refine Vt o2 j2 (fun o' j=>MHi (rkP rk) a.toList b.toList (aQ o').reverse i j/\2<=j/\j<=j2/\∀y∈b.toList.take j,rkP rk y<=rkP rk q) ?_ ?_ ?_
     rotate_left
     ·intro hk2 hF;have M4:=M3'.takeB (k:=at2) sb k2n gB1;rw[<- VB]at M4;have M4':MHi (rkP rk) a.toList b.toList (aQ (o2++(b.extract at2 j2).reverse)).reverse i at2:=by simpa using M4
      refine JE (fun e3=>?_) (fun e3=>JE (fun e5=>?_) (fun e5=>?_))
      ·have:=IG (o2++(b.extract at2 j2).reverse) i at2 M4' (by simpa using e3)
       exact aG ⟨S',.inr ⟨_,_,rfl,this.1,this.2⟩⟩
      ·have:=IB (o2++(b.extract at2 j2).reverse) i at2 M4' (.inr (by simpa using e5))
       exact aG ⟨S',.inr ⟨_,_,rfl,this.1,this.2⟩⟩
      ·have e3:at2≠1:=fun e=>e3 (by simp[e])
       have e5:at2≠0:=fun e=>e5 (by simp[e])
       exact hF _ _ ⟨M4',by omega,k2n,gB2⟩
     ·intro hk2;have hk0:at2=j2:=by omega
      rw[hk0]at gB2;exact⟨M3',l6,aC _,gB2⟩
     intro o3 j ⟨M4,j1,j3,g'⟩;have M5:=M4.pushA' sa (by omega) lq g'
     have M5':MHi (rkP rk) a.toList b.toList (aQ (gO o3 q)).reverse (i - 1) j:=by simpa using M5
     refine aA (JV eq ?_);refine JE (fun e4=>?_) (fun e4=>?_)
     ·have:=IB (gO o3 q) (i - 1) j M5' (.inl (by simpa using e4))
      exact aG ⟨S',.inr ⟨_,_,rfl,this.1,this.2⟩⟩
     have e4:i - 1≠0:=fun e=>e4 (by simp[e])
     refine JE (fun _=>?_) fun _=>?_
     ·exact aG ⟨S',.inl ⟨_,_,_,_,_,_,rfl,M5',by omega,by omega,by omega,by omega,by omega⟩⟩
     ·exact aG ⟨S',_,_,_,_,_,_,rfl,M5',by omega,by omega,by omega,by omega,by omega⟩
   ·obtain rfl:=q.1;have q1:=q.2.1;have q2:=q.2.2;exact aG ⟨S,m,_,rfl,q1,q2⟩
end
theorem zkY{α:Type}{l:List α}{i:Nat}{p:α}(h:i<l.length):(l.set i p).take (i+1)=l.take i++[p]:=by
 rw[dU,cc h,List.take_set_of_le (aC _)]
 rfl
theorem zmz{α:Type}{l:List α}{i j:Nat}{p:α}(h:i<j):(l.set i p).drop j=l.drop j:=by
 rw[List.drop_set];rw[if_pos h]
theorem zlj{α:Type}(o:Nat):∀(m:List α) (n:Nat) (x:Array α),o+n+m.length<=x.size ->
  ((m.zipIdx n).foldl (fun a (q:α×Nat)=>a.setIfInBounds (o+q.2) q.1) x).toList=x.toList.take (o+n)++m++x.toList.drop (o+n+m.length)
 | [],n,x,h=>by simp
 | p::ms,n,x,h=>by
  rw[aN]at h;rw[kS,oN,zlj o ms (n+1) _ (by rw[Array.size_setIfInBounds];omega)]
  have e:(x.setIfInBounds (o+n) p).toList=x.toList.set (o+n) p:=by simp
  have u:o+n<x.toList.length:=by simp;omega
  dsimp only;rw[e,show o+(n+1)=o+n+1 by omega,zkY u,zmz (by omega),aN,show o+n+1+ms.length=o+n+(ms.length+1) by omega]
  simp
def UpL(rk:ah->Int)(xs:Array bM)(lo m:Nat):Prop:=∀i j,i<j->j<m->rkAt rk xs (lo+i)<=rkAt rk xs (lo+j)
section
variable{prog:aL}{w:aT}{A:br}{E:qV}{s:aq}{kd:eP}{rk:ah->Int}{a0:Array bM}
theorem zps{z l:bO}{Q:PUnit->bO->Prop}(h:Q ⟨⟩ l):wpS (model prog w) A E s (set l:StateT bO Sem PUnit) Q z:=by
 unfold wpS;rw[StateT.run_set];exact aj ⟨rfl,h⟩
theorem zle{x:Array bM}{lo m:Nat}(h:UpL rk x lo m)(hx:lo+m<=x.size):Ris (rkP rk) (x.extract lo (lo+m)).toList:=by
 refine aP.mpr fun i j hi v l=>?_
 have y:i<m:=by simp at hi;lia
 have u:j<m:=by simp at v;lia
 have:=h i j l u;rw[Qd (p:=(x.extract lo (lo+m)).toList[i]) (by simp),Qd (p:=(x.extract lo (lo+m)).toList[j]) (by simp)]at this
 exact this
theorem VG{x:Array bM}{lo hi:Nat}{p:bM}(h:p∈(x.extract lo hi).toList):∃j,lo<=j/\j<hi/\j<x.size/\rkAt rk x j=rkP rk p:=by
 obtain⟨i,u,e⟩:=bg h;have l:i<hi - lo/\i+lo<x.size:=by simp at u;lia
 refine⟨lo+i,by lia,by lia,by lia,Qd ?_⟩
 rw[<- e];simp
theorem ix1{s n y:Nat}(h:n<=y):s+n+(y - n)=s+y:=by lia
theorem zkl{i sa na nb pw pw2:Nat}{z:bO}{Q:Bool->bO->Prop}(c:Cmp prog w A s kd rk a0)(k:kindOf z=kd)(fl:failedOf z=none)(pm:(arrOf z).Perm a0)
  (p1:(pendingOf z)[i]?=some (sa,na,pw)) (p2:(pendingOf z)[i+1]?=some (sa+na,nb,pw2)) (hna:0<na) (hnb:0<nb) (hs:sa+na+nb<=a0.size) (u1:UpL rk (arrOf z) sa na) (u2:UpL rk (arrOf z) (sa+na) nb)
  (h:∀y,kindOf y=kd->failedOf y=none->(arrOf y).Perm a0->pendingOf y=((pendingOf z).setIfInBounds i (sa,na+nb,pw)).eraseIdxIfInBounds (i+1)->UpL rk (arrOf y) sa (na+nb)->(∀j,j<sa\/sa+na+nb<=j->rkAt rk (arrOf y) j=rkAt rk (arrOf z) j)->Q true y) :
  wpS (model prog w) A E s (mergeAt' i) Q z:=by
 have sz:(arrOf z).size=a0.size:=pm.size_eq;have mem:∀j,j<a0.size->∃p,(arrOf z)[j]?=some p/\p∈a0.toList:=fun j C=>by
  have Y:j<(arrOf z).size:=by lia
  exact⟨(arrOf z)[j],bS Y,(cN.mp pm).mem_iff.mp (by simp)⟩
 have Kv:∀p∈(arrOf z).toList,p∈a0.toList:=fun p hp=>(cN.mp pm).mem_iff.mp hp
 have e_:mergeAt'=mergeAt':=rfl
 conv at e_=>rhs;whnf
 rw[e_];dsimp only;clear e_;refine aA (iz ?_);change (arrOf z).size=_ at sz;have p1':=p1;have p2':=p2;unfold pendingOf at p1' p2';rw[p1',p2'];dsimp only;refine aA (zps ?_);obtain⟨v0,ev0,mv0⟩:=mem (sa+na) (by lia)
 refine aA (JV ev0 ?_);have rv0:rkAt rk (arrOf z) (sa+na)=rk v0.1:=by unfold rkAt;rw[ev0];rfl
 refine aA (Zg c k mv0 (fun j C=>mem _ (by lia)) hna u1 fun k hk t1 t2=>?_)
 have b1:∀j,j<k->rkAt rk (arrOf z) (sa+j)<=rkAt rk (arrOf z) (sa+na):=fun j C=>by
  have:=t1 j C;rw[rv0];unfold bey at this;simp at this;exact this
 have b2:∀j,k<=j->j<na->rkAt rk (arrOf z) (sa+na)<rkAt rk (arrOf z) (sa+j):=fun j C Y=>by
  have:=t2 j C Y;rw[rv0];unfold bey at this;simp at this;exact this
 dsimp only
 by_cases e1:(na - k == 0)=true
 ·rw[if_pos e1];have ek:k=na:=by simp at e1;lia
  refine aG (h _ (by assumption) fl pm rfl ?_ (fun _ _=>rfl))
  intro x y v R;change rkAt rk (arrOf z) (sa+x)<=rkAt rk (arrOf z) (sa+y)
  by_cases hy2:y<na
  ·exact u1 x y v hy2
  ·by_cases hx2:x<na
   ·have q1:=b1 x (by lia)
    by_cases hy3:y=na
    ·rw[hy3];exact q1
    ·have J:=u2 0 (y - na) (by lia) (by lia)
     rw[ix1 (show na<=y by lia)]at J
     simp at J;lia
   ·have J:=u2 (x - na) (y - na) (by lia) (by lia)
    rw[ix1 (show na<=y by lia),ix1 (show na<=x by lia)]at J
    exact J
 rw[if_neg e1];have hk2:k<na:=by simp at e1;lia
 obtain⟨ul,eul,mul⟩:=mem (sa+k+(na - k) - 1) (by lia)
 refine aA (JV eul ?_);have rul:rkAt rk (arrOf z) (sa+na - 1)=rk ul.1:=by unfold rkAt;rw[show sa+na - 1=sa+k+(na - k) - 1 by lia,eul];rfl
 refine aA (Zg c (by assumption) mul (fun j C=>mem _ (by lia)) (by lia) u2 fun m hm t3 t4=>?_)
 have b3:∀j,j<m->rkAt rk (arrOf z) (sa+na+j)<rkAt rk (arrOf z) (sa+na - 1):=fun j C=>by
  have:=t3 j C;rw[rul];unfold bey at this;simp at this;exact this
 have b4:∀j,m<=j->j<nb->rkAt rk (arrOf z) (sa+na - 1)<=rkAt rk (arrOf z) (sa+na+j):=fun j C Y=>by
  have:=t4 j C Y;rw[rul];unfold bey at this;simp at this;exact this
 dsimp only;have le1:∀x y,x<=y->y<na->rkAt rk (arrOf z) (sa+x)<=rkAt rk (arrOf z) (sa+y):=fun x y v R=>by
  by_cases e:x=y
  ·rw[e];exact aY _
  ·exact u1 x y (by lia) R
 have le2:∀x y,x<=y->y<nb->rkAt rk (arrOf z) (sa+na+x)<=rkAt rk (arrOf z) (sa+na+y):=fun x y v R=>by
  by_cases e:x=y
  ·rw[e];exact aY _
  ·exact u2 x y (by lia) R
 by_cases e2:(m == 0)=true
 ·rw[if_pos e2];have em:m=0:=by simpa using e2
  refine aG (h _ (by assumption) fl pm rfl ?_ (fun _ _=>rfl))
  intro x y v R;change rkAt rk (arrOf z) (sa+x)<=rkAt rk (arrOf z) (sa+y)
  by_cases hy2:y<na
  ·exact u1 x y v hy2
  ·by_cases hx2:x<na
   ·have q1:=b4 (y - na) (by lia) (by lia)
    have J:=le1 x (na - 1) (by lia) (by lia)
    rw[show sa+(na - 1)=sa+na - 1 by lia]at J
    rw[ix1 (show na<=y by lia)]at q1
    lia
   ·have J:=u2 (x - na) (y - na) (by lia) (by lia)
    rw[ix1 (show na<=y by lia),ix1 (show na<=x by lia)]at J
    exact J
 rw[if_neg e2];have hm2:0<m:=by simp at e2;lia
 have exA:(arrOf z).extract (sa+k) (sa+na)=(arrOf z).extract (sa+k) (sa+k+(na - k)):=by rw[ix1 (show k<=na by lia)]
 have rA:Ris (rkP rk) ((arrOf z).extract (sa+k) (sa+na)).toList:=by
  rw[exA];refine zle (fun x y v R=>?_) (by lia)
  have:=u1 (k+x) (k+y) (by lia) (by lia)
  rw[<- mK,<- mK]at this;exact this
 have rB:Ris (rkP rk) ((arrOf z).extract (sa+na) (sa+na+m)).toList:=zle (fun x y v R=>u2 x y v (by lia)) (by lia)
 have U:((arrOf z).extract (sa+k) (sa+na)).size=na - k:=by simp;lia
 have szB:((arrOf z).extract (sa+na) (sa+na+m)).size=m:=by simp;lia
 have mA:∀p∈((arrOf z).extract (sa+k) (sa+na)).toList,p∈a0.toList:=fun p hp=>Kv p (by
  rw[VB]at hp;exact dW (gk hp))
 have mB:∀p∈((arrOf z).extract (sa+na) (sa+na+m)).toList,p∈a0.toList:=fun p hp=>Kv p (by
  rw[VB]at hp;exact dW (gk hp))
 have f1:∀y,((arrOf z).extract (sa+na) (sa+na+m)).toList[0]?=some y->∀x∈((arrOf z).extract (sa+k) (sa+na)).toList,rkP rk y<=rkP rk x:=fun y R x hx=>by
  obtain⟨j,j1,j2,j3,e⟩:=VG (rk:=rk) hx;have:=b2 (j - sa) (by lia) (by lia)
  rw[eY (show sa<=j by lia),e]at this
  have ey:rkAt rk (arrOf z) (sa+na)=rkP rk y:=Qd (by rw[<- R];simp only[cK,lz];rw[if_pos (by lia)];rfl)
  lia
 have f2:∀x,((arrOf z).extract (sa+k) (sa+na)).toList[((arrOf z).extract (sa+k) (sa+na)).size - 1]?=some x->∀y∈((arrOf z).extract (sa+na) (sa+na+m)).toList,rkP rk y<=rkP rk x:=fun x hx y R=>by
  obtain⟨j,j1,j2,j3,e⟩:=VG (rk:=rk) R;have:=b3 (j - (sa+na)) (by lia)
  rw[eY (show sa+na<=j by lia),e]at this
  have ex:rkAt rk (arrOf z) (sa+na - 1)=rkP rk x:=Qd (by
   rw[<- hx,U];simp only[cK,lz];rw[if_pos (by lia),show sa+k+(na - k - 1)=sa+na - 1 by lia])
  lia
 have fin:∀(M:Array bM) (z2 y:bO),M.toList.Perm (((arrOf z).extract (sa+k) (sa+na)).toList++((arrOf z).extract (sa+na) (sa+na+m)).toList)->Ris (rkP rk) M.toList->arrOf z2=arrOf z->kindOf y=kd->failedOf y=none->pendingOf y=((pendingOf z).setIfInBounds i (sa,na+nb,pw)).eraseIdxIfInBounds (i+1) ->
   arrOf y=(M.toList.zipIdx.foldl (fun a (q:bM×Nat)=>a.setIfInBounds (sa+k+q.2) q.1) (arrOf z2))->Q true y:=by
  intro M z2 y PM RM ez ky fy py ay;have lM:M.toList.length=na - k+m:=by
   have:=PM.length_eq;rw[aM,cS (xs:=(arrOf z).extract _ _),cS (xs:=(arrOf z).extract _ _),U,szB]at this;exact this
  have ayl:(arrOf y).toList=(arrOf z).toList.take (sa+k)++M.toList++(arrOf z).toList.drop (sa+na+m):=by
   rw[ay,ez];have:=zlj (sa+k) M.toList 0 (arrOf z) (by rw[lM];lia)
   rw[show sa+k+0=sa+k by lia,lM,show sa+k+(na - k+m)=sa+na+m by lia]at this
   exact this
  have split0:(arrOf z).toList=(arrOf z).toList.take (sa+k)++(((arrOf z).extract (sa+k) (sa+na)).toList++((arrOf z).extract (sa+na) (sa+na+m)).toList)++(arrOf z).toList.drop (sa+na+m):=by
   rw[exA,VZ,VZ];have c1:=cut2 (arrOf z).toList (sa+k) (na - k);rw[ix1 (show k<=na by lia)]at c1
   have c2:=cut2 (arrOf z).toList (sa+na) m;rw[bp,bp,<- c2,<- c1,fT]
  have PY:(arrOf y).Perm a0:=by
   refine Array.Perm.trans ?_ pm;rw[cN,ayl]
   conv=>rhs;rw[split0]
   exact ly _ (fU _ PM)
  have hlt:((arrOf z).toList.take (sa+k)).length=sa+k:=by simp;lia
  have outer:∀j,j<sa+k\/sa+na+m<=j->rkAt rk (arrOf y) j=rkAt rk (arrOf z) j:=by
   intro j C;refine Y1 ?_;rw[<- cK,<- cK,ayl];rcases C with C|C
   ·rw[bp,bQ (by lia),List.getElem?_take,if_pos (by lia)]
   ·rw[bw (by rw[aM,lM,hlt];lia),aM,lM,hlt,i8]
    congr 1;lia
  have inner:∀j,sa+k<=j->j<sa+na+m->∃p,M.toList[j - (sa+k)]?=some p/\rkAt rk (arrOf y) j=rkP rk p:=by
   intro j j1 j2;have C:j - (sa+k)<M.toList.length:=by lia
   refine⟨M.toList[j - (sa+k)],aw C,Qd ?_⟩;rw[ayl,bQ (by rw[aM,lM,hlt];lia),bw (by lia),hlt]
   exact aw C
  have inM:∀p∈M.toList,∃j,sa+k<=j/\j<sa+na+m/\rkAt rk (arrOf z) j=rkP rk p:=by
   intro p hp;rcases av.mp (PM.mem_iff.mp hp) with q|q
   ·obtain⟨j,j1,j2,_,e⟩:=VG (rk:=rk) q;exact⟨j,j1,by lia,e⟩
   ·obtain⟨j,j1,j2,_,e⟩:=VG (rk:=rk) q;exact⟨j,by lia,j2,e⟩
  refine h y ky fy PY py ?_ fun j C=>outer j (by lia)
  clear PY ayl split0 U szB hlt sz exA rv0 rul;intro x G v R
  by_cases x1:x<k
  ·rw[outer (sa+x) (by lia)]
   by_cases y1:G<k
   ·rw[outer (sa+G) (by lia)];exact u1 x G v (by lia)
   ·have low:∀j,sa+k<=j->j<sa+na+nb->rkAt rk (arrOf z) (sa+x)<=rkAt rk (arrOf z) j:=fun j j1 j2=>by
     by_cases j3:j<sa+na
     ·have:=u1 x (j - sa) (by lia) (by lia)
      rw[eY (show sa<=j by lia)]at this;exact this
     ·have q1:=b1 x x1;have J:=le2 0 (j - (sa+na)) (by lia) (by lia)
      rw[eY (show sa+na<=j by lia)]at J
      simp at J;lia
    by_cases y2:sa+G<sa+na+m
    ·obtain⟨p,ep,er⟩:=inner (sa+G) (by lia) y2
     rw[er];obtain⟨j,j1,j2,e⟩:=inM p (aX ep);rw[<- e];exact low j j1 (by lia)
    ·rw[outer (sa+G) (by lia)];exact low _ (by lia) (by lia)
  ·by_cases x2:sa+x<sa+na+m
   ·obtain⟨p,ep,er⟩:=inner (sa+x) (by lia) x2
    rw[er]
    by_cases y2:sa+G<sa+na+m
    ·obtain⟨q,eq,er2⟩:=inner (sa+G) (by lia) y2
     rw[er2];have h1:sa+x - (sa+k)<M.toList.length:=by lia
     have h2:sa+G - (sa+k)<M.toList.length:=by lia
     rw[aw h1]at ep;rw[aw h2]at eq;cases ep;cases eq;exact aP.mp RM _ _ h1 h2 (by lia)
    ·rw[outer (sa+G) (by lia)]
     obtain⟨j,j1,j2,e⟩:=inM p (aX ep);rw[<- e];have q4:=b4 (G - na) (by lia) (by lia)
     rw[ix1 (show na<=G by lia)]at q4
     by_cases j3:j<sa+na
     ·have:=le1 (j - sa) (na - 1) (by lia) (by lia)
      rw[eY (show sa<=j by lia),show sa+(na - 1)=sa+na - 1 by lia]at this
      lia
     ·have:=le2 (j - (sa+na)) (G - na) (by lia) (by lia)
      rw[eY (show sa+na<=j by lia),ix1 (show na<=G by lia)]at this
      exact this
   ·rw[outer (sa+x) (by lia),outer (sa+G) (by lia)]
    have:=u2 (x - na) (G - na) (by lia) (by lia)
    rw[ix1 (show na<=x by lia),ix1 (show na<=G by lia)]at this
    exact this
 by_cases le:na - k<=m
 ·rw[if_pos le];refine aA (zkj c (by assumption) mA mB rA rB (gP (by lia) U.symm) (gP hm2 szB.symm) f1 f2 fun M z2 PM RM S=>?_)
  refine aA (ik (aA (iz (aG ?_))));have Z:failedOf z2=none:=S.fl.trans fl;show Q (failedOf z2).isNone _
  rw[Z];exact fin M z2 _ PM RM S.ar (S.kn.trans (by assumption)) Z S.pe rfl
 ·rw[if_neg le];refine aA (zkk c (by assumption) mA mB rA rB (gP (by lia) U.symm) (gP hm2 szB.symm) f1 f2 fun M z2 PM RM S=>?_)
  refine aA (ik (aA (iz (aG ?_))));have Z:failedOf z2=none:=S.fl.trans fl;show Q (failedOf z2).isNone _
  rw[Z];exact fin M z2 _ PM RM S.ar (S.kn.trans (by assumption)) Z S.pe rfl
end
structure Sl(rk:ah->Int)(kd:eP)(a0:Array bM)(z0:bO)(lo:Nat)(z:bO):Prop where
 pm:(arrOf z).Perm a0
 kn:kindOf z=kd
 fl:failedOf z=none
 pe:pendingOf z=pendingOf z0
 lw:∀j,j<lo->rkAt rk (arrOf z) j=rkAt rk (arrOf z0) j
def DnL(rk:ah->Int)(xs:Array bM)(lo m:Nat):Prop:=∀i j,i<j->j<m->rkAt rk xs (lo+j)<=rkAt rk xs (lo+i)
section
variable{prog:aL}{w:aT}{A:br}{E:qV}{s:aq}{kd:eP}{rk:ah->Int}{a0:Array bM}{z0:bO}{lo:Nat}
theorem Sl.sz{z:bO}(b:Sl rk kd a0 z0 lo z):(arrOf z).size=a0.size:=b.pm.size_eq
theorem Sl.arr{z:bO}(b:Sl rk kd a0 z0 lo z){xs:Array bM}(h:xs.Perm (arrOf z))(l:∀j,j<lo->rkAt rk xs j=rkAt rk (arrOf z) j):Sl rk kd a0 z0 lo (setArr z xs):=⟨h.trans b.pm,b.kn,b.fl,b.pe,fun j u=>(l j u).trans (b.lw j u)⟩
theorem askL{z:bO}{i j:Nat}{Q:Option Bool->bO->Prop}(c:Cmp prog w A s kd rk a0)(b:Sl rk kd a0 z0 lo z)(hi:i<a0.size)(v:j<a0.size)
  (h:Q (some (decide (rkAt rk (arrOf z) i<rkAt rk (arrOf z) j))) z):wpS (model prog w) A E s (ltAt' i j) Q z:=by
 have mem:∀k,k<a0.size->∃p,(arrOf z)[k]?=some p/\p∈a0.toList:=fun k C=>by
  have l:k<(arrOf z).size:=by rw[b.sz];exact C
  exact⟨(arrOf z)[k],bS l,(cN.mp b.pm).mem_iff.mp (by simp)⟩
 obtain⟨p,u,mp⟩:=mem i hi;obtain⟨q,eq,G⟩:=mem j v;have I:rkAt rk (arrOf z) i=rk p.1:=by unfold rkAt;rw[u];rfl
 have J:rkAt rk (arrOf z) j=rk q.1:=by unfold rkAt;rw[eq];rfl
 rw[I,J]at h;rw[ltAt'_eq];refine aA (iz ?_);show wpS (model prog w) A E s (elem' (arrOf z) i >>= fun x=>elem' (arrOf z) j >>= fun y=>lt' x y) Q z
 simp only[vg,u,eq,pure_bind];exact Zp c b.kn mp G h
theorem zri{z:bO}{n ok:Nat}{Q:Bool->bO->Prop}(c:Cmp prog w A s kd rk a0)(hn:lo+n<=a0.size)(hok:ok<=n)(b:Sl rk kd a0 z0 lo z)(up:UpL rk (arrOf z) lo ok)
  (h:∀y,Sl rk kd a0 z0 lo y->UpL rk (arrOf y) lo n->Q true y):wpS (model prog w) A E s (binarySort' lo n ok) Q z:=by
 rw[binarySort'_eq];refine aA (dS (cf (Q:=fun c y=>c=(none,())/\Sl rk kd a0 z0 lo y/\UpL rk (arrOf y) lo n) (I:=fun k c y=>c=(none,())/\Sl rk kd a0 z0 lo y/\UpL rk (arrOf y) lo (min k n)) ?turn ?last ⟨rfl,b,fun i j Y h2=>up i j Y (by lia)⟩) ?post)
 case post =>
  rintro _ y ⟨rfl,C,u⟩
  exact aG (h y C u)
 case last =>
  rintro _ y ⟨rfl,C,u⟩
  exact⟨rfl,C,by rwa [show min (max (max ok 1) n) n=n by lia]at u⟩
 case turn =>
  rintro k _ y k1 k2 ⟨rfl,C,u⟩
  rw[show min k n=k by lia]at u
  refine aA (dS (cf (Q:=fun c S=>S=y/\∃l r,c=(none,l,r)/\l<=k/\(∀i,i<l->rkAt rk (arrOf y) (lo+i)<=rkAt rk (arrOf y) (lo+k))/\∀i,l<=i->i<k->rkAt rk (arrOf y) (lo+k)<rkAt rk (arrOf y) (lo+i))
   (I:=fun x c S=>S=y/\∃l r,c=(none,l,r)/\l<=r/\r<=k/\r - l+x<=k/\(∀i,i<l->rkAt rk (arrOf y) (lo+i)<=rkAt rk (arrOf y) (lo+k))/\∀i,r<=i->i<k->rkAt rk (arrOf y) (lo+k)<rkAt rk (arrOf y) (lo+i)) ?t2 ?l2 ⟨rfl,0,k,rfl,by lia,by lia,by lia,fun i hi=>by lia,fun i R J=>by lia⟩) ?p2)
  case l2 =>
   rintro _ v ⟨e,l,r,rfl,q1,Z,q3,L,N⟩;subst e;exact⟨rfl,l,r,rfl,by lia,L,fun i R J=>N i (by lia) J⟩
  case t2 =>
   rintro x _ v _ _ ⟨e,l,r,rfl,q1,Z,q3,L,N⟩;subst e
   by_cases ge:r<=l
   ·simp only[ge_iff_le,ge,if_true];exact aG ⟨rfl,l,r,rfl,by lia,L,fun i R J=>N i (by lia) J⟩
   ·simp only[ge_iff_le,ge,if_false];refine aA (askL c C (by lia) (by lia) ?_)
    by_cases le:rkAt rk (arrOf v) (lo+k)<rkAt rk (arrOf v) (lo+(l+r) / 2)
    ·simp only[le,decide_true,if_true];refine aG ⟨rfl,l,(l+r) / 2,rfl,by lia,by lia,by lia,L,fun i R J=>?_⟩
     rcases cq ((l+r) / 2) i with g|g
     ·have:=u _ _ g J;lia
     ·have:i=(l+r) / 2:=by lia
      rw[this];exact le
    ·simp only[le,decide_false,aI,if_false];refine aG ⟨rfl,(l+r) / 2+1,r,rfl,by lia,by lia,by lia,fun i R=>?_,N⟩
     rcases cq i ((l+r) / 2) with g|g
     ·have:=u _ _ g (by lia);lia
     ·have:i=(l+r) / 2:=by lia
      rw[this];lia
  case p2 =>
   rintro _ v ⟨e,l,r,rfl,Z,L,N⟩;subst e;show wpS (model prog w) A E s (moveDown' (lo+k) (lo+l) >>= fun _=>pure (cw (none,()))) _ v
   rw[moveDown'_eq];have hk:lo+k<(arrOf v).size:=by rw[C.sz];lia
   have G:∀j,_:=fun j=>zr6 (rk:=rk) hk (show lo+k - (lo+l)<=lo+k by lia) j
   have el:lo+k - (lo+k - (lo+l))=lo+l:=by lia
   rw[el]at G;refine aA (ik (aG ⟨rfl,C.arr (bubble_perm _ _ _) (fun j hj=>(G j).2.2 (by lia)),fun i j Y h2=>?_⟩))
   show rkAt rk (bubble (arrOf v) (lo+k) (lo+k - (lo+l))) (lo+i)<=rkAt rk (bubble (arrOf v) (lo+k) (lo+k - (lo+l))) (lo+j)
   have hj:j<=k:=by lia
   obtain⟨a1,a2,U⟩:=G (lo+i);obtain⟨b1,b2,b3⟩:=G (lo+j);rcases dZ j l with jl|jl|jl
   ·rw[U (by lia),b3 (by lia)];exact u i j Y (by lia)
   ·rw[U (by lia),b1 (by lia)];exact L i (by lia)
   ·rw[b2 (by lia) (by lia),show lo+j - 1=lo+(j - 1) by lia]
    rcases dZ i l with il|il|il
    ·rw[U (by lia)]
     exact u i (j - 1) (by lia) (by lia)
    ·rw[a1 (by lia)];exact c6 (N (j - 1) (by lia) (by lia))
    ·rw[a2 (by lia) (by lia),show lo+i - 1=lo+(i - 1) by lia]
     exact u _ _ (by lia) (by lia)
theorem UpL.more{xs:Array bM}{x:Nat}(u:UpL rk xs lo x)(y:1<=x)(g:¬rkAt rk xs (lo+x)<rkAt rk xs (lo+x - 1)):UpL rk xs lo (x+1):=fun i j v C=>by
 rw[show lo+x - 1=lo+(x - 1) by lia]at g
 rcases cq j x with jx|jx
 ·exact u i j v jx
 ·have l:j=x:=by lia
  subst l;rcases cq i (j - 1) with ij|ij
  ·have:=u i (j - 1) ij (by lia);lia
  ·have:i=j - 1:=by lia
   rw[this];lia
theorem DnL.more{xs:Array bM}{x:Nat}(u:DnL rk xs lo x)(y:1<=x)(g:rkAt rk xs (lo+x)<=rkAt rk xs (lo+x - 1)):DnL rk xs lo (x+1):=fun i j v C=>by
 rw[show lo+x - 1=lo+(x - 1) by lia]at g
 rcases cq j x with jx|jx
 ·exact u i j v jx
 ·have l:j=x:=by lia
  subst l;rcases cq i (j - 1) with ij|ij
  ·have:=u i (j - 1) ij (by lia);lia
  ·have:i=j - 1:=by lia
   rw[this];lia
theorem zpC{z:bO}{m:Nat}{Q:Option Nat->bO->Prop}(c:Cmp prog w A s kd rk a0)(hm:lo+m<=a0.size)(m1:1<=m)(b:Sl rk kd a0 z0 lo z)
  (h:∀k y,Sl rk kd a0 z0 lo y->1<=k->k<=m->UpL rk (arrOf y) lo k->Q (some k) y):wpS (model prog w) A E s (countRun' lo m) Q z:=by
 rw[countRun'_eq];refine aA (dS (cf (I:=fun x c y=>y=z/\c=(none,x)/\UpL rk (arrOf z) lo x) (Q:=fun c y=>y=z/\∃n,c=(none,n)/\1<=n/\n<=m/\UpL rk (arrOf z) lo n/\(n<m->rkAt rk (arrOf z) (lo+n)<rkAt rk (arrOf z) (lo+n - 1))) ?turn ?last ⟨rfl,rfl,fun i j J N=>absurd J (by lia)⟩) ?post)
 case last =>
  rintro _ y ⟨rfl,rfl,u⟩;rw[show max 1 m=m by lia]at u ⊢
  exact⟨rfl,m,rfl,m1,aC _,u,fun g=>absurd g (by lia)⟩
 case turn =>
  rintro x _ y R Z ⟨rfl,rfl,u⟩;dsimp only;refine aA (askL c b (by lia) (by lia) ?_)
  by_cases g:rkAt rk (arrOf y) (lo+x)<rkAt rk (arrOf y) (lo+x - 1)
  ·simp only[g,decide_true,if_true];exact aG ⟨rfl,x,rfl,R,by lia,u,fun _=>g⟩
  ·simp only[g,decide_false,aI,if_false];exact aG ⟨rfl,rfl,u.more R g⟩
 case post =>
  rintro _ y ⟨rfl,n,rfl,n1,n2,u,lt⟩;dsimp only
  by_cases en:n=m
  ·simp only[en,beq_self_eq_true,if_true];exact aG (h m y b m1 (aC _) (en▸u))
  have en':(n == m)=false:=by simpa using en
  simp only[en',aI,if_false];have l:=lt (by lia)
  have zn:lo+n<=(arrOf y).size:=by rw[b.sz];lia
  have pre:n<=1\/1<n:=by lia
  have both:∀(F:StateT bO Sem (Option Nat)) ,(∀L,Sl rk kd a0 z0 lo L->DnL rk (arrOf L) lo (n+1)->wpS (model prog w) A E s F Q L)->wpS (model prog w) A E s (if n > 1 then ltAt' lo (lo+n - 1) >>= fun x=>match x with
    | some G=>if G=true then pure (some n) else reverseSlice' lo (lo+n) >>= fun _=>F
    | _=>pure none
   else F) Q y:=by
   intro F S
   by_cases g:n > 1
   ·simp only[g,if_true];refine aA (askL c b (by lia) (by lia) ?_)
    by_cases G:rkAt rk (arrOf y) lo<rkAt rk (arrOf y) (lo+n - 1)
    ·simp only[G,decide_true,if_true];exact aG (h n y b n1 n2 u)
    ·simp only[G,decide_false,aI,if_false];have al:∀k,lo<=k->k<lo+n->rkAt rk (arrOf y) k=rkAt rk (arrOf y) (lo+n - 1):=fun k k1 kn=>by
      have p:rkAt rk (arrOf y) lo<=rkAt rk (arrOf y) k:=by
       rcases mT k1 with k0|k0
       ·rw[k0];exact aY _
       ·have:=u 0 (k - lo) (by lia) (by lia)
        rw[show lo+(k - lo)=k by lia]at this
        exact this
      have q:rkAt rk (arrOf y) k<=rkAt rk (arrOf y) (lo+n - 1):=by
       rcases cq k (lo+n - 1) with kk|kk
       ·have:=u (k - lo) (n - 1) (by lia) (by lia)
        rw[show lo+(k - lo)=k by lia,show lo+(n - 1)=lo+n - 1 by lia]at this
        exact this
       ·rw[show k=lo+n - 1 by lia];exact aY _
      lia
     refine aA (lZ (S _ (b.arr (ma _ _ _ _) fun j U=>UL zn al j) fun i j J N=>?_))
     show rkAt rk (mirror (arrOf y) lo (lo+n) ((lo+n - lo) / 2)) (lo+j)<=rkAt rk (mirror (arrOf y) lo (lo+n) ((lo+n - lo) / 2)) (lo+i)
     rw[UL zn al,UL zn al];have ai:=al (lo+i) (by lia) (by lia)
     rcases cq j n with jn|jn
     ·have:=al (lo+j) (by lia) (by lia);lia
     ·rw[show j=n by lia];lia
   ·simp only[g,if_false];have e1:n=1:=by lia
    subst e1;refine S y b fun i j J N=>?_
    rw[show i=0 by lia,show j=1 by lia]
    exact c6 l
  refine both _ fun y b dn=>?_
  clear both;refine aA (kR (dw ⟨rfl,aA ?_⟩));refine dS (cf (I:=fun x c y=>∃e,c=(none,x,e)/\Sl rk kd a0 z0 lo y/\DnL rk (arrOf y) lo x/\e<x/\∀i,lo+x - (e+1)<=i->i<lo+x->rkAt rk (arrOf y) i=rkAt rk (arrOf y) (lo+x - 1))
   (Q:=fun c y=>∃x e,c=(none,x,e)/\1<=x/\x<=m/\Sl rk kd a0 z0 lo y/\DnL rk (arrOf y) lo x/\e<x/\∀i,lo+x - (e+1)<=i->i<lo+x->rkAt rk (arrOf y) i=rkAt rk (arrOf y) (lo+x - 1)) ?turn2 ?last2 ⟨0,rfl,b,dn,by lia,fun i i1 i2=>by rw[show i=lo+(n+1) - 1 by lia]⟩) ?post2
  case last2 =>
   rintro _ y ⟨e,rfl,q⟩;rw[show max (n+1) m=m by lia]at *
   exact⟨m,e,rfl,m1,aC _,q⟩
  case turn2 =>
   rintro x _ y R Z ⟨e,rfl,C,d,ex,al⟩
   have xz:lo+x<=(arrOf y).size:=by rw[C.sz];lia
   dsimp only;refine aA (askL c C (show lo+x<a0.size by lia) (show lo+x - 1<a0.size by lia) ?_)
   have one:∀xs:Array bM,∀i,lo+(x+1) - (0+1)<=i->i<lo+(x+1)->rkAt rk xs i=rkAt rk xs (lo+(x+1) - 1):=fun xs i i1 i2=>by rw[show i=lo+(x+1) - 1 by lia]
   by_cases g:rkAt rk (arrOf y) (lo+x)<rkAt rk (arrOf y) (lo+x - 1)
   ·simp only[g,decide_true,if_true];have d2:∀xs:Array bM,(∀k,rkAt rk xs k=rkAt rk (arrOf y) k)->DnL rk xs lo (x+1):=fun xs hx i j J N=>by
     rw[hx,hx];exact d.more (by lia) (c6 g) i j J N
    by_cases e0:e > 0
    ·simp only[e0,if_true];exact aA (lZ (aG ⟨0,rfl,C.arr (ma _ _ _ _) (fun j U=>UL xz al j),d2 _ (UL xz al),by lia,one _⟩))
    ·simp only[e0,if_false];exact aG ⟨0,rfl,C,d2 _ (fun _=>rfl),by lia,one _⟩
   ·simp only[g,decide_false,aI,if_false];refine aA (askL c C (show lo+x - 1<a0.size by lia) (show lo+x<a0.size by lia) ?_)
    by_cases g2:rkAt rk (arrOf y) (lo+x - 1)<rkAt rk (arrOf y) (lo+x)
    ·simp only[g2,decide_true,if_true];exact aG ⟨x,e,rfl,by lia,by lia,C,d,ex,al⟩
    ·simp only[g2,decide_false,aI,if_false];have eqx:rkAt rk (arrOf y) (lo+x)=rkAt rk (arrOf y) (lo+x - 1):=by lia
     refine aG ⟨e+1,rfl,C,d.more (by lia) (by lia),by lia,fun i i1 i2=>?_⟩
     rw[show lo+(x+1) - 1=lo+x by lia]
     rcases cq i (lo+x) with ix|ix
     ·rw[al i (by lia) ix,eqx]
     ·rw[show i=lo+x by lia]
  case post2 =>
   rintro _ y ⟨x,e,rfl,R,Z,C,d,ex,al⟩
   have kz:lo+x<=(arrOf y).size:=by rw[C.sz];lia
   dsimp only;have fin:∀(F:StateT bO Sem (Option Nat)),(∀L,Sl rk kd a0 z0 lo L->DnL rk (arrOf L) lo x->wpS (model prog w) A E s F Q L)->wpS (model prog w) A E s (if e > 0 then reverseSlice' (lo+x - (e+1)) (lo+x) >>= fun _=>F else F) Q y:=by
    intro F S
    by_cases e0:e > 0
    ·simp only[e0,if_true];refine aA (lZ (S _ (C.arr (ma _ _ _ _) fun j U=>UL kz al j) fun i j J N=>?_))
     show rkAt rk (mirror (arrOf y) (lo+x - (e+1)) (lo+x) ((lo+x - (lo+x - (e+1))) / 2)) (lo+j)<=rkAt rk (mirror (arrOf y) (lo+x - (e+1)) (lo+x) ((lo+x - (lo+x - (e+1))) / 2)) (lo+i)
     rw[UL kz al,UL kz al];exact d i j J N
    ·simp only[e0,if_false];exact S y C d
   refine fin _ fun y C d=>?_
   clear fin;have hz:lo+x<=(arrOf y).size:=by rw[C.sz];lia
   have Y:=C.arr (ma (arrOf y) lo (lo+x) ((lo+x - lo) / 2)) fun j U=>(Vr (rk:=rk) hz j).2 (.inl U)
   refine aA (lZ (aA ?_));have u2:UpL rk (mirror (arrOf y) lo (lo+x) ((lo+x - lo) / 2)) lo x:=fun i j J N=>by
    rw[(Vr (rk:=rk) hz (lo+i)).1 (by lia) (by lia),(Vr (rk:=rk) hz (lo+j)).1 (by lia) (by lia)]
    have:=d (x - 1 - j) (x - 1 - i) (by lia) (by lia)
    rw[show lo+(x - 1 - j)=lo+(lo+x) - 1 - (lo+j) by lia,show lo+(x - 1 - i)=lo+(lo+x) - 1 - (lo+i) by lia]at this
    exact this
   change UpL rk (arrOf (setArr y (mirror (arrOf y) lo (lo+x) ((lo+x - lo) / 2)))) lo x at u2;generalize setArr y (mirror (arrOf y) lo (lo+x) ((lo+x - lo) / 2))=v at Y u2 ⊢;refine dS (cf (I:=fun x c y=>y=v/\c=(none,x)/\UpL rk (arrOf v) lo x) (Q:=fun c y=>y=v/\∃n,c=(none,n)/\1<=n/\n<=m/\UpL rk (arrOf v) lo n) ?turn3 ?last3 ⟨rfl,rfl,u2⟩) ?post3
   case last3 =>
    rintro _ y ⟨rfl,rfl,u⟩;rw[show max x m=m by lia]at u ⊢
    exact⟨rfl,m,rfl,m1,aC _,u⟩
   case turn3 =>
    rintro x' _ y R Z ⟨rfl,rfl,u⟩;dsimp only;refine aA (askL c Y (by lia) (by lia) ?_)
    by_cases g:rkAt rk (arrOf y) (lo+x')<rkAt rk (arrOf y) (lo+x' - 1)
    ·simp only[g,decide_true,if_true];exact aG ⟨rfl,x',rfl,by lia,by lia,u⟩
    ·simp only[g,decide_false,aI,if_false];exact aG ⟨rfl,rfl,u.more (by lia) g⟩
   case post3 =>
    rintro _ y ⟨rfl,n,rfl,n1,n2,u⟩;exact aG (h n y Y n1 n2 u)
end
abbrev Run3:=Nat×Nat×Nat
def Side:List Run3->Nat->Nat->Prop
 | [],a,b=>a=b
 | q::r,a,b=>q.1=a/\0<q.2.1/\Side r (a+q.2.1) b
theorem Vc:∀{l m:List Run3}{a b:Nat},Side (l++m) a b↔∃c,Side l a c/\Side m c b
 | [],m,a,b=>⟨fun h=>⟨a,rfl,h⟩,fun⟨c,e,h⟩=>by cases e;exact h⟩
 | q::l,m,a,b=>by
  constructor
  ·rintro⟨x,u,C⟩;obtain⟨c,v,y⟩:=Vc.mp C;exact⟨c,⟨x,u,v⟩,y⟩
  ·rintro⟨c,⟨x,u,v⟩,y⟩;exact⟨x,u,Vc.mpr ⟨c,v,y⟩⟩
theorem Z2:∀{l:List Run3}{a b:Nat},Side l a b->a+l.length<=b/\∀q∈l,a<=q.1/\q.1+q.2.1<=b
 | [],a,b,h=>⟨by cases h;simp,fun q u=>nomatch u⟩
 | p::l,a,b,⟨h1,h2,h3⟩=>by
  obtain⟨x,v⟩:=Z2 h3;refine⟨by simp only[aN];lia,fun q u=>?_⟩
  rcases ax.mp u with rfl|m
  ·lia
  ·have:=v q m;lia
theorem zjg{f:Run3->Run3}(hf:∀q,(f q).1=q.1/\(f q).2.1=q.2.1):∀{l:List Run3}{i a b:Nat},Side l a b->Side (l.modify i f) a b/\∀v∈l.modify i f,∃q∈l,v.1=q.1/\v.2.1=q.2.1
 | [],i,a,b,h=>by simp only[List.modify_nil];exact⟨h,fun q u=>nomatch u⟩
 | p::l,0,a,b,⟨h1,h2,h3⟩=>by
  rw[List.modify_zero_cons];refine⟨⟨(hf p).1.trans h1,(hf p).2▸h2,(hf p).2▸h3⟩,fun q u=>?_⟩
  rcases ax.mp u with rfl|m
  ·exact⟨p,cC,hf p⟩
  ·exact⟨q,b5 _ m,rfl,rfl⟩
 | p::l,i+1,a,b,⟨h1,h2,h3⟩=>by
  rw[List.modify_succ_cons];obtain⟨y,x⟩:=zjg hf (i:=i) h3;refine⟨⟨h1,h2,y⟩,fun q u=>?_⟩
  rcases ax.mp u with rfl|m
  ·exact⟨q,cC,rfl,rfl⟩
  ·obtain⟨v,C,e⟩:=x q m;exact⟨v,b5 _ C,e⟩
theorem zg2{α:Type}{x y v:α}:∀(l r:List α),((l++x::y::r).set l.length v).eraseIdx (l.length+1)=l++v::r
 | [],r=>rfl
 | a::l,r=>by
  have:=zg2 (x:=x) (y:=y) (v:=v) l r;simp only[cQ,aN,eQ,List.eraseIdx_cons_succ,this]
structure Rn(rk:ah->Int)(kd:eP)(a0:Array bM)(lo:Nat)(z:bO):Prop where
 pm:(arrOf z).Perm a0
 kn:kindOf z=kd
 fl:failedOf z=none
 sd:Side (pendingOf z).toList 0 lo
 ls:lo<=a0.size
 up:∀q∈(pendingOf z).toList,UpL rk (arrOf z) q.1 q.2.1
theorem UpL.same{rk:ah->Int}{xs ys:Array bM}{lo m:Nat}(u:UpL rk xs lo m)(e:∀j,lo<=j->j<lo+m->rkAt rk ys j=rkAt rk xs j):UpL rk ys lo m:=fun i j l v=>by
 rw[e (lo+i) (by lia) (by lia),e (lo+j) (by lia) (by lia)]
 exact u i j l v
section
variable{prog:aL}{w:aT}{A:br}{E:qV}{s:aq}{kd:eP}{rk:ah->Int}{a0:Array bM}{z0:bO}{lo:Nat}
theorem zo9{i:Nat}{z:bO}{Q:Bool->bO->Prop}(c:Cmp prog w A s kd rk a0)(R:Rn rk kd a0 lo z)(hi:i+1<(pendingOf z).size)
  (h:∀y,Rn rk kd a0 lo y->(pendingOf y).size+1=(pendingOf z).size->(∀j,lo<=j->rkAt rk (arrOf y) j=rkAt rk (arrOf z) j)->Q true y):wpS (model prog w) A E s (mergeAt' i) Q z:=by
 obtain⟨l,x,y,r,v,Y⟩:∃l x y r,(pendingOf z).toList=l++x::y::r/\l.length=i:=by
  have h1:i<(pendingOf z).toList.length:=by simp;lia
  have h2:i+1<(pendingOf z).toList.length:=by simp;lia
  refine⟨(pendingOf z).toList.take i,(pendingOf z).toList[i],(pendingOf z).toList[i+1],(pendingOf z).toList.drop (i+2),?_,by simp;lia⟩
  rw[<- bR h2,<- bR h1,fT]
 obtain⟨sa,na,pw⟩:=x;obtain⟨sb,nb,pw2⟩:=y;have sd:=R.sd;rw[v]at sd;obtain⟨a,s1,I,S,J,N,G⟩:=Vc.mp sd;dsimp only at I S J N G;subst I;subst J;have up:=R.up;rw[v]at up;obtain⟨t1,t2⟩:=Z2 G;have t3:=Z2 s1;have ls:=R.ls;refine zkl (sa:=sa) (na:=na) (nb:=nb) (pw:=pw) (pw2:=pw2) c R.kn R.fl R.pm ?_ ?_ S N (by lia) (up (sa,na,pw) (by simp)) (up (sa+na,nb,pw2) (by simp)) fun C Z fy py pe u out=>?_
 ·rw[<- cK,v,bw (by lia),show i - l.length=0 by lia];rfl
 ·rw[<- cK,v,bw (by lia),show i+1 - l.length=1 by lia];rfl
 ·have pl:(pendingOf C).toList=l++(sa,na+nb,pw)::r:=by
   rw[pe];subst Y;rw[Array.toList_eraseIdxIfInBounds,Array.toList_setIfInBounds,v];exact zg2 l r
  refine h C ⟨py,Z,fy,?_,R.ls,?_⟩ ?_ fun j hj=>out j (.inr (by lia))
  ·rw[pl];refine Vc.mpr ⟨sa,s1,rfl,by show 0<na+nb;lia,?_⟩
   show Side r (sa+(na+nb)) lo
   rw[<- mK];exact G
  ·rw[pl];intro q hq;rcases av.mp hq with m|m
   ·exact(up q (by simp[m])).same fun j j1 U=>out j (.inl (by have:=t3.2 q m;lia))
   ·rcases ax.mp m with rfl|m
    ·exact u
    ·exact(up q (by simp[m])).same fun j j1 U=>out j (.inr (by have:=t2 q m;lia))
  ·have e1:(pendingOf C).size=(pendingOf C).toList.length:=by simp
   have e2:(pendingOf z).size=(pendingOf z).toList.length:=by simp
   rw[e1,e2,pl,v];simp;lia
theorem znG{z:bO}{Q:Unit->bO->Prop}(c:Cmp prog w A s kd rk a0)(b:Sb kd a0 z)(s2:2<=a0.size)
  (h:∀y,(arrOf y).Perm a0->failedOf y=none->Up rk (arrOf y) a0.size->Q () y):wpS (model prog w) A E s sortRuns' Q z:=by
 rw[sortRuns'_eq];refine aA (iz ?_);rw[b.sz];dsimp only;generalize minRun' a0.size a0.size 0=mr;refine aA (dS (cf (Q:=fun c y=>∃lo,c=(none,lo)/\Rn rk kd a0 lo y/\a0.size<=lo)
  (I:=fun x c y=>∃lo,c=(none,lo)/\Rn rk kd a0 lo y/\x<=lo) ?turn ?last ⟨0,rfl,⟨b.pm,b.kn,b.fl,by rw[b.pe];rfl,by lia,by rw[b.pe];intro q U;simp at U⟩,by lia⟩) ?post)
 case last =>
  rintro _ y ⟨lo,rfl,R,hx⟩;exact⟨lo,rfl,R,by lia⟩
 case turn =>
  rintro x _ y _ hx ⟨lo,rfl,R,hl⟩;dsimp only
  by_cases ge:lo>=a0.size
  ·rw[if_pos ge];exact aG ⟨lo,rfl,R,ge⟩
  rw[if_neg ge];have rest:∀(n:Nat) (G:bO),1<=n->lo+n<=a0.size->Sl rk kd a0 y lo G->UpL rk (arrOf G) lo n->Rn rk kd a0 lo G:=fun n G N J S u=>by
   refine⟨S.pm,S.kn,S.fl,S.pe▸R.sd,R.ls,?_⟩;rw[S.pe];intro q U;exact(R.up q U).same fun j j1 j2=>S.lw j (by have:=(Z2 R.sd).2 q U;lia)
  have push:∀(n:Nat) (G:bO),1<=n->lo+n<=a0.size->Rn rk kd a0 lo G->UpL rk (arrOf G) lo n->Rn rk kd a0 (lo+n) (setPending G ((pendingOf G).push (lo,n,0))):=fun n G N J S u=>by
   have e:(pendingOf (setPending G ((pendingOf G).push (lo,n,0)))).toList=(pendingOf G).toList++[(lo,n,0)]:=by
    show((pendingOf G).push (lo,n,0)).toList=_
    simp
   refine⟨S.pm,S.kn,S.fl,?_,J,?_⟩
   ·rw[e];exact Vc.mpr ⟨lo,S.sd,rfl,N,rfl⟩
   ·rw[e];intro q U;rcases av.mp U with m|m
    ·exact S.up q m
    ·cases aB.mp m;exact u
  refine aA (zpC (z0:=y) (lo:=lo) c (by lia) (by lia) ⟨R.pm,R.kn,R.fl,rfl,fun _ _=>rfl⟩ fun k G S1 k1 k2 u1=>?_)
  dsimp only
  by_cases g:k<mr
  rw[if_pos g];refine aA (kR (dw ⟨rfl,aA (zri c (n:=min (a0.size - lo) mr) (by lia) (by lia) S1 u1 fun y2 S2 Y=>?_)⟩))
  simp only[dh,aI,if_false];have N:1<=min (a0.size - lo) mr:=by lia
  have J:lo+min (a0.size - lo) mr<=a0.size:=by lia
  generalize min (a0.size - lo) mr=n at Y N J ⊢
  rotate_left 1
  rw[if_neg g];have N:1<=k:=k1;have J:lo+k<=a0.size:=by lia
  have S2:=S1;have Y:=u1;revert S1 u1 S2 Y;generalize G=y2;generalize k=n at N J ⊢;intro _ _ S2 Y
  all_goals
   have R2:=rest n y2 N J S2 Y;refine aA (iz ?_);cases hb:(pendingOf y2).back? with
   | none =>
    dsimp only;exact aA (ik (aG ⟨_,rfl,push n y2 N J R2 Y,by lia⟩))
   | some q =>
    obtain⟨q1,q2,q3⟩:=q;dsimp only;generalize power' a0.size (2*q1+q2) (2*q1+q2+q2+n) a0.size=pw;refine aA (dS (cf (I:=fun _ c v=>c=(none,())/\Rn rk kd a0 lo v/\UpL rk (arrOf v) lo n) (Q:=fun c v=>c=(none,())/\Rn rk kd a0 lo v/\UpL rk (arrOf v) lo n) ?_ (fun _ _ I=>I) ⟨rfl,R2,Y⟩) ?_)
    ·rintro x' _ v _ _ ⟨rfl,C,Z⟩;refine aA (iz ?_)
     by_cases big:(pendingOf v).size > 1
     ·rw[if_pos big,bS (by lia)]
      generalize (pendingOf v)[(pendingOf v).size - 2]'(by lia)=o
      obtain⟨o1,o2,o3⟩:=o;dsimp only
      by_cases po:o3<=pw
      ·rw[if_pos po];exact aG ⟨rfl,C,Z⟩
      ·rw[if_neg po];refine aA (zo9 c C (by lia) fun y' R' _ out=>?_)
       simp only[dh,aI,if_false];exact aG ⟨rfl,R',Z.same fun j j1 _=>out j j1⟩
     ·rw[if_neg big];exact aG ⟨rfl,C,Z⟩
    ·rintro _ v ⟨rfl,C,Z⟩;dsimp only;have m:=zjg (f:=fun x=>(x.1,x.2.1,pw)) (fun q=>⟨rfl,rfl⟩) (i:=(pendingOf v).size - 1) C.sd
     refine aA (ik (aA (ik (aG ⟨_,rfl,push n _ N J ⟨C.pm,C.kn,C.fl,?_,C.ls,?_⟩ Z,by lia⟩))))
     ·show Side ((pendingOf v).modify _ _).toList 0 lo
      rw[mD];exact m.1
     ·show ∀q∈((pendingOf v).modify _ _).toList,UpL rk (arrOf v) q.1 q.2.1
      rw[mD];intro q U;obtain⟨q',m',e1,e2⟩:=m.2 q U;rw[e1,e2];exact C.up q' m'
 case post =>
  rintro _ y ⟨lo,rfl,R,hl⟩;have el:lo=a0.size:=by have:=R.ls;lia
  subst el;dsimp only;have p0:=(Z2 R.sd).1;have ps:(pendingOf y).toList.length=(pendingOf y).size:=by simp
  refine aA (dS (cf (I:=fun x c v=>c=(none,())/\Rn rk kd a0 a0.size v/\((pendingOf v).size<=1\/(pendingOf v).size+x<=a0.size)) (Q:=fun c v=>c=(none,())/\Rn rk kd a0 a0.size v/\(pendingOf v).size<=1) ?_ ?_ ⟨rfl,R,.inr (by lia)⟩) ?_)
  ·rintro x _ v _ hx ⟨rfl,C,sz⟩;refine aA (iz ?_)
   by_cases le:(pendingOf v).size<=1
   ·rw[if_pos le];exact aG ⟨rfl,C,le⟩
   rw[if_neg le];refine aA (zo9 c C ?_ fun y' R' e _=>?_)
   ·have ile:∀(p:Prop) [Decidable p] (a b n:Nat),a<=n->b<=n->(if p then a else b)<=n:=by intros;split <;> assumption
    exact Nat.lt_of_le_of_lt (Nat.add_le_add_right (ile _ _ _ ((pendingOf v).size - 2) (by lia) (aC _)) 1) (by lia)
   ·simp only[dh,aI,if_false];exact aG ⟨rfl,R',.inr (by lia)⟩
  ·rintro _ v ⟨rfl,C,sz⟩;exact⟨rfl,C,by lia⟩
  ·rintro _ v ⟨rfl,C,sz⟩;refine aG (h v C.pm C.fl ?_);have sd:=C.sd;have up:=C.up;have ps:(pendingOf v).toList.length=(pendingOf v).size:=by simp
   generalize (pendingOf v).toList=L at sd up ps
   match L,sd,up,ps with
   | [],sd,_,_ =>
    have:(0:Nat)=a0.size:=sd;lia
   | [q],sd,up,_ =>
    obtain⟨e1,_,e2⟩:=sd;have e2:0+q.2.1=a0.size:=e2;have u:=up q (by simp)
    intro i j h1 h2;have:=u i j h1 (by lia)
    rw[e1]at this;simpa using this
   | _::_::_,_,_,ps=>simp at ps;lia
end
theorem znF{prog:aL}{w:aT}{A:br}{E:qV}{s:aq}{u:eP}{rk:ah->Int}{l:Array bM}{z:bO}{Q:Unit->bO->Prop}(c:Cmp prog w A s u rk l)(b:Sb u l z)(s2:2<=l.size)(_:l.size<100000)
  (h:∀y,(arrOf y).Perm l->failedOf y=none->Up rk (arrOf y) l.size->Q () y):wpS (model prog w) A E s sortRuns' Q z:=znG c b s2 h
def midH(h:aW)(a:ak)(l:List ah):aW:=((h.update a (e8 fun _=>#[])).push (seqObj "tuple" l.toArray 0)).push (seqObj "list" #[] 0)
section
variable{prog:aL}{w:aT}{A:br}{E:qV}{s:aq}{rk:ah->Int}
def Kinds(prog:aL)(w:aT)(A:br)(s:aq)(rk:ah->Int)(l:List ah):Prop:=2<=l.length->∃u,(∀(E:qV) (Q:eP->aq->Prop),Q u s->wpAny (model prog w) A (keyKind' l.toArray) Q E s)/\Cmp prog w A s u rk (pairsOf l)
theorem zjs{a:ak}{l:List ah}{n:Nat}{P:Fin->aq->Prop}(u:s.heap.get? a=some (seqObj "list" l.toArray n)) (C:l.length<100000) (N:Kinds prog w A { s with heap:=midH s.heap a l } rk l)
  (h:∀y:bO,(arrOf y).Perm (pairsOf l)->Up rk (arrOf y) l.length->P (.done (.ret .none)) { s with heap:=sortedHeap s.heap a l ((arrOf y).map (·.2)) }) :
  wpAny (model prog w) A (gp.«list.sort» ⟨[.ref a],[]⟩) P E s:=by
 rw[list_sort_plain];have L:a<s.heap.objs.size:=aD u;refine ae (gr u rfl (ae (mL u rfl ?_)));obtain⟨v,J⟩:∃v,(s.heap.update a (e8 fun _=>#[])).get? a=some (seqObj "list" #[] v):=⟨_,oO u (fun _=>#[])⟩
 refine ae (seqEpoch_at J rfl (ae (pN (ae (iB (cg ?_))))));have I:(midH s.heap a l).get? a=some (seqObj "list" #[] v):=by
  unfold midH;rw[cz _ _ _ (by rw[eF,cH];exact aJ (aE L (kB _))),cz _ _ _ (by rw[cH];exact aJ L)]
  exact J
 show wpAny (model prog w) A _ P E { s with heap:=midH s.heap a l }
 have z:l.toArray.size=l.length:=by simp
 have tail:∀(y:bO),(arrOf y).Perm (pairsOf l)->failedOf y=none->Up rk (arrOf y) l.length->wpAny (model prog w) A (do
   let touched:=(<- seqEpoch a) != v
   sV (.ref a) fun _=>(arrOf y).map (·.2)
   if let some e:=failedOf y then rule "list.sort.comparison-raised";throw e
   if touched then rule "list.sort.modified";raiseError "ValueError" "list modified during sort"
   ret .none) P E { s with heap:=midH s.heap a l }:=fun y pm fl up=>by
  refine ae (seqEpoch_at I rfl (ae (mL I rfl ?_ (hsz2:=?_))))
  ·rw[fl];simp only[bne_self_eq_false,aI,if_false];exact aj (h y pm up)
  ·rw[Array.size_map,pm.size_eq,lA];show l.length<=sizeLine+1
   have:100000<=sizeLine:=by decide
   omega
 by_cases two:l.length<2
 ·simp only[z,two,if_true];refine ae (aj ?_);rw[StateT.run_pure];refine ae (aj ?_);exact tail (w5 general' (l.toArray.zip l.toArray) #[] 7 none) (oP _) rfl fun i j U S=>absurd S (by omega)
 ·simp only[z,two,if_false];obtain⟨R,k1,k2⟩:=N (by omega)
  refine ae (k1 _ _ ?_);refine ae (c8 (znF (Q:=fun _ y=>(arrOf y).Perm (pairsOf l)/\failedOf y=none/\Up rk (arrOf y) l.length) (z:=w5 R (l.toArray.zip l.toArray) #[] 7 none) k2 ⟨oP _,rfl,rfl,rfl⟩ (by rw[lA];omega) (by rw[lA];exact C)
   fun y G p2 x=>⟨G,p2,by rwa [lA]at x⟩) ?_ fun _ _ e=>e)
  rintro⟨⟨⟩,y⟩ s' ⟨rfl,G,p2,x⟩;exact tail y G p2 x
theorem zeX{l:ak}{v:List ah}{o:Obj}{T:String}{n:Nat}{Q:List ah->aq->Prop}(I:s.heap.get? l=some o)(hc:o.cls=.type T)(J:T = "list" \/ T = "tuple") (hd:o.data=.seq v.toArray n) (R:v.length<=sizeLine)
  (h:Q v { s with heap:=(s.heap.push (seqObj "list" #[] 0)).update s.heap.objs.size (e8 (·++v.toArray)) }):wpAny (model prog w) A (collect (.ref l)) Q E s:=by
 unfold collect;refine ae (wpAny_runValue (lJ entry_proto_collect' ?_));show wpAny (model prog w) _ (newList [] >>= fun x=>again (.builtin "list.__iadd__" ⟨[x,.ref l],[]⟩)) _ _ s
 refine ae (iB (aj ⟨mV _ (by decide +kernel),lJ entry_list_iadd' ?_⟩))
 show wpAny (model prog w) _ (iN (.ref s.heap.objs.size) (.ref l) (.ref s.heap.objs.size)) _ _ { s with heap:=s.heap.push (seqObj "list" #[] 0) }
 unfold iN;have C:(s.heap.push (seqObj "list" #[] 0)).get? l=some o:=au _ I;refine ae (gq (T:=T) ⟨o,C,hc⟩ ?_);have cond:∀b:Bool,(b||bL T == bL "list" ||bL T == bL "tuple")=true:=by
  intro b;have G:(bL "list" == bL "list")=true:=rfl;have N:(bL "tuple" == bL "tuple")=true:=rfl;rcases J with rfl|rfl
  ·rw[G];simp
  ·rw[N];simp
 rw[if_pos (cond _)];refine ae (gr C hd (ae (gr (xs:=#[]) (n:=0) (aH _ rfl) rfl ?_)));rw[if_neg (by simp)]
 refine ae (mL (xs:=#[]) (n:=0) (aH _ rfl) rfl (aj ?_) (dR _) (by simp only[Array.size_append,aF,cE];omega))
 refine ae (m:=load s.heap.objs.size) (wpAny_load (oO (aH _ rfl) _) ?_);show wpAny (model prog w) A (pure ((#[]:Array ah)++v.toArray).toList) Q E _
 have e:((#[]:Array ah)++v.toArray).toList=v:=by simp
 rw[e];exact aj h
def preH(h:aW)(l:List ah):aW:=((h.push (seqObj "list" #[] 0)).update h.objs.size (e8 (·++l.toArray))).push (seqObj "list" l.toArray 0)
theorem zj5{l:ak}{v:List ah}{o:Obj}{T:String}{n:Nat}{Q:qV}(I:s.heap.get? l=some o)(hc:o.cls=.type T)(J:T = "list" \/ T = "tuple") (hd:o.data=.seq v.toArray n) (x:v.length<100000)
  (G:∀L,Kinds prog w L { s with heap:=midH (preH s.heap v) (s.heap.objs.size+1) v } rk v)
  (h:∀y:bO,(arrOf y).Perm (pairsOf v)->Up rk (arrOf y) v.length->Q (.ref (s.heap.objs.size+1)) { s with heap:=sortedAll s.heap v ((arrOf y).map (·.2)) }) :
  wpAny (model prog w) A (call (.builtin "sorted") [.ref l]) Q E s:=by
 refine kh kind_sorted plain_sorted entry_sorted (args_sorted1 _) ?_;unfold gp.«sorted»;refine ae (m:=checkCount "sorted" 1 1 _) (aj ?_);refine ae (zeX I hc J hd (by have:100000<=sizeLine:=(by decide);omega) (ae (iB ?_)))
 have z:((s.heap.push (seqObj "list" #[] 0)).update s.heap.objs.size (e8 (·++v.toArray))).objs.size=s.heap.objs.size+1:=by rw[cH,eF]
 have C:(preH s.heap v).get? (s.heap.objs.size+1)=some (seqObj "list" v.toArray 0):=by
  unfold preH;rw[<- z];exact aH _ rfl
 show wpAny (model prog w) _ _ _ _ { s with heap:=preH s.heap v }
 rw[z];refine ae (cg (eJ pO ⟨_,C,rfl⟩ oQ (zjs C x (G _) fun y N p2=>⟨_,rfl,?_⟩) (pP _)))
 exact aj ⟨_,rfl,h y N p2⟩
end
section
variable{prog:aL}{w:aT}{A:br}{E:qV}{s:aq}
theorem zma(b:Bool)(x y:ah):keyLt' (tuples' b) x y=(do
  let xs <- g9 x
  let ys <- g9 y
  for ((p,q),i) in (xs.toList.zip ys.toList).zipIdx do
   if !(<- eqBool p q) then return <- oneLt' (b&&i == 0) p q
  return decide (xs.size<ys.size)):=rfl
def LtAt(prog:aL)(w:aT)(A:br)(s:aq)(one:Bool)(p q:ah)(l:Bool):Prop:=∀(E:qV) (Q:Bool->aq->Prop),Q l s->wpAny (model prog w) A (oneLt' one p q) Q E s
theorem zhz{b:Bool}{x y:ak}{R U:Obj}{u C v l:ah}{n m:Nat}{J G S N:Bool}{Q:Bool->aq->Prop}(hx:s.heap.get? x=some R)(dx:R.data=.seq #[u,C] n)(Y:s.heap.get? y=some U)(Z:U.data=.seq #[v,l] m)
  (e0:mQ A s u v J) (e1:mQ A s C l G) (t0:J=false->LtAt prog w A s b u v S) (t1:G=false->LtAt prog w A s false C l N) (h:Q (if J=true then(if G=true then false else N) else S) s) :
  wpAny (model prog w) A (keyLt' (tuples' b) (.ref x) (.ref y)) Q E s:=by
 rw[zma];refine ae (gr hx dx (ae (gr Y Z ?_)));have ez:((#[u,C]:Array ah).toList.zip (#[v,l]:Array ah).toList).zipIdx=[((u,v),0),((C,l),1)]:=rfl;simp only[ez,iE,mf];refine ae (ae ?_);refine ae (e0 prog w E _ ?_);cases J with
 | false =>
  simp only[ft,if_true];have z0:(b&&(0:Nat) == 0)=b:=by simp
  rw[z0];refine ae (t0 rfl E _ ?_);exact aj (aj (aj (by simpa using h)))
 | true =>
  simp only[dh,aI,if_false];refine aj (ae (ae (e1 prog w E _ ?_)));cases G with
  | false =>
   simp only[ft,if_true];have z1:(b&&(1:Nat) == 0)=false:=by simp
   rw[z1];refine ae (t1 rfl E _ ?_);exact aj (aj (aj (by simpa using h)))
  | true =>
   simp only[dh,aI,if_false];exact aj (aj (aj (by simpa using h)))
theorem zlZ(a b:Int)(t u:Tok):LtAt prog w A s true (.int a t) (.int b u) (decide (a<b)):=fun _ _ q=>oneLt_int q
theorem zn5(a b:Int)(t u:Tok):LtAt prog w A s false (.int a t) (.int b u) (decide (a<b)):=fun E Q q=>by
 rw[sW];simp only[aI,if_false];refine ae (show wpAny (model prog w) A (compareOp .Lt (.int a t) (.int b u)) _ E s from lt_int ?_)
 exact bV q
def PrIn(h:aW)(u:ah)(b k:Int):Prop:=∃(a:ak) (o:Obj) (t t':Tok) (n:Nat),u=.ref a/\h.get? a=some o/\o.cls=.type "tuple" /\ o.data=.seq #[.int b t,.int k t'] n
def two?:List ah->Int
 | [.int b _,.int k _]=>b*1000+k
 | _=>0
def rkC(h:aW)(u:ah):Int:=match u with
 | .ref a=>match h.get? a with
  | some o=>match o.data with
   | .seq xs _=>two? xs.toList
   | _=>0
  | none=>0
 | _=>0
theorem PrIn.rk{h:aW}{u:ah}{b k:Int}(p:PrIn h u b k):rkC h u=b*1000+k:=by
 obtain⟨a,o,t,t',n,rfl,l,_,v⟩:=p;simp only[rkC,l,v,two?]
theorem PrIn.kept{h h':aW}{u:ah}{b k:Int}(p:PrIn h u b k)(kp:∀b o,h.get? b=some o->h'.get? b=some o):PrIn h' u b k:=by
 obtain⟨a,o,t,t',n,l,x,y,v⟩:=p;exact⟨a,o,t,t',n,l,kp _ _ x,y,v⟩
theorem Vg{α u:Type}{f:α->Sem u}{P:α->u->Prop}{M:m4}:∀(l:List α) {Q:List u->aq->Prop},(∀v∈l,∀(C:u->aq->Prop),(∀r,P v r->C r s)->wpAny M A (f v) C E s)->(∀rs,eN P l rs->Q rs s)->wpAny M A (l.mapM f) Q E s
 | [],_,_,h=>by rw[List.mapM_nil];exact aj (h _ .nil)
 | x::l,Q,hf,h=>by
  rw[List.mapM_cons];exact ae (hf x (.head _) _ fun r I=>ae (Vg l (fun v G=>hf v (.tail _ G)) fun rs y=>aj (h _ (.cons I y))))
theorem zjF(v:ah):firstOfTuple' v=(do
  if (<- typeOf v) != .type "tuple" then return none
  return (<- g9 v)[0]?):=rfl
theorem zkC{N:List ah}{Q:eP->aq->Prop}(U:1<=N.length)(R:∀v∈N,∃b k,PrIn s.heap v b k)(h:Q (tuples' true) s):wpAny (model prog w) A (keyKind' N.toArray) Q E s:=by
 rw[keyKind'_eq,hG,map_eq_pure_bind];refine ae (ae (Vg (P:=fun _ r=>∃(b:Int) (t:Tok),r=some (.int b t)) N (fun v hv Q' hq=>?_) fun rs J=>aj ?_))
 ·obtain⟨b,k,a,o,t,t',n,rfl,S,e2,e3⟩:=R v hv;rw[zjF];refine ae (gq (T:="tuple") ⟨o,S,e2⟩ ?_);rw[if_neg (by decide)]
  exact ae (gr S e3 (aj (hq _ ⟨b,t,rfl⟩)))
 ·have al:∀r∈rs,∃(b:Int) (t:Tok),r=some (.int b t):=by
   clear h R U;induction J with
   | nil=>intro r u;cases u
   | cons x y G =>
    intro r u;rcases ax.mp u with rfl|u
    ·exact x
    ·exact G r u
  have ln:rs.length=N.length:=by
   clear h R U al;induction J with
   | nil=>rfl
   | cons x y G=>simp[G]
  have IY:(rs.toArray.all fun x=>x.isSome)=true:=by
   simp only[ip,bG];intro x hx;obtain⟨b,t,rfl⟩:=al x hx
   rfl
  rw[if_pos IY];refine ae (dw ?_);rw[oR];have L:rs.toArray.filterMap id=(rs.filterMap id).toArray:=by simp
  rw[L,hG,map_eq_pure_bind];refine ae (ae (ae (Vg (P:=fun _ r=>r=bL "int") _ (fun v hv Q' hq=>?_) fun ts C=>aj ?_)))
  ·obtain⟨x,hx,e⟩:=fE.mp hv;obtain⟨b,t,rfl⟩:=al x hx;cases e;exact aj (hq _ rfl)
  ·have I:∀r∈ts,r=bL "int":=by
    clear h R U;generalize rs.filterMap id=l at C;induction C with
    | nil=>intro r u;cases u
    | cons x y G =>
     intro r u;rcases ax.mp u with rfl|u
     ·exact x
     ·exact G r u
   have ln2:ts.length=rs.length:=by
    have:ts.length=(rs.filterMap id).length:=by
     clear h R U I;generalize rs.filterMap id=l at C;induction C with
     | nil=>rfl
     | cons x y G=>simp[G]
    rw[this];clear this C L IY;clear ln J;induction rs with
    | nil=>rfl
    | cons x l G =>
     obtain⟨b,t,rfl⟩:=al x (.head _);simp only[dF,id,aN];rw[G fun r u=>al r (.tail _ u)]
   obtain⟨Y,Z,rfl⟩:∃Y Z,ts=Y::Z:=by
    cases ts with
    | nil=>simp at ln2;omega
    | cons a b=>exact⟨a,b,rfl⟩
   have S:Y=bL "int":=I Y (.head _);subst S;have Kb:(((bL "int")::Z).toArray.all fun x=>x == bL "int")=true:=by
    simp only[ip,bG];intro x hx;rw[I x hx];rfl
   have h0:((bL "int")::Z).toArray[0]?=some (bL "int"):=by simp
   rw[h0];simp only[Kb,if_true];refine aj (aj ?_);exact h
theorem ziL{l:List ah}{h0:aW}(C:∀v∈l,∃b k,PrIn s.heap v b k/\rkC h0 v=b*1000+k/\0<=k/\k<1000):Kinds prog w A s (rkC h0) l:=fun h2=>by
 refine⟨tuples' true,fun E Q q=>zkC (by omega) (fun v N=>?_) q,fun p q E Q mp S h=>?_⟩
 ·obtain⟨b,k,h,_⟩:=C v N;exact⟨b,k,h⟩
 ·have mem:∀z∈(pairsOf l).toList,z.1∈l:=fun z Z=>by
   have:z∈l.zip l:=by simpa[pairsOf] using Z
   exact(eE this).1
  obtain⟨b,k,⟨a,o,t,t',n,e0,U,e2,I⟩,Y,k0,k1⟩:=C _ (mem p mp);obtain⟨x,y,⟨a',o',u,G,n',f0,f1,f2,R⟩,r2,k0',J⟩:=C _ (mem q S);rw[Y,r2]at h;rw[e0,f0];refine zhz U I f1 R (iY b t x u) (iY k t' y G) (fun _=>zlZ b x t u) (fun _=>zn5 k y t' G) ?_
  have:(if (b == x)=true then(if (k == y)=true then false else decide (k<y)) else decide (b<x))=decide (b*1000+k<x*1000+y):=by
   simp only[beq_iff_eq];split
   ·split
    ·symm;rw[decide_eq_false_iff_not];omega
    ·rw[decide_eq_decide];omega
   ·rw[decide_eq_decide];omega
  rw[this];exact h
end
theorem V3{α v:Type}{l:List (α×v)}{m:List v}(h:m.Perm (l.map (·.2))):∃u:List (α×v),u.Perm l/\u.map (·.2)=m:=by
 induction m generalizing l with
 | nil =>
  have:l.map (·.2)=[]:=h.symm.eq_nil;cases l with
  | nil=>exact⟨[],.refl _,rfl⟩
  | cons a b=>simp at this
 | cons x m C =>
  have hx:x∈l.map (·.2):=h.mem_iff.mp (.head _);obtain⟨z,I,rfl⟩:=aZ.mp hx;obtain⟨y,l2,rfl⟩:=List.append_of_mem I;have G:(z.2::m).Perm (z.2::(y++l2).map (·.2)):=by
   refine h.trans ?_;simp only[fN,cj];exact oa
  obtain⟨u,p,e⟩:=C (List.perm_cons _|>.mp G)
  exact⟨z::u,(p.cons z).trans oa.symm,by simp[e]⟩
theorem zki{h:aW}{v:List ah}{b:ak}{o:Obj}(u:h.get? b=some o):(midH (preH h v) (h.objs.size+1) v).get? b=some o:=by
 have l:b<h.objs.size:=aD u;unfold midH preH;rw[cz _ _ _ (by rw[eF,cH,eF,cH,eF];exact aJ (aE l (by lia))),cz _ _ _ (by rw[cH,eF,cH,eF];exact aJ (aE l (by lia))),
  gC _ _ _ _ (by exact aJ (aE l (by lia))),cz _ _ _ (by rw[cH,eF];exact aJ (aE l (by lia))),gC _ _ _ _ (by exact aJ (aE l (by lia))),cz _ _ _ (by exact aJ (aE l (by lia)))]
 exact u
def rkD:af->Int
 | .tuple [.int b,.int k]=>b*1000+k
 | _=>0
def PrV(K:qF)(H:Hp)(z:V×af):Prop:=∃q b k,z.1=.ref q/\z.2=.tuple [.int b,.int k]/\SqT K H q [.int b,.int k]/\0<=k/\k<1000
section
variable{X:Cx}
theorem zh7:JX X (.builtin "sorted") (fun xs H Q=>∃(p:ak) (zs:List (V×af)),xs=[.ref p]/\(SqL X.K H p (zs.map (·.1))\/SqT X.K H p (zs.map (·.1)))/\zs.length<100000/\(∀z∈zs,PrV X.K H z) /\
  ∀R:List (V×af),R.Perm zs->R.Pairwise (fun a b=>rkD a.2<=rkD b.2)->∀l,H l=none->Q (.ref l) (upd H l (.lst (R.map (·.1))))):=by
 intro pins s σ H xs us Q I r h;obtain⟨p,zs,rfl,S,h64,hp,q⟩:=h;obtain⟨u,rfl,rx⟩:=vals1 r;cases rx;have key:∀(C:List ah) (o:Obj) (T:String) (n:Nat),Vals (zs.map (·.1)) C->s.heap.get? p=some o->o.cls=.type T->(T = "list" \/ T = "tuple")->o.data=.seq C.toArray n -> 
   wpAny (model X.prog X.w) X.A (call (.builtin "sorted") [.ref p]) (EP X pins σ Q) X.xe s:=fun C o T n rv Z hc hT hd=>by
  have hlen:zs.length=C.length:=by simpa using rv.length
  have each:∀x∈zs.zip C,RelV x.1.1 x.2/\∃b k,PrIn s.heap x.2 b k/\x.1.2=.tuple [.int b,.int k]/\0<=k/\k<1000:=by
   have rel:∀(zs:List (V×af)) (C:List ah),Vals (zs.map (·.1)) C->∀x∈zs.zip C,RelV x.1.1 x.2:=by
    intro zs;induction zs with
    | nil=>intro C _ x hx;simp at hx
    | cons z zs ih =>
     intro C r x hx;cases r with
     | cons U r2 =>
      rcases ax.mp (by simpa using hx) with rfl|hx
      ·exact U
      ·exact ih _ r2 x hx
   intro x hx;have U:=rel zs C rv x hx;obtain⟨q',b,k,e1,e2,e3,k0,k1⟩:=hp x.1 (eE hx).1;refine⟨U,b,k,?_,e2,k0,k1⟩;rw[e1]at U;obtain⟨is,rs,⟨o',f1,f2,n',f3⟩,_⟩:=I.tuple e3;cases rs with
   | cons a1 a2 =>
    cases a2 with
    | cons a3 a4 =>
     cases a4;obtain⟨t,rfl⟩:=a1;obtain⟨t',rfl⟩:=a3;exact⟨q',o',t,t',n',U,f1,f2,f3⟩
  refine zj5 (rk:=rkC s.heap) Z hc hT hd (by lia) (fun A'=>ziL fun v hv=>?_) fun y pm up=>?_
  ·obtain⟨i,hi,rfl⟩:=bg hv;have hz:i<zs.length:=by lia
   have mem:(zs[i],C[i])∈zs.zip C:=by
    have:(zs.zip C)[i]'(by simp;lia)=(zs[i],C[i]):=by simp
    rw[<- this];exact dM _
   obtain⟨_,b,k,h1,_,k0,k1⟩:=each _ mem;exact⟨b,k,h1.kept fun _ _ e=>zki e,h1.rk,k0,k1⟩
  ·have J:(arrOf y).toList.Perm (C.zip C):=by
    have:=cN.mp pm;simpa[pairsOf] using this
   have pm1:((arrOf y).toList.map (·.2)).Perm ((zs.zip C).map (·.2)):=by
    refine(J.map _).trans ?_;rw[eK (by lia),eK (by lia)]
   obtain⟨G,p1,p2⟩:=V3 pm1;have IF:∀x∈G,RelV x.1.1 x.2/\∃b k,PrIn s.heap x.2 b k/\x.1.2=.tuple [.int b,.int k]/\0<=k/\k<1000:=fun x hx=>each x (p1.mem_iff.mp hx)
   have pz:(G.map (·.1)).Perm zs:=by
    have:=p1.map (·.1)
    rwa [iq (by lia)]at this
   have rw':Vals ((G.map (·.1)).map (·.1)) (G.map (·.2)):=by
    have:∀G:List ((V×af)×ah),(∀x∈G,RelV x.1.1 x.2)->Vals ((G.map (·.1)).map (·.1)) (G.map (·.2)):=by
     intro G;induction G with
     | nil=>intro _;exact .nil
     | cons a l ih=>intro h;exact .cons (h a (.head _)) (ih fun x hx=>h x (.tail _ hx))
    exact this G fun x hx=>(IF x hx).1
   have Y:∀x∈G,rkC s.heap x.2=rkD x.1.2:=fun x hx=>by
    obtain⟨_,b,k,h1,h2,_⟩:=IF x hx;rw[h1.rk,h2];rfl
   have II:∀z∈(arrOf y).toList,z.1=z.2:=fun z hz=>by
    have:z∈C.zip C:=J.mem_iff.mp hz;obtain⟨i,hi,rfl⟩:=bg this;simp
   have szy:(arrOf y).size=C.length:=by
    have:=J.length_eq;simpa using this
   have pw:(G.map (·.1)).Pairwise (fun a b=>rkD a.2<=rkD b.2):=by
    rw[ee,aP];intro i j hi hj hij;have lw:G.length=C.length:=by
     have:=congrArg dQ p2;simpa[szy] using this
    have gw:∀k (hk:k<G.length),rkAt (rkC s.heap) (arrOf y) k=rkD G[k].1.2:=fun k hk=>by
     have N:k<(arrOf y).size:=by lia
     have e1:(arrOf y).toList[k]'(by simpa using N)=(arrOf y)[k]:=by simp
     have e2:G[k].2=(arrOf y)[k].2:=by
      have:(G.map (·.2))[k]'(by simpa using hk)=((arrOf y).toList.map (·.2))[k]'(by simpa using N):=by simp only[p2]
      simpa using this
     have e3:(arrOf y)[k].1=(arrOf y)[k].2:=II _ (by rw[<- e1];exact dM _)
     unfold rkAt;rw[bS N];simp only[gL,fo];rw[e3,<- e2];exact Y _ (dM _)
    have:=up i j hij (by lia)
    rwa [gw i hi,gw j hj]at this
   have ev:(arrOf y).map (·.2)=(G.map (·.2)).toArray:=by
    apply og.mp;rw[oh,p2]
   rw[ev];obtain⟨e,he⟩:=sortedAll_at s.heap C (G.map (·.2)).toArray;refine⟨.ref (s.heap.objs.size+1),_,I.laid (a:=s.heap.objs.size+1) (o:=.lst ((G.map (·.1)).map (·.1))) (t':=s.toks) (fun _ _=>sortedAll_old) (kB _) ?_,rfl,q _ pz pw _ (I.hok.fresh (kB _))⟩
   refine⟨?_,G.map (·.2),e,rw',he⟩;have:100000<=sizeLine:=by decide
   have:=pz.length_eq;simp at this ⊢;lia
 rcases S with S|S
 ·obtain⟨C,r',pl,hz⟩:=I.list S;obtain⟨o,Z,hc,n,hd⟩:=pl.isList;exact key C o "list" n r' Z hc (.inl rfl) hd
 ·obtain⟨C,r',pl,hz⟩:=I.tuple S;obtain⟨o,Z,hc,n,hd⟩:=pl;exact key C o "tuple" n r' Z hc (.inr rfl) hd
end
def IsPr(t:af):Prop:=∃b k:Int,t=.tuple [.int b,.int k]/\0<=k/\k<1000
def Zs(t:af)(R:List af->Prop):Prop:=J3 t fun ts=>ts.length<100000/\(∀x∈ts,IsPr x)/\∀l:List af,l.Perm ts->l.Pairwise (fun a b=>rkD a<=rkD b)->R l
def zq7(d:DTE):DTA:=fun l n R=>d l n fun t u=>Zs t fun ts=>R ts u
section
variable{X:Cx}{e:aV}{d:DTE}{pos p:Pos}{k:Nat}
theorem zhY(hr:Room k X.A)(hm:X.mg "sorted" = none) (h:DL X e d) (hs:starEach [e] X.env=[(false,eval e X.env)]) (hg:Gl X "sorted":=by rfl):DN X (.Call (.Name "sorted" p) [e] [] pos) (zq7 d):=by
 obtain⟨ta,pa,h⟩:=h;refine⟨_,Uw zh7 hm boot_sorted (Qf pa QF hs) hg,fun C Z σ H n Q R S hd hq=>?_⟩
 refine h C Z σ H n _ _ S hd fun t n1 v G r1 e1 h1 q1=>?_
 have S1:=S.on e1 h1;have fin:∀p u ts,Reps X.K C.hd (Own C Z σ) G u ts->R ts n1->G p=none->Q (.ref p) (upd G p (.lst u)):=fun p u ts rp rr L=>by
  have hp0:H p=none:=by
   cases z:H p with
   | none=>rfl
   | some o =>
    by_cases y:C.hd=some p
    ·obtain⟨d,m,t,q,_⟩:=h1 p y;rw[L]at q;cases q
    ·rw[e1 p o z y]at L;cases L
  refine hq ts n1 p u _ rr (e1.trans (ExtE.new L)) (h1.same (JS L)) hp0 JM ?_;refine rp.mono (fun b o hb z=>z.elim id fun z=>?_) fun b o _ hb=>JS L b o hb
  subst z;rw[L]at hb;cases hb
 have go:∀(p:ak) u ts,(SqL X.K G p u\/SqT X.K G p u)->Reps X.K C.hd (Own C Z σ) G u ts->(ts.length<100000/\(∀x∈ts,IsPr x)/\∀J:List af,J.Perm ts->J.Pairwise (fun a b=>rkD a<=rkD b)->R J n1) ->
   ∃(p':ak) (zs:List (V×af)),[V.ref p]=[V.ref p']/\(SqL X.K G p' (zs.map (·.1))\/SqT X.K G p' (zs.map (·.1)))/\zs.length<100000/\(∀z∈zs,PrV X.K G z) /\
  ∀I:List (V×af),I.Perm zs->I.Pairwise (fun a b=>rkD a.2<=rkD b.2)->∀l,G l=none->Q (.ref l) (upd G l (.lst (I.map (·.1)))):=fun p u ts hs rp h=>by
  have ln:=rp.length;have rel:∀z∈u.zip ts,Rep X.K C.hd (Own C Z σ) G z.1 z.2:=fun z Y=>by
   obtain⟨i,hi,rfl⟩:=bg Y;have hi2:i<ts.length:=by simp at hi;lia
   obtain⟨v,h1,h2⟩:=rp.get (aw hi2);have hi1:i<u.length:=by lia
   rw[aw hi1]at h1;cases h1;simpa using h2
  refine⟨p,u.zip ts,rfl,?_,by simp;lia,fun z Y=>?_,fun I pm pw l hl=>?_⟩
  ·rw[iq (by lia)];exact hs
  ·obtain⟨b,k,e,k0,k1⟩:=h.2.1 z.2 (eE Y).2;have r:=rel z Y;rw[e]at r;obtain⟨a,ws,e1,e2,e3⟩:=r.tupI;cases e3 with
   | cons x1 x2 =>
    cases x2 with
    | cons x3 x4 =>
     cases x4;rw[x1.intI,x3.intI]at e2;exact⟨a,b,k,e1,e,e2,k0,k1⟩
  ·refine fin l _ (I.map (·.2)) ?_ (h.2.2 _ ?_ ?_) hl
   ·have:∀zs:List (V×af),(∀z∈zs,Rep X.K C.hd (Own C Z σ) G z.1 z.2)->Reps X.K C.hd (Own C Z σ) G (zs.map (·.1)) (zs.map (·.2)):=by
     intro zs;induction zs with
     | nil=>intro _;exact .nil
     | cons a l ih=>intro h;exact .cons (h a (.head _)) (ih fun x hx=>h x (.tail _ hx))
    exact this I fun z Y=>rel z (pm.mem_iff.mp Y)
   ·have:=pm.map (·.2)
    rwa [eK (by lia)]at this
   ·rw[ee];exact pw
 cases t with
 | list ts =>
  obtain⟨p,u,rfl,U,h2⟩:=q1.lstI;exact go p u ts (.inl (.of U)) h2 r1
 | tuple ts =>
  obtain⟨p,u,rfl,U,h2⟩:=q1.tupI;exact go p u ts (.inr U) h2 r1
 | _=>exact r1.elim
end
abbrev prD(b:Int×Int):af:=.tuple [.int b.1,.int b.2]
def pD(bs:qB):List af:=bs.map prD
theorem JJ{bs:qB}:(pD bs).length=bs.length:=by simp[pD]
theorem zo7{bs cs:qB}:pD bs++pD cs=pD (bs++cs):=by simp[pD]
theorem Yz{i h:Int}{bs:qB}:pD bs++[.tuple [.int i,.int h]]=pD (bs++[(i,h)]):=by simp[pD]
theorem ZG{bs:qB}{k:Nat}{t:af}(h:(pD bs)[k]?=some t):∃i g:Int,bs[k]?=some (i,g)/\t=.tuple [.int i,.int g]:=by
 unfold pD at h;rw[bh]at h;cases e:bs[k]? with
 | none=>rw[e]at h;cases h
 | some b=>rw[e]at h;cases h;exact⟨b.1,b.2,rfl,rfl⟩
def eB(b:Int×Int):Int:=b.1+2 ^ b.2.toNat
def Bks(bits:Int)(bs:qB):Prop:=∀b∈bs,IsBk bits b.1 b.2
def Ptc(bits:Int)(bs:qB):Prop:=Bks bits bs/\bs.Pairwise fun a b=>eB a<=b.1
theorem Q1(b:Int×Int):b.1<eB b:=by have:=Bd.QH b.2.toNat;unfold eB;lia
theorem Ptc.ends{bits:Int}{bs:qB}(P:Ptc bits bs):bs.Pairwise fun a b=>eB a<=eB b:=P.2.imp fun {a b} h=>by have:=Q1 b;lia
theorem zsR{bs:qB}:Okd (.list (pD bs)):=by
 have:∀bs:List (Int×Int),bE (pD bs)=true/\bZ (pD bs)<=1:=by
  intro bs;induction bs with
  | nil=>exact⟨by simp[pD,bE],by simp[pD,bZ]⟩
  | cons b l u =>
   refine⟨?_,?_⟩
   ·have:=u.1;simp only[pD,cj,bE,bT,gH,cW]at this ⊢;exact this
   ·have:=u.2;simp only[pD,cj,bZ,cZ]at this ⊢;lia
 exact⟨by simp only[bT];exact(this bs).1,by simp only[cZ];have:=(this bs).2;lia⟩
theorem ziA:Okd (.list []):=⟨by simp[bT,bE],by simp[cZ,bZ]⟩
theorem zqI{d:DTE}{u:En}{n:Nat}{l:List af->Nat->Prop}(h:d u n fun t v=>Zs t fun ts=>l ts v):zq7 d u n l:=h
theorem ztj{bits:Int}{bs:qB}{U:List af->Prop}(C:bits<=64)(B:Bks bits bs)(G:bs.Pairwise fun a b=>eB a<=b.1\/eB b<=a.1)(I:bs.length<100000)
  (h:∀cs,Ptc bits cs->cs.Perm bs->U (pD cs)):Zs (.list (pD bs)) U:=by
 refine⟨by rw[JJ];exact I,fun x hx=>?_,fun u pm pw=>?_⟩
 ·obtain⟨b,L,rfl⟩:=aZ.mp hx;have:=B b L;exact⟨b.1,b.2,rfl,this.1,by have:=this.2.1;lia⟩
 ·have N:u.Perm ((bs.map fun b=>(b,prD b)).map (·.2)):=by
   have:(bs.map fun b=>(b,prD b)).map (·.2)=pD bs:=by simp[pD]
   rw[this];exact pm
  obtain⟨zs,Y,p2⟩:=V3 N;have Z:∀z∈zs,z.2=prD z.1:=fun z J=>by
   obtain⟨b,_,rfl⟩:=aZ.mp (Y.mem_iff.mp J)
   rfl
  have e:u=pD (zs.map (·.1)):=by
   rw[<- p2];unfold pD;rw[dO];exact iK fun z J=>Z z J
  have pc:(zs.map (·.1)).Perm bs:=by
   have:=Y.map (·.1);rw[dO]at this;have e2:bs.map ((fun x:(Int×Int)×af=>x.1)∘fun b=>(b,prD b))=bs:=by
    show bs.map id=bs
    exact vp _
   rwa [e2]at this
  rw[e];have y:(zs.map (·.1)).Pairwise fun a b=>eB a<=b.1\/eB b<=a.1:=(pc.pairwise_iff (fun {a b} h=>h.symm)).mpr G
  have v:Bks bits (zs.map (·.1)):=fun b C=>B b (pc.mem_iff.mp C)
  rw[e]at pw;unfold pD at pw;rw[ee]at pw;refine h _ ⟨v,?_⟩ pc;have both:=xH y pw;refine gJ ?_ both;rintro a b S C ⟨h1,R⟩;have R:a.1*1000+a.2<=b.1*1000+b.2:=R;have a0:=(v a S).1;have a1:=(v a S).2.1;have b0:=(v b C).1;have b1:=(v b C).2.1;have:=Q1 a;have:=Q1 b;lia
theorem zuz{J:DTG}{tt:DTT}{d:DTE}{C:En}{L:List af->Nat->Prop}(Inv:Nat->List af->Nat->Prop):∀(xs:qD) (i:Nat) {v:qD}{n:Nat},Inv i v n ->
  (∀(k:Nat) (x:af) (v:qD) (n:Nat) (K:List af->Nat->Prop),xs[k]?=some x->Inv (i+k) v n->(∀y G,Inv (i+k+1) y G->K y G) ->
   J x C fun I=>tt I n fun b N=>if b=true then d I N fun t S=>v.length<16777216/\K (v++[t]) S else K v N) ->
  (∀v n,Inv (i+xs.length) v n->L v n)->JT J tt d C xs v n L
 | [],i,v,n,h0,_,fin=>fin v n (by simpa using h0)
 | x::xs,i,v,n,h0,turn,fin=>by
  refine turn 0 x v n (fun v n=>JT J tt d C xs v n L) rfl (by simpa using h0) fun y G h'=>?_
  refine zuz Inv xs (i+1) (by simpa using h') (fun k u v n K e R U=>?_) (fun v n h=>fin v n ?_)
  ·refine turn (k+1) u v n K (by simpa using e) ?_ fun y G h'=>U y G ?_
   ·have:i+(k+1)=i+1+k:=by lia
    rw[this];exact R
   ·have:i+1+k+1=i+(k+1)+1:=by lia
    rw[this];exact h'
  ·have:i+(x::xs).length=i+1+xs.length:=by simp;lia
   rw[this]at *;exact h
theorem zmT{C:DTG}{tt:DTT}{d:DTE}{v:En}{J:List af->Nat->Prop}{xs:qD}{n:Nat}(Inv:Nat->List af->Nat->Prop)(h0:Inv 0 [] n)
  (turn:∀(k:Nat) (x:af) (l:qD) (n:Nat) (K:List af->Nat->Prop),xs[k]?=some x->Inv k l n->(∀u I,Inv (k+1) u I->K u I) ->
   C x v fun y=>tt y n fun b G=>if b=true then d y G fun t N=>l.length<16777216/\K (l++[t]) N else K l G)
  (fin:∀l n,Inv xs.length l n->J l n):JT C tt d v xs [] n J :=
 zuz Inv xs 0 h0 (fun k x l n K e L R=>turn k x l n K e (by simpa using L) fun a m h=>R a m (by simpa using h)) fun l n h=>fin l n (by simpa using h)
theorem Yb{α:Type}{cs:List α}{D:α->af}{C:DTG}{tt:DTT}{d:DTE}{u:En}{n:Nat}{I:List af->Nat->Prop}(F:α->af)(L:cs.length<=16777216)
  (step:∀b∈cs,∀(K:qN) (X:Nat->Prop),K (F b) n->C (D b) u fun v=>tt v n fun c G=>if c=true then d v G K else X G) (fin:I (cs.map F) n):JT C tt d u (cs.map D) [] n I:=by
 refine zmT (fun j l m=>m=n/\l=(cs.take j).map F) ⟨rfl,rfl⟩ ?_ ?_
 ·rintro j x l m K y ⟨rfl,rfl⟩ hK;rw[bh]at y;cases eb:cs[j]? with
  | none=>rw[eb]at y;cases y
  | some b =>
   rw[eb]at y;cases y;obtain⟨J,N⟩:=az.mp eb;refine step b (aX eb) _ _ ⟨?_,hK _ _ ⟨rfl,?_⟩⟩
   ·simp;lia
   ·rw[dU,eb];simp
 ·rintro l m ⟨rfl,rfl⟩;rw[ba,fv];exact fin
theorem zwS{bs:List Bool}{R:af->Prop}(h:R (.bool (bs.all id))):bAll [.list (bs.map cI)] R:=⟨bs,rfl,h⟩
theorem zmi{α:Type}{cs:List α}{f:α->Bool}{R:af->Prop}(h:R (.bool (cs.all f))):bAll [.list (cs.map fun b=>cI (f b))] R:=by
 have e:(cs.map fun b=>cI (f b))=(cs.map f).map cI:=by simp
 rw[e];refine zwS ?_;have u:(cs.map f).all id=cs.all f:=by simp[List.all_map,kC]
 rw[u];exact h
theorem zwC{xs:qD}{k:Nat}{x:af}{R:af->Prop}(e:xs[k]?=some x)(h:R x):oIx (.tuple xs) (.int (k:Int)) R:=by
 have v:k<xs.length:=by
  rcases cq k xs.length with z|z
  ·exact z
  ·rw[cn z]at e;cases e
 rw[Zv (x:=x)]
 ·exact h
 ·unfold atI ixN;have:((0:Int)<=(k:Int)):=by lia
  have:((k:Int)<(xs.length:Int)):=by lia
  have y:xs[k]=x:=by rw[aw v]at e;exact aO e
  simp[v,y]
theorem zqy{xs:qD}{i:Int}{k:Nat}{x:af}{R:af->Prop}(hi:i=(k:Int))(e:xs[k]?=some x)(h:R x):oIx (.tuple xs) (.int i) R:=by subst hi;exact zwC e h
theorem zp2{bs:qB}{k:Nat}{b:Int×Int}(h:bs[k]?=some b):(pD bs)[k]?=some (.tuple [.int b.1,.int b.2]):=by
 unfold pD;rw[bh,h];rfl
theorem zqW{bs:qB}:cT (.list (pD bs)) (.list [])=bs.isEmpty:=by
 cases bs with
 | nil=>simp[pD,cT,fQ]
 | cons b l=>simp[pD,cT,fQ]
theorem UA{many:Int}{n:Nat}{R:qN}(h0:0<many)(u:many<2 ^ 128)(l:n<=1000000000000)(h:∀r:Int,0<=r->r<many->R (.int r) (n+1)):U0 [HAND,.int many] n R:=⟨rfl,h0,u,l,h⟩
theorem zkh{i h:Int}:JW (.tuple [.int i,.int h])=true:=by simp[JW,ZE]
theorem Bks.app{bits i h:Int}{bs:qB}(B:Bks bits bs)(C:IsBk bits i h):Bks bits (bs++[(i,h)]):=fun b l=>by
 rcases av.mp l with z|z
 ·exact B b z
 ·cases aB.mp z;exact C
section
variable{prog:aL}{w:aT}{A:br}{E:qV}{s:aq}
open HT in
theorem zcM{t y:ak}{items:Array ah}{I G:ah}{lo hi:Option Int}{Q:qV}(l:mY s.heap t items)(J:s.heap.IsSliceOf y I G .none)(pl:kH I lo)(L:kH G hi)
  (hw:HT.sIx items.size 0 lo=0/\HT.sIx items.size items.size hi=items.size) (h:Q (.ref t) s):wpAny (model prog w) A (getItem (.ref t) (.ref y)) Q E s:=by
 obtain⟨os,x,C,N⟩:=id J;have v:s.TypeIs (.ref y) "slice":=⟨os,x,C⟩;unfold getItem
 try with_reducible refine cg ?_
 first|refine ae (aj ?_)|skip
 refine ae (nu l.typeIs (by decide) ?_)
 refine ae (dY (name:=aa "__getitem__") l.typeIs cm
  (eJ cm l.typeIs my ?_ (mS _ _)))
 show wpAny _ _ (i7 (.ref t) >>= _) _ _ s
 refine ae (tupleItemsOf_ l ?_);refine ae (gq v ?_);rw[if_pos (by decide)]
 refine ae (HT.zb3 J pl L ?_);have u:(((HT.sIx items.size 0 lo:Nat):Int) == 0&&(1:Int) == 1&&(HT.sIx items.size items.size hi - HT.sIx items.size 0 lo) == items.size)=true:=by
  rw[hw.1,hw.2];simp
 show wpAny _ _ (if (((HT.sIx items.size 0 lo:Nat):Int) == 0&&(1:Int) == 1&&(HT.sIx items.size items.size hi - HT.sIx items.size 0 lo) == items.size)=true then _ else _) _ _ s
 rw[if_pos u];unfold pQ;refine ae (ae (gq l.typeIs (aj ?_)));rw[if_pos (by decide)]
 exact ae (dw (aj ⟨_,rfl,aj h⟩))
end
section
variable{X:Cx}
def rSlW(K:qF):V->Option Int->Option Int->Hp->VK->Prop:=fun x lo hi H Q=>∃a xs,x=.ref a/\SqT K H a xs/\(HT.sIx xs.length 0 lo=0/\HT.sIx xs.length xs.length hi=xs.length)/\Q (.ref a) H
theorem zpy:SlR X (rSlW X.K):=by
 intro pins s σ H x v N L lo hi R Q I C J pl G h;obtain⟨a,xs,rfl,hx,hw,q⟩:=h;cases C;obtain⟨u,r,y,S⟩:=I.tuple hx;have l:u.toArray.size=xs.length:=by rw[aF];exact r.length.symm
 refine⟨"tuple",_,cm.lookup,y.typeIs,?_⟩;exact zcM y J pl G (by rw[l];exact hw) ⟨.ref a,H,I,rfl,q⟩
end
abbrev DTO:=En->Nat->(Option Int->Nat->Prop)->Prop
def DP(X:Cx)(e:Option aV)(d:DTO):Prop:=∃t,PO X e t/\∀(C:Ctx) (v:En) (σ:St) (H:Hp) (n:Nat) (Q:Option Int->Hp->Prop) (R:Option Int->Nat->Prop),Stt X.K C v σ H n->d v n R ->
 (∀o u l,R o u->ExtE C.hd H l->Hn C.hd l u->Q o l)->t σ H Q
def zi2:DTO:=fun l n R=>R none n
def zq8(d:DTE):DTO:=fun u n R=>d u n fun t l=>lInt t fun i=>R (some i) l
def cutD(ts:qD)(lo hi:Option Int):List af:=(ts.drop (HT.sIx ts.length 0 lo)).take (HT.sIx ts.length ts.length hi - HT.sIx ts.length 0 lo)
def lSl(t:af)(lo hi:Option Int)(R:List af->Prop):Prop:=match t with
 | .list ts=>R (cutD ts lo hi)
 | _=>False
def dSlL(d:DTE)(dl y:DTO):DTA:=fun l n R=>d l n fun t v=>dl l v fun lo u=>y l u fun hi x=>lSl t lo hi fun z=>R z x
section
variable{X:Cx}{e:aV}{d:DTE}{lo hi:Option aV}{dlo dhi:DTO}{pos p2:Pos}
theorem Z7:DP X none zi2:=⟨_,zpO,fun C u σ H n Q R S h l=>l none n H h ExtE.refl S.hnd⟩
theorem Z8(h:DE X e d):DP X (some e) (zq8 d):=by
 obtain⟨N,pa,h⟩:=h;refine⟨_,zpN pa,fun C y σ H n Q R S hd L=>?_⟩
 refine h C y σ H n _ _ S hd fun t I v u l G J x=>?_
 cases t with
 | int i =>
  cases x;exact⟨i,rfl,L (some i) I u l G J⟩
 | _=>exact l.elim
theorem zjN{K:qF}{hd:Option ak}{O:ak->Prop}{H:Hp}{vs ts}(r:Reps K hd O H vs ts)(lo hi:Option Int):Reps K hd O H (cutV vs lo hi) (cutD ts lo hi):=by
 unfold cutV cutD;rw[r.length];exact(r.drop _).take _
theorem zkJ{ts:qD}{lo hi:Option Int}(h:HT.sIx ts.length 0 lo=0/\HT.sIx ts.length ts.length hi=ts.length):cutD ts lo hi=ts:=by
 unfold cutD;rw[h.1,h.2];simp
theorem zoB(h:DL X e d)(G:DP X lo dlo)(I:DP X hi dhi):DN X (.Subscript e (.Slice lo hi none p2) pos) (dSlL d dlo dhi):=by
 obtain⟨ta,pa,h⟩:=h;obtain⟨tl,pl,G⟩:=G;obtain⟨tu,pu,I⟩:=I;refine⟨_,zjl zpz pa pl pu,fun C N σ H n Q R S hd hq=>?_⟩
 refine h C N σ H n _ _ S hd fun t n1 v H1 r1 e1 h1 q1=>?_
 have Z:=S.on e1 h1;refine G C N σ H1 n1 _ _ Z r1 fun lo n2 H2 r2 U h2=>?_
 have S2:=Z.on U h2;refine I C N σ H2 n2 _ _ S2 r2 fun hi n3 H3 Y J L=>?_
 have S3:=S2.on J L;have q3:=(U.trans J).repT S.hx q1;cases t with
 | list ts =>
  obtain⟨a,vs,rfl,hs,rs⟩:=q3.lstI;refine⟨a,vs,rfl,.of hs,fun p x=>?_⟩
  have e:=e1.trans (U.trans J);refine hq _ n3 p _ _ Y (e.trans (ExtE.new x)) (L.same (JS x)) (VE e L x) JM ?_;refine(zjN rs lo hi).mono (fun b o y z=>z.elim id fun z=>?_) fun b o _ y=>JS x b o y
  subst z;rw[x]at y;cases y
 | _=>exact Y.elim
end
structure NxS(prog:aL)(w:aT)(i a:ak)(IT:Nat->aW->Prop)(SQ:aW->Array ah->Prop):Prop where
 rcd:∀k h,IT k h->∃o,h.get? i=some o/\∀v,o.data≠.cell v
 keep:∀k h h',IT k h->(∀o,h.get? i=some o->h'.get? i=some o)->IT k h'
 sk:∀h h' xs,SQ h xs->(∀o,h.get? a=some o->h'.get? a=some o)->SQ h' xs
 item:∀(A:br) (E:qV) (k:Nat) (xs:Array ah) (x:ah) (s:aq) (Q:qV),IT k s.heap->SQ s.heap xs->xs[k]?=some x ->
  (∀h',IT (k+1) h'->eG i s.heap h'->Q x { s with heap:=h' })->wpAny (model prog w) A (bK (.ref i)) Q E s
 done:∀(A:br) (E:qV) (k:Nat) (xs:Array ah) (s:aq) (Q:qV),A.handled=none->IT k s.heap->SQ s.heap xs->xs[k]?=none ->
  (∀h' e,vq i s.heap h'->(∃o,h'.get? e=some o/\o.cls=.type "StopIteration")->E (.ref e) { s with heap:=h' })->wpAny (model prog w) A (bK (.ref i)) Q E s
theorem zqh{prog:aL}{w:aT}{i a:ak}:NxS prog w i a (fun k h=>h.IsListIter i a k) (fun h xs=>h.IsList a xs) where
 rcd:=fun k h ⟨o,e,c,d⟩=>⟨o,e,fun v z=>by rw[d]at z;cases z⟩
 keep:=fun k h h' x f=>x.at f
 sk:=fun h h' xs x f=>x.at f
 item:=fun A E k xs x s Q y u l h=>wpAny_nextOf_list_item y u l h
 done:=fun A E k xs s Q C y u l h=>wpAny_nextOf_list_end C y u l h
section
variable{prog:aL}{w:aT}{A:br}{E:qV}{s:aq}
theorem zhu{i:ak}{T id:String}{Q:qV}{f:gp}(l:s.TypeIs (.ref i) T)(u:Slot T "__next__" id) (y:entryFor table id=some f) (C:argsOk id ⟨[.ref i],[]⟩)
  (h:wpAny (model prog w) A.in1 (f ⟨[.ref i],[]⟩) (fun fin s'=>∃v,fin=.done (.ret v)/\Q v s') E s):wpAny (model prog w) A (bK (.ref i)) Q E s:=by
 unfold bK;refine ae (dY (name:=aa "__next__") l u (eJ u l y ?_ C));refine c8 h (fun fin s' x=>?_) fun _ _ e=>e
 obtain⟨v,e,q⟩:=x;exact⟨v,e,aj q⟩
theorem zgU{i a:ak}{k:Nat}{xs:Array ah}{x:ah}{Q:qV}(v:s.heap.IsTupleIter i a k)(G:s.heap.IsTuple a xs)(y:xs[k]?=some x)
  (h:∀h',h'.IsTupleIter i a (k+1)->eG i s.heap h'->Q x { s with heap:=h' }):wpAny (model prog w) A (bK (.ref i)) Q E s:=by
 refine zhu v.typeIs kb iO (iH _) ?_;obtain⟨o,u,I,l⟩:=v;obtain⟨p,f1,_,n,C⟩:=G;refine ae (m:=field (.ref i) 0) (cU u l (x:=.ref a) rfl ?_);have ne:¬((cA a == iS)=true):=fun z=>by cases z
 rw[if_neg ne];refine ae (m:=field (.ref i) 1) (cU u l (x:=.int k 0) rfl ?_);refine ae (m:=seqItems? (.ref a)) (eR f1 C ?_);simp only[fX,y];refine ae (pR u l (by simp) (aj ⟨x,rfl,h _ ?_ (mE ..)⟩))
 refine⟨_,lN _ u (Obj.isFreed_of_fields (mW l _)),?_,?_⟩
 ·rw[Obj.cls_mapFields];exact I
 ·rw[mW l];simp[rawInt]
theorem zgV{i a:ak}{k:Nat}{xs:Array ah}{Q:qV}(G:A.handled=none)(I:s.heap.IsTupleIter i a k)(N:s.heap.IsTuple a xs)(J:xs[k]?=none)
  (h:∀h' e,vq i s.heap h'->(∃o,h'.get? e=some o/\o.cls=.type "StopIteration")->E (.ref e) { s with heap:=h' }):wpAny (model prog w) A (bK (.ref i)) Q E s:=by
 refine zhu I.typeIs kb iO (iH _) ?_;obtain⟨o,v,R,l⟩:=I;obtain⟨p,f1,_,n,L⟩:=N;refine ae (m:=field (.ref i) 0) (cU v l (x:=.ref a) rfl ?_);have ne:¬((cA a == iS)=true):=fun z=>by cases z
 rw[if_neg ne];refine ae (m:=field (.ref i) 1) (cU v l (x:=.int k 0) rfl ?_);refine ae (m:=seqItems? (.ref a)) (eR f1 L ?_);simp only[fX,J];refine ae (dw (ae (pR v l (by simp) ?_)))
 refine ae (m:=newExc (.type "StopIteration") []) ?_;simp only[newExc,newTuple];refine ae (dm ?_ (by size_fits))
 refine ae (m:=firstArgMember _ _) (wpAny_of_eq (a:=iS) (by first|rfl|(simp only[firstArgMember];rfl)) (dm ?_ (by size_fits)))
 simp only[raiseNew];refine ae (wpAny_handled ?_);have C:A.in1.handled=none:=G
 first|rw[C]|rw[G]
 exact ae (aj (wpAny_throw (h _ _ (((mE ..).extBut.push _).push _) ⟨_,aH _ rfl,rfl⟩)))
end
theorem Heap.IsTupleIter.at'{h h':aW}{i a:ak}{k:Nat}(x:h.IsTupleIter i a k)(f:∀o,h.get? i=some o->h'.get? i=some o):h'.IsTupleIter i a k:=by
 obtain⟨o,e,r⟩:=x;exact⟨o,f o e,r⟩
theorem Heap.IsTuple.at'{h h':aW}{a:ak}{xs:Array ah}(x:h.IsTuple a xs)(f:∀o,h.get? a=some o->h'.get? a=some o):h'.IsTuple a xs:=by
 obtain⟨o,e,r⟩:=x;exact⟨o,f o e,r⟩
theorem zsU{prog:aL}{w:aT}{i a:ak}:NxS prog w i a (fun k h=>h.IsTupleIter i a k) (fun h xs=>h.IsTuple a xs) where
 rcd:=fun k h ⟨o,e,c,d⟩=>⟨o,e,fun v z=>by rw[d]at z;cases z⟩
 keep:=fun k h h' x f=>Heap.IsTupleIter.at' x f
 sk:=fun h h' xs x f=>Heap.IsTuple.at' x f
 item:=fun A E k xs x s Q y u l h=>zgU y u l h
 done:=fun A E k xs s Q C y u l h=>zgV C y u l h
structure ZAp(z TI TO i1 i2 a1 a2:ak):Prop where
 p:[z,TI,TO,i1,i2].Nodup
 q:∀a∈[a1,a2],a∉[z,TI,TO,i1,i2]
section
variable{prog:aL}{w:aT}{A:br}{E:qV}{s:aq}{z TI TO i1 i2 a1 a2:ak}{I1 I2:Nat->aW->Prop}{S1 S2:aW->Array ah->Prop}
structure ZSt(z TI TO i1 i2:ak)(I1 I2:Nat->aW->Prop)(f:ah)(k:Nat)(h:aW):Prop where
 zip:oC h z TI TO f
 ti:lB h TI (.ref i1) (.ref i2)
 to:∃a b,lB h TO a b
 it1:I1 k h
 it2:I2 k h
theorem zkS(D:ZAp z TI TO i1 i2 a1 a2):(z≠TI/\z≠TO/\z≠i1/\z≠i2/\TI≠TO/\TI≠i1/\TI≠i2/\TO≠i1/\TO≠i2/\i1≠i2)/\(a1≠z/\a1≠TO/\a1≠i1/\a1≠i2)/\(a2≠z/\a2≠TO/\a2≠i1/\a2≠i2):=by
 have l:=D.p;have x:=D.q;simp only[eW,ax,aR,or_false,not_or,List.nodup_nil,and_true,not_false_eq_true]at l;have u:=x a1 (by simp)
 have v:=x a2 (by simp)
 simp only[ax,aR,or_false,not_or]at u v;exact⟨⟨l.1.1,l.1.2.1,l.1.2.2.1,l.1.2.2.2,l.2.1.1,l.2.1.2.1,l.2.1.2.2,l.2.2.1.1,l.2.2.1.2,l.2.2.2⟩,⟨u.1,u.2.2.1,u.2.2.2.1,u.2.2.2.2⟩,⟨v.1,v.2.2.1,v.2.2.2.1,v.2.2.2.2⟩⟩
theorem z_item{k:Nat}{xs ys:Array ah}{x y:ah}{Q:qV}(D:ZAp z TI TO i1 i2 a1 a2)(N1:NxS prog w i1 a1 I1 S1)(N2:NxS prog w i2 a2 I2 S2)(st:ZSt z TI TO i1 i2 I1 I2 .none k s.heap)(s1:S1 s.heap xs)(s2:S2 s.heap ys)
  (hx:xs[k]?=some x) (hy:ys[k]?=some y)
  (hQ:∀h',ZSt z TI TO i1 i2 I1 I2 (rawInt s.heap.objs.size) (k+1) h'->lB h' s.heap.objs.size x y->h'.objs.size=s.heap.objs.size+1 ->
   (∀c o,c≠z->c≠TO->c≠i1->c≠i2->s.heap.get? c=some o->h'.get? c=some o)->Q (.ref s.heap.objs.size) { s with heap:=h' }) :
  wpAny (model prog w) A (gp.«zip.__next__» ⟨[.ref z],[]⟩) (fun fin s'=>∃v,fin=.done (.ret v)/\Q v s') E s:=by
 obtain⟨⟨d1,d2,d3,d4,d5,d6,d7,d8,d9,d10⟩,⟨e1,e2,e3,e4⟩,⟨g1,g2,g3,g4⟩⟩:=zkS D;obtain⟨zip,ti,⟨va,vb,to⟩,it1,it2⟩:=st;refine ae (m:=field (.ref z) 2) (cU zip rfl (x:=.bool false) rfl ?_);refine ae (m:=field (.ref z) 3) (cU zip rfl (x:=.ref TI) rfl (ae (eR ti rfl ?_)));refine ae (m:=cX (.ref z)) ?_;unfold cX
 refine ae (cU zip rfl (x:=.none) rfl (aj ?_));simp only[if_true];refine ae (dw (ae (cU zip rfl (x:=.ref TO) rfl (ae (eS zip (by simp) fun hA zA L=>?_)))))
 have zA':oC hA z TI TO .ellipsis:=zA;refine ae ?_;simp only[kS,oS,iE,mf];refine ae (ae (iC (ae (m:=bK (.ref i1)) ?_)));refine N1.item _ _ k xs x _ _ (N1.keep _ _ _ it1 fun o e=>L.extBut _ _ d3.symm e) (N1.sk _ _ _ s1 fun o e=>L.extBut _ _ e1 e) hx fun hB Y bB=>aj ?_
 have toB:lB hB TO va vb:=bB.extBut _ _ d8 (L.extBut _ _ d2.symm to);refine ae (eR toB rfl (ae (iD toB fun hC toC bC=>?_)))
 have toC':lB hC TO x vb:=toC;refine ae (oE (aj ?_));refine ae (ae (iC (ae (m:=bK (.ref i2)) ?_)));have I:∀c o,c≠z->c≠TO->c≠i1->s.heap.get? c=some o->hC.get? c=some o:=fun c o C J c3 e=>bC.extBut _ _ J (bB.extBut _ _ c3 (L.extBut _ _ C e))
 refine N2.item _ _ k ys y _ _ (N2.keep _ _ _ it2 fun o e=>I _ _ d4.symm d9.symm d10.symm e) (N2.sk _ _ _ s2 fun o e=>I _ _ g1 g2 g3 e) hy fun hD S U=>aj ?_
 have toD:lB hD TO x vb:=U.extBut _ _ d9 toC';refine ae (eR toD rfl (ae (iD toD fun u toF Z=>?_)))
 have G:lB u TO x y:=toF;refine ae (oE (aj (aj ?_)));refine ae (eR G rfl (ae (pN ?_)));have sz:u.objs.size=s.heap.objs.size:=by rw[Z.1,U.1,bC.1,bB.1,L.1]
 have upF:∀c o,c≠z->c≠TO->c≠i1->c≠i2->s.heap.get? c=some o->u.get? c=some o:=fun c o C J c3 c4 e=>Z.extBut _ _ J (U.extBut _ _ c4 (I c o C J c3 e))
 have zF:oC u z TI TO .ellipsis:=Z.extBut _ _ d2 (U.extBut _ _ d4 (bC.extBut _ _ d2 (bB.extBut _ _ d3 zA')));have R:z<u.objs.size:=aD zF;refine ae (m:=gD (.ref z) (.ref u.objs.size)) ?_;unfold gD;have zG:oC (u.push { cls:=.type "tuple",data:=.seq #[x,y] }) z TI TO .ellipsis:=au _ zF
 refine ae (eS zG (by simp) fun hI zI bI=>?_)
 have zI':oC hI z TI TO (rawInt u.objs.size):=zI;refine eS zI' (by simp) fun hJ zJ bJ=>aj ⟨_,rfl,?_⟩
 have N:oC hJ z TI TO (rawInt u.objs.size):=zJ;have up:∀c o,c≠z->u.get? c=some o->hJ.get? c=some o:=fun c o C e=>bJ.extBut _ _ C (bI.extBut _ _ C (au _ e))
 have pr:lB hJ u.objs.size x y:=bJ.extBut _ _ (m7 R) (bI.extBut _ _ (m7 R) (aH _ rfl));have szJ:hJ.objs.size=u.objs.size+1:=by rw[bJ.1,bI.1,fq]
 rw[sz]at N pr szJ;show Q (.ref u.objs.size) _
 rw[sz];refine hQ hJ ⟨N,up _ _ d1.symm (upF _ _ d1.symm d5 d6 d7 ti),⟨x,y,up _ _ d2.symm G⟩,?_,?_⟩ pr szJ fun c o C J c3 c4 e=>up c o C (upF c o C J c3 c4 e)
 ·exact N1.keep _ _ _ Y fun o e=>up _ _ d3.symm (Z.extBut _ _ d8.symm (U.extBut _ _ d10 (bC.extBut _ _ d8.symm e)))
 ·exact N2.keep _ _ _ S fun o e=>up _ _ d4.symm (Z.extBut _ _ d9.symm e)
theorem z_end{k:Nat}{xs ys:Array ah}{Q:PySem.Fin->aq->Prop}(hh:A.handled=none)(D:ZAp z TI TO i1 i2 a1 a2)(Y:NxS prog w i1 a1 I1 S1)(N2:NxS prog w i2 a2 I2 S2)(st:ZSt z TI TO i1 i2 I1 I2 .none k s.heap)(s1:S1 s.heap xs)(s2:S2 s.heap ys)
  (hxy:xs[k]?=none\/ys[k]?=none)
  (hE:∀h' e,(∀c o,c≠z->c≠TO->c≠i1->c≠i2->s.heap.get? c=some o->h'.get? c=some o)->(∃o,h'.get? e=some o/\o.cls=.type "StopIteration")->E (.ref e) { s with heap:=h' }) :
  wpAny (model prog w) A (gp.«zip.__next__» ⟨[.ref z],[]⟩) Q E s:=by
 obtain⟨⟨d1,d2,d3,d4,d5,d6,d7,d8,d9,d10⟩,⟨e1,e2,e3,e4⟩,⟨g1,g2,g3,g4⟩⟩:=zkS D;obtain⟨zip,ti,⟨va,vb,to⟩,it1,it2⟩:=st;refine ae (m:=field (.ref z) 2) (cU zip rfl (x:=.bool false) rfl ?_);refine ae (m:=field (.ref z) 3) (cU zip rfl (x:=.ref TI) rfl (ae (eR ti rfl ?_)));refine ae (m:=cX (.ref z)) ?_;unfold cX
 refine ae (cU zip rfl (x:=.none) rfl (aj ?_));simp only[if_true];refine ae (dw (ae (cU zip rfl (x:=.ref TO) rfl (ae (eS zip (by simp) fun hA zA I=>?_)))))
 have R:oC hA z TI TO .ellipsis:=zA;refine ae ?_;simp only[kS,oS,iE,mf];refine ae (ae (iC (ae (m:=bK (.ref i1)) ?_)));have S:=Y.keep _ _ _ it1 fun o e=>I.extBut _ _ d3.symm e
 have N:=Y.sk _ _ _ s1 fun o e=>I.extBut _ _ e1 e
 cases hx:xs[k]? with
 | none =>
  refine Y.done _ _ k xs _ _ hh S N hx fun hB e G ⟨Z,v,hc⟩=>?_
  have zB:oC hB z TI TO .ellipsis:=G _ _ d3 R;have ez:e≠z:=fun y=>by subst y;rw[zB]at v;cases v;simp at hc
  exact eS zB (by simp) fun hC _ L=>hE hC e (fun c o u _ U _ y=>L.extBut _ _ u (G _ _ U (I.extBut _ _ u y))) ⟨Z,L.extBut _ _ ez v,hc⟩
 | some x =>
  have hy:ys[k]?=none:=by rcases hxy with h|h;rw[hx]at h;cases h;exact h
  refine Y.item _ _ k xs x _ _ S N hx fun hB it1B G=>aj ?_
  have J:lB hB TO va vb:=G.extBut _ _ d8 (I.extBut _ _ d2.symm to);refine ae (eR J rfl (ae (iD J fun hC toC L=>?_)))
  refine ae (oE (aj ?_));refine ae (ae (iC (ae (m:=bK (.ref i2)) ?_)));have C:∀c o,c≠z->c≠TO->c≠i1->s.heap.get? c=some o->hC.get? c=some o:=fun c o u c2 U e=>L.extBut _ _ c2 (G.extBut _ _ U (I.extBut _ _ u e))
  refine N2.done _ _ k ys _ _ hh (N2.keep _ _ _ it2 fun o e=>C _ _ d4.symm d9.symm d10.symm e) (N2.sk _ _ _ s2 fun o e=>C _ _ g1 g2 g3 e) hy fun hD e bD ⟨Z,v,hc⟩=>?_
  have zD:oC hD z TI TO .ellipsis:=bD _ _ d4 (L.extBut _ _ d2 (G.extBut _ _ d3 R));have ez:e≠z:=fun y=>by subst y;rw[zD]at v;cases v;simp at hc
  exact eS zD (by simp) fun hF _ bF=>hE hF e (fun c o u c2 U c4 y=>bF.extBut _ _ u (bD _ _ c4 (C c o u c2 U y))) ⟨Z,bF.extBut _ _ ez v,hc⟩
theorem zrA{k:Nat}{xs ys:Array ah}{x y:ah}{Q:Option ah->aq->Prop}(D:ZAp z TI TO i1 i2 a1 a2)(u:NxS prog w i1 a1 I1 S1)(I:NxS prog w i2 a2 I2 S2)(st:ZSt z TI TO i1 i2 I1 I2 .none k s.heap)(s1:S1 s.heap xs)(s2:S2 s.heap ys)
  (hx:xs[k]?=some x) (C:ys[k]?=some y)
  (G:∀h',ZSt z TI TO i1 i2 I1 I2 (rawInt s.heap.objs.size) (k+1) h'->lB h' s.heap.objs.size x y->h'.objs.size=s.heap.objs.size+1 ->
   (∀c o,c≠z->c≠TO->c≠i1->c≠i2->s.heap.get? c=some o->h'.get? c=some o)->Q (some (.ref s.heap.objs.size)) { s with heap:=h' }) :
  wpAny (model prog w) A (pyNext (.ref z)) Q E s:=by
 have l:s.TypeIs (.ref z) "zip":=⟨_,st.zip,rfl⟩;unfold pyNext;exact ae (iA (dY (name:=aa "__next__") l iI (eJ iI l oi
  (z_item D u I st s1 s2 hx C fun h' N v L J=>aj (G h' N v L J)) (nJ _))))
theorem zrz{k:Nat}{xs ys:Array ah}{Q:Option ah->aq->Prop}(I:A.handled=none)(D:ZAp z TI TO i1 i2 a1 a2)(v:NxS prog w i1 a1 I1 S1)(G:NxS prog w i2 a2 I2 S2)(st:ZSt z TI TO i1 i2 I1 I2 .none k s.heap)(s1:S1 s.heap xs)(s2:S2 s.heap ys)
  (l:xs[k]?=none\/ys[k]?=none) (C:∀h',(∀c o,c≠z->c≠TO->c≠i1->c≠i2->s.heap.get? c=some o->h'.get? c=some o)->Q none { s with heap:=h' }):wpAny (model prog w) A (pyNext (.ref z)) Q E s:=by
 have u:s.TypeIs (.ref z) "zip":=⟨_,st.zip,rfl⟩;unfold pyNext;refine ae (iA (dY (name:=aa "__next__") u iI (eJ iI u oi
  (z_end I D v G st s1 s2 l fun h' e x ⟨o,y,hc⟩=>?_) (nJ _))))
 exact ae (wpAny_isInstance (T:="StopIteration") (b:=true) ⟨o,y,hc⟩ isSubtype_stop (aj (C _ x)))
end
def SqB(t:Bool)(K:qF)(H:Hp)(a:ak)(xs:List V):Prop:=match t with|true=>SqT K H a xs|false=>SqL K H a xs
def ITB(t:Bool)(i a:ak):Nat->aW->Prop:=match t with|true=>fun k h=>h.IsTupleIter i a k|false=>fun k h=>h.IsListIter i a k
def SQB(t:Bool)(a:ak):aW->Array ah->Prop:=match t with|true=>fun h xs=>h.IsTuple a xs|false=>fun h xs=>h.IsList a xs
def itN(t:Bool):String:=match t with|true=>"tuple_iterator" | false=>"list_iterator"
theorem nx_B{prog:aL}{w:aT}{i a:ak}(t:Bool):NxS prog w i a (ITB t i a) (SQB t a):=by
 cases t
 ·exact zqh
 ·exact zsU
section
variable{X:Cx}{pins:qO}{σ:St}{H:Hp}{s:aq}
theorem Inv.seqB{t:Bool}{a:ak}{xs:List V}(I:Inv X pins σ H s)(h:SqB t X.K H a xs):∃l:List ah,Vals xs l/\SQB t a s.heap l.toArray/\xs.length<=sizeLine:=by
 cases t
 ·obtain⟨l,r,p,z⟩:=I.list h;exact⟨l,r,p.isList,z⟩
 ·obtain⟨l,r,p,z⟩:=I.tuple h;exact⟨l,r,p,z⟩
theorem Inv.injB{t:Bool}{a:ak}{xs ys:List V}(I:Inv X pins σ H s)(h:SqB t X.K H a xs)(h':SqB t X.K H a ys):xs=ys:=by
 cases t
 ·exact I.list_inj h h'
 ·exact I.tuple_inj h h'
theorem Inv.turnedL{h':aW}{t':Nat}(ch:List ak)(I:Inv X pins σ H s)(k:∀b o,b∉ch->s.heap.get? b=some o->h'.get? b=some o)(f:∀b∈ch,FpOk X pins H b):Inv X pins σ H { s with heap:=h',toks:=t' }:=by
 have l:∀b u,H b=some u->b∉ch:=fun b u e z=>by rw[(f b z).1]at e;cases e
 refine I.step (g':=s.gens) (d':=s.drawn) (ch:=ch) (fun b x=>⟨(f b x).2.2.2.1,(f b x).2.1,(f b x).2.2.2.2.1,(f b x).2.2.2.2.2⟩) (fun b o _ _ hc e _=>k b o hc e) (fun b o _ _ hc e _=>⟨o.slots,k b o hc e⟩) (fun _ _ _ _ n=>n) (fun b o hc e=>⟨o,k b o hc e⟩) (fun _ _ e=>e) (fun _ _ _ e=>e)
  (fun _ _ e=>e) (fun m ⟨o,C,J,G,r⟩=>⟨o,C,J,k _ o (fun z=>(f _ z).2.1 rfl) G,r⟩) (fun b u e=>(I.hok b u e).stay (fun c v hc q=>k c v ?_ q) (fun _ q=>q) (fun _ _ q=>q) fun _ _ _ q=>q) I.bare
 rcases hc with z|z
 ·rw[z];exact l b u e
 ·exact l c _ z
end
section
variable{prog:aL}{w:aT}{A:br}{E:qV}{s:aq}
theorem ztC{t:Bool}{a:ak}{xs:Array ah}{Q:qV}(h:SQB t a s.heap xs)(u:Q (.ref s.heap.objs.size) { s with heap:=s.heap.push { cls:=.type (itN t),data:=.fields #[.ref a,.int 0 0] } }):wpAny (model prog w) A (pyIter (.ref a)) Q E s:=by
 cases t
 ·exact gW h u
 ·exact iU h u
theorem SQB.push{t:Bool}{a:ak}{xs:Array ah}{h:aW}(x:SQB t a h xs)(o:Obj):SQB t a (h.push o) xs:=by
 cases t
 ·exact yy x o
 ·exact xJ x o
abbrev zA(h:aW)(t:Bool)(a:ak):aW:=h.push { cls:=.type (itN t),data:=.fields #[.ref a,.int 0 0] }
abbrev zB(h:aW)(t u:Bool)(a b:ak):aW:=(zA h t a).push { cls:=.type (itN u),data:=.fields #[.ref b,.int 0 0] }
abbrev zC(h:aW)(t u:Bool)(a b:ak):aW:=(zB h t u a b).push { cls:=.type "tuple",data:=.seq #[.ref h.objs.size,.ref (zA h t a).objs.size] }
abbrev zD(h:aW)(t u:Bool)(a b:ak):aW:=(zC h t u a b).push { cls:=.type "tuple",data:=.seq #[.none,.none] }
abbrev zE(h:aW)(t u:Bool)(a b:ak):aW:=(zD h t u a b).push { cls:=.type "zip",data:=.fields #[.none,.bool false,.bool false,.ref (zB h t u a b).objs.size,.ref (zC h t u a b).objs.size] }
theorem zn3(t u:Bool)(a b:ak)(xs ys:Array ah) :
  Meets (gp.«zip.__new__» ⟨[.type "zip",.ref a,.ref b],[]⟩) (fun _ R s=>SQB t a s.heap xs/\SQB u b s.heap ys/\R (.ok (.ret (.ref (zD s.heap t u a b).objs.size))) { s with heap:=zE s.heap t u a b }) :=
 .of_wp fun prog w A R s h=>by
  obtain⟨v,g,d,tk,os⟩:=s;obtain⟨G,C,h⟩:=h;have x:=sub_zip;have I:SQB t a (vv ⟨v,g,d,tk,os⟩) xs:=G;have L2:SQB u b (vv ⟨v.push { cls:=.type (itN t),data:=.fields #[.ref a,.int 0 0] },g,d,tk,os⟩) ys:=SQB.push C _
  wp_walk using ztC I,ztC L2
  exact⟨_,rfl,h⟩
theorem ITB.new{t:Bool}{i a:ak}{h:aW}(e:h.get? i=some { cls:=.type (itN t),data:=.fields #[.ref a,.int 0 0] }):ITB t i a 0 h:=by
 cases t
 ·exact⟨_,e,rfl,rfl⟩
 ·exact⟨_,e,rfl,rfl⟩
theorem zre{t u:Bool}{a b:ak}{xs ys:Array ah}{Q:qV}(R:SQB t a s.heap xs)(N:SQB u b s.heap ys)
  (h:∀h',ZSt (s.heap.objs.size+4) (s.heap.objs.size+2) (s.heap.objs.size+3) s.heap.objs.size (s.heap.objs.size+1) (ITB t s.heap.objs.size a) (ITB u (s.heap.objs.size+1) b) .none 0 h'->h'.objs.size=s.heap.objs.size+5 ->
   (∀c o,s.heap.get? c=some o->h'.get? c=some o)->Q (.ref (s.heap.objs.size+4)) { s with heap:=h' }) :
  wpAny (model prog w) A (call (.type "zip") [.ref a,.ref b]) Q E s:=by
 refine callType_new F.called_zip (by decide) (F.typeCall_zip_2 _ _) (F.newCall_zip_2 _ _) (fun obj=>F.args_object_init_3 obj _ _) F.entry_zip_new (zn3 t u a b xs ys) ⟨R,N,?_⟩
 have I:(zA s.heap t a).objs.size=s.heap.objs.size+1:=fq ..;have C:(zB s.heap t u a b).objs.size=s.heap.objs.size+2:=by rw[fq,I]
 have G:(zC s.heap t u a b).objs.size=s.heap.objs.size+3:=by rw[fq,C]
 have v:(zD s.heap t u a b).objs.size=s.heap.objs.size+4:=by rw[fq,G]
 have L:(zE s.heap t u a b).objs.size=s.heap.objs.size+5:=by rw[fq,v]
 have l:(zE s.heap t u a b).get? (zD s.heap t u a b).objs.size=some _:=aH _ rfl;have J:(zE s.heap t u a b).get? (zC s.heap t u a b).objs.size=some _:=au _ (aH _ rfl);have g3:(zE s.heap t u a b).get? (zB s.heap t u a b).objs.size=some _:=au _ (au _ (aH _ rfl));have g2:(zE s.heap t u a b).get? (zA s.heap t a).objs.size=some _:=au _ (au _ (au _ (aH _ rfl)))
 have g1:(zE s.heap t u a b).get? s.heap.objs.size=some _:=au _ (au _ (au _ (au _ (aH _ rfl))));show _/\_
 rw[C,G,v]at l;rw[I,C]at g3;rw[G]at J;rw[I]at g2;rw[v];refine⟨⟨_,l,rfl⟩,h _ ⟨l,g3,⟨_,_,J⟩,.new g1,.new g2⟩ L fun c o x=>?_⟩
 iterate 5 refine au _ ?_
 exact x
end
def Itz(t u:Bool)(K:qF)(a b:ak):It :=
 ⟨fun i H=>∃xs ys x y,SqB t K H a xs/\SqB u K H b ys/\xs[i]?=some x/\ys[i]?=some y,
  fun i H v l=>∃p x y,H p=none/\v=.ref p/\(∀xs,SqB t K H a xs->xs[i]?=some x)/\(∀ys,SqB u K H b ys->ys[i]?=some y)/\l=upd H p (.tup [x,y]),
  fun i H=>∃xs ys,SqB t K H a xs/\SqB u K H b ys/\(xs.length<=i\/ys.length<=i)⟩
theorem znt{P:aL}{w:aT}{K:qF}{elts:List aV}{x1:_}{pos:Pos}{t u:Bool}{z TI TO G C a b:ak}(D:ZAp z TI TO G C a b) :
  Turn P w K (.Tuple elts x1 pos) (Itz t u K a b) [z,TI,TO,G,C] z (fun i h=>ZSt z TI TO G C (ITB t G a) (ITB u C b) .none i h) where
 mem:=by simp
 obj:=fun i h st c hc=>by
  obtain⟨R,ti,⟨va,U,to⟩,J,L⟩:=st;simp only[ax,aR,or_false]at hc;rcases hc with rfl|rfl|rfl|rfl|rfl
  ·exact⟨_,R,fun v y=>by cases y⟩
  ·exact⟨_,ti,fun v y=>by cases y⟩
  ·exact⟨_,to,fun v y=>by cases y⟩
  ·exact(nx_B (prog:=P) (w:=w) t).rcd _ _ J
  ·exact(nx_B (prog:=P) (w:=w) u).rcd _ _ L
 keep:=fun i h h' st k=>by
  obtain⟨R,ti,⟨va,U,to⟩,J,L⟩:=st;exact⟨k _ (by simp) _ R,k _ (by simp) _ ti,⟨va,U,k _ (by simp) _ to⟩,(nx_B (prog:=P) (w:=w) t).keep _ _ _ J (k _ (by simp)),(nx_B (prog:=P) (w:=w) u).keep _ _ _ L (k _ (by simp))⟩
 item:=by
  intro X hP hw hK hc i pins s σ H E I hf st hg;subst hP hw hK;obtain⟨xs,ys,x,y,q1,q2,hx,hy⟩:=hg;obtain⟨its,r1,p1,z1⟩:=I.seqB q1;obtain⟨jts,r2,p2,z2⟩:=I.seqB q2;obtain⟨S,hux,rux⟩:=r1.get hx;obtain⟨N,huy,ruy⟩:=r2.get hy;refine zrA D (nx_B t) (nx_B u) st p1 p2 (x:=S) (y:=N) (by simpa using hux) (by simpa using huy) fun h' Z pr sz kp=>?_
  refine⟨_,rfl,?_⟩;refine wpAny_letOwnedTupleGo_zip (s:={ s with heap:=h' }) Z.zip fun h2 z2' sb=>?_
  obtain⟨⟨d1,d2,d3,d4,d5,d6,d7,d8,d9,d10⟩,_,_⟩:=zkS D;have big:∀c∈[z,TI,TO,G,C],c<s.heap.objs.size:=fun c hc=>by
   obtain⟨R,ti,⟨va,U,to⟩,J,L⟩:=st;simp only[ax,aR,or_false]at hc;rcases hc with rfl|rfl|rfl|rfl|rfl
   ·exact aD R
   ·exact aD ti
   ·exact aD to
   ·obtain⟨o,e,_⟩:=(nx_B (prog:=X.prog) (w:=X.w) t).rcd _ _ J;exact aD e
   ·obtain⟨o,e,_⟩:=(nx_B (prog:=X.prog) (w:=X.w) u).rcd _ _ L;exact aD e
  have hp:H s.heap.objs.size=none:=I.hok.fresh (aC _);have I1:Inv X pins σ (upd H s.heap.objs.size (.tup [x,y])) { s with heap:=s.heap.push { cls:=.type "tuple",data:=.seq #[S,N] } } :=
   I.laid (t':=s.toks) (fun b o e=>au _ e) (aC _) (show JK X.prog X.w _ _ _ (.tup [x,y]) from⟨by show 2<=sizeLine;decide,[S,N],.cons rux (.cons ruy .nil),IsTD.new _ _⟩)
  have Y:∀c∈[z,TI,TO,G,C],c≠s.heap.objs.size:=fun c hc=>aJ (big c hc)
  have fu:∀c∈[z,TI,TO,G,C],upd H s.heap.objs.size (.tup [x,y]) c=none:=fun c hc=>by rw[Jn (Y c hc)];exact(hf c hc).1
  refine⟨.ref s.heap.objs.size,upd H s.heap.objs.size (.tup [x,y]),?_,rfl,⟨_,x,y,hp,rfl,fun xs' h=>by rw[I.injB h q1];exact hx,fun ys' h=>by rw[I.injB h q2];exact hy,rfl⟩,?_,fu⟩
  ·refine Inv.turnedL (s:={ s with heap:=s.heap.push { cls:=.type "tuple",data:=.seq #[S,N] } }) (t':=s.toks) [z,TO,G,C] I1 (fun c o hc e=>?_) fun c hc=>?_
   ·simp only[ax,aR,or_false,not_or]at hc;refine sb.extBut _ _ hc.1 ?_
    by_cases y:c=s.heap.objs.size
    ·subst y;have e':(s.heap.push { cls:=.type "tuple",data:=.seq #[S,N] }).get? s.heap.objs.size=some _:=aH _ rfl;have e2:some o=some _:=e.symm.trans e';cases e2;exact pr
    ·have e':s.heap.get? c=some o:=by
      have e3:(s.heap.push { cls:=.type "tuple",data:=.seq #[S,N] }).get? c=some o:=e
      rwa [cz _ _ _ y]at e3
     exact kp c o hc.1 hc.2.1 hc.2.2.1 hc.2.2.2 e'
   ·have m:c∈[z,TI,TO,G,C]:=by simp only[ax,aR,or_false]at hc ⊢;rcases hc with h|h|h|h <;> simp[h]
    exact⟨fu c m,(hf c m).2⟩
  ·obtain⟨R,ti,⟨va,U,to⟩,J,L⟩:=Z;exact⟨z2',sb.extBut _ _ d1.symm ti,⟨va,U,sb.extBut _ _ d2.symm to⟩,(nx_B (prog:=X.prog) (w:=X.w) t).keep _ _ _ J fun o e=>sb.extBut _ _ d3.symm e,(nx_B (prog:=X.prog) (w:=X.w) u).keep _ _ _ L fun o e=>sb.extBut _ _ d4.symm e⟩
 done:=by
  intro X hP hw hK hc i pins s σ H E I hf st hg;subst hP hw hK;obtain⟨xs,ys,q1,q2,hx⟩:=hg;obtain⟨its,r1,p1,z1⟩:=I.seqB q1;obtain⟨jts,r2,p2,z2⟩:=I.seqB q2;have l1:=r1.length;have l2:=r2.length;refine zrz (I.ok.hd hc) D (nx_B t) (nx_B u) st p1 p2 (by rcases hx with h|h;exact .inl (by simp;omega);exact .inr (by simp;omega)) fun h' kp=>⟨rfl,?_⟩
  refine Inv.turnedL (t':=s.toks) [z,TO,G,C] I (fun c o hc e=>?_) fun c hc=>hf c ?_
  ·simp only[ax,aR,or_false,not_or]at hc;exact kp c o hc.1 hc.2.1 hc.2.2.1 hc.2.2.2 e
  ·simp only[ax,aR,or_false]at hc ⊢;rcases hc with h|h|h|h <;> simp[h]
 self:=fun _ _ _ _ _ st h=>oj st.zip h
section
variable{X:Cx}{a b:aV}{elts:List aV}{x1:Nat}{p p' pos:Pos}
def iZip(K:qF)(v:TA):TI:=fun σ H R=>v σ H fun x l=>∃(t u:Bool) (c d:ak) (xs ys:List V),x=[.ref c,.ref d]/\SqB t K l c xs/\SqB u K l d ys/\R (Itz t u K c d) l
theorem SQB.lt{t:Bool}{c:ak}{xs:Array ah}{h:aW}(x:SQB t c h xs):c<h.objs.size:=by
 cases t
 ·obtain⟨o,e,_⟩:=x;exact aD e
 ·obtain⟨o,e,_⟩:=x;exact aD e
theorem zpr{n:Nat}{c d:ak}(v:c<n)(x:d<n):ZAp (n+4) (n+2) (n+3) n (n+1) c d:=by
 have ne:∀(e:ak) (k:Nat),e<n->e≠n+k:=fun e k h=>aJ (aE h (gu _ _))
 refine⟨by simp,fun e u=>?_⟩
 have l:e<n:=by
  simp only[ax,aR,or_false]at u;rcases u with rfl|rfl
  ·exact v
  ·exact x
 simp only[ax,aR,or_false,not_or];exact⟨ne e 4 l,ne e 2 l,ne e 3 l,aJ l,ne e 1 l⟩
theorem zsm{S:TA}(hg:Gl X "zip") (hm:X.mg "zip" = none) (ha:PA X [a,b] S) (hs:starEach [a,b] X.env=[(false,eval a X.env),(false,eval b X.env)]) (x:starEach [b] X.env=[(false,eval b X.env)]) :
  PI X (.Tuple elts x1 p') (.Call (.Name "zip" p) [a,b] [] pos) (iZip X.K S):=by
 intro pins s σ H R I h;refine Call_ (ZC I hg hm boot_zip (fW (thn (ha pos pins s σ H _ I h) fun us s1 ⟨vs,Y,v,r1,Z⟩=>?_) (by rw[hs,x]) (by rw[x];rfl)))
 obtain⟨t,u,c,d,xs,ys,rfl,y,J,q⟩:=Z;cases r1 with
 | cons r G =>
  cases G with
  | cons r' G =>
   cases G;cases r;cases r';obtain⟨its,_,U,_⟩:=v.seqB y;obtain⟨jts,_,p2,_⟩:=v.seqB J;refine zre U p2 fun h' st sz kp=>?_
   refine oj (s:={ s1 with heap:=h' }) st.zip ?_
   refine⟨_,_,_,_,Y,rfl,v.kept (t':=s1.toks) kp,znt (zpr U.lt p2.lt),st,fun e L=>?_,q⟩
   have ge:s1.heap.objs.size<=e:=by
    simp only[ax,aR,or_false]at L;rcases L with rfl|rfl|rfl|rfl|rfl
    ·exact gu _ _
    ·exact gu _ _
    ·exact gu _ _
    ·exact aC _
    ·exact gu _ _
   exact v.fpOk ge (v.hok.fresh ge)
theorem srcB{K:qF}{hd:Option ak}{P O:ak->Prop}{H:Hp}{v:V}{t:af}{ts:qD}(R:∀a,¬O a->P a)(r:Rep K hd O H v t)(h:t=.tuple ts\/t=.list ts) :
  ∃(k:Bool) (q:ak) (x:List V),v=.ref q/\SqB k K H q x/\∀(C:ak->Prop) (y:Hp),(∀a o,H a=some o->P a->y a=some o)->(∀a o,H a=some o->¬O a->¬C a)->SqB k K y q x/\Reps K hd C y x ts:=by
 have N:∀x,Reps K hd O H x ts->∀(C:ak->Prop) (y:Hp),(∀a o,H a=some o->P a->y a=some o)->(∀a o,H a=some o->¬O a->¬C a)->Reps K hd C y x ts:=fun x r C y G I =>
  r.mono (fun a o L z=>gz fun no=>I a o L no z) fun a o no L=>G a o L (R a no)
 rcases h with rfl|rfl
 ·cases r with
  | @tup q x ds h o r=>exact⟨true,q,x,rfl,.inl (.inl h),fun C y G I=>⟨.inl (.inl (G q _ h (R q o))),N x r C y G I⟩⟩
  | @tupS q x ds h r=>exact⟨true,q,x,rfl,h.sq,fun C y G I=>⟨h.sq,N x r C y G I⟩⟩
 ·obtain⟨q,x,rfl,J,no,r⟩:=r.lstI;exact⟨false,q,x,rfl,SqL.of J,fun C y G I=>⟨SqL.of (G q _ J (R q no)),N x r C y G I⟩⟩
def zipD(xs ys:qD):List af:=(xs.zip ys).map fun q=>.tuple [q.1,q.2]
def dZip(C db:DTE):DTA:=fun l n R=>C l n fun x v=>db l v fun y u=>J3 x fun xs=>J3 y fun ys=>R (zipD xs ys) u
theorem zjv{t:af}{R:List af->Prop}(h:J3 t R):∃ts,(t=.tuple ts\/t=.list ts)/\R ts:=by
 cases t with
 | list ts=>exact⟨ts,.inr rfl,h⟩
 | tuple ts=>exact⟨ts,.inl rfl,h⟩
 | _=>exact h.elim
theorem zun{da db:DTE}(hm:X.mg "zip" = none) (h:DE X a da) (h':DE X b db) (hg:Gl X "zip":=by rfl) (hs:starEach [a,b] X.env=[(false,eval a X.env),(false,eval b X.env)]:=by rfl) (G:starEach [b] X.env=[(false,eval b X.env)]:=by rfl) :
  DI X (.Tuple elts x1 p') (.Call (.Name "zip" p) [a,b] [] pos) (dZip da db):=by
 obtain⟨ta,pa,h⟩:=h;obtain⟨tb,pb,h'⟩:=h';refine⟨_,zsm hg hm (Um pa (Um pb UX G) (by rw[hs,G])) hs G,fun C ρ σ H n Q R S hd hq=>?_⟩
 refine h C ρ σ H n _ _ S hd fun x n1 v H1 r1 e1 hn1 q1=>?_
 have S1:=S.on e1 hn1;refine h' C ρ σ H1 n1 _ _ S1 r1 fun y n2 w H2 Y e2 hn2 q2=>?_
 have q1':=e2.rep S.hx q1;obtain⟨xs,hx,Y⟩:=zjv Y;obtain⟨ys,hy,Y⟩:=zjv Y;obtain⟨k1,c,vs,rfl,s1,f1⟩:=srcB (P:=fun a=>¬Own C ρ σ a) (fun _ z=>z) q1' hx
 obtain⟨k2,d,ws,rfl,s2,f2⟩:=srcB (P:=fun a=>¬Own C ρ σ a) (fun _ z=>z) q2 hy
 refine⟨k1,k2,c,d,vs,ws,rfl,s1,s2,hq _ n2 _ H2 Y (e1.trans e2) hn2 ?_⟩;intro O2 H3 h1 h2 h3;obtain⟨g1,Z⟩:=f1 O2 H3 h1 h2;obtain⟨g2,L⟩:=f2 O2 H3 h1 h2;refine⟨fun i t I=>?_,?_⟩
 ·unfold zipD at I;rw[bh]at I;cases ez:(xs.zip ys)[i]? with
  | none=>rw[ez]at I;cases I
  | some q =>
   rw[ez]at I;cases I;obtain⟨ex,ey⟩:=List.getElem?_zip_eq_some.mp ez;obtain⟨vx,J,rx⟩:=Z.get ex;obtain⟨vy,U,ry⟩:=L.get ey;refine⟨⟨vs,ws,vx,vy,g1,g2,J,U⟩,fun v H4 hyd=>?_⟩
   obtain⟨pp,x',y',hp,rfl,hx',hy',rfl⟩:=hyd;have e1:x'=vx:=aO ((hx' vs g1).symm.trans J);have e2:y'=vy:=aO ((hy' ws g2).symm.trans U);subst e1 e2;exact⟨JS hp,.newT (fun z=>h3 pp z hp) hp (.cons rx (.cons ry .nil))⟩
 ·refine⟨vs,ws,g1,g2,?_⟩;have:=Z.length;have:=L.length;unfold zipD;simp only[ba,oU];omega
end
section
variable{d da db:DTE}{dlo dhi:DTO}{ρ:En}{n:Nat}{R:qN}{Ro:Option Int->Nat->Prop}{Rl:List af->Nat->Prop}{xs ys:qD}{lo hi:Option Int}{Q:af->Prop}{Ql:List af->Prop}
theorem ztS(h:d ρ n fun t u=>dlo ρ u fun lo l=>dhi ρ l fun hi v=>lSl t lo hi fun z=>Rl z v):dSlL d dlo dhi ρ n Rl:=h
theorem zmh(h:Ro none n):zi2 ρ n Ro:=h
theorem zqK(h:d ρ n fun t l=>lInt t fun i=>Ro (some i) l):zq8 d ρ n Ro:=h
theorem zwp(h:Ql (cutD xs lo hi)):lSl (.list xs) lo hi Ql:=h
theorem ztO(h:da ρ n fun x u=>db ρ u fun y l=>J3 x fun xs=>J3 y fun ys=>Rl (zipD xs ys) l):dZip da db ρ n Rl:=h
end
class Stp (P:Prop)(Q:outParam Prop):Prop where
 go:Q->P
section
variable{t u tb:DTS}{D:JU}{ρ ρ0:En}{n i j m:Nat}{d da db dc d1 d2:DTE}{ds di:DTA}{c c' tt:DTT}{g:G2}{g':G2}{gc:GC}{gd:GD}{tg:DTG}{tgs:DTGs}{R:qN}{Rb:Bool->Nat->Prop}{Rl:List af->Nat->Prop}{Re:En->Prop}{x y:af}{xs ys acc:qD}{f:Int->Int->Int}{fb:af->Bool}{k:Bool}{capt:List Nat}
instance zuX :Stp (sSeq t u D ρ n) ((t { D with nx:=u D } ρ n)):=⟨fun h=>ztF h⟩
instance zrV :Stp (Vn D ρ n) ((D.nx ρ n)):=⟨fun h=>zqF h⟩
instance zuY :Stp (sRet d D ρ n) ((d ρ n fun t n'=>D.rt t n')):=⟨fun h=>ztG h⟩
instance zv1 :Stp (sIf c t u D ρ n) ((c ρ n fun b n1=>if b=true then t D ρ n1 else u D ρ n1)):=⟨fun h=>zwM h⟩
instance zu0 :Stp (sAsg d tg D ρ n) ((d ρ n fun t n'=>tg t ρ fun ρ'=>D.nx ρ' n')):=⟨fun h=>ztJ h⟩
instance zuZ :Stp (sFor di tg tb D ρ n) ((di ρ n fun ts n1=>forP tg tb D ts ρ n1)):=⟨fun h=>ztI h⟩
instance zxc :Stp (dC x ρ n R) ((R x n)):=⟨fun h=>i_dC h⟩
instance zv3 :Stp (dOp g da db ρ n R) ((da ρ n fun x n1=>db ρ n1 fun y n2=>g x y fun z=>R z n2)):=⟨fun h=>zwQ h⟩
instance zva :Stp (dNew ds ρ n R) ((ds ρ n fun ts n'=>R (.list ts) n')):=⟨fun h=>ztW h⟩
instance zu5 :Stp (dTup ds ρ n R) ((ds ρ n fun ts n1=>R (.tuple ts) n1)):=⟨fun h=>ztQ h⟩
instance zu_ :Stp (dNil ρ n Rl) ((Rl [] n)):=⟨fun h=>ztV h⟩
instance zr1 :Stp (Qi d ds ρ n Rl) ((d ρ n fun t n1=>ds ρ n1 fun ts n2=>Rl (t::ts) n2)):=⟨fun h=>zqM h⟩
instance zv4 :Stp (dFn gd ds ρ n R) ((ds ρ n fun ts n1=>gd ts n1 R)):=⟨fun h=>zwR h⟩
instance zvf :Stp (dFnL gd ds ρ n R) ((ds ρ n fun ts n1=>gd ts n1 fun t n2=>JW t=true/\R t n2)):=⟨fun h=>zt1 h⟩
instance zry :Stp (ZM gc ds ρ n R) ((ds ρ n fun ts n1=>gc ts fun z=>R z n1)):=⟨fun h=>zoo h⟩
instance zu2 :Stp (isiD fb d ρ n R) ((d ρ n fun t n1=>lIsi fb t fun z=>R z n1)):=⟨fun h=>ztN h⟩
instance zvh :Stp (dAnd c c' ρ n Rb) ((c ρ n fun b n1=>if b=true then c' ρ n1 Rb else Rb false n1)):=⟨fun h=>zt3 h⟩
instance zv2 :Stp (dOr c c' ρ n Rb) ((c ρ n fun b n1=>if b=true then Rb true n1 else c' ρ n1 Rb)):=⟨fun h=>zwP h⟩
instance zu9 :Stp (dNot c ρ n Rb) ((c ρ n fun b n1=>Rb (!b) n1)):=⟨fun h=>ztU h⟩
instance zr2 :Stp (zra da db ρ n R) ((da ρ n fun t n1=>bolD t fun b=>if b=true then db ρ n1 R else R (.bool false) n1)):=⟨fun h=>zqO h⟩
instance zu8 :Stp (dOrV da db ρ n R) ((da ρ n fun t n1=>bolD t fun b=>if b=true then R (.bool true) n1 else db ρ n1 R)):=⟨fun h=>ztT h⟩
instance zr0 :Stp (zq9 da ρ n R) ((da ρ n fun t n1=>bolD t fun b=>R (.bool (!b)) n1)):=⟨fun h=>zqL h⟩
instance zve :Stp (dIfE c da db ρ n R) ((c ρ n fun b n1=>if b=true then da ρ n1 R else db ρ n1 R)):=⟨fun h=>zt0 h⟩
instance zu6 :Stp (dTru d ρ n Rb) ((d ρ n fun t n'=>truD t fun b=>Rb b n')):=⟨fun h=>ztR h⟩
instance zu4 :Stp (dYes ρ n Rb) ((Rb true n)):=⟨fun h=>ztP h⟩
instance zrT :Stp (UR tgs (.tuple xs) ρ Re) ((tgs xs ρ Re)):=⟨fun h=>zqD h⟩
instance zrU :Stp (UQ [] ρ Re) ((Re ρ)):=⟨fun h=>zqE h⟩
instance zrv :Stp (QY tg tgs (x::xs) ρ Re) ((tg x ρ fun ρ'=>tgs xs ρ' Re)):=⟨fun h=>zok h⟩
instance zrW :Stp (Uc d ρ n Rb) ((d ρ n fun t n'=>bolD t fun b=>Rb b n')):=⟨fun h=>zqH h⟩
instance zvg :Stp (dCat da db ρ n Rl) ((da ρ n fun x n1=>db ρ n1 fun y n2=>lCat x y fun zs=>Rl zs n2)):=⟨fun h=>zt2 h⟩
instance zvd :Stp (dItL d ρ n Rl) ((d ρ n fun t n'=>lLst t fun ts=>Rl ts n')):=⟨fun h=>ztZ h⟩
instance zvc :Stp (dItT d ρ n Rl) ((d ρ n fun t n'=>lTup t fun ts=>Rl ts n')):=⟨fun h=>ztY h⟩
instance zrY :Stp (Zl d ρ n Rl) ((d ρ n fun t n'=>lInt t fun j=>(-(2 ^ 62)<=j/\j<2 ^ 62)/\Rl (QQ 0 j.toNat) n')):=⟨fun h=>zqJ h⟩
instance zvb :Stp (dNeg d ρ n R) ((d ρ n fun t n'=>lInt t fun i=>R (.int (-i)) n')):=⟨fun h=>ztX h⟩
instance zrw :Stp (ZN k d ρ n R) ((d ρ n fun t n'=>lLst t fun ts=>∃bs:List Bool,ts=bs.map cI/\R (.int (countIn (.bool k) (bs.map cI))) n')):=⟨fun h=>zom h⟩
instance zrx :Stp (YI g g' da db dc ρ n R) ((da ρ n fun x n1=>db ρ n1 fun y n2=>g x y fun z=>bolD z fun b=>if b=true then dc ρ n2 fun w n3=>g' y w fun z=>R z n3 else R (.bool false) n2)):=⟨fun h=>zon h⟩
instance zu1 {b:Bool}{A B:Prop}:Stp (if (!b)=true then A else B) ((if b=true then B else A)):=⟨fun h=>ztL h⟩
end
section
variable{C:Int->Int->Prop}{f:Int->Int->Int}{fb:Int->Int->Bool}{i j k:Int}{R:af->Prop}{Rb:Bool->Prop}{xs ys:qD}{s t:Str}{a b:Bool}{u v x y:af}{Rn:qN}{n:Nat}
instance zuW :Stp (oAdd (.int i) (.int j) R) ((R (.int (i+j)))):=⟨fun h=>zty h⟩
instance zuV :Stp (oAdd (.str s) (.str t) R) (((s.length+t.length<=16777216/\R (.str (s++t))))):=⟨fun h=>ztx h⟩
instance zuU :Stp (oAdd (.tuple xs) (.tuple ys) R) (((xs.length+ys.length<=16777216/\R (.tuple (xs++ys))))):=⟨fun h=>ztw h⟩
instance zvX :Stp (oEq (.int i) (.int j) R) ((R (.bool (decide (i=j))))):=⟨fun h=>zwI h⟩
instance zvV :Stp (oEq (.str s) (.str t) R) ((R (.bool (decide (s=t))))):=⟨fun h=>zwG h⟩
instance zvU :Stp (oEq (.tuple xs) (.tuple ys) R) (((Okd (.tuple xs)/\Okd (.tuple ys)/\R (.bool (cT (.tuple xs) (.tuple ys)))))):=⟨fun h=>zwF h⟩
instance zvW :Stp (oEq (.list xs) (.list ys) R) (((Okd (.list xs)/\Okd (.list ys)/\R (.bool (cT (.list xs) (.list ys)))))):=⟨fun h=>zwH h⟩
instance zvJ :Stp (oNe (.int i) (.int j) R) ((R (.bool (!decide (i=j))))):=⟨fun h=>zwt h⟩
instance zvH :Stp (oNe (.str s) (.str t) R) ((R (.bool (!decide (s=t))))):=⟨fun h=>zwr h⟩
instance zvI :Stp (oNe (.list xs) (.list ys) R) (((Okd (.list xs)/\Okd (.list ys)/\R (.bool (!PyData.eqv (.list xs) (.list ys)))))):=⟨fun h=>zws h⟩
instance zvS :Stp (oIs u .none R) ((R (.bool (isNone u)))):=⟨fun h=>zwD h⟩
instance zrS :Stp (oIsN u .none R) ((R (.bool (!isNone u)))):=⟨fun h=>zqA h⟩
instance zrs :Stp (ZF u (.tuple xs) R) (((Okd u/\(∀t∈xs,Okd t)/\R (.bool (!xs.any fun t=>t.eqv u))))):=⟨fun h=>zoe h⟩
instance zvO :Stp (oLtA (.int i) (.int j) R) ((R (.bool (decide (i<j))))):=⟨fun h=>zwy h⟩
instance zvR :Stp (oLeA (.int i) (.int j) R) ((R (.bool (decide (i<=j))))):=⟨fun h=>zwB h⟩
instance zvQ :Stp (oLeA (.str s) (.str t) R) ((R (.bool (!decide (t.cps.toList<s.cps.toList))))):=⟨fun h=>zwA h⟩
instance zuQ :Stp (oIx (.tuple (u::xs)) (.int 0) R) ((R u)):=⟨fun h=>ztr h⟩
instance zuP :Stp (oIx (.tuple (u::v::xs)) (.int 1) R) ((R v)):=⟨fun h=>ztq h⟩
instance zuO {w:af}:Stp (oIx (.tuple (u::v::w::xs)) (.int 2) R) ((R w)):=⟨fun h=>ztp h⟩
instance zuS :Stp (oIx (.list (u::xs)) (.int 0) R) ((R u)):=⟨fun h=>zmb h⟩
instance zuR :Stp (oIx (.list (u::v::xs)) (.int 1) R) ((R v)):=⟨fun h=>ztu h⟩
instance zuI :Stp (truD (.bool a) Rb) ((Rb a)):=⟨fun h=>zti h⟩
instance zuH :Stp (truD (.list xs) Rb) ((Rb (!xs.isEmpty))):=⟨fun h=>zth h⟩
instance zvZ :Stp (bolD (.bool a) Rb) ((Rb a)):=⟨fun h=>zwK h⟩
instance zuN :Stp (bLen [.list xs] R) ((R (.int xs.length))):=⟨fun h=>zto h⟩
instance zuL :Stp (bLen [.tuple xs] R) ((R (.int xs.length))):=⟨fun h=>ztm h⟩
instance zuM :Stp (bLen [.str s] R) (((s.length<=16777216/\R (.int s.length)))):=⟨fun h=>ztn h⟩
instance zrt {ns:List Int}:Stp (bLen [SCR ns] R) ((R (.int ns.length))):=⟨fun h=>zof h⟩
instance zvM :Stp (bMin [.int i,.int j] R) ((R (.int (if j<i then j else i)))):=⟨fun h=>zww h⟩
instance zvN :Stp (bMax [.int i,.int j] R) ((R (.int (if j > i then j else i)))):=⟨fun h=>zwx h⟩
instance zrr :Stp (ZA [.list xs] R) ((R (.tuple xs))):=⟨fun h=>zod h⟩
instance zuJ :Stp (Zo [u] R) (((Shd u/\R (.str u.shown)))):=⟨fun h=>ztk h⟩
instance zrR {Rl:List af->Prop}:Stp (J3 (.list xs) Rl) ((Rl xs)):=⟨fun h=>zqz h⟩
instance zru {Rl:List af->Prop}:Stp (J3 (.tuple xs) Rl) ((Rl xs)):=⟨fun h=>zoh h⟩
instance zvY {Q:List af->Prop}:Stp (lCat (.list xs) (.list ys) Q) (((xs.length+ys.length<=16777216/\Q (xs++ys)))):=⟨fun h=>zwJ h⟩
instance zvP {Q:List af->Prop}:Stp (lLst (.list xs) Q) ((Q xs)):=⟨fun h=>zwz h⟩
instance zvD {Q:List af->Prop}:Stp (lTup (.tuple xs) Q) ((Q xs)):=⟨fun h=>zwn h⟩
instance zvT {i:Int}{Q:Int->Prop}:Stp (lInt (.int i) Q) ((Q i)):=⟨fun h=>zwE h⟩
instance zuK {Q:af->af->Prop}:Stp (Zr [x,y] Q) ((Q x y)):=⟨fun h=>ztl h⟩
instance zvK :Stp (oMul (.int i) (.int j) R) ((CMul i j)/\(R (.int (i*j)))):=⟨fun h=>zwu h.1 h.2⟩
instance zvL :Stp (oMod (.int i) (.int j) R) ((0<j)/\(R (.int (i % j)))):=⟨fun h=>zwv h.1 h.2⟩
instance zuT :Stp (Uv (.int i) (.int j) R) ((Zi i j)/\(R (.int (i / j)))):=⟨fun h=>ztv h.1 h.2⟩
instance zvG :Stp (oShl (.int i) (.int j) R) ((CPow i j)/\(R (.int (i*2 ^ j.toNat)))):=⟨fun h=>zwq h.1 h.2⟩
instance zvE :Stp (oSub (.int i) (.int j) R) ((R (.int (i - j)))):=⟨fun h=>zwo h⟩
instance zvC :Stp (oXor (.int i) (.int j) R) ((R (.int (cL i j)))):=⟨fun h=>zwm h⟩
instance zv0 :Stp (oAnd (.int i) (.int j) R) ((R (.int (gi i j)))):=⟨fun h=>zwL h⟩
instance zw_ :Stp (gB fb (.int i) (.int j) R) ((R (.bool (fb i j)))):=⟨fun h=>j_gB h⟩
instance znD :Stp (lIsi isInt (.int i) R) ((R (.bool true))):=⟨fun h=>ziT h⟩
instance znm :Stp (lIsi isInt (.bool a) R) ((R (.bool true))):=⟨fun h=>zhM h⟩
instance znC :Stp (lIsi isInt (.str s) R) ((R (.bool false))):=⟨fun h=>ziS h⟩
instance zk_ :Stp (lIsi isInt (.tuple xs) R) ((R (.bool false))):=⟨fun h=>zgs h⟩
instance znk :Stp (lIsi isInt (.list xs) R) ((R (.bool false))):=⟨fun h=>zhK h⟩
instance znj :Stp (lIsi isInt (.none) R) ((R (.bool false))):=⟨fun h=>zhJ h⟩
instance znl :Stp (lIsi isInt (.dict []) R) ((R (.bool false))):=⟨fun h=>zhL h⟩
instance znn :Stp (lIsi isBool (.int i) R) ((R (.bool false))):=⟨fun h=>zhN h⟩
instance zla :Stp (lIsi isBool (.bool a) R) ((R (.bool true))):=⟨fun h=>zgt h⟩
instance znz :Stp (lIsi isTup (.int i) R) ((R (.bool false))):=⟨fun h=>ziP h⟩
instance zne :Stp (lIsi isTup (.bool a) R) ((R (.bool false))):=⟨fun h=>zhE h⟩
instance zny :Stp (lIsi isTup (.str s) R) ((R (.bool false))):=⟨fun h=>ziO h⟩
instance zk8 :Stp (lIsi isTup (.tuple xs) R) ((R (.bool true))):=⟨fun h=>zgq h⟩
instance znc :Stp (lIsi isTup (.list xs) R) ((R (.bool false))):=⟨fun h=>zhC h⟩
instance znb :Stp (lIsi isTup (.none) R) ((R (.bool false))):=⟨fun h=>zhB h⟩
instance znd :Stp (lIsi isTup (.dict []) R) ((R (.bool false))):=⟨fun h=>zhD h⟩
instance znB :Stp (lIsi isStr (.int i) R) ((R (.bool false))):=⟨fun h=>ziR h⟩
instance zni :Stp (lIsi isStr (.bool a) R) ((R (.bool false))):=⟨fun h=>zhI h⟩
instance znA :Stp (lIsi isStr (.str s) R) ((R (.bool true))):=⟨fun h=>ziQ h⟩
instance zk9 :Stp (lIsi isStr (.tuple xs) R) ((R (.bool false))):=⟨fun h=>zgr h⟩
instance zng :Stp (lIsi isStr (.list xs) R) ((R (.bool false))):=⟨fun h=>zhG h⟩
instance znf :Stp (lIsi isStr (.none) R) ((R (.bool false))):=⟨fun h=>zhF h⟩
instance znh :Stp (lIsi isStr (.dict []) R) ((R (.bool false))):=⟨fun h=>zhH h⟩
end
section
variable{d da db:DTE}{dlo dhi:DTO}{ρ:En}{n:Nat}{R:qN}{Ro:Option Int->Nat->Prop}{Rl:List af->Nat->Prop}{xs ys:qD}{lo hi:Option Int}{Q:af->Prop}{Ql:List af->Prop}
instance zu7 :Stp (dSlL d dlo dhi ρ n Rl) ((d ρ n fun t n1=>dlo ρ n1 fun lo n2=>dhi ρ n2 fun hi n3=>lSl t lo hi fun z=>Rl z n3)):=⟨fun h=>ztS h⟩
instance zpB :Stp (zi2 ρ n Ro) ((Ro none n)):=⟨fun h=>zmh h⟩
instance zrZ :Stp (zq8 d ρ n Ro) ((d ρ n fun t n'=>lInt t fun i=>Ro (some i) n')):=⟨fun h=>zqK h⟩
instance zu3 :Stp (dZip da db ρ n Rl) ((da ρ n fun x n1=>db ρ n1 fun y n2=>J3 x fun xs=>J3 y fun ys=>Rl (zipD xs ys) n2)):=⟨fun h=>ztO h⟩
instance zvF :Stp (lSl (.list xs) lo hi Ql) ((Ql (cutD xs lo hi))):=⟨fun h=>zwp h⟩
end
section
instance zrX {d:DTE}{ρ:En}{n:Nat}{Rl:List af->Nat->Prop}:Stp (zq7 d ρ n Rl) ((d ρ n fun t n1=>Zs t fun ts=>Rl ts n1)):=⟨fun h=>zqI h⟩
end
section
variable{R:af->Prop}{b:Bool}{A B:Prop}
instance zxa:Stp (if true=true then A else B) A:=⟨fun h=>iteT h⟩
instance zxb:Stp (if false=true then A else B) B:=⟨fun h=>iteF h⟩
end
class GetN (ρ:En)(i:Nat)(c:outParam (Option Cell)):Prop where
 e:ρ[i]?=some c
class SetN (ρ:En)(i:Nat)(c:Option Cell)(ρ':outParam En):Prop where
 e:ρ.set i c=ρ'
instance{a0:Option Cell}{as:En}:GetN (a0::as) 0 a0:=⟨rfl⟩
instance{a0 c:Option Cell}{as:En}:SetN (a0::as) 0 c (c::as):=⟨rfl⟩
instance{a0 a1:Option Cell}{as:En}:GetN (a0::a1::as) 1 a1:=⟨rfl⟩
instance{a0 a1 c:Option Cell}{as:En}:SetN (a0::a1::as) 1 c (a0::c::as):=⟨rfl⟩
instance{a0 a1 a2:Option Cell}{as:En}:GetN (a0::a1::a2::as) 2 a2:=⟨rfl⟩
instance{a0 a1 a2 c:Option Cell}{as:En}:SetN (a0::a1::a2::as) 2 c (a0::a1::c::as):=⟨rfl⟩
instance{a0 a1 a2 a3:Option Cell}{as:En}:GetN (a0::a1::a2::a3::as) 3 a3:=⟨rfl⟩
instance{a0 a1 a2 a3 c:Option Cell}{as:En}:SetN (a0::a1::a2::a3::as) 3 c (a0::a1::a2::c::as):=⟨rfl⟩
instance{a0 a1 a2 a3 c:Option Cell}{as:En}{i:Nat}[h:GetN as i c]:GetN (a0::a1::a2::a3::as) (i+4) c:=⟨h.e⟩
instance{a0 a1 a2 a3 c:Option Cell}{as bs:En}{i:Nat}[h:SetN as i c bs]:SetN (a0::a1::a2::a3::as) (i+4) c (a0::a1::a2::a3::bs):=⟨by rw[<- h.e];rfl⟩
class NormE (ρ:En)(ρ':outParam En):Prop where
 e:ρ=ρ'
instance{a:Option Cell}{as:En}:NormE (a::as) (a::as):=⟨rfl⟩
instance{ρ ρ1 ρ2:En}{i:Nat}{c:Option Cell}[h:NormE ρ ρ1][k:SetN ρ1 i c ρ2]:NormE (ρ.set i c) ρ2:=⟨by rw[h.e];exact k.e⟩
class NoneN (as:En)(nn:outParam En):Prop where
 e:bu as.length none=nn
instance:NoneN [] []:=⟨rfl⟩
instance{a:Option Cell}{as nn:En}[h:NoneN as nn]:NoneN (a::as) (none::nn):=⟨by rw[aN,bY,h.e]⟩
class StartN (N:List Str)(ts:qD)(ρ:outParam En):Prop where
 e:Qa N ts=ρ
instance:StartN [] [] []:=⟨rfl⟩
instance{x:Str}{N:List Str}{ρ:En}[h:StartN N [] ρ]:StartN (x::N) [] (none::ρ):=⟨by
 have:=h.e;simp only[Qa,fG,dG,cE,tS]at this ⊢;rw[aN,bY,this]⟩
instance{x:Str}{N:List Str}{t:af}{ts:qD}{ρ:En}[h:StartN N ts ρ]:StartN (x::N) (t::ts) (some (.val t)::ρ):=⟨by
 have:=h.e;simp only[Qa]at this ⊢;rw[cj,aN,aN,cQ,Nat.add_sub_add_right,this]⟩
theorem zj3{d:DTS}{D:JU}{n:Nat}{N:List Str}{ts:qD}{l:En}[e:StartN N ts l](h:d D l n):d D (Qa N ts) n:=e.e.symm▸h
class CapN (is:List Nat)(ρ:En)(out:outParam En):Prop where
 e:(is.map fun i=>capV (ρ.getD i none))=out
class CapC (c:Option Cell)(c':outParam (Option Cell)):Prop where
 e:capV c=c'
instance{d:af}:CapC (some (.val d)) (some (.val d)):=⟨rfl⟩
instance{d:qD}:CapC (some (.own d)) none:=⟨rfl⟩
instance:CapC none none:=⟨rfl⟩
instance{ρ:En}:CapN [] ρ []:=⟨rfl⟩
instance{i:Nat}{is:List Nat}{ρ out:En}{c c':Option Cell}[g:GetN ρ i c][k:CapC c c'][h:CapN is ρ out]:CapN (i::is) ρ (c'::out):=⟨by
 have ge:=g.e;rw[cj,h.e,bz,ge,fo,k.e]⟩
class CompN (m:Nat)(capt:List Nat)(ρ:En)(ρ':outParam En):Prop where
 e:JB m capt ρ=ρ'
instance{x:Str}{capt:List Nat}{ρ out:En}[h:CapN capt ρ out]:CompN (dQ [x]) capt ρ (none::out):=⟨by unfold JB;rw[h.e];rfl⟩
instance{x y:Str}{capt:List Nat}{ρ out:En}[h:CapN capt ρ out]:CompN (dQ [x,y]) capt ρ (none::none::out):=⟨by unfold JB;rw[h.e];rfl⟩
instance{x y z:Str}{capt:List Nat}{ρ out:En}[h:CapN capt ρ out]:CompN (dQ [x,y,z]) capt ρ (none::none::none::out):=⟨by unfold JB;rw[h.e];rfl⟩
instance{x y z u:Str}{capt:List Nat}{ρ out:En}[h:CapN capt ρ out]:CompN (dQ [x,y,z,u]) capt ρ (none::none::none::none::out):=⟨by unfold JB;rw[h.e];rfl⟩
def SetK(i:Nat)(c:Option Cell)(K:En->Nat->Prop)(l:En)(n:Nat):Prop:=K (l.set i c) n
section
variable{t u:DTS}{D:JU}{ρ ρ0 ρ':En}{n i j m:Nat}{d dj:DTE}{ds di:DTA}{tt:DTT}{tg:DTG}{R:qN}{Rl:List af->Nat->Prop}{Re:En->Prop}{x:af}{xs:qD}{f:Int->Int->Int}{capt:List Nat}{c:Option Cell}{K:En->Nat->Prop}{q:Int}
instance zxj [h:SetN ρ i c ρ']:Stp (SetK i c K ρ n) (K ρ' n):=⟨fun k=>by unfold SetK;rw[h.e];exact k⟩
instance zw4:Stp (sSet i d D ρ n) (d ρ n fun t n'=>SetK i (some (.val t)) D.nx ρ n'):=⟨fun h=>h⟩
instance zw5:Stp (sOwn i ds D ρ n) (ds ρ n fun t n'=>SetK i (some (.own t)) D.nx ρ n'):=⟨fun h=>h⟩
instance zuF [h:SetN ρ i (some (.val x)) ρ']:Stp (Qk i x ρ Re) (Re ρ'):=⟨fun k=>by unfold Qk;rw[h.e];exact k⟩
instance zxf [h:GetN ρ i (some (.val x))]:Stp (dVar i ρ n R) (R x n):=⟨fun k=>zpd h.e k⟩
instance zxg [h:GetN ρ i (some (.own xs))]:Stp (dOwn i ρ n R) (R (.list xs) n):=⟨fun k=>zpe h.e k⟩
instance zvk [h:GetN ρ i (some (.own xs))]:Stp (Y2 i d D ρ n) (d ρ n fun t n'=>xs.length<16777216/\SetK i (some (.own (xs++[t]))) D.nx ρ n'):=⟨fun k=>zjz h.e k⟩
instance zvi [h:GetN ρ i (some (.own xs))][h':SetN ρ i (some (.val (.list xs))) ρ']:Stp (Z1 i t D ρ n) (t D ρ' n):=⟨fun k=>zjy h.e (by rw[h'.e];exact k)⟩
instance zxn:Stp (sPar i j ds D ρ n) (ds ρ n fun ts n'=>Zr ts fun t u=>SetK i (some (.val t)) (fun ρ1 n1=>SetK j (some (.val u)) D.nx ρ1 n1) ρ n'):=⟨fun h=>ztH h⟩
instance zxh [h:CompN m capt ρ ρ0]:Stp (dComp m capt di tg tt d ρ n Rl) (di ρ n fun ts n1=>JT tg tt d ρ0 ts [] n1 Rl):=⟨fun k=>zqN (by rw[h.e];exact k)⟩
theorem zsc{D:JU}{ρ:En}{i:Nat}{xs:qD}{x:af}{n:Nat}{j:Int}{k:Nat}(e:ixN xs.length j=some k)(h:SetK i (some (.own (xs.set k x))) D.nx ρ n) :
  (match ixN xs.length j with|some k=>D.nx (ρ.set i (some (.own (xs.set k x)))) n|none=>False):=by rw[e];exact h
instance zxm [h:GetN ρ i (some (.own xs))]:Stp (sPut i dj d D ρ n) (d ρ n fun t n1=>UU ρ i D dj t n1 xs):=⟨fun k=>zwN h.e k⟩
instance zw6:Stp (UU ρ i D dj x n xs) (dj ρ n fun j n2=>lInt j fun j=>(match ixN xs.length j with|some k=>D.nx (ρ.set i (some (.own (xs.set k x)))) n2|none=>False)):=⟨fun h=>ztK h⟩
end
theorem Qo{l:En}{i:Nat}:l.set i (l.getD i none)=l:=by
 apply nH
 intro j
 by_cases h:i=j
 ·subst h
  by_cases hl:i<l.length
  ·rw[cc hl,bz,aw hl];rfl
  ·rw[cn (by simp;omega),cn (by omega)]
 ·rw[aS h]
section
variable{g:DTG}{tb:DTS}{D:JU}{ts:qD}{ρ:En}{n:Nat}
theorem zpj(C:Nat)(Inv:Nat->Option Cell->Nat->Prop){v:Option Cell->En}[N:∀l,NormE (ρ.set C l) (v l)](h0:Inv 0 (ρ.getD C none) n)
  (turn:∀(k:Nat) (t:af) (l:Option Cell) (m:Nat) (K:En->Nat->Prop) (I:qN) (J:En->Nat->Prop),ts[k]?=some t->Inv k l m->(∀x G,Inv (k+1) x G->K (v x) G)->(∀t m,D.rt t m->I t m)->(∀ρ m,D.nx ρ m->J ρ m)->g t (v l) fun u=>tb { nx:=K,rt:=I,bk:=J,ct:=K,xr:=D.xr } u m)
  (fin:∀l m,Inv ts.length l m->D.nx (v l) m):forP g tb D ts ρ n:=by
 refine UJ (fun k u m=>∃l,u=(ρ.set C l)/\Inv k l m) ⟨_,?_,h0⟩ ?_ ?_
 ·rw[Qo]
 ·rintro k t u m K e ⟨l,rfl,y⟩ hK;rw[(N l).e];exact turn k t l m K D.rt D.nx e y (fun x G h=>(N x).e▸hK _ _ ⟨x,rfl,h⟩) (fun _ _ h=>h) (fun _ _ h=>h)
 ·rintro u m ⟨l,rfl,y⟩;rw[(N l).e];exact fin l m y
theorem zud(G J:Nat)(Inv:Nat->Option Cell->Option Cell->Nat->Prop){v:Option Cell->Option Cell->En}[N:∀l a1,NormE ((ρ.set G l).set J a1) (v l a1)](h0:Inv 0 (ρ.getD G none) (ρ.getD J none) n)
  (turn:∀(k:Nat) (t:af) (l a1:Option Cell) (m:Nat) (K:En->Nat->Prop) (L:qN) (R:En->Nat->Prop),ts[k]?=some t->Inv k l a1 m->(∀x y I,Inv (k+1) x y I->K (v x y) I)->(∀t m,D.rt t m->L t m)->(∀ρ m,D.nx ρ m->R ρ m)->g t (v l a1) fun u=>tb { nx:=K,rt:=L,bk:=R,ct:=K,xr:=D.xr } u m)
  (fin:∀l a1 m,Inv ts.length l a1 m->D.nx (v l a1) m):forP g tb D ts ρ n:=by
 refine UJ (fun k u m=>∃l a1,u=((ρ.set G l).set J a1)/\Inv k l a1 m) ⟨_,_,?_,h0⟩ ?_ ?_
 ·rw[Qo,Qo]
 ·rintro k t u m K e ⟨l,a1,rfl,C⟩ hK;rw[(N l a1).e];exact turn k t l a1 m K D.rt D.nx e C (fun x y I h=>(N x y).e▸hK _ _ ⟨x,y,rfl,h⟩) (fun _ _ h=>h) (fun _ _ h=>h)
 ·rintro u m ⟨l,a1,rfl,C⟩;rw[(N l a1).e];exact fin l a1 m C
theorem zuc(J R G:Nat)(Inv:Nat->Option Cell->Option Cell->Option Cell->Nat->Prop){v:Option Cell->Option Cell->Option Cell->En}[N:∀l a1 a2,NormE (((ρ.set J l).set R a1).set G a2) (v l a1 a2)](h0:Inv 0 (ρ.getD J none) (ρ.getD R none) (ρ.getD G none) n)
  (turn:∀(k:Nat) (t:af) (l a1 a2:Option Cell) (m:Nat) (K:En->Nat->Prop) (S:qN) (U:En->Nat->Prop),ts[k]?=some t->Inv k l a1 a2 m->(∀y C x L,Inv (k+1) y C x L->K (v y C x) L)->(∀t m,D.rt t m->S t m)->(∀ρ m,D.nx ρ m->U ρ m)->g t (v l a1 a2) fun u=>tb { nx:=K,rt:=S,bk:=U,ct:=K,xr:=D.xr } u m)
  (fin:∀l a1 a2 m,Inv ts.length l a1 a2 m->D.nx (v l a1 a2) m):forP g tb D ts ρ n:=by
 refine UJ (fun k u m=>∃l a1 a2,u=(((ρ.set J l).set R a1).set G a2)/\Inv k l a1 a2 m) ⟨_,_,_,?_,h0⟩ ?_ ?_
 ·rw[Qo,Qo,Qo]
 ·rintro k t u m K e ⟨l,a1,a2,rfl,I⟩ hK;rw[(N l a1 a2).e];exact turn k t l a1 a2 m K D.rt D.nx e I (fun y C x L h=>(N y C x).e▸hK _ _ ⟨y,C,x,rfl,h⟩) (fun _ _ h=>h) (fun _ _ h=>h)
 ·rintro u m ⟨l,a1,a2,rfl,I⟩;rw[(N l a1 a2).e];exact fin l a1 a2 m I
theorem zpi(S Y L J:Nat)(Inv:Nat->Option Cell->Option Cell->Option Cell->Option Cell->Nat->Prop){x:Option Cell->Option Cell->Option Cell->Option Cell->En}[N:∀l a1 a2 u,NormE ((((ρ.set S l).set Y a1).set L a2).set J u) (x l a1 a2 u)](h0:Inv 0 (ρ.getD S none) (ρ.getD Y none) (ρ.getD L none) (ρ.getD J none) n)
  (turn:∀(k:Nat) (t:af) (l a1 a2 u:Option Cell) (m:Nat) (K:En->Nat->Prop) (Z:qN) (BK:En->Nat->Prop),ts[k]?=some t->Inv k l a1 a2 u m->(∀C I y G U,Inv (k+1) C I y G U->K (x C I y G) U)->(∀t m,D.rt t m->Z t m)->(∀ρ m,D.nx ρ m->BK ρ m)->g t (x l a1 a2 u) fun v=>tb { nx:=K,rt:=Z,bk:=BK,ct:=K,xr:=D.xr } v m)
  (fin:∀l a1 a2 u m,Inv ts.length l a1 a2 u m->D.nx (x l a1 a2 u) m):forP g tb D ts ρ n:=by
 refine UJ (fun k v m=>∃l a1 a2 u,v=((((ρ.set S l).set Y a1).set L a2).set J u)/\Inv k l a1 a2 u m) ⟨_,_,_,_,?_,h0⟩ ?_ ?_
 ·rw[Qo,Qo,Qo,Qo]
 ·rintro k t v m K e ⟨l,a1,a2,u,rfl,R⟩ hK;rw[(N l a1 a2 u).e];exact turn k t l a1 a2 u m K D.rt D.nx e R (fun C I y G U h=>(N C I y G).e▸hK _ _ ⟨C,I,y,G,rfl,h⟩) (fun _ _ h=>h) (fun _ _ h=>h)
 ·rintro v m ⟨l,a1,a2,u,rfl,R⟩;rw[(N l a1 a2 u).e];exact fin l a1 a2 u m R
theorem zub(Y i1 S R i4:Nat)(Inv:Nat->Option Cell->Option Cell->Option Cell->Option Cell->Option Cell->Nat->Prop){y:Option Cell->Option Cell->Option Cell->Option Cell->Option Cell->En}[N:∀l a1 a2 v u,NormE (((((ρ.set Y l).set i1 a1).set S a2).set R v).set i4 u) (y l a1 a2 v u)](h0:Inv 0 (ρ.getD Y none) (ρ.getD i1 none) (ρ.getD S none) (ρ.getD R none) (ρ.getD i4 none) n)
  (turn:∀(k:Nat) (t:af) (l a1 a2 v u:Option Cell) (m:Nat) (K:En->Nat->Prop) (RT:qN) (BK:En->Nat->Prop),ts[k]?=some t->Inv k l a1 a2 v u m->(∀G L C J I Z,Inv (k+1) G L C J I Z->K (y G L C J I) Z)->(∀t m,D.rt t m->RT t m)->(∀ρ m,D.nx ρ m->BK ρ m)->g t (y l a1 a2 v u) fun x=>tb { nx:=K,rt:=RT,bk:=BK,ct:=K,xr:=D.xr } x m)
  (fin:∀l a1 a2 v u m,Inv ts.length l a1 a2 v u m->D.nx (y l a1 a2 v u) m):forP g tb D ts ρ n:=by
 refine UJ (fun k x m=>∃l a1 a2 v u,x=(((((ρ.set Y l).set i1 a1).set S a2).set R v).set i4 u)/\Inv k l a1 a2 v u m) ⟨_,_,_,_,_,?_,h0⟩ ?_ ?_
 ·rw[Qo,Qo,Qo,Qo,Qo]
 ·rintro k t x m K e ⟨l,a1,a2,v,u,rfl,U⟩ hK;rw[(N l a1 a2 v u).e];exact turn k t l a1 a2 v u m K D.rt D.nx e U (fun G L C J I Z h=>(N G L C J I).e▸hK _ _ ⟨G,L,C,J,I,rfl,h⟩) (fun _ _ h=>h) (fun _ _ h=>h)
 ·rintro x m ⟨l,a1,a2,v,u,rfl,U⟩;rw[(N l a1 a2 v u).e];exact fin l a1 a2 v u m U
theorem zol{i j:Nat}{u:DTS}{D:JU}{G nn C y:En}{n:Nat}{ns:List Int}{k:Int}[ej:GetN (some (.val (SCR ns))::G) j (some (.val (.int k)))][e1:NoneN G nn][e2:SetN (some (.val (SCR ns))::nn) j (some (.val (.int k))) C][e3:SetN C i (some (.val HAND)) y](R:ns.length<=63)(k0:0<=k)(k1:k<=100)
  (h:∀(N:En->Nat->Prop) (I:qN) (J L:En->Nat->Prop),(∀x m,D.nx (JL x) n->N x m)->(∀b m,D.rt (.bool b) n->I (.bool b) m)->(∀x m,D.bk (JL x) n->J x m)->(∀x m,D.ct (JL x) n->L x m) ->
   u { nx:=N,rt:=I,bk:=J,ct:=L } y 0):Yw i j u D (some (.val (SCR ns))::G) n:=by
 refine zqG (ρd:=some (.val (SCR ns))::nn) rfl ej.e R k0 k1 ?_ ?_
 ·show some (Cell.val (SCR ns))::bu (dQ (some (Cell.val (SCR ns))::G) - 1) none=_
  rw[aN,Nat.add_sub_cancel,e1.e]
 ·rw[e2.e,e3.e];exact h _ _ _ _ (fun _ _ h=>h) (fun b _ h=>⟨b,rfl,h⟩) (fun _ _ h=>h) (fun _ _ h=>h)
theorem zpu{c:DTT}{tb:DTS}{D:JU}{ρ:En}{n:Nat}(Inv:Nat->En->Nat->Prop){m:Nat}(h0:Inv m ρ n)
  (turn:∀m ρ n (K:En->Nat->Prop) (y:qN) (x:En->Nat->Prop),Inv m ρ n->(∀u l v,u<m->Inv u l v->K l v)->(∀t m,D.rt t m->y t m)->(∀ρ m,D.nx ρ m->x ρ m) ->
   c ρ n fun b C=>if b=true then tb { nx:=K,rt:=y,bk:=x,ct:=K,xr:=D.xr } ρ C else x ρ C):zlb c tb D ρ n :=
 zgJ Inv h0 fun m ρ n h=>turn m ρ n (fun l v=>∃u,u<m/\Inv u l v) D.rt D.nx h (fun u _ _ a b=>⟨u,a,b⟩) (fun _ _ h=>h) (fun _ _ h=>h)
end
open Builtin Builtin.Str
def cutS(x:Str)(lo hi:Option Int):Str:=⟨((x.cps.toList.drop (HT.sIx x.length 0 lo)).take (HT.sIx x.length x.length hi - HT.sIx x.length 0 lo)).toArray⟩
theorem VN(n d:Nat)(i:Int):((HT.sIx n d (some i):Nat):Int)=max 0 (min (if i<0 then i+(n:Int) else i) (n:Int)):=by
 simp only[HT.sIx]
 by_cases h:i<0
 ·simp only[h,if_true] <;> lia
 ·simp only[h,if_false] <;> lia
theorem zrJ(lo hi:Option Int)(n:Nat):strSliceIndices lo hi 1 n=sliceRange ((HT.sIx n 0 lo:Nat):Int) ((HT.sIx n n hi:Nat):Int) 1:=by
 have u:((HT.sIx n 0 none:Nat):Int)=0:=by simp[HT.sIx]
 have l:((HT.sIx n n none:Nat):Int)=n:=by simp[HT.sIx]
 cases lo with
 | none =>
  cases hi with
  | none=>rw[u,l];rfl
  | some j=>rw[u,VN];rfl
 | some i =>
  cases hi with
  | none=>rw[l,VN];rfl
  | some j=>rw[VN,VN];rfl
theorem zk5(x:Str)(lo hi:Option Int):om x lo hi=cutS x lo hi:=by
 have e:strSliceIndices lo hi 1 x.length=(fD (HT.sIx x.length x.length hi - HT.sIx x.length 0 lo)).map (HT.sIx x.length 0 lo+·):=by rw[zrJ,pF]
 have v:(strSliceIndices lo hi 1 x.length).filterMap (x.cps[·]?)=(x.cps.toList.drop (HT.sIx x.length 0 lo)).take (HT.sIx x.length x.length hi - HT.sIx x.length 0 lo):=by rw[e,uX]
 unfold om;split
 ·rename_i h;have u:(strSliceIndices lo hi 1 x.length).length=x.length:=by simpa using h
  rw[e,ba,List.length_range]at u;unfold cutS;have y:HT.sIx x.length x.length hi<=x.length:=by
   cases hi with
   | none=>simp[HT.sIx]
   | some i=>simp only[HT.sIx];split <;> lia
  have z:HT.sIx x.length 0 lo=0\/x.length=0:=by lia
  have:(x.cps.toList.drop (HT.sIx x.length 0 lo)).take (HT.sIx x.length x.length hi - HT.sIx x.length 0 lo)=x.cps.toList:=by
   have sz:x.cps.toList.length=x.length:=by simp[kZ]
   rcases z with z|z
   ·rw[z,ka,cP (by lia)]
   ·have:x.cps.toList=[]:=gU.mp (by lia)
    rw[this];simp
  rw[this]
 ·rw[v];rfl
section
variable{X:Cx}
theorem zfO{v:ah}{p:Option Int}(h:kH v p):∃l:Option (Int×Tok),v=partValue l/\l.map (·.1)=p:=by
 cases h with
 | none=>exact⟨none,rfl,rfl⟩
 | int i t=>exact⟨some (i,t),rfl,rfl⟩
def rSlS:V->Option Int->Option Int->Hp->VK->Prop:=fun x lo hi H Q=>∃z,x=.str z/\z.length<=sizeLine/\Q (.str (cutS z lo hi)) H
theorem zrP:SlR X rSlS:=by
 intro pins s σ H x v U S lo hi L Q I G N pl J h;obtain⟨z,rfl,R,q⟩:=h;obtain⟨t,rfl⟩:=G;obtain⟨l,rfl,rfl⟩:=zfO pl;obtain⟨u,rfl,rfl⟩:=zfO J;have C:s.heap.IsSlice L l u none:=N;refine⟨"str",_,F.slot_str_getitem.lookup,pE _ _ _,wpAny_getItem_str_slice (l:=l) (u:=u) (st:=none) C rfl (post_val_or_str ?_)⟩;have e:(if (((none:Option (Int×Tok)).map (·.1)).getD 1 == 1&&(slicePicked z l u none).length == z.length)=true then z else⟨((slicePicked z l u none).filterMap (z.cps[·]?)).toArray⟩)=om z (l.map (·.1)) (u.map (·.1)):=rfl
 rw[e];refine⟨cB (Txt.slice_le z _ _) R,fun t' k=>⟨.str (om z (l.map (·.1)) (u.map (·.1))),H,I.tok _,⟨_,rfl⟩,?_⟩⟩
 rw[zk5];exact q
def oSlA(t:af)(lo hi:Option Int)(R:af->Prop):Prop:=match t with
 | .tuple ts=>R (.tuple (cutD ts lo hi))
 | .str x=>x.length<=16777216/\R (.str (cutS x lo hi))
 | _=>False
def dSlA(d:DTE)(dl y:DTO):DTE:=fun l n R=>d l n fun t v=>dl l v fun lo u=>y l u fun hi x=>oSlA t lo hi fun z=>R z x
variable{e a b iter tg:aV}{d da db:DTE}{lo hi:Option aV}{dlo dhi:DTO}{pos p2:Pos}
theorem VP(h:DL X e d)(U:DP X lo dlo)(Y:DP X hi dhi):DE X (.Subscript e (.Slice lo hi none p2) pos) (dSlA d dlo dhi):=by
 obtain⟨ta,pa,h⟩:=h;obtain⟨tl,pl,U⟩:=U;obtain⟨tu,pu,Y⟩:=Y;refine⟨_,zjl (SlR.or (SlR.or zrO zpy) zrP) pa pl pu,fun C ρ σ H n Q R S hd hq=>?_⟩
 refine h C ρ σ H n _ _ S hd fun t n1 v H1 r1 N h1 q1=>?_
 have S1:=S.on N h1;refine U C ρ σ H1 n1 _ _ S1 r1 fun lo n2 H2 r2 I h2=>?_
 have S2:=S1.on I h2;refine Y C ρ σ H2 n2 _ _ S2 r2 fun hi n3 H3 G y J=>?_
 have S3:=S2.on y J;have Z:=(I.trans y).repT S.hx q1;cases t with
 | tuple ts =>
  obtain⟨a,x,rfl,hs,rs⟩:=Z.tupI
  by_cases w:HT.sIx x.length 0 lo=0/\HT.sIx x.length x.length hi=x.length
  ·refine .inl (.inr ⟨a,x,rfl,hs,w,hq _ n3 _ H3 G (N.trans (I.trans y)) J ?_⟩);rw[zkJ (by rw[<- rs.length];exact w)]
   exact Z.rep (by intro _ z;cases z)
  ·refine .inl (.inl ⟨a,x,rfl,hs,w,fun p L=>hq _ n3 _ _ G (N.trans (I.trans (y.trans (ExtE.new L)))) (J.same (JS L)) ?_⟩)
   exact .newT (S3.free L) L (zjN rs lo hi)
 | str z =>
  rw[Z.strI];exact .inr ⟨z,rfl,G.1,hq _ n3 _ H3 G.2 (N.trans (I.trans y)) J (.str _)⟩
 | _=>exact G.elim
def repS(x:Str)(n:Int):Str:=⟨(bu n.toNat x.cps.toList).flatten.toArray⟩
theorem zhW(x:Array Nat):∀(n:Nat) (u:Array Nat),(bu n x).foldl (·++·) u=(u.toList++(bu n x.toList).flatten).toArray
 | 0,u=>by simp
 | n+1,u=>by
  rw[bY,oN,zhW x n,bY,nK];simp
theorem zp5:OpR X (binaryOp .Mult) (fun x y H Q=>∃i j,x=.str i/\y=.int j/\-100000<=j/\j<=100000/\i.length<=100/\Q (.str (repS i j)) H):=by
 intro pins s σ H x y v u Q I G S h;obtain⟨i,j,rfl,rfl,j0,j1,hi,q⟩:=h;obtain⟨t,rfl⟩:=G;obtain⟨t',rfl⟩:=S;have U:decide (j < -(2 ^ 63:Int))=false:=decide_eq_false (by lia)
 have N:decide (j>=2 ^ 63)=false:=decide_eq_false (by lia)
 have C:∀n:Nat,n<=100000->i.length*n<=10000000:=fun n L=>Nat.mul_le_mul hi L
 refine P.mul_str (by rw[U,N];rfl) (fun R _ h2=>?_) (fun R _=>?_) ?_
 ·have h3:(100:Int)<=(2 ^ 63 - 1) / j:=by
   apply Int.le_ediv_of_mul_le (by lia)
   lia
  lia
 ·have:=C j.toNat (by lia)
  unfold tooLong;exact decide_eq_false (by have:sizeLine=16777216:=rfl;lia)
 ·by_cases c1:j<1
  ·rw[if_pos c1];have e:repS i j=iR:=by
    unfold repS;rw[show j.toNat=0 by lia];rfl
   rw[e]at q;exact⟨by decide,.str iR,H,I.tok _,⟨_,rfl⟩,q⟩
  ·rw[if_neg c1]
   by_cases c2:(j == 1||i.length == 0)=true
   ·rw[if_pos c2];have e:repS i j=i:=by
     unfold repS;rw[Bool.or_eq_true,beq_iff_eq,beq_iff_eq]at c2;rcases c2 with c2|c2
     ·subst c2;simp
     ·have z:i.cps.toList=[]:=gU.mp (by simpa[kZ] using c2)
      have J:i.cps=#[]:=by
       have:=congrArg List.toArray z;simpa using this
      rw[z];have:(bu j.toNat ([]:List Nat)).flatten=[]:=by simp
      rw[this,<- J]
    rw[e]at q;exact⟨.str i,H,I,⟨_,rfl⟩,q⟩
   ·rw[if_neg c2];have e:repS i j=⟨(bu j.toNat i.cps).foldl (·++·) #[]⟩:=by
     unfold repS;rw[zhW];simp
    rw[e]at q;refine⟨?_,.str _,H,I.tok _,⟨_,rfl⟩,q⟩;have:=C j.toNat (by lia)
    show(⟨(bu j.toNat i.cps).foldl (·++·) #[]⟩:Str).length<=sizeLine
    rw[<- e];unfold repS kZ;rw[aF,List.length_flatten,List.map_replicate,List.sum_replicate_nat,cS];have Z:sizeLine=16777216:=rfl;have Y:j.toNat*i.cps.size=i.length*j.toNat:=by rw[lC];rfl
    lia
def Vm:G2
 | .int i,.int j,R=>CMul i j/\R (.int (i*j))
 | .str i,.int j,R=>-100000<=j/\j<=100000/\i.length<=100/\R (.str (repS i j))
 | _,_,_=>False
theorem zp6:OpR X (binaryOp .Mult) (fun x y H Q=>(rI CMul fun i j=>.int (i*j)) x y H Q\/∃i j,x=.str i/\y=.int j/\-100000<=j/\j<=100000/\i.length<=100/\Q (.str (repS i j)) H):=OpR.or Q5 zp5
theorem zqR:Gp2 X (fun x y H Q=>(rI CMul fun i j=>.int (i*j)) x y H Q\/∃i j,x=.str i/\y=.int j/\-100000<=j/\j<=100000/\i.length<=100/\Q (.str (repS i j)) H) Vm:=by
 intro hd O H x y t u Q R dom C G g v;unfold Vm at g;split at g
 ·rw[C.intI,G.intI];exact .inl ⟨_,_,rfl,rfl,g.1,v _ _ H g.2 (Same.refl _) (.int _)⟩
 ·rw[C.strI,G.intI];exact .inr ⟨_,_,rfl,rfl,g.1,g.2.1,g.2.2.1,v _ _ H g.2.2.2 (Same.refl _) (.str _)⟩
 ·exact g.elim
theorem zq4(v:DL X a da)(x:DL X b db):DE X (.BinOp a .Mult b pos) (dOp Vm da db):=QT zp6 zqR v x
end
def Its(z:Str):It:=⟨fun i _=>i<z.cps.size,fun i H x l=>l=H/\∃c,z.cps[i]?=some c/\x=.str ⟨#[c]⟩,fun i _=>z.cps.size<=i⟩
theorem znu{P:aL}{w:aT}{K:qF}{tg:aV}(z:Str)(t:Tok)(it:ak)(T:String)(L:T = "str_ascii_iterator" \/ T = "str_iterator"):Turn P w K tg (Its z) [it] it (fun i h=>h.IsStrIter it T z t i) where
 mem:=by simp
 obj:=fun i h st b C=>by
  have e:b=it:=by simpa using C
  subst e;obtain⟨o,e,c,d⟩:=st;exact⟨o,e,fun v z=>by rw[d]at z;cases z⟩
 keep:=fun i h h' st k=>by
  obtain⟨o,e,r⟩:=st;exact⟨o,k it (by simp) o e,r⟩
 item:=by
  intro X Z hw Y hc i pins s σ H E I hf st G;subst Z hw Y;obtain⟨f0,f1,f2,S,f4,R⟩:=hf it (by simp)
  have G:i<z.cps.size:=G;have J:z.cps[i]?=some z.cps[i]:=by simp[G]
  have fin:∀h',h'.IsStrIter it T z t (i+1)->eG it s.heap h'->∃u,some (iQ ⟨#[z.cps[i]]⟩ s.toks)=some u /\
    wpAny (model X.prog X.w) X.A (letOwnedTupleGo tg (.ref it) u) (fun _ s2=>∃x H',Inv X pins σ H' s2/\RelV x u/\(Its z).yld i H x H'/\s2.heap.IsStrIter it T z t (i+1)/\∀b∈[it],H' b=none) E { s with heap:=h',toks:=s.toks+1 }:=by
   intro h' N sb;have I1:Inv X pins σ H { s with heap:=h',toks:=s.toks+1 }:=I.turned (t':=s.toks+1) (fun b o C e=>(sb.2 b C).trans e) f0 f1 S f4 R
   obtain⟨o,e,c,d⟩:=id N;have ne:(T = "enumerate")=False:=by rcases L with rfl|rfl <;> decide
   refine⟨_,rfl,Vi (s:={ s with heap:=h',toks:=s.toks+1 }) (n:=T) e c d (by rcases L with rfl|rfl <;> decide) ⟨.str ⟨#[z.cps[i]]⟩,H,I1,⟨_,rfl⟩,⟨rfl,_,J,rfl⟩,N,fun b C=>(hf b C).1⟩⟩
  rcases L with rfl|rfl
  ·exact wpAny_pyNext_ascii_item st J fin
  ·exact wpAny_pyNext_wide_item st J fin
 done:=by
  intro X Z hw Y hc i pins s σ H E I hf st G;subst Z hw Y;obtain⟨f0,f1,f2,S,f4,R⟩:=hf it (by simp)
  have G:z.cps.size<=i:=G;have J:z.cps[i]?=none:=by simp[G]
  rcases L with rfl|rfl
  ·exact wpAny_pyNext_ascii_end (I.ok.hd hc) st J fun h' U=>⟨rfl,I.turned (t':=s.toks) (fun b o C e=>U b o C e) f0 f1 S f4 R⟩
  ·exact wpAny_pyNext_wide_end (I.ok.hd hc) st J fun h' U=>⟨rfl,I.turned (t':=s.toks) (fun b o C e=>U b o C e) f0 f1 S f4 R⟩
 self:=fun _ _ _ _ _ st h=>by
  rcases L with rfl|rfl
  ·exact wpAny_pyIter_striter_ascii st h
  ·exact wpAny_pyIter_striter_wide st h
section
variable{X:Cx}{tg iter:aV}{d:DTE}
def iStr(l:TE):TI:=fun σ H R=>l σ H fun x u=>∃z,x=.str z/\R (Its z) u
theorem zso{l:aV}{C:TE}(G:PE X l C):PI X tg l (iStr C):=by
 intro pins s σ H R I h;refine thn (G pins s σ H _ I h) fun v s1 ⟨x,J,u,S,L⟩=>?_
 obtain⟨z,rfl,q⟩:=L;obtain⟨t,rfl⟩:=S;have key:∀T,(T = "str_ascii_iterator" \/ T = "str_iterator")->PIE X pins σ tg R (.ref s1.heap.objs.size) { s1 with heap:=s1.heap.push { cls:=.type T,data:=.fields #[.str z t,.int 0 0] } }:=by
  intro T N;refine⟨s1.heap.objs.size,[s1.heap.objs.size],_,_,J,rfl,u.kept (t':=s1.toks) fun b o e=>au _ e,znu z t _ T N,⟨_,aH _ rfl,rfl,rfl⟩,fun b U=>?_,q⟩
  have e:b=s1.heap.objs.size:=by simpa using U
  subst e;exact u.fpOk (aC _) (u.hok.fresh (aC _))
 cases ha:z.cps.all (·<128)
 ·exact wpAny_pyIter_wide ha (key _ (.inr rfl))
 ·exact wpAny_pyIter_ascii ha (key _ (.inl rfl))
def sgnD(z:Str):List af:=z.cps.toList.map fun c=>.str ⟨#[c]⟩
theorem ztE{K:qF}{hd:Option ak}{P O:ak->Prop}{H:Hp}{z:Str}:ItOk K hd P O H (Its z) (sgnD z):=by
 intro N L _ _ _;have sz:z.cps.toList.length=z.cps.size:=by simp
 refine⟨fun i t u=>?_,by show z.cps.size<=(sgnD z).length;unfold sgnD;rw[ba];lia⟩
 unfold sgnD at u;rw[bh]at u;cases ec:z.cps.toList[i]? with
 | none=>rw[ec]at u;cases u
 | some c =>
  rw[ec]at u;cases u;obtain⟨hi,I⟩:=az.mp ec;have y:i<z.cps.size:=by lia
  have v:z.cps[i]?=some c:=by rw[<- cK];exact ec
  refine⟨y,fun x R G=>?_⟩
  obtain⟨rfl,J,C,rfl⟩:=G;rw[v]at C;cases C;exact⟨Same.refl _,.str _⟩
def lStr:af->(Str->Prop)->Prop
 | .str z,R=>R z
 | _,_=>False
def dItS(d:DTE):DTA:=fun u n R=>d u n fun t l=>lStr t fun z=>R (sgnD z) l
theorem zuo(h:DE X iter d):DI X tg iter (dItS d):=by
 obtain⟨J,pa,h⟩:=h;refine⟨_,zso pa,fun C x σ H n Q R S hd G=>?_⟩
 refine h C x σ H n _ _ S hd fun t u v I r y l q=>?_
 cases t with
 | str z =>
  rw[q.strI];exact⟨z,rfl,G _ u _ I r y l ztE⟩
 | _=>exact r.elim
end
section
variable{X:Cx}{a b:aV}{rest:List aV}{ta tb:TE}{da db:DTE}{pos:Pos}
def tOrA(K:qF)(ta tb:TE):TE:=fun σ H Q=>ta σ H fun x l=>∃k,TruV K x l k/\if k=true then Q x l else tb σ l Q
theorem zst(R:PE X a ta)(U:PE X (.BoolOp .Or (b::rest) pos) tb):PE X (.BoolOp .Or (a::b::rest) pos) (tOrA X.K ta tb):=by
 intro pins s σ H Q I h;refine BoolOp_or (thn (R pins s σ H _ I h) fun v s1 ⟨x,y,N,J,u⟩=>?_)
 obtain⟨k,e,u⟩:=u;refine thn (zoQ pins s1 σ y x v (fun c S=>c=k/\S=y) N J ⟨k,e,rfl,rfl⟩) fun c s2 L=>?_
 obtain⟨G,C,rfl,rfl⟩:=L;cases c with
 | false=>exact U pins s2 σ G Q C u
 | true=>exact⟨x,G,C,J,u⟩
def dOrA(da db:DTE):DTE:=fun l n R=>da l n fun t u=>truD t fun b=>if b=true then R t u else db l u R
theorem zus(h:DE X a da)(h':DE X (.BoolOp .Or (b::rest) pos) db):DE X (.BoolOp .Or (a::b::rest) pos) (dOrA da db):=by
 obtain⟨ta,pa,h⟩:=h;obtain⟨tb,pb,h'⟩:=h';refine⟨_,zst pa pb,fun C G σ H n Q R S hd L=>?_⟩
 refine h C G σ H n _ _ S hd fun t I v u r x J y=>?_
 refine zoR (Q:=fun k u=>if k=true then Q v u else tb σ u Q) (.inl y) r fun b N=>?_
 cases b with
 | true=>exact iteT (L _ I _ u N x J y)
 | false=>exact iteF (h' C G σ u I Q R (S.on x J) N fun t U v Y r e2 Z q2=>L t U v Y r (x.trans e2) Z q2)
end
section
variable{ρ:En}{n:Nat}{d da db:DTE}{dlo dhi:DTO}{R:qN}{Rl:List af->Nat->Prop}{Q:af->Prop}{xs:qD}{lo hi:Option Int}{x:Str}{i j:Int}{Ql:List af->Prop}
instance zxo:Stp (dOrA da db ρ n R) (da ρ n fun t n1=>truD t fun b=>if b=true then R t n1 else db ρ n1 R):=⟨fun h=>h⟩
instance zxl:Stp (dSlA d dlo dhi ρ n R) (d ρ n fun t n1=>dlo ρ n1 fun lo n2=>dhi ρ n2 fun hi n3=>oSlA t lo hi fun z=>R z n3):=⟨fun h=>h⟩
instance zw2:Stp (oSlA (.tuple xs) lo hi Q) (Q (.tuple (cutD xs lo hi))):=⟨fun h=>h⟩
instance zw3:Stp (oSlA (.str x) lo hi Q) (x.length<=16777216/\Q (.str (cutS x lo hi))):=⟨fun h=>h⟩
instance zw8:Stp (Vm (.str x) (.int j) Q) (-100000<=j/\j<=100000/\x.length<=100/\Q (.str (repS x j))):=⟨fun h=>h⟩
instance zxp:Stp (dItS d ρ n Rl) (d ρ n fun t n'=>lStr t fun z=>Rl (sgnD z) n'):=⟨fun h=>h⟩
instance zw9 {Rs:Str->Prop}:Stp (lStr (.str x) Rs) (Rs x):=⟨fun h=>h⟩
end
mutual
def plnD:af->Bool
 | .dict []=>true
 | .dict _=>false
 | .tuple ts=>decide (ts.length<=1000000)&&Yv ts
 | .list ts=>decide (ts.length<=1000000)&&Yv ts
 | .str x=>decide (x.length<=1000000)
 | _=>true
def Yv:List af->Bool
 | []=>true
 | t::ts=>plnD t&&Yv ts
end
def PlnD(d:af):Prop:=plnD d=true
theorem Wc:∀{ts:qD},Yv ts=true↔∀t∈ts,PlnD t
 | []=>by simp[Yv]
 | t::ts=>by
  rw[Yv,aK,Wc (ts:=ts)];constructor
  ·rintro⟨a,b⟩ u l;rcases ax.mp l with rfl|l
   ·exact a
   ·exact b u l
  ·intro h;exact⟨h t (by simp),fun u l=>h u (by simp[l])⟩
theorem PlnD.tup{ts:qD}(h:PlnD (.tuple ts)):ts.length<=1000000/\∀t∈ts,PlnD t:=by
 unfold PlnD plnD at h;rw[aK,decide_eq_true_iff,Wc]at h;exact h
theorem PlnD.str{x:Str}(h:PlnD (.str x)):x.length<=1000000:=by
 unfold PlnD plnD at h;exact decide_eq_true_iff.mp h
theorem Q7{ts:qD}(l:ts.length<=1000000)(h:∀t∈ts,PlnD t):PlnD (.tuple ts):=by
 unfold PlnD plnD;rw[aK,decide_eq_true_iff,Wc];exact⟨l,h⟩
theorem zf8{ts:qD}(l:ts.length<=1000000)(h:∀t∈ts,PlnD t):PlnD (.list ts):=by
 unfold PlnD plnD;rw[aK,decide_eq_true_iff,Wc];exact⟨l,h⟩
theorem Qn{x:Str}(h:x.length<=1000000):PlnD (.str x):=by unfold PlnD plnD;exact decide_eq_true h
theorem JG{i:Int}:PlnD (.int i):=by unfold PlnD plnD;rfl
theorem zhb{i:Bool}:PlnD (.bool i):=by unfold PlnD plnD;rfl
theorem Wb:PlnD .none:=by unfold PlnD plnD;rfl
theorem zlq:PlnD (.dict []):=by unfold PlnD plnD;rfl
theorem JH:∀t∈([]:qD),PlnD t:=fun t h=>nomatch h
theorem Jm{x:af}{xs:qD}(h:PlnD x)(h':∀t∈xs,PlnD t):∀t∈x::xs,PlnD t:=fun t l=>by
 rcases ax.mp l with rfl|l
 ·exact h
 ·exact h' t l
theorem PlnD.pln{d:af}(h:PlnD d):Pln d:=by
 cases d with
 | dict l =>
  cases l with
  | nil=>exact Uh
  | cons a b=>cases a with|mk x y=>simp[PlnD,plnD]at h
 | none=>exact Uj
 | bool=>exact Q8
 | int=>exact Ua
 | str=>exact Uo
 | list=>exact Ui
 | tuple=>exact Uk
def IsNm(s:Str):Prop:=1<=s.length/\s.length<=8/\∀c∈s.cps.toList,97<=c/\c<=122
def nmS(s:Str):Bool:=decide (1<=s.length)&&decide (s.length<=8)&&s.cps.toList.all fun c=>decide (97<=c)&&decide (c<=122)
theorem ziH{s:Str}:nmS s=true↔IsNm s:=by
 unfold nmS IsNm;simp only[aK,decide_eq_true_iff,bG,and_assoc]
def nmD:af->Bool
 | .str s=>nmS s
 | _=>false
theorem Qs(s:Str):s.cps.toList.length=s.length:=by simp[kZ]
theorem zlG{a b:Nat}:(([a]:List Nat)<[b])↔a<b:=by
 constructor
 ·intro h;cases h with
  | rel h=>exact h
  | cons h=>cases h
 ·intro h;exact .rel h
theorem zqr{a c:Nat}:(!decide (([c]:List Nat)<[a]))=decide (a<=c):=by
 rw[<- decide_not];exact decide_eq_decide.mpr (by rw[zlG];lia)
theorem zja(a b:Str):(a++b).cps.toList=a.cps.toList++b.cps.toList:=by
 show(a.cps++b.cps).toList=_
 simp
theorem Str.ext'{a b:Str}(h:a.cps.toList=b.cps.toList):a=b:=by
 cases a with|mk a =>
 cases b with|mk b =>
 have:a=b:=og.mp h;rw[this]
theorem zts{x:Str}{i:Int}{k c:Nat}{R:af->Prop}(l:x.length<=16777216)(hi:i=(k:Int))(e:x.cps.toList[k]?=some c)(h:R (.str ⟨#[c]⟩)):oIx (.str x) (.int i) R:=by
 subst hi;have a:atI x.cps.toList (k:Int)=some c:=Bd.ze9 (by lia) (by simpa using e)
 show x.length<=16777216/\(match atI x.cps.toList (k:Int) with|some c=>R (.str ⟨#[c]⟩)|none=>False)
 rw[a];exact⟨l,h⟩
theorem letters{k:Nat}(h:k<26):(aa "abcdefghijklmnopqrstuvwxyz").cps.toList[k]?=some (97+k):=by
 have:∀i:Fin 26,(aa "abcdefghijklmnopqrstuvwxyz").cps.toList[i.val]?=some (97+i.val):=by decide +kernel
 exact this ⟨k,h⟩
theorem zeW{x:Str}{i:Int}{k:Nat}(h:i=(k:Int)):(cutS x none (some i)).cps.toList=x.cps.toList.take k:=by
 subst h;unfold cutS;rw[HT.zf4,HT.zlc];simp only[ka,tS];rw[<- Qs x];simp[List.take_eq_take_iff]
theorem zh3{x:Str}{i:Int}{k:Nat}(h:i=(k:Int))(l:k<=x.length):(cutS x (some i) none).cps.toList=x.cps.toList.drop k:=by
 subst h;unfold cutS;rw[HT.zf4,HT.zlc,lI l];show(List.take _ (List.drop k x.cps.toList))=_
 rw[cP (by rw[eI,Qs];lia)]
def OkK(k:Nat)(t:af):Prop:=t.canLay0=true/\t.depth<=k
theorem OkK.okd{k:Nat}{t:af}(h:OkK k t)(l:k<=60:=by decide):Okd t:=⟨h.1,cB h.2 l⟩
theorem zqf{i:Int}:OkK 0 (.int i):=⟨by simp[bT],by simp[cZ]⟩
theorem znY:OkK 0 .none:=⟨by simp[bT],by simp[cZ]⟩
theorem zqd{s:Str}(h:bT (.str s)=true):OkK 0 (.str s):=⟨h,by simp[cZ]⟩
theorem OkK.mono{k u:Nat}{t:af}(h:OkK k t)(l:k<=u):OkK u t:=⟨h.1,cB h.2 l⟩
theorem ziG{k:Nat}:∀{ts:qD},(∀t∈ts,OkK k t)->bE ts=true/\bZ ts<=k
 | [],_=>⟨by simp[bE],by simp[bZ]⟩
 | t::ts,h=>by
  obtain⟨a,b⟩:=ziG (ts:=ts) fun u l=>h u (by simp[l])
  have c:=h t (by simp)
  refine⟨by simp[bE,c.1,a],?_⟩
  have:=c.2;simp only[bZ];lia
theorem zlN{k:Nat}{ts:qD}(h:∀t∈ts,OkK k t):OkK (k+1) (.tuple ts):=by
 obtain⟨a,b⟩:=ziG h;exact⟨by simpa only[bT] using a,by simp only[cZ];lia⟩
theorem zqe{k:Nat}{ts:qD}(h:∀t∈ts,OkK k t):OkK (k+1) (.list ts):=by
 obtain⟨a,b⟩:=ziG h;exact⟨by simpa only[bT] using a,by simp only[cZ];lia⟩
theorem zsT{b:Int×Int}:OkK 1 (prD b):=zlN fun t l=>by
 simp only[ax,aR,or_false]at l;rcases l with rfl|rfl <;> exact zqf
theorem Vo{s:Str}(h:IsNm s):OkK 0 (.str s):=zqd (by
 simp only[bT];show(s.cps.all (·<0x110000))=true
 rw[<- Array.all_toList,bG];intro c hc;have:=h.2.2 c hc;exact decide_eq_true (by lia))
theorem zov{xs:qD}:cT (.list xs) (.list [])=xs.isEmpty:=by
 cases xs with
 | nil=>rfl
 | cons a b=>rfl
theorem Wf{α:Type}{cs:List α}{D:α->af}{I:DTG}{tt:DTT}{d:DTE}{v:En}{n:Nat}{L:List af->Nat->Prop}(p:α->Bool)(F:α->af)(R:cs.length<=16777216)
  (step:∀b∈cs,∀(K:qN) (X:Nat->Prop),(p b=true->K (F b) n)->(p b=false->X n)->I (D b) v fun y=>tt y n fun c J=>if c=true then d y J K else X J) (fin:L ((cs.filter p).map F) n):JT I tt d v (cs.map D) [] n L:=by
 refine zmT (fun j u m=>m=n/\u=((cs.take j).filter p).map F) ⟨rfl,rfl⟩ ?_ ?_
 ·rintro j x u m K C ⟨rfl,rfl⟩ hK;rw[bh]at C;cases eb:cs[j]? with
  | none=>rw[eb]at C;cases C
  | some b =>
   rw[eb]at C;cases C;obtain⟨N,S⟩:=az.mp eb;have tk:cs.take (j+1)=cs.take j++[b]:=by rw[dU,eb];rfl
   refine step b (aX eb) _ _ (fun G=>⟨?_,hK _ _ ⟨rfl,?_⟩⟩) (fun G=>hK _ _ ⟨rfl,?_⟩)
   ·have:=fV p (cs.take j);simp at this ⊢;lia
   ·rw[tk,mX,fN];simp[G]
   ·rw[tk,mX,fN];simp[G]
 ·rintro u m ⟨rfl,rfl⟩;rw[ba,fv];exact fin
theorem znJ{x:Str}{n:Int}:(repS x n).cps.toList=(bu n.toNat x.cps.toList).flatten:=rfl
theorem ztt{xs:qD}{r:Int}{R:af->Prop}(v:0<=r)(y:r<xs.length)(h:∀x∈xs,R x):oIx (.list xs) (.int r) R:=by
 have u:r.toNat<xs.length:=by omega
 rw[Zu (Bd.ze9 v (aw u))];exact h _ (dM u)
theorem zoI{ts:qD}:cutD ts none (some (-1))=ts.take (ts.length - 1):=by
 unfold cutD;have e:HT.sIx ts.length ts.length (some (-1))=ts.length - 1:=by
  have:HT.sIx ts.length ts.length (some (-1))=if (-1:Int)<0 then((-1:Int)+(ts.length:Int)).toNat else min (-1:Int).toNat ts.length:=by
   first|rfl|(unfold HT.sIx;rfl)|(simp[HT.sIx];done)
  rw[this,if_pos (by decide)];omega
 rw[HT.zf4,e];simp
section
variable{prog:aL}{w:aT}{A:br}{R:nY->aq->Prop}{s:aq}{elt tg1 it1 tg2 it2:aV}{HR HC:List aV}{scope:fA}{pos:Pos}{it acc:ah}{env:Env}
theorem zh6(it acc:ah)(env:Env):compTurn (.ListComp elt [⟨tg1,it1,HR,0⟩,⟨tg2,it2,HC,0⟩] scope pos) 0 it acc env=(do
      standAt it1.pos
      match <- pyNext it with
      | none=>pure (.done .next)
      | some v =>
       letOwnedTupleGo tg1 it v
       assign tg1 env v
       let mut ok:=true
       for c in HR do
        if ok then ok <- isTrue c env (eval c env)
       if ok then
        let x <- eval it2 env
        standAt it2.pos
        let x <- foldedSetIterable it2 env x
        let _ <- runOwn (.compStart (.ListComp elt [⟨tg1,it1,HR,0⟩,⟨tg2,it2,HC,0⟩] scope pos) 1 (<- holding [x] (pyIter x)) acc env) env
       again (.compLoop (.ListComp elt [⟨tg1,it1,HR,0⟩,⟨tg2,it2,HC,0⟩] scope pos) 0 it acc env)):=by rfl
theorem zi3(it acc:ah)(env:Env):compTurn (.ListComp elt [⟨tg1,it1,HR,0⟩,⟨tg2,it2,HC,0⟩] scope pos) 1 it acc env=(do
      standAt it2.pos
      match <- pyNext it with
      | none=>pure (.done .next)
      | some v =>
       letOwnedTupleGo tg2 it v
       assign tg2 env v
       let mut ok:=true
       for c in HC do
        if ok then ok <- isTrue c env (eval c env)
       if ok then
        (do let _ <- call (.builtin "list.append") [acc,<- eval elt env])
       again (.compLoop (.ListComp elt [⟨tg1,it1,HR,0⟩,⟨tg2,it2,HC,0⟩] scope pos) 1 it acc env)):=by rfl
theorem zns(I:Nat->aq->Prop)
  (turn:∀n s,I n s->wpAny (model prog w) A (pyNext it) (fun r G=>match r with
   | none=>R (.ok .next) G
   | some v=>wpAny (model prog w) A (letOwnedTupleGo tg2 it v) (fun _ S=>wpAny (model prog w) A (assign tg2 env v) (fun _ N =>
     wpAny (model prog w) A (forIn HC true fun c r=>if r=true then do let ok <- isTrue c env (eval c env);pure (cw ok) else pure (cw r)) (fun ok y =>
      if ok=true then wpAny (model prog w) A (eval elt env) (fun x U=>wpAny (model prog w) A (call (.builtin "list.append") [acc,x]) (fun _ Y=>∃m,m<n/\I m Y) NoX U) NoX y
      else ∃m,m<n/\I m y) NoX N) NoX S) NoX G) NoX s) (n:Nat) (h:I n s) :
  codeAny (model prog w) A (.compLoop (.ListComp elt [⟨tg1,it1,HR,0⟩,⟨tg2,it2,HC,0⟩] scope pos) 1 it acc env) R s:=by
 refine nA rfl I (fun n s hI=>?_) n h
 show wpAny _ A ((compTurn (.ListComp elt [⟨tg1,it1,HR,0⟩,⟨tg2,it2,HC,0⟩] scope pos) 1 it acc env).onRaise (fun x=>do noteFrame x env;theTreesLotGoes x)) _ _ s
 refine oA (c8 (E:=NoX) ?_ (fun _ _ q=>q) fun _ _ z=>cx z)
 rw[zi3];refine ae (dN (ae (thn (turn n s hI) fun r G Z=>?_)))
 cases r with
 | none=>exact aj Z
 | some v =>
  refine ae (thn Z fun _ S h₂=>ae (thn h₂ fun _ N h₃=>ae (thn h₃ fun ok y J=>?_)))
  cases ok with
  | false=>exact aj ⟨rfl,J⟩
  | true =>
   refine ae (ae (thn J fun x U h₅=>ae (thn h₅ fun _ Y h₆=>?_)))
   exact aj (aj ⟨rfl,h₆⟩)
theorem zkX(hs:∀x,foldedSetIterable it2 env x=pure x)(I:Nat->aq->Prop)
  (turn:∀n s,I n s->wpAny (model prog w) A (pyNext it) (fun r u=>match r with
   | none=>R (.ok .next) u
   | some v=>wpAny (model prog w) A (letOwnedTupleGo tg1 it v) (fun _ J=>wpAny (model prog w) A (assign tg1 env v) (fun _ G =>
     wpAny (model prog w) A (forIn HR true fun c r=>if r=true then do let ok <- isTrue c env (eval c env);pure (cw ok) else pure (cw r)) (fun ok l =>
      if ok=true then wpAny (model prog w) A (eval it2 env) (fun x N=>wpAny (model prog w) A (pyIter x) (fun itv Y =>
       codeAny (model prog w) A (.compStart (.ListComp elt [⟨tg1,it1,HR,0⟩,⟨tg2,it2,HC,0⟩] scope pos) 1 itv acc env) (fun r U=>r=.ok .next/\∃m,m<n/\I m U) Y) NoX N) NoX l
      else ∃m,m<n/\I m l) NoX G) NoX J) NoX u) NoX s) (n:Nat) (h:I n s) :
  codeAny (model prog w) A (.compLoop (.ListComp elt [⟨tg1,it1,HR,0⟩,⟨tg2,it2,HC,0⟩] scope pos) 0 it acc env) R s:=by
 refine nA rfl I (fun n s hI=>?_) n h
 show wpAny _ A ((compTurn (.ListComp elt [⟨tg1,it1,HR,0⟩,⟨tg2,it2,HC,0⟩] scope pos) 0 it acc env).onRaise (fun x=>do noteFrame x env;theTreesLotGoes x)) _ _ s
 refine oA (c8 (E:=NoX) ?_ (fun _ _ q=>q) fun _ _ z=>cx z)
 rw[zh6];refine ae (dN (ae (thn (turn n s hI) fun r u Z=>?_)))
 cases r with
 | none=>exact aj Z
 | some v =>
  refine ae (thn Z fun _ J h₂=>ae (thn h₂ fun _ G h₃=>ae (thn h₃ fun ok l y=>?_)))
  cases ok with
  | false=>exact aj ⟨rfl,y⟩
  | true =>
   refine ae (thn y fun x N h₅=>ae (dN (ae (wpAny_of_eq (hs x) (ae (cg (thn h₅ fun itv Y h₆=>?_)))))))
   refine ae (wpAny_runOwn (iL h₆ fun r U h₇=>?_))
   obtain⟨rfl,m,hm,hI'⟩:=h₇;exact aj ⟨rfl,m,hm,hI'⟩
theorem znw
  (h0:codeAny (model prog w) A (.compLoop (.ListComp elt [⟨tg1,it1,HR,0⟩,⟨tg2,it2,HC,0⟩] scope pos) 1 it acc env) R s)
  (h:wpAny (model prog w) A (pyIter it) (fun l s'=>codeAny (model prog w) A (.compLoop (.ListComp elt [⟨tg1,it1,HR,0⟩,⟨tg2,it2,HC,0⟩] scope pos) 1 l acc env) R s')
   (notedBy (model prog w) A env fun x s'=>R (.error x) s') s) :
  codeAny (model prog w) A (.compStart (.ListComp elt [⟨tg1,it1,HR,0⟩,⟨tg2,it2,HC,0⟩] scope pos) 1 it acc env) R s:=by
 refine codeAny_of_tree ?_;show wpAny _ _ ((compStart (.ListComp elt [⟨tg1,it1,HR,0⟩,⟨tg2,it2,HC,0⟩] scope pos) 1 it acc env).onRaise (fun x=>do noteFrame x env;standAt theWindowsPlace)) _ _ s
 refine wpAny_notedAt ?_;unfold compStart;show wpAny _ _ (PySem.ask >>= _) _ _ s
 refine ae (wpAny_askSetting (wpAny_ite ?_));split
 ·first
   | exact ae (aj (aj (mm rfl h0)))
   | exact aj (mm rfl h0)
 ·first
   | exact ae (dw (ae (dN (ae (c8 h (fun l s' h'=>aj (mm rfl h')) fun _ _ x=>x)))))
   | (refine ae (dw ?_);show wpAny _ _ (standAt it2.pos >>= _) _ _ s;exact ae (dN (ae (c8 h (fun l s' h'=>aj (mm rfl h')) fun _ _ x=>x))))
end
def Zy(g:TG)(tt:TT)(U:TE)(σ:St)(J:It)(S:Hp)(D:ak)(Q:Hp->Prop):Prop:=∃W:Nat->Nat->Hp->Prop,(∃m,W 0 m S)/\∀i m C,W i m C ->
 (J.stop i C/\Q C)\/(J.go i C/\∃(N:V->Hp->Prop) (L:Hp->Prop),(∀v I,N v I->∃ys,I D=some (.lst ys)/\ys.length<sizeLine/\∃y,y<m/\W (i+1) y (upd I D (.lst (ys++[v]))))/\(∀G,L G->∃y,y<m/\W (i+1) y G) /\
  ∀x R,J.yld i C x R->g x σ R fun u Y=>Wk σ u/\tt u Y fun b G=>if b=true then U u G N else L G)
section
variable{Y:Cx}{elt tg1 it1 tg2 it2:aV}{HR HC:List aV}{scope:fA}{pos:Pos}{g:TG}{tt:TT}{te:TE}
theorem zmg(u:Y.xe=NoX)(hc:Y.calm=true)(hg:PG Y tg2 g)(ht:PTs Y HC tt)(he:PE Y elt te){pins:qO}{σ:St}{D:ak}{G:ah}{s:aq}{Q:Hp->Prop}{R:nY->aq->Prop}
  (h:PIE Y pins σ tg2 (fun J H1=>Zy g tt te σ J H1 D Q) G s) (hR:∀s' U,Inv Y pins σ U s'->Q U->R (.ok .next) s') :
  codeAny (model Y.prog Y.w) Y.A (.compStart (.ListComp elt [⟨tg1,it1,HR,0⟩,⟨tg2,it2,HC,0⟩] scope pos) 1 G (.ref D) Y.env) R s:=by
 obtain⟨it,fp,tn,J,H2,e,I2,T,I,f2,W,⟨m0,w0⟩,turn⟩:=h;subst e;have loop:codeAny (model Y.prog Y.w) Y.A (.compLoop (.ListComp elt [⟨tg1,it1,HR,0⟩,⟨tg2,it2,HC,0⟩] scope pos) 1 (.ref it) (.ref D) Y.env) R s:=by
  refine zns (CompI Y pins σ fp tn W) ?_ m0 ⟨0,_,I2,I,fun b Z=>(f2 b Z).1,w0⟩
  rintro n s4 ⟨i,H4,I4,st4,fr4,w4⟩;refine zf0 u hc hg ht T (fun hn b Z=>⟨hn b Z,(f2 b Z).2⟩) I4 st4 fr4 ?_
  rcases turn i n H4 w4 with⟨stop,qn⟩|⟨go,N,N',hN,hN',step⟩
  ·exact .inl ⟨stop,fun s5 I5=>hR _ _ I5 qn⟩
  ·refine .inr ⟨go,fun σ4 H5=>te σ4 H5 N,N',fun {p6 σ7 H8 s8} I8 q8 again=>?_,hN',step⟩
   have a3:=he _ s8 σ7 H8 N I8 q8;rw[u]at a3;refine thn a3 fun y s9 ⟨v,H9,I9,r9,q9⟩=>?_
   obtain⟨ys,hD,hl,m',hm,w9⟩:=hN v H9 q9;have a4:=zeC (X:=Y) _ s9 σ7 H9 (.ref D) [v] _ [y] (fun _ U=>U=upd H9 D (.lst (ys++[v]))) I9 rfl (.cons r9 .nil) ⟨_,ys,v,rfl,rfl,hD,hl,rfl⟩
   rw[u]at a4;refine thn a4 fun _ s10 ⟨_,H10,I10,_,q10⟩=>?_
   subst q10;exact again I10 hm w9
 exact znw loop (T.self Y.A 0 _ _ _ I loop)
end
def zm_(own:List Str)(capt:List Nat)(g:TG)(tt:TT)(I:TI)(g2:TG)(L:TT)(Z:TE)(σ:St)(J:It)(U:Hp)(D:ak)(Q:VK):Prop:=∃W:Nat->Nat->Hp->Prop,(∃m,W 0 m (upd U D (.lst [])))/\∀i m y,W i m y ->
 (J.stop i y/\Q (.ref D) y)\/(J.go i y/\∃(N R:Hp->Prop),(∀G,N G->∃v,v<m/\W (i+1) v G)/\(∀C,R C->∃v,v<m/\W (i+1) v C) /\
  ∀x S,J.yld i y x S->g x (Jx own++capS capt σ) S fun u H4=>Wk (Jx own++capS capt σ) u/\tt u H4 fun b C=>if b=true then I u C (fun Y G=>Zy g2 L Z u Y G D N) else R C)
def zrG(own:List Str)(capt:List Nat)(x:TI)(g:TG)(tt:TT)(l:TI)(g2:TG)(u:TT)(y:TE):TE:=fun σ H Q=>x σ H fun J v=>∀D,v D=none->zm_ own capt g tt l g2 u y σ J v D Q
section
variable{X:Cx}{scope:fA}{own:List Str}{capt:List Nat}{elt tg iter tg2 it2:aV}{ifs HC:List aV}{pos:Pos}{wi wi2:TI}{g g2:TG}{tt tt2:TT}{te:TE}
theorem zmQ(hc:X.calm=true)(S:JN scope own capt X)
  (hg:∀C s₀ H₀ v,PG (Jg X scope own capt C s₀ H₀ v) tg g) (ht:∀C s₀ H₀ v,PTs (Jg X scope own capt C s₀ H₀ v) ifs tt) (hi2:∀C s₀ H₀ v,PI (Jg X scope own capt C s₀ H₀ v) tg2 it2 wi2)
  (hg2:∀C s₀ H₀ v,PG (Jg X scope own capt C s₀ H₀ v) tg2 g2) (ht2:∀C s₀ H₀ v,PTs (Jg X scope own capt C s₀ H₀ v) HC tt2) (he:∀C s₀ H₀ v,PE (Jg X scope own capt C s₀ H₀ v) elt te)
  (hs2:∀(C:ak) (x:ah),foldedSetIterable it2 (compEnvC scope (closed X.env scope.names []) C X.env) x=pure x)
  {pins:qO} {σ:St} {Q:VK} {R:ah} {s2:aq} {E:qV} {RR:ah->ak->nY->aq->Prop}
  (h2:PIE X pins σ tg (fun J H1=>∀D,H1 D=none->zm_ own capt g tt wi2 g2 tt2 te σ J H1 D Q) R s2)
  (hR:∀D C s' U,(∃m,s'.heap.Ns C m)->(∀h'',eG C s'.heap h''->Inv X pins σ U { s' with heap:=h'' })->U C=none->FpOk X pins U C->Q (.ref D) U->RR (.ref D) C (.ok .next) s') :
  wpAny (model X.prog X.w) X.A (newList []) (fun G s₃=>wpAny (model X.prog X.w) X.A (newFunctionEnv scope X.env.globals (closed X.env scope.names []) [] X.env.qual none .none (some X.env)) (fun u I =>
   codeAny (model X.prog X.w) X.A (.compStart (.ListComp elt [⟨tg,iter,ifs,0⟩,⟨tg2,it2,HC,0⟩] scope pos) 0 R G { u with scope:=relabel scope X.env }) (RR G u.locals) I) E s₃) E s2:=by
 refine zh5 (CA:=fun G u I=>codeAny (model X.prog X.w) X.A (.compStart (.ListComp elt [⟨tg,iter,ifs,0⟩,⟨tg2,it2,HC,0⟩] scope pos) 0 R G u) (RR G u.locals) I) S h2 fun it v tn J H2 D C h₁ e T rd hnD st1 fr0 J0 IA out=>?_
 subst e;obtain⟨W,⟨m0,w0⟩,turn⟩:=rd _ hnD;have loop:∀tk:Tok,codeAny (model X.prog X.w) X.A (.compLoop (.ListComp elt [⟨tg,iter,ifs,0⟩,⟨tg2,it2,HC,0⟩] scope pos) 0 (.ref it) (.ref D) (compEnvC scope (closed X.env scope.names []) C X.env)) (RR (.ref D) C) { s2 with heap:=h₁,toks:=tk }:=fun tk=>by
  refine zkX (hs2 _) (CompI (Jg X scope own capt C s2 H2 v) [] (Jx own++capS capt σ) v tn W) ?_ m0 ⟨0,_,J0 tk,st1,fr0,w0⟩;rintro n s4 ⟨i,H4,I4,st4,fr4,w4⟩;refine zf0 (Y:=Jg X scope own capt C s2 H2 v) rfl hc (hg _ _ _ _) (ht _ _ _ _) T IA I4 st4 fr4 ?_;rcases turn i n H4 w4 with⟨stop,qn⟩|⟨go,N,N',hN,hN',step⟩
  ·exact .inl ⟨stop,fun s5 I5=>let ⟨o1,o2,o3,o4⟩:=out s5 H4 I5;hR _ _ s5 H4 o1 o2 o3 o4 qn⟩
  ·refine .inr ⟨go,fun Z H5=>wi2 Z H5 (fun J2 H6=>Zy g2 tt2 te Z J2 H6 D N),N',fun {p6 σ7 H8 s8} I8 q8 again=>?_,hN',step⟩
   refine thn (hi2 _ _ _ _ _ s8 σ7 H8 _ I8 q8) fun y s9 h9=>thn h9 fun itv2 s10 h10=>?_
   refine zmg (Y:=Jg X scope own capt C s2 H2 v) rfl hc (hg2 _ _ _ _) (ht2 _ _ _ _) (he _ _ _ _) h10 fun s' U I' q'=>⟨rfl,?_⟩
   obtain⟨m',hm,w9⟩:=hN U q';exact again I' hm w9
 exact lx (loop _) (T.self X.A 0 _ _ _ st1 (loop _))
theorem zlw(hc:X.calm=true)(S:JN scope own capt X)(hi:PI X tg iter wi)
  (Z:∀C s₀ H₀ l,PG (Jg X scope own capt C s₀ H₀ l) tg g) (ht:∀C s₀ H₀ l,PTs (Jg X scope own capt C s₀ H₀ l) ifs tt) (N:∀C s₀ H₀ l,PI (Jg X scope own capt C s₀ H₀ l) tg2 it2 wi2)
  (y:∀C s₀ H₀ l,PG (Jg X scope own capt C s₀ H₀ l) tg2 g2) (G:∀C s₀ H₀ l,PTs (Jg X scope own capt C s₀ H₀ l) HC tt2) (Y:∀C s₀ H₀ l,PE (Jg X scope own capt C s₀ H₀ l) elt te)
  (hs:∀x,foldedSetIterable iter X.env x=pure x:=by intro _;rfl) (U:∀(C:ak) (x:ah),foldedSetIterable it2 (compEnvC scope (closed X.env scope.names []) C X.env) x=pure x:=by intro _ _;rfl) :
  PE X (.ListComp elt [⟨tg,iter,ifs,0⟩,⟨tg2,it2,HC,0⟩] scope pos) (zrG own capt wi g tt wi2 g2 tt2 te):=by
 intro pins s σ H Q I h;rw[eval_ListComp];refine gG (use:=none) rfl hs (zbn (S.cells I.ok)) S.kind S.names (thn (hi pins s σ H _ I h) fun v s1 h1=>thn h1 fun itv s2 h2=>?_)
 refine zmQ (RR:=fun R C=>compPost (model X.prog X.w) X.A X.xe none (EP X pins σ Q) R C) hc S Z ht N y G Y U h2 fun D C s' H' u J _ _ q=>?_
 obtain⟨m,u⟩:=u;exact⟨m,u,fun h'' sb=>⟨.ref D,H',J h'' sb,rfl,q⟩⟩
end
theorem zkG{J:It}{n:Nat}{g:TG}{tt:TT}{R:TE}{σ:St}{I:Hp}{D:ak}{Q:Hp->Prop}(C:Nat->List V->Hp->Prop)(h0:∃ys,I D=some (.lst ys)/\C 0 ys I)
  (turn:∀i ys u,i<n->u D=some (.lst ys)->C i ys u->J.go i u/\∀x S,J.yld i u x S->g x σ S fun y U=>Wk σ y/\tt y U fun b G =>
   if b=true then R y G (fun v L=>∃zs,L D=some (.lst zs)/\zs.length<sizeLine/\C (i+1) (zs++[v]) (upd L D (.lst (zs++[v])))) else ∃zs,G D=some (.lst zs)/\C (i+1) zs G)
  (stop:∀ys u,u D=some (.lst ys)->C n ys u->J.stop n u/\Q u):Zy g tt R σ J I D Q:=by
 refine⟨fun i m H=>m=n - i/\i<=n/\∃ys,H D=some (.lst ys)/\C i ys H,⟨n,rfl,dR _,h0⟩,?_⟩
 rintro i m u ⟨rfl,hi,ys,N,p⟩
 by_cases hlt:i<n
 ·obtain⟨go,st⟩:=turn i ys u hlt N p;refine .inr ⟨go,_,_,?_,?_,st⟩
  ·rintro v L ⟨zs,e,l,q⟩;exact⟨zs,e,l,n - (i+1),by omega,rfl,hlt,_,JM,q⟩
  ·rintro G ⟨zs,e,q⟩;exact⟨n - (i+1),by omega,rfl,hlt,zs,e,q⟩
 ·have e:i=n:=by omega
  subst e;exact .inl (stop ys u N p)
theorem zkL{J:It}{n:Nat}{own:List Str}{capt:List Nat}{g g2:TG}{tt G:TT}{C:TI}{U:TE}{σ:St}{L:Hp}{D:ak}{Q:VK}(y:Nat->List V->Hp->Prop)(h0:y 0 [] (upd L D (.lst [])))
  (turn:∀i ys u,i<n->u D=some (.lst ys)->y i ys u->J.go i u/\∀x Y,J.yld i u x Y->g x (Jx own++capS capt σ) Y fun v H4=>Wk (Jx own++capS capt σ) v/\tt v H4 fun b I =>
   if b=true then C v I (fun Z R=>Zy g2 G U v Z R D fun S=>∃zs,S D=some (.lst zs)/\y (i+1) zs S) else ∃zs,I D=some (.lst zs)/\y (i+1) zs I)
  (stop:∀ys u,u D=some (.lst ys)->y n ys u->J.stop n u/\Q (.ref D) u) :
  zm_ own capt g tt C g2 G U σ J L D Q:=by
 refine⟨fun i m H=>m=n - i/\i<=n/\∃ys,H D=some (.lst ys)/\y i ys H,⟨n,rfl,dR _,[],JM,h0⟩,?_⟩
 rintro i m u ⟨rfl,hi,ys,N,p⟩
 by_cases hlt:i<n
 ·obtain⟨go,st⟩:=turn i ys u hlt N p;refine .inr ⟨go,_,_,?_,?_,st⟩
  ·rintro R ⟨zs,e,q⟩;exact⟨n - (i+1),by omega,rfl,hlt,zs,e,q⟩
  ·rintro I ⟨zs,e,q⟩;exact⟨n - (i+1),by omega,rfl,hlt,zs,e,q⟩
 ·have e:i=n:=by omega
  subst e;exact .inl (stop ys u N p)
theorem DI.uni{L:Type}{Xf:L->Cx}{K:qF}(G:∀i,(Xf i).K=K){x e:aV}{d:DTA}(h:∀i,DI (Xf i) x e d):∃y:TI,(∀i,PI (Xf i) x e y)/\∀(C:Ctx) (l:En) (σ:St) (H:Hp) (n:Nat) (Q:It->Hp->Prop) (R:List af->Nat->Prop),Stt K C l σ H n->d l n R ->
  (∀ts v J u,R ts v->ExtE C.hd H u->Hn C.hd u v->ItOk K C.hd (fun a=>¬Own C l σ a) (Own C l σ) u J ts->Q J u)->y σ H Q:=by
 refine⟨fun σ H Q=>∀i,(ic (h i)) σ H Q,fun i pins s σ H R I hw=>(cJ (h i)).1 pins s σ H R I (hw i),fun C l σ H n Q R S hd N i=>?_⟩
 have:=(cJ (h i)).2 C l σ H n Q R;exact this (by rw[G i];exact S) hd fun t v J u r e h q=>N t v J u r e h (by rw[<- G i];exact q)
theorem Stt.onX{K:qF}{C:Ctx}{R:En}{σ:St}{H J:Hp}{n L:Nat}(S:Stt K C R σ H n)(k:∀a o,H a=some o->¬C.ext a->J a=some o)(Y:∀a,C.ext a->MutO (J a))(Z:∀a N,H a=some (.dK N)->C.ext a->C.hd≠some a->J a=some (.dK N))(hn:Hn C.hd J L):Stt K C R σ J L where
 len:=S.len
 val:=fun i d hi=>by
  obtain⟨v,y,x⟩:=S.val i d hi;exact⟨v,y,x.mono (fun _ _ _ z=>z) fun a o no h=>k a o h fun z=>no (.inl z)⟩
 own:=fun i ds hi=>by
  obtain⟨a,I,y,x,G,u⟩:=S.own i ds hi;exact⟨a,I,y,k a _ x u,G.mono (fun _ _ _ z=>z) (fun a o no h=>k a o h fun z=>no (.inl z)),u⟩
 dct:=fun i ds hi=>by
  obtain⟨a,I,y,x,G,u⟩:=S.dct i ds hi;exact⟨a,I,y,k a _ x u,G.mono (fun _ _ _ z=>z) (fun a o no h=>k a o h fun z=>no (.inl z)),u⟩
 rdo:=fun i ds hi=>by
  obtain⟨a,I,y,x,G,u,U⟩:=S.rdo i ds hi;exact⟨a,I,y,Z a _ x u U,G.mono (fun _ _ _ z=>z) (fun a o no h=>k a o h fun z=>no (.inl z)),u,U⟩
 dtt:=fun i ds hi=>by
  obtain⟨a,I,ep,y,x,G,u⟩:=S.dtt i ds hi;exact⟨a,I,ep,y,k a _ x u,G.mono (fun _ _ _ z=>z) (fun a o no h=>k a o h fun z=>no (.inl z)),u⟩
 dif:=S.dif
 hnd:=hn
 ext:=Y
 hx:=S.hx
def UH(g:DTG)(tt:DTT)(y:DTA)(g2:DTG)(l:DTT)(G:DTE)(u:En):List af->List af->Nat->(List af->Nat->Prop)->Prop
 | [],acc,n,R=>R acc n
 | x::xs,acc,n,R=>g x u fun v=>tt v n fun b I=>if b=true then y v I fun ts L=>JT g2 l G v ts acc L fun C J=>UH g tt y g2 l G u xs C J R else UH g tt y g2 l G u xs acc I R
def zmL(m:Nat)(capt:List Nat)(x:DTA)(g:DTG)(tt:DTT)(u:DTA)(g2:DTG)(l:DTT)(y:DTE):DTA:=fun v n R=>x v n fun ts C=>UH g tt u g2 l y (JB m capt v) ts [] C R
section
variable{X:Cx}{scope:fA}{own:List Str}{capt:List Nat}{elt tg iter tg2 it2:aV}{ifs HC:List aV}{pos:Pos}{di di2:DTA}{is is2:List Nat}{g g2:DTG}{tt tt2:DTT}{te:DTE}
theorem zoC(hc:X.calm=true)(S:JN scope own capt X)(hi:DIL X tg iter di)
  (hg:∀C s₀ H₀ I,DG (Jg X scope own capt C s₀ H₀ I) tg is g) (hin:∀i∈is,i<own.length) (ht:∀C s₀ H₀ I,DTs (Jg X scope own capt C s₀ H₀ I) ifs tt)
  (hi2:∀C s₀ H₀ I,DI (Jg X scope own capt C s₀ H₀ I) tg2 it2 di2) (hg2:∀C s₀ H₀ I,DG (Jg X scope own capt C s₀ H₀ I) tg2 is2 g2) (hin2:∀i∈is2,i<own.length/\i∉is) (ht2:∀C s₀ H₀ I,DTs (Jg X scope own capt C s₀ H₀ I) HC tt2)
  (he:∀C s₀ H₀ I,DE (Jg X scope own capt C s₀ H₀ I) elt te)
  (hs:∀x,foldedSetIterable iter X.env x=pure x:=by intro _;rfl) (hs2:∀(C:ak) (x:ah),foldedSetIterable it2 (compEnvC scope (closed X.env scope.names []) C X.env) x=pure x:=by intro _ _;rfl) :
  DN X (.ListComp elt [⟨tg,iter,ifs,0⟩,⟨tg2,it2,HC,0⟩] scope pos) (zmL own.length capt di g tt di2 g2 tt2 te):=by
 obtain⟨wi,pi,hi⟩:=hi
 let Xf:(ak×aq×Hp×List ak)->Cx:=fun q=>Jg X scope own capt q.1 q.2.1 q.2.2.1 q.2.2.2
 have hK:∀q,(Xf q).K=X.K:=fun _=>rfl
 have hne:Nonempty (ak×aq×Hp×List ak):=⟨(0,X.s₀,X.H₀,[])⟩;obtain⟨gg,pg,hgg⟩:=DG.uni (Xf:=Xf) hK fun q=>hg q.1 q.2.1 q.2.2.1 q.2.2.2
 obtain⟨gt,pt,hgt⟩:=DTs.uni (Xf:=Xf) hK fun q=>ht q.1 q.2.1 q.2.2.1 q.2.2.2
 obtain⟨wi2,pi2,hwi2⟩:=DI.uni (Xf:=Xf) hK fun q=>hi2 q.1 q.2.1 q.2.2.1 q.2.2.2
 obtain⟨gg2,pg2,hgg2⟩:=DG.uni (Xf:=Xf) hK fun q=>hg2 q.1 q.2.1 q.2.2.1 q.2.2.2
 obtain⟨gt2,pt2,hgt2⟩:=DTs.uni (Xf:=Xf) hK fun q=>ht2 q.1 q.2.1 q.2.2.1 q.2.2.2
 obtain⟨ge,pe,hge⟩:=DE.uni (Xf:=Xf) hK fun q=>he q.1 q.2.1 q.2.2.1 q.2.2.2
 refine⟨_,zlw hc S pi (fun C s₀ H₀ I=>pg (C,s₀,H₀,I)) (fun C s₀ H₀ I=>pt (C,s₀,H₀,I)) (fun C s₀ H₀ I=>pi2 (C,s₀,H₀,I)) (fun C s₀ H₀ I=>pg2 (C,s₀,H₀,I)) (fun C s₀ H₀ I=>pt2 (C,s₀,H₀,I)) (fun C s₀ H₀ I=>pe (C,s₀,H₀,I)) hs hs2,fun C N σ H n Q R St hd hq=>?_⟩
 refine hi C N σ H n _ _ St hd fun ts n1 J H1 r e1 hn it=>fun D hD1=>?_
 have St1:=St.on e1 hn;have hD:H D=none:=VE e1 hn hD1;have nhd:C.hd≠some D:=fun z=>St.dom (.inl (St.hx D z)) hD
 refine zkL (n:=ts.length) (fun i ys H2=>∃U n2,UH g tt di2 g2 tt2 te (JB own.length capt N) (ts.drop i) U n2 R/\Reps X.K C.hd (fun a=>Own C N σ a\/a=D) H2 ys U/\ExtE C.hd H1 H2/\Hn C.hd H2 n2)
  ⟨[],n1,by simpa using r,.nil,ExtE.new hD1,hn.same (JS hD1)⟩ ?_ ?_
 ·rintro i ys H2 hlt hy ⟨U,n2,c2,r2,e2,hn2⟩;have et:ts[i]?=some ts[i]:=aw hlt;rw[bR hlt]at c2;have itq:=it (fun a=>Own C N σ a\/a=D) H2 (fun a o u nh=>e2 a o u nh) (fun a o u no z=>z.elim no fun z=>by subst z;rw[hD1]at u;cases u) (fun a z=>z.elim (fun z=>(St1.on e2 hn2).dom z) fun z=>by subst z;rw[hy];exact fun z=>by cases z)
  obtain⟨go,yl⟩:=itq.1 i _ et;refine⟨go,fun x H3 hyd=>?_⟩
  obtain⟨sm,rx⟩:=yl x H3 hyd;have hn3:=hn2.same sm;have e3:ExtE C.hd H1 H3:=e2.trans sm.ext;obtain⟨I3,no3⟩:=zjO (own:=own) (capt:=capt) (D:=D) (ys:=ys) St (e1.trans e3) hn3 hD (sm _ _ hy);have rx':Rep X.K C.hd (Own ⟨C.hd,fun a=>Own C N σ a\/a=D⟩ (JB own.length capt N) (Jx own++capS capt σ)) H3 x ts[i]:=rx.mono (fun a o _ z=>z.elim id fun z=>absurd z (no3 a)) fun _ _ _ z=>z
  refine hgg ⟨C.hd,fun a=>Own C N σ a\/a=D⟩ (JB own.length capt N) (Jx own++capS capt σ) H3 n2 x ts[i] _ _ I3 rx' c2 fun Y Z r4 S4 k4 hj hl=>⟨Wk.of hl.symm fun j v ej=>zoO hin hj ej,?_⟩
  ·refine hgt _ Y Z H3 n2 _ _ S4 r4 fun b n5 H5 r5 e5 hn5=>?_
   have S5:=S4.on e5 hn5;have hy5:H5 D=some (.lst ys):=e5 D _ (sm _ _ hy) nhd;have r25:∀{H6},ExtE C.hd H2 H6->Reps X.K C.hd (fun a=>Own C N σ a\/a=D) H6 ys U:=fun e=>r2.mono (fun _ _ _ z=>z) fun a o no u=>e a o u fun z=>no (.inl (.inl (St.hx a z)))
   cases b with
   | false =>
    refine iteF ⟨ys,hy5,U,n5,by simpa using r5,r25 ((Same.ext sm).trans e5),e3.trans e5,hn5⟩
   | true =>
    refine iteT (hwi2 ⟨C.hd,fun a=>Own C N σ a\/a=D⟩ Y Z H5 n5 _ _ S5 (by simpa using r5) fun us n6 J2 H6 r6 e6 hn6 it6=>?_)
    have S6:=S5.on e6 hn6;have hy6:H6 D=some (.lst ys):=e6 D _ hy5 nhd;refine zkG (n:=us.length) (fun k zs H7=>∃G n7,JT g2 tt2 te Y (us.drop k) G n7 (fun G n4=>UH g tt di2 g2 tt2 te (JB own.length capt N) (ts.drop (i+1)) G n4 R)/\Reps X.K C.hd (fun a=>Own C N σ a\/a=D) H7 zs G/\ExtE C.hd H1 H7/\Hn C.hd H7 n7/\∀a o,H6 a=some o->¬(Own C N σ a\/a=D)->H7 a=some o)
     ⟨ys,hy6,U,n6,by simpa using r6,r25 ((Same.ext sm).trans (e5.trans e6)),e3.trans (e5.trans e6),hn6,fun _ _ h _=>h⟩ ?_ ?_
    ·rintro k zs H7 hk hz ⟨G,n7,c7,r7,e7,hn7,k7⟩;have et2:us[k]?=some us[k]:=aw hk;rw[bR hk]at c7;have S7:Stt X.K ⟨C.hd,fun a=>Own C N σ a\/a=D⟩ Y Z H7 n7:=S6.onX k7 (fun a z=>z.elim (fun z=>(St1.on e7 hn7).lst z) fun z=>by subst z;exact .inl ⟨_,hz⟩) (fun a ks u z nh=>z.elim (fun z=>by
      have e16:ExtE C.hd H1 H6:=e3.trans (e5.trans e6);rcases St1.lst z with⟨xs,q⟩|⟨xs,q⟩|⟨b,xs,ep,q⟩
      ·rw[e16 a _ q nh]at u;cases u
      ·rw[e16 a _ q nh]at u;cases u;exact e7 a _ q nh
      ·rw[e16 a _ q nh]at u;cases u) (fun z=>by subst z;rw[hy6]at u;cases u)) hn7
     have Kl:=it6 (Own ⟨C.hd,fun a=>Own C N σ a\/a=D⟩ Y Z) H7 (fun a o u no=>k7 a o u fun z=>no (.inl z)) (fun a o u no=>no) (fun a z=>S7.dom z)
     obtain⟨go2,yl2⟩:=Kl.1 k _ et2;refine⟨go2,fun y H8 hyd2=>?_⟩
     obtain⟨sm8,ry⟩:=yl2 y H8 hyd2;have hn8:=hn7.same sm8;have S8:=S7.on (Same.ext sm8) hn8;refine hgg2 _ Y Z H8 n7 y us[k] _ _ S8 ry c7 fun ρ9 σ9 r9 S9 k9 hj9 hl9=>⟨Wk.of hl9.symm fun j v ej=>?_,?_⟩
     ·by_cases hjo:j∈is2
      ·exfalso;obtain⟨lo,nis⟩:=hin2 j hjo;rw[hj j nis,bQ (by simpa using lo),bh]at ej
       cases z:own[j]? with
       | none=>rw[z]at ej;cases ej
       | some q=>rw[z]at ej;cases ej
      ·rw[hj9 j hjo];exact ej
     ·refine hgt2 _ ρ9 σ9 H8 n7 _ _ S9 r9 fun b n10 H10 r10 e10 hn10=>?_
      have S10:=S9.on e10 hn10;have Kw:H10 D=some (.lst zs):=e10 D _ (sm8 _ _ hz) nhd;have Km:∀{H'},ExtE C.hd H7 H'->Reps X.K C.hd (fun a=>Own C N σ a\/a=D) H' zs G:=fun e=>r7.mono (fun _ _ _ z=>z) fun a o no u=>e a o u fun z=>no (.inl (.inl (St.hx a z)))
      have kk:∀{H'},ExtE C.hd H7 H'->∀a o,H6 a=some o->¬(Own C N σ a\/a=D)->H' a=some o:=fun e a o u no=>e a o (k7 a o u no) fun z=>no (.inl (.inl (St.hx a z)))
      cases b with
      | false=>exact iteF ⟨zs,Kw,G,n10,by simpa using r10,Km ((Same.ext sm8).trans e10),e7.trans ((Same.ext sm8).trans e10),hn10,kk ((Same.ext sm8).trans e10)⟩
      | true =>
       refine iteT (hge _ ρ9 σ9 H10 n10 _ _ S10 (by simpa using r10) fun t n11 v H11 r11 e11 hn11 q11=>?_)
       have hz11:H11 D=some (.lst zs):=e11 D _ Kw nhd;have Ke:ExtE C.hd H7 H11:=(Same.ext sm8).trans (e10.trans e11);have rl:=(Km Ke).length;refine⟨zs,hz11,by rw[rl];exact r11.1,G++[t],n11,r11.2,?_,?_,?_,?_⟩
       ·have q11':Rep X.K C.hd (fun a=>Own C N σ a\/a=D) H11 v t:=q11.mono (fun _ _ _ z=>.inl z) fun _ _ _ z=>z
        have all:=(Km Ke).append (Reps.cons q11' .nil);exact all.mono (fun _ _ _ z=>z) fun a o no u=>by rw[Jn (show a≠D from fun z=>no (.inr z))];exact u
       ·exact ExtE.updR hD1 (e7.trans Ke)
       ·exact Hn.updR nhd hn11
       ·exact fun a o u no=>by
         rw[Jn (show a≠D from fun z=>no (.inr z))]
         exact kk Ke a o u no
    ·rintro zs H7 hz ⟨G,n7,c7,r7,e7,hn7,k7⟩;rw[hZ]at c7;have S7:Stt X.K ⟨C.hd,fun a=>Own C N σ a\/a=D⟩ Y Z H7 n7:=S6.onX k7 (fun a z=>z.elim (fun z=>(St1.on e7 hn7).lst z) fun z=>by subst z;exact .inl ⟨_,hz⟩) (fun a ks u z nh=>z.elim (fun z=>by
      have e16:ExtE C.hd H1 H6:=e3.trans (e5.trans e6);rcases St1.lst z with⟨xs,q⟩|⟨xs,q⟩|⟨b,xs,ep,q⟩
      ·rw[e16 a _ q nh]at u;cases u
      ·rw[e16 a _ q nh]at u;cases u;exact e7 a _ q nh
      ·rw[e16 a _ q nh]at u;cases u) (fun z=>by subst z;rw[hy6]at u;cases u)) hn7
     have Kl:=it6 (Own ⟨C.hd,fun a=>Own C N σ a\/a=D⟩ Y Z) H7 (fun a o u no=>k7 a o u fun z=>no (.inl z)) (fun a o u no=>no) (fun a z=>S7.dom z)
     exact⟨Kl.2,zs,hz,G,n7,c7,r7,e7,hn7⟩
 ·rintro ys H2 hy ⟨U,n2,c2,r2,e2,hn2⟩;rw[hZ]at c2;have itq:=it (fun a=>Own C N σ a\/a=D) H2 (fun a o u nh=>e2 a o u nh) (fun a o u no z=>z.elim no fun z=>by subst z;rw[hD1]at u;cases u) (fun a z=>z.elim (fun z=>(St1.on e2 hn2).dom z) fun z=>by subst z;rw[hy];exact fun z=>by cases z)
  exact⟨itq.2,hq U n2 D ys H2 c2 (e1.trans e2) hn2 hD hy r2⟩
end
section
variable{ρ ρ0:En}{n m:Nat}{di di2:DTA}{g g2:DTG}{tt tt2:DTT}{te:DTE}{capt:List Nat}{Rl:List af->Nat->Prop}
instance zv5 [h:CompN m capt ρ ρ0]:Stp (zmL m capt di g tt di2 g2 tt2 te ρ n Rl) (di ρ n fun ts n1=>UH g tt di2 g2 tt2 te ρ0 ts [] n1 Rl):=⟨fun k=>by unfold zmL;rw[h.e];exact k⟩
end
abbrev Run:=Int×Int
def NR(rs:List Run):Prop:=(∀r∈rs,r.1<r.2)/\rs.Pairwise fun a b=>a.2<b.1
def mR(x:Int)(rs:List Run):Prop:=∃r∈rs,r.1<=x/\x<r.2
def mB(x:Int)(bs:qB):Prop:=∃b∈bs,b.1<=x/\x<eB b
theorem U5{x:Int}{r:Run}{rs:List Run}:mR x (r::rs)↔(r.1<=x/\x<r.2)\/mR x rs:=by
 unfold mR;constructor
 ·rintro⟨s,u,h⟩;rcases ax.mp u with rfl|u
  ·exact .inl h
  ·exact .inr ⟨s,u,h⟩
 ·rintro(h|⟨s,u,h⟩)
  ·exact⟨r,by simp,h⟩
  ·exact⟨s,by simp[u],h⟩
theorem UE{x:Int}:¬mR x []:=fun⟨_,h,_⟩=>nomatch h
theorem YW{x:Int}{rs ss:List Run}:mR x (rs++ss)↔mR x rs\/mR x ss:=by
 unfold mR;constructor
 ·rintro⟨s,u,h⟩;rcases av.mp u with u|u
  ·exact .inl ⟨s,u,h⟩
  ·exact .inr ⟨s,u,h⟩
 ·rintro(⟨s,u,h⟩|⟨s,u,h⟩)
  ·exact⟨s,by simp[u],h⟩
  ·exact⟨s,by simp[u],h⟩
theorem zlV{x:Int}{b:Int×Int}{bs:qB}:mB x (b::bs)↔(b.1<=x/\x<eB b)\/mB x bs:=by
 unfold mB;constructor
 ·rintro⟨s,u,h⟩;rcases ax.mp u with rfl|u
  ·exact .inl h
  ·exact .inr ⟨s,u,h⟩
 ·rintro(h|⟨s,u,h⟩)
  ·exact⟨b,by simp,h⟩
  ·exact⟨s,by simp[u],h⟩
theorem Vq{x:Int}:¬mB x []:=fun⟨_,h,_⟩=>nomatch h
theorem zlW{x:Int}{bs cs:qB}:mB x (bs++cs)↔mB x bs\/mB x cs:=by
 unfold mB;constructor
 ·rintro⟨s,u,h⟩;rcases av.mp u with u|u
  ·exact .inl ⟨s,u,h⟩
  ·exact .inr ⟨s,u,h⟩
 ·rintro(⟨s,u,h⟩|⟨s,u,h⟩)
  ·exact⟨s,by simp[u],h⟩
  ·exact⟨s,by simp[u],h⟩
theorem zqn{x:Int}{bs cs:qB}(h:bs.Perm cs):mB x bs↔mB x cs:=by
 unfold mB;constructor
 ·rintro⟨s,l,q⟩;exact⟨s,h.mem_iff.mp l,q⟩
 ·rintro⟨s,l,q⟩;exact⟨s,h.mem_iff.mpr l,q⟩
theorem NR.tail{r:Run}{rs:List Run}(h:NR (r::rs)):NR rs:=⟨fun s l=>h.1 s (by simp[l]),(fI.mp h.2).2⟩
def QL(lo hi:Int)(h:Nat):Prop:=lo % 2 ^ h=0/\(2:Int) ^ h<=hi - lo/\¬(lo % 2 ^ (h+1)=0/\(2:Int) ^ (h+1)<=hi - lo)
theorem zdp{a b:Nat}(h:a<=b):((2:Int) ^ a)∣2 ^ b:=⟨2 ^ (b - a),by rw[<- gT];congr 1;lia⟩
theorem Ul{a b:Nat}(h:a<=b):(2:Int) ^ a<=2 ^ b:=by
 obtain⟨c,e⟩:=zdp h;have pa:=Bd.QH a;have l:=Bd.QH b;have pc:0<c:=by
  rcases g8 c 0 with z|z|z
  ·have:=gA pa z;lia
  ·subst z;lia
  ·exact z
 rw[e];have:=fC (show(1:Int)<=c by lia) (show(0:Int)<=2 ^ a by lia)
 lia
theorem U7{lo:Int}{a b:Nat}(h:a<=b)(e:lo % 2 ^ b=0):lo % 2 ^ a=0:=by
 have d:((2:Int) ^ b)∣lo:=bq e;exact df (Int.dvd_trans (zdp h) d)
theorem QL.uniq{lo hi:Int}{h g:Nat}(a:QL lo hi h)(b:QL lo hi g):h=g:=by
 rcases dZ h g with z|z|z
 ·exfalso;exact a.2.2 ⟨U7 (show h+1<=g by lia) b.1,dD (Ul (show h+1<=g by lia)) b.2.1⟩
 ·exact z
 ·exfalso;exact b.2.2 ⟨U7 (show g+1<=h by lia) a.1,dD (Ul (show g+1<=h by lia)) a.2.1⟩
def Jr:Int->Int->List (Int×Int)->Prop
 | lo,hi,[]=>lo=hi
 | lo,hi,b::r=>lo<hi/\b.1=lo/\0<=b.2/\QL lo hi b.2.toNat/\Jr (lo+2 ^ b.2.toNat) hi r
theorem Jr.le:∀{bs:qB}{lo hi:Int},Jr lo hi bs->lo<=hi
 | [],_,_,h=>by have:_=_:=h;lia
 | b::r,lo,hi,h=>by have:=h.1;lia
theorem Jr.uniq:∀{bs cs:qB}{lo hi:Int},Jr lo hi bs->Jr lo hi cs->bs=cs
 | [],[],_,_,_,_=>rfl
 | [],c::cs,lo,hi,h,k=>by have:lo=hi:=h;have:=k.1;lia
 | b::bs,[],lo,hi,h,k=>by have:lo=hi:=k;have:=h.1;lia
 | b::bs,c::cs,lo,hi,h,k=>by
  obtain⟨G,I,C,l,u⟩:=h;obtain⟨k1,k2,k3,v,k5⟩:=k;have e:=l.uniq v;have y:b.2=c.2:=by lia
  have x:b=c:=i5 (by lia) y
  subst x;rw[Jr.uniq u k5]
theorem Jr.mem:∀{bs:qB}{lo hi:Int},Jr lo hi bs->∀x,mB x bs↔lo<=x/\x<hi
 | [],lo,hi,h,x=>by
  have:lo=hi:=h;exact⟨fun z=>absurd z Vq,fun z=>by lia⟩
 | b::r,lo,hi,h,x=>by
  obtain⟨G,v,C,y,u⟩:=h;have:=Jr.mem u x;have l:=Jr.le u;have p:=Bd.QH b.2.toNat;rw[zlV,this];unfold eB;rw[v];lia
theorem Jr.blk{bits:Int}(C:0<=bits):∀{bs:qB}{lo hi:Int},Jr lo hi bs->0<=lo->hi<=2 ^ bits.toNat->Bks bits bs
 | [],_,_,_,_,_=>fun b y=>nomatch y
 | b::r,lo,hi,h,l0,l1=>by
  obtain⟨L,J,I,u,x⟩:=h;have p:=Bd.QH b.2.toNat;have l:=Jr.le x;have G:=Jr.blk C x (by lia) l1
  intro c hc;rcases ax.mp hc with rfl|hc
  ·have y:c.2.toNat<=bits.toNat:=by
    rcases cq bits.toNat c.2.toNat with z|z
    ·exfalso;have:=Ul (show bits.toNat+1<=c.2.toNat by lia)
     have p2:=Bd.QH bits.toNat;rw[cD]at this;have:=u.2.1;lia
    ·exact z
   obtain⟨k,v⟩:=bq u.1;have k0:0<=k:=by
    rcases iP k 0 with z|z
    ·have:=gA p z;lia
    ·exact z
   refine⟨I,by lia,k,k0,by rw[J,v,dP],?_⟩
   have e:(2:Int) ^ bits.toNat=2 ^ (bits - c.2).toNat*2 ^ c.2.toNat:=by rw[<- gT];congr 1;lia
   have up:k*2 ^ c.2.toNat<2 ^ (bits - c.2).toNat*2 ^ c.2.toNat:=by
    rw[<- e,dP,<- v];lia
   exact kc up (by lia)
  ·exact G c hc
theorem Jr.in:∀{bs:qB}{lo hi:Int},Jr lo hi bs->∀b∈bs,lo<=b.1/\eB b<=hi
 | [],_,_,_=>fun b x=>nomatch x
 | b::r,lo,hi,h=>by
  obtain⟨I,y,G,C,u⟩:=h;have p:=Bd.QH b.2.toNat;have v:=Jr.in u;have l:=Jr.le u;intro c hc;rcases ax.mp hc with rfl|hc
  ·unfold eB;rw[y];lia
  ·have:=v c hc;lia
theorem Jr.pw:∀{bs:qB}{lo hi:Int},Jr lo hi bs->bs.Pairwise fun a b=>eB a<=b.1
 | [],_,_,_=>.nil
 | b::r,lo,hi,h=>by
  obtain⟨C,v,y,x,u⟩:=h;refine .cons (fun c hc=>?_) (Jr.pw u)
  have:=Jr.in u c hc;unfold eB;rw[v];lia
theorem zg0:∀{bs:qB}{lo hi:Int}{k:Nat},Jr lo hi bs->lo % 2 ^ k=0->hi - lo<2 ^ k->bs.length<=k
 | [],_,_,_,_,_,_=>dR _
 | b::r,lo,hi,k,h,d,l=>by
  obtain⟨C,G,y,u,v⟩:=h;have x:b.2.toNat<k:=by
   rcases cq b.2.toNat k with z|z
   ·exact z
   ·have:=Ul z;have:=u.2.1;lia
  have up:¬(2:Int) ^ (b.2.toNat+1)<=hi - lo:=fun z=>u.2.2 ⟨U7 (show b.2.toNat+1<=k by lia) d,z⟩
  rw[cD]at up;have:=zg0 (k:=b.2.toNat) v (by rw[nM,u.1];simp) (by lia)
  rw[aN];lia
theorem zgZ{K:Nat}:∀{bs:qB}{lo hi:Int}{k:Nat},Jr lo hi bs->lo % 2 ^ k=0->hi - lo<2 ^ K->k<=K->bs.length<=(K - k)+K
 | [],_,_,_,_,_,_,_=>dR _
 | b::r,lo,hi,k,h,d,l,hkK=>by
  obtain⟨L,I,G,u,v⟩:=h;have p:=Bd.QH b.2.toNat;have J:b.2.toNat<K:=by
   rcases cq b.2.toNat K with z|z
   ·exact z
   ·have:=Ul z;have:=u.2.1;lia
  rw[aN]
  by_cases up:(2:Int) ^ (b.2.toNat+1)<=hi - lo
  ·have nd:¬lo % 2 ^ (b.2.toNat+1)=0:=fun z=>u.2.2 ⟨z,up⟩
   have C:k<=b.2.toNat:=by
    rcases cq b.2.toNat k with z|z
    ·exact absurd (U7 (show b.2.toNat+1<=k by lia) d) nd
    ·exact z
   have d':(lo+2 ^ b.2.toNat) % 2 ^ (b.2.toNat+1)=0:=by
    obtain⟨q,eq⟩:=bq u.1;have y:(2:Int) ^ (b.2.toNat+1)=2 ^ b.2.toNat*2:=cD _ _;rw[y]at nd ⊢;have odd:q % 2=1:=by
     rcases oV q with z|z
     ·exfalso;obtain⟨t,x⟩:=bq z;apply nd;apply df;exact⟨t,by rw[eq,x,e9]⟩
     ·exact z
    apply df;refine⟨(q+1) / 2,?_⟩;have:q+1=2*((q+1) / 2):=by lia
    rw[eq,e9,<- this,oF,ku]
   have:=zgZ (K:=K) (k:=b.2.toNat+1) v d' (by lia) (by lia)
   lia
  ·rw[cD]at up;have:=zg0 (k:=b.2.toNat) v (by rw[nM,u.1];simp) (by lia)
   lia
theorem Jr.len{bs:qB}{lo hi:Int}(h:Jr lo hi bs)(l:0<=lo)(u:hi<=2 ^ 64):bs.length<=130:=by
 have:=zgZ (K:=65) (k:=0) h (by simp) (by have e:(2:Int) ^ 65=2*2 ^ 64:=(by decide);lia) (by decide)
 lia
theorem zjB{lo hi:Int}(h:lo<hi):∃g,QL lo hi g:=by
 have key:∀(d k:Nat),lo % 2 ^ k=0->(2:Int) ^ k<=hi - lo->(hi - lo).toNat<2 ^ (k+d)->∃g,QL lo hi g:=by
  intro d;induction d with
  | zero =>
   intro k _ b c;exfalso;have:((2 ^ k:Nat):Int)=(2:Int) ^ k:=by rw[fO];rfl
   rw[Nat.add_zero]at c;lia
  | succ d l =>
   intro k a b c
   by_cases z:lo % 2 ^ (k+1)=0/\(2:Int) ^ (k+1)<=hi - lo
   ·exact l (k+1) z.1 z.2 (by rw[show k+1+d=k+(d+1) by lia];exact c)
   ·exact⟨k,a,b,z⟩
 refine key (hi - lo).toNat 0 (by simp) (by simp;lia) ?_
 rw[dE];exact Nat.lt_two_pow_self
theorem zk2:∀(n:Nat) (lo hi:Int),(hi - lo).toNat<=n->lo<=hi->∃bs,Jr lo hi bs:=by
 intro n;induction n with
 | zero =>
  intro lo hi h l;exact⟨[],by show lo=hi;lia⟩
 | succ n u =>
  intro lo hi h l
  by_cases z:lo<hi
  ·obtain⟨g,G⟩:=zjB z;have p:=Bd.QH g;have:=G.2.1;obtain⟨bs,B⟩:=u (lo+2 ^ g) hi (by lia) (by lia)
   exact⟨(lo,(g:Int))::bs,z,rfl,by show(0:Int)<=(g:Int);lia,by simpa using G,by simpa using B⟩
  ·exact⟨[],by show lo=hi;lia⟩
def PatS:List Run->List (Int×Int)->Prop
 | [],ps=>ps=[]
 | r::rs,ps=>∃a b,ps=a++b/\Jr r.1 r.2 a/\PatS rs b
theorem PatS.mem:∀{rs:List Run}{ps:qB},PatS rs ps->∀x,mB x ps↔mR x rs
 | [],_,h,x=>by
  cases(show _=[] from h)
  exact⟨fun z=>absurd z Vq,fun z=>absurd z UE⟩
 | r::rs,_,h,x=>by
  obtain⟨a,b,rfl,l,u⟩:=h;rw[zlW,U5,l.mem x,PatS.mem u x]
theorem PatS.blk{bits:Int}(u:0<=bits):∀{rs:List Run}{ps:qB},PatS rs ps->(∀r∈rs,0<=r.1/\r.2<=2 ^ bits.toNat)->Bks bits ps
 | [],_,h,_=>by cases(show _=[] from h);exact fun b v=>nomatch v
 | r::rs,_,h,w=>by
  obtain⟨a,b,rfl,y,C⟩:=h;have l:=w r (by simp)
  intro c hc;rcases av.mp hc with hc|hc
  ·exact y.blk u l.1 l.2 c hc
  ·exact PatS.blk u C (fun s x=>w s (by simp[x])) c hc
theorem PatS.in:∀{rs:List Run}{ps:qB},PatS rs ps->∀b∈ps,∃r∈rs,r.1<=b.1/\eB b<=r.2
 | [],_,h=>by cases(show _=[] from h);exact fun b l=>nomatch l
 | r::rs,_,h=>by
  obtain⟨a,b,rfl,v,x⟩:=h;intro c hc;rcases av.mp hc with hc|hc
  ·exact⟨r,by simp,v.in c hc⟩
  ·obtain⟨s,u,q⟩:=PatS.in x c hc;exact⟨s,by simp[u],q⟩
theorem PatS.pw:∀{rs:List Run}{ps:qB},PatS rs ps->NR rs->ps.Pairwise fun a b=>eB a<=b.1
 | [],_,h,_=>by cases(show _=[] from h);exact .nil
 | r::rs,_,h,nr=>by
  obtain⟨a,b,rfl,u,v⟩:=h;rw[cM];refine⟨u.pw,PatS.pw v nr.tail,fun x hx y C=>?_⟩
  have:=u.in x hx;obtain⟨s,G,q⟩:=PatS.in v y C;have:=(fI.mp nr.2).1 s G;lia
theorem PatS.len:∀{rs:List Run}{ps:qB},PatS rs ps->(∀r∈rs,0<=r.1/\r.2<=2 ^ 64)->ps.length<=130*rs.length
 | [],_,h,_=>by cases(show _=[] from h);simp
 | r::rs,_,h,w=>by
  obtain⟨a,b,rfl,v,x⟩:=h;have l:=w r (by simp)
  have:=v.len l.1 l.2;have:=PatS.len x fun s u=>w s (by simp[u])
  rw[aM,aN];lia
def CanP(S:Int->Prop)(ps:qB):Prop:=∃rs,NR rs/\(∀x,mR x rs↔S x)/\PatS rs ps
theorem CanP.mem{S:Int->Prop}{ps:qB}(h:CanP S ps)(x:Int):mB x ps↔S x:=by
 obtain⟨rs,v,l,u⟩:=h;rw[u.mem,l]
theorem CanP.ptc{S:Int->Prop}{ps:qB}{bits:Int}(C:0<=bits)(h:CanP S ps)(w:∀x,S x->0<=x/\x<2 ^ bits.toNat):Ptc bits ps:=by
 obtain⟨rs,y,u,v⟩:=h;refine⟨v.blk C fun r l=>?_,v.pw y⟩
 have lt:=y.1 r l;have a:=w r.1 ((u _).mp ⟨r,l,aY _,lt⟩);have b:=w (r.2 - 1) ((u _).mp ⟨r,l,by lia,by lia⟩)
 lia
section
variable{X:Cx}{a:aV}{da:DTE}{ρ:En}{n:Nat}{R:qN}
theorem zlR:MtR X "int.bit_length" (fun x xs H Q=>∃i,x=.int i/\xs=[]/\Q (.int (fe i)) H):=by
 intro pins s σ H x xs v u Q I l rs h;obtain⟨i,rfl,rfl,q⟩:=h;obtain⟨t,rfl⟩:=l;cases rs;exact call_int_bit_length ⟨.int _,H,I.tok _,⟨_,rfl⟩,q⟩
def zmM(d:DTE):DTE:=fun ρ n R=>d ρ n fun t l=>lInt t fun i=>R (.int (fe i)) l
theorem zh0{p2 x:Pos}(h:DL X a da)(I:attributeBase a "bit_length" X.env (eval a X.env)=eval a X.env:=by rfl) (J:(p2.endLine == x.line)=true:=by rfl):DE X (.Call (.Attribute a "bit_length" p2) [] [] x) (zmM da):=by
 obtain⟨Z,pa,h⟩:=h;refine⟨_,zsz PySem.F.plainAttrs_int slot_int_bit_length type_int_bit_length zlR pa I J,fun C ρ σ H n Q R S hd Y=>?_⟩
 refine h C ρ σ H n _ _ S hd fun t N v y r L U G=>?_
 cases t with
 | int i =>
  rw[G.intI];exact⟨rfl,i,rfl,rfl,Y _ N _ y r L U (.int _)⟩
 | _=>exact r.elim
instance zvj:Stp (zmM da ρ n R) (da ρ n fun t n1=>lInt t fun i=>R (.int (fe i)) n1):=⟨fun h=>h⟩
end
theorem zeF{i:Int}(h:0<i):(fe i:Int) - 1=(i.toNat.log2:Int):=by
 unfold fe;have:(i == 0)=false:=by simp;lia
 rw[this];have e:i.natAbs=i.toNat:=by lia
 rw[e];simp
theorem zl2{i:Int}(h:0<i):(2:Int) ^ i.toNat.log2<=i:=by
 have:=Nat.log2_self_le (n:=i.toNat) (by lia)
 have e:((2 ^ i.toNat.log2:Nat):Int)=(2:Int) ^ i.toNat.log2:=by rw[fO];rfl
 lia
theorem zlY{i:Int}(h:0<i):i<(2:Int) ^ (i.toNat.log2+1):=by
 have:=Nat.lt_log2_self (n:=i.toNat);have e:((2 ^ (i.toNat.log2+1):Nat):Int)=(2:Int) ^ (i.toNat.log2+1):=by rw[fO];rfl
 lia
theorem zl4(t:Nat):∀x:Nat,x % 2 ^ t=0->¬x % 2 ^ (t+1)=0->x - (x &&& (x - 1))=2 ^ t:=by
 induction t with
 | zero =>
  intro x _ h;have G:x % 2=1:=by
   have:¬x % 2=0:=by simpa using h
   lia
  have e:x &&& (x - 1)=x - 1:=by
   apply mh;intro i;rw[lK];cases i with
   | zero =>
    have:(x - 1).testBit 0=false:=by rw[kT];simp;lia
    rw[this,eT]
   | succ i =>
    have:x / 2=(x - 1) / 2:=by lia
    rw[gv,gv,this,Bool.and_self]
  rw[e];simp;lia
 | succ t u =>
  intro x l v;have ev:x % 2=0:=by
   have:2∣2 ^ (t+1):=⟨2 ^ t,by rw[lD,lC]⟩
   exact hU (Nat.dvd_trans this (hV l))
  have hx:x=2*(x / 2):=by lia
  have y:(x / 2) % 2 ^ t=0:=by
   obtain⟨q,e⟩:=hV l;apply hU;refine⟨q,?_⟩;rw[lD]at e;have:x=2*(2 ^ t*q):=by rw[e];rw[lC (2 ^ t) 2,sC]
   lia
  have p2:¬(x / 2) % 2 ^ (t+1)=0:=fun z=>by
   obtain⟨q,e⟩:=hV z;apply v;apply hU;refine⟨q,?_⟩;rw[lD,lC (2 ^ (t+1)) 2,sC,<- e];exact hx
  have:=u (x / 2) y p2;have e:x &&& (x - 1)=2*(x / 2 &&& (x / 2 - 1)):=by
   apply mh;intro i;rw[lK];cases i with
   | zero =>
    have a:x.testBit 0=false:=by rw[kT];simp;lia
    rw[a,bN,kT];simp
   | succ i =>
    have C:0<x / 2:=by
     rcases Nat.eq_zero_or_pos (x / 2) with z|z
     ·rw[z]at p2;simp at p2
     ·exact z
    have b:(x - 1) / 2=x / 2 - 1:=by lia
    rw[gv,gv,gv,b,Nat.mul_div_cancel_left _ (by decide:0<2),lK]
  rw[e,lD];have le:(x / 2 &&& (x / 2 - 1))<=x / 2:=oW;lia
theorem zro{b:Int}(h:0<b){t:Nat}(u:b % 2 ^ t=0)(v:¬b % 2 ^ (t+1)=0):gi b (-b)=2 ^ t:=by
 have e:gi b (-b)=b - ((b.toNat &&& (b.toNat - 1):Nat):Int):=by
  have h0:decide (0<=b)=true:=decide_eq_true (by lia)
  have l:decide (0<=-b)=false:=decide_eq_false (by lia)
  show(match decide (0<=b),decide (0<=-b) with
   | true,true=>((b.toNat &&& (-b).toNat:Nat):Int)
   | true,false=>b - ((b.toNat &&& (fw (-b)).toNat:Nat):Int)
   | false,true=>(-b) - (((-b).toNat &&& (fw b).toNat:Nat):Int)
   | false,false=>fw (((fw b).toNat|||(fw (-b)).toNat:Nat):Int))=_
  rw[h0,l];have:(fw (-b)).toNat=b.toNat - 1:=by
   have:fw (-b)=b - 1:=by show -(-b) - 1=b - 1;lia
   rw[this];lia
  rw[this]
 have cast:∀k:Nat,b % (2:Int) ^ k=((b.toNat % 2 ^ k:Nat):Int):=fun k=>by
  rw[Int.natCast_emod,fO,Int.toNat_of_nonneg (by lia)];rfl
 rw[cast]at u v;have:=zl4 t b.toNat (by lia) (by lia)
 have le:(b.toNat &&& (b.toNat - 1))<=b.toNat:=oW;rw[e];have x:((2 ^ t:Nat):Int)=(2:Int) ^ t:=by rw[fO];rfl
 lia
theorem zvn{b:Int}(h:0<b):∃t:Nat,b % 2 ^ t=0/\¬b % 2 ^ (t+1)=0:=by
 obtain⟨g,G⟩:=zjB (lo:=b) (hi:=b+b+1) (by lia)
 refine⟨g,G.1,fun z=>?_⟩
 have d:=bq z;have:=Int.le_of_dvd h d;exact G.2.2 ⟨z,by lia⟩
theorem zju{xs:qD}{x:af}:ixN (xs++[x]).length (-1)=some xs.length:=by
 unfold ixN;simp;lia
theorem zog{xs:qD}{x:af}{Q:af->Prop}(h:Q x):oIx (.list (xs++[x])) (.int (-1)) Q:=by
 have e:atI (xs++[x]) (-1)=some x:=by
  unfold atI;rw[zju];simp
 rw[Zu e];exact h
end L2
namespace Bd
open PySem L2
def ppD(xs:List (af×af)):List af:=xs.map fun p=>.tuple [p.1,p.2]
def oD(os:List ((Int×Int)×Str)):List af:=os.map fun p=>.tuple [prD p.1,.str p.2]
theorem U2{os:List ((Int×Int)×Str)}:(oD os).length=os.length:=by simp[oD]
def Shr(bits:Int)(os:List ((Int×Int)×Str)):Prop:=Ptc bits (os.map (·.1))/\∀p∈os,IsNm p.2
theorem zwg(os:List ((Int×Int)×Str)):oD os=ppD (os.map fun p=>(prD p.1,.str p.2)):=by
 unfold oD ppD;rw[dO];rfl
def apB(a b:Int×Int):Prop:=eB a<=b.1\/eB b<=a.1
def okPr(p q:(Int×Int)×Str):Prop:=p.2=q.2\/apB p.1 q.1
def Agr(os l:List ((Int×Int)×Str)):Prop:=∀p∈os,∀q∈l,okPr p q
abbrev Deal:=Int×List ((Int×Int)×Str)×List ((Int×Int)×Str)
def dlD(d:Deal):af:=.tuple [.int d.1,.tuple (oD d.2.1),.tuple (oD d.2.2)]
def Dl(d:Deal):Prop:=1<=d.1/\d.1<=64/\Shr d.1 d.2.1/\Shr d.1 d.2.2/\Agr d.2.1 d.2.2
def nD(l:List Str):List af:=l.map .str
end Bd
namespace L2
open PySem PySem.Spec PyProof.Rows
section
variable{X:Cx}{tg iter:aV}{d:DTE}
def iSeq(K:qF)(u:TE):TI:=fun σ H R=>u σ H fun x l=>∃a,x=.ref a/\(((∃xs,SqL K l a xs)/\R (Itl K a) l)\/((∃xs,SqT K l a xs)/\R (Itt K a) l))
theorem zsp{l:aV}{N:TE}(S:PE X l N):PI X tg l (iSeq X.K N):=by
 intro pins s σ H R I h;refine thn (S pins s σ H _ I h) fun v s1 ⟨x,L,u,Y,C⟩=>?_
 obtain⟨a,e,C⟩:=C;subst e;cases Y;rcases C with⟨⟨xs,G⟩,q⟩|⟨⟨xs,G⟩,q⟩
 ·obtain⟨y,U,p,Z⟩:=u.list G;refine gW p.isList ?_;refine⟨s1.heap.objs.size,[s1.heap.objs.size],_,_,L,rfl,u.kept (t':=s1.toks) fun b o e=>au _ e,zgT a _,⟨_,aH _ rfl,rfl,rfl⟩,fun b J=>?_,q⟩
  have e:b=s1.heap.objs.size:=by simpa using J
  subst e;exact u.fpOk (aC _) (u.hok.fresh (aC _))
 ·obtain⟨y,U,p,Z⟩:=u.tuple G;refine iU (show s1.heap.IsTuple a y.toArray from p) ?_
  refine⟨s1.heap.objs.size,[s1.heap.objs.size],_,_,L,rfl,u.kept (t':=s1.toks) fun b o e=>au _ e,zfo a _,⟨_,aH _ rfl,rfl,rfl⟩,fun b J=>?_,q⟩
  have e:b=s1.heap.objs.size:=by simpa using J
  subst e;exact u.fpOk (aC _) (u.hok.fresh (aC _))
def dItA(d:DTE):DTA:=fun u n R=>d u n fun t l=>J3 t fun ts=>R ts l
theorem zpk(h:DE X iter d):DI X tg iter (dItA d):=by
 obtain⟨Y,pa,h⟩:=h;refine⟨_,zsp pa,fun C I σ H n Q R S hd L=>?_⟩
 refine h C I σ H n _ _ S hd fun t G v N r J y q=>?_
 cases t with
 | tuple ts =>
  obtain⟨p,x,rfl,u,it⟩:=zpb (P:=fun a=>¬Own C I σ a) (fun _ z=>z) q
  exact⟨p,rfl,.inr ⟨⟨x,u⟩,L ts G _ N r J y it⟩⟩
 | list ts =>
  obtain⟨p,x,rfl,u,no,U⟩:=q.lstI;exact⟨p,rfl,.inl ⟨⟨x,SqL.of u⟩,L ts G _ N r J y (VF u no (fun _ z=>z) U)⟩⟩
 | _=>exact r.elim
end
section
variable{ρ:En}{n:Nat}{d:DTE}{Rl:List af->Nat->Prop}
instance zxq:Stp (dItA d ρ n Rl) (d ρ n fun t n'=>J3 t fun ts=>Rl ts n'):=⟨fun h=>h⟩
end
theorem VQ{bits:Int}{p q:Int×Int}(P:IsBk bits p.1 p.2)(Q:IsBk bits q.1 q.2){x:Int}(v:p.1<=x/\x<eB p)(u:q.1<=x/\x<eB q):(p.1<=q.1/\eB q<=eB p/\q.2<=p.2)\/(q.1<=p.1/\eB p<=eB q/\p.2<=q.2):=by
 unfold eB at *;rcases tX q.2.toNat p.2.toNat with l|l
 ·rcases zii P.n Q.n l with z|z|z
  ·left
   have:=(ziW P.n Q.n).mp z;have:=P.1;have:=Q.1;lia
  ·lia
  ·lia
 ·rcases zii Q.n P.n l with z|z|z
  ·right
   have:=(ziW Q.n P.n).mp z;have:=P.1;have:=Q.1;lia
  ·lia
  ·lia
theorem zi9{bits i h:Int}(B:IsBk bits i h):i % 2 ^ h.toNat=0:=by
 obtain⟨_,_,k,_,rfl,_⟩:=B;exact nN _ _
theorem Jr.great:∀{bs:qB}{lo hi:Int},Jr lo hi bs->∀b∈bs,QL b.1 hi b.2.toNat/\lo<=b.1
 | [],_,_,_=>fun b v=>nomatch v
 | b::r,lo,hi,h=>by
  obtain⟨C,x,y,l,u⟩:=h;have p:=Bd.QH b.2.toNat;intro c hc;rcases ax.mp hc with rfl|hc
  ·rw[x];exact⟨l,aY _⟩
  ·have:=Jr.great u c hc;exact⟨this.1,by lia⟩
theorem Jr.max{bits:Int}(Y:0<=bits){bs:qB}{lo hi:Int}(S:Jr lo hi bs)(l0:0<=lo)(l1:hi<=2 ^ bits.toNat){p q:Int×Int}(y:p∈bs)(Q:IsBk bits q.1 q.2)(w:lo<=q.1/\eB q<=hi)(i:q.1<=p.1/\eB p<=eB q):q=p:=by
 have B:=S.blk Y l0 l1;have P:=B p y;have pp:=Bd.QH p.2.toNat;have pq:=Bd.QH q.2.toNat;have nest:=VQ P Q (x:=p.1) ⟨aY _,by unfold eB;lia⟩ ⟨i.1,by unfold eB at *;lia⟩
 have hle:p.2<=q.2:=by
  rcases nest with⟨a,b,c⟩|⟨a,b,c⟩
  ·have u:p.1=q.1:=by lia
   have L:eB p=eB q:=by lia
   unfold eB at L;rcases iP q.2 p.2 with z|z
   ·have p0:=P.1;have q0:=Q.1;have:=Ul (show q.2.toNat+1<=p.2.toNat by lia)
    rw[cD]at this;lia
   ·exact z
  ·exact c
 have p0:=P.1;have q0:=Q.1
 by_cases e:p.2=q.2
 ·have u:(2:Int) ^ p.2.toNat=2 ^ q.2.toNat:=by rw[e]
  have:q.1=p.1:=by unfold eB at *;lia
  exact i5 this e.symm
 ·exfalso;have J:p.2.toNat+1<=q.2.toNat:=by lia
  have dq:=zi9 Q;have v:=U7 J dq;have G:=(S.great p y).1
  by_cases ev:p.1 % 2 ^ (p.2.toNat+1)=0
  ·
   apply G.2.2;refine⟨ev,?_⟩;obtain⟨a,l⟩:=bq ev;have de:eB q % 2 ^ (p.2.toNat+1)=0:=by
    unfold eB;rw[nM,v,df (zdp J)];simp
   obtain⟨c,I⟩:=bq de;have lt:p.1<eB q:=by have:=i.2;unfold eB at *;lia
   rw[l,I]at lt;have pos:=Bd.QH (p.2.toNat+1);have ac:a<c:=ki lt (by lia)
   have:=fC (show a+1<=c by lia) (show(0:Int)<=2 ^ (p.2.toNat+1) by lia)
   rw[oF,ku,<- l,<- I]at this;lia
  ·
   have IP:(p.1 - 2 ^ p.2.toNat) % 2 ^ (p.2.toNat+1)=0:=by
    obtain⟨k,ek⟩:=bq (zi9 P);have L:(2:Int) ^ (p.2.toNat+1)=2 ^ p.2.toNat*2:=cD _ _;rw[L]at ev ⊢;have odd:k % 2=1:=by
     rcases oV k with z|z
     ·exfalso;obtain⟨t,et⟩:=bq z;apply ev;apply df;exact⟨t,by rw[ek,et,e9]⟩
     ·exact z
    apply df;refine⟨(k - 1) / 2,?_⟩;have:k - 1=2*((k - 1) / 2):=by lia
    rw[ek,e9,<- this,Int.mul_sub,ku]
   have lowq:q.1<=p.1 - 2 ^ p.2.toNat:=by
    obtain⟨a,l⟩:=bq IP;obtain⟨c,I⟩:=bq v;have pos:=Bd.QH (p.2.toNat+1);have L:(2:Int) ^ (p.2.toNat+1)=2 ^ p.2.toNat*2:=cD _ _;have lt:q.1<p.1 - 2 ^ p.2.toNat+2 ^ (p.2.toNat+1):=by lia
    rw[l,I]at lt;have:(2:Int) ^ (p.2.toNat+1)*c<2 ^ (p.2.toNat+1)*(a+1):=by rw[oF,ku];exact lt
    have ca:=ki this (by lia)
    have:=fC (show c<=a by lia) (show(0:Int)<=2 ^ (p.2.toNat+1) by lia)
    rw[<- l,<- I]at this;exact this
   obtain⟨c,hc,c1,c2⟩:=(S.mem (p.1 - 2 ^ p.2.toNat)).mpr ⟨by lia,by have:=S.in p y;unfold eB at this;lia⟩
   have C:=B c hc;have pc:=Bd.QH c.2.toNat;have cp:eB c<=p.1:=by
    obtain⟨i1,h1,rfl⟩:=bg hc;obtain⟨R,h2,rfl⟩:=bg y;rcases dZ i1 R with z|z|z
    ·exact aP.mp S.pw i1 R h1 h2 z
    ·subst z;lia
    ·have:=aP.mp S.pw R i1 h2 h1 z;unfold eB at this;lia
   have LB:IsBk bits (p.1 - 2 ^ p.2.toNat) (p.2+1):=by
    have hq1:=Q.2.1;obtain⟨a,l⟩:=bq IP;have u:(p.2+1).toNat=p.2.toNat+1:=by lia
    have pos:=Bd.QH (p.2.toNat+1);have a0:0<=a:=by
     rcases iP a 0 with z|z
     ·have:=gA pos z;have:=(Q.bounds Y).1;lia
     ·exact z
    refine⟨by lia,by lia,a,a0,by rw[u,l,dP],?_⟩
    have e:(2:Int) ^ bits.toNat=2 ^ (bits - (p.2+1)).toNat*2 ^ (p.2.toNat+1):=by rw[<- gT];congr 1;lia
    have up:a*2 ^ (p.2.toNat+1)<2 ^ (bits - (p.2+1)).toNat*2 ^ (p.2.toNat+1):=by
     rw[<- e,dP,<- l];have:=(P.bounds Y).2;lia
    exact kc up (by lia)
   have u:(p.2+1).toNat=p.2.toNat+1:=by lia
   have n3:=VQ (p:=c) (q:=(p.1 - 2 ^ p.2.toNat,p.2+1)) C LB (x:=p.1 - 2 ^ p.2.toNat) ⟨c1,c2⟩ ⟨aY _,by show _<_+2 ^ (p.2+1).toNat;have:=Bd.QH (p.2+1).toNat;lia⟩
   have eL:eB (p.1 - 2 ^ p.2.toNat,p.2+1)=p.1+2 ^ p.2.toNat:=by
    show p.1 - 2 ^ p.2.toNat+2 ^ (p.2+1).toNat=_
    rw[u,cD];lia
   rcases n3 with⟨Z,z2,U⟩|⟨Z,z2,U⟩
   ·lia
   ·have Z:p.1 - 2 ^ p.2.toNat<=c.1:=Z;have U:c.2<=p.2+1:=U;have cb:c.1=p.1 - 2 ^ p.2.toNat:=by lia
    have c0:=C.1;have ch:c.2<=p.2:=by
     rcases iP p.2 c.2 with z|z
     ·have:c.2=p.2+1:=by lia
      unfold eB at cp;rw[this,u,cD]at cp;lia
     ·exact z
    have Gc:=(S.great c hc).1;apply Gc.2.2;refine⟨?_,?_⟩
    ·rw[cb];exact U7 (show c.2.toNat+1<=p.2.toNat+1 by lia) IP
    ·have:=Ul (show c.2.toNat+1<=p.2.toNat+1 by lia)
     have L:(2:Int) ^ (p.2.toNat+1)=2 ^ p.2.toNat*2:=cD _ _;have:=S.in p y;unfold eB at this;lia
theorem NR.one{rs:List Run}(l:NR rs){a b:Int}(h:a<b)(w:∀x,a<=x->x<b->mR x rs):∃r∈rs,r.1<=a/\b<=r.2:=by
 obtain⟨r,u,G,I⟩:=w a (aY _) h;refine⟨r,u,G,?_⟩;rcases iP r.2 b with z|z
 ·exfalso;obtain⟨s,C,k1,k2⟩:=w r.2 (by lia) z
  obtain⟨i,hi,rfl⟩:=bg u;obtain⟨j,v,rfl⟩:=bg C;have L:=l.1 _ u;have J:=l.1 _ C;rcases dZ i j with y|y|y
  ·have:=aP.mp l.2 i j hi v y;lia
  ·subst y;lia
  ·have:=aP.mp l.2 j i v hi y;lia
 ·exact z
theorem PatS.from:∀{rs:List Run}{ps:qB},PatS rs ps->∀p∈ps,∃r∈rs,∃bs,Jr r.1 r.2 bs/\p∈bs
 | [],_,h=>by cases(show _=[] from h);exact fun b u=>nomatch u
 | s::rs,_,h=>by
  obtain⟨a,b,rfl,v,y⟩:=h;intro p l;rcases av.mp l with l|l
  ·exact⟨s,by simp,a,v,l⟩
  ·obtain⟨r,x,bs,B,u⟩:=PatS.from y p l
   exact⟨r,by simp[x],bs,B,u⟩
theorem CanP.max{bits:Int}(R:0<=bits){S:Int->Prop}{ps:qB}(h:CanP S ps)(w:∀x,S x->0<=x/\x<2 ^ bits.toNat){p q:Int×Int}(U:p∈ps)(Q:IsBk bits q.1 q.2)(Y:∀x,q.1<=x->x<eB q->S x)(i:q.1<=p.1/\eB p<=eB q):q=p:=by
 obtain⟨rs,l,I,P⟩:=h;obtain⟨r,u,bs,B,N⟩:=P.from p U
 have lt:=l.1 r u;have w1:=w r.1 ((I _).mp ⟨r,u,aY _,lt⟩);have w2:=w (r.2 - 1) ((I _).mp ⟨r,u,by lia,by lia⟩)
 have pin:=B.in p N;have pp:=Q1 p;obtain⟨s,Z,s1,s2⟩:=l.one (a:=q.1) (b:=eB q) (Q1 q) fun x C v=>(I x).mpr (Y x C v)
 have L:r=s:=by
  obtain⟨J,C,rfl⟩:=bg u;obtain⟨G,v,rfl⟩:=bg Z;rcases dZ J G with y|y|y
  ·have:=aP.mp l.2 J G C v y;lia
  ·subst y;rfl
  ·have:=aP.mp l.2 G J v C y;lia
 subst L;exact B.max R w1.1 (by lia) N Q ⟨s1,s2⟩ i
theorem zhv:∀{ps bs:qB},(ps.Pairwise fun a b=>eB a<=b.1)->(∀p∈ps,∃b∈bs,p.1<=b.1/\b.1<eB p)->ps.length<=bs.length
 | [],_,_,_=>dR _
 | p::ps,bs,pw,h=>by
  obtain⟨b,v,G,C⟩:=h p (by simp)
  have l:=fI.mp pw;have:=zhv (ps:=ps) (bs:=bs.erase b) l.2 fun q u=>by
   obtain⟨c,hc,x,y⟩:=h q (by simp[u])
   refine⟨c,(List.mem_erase_of_ne ?_).mpr hc,x,y⟩;rintro rfl;have:=l.1 q u;lia
  have e:=List.length_erase_of_mem v;have:=List.length_pos_of_mem v;rw[aN];lia
theorem CanP.le{bits:Int}(C:0<=bits){bs ps:qB}(B:Bks bits bs)(h:CanP (fun x=>mB x bs) ps):ps.length<=bs.length:=by
 have w:∀x,mB x bs->0<=x/\x<2 ^ bits.toNat:=fun x ⟨b,l,G,v⟩=>by
  have:=(B b l).bounds C;unfold eB at v;lia
 have P:=h.ptc C w;refine zhv P.2 fun p y=>?_
 have pp:=Q1 p;obtain⟨b,l,G,v⟩:=(h.mem p.1).mp ⟨p,y,aY _,pp⟩;rcases VQ (P.1 p y) (B b l) (x:=p.1) ⟨aY _,pp⟩ ⟨G,v⟩ with z|z
 ·exact⟨b,l,z.1,by have:=Q1 b;lia⟩
 ·have:=h.max C w y (B b l) (fun x I J=>⟨b,l,I,J⟩) ⟨z.1,z.2.1⟩
  subst this;exact⟨b,l,aY _,pp⟩
section
variable{Q:af->Prop}{s t:Str}{i j:Int}{b:Bool}{xs ys:qD}
theorem zlI:Okd .none:=znY.okd
instance zw7:Stp (oNe (.str s) .none Q) (Okd (.str s)/\Q (.bool true)):=⟨fun h=>⟨h.1,zlI,h.2⟩⟩
end
end L2
namespace Bd
open PySem L2
def Yr(nm:af):Prop:=nm=.none\/∃s,nm=.str s/\IsNm s
def who(s:Str):af->Bool
 | .str t=>decide (s=t)
 | _=>false
def QD(d:Deal)(nm:af):List (Int×Int):=(d.2.2.filter fun p=>!who p.2 nm).map (·.1)
end Bd
namespace L2
open PySem Bd
theorem CanP.hold{bits:Int}(v:0<=bits){S:Int->Prop}{ps:qB}(h:CanP S ps)(w:∀x,S x->0<=x/\x<2 ^ bits.toNat){b:Int×Int}(B:IsBk bits b.1 b.2)(u:∀x,b.1<=x->x<eB b->S x):∃p∈ps,p.1<=b.1/\eB b<=eB p:=by
 have P:=h.ptc v w;have lt:=Q1 b;obtain⟨p,l,y,p2⟩:=(h.mem b.1).mpr (u b.1 (aY _) lt);rcases VQ (P.1 p l) B (x:=b.1) ⟨y,p2⟩ ⟨aY _,lt⟩ with z|z
 ·exact⟨p,l,z.1,z.2.1⟩
 ·have e:=h.max v w l B u ⟨z.1,z.2.1⟩;exact⟨p,l,by rw[e];exact aY _,by rw[e];exact aY _⟩
variable{as bs cs:List Run}{a b:Nat}
end L2
namespace L2
open PySem PySem.Spec PyProof.Rows
abbrev KT(H:Hp):List (List Key×V)->List (List Key×ak×ah)->Prop:=eN fun p q=>p.1=q.1/\H q.2.1=some (.tup (p.1.map kV))/\RelV p.2 q.2.2
def NoSl(i:aV):Prop:=∀l u,subscripted i false l u=operate [l,u] (getItem l u)
theorem zkZ{prog:aL}{w:aT}{A:br}{E:qV}{s:aq}{env:Env}{value slice:aV}{pos:Pos}{T id:String}{Q:qV}
  (R:typeLookup (.type T) "__getitem__" = pure (some (.builtin id))) (U:NoSl slice)
  (h:wpAny (model prog w) A (eval value env) (fun o I=>wpAny (model prog w) A (eval slice env) (fun i v=>v.TypeIs o T/\wpAny (model prog w) A (getItem o i) Q E v) E I) E s) :
  wpAny (model prog w) A (eval (.Subscript value slice pos) env) Q E s:=by
 refine ph (c8 h (fun o I L=>c8 L (fun i v C=>?_) fun _ _ x=>x) fun _ _ x=>x)
 obtain⟨N,C⟩:=C;unfold subscriptTail;refine ae ?_;rw[getitemInPython_of_ne N.not_modules];refine ae (oX N R ?_);have fin:wpAny (model prog w) A (subscripted slice false o i) (fun r G=>wpAny (model prog w) A (letTemporaryGo value o r >>= fun _=>pure r) Q E G) E v:=by
  rw[U o i];exact wpAny_operating (c8 C (fun r G J=>ae (wpAny_letTemporaryGo (aj J))) fun _ _ x=>x)
 first
  | exact aj (ae fin)
  | exact ae (aj (ae fin))
  | exact ae fin
end L2
namespace L2
open PySem PySem.Spec PyProof PyProof.Rows
abbrev KD:=List (Key×af)
section
variable{D:JU}{ρ ρ':En}{n i j:Nat}{d dk dv:DTE}{R:qN}{ks:KD}
instance{ks:KD}:CapC (some (.dct ks)) (some (.rdo ks)):=⟨rfl⟩
instance{ks:KD}:CapC (some (.rdo ks)) (some (.rdo ks)):=⟨rfl⟩
end
theorem Vx{bits:Int}(y:0<=bits){bs:qB}(B:Bks bits bs){x:Int}(h:mB x bs):0<=x/\x<2 ^ bits.toNat:=by
 obtain⟨b,v,C,l⟩:=h;have:=(B b v).bounds y;unfold eB at l;lia
theorem zqi{bits:Int}(y:0<=bits)(v:bits<=64){S:Int->Prop}{rs:qB}(u:NR rs)(e:∀x,mR x rs↔S x)(w:∀x,S x->0<=x/\x<2 ^ bits.toNat):∀r∈rs,0<=r.1/\r.1<=r.2/\r.2<=2 ^ 64:=fun r l=>by
 have lt:=u.1 r l;have a:=w r.1 ((e _).mp ⟨r,l,aY _,lt⟩);have b:=w (r.2 - 1) ((e _).mp ⟨r,l,by lia,by lia⟩)
 have:=Bd.zdY (k:=bits.toNat) (by lia)
 lia
section
variable{X:Cx}
theorem zcJ{α v:Type}{F:α->v->Prop}{u:List α}{l:List v}(r:eN F u l){b:v}(h:b∈l):∃a∈u,F a b:=by
 induction r with
 | nil=>cases h
 | cons f t x =>
  rcases ax.mp h with rfl|h
  ·exact⟨_,cC,f⟩
  ·obtain⟨b,y,g⟩:=x h;exact⟨b,b5 _ y,g⟩
end
end L2
namespace Bd
open PySem L2
theorem zrM{s:Str}(h:bT (.str s)=true)(hc:∀c∈s.cps.toList,c<16 ^ 8):Sm s.cps.size 0 (.str s) :=
 ⟨by
  simp only[gM,bG,decide_eq_true_eq];exact hc,rfl,h,aC _,aC _⟩
theorem zvz{s:Str}(h:IsNm s):Sm 8 0 (.str s):=(zrM (Vo h).1 fun c hc=>by have:=(h.2.2 c hc).2;lia).mono h.2.1 (aC _)
end Bd
namespace Bd
open PySem L2
def Dq(K:qF)(mg:qM)(x:Str)(st:dH)(ps:List Str):Prop:=∃f fd,Def K mg x st ps f fd
def Fq(P:aL)(w:aT)(K:qF)(mg:qM)(base:aW)(x:Str)(st:dH)(ps:List Str)(k:Nat)(l:Sp):Prop:=∃f fd,Def K mg x st ps f fd/\FnOk P w K mg base CX0 k f fd ps l
end Bd
namespace L2
open PySem PySem.Spec PyProof.Rows
section
variable{X:Cx}{x:Str}{st:dH}{ps:List Str}{k n m:Nat}{g:GD}{e:aV}{es:List aV}{ds:DTA}{p pos:Pos}
theorem Jf(F:Bd.Fq X.prog X.w X.K X.mg X.base x st ps k (spD X.K m g))(I:Room n X.A)(h:DB X (e::es) ds)(v:k<=n:=by decide)(J:(e::es).length=m:=by rfl)(y:Gl X x:=by rfl)
  (u:(x == ("__debug__":Str))=false:=by rfl):DE X (.Call (.Name x p) (e::es) [] pos) (dFn g ds):=by
 obtain⟨f,fd,D,G⟩:=F;exact zwZ D G (I.mono v) h J y u
theorem zuu(F:Bd.Fq X.prog X.w X.K X.mg X.base x st ps k (spD X.K m g))(I:Room n X.A)(h:DBL X (e::es) ds)(v:k<=n:=by decide)(J:(e::es).length=m:=by rfl)(y:Gl X x:=by rfl)
  (u:(x == ("__debug__":Str))=false:=by rfl):DE X (.Call (.Name x p) (e::es) [] pos) (dFnL g ds):=by
 obtain⟨f,fd,D,G⟩:=F;exact zuv D G (I.mono v) h J y u
end
section
variable{X:Cx}{hx s kx x:Str}{st:dH}{ps:List Str}{k n:Nat}{p p1 p2 p3 pos pos':Pos}{sts:List dH}{u:DTS}
theorem zmy{i j:Nat}(F:Bd.Fq X.prog X.w X.K X.mg X.base hx st ps k (Vs X.K))(hr:Room n X.A)(hN:X.N.Nodup)(hi:X.N[i]?=some x)(Y:Loc X.env.scope x)(hu:DSs X sts u)(hk:k<=n:=by decide)(S:i≠0:=by decide)(y:j≠0:=by decide)(U:j≠i:=by decide)
  (h0:X.N[0]?=some s:=by rfl) (Z:X.N[j]?=some kx:=by rfl) (J:Vis X.env.scope s:=by walk_at "V") (R:Vis X.env.scope kx:=by walk_at "V")
  (v:(s == ("__debug__":Str))=false:=by rfl) (Ki:(s == ("__classdict__":Str))=false:=by rfl) (L:(kx == ("__debug__":Str))=false:=by rfl) (Kj:(kx == ("__classdict__":Str))=false:=by rfl) (hg:Gl X hx:=by rfl) (I:(hx == ("__debug__":Str))=false:=by rfl)
  (hs:swapsWith (.Call (.Name hx p) [.Name s p1,.Name kx p2] [] p3) (some (.Name x pos')) pos.line X.env=pure false:=by rfl) (hf:X.fn x=true\/X.env.scope.names.lookup x=some .local:=by walk_at "F") :
  DSs X (.Assign [.Name x pos'] (.Call (.Name hx p) [.Name s p1,.Name kx p2] [] p3) pos::sts) (Yw i j u):=by
 obtain⟨f,fd,D,G⟩:=F;exact zoy D G (hr.mono hk) hN hi Y hu S y U h0 Z J R v Ki L Kj hg I hs hf
end
end L2
namespace Bd
open PySem L2
section
variable{K:qF}{h:aW}{mg:qM}{x:Str}{st:dH}{ps:List Str}
abbrev BndA(x:Str)(st:dH)(ps:List Str):Prop:=∀(kV doc pm:ah) (an:Option ak) (cdv ct:ah) (us:List ah),us.length=ps.length->bindArgs (dz x x (Qz st) (Qe st) (JF st) .none kV doc pm an cdv ct) ⟨us,[]⟩=pure (ps.zip us)
theorem lenS{l:List ah}{n:Nat}(h:l.length=n+1):∃a t,l=a::t/\t.length=n:=by
 cases l with
 | nil=>cases h
 | cons a t=>exact⟨a,t,rfl,tZ h⟩
theorem len1{l:List ah}(h:l.length=1):∃a,l=[a]:=by
 obtain⟨a,t,rfl,e⟩:=lenS h;exact⟨a,by rw[List.eq_nil_of_length_eq_zero e]⟩
theorem len2{l:List ah}(h:l.length=2):∃a b,l=[a,b]:=by
 obtain⟨a,t,rfl,e⟩:=lenS h;obtain⟨b,rfl⟩:=len1 e;exact⟨a,b,rfl⟩
theorem len3{l:List ah}(h:l.length=3):∃a b c,l=[a,b,c]:=by
 obtain⟨a,t,rfl,e⟩:=lenS h;obtain⟨b,c,rfl⟩:=len2 e;exact⟨a,b,c,rfl⟩
theorem len4{l:List ah}(h:l.length=4):∃a b c d,l=[a,b,c,d]:=by
 obtain⟨a,t,rfl,e⟩:=lenS h;obtain⟨b,c,d,rfl⟩:=len3 e;exact⟨a,b,c,d,rfl⟩
end
end Bd
namespace L2
open PySem PySem.Spec PyProof PyProof.Rows
section
variable{prog:aL}{w:aT}{A:br}{E:qV}{s:aq}
theorem ziU{l:ak}{items:Array ah}{Q:List ah->aq->Prop}(I:mY s.heap l items)(S:A.handled=none)(U:2<=items.size)(Z:items.size<=sizeLine)
  (h:∀(h':aW) (tk:Nat),(∀b o,s.heap.get? b=some o->h'.get? b=some o)->Q (items.toList.take 2++[.ref h'.objs.size]) { s with heap:=h'.push { cls:=.type "list",data:=.seq (items.toList.drop 2).toArray },toks:=tk }) :
  wpAny (model prog w) A (unpackItems (.ref l) 3 (some 2)) Q E s:=by
 have G:l≠s.heap.objs.size:=by obtain⟨o,R,_⟩:=I;exact aJ (aD R)
 unfold unpackItems;refine ae ?_;unfold notIterableAtAll;refine ae (oX I.typeIs slot_tuple_iter.lookup (aj ?_));simp only[aI,if_false];refine ae (cg (iter_tuple I ?_));refine ae (cg (draw_tuple G 2 0 _ _ ⟨_,aH _ rfl,rfl,rfl⟩ (I.push _) (by lia) fun v hit L=>?_))
 have C:mY v l items:=(I.push _).extBut L.extBut G;have a1:∃o,v.get? s.heap.objs.size=some o:=by obtain⟨o,q,_⟩:=hit;exact⟨o,q⟩
 have a2:∃o,v.get? l=some o:=by obtain⟨o,q,_⟩:=C;exact⟨o,q⟩
 obtain⟨o1,a1⟩:=a1;obtain⟨o2,a2⟩:=a2;rw[ka];have fl:(items.toList.take 2).length=2:=by rw[fk,cS];lia
 rw[if_neg (show ¬((items.toList.take 2).length<2) by lia)]
 refine ae (cg (PySem.W.kun_collect (s:={ s with heap:=v }) (T:="tuple_iterator") (.inr (.inr (.inr rfl))) (Walks.tuple (A:=A.in1) S s.heap.objs.size l G items) (fun j u st=>st.1.typeIs) (k:=2) U ⟨hit,C⟩ (aD a1) (aD a2) (fun J tk N=>?_) Z))
 rw[if_neg (by lia)]
 show wpAny _ _ (newList ((items.toList.drop 2).take ((items.toList.drop 2).length - (3 - 1 - 2))) >>= fun d=>pure (items.toList.take 2++[d]++(items.toList.drop 2).drop ((items.toList.drop 2).length - (3 - 1 - 2)))) _ _ _
 have Y:(items.toList.drop 2).take ((items.toList.drop 2).length - (3 - 1 - 2))=items.toList.drop 2:=cP (by lia)
 have e2:(items.toList.drop 2).drop ((items.toList.drop 2).length - (3 - 1 - 2))=[]:=fH (by lia)
 rw[Y,e2];refine ae (iB (aj ?_) (by rw[eI,cS];lia))
 rw[bW];exact h J tk fun b o q=>N b o (aJ (aD q)) (L.extBut b o (aJ (aD q)) (au _ q))
end
theorem zp0{xs:List V}{u:List ah}(r:Vals xs u):Vals (xs.drop 2) (u.drop 2):=by
 cases r with
 | nil=>exact .nil
 | cons _ r=>cases r with
  | nil=>exact .nil
  | cons _ r=>exact r
theorem zpZ{xs:List V}{x:List ah}{v:V}{u:ah}(r:Vals xs x)(q:RelV v u):Vals (xs.take 2++[v]) (x.take 2++[u]):=by
 cases r with
 | nil=>exact .cons q .nil
 | cons a r=>cases r with
  | nil=>exact .cons a (.cons q .nil)
  | cons b r=>exact .cons a (.cons b (.cons q .nil))
section
variable{X:Cx}{a b c e:aV}{pos p3:Pos}{t:TGs}{te:TE}
def zwX(K:qF)(t:TGs):TG:=fun v σ H Q=>∃a xs,v=.ref a/\SqT K H a xs/\2<=xs.length/\∀p,H p=none->t (xs.take 2++[.ref p]) σ (upd H p (.lst (xs.drop 2))) Q
theorem zpP{k:Nat}(hc:X.calm=true)(h:PGs X [a,b,c] t)(U:(assignEach [a,b,.Starred c p3] X.env).length=3:=by rfl)(J:(assignEach [a,b,.Starred c p3] X.env).findIdx? (·.1)=some 2:=by rfl)
  (Y:(assignEach [a,b,.Starred c p3] X.env).map (·.2)=(assignEach [a,b,c] X.env).map (·.2):=by rfl):PG X (.Tuple [a,b,.Starred c p3] k pos) (zwX X.K t):=by
 intro pins s σ H v u Q I r hw;obtain⟨q,xs,rfl,Z,hl,hw⟩:=hw;cases r;obtain⟨C,G,R,hz⟩:=I.tuple Z;have le:=G.length;rw[assign_Tuple];refine ae (dN ?_);unfold unpack;rw[U,J,Y];refine ae (cg (ziU R (I.ok.hd hc) (by rw[aF];lia) (by rw[aF];lia) fun h' tk kp=>?_))
 have L:Inv X pins σ H { s with heap:=h',toks:=tk }:=I.kept kp
 have N:Inv X pins σ (upd H h'.objs.size (.lst (xs.drop 2))) { s with heap:=h'.push { cls:=.type "list",data:=.seq (C.drop 2).toArray },toks:=tk }:=L.laid (t':=tk) (fun b o q=>au _ q) (aC _) ⟨by rw[eI];lia,C.drop 2,0,zp0 G,aH _ rfl⟩
 exact h pins _ σ _ _ _ Q N (zpZ G (show RelV (.ref h'.objs.size) (.ref h'.objs.size) from rfl)) (hw _ (L.hok.fresh (aC _)))
end
section
variable{X:Cx}{e:aV}{x y z:Str}{pos px py pz p3 pt:Pos}{d:DTE}
def Vl(t:af)(Q:af->af->List af->Prop):Prop:=match t with
 | .tuple (x::y::r)=>Q x y r
 | _=>False
def zr3(i j k:Nat)(d:DTE):DTS:=fun D G n=>d G n fun t I=>Vl t fun x y r=>SetK i (some (.val x)) (fun u C=>SetK j (some (.val y)) (fun u C=>SetK k (some (.val (.list r))) D.nx u C) u C) G I
theorem zqZ{i j k kt:Nat}(hc:X.calm=true)(I:X.N.Nodup)(hi:X.N[i]?=some x)(hj:X.N[j]?=some y)(hk:X.N[k]?=some z)(hx:Loc X.env.scope x)(hy:Loc X.env.scope y)(hz:Loc X.env.scope z)(h:DE X e d)
  (fx:X.fn x=true\/X.env.scope.names.lookup x=some .local:=by walk_at "F") (fy:X.fn y=true\/X.env.scope.names.lookup y=some .local:=by walk_at "F") (fz:X.fn z=true\/X.env.scope.names.lookup z=some .local:=by walk_at "F")
  (hs:swapsWithSole [.Tuple [.Name x px,.Name y py,.Starred (.Name z pz) p3] kt pt] e pos.line X.env=pure false:=by rfl) (hw:swappedStores [.Tuple [.Name x px,.Name y py,.Starred (.Name z pz) p3] kt pt] e X.env=pure none:=by rfl) :
  DS X (.Assign [.Tuple [.Name x px,.Name y py,.Starred (.Name z pz) p3] kt pt] e pos) (zr3 i j k d):=by
 obtain⟨ta,pa,h⟩:=h;refine⟨_,ZI pa (zpP hc (VR (VM I hi hx fx) (VR (VM I hj hy fy) (VR (VM I hk hz fz) zlu)))) hs hw,fun C Z σ H n D D' S hd g=>?_⟩
 refine h C Z σ H n _ _ S hd fun t n' v R r e1 U q=>?_
 unfold Vl at r;split at r
 ·rename_i u w us;obtain⟨p,vs,rfl,h1,J⟩:=q.tupI;cases J with
  | cons ru J =>
   cases J with
   | @cons v2 d2 vr ds2 rw rs =>
    refine⟨p,_,rfl,h1,by simp,fun q L=>?_⟩
    have G:ExtE C.hd R (upd R q (.lst vr)):=ExtE.new L;have Y:=S.on e1 U;have S2:=Y.on G (U.same (JS L));have r3:Rep X.K C.hd (Own C Z σ) _ (.ref q) (.list us):=.lst JM (Y.free L) (G.reps S.hx rs);have T1:=S2.put (i:=i) (G.rep S.hx ru);have T2:=T1.put (i:=j) (Keep.rep QI S.hx (G.rep S.hx rw));have T3:=T2.put (i:=k) (Keep.rep (QI.trans QI) S.hx r3);exact⟨_,_,rfl,_,_,rfl,_,_,rfl,rfl,g.nx _ _ _ n' r T3 ((e1.keep.trans G.keep).trans ((QI.trans QI).trans QI))⟩
 ·exact r.elim
end
def StD(P:aL)(w:aT)(K:qF)(mg:qM)(x:Str)(l:List (Str×List Str)):Prop :=
 ∃(a:ak) (o:Obj) (v:Array dI) (C:Nat) (y:List (Str×ah)),mg x=some (.ref a)/\(a == sysModules)=false/\K.lookup a=some o/\o.ExactDict/\o.data=.dict v C/\KeysOf (strKind P w) v/\Pairs (strKind P w) v.toList y/\(y.map (·.1)).Nodup /\
  eN (fun(p:Str×List Str) (q:Str×ah)=>p.1=q.1/\∃b,q.2=.ref b/\StT K b (p.2.map V.str)) l y
def getT(l:List (Str×List Str))(z:Str):Option (List Str):=(l.find? fun u=>decide (u.1=z)).map (·.2)
theorem zot{K:qF}{l:List (Str×List Str)}{v:List (Str×ah)}(r:eN (fun(p:Str×List Str) (q:Str×ah)=>p.1=q.1/\∃b,q.2=.ref b/\StT K b (p.2.map V.str)) l v)(z:Str) :
  (valueAt v z).isSome=(getT l z).isSome/\∀u,getT l z=some u->∃b,valueAt v z=some (.ref b)/\StT K b (u.map V.str):=by
 induction r with
 | nil=>exact⟨rfl,fun u h=>by cases h⟩
 | @cons p q ps qs h t ih =>
  obtain⟨x,b,C,I⟩:=h
  by_cases e:q.1=z
  ·have a1:valueAt (q::qs) z=some q.2:=by simp[valueAt,fP,e]
   have a2:getT (p::ps) z=some p.2:=by simp[getT,fP,x.trans e]
   rw[a1,a2];exact⟨rfl,fun u y=>by cases y;exact⟨b,by rw[C],I⟩⟩
  ·have a1:valueAt (q::qs) z=valueAt qs z:=by simp[valueAt,fP,e]
   have a2:getT (p::ps) z=getT ps z:=by simp[getT,fP,show ¬p.1=z from fun G=>e (x.symm.trans G)]
   rw[a1,a2];exact ih
section
variable{X:Cx}{e:aV}{x:Str}{pos p1:Pos}{d:DTE}{te:TE}{kvs:List (Str×List Str)}
theorem StD.at(h:StD X.prog X.w X.K X.mg x kvs):∃(a:ak) (l:List (Str×ah)),X.mg x=some (.ref a)/\(a == sysModules)=false/\(∀{pins σ H s},Inv X pins σ H s->s.heap.DictOf (strKind X.prog X.w) a l) /\
  ∀z,(valueAt l z).isSome=(getT kvs z).isSome/\∀u,getT kvs z=some u->∃b,valueAt l z=some (.ref b)/\StT X.K b (u.map V.str):=by
 obtain⟨a,o,v,C,l,R,J,G,N,Y,y,U,Z,L⟩:=h;exact⟨a,l,R,J,fun I=>⟨o,v,C,I.kIn a o G,N,Y,y,U,Z⟩,zot L⟩
def zvs(kvs:List (Str×List Str))(te:TE):TE:=fun σ H Q=>te σ H fun y u=>∃z,y=.str z/\Q (.bl (!(getT kvs z).isSome)) u
theorem zp1(h:StD X.prog X.w X.K X.mg x kvs)(G:Gl X x)(C:PE X e te)(hd:(x == ("__debug__":Str))=false:=by rfl):PC X .NotIn e (.Name x p1) (zvs kvs te):=by
 obtain⟨a,vs,U,R,L,S⟩:=h.at;intro pins s σ H Q I hw;refine thn (C pins s σ H _ I hw) fun J s1 ⟨y,v,u,Y,z,Z,q⟩=>U4 u G U ?_ hd
 subst Z;obtain⟨t,rfl⟩:∃t,J=iQ z t:=Y;refine wpAny_notIn_of (knd:=strKind X.prog X.w) (k:=z) (by show dg z (.str z t)=true;simp[dg]) R (L u).mapOf ?_
 rw[(S z).1];exact⟨.bl _,v,u.tok _,rfl,q⟩
def zvt(kvs:List (Str×List Str))(K:qF)(te:TE):TE:=fun σ H Q=>te σ H fun y u=>∃z l,y=.str z/\getT kvs z=some l/\∀b,StT K b (l.map V.str)->Q (.ref b) u
theorem zpS(h:StD X.prog X.w X.K X.mg x kvs)(J:Gl X x)(G:PE X e te)(Y:NoSl e)(hd:(x == ("__debug__":Str))=false:=by rfl):PE X (.Subscript (.Name x p1) e pos) (zvt kvs X.K te):=by
 obtain⟨a,vs,Z,h2,v,R⟩:=h.at;intro pins s σ H Q I hw;refine zkZ kj.lookup Y (U4 I J Z (thn (G pins s σ H _ I hw) fun L s1 ⟨y,C,l,ry,z,U,ez,g,q⟩=>?_) hd)
 subst ez;obtain⟨t,rfl⟩:∃t,L=iQ z t:=ry;obtain⟨b,g1,g2⟩:=(R z).2 U g;refine⟨(v l).typeIs,oo (knd:=strKind X.prog X.w) (k:=z) (by show dg z (.str z t)=true;simp[dg]) (v l).mapOf g1 ⟨.ref b,C,l.tok _,rfl,q b g2⟩⟩
def zuy(kvs:List (Str×List Str))(d:DTE):DTE:=fun u n R=>d u n fun y v=>lStr y fun z=>R (.bool (!(getT kvs z).isSome)) v
theorem zqY(h:StD X.prog X.w X.K X.mg x kvs)(l:DE X e d)(J:Gl X x:=by rfl)(hd:(x == ("__debug__":Str))=false:=by rfl) (Y:behindInMarks .NotIn (.Name x p1)=false:=by rfl):DT X (.Compare e [.NotIn] [.Name x p1] pos) (Uc (zuy kvs d)):=by
 obtain⟨ta,pa,l⟩:=l;refine⟨_,zsf (zp1 h J pa hd) Y,fun C L σ H n Q R S hd hq=>?_⟩
 refine l C L σ H n _ _ S hd fun y Z v G r U u q=>?_
 cases y with
 | str z=>exact⟨z,q.strI,_,rfl,hq _ Z G r U u⟩
 | _=>exact r.elim
def dGGet(kvs:List (Str×List Str))(d:DTE):DTE:=fun C n R=>d C n fun y G=>lStr y fun z=>∃v,getT kvs z=some v/\R (.tuple (v.map gm)) G
theorem zji{K:qF}{hd:Option ak}{O:ak->Prop}{H:Hp}:∀u:List Str,Reps K hd O H (u.map V.str) (u.map gm)
 | []=>.nil
 | k::u=>.cons (.str k) (zji u)
theorem zq6(h:StD X.prog X.w X.K X.mg x kvs)(l:DE X e d)(L:Gl X x:=by rfl)(hd:(x == ("__debug__":Str))=false:=by rfl) (Z:NoSl e:=by intro _ _;rfl):DE X (.Subscript (.Name x p1) e pos) (dGGet kvs d):=by
 obtain⟨ta,pa,l⟩:=l;refine⟨_,zpS h L pa Z hd,fun C U σ H n Q R S hd hq=>?_⟩
 refine l C U σ H n _ _ S hd fun y n1 v J r Y G q=>?_
 cases y with
 | str z =>
  obtain⟨I,g,r⟩:=r;exact⟨z,I,q.strI,g,fun b hb=>hq _ n1 _ J r Y G (.tupS hb (zji I))⟩
 | _=>exact r.elim
end
section
variable{i j k:Nat}{ρ:En}{n:Nat}{D:JU}{d:DTE}{x y:af}{r:qD}{R:qN}{kvs:List (Str×List Str)}
instance zw1:Stp (zr3 i j k d D ρ n) (d ρ n fun t n'=>Vl t fun x y r=>SetK i (some (.val x)) (fun ρ1 n1=>SetK j (some (.val y)) (fun ρ1 n1=>SetK k (some (.val (.list r))) D.nx ρ1 n1) ρ1 n1) ρ n'):=⟨fun h=>h⟩
instance zvB {Q:af->af->List af->Prop}:Stp (Vl (.tuple (x::y::r)) Q) (Q x y r):=⟨fun h=>h⟩
instance zxd:Stp (zuy kvs d ρ n R) (d ρ n fun y n1=>lStr y fun z=>R (.bool (!(getT kvs z).isSome)) n1):=⟨fun h=>h⟩
instance zxe:Stp (dGGet kvs d ρ n R) (d ρ n fun y n1=>lStr y fun z=>∃ks,getT kvs z=some ks/\R (.tuple (ks.map gm)) n1):=⟨fun h=>h⟩
end
def PtE(w:aT)(K:qF)(e:dI)(p:Str×List Str):Prop:=e.hash=hashStr w p.1/\(∃t,e.key=.str p.1 t)/\∃b,e.val=.ref b/\StT K b (p.2.map V.str)
theorem zsd{P:aL}{w:aT}{K:qF}{x:List dI}{u:List (Str×List Str)}(r:eN (PtE w K) x u):∃v,Pairs (strKind P w) x v/\v.map (·.1)=u.map (·.1)/\(∀e∈x,∃k,(strKind P w).is k e.key=true/\e.hash=(strKind P w).hash k) /\
  eN (fun(p:Str×List Str) (q:Str×ah)=>p.1=q.1/\∃b,q.2=.ref b/\StT K b (p.2.map V.str)) u v:=by
 induction r with
 | nil=>exact⟨[],.nil,rfl,(fun e h=>nomatch h),.nil⟩
 | @cons e p x ps h t ih =>
  obtain⟨v,a1,a2,S,N⟩:=ih;obtain⟨R,⟨t,I⟩,b,G,J⟩:=h;have C:(strKind P w).is p.1 e.key=true:=by rw[I];show dg p.1 (.str p.1 t)=true;simp[dg]
  refine⟨(p.1,e.val)::v,.cons C rfl a1,by simp[a2],fun L y=>?_,.cons ⟨rfl,b,G,J⟩ N⟩
  rcases ax.mp y with rfl|y
  ·exact⟨p.1,C,R⟩
  ·exact S L y
theorem zrK{P:aL}{w:aT}{K:qF}{mg:qM}{x:Str}{l:List (Str×List Str)}{a:ak}{v:Array dI}{C:Nat}(S:mg x=some (.ref a))(L:(a == sysModules)=false)(G:K.lookup a=some ⟨.type "dict",none,.dict v C,#[]⟩)
  (r:eN (PtE w K) v.toList l) (nd:(l.map (·.1)).Nodup):StD P w K mg x l:=by
 obtain⟨J,a1,a2,U,R⟩:=zsd (P:=P) r;exact⟨a,_,v,C,J,S,L,G,⟨rfl,rfl,rfl⟩,rfl,fun e I=>U e (by simpa using I),a1,by rw[a2];exact nd,R⟩
section
variable{prog:aL}{w:aT}{A:br}{E:qV}{s:aq}
theorem PrIn.tk{h:aW}{p:ak}{b k:Int}(x:PrIn h (.ref p) b k):IsTupleKey (Y0 prog w) h [.inl b,.inl k] p:=by
 obtain⟨a,o,t,t',n,u,y,C,v⟩:=x;cases u;exact⟨o,_,n,y,C,v,.cons (zhA b t) (.cons (zhA k t') .nil)⟩
theorem zqX{p q:ak}{b k l u:Int}(v:A.units<cLine)(x:PrIn s.heap (.ref p) b k)(y:PrIn s.heap (.ref q) l u):mQ A s (.ref p) (.ref q) (decide (b=l/\k=u)):=fun prog w E Q h=>by
 refine wpAny_eqBool_tuple (knd:=Y0 prog w) v x.tk y.tk ?_;have:decide (([iw b,iw k]:List Key)=[iw l,iw u])=decide (b=l/\k=u):=by
  rw[decide_eq_decide];constructor
  ·intro z;cases z;exact⟨rfl,rfl⟩
  ·rintro⟨rfl,rfl⟩;rfl
 rw[this];exact h
theorem zqo{p q:ak}{b k v C:Int}(G:A.units<cLine)(x:PrIn s.heap (.ref p) b k)(y:PrIn s.heap (.ref q) v C):LtAt prog w A s false (.ref p) (.ref q) (HT.lexLt [b,k] [v,C]):=fun E Q h=>by
 obtain⟨a,o,t,t',n,U,S,Y,I⟩:=x;obtain⟨Z,J,u,u',R,f0,f1,f2,N⟩:=y;cases U;cases f0;rw[sW];simp only[aI,if_false];refine ae (show wpAny (model prog w) A (compareOp .Lt (.ref p) (.ref q)) _ E s from HT.zfB ⟨o,S,Y,n,I⟩ ⟨J,f1,f2,R,N⟩ (.cons _ _ (.cons _ _ .nil)) (.cons _ _ (.cons _ _ .nil)) G ?_)
 exact bV h
theorem zqp{a b c d:Int}:HT.lexLt [a,b] [c,d]=decide (a<c\/(a=c/\b<d)):=by
 have e:HT.lexLt [a,b] [c,d]=if a=c then(if b=d then false else decide (b<d)) else decide (a<c):=rfl
 rw[e];split
 ·rename_i h;subst h;split
  ·symm;rw[decide_eq_false_iff_not];lia
  ·rw[decide_eq_decide];lia
 ·rw[decide_eq_decide];lia
end
theorem znH{α:Type}{P:α->ah->Prop}{rk:ah->Int}{f:α->Int}{u:List ah}{N:List α}{y:bO}(hv:eN P N u)(hr:∀a v,P a v->rk v=f a)(pm:(arrOf y).Perm (pairsOf u))(up:Up rk (arrOf y) u.length) :
  ∃bs:List α,bs.Perm N/\bs.Pairwise (fun a b=>f a<=f b)/\eN P bs ((arrOf y).map (·.2)).toList:=by
 have C:(arrOf y).toList.Perm (u.zip u):=by
  have:=cN.mp pm;simpa[pairsOf] using this
 have hl:N.length=u.length:=mH hv;have each:∀x∈N.zip u,P x.1 x.2:=by
  clear pm up C hl;induction hv with
  | nil=>intro x hx;simp at hx
  | cons h t S =>
   intro x hx;rcases ax.mp (by simpa using hx) with rfl|hx
   ·exact h
   ·exact S x hx
 have J:((arrOf y).toList.map (·.2)).Perm ((N.zip u).map (·.2)):=by
  refine(C.map _).trans ?_;rw[eK (aC _),eK (by lia)]
 obtain⟨G,Z,p2⟩:=V3 J;have U:∀x∈G,P x.1 x.2:=fun x hx=>each x (Z.mem_iff.mp hx)
 have II:∀z∈(arrOf y).toList,z.1=z.2:=fun z hz=>by
  have:z∈u.zip u:=C.mem_iff.mp hz;obtain⟨i,hi,rfl⟩:=bg this;simp
 have R:(arrOf y).size=u.length:=by
  have:=C.length_eq;simpa using this
 refine⟨G.map (·.1),?_,?_,?_⟩
 ·have:=Z.map (·.1)
  rwa [iq (by lia)]at this
 ·rw[ee,aP];intro i j hi hj Y;have lw:G.length=u.length:=by
   have:=congrArg dQ p2;simpa[R] using this
  have gw:∀k (hk:k<G.length),rkAt rk (arrOf y) k=f G[k].1:=fun k hk=>by
   have I:k<(arrOf y).size:=by lia
   have e1:(arrOf y).toList[k]'(by simpa using I)=(arrOf y)[k]:=by simp
   have e2:G[k].2=(arrOf y)[k].2:=by
    have:(G.map (·.2))[k]'(by simpa using hk)=((arrOf y).toList.map (·.2))[k]'(by simpa using I):=by simp only[p2]
    simpa using this
   have e3:(arrOf y)[k].1=(arrOf y)[k].2:=II _ (by rw[<- e1];exact dM _)
   unfold rkAt;rw[bS I];simp only[gL,fo];rw[e3,<- e2];exact hr _ _ (U _ (dM _))
  have:=up i j Y (by lia)
  rwa [gw i hi,gw j hj]at this
 ·rw[oh,<- p2];clear Z p2 J pm up;induction G with
  | nil=>exact .nil
  | cons a l S=>exact .cons (U a (.head _)) (S fun x hx=>U x (.tail _ hx))
section
variable{prog:aL}{w:aT}{A:br}{E:qV}{s:aq}{rk:ah->Int}
theorem ziI{h:aW}{v:List ah}{b:ak}{o:Obj}(u:h.get? b=some o):(midH (h.push (seqObj "list" v.toArray 0)) h.objs.size v).get? b=some o:=by
 have l:b<h.objs.size:=aD u;unfold midH;rw[cz _ _ _ (by rw[eF,cH,eF];lia),cz _ _ _ (by rw[cH,eF];lia),gC _ _ _ _ (aJ l),cz _ _ _ (aJ l)]
 exact u
theorem zk3{l:List ah}{P:qV}(u:l.length<100000)(G:Kinds prog w A { s with heap:=midH (s.heap.push (seqObj "list" l.toArray 0)) s.heap.objs.size l } rk l)
  (h:∀h' (y:bO) (e:Nat),(∀b o,s.heap.get? b=some o->h'.get? b=some o)->(arrOf y).Perm (pairsOf l)->Up rk (arrOf y) l.length->h'.get? s.heap.objs.size=some (seqObj "list" ((arrOf y).map (·.2)) e)->P .none { s with heap:=h' }) :
  wpAny (model prog w) A (gp.«list.sort» ⟨[.ref s.heap.objs.size],[]⟩) (fun f s'=>∃v,f=.done (.ret v)/\P v s') E { s with heap:=s.heap.push (seqObj "list" l.toArray 0) }:=by
 have C:(s.heap.push (seqObj "list" l.toArray 0)).get? s.heap.objs.size=some (seqObj "list" l.toArray 0):=aH _ rfl;refine zjs (s:={ s with heap:=s.heap.push (seqObj "list" l.toArray 0) }) C u G fun y J p2=>⟨_,rfl,?_⟩
 obtain⟨e,I⟩:=sortedHeap_at (out:=(arrOf y).map (·.2)) C;refine h _ y e (fun b o x=>?_) J p2 I
 have lt:=aD x;rw[sortedHeap_old (aJ lt) (by rw[eF];exact nQ lt),cz _ _ _ (aJ lt)]
 exact x
end
section
variable{prog:aL}{w:aT}{A:br}{E:qV}{s:aq}{rk:aW->ah->Int}
theorem zj4{x:ah}{C:aW->Nat->List ah->Prop}{Q:qV}(G:∀(I:br) (Z:qV) (R:List ah->aq->Prop),I.handled=A.handled->(∀h' tk v,C h' tk v->R v { s with heap:=h',toks:=tk })->wpAny (model prog w) I (collect x) R Z s)
  (N:∀h' tk v,C h' tk v->v.length<100000)
  (Y:∀h' tk v (I:br),C h' tk v->I.units<=A.units+16->Kinds prog w I { s with heap:=midH (h'.push (seqObj "list" v.toArray 0)) h'.objs.size v,toks:=tk } (rk h') v)
  (h:∀h' tk v J (y:bO) (e:Nat),C h' tk v->(∀b o,h'.get? b=some o->J.get? b=some o)->(arrOf y).Perm (pairsOf v)->Up (rk h') (arrOf y) v.length->J.get? h'.objs.size=some (seqObj "list" ((arrOf y).map (·.2)) e)->Q (.ref h'.objs.size) { s with heap:=J,toks:=tk }) :
  wpAny (model prog w) A (call (.builtin "sorted") [x]) Q E s:=by
 have hs:100000<=sizeLine:=by decide
 refine kh kind_sorted plain_sorted entry_sorted (args_sorted1 _) ?_;unfold gp.«sorted»;refine ae (m:=checkCount "sorted" 1 1 _) (aj (ae (G _ _ _ rfl fun h' tk v c=>?_)))
 have L:=N h' tk v c;refine ae (iB (hsz:=by show v.toArray.size<=_;rw[aF];lia) ?_)
 have U:(h'.push (seqObj "list" v.toArray 0)).get? h'.objs.size=some (seqObj "list" v.toArray 0):=aH _ rfl;refine ae (cg (eJ pO ⟨_,U,rfl⟩ oQ ?_ (pP _)));refine zk3 (s:={ s with heap:=h',toks:=tk }) L (Y h' tk v _ c (by show A.units+1+1<=_;lia)) fun J y e kp p1 p2 S=>?_
 exact aj ⟨_,rfl,h h' tk v J y e c kp p1 p2 S⟩
end
section
variable{X:Cx}
theorem zvy{pins:qO}{σ:St}{H:Hp}{s:aq}{q:ak}{b k:Int}(I:Inv X pins σ H s)(h:SqT X.K H q [.int b,.int k]):PrIn s.heap (.ref q) b k:=by
 obtain⟨is,rs,⟨o,f1,f2,n,l⟩,_⟩:=I.tuple h;cases rs with
 | cons a1 a2 =>
  cases a2 with
  | cons v u =>
   cases u;obtain⟨t,rfl⟩:=a1;obtain⟨t',rfl⟩:=v;exact⟨q,o,t,t',n,rfl,f1,f2,l⟩
end
section
variable{K:qF}{hd:Option ak}{O:ak->Prop}{H:Hp}{zs:ZT}{ks:KT2}
theorem Rep.bkI{v:V}{a b:Int}(h:Rep K hd O H v (.tuple [.int a,.int b])):∃q,v=.ref q/\SqT K H q [.int a,.int b]:=by
 obtain⟨q,J,rfl,sq,y⟩:=h.tupI;cases y with
 | cons C G =>
  cases G with
  | cons x I =>
   cases I;rw[C.intI,x.intI]at sq;exact⟨q,rfl,sq⟩
end
end L2
namespace L2
open PySem
abbrev RL:=List ((Int×Int)×Int)
end L2
namespace Bd
open PySem PySem.W PySem.Calls L2 PyProof.Rows
structure ZZ where
 P:aL
 w:aT
 K:qF
 mg:Str->Option ah
 base:aW
def FQ(Z:ZZ)(x:Str)(st:dH)(ps:List Str)(k:Nat)(l:Sp):Prop:=Fq Z.P Z.w Z.K Z.mg Z.base x st ps k l
theorem okQ{Z:ZZ}{x:Str}{st:dH}{ps N:List Str}{k m:Nat}{g:GD}(D:Dq Z.K Z.mg x st ps)(S:Uq N ps (JF st))(y:m=ps.length)
  (C:∀(f:ak) (l:ah) (A:br) (outer:List Env) (s:aq) (H:Hp) (E:XK),Room k (A.deeper (envOfC x (JF st) s.heap.objs.size f l))->∃d,DSs (cxOf CX0 Z.P Z.w Z.K Z.mg Z.base N x (JF st) f l A outer s H E).nox (Qe st) d /\
   ∀ts n R,ts.length=m->g ts n R->d { nx:=fun _ v=>R .none v,rt:=R } (Qa N ts) n):FQ Z x st ps (k+1) (spD Z.K m g):=by
 obtain⟨f,fd,D⟩:=D;exact⟨f,fd,D,D.okD S y fun l A outer s H E u=>C f l A outer s H E u⟩
theorem bnd1{x:Str}{st:dH}{a:Str}(h:∀(kV doc pm:ah) (an:Option ak) (l ct u:ah),bindArgs (dz x x (Qz st) (Qe st) (JF st) .none kV doc pm an l ct) ⟨[u],[]⟩=pure [(a,u)]):BndA x st [a]:=fun _ _ _ _ _ _ y v=>by obtain⟨_,rfl⟩:=len1 v;exact h ..
theorem bnd2{x:Str}{st:dH}{a b:Str}(h:∀(kV doc pm:ah) (an:Option ak) (l ct u v:ah),bindArgs (dz x x (Qz st) (Qe st) (JF st) .none kV doc pm an l ct) ⟨[u,v],[]⟩=pure [(a,u),(b,v)]):BndA x st [a,b]:=fun _ _ _ _ _ _ C y=>by obtain⟨_,_,rfl⟩:=len2 y;exact h ..
theorem bnd3{x:Str}{st:dH}{a b c:Str}(h:∀(kV doc pm:ah) (an:Option ak) (l ct u v y:ah),bindArgs (dz x x (Qz st) (Qe st) (JF st) .none kV doc pm an l ct) ⟨[u,v,y],[]⟩=pure [(a,u),(b,v),(c,y)]):BndA x st [a,b,c]:=fun _ _ _ _ _ _ G C=>by obtain⟨_,_,_,rfl⟩:=len3 C;exact h ..
theorem bnd4{x:Str}{st:dH}{a b c d:Str}(h:∀(kV doc pm:ah) (an:Option ak) (l ct u v y z:ah),bindArgs (dz x x (Qz st) (Qe st) (JF st) .none kV doc pm an l ct) ⟨[u,v,y,z],[]⟩=pure [(a,u),(b,v),(c,y),(d,z)]):BndA x st [a,b,c,d]:=fun _ _ _ _ _ _ G C=>by obtain⟨_,_,_,_,rfl⟩:=len4 C;exact h ..
def JI(h:aW):qF:=(fD h.objs.size).filterMap fun a=>(h.get? a).map fun o=>(a,o)
theorem zl0{h:aW}:∀{x:List ak}{a:ak},a∈x->(x.filterMap fun a=>(h.get? a).map fun o=>(a,o)).lookup a=h.get? a\/h.get? a=none
 | [],_,m=>nomatch m
 | b::x,a,m=>by
  by_cases e:a=b
  ·subst e;cases g:h.get? a with
   | none=>exact .inr rfl
   | some o=>exact .inl (by rw[dF];simp[g,cO])
  ·have y:a∈x:=(ax.mp m).resolve_left e;rcases zl0 (h:=h) y with z|z
   ·refine .inl ?_;rw[dF];cases g:h.get? b with
    | none=>exact z
    | some o =>
     have:(a == b)=false:=by simpa using e
     simp only[gL];rw[cO,this];exact z
   ·exact .inr z
theorem Yd{h:aW}{a:ak}{o:Obj}(e:h.get? a=some o):(JI h).lookup a=some o:=by
 have m:a∈fD h.objs.size:=gV.mpr (aD e);rcases zl0 (h:=h) m with z|z
 ·exact z.trans e
 ·rw[e]at z;cases z
theorem zkU{h:aW}:(JI h).In h:=fun a o e=>by
 have key:∀(v:List ak),(v.filterMap fun a=>(h.get? a).map fun o=>(a,o)).lookup a=some o->h.get? a=some o:=by
  intro v;induction v with
  | nil=>intro z;cases z
  | cons b v x =>
   intro z;rw[dF]at z;cases g:h.get? b with
   | none=>rw[g]at z;exact x z
   | some y =>
    rw[g]at z;simp only[gL,cO]at z;cases q:a == b with
    | true=>rw[q]at z;cases z;rw[eq_of_beq q];exact g
    | false=>rw[q]at z;exact x z
 exact key _ e
def Vp:dH->Bool
 | .FunctionDef ..=>true
 | _=>false
def defName:dH->Str
 | .FunctionDef n _ _ _ _ _ _ _ _ _=>n
 | _=>aa ""
def zup:dH->Pos
 | .FunctionDef _ _ _ _ _ _ _ _ _ p=>p
 | _=>⟨0,0,0,0⟩
def recD(st:dH):DefRec:=⟨defName st,Qz st,Qe st,JF st,zup st⟩
theorem getD_mem{l:List dH}{i:Nat}(h:Vp (l.getD i (.Pass ⟨0,0,0,0⟩))=true):l.getD i (.Pass ⟨0,0,0,0⟩)∈l:=by
 rw[bz]at h ⊢;cases e:l[i]? with
 | none=>rw[e]at h;cases h
 | some s=>exact aX e
section
variable{q:aL}{loose:List Str}{IC:nR->Option ah}{mg mb:qM}{h:aW}{x:Str}{st:dH}{ps:List Str}
theorem zmU{cd:ah}{n:Str}(c:h.CodeRec cd n):gY (JI h) cd n=true:=by
 obtain⟨a,o,l,t,rfl,g,d,e⟩:=c;unfold gY;dsimp only;rw[Yd g];obtain⟨u,y,dd,v⟩:=o;cases(show dd=_ from d)
 have l2:l.toList[1]?=some (.str n t):=by simpa using e
 dsimp only
 match hv:l.toList,l2 with
 | [],l2=>simp at l2
 | [_],l2=>simp at l2
 | a::b::r,l2 =>
  have:b=.str n t:=by simpa using l2
  subst this;simp
theorem dq_g(T:Top q loose IC mg mb h)(hd:recD st∈recsOf q)(G:defName st=x)(R:BndA x st ps):Dq (JI h) mg x st ps:=by
 obtain⟨a,o,pm,cd,doc,C,L,y,v⟩:=T.fn _ hd;have C:mg (defName st)=some (.ref a):=C;have v:h.CodeRec cd (defName st):=v;rw[G]at C v;obtain⟨N,J,dd,I⟩:=o;have y:dd=.func (docDef (defName st) (Qz st) (Qe st) (JF st) pm cd doc):=y;rw[G]at y;have l:(JI h).lookup a=some ⟨N,J,.func (dz x x (Qz st) (Qe st) (JF st) .none .none doc pm none cd .none),I⟩:=by
  rw[Yd L,y];rfl
 have kp:gX (JI h) (.ref a)=true:=by
  unfold gX;dsimp only;rw[l]
 exact⟨a,_,zph l (zmU v) kp,(zph l (zmU v) kp).binds R,C⟩
end
end Bd
namespace L2
open PySem PySem.Spec PyProof PyProof.Rows
abbrev BL:=List (Int×Int)
abbrev PR:=List ((Int×Int)×(Int×Int))
abbrev upH(b:Int×Int):Int×Int:=(cL b.1 (2 ^ (b.2 - 1).toNat),b.2 - 1)
abbrev loH(b:Int×Int):Int×Int:=(b.1,b.2 - 1)
abbrev NP:=(Int×Int)×Str
def PsIn(h:aW)(u:ah)(r:NP):Prop:=∃(a p:ak) (o:Obj) (t:Tok) (n:Nat),u=.ref a/\h.get? a=some o/\o.cls=.type "tuple" /\ o.data=.seq #[.ref p,.str r.2 t] n/\PrIn h (.ref p) r.1.1 r.1.2
theorem PsIn.kept{h h':aW}{u:ah}{r:NP}(p:PsIn h u r)(kp:∀b o,h.get? b=some o->h'.get? b=some o):PsIn h' u r:=by
 obtain⟨a,q,o,t,n,v,y,C,x,l⟩:=p;exact⟨a,q,o,t,n,v,kp _ _ y,C,x,l.kept kp⟩
theorem PsIn.uniq{h:aW}{u:ah}{r v:NP}(p:PsIn h u r)(J:PsIn h u v):r=v:=by
 obtain⟨a,q,o,t,n,rfl,R,_,U,⟨x,Z,t1,t2,m,x0,G,_,I⟩⟩:=p;obtain⟨a',q',o',t',n',S,f1,_,f2,⟨y,oy,u1,u2,Y,L,C,_,l⟩⟩:=J;cases S;rw[R]at f1;cases f1;rw[U]at f2
 injection f2 with f2 _
 have f2:=congrArg aQ f2;simp at f2;obtain⟨N,f4,_⟩:=f2;cases x0;cases L;subst N;rw[G]at C;cases C;rw[I]at l
 injection l with l _
 have l:=congrArg aQ l;simp at l;exact i5 (i5 l.1.1 l.2.1) f4
def npLt(a b:NP):Bool:=if a.1=b.1 then decide (a.2.cps.toList<b.2.cps.toList) else decide (a.1.1<b.1.1\/(a.1.1=b.1.1/\a.1.2<b.1.2))
theorem V0{a b:NP}:npLt a b=true↔(a.1.1<b.1.1\/(a.1.1=b.1.1/\(a.1.2<b.1.2\/(a.1.2=b.1.2/\a.2.cps.toList<b.2.cps.toList)))):=by
 unfold npLt;obtain⟨⟨a1,a2⟩,y⟩:=a;obtain⟨⟨v,u⟩,x⟩:=b;dsimp only
 by_cases e:(a1,a2)=(v,u)
 ·rw[if_pos e];cases e;simp
 ·rw[if_neg e,decide_eq_true_eq];have:¬(a1=v/\a2=u):=fun z=>e (by rw[z.1,z.2])
  constructor
  ·rintro(h|h)
   ·exact .inl h
   ·exact .inr ⟨h.1,.inl h.2⟩
  ·rintro(h|⟨h,h'|h'⟩)
   ·exact .inl h
   ·exact .inr ⟨h,h'⟩
   ·exact absurd ⟨h,h'.1⟩ this
theorem zrb(x y:Str):x.cps.toList<y.cps.toList\/x=y\/y.cps.toList<x.cps.toList:=by
 by_cases h:x.cps.toList<y.cps.toList
 ·exact .inl h
 ·by_cases h':y.cps.toList<x.cps.toList
  ·exact .inr (.inr h')
  ·refine .inr (.inl (L2.Str.ext' ?_));exact List.le_antisymm (vB.mp h') (vB.mp h)
theorem zjp(a:NP):npLt a a=false:=by
 rw[fZ,ne_eq,V0];rintro(h|⟨_,h|⟨_,h⟩⟩)
 ·omega
 ·omega
 ·exact pT _ h
theorem zn0(a b:NP):npLt a b=true\/a=b\/npLt b a=true:=by
 rw[V0,V0];obtain⟨⟨a1,a2⟩,y⟩:=a;obtain⟨⟨x,v⟩,u⟩:=b;dsimp only;rcases g8 a1 x with h|rfl|h
 ·exact .inl (.inl h)
 ·rcases g8 a2 v with h|rfl|h
  ·exact .inl (.inr ⟨rfl,.inl h⟩)
  ·rcases zrb y u with h|rfl|h
   ·exact .inl (.inr ⟨rfl,.inr ⟨rfl,h⟩⟩)
   ·exact .inr (.inl rfl)
   ·exact .inr (.inr (.inr ⟨rfl,.inr ⟨rfl,h⟩⟩))
  ·exact .inr (.inr (.inr ⟨rfl,.inl h⟩))
 ·exact .inr (.inr (.inl h))
theorem zkg{a b c:NP}(h:npLt a b=true)(h':npLt b c=true):npLt a c=true:=by
 rw[V0]at h h' ⊢;rcases h with h|⟨e,h|⟨u,h⟩⟩ <;> rcases h' with h'|⟨f,h'|⟨f2,h'⟩⟩
 ·exact .inl (by omega)
 ·exact .inl (by omega)
 ·exact .inl (by omega)
 ·exact .inl (by omega)
 ·exact .inr ⟨by omega,.inl (by omega)⟩
 ·exact .inr ⟨by omega,.inl (by omega)⟩
 ·exact .inl (by omega)
 ·exact .inr ⟨by omega,.inl (by omega)⟩
 ·exact .inr ⟨by omega,.inr ⟨by omega,List.lt_trans h h'⟩⟩
def npRk(rs:List NP)(r:NP):Int:=((rs.filter fun q=>npLt q r).length:Int)
theorem zmx{α:Type}{p q:α->Bool}{l:List α}(h:∀x,p x=true->q x=true):(l.filter p).length<=(l.filter q).length:=by
 induction l with
 | nil=>exact aC _
 | cons a l u =>
  rw[ir,ir];cases e:p a
  ·cases q a
   ·exact u
   ·exact Nat.le_succ_of_le u
  ·rw[h a e];exact Nat.succ_le_succ u
theorem zmw{α:Type}{p q:α->Bool}{l:List α}(h:∀x,p x=true->q x=true){a:α}(u:a∈l)(C:p a=false)(v:q a=true):(l.filter p).length<(l.filter q).length:=by
 induction l with
 | nil=>cases u
 | cons b l y =>
  rw[ir,ir];rcases ax.mp u with rfl|u
  ·rw[C,v];exact Nat.lt_succ_of_le (zmx h)
  ·have:=y u;cases e:p b
   ·cases q b
    ·exact this
    ·exact nQ this
   ·rw[h b e];exact Nat.succ_lt_succ this
theorem zeB{rs:List NP}{a b:NP}(u:a∈rs)(h:npLt a b=true):npRk rs a<npRk rs b:=by
 unfold npRk;have:=zmw (p:=fun q=>npLt q a) (q:=fun q=>npLt q b) (l:=rs) (fun x hx=>zkg hx h) u (zjp a) h
 omega
theorem zqj{rs:List NP}{a b:NP}(l:a∈rs)(u:b∈rs):npLt a b=decide (npRk rs a<npRk rs b):=by
 rcases zn0 a b with h|rfl|h
 ·rw[h,decide_eq_true (zeB l h)]
 ·rw[zjp];symm;rw[decide_eq_false_iff_not];exact Int.lt_irrefl _
 ·have:=zeB u h;rw[decide_eq_false (by omega)]
  cases e:npLt a b with
  | false=>rfl
  | true=>have:=zeB l e;omega
open Classical in
noncomputable def rkNP (rs:List NP) (h:aW) (u:ah):Int:=if z:∃r,PsIn h u r then npRk rs z.choose else 0
theorem PsIn.rk{rs:List NP}{h:aW}{u:ah}{r:NP}(p:PsIn h u r):rkNP rs h u=npRk rs r:=by
 unfold rkNP;have z:∃r,PsIn h u r:=⟨r,p⟩;rw[dif_pos z,z.choose_spec.uniq p]
section
variable{prog:aL}{w:aT}{A:br}{E:qV}{s:aq}
theorem zqt{C:List ah}{Q:eP->aq->Prop}(h1:1<=C.length)(hp:∀v∈C,∃r,PsIn s.heap v r)(h:Q (tuples' false) s):wpAny (model prog w) A (keyKind' C.toArray) Q E s:=by
 rw[keyKind'_eq,hG,map_eq_pure_bind];refine ae (ae (Vg (P:=fun _ r=>∃(p:ak) (o:Obj),r=some (.ref p)/\s.heap.get? p=some o/\o.cls=.type "tuple") C (fun v N Q' S=>?_) fun rs R=>aj ?_))
 ·obtain⟨r,a,p,o,t,n,rfl,G,e2,e3,a',o',t1,t2,n',e4,e5,Z,e7⟩:=hp v N;cases e4;rw[zjF];refine ae (gq (T:="tuple") ⟨o,G,e2⟩ ?_);rw[if_neg (by decide)]
  exact ae (gr G e3 (aj (S _ ⟨p,o',rfl,e5,Z⟩)))
 ·have al:∀r∈rs,∃(p:ak) (o:Obj),r=some (.ref p)/\s.heap.get? p=some o/\o.cls=.type "tuple":=fun r J=>by
   obtain⟨_,_,h⟩:=zcJ R J;exact h
  have IY:(rs.toArray.all fun x=>x.isSome)=true:=by
   rw[ip,bG];intro x hx;obtain⟨p,o,rfl,_⟩:=al x hx
   rfl
  rw[if_pos IY];refine ae (dw ?_);rw[oR];have I:rs.toArray.filterMap id=(rs.filterMap id).toArray:=by simp
  rw[I,hG,map_eq_pure_bind];refine ae (ae (ae (Vg (P:=fun _ r=>r=bL "tuple") _ (fun v N Q' S=>?_) fun ts L=>aj ?_)))
  ·obtain⟨x,hx,e⟩:=fE.mp N;obtain⟨p,o,rfl,g,c⟩:=al x hx;cases e;exact gq (T:="tuple") ⟨o,g,c⟩ (S _ rfl)
  ·have u:∀r∈ts,r=bL "tuple":=fun r J=>by
    obtain⟨_,_,h⟩:=zcJ L J;exact h
   cases ts with
   | nil=>exact aj (aj h)
   | cons U Y =>
    have G:U=bL "tuple":=u U (.head _);subst G;have Kb:(((bL "tuple")::Y).toArray.all fun x=>x == bL "tuple")=true:=by
     rw[ip,bG];intro x hx;rw[u x hx];rfl
    have h0:((bL "tuple")::Y).toArray[0]?=some (bL "tuple"):=by simp
    rw[h0];simp only[Kb,if_true];refine aj (aj ?_);exact h
theorem zn4(x y:Str)(t u:Tok):LtAt prog w A s false (.str x t) (.str y u) (decide (x.cps.toList<y.cps.toList)):=fun E Q q=>by
 rw[sW];simp only[aI,if_false];refine ae (show wpAny (model prog w) A (compareOp .Lt (.str x t) (.str y u)) _ E s from wa ?_)
 exact bV q
theorem zoa{l:List ah}{h0:aW}{rs:List NP}(I:A.units<cLine)(C:∀v∈l,∃r,r∈rs/\PsIn s.heap v r/\rkNP rs h0 v=npRk rs r):Kinds prog w A s (rkNP rs h0) l:=fun h2=>by
 refine⟨tuples' false,fun E Q q=>zqt (by lia) (fun v N=>?_) q,fun p q E Q mp S h=>?_⟩
 ·obtain⟨r,_,h,_⟩:=C v N;exact⟨r,h⟩
 ·have mem:∀z∈(pairsOf l).toList,z.1∈l:=fun z Z=>by
   have:z∈l.zip l:=by simpa[pairsOf] using Z
   exact(eE this).1
  obtain⟨⟨⟨b,k⟩,g⟩,m1,⟨a,x,o,t,n,e0,U,e2,J,G⟩,Y⟩:=C _ (mem p mp);obtain⟨⟨⟨u,y⟩,g'⟩,m2,⟨a',x',o',t',n',f0,f1,f2,R,f4⟩,r2⟩:=C _ (mem q S);rw[Y,r2,<- zqj m1 m2]at h;rw[e0,f0];refine zhz U J f1 R (zqX I G f4) (SeqAt.EqAt.str_str g t g' t') (fun _=>zqo I G f4) (fun _=>zn4 g g' t t') ?_
  have:(if decide (b=u/\k=y)=true then(if (g == g')=true then false else decide (g.cps.toList<g'.cps.toList)) else HT.lexLt [b,k] [u,y])=npLt ((b,k),g) ((u,y),g'):=by
   rw[zqp];unfold npLt;dsimp only
   by_cases e:b=u/\k=y
   ·obtain⟨rfl,rfl⟩:=e;rw[if_pos (by simp),if_pos rfl]
    by_cases eg:g=g'
    ·subst eg;rw[if_pos (by simp)]
     symm;rw[decide_eq_false_iff_not];exact pT _
    ·rw[if_neg (by simpa using eg)]
   ·rw[if_neg (by simpa using e),if_neg (fun z=>e (by cases z;exact⟨rfl,rfl⟩))]
  rw[this];exact h
end
section
variable{X:Cx}
def PsV(K:qF)(H:Hp)(z:V×NP):Prop:=∃a q,z.1=.ref a/\SqT K H a [.ref q,.str z.2.2]/\SqT K H q [.int z.2.1.1,.int z.2.1.2]
theorem zvx{pins:qO}{σ:St}{H:Hp}{s:aq}{a q:ak}{r:NP}(I:Inv X pins σ H s)(h:SqT X.K H a [.ref q,.str r.2])(u:SqT X.K H q [.int r.1.1,.int r.1.2]):PsIn s.heap (.ref a) r:=by
 obtain⟨is,rs,⟨o,f1,f2,n,l⟩,_⟩:=I.tuple h;cases rs with
 | cons a1 a2 =>
  cases a2 with
  | cons x v =>
   cases v;cases(show _=cA q from a1)
   obtain⟨t,rfl⟩:=x;exact⟨a,q,o,t,n,rfl,f1,f2,l,zvy I u⟩
theorem zgE(hu:X.A.units+64<cLine):JX X (.builtin "sorted") (fun xs H Q=>∃(p:ak) (zs:List (V×NP)),xs=[.ref p]/\(SqL X.K H p (zs.map (·.1))\/SqT X.K H p (zs.map (·.1)))/\zs.length<100000/\(∀z∈zs,PsV X.K H z) /\
  ∀N:List (V×NP),N.Perm zs->N.Pairwise (fun a b=>npRk (zs.map (·.2)) a.2<=npRk (zs.map (·.2)) b.2)->∀l,H l=none->Q (.ref l) (upd H l (.lst (N.map (·.1))))):=by
 intro pins s σ H xs us Q I r h;obtain⟨p,zs,rfl,G,h64,hp,q⟩:=h;obtain⟨u,rfl,rx⟩:=vals1 r;cases rx;have hs:100000<=sizeLine:=by decide
 have key:∀(v:List ah) (o:Obj) (T:String) (n:Nat),Vals (zs.map (·.1)) v->s.heap.get? p=some o->o.cls=.type T->(T = "list" \/ T = "tuple")->o.data=.seq v.toArray n ->
   wpAny (model X.prog X.w) X.A (call (.builtin "sorted") [.ref p]) (EP X pins σ Q) X.xe s:=fun v o T n rv S hc hT hd=>by
  have hlen:zs.length=v.length:=by simpa using rv.length
  have cell:eN (fun(z:V×NP) (u:ah)=>RelV z.1 u/\PsIn s.heap u z.2) zs v:=by
   have go:∀(zs:List (V×NP)) (v:List ah),(∀z∈zs,PsV X.K H z)->Vals (zs.map (·.1)) v->eN (fun(z:V×NP) (u:ah)=>RelV z.1 u/\PsIn s.heap u z.2) zs v:=by
    intro zs;induction zs with
    | nil=>intro v _ r;cases r;exact .nil
    | cons z zs ih =>
     intro v Z r;cases r with
     | cons Y r2 =>
      obtain⟨a,q,e1,e2,e3⟩:=Z z (.head _);refine .cons ⟨Y,?_⟩ (ih _ (fun y hy=>Z y (.tail _ hy)) r2)
      dsimp only at Y;rw[e1]at Y;cases(show _=cA a from Y)
      exact zvx I e2 e3
   exact go zs v hp rv
  refine zj4 (A:=X.A) (x:=.ref p) (rk:=rkNP (zs.map (·.2))) (C:=fun h' tk R=>R=v/\(∀b o,s.heap.get? b=some o->h'.get? b=some o)/\s.heap.objs.size<=h'.objs.size) ?_ ?_ ?_ ?_
  ·intro A' E' Q' hA G;refine zeX S hc hT hd (by lia) ?_
   have hq':=G ((s.heap.push (seqObj "list" #[] 0)).update s.heap.objs.size (e8 (·++v.toArray))) s.toks v ⟨rfl,fun b ob hb=>?_,?_⟩
   ·exact hq'
   ·rw[gC _ _ _ _ (aJ (aD hb))];exact au _ hb
   ·rw[cH,eF];exact kB _
  ·rintro h' tk R ⟨rfl,_,_⟩;lia
  ·rintro h' tk R A' ⟨rfl,kp,_⟩ hA';refine zoa (by lia) fun u hu=>?_
   obtain⟨x,mx,_,rl⟩:=zcJ cell hu;have U:=rl.kept kp;exact⟨x.2,mF mx,U.kept fun b o e=>ziI e,U.rk⟩
  ·rintro h' tk R h2 y e ⟨rfl,kp,sz⟩ kp2 pm up he;have J:eN (fun(z:V×NP) (u:ah)=>RelV z.1 u/\PsIn h' u z.2) zs R:=Paired.mapP cell fun _ _ h=>⟨h.1,h.2.kept kp⟩
   obtain⟨ws,p1,p2,p3⟩:=znH (f:=fun x=>npRk (zs.map (·.2)) x.2) J (fun x u hx=>hx.2.rk) pm up
   have rv':Vals (ws.map (·.1)) ((arrOf y).map (·.2)).toList:=by
    have:∀{l:List (V×NP)} {m:List ah},eN (fun(z:V×NP) (u:ah)=>RelV z.1 u/\PsIn h' u z.2) l m->Vals (l.map (·.1)) m:=by
     intro l m p;induction p with
     | nil=>exact .nil
     | cons h t ih=>exact .cons h.1 ih
    exact this p3
   refine⟨.ref h'.objs.size,_,I.laid (a:=h'.objs.size) (o:=.lst (ws.map (·.1))) (t':=tk) (fun b o hb=>kp2 b o (kp b o hb)) sz ?_,rfl,q ws p1 p2 _ (I.hok.fresh sz)⟩
   refine⟨?_,_,e,rv',by rw[he]⟩
   have:=p1.length_eq;rw[ba];lia
 rcases G with G|G
 ·obtain⟨v,r',pl,Z⟩:=I.list G;obtain⟨o,S,hc,n,hd⟩:=pl.isList;exact key v o "list" n r' S hc (.inl rfl) hd
 ·obtain⟨v,r',pl,Z⟩:=I.tuple G;obtain⟨o,S,hc,n,hd⟩:=pl;exact key v o "tuple" n r' S hc (.inr rfl) hd
end
section
variable{X:Cx}{e:aV}{d:DTE}{pos p:Pos}{k:Nat}
theorem zlf{K:qF}{hd:Option ak}{O:ak->Prop}{H:Hp}:∀{y:List V}{rs:List NP},Reps K hd O H y (Bd.oD rs)->∀z∈y.zip rs,PsV K H z/\Rep K hd O H z.1 (.tuple [.tuple [.int z.2.1.1,.int z.2.1.2],.str z.2.2])
 | _,[],r=>by cases r;intro z v;simp at v
 | _,a::rs,r=>by
  cases r with
  | cons h r =>
   intro z v;rcases ax.mp (by simpa using v) with rfl|v
   ·refine⟨?_,h⟩;obtain⟨b,N,rfl,sq,G⟩:=h.tupI;cases G with
    | cons I J =>
     cases J with
     | cons C L =>
      cases L;obtain⟨q,rfl,x⟩:=I.bkI;rw[C.strI]at sq;exact⟨b,q,rfl,sq,x⟩
   ·exact zlf r z v
def zmJ(d:DTE):DTA:=fun u n R=>d u n fun t v=>J3 t fun ts=>∃rs:List NP,ts=Bd.oD rs/\rs.length<100000/\∀l:List NP,l.Perm rs->l.Pairwise (fun a b=>npRk rs a<=npRk rs b)->R (Bd.oD l) v
theorem zi0(hr:Room k X.A)(hm:X.mg "sorted" = none) (h:DL X e d) (hs:starEach [e] X.env=[(false,eval e X.env)]) (hg:Gl X "sorted":=by rfl):DN X (.Call (.Name "sorted" p) [e] [] pos) (zmJ d):=by
 obtain⟨ta,pa,h⟩:=h;refine⟨_,Uw (zgE (by have:=hr.un;lia)) hm boot_sorted (Qf pa QF hs) hg,fun C Z σ H n Q R S hd hq=>?_⟩
 refine h C Z σ H n _ _ S hd fun t n1 v I r1 e1 h1 q1=>?_
 have S1:=S.on e1 h1;have go:∀(p:ak) J ts,(SqL X.K I p J\/SqT X.K I p J)->Reps X.K C.hd (Own C Z σ) I J ts->(∃rs:List NP,ts=Bd.oD rs/\rs.length<100000/\∀Y:List NP,Y.Perm rs->Y.Pairwise (fun a b=>npRk rs a<=npRk rs b)->R (Bd.oD Y) n1) ->
   ∃(p':ak) (zs:List (V×NP)),[V.ref p]=[V.ref p']/\(SqL X.K I p' (zs.map (·.1))\/SqT X.K I p' (zs.map (·.1)))/\zs.length<100000/\(∀z∈zs,PsV X.K I z) /\
  ∀G:List (V×NP),G.Perm zs->G.Pairwise (fun a b=>npRk (zs.map (·.2)) a.2<=npRk (zs.map (·.2)) b.2)->∀l,I l=none->Q (.ref l) (upd I l (.lst (G.map (·.1)))):=fun p J ts hs rp ⟨rs,ets,l64,hR⟩=>by
  subst ets;have ln:=rp.length;rw[Bd.U2]at ln;have rel:=zlf rp;refine⟨p,J.zip rs,rfl,?_,by simp;lia,fun z hz=>(rel z hz).1,fun G pm pw l L=>?_⟩
  ·rw[iq (by lia)];exact hs
  ·have hl0:H l=none:=by
    cases z:H l with
    | none=>rfl
    | some o =>
     by_cases y:C.hd=some l
     ·obtain⟨d,m,t,q,_⟩:=h1 l y;rw[L]at q;cases q
     ·rw[e1 l o z y]at L;cases L
   have pr:(G.map (·.2)).Perm rs:=by
    have:=pm.map (·.2)
    rwa [eK (by lia)]at this
   have rp':∀zs:List (V×NP),(∀z∈zs,Rep X.K C.hd (Own C Z σ) I z.1 (.tuple [.tuple [.int z.2.1.1,.int z.2.1.2],.str z.2.2]))->Reps X.K C.hd (Own C Z σ) I (zs.map (·.1)) (Bd.oD (zs.map (·.2))):=by
    intro zs;induction zs with
    | nil=>intro _;exact .nil
    | cons a l ih=>intro h;exact .cons (h a (.head _)) (ih fun x hx=>h x (.tail _ hx))
   refine hq _ n1 l _ _ (hR _ pr (by rw[ee];rw[eK (by lia)]at pw;exact pw)) (e1.trans (ExtE.new L)) (h1.same (JS L)) hl0 JM ?_
   refine(rp' G fun z hz=>(rel z (pm.mem_iff.mp hz)).2).mono (fun b o hb z=>z.elim id fun z=>?_) fun b o _ hb=>JS L b o hb
   subst z;rw[L]at hb;cases hb
 cases t with
 | list ts =>
  obtain⟨p,J,rfl,U,h2⟩:=q1.lstI;exact go p J ts (.inl (.of U)) h2 r1
 | tuple ts =>
  obtain⟨p,J,rfl,U,h2⟩:=q1.tupI;exact go p J ts (.inr U) h2 r1
 | _=>exact r1.elim
instance zuG {ρ:En}{n:Nat}{R:List af->Nat->Prop}:Stp (zmJ d ρ n R) (d ρ n fun t n1=>J3 t fun ts=>∃rs:List NP,ts=Bd.oD rs/\rs.length<100000/\∀rs':List NP,rs'.Perm rs->rs'.Pairwise (fun a b=>npRk rs a<=npRk rs b)->R (Bd.oD rs') n1):=⟨fun h=>h⟩
end
def StG(K:qF)(mg:qM)(x:Str)(l:List Str):Prop:=∃a,mg x=some (.ref a)/\StT K a (l.map V.str)
end L2
namespace Bd
open PySem PySem.W PySem.Calls L2 PyProof.Rows
def VA:List ah->List Str->Bool
 | [],[]=>true
 | .str x _::r,y::z=>decide (x=y)&&VA r z
 | _,_=>false
theorem zeN:∀{u:List ah}{v:List Str},VA u v=true->Vals (v.map V.str) u
 | [],[],_=>.nil
 | .str x t::r,y::z,h=>by
  simp only[VA,aK,decide_eq_true_eq]at h;obtain⟨rfl,h⟩:=h;exact .cons ⟨t,rfl⟩ (zeN h)
def tupO(h:aW)(l:List Str):ah->Bool
 | .ref a=>(match h.get? a with
  | some ⟨.type c,none,.seq vs _,_⟩=>decide (c = "tuple")&&decide (vs.size<=100)&&VA vs.toList l
  | _=>false)
 | _=>false
def US(l:List (Str×List Str))(s:aq):Bool:=l.all fun q=>(s.heap.nsMap mainGlobals q.1).any (tupO s.heap q.2)
def TupsAre(l:List (Str×List Str))(mg:qM)(h:aW):Prop:=∀q∈l,∃v,mg q.1=some v/\tupO h q.2 v=true
theorem zrD{l:List (Str×List Str)}{s:aq}(x:US l s=true):TupsAre l (s.heap.nsMap mainGlobals) s.heap:=fun q u=>by
 have e:=bG.mp x q u;cases g:s.heap.nsMap mainGlobals q.1 with
 | none=>rw[g]at e;cases e
 | some v=>rw[g]at e;exact⟨v,rfl,e⟩
theorem zgW{h h':aW}{l:List Str}{v:ah}(x:tupO h l v=true)(k:∀b o,h.get? b=some o->h'.get? b=some o):tupO h' l v=true:=by
 unfold tupO at x ⊢;split at x
 ·rename_i a;cases e:h.get? a with
  | none=>rw[e]at x;cases x
  | some o=>rw[e]at x;rw[k _ _ e];exact x
 ·cases x
theorem TupsAre.keeps{l:List (Str×List Str)}{mg:qM}{h h':aW}(x:TupsAre l mg h)(k:∀b o,h.get? b=some o->h'.get? b=some o):TupsAre l mg h':=fun q u=>by
 obtain⟨v,a,b⟩:=x q u;exact⟨v,a,zgW b k⟩
theorem TupsAre.st{l:List (Str×List Str)}{mg:qM}{h:aW}(x:TupsAre l mg h){n:Str}{u:List Str}(m:(n,u)∈l):StG (JI h) mg n u:=by
 obtain⟨v,a,b⟩:=x _ m;unfold tupO at b;split at b
 ·rename_i p;split at b
  ·rename_i c G C J e;simp only[aK,decide_eq_true_eq]at b;obtain⟨⟨rfl,y⟩,I⟩:=b;exact⟨p,a,_,G,C,Yd e,rfl,rfl,cB y (by decide),zeN I,rfl⟩
  ·cases b
 ·cases b
end Bd
namespace L2
open PySem PySem.Spec PyProof.Rows
def ndup:List Str->Bool
 | []=>true
 | x::l=>!l.any (fun y=>decide (x=y))&&ndup l
theorem ndB{l:List Str}(h:ndup l=true):l.Nodup:=by
 induction l with
 | nil=>exact .nil
 | cons x l u =>
  simp only[ndup,aK,gf,m8,decide_eq_true_eq]at h;exact eW.mpr ⟨fun m=>h.1 x m rfl,u h.2⟩
def fnB(N P:List Str)(sc:fA):Bool:=(match sc.kind with|.function=>true|_=>false)&&!sc.isCoroutine&&!sc.isGenerator&&ndup N&&decide (N.take P.length=P)&&P.all (fun x=>decide (sc.names.lookup x=some .local\/sc.names.lookup x=some .cell))&&sc.names.all fun y=>decide (y.2≠.free)
theorem fnS{N P:List Str}{sc:fA}(h:fnB N P sc=true):Uq N P sc:=by
 simp only[fnB,aK,gf,decide_eq_true_eq,bG]at h;obtain⟨⟨⟨⟨⟨⟨a,b⟩,c⟩,d⟩,e⟩,f⟩,g⟩:=h;exact⟨(by cases q:sc.kind <;> rw[q]at a <;> first|rfl|(exact nomatch a)),b,c,ndB d,e,f,g⟩
section
variable{X:Cx}{x:Str}{e:aV}{es:List aV}{d:DTE}{ds:DTA}{pos pos':Pos}
theorem dlv(i:Nat)(u:X.N[i]?=some x:=by rfl)(v:Vis X.env.scope x:=by walk_at "V")(hd:(x == ("__debug__":Str))=false:=by rfl)
  (l:(x == ("__classdict__":Str))=false:=by rfl):DL X (.Name x pos) (dVar i):=dl (Jk i u v hd l)
theorem dli{i j}:DL X (.Constant (.int i) j pos) (dC (.int i)):=dl Jd
theorem dbc(h:DE X e d)(l:DB X es ds)(u:starEach (e::es) X.env=(false,eval e X.env)::starEach es X.env:=by rfl):DB X (e::es) (Qi d ds):=zmI h l u
theorem dbv(i:Nat)(y:DB X es ds)(u:X.N[i]?=some x:=by rfl)(v:Vis X.env.scope x:=by walk_at "V")(hd:(x == ("__debug__":Str))=false:=by rfl)
  (l:(x == ("__classdict__":Str))=false:=by rfl):DB X (.Name x pos::es) (Qi (dVar i) ds):=zmI (Jk i u v hd l) y rfl
theorem dsv(i:Nat)(u:X.N.Nodup)(h:DE X e d)(hi:X.N[i]?=some x:=by rfl)(hx:Loc X.env.scope x:=by first|exact cY rfl|exact xj rfl)(v:swapsWith e (some (.Name x pos')) pos.line X.env=pure false:=by rfl)
  (hf:X.fn x=true\/X.env.scope.names.lookup x=some .local:=by walk_at "F"):DS X (.Assign [.Name x pos'] e pos) (sSet i d):=zuk u hi hx h v hf
theorem dgv(i:Nat)(u:X.N.Nodup)(hi:X.N[i]?=some x:=by rfl)(hx:Loc X.env.scope x:=by first|exact cY rfl|exact xj rfl)(hf:X.fn x=true\/X.env.scope.names.lookup x=some .local:=by walk_at "F"):DG X (.Name x pos) [i] (Qk i):=zq1 u hi hx hf
end
section
variable{X:Cx}{scope:fA}{iter elt:aV}{ifs:List aV}{tg:aV}{pos:Pos}{is:List Nat}{di:DTA}{g:DTG}{tt:DTT}{te:DTE}
theorem dnc(own:List Str)(capt:List Nat)(hi:DIL X tg iter di)(v:∀C s₀ H₀ l,DG (Jg X scope own capt C s₀ H₀ l) tg is g)(G:∀C s₀ H₀ l,DE (Jg X scope own capt C s₀ H₀ l) elt te)
  (hc:X.calm=true:=by rfl) (h:VO scope X.env.scope X.N capt=true:=by rfl) (u:∀i∈is,i<own.length:=by decide) (y:∀x,foldedSetIterable iter X.env x=pure x:=by intro _;rfl):DN X (.ListComp elt [⟨tg,iter,[],0⟩] scope pos) (dComp own.length capt di g dYes te) :=
 zmA hc (JN.of h) hi v u (fun _ _ _ _=>VJ) G y
theorem dnf(own:List Str)(capt:List Nat)(hi:DIL X tg iter di)(v:∀C s₀ H₀ l,DG (Jg X scope own capt C s₀ H₀ l) tg is g)(y:∀C s₀ H₀ l,DTs (Jg X scope own capt C s₀ H₀ l) ifs tt)(I:∀C s₀ H₀ l,DE (Jg X scope own capt C s₀ H₀ l) elt te)
  (hc:X.calm=true:=by rfl) (h:VO scope X.env.scope X.N capt=true:=by rfl) (u:∀i∈is,i<own.length:=by decide) (G:∀x,foldedSetIterable iter X.env x=pure x:=by intro _;rfl):DN X (.ListComp elt [⟨tg,iter,ifs,0⟩] scope pos) (dComp own.length capt di g tt te) :=
 zmA hc (JN.of h) hi v u y I G
end
end L2
namespace Bd
open PySem PySem.W PySem.Calls L2 PyProof.Rows
def Qv(h:aW):ah->Option (List dI)
 | .ref a=>if a == sysModules then none else(match h.get? a with
  | some ⟨.type c,none,.dict es _,sl⟩=>if decide (c = "dict")&&decide (sl.size=0) then some es.toList else none
  | _=>none)
 | _=>none
theorem zdv{h h':aW}{v:ah}{l:List dI}(x:Qv h v=some l)(k:∀b o,h.get? b=some o->h'.get? b=some o):Qv h' v=some l:=by
 unfold Qv at x ⊢;split at x
 ·rename_i a;split at x
  ·cases x
  ·rename_i q;rw[if_neg q];cases e:h.get? a with
   | none=>rw[e]at x;cases x
   | some o=>rw[e]at x;rw[k _ _ e];exact x
 ·cases x
theorem zjK{h:aW}{v:ah}{u:List dI}(x:Qv h v=some u):∃a ar l,v=.ref a/\(a == sysModules)=false/\h.get? a=some ⟨.type "dict",none,.dict ar l,#[]⟩/\ar.toList=u:=by
 unfold Qv at x;split at x
 ·rename_i a;split at x
  ·cases x
  ·rename_i q;split at x
   ·rename_i c ar l C e;split at x
    ·rename_i z;simp only[aK,decide_eq_true_eq]at z;obtain⟨rfl,G⟩:=z;have:C=#[]:=Array.eq_empty_of_size_eq_zero G;subst this;cases x;exact⟨a,ar,l,rfl,by simpa using q,e,rfl⟩
    ·cases x
   ·cases x
 ·cases x
def keyO(k:Str):ah->Bool
 | .str x _=>decide (x=k)
 | _=>false
def UF(h:aW):List dI->List (Str×List Str)->Bool
 | [],[]=>true
 | e::r,q::z=>keyO q.1 e.key&&tupO h q.2 e.val&&UF h r z
 | _,_=>false
def zr7:ah->Option ah->Bool
 | .ref a,some (.ref b)=>a == b
 | _,_=>false
def Zj(mg:qM):List dI->List Str->Bool
 | [],[]=>true
 | e::r,k::z=>keyO k e.key&&zr7 e.val (mg k)&&Zj mg r z
 | _,_=>false
abbrev PLs:=List (Str×List (Str×List Str))
abbrev FLs:=List (Str×List Str)
def UV(pl:PLs)(fl:FLs)(s:aq):Bool :=
 (pl.all fun q=>(s.heap.nsMap mainGlobals q.1).any fun v=>(Qv s.heap v).any fun l=>UF s.heap l q.2)&&fl.all fun q=>(s.heap.nsMap mainGlobals q.1).any fun v=>(Qv s.heap v).any fun l=>Zj (s.heap.nsMap mainGlobals) l q.2
structure DctsAre(pl:PLs)(fl:FLs)(mg:qM)(h:aW):Prop where
 p:∀q∈pl,∃v es,mg q.1=some v/\Qv h v=some es/\UF h es q.2=true
 f:∀q∈fl,∃v es,mg q.1=some v/\Qv h v=some es/\Zj mg es q.2=true
theorem Vw{α:Type}{o:Option α}{p:α->Bool}(h:o.any p=true):∃v,o=some v/\p v=true:=by
 cases o with
 | none=>cases h
 | some v=>exact⟨v,rfl,h⟩
theorem zux{pl:PLs}{fl:FLs}{s:aq}(x:UV pl fl s=true):DctsAre pl fl (s.heap.nsMap mainGlobals) s.heap:=by
 obtain⟨a,b⟩:=bo.mp x;refine⟨fun q l=>?_,fun q l=>?_⟩
 ·obtain⟨v,e,y⟩:=Vw (bG.mp a q l);obtain⟨u,C,y⟩:=Vw y;exact⟨v,u,e,C,y⟩
 ·obtain⟨v,e,y⟩:=Vw (bG.mp b q l);obtain⟨u,C,y⟩:=Vw y;exact⟨v,u,e,C,y⟩
theorem zew{h h':aW}(k:∀b o,h.get? b=some o->h'.get? b=some o):∀{es ks},UF h es ks=true->UF h' es ks=true
 | [],[],_=>rfl
 | e::r,q::z,x=>by
  simp only[UF,aK]at x ⊢;exact⟨⟨x.1.1,zgW x.1.2 k⟩,zew k x.2⟩
theorem DctsAre.keeps{pl:PLs}{fl:FLs}{mg:qM}{h h':aW}(x:DctsAre pl fl mg h)(k:∀b o,h.get? b=some o->h'.get? b=some o):DctsAre pl fl mg h' :=
 ⟨fun q l=>let ⟨v,es,a,b,c⟩:=x.p q l;⟨v,es,a,zdv b k,zew k c⟩,fun q l=>let ⟨v,es,a,b,c⟩:=x.f q l;⟨v,es,a,zdv b k,c⟩⟩
def hshs(dl:FLs)(h:aW):List (Option (List Int)):=dl.map fun q=>((globalOf h q.1).bind (Qv h)).map (nB (·.hash))
def hshW(dl:FLs)(w:aT):List (Option (List Int)):=dl.map fun q=>some (q.2.map (hashStr w))
def HshOk(dl:FLs)(w:aT)(h:aW):Prop:=∀q∈dl,((globalOf h q.1).bind (Qv h)).map (nB (·.hash))=some (q.2.map (hashStr w))
theorem zt4{dl:FLs}(w:aT)(s:aq)(e:hshs dl s.heap=hshW dl w):HshOk dl w s.heap:=by
 unfold hshs hshW at e;intro q l;exact List.map_inj_left.mp e q l
theorem zgx{h h':aW}{x:Str}{v:ah}(e:globalOf h x=some v)(k:∀b o,h.get? b=some o->h'.get? b=some o):globalOf h' x=some v:=by
 unfold globalOf at e ⊢;cases g:h.get? mainNs with
 | none=>rw[g]at e;cases e
 | some o=>rw[g]at e;rw[k _ _ g];exact e
theorem zop{dl:FLs}(w:aT)(h h':aW)(x:HshOk dl w h)(k:∀b o,h.get? b=some o->h'.get? b=some o):HshOk dl w h':=fun q l=>by
 have e:=x q l;cases g:globalOf h q.1 with
 | none=>rw[g]at e;cases e
 | some v =>
  rw[g]at e;rw[zgx g k];simp only[ot]at e ⊢;cases g2:Qv h v with
  | none=>rw[g2]at e;cases e
  | some u=>rw[g2]at e;rw[zdv g2 k];exact e
theorem HshOk.at{dl:FLs}{w:aT}{h:aW}{mg:qM}(x:HshOk dl w h)(G:h.Ns mainGlobals mg){n:Str}{u:List Str}(m:(n,u)∈dl){v:ah}{l:List dI}(e:mg n=some v)(d:Qv h v=some l):l.map (·.hash)=u.map (hashStr w):=by
 have y:=x _ m;rw[Claim2Try.globalOf_of_ns G,e]at y;simp only[ot]at y;rw[d]at y;exact aO y
theorem zl_{k:Str}{v:ah}(h:keyO k v=true):∃t,v=.str k t:=by
 unfold keyO at h;split at h
 ·rename_i x t;have:x=k:=by simpa using h
  subst this;exact⟨t,rfl⟩
 ·cases h
theorem zjm{w:aT}{h:aW}:∀{u:List dI}{v:List (Str×List Str)},UF h u v=true->u.map (·.hash)=(v.map (·.1)).map (hashStr w)->eN (PtE w (JI h)) u v
 | [],[],_,_=>.nil
 | e::r,q::z,x,y=>by
  simp only[UF,aK]at x;obtain⟨⟨I,J⟩,C⟩:=x;simp only[cj,gK]at y;have s:TupsAre [(q.1,q.2)] (fun _=>some e.val) h:=fun p G=>by
   cases aB.mp G;exact⟨_,rfl,J⟩
  obtain⟨b,L,st⟩:=s.st (aB.mpr rfl);exact .cons ⟨y.1,zl_ I,b,aO L,st⟩ (zjm C y.2)
theorem DctsAre.st{pl:PLs}{fl dl:FLs}{P:aL}{w:aT}{mg:qM}{h:aW}(x:DctsAre pl fl mg h)(y:HshOk dl w h)(G:h.Ns mainGlobals mg){n:Str}{l:List (Str×List Str)}(m:(n,l)∈pl)(m2:(n,l.map (·.1))∈dl)(nd:(l.map (·.1)).Nodup):StD P w (JI h) mg n l:=by
 obtain⟨v,I,a,b,c⟩:=x.p _ m;have C:=y.at G m2 a b;obtain⟨ad,ar,J,rfl,ns,e,rfl⟩:=zjK b;exact zrK a ns (Yd e) (zjm c C) nd
def StF(P:aL)(w:aT)(K:qF)(mg:qM)(x:Str)(C:List Str):Prop :=
 ∃(a:ak) (o:Obj) (l:Array dI) (y:Nat) (v:List (Str×ah)),mg x=some (.ref a)/\(a == sysModules)=false/\K.lookup a=some o/\o.ExactDict/\o.data=.dict l y/\KeysOf (strKind P w) l/\Pairs (strKind P w) l.toList v/\(v.map (·.1)).Nodup /\
  ∀k∈C,∃f,valueAt v k=some (.ref f)/\mg k=some (.ref f)
theorem zmt{P:aL}{w:aT}{mg:qM}:∀{C:List dI}{I:List Str},Zj mg C I=true->C.map (·.hash)=I.map (hashStr w) ->
  ∃v,Pairs (strKind P w) C v/\v.map (·.1)=I/\(∀e∈C,∃k,(strKind P w).is k e.key=true/\e.hash=(strKind P w).hash k)/\∀k∈I,∃f,(k,cA f)∈v/\mg k=some (.ref f)
 | [],[],_,_=>⟨[],.nil,rfl,(fun e h=>nomatch h),fun k h=>nomatch h⟩
 | e::r,q::z,x,y=>by
  simp only[Zj,aK]at x;obtain⟨⟨N,G⟩,L⟩:=x;simp only[cj,gK]at y;obtain⟨v,a1,a2,Z,U⟩:=zmt (P:=P) L y.2;obtain⟨t,R⟩:=zl_ N;have u:(strKind P w).is q e.key=true:=by rw[R];show dg q (.str q t)=true;simp[dg]
  refine⟨(q,e.val)::v,.cons u rfl a1,by simp[a2],fun S J=>?_,fun k u=>?_⟩
  ·rcases ax.mp J with rfl|J
   ·exact⟨q,u,y.1⟩
   ·exact Z S J
  ·rcases ax.mp u with rfl|u
   ·unfold zr7 at G;split at G
    ·rename_i a b Y e2;have:a=b:=by simpa using G
     subst this;exact⟨a,by rw[Y];exact .head _,e2⟩
    ·cases G
   ·obtain⟨f,m,g⟩:=U k u;exact⟨f,.tail _ m,g⟩
theorem zis{l:List (Str×ah)}(nd:(l.map (·.1)).Nodup){k:Str}{v:ah}(m:(k,v)∈l):valueAt l k=some v:=by
 induction l with
 | nil=>exact nomatch m
 | cons p l x =>
  rw[cj,eW]at nd;rcases ax.mp m with rfl|m
  ·simp[valueAt,fP]
  ·have ne:¬p.1=k:=fun z=>nd.1 (z▸aZ.mpr ⟨_,m,rfl⟩)
   have:=x nd.2 m;simpa[valueAt,fP,ne] using this
theorem DctsAre.sf{pl:PLs}{fl dl:FLs}{P:aL}{w:aT}{mg:qM}{h:aW}(x:DctsAre pl fl mg h)(y:HshOk dl w h)(G:h.Ns mainGlobals mg){n:Str}{C:List Str}(m:(n,C)∈fl)(m2:(n,C)∈dl)(nd:C.Nodup):StF P w (JI h) mg n C:=by
 obtain⟨v,es,a,b,c⟩:=x.f _ m;have U:=y.at G m2 a b;obtain⟨ad,ar,S,rfl,ns,e,rfl⟩:=zjK b;obtain⟨I,a1,a2,J,Z⟩:=zmt (P:=P) c U;have l:(I.map (·.1)).Nodup:=by rw[a2];exact nd
 refine⟨ad,_,ar,S,I,a,ns,Yd e,⟨rfl,rfl,rfl⟩,rfl,fun Y L=>J Y (by simpa using L),a1,l,fun k R=>?_⟩
 obtain⟨f,m,g⟩:=Z k R;exact⟨f,zis l m,g⟩
theorem zvm{lw:PySem.W.OpenLaw}{q:aL}{loose:List Str}{XP:(Str->Option ah)->aW->Prop}{YP:aT->aW->Prop}{d:DefRec}{k:Nat}(S:k<=60)(Z:lw.most=some 63)(C:d.params.defaults=[])
  (F:∀(w:aT) (s₀:aq) (mg L:qM) (y:ak) (h:aW),Ground q loose [] XP w s₀ mg L h->YP w h->mg d.name=some (.ref y) ->
   ∃fd:cR,(∀(s:aq) (u:ah),oZ s fd ⟨[u],[]⟩ [("_law_script",u)])/\∀base:aW,(JI h).In base->base.Ns mainGlobals mg->FnOk lw.prog w (JI h) mg base CX0 k y fd ["_law_script"] (zpw (JI h))) :
  PySem.W.WalkO q loose XP YP lw.row.toRowW d [] (fun f N=>wV f N):=by
 refine Att.attach_call Z C fun w s₀ R mg L y o pm cd doc a N ns G Y ho hd hcd J x v l U=>?_
 obtain⟨fd,hb,hF⟩:=F w s₀ mg L y _ G Y J;exact zn9 zkU G.T.g G.T.b G.T.builtins G.T.nolimit U x v (cB l (by decide)) ((show Room 60 callerA from⟨rfl,by decide,by decide,rfl⟩).mono S) hF hb (fun H hO hS=>⟨a,ns,rfl,hS,l,fun _=>rfl⟩) fun H e s' z=>z
end Bd
namespace L2
open PySem PySem.Spec PyProof.Rows
section
variable{K:qF}{C:Ctx}{ρ:En}{σ:St}{H:Hp}{n:Nat}
theorem zjn{i:Nat}{v:V}(hi:ρ[i]?=some none){a:ak}:Own C ρ (σ.set i (some v)) a↔Own C ρ σ a:=by
 have key:OwnS ρ (σ.set i (some v)) a↔OwnS ρ σ a:=by
  constructor
  ·rintro⟨j,c,m,l,u⟩;have ne:i≠j:=fun z=>by subst z;rw[hi]at l;cases l
   rw[aS ne]at u;exact⟨j,c,m,l,u⟩
  ·rintro⟨j,c,m,l,u⟩;have ne:i≠j:=fun z=>by subst z;rw[hi]at l;cases l
   exact⟨j,c,m,l,by rw[aS ne];exact u⟩
 unfold Own;rw[key]
theorem Stt.hole{i:Nat}{v:V}(hi:ρ[i]?=some none)(S:Stt K C ρ σ H n):Stt K C ρ (σ.set i (some v)) H n:=by
 have l:Own C ρ (σ.set i (some v))=Own C ρ σ:=funext fun a=>propext (zjn hi)
 have ne:∀{j:Nat} {c:Cell},ρ[j]?=some (some c)->(σ.set i (some v))[j]?=σ[j]?:=fun {j c} h=>aS fun z=>by subst z;rw[hi]at h;cases h
 refine⟨by rw[fM];exact S.len,fun j d h=>?_,fun j d h=>?_,fun j d h=>?_,fun j d h=>?_,fun j d h=>?_,fun j k c e a m1 m2 G x u y=>?_,S.hnd,S.ext,S.hx⟩
 ·rw[l,ne h];exact S.val j d h
 ·rw[l,ne h];exact S.own j d h
 ·rw[l,ne h];exact S.dct j d h
 ·rw[l,ne h];exact S.rdo j d h
 ·rw[l,ne h];exact S.dtt j d h
 ·rw[ne G]at u;rw[ne x]at y;exact S.dif j k c e a m1 m2 G x u y
end
section
variable{X:Cx}{e:aV}{es:List aV}{x y:Str}{pos p1 p2 p3 p4 p5 p6:Pos}{e1:aV}{d:DTE}{te:TE}{t:TA}{ks:List Str}{ds:DTA}{i m n:Nat}
def zvu(X:Cx)(ks:List Str)(te:TE):TE:=fun σ H Q=>te σ H fun y l=>∃z,y=.str z/\z∈ks/\∀f,X.mg z=some (.ref f)->Q (.ref f) l
theorem zpU(h:Bd.StF X.prog X.w X.K X.mg x ks)(J:Gl X x)(G:PE X e te)(hs:NoSl e)(hd:(x == ("__debug__":Str))=false:=by rfl):PE X (.Subscript (.Name x p1) e pos) (zvu X ks te):=by
 obtain⟨a,o,es,R,Y,h1,h2,U,h4,h5,C,h7,h8,Z⟩:=h;intro pins s σ H Q I hw;refine zkZ kj.lookup hs (U4 I J h1 (thn (G pins s σ H _ I hw) fun L s1 ⟨y,v,l,ry,z,ez,mz,q⟩=>?_) hd)
 subst ez;obtain⟨t,rfl⟩:∃t,L=iQ z t:=ry;obtain⟨f,g1,g2⟩:=Z z mz;have dd:s1.heap.DictOf (strKind X.prog X.w) a Y:=⟨o,es,R,l.kIn a o U,h4,h5,C,h7,h8⟩;exact⟨dd.typeIs,oo (knd:=strKind X.prog X.w) (k:=z) (by show dg z (.str z t)=true;simp[dg]) dd.mapOf g1 ⟨.ref f,v,l.tok _,rfl,q f g2⟩⟩
end
end L2
namespace Bd
open PySem PySem.W PySem.Calls L2 PyProof.Rows
def JY(u:String->Option gp)(p:aL)(w:aT)(l:Nat)(ann:Option ah):Nat->t5->Thread->Option t5
 | 0,_,_=>none
 | n+1,s,t=>match through t with
  | true=>some s
  | false=>match stepOk l ann t with
   | false=>none
   | true=>match stepT (denote u) p w s t with
    | some (s',t')=>JY u p w l ann n s' t'
    | none=>none
theorem zfp{u:String->Option gp}{p:aL}{w:aT}{l:Nat}{ann:Option ah}:∀{n:Nat}{s s':t5}{t:Thread},JY u p w l ann n s t=some s'->topRun u p w l ann n s.abs t=some s'.abs
 | 0,_,_,_,h=>by cases h
 | n+1,s,s',t,h=>by
  unfold JY at h;unfold topRun;cases he:through t with
  | true=>rw[he]at h;cases h;rfl
  | false =>
   rw[he]at h;cases hk:stepOk l ann t with
   | false=>rw[hk]at h;cases h
   | true =>
    rw[hk]at h;cases hs:stepT (denote u) p w s t with
    | none=>rw[hs]at h;cases h
    | some r=>obtain⟨x,v⟩:=r;rw[hs]at h;dsimp only at h ⊢;rw[stepT_spec hs];exact zfp h
def zpc:List Obj->Nat->BT->BT
 | [],_,t=>t
 | o::r,i,t=>zpc r (i+1) (t.ins i o)
noncomputable def zrh (P:pG):BT:=zpc (bH P).objs.toList 0 .nil
noncomputable def zcj (w:aT) (os:fg):t5:=⟨zrh w.params,11,(bH w.params).life,#[],lE,mn,os⟩
theorem boot_abs(P:pG):absHeap (zrh P) 11 (bH P).life=bH P:=by kernel_rfl
theorem zm3(P:pG):(bH P).objs.size=11:=by kernel_rfl
theorem zrg(P:pG):(bH P).isNs mainGlobals=true:=by kernel_rfl
def UT(p:aL)(h₀:aW)(l:aq):Bool:=staticsOk (importedModules p.main.body) h₀ l.heap&&namesBound p l.heap&&gensDone l&&laidKept h₀ l.heap
theorem zl3{p q:aL}{loose:List Str}{u:aq->Bool}{α:Type}{v:aq->α}{y:aT->α}{N:Nat}(e:opening p=plainProg p.main.scope.names)(I:Nat.ble 600 N=true)(L:∀s,fenceModules? p s=some s)
  (run:∀(w:aT) (os:fg),(JY treeTable p w 11 ((bH w.params).nsMap mainGlobals "__annotations__") N (zcj w os) (topStub p)).map (fun s=>(UT p (bH w.params) s.abs,openSeen q loose (importedModules p.main.body) u true s.abs,v s.abs))=some (true,openGood q loose,y w)) :
  LeftO p q loose u v y N true:=fun w=>by
 obtain⟨⟨h,gs,d,k,os⟩,R,S⟩:=lF.mp (boot_open e I L w);obtain⟨rfl,rfl,rfl,rfl⟩:h=bH w.params/\gs=#[]/\d=lE/\k=mn:=by simpa using S
 obtain⟨x,r,l⟩:=lF.mp (run w os);have G:(zcj w os).abs=⟨bH w.params,#[],lE,mn,os⟩:=by
  show(⟨absHeap (zrh w.params) 11 (bH w.params).life,#[],lE,mn,os⟩:aq)=_
  rw[boot_abs]
 have r:=zfp r;rw[G]at r;obtain⟨C,l2⟩:=vC l;obtain⟨l2,J⟩:=vC l2;have t:topFrom treeTable p w N ⟨bH w.params,#[],lE,mn,os⟩=some x.abs:=by
  unfold topFrom;dsimp only;rw[zrg,zm3,r];show(match UT p (bH w.params) x.abs with|true=>_|false=>_)=_
  rw[C]
 unfold openEnds;rw[R];show(topFrom treeTable p w N _).map _=_
 rw[t];exact congrArg some (i5 l2 J)
theorem zsY{α T1 T2 T3 T4 T5 T6 T7 T8 T9 C G:Type}{o:Option α}{f1:α->T1}{f2:α->T2}{N:α->T3}{f4:α->T4}{I:α->T5}{R:α->T6}{L:α->T7}{f8:α->T8}{J:α->T9}{l:α->C}{u:α->G}{v1:T1}{Y:T2}{S:T3}{U:T4}{v5:T5}{v6:T6}{v7:T7}{v8:T8}{Z:T9}{y:C}{v:G}
  (ha:o.map (fun s=>(f1 s,u s,N s,f8 s,l s,R s))=some (v1,v,S,v8,y,v6)) (hb:o.map f2=some Y) (hc:o.map f4=some U) (hd:o.map I=some v5) (he:o.map L=some v7) (hf:o.map J=some Z) :
  o.map (fun s=>(f1 s,(f2 s,N s,f4 s,I s,R s,L s,f8 s,J s,l s),u s))=some (v1,(Y,S,U,v5,v6,v7,v8,Z,y),v):=by
 cases o with
 | none=>cases hc
 | some x =>
  have a:(f1 x,u x,N x,f8 x,l x,R x)=(v1,v,S,v8,y,v6):=aO ha;have b:f2 x=Y:=aO hb;have e:L x=v7:=aO he;have f:J x=Z:=aO hf;have c:f4 x=U:=aO hc;have d:I x=v5:=aO hd;simp only[kI]at a;show some (f1 x,(f2 x,N x,f4 x,I x,R x,L x,f8 x,J x,l x),u x)=_
  rw[a.1,a.2.1,a.2.2.1,a.2.2.2.1,a.2.2.2.2.1,a.2.2.2.2.2,b,c,d,e,f]
theorem zld{w:aT}{P:aT->Prop}(row:String)(h0:∀w:aT,P (w.withFollow row false))(l:∀w:aT,P (w.withFollow row true)):P w:=by
 have e:=World.withFollow_self w row;cases hb:w.params.followText row <;> rw[hb]at e
 ·rw[<- e];exact h0 w
 ·rw[<- e];exact l w
end Bd
namespace L2
open PySem PySem.Spec PyProof.Rows
abbrev GX:=List af->Nat->(af->Nat->Prop)->(Str->Nat->Prop)->Prop
def spX(K:qF)(mg:qM)(m:Nat)(g:GX):Sp:=fun y H Q E=>∃(hd:Option ak) (O:ak->Prop) (ts:qD) (n:Nat) (R:qN) (x:Str->Nat->Prop),Reps K hd O H y ts/\Hn hd H n/\(∀a,O a->MutO (H a))/\(∀a,hd=some a->O a)/\ts.length=m/\g ts n R x /\
 (∀t u v l,R t u->ExtE hd H l->Hn hd l u->Rep K hd O l v t->Q v l)/\∀c u l C,x c u->ExtE hd H l->Hn hd l u->mg c=some (.ref C)->E (.ref C) none l
def EX(X:Cx):XK:=fun u _ l=>∃C,u=.ref C/\XW X C l
def OwnE(K:qF)(mg:qM)(x:Str):Prop:=∃C,mg x=some (.ref C)/\OwnX K mg x C
theorem Vb{X:Cx}{x:Str}{np u pos:Pos}(O:OwnE X.K X.mg x)(hc:X.calm=true:=by rfl)(v:Gl X x:=by rfl)(hd:(x == ("__debug__":Str))=false:=by rfl):DS X (.Raise (some (.Call (.Name x np) [] [] u)) none pos) (fun D _ n=>D.xr x n):=by
 obtain⟨C,b,O⟩:=O;exact⟨_,znP O hc v hd,fun _ _ _ H n D G S h g=>g.xr x n H h S.hnd (fun a o y _ _=>y) C b⟩
section
variable{X:Cx}{e e1:aV}{es:List aV}{x y:Str}{pos p1 p2 p3 p4 p5 p6:Pos}{d:DTE}{t:TA}{ks:List Str}{ds:DTA}{i m n:Nat}
def zrH(X:Cx)(i:Nat)(t:TA):TE:=fun σ H Q=>∃(z:Str) (st:dH) (f:ak) (fd:cR) (k:Nat) (ps:List Str) (l:Sp),σ[i]?=some (some (.ref f))/\Bd.Def X.K X.mg z st ps f fd/\FnOk X.prog X.w X.K X.mg X.base (CX1 X.prog X.w) k f fd ps l/\Room k X.A/\t σ H fun v u=>l v u Q (EX X)
theorem znU(h:PB X (e::es) t)(Y:X.N[i]?=some y)(Z:Vis X.env.scope y)(hd:(y == ("__debug__":Str))=false:=by rfl) (L:(y == ("__classdict__":Str))=false:=by rfl):PE X (.Call (.Name y p1) (e::es) [] pos) (zrH X i t):=by
 intro pins s σ H Q I hw;obtain⟨z,st,f,fd,k,ps,sp,e1,D,G,U,hw⟩:=hw;refine fF (thn (QX (pos:=p1) Y Z hd L pins s σ H (fun v J=>v=.ref f/\J=H) I ⟨_,e1,rfl,rfl⟩) fun u s1 ⟨v,J,S,r,ev,eH⟩=>?_)
 subst ev eH;cases(show u=.ref f from r)
 refine iX (h₀:=X.base) S.ok.mod.kin D.F.kp (thn (h.pa pos pins s1 σ J _ S hw) fun us s2 ⟨vs,H2,R,r2,q⟩=>⟨R.kIn,?_⟩) h.hd.1 (h.hd.2 pos)
 exact zoX G U D.b .nil zwa R r2 (by rw[bW];exact q)
end
end L2
namespace Bd
open PySem PySem.W PySem.Calls L2 PyProof.Rows
def FqX(P:aL)(w:aT)(K:qF)(mg:qM)(base:aW)(x:Str)(st:dH)(ps:List Str)(k:Nat)(l:Sp):Prop:=∃f fd,Def K mg x st ps f fd/\FnOk P w K mg base (CX1 P w) k f fd ps l
def FQX(Z:ZZ)(x:Str)(st:dH)(ps:List Str)(k m:Nat)(g:GX):Prop:=FqX Z.P Z.w Z.K Z.mg Z.base x st ps k (spX Z.K Z.mg m g)
theorem okX{Z:ZZ}{x:Str}{st:dH}{ps N:List Str}{k m:Nat}{g:GX}(D:Dq Z.K Z.mg x st ps)(S:Uq N ps (JF st))(hm:m=ps.length)
  (hb:∀(f:ak) (l:ah) (A:br) (outer:List Env) (s:aq) (H:Hp) (E:XK),Room k (A.deeper (envOfC x (JF st) s.heap.objs.size f l))->∃d,DSs (cxOf (CX1 Z.P Z.w) Z.P Z.w Z.K Z.mg Z.base N x (JF st) f l A outer s H E) (Qe st) d /\
   ∀ts n R U,ts.length=m->g ts n R U->d { nx:=fun _ u=>R .none u,rt:=R,xr:=U } (Qa N ts) n):FQX Z x st ps (k+1) m g:=by
 obtain⟨f,fd,D⟩:=D;refine⟨f,fd,D,?_⟩;obtain⟨oc,od,kV,doc,pm,an,l,ct,osl,rfl,lk,hcd⟩:=D.F.ex;refine zue lk hcd S (fun vs H Q E h=>?_) fun A outer s H vs Q E hr h=>?_
 ·obtain⟨hd,O,ts,n,R,U,r,_,_,_,Y,_⟩:=h;rw[r.length,Y,hm]
 ·obtain⟨hd,O,ts,n,R,U,r,hn,dom,hx,Y,hg,hq,hE⟩:=h;obtain⟨d,⟨t,pt,ht⟩,hd'⟩:=hb f l A outer s H E hr;obtain⟨S0,no⟩:=zgX (N:=N) r hn dom hx;refine⟨t,pt,ht ⟨hd,O⟩ _ _ H n _ _ S0 (hd' ts n R U Y hg) ⟨fun ρ' σ' J u h S' G=>?_,fun t u v J h y G rp=>?_,fun _ _ _ _ h=>h.elim,fun _ _ _ _ h=>h.elim,fun c u J h y G C hC=>?_⟩⟩
  ·exact hq .none u .non J h (fun a o I L=>(G a o I L (no a)).1) S'.hnd .non
  ·exact hq t u v J h (fun a o I L=>G a o I L (no a)) y rp
  ·exact znp (hE c u J C h (fun a o I L=>G a o I L (no a)) y hC)
end Bd
namespace L2
open PySem PySem.Spec PyProof.Rows
section
variable{X:Cx}{e e1:aV}{es:List aV}{x y:Str}{pos p1 p2 p3 p4 p5 p6:Pos}{d:DTE}{ks:List Str}{ds:DTA}{i m n:Nat}
def zr5(i:Nat)(C:List (Str×GX))(d:DTE)(ds:DTA):DTS:=fun D l n=>d l n fun t v=>lStr t fun z=>l[i]?=some none/\∃q∈C,q.1=z/\ds l v fun ts u=>q.2 ts u D.rt D.xr
def UN(X:Cx)(ks:List Str)(n m:Nat)(l:List (Str×GX)):Prop:=∀q∈l,q.1∈ks/\∃st ps k,k<=n/\Bd.FqX X.prog X.w X.K X.mg X.base q.1 st ps k (spX X.K X.mg m q.2)
theorem UN.nil{X:Cx}{ks:List Str}{n m:Nat}:UN X ks n m []:=fun _ h=>nomatch h
theorem UN.cons{X:Cx}{ks:List Str}{n m k:Nat}{st:dH}{ps:List Str}{x:Str}{g:GX}{u:List (Str×GX)}(F:Bd.FqX X.prog X.w X.K X.mg X.base x st ps k (spX X.K X.mg m g))(r:UN X ks n m u)(hx:x∈ks:=by decide +kernel)(v:k<=n:=by decide):UN X ks n m ((x,g)::u):=fun q l=>by
 rcases ax.mp l with rfl|l
 ·exact⟨hx,st,ps,k,v,F⟩
 ·exact r q l
theorem zoz(M:Bd.StF X.prog X.w X.K X.mg x ks){tb:List (Str×GX)}(F:UN X ks n m tb)(hr:Room n X.A)(hN:X.N.Nodup)(h:DE X e d)(I:DB X (e1::es) ds)(hm:(e1::es).length=m:=by rfl)(hi:X.N[i]?=some y:=by rfl)(hl:Loc X.env.scope y:=by first|exact cY rfl|exact xj rfl)
  (hs:swapsWith (.Subscript (.Name x p1) e p2) (some (.Name y p3)) p4.line X.env=pure false:=by rfl) (hf:X.fn y=true\/X.env.scope.names.lookup y=some .local:=by walk_at "F") (hg:Gl X x:=by rfl) (hsl:NoSl e:=by intro _ _;rfl)
  (hd:(x == ("__debug__":Str))=false:=by rfl) (hv:Vis X.env.scope y:=by walk_at "V") (hd2:(y == ("__debug__":Str))=false:=by rfl) (hcd:(y == ("__classdict__":Str))=false:=by rfl) :
  DSs X [.Assign [.Name y p3] (.Subscript (.Name x p1) e p2) p4,.Return (some (.Call (.Name y p5) (e1::es) [] p6)) pos] (zr5 i tb d ds):=by
 obtain⟨ta,pa,h⟩:=h;obtain⟨tb',pb,I⟩:=I;refine⟨_,Qy (QG hN hi hl (zpU M hg pa hsl hd) hs hf) (U6 (ZO (znU pb hi hv hd2 hcd))),fun C U σ H n0 D D' S hw g=>?_⟩
 refine h C U σ H n0 _ _ S hw fun t n1 v H1 J e1 h1 q1=>?_
 cases t with
 | str z =>
  obtain⟨ho,q,mq,rfl,J⟩:=J;obtain⟨mk,st,ps,k,hk,f,fd,Df,G⟩:=F q mq;refine⟨_,q1.strI,mk,fun L ef=>?_⟩
  have:L=f:=by have:=Df.m.symm.trans ef;cases this;rfl
  subst this;have S1:=(S.on e1 h1).hole (v:=.ref L) ho;have li:i<σ.length:=by
   have:i<U.length:=(az.mp ho).1;rw[<- S.len];exact this
  refine⟨q.1,st,L,fd,k,ps,_,by rw[cc li],Df,G,hr.mono hk,?_⟩
  refine I C U _ H1 n1 _ _ S1 J fun ts n2 vs H2 r2 Z h2 q2 l2=>?_
  have S2:=S1.on Z h2;refine⟨C.hd,Own C U (σ.set i (some (V.ref L))),ts,n2,D'.rt,D'.xr,q2,h2,fun a=>S2.lst,fun a z=>.inl (S.hx a z),l2.trans hm,r2,fun t n' v H' rt e3 h3 q3=>?_,fun c n' H' Cc rx e3 h3 hC=>?_⟩
  ·exact g.rt t n' v H' rt h3 (fun a o I Y _=>(e1.trans (Z.trans e3)) a o I Y) (q3.mono (fun _ _ _ z=>.inl z) fun _ _ _ z=>z)
  ·exact⟨Cc,rfl,g.xr c n' H' rx h3 (fun a o I Y _=>(e1.trans (Z.trans e3)) a o I Y) Cc hC⟩
 | _=>exact J.elim
end
section
variable{i:Nat}{tb:List (Str×GX)}{d:DTE}{ds:DTA}{D:JU}{ρ:En}{n:Nat}
instance zxi:Stp (zr5 i tb d ds D ρ n) (d ρ n fun t n1=>lStr t fun z=>ρ[i]?=some none/\∃q∈tb,q.1=z/\ds ρ n1 fun ts n2=>q.2 ts n2 D.rt D.xr):=⟨fun h=>h⟩
end
theorem isiF{f:af->Bool}{b:Bool}{t:af}{R:af->Prop}(p:Pln t)(e:f t=b)(h:R (.bool b)):lIsi f t R:=⟨p,e▸h⟩
theorem zoj{d:af}(h:isTup d=true):∃ts,d=.tuple ts:=by
 cases d with
 | tuple ts=>exact⟨ts,rfl⟩
 | _=>cases h
theorem zwi{l:qD}(h:l.length=2):∃a b,l=[a,b]:=by
 cases l with
 | nil=>cases h
 | cons a t =>
  obtain⟨b,e⟩:=List.length_eq_one_iff.mp (tZ h);exact⟨a,b,e▸rfl⟩
end L2
namespace L2
open PySem PySem.Spec PySem.W PySem.Calls PyProof.Rows
section
variable{X:Cx}{pins:qO}{σ:St}{H H':Hp}{s:aq}
theorem Inv.adopt{a:ak}{o:HO}(I:Inv X pins σ H s)(v:H a=none)(h0:X.s₀.heap.get? a=none)(l:a≠X.env.locals)(hc:∀x c,X.env.cells.lookup x=some c->c≠a)(C:∀p∈X.pn++pins,p.1≠a)
  (new:JK X.prog X.w (upd H a o) s.heap a o):Inv X pins σ (upd H a o) s:=by
 have up:∀b u,H b=some u->upd H a o b=some u:=fun b u e=>by rw[Jn (Qx e v)];exact e
 refine⟨I.ok,I.os,I.bare,⟨I.base.keep,I.base.slot,fun b u e n hx=>?_,I.base.there,fun b xs e=>up b _ (I.base.tups b xs e),fun b u xs e=>up b _ (I.base.frzs b u xs e),fun b q e=>up b _ (I.base.tbls b q e)⟩,I.loc,I.cell,?_,fun x c e=>?_,fun p h=>?_,fun b u e=>?_,I.len⟩
 ·rw[Jn fun z=>by rw[z,h0]at e;cases e]
  exact I.base.free b u e n hx
 ·rw[Jn l.symm];exact I.free
 ·rw[Jn (hc x c e)];exact I.freeC x c e
 ·have q:=I.pin p h;exact⟨q.1,by rw[Jn (C p h)];exact q.2.1,q.2.2⟩
 ·by_cases hb:b=a
  ·subst hb;rw[JM]at e;cases e;exact new
  ·rw[Jn hb]at e;exact(I.hok b u e).stay (fun _ _ _ q=>q) (fun d q=>up d _ q) (fun d xs q=>up d _ q) fun d G xs q=>up d _ q
theorem Inv.unbound{i:Nat}{n:Str}{h':aW}{t':Nat}{v:Option ah}{m:qM}(I:Inv X pins σ H s)(hN:X.N.Nodup)(hi:X.N[i]?=some n)(hk:X.env.kindOf n=some .local)(hm:s.heap.Ns X.env.locals m)
  (hn:h'.Ns X.env.locals (fun x=>if x=n then v else m x)) (hs:eG X.env.locals s.heap h'):Inv X pins (σ.set i none) H { s with heap:=h',toks:=t' }:=by
 have U:Inv X pins (σ.set i none) H s:=I.weak (by simp) fun j u e=>by
  rw[g7]at e;split at e
  ·split at e <;> cases e
  ·exact e
 obtain⟨m0,G,Z⟩:=id U.loc;have em:m0=m:=by
  obtain⟨o,es,ep,e,d,_,r⟩:=G;obtain⟨L,es',ep',Y,d',_,r'⟩:=hm;rw[e]at Y;cases Y;rw[d]at d';cases d'
  funext n
  rw[<- r n,r' n]
 subst em;have kp:∀b o,b≠X.env.locals->s.heap.get? b=some o->h'.get? b=some o:=fun b o C e=>(hs.2 b C).trans e
 have fr:∀b u,H b=some u->b≠X.env.locals:=fun b u e z=>by rw[z,I.free]at e;cases e
 refine⟨I.ok,I.os,I.bare,⟨fun b o e N C hx=>?_,fun b o e N C hx=>?_,I.base.free,fun b o e hx=>?_,I.base.tups,I.base.frzs,I.base.tbls⟩,⟨_,hn,fun j x u R S e3=>?_⟩,fun x c e=>?_,I.free,I.freeC,fun p hp=>?_,fun b u e=>?_,U.len⟩
 ·exact kp b o (aJ (aE (aD e) I.ok.above)) (I.base.keep b o e N C hx)
 ·obtain⟨sl,q⟩:=I.base.slot b o e N C hx;exact⟨sl,kp b _ (aJ (aE (aD e) I.ok.above)) q⟩
 ·obtain⟨L,q⟩:=I.base.there b o e hx;exact⟨L,kp b L (aJ (aE (aD e) I.ok.above)) q⟩
 ·obtain⟨w,r,l⟩:=Z j x u R S e3;refine⟨w,r,?_⟩;rcases l with⟨k,e⟩|⟨k,c,e,z⟩
  ·refine .inl ⟨k,?_⟩;have:x≠n:=fun z=>by
    subst z;have:=zgj hN R hi;subst this;rw[cc (by
     have:=(az.mp R).1;rw[I.len];exact this)]at S
    cases S
   show(if x=n then v else m0 x)=some w
   rw[if_neg this];exact e
  ·obtain⟨o,J,hd⟩:=z;exact .inr ⟨k,c,e,o,kp c o (I.cne x c e) J,hd⟩
 ·obtain⟨v',o,J,hd⟩:=I.cell x c e;exact⟨v',o,kp c o (I.cne x c e) J,hd⟩
 ·have q:=I.pin p hp;exact⟨kp p.1 p.2 q.2.2.1 q.1,q.2⟩
 ·refine(I.hok b u e).stay (fun c w hc q=>kp c w ?_ q) (fun _ q=>q) (fun _ _ q=>q) fun _ _ _ q=>q
  rcases hc with rfl|hc
  ·exact fr _ _ e
  ·exact fr _ _ hc
end
def SubK(l K:qF):Prop:=∀a o,l.lookup a=some o->K.lookup a=some o
theorem SubK.in{l K:qF}{h:aW}(s:SubK l K)(x:K.In h):l.In h:=fun a o e=>x a o (s a o e)
def Cx.marked(X:Cx)(e:ah):Cx:={ X with A:=X.A.mark (some e),calm:=false,xe:=fun _ _=>False }
section
variable{X:Cx}{pins:qO}{σ:St}{H H':Hp}{s:aq}{e:ah}
theorem Inv.marked(I:Inv X pins σ H s):Inv (X.marked e) pins σ H s :=
 ⟨⟨I.ok.mod,I.ok.kind,I.ok.glob,I.ok.blt,I.ok.above,I.ok.inj,I.ok.has,I.ok.cab,(fun z=>by cases z),I.ok.frames,I.ok.stk,I.ok.exf,I.ok.bs,I.ok.bsz,I.ok.noex,I.ok.exfs,I.ok.funs,I.ok.frf⟩,I.os,I.bare,I.base,I.loc,I.cell,I.free,I.freeC,I.pin,I.hok,I.len⟩
theorem Inv.unmarked(ok:X.Ok)(I:Inv (X.marked e) pins σ H s):Inv X pins σ H s :=
 ⟨ok,I.os,I.bare,I.base,I.loc,I.cell,I.free,I.freeC,I.pin,I.hok,I.len⟩
end
section
variable{X:Cx}{k i ie:Nat}{f Dc:ak}{fd:cR}{ps:List Str}{sp:Sp}{fn T en x:Str}{st:dH}{e:aV}{es:List aV}{t:TA}{p p1 p2 p3 p4 p5 p6 pos:Pos}
def tTry(X:Cx)(i ie:Nat)(Dc:ak)(sp:Sp)(t:TA):TS:=fun D σ H=>t σ H fun G y=>sp G y (fun _ u=>D.nx σ u)
 fun I _ u=>∃C,I=.ref C/\(∃v,SubK v X.K/\exmOne v (.ref C) (.ref Dc)=some true)/\∀l,u l=none->D.nx (((σ.set ie (some (.ref l))).set i (some (.ref l))).set ie none) (upd u l (EXO l C))
theorem zsg(D:Bd.Def X.K X.mg fn st ps f fd)(F:FnOk X.prog X.w X.K X.mg X.base (CX1 X.prog X.w) k f fd ps sp)(hr:Room k X.A)(ha:PB X.nox (e::es) t)(hc:X.calm=true)(hst:X.stack=X.env::X.outer)(hfr:X.env.frame=some X.env.locals)
  (hT:X.mg T=some (.ref Dc)) (hN:X.N.Nodup) (hi:X.N[i]?=some x) (L:X.N[ie]?=some en) (hne:i≠ie) (hx:Loc X.env.scope x) (hen:X.env.kindOf en=some .local) (Y:X.env.scope.names.lookup en=some .local) (hx0:X.ex=[]) (hg:Gl X fn) (hgT:Gl X T)
  (hdb:(fn == ("__debug__":Str))=false) (hdT:(T == ("__debug__":Str))=false) (hde:(en == ("__debug__":Str))=false) (hce:(en == ("__classdict__":Str))=false)
  (hsw:swapsWith (.Call (.Name fn p1) (e::es) [] p2) none p3.line X.env=pure false) (Kn:swapsWith (.Name en p6) (some (.Name x p5)) p4.line X.env=pure false) (hf:X.fn x=true\/X.env.scope.names.lookup x=some .local) (hfe:X.fn en=true\/X.env.scope.names.lookup en=some .local) :
  PS X (.Try [.Expr (.Call (.Name fn p1) (e::es) [] p2) p3] [.ExceptHandler (some (.Name T p)) (some en) [.Assign [.Name x p5] (.Name en p6) p4] pos] [] [] pos) (tTry X i ie Dc sp t):=by
 intro pins s σ H De I h;have hA:X.A.frames=some (X.env::X.outer):=by rw[<- hst];exact I.ok.frames
 refine wpAny_Try_except ?_;refine kN (o6 ?_ I.quiet hsw);refine fF (U4 I hg D.m ?_ hdb);refine iX (h₀:=X.base) I.ok.mod.kin D.F.kp ?_ ha.hd.1 (ha.hd.2 p2);refine c8 (ha.pa p2 pins s σ H _ (I.wish _) h) (fun us s1 hu=>?_) fun _ _ z=>cx z
 obtain⟨vs,H1,U,r,q⟩:=hu;have U:=U.unwish;refine⟨U.kIn,?_⟩;have hl:us.length=ps.length:=by rw[<- r.length];exact F.len _ _ _ _ q
 refine mP (iL (F.run X.A X.stack s1 H1 ⟨us,[]⟩ us vs _ _ hr U.env0 (by have:=D.b s1 us U.kIn (by rw[bW];exact hl);rwa [bW]at this) r q) fun rs s2 hq=>?_)
 cases rs with
 | ok fl =>
  cases fl with
  | ret u =>
   obtain⟨v,H2,J,_,hn⟩:=U.after hq;exact fK (fK ⟨σ,H2,J,hn⟩)
  | next=>exact cx hq
  | brk=>exact cx hq
  | cont=>exact cx hq
 | error ev =>
  obtain⟨G,C,H2,rfl,os,bare,⟨B,a0,fl,ne,nn,st'⟩,C',eC,⟨K0,sK,hex⟩,Z⟩:=hq;cases eC;have Z:=Z G ne;rw[hst]at fl;refine wpAny_looks_onW hA hfr fl fun h3 held up3=>?_
  refine wpAny_landsW held fun h4 fl4 up4=>?_
  have inv:∀R,nG B (X.env::X.outer) G (.ref C) a0 R->s2.heap.UpToSlots R->Inv X pins σ H2 { s2 with heap:=R }:=fun R f5 u5=>by
   obtain⟨un,hk⟩:=st' R f5.1 u5;obtain⟨hh,g,d,tk,os'⟩:=s2;obtain rfl:os'=s1.os:=os;show Inv X pins σ H2 { s1 with heap:=R,gens:=g,drawn:=d,toks:=tk }
   exact U.call (h':=R) (g':=g) (d':=d) (t':=tk) (ch:=[]) un hk bare (fun b z=>absurd z (by simp))
  have J4:=inv h4 fl4 (up3.trans up4);have LT:∀R,nG B (X.env::X.outer) G (.ref C) a0 R->td (model X.prog X.w) R (typeOf (.ref G)) (.ref C):=fun R f5=>by
   obtain⟨ob,ho,hc⟩:=f5.there;exact hc▸(AV ho).andThen .now
  refine wpAny_handleBy_cons (codeAny_handlers_test ?_) (by intro z;cases z)
  refine gh J4.ok.kind hgT (kM (by rw[J4.ok.glob];exact J4.mod.glob.keeps J4.bk) hT ?_) hdT
  refine(exm_one (sK.in J4.kIn) (LT h4 fl4) hex).here ?_;refine codeAny_handlers_suite_as (lands_againW fl4 fun R fl5 up5=>?_)
  have J5:=inv R fl5 ((up3.trans up4).trans up5);obtain⟨_,_,_,oe,ws,T',oT,ts,he,⟨hcl,_⟩,hdt,_⟩:=fl5;have nL:G≠X.env.locals:=fun z=>by
   obtain⟨m,⟨o,_,_,q,_⟩,_⟩:=U.loc;rw[<- z,nn]at q;cases q
  have nC:∀y c,X.env.cells.lookup y=some c->c≠G:=fun y c hc z=>by
   obtain⟨v,o,q,_⟩:=U.cell y c hc;rw[z,nn]at q;cases q
  have n0:X.s₀.heap.get? G=none:=by
   cases q:X.s₀.heap.get? G with
   | none=>rfl
   | some o =>
    obtain⟨o',z⟩:=U.base.there G o q (by rw[hx0];simp)
    rw[nn]at z;cases z
  have nP:∀p∈X.pn++pins,p.1≠G:=fun p hp z=>by
   have q:=(U.pin p hp).1;rw[z,nn]at q;cases q
  have J6:=J5.adopt (o:=EXO G C) ne n0 nL nC nP ⟨⟨oe,he,hcl,ws,hdt⟩,⟨oe,he⟩,fun h1 h2 z k=>by
   obtain⟨o,z1,z2⟩:=z;exact⟨o,k o z1,z2⟩⟩
  refine Za (v:=.ref G) J6 hN L (.inl Y) rfl (fun s6 J7=>?_) hfe
  refine c8 (U6 (show PS (X.marked (.ref G)) (.Assign [.Name x p5] (.Name en p6) p4) (tAsg (tVar ie) (Zk i)) from QG hN hi hx (QX L (.inl Y) hde hce) Kn hf) pins s6 (σ.set ie (some (.ref G))) (upd H2 G (EXO G C))
   { nx:=fun σ' H'=>σ'=(σ.set ie (some (.ref G))).set i (some (.ref G))/\H'=upd H2 G (EXO G C),rt:=fun _ _=>False } J7.marked ⟨.ref G,?_,rfl,rfl⟩) (fun fl s7 hs=>?_) fun _ _ z=>cx z
  ·rw[cc];have:=(az.mp L).1;rw[I.len];exact this
  cases fl with
  | ret u=>obtain⟨_,_,_,_,_,z⟩:=hs;exact z.elim
  | brk=>obtain⟨_,_,_,z⟩:=hs;exact z.elim
  | cont=>obtain⟨_,_,_,z⟩:=hs;exact z.elim
  | next =>
  obtain⟨σ',H',J8,rfl,rfl⟩:=hs;have J8:=J8.unmarked I.ok;refine ae (lS (Za (v:=.non) J8 hN L (.inl Y) rfl (fun s8 J9=>?_) hfe))
  obtain⟨m,hm,hlo⟩:=id J9.loc;have li:ie<((σ.set ie (some (V.ref G))).set i (some (V.ref G))).length:=by
   have:=(az.mp L).1;rw[fM,fM,I.len];exact this
  have some':(m en).isSome=true:=by
   obtain⟨u,ru,lu⟩:=hlo ie en .non L (by rw[cc li]) (.inl Y)
   rcases lu with⟨_,z⟩|⟨z,_⟩
   ·rw[z];rfl
   ·rw[hen]at z;rcases z with z|z <;> cases z
  have hp:(X.env.scope.kind == .class||(X.env.scope.kind == .module&&X.env.locals != X.env.globals))=false:=by rw[I.ok.kind];rfl
  unfold unbindBehindTheSuite;refine iC ?_;unfold unbindName;refine ae (wpAny_point (ae ?_));unfold deleteName;simp only[hen,hp];rw[if_neg (by decide)]
  refine ae (wpAny_nsDel_keeps hm fun h₂ v hn₂ hs₂=>?_)
  simp only[some',dh,aI,if_false];refine aj (wpAny_point ?_);have J10:=J9.unbound (t':=s8.toks) hN L hen hm hn₂ hs₂;rw[List.set_set]at J10;exact⟨_,_,J10,Z⟩
end
def zjZ(K:qF)(mg:qM)(cs:List Str)(T:Str):Prop:=∃l,mg T=some (.ref l)/\∀c∈cs,∀C,mg c=some (.ref C)->∃u,SubK u K/\exmOne u (.ref C) (.ref l)=some true
def sTry(mg:qM)(cs:List Str)(i ie:Nat)(g:GX)(ds:DTA):DTS:=fun D u n=>u[ie]?=some none/\ds u n fun ts y=>g ts y (fun _ x=>D.nx u x) fun c x=>c∈cs/\∀C,mg c=some (.ref C)->D.nx (u.set i (some (.val (EXC C)))) x
section
variable{K:qF}{C:Ctx}{ρ:En}{σ:St}{H:Hp}{n:Nat}
theorem zlA{i:Nat}(hi:ρ[i]?=some none):Own C ρ (σ.set i none) a↔Own C ρ σ a:=by
 have key:OwnS ρ (σ.set i none) a↔OwnS ρ σ a:=by
  constructor <;> rintro⟨j,c,m,l,u⟩ <;> refine⟨j,c,m,l,?_⟩ <;>
  ·have ne:i≠j:=fun z=>by subst z;rw[hi]at l;cases l
   first|(rw[aS ne]at u;exact u)|(rw[aS ne];exact u)
 exact or_congr aU key
theorem Stt.hole0{i:Nat}(hi:ρ[i]?=some none)(S:Stt K C ρ σ H n):Stt K C ρ (σ.set i none) H n:=by
 have l:Own C ρ (σ.set i none)=Own C ρ σ:=funext fun a=>propext (zlA hi)
 have ne:∀{j:Nat} {c:Cell},ρ[j]?=some (some c)->(σ.set i none)[j]?=σ[j]?:=fun {j c} h=>aS fun z=>by subst z;rw[hi]at h;cases h
 refine⟨by rw[fM];exact S.len,fun j d h=>?_,fun j d h=>?_,fun j d h=>?_,fun j d h=>?_,fun j d h=>?_,fun j k c e a m1 m2 y v u x=>?_,S.hnd,S.ext,S.hx⟩
 ·rw[l,ne h];exact S.val j d h
 ·rw[l,ne h];exact S.own j d h
 ·rw[l,ne h];exact S.dct j d h
 ·rw[l,ne h];exact S.rdo j d h
 ·rw[l,ne h];exact S.dtt j d h
 ·rw[ne y]at u;rw[ne v]at x;exact S.dif j k c e a m1 m2 y v u x
end
section
variable{X:Cx}{k n m i ie:Nat}{ps:List Str}{fn T en x:Str}{st:dH}{e:aV}{es:List aV}{ds:DTA}{p p1 p2 p3 p4 p5 p6 pos:Pos}{g:GX}{cs:List Str}
theorem zuj(i ie:Nat)(F:Bd.FqX X.prog X.w X.K X.mg X.base fn st ps k (spX X.K X.mg m g))(M:zjZ X.K X.mg cs T)(hr:Room n X.A)(hN:X.N.Nodup)(h:DB X.nox (e::es) ds)(hk:k<=n:=by decide)(hm:(e::es).length=m:=by rfl)(hc:X.calm=true:=by rfl)(hst:X.stack=X.env::X.outer:=by rfl)(hfr:X.env.frame=some X.env.locals:=by rfl)
  (hi:X.N[i]?=some x:=by rfl) (hie:X.N[ie]?=some en:=by rfl) (R:i≠ie:=by decide) (hx:Loc X.env.scope x:=by first|exact cY rfl|exact xj rfl) (hen:X.env.kindOf en=some .local:=by rfl) (hel:X.env.scope.names.lookup en=some .local:=by rfl) (hx0:X.ex=[]:=by rfl) (hg:Gl X fn:=by rfl) (hgT:Gl X T:=by rfl)
  (hdb:(fn == ("__debug__":Str))=false:=by rfl) (hdT:(T == ("__debug__":Str))=false:=by rfl) (hde:(en == ("__debug__":Str))=false:=by rfl) (hce:(en == ("__classdict__":Str))=false:=by rfl)
  (hsw:swapsWith (.Call (.Name fn p1) (e::es) [] p2) none p3.line X.env=pure false:=by rfl) (Kn:swapsWith (.Name en p6) (some (.Name x p5)) p4.line X.env=pure false:=by rfl) (hf:X.fn x=true\/X.env.scope.names.lookup x=some .local:=by walk_at "F") (hfe:X.fn en=true\/X.env.scope.names.lookup en=some .local:=by walk_at "F") :
  DS X (.Try [.Expr (.Call (.Name fn p1) (e::es) [] p2) p3] [.ExceptHandler (some (.Name T p)) (some en) [.Assign [.Name x p5] (.Name en p6) p4] pos] [] [] pos) (sTry X.mg cs i ie g ds):=by
 obtain⟨f,fd,D,G⟩:=F;obtain⟨Dc,hT,hM⟩:=M;obtain⟨ta,pa,h⟩:=h;refine⟨_,zsg D G (hr.mono hk) pa hc hst hfr hT hN hi hie R hx hen hel hx0 hg hgT hdb hdT hde hce hsw Kn hf hfe,fun C L σ H n De D' S hw gd=>?_⟩
 obtain⟨ho,hw⟩:=hw;refine h C L σ H n _ _ S hw fun ts n1 vs H1 r1 e1 h1 q1 l1=>?_
 have S1:=S.on e1 h1;refine⟨C.hd,Own C L σ,ts,n1,_,_,q1,h1,fun a=>S1.lst,fun a z=>.inl (S.hx a z),l1.trans hm,r1,fun t n' v H' rt U h2 q2=>gd.nx L σ H' n' rt (S1.on U h2) ((e1.trans U).keep),fun c n' H' J rx U h2 hC=>⟨J,rfl,hM c rx.1 J hC,fun Y u=>?_⟩⟩
 have S2:=S1.on U h2;have e3:ExtE C.hd H (upd H' Y (EXO Y J)):=(e1.trans U).trans (ExtE.new u);have S3:=S2.on (ExtE.new (o:=EXO Y J) u) (h2.same (JS u));have S4:=S3.hole (v:=.ref Y) ho;have li:ie<σ.length:=by
  have:ie<L.length:=(az.mp ho).1;rw[<- S.len];exact this
 have S5:=S4.put (i:=i) (v:=.ref Y) (t:=EXC J) (.exc JM fun z=>S2.free u ((zjn ho).mp z))
 have Z:(L.set i (some (Cell.val (EXC J))))[ie]?=some none:=by rw[aS R];exact ho
 refine gd.nx _ _ _ n' (rx.2 J hC) (S5.hole0 Z) fun a o ha nh no=>⟨e3 a o ha nh,fun⟨j,c',mc,I,z2⟩=>no ⟨j,c',mc,?_,?_⟩⟩
 all_goals
  have nj:ie≠j:=fun z=>by subst z;rw[Z]at I;cases I
  have ni:i≠j:=fun z=>by
   subst z
   by_cases hl:i<L.length
   ·rw[cc hl]at I;cases I;cases mc
   ·rw[cn (by rw[fM];omega)]at I;cases I
 ·rw[aS ni]at I;exact I
 ·rw[aS nj,aS ni,aS nj]at z2;exact z2
end
end L2
namespace L2
open PySem PySem.Spec PySem.W PySem.Calls PyProof.Rows Builtin Builtin.ObjectAttr Builtin.Getset_descriptor
def ExAt(x C:ak)(h:aW):Prop:=∃o,h.get? x=some o/\o.cls=.ref C
def clsB(K:qF)(D:ak):Bool:=(clsIn K D).isSome&&(findIn K (.ref D) "__getattribute__" == some (some (.builtin "BaseException.__getattribute__")))&&(findIn K (.ref D) "__getattr__" == some none)&&(findIn K (.ref D) "__class__" == some (some (.builtin "object.__class__")))
 && (specialIn K (.builtin "object.__class__") "__get__" == some (some (.builtin "getset_descriptor.__get__")))&&(takesIn K (.builtin "object.__class__") == some true)&&(mroIn K D (.type "object") == some true)&&(mroIn K D (.type "BaseException") == some true)
section
variable{K:qF}{x D:ak}
theorem ExAt.type{M:m4}{h:aW}(I:ExAt x D h):td M h (typeOf (.ref x)) (.ref D):=by
 obtain⟨o,l,hc⟩:=I;exact hc▸(AV l).andThen .now
theorem zkM{prog:aL}{w:aT}{A:br}{s:aq}{R:nY->aq->Prop}{C:ah}(X:K.In s.heap)(I:ExAt x D s.heap)(G:mroIn K D (.type "object")=some true)
  (h:R (.ok (.ret (.ref D))) s):codeAny (model prog w) A (.call (.builtin "getset_descriptor.__get__") ⟨[.builtin "object.__class__",.ref x,C],[]⟩) R s:=by
 obtain⟨v,g,N,t,os⟩:=s;have L:td (model prog w) v (typeOf (.ref x)) (.ref D):=I.type;have J:=looks_mroIn (M:=model prog w) X G;refine mi KF.slot_gs.plain KF.entry_gs (KF.slot_gs.check _ _ _ _ _ _ _ _ KF.type_class (KF.args_gs _ _ _) ?_);unfold gp.«getset_descriptor.__get__» descrGet;rw[dga_obj];refine ae (aj ?_);unfold descrGetter descrCheckInstance descrNameAndClass isInstance
 simp only[KF.owner_class]
 repeat lk
 refine⟨mV _ (by decide +kernel),lJ KF.entry_class ?_⟩
 unfold gp.«object.__class__» shownTypeOf
 repeat lk
 exact h
theorem zkT{M:m4}{A:br}{E:qV}{Q:Unit->aq->Prop}{s:aq}{m:Sem Unit}(e:m=pure ())(h:Q () s):wpAny M A m Q E s:=by rw[e];exact aj h
theorem zjt(Z:clsB K D=true):KitX K (.ref x) (.ref D) (ExAt x D):=by
 unfold clsB at Z;simp only[aK,beq_iff_eq]at Z;obtain⟨⟨⟨⟨⟨⟨⟨N,R⟩,hgh⟩,S⟩,Y⟩,L⟩,hm⟩,hmb⟩:=Z;obtain⟨cdD,v⟩:=kF.mp N;refine⟨fun M h _ I=>I.type,fun M h X _=>?_,fun h tp dd its n sl X J=>?_,fun {prog w A E Q s} X I k=>?_⟩
 ·unfold clsIn at v;split at v
  ·rename_i c' d' cd' G U;intro A' Q' E' s' k q;unfold isType loadHead;exact ae (wpAny_loadPart (k _ _ (X _ _ U)) (aj q))
  ·cases v
 ·refine fZ.mpr fun q=>?_
  have e:D=tp:=Value.ref.inj (beq_iff_eq.mp q);subst e;unfold clsIn at v;split at v
  ·rename_i c' d' cd' G U;have z:=(X _ _ U).symm.trans J;cases z
  ·cases v
 ·obtain⟨C,g,d,t,os⟩:=s;have L0:td (model prog w) C (typeOf (.ref x)) (.ref D):=I.type;have L1:=nS (M:=model prog w) X R;have Lf:td (model prog w) C (find (.ref x) (.ref D) "__class__") (.bind (.builtin "getset_descriptor.__get__") (.builtin "object.__class__")):=by
   refine(nS X S).andThen ((show td (model prog w) C (getOf (some (.builtin "object.__class__"))) (some (.builtin "getset_descriptor.__get__")) from looks_specialIn X Y).andThen ?_)
   exact(show td (model prog w) C (dataDescriptor? (some (.builtin "object.__class__")) (some (.builtin "getset_descriptor.__get__"))) (some (.builtin "getset_descriptor.__get__",.builtin "object.__class__")) from(looks_takesIn X L).andThen .now).andThen (Looks.tag .now)
  have Lh:=nS (M:=model prog w) X hgh;have f3:=ke.ga.bind (.ref x);have L2:=looks_mroIn (M:=model prog w) X hmb;have hk:builtinKind "BaseException.__getattribute__" = some .slot:=by decide +kernel
  have Ko:splitId "BaseException.__getattribute__" = some ("BaseException","__getattribute__"):=by decide +kernel
  unfold getAttr? getAttrBy? getAttrBy;refine ae (wpAny_mkText (ae (iA (cg (ae (L0.at (ae (L1.at ?_))))))));show wpAny _ _ (if (onTheHeap (cA D)&&kK "BaseException.__getattribute__" == kK "object.__getattribute__")=true then _ else getAttrByItsOwn _ _ _ _ _ _) _ _ _
  have hx2:(kK "BaseException.__getattribute__" == kK "object.__getattribute__")=false:=by decide +kernel
  rw[if_neg (by rw[hx2,eT];decide)]
  unfold getAttrByItsOwn;refine ae (show wpAny _ _ (typeLookup (.ref D) "__getattr__") _ _ _ from Lh.at ?_)
  unfold callGetattribute boundAndCalled;rw[if_neg (by decide)]
  refine ae (iA (cg (ae ?_)));rw[f3];refine aj ?_;refine mP (mi ke.ga.plain PySem.F.entry_bexc_ga ?_);have ha:=PySem.F.args_bexc_ga (.ref x) (.str "__class__" t);simp only[checkBuiltinCall,hk,Ko,cQ,dG];unfold isInstance;refine ae (ae (L0.at (L2.at ?_)));rw[if_neg (by decide)]
  refine zkT ha ?_;unfold gp.«object.__getattribute__»;refine ae (aj (ae (aj (ae (L0.at (ae (Lf.at ?_)))))));show wpAny _ _ (holding [.builtin "object.__class__"] (call (.builtin "getset_descriptor.__get__") [.builtin "object.__class__",.ref x,.ref D]) >>= ret) _ _ _
  refine ae (cg (mP (zkM (s:=⟨C,g,d,t+1,os⟩) X I hm ?_)));refine aj ?_;exact handed_on rfl (aj k)
end
end L2
namespace L2
open PySem PySem.Spec PySem.W PySem.Calls PyProof.Rows
def excT(l:qF)(mg:qM)(cs ys:List Str)(T:Str):Bool:=cs.all fun c=>match mg c,mg T with
 | some (.ref C),some (.ref D)=>clsB l C&&(exmOne l (.ref C) (.ref D) == some true)&&(kitOne l (.ref C) (.type "ValueError") == some true)&&ys.all fun y=>match mg y with
  | some (.ref E)=>kitOne l (.ref C) (.ref E) == some (decide (c=y))
  | _=>false
 | _,_=>false
def QS(K:qF)(mg:qM)(cs ys:List Str)(T:Str):Prop:=∃l,SubK l K/\((∃D,mg T=some (.ref D))/\∀y∈ys,∃E,mg y=some (.ref E))/\excT l mg cs ys T=true
section
variable{K:qF}{mg:qM}{cs ys:List Str}{T:Str}
theorem QS.at(M:QS K mg cs ys T):∃l,SubK l K/\∀c∈cs,∀C,mg c=some (.ref C)->clsB l C=true/\(∀D,mg T=some (.ref D)->exmOne l (.ref C) (.ref D)=some true)/\kitOne l (.ref C) (.type "ValueError")=some true/\∀y∈ys,∃E,mg y=some (.ref E)/\kitOne l (.ref C) (.ref E)=some (decide (c=y)):=by
 obtain⟨l,sK,⟨⟨D,v⟩,_⟩,e⟩:=M;refine⟨l,sK,fun c hc C L=>?_⟩
 have e:=bG.mp e c hc;rw[L,v]at e;simp only[aK,beq_iff_eq]at e;obtain⟨⟨⟨J,N⟩,G⟩,u⟩:=e;refine⟨J,fun R h'=>by rw[v]at h';cases h';exact N,G,fun y x=>?_⟩
 have u:=bG.mp u y x;split at u
 ·rename_i E I;exact⟨E,I,beq_iff_eq.mp u⟩
 ·cases u
theorem QS.under(M:QS K mg cs ys T):zjZ K mg cs T:=by
 obtain⟨u,sK,h⟩:=M.at;obtain⟨_,_,⟨⟨D,l⟩,_⟩,_⟩:=M;exact⟨D,l,fun c hc C v=>⟨u,sK,(h c hc C v).2.1 D l⟩⟩
end
theorem Rep.excI{K:qF}{hd:Option ak}{O:ak->Prop}{H:Hp}{v:V}{C:ak}(h:Rep K hd O H v (EXC C)):∃a,v=.ref a/\H a=some (EXO a C):=by
 generalize e:EXC C=d at h;cases h with
 | exc h _ =>
  simp only[EXC,kD,gK,kI,PyData.int.injEq,true_and,and_true]at e;have e:=Int.ofNat.inj e;subst e;exact⟨_,rfl,h⟩
 | dct _ _=>cases e
 | dcK _ _ _ u=>cases e;exact(dict_noK u).elim
 | dcT _ _ _ u=>cases e;exact(dict_noT u).elim
 | hand _=>simp[HAND,EXC]at e
 | scr _ _=>simp[SCR,EXC]at e
 | scrS _=>simp[SCR,EXC]at e
 | _=>cases e
section
variable{X:Cx}
theorem zui{pins:qO}{σ:St}{H:Hp}{s:aq}{a C:ak}(I:Inv X pins σ H s)(h:H a=some (EXO a C)):ExAt a C s.heap:=by
 obtain⟨⟨o,l,hc,_⟩,_⟩:=I.hok a _ h;exact⟨o,l,hc⟩
theorem zjS:JX X (.builtin "isinstance") (fun xs H Q=>∃a C c w b v,xs=[.ref a,w]/\(w=.ty "ValueError" /\ c=bL "ValueError" \/ ∃D,w=.ref D/\c=cA D)/\H a=some (EXO a C)/\SubK v X.K/\clsB v C=true/\kitOne v (.ref C) c=some b/\Q (.bl b) H):=by
 intro pins s σ H xs U Q I r h;obtain⟨a,C,c,w,b,v,rfl,hw,J,sK,N,e,q⟩:=h;cases r with
 | cons R S =>
  cases S with
  | cons G L =>
   cases L;cases R;have key:∀u,u=c->wpAny (model X.prog X.w) X.A (call (.builtin "isinstance") [.ref a,u]) (EP X pins σ Q) X.xe s:=fun u x=>by
    subst x;exact kia_one (zjt N) (sK.in I.kIn) (zui I J) e (fun z=>by cases z) fun tk=>⟨.bl b,H,I.tok tk,rfl,q⟩
   rcases hw with⟨rfl,rfl⟩|⟨D,rfl,rfl⟩ <;> exact key _ G
theorem zmX:JX X (.builtin "isinstance") (fun xs H Q=>∃a C p N L y v x,xs=[.ref a,.ref p]/\H p=some (.tup [.ref N,.ref L])/\H a=some (EXO a C)/\SubK x X.K/\clsB x C=true/\kitOne x (.ref C) (.ref N)=some y/\kitOne x (.ref C) (.ref L)=some v/\Q (.bl (y||v)) H):=by
 intro pins s σ H xs us Q I r h;obtain⟨a,C,p,N,L,y,v,x,rfl,hp,S,sK,hB,e1,e2,q⟩:=h;cases r with
 | cons r1 r2 =>
  cases r2 with
  | cons U Z =>
   cases Z;cases r1;cases U;obtain⟨_,R,J,⟨oc,od,dt,sl⟩,Y,hc,⟨n,hd⟩,G⟩:=I.hok p _ hp;cases J with
   | cons v1 J =>
    cases J with
    | cons v2 J =>
     cases J;cases v1;cases v2;dsimp only at hc hd G;subst hc hd G;have e:kitAny x (.ref C) [.ref N,.ref L]=some (y||v):=by
      unfold kitAny;rw[e1];cases y with
      | true=>rfl
      | false =>
       dsimp only;unfold kitAny;rw[e2];cases v <;> rfl
     exact kia_tup (zjt hB) (sK.in I.kIn) (zui I S) Y e (fun z=>by cases z) fun tk=>⟨.bl (y||v),H,I.tok tk,rfl,q⟩
end
def lIsE(mg:qM)(cs:List Str)(f:Str->Bool)(t:af)(R:af->Prop):Prop:=∃c C,c∈cs/\mg c=some (.ref C)/\t=EXC C/\R (.bool (f c))
def dIsE(mg:qM)(cs:List Str)(f:Str->Bool)(d:DTE):DTE:=fun l n R=>d l n fun t u=>lIsE mg cs f t fun z=>R z u
theorem isE{mg:qM}{cs:List Str}{f:Str->Bool}{c:Str}{C:ak}{R:af->Prop}(hc:c∈cs)(u:mg c=some (.ref C))(h:R (.bool (f c))):lIsE mg cs f (EXC C) R:=⟨c,C,hc,u,rfl,h⟩
section
variable{X:Cx}{e:aV}{d:DTE}{y y1 y2 T:Str}{cs ys:List Str}{p p2 p3 p4 pos:Pos}{k:Nat}
theorem ziy{D:ak}(u:X.mg y=some (.ref D))(l:Gl X y)(hd:(y == ("__debug__":Str))=false):PE X (.Name y p) (tC (.ref D)):=fun pins s σ H Q I h=>U4 I l u ⟨.ref D,H,I,rfl,h⟩ hd
theorem zmF(M:QS X.K X.mg cs ys T)(I:y∈ys)(hm:X.mg "isinstance" = none) (h:DE X e d) (hs:starEach (e::[.Name y p2]) X.env=(false,eval e X.env)::starEach [.Name y p2] X.env) (hg:Gl X "isinstance":=by rfl) (G:Gl X y:=by rfl) (hd:(y == ("__debug__":Str))=false:=by rfl) :
  DE X (.Call (.Name "isinstance" p) [e,.Name y p2] [] pos) (dIsE X.mg cs (fun c=>decide (c=y)) d):=by
 obtain⟨ta,pa,h⟩:=h;obtain⟨K0,sK,hK⟩:=M.at;obtain⟨_,_,⟨_,Z⟩,_⟩:=M;obtain⟨D,L⟩:=Z y I;refine⟨_,Uw zjS hm VU (Qf pa (ziz (ziy L G hd) QF) hs) hg,fun C ρ σ H n Q R S hd hq=>?_⟩
 refine h C ρ σ H n _ _ S hd fun t n1 v U x e1 h1 Y=>?_
 obtain⟨c,J,hc,hC,rfl,x⟩:=x;obtain⟨a,rfl,ha⟩:=Y.excI;obtain⟨k1,k2,k3,k4⟩:=hK c hc J hC;obtain⟨E,u,k5⟩:=k4 y I;rw[L]at u;cases u;exact⟨a,J,.ref D,.ref D,_,K0,rfl,.inr ⟨D,rfl,rfl⟩,ha,sK,k1,k5,hq _ n1 _ U x e1 h1 (.bl _)⟩
theorem zoM:bootBuiltins "ValueError" = some (.type "ValueError"):=by decide +kernel
theorem zut(M:QS X.K X.mg cs ys T)(hm:X.mg "isinstance" = none) (U:X.mg "ValueError" = none) (h:DE X e d) (hs:starEach (e::[.Name "ValueError" p2]) X.env=(false,eval e X.env)::starEach [.Name "ValueError" p2] X.env) (L:Gl X "isinstance":=by rfl) (x:Gl X "ValueError":=by rfl) :
  DE X (.Call (.Name "isinstance" p) [e,.Name "ValueError" p2] [] pos) (dIsE X.mg cs (fun _=>true) d):=by
 obtain⟨ta,pa,h⟩:=h;obtain⟨K0,sK,hK⟩:=M.at;refine⟨_,Uw zjS hm VU (Qf pa (ziz (Bd.zsr U zoM x) QF) hs) L,fun C Z σ H n Q R S hd hq=>?_⟩
 refine h C Z σ H n _ _ S hd fun t n1 v I u e1 h1 J=>?_
 obtain⟨c,G,hc,hC,rfl,u⟩:=u;obtain⟨a,rfl,Y⟩:=J.excI;obtain⟨k1,k2,k3,k4⟩:=hK c hc G hC;exact⟨a,G,.type "ValueError",.ty "ValueError",_,K0,rfl,.inl ⟨rfl,rfl⟩,Y,sK,k1,k3,hq _ n1 _ I u e1 h1 (.bl _)⟩
theorem zq5(M:QS X.K X.mg cs ys T)(U:y1∈ys)(Y:y2∈ys)(hm:X.mg "isinstance" = none) (h:DE X e d) (hs:starEach (e::[.Tuple [.Name y1 p2,.Name y2 p3] k p4]) X.env=(false,eval e X.env)::starEach [.Tuple [.Name y1 p2,.Name y2 p3] k p4] X.env)
  (hs2:starEach [.Tuple [.Name y1 p2,.Name y2 p3] k p4] X.env=[(false,eval (.Tuple [.Name y1 p2,.Name y2 p3] k p4) X.env)]:=by rfl) (hs3:starEach [.Name y1 p2,.Name y2 p3] X.env=(false,eval (.Name y1 p2) X.env)::starEach [.Name y2 p3] X.env:=by rfl) (hs4:starEach [.Name y2 p3] X.env=(false,eval (.Name y2 p3) X.env)::starEach [] X.env:=by rfl)
  (hg:Gl X "isinstance":=by rfl) (Z:Gl X y1:=by rfl) (hg2:Gl X y2:=by rfl) (hd1:(y1 == ("__debug__":Str))=false:=by rfl) (hd2:(y2 == ("__debug__":Str))=false:=by rfl) :
  DE X (.Call (.Name "isinstance" p) [e,.Tuple [.Name y1 p2,.Name y2 p3] k p4] [] pos) (dIsE X.mg cs (fun c=>decide (c=y1)||decide (c=y2)) d):=by
 obtain⟨ta,pa,h⟩:=h;obtain⟨K0,sK,hK⟩:=M.at;obtain⟨_,_,⟨_,hE⟩,_⟩:=M;obtain⟨D1,G⟩:=hE y1 U;obtain⟨D2,J⟩:=hE y2 Y;refine⟨_,Uw zmX hm VU (Qf pa (Qf (zo5 (Um (ziy G Z hd1) (Um (ziy J hg2 hd2) UX hs4) hs3)) QF hs2) hs) hg,fun C ρ σ H n Q R S hd hq=>?_⟩
 refine h C ρ σ H n _ _ S hd fun t n1 v H1 r1 e1 h1 q1=>?_
 obtain⟨c,Cc,hc,hC,rfl,r1⟩:=r1;obtain⟨a,rfl,ha⟩:=q1.excI;obtain⟨k1,k2,k3,k4⟩:=hK c hc Cc hC;obtain⟨E1,I,k5⟩:=k4 y1 U;obtain⟨E2,L,k6⟩:=k4 y2 Y;rw[G]at I;cases I;rw[J]at L;cases L;refine⟨by show 2<=sizeLine;rw[lT];decide,fun q x=>?_⟩
 refine⟨a,Cc,q,D1,D2,_,_,K0,rfl,JM,?_,sK,k1,k5,k6,hq _ n1 _ _ r1 (e1.trans (ExtE.new x)) (h1.same (JS x)) (.bl _)⟩;rw[Jn (Qx ha x)];exact ha
instance zxr {mg:qM}{f:Str->Bool}{ρ:En}{n:Nat}{R:qN}:Stp (dIsE mg cs f d ρ n R) (d ρ n fun t n1=>lIsE mg cs f t fun z=>R z n1):=⟨fun h=>h⟩
instance zxk {mg:qM}{i ie:Nat}{g:GX}{ds:DTA}{D:JU}{ρ:En}{n:Nat}:Stp (sTry mg cs i ie g ds D ρ n) (ρ[ie]?=some none/\ds ρ n fun ts n1=>g ts n1 (fun _ n2=>D.nx ρ n2) fun c n2=>c∈cs/\∀C,mg c=some (.ref C)->D.nx (ρ.set i (some (.val (EXC C)))) n2):=⟨fun h=>h⟩
end
section
variable{X:Cx}{a:aV}{da:DTE}
theorem zlP:MtR X "list.index" (fun x xs H Q=>∃(l:ak) (bs:List Bool) (k:Bool),x=.ref l/\xs=[.bl k]/\SqL X.K H l (bs.map V.bl)/\k∈bs/\bs.length<=1000000/\Q (.int (bs.idxOf k:Nat)) H):=by
 intro pins s σ H x xs v us Q I U rs h;obtain⟨l,bs,k,rfl,rfl,N,G,hz,q⟩:=h;cases U;cases rs with
 | cons r1 r2 =>
  cases r2;cases(show _=eM k from r1)
  obtain⟨C,S,p,sz⟩:=I.list N;have e:C=bs.map eM:=by
   clear p N G hz q sz;induction bs generalizing C with
   | nil=>cases S;rfl
   | cons b bs ih =>
    cases S with
    | cons a b=>cases(show _=eM _ from a);rw[ih _ b];rfl
  subst e;obtain⟨⟨cls,dd,data,sl⟩,R,hc,n,hd⟩:=p.isList;simp only at hc hd;subst hc hd;have Y:bs.idxOf k<bs.length:=kL.mpr G;refine call_meets kU ⟨_,R,rfl⟩ PySem.F.entry_list_index (PySem.F.args_list_index_2 _ _)
   (sG l (bs.map eM).toArray n dd sl (.bool k) (fun u=>match u with|.bool b=>b == k|_=>false) (bs.idxOf k) (by simpa using Y) (by omega) ?_ ?_) ⟨R,fun y Z=>?_,⟨.int _,H,I.tok _,⟨_,rfl⟩,q⟩⟩
  ·simp
  ·intro j L J;have hjb:j<bs.length:=by simpa using L
   have:bs[j]≠k:=fun z=>by
    have:=kL.mpr G;exact absurd (List.not_of_lt_findIdx (p:=(· == k)) (xs:=bs) (i:=j) J) (by simp[z])
   simpa using this
  ·obtain⟨b,_,rfl⟩:=aZ.mp (by simpa using Z:y∈bs.map eM)
   exact pU b k
def zq_(k:Bool)(d:DTE):DTE:=fun u n R=>d u n fun t v=>∃bs:List Bool,t=.list (bs.map cI)/\k∈bs/\bs.length<=1000000/\R (.int (bs.idxOf k:Nat)) v
theorem zmG{k:Bool}{j}{p1 p2 y:Pos}(h:DL X a da)(J:attributeBase a "index" X.env (eval a X.env)=eval a X.env:=by rfl) (U:(p2.endLine == y.line)=true:=by rfl):DE X (.Call (.Attribute a "index" p2) [.Constant (.bool k) j p1] [] y) (zq_ k da):=by
 obtain⟨ta,pa,h⟩:=h;refine⟨_,zpW gS kU PySem.F.type_list_index zlP pa (Um zpY UX rfl) J rfl U rfl rfl,fun C Y σ H n Q R S hd hq=>?_⟩
 refine h C Y σ H n _ _ S hd fun t n1 v G r Z h1 I=>?_
 obtain⟨bs,rfl,L,hz,r⟩:=r;obtain⟨p,vs,rfl,x,N⟩:=I.lstI;rw[V8 N]at x;exact⟨.inl ⟨rfl,_,SqL.of x⟩,p,bs,k,rfl,rfl,.of x,L,hz,hq _ n1 _ G r Z h1 (.int _)⟩
end
end L2
namespace Bd
open PySem PySem.W PySem.Calls L2 PyProof.Rows
def kOne(h:aW)(v:Option ah):qF:=match v with
 | some (.ref C)=>(match h.get? C with
  | some o=>(C,o)::(match o.data with
   | .cls cd=>(match h.get? cd.ns with|some n=>[(cd.ns,n)]|none=>[])
   | _=>[])
  | none=>[])
 | _=>[]
def kOf(h:aW)(mg:qM)(xs:List Str):qF:=xs.flatMap fun x=>kOne h (mg x)
theorem zqw{h:aW}{v:Option ah}{p:ak×Obj}(m:p∈kOne h v):h.get? p.1=some p.2:=by
 unfold kOne at m;split at m
 ·split at m
  ·rename_i C o l;rcases ax.mp m with rfl|m
   ·exact l
   ·split at m
    ·split at m
     ·rename_i n u;cases aB.mp m;exact u
     ·cases m
    ·cases m
  ·cases m
 ·cases m
theorem zn7{K:qF}{a:ak}{o:Obj}(e:K.lookup a=some o):(a,o)∈K:=by
 induction K with
 | nil=>cases e
 | cons p K v =>
  obtain⟨b,u⟩:=p;rw[cO]at e;cases q:a == b with
  | true=>rw[q]at e;cases e;rw[eq_of_beq q];exact .head _
  | false=>rw[q]at e;exact .tail _ (v e)
theorem ztg{h:aW}{mg:qM}{xs:List Str}:(kOf h mg xs).In h:=fun a o e=>by
 obtain⟨x,_,m⟩:=List.mem_flatMap.mp (zn7 e);exact zqw m
def isRef:Option ah->Bool
 | some (.ref _)=>true
 | _=>false
def excAt(xs cs ys:List Str)(T:Str)(s:aq):Bool:=isRef (s.heap.nsMap mainGlobals T)&&ys.all (fun y=>isRef (s.heap.nsMap mainGlobals y))&&excT (kOf s.heap (s.heap.nsMap mainGlobals) xs) (s.heap.nsMap mainGlobals) cs ys T
def ExcsAre(cs ys:List Str)(T:Str)(mg:qM)(h:aW):Prop:=∃l:qF,l.In h/\((∃D,mg T=some (.ref D))/\∀y∈ys,∃E,mg y=some (.ref E))/\excT l mg cs ys T=true
theorem zjw{v:Option ah}(h:isRef v=true):∃D,v=some (.ref D):=by
 unfold isRef at h;split at h
 ·exact⟨_,rfl⟩
 ·cases h
theorem zug{xs cs ys:List Str}{T:Str}{s:aq}(x:excAt xs cs ys T s=true):ExcsAre cs ys T (s.heap.nsMap mainGlobals) s.heap:=by
 unfold excAt at x;simp only[aK]at x;exact⟨_,ztg,⟨zjw x.1.1,fun y l=>zjw (bG.mp x.1.2 y l)⟩,x.2⟩
theorem ExcsAre.keeps{cs ys:List Str}{T:Str}{mg:qM}{h h':aW}(x:ExcsAre cs ys T mg h)(k:∀b o,h.get? b=some o->h'.get? b=some o):ExcsAre cs ys T mg h':=by
 obtain⟨l,i,r⟩:=x;exact⟨l,fun a o e=>k a o (i a o e),r⟩
theorem ExcsAre.ok{cs ys:List Str}{T:Str}{mg:qM}{h:aW}(x:ExcsAre cs ys T mg h):QS (JI h) mg cs ys T:=by
 obtain⟨l,i,r⟩:=x;exact⟨l,fun a o e=>Yd (i a o e),r⟩
theorem zp3{q:aL}{loose:List Str}{l:nR->Option ah}{mg u:qM}{h:aW}{x:Str}(T:Top q loose l mg u h)(y:specOf q x=some ("ValueError.__new__",zuh)):OwnE (JI h) mg x:=by
 obtain⟨C,O,_⟩:=T.ownAt y;exact⟨C,O.bound,fun h' v=>(O.keeps fun b o e=>v b o (Yd e)).own⟩
end Bd
namespace Bd
open PySem L2
def Nb(p:NP):Prop:=p.1.1.natAbs<10 ^ 40/\p.1.2.natAbs<10 ^ 40/\IsNm p.2
theorem zsX{bits:Int}{p:NP}(v:1<=bits)(u:bits<=64)(B:IsBk bits p.1.1 p.1.2)(N:IsNm p.2):Nb p:=by
 have x:=B.lt (by lia) u
 have:=B.1;have:=B.2.1;have l:=B.bounds (by lia)
 exact⟨by lia,by lia,N⟩
theorem zrN{os:List NP}{a:Nat}(h:∀p∈os,Nb p)(l:os.length<=a):Sm (567*a) 3 (.tuple (oD os)):=by
 refine(zf2 (w:=566) (k:=2) (xs:=oD os) fun x hx=>?_).mono (by rw[U2];lia) (aC _)
 obtain⟨p,v,rfl⟩:=aZ.mp hx;obtain⟨a,b,N⟩:=h p v;exact zrL (zpx a b) ((zvz N).mono (by decide) (by decide))
theorem zvA{d:Deal}{a b:Nat}(y:1<=d.1)(x:d.1<=64)(u:∀p∈d.2.1,Nb p)(l:d.2.1.length<=a)(v:∀p∈d.2.2,Nb p)(l2:d.2.2.length<=b):Sm (567*a+567*b+143) 4 (dlD d):=by
 have A:=zrN u l;have B:=zrN v l2;have C:Sm 140 0 (.int d.1):=zk4 (by lia)
 have:=A.wt;have:=B.wt;have:=C.wt;have:=A.dp;have:=B.dp;have:=C.dp;exact⟨by have a:=A.ls;have b:=B.ls;have c:=C.ls;simp only[dlD,gM,fS,gH,aK]at a b c ⊢;exact⟨c,a,b⟩,by have a:=A.sh;have b:=B.sh;have c:=C.sh;simp only[dlD,iF,gN,gH,aK]at a b c ⊢;exact⟨c,a,b⟩,by have a:=A.cl;have b:=B.cl;have c:=C.cl;simp only[dlD,bT,bE,gH,aK]at a b c ⊢;first|exact⟨c,a,b⟩|exact⟨a,b⟩|simp_all,by simp only[dlD,cZ,bZ]at *;lia,by simp only[dlD,mJ,ig]at *;lia⟩
theorem zoV{d:Deal}{a b:Nat}(C:567*a+567*b+200<=380000)(v:1<=d.1)(y:d.1<=64)(x:∀p∈d.2.1,Nb p)(u:d.2.1.length<=a)(l:∀p∈d.2.2,Nb p)(l2:d.2.2.length<=b):Shd (dlD d):=(zvA v y x u l l2).shd (by lia) (by decide)
theorem Dl.o{d:Deal}(D:Dl d):∀p∈d.2.1,Nb p:=fun p l=>zsX D.1 D.2.1 (D.2.2.1.1.1 _ (aZ.mpr ⟨p,l,rfl⟩)) (D.2.2.1.2 p l)
theorem Dl.k{d:Deal}(D:Dl d):∀p∈d.2.2,Nb p:=fun p l=>zsX D.1 D.2.1 (D.2.2.2.1.1.1 _ (aZ.mpr ⟨p,l,rfl⟩)) (D.2.2.2.1.2 p l)
theorem zlH{p:NP}(h:IsNm p.2):Okd (.tuple [prD p.1,.str p.2]):=by
 have e:=(Vo h).1;exact⟨by simp[prD,bT,bE]at e ⊢;exact e,by simp[prD,cZ,bZ]⟩
theorem Zz{os:List NP}{p:NP}:((oD os).any fun t=>t.eqv (.tuple [.tuple [.int p.1.1,.int p.1.2],.str p.2]))=decide (p∈os):=by
 rw[fL,ou,decide_eq_true_eq];constructor
 ·rintro⟨t,x,e⟩;obtain⟨q,v,rfl⟩:=aZ.mp x;have:q=p:=by
   obtain⟨⟨a,b⟩,c⟩:=p;obtain⟨⟨I,J⟩,G⟩:=q;simpa[prD,cT,fQ,t8,and_assoc] using e
  exact this▸v
 ·intro C;exact⟨_,aZ.mpr ⟨p,C,rfl⟩,by simp[prD,cT,fQ]⟩
theorem zo8{os:List NP}(h:∀p∈os,IsNm p.2):∀t∈oD os,Okd t:=fun t u=>by
 obtain⟨q,l,rfl⟩:=aZ.mp u;exact zlH (h q l)
end Bd
namespace Bd
open PySem L2
def top(i:Nat):dH:=PySem.Challenge.pw_blockdeal_k30_no_deeds.main.body.getD i (.Pass ⟨0,0,0,0⟩)
set_option maxHeartbeats 4000000
local macro_rules | `(tactic| walk_at "S") => `(tactic| first | with_reducible refine zj3 ?_ | with_reducible refine Stp.go ?_ | with_reducible refine j_all (by with_unfolding_all rfl) ?_ | with_reducible refine j_any (by with_unfolding_all rfl) ?_ | with_reducible refine zpd (by with_unfolding_all rfl) ?_ | with_reducible refine zpe (by with_unfolding_all rfl) ?_ | with_reducible refine zjz (by with_unfolding_all rfl) ?_ | with_reducible refine zjy (by with_unfolding_all rfl) ?_)
set_option hygiene false in
local macro_rules | `(tactic| walk_at "K") => `(tactic| first | walk_at "S" | with_reducible refine ztM (fun hc => ?_) (fun hc => ?_) | with_reducible refine zwO (fun hc => ?_) (fun hc => ?_) | with_reducible refine And.intro ?_ ?_)
set_option hygiene false in
local macro_rules | `(tactic| wp_walk using $ts:term,*) => `(tactic| repeat' (first $[| with_reducible refine $ts:term]* | walk_at "K"))
local macro_rules | `(tactic| wp_walk) => `(tactic| repeat' walk_at "K")
structure Txt(mg:qM):Prop where
 isi:mg "isinstance" = none
 int:mg "int" = none
 boo:mg "bool" = none
 tup:mg "tuple" = none
 len:mg "len" = none
 min:mg "min" = none
 max:mg "max" = none
 str:mg "str" = none
 rep:mg "repr" = none
 all:mg "all" = none
 any:mg "any" = none
 ran:mg "range" = none
 sum:mg "sum" = none
 srt:mg "sorted" = none
 lst:mg "list" = none
 abs:mg "abs" = none
 zip:mg "zip" = none
 dct:mg "dict" = none
 rev:mg "reversed" = none
 enu:mg "enumerate" = none
 vae:mg "ValueError" = none
def EXS:List Str:=["NoDeed","NotTheirs","NoRoom"]
def EYS:List Str:=["NoDeed","NotTheirs","NoRoom","NoLine","NoText"]
section
open PySem.W PyProof.Rows
def pw:aL:=PySem.Challenge.pw_blockdeal_k30_no_deeds
def PL:PLs:=[(aa "PARTS",[(aa "take",[aa "height"]),(aa "near",[aa "height",aa "address"]),(aa "give",[aa "block"]),(aa "grow",[aa "block"]),(aa "keep",[aa "block"]),(aa "loose",[aa "block"]),(aa "move",[aa "block",aa "block"])])]
def FL:FLs:=[(aa "DEEDS",["take","near","give","grow","keep","loose","move"])]
def DL:FLs:=[(aa "PARTS",["take","near","give","grow","keep","loose","move"]),(aa "DEEDS",["take","near","give","grow","keep","loose","move"])]
def TL:List (Str×List Str):=[]
def zwl:dH->Bool
 | .FunctionDef ..=>true
 | .ClassDef ..=>true
 | .Assign [.Name x _] _ _=>!(x == aa "__name__")
 | _=>false
def qv:aL:={ pw with main:={ pw.main with body:=pw.main.body.filter zwl } }
theorem zpD:recsOf qv=(pw.main.body.filter Vp).map recD:=by kernel_rfl
theorem zpa{i:Nat}(h:Vp (top i)=true):recD (top i)∈recsOf qv:=by
 rw[zpD];exact mF (eD.mpr ⟨getD_mem h,h⟩)
theorem dqG{i:Nat}{x:Str}{ps:List Str}{l:nR->Option ah}{mg v:qM}{h:aW}(T:iu qv (looseW qv [aa "DEEDS",aa "PARTS"]) l mg v h) (y:BndA x (top i) ps) (C:Vp (top i)=true:=by kernel_rfl) (u:defName (top i)=x:=by kernel_rfl):Dq (JI h) mg x (top i) ps:=dq_g T (zpa C) u y
def zt_:List Str:=[aa "isinstance",aa "int",aa "bool",aa "tuple",aa "len",aa "min",aa "max",aa "str",aa "repr",aa "all",aa "any",aa "range",aa "sum",aa "sorted",aa "list",aa "abs",aa "zip",aa "dict",aa "reversed",aa "enumerate",aa "ValueError"]
def zua(x:Str):Bool:=!startupNames.contains x&&!(looseW qv [aa "DEEDS",aa "PARTS"]).contains x&&!((recsOf qv).map (·.name)).contains x&&!((litsOf qv).map (·.1)).contains x&&!((clssOf qv (looseW qv [aa "DEEDS",aa "PARTS"])).map (·.name)).contains x
theorem zqU:zt_.all zua=true:=by kernel_rfl
theorem zqV{l:nR->Option ah}{mg u:qM}{h:aW}(T:iu qv (looseW qv [aa "DEEDS",aa "PARTS"]) l mg u h) {x:Str} (m:x∈zt_):mg x=none:=by
 have e:=bG.mp zqU x m;unfold zua at e;simp only[aK,gf,List.contains_eq_mem,decide_eq_false_iff_not]at e;obtain⟨⟨⟨⟨a,b⟩,c⟩,d⟩,f⟩:=e;exact T.free x a b c d f
theorem zrC{l:nR->Option ah}{mg u:qM}{h:aW}(T:iu qv (looseW qv [aa "DEEDS",aa "PARTS"]) l mg u h):Txt mg:=by
 constructor <;> exact zqV T (List.contains_iff_mem.mp (by kernel_rfl))
theorem zpA:PySem.Challenge.rw_blockdeal_k30_no_deeds.wellSaid=true:=by kernel_rfl
theorem zs_(w:aT)(os:fg):(JY treeTable pw (w.withFollow "special-get-raises" false) 11 ((bH ((w.withFollow "special-get-raises" false)).params).nsMap mainGlobals "__annotations__") 20000 (zcj (w.withFollow "special-get-raises" false) os) (topStub pw)).map (fun s=>(UT pw (bH ((w.withFollow "special-get-raises" false)).params) s.abs,(fun s=>hshs DL s.heap) s.abs,s.abs.heap.bltView,plainSeenD qv [aa "DEEDS",aa "PARTS"] s.abs,clsSeenW qv [aa "DEEDS",aa "PARTS"] s.abs,pinSeenD qv (drecsOf qv) s.abs))=some (true,(hshW DL) (w.withFollow "special-get-raises" false),bltViewBooted,plainGoodD qv [aa "DEEDS",aa "PARTS"],clsGoodW qv [aa "DEEDS",aa "PARTS"],pinGoodD (drecsOf qv)):=by kernel_rfl
theorem zs9(w:aT)(os:fg):(JY treeTable pw (w.withFollow "special-get-raises" false) 11 ((bH ((w.withFollow "special-get-raises" false)).params).nsMap mainGlobals "__annotations__") 20000 (zcj (w.withFollow "special-get-raises" false) os) (topStub pw)).map (fun s=>seen ((recsOf qv).map (·.name)) (ownsOf qv) [] { s.abs with gens:=#[] })=some (expectedOf qv):=by kernel_rfl
theorem zs6(w:aT)(os:fg):(JY treeTable pw (w.withFollow "special-get-raises" false) 11 ((bH ((w.withFollow "special-get-raises" false)).params).nsMap mainGlobals "__annotations__") 20000 (zcj (w.withFollow "special-get-raises" false) os) (topStub pw)).map (fun s=>plainSeenE qv (looseW qv [aa "DEEDS",aa "PARTS"]) s.abs)=some (plainGoodE qv (looseW qv [aa "DEEDS",aa "PARTS"])):=by kernel_rfl
theorem zs5(w:aT)(os:fg):(JY treeTable pw (w.withFollow "special-get-raises" false) 11 ((bH ((w.withFollow "special-get-raises" false)).params).nsMap mainGlobals "__annotations__") 20000 (zcj (w.withFollow "special-get-raises" false) os) (topStub pw)).map (fun s=>wideSeen qv s.abs)=some (wideGood qv):=by kernel_rfl
theorem zs8(w:aT)(os:fg):(JY treeTable pw (w.withFollow "special-get-raises" false) 11 ((bH ((w.withFollow "special-get-raises" false)).params).nsMap mainGlobals "__annotations__") 20000 (zcj (w.withFollow "special-get-raises" false) os) (topStub pw)).map (fun s=>(s.abs.heap.keysOk (looseW qv [aa "DEEDS",aa "PARTS"]) ((recsOf qv).map (·.name)) ((litsOf qv).map (·.1)) ((clssOf qv (looseW qv [aa "DEEDS",aa "PARTS"])).map (·.name))&&s.abs.heap.accountedOkI (importedModules pw.main.body)&&s.abs.heap.isNs mainGlobals&&s.abs.heap.isNs builtinsNs&&tablesOk qv s.abs.heap&&(fun s=>xlAt qv [] s&&recOk (hW PySem.Challenge.rw_blockdeal_k30_no_deeds.row.toRowW) s&&US TL s&&UV PL FL s&&excAt ["DealError","NoDeed","NotTheirs","NoRoom","NoLine","NoText"] EXS EYS (aa "DealError") s) s.abs&&(if true then s.abs.gens.size == 0 else !leftWithCleanup s.abs.gens)))=some true:=by kernel_rfl
theorem zs7(w:aT)(os:fg):(JY treeTable pw (w.withFollow "special-get-raises" false) 11 ((bH ((w.withFollow "special-get-raises" false)).params).nsMap mainGlobals "__annotations__") 20000 (zcj (w.withFollow "special-get-raises" false) os) (topStub pw)).map (fun s=>tabsOk qv s.abs)=some true:=by kernel_rfl
theorem zwk(w:aT)(os:fg):(JY treeTable pw (w.withFollow "special-get-raises" false) 11 ((bH ((w.withFollow "special-get-raises" false)).params).nsMap mainGlobals "__annotations__") 20000 (zcj (w.withFollow "special-get-raises" false) os) (topStub pw)).map (fun s=>(UT pw (bH ((w.withFollow "special-get-raises" false)).params) s.abs,openSeen qv [aa "DEEDS",aa "PARTS"] (importedModules pw.main.body) (fun s=>xlAt qv [] s&&recOk (hW PySem.Challenge.rw_blockdeal_k30_no_deeds.row.toRowW) s&&US TL s&&UV PL FL s&&excAt ["DealError","NoDeed","NotTheirs","NoRoom","NoLine","NoText"] EXS EYS (aa "DealError") s) true s.abs,(fun s=>hshs DL s.heap) s.abs))=some (true,openGood qv [aa "DEEDS",aa "PARTS"],(hshW DL) (w.withFollow "special-get-raises" false)):=zsY (zs_ w os) (zs9 w os) (zs8 w os) (zs7 w os) (zs6 w os) (zs5 w os)
theorem zs4(w:aT)(os:fg):(JY treeTable pw (w.withFollow "special-get-raises" true) 11 ((bH ((w.withFollow "special-get-raises" true)).params).nsMap mainGlobals "__annotations__") 20000 (zcj (w.withFollow "special-get-raises" true) os) (topStub pw)).map (fun s=>(UT pw (bH ((w.withFollow "special-get-raises" true)).params) s.abs,(fun s=>hshs DL s.heap) s.abs,s.abs.heap.bltView,plainSeenD qv [aa "DEEDS",aa "PARTS"] s.abs,clsSeenW qv [aa "DEEDS",aa "PARTS"] s.abs,pinSeenD qv (drecsOf qv) s.abs))=some (true,(hshW DL) (w.withFollow "special-get-raises" true),bltViewBooted,plainGoodD qv [aa "DEEDS",aa "PARTS"],clsGoodW qv [aa "DEEDS",aa "PARTS"],pinGoodD (drecsOf qv)):=by kernel_rfl
theorem zs3(w:aT)(os:fg):(JY treeTable pw (w.withFollow "special-get-raises" true) 11 ((bH ((w.withFollow "special-get-raises" true)).params).nsMap mainGlobals "__annotations__") 20000 (zcj (w.withFollow "special-get-raises" true) os) (topStub pw)).map (fun s=>seen ((recsOf qv).map (·.name)) (ownsOf qv) [] { s.abs with gens:=#[] })=some (expectedOf qv):=by kernel_rfl
theorem zs0(w:aT)(os:fg):(JY treeTable pw (w.withFollow "special-get-raises" true) 11 ((bH ((w.withFollow "special-get-raises" true)).params).nsMap mainGlobals "__annotations__") 20000 (zcj (w.withFollow "special-get-raises" true) os) (topStub pw)).map (fun s=>plainSeenE qv (looseW qv [aa "DEEDS",aa "PARTS"]) s.abs)=some (plainGoodE qv (looseW qv [aa "DEEDS",aa "PARTS"])):=by kernel_rfl
theorem zsZ(w:aT)(os:fg):(JY treeTable pw (w.withFollow "special-get-raises" true) 11 ((bH ((w.withFollow "special-get-raises" true)).params).nsMap mainGlobals "__annotations__") 20000 (zcj (w.withFollow "special-get-raises" true) os) (topStub pw)).map (fun s=>wideSeen qv s.abs)=some (wideGood qv):=by kernel_rfl
theorem zs2(w:aT)(os:fg):(JY treeTable pw (w.withFollow "special-get-raises" true) 11 ((bH ((w.withFollow "special-get-raises" true)).params).nsMap mainGlobals "__annotations__") 20000 (zcj (w.withFollow "special-get-raises" true) os) (topStub pw)).map (fun s=>(s.abs.heap.keysOk (looseW qv [aa "DEEDS",aa "PARTS"]) ((recsOf qv).map (·.name)) ((litsOf qv).map (·.1)) ((clssOf qv (looseW qv [aa "DEEDS",aa "PARTS"])).map (·.name))&&s.abs.heap.accountedOkI (importedModules pw.main.body)&&s.abs.heap.isNs mainGlobals&&s.abs.heap.isNs builtinsNs&&tablesOk qv s.abs.heap&&(fun s=>xlAt qv [] s&&recOk (hW PySem.Challenge.rw_blockdeal_k30_no_deeds.row.toRowW) s&&US TL s&&UV PL FL s&&excAt ["DealError","NoDeed","NotTheirs","NoRoom","NoLine","NoText"] EXS EYS (aa "DealError") s) s.abs&&(if true then s.abs.gens.size == 0 else !leftWithCleanup s.abs.gens)))=some true:=by kernel_rfl
theorem zs1(w:aT)(os:fg):(JY treeTable pw (w.withFollow "special-get-raises" true) 11 ((bH ((w.withFollow "special-get-raises" true)).params).nsMap mainGlobals "__annotations__") 20000 (zcj (w.withFollow "special-get-raises" true) os) (topStub pw)).map (fun s=>tabsOk qv s.abs)=some true:=by kernel_rfl
theorem zwj(w:aT)(os:fg):(JY treeTable pw (w.withFollow "special-get-raises" true) 11 ((bH ((w.withFollow "special-get-raises" true)).params).nsMap mainGlobals "__annotations__") 20000 (zcj (w.withFollow "special-get-raises" true) os) (topStub pw)).map (fun s=>(UT pw (bH ((w.withFollow "special-get-raises" true)).params) s.abs,openSeen qv [aa "DEEDS",aa "PARTS"] (importedModules pw.main.body) (fun s=>xlAt qv [] s&&recOk (hW PySem.Challenge.rw_blockdeal_k30_no_deeds.row.toRowW) s&&US TL s&&UV PL FL s&&excAt ["DealError","NoDeed","NotTheirs","NoRoom","NoLine","NoText"] EXS EYS (aa "DealError") s) true s.abs,(fun s=>hshs DL s.heap) s.abs))=some (true,openGood qv [aa "DEEDS",aa "PARTS"],(hshW DL) (w.withFollow "special-get-raises" true)):=zsY (zs4 w os) (zs3 w os) (zs2 w os) (zs1 w os) (zs0 w os) (zsZ w os)
theorem zqq:LeftO pw qv [aa "DEEDS",aa "PARTS"] (fun s=>xlAt qv [] s&&recOk (hW PySem.Challenge.rw_blockdeal_k30_no_deeds.row.toRowW) s&&US TL s&&UV PL FL s&&excAt ["DealError","NoDeed","NotTheirs","NoRoom","NoLine","NoText"] EXS EYS (aa "DealError") s) (fun s=>hshs DL s.heap) (hshW DL) 20000:=zl3 (by kernel_rfl) (by decide) (fun _=>rfl) (fun w=>zld (w:=w) (P:=fun w=>∀os:fg,(JY treeTable pw w 11 ((bH (w).params).nsMap mainGlobals "__annotations__") 20000 (zcj w os) (topStub pw)).map (fun s=>(UT pw (bH (w).params) s.abs,openSeen qv [aa "DEEDS",aa "PARTS"] (importedModules pw.main.body) (fun s=>xlAt qv [] s&&recOk (hW PySem.Challenge.rw_blockdeal_k30_no_deeds.row.toRowW) s&&US TL s&&UV PL FL s&&excAt ["DealError","NoDeed","NotTheirs","NoRoom","NoLine","NoText"] EXS EYS (aa "DealError") s) true s.abs,(fun s=>hshs DL s.heap) s.abs))=some (true,openGood qv [aa "DEEDS",aa "PARTS"],(hshW DL) w)) "special-get-raises" zwk zwj)
end
section
variable{P:aL}{w:aT}{K:qF}{mg:qM}{base:aW}{Z:ZZ}
def zqB:af->Bool|.int _=>true|_=>false
def zdu:GD:=fun ts n R=>match ts with
 | [d]=>Pln d/\R (.bool (zqB d)) n
 | _=>False
theorem Ur{d:af}{b:Bool}{n:Nat}{R:qN}(e:zqB d=b)(h:Pln d)(h':R (.bool b) n):zdu [d] n R:=⟨h,e▸h'⟩
def V7(Z:ZZ):Prop:=FQ Z "is_whole" (top 1) ["thing"] 1 (spD Z.K 1 zdu)
theorem ziC(D:Dq Z.K Z.mg "is_whole" (top 1) ["thing"]) (T:Txt Z.mg):V7 Z:=by
 refine' okQ D (fnS (N:=["thing"]) (by decide +kernel)) rfl fun f l A outer s H E x=>⟨_,(Jc (Jh (Z6 (YX zt5 T.isi T.int boot_int (dlv 0) Ju) (UC (zq3 (YX zqP T.isi T.boo zkP (dlv 0) Ju)))))),?_⟩
 intro ts n R v h;unfold zdu at h;split at h
 ·rename_i d;obtain⟨p,h⟩:=h;cases d with
  | dict u =>
   cases u with
   | nil =>
    wp_walk
    exact h
   | cons a b=>exact absurd rfl p
  | _ =>
   wp_walk
   exact h
 ·exact h.elim
def Qj(bits:Int):af->Bool
 | .tuple [.int b,.int h]=>decide (0<=h/\h<=bits/\0<=b/\b<2 ^ bits.toNat/\b % 2 ^ h.toNat=0)
 | _=>false
theorem ziV{bits b h:Int}:Qj bits (.tuple [.int b,.int h])=decide (0<=h/\h<=bits/\0<=b/\b<2 ^ bits.toNat/\b % 2 ^ h.toNat=0):=rfl
theorem Wa{bits b h:Int}(C:0<=bits):Qj bits (.tuple [.int b,.int h])=true↔IsBk bits b h:=by
 unfold Qj;rw[decide_eq_true_iff];constructor
 ·rintro⟨h0,v,y,g1,g2⟩;have p:=QH h.toNat;have e:=Int.emod_add_mul_ediv b (2 ^ h.toNat);refine⟨h0,v,b / 2 ^ h.toNat,oY y (by lia),?_,?_⟩
  ·rw[dP];lia
  ·apply Int.ediv_lt_of_lt_mul p;rw[<- gT,show(bits - h).toNat+h.toNat=bits.toNat by lia]
   exact g1
 ·intro B;have x:=B.bounds C;obtain⟨h0,v,k,k0,rfl,k1⟩:=B;refine⟨h0,v,x.1,?_,nN _ _⟩;have:=QH h.toNat;lia
def Pl2(d:af):Prop:=Pln d/\∀ts,d=.tuple ts->∀t∈ts,Pln t
def zfR:GD:=fun ts n R=>∃(bits:Int) (d:af),ts=[.int bits,d]/\0<=bits/\bits<=64/\Pl2 d/\R (.bool (Qj bits d)) n
theorem zkN{bits:Int}{d:af}{n:Nat}{R:qN}(u:0<=bits)(v:bits<=64)(h:Pl2 d)(h':R (.bool (Qj bits d)) n):zfR [.int bits,d] n R:=⟨bits,d,rfl,u,v,h,h'⟩
theorem zme{bits:Int}{d:af}(h:∀b g,d≠.tuple [.int b,.int g]):Qj bits d=false:=by
 unfold Qj;split
 ·exact absurd rfl (h _ _)
 ·rfl
theorem zuf{b c:Bool}{n:Nat}{R:qN}(e:b=c)(h:R (.bool c) n):R (.bool b) n:=e▸h
def zfu(Z:ZZ):Prop:=FQ Z "is_block" (top 2) ["bits","thing"] 2 (spD Z.K 2 zfR)
theorem ziD(D:Dq Z.K Z.mg "is_block" (top 2) ["bits","thing"]) (I:V7 Z) (T:Txt Z.mg):zfu Z:=by
 refine' okQ D (fnS (N:=["bits","thing","begin","height"]) (by decide +kernel)) rfl fun f J A outer s H E v=>⟨_,(Jb (Jt (Qr (QM (Qw (Qc (dl (YX zjA T.isi T.tup Ub (dlv 1) Ju)))) (Ue (Jq (QW v) QV (dl (JQ Q6 Q3 T.len QR (Js (dlv 1) JA Ju))) dli (Jl _))))) (Jc (Jh Qq)) Jw) (Jb (QO (Jk 1) (J1 rfl (Jp (dgv 2 (ndB rfl)) (Jp (dgv 3 (ndB rfl)) Qb)))) (Jb (Jt (Qr (QM (Qw (Qc (dl (Jf I v (dbv 2 Ja))))) (Ue (Qw (Qc (dl (Jf I v (dbv 3 Ja)))))))) (Jc (Jh Qq)) Jw) (Jb (Jt (Qr (QM (Jq (QE v) QC (dlv 3) dli (Jl _)) (Ue (Jq Zq gp_B (dlv 3) (dlv 0) (Jl _))))) (Jc (Jh Qq)) Jw) (Jc (Jh (Z6 (VW Qu Qt (QE v) QC dli (dlv 2) (dl (JZ dli (dlv 0)))) (UC (UB (Q4 v) QU (dl (zmE (dlv 2) (dl (JZ dli (dlv 3))))) dli (Jl _)))))))))),?_⟩
 intro ts n R L h;obtain⟨bits,d,rfl,S,U,⟨p,p2⟩,h⟩:=h;have no:(∀b g,d≠.tuple [.int b,.int g])->R (.bool false) n:=fun z=>by rw[zme z]at h;exact h
 cases hf:isTup d with
 | false =>
  wp_walk using isiF p hf ?_
  exact no fun b g e=>by rw[e]at hf;cases hf
 | true =>
  obtain⟨ts,rfl⟩:=zoj hf;have p2:=p2 ts rfl
  by_cases l2:ts.length=2
  ·obtain⟨x,y,rfl⟩:=zwi l2;have C:=p2 x (by simp)
   have py:=p2 y (by simp)
   have G:∀t,(∃b,t=.int b)\/zqB t=false:=fun t=>by
    cases t with
    | int b=>exact .inl ⟨b,rfl⟩
    | _=>exact .inr rfl
   rcases G x with⟨b,rfl⟩|wx
   ·rcases G y with⟨g,rfl⟩|wy
    ·wp_walk using Ur (b:=true) rfl C ?_,Ur (b:=true) rfl py ?_
     all_goals first
      | exact cpow (by lia) (by lia)
      | (rw[QJ];exact QH _)
      | skip
     all_goals
      refine zuf ?_ h
      try simp only[QJ]at *
      rw[ziV];generalize (2:Int) ^ bits.toNat=X at *;generalize b % (2:Int) ^ g.toNat=Y at *
      first
       | (symm;rw[decide_eq_false_iff_not];lia)
       | (rw[decide_eq_decide];lia)
       | (exfalso;simp at hc;done)
    ·wp_walk using Ur (b:=true) rfl C ?_,Ur wy py ?_
     all_goals first|exact no fun _ _ e=>by cases e;cases wy|(exfalso;simp at hc;done)
   ·wp_walk using Ur wx C ?_
    all_goals first|exact no fun _ _ e=>by cases e;cases wx|(exfalso;simp at hc;done)
  ·wp_walk
   all_goals first|exact no fun _ _ e=>l2 (by cases e;rfl)|(exfalso;lia)
def zhP:GD:=fun ts n R=>∃i h:Int,ts=[.tuple [.int i,.int h]]/\0<=h/\h<=1000/\R (.int (2 ^ h.toNat)) n
theorem zmZ{i h:Int}{n:Nat}{R:qN}(v:0<=h)(g1:h<=1000)(h':R (.int (2 ^ h.toNat)) n):zhP [.tuple [.int i,.int h]] n R:=⟨_,_,rfl,v,g1,h'⟩
def zg5(Z:ZZ):Prop:=FQ Z "size_of" (top 3) ["block"] 1 (spD Z.K 1 zhP)
theorem zj_(D:Dq Z.K Z.mg "size_of" (top 3) ["block"]) (T:Txt Z.mg):zg5 Z:=by
 refine' okQ D (fnS (N:=["block"]) (by decide +kernel)) rfl fun f u A outer s H E x=>⟨_,(Jc (Jh (JZ dli (dl (Ji (dlv 0) dli))))),?_⟩
 intro ts n R v l;obtain⟨i,h,rfl,y,g1,l⟩:=l
 wp_walk
 ·exact cpow (by lia) (by lia)
 ·rw[QJ];exact l
def zjE:GD:=fun ts n R=>∃i h g:Int,ts=[.tuple [.int i,.int h],.int g]/\0<=g/\g<=1000/\0<=i/\i<2 ^ 64/\R (.tuple [.int (i / 2 ^ g.toNat*2 ^ g.toNat),.int g]) n
theorem zjT{i h g:Int}{n:Nat}{R:qN}(v:0<=g)(g1:g<=1000)(y:0<=i)(x:i<2 ^ 64)(h':R (.tuple [.int (i / 2 ^ g.toNat*2 ^ g.toNat),.int g]) n):zjE [.tuple [.int i,.int h],.int g] n R:=⟨_,_,_,rfl,v,g1,y,x,h'⟩
def zf7(Z:ZZ):Prop:=FQ Z "around" (top 5) ["block","height"] 1 (spD Z.K 2 zjE)
theorem zlM(D:Dq Z.K Z.mg "around" (top 5) ["block","height"]) (T:Txt Z.mg):zf7 Z:=by
 refine' okQ D (fnS (N:=["block","height"]) (by decide +kernel)) rfl fun f x A outer s H E C=>⟨_,(Jc (Jh (Je (dbc (JZ (dl (zur (dl (Ji (dlv 0) dli)) (dlv 1))) (dlv 1)) (dbv 1 Ja))))),?_⟩
 intro ts n R y l;obtain⟨i,h,g,rfl,v,g1,u,G,l⟩:=l;simp only[ZW,ZV,ZX,ZU,u_dC,Zx,ZP,ZR,ZQ,Z3,Zw,Vd,Vf,Z5,Z4,Ve,ZS,ZB,Y6,YC,YE,YF,Y5,YG,Zc,YH,Zb,Yx,oSub,oMul,oMod,Uv,oShl,oShr,oXor,oAnd,isNone,isInt,isBool,isTup,isStr,l_gI,Zt,YK,YL,YM,Yu,Yg,Yh,Ye,Yo,Yq,Yp,Yi,YY,Y8,Yl,Yj,Yk,YQ,YR,YS,YN,YO,YU,YV,Yt,Yn,Ym,Y9,YT,YZ,Y7,Ua,Q8,Uo,Uk,Ui,Uj,Uh,Ug,Qa,JB,capV,cj,fG,aN,cE,bY,fh,cQ,dG,bW,c9,eh,eQ,fJ,fi,fj,dE,Nat.reduceAdd,Nat.reduceSub,hY,true_and,and_true,aI,if_true,if_false,ite_true,ite_false,dh,ft,gx]
 refine⟨v,⟨v,by lia,?_⟩,l⟩
 have:i / 2 ^ g.toNat<=i:=Int.ediv_le_self _ u;have:0<=i / 2 ^ g.toNat:=oY u (c6 (QH _));lia
def zmr:GD:=fun ts n R=>∃i h j g:Int,ts=[.tuple [.int i,.int h],.tuple [.int j,.int g]]/\0<=h/\h<=1000/\0<=j/\j<2 ^ 64/\R (.bool (hldD i h j g)) n
theorem zrf{i h j g:Int}{n:Nat}{R:qN}(h0:0<=h)(y:h<=1000)(x:0<=j)(v:j<2 ^ 64)(h':R (.bool (hldD i h j g)) n):zmr [.tuple [.int i,.int h],.tuple [.int j,.int g]] n R:=⟨_,_,_,_,rfl,h0,y,x,v,h'⟩
def zli(Z:ZZ):Prop:=FQ Z "holds" (top 4) ["one","other"] 2 (spD Z.K 2 zmr)
theorem znX(D:Dq Z.K Z.mg "holds" (top 4) ["one","other"]) (v:zf7 Z) (T:Txt Z.mg):zli Z:=by
 refine' okQ D (fnS (N:=["one","other"]) (by decide +kernel)) rfl fun f y A outer s H E u=>⟨_,(Jc (Jh (Z6 (UB zsM gp_B (dl (Ji (dlv 0) dli)) (dl (Ji (dlv 1) dli)) (Jl _)) (UC (UB (Q4 u) QU (dl (Jf v u (dbv 1 (dbc (Ji (dlv 0) dli) Ja)))) (dlv 0) (Jl _)))))),?_⟩
 intro ts n R I l;obtain⟨i,h,j,g,rfl,C,g1,x,G,l⟩:=l;unfold hldD at l
 wp_walk using zjT C g1 x G ?_
 ·exact Ug
 ·exact Ug
 ·rw[decide_eq_true hc,cW]at l;rw[zou];simpa using l
 ·rw[decide_eq_false hc,bN]at l;exact l
def zdM:GD:=fun ts n R=>∃i h:Int,ts=[.tuple [.int i,.int h]]/\0<=h/\h<=1000/\R (.tuple [.int (cL i (2 ^ h.toNat)),.int h]) n
theorem zh_{i h:Int}{n:Nat}{R:qN}(v:0<=h)(g1:h<=1000)(h':R (.tuple [.int (cL i (2 ^ h.toNat)),.int h]) n):zdM [.tuple [.int i,.int h]] n R:=⟨_,_,rfl,v,g1,h'⟩
def zdC(Z:ZZ):Prop:=FQ Z "other_half" (top 6) ["block"] 1 (spD Z.K 1 zdM)
theorem zgb(D:Dq Z.K Z.mg "other_half" (top 6) ["block"]) (T:Txt Z.mg):zdC Z:=by
 refine' okQ D (fnS (N:=["block","begin","height"]) (by decide +kernel)) rfl fun f u A outer s H E y=>⟨_,(Jb (QO (Jk 0) (J1 rfl (Jp (dgv 1 (ndB rfl)) (Jp (dgv 2 (ndB rfl)) Qb)))) (Jc (Jh (Je (dbc (zpm (dlv 1) (dl (JZ dli (dlv 2)))) (dbv 2 Ja)))))),?_⟩
 intro ts n R x l;obtain⟨i,h,rfl,v,g1,l⟩:=l;simp only[ZW,ZV,ZX,ZU,u_dC,Zx,ZP,ZR,ZQ,Z3,Zw,Vd,Vf,Z5,Z4,Ve,ZS,ZB,Y6,YC,YE,YF,Y5,YG,Zc,YH,Zb,Yx,oSub,oMul,oMod,Uv,oShl,oShr,oXor,oAnd,isNone,isInt,isBool,isTup,isStr,l_gI,Zt,YK,YL,YM,Yu,Yg,Yh,Ye,Yo,Yq,Yp,Yi,YY,Y8,Yl,Yj,Yk,YQ,YR,YS,YN,YO,YU,YV,Yt,Yn,Ym,Y9,YT,YZ,Y7,Ua,Q8,Uo,Uk,Ui,Uj,Uh,Ug,Qa,JB,capV,cj,fG,aN,cE,bY,fh,cQ,dG,bW,c9,eh,eQ,fJ,fi,fj,dE,Nat.reduceAdd,Nat.reduceSub,hY,true_and,and_true,aI,if_true,if_false,ite_true,ite_false,dh,ft,gx]
 refine⟨cpow v (by lia),?_⟩
 rw[cV];exact l
def zhT:GD:=fun ts n R=>∃d,ts=[d]/\PlnD d/\R (.bool (nmD d)) n
theorem zia{d:af}{n:Nat}{R:qN}(p:PlnD d)(h:R (.bool (nmD d)) n):zhT [d] n R:=⟨d,rfl,p,h⟩
def zg8(Z:ZZ):Prop:=FQ Z "is_name" (top 8) ["thing"] 1 (spD Z.K 1 zhT)
theorem zkd(D:Dq Z.K Z.mg "is_name" (top 8) ["thing"]) (T:Txt Z.mg):zg8 Z:=by
 refine' okQ D (fnS (N:=["thing"]) (by decide +kernel)) rfl fun f G A outer s H E hr=>⟨_,(Jb (Jt (Qr (QM (Qw (Qc (dl (YX zpg T.isi T.str zig (dlv 0) Ju)))) (Ue (Qw (zox Qu Qt Qu Qt dli (dl (JQ Q6 Q3 T.len QR (Js (dlv 0) JA Ju))) dli))))) (Jc (Jh Qq)) Jw) (Jc (Jh (JQ (ze1 rfl) zmq T.all ze8 (Js (dl (Jo (dnc ["letter"] [] (dil (zuo (Jk 0))) (fun _ _ _ _=>(dgv 0 (ndB rfl))) (fun _ _ _ _=>(VW Qu Qt Qu Qt (dl Jj) (dlv 0) (dl Jj)))))) JA Y4))))),?_⟩
 intro ts n R Y h;obtain⟨d,rfl,p,h⟩:=h;cases d with
 | str z =>
  have hz:=p.str;have C:(aa "a").cps.toList=[97]:=by decide +kernel
  have S:(aa "z").cps.toList=[122]:=by decide +kernel
  have e:nmD (.str z)=(decide (1<=z.length)&&decide (z.length<=8)&&z.cps.toList.all fun c=>decide (97<=c)&&decide (c<=122)):=rfl
  rw[e]at h
  wp_walk
  ·lia
  ·refine Yb (cs:=z.cps.toList) (D:=fun c=>.str ⟨#[c]⟩) (fun c=>.bool (decide (97<=c)&&decide (c<=122))) (by rw[Qs];lia) ?_ ?_
   ·intro c J K2 X2 u
    wp_walk
    ·have z:c<97:=zlG.mp (show([c]:List Nat)<[97] from C▸hc)
     rw[decide_eq_false (show ¬97<=c by lia),bN]at u
     exact u
    ·have z:¬c<97:=fun y=>hc (C.symm▸zlG.mpr y)
     rw[decide_eq_true (show 97<=c by lia),cW]at u
     have U:(!decide ((aa "z").cps.toList<(⟨#[c]⟩:Str).cps.toList))=decide (c<=122):=by
      rw[S];exact zqr
     rw[U];exact u
   ·wp_walk using zmi ?_
    have v:1<=z.length:=by lia
    have x:z.length<=8:=by lia
    rw[decide_eq_true v,decide_eq_true x]at h;exact h
  ·have x:¬z.length<=8:=by lia
   rw[decide_eq_false x,eT,bN]at h;exact h
  ·have v:¬1<=z.length:=by lia
   rw[decide_eq_false v,bN,bN]at h;exact h
 | dict I =>
  cases I with
  | nil =>
   wp_walk
   exact h
  | cons a b=>exact absurd rfl (PlnD.pln p)
 | _ =>
  wp_walk
  exact h
def zjD:GD:=fun ts n R=>∃i h:Int,ts=[.tuple [.int i,.int h]]/\0<=h/\h<=1000/\R (.int (i+2 ^ h.toNat)) n
theorem VV{i h:Int}{n:Nat}{R:qN}(v:0<=h)(g1:h<=1000)(h':R (.int (i+2 ^ h.toNat)) n):zjD [.tuple [.int i,.int h]] n R:=⟨_,_,rfl,v,g1,h'⟩
def VT(Z:ZZ):Prop:=FQ Z "end_of" (top 18) ["block"] 2 (spD Z.K 1 zjD)
theorem zlL(D:Dq Z.K Z.mg "end_of" (top 18) ["block"]) (x:zg5 Z) (T:Txt Z.mg):VT Z:=by
 refine' okQ D (fnS (N:=["block"]) (by decide +kernel)) rfl fun f v A outer s H E u=>⟨_,(Jc (Jh (JO (dl (Ji (dlv 0) dli)) (dl (Jf x u (dbv 0 Ja)))))),?_⟩
 intro ts n R y l;obtain⟨i,h,rfl,C,g1,l⟩:=l
 wp_walk using zmZ ?_ ?_ ?_
 ·lia
 ·lia
 ·exact l
theorem zkH{hi:Int}(h:0<hi):QL 0 hi hi.toNat.log2:=⟨by simp,by have:=zl2 h;lia,fun z=>by have:=zlY h;have:=z.2;lia⟩
theorem zml{lo hi:Int}{t:Nat}(h:lo<hi)(u:lo % 2 ^ t=0)(v:¬lo % 2 ^ (t+1)=0):QL lo hi (min (hi - lo).toNat.log2 t):=by
 have a:=zl2 (i:=hi - lo) (by lia)
 have b:=zlY (i:=hi - lo) (by lia)
 rcases tX (hi - lo).toNat.log2 t with z|z
 ·rw[lI z];exact⟨U7 z u,a,fun y=>by have:=y.2;lia⟩
 ·rw[Nat.min_eq_right z];exact⟨u,dD (Ul z) a,fun y=>v y.1⟩
theorem zn8(t:Nat):((2:Int) ^ t).toNat.log2=t:=by
 have e:((2:Int) ^ t).toNat=2 ^ t:=by
  have:((2 ^ t:Nat):Int)=(2:Int) ^ t:=by rw[fO];rfl
  rw[<- this];rfl
 rw[e,Nat.log2_two_pow]
def zbS:GD:=fun ts n R=>∃lo hi:Int,ts=[.int lo,.int hi]/\0<=lo/\lo<hi/\∀g:Nat,QL lo hi g->R (.int g) n
theorem zdz{lo hi:Int}{n:Nat}{R:qN}(l:0<=lo)(u:lo<hi)(h:∀g:Nat,QL lo hi g->R (.int g) n):zbS [.int lo,.int hi] n R:=⟨lo,hi,rfl,l,u,h⟩
def zbO(Z:ZZ):Prop:=FQ Z "greatest_height" (top 19) ["begin","high"] 1 (spD Z.K 2 zbS)
theorem zc4(D:Dq Z.K Z.mg "greatest_height" (top 19) ["begin","high"]) (T:Txt Z.mg):zbO Z:=by
 refine' okQ D (fnS (N:=["begin","high","room"]) (by decide +kernel)) rfl fun f y A outer s H E x=>⟨_,(Jb (dsv 2 (ndB rfl) (UD (dl (zh0 (dl (UD (dlv 1) (dlv 0))))) dli)) (Jb (Jt (Jq (Q4 x) QU (dlv 0) dli (Jl _)) (Jc (Jh (Jk 2))) Jw) (Jc (Jh (JQ (zeZ rfl) zmn T.min ze6 (Js (dlv 2) (Js (dl (UD (dl (zh0 (dl (zuw (dlv 0) (dl (UZ (Jk 0))))))) dli)) JA zk1) Ju)))))),?_⟩
 intro ts n R C h;obtain⟨lo,hi,rfl,G,u,h⟩:=h;have room:=zeF (i:=hi - lo) (by lia)
 wp_walk
 ·rw[room];subst hc;have:=h _ (zkH u);rw[Int.sub_zero];exact this
 ·obtain⟨t,t1,t2⟩:=zvn (b:=lo) (by lia)
  have an:=zro (b:=lo) (by lia) t1 t2
  have v:=zeF (i:=(2:Int) ^ t) (QH t);rw[zn8]at v;rw[an,room,v];have:=h _ (zml u t1 t2);have e:(if (t:Int)<((hi - lo).toNat.log2:Int) then(t:Int) else((hi - lo).toNat.log2:Int))=((min (hi - lo).toNat.log2 t:Nat):Int):=by
   split <;> lia
  rw[e];exact this
def ZL:GD:=fun ts n R=>∃lo hi:Int,ts=[.int lo,.int hi]/\0<=lo/\lo<=hi/\hi<=2 ^ 64/\∀bs,Jr lo hi bs->R (.tuple (pD bs)) n
theorem zuB{lo hi:Int}{n:Nat}{R:qN}(v:0<=lo)(x:lo<=hi)(l2:hi<=2 ^ 64)(h:∀bs,Jr lo hi bs->R (.tuple (pD bs)) n):ZL [.int lo,.int hi] n R:=⟨lo,hi,rfl,v,x,l2,h⟩
def zoZ(Z:ZZ):Prop:=FQ Z "span" (top 11) ["low","high"] 3 (spD Z.K 2 ZL)
theorem zp_(D:Dq Z.K Z.mg "span" (top 11) ["low","high"]) (Hz:VT Z) (Y:zbO Z) (T:Txt Z.mg):zoZ Z:=by
 refine' okQ D (fnS (N:=["low","high","blocks","begin","block"]) (by decide +kernel)) rfl fun f cdv A outer s H E C=>⟨_,(Jb (Qm (i:=2) (ndB rfl) rfl (cY rfl) (Jz Ja)) (Jb (dsv 3 (ndB rfl) (Jk 0)) (Jb (zjJ cG (Jq (QE C) QC (dlv 3) (dlv 1) (Jl _)) (Jb (dsv 4 (ndB rfl) (Je (dbv 3 (dbc (Jf Y C (dbv 3 (dbv 1 Ja))) Ja)))) (Jb (Qp 2 (Jk 4)) (Jc (dsv 3 (ndB rfl) (Jf Hz C (dbv 4 Ja))))))) (Ut 2 (Jc (Jh (Uy UM UK T.tup Ub (Js (dlv 2) JA Ju)))))))),?_⟩
 intro ts n R hl h;obtain⟨lo,hi,rfl,l0,U,l2,h⟩:=h;obtain⟨all,A⟩:=zk2 _ lo hi (aC _) U;have al:=A.len l0 l2
 wp_walk
 refine zpu (fun m L J=>J=n/\∃(bs rest:qB) (y:Int) (I:Option Cell),L=[some (.val (.int lo)),some (.val (.int hi)),some (.own (pD bs)),some (.val (.int y)),I]/\all=bs++rest/\Jr y hi rest/\lo<=y/\m=rest.length) (m:=all.length) ⟨rfl,[],all,lo,_,rfl,rfl,A,aY _,rfl⟩ ?_
 rintro m L J NX RT BK ⟨rfl,bs,rest,y,I,rfl,x,S,lb,rfl⟩ hN hR hB
 wp_walk
 ·cases rest with
  | nil=>have:y=hi:=S;lia
  | cons b r =>
   obtain⟨s1,s2,s3,s4,s5⟩:=S;refine zdz (by lia) hc fun g G=>?_
   have eg:b.2.toNat=g:=s4.uniq G;have eb:b=(y,(g:Int)):=i5 s2 (by show b.2=(g:Int);lia)
   have gl:g<=64:=by
    rcases cq 64 g with z|z
    ·have:=Ul (show 65<=g by lia)
     have:=G.2.1;have e:(2:Int) ^ 65=2*2 ^ 64:=by decide
     lia
    ·exact z
   wp_walk using VV (by lia) (by lia) ?_
   ·rw[JJ];have:=congrArg dQ x;rw[aM]at this;lia
   ·refine hN r.length _ _ (by simp) ⟨rfl,bs++[b],r,y+2 ^ (g:Int).toNat,some (.val (.tuple [.int y,.int (g:Int)])),by rw[eb,<- Yz],by rw[x];simp,?_,?_,rfl⟩
    ·rw[eg]at s5;simpa using s5
    ·have:=QH (g:Int).toNat;lia
 ·have e:y=hi:=by have:=S.le;lia
  cases rest with
  | cons b r=>have:=S.1;lia
  | nil =>
   refine hB _ _ ?_
   wp_walk
   rw[bW]at x;rw[<- x];exact h _ A
def zfQ:GD:=fun ts n R=>∃rs:List (Int×Int),ts=[.list (pD rs)]/\(∀r∈rs,0<=r.1/\r.1<=r.2/\r.2<=2 ^ 64)/\rs.length<=100000/\∀ps,PatS rs ps->R (.tuple (pD ps)) n
theorem zfW{rs:qB}{n:Nat}{R:qN}(w:∀r∈rs,0<=r.1/\r.1<=r.2/\r.2<=2 ^ 64)(l:rs.length<=100000)(h:∀ps,PatS rs ps->R (.tuple (pD ps)) n):zfQ [.list (pD rs)] n R:=⟨rs,rfl,w,l,h⟩
theorem zlz:∀{rs:qB},(∀r∈rs,r.1<=r.2)->∃ps,PatS rs ps
 | [],_=>⟨[],rfl⟩
 | r::rs,h=>by
  obtain⟨a,A⟩:=zk2 _ r.1 r.2 (aC _) (h r (by simp))
  obtain⟨b,B⟩:=zlz (rs:=rs) fun s l=>h s (by simp[l])
  exact⟨a++b,a,b,rfl,A,B⟩
theorem zjQ{g:DTG}{d:DTE}{v:En}{n:Nat}{C:List af->Nat->Prop}:∀(xs l:qD),(∀x∈xs,∀K:af->Nat->Prop,K x n->g x v fun u=>d u n K)->l.length+xs.length<=16777216->C (l++xs) n->JT g dYes d v xs l n C
 | [],l,_,_,h=>by simpa[JT] using h
 | x::xs,l,hg,hl,h=>by
  have e:(fun u=>dYes u n fun b G=>if b=true then d u G fun t I=>l.length<16777216/\JT g dYes d v xs (l++[t]) I C else JT g dYes d v xs l G C)=fun u=>d u n fun t I=>l.length<16777216/\JT g dYes d v xs (l++[t]) I C:=by
   funext u
   exact propext ⟨fun z=>by simpa[dYes] using z,fun z=>by simpa[dYes] using z⟩
  show g x v fun u=>dYes u n fun b G=>if b=true then d u G fun t I=>l.length<16777216/\JT g dYes d v xs (l++[t]) I C else JT g dYes d v xs l G C
  rw[e];refine hg x (by simp) _ ⟨by simp at hl;lia,zjQ xs (l++[x]) (fun y J=>hg y (by simp[J])) (by simp at hl ⊢;lia) (by simpa using h)⟩
def zdn(Z:ZZ):Prop:=FQ Z "patch_of" (top 20) ["runs"] 4 (spD Z.K 1 zfQ)
theorem ziB(D:Dq Z.K Z.mg "patch_of" (top 20) ["runs"]) (IQ:zoZ Z) (T:Txt Z.mg):zdn Z:=by
 refine' okQ D (fnS (N:=["runs"]) (by decide +kernel)) rfl fun f cdv A outer s H E J=>⟨_,(Jc (Jh (Uy UM UK T.tup Ub (Js (dl (Jo (zoC (own:=["low","high","block"]) (capt:=[]) rfl (JN.of rfl) (dil (zpk (Jk 0))) (fun _ _ _ _=>(J1 rfl (Jp (dgv 0 (ndB rfl)) (Jp (dgv 1 (ndB rfl)) Qb)))) (by decide) (fun _ _ _ _=>VJ) (fun _ _ _ _=>(Ud (Jf IQ J (dbv 0 (dbv 1 Ja))))) (fun _ _ _ _=>(dgv 2 (ndB rfl))) (by decide) (fun _ _ _ _=>VJ) (fun _ _ _ _=>(Jk 2))))) JA Y4)))),?_⟩
 intro ts n R hl h;obtain⟨rs,rfl,w,l,h⟩:=h
 wp_walk
 have key:∀(rs:qB) (v ps:qB),(∀r∈rs,0<=r.1/\r.1<=r.2/\r.2<=2 ^ 64)->v.length+130*rs.length<=16777216->PatS rs ps->∀K:List af->Nat->Prop,K (pD (v++ps)) n ->
   UH (UR (QY (Qk 0) (QY (Qk 1) UQ))) dYes (dItT (dFn ZL (Qi (dVar 0) (Qi (dVar 1) dNil)))) (Qk 2) dYes (dVar 2) [none,none,none] (pD rs) (pD v) n K:=by
  intro rs;induction rs with
  | nil =>
   intro v ps _ _ P K I;cases(show ps=[] from P)
   rw[bW]at I;exact I
  | cons r rs Y =>
   intro v ps w la P K I;obtain⟨a,b,rfl,S,U⟩:=P;have C:=w r (by simp)
   have ll:=S.len C.1 C.2.2;show UR (QY (Qk 0) (QY (Qk 1) UQ)) (.tuple [.int r.1,.int r.2]) [none,none,none] fun y=>dYes y n fun b n2=>if b=true then dItT (dFn ZL (Qi (dVar 0) (Qi (dVar 1) dNil))) y n2 fun ts n3=>JT (Qk 2) dYes (dVar 2) y ts (pD v) n3 fun G n4=>UH (UR (QY (Qk 0) (QY (Qk 1) UQ))) dYes (dItT (dFn ZL (Qi (dVar 0) (Qi (dVar 1) dNil)))) (Qk 2) dYes (dVar 2) [none,none,none] (pD rs) G n4 K else _
   rw[aN]at la
   wp_walk using zuB C.1 C.2.1 C.2.2 (fun bs B=>?_)
   rw[B.uniq S];refine zjQ _ _ (fun x hx K2 L=>?_) (by rw[JJ,JJ];lia) ?_
   ·wp_walk
    exact L
   ·rw[zo7];exact Y (v++a) b (fun s hs=>w s (by simp[hs])) (by rw[aM];lia) U K (by rw[bp];exact I)
 obtain⟨ps,P⟩:=zlz (rs:=rs) fun r J=>(w r J).2.1
 refine key rs [] ps w (by simp;lia) P _ ?_
 wp_walk
 exact h ps P
theorem zqx{bits:Int}{bs:qB}{t:af}{J:List af->Prop}(Y:t=.list (pD bs)\/t=.tuple (pD bs))(y:bits<=64)(B:Bks bits bs)(G:bs.length<100000)
  (h:∀cs:List (Int×Int),cs.Perm bs->cs.Pairwise (fun a b=>a.1<=b.1)->J (pD cs)):Zs t J:=by
 have key:(pD bs).length<100000/\(∀x∈pD bs,IsPr x)/\∀v:List af,v.Perm (pD bs)->v.Pairwise (fun a b=>rkD a<=rkD b)->J v:=by
  refine⟨by rw[JJ];exact G,fun x hx=>?_,fun v pm pw=>?_⟩
  ·obtain⟨b,L,rfl⟩:=aZ.mp hx;have:=B b L;exact⟨b.1,b.2,rfl,this.1,by have:=this.2.1;lia⟩
  ·have N:v.Perm ((bs.map fun b=>(b,prD b)).map (·.2)):=by
    have:(bs.map fun b=>(b,prD b)).map (·.2)=pD bs:=by simp[pD]
    rw[this];exact pm
   obtain⟨zs,U,p2⟩:=V3 N;have ez:∀z∈zs,z.2=prD z.1:=fun z I=>by
    obtain⟨b,_,rfl⟩:=aZ.mp (U.mem_iff.mp I)
    rfl
   have e:v=pD (zs.map (·.1)):=by
    rw[<- p2];unfold pD;rw[dO];exact iK fun z I=>ez z I
   have pc:(zs.map (·.1)).Perm bs:=by
    have:=U.map (·.1);rw[dO]at this;have e2:bs.map ((fun x:(Int×Int)×af=>x.1)∘fun b=>(b,prD b))=bs:=by
     show bs.map id=bs
     exact vp _
    rwa [e2]at this
   rw[e];have C:Bks bits (zs.map (·.1)):=fun b y=>B b (pc.mem_iff.mp y)
   rw[e]at pw;unfold pD at pw;rw[ee]at pw;refine h _ pc (gJ ?_ pw);intro a b S y R;have R:a.1*1000+a.2<=b.1*1000+b.2:=R;have a0:=(C a S).1;have a1:=(C a S).2.1;have b0:=(C b y).1;have b1:=(C b y).2.1;lia
 rcases Y with rfl|rfl <;> exact key
def zhQ:GD:=fun ts n R=>∃(bits:Int) (bs:qB) (t:af),ts=[t]/\(t=.list (pD bs)\/t=.tuple (pD bs))/\0<=bits/\bits<=64/\Bks bits bs/\bs.length<100000/\∀rs,NR rs->(∀x,mR x rs↔mB x bs)->rs.length<=bs.length->R (.list (pD rs)) n
theorem zh9{bits:Int}{bs:qB}{t:af}{n:Nat}{R:qN}(v:t=.list (pD bs)\/t=.tuple (pD bs))(C:0<=bits)(y:bits<=64)(B:Bks bits bs)(l:bs.length<100000)(h:∀rs,NR rs->(∀x,mR x rs↔mB x bs)->rs.length<=bs.length->R (.list (pD rs)) n):zhQ [t] n R:=⟨bits,bs,t,rfl,v,C,y,B,l,h⟩
def zei(Z:ZZ):Prop:=FQ Z "runs_of" (top 21) ["blocks"] 3 (spD Z.K 1 zhQ)
theorem zka(D:Dq Z.K Z.mg "runs_of" (top 21) ["blocks"]) (Hz:VT Z) (T:Txt Z.mg):zei Z:=by
 refine' okQ D (fnS (N:=["blocks","runs","block","low","high"]) (by decide +kernel)) rfl fun f cdv A outer s H E C=>⟨_,(Jb (Qm (i:=1) (ndB rfl) rfl (cY rfl) (Jz Ja)) (Jb (Q0 cG rfl (U3 (Jo (zhY C T.srt (dlv 0) Ju))) (dgv 2 (ndB rfl)) (Jc (Jt (Qr (ZJ (Qc (QB 1)) (Z9 (Jq Qu Qt (dl (Ji (dlv 2) dli)) (dl (Ji (dl (Ji (QB 1) (dl (UZ Jd)))) dli)) (Jl _))))) (Jb (QO (Ji (QB 1) (dl (UZ Jd))) (J1 rfl (Jp (dgv 3 (ndB rfl)) (Jp (dgv 4 (ndB rfl)) Qb)))) (Jc (zul 1 (UZ Jd) (Je (dbv 3 (dbc (JQ (ze0 rfl) zmo T.max ze7 (Js (dlv 4) (Js (dl (Jf Hz C (dbv 2 Ja))) JA Y3) Ju)) Ja)))))) (Jc (Qp 1 (Je (dbc (Ji (dlv 2) dli) (dbc (Jf Hz C (dbv 2 Ja)) Ja)))))))) (Ut 1 (Jc (Jh (Jk 1)))))),?_⟩
 intro ts n R hl h;obtain⟨bits,bs,t,rfl,ht,b0,b1,B,l,h⟩:=h
 wp_walk
 refine zqx ht b1 B l fun cs pm pw=>?_
 have Bc:Bks bits cs:=fun b G=>B b (pm.mem_iff.mp G)
 have lc:=pm.length_eq;refine zpi 1 2 3 4 (fun k a1 _ _ _ m=>m=n/\∃rs:List (Int×Int),a1=some (.own (pD rs))/\NR rs/\(∀x,mR x rs↔mB x (cs.take k))/\rs.length<=k/\∀r∈rs,∀b∈cs.drop k,r.1<=b.1) ⟨rfl,[],rfl,⟨(fun r C=>nomatch C),.nil⟩,(fun x=>⟨fun z=>absurd z UE,fun z=>absurd z Vq⟩),aC _,fun r C=>nomatch C⟩ ?_ ?_
 ·rintro k t' a1 a2 a3 a4 m K RT BK et ⟨rfl,rs,rfl,J,S,lr,lo⟩ hK hRT hBK;obtain⟨i,g,eb,rfl⟩:=ZG et;have kl:=(az.mp eb).1;have Bb:=Bc _ (aX eb);have g0:0<=g:=Bb.1;have g1:g<=bits:=Bb.2.1;have pg:=QH g.toNat;have tk:cs.take (k+1)=cs.take k++[(i,g)]:=by rw[dU,eb];rfl
  have Y:cs.drop k=(i,g)::cs.drop (k+1):=by
   rw[bR kl];congr 1;have:=aw kl;rw[eb]at this;exact(aO this).symm
  have after:∀b∈cs.drop (k+1),i<=b.1:=fun b G=>by
   have:cs.Pairwise fun a b=>a.1<=b.1:=pw
   have:=(this.sublist (kE k cs));rw[Y]at this;exact(fI.mp this).1 b G
  have m1:∀x,mB x (cs.take (k+1))↔mB x (cs.take k)\/(i<=x/\x<i+2 ^ g.toNat):=fun x=>by
   rw[tk,zlW,zlV];constructor
   ·rintro(z|z|z)
    ·exact .inl z
    ·exact .inr z
    ·exact absurd z Vq
   ·rintro(z|z)
    ·exact .inl z
    ·exact .inr (.inl z)
  have new:(∀r∈rs,r.2<i)->∀c2 c3 c4,K [some (.val t),some (.own (pD rs++[.tuple [.int i,.int (i+2 ^ g.toNat)]])),c2,c3,c4] m:=fun hlt c2 c3 c4 =>
   hK _ _ _ _ _ ⟨rfl,rs++[(i,i+2 ^ g.toNat)],by rw[<- Yz],⟨fun r C=>by
    rcases av.mp C with z|z
    ·exact J.1 r z
    ·cases aB.mp z;show i<i+2 ^ g.toNat;lia,by
    rw[cM];exact⟨J.2,eu _ _,fun a ha b G=>by cases aB.mp G;exact hlt a ha⟩⟩,(fun x=>by
    rw[YW,S,m1,U5];constructor
    ·rintro(z|z|z)
     ·exact .inl z
     ·exact .inr z
     ·exact absurd z UE
    ·rintro(z|z)
     ·exact .inl z
     ·exact .inr (.inl z)),by simp;lia,fun r C b G=>by
    rcases av.mp C with z|z
    ·exact lo r z b (by rw[Y];simp[G])
    ·cases aB.mp z;exact after b G⟩
  rcases List.eq_nil_or_concat rs with rfl|⟨I,r,rfl⟩
  ·wp_walk using VV g0 (by lia) ?_
   ·show 0<16777216;decide
   ·exact new (fun r C=>nomatch C) _ _ _
   ·exact absurd hc (by simp[pD])
  ·rw[List.concat_eq_append]at *;have sn:pD (I++[r])=pD I++[.tuple [.int r.1,.int r.2]]:=by simp[pD]
   have lr':I.length+1<=k:=by simpa using lr
   have r12:=J.1 r (by simp)
   have rlo:r.1<=i:=lo r (by simp) (i,g) (by rw[Y];simp)
   have L:=cM.mp J.2;rw[sn]at new ⊢
   wp_walk using zog ?_,VV g0 (by lia) ?_
   all_goals first
    | (exfalso;simp at hc;done)
    | (exfalso;rename_i y;simp at y;done)
    | (simp[JJ];lia)
    | skip
   ·refine zsc zju ?_
    wp_walk
    rw[List.set_append_right _ _ (aC _),hY];have mx:(if i+2 ^ g.toNat > r.2 then i+2 ^ g.toNat else r.2)=max r.2 (i+2 ^ g.toNat):=by split <;> lia
    refine hK _ _ _ _ _ ⟨rfl,I++[(r.1,max r.2 (i+2 ^ g.toNat))],?_,⟨fun s hs=>?_,?_⟩,fun x=>?_,by simp;lia,fun s hs b G=>?_⟩
    ·rw[mx];simp[pD]
    ·rcases av.mp hs with z|z
     ·exact J.1 s (by simp[z])
     ·cases aB.mp z;show r.1<max r.2 _;lia
    ·rw[cM];exact⟨L.1,eu _ _,fun a ha b G=>by cases aB.mp G;exact L.2.2 a ha r (by simp)⟩
    ·have U:=S x;rw[YW,U5]at U;rw[YW,U5,m1,<- U];have nn:=UE (x:=x);show _\/(r.1<=x/\x<max r.2 (i+2 ^ g.toNat))\/_↔_
     constructor
     ·rintro(z|z|z)
      ·exact .inl (.inl z)
      ·by_cases w:x<r.2
       ·exact .inl (.inr (.inl ⟨z.1,w⟩))
       ·exact .inr (by lia)
      ·exact absurd z nn
     ·rintro((z|z|z)|z)
      ·exact .inl z
      ·exact .inr (.inl (by lia))
      ·exact absurd z nn
      ·exact .inr (.inl (by lia))
    ·rcases av.mp hs with z|z
     ·exact lo s (by simp[z]) b (by rw[Y];simp[G])
     ·cases aB.mp z;exact lo r (by simp) b (by rw[Y];simp[G])
   ·refine new (fun s hs=>?_) _ _ _
    rcases av.mp hs with z|z
    ·have:=L.2.2 s z r (by simp);have:=J.1 r (by simp);lia
    ·cases aB.mp z;lia
 ·rintro a1 a2 a3 a4 m ⟨rfl,rs,rfl,J,S,lr,lo⟩;rw[JJ]at S lr;rw[fv]at S
  wp_walk
  exact h rs J (fun x=>by rw[S x,zqn pm]) (by lia)
def zjC:GD:=fun ts n R=>∃(bits:Int) (bs:qB) (t:af),ts=[t]/\(t=.list (pD bs)\/t=.tuple (pD bs))/\0<=bits/\bits<=64/\Bks bits bs/\bs.length<100000/\∀ps,CanP (fun x=>mB x bs) ps->ps.length<=bs.length->R (.tuple (pD ps)) n
theorem zoL{bits:Int}{bs:qB}{t:af}{n:Nat}{R:qN}(v:t=.list (pD bs)\/t=.tuple (pD bs))(C:0<=bits)(y:bits<=64)(B:Bks bits bs)(l:bs.length<100000)(h:∀ps,CanP (fun x=>mB x bs) ps->ps.length<=bs.length->R (.tuple (pD ps)) n):zjC [t] n R:=⟨bits,bs,t,rfl,v,C,y,B,l,h⟩
def zjj(Z:ZZ):Prop:=FQ Z "fewest" (top 10) ["blocks"] 5 (spD Z.K 1 zjC)
theorem zlK(D:Dq Z.K Z.mg "fewest" (top 10) ["blocks"]) (S:zdn Z) (U:zei Z) (T:Txt Z.mg):zjj Z:=by
 refine' okQ D (fnS (N:=["blocks"]) (by decide +kernel)) rfl fun f L A outer s H E y=>⟨_,(Jc (Jh (Jf S y (dbc (Jf U y (dbv 0 Ja)) Ja)))),?_⟩
 intro ts n R Y h;obtain⟨bits,bs,t,rfl,J,u,I,B,l,h⟩:=h
 wp_walk using zh9 J u I B l (fun rs v G lr=>?_)
 have w:=zqi u I v G fun x hx=>Vx u B hx
 wp_walk using zfW w ?_ (fun ps P=>?_)
 ·lia
 ·have C:CanP (fun x=>mB x bs) ps:=⟨rs,v,G,P⟩
  exact h ps C (C.le u B)
def zcd:GD:=fun ts n R=>∃(rs:qB) (top:Int),ts=[.list (pD rs),.int top]/\NR rs/\(∀r∈rs,0<=r.1)/\0<=top/\rs.length<=100000/\∀(gs:qB) (B:Int),NR gs->(∀x,mR x gs↔0<=x/\x<B/\¬mR x rs)->gs.length<=rs.length+1->top<=B->(B=top\/∃r∈rs,B=r.2)->R (.list (pD gs)) n
theorem zgF{rs:qB}{top:Int}{n:Nat}{R:qN}(u:NR rs)(w:∀r∈rs,0<=r.1)(t0:0<=top)(l:rs.length<=100000)(h:∀(gs:qB) (B:Int),NR gs->(∀x,mR x gs↔0<=x/\x<B/\¬mR x rs)->gs.length<=rs.length+1->top<=B->(B=top\/∃r∈rs,B=r.2)->R (.list (pD gs)) n):zcd [.list (pD rs),.int top] n R:=⟨rs,top,rfl,u,w,t0,l,h⟩
theorem zic{rs:qB}{top:Int}{n:Nat}{R:qN}(v:NR rs)(w:∀r∈rs,0<=r.1/\r.2<=top)(t0:0<=top)(l:rs.length<=100000)(h:∀gs,NR gs->(∀x,mR x gs↔0<=x/\x<top/\¬mR x rs)->gs.length<=rs.length+1->R (.list (pD gs)) n):zcd [.list (pD rs),.int top] n R:=zgF v (fun r u=>(w r u).1) t0 l fun gs B y C G J I=>by
 have:B=top:=by
  rcases I with e|⟨r,u,e⟩
  ·exact e
  ·have:=(w r u).2;lia
 subst this;exact h gs y C G
def zdE(Z:ZZ):Prop:=FQ Z "gaps_below" (top 22) ["runs","top"] 1 (spD Z.K 2 zcd)
theorem zgd(D:Dq Z.K Z.mg "gaps_below" (top 22) ["runs","top"]) (T:Txt Z.mg):zdE Z:=by
 refine' okQ D (fnS (N:=["runs","top","gaps","begin","low","high"]) (by decide +kernel)) rfl fun f cdv A outer s H E C=>⟨_,(Jb (Qm (i:=2) (ndB rfl) rfl (cY rfl) (Jz Ja)) (Jb (dsv 3 (ndB rfl) Jd) (Jb (Q0 cG rfl (zpk (Jk 0)) (J1 rfl (Jp (dgv 4 (ndB rfl)) (Jp (dgv 5 (ndB rfl)) Qb))) (Jb (Jt (Jq (QE C) QC (dlv 3) (dlv 4) (Jl _)) (Jc (Qp 2 (Je (dbv 3 (dbv 4 Ja))))) Jw) (Jc (dsv 3 (ndB rfl) (Jk 5))))) (Jb (Jt (Jq (QE C) QC (dlv 3) (dlv 1) (Jl _)) (Jc (Qp 2 (Je (dbv 3 (dbv 1 Ja))))) Jw) (Ut 2 (Jc (Jh (Jk 2)))))))),?_⟩
 intro ts n R hl h;obtain⟨rs,top,rfl,nr,w,t0,l,h⟩:=h
 wp_walk
 refine zpi 2 3 4 5 (fun k a2 a3 _ _ m=>m=n/\∃(gs:qB) (G:Int),a2=some (.own (pD gs))/\a3=some (.val (.int G))/\NR gs/\(∀x,mR x gs↔0<=x/\x<G/\¬mR x (rs.take k))/\gs.length<=k/\0<=G/\(G=0\/∃r∈rs,G=r.2)/\(∀r∈rs.take k,r.2<=G)/\(∀g∈gs,g.2<G)/\(∀r∈rs.drop k,(k=0/\G=0/\G<=r.1)\/G<r.1)) ⟨rfl,[],0,rfl,rfl,⟨(fun r C=>nomatch C),.nil⟩,(fun x=>⟨fun z=>absurd z UE,fun z=>by lia⟩),aC _,aY _,.inl rfl,(fun r C=>nomatch C),(fun r C=>nomatch C),fun r C=>.inl ⟨rfl,rfl,w r C⟩⟩ ?_ ?_
 ·rintro k t' a2 a3 a4 a5 m K RT BK et ⟨rfl,gs,G,rfl,rfl,J,S,lg,be0,U,ti,gl,dr⟩ hK hRT hBK;obtain⟨lo,hi,Y,rfl⟩:=ZG et;have kl:=(az.mp Y).1;have mr:=aX Y;have L:=nr.1 _ mr;have L:lo<hi:=L;have wr:=w _ mr;have wr1:0<=lo:=wr;have tk:rs.take (k+1)=rs.take k++[(lo,hi)]:=by rw[dU,Y];rfl
  have dk:rs.drop k=(lo,hi)::rs.drop (k+1):=by
   rw[bR kl];congr 1;have:=aw kl;rw[Y]at this;exact(aO this).symm
  have after:∀r∈rs.drop (k+1),hi<r.1:=fun r C=>by
   have:=(nr.2.sublist (kE k rs));rw[dk]at this;exact(fI.mp this).1 r C
  have here:=dr (lo,hi) (by rw[dk];simp)
  have here:G<=lo:=by rcases here with z|z;exact z.2.2;exact c6 z
  have mt:∀x,mR x (rs.take (k+1))↔mR x (rs.take k)\/(lo<=x/\x<hi):=fun x=>by
   rw[tk,YW,U5];constructor
   ·rintro(z|z|z)
    ·exact .inl z
    ·exact .inr z
    ·exact absurd z UE
   ·rintro(z|z)
    ·exact .inl z
    ·exact .inr (.inl z)
  have old:∀x,G<=x->¬mR x (rs.take k):=fun x hx ⟨r,C,h1,h2⟩=>by have:=ti r C;lia
  have go:∀(I:qB) (c4 c5:Option Cell),NR I->(∀x,mR x I↔mR x gs\/(G<=x/\x<lo))->I.length<=k+1->(∀g∈I,g.2<hi)->K [some (.val (.list (pD rs))),some (.val (.int top)),some (.own (pD I)),some (.val (.int hi)),c4,c5] m:=fun I c4 c5 n' m' l' g' =>
   hK _ _ _ _ _ ⟨rfl,I,hi,rfl,rfl,n',(fun x=>by
    rw[m',S,mt];have ox:=old x;constructor
    ·rintro(⟨a,b,c⟩|⟨a,b⟩)
     ·exact⟨a,by lia,fun z=>z.elim c fun z=>by lia⟩
     ·exact⟨by lia,by lia,fun z=>z.elim (ox a) fun z=>by lia⟩
    ·rintro⟨a,b,c⟩
     by_cases y:x<G
     ·exact .inl ⟨a,y,fun z=>c (.inl z)⟩
     ·refine .inr ⟨by lia,?_⟩
      by_cases u:x<lo
      ·exact u
      ·exact absurd (.inr ⟨by lia,b⟩) c),l',by lia,.inr ⟨_,mr,rfl⟩,(fun r C=>by
    rw[tk]at C;rcases av.mp C with z|z
    ·have:=ti r z;lia
    ·cases aB.mp z;exact aY _),g',fun r C=>.inr (after r C)⟩
  wp_walk
  ·rw[JJ];lia
  ·rw[Yz];refine go (gs++[(G,lo)]) _ _ ⟨fun r C=>?_,?_⟩ (fun x=>?_) (by simp;lia) fun g hg=>?_
   ·rcases av.mp C with z|z
    ·exact J.1 r z
    ·cases aB.mp z;exact hc
   ·rw[cM];exact⟨J.2,eu _ _,fun a ha b hb=>by cases aB.mp hb;exact gl a ha⟩
   ·rw[YW,U5];constructor
    ·rintro(z|z|z)
     ·exact .inl z
     ·exact .inr z
     ·exact absurd z UE
    ·rintro(z|z)
     ·exact .inl z
     ·exact .inr (.inl z)
   ·rcases av.mp hg with z|z
    ·have:=gl g z;lia
    ·cases aB.mp z;exact L
  ·refine go gs _ _ J (fun x=>⟨.inl,fun z=>z.elim id fun z=>by lia⟩) (by lia) fun g hg=>?_
   have:=gl g hg;lia
 ·rintro a2 a3 a4 a5 m ⟨rfl,gs,G,rfl,rfl,J,S,lg,be0,U,ti,gl,dr⟩;rw[JJ]at S lg ti;rw[fv]at S ti;have old:∀x,G<=x->¬mR x rs:=fun x hx ⟨r,C,h1,h2⟩=>by have:=ti r C;lia
  wp_walk
  ·rw[JJ];lia
  ·rw[Yz];refine h (gs++[(G,top)]) top ⟨fun r C=>?_,?_⟩ (fun x=>?_) (by simp;lia) (aY _) (.inl rfl)
   ·rcases av.mp C with z|z
    ·exact J.1 r z
    ·cases aB.mp z;exact hc
   ·rw[cM];exact⟨J.2,eu _ _,fun a ha b hb=>by cases aB.mp hb;exact gl a ha⟩
   ·rw[YW,U5,S];have ox:=old x;constructor
    ·rintro(⟨a,b,c⟩|z|z)
     ·exact⟨a,by lia,c⟩
     ·exact⟨by have:=z.1;lia,z.2,ox z.1⟩
     ·exact absurd z UE
    ·rintro⟨a,b,c⟩
     by_cases y:x<G
     ·exact .inl ⟨a,y,c⟩
     ·exact .inr (.inl ⟨by show G<=x;lia,b⟩)
  ·refine h gs G J S (by lia) (by lia) ?_
   rcases U with z|z
   ·exact .inl (by lia)
   ·exact .inr z
def zhR:GD:=fun ts n R=>∃(bits:Int) (ps:qB),ts=[.int bits,.tuple (pD ps)]/\1<=bits/\bits<=64/\Bks bits ps/\ps.length<100000/\∀v,CanP (fun x=>0<=x/\x<2 ^ bits.toNat/\¬mB x ps) v->v.length<=130*(ps.length+1)->R (.tuple (pD v)) n
theorem zm0{bits:Int}{ps:qB}{n:Nat}{R:qN}(C:1<=bits)(y:bits<=64)(B:Bks bits ps)(l:ps.length<100000)(h:∀v,CanP (fun x=>0<=x/\x<2 ^ bits.toNat/\¬mB x ps) v->v.length<=130*(ps.length+1)->R (.tuple (pD v)) n):zhR [.int bits,.tuple (pD ps)] n R:=⟨bits,ps,rfl,C,y,B,l,h⟩
def zg6(Z:ZZ):Prop:=FQ Z "rest_of" (top 12) ["bits","patch"] 5 (spD Z.K 2 zhR)
theorem zkb(D:Dq Z.K Z.mg "rest_of" (top 12) ["bits","patch"]) (U:zdn Z) (L:zdE Z) (Y:zei Z) (T:Txt Z.mg):zg6 Z:=by
 refine' okQ D (fnS (N:=["bits","patch"]) (by decide +kernel)) rfl fun f S A outer s H E u=>⟨_,(Jc (Jh (Jf U u (dbc (Jf L u (dbc (Jf Y u (dbv 1 Ja)) (dbc (JZ dli (dlv 0)) Ja))) Ja)))),?_⟩
 intro ts n R hl h;obtain⟨bits,ps,rfl,b0,I,B,l,h⟩:=h
 wp_walk using zh9 (.inr rfl) (by lia) I B l (fun rs y C lr=>?_)
 ·exact cpow (by lia) (by lia)
 have w:=zqi (by lia) I y C fun x hx=>Vx (by lia) B hx
 have wt:∀r∈rs,0<=r.1/\r.2<=1*2 ^ bits.toNat:=fun r u=>by
  have lt:=y.1 r u;have:=Vx (by lia) B ((C (r.2 - 1)).mp ⟨r,u,by lia,by lia⟩)
  have:=(w r u).1;rw[QJ];lia
 have tp:=QH bits.toNat
 wp_walk using zic y wt (by lia) (by lia) (fun gs J mg lg=>?_)
 have v:∀x,mR x gs↔0<=x/\x<2 ^ bits.toNat/\¬mB x ps:=fun x=>by rw[mg,QJ,C]
 have G:=zqi (by lia) I J v fun x hx=>⟨hx.1,hx.2.1⟩
 wp_walk using zfW G ?_ (fun qs P=>?_)
 ·lia
 ·have:=P.len fun r u=>⟨(G r u).1,(G r u).2.2⟩
  exact h qs ⟨gs,J,v,P⟩ (by lia)
def zfS:GD:=fun ts n R=>∃(bits:Int) (bs:qB) (a:Int),ts=[.tuple (pD bs),.int a]/\bits<=64/\Ptc bits bs/\bs.length<1000000/\∀k:Nat,k<=bs.length->(∀(j:Nat) (b:Int×Int),j<k->bs[j]?=some b->eB b<=a)->(∀(j:Nat) (b:Int×Int),k<=j->bs[j]?=some b->a<eB b)->R (.int (k:Int)) n
theorem zkO{bits a:Int}{bs:qB}{n:Nat}{R:qN}(x:bits<=64)(P:Ptc bits bs)(v:bs.length<1000000)(h:∀k:Nat,k<=bs.length->(∀(j:Nat) (b:Int×Int),j<k->bs[j]?=some b->eB b<=a)->(∀(j:Nat) (b:Int×Int),k<=j->bs[j]?=some b->a<eB b)->R (.int (k:Int)) n):zfS [.tuple (pD bs),.int a] n R:=⟨bits,bs,a,rfl,x,P,v,h⟩
def zfv(Z:ZZ):Prop:=FQ Z "ended_by" (top 17) ["patch","address"] 3 (spD Z.K 2 zfS)
theorem ziF(D:Dq Z.K Z.mg "ended_by" (top 17) ["patch","address"]) (Hz:VT Z) (T:Txt Z.mg):zfv Z:=by
 refine' okQ D (fnS (N:=["patch","address","low","high","middle"]) (by decide +kernel)) rfl fun f cdv A outer s H E S=>⟨_,(Jb (dsv 2 (ndB rfl) Jd) (Jb (dsv 3 (ndB rfl) (JQ Q6 Q3 T.len QR (Js (dlv 0) JA Ju))) (Jb (zjJ cG (Jq (QE S) QC (dlv 2) (dlv 3) (Jl _)) (Jb (dsv 4 (ndB rfl) (zmH (dl (JO (dlv 2) (dlv 3))) dli)) (Jc (Jt (Jq Qu Qt (dl (Jf Hz S (dbc (Ji (dlv 0) (dlv 4)) Ja))) (dlv 1) (Jl _)) (Jc (dsv 2 (ndB rfl) (JO (dlv 4) dli))) (Jc (dsv 3 (ndB rfl) (Jk 4))))))) (Jc (Jh (Jk 2)))))),?_⟩
 intro ts n R hl J;obtain⟨bits,bs,a,rfl,b1,P,hl6,J⟩:=J;have srt:=P.ends
 wp_walk
 rw[JJ];refine zgJ (m:=bs.length) (fun m ρ n'=>n'=n/\∃lo hi:Nat,∃c,ρ=[some (.val (.tuple (pD bs))),some (.val (.int a)),some (.val (.int (lo:Int))),some (.val (.int (hi:Int))),c]/\lo<=hi/\hi<=bs.length/\m=hi - lo/\(∀(j:Nat) (b:Int×Int),j<lo->bs[j]?=some b->eB b<=a)/\(∀(j:Nat) (b:Int×Int),hi<=j->bs[j]?=some b->a<eB b)) ?_ ?_
 ·refine⟨rfl,0,bs.length,none,rfl,dR _,aC _,rfl,fun j b C=>absurd C (Nat.not_lt_zero _),fun j b C e=>?_⟩
  rw[cn C]at e;cases e
 ·rintro m ρ n' ⟨rfl,lo,hi,c,rfl,h1,h2,rfl,Y,h4⟩
  wp_walk
  ·exact zuA
  ·have hm:(lo+hi) / 2<bs.length:=by lia
   obtain⟨b,I⟩:∃b,bs[(lo+hi) / 2]?=some b:=⟨_,aw hm⟩;have hb:=P.1 b (aX I);refine zqy (k:=(lo+hi) / 2) (by lia) (zp2 I) ?_
   have sx:∀(i j:Nat) (x y:Int×Int),bs[i]?=some x->bs[j]?=some y->i<=j->eB x<=eB y:=fun i j x y U L hij=>by
    by_cases z:i=j
    ·subst z;rw[U]at L;cases L;exact aY _
    ·obtain⟨l1,rfl⟩:=az.mp U;obtain⟨l2,rfl⟩:=az.mp L;exact aP.mp srt i j l1 l2 (by lia)
   wp_walk using VV ?_ ?_ ?_
   ·exact hb.1
   ·have:=hb.2.1;lia
   ·have hc:eB b<=a:=hc;refine⟨_,?_,rfl,(lo+hi) / 2+1,hi,some (.val (.int (((lo+hi) / 2:Nat):Int))),?_,by lia,h2,rfl,fun j x C e=>?_,h4⟩
    ·lia
    ·have G:((lo:Int)+hi) / 2=(((lo+hi) / 2:Nat):Int):=by lia
     first|(rw[G];done)|(rw[G];rfl)
    ·exact dD (sx _ _ _ _ e I (by lia)) hc
   ·have hc:¬eB b<=a:=hc;refine⟨_,?_,rfl,lo,(lo+hi) / 2,some (.val (.int (((lo+hi) / 2:Nat):Int))),?_,by lia,by lia,rfl,Y,fun j x C e=>?_⟩
    ·lia
    ·have G:((lo:Int)+hi) / 2=(((lo+hi) / 2:Nat):Int):=by lia
     first|(rw[G];done)|(rw[G];rfl)
    ·have:=sx _ _ _ _ I e (by lia);lia
  ·have e:lo=hi:=by lia
   subst e;exact J lo h2 Y h4
def zdO:GD:=fun ts n R=>∃(bits:Int) (bs:qB) (a:Int),ts=[.tuple (pD bs),.int a]/\bits<=64/\Ptc bits bs/\bs.length<1000000/\(∀b∈bs,b.1<=a->a<eB b->R (.tuple [.int b.1,.int b.2]) n)/\((∀b∈bs,¬(b.1<=a/\a<eB b))->R .none n)
theorem zid{bits a:Int}{bs:qB}{n:Nat}{R:qN}(x:bits<=64)(P:Ptc bits bs)(v:bs.length<1000000)(h:∀b∈bs,b.1<=a->a<eB b->R (.tuple [.int b.1,.int b.2]) n)(h':(∀b∈bs,¬(b.1<=a/\a<eB b))->R .none n):zdO [.tuple (pD bs),.int a] n R:=⟨bits,bs,a,rfl,x,P,v,h,h'⟩
def zdF(Z:ZZ):Prop:=FQ Z "block_with" (top 14) ["patch","address"] 4 (spD Z.K 2 zdO)
theorem zge(D:Dq Z.K Z.mg "block_with" (top 14) ["patch","address"]) (Ik:zfv Z) (T:Txt Z.mg):zdF Z:=by
 refine' okQ D (fnS (N:=["patch","address","at"]) (by decide +kernel)) rfl fun f Y A outer s H E J=>⟨_,(Jb (dsv 2 (ndB rfl) (Jf Ik J (dbv 0 (dbv 1 Ja)))) (Jb (Jt (Qr (ZJ (Jq (QE J) QC (dlv 2) (dl (JQ Q6 Q3 T.len QR (Js (dlv 0) JA Ju))) (Jl _)) (Z9 (Jq Qu Qt (dl (Ji (dl (Ji (dlv 0) (dlv 2))) dli)) (dlv 1) (Jl _))))) (Jc (Jh (Ji (dlv 0) (dlv 2)))) Jw) (Jc (Jh QA)))),?_⟩
 intro ts n R hl I;obtain⟨bits,bs,a,rfl,b1,P,G,I,L⟩:=I
 wp_walk using zkO b1 P G (fun k k0 k1 k2=>?_)
 ·rw[JJ]at hc;have hm:k<bs.length:=by lia
  obtain⟨b,u⟩:∃b,bs[k]?=some b:=⟨_,aw hm⟩;refine zqy (k:=k) rfl (zp2 u) ?_
  wp_walk
  ·refine zqy (k:=k) rfl (zp2 u) ?_;exact I b (aX u) (by assumption) (k2 k b (aC _) u)
  ·have hx:¬b.1<=a:=hc;refine L fun x l ⟨x0,U⟩=>?_
   obtain⟨j,C,rfl⟩:=bg l;have v:=aw C
   by_cases z:j<k
   ·have:=k1 j _ z v;lia
   ·by_cases y:j=k
    ·subst y;rw[v]at u;cases u;exact hx x0
    ·obtain⟨S,rfl⟩:=az.mp u;have:=aP.mp P.2 k j S C (by lia)
     have:=Q1 bs[k];exact hx (by lia)
 ·rw[JJ]at hc;refine L fun x l ⟨x0,U⟩=>?_
  obtain⟨j,C,rfl⟩:=bg l;have:=k1 j _ (by lia) (aw C)
  lia
theorem zsQ{bits:Int}{bs:qB}(P:Ptc bits bs){p q:Int×Int}{x:Int}(v:p∈bs)(u:q∈bs)(C:p.1<=x)(p2:x<eB p)(G:q.1<=x)(y:x<eB q):p=q:=by
 obtain⟨i,hi,rfl⟩:=bg v;obtain⟨j,l,rfl⟩:=bg u;rcases dZ i j with z|z|z
 ·have:=aP.mp P.2 i j hi l z;lia
 ·subst z;rfl
 ·have:=aP.mp P.2 j i l hi z;lia
def zc7:GD:=fun ts n R=>∃(bits:Int) (bs:qB) (b:Int×Int),ts=[.tuple (pD bs),.tuple [.int b.1,.int b.2]]/\0<=bits/\bits<=64/\Ptc bits bs/\bs.length<1000000/\IsBk bits b.1 b.2/\(∀p∈bs,p.1<=b.1->eB b<=eB p->R (.tuple [.int p.1,.int p.2]) n)/\((∀p∈bs,¬(p.1<=b.1/\eB b<=eB p))->R .none n)
theorem zgG{bits:Int}{bs:qB}{b:Int×Int}{n:Nat}{R:qN}(y:0<=bits)(x:bits<=64)(P:Ptc bits bs)(v:bs.length<1000000)(B:IsBk bits b.1 b.2)(h:∀p∈bs,p.1<=b.1->eB b<=eB p->R (.tuple [.int p.1,.int p.2]) n)(h':(∀p∈bs,¬(p.1<=b.1/\eB b<=eB p))->R .none n):zc7 [.tuple (pD bs),.tuple [.int b.1,.int b.2]] n R:=⟨bits,bs,b,rfl,y,x,P,v,B,h,h'⟩
def zcY(Z:ZZ):Prop:=FQ Z "block_about" (top 15) ["patch","block"] 5 (spD Z.K 2 zc7)
theorem zfa(D:Dq Z.K Z.mg "block_about" (top 15) ["patch","block"]) (C:zdF Z) (IJ:zli Z) (T:Txt Z.mg):zcY Z:=by
 refine' okQ D (fnS (N:=["patch","block","found"]) (by decide +kernel)) rfl fun f S A outer s H E y=>⟨_,(Jb (dsv 2 (ndB rfl) (Jf C y (dbv 0 (dbc (Ji (dlv 1) dli) Ja)))) (Jb (Jt (Qr (ZJ (Jq zlD zmp (dlv 2) (dl QA) (Jl _)) (Z9 (Qc (dl (Jf IJ y (dbv 2 (dbv 1 Ja)))))))) (Jc (Jh (Jk 2))) Jw) (Jc (Jh QA)))),?_⟩
 intro ts n R hl L;obtain⟨bits,bs,b,rfl,J,b1,P,u,B,h,h'⟩:=L;have bd:=B.bounds J;have pe:=Q1 b;have G:(2:Int) ^ bits.toNat<=2 ^ 64:=Bd.zdY (by lia)
 have pb:=Bd.QH b.2.toNat;have U:b.1<2 ^ 64:=by lia
 have x:∀p∈bs,p.2<=1000:=fun p l=>by have:=(P.1 p l).2.1;lia
 have v:∀p∈bs,0<=p.2:=fun p l=>(P.1 p l).1
 wp_walk using zid b1 P u (fun p l Y I=>?_) (fun no=>?_),zrf (v _ l) (x _ l) bd.1 U ?_
 ·exact absurd hc (by simp[isNone])
 ·rw[zpf (P.1 p l) B]at hc;have hd:=of_decide_eq_true hc;exact h p l hd.1 hd.2
 ·rw[zpf (P.1 p l) B]at hc;have hd:=of_decide_eq_false hc;refine h' fun q hq z=>?_
  have qe:q=p:=zsQ P hq l z.1 (by lia) Y I
  subst qe;exact hd z
 ·exact h' fun p l z=>no p l ⟨z.1,by lia⟩
 ·exact absurd hc (by simp[isNone])
def Zf:GD:=fun ts n R=>∃(bits:Int) (bs:qB) (b:Int×Int),ts=[.tuple (pD bs),.tuple [.int b.1,.int b.2]]/\0<=bits/\bits<=64/\Ptc bits bs/\bs.length<1000000/\IsBk bits b.1 b.2/\∀k:Bool,(k=true↔∃p∈bs,p.1<=b.1/\eB b<=eB p)->R (.bool k) n
theorem zm2{bits:Int}{bs:qB}{b:Int×Int}{n:Nat}{R:qN}(y:0<=bits)(x:bits<=64)(P:Ptc bits bs)(v:bs.length<1000000)(B:IsBk bits b.1 b.2)(h:∀k:Bool,(k=true↔∃p∈bs,p.1<=b.1/\eB b<=eB p)->R (.bool k) n):Zf [.tuple (pD bs),.tuple [.int b.1,.int b.2]] n R:=⟨bits,bs,b,rfl,y,x,P,v,B,h⟩
def zel(Z:ZZ):Prop:=FQ Z "has_all" (top 16) ["patch","block"] 6 (spD Z.K 2 Zf)
theorem zkf(D:Dq Z.K Z.mg "has_all" (top 16) ["patch","block"]) (J:zcY Z) (T:Txt Z.mg):zel Z:=by
 refine' okQ D (fnS (N:=["patch","block"]) (by decide +kernel)) rfl fun f G A outer s H E x=>⟨_,(Jc (Jh (UB zlD zmp (dl (Jf J x (dbv 0 (dbv 1 Ja)))) (dl QA) (Jl _)))),?_⟩
 intro ts n R S C;obtain⟨bits,bs,b,rfl,y,L,P,l,B,h⟩:=C
 wp_walk using zgG y L P l B (fun p u I v=>?_) (fun no=>?_)
 ·exact h _ ⟨fun _=>⟨p,u,I,v⟩,fun _=>rfl⟩
 ·exact h _ ⟨fun z=>(nomatch z),fun⟨p,u,z⟩=>absurd z (no p u)⟩
def zce:GD:=fun ts n R=>∃xs:List (af×af),ts=[.tuple (ppD xs)]/\xs.length<=1000000/\R (.tuple (xs.map (·.1))) n
theorem zie{xs:List (af×af)}{n:Nat}{R:qN}(l:xs.length<=1000000)(h:R (.tuple (xs.map (·.1))) n):zce [.tuple (ppD xs)] n R:=⟨xs,rfl,l,h⟩
def zdG(Z:ZZ):Prop:=FQ Z "all_blocks" (top 26) ["pairs"] 1 (spD Z.K 1 zce)
theorem zgf(D:Dq Z.K Z.mg "all_blocks" (top 26) ["pairs"]) (T:Txt Z.mg):zdG Z:=by
 refine' okQ D (fnS (N:=["pairs"]) (by decide +kernel)) rfl fun f x A outer s H E I=>⟨_,(Jc (Jh (Uy UM UK T.tup Ub (Js (dl (Jo (dnc ["block","name"] [] (dil (Ud (Jk 0))) (fun _ _ _ _=>(J1 rfl (Jp (dgv 0 (ndB rfl)) (Jp (dgv 1 (ndB rfl)) Qb)))) (fun _ _ _ _=>(Jk 0))))) JA Y4)))),?_⟩
 intro ts n R y h;obtain⟨xs,rfl,l,h⟩:=h
 wp_walk
 refine Yb (cs:=xs) (D:=fun p=>.tuple [p.1,p.2]) (fun p=>p.1) (by lia) ?_ ?_
 ·intro p J C G v
  wp_walk
  exact v
 ·wp_walk
  exact h
def zcN:GD:=fun ts n R=>∃(d:Deal) (nm:af),ts=[dlD d,nm]/\Yr nm/\(∀p∈d.2.2,IsNm p.2)/\d.2.2.length<=1000000/\R (.tuple (pD (QD d nm))) n
theorem zi4{d:Deal}{nm:af}{n:Nat}{R:qN}(hw:Yr nm)(v:∀p∈d.2.2,IsNm p.2)(l:d.2.2.length<=1000000)(h:R (.tuple (pD (QD d nm))) n):zcN [dlD d,nm] n R:=⟨d,nm,rfl,hw,v,l,h⟩
def zej(Z:ZZ):Prop:=FQ Z "kept_from" (top 28) ["deal","name"] 1 (spD Z.K 2 zcN)
theorem zhg(D:Dq Z.K Z.mg "kept_from" (top 28) ["deal","name"]) (T:Txt Z.mg):zej Z:=by
 refine' okQ D (fnS (N:=["deal","name"]) (by decide +kernel)) rfl fun f I A outer s H E G=>⟨_,(Jc (Jh (Uy UM UK T.tup Ub (Js (dl (Jo (dnf ["block","theirs"] [1] (dil (Ud (Ji (dlv 0) dli))) (fun _ _ _ _=>(J1 rfl (Jp (dgv 0 (ndB rfl)) (Jp (dgv 1 (ndB rfl)) Qb)))) (fun _ _ _ _=>(VD (Jq (QW G) QV (dlv 1) (dlv 2) (Jl _)))) (fun _ _ _ _=>(Jk 0))))) JA Y4)))),?_⟩
 intro ts n R L h;obtain⟨d,nm,rfl,hw,y,l,h⟩:=h;obtain⟨bits,os,v⟩:=d;have l:v.length<=1000000:=l;have y:∀p∈v,IsNm p.2:=y;rw[show dlD (bits,os,v)=.tuple [.int bits,.tuple (oD os),.tuple (oD v)] from rfl]
 wp_walk
 refine Wf (cs:=v) (D:=fun p=>.tuple [prD p.1,.str p.2]) (fun p=>!who p.2 nm) (fun p=>prD p.1) (by lia) ?_ ?_
 ·intro p J S U x C;rcases hw with rfl|⟨s,rfl,ns⟩
  ·wp_walk
   ·exact(Vo (y p J)).okd
   ·exact x rfl
  ·wp_walk
   ·exact C (by show(!decide (p.2=s))=false;rw[decide_eq_true hc];rfl)
   ·exact x (by show(!decide (p.2=s))=true;rw[decide_eq_false hc];rfl)
 ·wp_walk
  have:((v.filter fun p=>!who p.2 nm).map fun p=>prD p.1)=pD (QD (bits,os,v) nm):=by
   unfold pD QD;rw[dO];rfl
  rw[this];exact h
def Free(d:Deal)(nm:af)(x:Int):Prop:=0<=x/\x<2 ^ d.1.toNat/\¬mB x (d.2.1.map (·.1))/\¬mB x (QD d nm)
theorem zkD{d:Deal}{nm:af}:∀b∈QD d nm,b∈d.2.2.map (·.1):=fun b u=>by
 obtain⟨p,l,rfl⟩:=aZ.mp u;exact aZ.mpr ⟨p,(eD.mp l).1,rfl⟩
theorem zkE{d:Deal}{nm:af}:(QD d nm).length<=d.2.2.length:=by
 unfold QD;rw[ba];exact fV _ _
def V5:GD:=fun ts n R=>∃(d:Deal) (nm:af),ts=[dlD d,nm]/\Dl d/\Yr nm/\d.2.1.length+d.2.2.length<100000/\∀v,CanP (Free d nm) v->v.length<=130*(d.2.1.length+d.2.2.length+1)->R (.tuple (pD v)) n
theorem zfX{d:Deal}{nm:af}{n:Nat}{R:qN}(D:Dl d)(hw:Yr nm)(l:d.2.1.length+d.2.2.length<100000)(h:∀v,CanP (Free d nm) v->v.length<=130*(d.2.1.length+d.2.2.length+1)->R (.tuple (pD v)) n):V5 [dlD d,nm] n R:=⟨d,nm,rfl,D,hw,l,h⟩
def zdo(Z:ZZ):Prop:=FQ Z "free_for" (top 25) ["deal","name"] 6 (spD Z.K 2 V5)
theorem ziE(D:Dq Z.K Z.mg "free_for" (top 25) ["deal","name"]) (Ip:zg6 Z) (ID:zjj Z) (HV:zdG Z) (Ia:zej Z) (T:Txt Z.mg):zdo Z:=by
 refine' okQ D (fnS (N:=["deal","name","bits","outs","kept"]) (by decide +kernel)) rfl fun f cdv A outer s H E y=>⟨_,(Jb (QO (Jk 0) (J1 rfl (Jp (dgv 2 (ndB rfl)) (Jp (dgv 3 (ndB rfl)) (Jp (dgv 4 (ndB rfl)) Qb))))) (Jc (Jh (Jf Ip y (dbv 2 (dbc (Jf ID y (dbc (JO (dl (Jf HV y (dbv 3 Ja))) (dl (Jf Ia y (dbv 0 (dbv 1 Ja))))) Ja)) Ja)))))),?_⟩
 intro ts n R hl h;obtain⟨d,nm,rfl,D,hw,l,h⟩:=h;obtain⟨bits,os,v⟩:=d;obtain⟨J,I,L,G,ag⟩:=D;have J:1<=bits:=J;have I:bits<=64:=I;have L:Shr bits os:=L;have G:Shr bits v:=G;have l:os.length+v.length<100000:=l;have U:=zkE (d:=(bits,os,v)) (nm:=nm);have U:(QD (bits,os,v) nm).length<=v.length:=U;have eo:(os.map fun p=>(prD p.1,gm p.2)).map (·.1)=pD (os.map (·.1)):=by simp[pD]
 have B:Bks bits (os.map (·.1)++QD (bits,os,v) nm):=fun b hb=>by
  rcases av.mp hb with z|z
  ·exact L.1.1 b z
  ·exact G.1.1 b (zkD b z)
 rw[show dlD (bits,os,v)=.tuple [.int bits,.tuple (oD os),.tuple (oD v)] from rfl]
 have kf:∀{n:Nat} {R:qN},R (.tuple (pD (QD (bits,os,v) nm))) n->zcN [.tuple [.int bits,.tuple (oD os),.tuple (oD v)],nm] n R:=fun {n R} z=>zi4 (d:=(bits,os,v)) hw (fun p hp=>G.2 p hp) (by show v.length<=_;lia) z
 have ab:∀{n:Nat} {R:qN},R (.tuple (pD (os.map (·.1)))) n->zce [.tuple (oD os)] n R:=fun {n R} z=>by
  rw[zwg];exact zie (by simp;lia) (by rw[eo];exact z)
 wp_walk using kf ?_,ab ?_
 ·rw[JJ,JJ,ba];lia
 rw[zo7]
 wp_walk using zoL (.inr rfl) (by lia) I B ?_ (fun ps C S=>?_)
 ·simp;lia
 have S:ps.length<=os.length+v.length:=by rw[aM,ba]at S;lia
 have Bp:=(C.ptc (bits:=bits) (by lia) fun x hx=>Vx (by lia) B hx).1
 wp_walk using zm0 J I Bp (by lia) (fun Y Q lq=>?_)
 refine h Y ?_ (by show Y.length<=130*(os.length+v.length+1);lia)
 obtain⟨rs,r1,r2,r3⟩:=Q;refine⟨rs,r1,fun x=>?_,r3⟩
 rw[r2];show(0<=x/\x<2 ^ bits.toNat/\¬mB x ps)↔Free (bits,os,v) nm x
 rw[C.mem,zlW];show _↔0<=x/\x<2 ^ bits.toNat/\¬mB x (os.map (·.1))/\¬mB x (QD (bits,os,v) nm)
 constructor
 ·rintro⟨a,b,c⟩;exact⟨a,b,fun z=>c (.inl z),fun z=>c (.inr z)⟩
 ·rintro⟨a,b,c,e⟩;exact⟨a,b,fun z=>z.elim c e⟩
def htD(bits:Int):af->Bool|.int i=>decide (0<=i)&&decide (i<=bits)|_=>false
def zeI:GD:=fun ts n R=>∃(bits:Int) (d:af),ts=[.int bits,d]/\Pln d/\R (.bool (htD bits d)) n
theorem zi5{bits:Int}{d:af}{n:Nat}{R:qN}(p:Pln d)(h:R (.bool (htD bits d)) n):zeI [.int bits,d] n R:=⟨bits,d,rfl,p,h⟩
def zek(Z:ZZ):Prop:=FQ Z "is_height" (top 33) ["bits","thing"] 2 (spD Z.K 2 zeI)
theorem zhh(D:Dq Z.K Z.mg "is_height" (top 33) ["bits","thing"]) (u:V7 Z) (T:Txt Z.mg):zek Z:=by
 refine' okQ D (fnS (N:=["bits","thing"]) (by decide +kernel)) rfl fun f x A outer s H E v=>⟨_,(Jc (Jh (Z6 (Jf u v (dbv 1 Ja)) (UC (VW Qu Qt Qu Qt dli (dlv 1) (dlv 0)))))),?_⟩
 intro ts n R y h;obtain⟨bits,d,rfl,p,h⟩:=h;cases d with
 | int i =>
  have h:R (.bool (decide (0<=i)&&decide (i<=bits))) n:=h
  wp_walk using Ur (b:=true) rfl p ?_
  ·rw[decide_eq_true hc,cW]at h;exact h
  ·rw[decide_eq_false hc,bN]at h;exact h
 | _ =>
  wp_walk using Ur (b:=false) rfl p ?_
  exact h
def adD(bits:Int):af->Bool|.int i=>decide (0<=i)&&decide (i<2 ^ bits.toNat)|_=>false
def zdN:GD:=fun ts n R=>∃(bits:Int) (d:af),ts=[.int bits,d]/\0<=bits/\bits<=64/\Pln d/\R (.bool (adD bits d)) n
theorem zib{bits:Int}{d:af}{n:Nat}{R:qN}(u:0<=bits)(v:bits<=64)(p:Pln d)(h:R (.bool (adD bits d)) n):zdN [.int bits,d] n R:=⟨bits,d,rfl,u,v,p,h⟩
def zdD(Z:ZZ):Prop:=FQ Z "is_address" (top 34) ["bits","thing"] 2 (spD Z.K 2 zdN)
theorem zgc(D:Dq Z.K Z.mg "is_address" (top 34) ["bits","thing"]) (v:V7 Z) (T:Txt Z.mg):zdD Z:=by
 refine' okQ D (fnS (N:=["bits","thing"]) (by decide +kernel)) rfl fun f x A outer s H E u=>⟨_,(Jc (Jh (Z6 (Jf v u (dbv 1 Ja)) (UC (VW Qu Qt (QE u) QC dli (dlv 1) (dl (JZ dli (dlv 0)))))))),?_⟩
 intro ts n R y h;obtain⟨bits,d,rfl,C,G,p,h⟩:=h;cases d with
 | int i =>
  have h:R (.bool (decide (0<=i)&&decide (i<2 ^ bits.toNat))) n:=h
  wp_walk using Ur (b:=true) rfl p ?_
  all_goals first
   | exact cpow (by lia) (by lia)
   | skip
  ·rw[decide_eq_true hc,cW]at h;rw[QJ];exact h
  ·rw[decide_eq_false hc,bN]at h;exact h
 | _ =>
  wp_walk using Ur (b:=false) rfl p ?_
  exact h
def ptD(bits:Int)(k:Str)(d:af):Bool:=if k=aa "height" then htD bits d else if k=aa "address" then adD bits d else Qj bits d
def zhS:GD:=fun ts n R=>∃(bits:Int) (k:Str) (d:af),ts=[.int bits,.str k,d]/\0<=bits/\bits<=64/\PlnD d/\R (.bool (ptD bits k d)) n
theorem zm1{bits:Int}{k:Str}{d:af}{n:Nat}{R:qN}(u:0<=bits)(v:bits<=64)(p:PlnD d)(h:R (.bool (ptD bits k d)) n):zhS [.int bits,.str k,d] n R:=⟨bits,k,d,rfl,u,v,p,h⟩
theorem zsl{d:af}(h:PlnD d):Pl2 d:=⟨h.pln,fun ts e t u=>by subst e;exact(h.tup.2 t u).pln⟩
def zg7(Z:ZZ):Prop:=FQ Z "is_part" (top 32) ["bits","kind","thing"] 3 (spD Z.K 3 zhS)
theorem zkc(D:Dq Z.K Z.mg "is_part" (top 32) ["bits","kind","thing"]) (I:zfu Z) (G:zek Z) (y:zdD Z) (T:Txt Z.mg):zg7 Z:=by
 refine' okQ D (fnS (N:=["bits","kind","thing"]) (by decide +kernel)) rfl fun f C A outer s H E l=>⟨_,(Jb (Jt (Jq (Q4 l) QU (dlv 1) (dl Jj) (Jl _)) (Jc (Jh (Jf G l (dbv 0 (dbv 2 Ja))))) Jw) (Jb (Jt (Jq (Q4 l) QU (dlv 1) (dl Jj) (Jl _)) (Jc (Jh (Jf y l (dbv 0 (dbv 2 Ja))))) Jw) (Jc (Jh (Jf I l (dbv 0 (dbv 2 Ja))))))),?_⟩
 intro ts n R J h;obtain⟨bits,k,d,rfl,v,x,p,h⟩:=h;unfold ptD at h
 wp_walk using zi5 p.pln ?_,zib v x p.pln ?_,zkN v x (zsl p) ?_
 ·rw[if_pos hc]at h;exact h
 ·rename_i u;rw[if_neg u,if_pos hc]at h;exact h
 ·rename_i u;rw[if_neg u,if_neg hc]at h;exact h
def JP:List (Str×List Str):=[(aa "take",[aa "height"]),(aa "near",[aa "height",aa "address"]),(aa "give",[aa "block"]),(aa "grow",[aa "block"]),(aa "keep",[aa "block"]),(aa "loose",[aa "block"]),(aa "move",[aa "block",aa "block"])]
def hEq:List af->Bool
 | [.tuple [_,.int g],.tuple [_,.int h]]=>decide (g=h)
 | _=>false
def prtD(bits:Int)(w:Str)(ps:qD):Bool:=match getT JP w with
 | none=>false
 | some u=>decide (ps.length=u.length)&&((u.zip ps).all fun q=>ptD bits q.1 q.2)&&(decide (w≠aa "move")||hEq ps)
def dedD(bits:Int):af->Bool
 | .tuple (.str w::nm::ps)=>nmD nm&&prtD bits w ps
 | _=>false
def zhU:GD:=fun ts n R=>∃(bits:Int) (d:af),ts=[.int bits,d]/\0<=bits/\bits<=64/\PlnD d/\R (.bool (dedD bits d)) n
theorem ze2{bits:Int}{d:af}{n:Nat}{R:qN}(u:0<=bits)(v:bits<=64)(p:PlnD d)(h:R (.bool (dedD bits d)) n):zhU [.int bits,d] n R:=⟨bits,d,rfl,u,v,p,h⟩
theorem zij{bits:Int}{d:af}(h:Qj bits d=true):∃b g:Int,d=.tuple [.int b,.int g]:=by
 unfold Qj at h;split at h
 ·exact⟨_,_,rfl⟩
 ·cases h
theorem zno{l:List Str}{ps:qD}:zipD (l.map gm) ps=(l.zip ps).map fun q=>nT [.str q.1,q.2]:=by
 unfold zipD;rw[List.zip_map_left,dO]
 rfl
theorem Zh{bits:Int}{d:af}:ptD bits (aa "block") d=Qj bits d:=by
 unfold ptD;rw[if_neg (by decide +kernel),if_neg (by decide +kernel)]
theorem VH:getT JP (aa "move")=some [aa "block",aa "block"]:=by decide +kernel
def zg9(Z:ZZ):Prop:=FQ Z "is_deed" (top 31) ["bits","thing"] 4 (spD Z.K 2 zhU)
theorem zke(D:Dq Z.K Z.mg "is_deed" (top 31) ["bits","thing"]) (Y:zg8 Z) (S:zg7 Z) (L:StD Z.P Z.w Z.K Z.mg "PARTS" JP) (T:Txt Z.mg):zg9 Z:=by
 refine' okQ D (fnS (N:=["bits","thing","word","name","parts","kinds"]) (by decide +kernel)) rfl fun f cdv A outer s H E y=>⟨_,(Jb (Jt (Qr (QM (Qw (Qc (dl (YX zjA T.isi T.tup Ub (dlv 1) Ju)))) (Ue (Jq (QE y) QC (dl (JQ Q6 Q3 T.len QR (Js (dlv 1) JA Ju))) dli (Jl _))))) (Jc (Jh Qq)) Jw) (Jb (zqZ (i:=2) (j:=3) (k:=4) rfl (ndB rfl) rfl rfl rfl (cY rfl) (cY rfl) (cY rfl) (Jk 1)) (Jb (Jt (Qr (QM (Qw (Qc (dl (YX zpg T.isi T.str zig (dlv 2) Ju)))) (QM (zqY L (Jk 2)) (Ue (Qw (Qc (dl (Jf Y y (dbv 3 Ja))))))))) (Jc (Jh Qq)) Jw) (Jb (dsv 5 (ndB rfl) (zq6 L (Jk 2))) (Jb (Jt (Jq (QW y) QV (dl (JQ Q6 Q3 T.len QR (Js (dlv 4) JA Ju))) (dl (JQ Q6 Q3 T.len QR (Js (dlv 5) JA Ju))) (Jl _)) (Jc (Jh Qq)) Jw) (Jb (Jt (Qw (Qc (dl (JQ (ze1 rfl) zmq T.all ze8 (Js (dl (Jo (dnc ["kind","part"] [0] (dil (zun T.zip (Jk 5) (Jk 4))) (fun _ _ _ _=>(J1 rfl (Jp (dgv 0 (ndB rfl)) (Jp (dgv 1 (ndB rfl)) Qb)))) (fun _ _ _ _=>(Jf S y (dbv 2 (dbv 0 (dbv 1 Ja)))))))) JA Y4))))) (Jc (Jh Qq)) Jw) (Jc (Jh (zpn (UB (QW y) QV (dlv 2) (dl Jj) (Jl _)) (UC (UB (Q4 y) QU (dl (Ji (dl (Ji (dlv 4) dli)) dli)) (dl (Ji (dl (Ji (dlv 4) dli)) dli)) (Jl _)))))))))))),?_⟩
 intro ts n R hl h;obtain⟨bits,d,rfl,U,b1,p,h⟩:=h;cases d with
 | dict C =>
  cases C with
  | nil =>
   wp_walk
   exact h
  | cons a b=>exact absurd rfl p.pln
 | tuple ts =>
  obtain⟨l6,G⟩:=p.tup
  match ts,G,h with
  | [],_,h =>
   wp_walk
   all_goals first|exact h|(exfalso;simp at hc;done)
  | [x],_,h =>
   have e:dedD bits (.tuple [x])=false:=by unfold dedD;split <;> simp_all
   rw[e]at h
   wp_walk
   all_goals first|exact h|(exfalso;simp at hc;done)
  | x::nm::ps,G,h =>
   have pn:=G nm (by simp)
   cases x with
   | str w =>
    have e:dedD bits (.tuple (.str w::nm::ps))=(nmD nm&&prtD bits w ps):=rfl;rw[e]at h;unfold prtD at h;cases g:getT JP w with
    | none =>
     rw[g]at h;simp only[eT]at h
     wp_walk using zia pn ?_
     all_goals first|exact h|(exfalso;simp at hc;done)|(exfalso;rw[g]at *;simp at *;done)
    | some C =>
     rw[g]at h;dsimp only at h
     wp_walk using zia pn ?_
     ·exfalso;simp at hc;lia
     ·rename_i h1 h2;rw[hc,cW]at h;refine⟨C,g,?_⟩
      wp_walk
      ·have I:ps.length=C.length:=by simp at hc;lia
       rw[decide_eq_true I,cW]at h;rw[zno];refine Yb (cs:=C.zip ps) (D:=fun q:Str×af=>nT [.str q.1,q.2]) (fun q=>.bool (ptD bits q.1 q.2)) (by rw[oU];simp at l6;lia) ?_ ?_
       ·intro q hq K2 X2 J;have pq:=G q.2 (by have:=(eE hq).2;simp[this])
        wp_walk using zm1 U b1 pq ?_
        exact J
       ·wp_walk using zmi ?_
        ·rename_i v;subst hc;rw[v,cW,decide_eq_false (fun z:aa "move" ≠ aa "move"=>z rfl),Bool.false_or]at h
         rw[VH]at g;cases g
         match ps,I,v,h with
         | [p0,p1],_,v,h =>
          simp only[iZ,nq,List.all_cons,List.all_nil,gH,aK,Zh]at v;obtain⟨b',g',rfl⟩:=zij v.1;obtain⟨b'',g'',rfl⟩:=zij v.2
          wp_walk
          exact h
        ·rename_i v;rw[v,cW,decide_eq_true hc,Bool.true_or]at h;exact h
        ·rw[hc,bN]at h;exact h
      ·have I:¬ps.length=C.length:=by simp at hc;lia
       rw[decide_eq_false I,bN,bN]at h;exact h
     ·rw[hc,bN]at h;exact h
     ·exfalso;rw[g]at hc;cases hc
   | dict ds =>
    have px:=G _ (cC ..);cases ds with
    | nil =>
     have h:R (.bool false) n:=h
     wp_walk
     all_goals first|exact h|(exfalso;simp at hc;lia)
    | cons a b=>exact absurd rfl px.pln
   | _ =>
    have h:R (.bool false) n:=h
    wp_walk
    all_goals first|exact h|(exfalso;simp at hc;lia)
 | _ =>
  wp_walk
  exact h
def exO(os:List NP)(nm:Str)(gs cs:BL):List NP:=(os.filter fun p=>decide (p.1∉gs))++cs.map fun b=>(b,nm)
theorem zpq{gs:BL}{b:Int×Int}:((pD gs).any fun t=>t.eqv (prD b))=decide (b∈gs):=by
 rw[fL,ou,decide_eq_true_eq];constructor
 ·rintro⟨t,l,e⟩;obtain⟨c,hc,rfl⟩:=aZ.mp l;have:c=b:=by simpa[prD,cT,fQ,t8] using e
  exact this▸hc
 ·intro u;exact⟨prD b,aZ.mpr ⟨b,u,rfl⟩,by simp[prD,cT,fQ]⟩
def Ze:GD:=fun ts n R=>∃(d:Deal) (nm:Str) (gs cs:BL),ts=[dlD d,.str nm,.tuple (pD gs),.tuple (pD cs)]/\d.2.1.length+cs.length<100000/\d.2.1.length+cs.length<=1000/\gs.length<=1000 /\
 ∀rs:List NP,rs.Perm (exO d.2.1 nm gs cs)->rs.Pairwise (fun a b=>npRk rs a<=npRk rs b)->R (dlD (d.1,rs,d.2.2)) n
theorem ze3{d:Deal}{nm:Str}{gs cs:BL}{n:Nat}{R:qN}(l:d.2.1.length+cs.length<100000)(v:d.2.1.length+cs.length<=1000)(l2:gs.length<=1000)(h:∀rs:List NP,rs.Perm (exO d.2.1 nm gs cs)->rs.Pairwise (fun a b=>npRk rs a<=npRk rs b)->R (dlD (d.1,rs,d.2.2)) n):Ze [dlD d,.str nm,.tuple (pD gs),.tuple (pD cs)] n R:=⟨d,nm,gs,cs,rfl,l,v,l2,h⟩
def zcH(Z:ZZ):Prop:=FQ Z "exchanged" (top 55) ["deal","name","gone","come"] 1 (spD Z.K 4 Ze)
theorem zhi(D:Dq Z.K Z.mg "exchanged" (top 55) ["deal","name","gone","come"]) (T:Txt Z.mg):zcH Z:=by
 refine' okQ D (fnS (N:=["deal","name","gone","come","bits","outs","kept","staying"]) (by decide +kernel)) rfl fun f L A outer s H E G=>⟨_,(Jb (QO (Jk 0) (J1 rfl (Jp (dgv 4 (ndB rfl)) (Jp (dgv 5 (ndB rfl)) (Jp (dgv 6 (ndB rfl)) Qb))))) (Jb (ziZ (zgC (i:=7) (ndB rfl) rfl (cY rfl) (own:=["pair"]) (capt:=[2]) rfl (JN.of rfl) (dil (Ud (Jk 5))) (fun _ _ _ _=>(dgv 0 (ndB rfl))) (by decide) (fun _ _ _ _=>(VD (Jq (zey G) zgw (dl (Ji (dlv 0) dli)) (dlv 1) rfl))) (fun _ _ _ _=>(Jk 0)))) (Jc (Jh (Je (dbv 4 (dbc (Uy UM UK T.tup Ub (Js (dl (Jo (zi0 G T.srt (dl (Jo (QZ (dlv 7) (dl (Jo (dnc ["block"] [1] (dil (Ud (Jk 3))) (fun _ _ _ _=>(dgv 0 (ndB rfl))) (fun _ _ _ _=>(Je (dbv 0 (dbv 1 Ja)))))))))) zk1))) JA Y3)) (dbv 6 Ja)))))))),?_⟩
 intro ts n R U h;obtain⟨⟨bits,os,I⟩,nm,gs,cs,rfl,l,C,l2,h⟩:=h;have l:os.length+cs.length<100000:=l;have C:os.length+cs.length<=1000:=C;have e:dlD (bits,os,I)=.tuple [.int bits,.tuple (oD os),.tuple (oD I)]:=rfl;rw[e]
 wp_walk
 refine Wf (cs:=os) (D:=fun p=>.tuple [prD p.1,.str p.2]) (fun p=>decide (p.1∉gs)) (fun p=>.tuple [prD p.1,.str p.2]) (by lia) ?_ ?_
 ·intro p hp Y X2 v x
  wp_walk
  ·exact Ug
  ·intro t J;obtain⟨b,_,rfl⟩:=aZ.mp J;exact Ug
  ·rw[zpq]at hc;exact x (by simpa using hc)
  ·rw[zpq]at hc;exact v (by simpa using hc)
 ·wp_walk
  refine Yb (cs:=cs) (D:=prD) (fun b=>.tuple [prD b,.str nm]) (by lia) ?_ ?_
  ·intro b hb K X S
   wp_walk
   exact S
  ·have lf:(os.filter fun p=>decide (p.1∉gs)).length<=os.length:=fV ..
   wp_walk
   ·simp only[ba];lia
   refine⟨exO os nm gs cs,?_,?_,fun y pm pw=>?_⟩
   ·simp only[oD,exO,fN,dO];rfl
   ·simp only[exO,ba,aM];lia
   ·wp_walk
    exact h y pm (pw.imp fun {a b} h=>by unfold npRk at h ⊢;rw[(pm.filter _).length_eq,(pm.filter _).length_eq];exact h)
def Whl(d:Deal)(w:af)(b:Int×Int):Prop:=∀x,b.1<=x->x<eB b->Free d w x
theorem zpt{d:Deal}{w:af}{l:BL}{b:Int×Int}(D:Dl d)(C:CanP (Free d w) l)(B:IsBk d.1 b.1 b.2):(∃p∈l,p.1<=b.1/\eB b<=eB p)↔Whl d w b:=by
 constructor
 ·rintro⟨p,u,y,v⟩ x hx1 hx2;exact(C.mem x).mp ⟨p,u,by lia,by lia⟩
 ·exact fun h=>C.hold (bits:=d.1) (by have:=D.1;lia) (fun x hx=>⟨hx.1,hx.2.1⟩) B h
theorem zpo{d:Deal}{w:af}{v:BL}{b:Int×Int}{n:Nat}{R:qN}(D:Dl d)(C:CanP (Free d w) v)(G:v.length<1000000)(B:IsBk d.1 b.1 b.2)(h:∀k:Bool,(k=true↔Whl d w b)->R (.bool k) n):Zf [.tuple (pD v),.tuple [.int b.1,.int b.2]] n R :=
 zm2 (bits:=d.1) (by have:=D.1;lia) D.2.1 (C.ptc (by have:=D.1;lia) fun x hx=>⟨hx.1,hx.2.1⟩) G B fun k y=>h k (y.trans (zpt D C B))
def othB(b:Int×Int):Int×Int:=(cL b.1 (2 ^ b.2.toNat),b.2)
def joiB(b:Int×Int):Int×Int:=(b.1 / 2 ^ (b.2+1).toNat*2 ^ (b.2+1).toNat,b.2+1)
def zt9:GX:=fun ts n R v=>∃(d:Deal) (w:af) (nm:Str) (b:Int×Int),ts=[dlD d,.tuple [w,.str nm,.tuple [.int b.1,.int b.2]]]/\Dl d/\IsNm nm/\IsBk d.1 b.1 b.2/\d.2.1.length+d.2.2.length+1<100000/\d.2.1.length+d.2.2.length<=900/\((b,nm)∉d.2.1->v (aa "NotTheirs") n)/\((b,nm)∈d.2.1->b.2=d.1\/¬Whl d (.str nm) (othB b)->v (aa "NoRoom") n) /\
 ((b,nm)∈d.2.1->b.2≠d.1->Whl d (.str nm) (othB b)->∀rs:List NP,rs.Perm (exO d.2.1 nm [b] [joiB b])->rs.Pairwise (fun a b=>npRk rs a<=npRk rs b)->R (.tuple [dlD (d.1,rs,d.2.2),.tuple [.int (joiB b).1,.int (joiB b).2]]) n)
def zo1(Z:ZZ):Prop:=FQX Z "grow" (top 46) ["deal","deed"] 7 2 zt9
theorem zqb(D:Dq Z.K Z.mg "grow" (top 46) ["deal","deed"]) (HP:zf7 Z) (HA:zcH Z) (HJ:zel Z) (HG:zdo Z) (HX:zdC Z) (HQ:OwnE Z.K Z.mg "NoRoom") (HB:OwnE Z.K Z.mg "NotTheirs") (T:Txt Z.mg):zo1 Z:=by
 refine' okX D (fnS (N:=["deal","deed","name","block","joined"]) (by decide +kernel)) rfl fun f cdv A outer s H E G=>⟨_,(Jb (QO (VP (dlv 1) (Z8 Jd) Z7) (J1 rfl (Jp (dgv 2 (ndB rfl)) (Jp (dgv 3 (ndB rfl)) Qb)))) (Jb (Jt (Jq (zey G) zgw (dl (Je (dbv 3 (dbv 2 Ja)))) (dl (Ji (dlv 0) dli)) rfl) (Jc (Vb HB)) Jw) (Jb (Jt (Qr (QM (Jq (Q4 G) QU (dl (Ji (dlv 3) dli)) (dl (Ji (dlv 0) dli)) (Jl _)) (Ue (Qw (Qc (dl (Jf HJ G (dbc (Jf HG G (dbv 0 (dbv 2 Ja))) (dbc (Jf HX G (dbv 3 Ja)) Ja))))))))) (Jc (Vb HQ)) Jw) (Jb (dsv 4 (ndB rfl) (Jf HP G (dbv 3 (dbc (JO (dl (Ji (dlv 3) dli)) dli) Ja)))) (Jc (Jh (Je (dbc (Jf HA G (dbv 0 (dbv 2 (dbc (Je (dbv 3 Ja)) (dbc (Je (dbv 4 Ja)) Ja))))) (dbv 4 Ja))))))))),?_⟩
 intro ts n R Y hl h;obtain⟨d,w,nm,b,rfl,D,U,B,l,l2,k1,k2,k3⟩:=h;have hw:Yr (.str nm):=.inr ⟨nm,rfl,U⟩;have ff:∀{n:Nat} {R:qN},(∀v,CanP (Free d (.str nm)) v->v.length<1000000->R (.tuple (pD v)) n)->V5 [dlD d,.str nm] n R:=fun {n R} z=>zfX D hw (by lia) fun v C J=>z v C (by lia)
 have L:∀{v:BL} {n:Nat} {R:qN},CanP (Free d (.str nm)) v->v.length<1000000->b.2≠d.1->(∀k:Bool,(k=true↔Whl d (.str nm) (othB b))->R (.bool k) n)->Zf [.tuple (pD v),.tuple [.int (cL b.1 (2 ^ b.2.toNat)),.int b.2]] n R:=fun {v n R} C J ne z=>zpo (b:=othB b) D C J (B.oth (by have:=B.2.1;lia)) z
 have ex:∀{n:Nat} {R:qN},(∀rs:List NP,rs.Perm (exO d.2.1 nm [b] [joiB b])->rs.Pairwise (fun a b=>npRk rs a<=npRk rs b)->R (dlD (d.1,rs,d.2.2)) n)->Ze [dlD d,.str nm,.tuple [.tuple [.int b.1,.int b.2]],.tuple [.tuple [.int (joiB b).1,.int (joiB b).2]]] n R:=fun {n R} z=>ze3 (d:=d) (gs:=[b]) (cs:=[joiB b]) (by simp;lia) (by simp;lia) (by simp) z
 have b0:=D.1;have b1:=D.2.1;have g0:=B.1;have g1:=B.2.1;have I:∀p∈d.2.1,IsNm p.2:=fun p hp=>(D.o p hp).2.2
 have i64:=B.lt (by lia) b1
 obtain⟨bits,os,x⟩:=d;have k1:(b,nm)∉os->Y (aa "NotTheirs") n:=k1;have k2:(b,nm)∈os->b.2=bits\/¬Whl (bits,os,x) (.str nm) (othB b)->Y (aa "NoRoom") n:=k2;have k3:(b,nm)∈os->b.2≠bits->Whl (bits,os,x) (.str nm) (othB b)->∀rs:List NP,rs.Perm (exO os nm [b] [joiB b])->rs.Pairwise (fun a b=>npRk rs a<=npRk rs b)->R (.tuple [dlD (bits,rs,x),.tuple [.int (joiB b).1,.int (joiB b).2]]) n:=k3
 have I:∀p∈os,IsNm p.2:=I;have L:∀{v:BL} {n:Nat} {R:qN},CanP (Free (bits,os,x) (.str nm)) v->v.length<1000000->b.2≠bits->(∀k:Bool,(k=true↔Whl (bits,os,x) (.str nm) (othB b))->R (.bool k) n)->Zf [.tuple (pD v),.tuple [.int (cL b.1 (2 ^ b.2.toNat)),.int b.2]] n R:=L;have ex:∀{n:Nat} {R:qN},(∀rs:List NP,rs.Perm (exO os nm [b] [joiB b])->rs.Pairwise (fun a b=>npRk rs a<=npRk rs b)->R (dlD (bits,rs,x)) n)->Ze [dlD (bits,os,x),.str nm,.tuple [.tuple [.int b.1,.int b.2]],.tuple [.tuple [.int (b.1 / 2 ^ (b.2+1).toNat*2 ^ (b.2+1).toNat),.int (b.2+1)]]] n R:=ex
 rw[show dlD (bits,os,x)=.tuple [.int bits,.tuple (oD os),.tuple (oD x)] from rfl]at *
 wp_walk
 rw[show cutD [w,.str nm,.tuple [.int b.1,.int b.2]] (some 1) none=[.str nm,.tuple [.int b.1,.int b.2]] from rfl]
 wp_walk using ff (fun v C J=>?_)
 ·exact zlH (p:=(b,nm)) U
 ·exact zo8 I
 ·rename_i y;rw[Zz (p:=(b,nm))]at y;exact k2 (by simpa using y) (.inl hc)
 ·rename_i y;rw[Zz (p:=(b,nm))]at y;have y:(b,nm)∈os:=by simpa using y
  refine zh_ (by lia) (by lia) ?_
  wp_walk
  have nb:b.2≠bits:=hc;refine L C J nb fun kk S=>?_
  wp_walk
  ·refine zjT (by lia) (by lia) (by lia) (by lia) ?_
   wp_walk using ex (fun rs pm pw=>?_)
   exact k3 y nb (S.mp hc) rs pm pw
  ·exact k2 y (.inr fun z=>by rw[S.mpr z]at hc;cases hc)
 ·rw[Zz (p:=(b,nm))]at hc;exact k1 (by simpa using hc)
def zt7:GX:=fun ts n R v=>∃(d:Deal) (w:af) (nm:Str) (b c:Int×Int),ts=[dlD d,.tuple [w,.str nm,.tuple [.int b.1,.int b.2],.tuple [.int c.1,.int c.2]]]/\Dl d/\IsNm nm/\IsBk d.1 c.1 c.2/\d.2.1.length+d.2.2.length+1<100000/\d.2.1.length+d.2.2.length<=900/\((b,nm)∉d.2.1->v (aa "NotTheirs") n)/\((b,nm)∈d.2.1->¬Whl d (.str nm) c->v (aa "NoRoom") n) /\
 ((b,nm)∈d.2.1->Whl d (.str nm) c->∀rs:List NP,rs.Perm (exO d.2.1 nm [b] [c])->rs.Pairwise (fun a b=>npRk rs a<=npRk rs b)->R (.tuple [dlD (d.1,rs,d.2.2),.none]) n)
def zo0(Z:ZZ):Prop:=FQX Z "move" (top 49) ["deal","deed"] 7 2 zt7
theorem zqa(D:Dq Z.K Z.mg "move" (top 49) ["deal","deed"]) (HJ:zel Z) (HA:zcH Z) (Y:zdo Z) (HQ:OwnE Z.K Z.mg "NoRoom") (HB:OwnE Z.K Z.mg "NotTheirs") (T:Txt Z.mg):zo0 Z:=by
 refine' okX D (fnS (N:=["deal","deed","name","block","to"]) (by decide +kernel)) rfl fun f cdv A outer s H E G=>⟨_,(Jb (QO (VP (dlv 1) (Z8 Jd) Z7) (J1 rfl (Jp (dgv 2 (ndB rfl)) (Jp (dgv 3 (ndB rfl)) (Jp (dgv 4 (ndB rfl)) Qb))))) (Jb (Jt (Jq (zey G) zgw (dl (Je (dbv 3 (dbv 2 Ja)))) (dl (Ji (dlv 0) dli)) rfl) (Jc (Vb HB)) Jw) (Jb (Jt (Qw (Qc (dl (Jf HJ G (dbc (Jf Y G (dbv 0 (dbv 2 Ja))) (dbv 4 Ja)))))) (Jc (Vb HQ)) Jw) (Jc (Jh (Je (dbc (Jf HA G (dbv 0 (dbv 2 (dbc (Je (dbv 3 Ja)) (dbc (Je (dbv 4 Ja)) Ja))))) (dbc QA Ja)))))))),?_⟩
 intro ts n R U hl h;obtain⟨d,w,nm,b,c,rfl,D,L,B,l,l2,k1,k2,k3⟩:=h;have hw:Yr (.str nm):=.inr ⟨nm,rfl,L⟩;have ff:∀{n:Nat} {R:qN},(∀v,CanP (Free d (.str nm)) v->v.length<1000000->R (.tuple (pD v)) n)->V5 [dlD d,.str nm] n R:=fun {n R} z=>zfX D hw (by lia) fun v C I=>z v C (by lia)
 have hh:∀{v:BL} {n:Nat} {R:qN},CanP (Free d (.str nm)) v->v.length<1000000->(∀k:Bool,(k=true↔Whl d (.str nm) c)->R (.bool k) n)->Zf [.tuple (pD v),.tuple [.int c.1,.int c.2]] n R:=fun {v n R} C I z=>zpo D C I B z
 have ex:∀{n:Nat} {R:qN},(∀rs:List NP,rs.Perm (exO d.2.1 nm [b] [c])->rs.Pairwise (fun a b=>npRk rs a<=npRk rs b)->R (dlD (d.1,rs,d.2.2)) n)->Ze [dlD d,.str nm,.tuple [.tuple [.int b.1,.int b.2]],.tuple [.tuple [.int c.1,.int c.2]]] n R:=fun {n R} z=>ze3 (d:=d) (gs:=[b]) (cs:=[c]) (by simp;lia) (by simp;lia) (by simp) z
 have x:∀p∈d.2.1,IsNm p.2:=fun p hp=>(D.o p hp).2.2
 obtain⟨bits,os,y⟩:=d;have k1:(b,nm)∉os->U (aa "NotTheirs") n:=k1;have k2:(b,nm)∈os->¬Whl (bits,os,y) (.str nm) c->U (aa "NoRoom") n:=k2;have k3:(b,nm)∈os->Whl (bits,os,y) (.str nm) c->∀rs:List NP,rs.Perm (exO os nm [b] [c])->rs.Pairwise (fun a b=>npRk rs a<=npRk rs b)->R (.tuple [dlD (bits,rs,y),.none]) n:=k3
 have x:∀p∈os,IsNm p.2:=x;have ex:∀{n:Nat} {R:qN},(∀rs:List NP,rs.Perm (exO os nm [b] [c])->rs.Pairwise (fun a b=>npRk rs a<=npRk rs b)->R (dlD (bits,rs,y)) n)->Ze [dlD (bits,os,y),.str nm,.tuple [.tuple [.int b.1,.int b.2]],.tuple [.tuple [.int c.1,.int c.2]]] n R:=ex
 rw[show dlD (bits,os,y)=.tuple [.int bits,.tuple (oD os),.tuple (oD y)] from rfl]at *
 wp_walk
 rw[show cutD [w,.str nm,.tuple [.int b.1,.int b.2],.tuple [.int c.1,.int c.2]] (some 1) none=[.str nm,.tuple [.int b.1,.int b.2],.tuple [.int c.1,.int c.2]] from rfl]
 wp_walk using ff (fun v C I=>?_)
 ·exact zlH (p:=(b,nm)) L
 ·exact zo8 x
 ·rw[Zz (p:=(b,nm))]at hc;have S:(b,nm)∈os:=by simpa using hc
  refine hh C I fun kk J=>?_
  wp_walk using ex (fun rs pm pw=>?_)
  ·exact k3 S (J.mp hc) rs pm pw
  ·exact k2 S fun z=>by rw[J.mpr z]at hc;cases hc
 ·rw[Zz (p:=(b,nm))]at hc;exact k1 (by simpa using hc)
theorem zpp(w:Str)(h:w=aa "grow" \/ w=aa "keep" \/ w=aa "loose"):getT JP w=some [aa "block"]/\w≠aa "move" /\ w.length<=1000000:=by
 rcases h with rfl|rfl|rfl <;> exact⟨by decide +kernel,by decide +kernel,by decide +kernel⟩
theorem zwh:getT JP (aa "move")=some [aa "block",aa "block"]:=by decide +kernel
theorem zq2{bits:Int}{w nm:Str}{b:Int×Int}(hw:w=aa "grow" \/ w=aa "keep" \/ w=aa "loose") (v:IsNm nm) (x:0<=bits) (B:IsBk bits b.1 b.2):dedD bits (.tuple [.str w,.str nm,.tuple [.int b.1,.int b.2]])=true:=by
 show(nmD (.str nm)&&prtD bits w [.tuple [.int b.1,.int b.2]])=true
 rw[show nmD (.str nm)=true from ziH.mpr v,cW]
 unfold prtD;rw[(zpp w hw).1];have e:ptD bits (aa "block") (.tuple [.int b.1,.int b.2])=true:=Zh.trans ((Wa x).mpr B);simp[e];exact .inl (zpp w hw).2.1
theorem zuq{bits:Int}{nm:Str}{b c:Int×Int}(y:IsNm nm)(x:0<=bits)(B:IsBk bits b.1 b.2)(C:IsBk bits c.1 c.2)(e:b.2=c.2):dedD bits (.tuple [.str (aa "move"),.str nm,.tuple [.int b.1,.int b.2],.tuple [.int c.1,.int c.2]])=true:=by
 show(nmD (.str nm)&&prtD bits (aa "move") [.tuple [.int b.1,.int b.2],.tuple [.int c.1,.int c.2]])=true
 rw[show nmD (.str nm)=true from ziH.mpr y,cW]
 unfold prtD;rw[zwh];have v:ptD bits (aa "block") (.tuple [.int b.1,.int b.2])=true:=Zh.trans ((Wa x).mpr B);have G:ptD bits (aa "block") (.tuple [.int c.1,.int c.2])=true:=Zh.trans ((Wa x).mpr C);rw[e]at v;simp[v,G,hEq,e]
theorem Yy{nm:Str}(l:IsNm nm):nm.length<=1000000:=by
 have:=l.2.1;lia
def ZK:GX:=fun ts n R v=>∃(d:Deal) (t:af),ts=[dlD d,t]/\Dl d/\((PlnD t/\dedD d.1 t=false/\v (aa "NoDeed") n)\/∃(nm:Str) (b:Int×Int),IsNm nm/\IsBk d.1 b.1 b.2/\d.2.1.length+d.2.2.length<=900/\(b,nm)∉d.2.1/\v (aa "NotTheirs") n/\(t=.tuple [.str (aa "grow"),.str nm,.tuple [.int b.1,.int b.2]]\/t=.tuple [.str (aa "move"),.str nm,.tuple [.int b.1,.int b.2],.tuple [.int b.1,.int b.2]]))
theorem zlS{ts:qD}{n:Nat}{R u:qN}{X y:Str->Nat->Prop}(h:ZK ts n R X)(G:∀t m,R t m->u t m)(v:∀c m,X c m->y c m):ZK ts n u y:=by
 obtain⟨d,t,e,D,h⟩:=h;refine⟨d,t,e,D,?_⟩;rcases h with⟨p,q,x⟩|⟨nm,b,C,B,l,no,x,z⟩
 ·exact .inl ⟨p,q,v _ _ x⟩
 ·exact .inr ⟨nm,b,C,B,l,no,v _ _ x,z⟩
def zo2(Z:ZZ):Prop:=FQX Z "done" (top 51) ["deal","deed"] 8 2 ZK
theorem zqc(D:Dq Z.K Z.mg "done" (top 51) ["deal","deed"]) (IR:zo1 Z) (J:zo0 Z) (L:zg9 Z) (S:OwnE Z.K Z.mg "NoDeed") (U:StF Z.P Z.w Z.K Z.mg "DEEDS" ["take","near","give","grow","keep","loose","move"]) (T:Txt Z.mg):zo2 Z:=by
 refine' okX D (fnS (N:=["deal","deed","act"]) (by decide +kernel)) rfl fun f Y A outer s H E I=>⟨_,(Jb (Jt (Qw (Qc (dl (Jf L I (dbc (Ji (dlv 0) dli) (dbv 1 Ja)))))) (Jc (Vb S)) Jw) (zoz (i:=2) U (.cons IR (.cons J UN.nil)) I (ndB rfl) (Ji (dlv 1) dli) (dbv 0 (dbv 1 Ja)))),?_⟩
 intro ts n R Rx hl h;obtain⟨d,t,rfl,D,h⟩:=h;obtain⟨bits,os,v⟩:=d;have b0:1<=bits:=D.1;have G:bits<=64:=D.2.1;rw[show dlD (bits,os,v)=.tuple [.int bits,.tuple (oD os),.tuple (oD v)] from rfl]at *
 rcases h with⟨p,q,x⟩|⟨nm,b,C,B,l,no,x,h⟩
 ·have q:dedD bits t=false:=q
  wp_walk
  refine ze2 (by lia) G p ?_
  rw[q]
  wp_walk
  exact x
 have B:IsBk bits b.1 b.2:=B;have y:PlnD (.tuple [.int b.1,.int b.2]):=Q7 (by simp) (Jm JG (Jm JG JH))
 rcases h with rfl|rfl
 ·wp_walk
  refine ze2 (by lia) G (Q7 (by simp) (Jm (Qn (by decide +kernel)) (Jm (Qn (Yy C)) (Jm y JH)))) ?_
  rw[zq2 (by simp) C (by lia) B]
  wp_walk
  ·rfl
  refine⟨_,.head _,rfl,?_⟩
  wp_walk
  exact⟨(bits,os,v),_,nm,b,rfl,D,C,B,by show os.length+v.length+1<100000;have l:os.length+v.length<=900:=l;lia,l,fun _=>x,fun z=>absurd z no,fun z=>absurd z no⟩
 ·wp_walk
  refine ze2 (by lia) G (Q7 (by simp) (Jm (Qn (by decide +kernel)) (Jm (Qn (Yy C)) (Jm y (Jm y JH))))) ?_
  rw[zuq C (by lia) B B rfl]
  wp_walk
  ·rfl
  refine⟨_,.tail _ (.head _),rfl,?_⟩
  wp_walk
  exact⟨(bits,os,v),_,nm,b,b,rfl,D,C,B,by show os.length+v.length+1<100000;have l:os.length+v.length<=900:=l;lia,l,fun _=>x,fun z=>absurd z no,fun z=>absurd z no⟩
theorem scH:Uq ["_law_script","_law_k","_law_cell"] ["_law_script","_law_k"] (JF (top 57)):=⟨rfl,rfl,rfl,by decide +kernel,rfl,by decide +kernel,by decide +kernel⟩
theorem zhn{f:ak}{fd:cR}(D:Def K mg "_law_hand" (top 57) ["_law_script","_law_k"] f fd) (T:Txt mg):FnOk P w K mg base CX0 1 f fd ["_law_script","_law_k"] (Vs K):=by
 refine D.F.ok scH (fun y H Q E h=>?_) (fun C A outer s H y Q E J h=>?_)
 ·obtain⟨a,ns,k,rfl,_⟩:=h
  rfl
 ·obtain⟨a,ns,k,rfl,v,I,k0,k1,q⟩:=h;refine⟨_,Qy (QG (i:=2) scH.nd rfl (cY rfl) JD)
   (Qy (zpJ (ziw zsJ (pv 1) (Uw zh8 T.len QR (pb_v 0 QF)) (Jl _)) (U6 (QG (i:=2) scH.nd rfl (cY rfl) (Ux UI (pv 0) (pv 1) (fun _ _=>rfl)))) zix)
   (U6 (ZO (zlv (zo6 (JC Q5 (pv 2) (zsy zmY T.int boot_int (zsB (zlx zsM (pv 2) (JC zsG JD JD) (Jl _)) QF)))
    (zo6 (JC Uf (JC Uf (JC UW (pv 2) JD) (JC Q5 JD (pv 1))) JD) (pb_i QF))))))),?_⟩
  refine⟨_,rfl,_,rfl,a,_,rfl,.inl v,_,_,rfl,rfl,_,rfl,?_⟩;have fin:∀c:Int,tRet (tLst (QK (tOp (rI CMul fun i j=>V.int (i*j)) (tVar 2) (tCB (fun xs H Q=>(∃i,xs=[.int i]/\Q (.int i) H)\/∃k,xs=[.bl k]/\Q (.int (if k then 1 else 0)) H) (QK (tOp (rI0 fun i j=>.bl (decide (j<=i))) (tVar 2) (tOp (rI CPow fun i j=>.int (i ^ j.toNat)) (tC (.int 10)) (tC (.int 18)))) tNil)))
    (QK (tOp (rI0 fun i j=>.int (i+j)) (tOp (rI0 fun i j=>.int (i+j)) (tOp (rI (fun _ j=>0<j) fun i j=>.int (i % j)) (tVar 2) (tC (.int 2305843009213693951))) (tOp (rI CMul fun i j=>V.int (i*j)) (tC (.int 7919)) (tVar 1))) (tC (.int 3))) (QK (tC (.int 0)) tNil))))
    { nx:=fun _ G=>Q .non G,rt:=Q } [some (.ref a),some (.int k),some (.int c)] H:=by
   intro c;refine⟨_,rfl,_,rfl,_,_,rfl,rfl,⟨by decide,by decide,by decide⟩,_,_,rfl,rfl,.inr ⟨_,rfl,_,_,rfl,rfl,.inr ?_,?_⟩⟩
   ·split <;> decide
   ·refine⟨_,rfl,_,_,rfl,rfl,(by show(0:Int)<2305843009213693951;decide),_,rfl,_,_,rfl,rfl,.inl ⟨by decide,by decide⟩,_,_,rfl,rfl,_,_,rfl,rfl,(by show 3<=sizeLine;decide),fun l u=>?_⟩
    refine q l _ u ⟨_,_,_,JM,?_,?_,aY _,aY _⟩ (znx u)
    ·lia
    ·lia
  refine ztD (fun c=>?_) (fun c=>?_)
  ·have x:k.toNat<ns.length:=by rw[ba]at c;lia
   refine⟨_,rfl,_,rfl,a,_,_,V.int (ns[k.toNat]),rfl,rfl,v,?_,?_⟩
   ·exact ze9 k0 (by rw[bh,aw x];rfl)
   ·exact fin _
  ·exact fin 0
def zeo(Z:ZZ):Prop:=FQ Z "_law_hand" (top 57) ["_law_script","_law_k"] 1 (Vs Z.K)
theorem zga(D:Dq Z.K Z.mg "_law_hand" (top 57) ["_law_script","_law_k"]) (T:Txt Z.mg):zeo Z:=by
 obtain⟨f,fd,D⟩:=D;exact⟨f,fd,D,zhn D T⟩
theorem zg3{H:Hp}{hd:ak}{o:HO}:zuD hd H (upd H hd o):=fun b u e n=>by rw[Jn n];exact e
theorem scT:Uq ["_law_hand_here","_law_many","_law_digit","_law_turn","_law_mixed","_law_other"] ["_law_hand_here","_law_many"] (JF (top 58)):=⟨rfl,rfl,rfl,by decide +kernel,rfl,by decide +kernel,by decide +kernel⟩
theorem znW{f:ak}{fd:cR}(D:Def K mg "_law_take" (top 58) ["_law_hand_here","_law_many"] f fd) (T:Txt mg):FnOk P w K mg base CX0 1 f fd ["_law_hand_here","_law_many"] zoT:=by
 refine D.F.ok scT (fun x H Q E h=>?_) (fun y A outer s H x Q E G h=>?_)
 ·obtain⟨hd,many,n,rfl,_⟩:=h
  rfl
 ·obtain⟨hd,many,n,rfl,⟨d,m,t,u,m0,m1,t0,t1⟩,I,v,C,q⟩:=h;refine⟨_,Qy (zpJ (ziw Zq (Ux UI (pv 0) JD (fun _ _=>rfl)) JD (Jl _))
    (Qy (QG (i:=2) scT.nd rfl (cY rfl) (JC UW (Ux UI (pv 0) JD (fun _ _=>rfl)) (pv 1)))
    (Qy (ZI (JC V1 (Ux UI (pv 0) JD (fun _ _=>rfl)) (pv 1)) (pg_sub (pv 0) JD set_list))
    (U6 (ZO (pv 2))))) zix)
   (Qy (ZI (JC Uf (Ux UI (pv 0) JD (fun _ _=>rfl)) JD) (pg_sub (pv 0) JD set_list))
   (Qy (QG (i:=3) scT.nd rfl (cY rfl) (Ux UI (pv 0) JD (fun _ _=>rfl)))
   (Qy (QG (i:=4) scT.nd rfl (cY rfl) (JC UW (JC Q5 (Ux UI (pv 0) JD (fun _ _=>rfl)) (JC Uf (JC Uf JD (JC Q5 (JC Q5 JD (pv 3)) (pv 3))) (JC Q5 JD (pv 3)))) JD))
   (Qy (QG (i:=5) scT.nd rfl (cY rfl) (JC Uf (JC Uf (JC UW (pv 4) JD) (JC Q5 (pv 3) JD)) JD))
   (Qy (QG (i:=4) scT.nd rfl (cY rfl) (JC UW (JC Q5 (pv 4) (pv 5)) JD))
   (U6 (ZO (JC UW (JC Uf (JC V1 (pv 4) JD) (JC V1 (pv 4) JD)) (pv 1))))))))),?_⟩
  refine⟨_,rfl,hd,_,_,_,rfl,rfl,.of u,rfl,_,_,rfl,rfl,_,rfl,?_⟩;refine ztD (fun c=>?_) (fun c=>?_)
  ·refine⟨_,rfl,hd,_,_,_,rfl,rfl,.of u,rfl,_,rfl,_,_,rfl,rfl,v,?_⟩;refine⟨_,rfl,hd,_,_,_,rfl,rfl,.of u,rfl,_,rfl,_,_,rfl,rfl,⟨v,C⟩,?_⟩;refine⟨_,rfl,hd,_,_,0,rfl,rfl,u,rfl,?_⟩;refine⟨_,rfl,?_⟩;exact q _ _ (iJ _ (by lia)) (gQ _ v) ⟨_,_,_,JM,m0,m1,t0,by lia⟩ zg3
  ·refine⟨_,rfl,hd,_,_,_,rfl,rfl,.of u,rfl,_,_,rfl,rfl,?_⟩;refine⟨_,rfl,hd,_,_,2,rfl,rfl,u,rfl,?_⟩;refine⟨_,rfl,hd,_,_,_,rfl,rfl,.of JM,rfl,?_⟩;refine⟨_,rfl,hd,_,_,_,rfl,rfl,.of JM,rfl,_,rfl,_,_,rfl,rfl,.inl ⟨by decide,by decide⟩,_,rfl,_,_,rfl,rfl,.inr ⟨by lia,by lia⟩,_,_,rfl,rfl,_,rfl,_,_,rfl,rfl,.inl ⟨by decide,by decide⟩,_,_,rfl,rfl,_,_,rfl,rfl,.inl ⟨by lia,by lia⟩,_,_,rfl,rfl,(by show(0:Int)<2305843009213693921;decide),?_⟩
   refine⟨_,rfl,_,_,rfl,rfl,(by show(0:Int)<1000003;decide),_,rfl,_,_,rfl,rfl,.inr ⟨by decide,by decide⟩,_,_,rfl,rfl,_,_,rfl,rfl,?_⟩
   refine⟨_,rfl,_,rfl,_,_,rfl,rfl,.inl ⟨by lia,by lia⟩,_,_,rfl,rfl,(by show(0:Int)<2305843009213693907;decide),?_⟩
   refine⟨_,rfl,_,_,rfl,rfl,⟨by decide,by decide⟩,_,rfl,_,_,rfl,rfl,⟨by decide,by decide⟩,_,_,rfl,rfl,_,rfl,_,_,rfl,rfl,v,?_⟩
   exact q _ _ (iJ _ (by lia)) (gQ _ v) ⟨_,_,_,JM,m0,m1,by lia,by lia⟩ zg3
theorem zhj{f:ak}{fd:cR}(D:Def K mg "_law_take" (top 58) ["_law_hand_here","_law_many"] f fd) (T:Txt mg):FnOk P w K mg base CX0 1 f fd ["_law_hand_here","_law_many"] (spD K 2 U0) :=
 (znW D T).imp znv
def Yc(Z:ZZ):Prop:=FQ Z "_law_take" (top 58) ["_law_hand_here","_law_many"] 1 (spD Z.K 2 U0)
theorem zf_(D:Dq Z.K Z.mg "_law_take" (top 58) ["_law_hand_here","_law_many"]) (T:Txt Z.mg):Yc Z:=by
 obtain⟨f,fd,D⟩:=D;exact⟨f,fd,D,zhj D T⟩
def Zd:GD:=fun ts n R=>match ts with
 | [h,.list xs]=>h=HAND/\xs≠[]/\xs.length<=1000000/\n<=1000000000000/\∀x∈xs,R x (n+1)
 | [h,.tuple xs]=>h=HAND/\xs≠[]/\xs.length<=1000000/\n<=1000000000000/\∀x∈xs,R x (n+1)
 | _=>False
theorem Vh{xs:qD}{n:Nat}{R:qN}(h0:xs≠[])(v:xs.length<=1000000)(u:n<=1000000000000)(h:∀x∈xs,R x (n+1)):Zd [HAND,.list xs] n R:=⟨rfl,h0,v,u,h⟩
def U8(Z:ZZ):Prop:=FQ Z "_law_pick" (top 59) ["_law_hand_here","_law_some_here"] 2 (spD Z.K 2 Zd)
theorem zhl(D:Dq Z.K Z.mg "_law_pick" (top 59) ["_law_hand_here","_law_some_here"]) (G:Yc Z) (T:Txt Z.mg):U8 Z:=by
 refine' okQ D (fnS (N:=["_law_hand_here","_law_some_here"]) (by decide +kernel)) rfl fun f y A outer s H E x=>⟨_,(Jc (Jh (Ji (dlv 1) (dl (Jf G x (dbv 0 (dbc (JQ Q6 Q3 T.len QR (Js (dlv 1) JA Ju)) Ja))))))),?_⟩
 intro ts n R L h;unfold Zd at h;split at h
 ·rename_i hd xs;obtain⟨rfl,h0,I,u,h⟩:=h;have C:0<xs.length:=mG.mpr h0
  wp_walk using UA (by lia) (by lia) u (fun r v J=>?_)
  have l:r.toNat<xs.length:=by lia
  rw[Zu (ze9 v (aw l))];exact h _ (dM l)
 ·rename_i hd xs;obtain⟨rfl,h0,I,u,h⟩:=h;have C:0<xs.length:=mG.mpr h0
  wp_walk using UA (by lia) (by lia) u (fun r v J=>?_)
  have l:r.toNat<xs.length:=by lia
  rw[Zv (ze9 v (aw l))];exact h _ (dM l)
 ·exact h.elim
def zcO:GD:=fun ts n R=>match ts with
 | [h]=>h=HAND/\n<=1000000000000/\∀b:Int,1<=b->b<=64->R (.int b) (n+1)
 | _=>False
theorem zi8{n:Nat}{R:qN}(l:n<=1000000000000)(h:∀b:Int,1<=b->b<=64->R (.int b) (n+1)):zcO [HAND] n R:=⟨rfl,l,h⟩
def zer(Z:ZZ):Prop:=FQ Z "_law_bits" (top 60) ["_law_hand_here"] 3 (spD Z.K 1 zcO)
theorem zhq(D:Dq Z.K Z.mg "_law_bits" (top 60) ["_law_hand_here"]) (l:U8 Z) (T:Txt Z.mg):zer Z:=by
 refine' okQ D (fnS (N:=["_law_hand_here"]) (by decide +kernel)) rfl fun f v A outer s H E u=>⟨_,(Jc (Jh (Jf l u (dbv 0 (dbc (Jo (Jz (dbc Jd (dbc Jd (dbc Jd (dbc Jd (dbc Jd (dbc Jd (dbc Jd (dbc Jd (dbc Jd (dbc Jd Ja)))))))))))) Ja))))),?_⟩
 intro ts n R C h;unfold zcO at h;split at h
 ·obtain⟨rfl,y,h⟩:=h;simp only[ZW,ZV,ZX,ZU,u_dC,Zx,ZP,ZR,ZQ,Z3,Zw,Vd,Vf,Z5,Z4,Ve,ZS,ZB,Y6,YC,YE,YF,Y5,YG,Zc,YH,Zb,Yx,oSub,oMul,oMod,Uv,oShl,oShr,oXor,oAnd,isNone,isInt,isBool,isTup,isStr,l_gI,Zt,YK,YL,YM,Yu,Yg,Yh,Ye,Yo,Yq,Yp,Yi,YY,Y8,Yl,Yj,Yk,YQ,YR,YS,YN,YO,YU,YV,Yt,Yn,Ym,Y9,YT,YZ,Y7,Ua,Q8,Uo,Uk,Ui,Uj,Uh,Ug,Qa,JB,capV,cj,fG,aN,cE,bY,fh,cQ,dG,bW,c9,eh,eQ,fJ,fi,fj,dE,Nat.reduceAdd,Nat.reduceSub,hY,true_and,and_true,aI,if_true,if_false,ite_true,ite_false,dh,ft,gx,Zd]
  refine⟨by simp,by decide,y,fun x hx=>?_⟩
  simp only[ax,aR,or_false]at hx;rcases hx with rfl|rfl|rfl|rfl|rfl|rfl|rfl|rfl|rfl|rfl <;> exact h _ (by decide) (by decide)
 ·exact h.elim
def zcf:GD:=fun ts n R=>match ts with
 | [h,.int bits]=>h=HAND/\1<=bits/\bits<=64/\n<=1000000000000 - 10/\∀i h:Int,IsBk bits i h->R (.tuple [.int i,.int h]) (n+3)
 | _=>False
theorem zci{bits:Int}{n:Nat}{R:qN}(y:1<=bits)(x:bits<=64)(v:n<=1000000000000 - 10)(h:∀i h:Int,IsBk bits i h->R (.tuple [.int i,.int h]) (n+3)):zcf [HAND,.int bits] n R:=⟨rfl,y,x,v,h⟩
def We(Z:ZZ):Prop:=FQ Z "_law_block" (top 61) ["_law_hand_here","_law_bits_here"] 3 (spD Z.K 2 zcf)
theorem zgi(D:Dq Z.K Z.mg "_law_block" (top 61) ["_law_hand_here","_law_bits_here"]) (C:U8 Z) (y:Yc Z) (T:Txt Z.mg):We Z:=by
 refine' okQ D (fnS (N:=["_law_hand_here","_law_bits_here","_law_height"]) (by decide +kernel)) rfl fun f I A outer s H E v=>⟨_,(Jb (dsv 2 (ndB rfl) (JQ (zeZ rfl) zmn T.min ze6 (Js (dlv 1) (Js (dl (Jf C v (dbv 0 (dbc (Jo (Jz (dbc Jd (dbc Jd (dbc Jd (dbc Jd (dbc Jd (dbc Jd (dbc (Jf y v (dbv 0 (dbc (JO (dlv 1) dli) Ja))) (dbv 1 Ja)))))))))) Ja)))) JA Y3) Ju))) (Jc (Jh (Je (dbc (Vz (dl (Jf y v (dbv 0 (dbc (JZ dli (dl (UD (dlv 1) (dlv 2)))) Ja)))) (dl (JZ dli (dlv 2)))) (dbv 2 Ja)))))),?_⟩
 intro ts n R S h;unfold zcf at h;split at h
 ·rename_i hd bits;obtain⟨rfl,U,b1,Y,h⟩:=h;simp only[ZW,ZV,ZX,ZU,u_dC,Zx,ZP,ZR,ZQ,Z3,Zw,Vd,Vf,Z5,Z4,Ve,ZS,ZB,Y6,YC,YE,YF,Y5,YG,Zc,YH,Zb,Yx,oSub,oMul,oMod,Uv,oShl,oShr,oXor,oAnd,isNone,isInt,isBool,isTup,isStr,l_gI,Zt,YK,YL,YM,Yu,Yg,Yh,Ye,Yo,Yq,Yp,Yi,YY,Y8,Yl,Yj,Yk,YQ,YR,YS,YN,YO,YU,YV,Yt,Yn,Ym,Y9,YT,YZ,Y7,Ua,Q8,Uo,Uk,Ui,Uj,Uh,Ug,Qa,JB,capV,cj,fG,aN,cE,bY,fh,cQ,dG,bW,c9,eh,eQ,fJ,fi,fj,dE,Nat.reduceAdd,Nat.reduceSub,hY,true_and,and_true,aI,if_true,if_false,ite_true,ite_false,dh,ft,gx,Zd,U0]
  refine⟨by lia,by lia,by lia,fun r r0 r1=>⟨by simp,by decide,by lia,fun x hx=>?_⟩⟩
  have G:∃b:Int,x=.int b/\0<=b:=by
   simp only[ax,aR,or_false]at hx;rcases hx with h|h|h|h|h|h|h|h <;> first|exact⟨_,h,by decide⟩|exact⟨_,h,by lia⟩
  obtain⟨b,rfl,bb⟩:=G;simp only[ZW,ZV,ZX,ZU,u_dC,Zx,ZP,ZR,ZQ,Z3,Zw,Vd,Vf,Z5,Z4,Ve,ZS,ZB,Y6,YC,YE,YF,Y5,YG,Zc,YH,Zb,Yx,oSub,oMul,oMod,Uv,oShl,oShr,oXor,oAnd,isNone,isInt,isBool,isTup,isStr,l_gI,Zt,YK,YL,YM,Yu,Yg,Yh,Ye,Yo,Yq,Yp,Yi,YY,Y8,Yl,Yj,Yk,YQ,YR,YS,YN,YO,YU,YV,Yt,Yn,Ym,Y9,YT,YZ,Y7,Ua,Q8,Uo,Uk,Ui,Uj,Uh,Ug,Qa,JB,capV,cj,fG,aN,cE,bY,fh,cQ,dG,bW,c9,eh,eQ,fJ,fi,fj,dE,Nat.reduceAdd,Nat.reduceSub,hY,true_and,and_true,aI,if_true,if_false,ite_true,ite_false,dh,ft,gx,U0]
  have key:∀m:Int,0<=m->m<=bits->(CPow 1 (bits - m)/\(0:Int)<1*2 ^ (bits - m).toNat/\1*2 ^ (bits - m).toNat<(2:Int) ^ 128/\n+1+1<=1000000000000/\∀r:Int,0<=r->r<1*2 ^ (bits - m).toNat->CPow 1 m/\CMul r (1*2 ^ m.toNat)/\R (.tuple [.int (r*(1*2 ^ m.toNat)),.int m]) (n+1+1+1)):=by
   intro m m0 m1;have J:(1:Int)*2 ^ (bits - m).toNat=2 ^ (bits - m).toNat:=cV _;have L:(1:Int)*2 ^ m.toNat=2 ^ m.toNat:=cV _;rw[J,L];refine⟨cpow (by lia) (by lia),QH _,zlo (by lia),by lia,fun k k0 k1=>⟨cpow m0 (by lia),.inl ⟨by lia,?_⟩,?_⟩⟩
   ·have:=zdY (k:=(bits - m).toNat) (by lia);lia
   ·exact h _ m ⟨m0,m1,k,k0,rfl,k1⟩
  exact key (if b<bits then b else bits) (by split <;> lia) (by split <;> lia)
 ·exact h.elim
def zeK:GD:=fun ts n R=>∃bits i h:Int,ts=[HAND,.int bits,.tuple [.int i,.int h]]/\1<=bits/\bits<=64/\n<=1000000000000 - 100/\IsBk bits i h/\∀j g:Int,IsBk bits j g->R (.tuple [.int j,.int g]) (n+7)
theorem ze4{bits i h:Int}{n:Nat}{R:qN}(y:1<=bits)(x:bits<=64)(v:n<=1000000000000 - 100)(B:IsBk bits i h)(h':∀j g:Int,IsBk bits j g->R (.tuple [.int j,.int g]) (n+7)):zeK [HAND,.int bits,.tuple [.int i,.int h]] n R:=⟨_,_,_,rfl,y,x,v,B,h'⟩
def zen(Z:ZZ):Prop:=FQ Z "_law_near" (top 62) ["_law_hand_here","_law_bits_here","_law_block_here"] 4 (spD Z.K 3 zeK)
theorem zhm(D:Dq Z.K Z.mg "_law_near" (top 62) ["_law_hand_here","_law_bits_here","_law_block_here"]) (I:U8 Z) (G:We Z) (T:Txt Z.mg):zen Z:=by
 refine' okQ D (fnS (N:=["_law_hand_here","_law_bits_here","_law_block_here","_law_begin","_law_height","_law_size","_law_some_here"]) (by decide +kernel)) rfl fun f J A outer s H E y=>⟨_,(Jb (QO (Jk 2) (J1 rfl (Jp (dgv 3 (ndB rfl)) (Jp (dgv 4 (ndB rfl)) Qb)))) (Jb (dsv 5 (ndB rfl) (JZ dli (dlv 4))) (Jb (Qm (i:=6) (ndB rfl) rfl (cY rfl) (Jz (dbv 2 (dbc (Je (dbv 3 (dbc (JQ (ze0 rfl) zmo T.max ze7 (Js dli (Js (dl (UD (dlv 4) dli)) JA zk1) zk0)) Ja))) (dbc (Jf G y (dbv 0 (dbv 1 Ja))) (dbc (Jf G y (dbv 0 (dbv 1 Ja))) Ja)))))) (Jb (Jt (Jq Zq gp_B (dlv 4) dli (Jl _)) (Jc (Qp 6 (Je (dbc (JO (dlv 3) (dl (zmH (dlv 5) dli))) (dbc (UD (dlv 4) dli) Ja))))) Jw) (Jb (Jt (Jq (QE y) QC (dlv 4) (dlv 1) (Jl _)) (Jb (Qp 6 (Je (dbc (UD (dlv 3) (dl (zmE (dlv 3) (dl (Vz dli (dlv 5)))))) (dbc (JO (dlv 4) dli) Ja)))) (Jc (Qp 6 (Je (dbc (zpm (dlv 3) (dlv 5)) (dbv 4 Ja)))))) Jw) (Jb (Jt (Jq Qu Qt (dl (JO (dlv 3) (dl (Vz dli (dlv 5))))) (dl (JZ dli (dlv 1))) (Jl _)) (Jc (Qp 6 (Je (dbc (JO (dlv 3) (dlv 5)) (dbv 4 Ja))))) Jw) (Ut 6 (Jc (Jh (Jf I y (dbv 0 (dbv 6 Ja)))))))))))),?_⟩
 intro ts n R S C;obtain⟨bits,i,h,rfl,U,b1,Y,B,C⟩:=C;have h0:=B.1;have h1:=B.2.1;have v:∀j g:Int,IsBk bits j g->∀m,m=n+7->R (.tuple [.int j,.int g]) m:=fun j g b m e=>e▸C j g b
 have L:IsBk bits i (if h - 1 > 0 then h - 1 else 0):=by
  split
  ·exact B.low (by lia)
  ·by_cases z:h=0
   ·subst z;exact B
   ·have:h=1:=by lia
    subst this;exact B.low (by decide)
 wp_walk using zci ?_ ?_ ?_ (fun _ _ _=>?_),Vh ?_ ?_ ?_ ?_
 all_goals first
  | lia
  | exact cpow (by lia) (by lia)
  | exact zw0
  | exact zuA
  | (rw[QJ];exact Int.mul_pos (by decide) (QH _))
  | (intro z;simp at z;done)
  | (simp only[cQ,dG,aN,cE];decide)
  | skip
 all_goals
  simp only[cQ,dG,List.forall_mem_cons,QJ]at *
  repeat' (with_reducible refine mm ?_ ?_)
 all_goals first
  | exact v _ _ B _ rfl
  | exact v _ _ L _ rfl
  | exact v _ _ (by assumption) _ rfl
  | exact v _ _ (B.up (by lia)) _ rfl
  | exact v _ _ (B.abt (by lia)) _ rfl
  | exact v _ _ (B.oth (by lia)) _ rfl
  | exact v _ _ (B.nxt (by assumption)) _ rfl
  | (intro x hx;simp at hx)
def zc9:GD:=fun ts n R=>∃bits most:Int,ts=[HAND,.int bits,.int most]/\1<=bits/\bits<=64/\0<=most/\most<=1000/\n<=1000000000000 - 100000/\∀(bs:qB) (m:Nat),Bks bits bs->bs.length<=most.toNat->m<=n+1+12*most.toNat->R (.list (pD bs)) m
theorem zgI{bits most:Int}{n:Nat}{R:qN}(x:1<=bits)(v:bits<=64)(m0:0<=most)(m1:most<=1000)(u:n<=1000000000000 - 100000)(h:∀(bs:qB) (m:Nat),Bks bits bs->bs.length<=most.toNat->m<=n+1+12*most.toNat->R (.list (pD bs)) m):zc9 [HAND,.int bits,.int most] n R:=⟨bits,most,rfl,x,v,m0,m1,u,h⟩
def zc0(Z:ZZ):Prop:=FQ Z "_law_blocks" (top 63) ["_law_hand_here","_law_bits_here","_law_most"] 5 (spD Z.K 3 zc9)
theorem zfc(D:Dq Z.K Z.mg "_law_blocks" (top 63) ["_law_hand_here","_law_bits_here","_law_most"]) (Hu:Yc Z) (Hw:We Z) (Ic:zen Z) (Hv:U8 Z) (T:Txt Z.mg):zc0 Z:=by
 refine' okQ D (fnS (N:=["_law_hand_here","_law_bits_here","_law_most","_law_found","_law_k","_law_block_here"]) (by decide +kernel)) rfl fun f cdv A outer s H E G=>⟨_,(Jb (Qm (i:=3) (ndB rfl) rfl (cY rfl) (Jz Ja)) (Jb (Q0 cG rfl (zeS T.ran (Jf Hu G (dbv 0 (dbc (JO (dlv 2) dli) Ja)))) (dgv 4 (ndB rfl)) (Jb (dsv 5 (ndB rfl) (Jf Hw G (dbv 0 (dbv 1 Ja)))) (Jb (Jt (Qr (ZJ (Jq (QW G) QV (QB 3) (dl (Jo (Jz Ja))) (Jl _)) (Z9 (Jq Zq gp_B (dl (Jf Hu G (dbv 0 (dbc Jd Ja)))) dli (Jl _))))) (Jc (dsv 5 (ndB rfl) (Jf Ic G (dbv 0 (dbv 1 (dbc (zuu Hv G (Js (dlv 0) (Js (QB 3) JA Ju) Ju)) Ja)))))) Jw) (Jc (Qp 3 (Jk 5)))))) (Ut 3 (Jc (Jh (Jk 3)))))),?_⟩
 intro ts n R hl U;obtain⟨bits,most,rfl,b0,b1,m0,m1,hn,U⟩:=U
 wp_walk using UA ?_ ?_ ?_ (fun r r0 r1=>?_)
 ·lia
 ·lia
 ·lia
 ·lia
 ·lia
 refine UJ (fun k Y m=>∃bs:List (Int×Int),∃I S,Y=[some (.val HAND),some (.val (.int bits)),some (.val (.int most)),some (.own (pD bs)),I,S]/\Bks bits bs/\bs.length=k/\m<=n+1+12*k) ⟨[],_,_,rfl,(fun b hb=>nomatch hb),rfl,by lia⟩ ?_ ?_
 ·rintro k t Y m K et ⟨bs,I,S,rfl,B,L,hm⟩ hK;obtain⟨hk2,rfl⟩:=zft et;have hk3:k<1000:=by lia
  have fin:∀(i h:Int) (x4 x5:Option Cell) (J:Nat),IsBk bits i h->J<=m+12->K [some (.val HAND),some (.val (.int bits)),some (.val (.int most)),some (.own (pD bs++[.tuple [.int i,.int h]])),x4,x5] J:=fun i h x4 x5 J C hm' =>
   hK _ _ ⟨bs++[(i,h)],_,_,by rw[<- Yz],B.app C,by simp[L],by lia⟩
  wp_walk using zci ?_ ?_ ?_ (fun i h C=>?_),UA ?_ ?_ ?_ (fun q q0 q1=>?_),Vh ?_ ?_ ?_ ?_,ze4 ?_ ?_ ?_ ?_ (fun j g C'=>?_)
  all_goals first
   | lia
   | exact zsR
   | exact ziA
   | (rw[JJ];lia)
   | decide
   | (intro z
      have y:cT (.list (pD bs)) (.list [])=false:=by assumption
      rw[zqW]at y;have y2:bs=[]:=by
       have:=congrArg dQ z;rw[JJ]at this;exact gU.mp this
      rw[y2]at y;cases y)
   | exact fin _ _ _ _ _ (by assumption) (by lia)
   | skip
  all_goals
   intro x hx;obtain⟨b,hb,rfl⟩:=aZ.mp hx;refine⟨zkh,?_⟩;have C0:=B b hb
   wp_walk using ze4 ?_ ?_ ?_ ?_ (fun j g C'=>?_)
   all_goals first
    | lia
    | exact C0
    | (rw[JJ];lia)
    | exact fin _ _ _ _ _ (by assumption) (by lia)
 ·rintro Y m ⟨bs,I,S,rfl,B,L,hm⟩;have el:bs.length<=most.toNat:=by
   rw[L];unfold QQ;simp;lia
  wp_walk
  exact U bs m B el (by lia)
def zdP:GD:=fun ts n R=>∃bits most:Int,ts=[HAND,.int bits,.int most]/\1<=bits/\bits<=64/\0<=most/\most<64/\n<=1000000000000 - 100000/\∀(bs:qB) (m:Nat),Ptc bits bs->bs.length<=most.toNat->m<=n+1+12*most.toNat->R (.tuple (pD bs)) m
theorem zdV{bits most:Int}{n:Nat}{R:qN}(y:1<=bits)(x:bits<=64)(m0:0<=most)(m1:most<64)(v:n<=1000000000000 - 100000)(h:∀(bs:qB) (m:Nat),Ptc bits bs->bs.length<=most.toNat->m<=n+1+12*most.toNat->R (.tuple (pD bs)) m):zdP [HAND,.int bits,.int most] n R:=⟨bits,most,rfl,y,x,m0,m1,v,h⟩
def zdH(Z:ZZ):Prop:=FQ Z "_law_patch" (top 64) ["_law_hand_here","_law_bits_here","_law_most"] 6 (spD Z.K 3 zdP)
theorem zgg(D:Dq Z.K Z.mg "_law_patch" (top 64) ["_law_hand_here","_law_bits_here","_law_most"]) (HM:zc0 Z) (T:Txt Z.mg):zdH Z:=by
 refine' okQ D (fnS (N:=["_law_hand_here","_law_bits_here","_law_most","_law_found","_law_begin","_law_height"]) (by decide +kernel)) rfl fun f cdv A outer s H E hr=>⟨_,(Jb (Qm (i:=3) (ndB rfl) rfl (cY rfl) (Jz Ja)) (Jb (Q0 cG rfl (U3 (Jf HM hr (dbv 0 (dbv 1 (dbv 2 Ja))))) (J1 rfl (Jp (dgv 4 (ndB rfl)) (Jp (dgv 5 (ndB rfl)) Qb))) (Jc (Jt (Qc (dl (JQ (ze1 rfl) zmq T.all ze8 (Js (dl (Jo (dnc ["_law_one"] [4,5] (zoD (QB 3)) (fun _ _ _ _=>(dgv 0 (ndB rfl))) (fun _ _ _ _=>(zpn (UB Qu Qt (dl (JO (dlv 1) (dl (JZ dli (dlv 2))))) (dl (Ji (dlv 0) dli)) (Jl _)) (UC (UB Qu Qt (dl (JO (dl (Ji (dlv 0) dli)) (dl (JZ dli (dl (Ji (dlv 0) dli)))))) (dlv 1) (Jl _)))))))) JA Y4)))) (Jc (Qp 3 (Je (dbv 4 (dbv 5 Ja))))) Jw))) (Ut 3 (Jc (Jh (Uy UM UK T.tup Ub (Js (dl (Jo (zhY hr T.srt (dlv 3) Ju))) JA Y3))))))),?_⟩
 intro ts n R hl S;obtain⟨bits,most,rfl,b0,b1,m0,m1,hn,S⟩:=S
 wp_walk using zgI ?_ ?_ ?_ ?_ ?_ (fun bs m B hlen hm=>?_)
 ·lia
 ·lia
 ·lia
 ·lia
 ·lia
 refine UJ (fun k U J=>J=m/\∃cs:List (Int×Int),∃I L,U=[some (.val HAND),some (.val (.int bits)),some (.val (.int most)),some (.own (pD cs)),I,L]/\Bks bits cs/\(cs.Pairwise fun a b=>eB a<=b.1\/eB b<=a.1)/\cs.length<=k) ⟨rfl,[],_,_,rfl,(fun b y=>nomatch y),.nil,aC _⟩ ?_ ?_
 ·rintro k t U J K et ⟨rfl,cs,I,L,rfl,C,u,hk⟩ hK;obtain⟨i,h,eb,rfl⟩:=ZG et;have y:=B _ (aX eb);have h0:0<=h:=y.1;have h1:h<=bits:=y.2.1;have hk3:k<64:=by
   have:=(az.mp eb).1;lia
  wp_walk
  refine Yb (D:=prD) (fun b=>.bool (decide (i+2 ^ h.toNat<=b.1)||decide (eB b<=i))) (by lia) ?_ ?_
  ·rintro⟨Y,h'⟩ x K2 X2 hK2;have G:=C _ x;have h0':0<=h':=G.1;have h1':h'<=bits:=G.2.1
   wp_walk
   ·exact cpow (by lia) (by lia)
   ·have hc:i+2 ^ h.toNat<=Y:=by rw[QJ]at hc;exact hc
    rw[decide_eq_true hc]at hK2;exact hK2
   ·exact cpow (by lia) (by lia)
   ·have hc:¬i+2 ^ h.toNat<=Y:=by rw[QJ]at hc;exact hc
    rw[decide_eq_false hc]at hK2;rw[QJ];exact hK2
  ·wp_walk using zmi ?_
   ·rw[JJ];lia
   ·have al:∀b∈cs,i+2 ^ h.toNat<=b.1\/eB b<=i:=fun b y=>by
     have:=bG.mp hc b y;simpa using this
    refine hK _ _ ⟨rfl,cs++[(i,h)],_,_,by rw[<- Yz],C.app y,?_,by simp;lia⟩
    rw[cM];refine⟨u,eu _ _,fun a ha b x=>?_⟩
    cases aB.mp x;rcases al a ha with z|z
    ·exact .inr z
    ·exact .inl z
   ·exact hK _ _ ⟨rfl,cs,_,_,rfl,C,u,by lia⟩
 ·rintro U J ⟨rfl,cs,I,L,rfl,C,u,hk⟩;rw[JJ]at hk
  wp_walk
  refine ztj b1 C u (by lia) fun es P pm=>?_
  wp_walk
  exact S es _ P (by have:=pm.length_eq;lia) (by lia)
def nmL(l:List Nat)(k c:Nat):Str:=⟨(l.take k++[c]++l.drop k).toArray⟩
theorem zsW{u:List Nat}{k c:Nat}(y:u.length<=7)(v:∀x∈u,97<=x/\x<=122)(hc:97<=c/\c<=122):IsNm (nmL u k c):=by
 have e:(nmL u k c).cps.toList=u.take k++[c]++u.drop k:=rfl;have l:(nmL u k c).length=u.length+1:=by
  rw[<- Qs,e];simp;lia
 refine⟨by lia,by lia,fun x hx=>?_⟩
 rw[e]at hx;simp only[av,aB]at hx;rcases hx with(hx|rfl)|hx
 ·exact v x (dW hx)
 ·exact hc
 ·exact v x (gk hx)
theorem zqm{l:List Nat}{k c d:Nat}(h:nmL l k c=nmL l k d):c=d:=by
 have e:l.take k++[c]++l.drop k=l.take k++[d]++l.drop k:=congrArg (fun s:Str=>s.cps.toList) h
 rw[bp,bp]at e;have:=List.append_cancel_left e;simpa using this
theorem zmN{step:Int}(h:step=1\/step=3\/step=5\/step=7\/step=9\/step=11){first i j:Int}(v:0<=i)(u:i<26)(x:0<=j)(l:j<26)(e:(first+step*i) % 26=(first+step*j) % 26):i=j:=by
 rcases h with rfl|rfl|rfl|rfl|rfl|rfl <;> lia
def ZY:Str:=aa "zyzy"
theorem zsV{k c m a:Nat}:nmL (bu m a) k c≠ZY:=fun h=>by
 have e:(bu m a).take k++[c]++(bu m a).drop k=[122,121,122,121]:=(congrArg (fun s:Str=>s.cps.toList) h).trans (by decide +kernel)
 have l:=congrArg dQ e;simp only[aM,fk,eI,fR,aN,cE]at l;have:m=3:=by lia
 subst this;rcases k with _|_|_|k <;> simp[bu]at e <;> lia
def zdQ:GD:=fun ts n R=>∃many:Int,ts=[HAND,.int many]/\0<=many/\many<=26/\n<=1000000000000 - 1000/\∀u:List Str,u.length=many.toNat->(∀s∈u,IsNm s)->(∀s∈u,s≠ZY)->u.Nodup->R (.list (u.map .str)) (n+5)
theorem zif{many:Int}{n:Nat}{R:qN}(m0:0<=many)(m1:many<=26)(v:n<=1000000000000 - 1000)(h:∀u:List Str,u.length=many.toNat->(∀s∈u,IsNm s)->(∀s∈u,s≠ZY)->u.Nodup->R (.list (u.map .str)) (n+5)):zdQ [HAND,.int many] n R:=⟨many,rfl,m0,m1,v,h⟩
def zdI(Z:ZZ):Prop:=FQ Z "_law_names" (top 65) ["_law_hand_here","_law_many"] 3 (spD Z.K 2 zdQ)
theorem zgh(D:Dq Z.K Z.mg "_law_names" (top 65) ["_law_hand_here","_law_many"]) (S:Yc Z) (Hv:U8 Z) (T:Txt Z.mg):zdI Z:=by
 refine' okQ D (fnS (N:=["_law_hand_here","_law_many","_law_letters","_law_first","_law_step","_law_stem","_law_at"]) (by decide +kernel)) rfl fun f cdv A outer s H E G=>⟨_,(Jb (dsv 2 (ndB rfl) Jj) (Jb (QO (Je (dbc (Jf S G (dbv 0 (dbc Jd Ja))) (dbc (Jf Hv G (dbv 0 (dbc (Jo (Jz (dbc Jd (dbc Jd (dbc Jd (dbc Jd (dbc Jd (dbc Jd Ja)))))))) Ja))) Ja))) (J1 rfl (Jp (dgv 3 (ndB rfl)) (Jp (dgv 4 (ndB rfl)) Qb)))) (Jb (dsv 5 (ndB rfl) (zq4 (dl (Ji (dlv 2) (dl (Jf S G (dbv 0 (dbc Jd Ja)))))) (dl (Jf Hv G (dbv 0 (dbc (Jo (Jz (dbc Jd (dbc Jd (dbc Jd (dbc Jd (dbc Jd Ja))))))) Ja)))))) (Jb (dsv 6 (ndB rfl) (Jf S G (dbv 0 (dbc (JO (dl (JQ Q6 Q3 T.len QR (Js (dlv 5) JA Ju))) dli) Ja)))) (Jc (Jh (Jo (dnc ["_law_k"] [5,2,6,3,4] (dil (zeS T.ran (Jk 1))) (fun _ _ _ _=>(dgv 0 (ndB rfl))) (fun _ _ _ _=>(JO (dl (JO (dl (VP (dlv 1) Z7 (Z8 (Jk 3)))) (dl (Ji (dlv 2) (dl (zmE (dl (JO (dlv 4) (dl (Vz (dlv 5) (dlv 0))))) dli)))))) (dl (VP (dlv 1) (Z8 (Jk 3)) Z7)))))))))))),?_⟩
 intro ts n R hl h;obtain⟨many,rfl,m0,m1,hn,h⟩:=h
 wp_walk using UA ?_ ?_ ?_ (fun r r0 r1=>?_),Vh ?_ ?_ ?_ (fun x hx=>?_)
 all_goals first|lia|exact cpow (by lia) (by lia)|(simp;done)|skip
 rename_i first f0 f1
 revert r r0 r1;intro l l0 l1;obtain⟨step,rfl,C⟩:∃s:Int,x=.int s/\(s=1\/s=3\/s=5\/s=7\/s=9\/s=11):=by
  simp only[ax,aR,or_false]at hx;rcases hx with rfl|rfl|rfl|rfl|rfl|rfl <;> exact⟨_,rfl,by simp⟩
 refine zts (k:=l.toNat) (by decide) (by lia) (letters (by lia)) ?_
 wp_walk using Vh ?_ ?_ ?_ (fun y hy=>?_)
 all_goals first|lia|exact cpow (by lia) (by lia)|(simp;done)|skip
 obtain⟨m,rfl,mm0,mm7⟩:∃m:Int,y=.int m/\0<=m/\m<=7:=by
  simp only[ax,aR,or_false]at hy;rcases hy with rfl|rfl|rfl|rfl|rfl <;> exact⟨_,rfl,by decide,by decide⟩
 have v:(repS (⟨#[97+l.toNat]⟩:Str) m).cps.toList=bu m.toNat (97+l.toNat):=by
  rw[znJ];show(bu m.toNat [97+l.toNat]).flatten=_
  generalize m.toNat=k;induction k with
  | zero=>rfl
  | succ k ih=>rw[bY,nK,ih,bY];rfl
 have u:(repS (⟨#[97+l.toNat]⟩:Str) m).length=m.toNat:=by rw[<- Qs,v,fR]
 wp_walk using UA ?_ ?_ ?_ (fun a a0 a1=>?_)
 ·lia
 ·lia
 ·show 1<=100;decide
 ·rw[u];lia
 ·rw[u];lia
 ·rw[u];lia
 ·lia
 ·lia
 ·lia
 rw[u]at a1;generalize repS (⟨#[97+l.toNat]⟩:Str) m=Hy at v u;have I:∀x∈Hy.cps.toList,97<=x/\x<=122:=fun x hx=>by
  rw[v]at hx;have:=List.eq_of_mem_replicate hx;lia
 refine Yb (cs:=fD many.toNat) (D:=fun(i:Nat)=>.int (0+(i:Int))) (fun i=>.str (nmL Hy.cps.toList a.toNat (97+((first+step*(i:Int)) % 26).toNat))) (by simp;lia) ?_ ?_
 ·intro i hi K2 X2 Y;have hi:=gV.mp hi;have q0:0<=(first+step*(0+(i:Int))) % 26:=iJ _ (by decide)
  have q1:(first+step*(0+(i:Int))) % 26<26:=gQ _ (by decide)
  wp_walk using zts (k:=((first+step*(0+(i:Int))) % 26).toNat) (by decide) (by lia) (letters (by lia)) ?_
  all_goals first
   | lia
   | exact .inl ⟨by lia,by lia⟩
   | skip
  ·have l3:(cutS Hy none (some a)).length<=7:=by
    rw[<- Qs,zeW (k:=a.toNat) (by lia)]
    have:=Qs Hy;simp;lia
   show(cutS Hy none (some a)).length+1<=16777216
   lia
  ·have l3:(cutS Hy none (some a)).length<=7:=by
    rw[<- Qs,zeW (k:=a.toNat) (by lia)]
    have:=Qs Hy;simp;lia
   have l4:(cutS Hy (some a) none).length<=7:=by
    rw[<- Qs,zh3 (k:=a.toNat) (by lia) (by lia),eI]
    have:=Qs Hy;lia
   rw[<- Qs,zja,aM,Qs];show _+1+_<=_
   lia
  ·have e:(cutS Hy none (some a)++(⟨#[97+((first+step*(0+(i:Int))) % 26).toNat]⟩:Str)++cutS Hy (some a) none)=nmL Hy.cps.toList a.toNat (97+((first+step*(i:Int)) % 26).toNat):=by
    apply L2.Str.ext';rw[zja,zja,zeW (k:=a.toNat) (by lia),zh3 (k:=a.toNat) (by lia) (by lia),Int.zero_add]
    rfl
   rw[e];exact Y
 ·have e:((fD many.toNat).map fun(i:Nat)=>gm (nmL Hy.cps.toList a.toNat (97+((first+step*(i:Int)) % 26).toNat)))=((fD many.toNat).map fun(i:Nat)=>nmL Hy.cps.toList a.toNat (97+((first+step*(i:Int)) % 26).toNat)).map .str:=by rw[dO];rfl
  rw[e];have J:∀i:Nat,0<=(first+step*(i:Int)) % 26/\(first+step*(i:Int)) % 26<26:=fun i=>⟨iJ _ (by decide),gQ _ (by decide)⟩
  refine h _ (by simp) (fun s U=>?_) (fun s U=>?_) ?_
  ·obtain⟨i,hi,rfl⟩:=aZ.mp U;have:=J i;have:=Qs Hy;exact zsW (by lia) I (by lia)
  ·obtain⟨i,hi,rfl⟩:=aZ.mp U;rw[v];exact zsV
  ·rw[List.Nodup,ee];refine gJ ?_ (List.nodup_range (n:=many.toNat));intro i j hi hj ne e;have hi:=gV.mp hi;have hj:=gV.mp hj;have e':=zqm e;have:=J i;have:=J j;have:=zmN C (first:=first) (i:=i) (j:=j) (by lia) (by lia) (by lia) (by lia) (by lia)
   exact ne (by lia)
def zeL:GD:=fun ts n R=>∃(bits most:Int) (u:List Str),ts=[HAND,.int bits,.list (nD u),.int most]/\1<=bits/\bits<=64/\0<=most/\most<64/\u≠[]/\u.length<=1000/\(∀s∈u,IsNm s)/\n<=1000000000000 - 200000 /\
 ∀(d:Deal) (m:Nat),Dl d->d.1=bits->d.2.1.length<=most.toNat->d.2.2.length<=most.toNat->(∀p∈d.2.1++d.2.2,p.2∈u)->m<=n+10000->R (dlD d) m
theorem ze5{bits most:Int}{u:List Str}{n:Nat}{R:qN}(y:1<=bits)(x:bits<=64)(m0:0<=most)(m1:most<64)(ne:u≠[])(l:u.length<=1000)(C:∀s∈u,IsNm s)(v:n<=1000000000000 - 200000)
 (h:∀(d:Deal) (m:Nat),Dl d->d.1=bits->d.2.1.length<=most.toNat->d.2.2.length<=most.toNat->(∀p∈d.2.1++d.2.2,p.2∈u)->m<=n+10000->R (dlD d) m):zeL [HAND,.int bits,.list (nD u),.int most] n R:=⟨bits,most,u,rfl,y,x,m0,m1,ne,l,C,v,h⟩
def zep(Z:ZZ):Prop:=FQ Z "_law_deal" (top 66) ["_law_hand_here","_law_bits_here","_law_names_here","_law_most"] 7 (spD Z.K 4 zeL)
theorem zho(D:Dq Z.K Z.mg "_law_deal" (top 66) ["_law_hand_here","_law_bits_here","_law_names_here","_law_most"]) (HH:zdH Z) (Hv:U8 Z) (Hu:Yc Z) (T:Txt Z.mg):zep Z:=by
 refine' okQ D (fnS (N:=["_law_hand_here","_law_bits_here","_law_names_here","_law_most","_law_outs","_law_kept","_law_block_here","_law_name","_law_size","_law_there"]) (by decide +kernel)) rfl fun f cdv A outer s H E Y=>⟨_,(Jb (ziZ (zgC (i:=4) (ndB rfl) rfl (cY rfl) (own:=["_law_block_here"]) (capt:=[0,2]) rfl (JN.of rfl) (dil (Ud (Jf HH Y (dbv 0 (dbv 1 (dbv 3 Ja)))))) (fun _ _ _ _=>(dgv 0 (ndB rfl))) (by decide) (fun _ _ _ _=>VJ) (fun _ _ _ _=>(Je (dbv 0 (dbc (Jf Hv Y (dbv 1 (dbv 2 Ja))) Ja)))))) (Jb (Qm (i:=5) (ndB rfl) rfl (cY rfl) (Jz Ja)) (Jb (Q0 cG rfl (Ud (Jf HH Y (dbv 0 (dbv 1 (dbv 3 Ja))))) (dgv 6 (ndB rfl)) (Jb (dsv 7 (ndB rfl) (Jf Hv Y (dbv 0 (dbv 2 Ja)))) (Jb (dsv 8 (ndB rfl) (JZ dli (dl (Ji (dlv 6) dli)))) (Jb (ziZ (zgC (i:=9) (ndB rfl) rfl (cY rfl) (own:=["_law_one"]) (capt:=[8,6]) rfl (JN.of rfl) (dil (U3 (Jk 4))) (fun _ _ _ _=>(dgv 0 (ndB rfl))) (by decide) (fun _ _ _ _=>(VD (Qr (ZJ (Jq (QE Y) QC (dl (Ji (dl (Ji (dlv 0) dli)) dli)) (dl (JO (dl (Ji (dlv 2) dli)) (dlv 1))) (Jl _)) (Z9 (Jq (QE Y) QC (dl (Ji (dlv 2) dli)) (dl (JO (dl (Ji (dl (Ji (dlv 0) dli)) dli)) (dl (JZ dli (dl (Ji (dl (Ji (dlv 0) dli)) dli)))))) (Jl _))))))) (fun _ _ _ _=>(Jk 0)))) (Jb (Jt (Qr (QM (Jq (Q4 Y) QU (dlv 9) (dl (Jo (Jz Ja))) (Jl _)) (Ue (Jq (Q4 Y) QU (dl (Jf Hu Y (dbv 0 (dbc Jd Ja)))) dli (Jl _))))) (Jc (dsv 7 (ndB rfl) (Ji (dl (Jo (QZ (dl (Jo (dnc ["_law_one"] [] (dil (U3 (Jk 9))) (fun _ _ _ _=>(dgv 0 (ndB rfl))) (fun _ _ _ _=>(Ji (dlv 0) dli))))) (dl (Jo (Jz (dbv 7 Ja))))))) dli))) Jw) (Jc (Jt (Jq (Q4 Y) QU (dl (Jo (dnf ["_law_one"] [7] (dil (U3 (Jk 9))) (fun _ _ _ _=>(dgv 0 (ndB rfl))) (fun _ _ _ _=>(VD (Jq (QW Y) QV (dl (Ji (dlv 0) dli)) (dlv 1) (Jl _)))) (fun _ _ _ _=>(Jk 0))))) (dl (Jo (Jz Ja))) (Jl _)) (Jc (Qp 5 (Je (dbv 6 (dbv 7 Ja))))) Jw))))))) (Ut 5 (Jc (Jh (Je (dbv 1 (dbc (Uy UM UK T.tup Ub (Js (dlv 4) JA Ju)) (dbc (Uy UM UK T.tup Ub (Js (dlv 5) JA Ju)) Ja)))))))))),?_⟩
 intro ts n R hl h;obtain⟨bits,most,I,rfl,b0,b1,m0,m1,ne,l,hm,hn,h⟩:=h;have pick:∀{n:Nat} {Q:qN},n<=1000000000000->(∀s∈I,Q (.str s) (n+1))->Zd [HAND,.list (nD I)] n Q:=fun {n Q} hn J=>Vh (by intro z;cases I with|nil=>exact ne rfl|cons a b=>cases z) (by simp[nD];lia) hn fun x hx=>by
  obtain⟨s,hs,rfl⟩:=aZ.mp hx;exact J s hs
 wp_walk using zdV b0 b1 m0 m1 ?_ (fun bs m P hlen hm1=>?_)
 ·lia
 refine zmT (fun j acc m'=>m'=m+j/\∃os:List ((Int×Int)×Str),acc=oD os/\os.map (·.1)=bs.take j/\∀p∈os,p.2∈I) ⟨rfl,[],rfl,by simp,fun p C=>nomatch C⟩ ?_ ?_
 ·rintro j x acc m' K ej ⟨rfl,os,rfl,e1,e2⟩ hK;obtain⟨i,g,eb,rfl⟩:=ZG ej;have jl:=(az.mp eb).1;have lo:os.length=j:=by
   have:=congrArg dQ e1;simp at this;lia
  wp_walk using pick ?_ (fun s hs=>?_)
  ·lia
  ·rw[U2];lia
  ·refine hK _ _ ⟨by lia,os++[((i,g),s)],by simp[oD],?_,?_⟩
   ·rw[fN,e1,dU,eb];rfl
   ·intro p C;rcases av.mp C with z|z
    ·exact e2 p z
    ·cases aB.mp z;exact hs
 ·rintro acc m' ⟨rfl,os,rfl,e1,e2⟩;rw[JJ,fv]at e1
  wp_walk using zdV b0 b1 m0 m1 ?_ (fun cs m2 P2 hlen2 hm2=>?_)
  ·rw[JJ];lia
  rw[JJ]at hm2;have lo:os.length=bs.length:=by rw[<- ba (f:=(·.1)),e1]
  have Bo:∀p∈os,IsBk bits p.1.1 p.1.2:=fun p C=>P.1 _ (by rw[<- e1];exact aZ.mpr ⟨p,C,rfl⟩)
  refine zub 5 6 7 8 9 (fun k a5 _ _ _ _ m'=>m'<=m2+2*k/\∃L:List ((Int×Int)×Str),a5=some (.own (oD L))/\(L.map (·.1)).Sublist (cs.take k)/\(∀q∈L,q.2∈I)/\Agr os L) ⟨by lia,[],rfl,by simp,fun q J=>(nomatch J),fun p C q J=>(nomatch J)⟩ ?_ ?_
  ·rintro k t a5 a6 a7 a8 a9 m' K RT BK et ⟨hm',L,rfl,sb,kn,ag⟩ hK hRT hBK;obtain⟨i,g,eb,rfl⟩:=ZG et;have kl:=(az.mp eb).1;have Bb:=P2.1 _ (aX eb);have g0:0<=g:=Bb.1;have g1:g<=bits:=Bb.2.1;have pg:=QH g.toNat;have tk:cs.take (k+1)=cs.take k++[(i,g)]:=by rw[dU,eb];rfl
   have lks:L.length<=64:=by
    have:=sb.length_le;simp at this;lia
   have skip:∀(G:Nat) (b6 b7 b8 b9:Option Cell),G<=m'+2->K [some (.val HAND),some (.val (.int bits)),some (.val (.list (nD I))),some (.val (.int most)),some (.val (.list (oD os))),some (.own (oD L)),b6,b7,b8,b9] G:=fun G b6 b7 b8 b9 h2 =>
    hK _ _ _ _ _ _ ⟨by lia,L,rfl,by rw[tk];exact sb.trans (List.sublist_append_left _ _),kn,ag⟩
   have put:∀(G:Nat) (b6 b7 b8 b9:Option Cell) (s:Str),G<=m'+2->s∈I->(∀p∈os,p.1.1<i+2 ^ g.toNat->i<p.1.1+2 ^ p.1.2.toNat->p.2=s)->K [some (.val HAND),some (.val (.int bits)),some (.val (.list (nD I))),some (.val (.int most)),some (.val (.list (oD os))),some (.own (oD L++[.tuple [.tuple [.int i,.int g],.str s]])),b6,b7,b8,b9] G:=fun G b6 b7 b8 b9 s h2 hs al =>
    hK _ _ _ _ _ _ ⟨by lia,L++[((i,g),s)],by simp[oD],by rw[tk,fN];exact sb.append (xS _),(fun q J=>by
     rcases av.mp J with z|z
     ·exact kn q z
     ·cases aB.mp z;exact hs),fun p C q J=>by
     rcases av.mp J with z|z
     ·exact ag p C q z
     ·cases aB.mp z
      by_cases y:p.1.1<i+2 ^ g.toNat/\i<p.1.1+2 ^ p.1.2.toNat
      ·exact .inl (al p C y.1 y.2)
      ·right
       show eB p.1<=i\/i+2 ^ g.toNat<=p.1.1
       unfold eB;lia⟩
   wp_walk using pick ?_ (fun s hs=>?_)
   ·lia
   ·exact cpow (by lia) (by lia)
   refine Wf (cs:=os) (D:=fun p=>.tuple [prD p.1,.str p.2]) (fun p=>decide (p.1.1<i+2 ^ g.toNat)&&decide (i<p.1.1+2 ^ p.1.2.toNat)) (fun p=>.tuple [prD p.1,.str p.2]) (by lia) ?_ ?_
   ·intro p C K2 X2 U hX2;have Bp:=Bo p C;have p0:=Bp.1;have p1:=Bp.2.1
    wp_walk
    ·exact cpow (by lia) (by lia)
    all_goals simp only[QJ]at *
    ·rename_i y;exact U (by rw[decide_eq_true y,decide_eq_true hc];rfl)
    ·exact hX2 (by rw[decide_eq_false hc,eT])
    ·exact hX2 (by rw[decide_eq_false hc,bN])
   ·rw[show((os.filter fun p=>decide (p.1.1<i+2 ^ g.toNat)&&decide (i<p.1.1+2 ^ p.1.2.toNat)).map fun p=>nT [prD p.1,gm p.2])=oD (os.filter fun p=>decide (p.1.1<i+2 ^ g.toNat)&&decide (i<p.1.1+2 ^ p.1.2.toNat)) from rfl]
    generalize ets:(os.filter fun p=>decide (p.1.1<i+2 ^ g.toNat)&&decide (i<p.1.1+2 ^ p.1.2.toNat))=us
    have Kp:∀p∈us,p∈os:=fun p C=>by rw[<- ets]at C;exact(eD.mp C).1
    have uin:∀p∈os,p.1.1<i+2 ^ g.toNat->i<p.1.1+2 ^ p.1.2.toNat->p∈us:=fun p C y z=>by
     rw[<- ets];exact eD.mpr ⟨C,by rw[decide_eq_true y,decide_eq_true z];rfl⟩
    have lus:us.length<=64:=by
     have:=fV (fun p:(Int×Int)×Str=>decide (p.1.1<i+2 ^ g.toNat)&&decide (i<p.1.1+2 ^ p.1.2.toNat)) os
     rw[ets]at this;lia
    have ok3:∀vs:List ((Int×Int)×Str),(∀p∈vs,p∈os)->Okd (.list (oD vs)):=fun vs hv=>(zqe (k:=2) fun t ht=>by
     obtain⟨p,C,rfl⟩:=aZ.mp ht;refine zlN fun u hu=>?_
     simp only[ax,aR,or_false]at hu;rcases hu with rfl|rfl
     ·exact zsT
     ·exact(Vo (hm _ (e2 _ (hv p C)))).mono (by decide)).okd
    have tail:∀(G:Nat) (s':Str) (b8:Option Cell),G<=m'+2->s'∈I ->
      sIf (Uc (dOp oEq (dNew (dComp [aa "_law_one"].length [7] (dItL (dVar 9)) (Qk 0) (Uc (dOp oNe (dOp oIx (dVar 0) (dC (bU 1))) (dVar 1))) (dVar 0))) (dNew dNil))) (Y2 5 (dTup (Qi (dVar 6) (Qi (dVar 7) dNil)))) Vn { nx:=K,rt:=RT,bk:=BK,ct:=K }
       [some (.val HAND),some (.val (.int bits)),some (.val (.list (nD I))),some (.val (.int most)),some (.val (.list (oD os))),some (.own (oD L)),some (.val (.tuple [.int i,.int g])),some (.val (.str s')),b8,some (.val (.list (oD us)))] G:=by
     intro G s' b8 hm'' hs'
     wp_walk
     refine Wf (cs:=us) (D:=fun p=>.tuple [prD p.1,.str p.2]) (fun p=>!decide (p.2=s')) (fun p=>.tuple [prD p.1,.str p.2]) (by lia) ?_ ?_
     ·intro p C K2 X2 U hX2
      wp_walk
      ·exact hX2 (by rw[decide_eq_true hc];rfl)
      ·exact U (by rw[decide_eq_false hc];rfl)
     ·wp_walk
      ·exact ok3 _ fun p C=>Kp p (eD.mp C).1
      ·exact ziA
      ·rw[U2];lia
      ·rw[zov]at hc;refine put _ _ _ _ _ s' hm'' hs' fun p C y z=>?_
       by_cases w:p.2=s'
       ·exact w
       ·exfalso;have:p∈us.filter fun p=>!decide (p.2=s'):=eD.mpr ⟨uin p C y z,by rw[decide_eq_false w];rfl⟩
        have e0:us.filter (fun p=>!decide (p.2=s'))=[]:=by simpa using hc
        rw[e0]at this;cases this
      ·exact skip _ _ _ _ _ hm''
    have nm:∀{Q:af->Prop},(∀s'∈I,Q (.str s'))->oIx (.list ((us.map fun p=>gm p.2)++[.str s])) (.int 0) Q:=fun {Q} J=>by
     cases us with
     | nil=>exact zmb (J s hs)
     | cons u v=>exact zmb (J u.2 (e2 u (Kp u (by simp))))
    wp_walk using UA ?_ ?_ ?_ (fun r r0 r1=>?_),tail _ _ _ ?_ ?_
    all_goals first
     | exact ok3 _ Kp
     | exact ziA
     | exact hs
     | lia
     | skip
    all_goals
     refine Yb (cs:=us) (D:=fun p=>.tuple [prD p.1,.str p.2]) (fun p=>.str p.2) (by lia) ?_ ?_
     ·intro p C K2 X2 U
      wp_walk
      exact U
     ·wp_walk using nm (fun s' hs'=>?_),tail _ _ _ ?_ ?_
      ·simp;lia
      ·lia
      ·exact hs'
  ·rintro a5 a6 a7 a8 a9 m' ⟨hm',L,rfl,sb,kn,ag⟩;rw[JJ,fv]at sb
   wp_walk
   refine h (bits,os,L) _ ⟨b0,b1,⟨by rw[e1];exact P,fun p C=>hm _ (e2 p C)⟩,⟨⟨fun b hb=>P2.1 b (sb.subset hb),P2.2.sublist sb⟩,fun q J=>hm _ (kn q J)⟩,ag⟩ rfl (by show os.length<=_;lia) ?_ ?_ ?_
   ·have:=sb.length_le;rw[ba]at this;show L.length<=_
    lia
   ·intro p C;rcases av.mp C with z|z
    ·exact e2 p z
    ·exact kn p z
   ·rw[JJ]at hm';lia
def zeM:GD:=fun ts n R=>ts=[HAND]/\n<=1000000000000 - 400000/\∀(d:Deal) (v:List Str) (m:Nat),Dl d->v≠[]->v.length<=4->(∀s∈v,IsNm s)->(∀s∈v,s≠ZY)->d.2.1.length<=40->d.2.2.length<=40->(∀p∈d.2.1++d.2.2,p.2∈v)->m<=n+20000->R (.tuple [dlD d,.list (nD v)]) m
theorem zi7{n:Nat}{R:qN}(x:n<=1000000000000 - 400000)(h:∀(d:Deal) (v:List Str) (m:Nat),Dl d->v≠[]->v.length<=4->(∀s∈v,IsNm s)->(∀s∈v,s≠ZY)->d.2.1.length<=40->d.2.2.length<=40->(∀p∈d.2.1++d.2.2,p.2∈v)->m<=n+20000->R (.tuple [dlD d,.list (nD v)]) m):zeM [HAND] n R:=⟨rfl,x,h⟩
def zeq(Z:ZZ):Prop:=FQ Z "_law_case" (top 67) ["_law_hand_here"] 8 (spD Z.K 1 zeM)
theorem zhp(D:Dq Z.K Z.mg "_law_case" (top 67) ["_law_hand_here"]) (Ie:zer Z) (U:zdI Z) (Y:zep Z) (J:Yc Z) (T:Txt Z.mg):zeq Z:=by
 refine' okQ D (fnS (N:=["_law_hand_here","_law_bits_here","_law_names_here","_law_deal_here"]) (by decide +kernel)) rfl fun f cdv A outer s H E u=>⟨_,(Jb (dsv 1 (ndB rfl) (Jf Ie u (dbv 0 Ja))) (Jb (dsv 2 (ndB rfl) (Jf U u (dbv 0 (dbc (JO dli (dl (Jf J u (dbv 0 (dbc Jd Ja))))) Ja)))) (Jb (dsv 3 (ndB rfl) (Jf Y u (dbv 0 (dbv 1 (dbc (zus (Jo (zoB (dlv 2) Z7 (Z8 (UZ Jd)))) (UC (Jk 2))) (dbc (Ji (dl (Jo (Jz (dbc Jd (dbc Jd (dbc Jd (dbc Jd (dbc Jd (dbc Jd (dbc Jd (dbc Jd Ja))))))))))) (dl (Jf J u (dbv 0 (dbc Jd Ja))))) Ja)))))) (Jc (Jh (Je (dbv 3 (dbv 2 Ja)))))))),?_⟩
 intro ts n R hl h;obtain⟨rfl,hn,h⟩:=h;have ml:∀x∈[bU 5,bU 5,bU 5,bU 5,bU 5,bU 5,bU 5,bU 40],∃most:Int,x=.int most/\0<=most/\most<=40:=fun x hx=>by
  simp only[ax,aR,or_false]at hx;rcases hx with rfl|rfl|rfl|rfl|rfl|rfl|rfl|rfl <;> exact⟨_,rfl,by decide,by decide⟩
 wp_walk using zi8 ?_ (fun bits C L=>?_),UA ?_ ?_ ?_ (fun r r0 r1=>?_),zif ?_ ?_ ?_ (fun l nl v G nd=>?_)
 all_goals first|lia|exact cpow (by lia) (by lia)|(simp;done)|skip
 all_goals
  have ne:l≠[]:=fun z=>by rw[z]at nl;simp at nl;lia
  refine ztt (by lia) (by simp;lia) fun x hx=>?_
  obtain⟨most,rfl,m0,m1⟩:=ml x hx
  wp_walk
 ·refine ze5 C L m0 (by lia) ne (by lia) v (by lia) fun d m D e S l2 pn hm=>?_
  wp_walk
  exact h d l m D ne (by lia) v G (by lia) (by lia) pn (by lia)
 ·have e0:cutD (nB gm l) none (some (-1))=nD (l.take (l.length - 1)):=by
   rw[zoI,ba,<- List.map_take];rfl
  rw[e0]at hc ⊢;have I:∀s∈l.take (l.length - 1),s∈l:=fun s y=>dW y
  refine ze5 C L m0 (by lia) (fun z=>by rw[z]at hc;cases hc) (by simp;lia) (fun s y=>v s (I s y)) (by lia) fun d m D e S l2 pn hm=>?_
  wp_walk
  exact h d l m D ne (by lia) v G (by lia) (by lia) (fun p hp=>I _ (pn p hp)) (by lia)
def msg(c:Str):Str:=if c=aa "NoDeed" then aa "no deed" else if c=aa "NotTheirs" then aa "not theirs" else aa "no room"
def Wd:GD:=fun ts n R=>∃a b,ts=[a,b]/\ZK [a,b] n (fun _ m=>R .none m) fun c m=>c∈EXS/\R (.str (msg c)) m
theorem zcG{a b:af}{n:Nat}{R:qN}(h:ZK [a,b] n (fun _ m=>R .none m) fun c m=>c∈EXS/\R (.str (msg c)) m):Wd [a,b] n R:=⟨a,b,rfl,h⟩
def zcx(Z:ZZ):Prop:=FQ Z "_law_refused" (top 68) ["_law_deal_here","_law_deed"] 9 (spD Z.K 2 Wd)
theorem zeA(D:Dq Z.K Z.mg "_law_refused" (top 68) ["_law_deal_here","_law_deed"]) (L:zo2 Z) (x:QS Z.K Z.mg EXS EYS "DealError") (T:Txt Z.mg):zcx Z:=by
 refine' okQ D (fnS (N:=["_law_deal_here","_law_deed","_law_caught","e","_law_marks"]) (by decide +kernel)) rfl fun f J A outer s H E G=>⟨_,(Jb (dsv 2 (ndB rfl) QA) (Jb (zuj (i:=2) (ie:=3) L x.under G (ndB rfl) (dbv 0 (dbv 1 Ja))) (Jb (Jt (Jq zwe zwW (dlv 2) (dl QA) (Jl _)) (Jc (Jh QA)) Jw) (Jb (dsv 4 (ndB rfl) (Jo (Jz (dbc (zmF x (by decide +kernel) T.isi (Jk 2) Ju) (dbc (zmF x (by decide +kernel) T.isi (Jk 2) Ju) (dbc (zmF x (by decide +kernel) T.isi (Jk 2) Ju) Ja)))))) (Jb (Jt (Qr (QM (Jq (QW G) QV (dl (zoH (dlv 4))) dli (Jl _)) (QM (Qc (dl (zq5 x (by decide +kernel) (by decide +kernel) T.isi (Jk 2) Ju))) (Ue (Qw (Qc (dl (zut x T.isi T.vae (Jk 2) Ju)))))))) (Jc (Jh Jj)) Jw) (Jc (Jh (Ji (dl (Jo (Jz (dbc Jj (dbc Jj (dbc Jj Ja)))))) (dl (zmG (dlv 4))))))))))),?_⟩
 intro ts n R S h;obtain⟨a,b,rfl,h⟩:=h
 wp_walk
 ·rfl
 wp_walk
 refine zlS h (fun t m z=>?_) fun c m z=>⟨z.1,fun C I=>?_⟩
 ·wp_walk
  ·exact z
  ·exact absurd hc (by simp[isNone])
 ·obtain⟨u,z⟩:=z;have e:c=aa "NoDeed" \/ c=aa "NotTheirs" \/ c=aa "NoRoom":=by
   simpa[EXS] using u
  have y:(decide (c=aa "NoLine")||decide (c=aa "NoText"))=false:=by rcases e with rfl|rfl|rfl <;> decide +kernel
  change SetK 2 (some (.val (EXC C))) _ _ _
  wp_walk using isE u I ?_
  ·exact absurd hc (by simp[isNone,EXC])
  refine⟨[_,_,_],rfl,?_⟩
  wp_walk using isE u I ?_
  ·rw[y]at hc;cases hc
  ·change dVar 4 _ _ _
   wp_walk
   refine⟨[_,_,_],rfl,?_,(by simp),?_⟩
   ·rcases e with rfl|rfl|rfl <;> decide +kernel
   ·rcases e with rfl|rfl|rfl
    ·rw[show pV true [decide (aa "NoDeed" = aa "NoDeed"),decide (aa "NoDeed" = aa "NotTheirs"),decide (aa "NoDeed" = aa "NoRoom")]=0 from by decide +kernel]
     wp_walk
     exact z
    ·rw[show pV true [decide (aa "NotTheirs" = aa "NoDeed"),decide (aa "NotTheirs" = aa "NotTheirs"),decide (aa "NotTheirs" = aa "NoRoom")]=1 from by decide +kernel]
     wp_walk
     exact z
    ·rw[show pV true [decide (aa "NoRoom" = aa "NoDeed"),decide (aa "NoRoom" = aa "NotTheirs"),decide (aa "NoRoom" = aa "NoRoom")]=2 from by decide +kernel]
     wp_walk
     exact z
  ·exfalso;refine hc ?_;rcases e with rfl|rfl|rfl <;> decide +kernel
def isWd:af->Bool|.str w=>(getT JP w).isSome|_=>false
theorem zjL{bits:Int}{u nm:af}{ps:qD}(h:isWd u=false):dedD bits (.tuple (u::nm::ps))=false:=by
 cases u with
 | str w =>
  have h:(getT JP w).isSome=false:=h;have e:dedD bits (.tuple (.str w::nm::ps))=(nmD nm&&prtD bits w ps):=rfl;rw[e];unfold prtD;cases g:getT JP w with
  | none=>simp
  | some v=>rw[g]at h;cases h
 | _=>rfl
theorem VX{bits:Int}{u nm:af}{ps:qD}(h:nmD nm=false):dedD bits (.tuple (u::nm::ps))=false:=by
 cases u with
 | str w =>
  have e:dedD bits (.tuple (.str w::nm::ps))=(nmD nm&&prtD bits w ps):=rfl;rw[e,h,bN]
 | _=>rfl
theorem zoE{bits:Int}{w:Str}{nm:af}{ps:qD}(h:prtD bits w ps=false):dedD bits (.tuple (.str w::nm::ps))=false:=by
 have e:dedD bits (.tuple (.str w::nm::ps))=(nmD nm&&prtD bits w ps):=rfl;rw[e,h,eT]
theorem zll{bits:Int}{w:Str}{ps:qD}{u:List Str}(g:getT JP w=some u):prtD bits w ps=(decide (ps.length=u.length)&&((u.zip ps).all fun q=>ptD bits q.1 q.2)&&(decide (w≠aa "move")||hEq ps)):=by
 unfold prtD;rw[g]
theorem YA{bits:Int}{w:Str}{ps:qD}{u:List Str}(g:getT JP w=some u){q:Str×af}(m:q∈u.zip ps)(h:ptD bits q.1 q.2=false):prtD bits w ps=false:=by
 rw[zll g];have:((u.zip ps).all fun q=>ptD bits q.1 q.2)=false:=List.all_eq_false.mpr ⟨q,m,by simp[h]⟩
 rw[this,eT,bN]
theorem zfw{bits:Int}{d:af}:ptD bits (aa "height") d=htD bits d:=by unfold ptD;rw[if_pos rfl]
theorem zes{bits:Int}{d:af}:ptD bits (aa "address") d=adD bits d:=by unfold ptD;rw[if_neg (by decide +kernel),if_pos rfl]
theorem zeG:getT JP (aa "take")=some [aa "height"]:=by decide +kernel
theorem VI:getT JP (aa "near")=some [aa "height",aa "address"]:=by decide +kernel
theorem zqT:getT JP (aa "give")=some [aa "block"]:=by decide +kernel
theorem zqQ:getT JP (aa "grow")=some [aa "block"]:=by decide +kernel
theorem zqu:getT JP (aa "keep")=some [aa "block"]:=by decide +kernel
theorem zn6:getT JP (aa "loose")=some [aa "block"]:=by decide +kernel
theorem Q9{p:af->Prop}{xs ys:qD}(h:∀u∈xs,p u)(h':∀u∈ys,p u):∀u∈xs++ys,p u:=fun u v=>(av.mp v).elim (h u) (h' u)
theorem all_cons{p:af->Prop}{x:af}{ys:qD}(h:p x)(h':∀u∈ys,p u):∀u∈x::ys,p u:=fun u v=>(ax.mp v).elim (fun e=>e▸h) (h' u)
theorem all_nil{p:af->Prop}:∀u∈([]:qD),p u:=fun u h=>nomatch h
theorem zpL{bits:Int}{w:Str}{u:af}(g:getT JP w=some [aa "block"]) (h:Qj bits u=false):prtD bits w [u]=false:=YA g (q:=(aa "block",u)) (by simp) (Zh.trans h)
theorem zlm{bits:Int}{u v:af}(h:Qj bits v=false):prtD bits (aa "move") [u,v]=false:=YA VH (q:=(aa "block",v)) (by simp) (Zh.trans h)
theorem zsj{bits i h j g:Int}(ne:h≠g):prtD bits (aa "move") [.tuple [.int i,.int h],.tuple [.int j,.int g]]=false:=by
 rw[zll VH,decide_eq_false (fun z:aa "move" ≠ aa "move"=>z rfl)]
 have:hEq [.tuple [.int i,.int h],.tuple [.int j,.int g]]=false:=decide_eq_false ne;rw[this,r8,eT]
theorem Z0{bits:Int}{w:Str}{ps:qD}{l:List Str}(g:getT JP w=some l)(h:ps.length≠l.length):prtD bits w ps=false:=by
 rw[zll g,decide_eq_false h,bN,bN]
def Bad(bits:Int)(t:af):Prop:=PlnD t/\dedD bits t=false
theorem Qh{bits:Int}{w nm:Str}{ps:qD}(lw:w.length<=1000000)(x:IsNm nm)(y:ps.length<=4)(v:∀p∈ps,PlnD p)(h:prtD bits w ps=false):Bad bits (.tuple (.str w::.str nm::ps)) :=
 ⟨Q7 (by simp;lia) (Jm (Qn lw) (Jm (Qn (Yy x)) v)),zoE h⟩
theorem QP{i h:Int}:PlnD (.tuple [.int i,.int h]):=Q7 (by simp) (Jm JG (Jm JG JH))
theorem UY{w:Str}{nm x:af}(lw:w.length<=1000000)(v:PlnD nm)(hx:PlnD x):PlnD (.tuple [.str w,nm,x]):=Q7 (by simp) (Jm (Qn lw) (Jm v (Jm hx JH)))
theorem zo3{bits i:Int}(h:i<0\/bits<i):prtD bits (aa "take") [.int i]=false:=YA zeG (q:=(aa "height",.int i)) (by simp) (zfw.trans (by simp only[htD];simp;lia))
theorem zo4{bits i:Int}{x:af}(h:i<0\/1*2 ^ bits.toNat<=i):prtD bits (aa "near") [x,.int i]=false:=YA VI (q:=(aa "address",.int i)) (by simp) (zes.trans (by rw[cV]at h;simp only[adD];simp;lia))
def bad1(bits:Int)(nm:Str):List af:=[.none,.bool true,.int 0,.str (aa ""),.str (aa "take"),.list [],.dict [],.tuple [],.tuple [.str (aa "take")],.tuple [.str (aa "take"),.str nm],.tuple [.str (aa "take"),.str nm,.int (bits+1)]]
 ++ [.tuple [.str (aa "take"),.str nm,.int (-1)]]
 ++ [.tuple [.str (aa "take"),.str nm,.int 0,.int 0],.list [.str (aa "take"),.str nm,.int 0],.tuple [.str (aa "take"),.str (aa ""),.int 0],.tuple [.str (aa "take"),.str (aa "A"),.int 0],.tuple [.str (aa "take"),.none,.int 0]]
def bad2(bits:Int)(nm:Str):List af:=[.tuple [.str (aa "near"),.str nm,.int 0],.tuple [.str (aa "near"),.str nm,.int 0,.int (1*2 ^ bits.toNat)],.tuple [.str (aa "near"),.str nm,.int 0,.int (-1)],.tuple [.str (aa "near"),.str nm,.bool true,.int 0]]
 ++ [.tuple [.str (aa "near"),.str nm,.int 0,.none],.tuple [.str (aa "back")],.tuple [.str (aa "deal"),.str nm,.int 0],.tuple [.str (aa "Take"),.str nm,.int 0],.tuple [.tuple [.str (aa "take"),.str nm,.int 0]]]
theorem zrl{bits:Int}{nm:Str}(x:0<=bits)(v:IsNm nm):∀u∈bad1 bits nm,Bad bits u:=by
 have pn:PlnD (.str nm):=Qn (Yy v);have lt:(aa "take").length<=1000000:=by decide +kernel
 have tk:PlnD (.str (aa "take")):=Qn lt;refine Q9 (Q9 ?_ ?_) ?_
 ·exact all_cons ⟨Wb,rfl⟩ (all_cons ⟨zhb,rfl⟩ (all_cons ⟨JG,rfl⟩ (all_cons ⟨Qn (by decide +kernel),rfl⟩ (all_cons ⟨tk,rfl⟩ (all_cons ⟨zf8 (by simp) JH,rfl⟩ (all_cons ⟨zlq,rfl⟩ (all_cons ⟨Q7 (by simp) JH,rfl⟩ (all_cons ⟨Q7 (by simp) (Jm tk JH),rfl⟩
   (all_cons (Qh (ps:=[]) lt v (by simp) JH (Z0 zeG (by simp))) (all_cons (Qh (ps:=[_]) lt v (by simp) (Jm JG JH) (zo3 (by lia))) all_nil))))))))))
 ·exact all_cons (Qh (ps:=[_]) lt v (by simp) (Jm JG JH) (zo3 (by lia))) all_nil
 ·exact all_cons (Qh (ps:=[_,_]) lt v (by simp) (Jm JG (Jm JG JH)) (Z0 zeG (by simp))) (all_cons ⟨zf8 (by simp) (Jm tk (Jm pn (Jm JG JH))),rfl⟩ (all_cons ⟨UY lt (Qn (by decide +kernel)) JG,VX (by decide +kernel)⟩ (all_cons ⟨UY lt (Qn (by decide +kernel)) JG,VX (by decide +kernel)⟩ (all_cons ⟨UY lt Wb JG,VX rfl⟩ all_nil))))
theorem zrk{bits:Int}{nm:Str}(x:0<=bits)(v:IsNm nm):∀u∈bad2 bits nm,Bad bits u:=by
 have pn:PlnD (.str nm):=Qn (Yy v);have lt:(aa "near").length<=1000000:=by decide +kernel
 have p2:∀{i j:Int},∀t∈[bU i,bU j],PlnD t:=Jm JG (Jm JG JH);refine Q9 ?_ ?_
 ·exact all_cons (Qh (ps:=[_]) lt v (by simp) (Jm JG JH) (Z0 VI (by simp))) (all_cons (Qh (ps:=[_,_]) lt v (by simp) p2 (zo4 (by lia))) (all_cons (Qh (ps:=[_,_]) lt v (by simp) p2 (zo4 (by lia)))
   (all_cons (Qh (ps:=[_,_]) lt v (by simp) (Jm zhb (Jm JG JH)) (YA VI (q:=(aa "height",.bool true)) (by simp) (zfw.trans rfl))) all_nil)))
 ·exact all_cons (Qh (ps:=[_,_]) lt v (by simp) (Jm JG (Jm Wb JH)) (YA VI (q:=(aa "address",.none)) (by simp) (zes.trans rfl))) (all_cons ⟨Q7 (by simp) (Jm (Qn (by decide +kernel)) JH),rfl⟩ (all_cons ⟨UY (by decide +kernel) pn JG,zjL (by decide +kernel)⟩ (all_cons ⟨UY (by decide +kernel) pn JG,zjL (by decide +kernel)⟩
   (all_cons ⟨Q7 (by simp) (Jm (UY (by decide +kernel) pn JG) JH),rfl⟩ all_nil))))
def bad3(bits:Int)(nm w:Str)(i h:Int):List af:=[.tuple [.str w,.str nm,.int 0],.tuple [.str w,.str nm,.tuple [.int (1*2 ^ bits.toNat),.int 0]],.tuple [.str w,.str nm,.tuple [.int 0,.int (bits+1)]]]++[.tuple [.str w,.str nm,.tuple [.int 1,.int 1]]]
 ++ [.tuple [.str w,.str nm,.tuple [.int i,.int h],.int 0],.tuple [.str w,.none,.tuple [.int i,.int h]],.tuple [.str w,.str nm,.list [.int i,.int h]]]
theorem Vy{bits i h:Int}(v:0<=bits)(z:¬IsBk bits i h):Qj bits (.tuple [.int i,.int h])=false:=fZ.mpr fun e=>z ((Wa v).mp e)
theorem zrj{bits i h:Int}{nm w:Str}(y:0<=bits)(C:IsNm nm)(g:getT JP w=some [aa "block"]) (lt:w.length<=1000000):∀u∈bad3 bits nm w i h,Bad bits u:=by
 have pn:PlnD (.str nm):=Qn (Yy C);have v:∀{x:af},PlnD x->Qj bits x=false->Bad bits (.tuple [.str w,.str nm,x]):=fun hx z=>Qh (ps:=[_]) lt C (by simp) (Jm hx JH) (zpL g z)
 refine Q9 (Q9 ?_ ?_) ?_
 ·exact all_cons (v JG rfl) (all_cons (v QP (Vy y fun z=>by have:=(z.bounds y).2;rw[cV]at this;simp at this;lia)) (all_cons (v QP (Vy y fun z=>by have:=z.2.1;lia)) all_nil))
 ·exact all_cons (v QP (Vy y fun z=>by have:=zi9 z;simp at this)) all_nil
 ·exact all_cons (Qh (ps:=[_,_]) lt C (by simp) (Jm QP (Jm JG JH)) (Z0 g (by simp))) (all_cons ⟨UY lt Wb QP,VX rfl⟩ (all_cons (v (zf8 (by simp) (Jm JG (Jm JG JH))) rfl) all_nil))
def bad4(bits:Int)(nm:Str)(i h l:Int):List af:=[.tuple [.str (aa "move"),.str nm,.tuple [.int i,.int h]],.tuple [.str (aa "move"),.str nm,.tuple [.int i,.int h],.tuple [.int (1*2 ^ bits.toNat),.int h]]]++[.tuple [.str (aa "move"),.str nm,.tuple [.int i,.int h],.tuple [.int 0,.int l]],.tuple [.str (aa "move"),.str nm,.tuple [.int i,.int h],.int 0]]
theorem zm5{bits i h l:Int}{nm:Str}(x:0<=bits)(v:IsNm nm)(ne:h≠l):∀u∈bad4 bits nm i h l,Bad bits u:=by
 have lt:(aa "move").length<=1000000:=by decide +kernel
 refine Q9 ?_ ?_
 ·exact all_cons (Qh (ps:=[_]) lt v (by simp) (Jm QP JH) (Z0 VH (by simp))) (all_cons (Qh (ps:=[_,_]) lt v (by simp) (Jm QP (Jm QP JH)) (zlm (Vy x fun z=>by have:=(z.bounds x).2;have:=QH h.toNat;lia))) all_nil)
 ·exact all_cons (Qh (ps:=[_,_]) lt v (by simp) (Jm QP (Jm QP JH)) (zsj ne)) (all_cons (Qh (ps:=[_,_]) lt v (by simp) (Jm QP (Jm JG JH)) (zlm rfl)) all_nil)
def zeJ:GD:=fun ts n R=>∃(d:Deal) (nm:Str) (r:List Str),ts=[HAND,dlD d,.list (nD (nm::r))]/\1<=d.1/\d.1<=64/\IsNm nm/\r.length<=1000/\n<=1000000000000 - 1000/\∀v,(∀u∈v,Bad d.1 u)->R (.list v) (n+3)
theorem zi6{d:Deal}{nm:Str}{r:List Str}{n:Nat}{R:qN}(y:1<=d.1)(C:d.1<=64)(x:IsNm nm)(l:r.length<=1000)(ln:n<=1000000000000 - 1000)(h:∀v,(∀u∈v,Bad d.1 u)->R (.list v) (n+3)):zeJ [HAND,dlD d,.list (nD (nm::r))] n R:=⟨d,nm,r,rfl,y,C,x,l,ln,h⟩
def zem(Z:ZZ):Prop:=FQ Z "_law_some" (top 69) ["_law_hand_here","_law_deal_here","_law_names_here"] 4 (spD Z.K 3 zeJ)
theorem zhk(D:Dq Z.K Z.mg "_law_some" (top 69) ["_law_hand_here","_law_deal_here","_law_names_here"]) (Hw:We Z) (T:Txt Z.mg):zem Z:=by
 refine' okQ D (fnS (N:=["_law_hand_here","_law_deal_here","_law_names_here","_law_bits_here","_law_name","_law_begin","_law_height","_law_found","_law_word","_law_low"]) (by decide +kernel)) rfl fun f cdv A outer s H E hr=>⟨_,(Jb (zum (i:=3) (j:=4) rfl (ndB rfl) rfl rfl (by decide) rfl rfl (dbc (Ji (dlv 1) dli) (dbc (Ji (dlv 2) dli) Ja))) (Jb (QO (Jf Hw hr (dbv 0 (dbv 3 Ja))) (J1 rfl (Jp (dgv 5 (ndB rfl)) (Jp (dgv 6 (ndB rfl)) Qb)))) (Jb (Qm (i:=7) (ndB rfl) rfl (cY rfl) (Jz (dbc QA (dbc Qq (dbc Jd (dbc Jj (dbc Jj (dbc (Jo (Jz Ja)) (dbc zoG (dbc (Je Ja) (dbc (Je (dbc Jj Ja)) (dbc (Je (dbc Jj (dbv 4 Ja))) (dbc (Je (dbc Jj (dbv 4 (dbc (JO (dlv 3) dli) Ja)))) Ja))))))))))))) (Jb (Qp 7 (Je (dbc Jj (dbv 4 (dbc (UZ Jd) Ja))))) (Jb (Qm (i:=7) (ndB rfl) rfl (cY rfl) (QZ (QB 7) (dl (Jo (Jz (dbc (Je (dbc Jj (dbv 4 (dbc Jd (dbc Jd Ja))))) (dbc (Jo (Jz (dbc Jj (dbv 4 (dbc Jd Ja))))) (dbc (Je (dbc Jj (dbc Jj (dbc Jd Ja)))) (dbc (Je (dbc Jj (dbc Jj (dbc Jd Ja)))) (dbc (Je (dbc Jj (dbc QA (dbc Jd Ja)))) Ja)))))))))) (Jb (Qm (i:=7) (ndB rfl) rfl (cY rfl) (QZ (QB 7) (dl (Jo (Jz (dbc (Je (dbc Jj (dbv 4 (dbc Jd Ja)))) (dbc (Je (dbc Jj (dbv 4 (dbc Jd (dbc (JZ dli (dlv 3)) Ja))))) (dbc (Je (dbc Jj (dbv 4 (dbc Jd (dbc (UZ Jd) Ja))))) (dbc (Je (dbc Jj (dbv 4 (dbc Qq (dbc Jd Ja))))) Ja))))))))) (Jb (Qm (i:=7) (ndB rfl) rfl (cY rfl) (QZ (QB 7) (dl (Jo (Jz (dbc (Je (dbc Jj (dbv 4 (dbc Jd (dbc QA Ja))))) (dbc (Je (dbc Jj Ja)) (dbc (Je (dbc Jj (dbv 4 (dbc Jd Ja)))) (dbc (Je (dbc Jj (dbv 4 (dbc Jd Ja)))) (dbc (Je (dbc (Je (dbc Jj (dbv 4 (dbc Jd Ja)))) Ja)) Ja)))))))))) (Jb (Q0 cG rfl (Ud (Je (dbc Jj (dbc Jj (dbc Jj (dbc Jj Ja)))))) (dgv 8 (ndB rfl)) (Jb (Qm (i:=7) (ndB rfl) rfl (cY rfl) (QZ (QB 7) (dl (Jo (Jz (dbc (Je (dbv 8 (dbv 4 (dbc Jd Ja)))) (dbc (Je (dbv 8 (dbv 4 (dbc (Je (dbc (JZ dli (dlv 3)) (dbc Jd Ja))) Ja)))) (dbc (Je (dbv 8 (dbv 4 (dbc (Je (dbc Jd (dbc (JO (dlv 3) dli) Ja))) Ja)))) Ja)))))))) (Jb (Qp 7 (Je (dbv 8 (dbv 4 (dbc (Je (dbc Jd (dbc Jd Ja))) Ja))))) (Jc (Qm (i:=7) (ndB rfl) rfl (cY rfl) (QZ (QB 7) (dl (Jo (Jz (dbc (Je (dbv 8 (dbv 4 (dbc (Je (dbv 5 (dbv 6 Ja))) (dbc Jd Ja))))) (dbc (Je (dbv 8 (dbc QA (dbc (Je (dbv 5 (dbv 6 Ja))) Ja)))) (dbc (Je (dbv 8 (dbv 4 (dbc (Jo (Jz (dbv 5 (dbv 6 Ja)))) Ja)))) Ja)))))))))))) (Jb (Qm (i:=7) (ndB rfl) rfl (cY rfl) (QZ (QB 7) (dl (Jo (Jz (dbc (Je (dbc Jj (dbv 4 (dbc (Je (dbv 5 (dbv 6 Ja))) Ja)))) (dbc (Je (dbc Jj (dbv 4 (dbc (Je (dbv 5 (dbv 6 Ja))) (dbc (Je (dbc (JZ dli (dlv 3)) (dbv 6 Ja))) Ja))))) Ja))))))) (Jb (dsv 9 (ndB rfl) (zoF (Jq Zq gp_B (dlv 6) dli (Jl _)) (UD (dlv 6) dli) Jd)) (Ut 7 (Jc (Jh (Jo (QZ (dlv 7) (dl (Jo (Jz (dbc (Je (dbc Jj (dbv 4 (dbc (Je (dbv 5 (dbv 6 Ja))) (dbc (Je (dbc Jd (dbv 9 Ja))) Ja))))) (dbc (Je (dbc Jj (dbv 4 (dbc (Je (dbv 5 (dbv 6 Ja))) (dbc Jd Ja))))) Ja)))))))))))))))))))),?_⟩
 intro ts n R hl h;obtain⟨⟨bits,os,U⟩,nm,r,rfl,C,J,x,l,ln,h⟩:=h;have C:1<=bits:=C;have J:bits<=64:=J;have h:∀v,(∀u∈v,Bad bits u)->R (.list v) (n+3):=h;rw[show dlD (bits,os,U)=.tuple [.int bits,.tuple (oD os),.tuple (oD U)] from rfl,show nD (nm::r)=.str nm::nD r from rfl]
 wp_walk using zci C J ?_ (fun i g B=>?_)
 ·lia
 ·show 11<16777216;decide
 ·show 12+5<=16777216;decide
 ·exact cpow (by lia) (by lia)
 ·show 17+4<=16777216;decide
 ·show 21+5<=16777216;decide
 have e0:∀u∈bad1 bits nm++bad2 bits nm,Bad bits u:=Q9 (zrl (by lia) x) (zrk (by lia) x)
 refine zud 7 8 (fun j I _ m=>m=n+3/\∃v,I=some (.own v)/\v.length<=26+7*j/\∀u∈v,Bad bits u) ⟨rfl,bad1 bits nm++bad2 bits nm,rfl,aC _,e0⟩ ?_ ?_
 ·rintro j t I a8 m K RT BK L ⟨rfl,v,rfl,G,y⟩ hK hRT hBK;obtain⟨w,rfl,wk,Y⟩:∃w:Str,t=.str w/\getT JP w=some [aa "block"]/\w.length<=1000000:=by
   have z:=aX L;simp only[ax,aR,or_false]at z;rcases z with rfl|rfl|rfl|rfl
   ·exact⟨_,rfl,zqT,by decide +kernel⟩
   ·exact⟨_,rfl,zqQ,by decide +kernel⟩
   ·exact⟨_,rfl,zqu,by decide +kernel⟩
   ·exact⟨_,rfl,zn6,by decide +kernel⟩
  have S:=(az.mp L).1;have S:j<4:=S
  wp_walk
  ·exact cpow (by lia) (by lia)
  ·show v.length+3<=16777216;lia
  ·rw[aM];show v.length+3<16777216;lia
  ·rw[aM,aM];show v.length+3+1+3<=16777216;lia
  ·refine hK _ _ _ ⟨rfl,v++bad3 bits nm w i g,by simp only[bad3,bp],by rw[aM];show v.length+7<=_;lia,Q9 y (zrj (by lia) x wk Y)⟩
 ·rintro I a8 m ⟨rfl,v,rfl,G,y⟩;have G:v.length<=26+7*4:=G
  wp_walk
  ·exact cpow (by lia) (by lia)
  ·show v.length+2<=16777216;lia
  ·rw[aM];show v.length+2+2<=16777216;lia
  ·rw[bp];exact h _ (Q9 y (zm5 (by lia) x (by lia)))
  ·rw[aM];show v.length+2+2<=16777216;lia
  ·rw[bp];exact h _ (Q9 y (zm5 (by lia) x (by lia)))
def ZD(bits:Int)(u:af):Prop:=∃b:Int×Int,IsBk bits b.1 b.2/\(u=.tuple [.str (aa "grow"),.str (aa "zyzy"),.tuple [.int b.1,.int b.2]]\/u=.tuple [.str (aa "move"),.str (aa "zyzy"),.tuple [.int b.1,.int b.2],.tuple [.int b.1,.int b.2]])
def zc8:GD:=fun ts n R=>∃(d:Deal),ts=[dlD d]/\Dl d/\d.2.1.length<=40/\d.2.2.length<=40/\∀v,(∀u∈v,ZD d.1 u)->R (.list v) n
theorem zgH{d:Deal}{n:Nat}{R:qN}(D:Dl d)(x:d.2.1.length<=40)(l2:d.2.2.length<=40)(h:∀v,(∀u∈v,ZD d.1 u)->R (.list v) n):zc8 [dlD d] n R:=⟨d,rfl,D,x,l2,h⟩
def zcZ(Z:ZZ):Prop:=FQ Z "_law_others" (top 70) ["_law_deal_here"] 1 (spD Z.K 1 zc8)
theorem zfb(D:Dq Z.K Z.mg "_law_others" (top 70) ["_law_deal_here"]) (T:Txt Z.mg):zcZ Z:=by
 refine' okQ D (fnS (N:=["_law_deal_here","_law_found","_law_block_here","_law_name"]) (by decide +kernel)) rfl fun f Y A outer s H E hr=>⟨_,(Jb (Qm (i:=1) (ndB rfl) rfl (cY rfl) (Jz Ja)) (Jb (Q0 cG rfl (Ud (JO (dl (Ji (dlv 0) dli)) (dl (Ji (dlv 0) dli)))) (J1 rfl (Jp (dgv 2 (ndB rfl)) (Jp (dgv 3 (ndB rfl)) Qb))) (Jb (Qp 1 (Je (dbc Jj (dbc Jj (dbv 2 (dbv 2 Ja)))))) (Jc (Qp 1 (Je (dbc Jj (dbc Jj (dbv 2 Ja)))))))) (Ut 1 (Jc (Jh (Jo (QZ (dlv 1) (dl (Jo (Jz (dbc (Je (dbc Jj (dbc Jj (dbc (Je (dbc Jd (dbc (Ji (dlv 0) dli) Ja))) Ja)))) (dbc (Je (dbc Jj (dbc Jj (dbc (Je (dbc Jd (dbc (Ji (dlv 0) dli) Ja))) (dbc (Je (dbc Jd (dbc (Ji (dlv 0) dli) Ja))) Ja))))) Ja)))))))))))),?_⟩
 intro ts n R hl h;obtain⟨⟨bits,os,x⟩,rfl,D,I,l2,h⟩:=h;have b0:1<=bits:=D.1;have b1:bits<=64:=D.2.1;have I:os.length<=40:=I;have l2:x.length<=40:=l2;have h:∀v,(∀u∈v,ZD bits u)->R (.list v) n:=h;have bk:∀t∈oD os++oD x,∃p:NP,t=.tuple [prD p.1,.str p.2]/\IsBk bits p.1.1 p.1.2:=fun t S=>by
  rcases av.mp S with z|z
  ·obtain⟨p,C,rfl⟩:=aZ.mp z;exact⟨p,rfl,D.2.2.1.1.1 _ (aZ.mpr ⟨p,C,rfl⟩)⟩
  ·obtain⟨p,C,rfl⟩:=aZ.mp z;exact⟨p,rfl,D.2.2.2.1.1.1 _ (aZ.mpr ⟨p,C,rfl⟩)⟩
 have lt:(oD os++oD x).length<=80:=by rw[aM,U2,U2];lia
 have L:IsBk bits 0 bits:=⟨by lia,aY _,0,aY _,by simp,by simp⟩
 rw[show dlD (bits,os,x)=.tuple [.int bits,.tuple (oD os),.tuple (oD x)] from rfl]
 wp_walk
 ·rw[U2,U2];lia
 refine zuc 1 2 3 (fun j a1 _ _ m=>m=n/\∃v,a1=some (.own v)/\v.length<=2*j/\∀u∈v,ZD bits u) ⟨rfl,[],rfl,by simp,by simp⟩ ?_ ?_
 ·rintro j t a1 a2 a3 m K RT BK J ⟨rfl,v,rfl,U,y⟩ hK hRT hBK;have jl:=(az.mp J).1;obtain⟨p,rfl,B⟩:=bk t (aX J)
  wp_walk
  ·lia
  ·rw[aM];show v.length+1<_;lia
  ·exact hK _ _ _ _ ⟨rfl,_,rfl,by rw[aM,aM];show v.length+1+1<=_;lia,fun u G=>by
    rcases av.mp G with z|z
    ·rcases av.mp z with z|z
     ·exact y u z
     ·cases aB.mp z;exact⟨p.1,B,.inr rfl⟩
    ·cases aB.mp z;exact⟨p.1,B,.inl rfl⟩⟩
 ·rintro a1 a2 a3 m ⟨rfl,v,rfl,U,y⟩
  wp_walk
  ·show v.length+2<=_;lia
  ·exact h _ fun u G=>by
    rcases av.mp G with z|z
    ·exact y u z
    ·simp only[ax,aR,or_false]at z;rcases z with rfl|rfl
     ·exact⟨(0,bits),L,.inl rfl⟩
     ·exact⟨(0,bits),L,.inr rfl⟩
theorem zvl:IsNm (aa "zyzy"):=ziH.mp (by decide +kernel)
theorem zsS{f:ak}{fd:cR}(D:Def Z.K Z.mg "law" (top 71) ["_law_script"] f fd) (Ih:zeo Z) (Ii:zeq Z) (Ij:zem Z) (HN:zcZ Z) (HE:zcx Z) (T:Txt Z.mg):FnOk Z.P Z.w Z.K Z.mg Z.base CX0 10 f fd ["_law_script"] (spD Z.K 1 zt8):=by
 refine D.okD (fnS (N:=["_law_script","_law_k","_law_hand_here","_law_deal_here","_law_names_here","_law_kept","_law_thing","_law_deed"]) (by decide +kernel)) rfl fun cdv A outer s H E x=>?_
 refine'⟨_,(Jb (Q0 cG rfl (zeS T.ran (JQ (ze0 rfl) zmo T.max ze7 (Js dli (Js (dl (JQ (zeZ rfl) zmn T.min ze6 (Js dli (Js (dl (JQ Q6 Q3 T.len QR (Js (dlv 0) JA Ju))) JA Y3) zk0))) JA Y3) zk0))) (dgv 1 (ndB rfl)) (zmy (i:=2) (j:=1) Ih x (ndB rfl) rfl (cY rfl) (Jb (QO (Jf Ii x (dbv 2 Ja)) (J1 rfl (Jp (dgv 3 (ndB rfl)) (Jp (dgv 4 (ndB rfl)) Qb)))) (Jb (dsv 5 (ndB rfl) (JQ (zfV x) zmm T.rep zfY (Js (dlv 3) JA Ju))) (Jb (Q0 cG rfl (U3 (Jf Ij x (dbv 2 (dbv 3 (dbv 4 Ja))))) (dgv 6 (ndB rfl)) (Jc (Jt (Jq (QW x) QV (dl (Jf HE x (dbv 3 (dbv 6 Ja)))) (dl Jj) (Jl _)) (Jc (Jh Qq)) Jw))) (Jb (Q0 cG rfl (U3 (Jf HN x (dbv 3 Ja))) (dgv 7 (ndB rfl)) (Jc (Jt (Jq (QW x) QV (dl (Jf HE x (dbv 3 (dbv 7 Ja)))) (dl Jj) (Jl _)) (Jc (Jh Qq)) Jw))) (Jc (Jt (Jq (QW x) QV (dl (JQ (zfV x) zmm T.rep zfY (Js (dlv 3) JA Ju))) (dlv 5) (Jl _)) (Jc (Jh Qq)) Jw)))))))) (Jc (Jh Qq))),?_⟩
 intro ts n R hl hh;obtain⟨ns,rfl,L,hh⟩:=hh
 wp_walk
 ·split <;> (try split) <;> lia
 ·split <;> (try split) <;> lia
 refine UJ (fun _ ρ m=>∃a1 a2 a3 a4 a5 G U,ρ=[some (.val (SCR ns)),a1,a2,a3,a4,a5,G,U]/\m=n) ⟨_,_,_,_,_,_,_,rfl,rfl⟩ ?_ ?_
 ·rintro k t ρ m K et ⟨a1,a2,a3,a4,a5,G,U,rfl,rfl⟩ hK;obtain⟨hk,rfl⟩:=zft et;have hk8:k<8:=by
   revert hk;split <;> (try split) <;> lia
  with_reducible refine Stp.go ?_
  refine zol L (by lia) (by lia) fun NX RT BK CT Y hRT hBK hCT=>?_
  wp_walk using zi7 ?_ (fun d S m3 D ne ln nk nz l1 l2 nin hm3=>?_)
  ·lia
  ·exact zoV (a:=40) (b:=40) (by decide) D.1 D.2.1 D.o l1 D.k l2
  have sd:Shd (dlD d):=zoV (a:=40) (b:=40) (by decide) D.1 D.2.1 D.o l1 D.k l2
  have rb:∀{u:af} {n:Nat} {R:qN},Bad d.1 u->R (.str (aa "no deed")) n->Wd [dlD d,u] n R:=fun {u n R} h z=>zcG ⟨d,u,rfl,D,.inl ⟨h.1,h.2,by decide +kernel,by rw[show msg (aa "NoDeed")=aa "no deed" from by decide +kernel];exact z⟩⟩
  have rz:∀{u:af} {n:Nat} {R:qN},ZD d.1 u->R (.str (aa "not theirs")) n->Wd [dlD d,u] n R:=fun {u n R} h z=>by
   obtain⟨b,B,h⟩:=h;exact zcG ⟨d,u,rfl,D,.inr ⟨aa "zyzy",b,zvl,B,by lia,fun hm=>nz _ (nin _ (av.mpr (.inl hm))) rfl,⟨by decide +kernel,by rw[show msg (aa "NotTheirs")=aa "not theirs" from by decide +kernel];exact z⟩,h⟩⟩
  obtain⟨s0,r0,rfl⟩:∃s r,S=s::r:=by
   cases S with
   | nil=>exact absurd rfl ne
   | cons s r=>exact⟨s,r,rfl⟩
  have c0:1<=d.1:=D.1;have c1:d.1<=64:=D.2.1;have c2:IsNm s0:=nk s0 (.head _)
  wp_walk using zi6 c0 c1 c2 ?_ ?_ (fun us hu=>?_)
  ·rw[aN]at ln;lia
  ·lia
  refine zpj 6 (fun j _ m=>m=m3+3) rfl ?_ ?_
  ·rintro j t G m' K2 RT2 BK2 C rfl y I J;have hb:=hu t (aX C)
   wp_walk using rb hb ?_
   ·exact y _ _ rfl
   ·exact absurd rfl hc
  ·rintro G m' rfl
   wp_walk using zgH D l1 l2 (fun vs hv=>?_)
   refine zpj 7 (fun j _ m=>m=m3+3) rfl ?_ ?_
   ·rintro j t U m' K2 RT2 BK2 C rfl y I J;have hb:=hv t (aX C)
    wp_walk using rz hb ?_
    ·exact y _ _ rfl
    ·exact absurd rfl hc
   ·rintro U m' rfl
    wp_walk
    ·exact sd
    ·exact Y _ _ (hK _ _ ⟨_,_,_,_,_,_,_,rfl,rfl⟩)
    ·exact absurd rfl hc
 ·rintro ρ m ⟨a1,a2,a3,a4,a5,G,U,rfl,rfl⟩
  wp_walk
  exact hh _
end
section
open PySem.W PyProof.Rows
theorem zuC{IC:nR->Option ah}{mg mb:qM}{h:aW}{w:aT}{J:ak}(T0:iu qv (looseW qv [aa "DEEDS",aa "PARTS"]) IC mg mb h) (G:mg (defName (top 71))=some (.ref J)) (XT:TupsAre TL mg h) (XD:DctsAre PL FL mg h) (S:HshOk DL w h) (XE:ExcsAre EXS EYS (aa "DealError") mg h) :
  ∃fd:cR,(∀(s:aq) (v:ah),oZ s fd ⟨[v],[]⟩ [("_law_script",v)])/\∀base:aW,(JI h).In base->base.Ns mainGlobals mg->FnOk PySem.Challenge.rw_blockdeal_k30_no_deeds.prog w (JI h) mg base CX0 10 J fd ["_law_script"] (zpw (JI h)):=by
 have T:=zrC T0;have Iy:StD PySem.Challenge.rw_blockdeal_k30_no_deeds.prog w (JI h) mg (aa "PARTS") JP:=XD.st S T0.g (by repeat (first|exact .head _|refine .tail _ ?_)) (by repeat (first|exact .head _|refine .tail _ ?_)) (by decide +kernel)
 have IK:StF PySem.Challenge.rw_blockdeal_k30_no_deeds.prog w (JI h) mg (aa "DEEDS") ["take","near","give","grow","keep","loose","move"]:=XD.sf S T0.g (by repeat (first|exact .head _|refine .tail _ ?_)) (by repeat (first|exact .head _|refine .tail _ ?_)) (by decide +kernel)
 have IE:OwnE (JI h) mg (aa "NoDeed"):=zp3 T0 (by kernel_rfl)
 have R:OwnE (JI h) mg (aa "NoRoom"):=zp3 T0 (by kernel_rfl)
 have HB:OwnE (JI h) mg (aa "NotTheirs"):=zp3 T0 (by kernel_rfl)
 have Iw:QS (JI h) mg EXS EYS (aa "DealError"):=XE.ok;obtain⟨f,fd,DL⟩:=dq_g (x:="law") (ps:=["_law_script"]) T0 (zpa (i:=71) (by kernel_rfl)) (by kernel_rfl) fun _ _ _ _ _ _ us hl=>by obtain⟨_,rfl⟩:=len1 hl;rfl
 have e0:cA f=cA J:=aO (DL.m.symm.trans G);cases e0;refine⟨fd,fun s v=>?_,fun base _ _=>?_⟩
 ·obtain⟨oc,od,kV,doc,pm,an,cdv,ct,osl,rfl,_,_⟩:=DL.F.ex;exact .of_eq rfl
 let Z:ZZ:=⟨PySem.Challenge.rw_blockdeal_k30_no_deeds.prog,w,JI h,mg,base⟩
 have L:=ziC (Z:=Z) (dqG (i:=1) T0 (bnd1 fun _ _ _ _ _ _ _=>rfl))  T
 have Il:=ziD (Z:=Z) (dqG (i:=2) T0 (bnd2 fun _ _ _ _ _ _ _ _=>rfl)) L T
 have Io:=zj_ (Z:=Z) (dqG (i:=3) T0 (bnd1 fun _ _ _ _ _ _ _=>rfl))  T
 have HP:=zlM (Z:=Z) (dqG (i:=5) T0 (bnd2 fun _ _ _ _ _ _ _ _=>rfl))  T
 have IJ:=znX (Z:=Z) (dqG (i:=4) T0 (bnd2 fun _ _ _ _ _ _ _ _=>rfl)) HP T
 have HX:=zgb (Z:=Z) (dqG (i:=6) T0 (bnd1 fun _ _ _ _ _ _ _=>rfl))  T
 have Iq:=zkd (Z:=Z) (dqG (i:=8) T0 (bnd1 fun _ _ _ _ _ _ _=>rfl))  T
 have C:=zlL (Z:=Z) (dqG (i:=18) T0 (bnd1 fun _ _ _ _ _ _ _=>rfl)) Io T
 have HD:=zc4 (Z:=Z) (dqG (i:=19) T0 (bnd2 fun _ _ _ _ _ _ _ _=>rfl))  T
 have IQ:=zp_ (Z:=Z) (dqG (i:=11) T0 (bnd2 fun _ _ _ _ _ _ _ _=>rfl)) C HD T
 have HF:=ziB (Z:=Z) (dqG (i:=20) T0 (bnd1 fun _ _ _ _ _ _ _=>rfl)) IQ T
 have Y:=zka (Z:=Z) (dqG (i:=21) T0 (bnd1 fun _ _ _ _ _ _ _=>rfl)) C T
 have ID:=zlK (Z:=Z) (dqG (i:=10) T0 (bnd1 fun _ _ _ _ _ _ _=>rfl)) HF Y T
 have HS:=zgd (Z:=Z) (dqG (i:=22) T0 (bnd2 fun _ _ _ _ _ _ _ _=>rfl))  T
 have Ip:=zkb (Z:=Z) (dqG (i:=12) T0 (bnd2 fun _ _ _ _ _ _ _ _=>rfl)) HF HS Y T
 have Ik:=ziF (Z:=Z) (dqG (i:=17) T0 (bnd2 fun _ _ _ _ _ _ _ _=>rfl)) C T
 have HU:=zge (Z:=Z) (dqG (i:=14) T0 (bnd2 fun _ _ _ _ _ _ _ _=>rfl)) Ik T
 have HL:=zfa (Z:=Z) (dqG (i:=15) T0 (bnd2 fun _ _ _ _ _ _ _ _=>rfl)) HU IJ T
 have U:=zkf (Z:=Z) (dqG (i:=16) T0 (bnd2 fun _ _ _ _ _ _ _ _=>rfl)) HL T
 have HV:=zgf (Z:=Z) (dqG (i:=26) T0 (bnd1 fun _ _ _ _ _ _ _=>rfl))  T
 have Ia:=zhg (Z:=Z) (dqG (i:=28) T0 (bnd2 fun _ _ _ _ _ _ _ _=>rfl))  T
 have HG:=ziE (Z:=Z) (dqG (i:=25) T0 (bnd2 fun _ _ _ _ _ _ _ _=>rfl)) Ip ID HV Ia T
 have Ib:=zhh (Z:=Z) (dqG (i:=33) T0 (bnd2 fun _ _ _ _ _ _ _ _=>rfl)) L T
 have HW:=zgc (Z:=Z) (dqG (i:=34) T0 (bnd2 fun _ _ _ _ _ _ _ _=>rfl)) L T
 have Ir:=zkc (Z:=Z) (dqG (i:=32) T0 (bnd3 fun _ _ _ _ _ _ _ _ _=>rfl)) Il Ib HW T
 have Iu:=zke (Z:=Z) (dqG (i:=31) T0 (bnd2 fun _ _ _ _ _ _ _ _=>rfl)) Iq Ir Iy T
 have HA:=zhi (Z:=Z) (dqG (i:=55) T0 (bnd4 fun _ _ _ _ _ _ _ _ _ _=>rfl))  T
 have IR:=zqb (Z:=Z) (dqG (i:=46) T0 (bnd2 fun _ _ _ _ _ _ _ _=>rfl)) HP HA U HG HX R HB T
 have IS:=zqa (Z:=Z) (dqG (i:=49) T0 (bnd2 fun _ _ _ _ _ _ _ _=>rfl)) U HA HG R HB T
 have IU:=zqc (Z:=Z) (dqG (i:=51) T0 (bnd2 fun _ _ _ _ _ _ _ _=>rfl)) IR IS Iu IE IK T
 have Ih:=zga (Z:=Z) (dqG (i:=57) T0 (bnd2 fun _ _ _ _ _ _ _ _=>rfl))  T
 have u:=zf_ (Z:=Z) (dqG (i:=58) T0 (bnd2 fun _ _ _ _ _ _ _ _=>rfl))  T
 have y:=zhl (Z:=Z) (dqG (i:=59) T0 (bnd2 fun _ _ _ _ _ _ _ _=>rfl)) u T
 have Ie:=zhq (Z:=Z) (dqG (i:=60) T0 (bnd1 fun _ _ _ _ _ _ _=>rfl)) y T
 have N:=zgi (Z:=Z) (dqG (i:=61) T0 (bnd2 fun _ _ _ _ _ _ _ _=>rfl)) y u T
 have Ic:=zhm (Z:=Z) (dqG (i:=62) T0 (bnd3 fun _ _ _ _ _ _ _ _ _=>rfl)) y N T
 have HM:=zfc (Z:=Z) (dqG (i:=63) T0 (bnd3 fun _ _ _ _ _ _ _ _ _=>rfl)) u N Ic y T
 have HH:=zgg (Z:=Z) (dqG (i:=64) T0 (bnd3 fun _ _ _ _ _ _ _ _ _=>rfl)) HM T
 have HY:=zgh (Z:=Z) (dqG (i:=65) T0 (bnd2 fun _ _ _ _ _ _ _ _=>rfl)) u y T
 have Ig:=zho (Z:=Z) (dqG (i:=66) T0 (bnd4 fun _ _ _ _ _ _ _ _ _ _=>rfl)) HH y u T
 have Ii:=zhp (Z:=Z) (dqG (i:=67) T0 (bnd1 fun _ _ _ _ _ _ _=>rfl)) Ie HY Ig u T
 have HE:=zeA (Z:=Z) (dqG (i:=68) T0 (bnd2 fun _ _ _ _ _ _ _ _=>rfl)) IU Iw T
 have Ij:=zhk (Z:=Z) (dqG (i:=69) T0 (bnd3 fun _ _ _ _ _ _ _ _ _=>rfl)) N T
 have HN:=zfb (Z:=Z) (dqG (i:=70) T0 (bnd1 fun _ _ _ _ _ _ _=>rfl))  T
 exact(zsS (Z:=Z) DL Ih Ii Ij HN HE T).imp zqs
end
end Bd
open PySem PySem.W PyProof.Rows
set_option maxRecDepth 100000 in
set_option maxHeartbeats 0 in
theorem PySem.Challenge.cw_blockdeal_k30_no_deeds_holds : PySem.Challenge.rw_blockdeal_k30_no_deeds.Holds := by
 w_on
 refine holds_law Bd.zpA fun l=>?_
 refine holds_open (r:=PySem.Challenge.rw_blockdeal_k30_no_deeds.row) (d:=Bd.recD (Bd.top 71)) (kwd:=[]) Bd.zqq (YP:=Bd.HshOk Bd.DL) Bd.zt4 Bd.zop (XP:=fun mg h=>XL Bd.qv [] mg h/\Bd.TupsAre Bd.TL mg h/\Bd.DctsAre Bd.PL Bd.FL mg h/\Bd.ExcsAre Bd.EXS Bd.EYS (aa "DealError") mg h) (fun s e=>⟨xl_of s (bo.mp (bo.mp (bo.mp (bo.mp e).1).1).1).1,Bd.zrD (bo.mp (bo.mp (bo.mp e).1).1).2,Bd.zux (bo.mp (bo.mp e).1).2,Bd.zug (bo.mp e).2⟩) (fun mg h h' x k=>⟨XL.keeps mg h h' x.1 k,x.2.1.keeps k,x.2.2.1.keeps k,x.2.2.2.keeps k⟩) (by kernel_rfl) (by kernel_rfl) (by kernel_rfl) (fun s e=>recFacts_of (bo.mp (bo.mp (bo.mp (bo.mp e).1).1).1).2) (by kernel_rfl) l (by kernel_rfl) ⟨rfl,rfl,rfl,rfl,rfl,by decide +kernel⟩ ?hw ?hc
 case hw=>w_witness2
 case hc=>exact Bd.zvm (lw:=PySem.Challenge.rw_blockdeal_k30_no_deeds) (k:=10) (by decide) rfl rfl fun w s₀ mg y v h G Y u=>Bd.zuC G.T u G.X.2.1 G.X.2.2.1 Y G.X.2.2.2
