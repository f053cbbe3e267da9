import PyProof.Rows.All
import Wide.All
import OpenK.AllK
import Wide.FinOn
import Lean
import PyProof.EqAt
import PyProof.EqKinds
import PyProof.TupleCall
import PySem.Challenge.RW_blockdeal_k27_blocks_near
open PySem renaming wpAny_bind->aa,PyData->af,Value->ah,wpAny_pure->aj,Addr->aq,Shared->au,Program->aK,Heap->aN,Expr->aP,World->aQ,Around->br,wpAny_truthy_bool->bz,wpAny_holding->bO,FuncData->cP,wpAny_mono->cQ,wpAny_newObj_type->cR,wpAny_field->cS,wpAny_seqItems->cW,Paired->cZ,Stmt->dD,DictEntry->dG,wpAny_standAt->dM,wpAny_callSpecial?_slot->dR,wpAny_call_entry->eF,NameKind->eJ,wpAny_setField_rec->eK,wpAny_passesOwn->eP,wpAny_pyIter_list->eT,wpAny_rule->eX,mem_of_lookup->e9,OsState->fe,Scope->fv,wpAny_Call_Name_kw->fA,wpAny_execs_nil->fE,codeAny_builtin->fH,Builtin->fR,wpAny_typeOf->gi,wpAny_comprehension_free->gG,wpAny_letGo->gS,codeAny_mono->gU,wpAny_attempt->iA,wpAny_newList->iB,wpAny_onRaise->iD,wpAny_updateSeq_pair->iE,wpAny_loadPart'->iG,wpAny_pyIter_tuple->iZ,wpAny_tryCatch->ko,sizeLine_eq->kE,IsPart->kP,plainId_quiet->kR,wpAny_execs_cons->kW,noFill_tuple_add->kY,richCompare_meets_room->lE,codeAny_compStart_list->lJ,IsPair->lL,wpAny_updateSeq->lS,wpAny_isTrue_Compare1->lT,wpAny_bindName->l5,codeAny_call_builtin->mD,seq_tuple_add->mS,Result->mZ,wpAny_call->m5,wpAny_assign_Name->nu,concat_meets->nE,wpAny_sequenceKey->nF,seqIndex_neg->nG,slot_list_getitem->nH,codeAny_loop->nI,ExcName->nZ,PassesOwn->oa,wpAny_forIn_list->oi,wpAny_pyIter_zip->oA,wpAny_getItem_of->oC,CmpOp->oG,seqIndex_of->oH,wpAny_noted->oI,wpAny_of_eq->oK,IsZip->oM,wpAny_specialOf->o9,BindsTo->pd,wpAny_Name->pE,wpAny_Expr_any->pF,typeIs_str->pM,sliceRange_one->pN,Params->pO,ReadsAll->pR,repr_of_reads'->pS,wpAny_newTuple->pV,wpAny_setField->pZ,Model->sR,PyData->tz,Within->tD,Keyword->tK,Value->uD,pick_run->uP,call->wJ
open PySem.Str renaming ofString->ae,empty->iW,length->lH
open PySem.Heap renaming get?_push_of_some->ak,lt_size->ay,get?_push_size->az,get?_update_other->bV,get?_push_ne->cx,size_update->cE,size_push->cV,SameBut->eu,get?_update_self->fN,get?_update_ne->gy,FlyingW->nN,ExtBut->vd
open List renaming getElem?_eq_some_iff->av,mem_cons->aw,size_toArray->ax,mem_singleton->aC,mem_append->aE,not_mem_nil->aH,getElem?_eq_getElem->aJ,length_map->aL,getElem?_set_ne->aO,mem_of_getElem?->aR,mem_map->aS,length_cons->aT,getElem?_map->aV,length_append->aY,getD_eq_getElem?_getD->ba,all_eq_true->bg,pairwise_iff_getElem->bK,getElem_of_mem->bL,replicate->bR,mem_append_right->bS,append_nil->bT,map_cons->bZ,replicate_succ->cg,mem_filter->cj,pairwise_append->cy,getElem?_append_left->cz,drop_eq_getElem_cons->cA,getElem?_set_self->cB,map_map->cH,pairwise_singleton->cI,mem_cons_of_mem->cJ,getElem?_append_right->cK,length_nil->cL,lookup_cons->cN,getElem?_eq_none->cT,length_filter_le->cU,of_mem_zip->cY,mem_cons_self->c8,take_length->c9,range->dh,filterMap_cons->dA,mem_iff_getElem?->dF,getElem_mem->dI,cons_append->dJ,getElem?_replicate->dQ,getElem?_cons_succ->dS,pairwise_map->dW,length_eq_zero_iff->dX,map_append->eh,nil_append->ei,length->eD,length_drop->eE,map_snd_zip->eG,pairwise_cons->eM,nodup_cons->eQ,mem_range->fg,length_take->fi,map_fst_zip->fj,take_succ->fk,getElem?_cons_zero->ft,mem_filterMap->fw,map_nil->fB,length_set->fG,find?_cons->fJ,mem_of_mem_take->fZ,getElem?_zip_eq_some->gu,length_pos_iff->gA,replicate_zero->gC,getD_cons_succ->gD,getD_cons_zero->gE,set_cons_succ->gO,set_cons_zero->gP,getElem?_set->gZ,mapM_toArray->hU,take_of_length_le->hV,length_replicate->ic,drop_length->ig,all_toArray->iq,filter_cons->ir,forIn_cons->iH,length_zip->iL,map_congr_left->iN,getElem?_range->iO,zip_cons_cons->i9,length_range->kJ,append_assoc->kL,drop_sublist->kM,idxOf_lt_length_iff->kT,take_eq_take_iff->lW,mem_append_left->lZ,forIn_nil->mn,drop_zero->mw,mem_of_mem_drop->mC,mem_map_of_mem->mP,filter_append->nc,any_eq_false->ny,zip_nil_left->nB,map->nJ,ext_getElem?->nQ,flatten_cons->nV,take_add_one->n9,perm_middle->oq,zipIdx_cons->ow,zipIdx_nil->oZ,lt_irrefl->p8,idxOf->rg,take_nil->sC,drop_nil->sD,map_take->sP,lookup->uS,map_id->vc,not_lt->vk
open Nat renaming le_refl->aA,lt_of_lt_of_le->aD,ne_of_lt->aF,lt_or_ge->bN,le_trans->cf,lt_trichotomy->dU,zero_le->eV,lt_irrefl->fL,zero_add->gj,le_add_right->gm,testBit_succ->gn,lt_or_eq_of_le->gN,mod_eq_zero_of_dvd->hY,dvd_of_mod_eq_zero->hZ,sub_self->iT,le_succ->kF,shiftLeft_eq->k8,testBit_zero->lh,ne_of_gt->lB,mul_comm->lM,pow_succ->lN,testBit_and->lR,eq_of_testBit_eq->my,eq_zero_or_pos->m7,le_of_lt->nt,sub_zero->nS,min_self->nT,lt_succ_of_lt->nY,le_of_not_lt->om,log2_lt->oJ,min_eq_left->o6,and_le_left->o8,mul_assoc->sG,le_total->tW,one_mul->uW,le_zero->vm
open Int renaming mul_le_mul_of_nonneg_right->aB,dvd_of_emod_eq_zero->aZ,le_of_lt->bf,le_refl->bh,mul_le_mul_of_nonneg_left->bw,add_mul->bP,one_mul->bQ,pow_succ->bW,emod_eq_zero_of_dvd->df,mul_comm->dw,mul_assoc->dO,pow_add->dP,emod_lt_of_pos->eN,ediv_nonneg->eR,lt_trichotomy->eW,natCast_pow->fI,emod_nonneg->fK,ediv_lt_of_lt_mul->fP,toNat_natCast->fS,mul_neg_of_pos_of_neg->gv,le_ediv_iff_mul_le->g6,ediv_lt_iff_lt_mul->g7,natCast_zero->iw,lt_or_le->iR,natCast_nonneg->i5,fdiv_eq_ediv_of_nonneg->i6,le_of_mul_le_mul_right->kh,lt_of_mul_lt_mul_right->km,lt_of_mul_lt_mul_left->kA,mul_one->kD,sub_mul->kI,eq_ofNat_of_zero_le->kZ,ediv_le_self->lx,emod_add_mul_ediv->lX,mul_nonneg->mf,toNat_of_nonneg->mM,le_trans->nW,add_emod->nX,mul_add->oN,ediv_mul_le->oR,emod_two_eq->o7,not_lt->w5
open Bool renaming and_eq_true->aG,false_eq_true->aI,false_ne_true->aW,and_eq_true_iff->aX,eq_false_iff->bY,false_and->cC,true_and->dN,not_true->e8,eq_iff_iff->fF,not_false->fY,and_false->hW,and_true->iC,not_eq_true'->kK,or_eq_false_iff->ma,or_eq_true->o5
open Option.some renaming inj->aM
open Iff renaming rfl->aU
open PySem.PyData renaming canLayAll0->bc,canLay0->bu,int->bH,depthAll->bU,hasDict_of_canLay->b5,hasDict->cD,bool->cF,depth->cO,eqv->dH,eqvAll->fM,leavesShortAll->fO,hasDictAll->fT,str->gf,leavesShort->gL,showableAll->gM,shown->gY,weightAll->ip,showable->iI,tuple->iU,none->l9,weight->mU,noDict_hsm->nM,dict->uX,list->uY
open PySem.W renaming boot_heap->bo,kia_one->bG,fnOf->dm,kitx_dict->eU,keepIn->gV,codeIn->gW,callWith_K->i7,methodObj->kC,cellsFrom_some->lD,boot_drawn->lO,instObj->lP,lookIn->l7,boot_toks->mG,hideAll_get->mH,of_hideAll->mX,kitx_tuple->mY,kitx_list->nA,looks_findIn->n8,plainGet->og,hideAll->oP,findIn->pH,kitOne->pI,Looks->tv,SharedT->t4
open PySem.Builtin.SmallTypes renaming nextOf->bp,ownedTupleIsFree->cX,ownedTupleHandOut->gz
open PySem.Value renaming type->bq,ref->bM,isStrOf->dg,bool->dY,str->iV,none->iX,builtin->kS,notImplemented->l8,int->sQ,isInt->uE,float->uF
open PySem.Builtin.Range renaming rangeSize->bE,small->mO,rangeFitsLong->pf
open PyProof.Rows renaming wpS_bind->bX,slot_tuple_getitem->cc,wpS_pure->dz,size_push'->dZ,callWith_type1->fQ,IntsAre->gh,listItems_at->gk,wpS_forRange->g8,Top->iu,AllBare->iz,assignInOrder_cons->iY,SortKind->ki,subscriptTail_builtinR->lG,pairsOf_size->lK,IsTup->lY,SortSt->mh,wpS_reverse->mi,mirror_perm->mj,lt_int->mJ,entry_tuple_getitem->mK,Keyed->mV,listUpdate_at->mW,args_tuple_getitem->m6,assignInOrder_nil->nv,wpS_get->nR,callWith_builtin1->oh,get?_update_seq->oV,entry_list_sort->oX,oneTypeOnly'_eq->oY,slicePart_none->pK,Subscript_->pL,wpS_mono->pT,wpS_modify->pU,slot_list_sort->pW,args_list_sort->pX,oneLt'_eq->td,wpS_lift->u0,lt_str->vO
open ForInStep renaming yield->cm
open PySem.PassesOwn renaming never->cq
open False renaming elim->cu
open PySem.NameKind renaming free->cw
open Classical renaming choose_spec->cG,byContradiction->gq,choose->ik
open Option renaming getD_some->cM,map_some->dE,map_eq_some_iff->fC,isSome_iff_exists->kN,getD_none->oj,bind_some->oF
open Array renaming length_toList->dB,perm_iff_toList_perm->fX,getElem?_eq_getElem->gr,toList->lA,getElem?_toList->lV,toList_inj->ot,toList_map->ou
open Or renaming inl->er,inr->wY
open PySem.F renaming plain_min_loop->eI,excBase_ValueError->fW,args_tuple_add_2->gF,entry_tuple_add->gQ,plainAttrs_list->gR,slot_tuple_add->gX,args_tuple_iterator_next_1->iJ,slot_zip_next->iK,entry_tuple_iterator_next->iQ,slot_tuple_iterator_next->kj,excAttr_ValueError->ku,slot_dict_getitem->kB,args_tuple_lt_2->kX,entry_min_loop->ly,slot_list_index->lz,entry_tuple_lt->lF,slot_tuple_lt->lU,args_zip_next_1->nU,entry_zip_next->oz
open PySem.Builtin.Slice renaming slicePlaces->eO,sliceAdjust->gp,sliceApplied->ke,slicePartIndex->oQ,sliceFields->rG
open PySem.Builtin.Tuple renaming tupleExact->eY,tupleCompareSizes->ib,tupleItemsOf->kg,tupleIsExact->pY,tupleHashOf->rJ
open PySem.Obj renaming mapSeq->eZ,data_mapFields->m9
open PySem.Builtin.Int renaming intBits->fc
open PySem.Builtin renaming bitXor->fh,bitNot->fo,bitAnd->fV,divisionGoesByPylong->iM
open PySem.Calls renaming Name_function_global->fU,call_function_entry->ky,loadGlobal_global->kU,callWith_builtin->lI,call_len_list->mI
open List.Pairwise renaming imp_of_mem->gH,nil->xv,and->xA
open List.cons renaming injEq->gJ
open PySem.SeqAt.EqAt renaming int_int->gK,bool_bool->p9
open Ne renaming symm->gT
open PySem.Builtin.List renaming listItems->g9,listExtendWith->iP,listUpdate->sZ
open PySem.W.RowW renaming records->ia
open Sum renaming inl->iy,inr->mE
open PySem.Around renaming under_plainId->iF
open PySem.Builtin.Builtins renaming bindParams->iS
open PySem.SeqAt renaming EqAt->i8,list_indexAt->sL
open Prod renaming ext->kc,ext_iff->t7
open Function renaming comp_def->kG
open PySem.PyData.dict renaming injEq->kH,inj->lQ
open PySem.AutoSeq1 renaming sub_tuple_tuple->kO
open Prod.mk renaming injEq->kQ,inj->vn
open True renaming intro->lC
open And renaming intro->mF
open PySem.Heap.SameBut renaming update->mL,refl->xx
open PySem.Paired renaming length->mQ
open PyProof.Rows.LSm renaming kept_iter->mT
open PySem.Code renaming quiet_builtin->m8
open PySem.PyData.list renaming injEq->nK
open PySem.Txt renaming slice->oB
open Array.Perm renaming refl->oW
open PySem.Walks renaming list->pP
open PySem.EqNone renaming eq_none_none->rh,eq_none_bool->rm,eq_bool_none->rn,ne_none_none->rB,ne_none_bool->rC,ne_bool_none->rD,eq_none_int->rQ,eq_none_str->rR,eq_int_none->rS,eq_str_none->rV,ne_none_int->rX,ne_none_str->rY,ne_int_none->rZ,ne_str_none->se
open PySem.EqMixed renaming eq_bool_str->rq,eq_str_bool->rA,ne_bool_str->rE,ne_str_bool->rF,eq_int_str->rT,eq_str_int->rW,ne_int_str->r8,ne_str_int->sg
open Nat.succ renaming inj->tY
open PySem.Shared renaming heap->ve
open PySem.Heap.IsSliceOf renaming new->wA
open PySem.W.WShape renaming has->wI
open PyProof.Rows.SortSt renaming mk'->wM
open PySem.Heap.IsTuple renaming push->xC
open List.Sublist renaming refl->xK
open PySem.Flow renaming next->xT
open PySem.W.WData renaming int->yf
open PySem.Heap.IsList renaming push->ym
open PySem.W.Looks renaming ld->Az
local macro_rules | `(tactic| walk_at "V") => `(tactic| first | exact Or.inl rfl | exact Or.inr (Or.inl rfl) | exact Or.inr (Or.inr rfl))
local macro_rules | `(tactic| walk_at "F") => `(tactic| first | exact .inl rfl | exact .inr rfl | assumption)
abbrev qF:=PySem.W.Frag
abbrev qB:=List (Int×Int)
abbrev qN:=tz->Nat->Prop
abbrev qM:=PySem.Str->Option uD
abbrev qV:=uD->PySem.Shared->Prop
abbrev qD:=List tz
abbrev qO:=List (PySem.Addr×PySem.Obj)
set_option Elab.async false
set_option linter.all false
set_option maxRecDepth 100000
set_option maxHeartbeats 4000000
namespace L2
open PySem PySem.Spec PyProof.Rows
abbrev Key:=Sum Int Str
def ZS:Key->ah->Bool
 | .inl k,v=>uE k v
 | .inr x,v=>dg x v
def keyH(w:aQ):Key->Int
 | .inl k=>hashInt k
 | .inr x=>hashStr w x
theorem Ui:∀{k:Key}{v:ah},ZS k v=true->(∃i t,k=iy i/\v=sQ i t)\/(∃x t,k=mE x/\v=iV x t)
 | .inl i,v,h=>by
  obtain⟨t,e⟩:=Value.isInt_shape (k:=i) (v:=v) h;exact .inl ⟨i,t,rfl,e⟩
 | .inr x,v,h=>by
  obtain⟨t,e⟩:=Value.isStrOf_shape (x:=x) (v:=v) h;exact .inr ⟨x,t,rfl,e⟩
theorem zg5(i:Int)(t:Tok):ZS (.inl i) (.int i t)=true:=by simp[ZS,uE]
theorem zsL(a b:Int):decide ((iy a:Key)=iy b)=(a == b):=by
 by_cases e:a=b
 ·subst e;simp
 ·have h:¬(iy a:Key)=iy b:=fun q=>e (Sum.inl.inj q)
  rw[decide_eq_false h];exact(beq_eq_false_iff_ne.mpr e).symm
theorem zsI(a b:Str):decide ((mE a:Key)=mE b)=decide (a=b):=by
 by_cases e:a=b
 ·subst e;simp
 ·have h:¬(mE a:Key)=mE b:=fun q=>e (Sum.inr.inj q)
  rw[decide_eq_false h,decide_eq_false e]
theorem zsK(a:Int)(b:Str):decide ((iy a:Key)=mE b)=false:=decide_eq_false (fun q=>nomatch q)
theorem zsJ(a:Str)(b:Int):decide ((mE a:Key)=iy b)=false:=decide_eq_false (fun q=>nomatch q)
def Zv(prog:aK)(w:aQ):PySem.KeyKind prog w Key where
 is:=ZS
 hash:=keyH w
 inj:=fun v a b G C=>by
  rcases Ui G with⟨i,t,rfl,rfl⟩|⟨x,t,rfl,rfl⟩
  ·rcases Ui C with⟨j,u,rfl,e⟩|⟨y,u,rfl,e⟩
   ·injection e with e1 _;rw[e1]
   ·exact nomatch e
  ·rcases Ui C with⟨j,u,rfl,e⟩|⟨y,u,rfl,e⟩
   ·exact nomatch e
   ·injection e with e1 _;rw[e1]
 byValue:=fun k v h=>by
  rcases Ui h with⟨i,t,rfl,rfl⟩|⟨x,t,rfl,rfl⟩ <;> rfl
 pyHash:=fun l h=>by
  rcases Ui l with⟨i,t,rfl,rfl⟩|⟨x,t,rfl,rfl⟩
  ·exact wpAny_pyHash_int h
  ·exact wpAny_pyHash_str h
 eqBool:=fun I l h=>by
  rcases Ui I with⟨i,t,rfl,rfl⟩|⟨x,t,rfl,rfl⟩
  ·rcases Ui l with⟨j,u,rfl,rfl⟩|⟨y,u,rfl,rfl⟩
   ·rw[zsL]at h;exact wpAny_eqBool_int h
   ·rw[zsK]at h;exact SeqAt.EqAt.int_str i t y u _ _ _ _ h
  ·rcases Ui l with⟨j,u,rfl,rfl⟩|⟨y,u,rfl,rfl⟩
   ·rw[zsJ]at h;exact SeqAt.EqAt.str_int x t j u _ _ _ _ h
   ·rw[zsI]at h;exact wpAny_eqBool_str h
 «strs»:=fun k x t v h=>by
  rcases Ui h with⟨i,u,rfl,e⟩|⟨y,u,rfl,e⟩
  ·exact nomatch e
  ·injection e with e1 _
   subst e1;cases v <;> rfl
inductive V where
 | non|bl (b:Bool)|int (i:Int)|str (x:Str)|byt (b:Array UInt8)|flt (b:UInt64)|ref (a:aq)|ty (n:String)
 deriving DecidableEq
def RelV:V->ah->Prop
 | .non,u=>u=iX
 | .bl b,u=>u=dY b
 | .int i,u=>∃t,u=sQ i t
 | .str x,u=>∃t,u=iV x t
 | .byt b,u=>∃t,u=Value.bytes b t
 | .flt b,u=>∃t,u=uF b t
 | .ref a,u=>u=bM a
 | .ty n,u=>u=bq n
abbrev Vals:List V->List ah->Prop:=cZ RelV
theorem Vals.length{xs:List V}{l:List ah}(r:Vals xs l):xs.length=l.length:=mQ r
theorem Vals.get:∀{xs:List V}{v:List ah}{i:Nat}{x:V},Vals xs v->xs[i]?=some x->∃u,v[i]?=some u/\RelV x u
 | _,_,_,_,.nil,e=>by simp at e
 | _,_,0,_,.cons r _,e=>by simp at e;subst e;exact⟨_,rfl,r⟩
 | _,_,i+1,x,.cons _ t,e=>by
  obtain⟨u,y,C⟩:=Vals.get (i:=i) (x:=x) t (by simpa using e)
  exact⟨u,by simpa using y,C⟩
theorem Vals.set{x:V}{u:ah}(r:RelV x u):∀{xs:List V}{v:List ah} (i:Nat),Vals xs v->Vals (xs.set i x) (v.set i u)
 | _,_,_,.nil=>.nil
 | _,_,0,.cons _ t=>.cons r t
 | _,_,i+1,.cons q t=>.cons q (Vals.set r i t)
theorem Vals.append{xs ys:List V}{u l:List ah}(h:Vals xs u)(s:Vals ys l):Vals (xs++ys) (u++l):=by
 induction h with
 | nil=>exact s
 | cons r _ v=>exact .cons r v
theorem Vals.take:∀{xs:List V}{u:List ah} (n:Nat),Vals xs u->Vals (xs.take n) (u.take n)
 | _,_,0,_=>.nil
 | _,_,_+1,.nil=>.nil
 | _,_,n+1,.cons r t=>.cons r (Vals.take n t)
theorem Vals.drop:∀{xs:List V}{u:List ah} (n:Nat),Vals xs u->Vals (xs.drop n) (u.drop n)
 | _,_,0,r=>r
 | _,_,_+1,.nil=>.nil
 | _,_,n+1,.cons _ t=>Vals.drop n t
def RelO:Option V->Option ah->Prop
 | some v,some u=>RelV v u
 | none,none=>True
 | _,_=>False
def KV{l:Type}:List (l×V)->List (l×ah)->Prop:=cZ fun(p:l×V) (q:l×ah)=>p.1=q.1/\RelV p.2 q.2
def kV:Key->V
 | .inl i=>.int i
 | .inr x=>.str x
inductive HO where
 | lst (xs:List V)
 | tup (xs:List V)
 | dK (kvs:List (Key×V))|dT (kvs:List (List Key×V))
 | set (S:Int->Bool) (n:Nat)
 | ins (C dx:aq) (fs:List (Str×V))
 | own (x:aq)
 | xd (fs:List (Str×V))
 | met (f x:aq)
 | rng (lo hi:Int)
 | frz (o:Obj) (u:HO)
 | tbl (q:Str)
 | ext (φ:aN->Prop)
abbrev Hp:=aq->Option HO
def upd(H:Hp)(a:aq)(o:HO):Hp:=fun b=>if b=a then some o else H b
theorem JJ{H:Hp}{a:aq}{o:HO}:upd H a o a=some o:=by unfold upd;rw[if_pos rfl]
theorem Jo{H:Hp}{a b:aq}{o:HO}(h:b≠a):upd H a o b=H b:=by unfold upd;rw[if_neg h]
theorem Qt{H:Hp}{a b:aq}{o:HO}(h:H a=some o)(h':H b=none):a≠b:=by
 intro e;subst e;rw[h]at h';cases h'
def IsTD(h:aN)(a:aq)(items:Array ah):Prop:=∃o,h.get? a=some o/\o.cls=.type "tuple" /\ (∃n,o.data=.seq items n)/\o.dict=none
theorem IsTD.tup{h:aN}{a:aq}{items:Array ah}(x:IsTD h a items):lY h a items:=by
 obtain⟨o,e,c,d,_⟩:=x;exact⟨o,e,c,d⟩
theorem IsTD.lt{h:aN}{a:aq}{items:Array ah}(x:IsTD h a items):a<h.objs.size:=x.tup.lt
theorem IsTD.new(h:aN)(items:Array ah):IsTD (h.push { cls:=.type "tuple",data:=.seq items }) h.objs.size items:=⟨_,az _ rfl,rfl,⟨_,rfl⟩,rfl⟩
def TabOk(H:Hp)(q:Str)(ps:Array ah):Prop:=TriplesOk ps.toList/\∀(pos:Pos) (x:ah),codeAmong pos ps.toList=some x->∃(c:aq) (o:Obj) (u:HO) (v:Array ah) (t:Tok),x=.ref c/\H c=some (.frz o u)/\o.data=.fields v/\v[1]?=some (.str q t)
section
variable(P:aK)(w:aQ)
def JL(H:Hp)(h:aN)(a:aq):HO->Prop
 | .lst xs=>xs.length<=sizeLine/\∃(I:List ah) (n:Nat),Vals xs I/\h.get? a=some { cls:=.type "list",data:=.seq I.toArray n }
 | .tup xs=>xs.length<=sizeLine/\∃I:List ah,Vals xs I/\IsTD h a I.toArray
 | .dK G=>G.length<=sizeLine/\(a == sysModules)=false/\∃Z,KV G Z/\h.DictOf (Zv P w) a Z
 | .dT G=>G.length<=sizeLine/\(a == sysModules)=false/\∃xs:List (List Key×aq×ah),
   cZ (fun(p:List Key×V) (q:List Key×aq×ah)=>p.1=q.1/\H q.2.1=some (.tup (p.1.map kV))/\RelV p.2 q.2.2) G xs /\
   ∃o es ep,h.get? a=some o/\o.ExactDict/\o.data=.dict es ep/\es.toList=xs.map (entryOfKey (tupleKind (Zv P w)))/\(xs.map (·.1)).Nodup
 | .set S n=>h.SetOf (intKind P w) a S n
 | .ins C L fs=>H L=some (.own a)/\fs.length<=1000/\L≠a/\h.get? a=some (lP C L) /\
   ∃J,h.Ns1 L J/\(∀f,RelO (fs.lookup f) (J f))/\tD J (fs.map (·.1))
 | .own _=>∃o,h.get? a=some o
 | .xd fs=>∃J,h.Ns1 a J/\∀f,RelO (fs.lookup f) (J f)
 | .rng lo hi=>∃t u v,h.get? a=some { cls:=.type "range",data:=.fields #[.int lo t,.int hi u,.int 1 v] }
 | .frz o u=>h.get? a=some o/\JL H h a u
 | .tbl q=>∃ps:Array ah,h.get? a=some { cls:=.none,data:=.fields ps }/\TabOk H q ps
 | .met f x=>h.get? a=some (kC (.ref f) (.ref x))
 | .ext R=>R h/\(∃o,h.get? a=some o)/\∀U Y:aN,R U->(∀o,U.get? a=some o->Y.get? a=some o)->R Y
def HOk(H:Hp)(h:aN):Prop:=∀a o,H a=some o->JL P w H h a o
end
section
variable{P:aK}{w:aQ}{H H':Hp}{h h':aN}{a:aq}{o:HO}
theorem JL.lt(x:JL P w H h a o):a<h.objs.size:=by
 cases o with
 | lst xs=>obtain⟨_,_,_,_,e⟩:=x;exact ay e
 | tup xs=>obtain⟨_,_,_,p⟩:=x;exact p.lt
 | dK l=>obtain⟨_,_,_,_,o,_,_,e,_⟩:=x;exact ay e
 | dT l=>obtain⟨_,_,_,_,o,_,_,e,_⟩:=x;exact ay e
 | set S n=>obtain⟨o,_,_,_,e,_⟩:=x;exact ay e
 | ins C v fs=>obtain⟨_,_,_,e,_⟩:=x;exact ay e
 | own y=>obtain⟨_,e⟩:=x;exact ay e
 | xd fs=>obtain⟨_,⟨_,_,_,e,_⟩,_⟩:=x;exact ay e
 | rng lo hi=>obtain⟨_,_,_,e⟩:=x;exact ay e
 | frz G u=>obtain⟨e,_⟩:=x;exact ay e
 | tbl q=>obtain⟨_,e,_⟩:=x;exact ay e
 | met f y=>exact ay (show h.get? a=some _ from x)
 | ext I=>obtain⟨_,⟨_,e⟩,_⟩:=x;exact ay e
theorem Paired.mapP{α x:Type}{F G:α->x->Prop}{v:List α}{u:List x}(h:cZ F v u)(f:∀a b,F a b->G a b):cZ G v u:=by
 induction h with
 | nil=>exact .nil
 | cons r _ y=>exact .cons (f _ _ r) y
theorem JL.stay(x:JL P w H h a o)(k:∀b u,(b=a\/H b=some (.own a))->h.get? b=some u->h'.get? b=some u)
  (ho:∀b,H b=some (.own a)->H' b=some (.own a)) (ht:∀b xs,H b=some (.tup xs)->H' b=some (.tup xs)) (hf:∀b G u,H b=some (.frz G u)->H' b=some (.frz G u)):JL P w H' h' a o:=by
 induction o with
 | lst xs=>obtain⟨z,L,n,r,e⟩:=x;exact⟨z,L,n,r,k _ _ (.inl rfl) e⟩
 | tup xs=>obtain⟨z,L,r,G,e,c⟩:=x;exact⟨z,L,r,G,k _ _ (.inl rfl) e,c⟩
 | dK U=>obtain⟨z,y,Y,r,G,J,I,e,c⟩:=x;exact⟨z,y,Y,r,G,J,I,k _ _ (.inl rfl) e,c⟩
 | dT U =>
  obtain⟨z,y,xs,r,G,J,I,e,c⟩:=x;exact⟨z,y,xs,Paired.mapP r fun p q z=>⟨z.1,ht _ _ z.2.1,z.2.2⟩,G,J,I,k _ _ (.inl rfl) e,c⟩
 | set S n=>obtain⟨G,J,I,t,e,c⟩:=x;exact⟨G,J,I,t,k _ _ (.inl rfl) e,c⟩
 | ins C dx fs =>
  obtain⟨d,z,ne,e,R,⟨N,J,I,Z,c⟩,r⟩:=x;exact⟨ho _ d,z,ne,k _ _ (.inl rfl) e,R,⟨N,J,I,k _ _ (.inr d) Z,c⟩,r⟩
 | own y=>obtain⟨G,e⟩:=x;exact⟨G,k _ _ (.inl rfl) e⟩
 | xd fs=>obtain⟨R,⟨N,J,I,e,c⟩,r⟩:=x;exact⟨R,⟨N,J,I,k _ _ (.inl rfl) e,c⟩,r⟩
 | rng lo hi=>obtain⟨t,u,v,e⟩:=x;exact⟨t,u,v,k _ _ (.inl rfl) e⟩
 | frz G u ih=>obtain⟨e,q⟩:=x;exact⟨k _ _ (.inl rfl) e,ih q⟩
 | tbl q =>
  obtain⟨ps,e,z,r⟩:=x;refine⟨ps,k a _ (.inl rfl) e,z,fun pos cv m=>?_⟩
  obtain⟨c,o,u,Y,t,e1,Z,e3⟩:=r pos cv m;exact⟨c,o,u,Y,t,e1,hf _ _ _ Z,e3⟩
 | met f y =>
  have e:h.get? a=some (kC (.ref f) (.ref y)):=x;show h'.get? a=some (kC (.ref f) (.ref y))
  exact k a _ (.inl rfl) e
 | ext φ=>obtain⟨p,⟨o,e⟩,st⟩:=x;exact⟨st _ _ p fun o q=>k _ _ (.inl rfl) q,⟨o,k _ _ (.inl rfl) e⟩,st⟩
theorem HOk.lt(x:HOk P w H h)(e:H a=some o):a<h.objs.size:=(x a o e).lt
theorem HOk.fresh(x:HOk P w H h)(e:h.objs.size<=a):H a=none:=by
 cases q:H a with
 | none=>rfl
 | some u=>exact absurd (aD (x.lt q) e) (fL _)
theorem HOk.kept(x:HOk P w H h)(k:∀b u,h.get? b=some u->h'.get? b=some u):HOk P w H h':=fun a o e =>
 (x a o e).stay (fun b u _ q=>k b u q) (fun _ q=>q) (fun _ _ q=>q) fun _ _ _ q=>q
theorem HOk.laid(x:HOk P w H h)(k:∀b u,h.get? b=some u->h'.get? b=some u)(C:h.objs.size<=a)(new:JL P w (upd H a o) h' a o):HOk P w (upd H a o) h':=fun b u e=>by
 have l:=x.fresh C
 by_cases hb:b=a
 ·subst hb;rw[JJ]at e;cases e;exact new
 ·rw[Jo hb]at e;exact(x b u e).stay (fun c v _ q=>k c v q) (fun c q=>by rw[Jo (Qt q l)];exact q) (fun c xs q=>by rw[Jo (Qt q l)];exact q) fun c G xs q=>by rw[Jo (Qt q l)];exact q
end
def Rd(H:Hp)(a:aq)(u:HO):Prop:=H a=some u\/∃o,H a=some (.frz o u)
theorem Rd.ok{P:aK}{w:aQ}{H:Hp}{h:aN}{a:aq}{u:HO}(r:Rd H a u)(x:HOk P w H h):JL P w H h a u:=by
 rcases r with r|⟨o,r⟩
 ·exact x a u r
 ·obtain⟨_,q⟩:=x a _ r;exact q
def Mut:Option HO->Prop
 | some (.lst _)=>True
 | some (.dK _)=>True
 | some (.dT _)=>True
 | some (.set _ _)=>True
 | some (.ins _ _ _)=>True
 | some (.ext _)=>True
 | _=>False
section
variable{P:aK}{w:aQ}{H:Hp}{h h':aN}{x e:aq}{o':HO}
theorem HOk.write(ok:HOk P w H h)(l:Mut (H x))(L:e=x\/H e=some (.own x))(k:∀b u,b≠e->h.get? b=some u->h'.get? b=some u)(J:∃u,h'.get? e=some u)
  (new:JL P w (upd H x o') h' x o'):HOk P w (upd H x o') h':=fun b u q=>by
 have N:∀c y,H c=some (.own y)->c≠x:=fun c y r z=>by subst z;rw[r]at l;exact l
 have G:∀c xs,H c=some (.tup xs)->c≠x:=fun c xs r z=>by subst z;rw[r]at l;exact l
 have C:∀c I xs,H c=some (.frz I xs)->c≠x:=fun c I xs r z=>by subst z;rw[r]at l;exact l
 by_cases hb:b=x
 ·subst hb;rw[JJ]at q;cases q;exact new
 ·rw[Jo hb]at q
  by_cases hbe:b=e
  ·have R:H b=some (.own x):=by
    rcases L with z|z
    ·exact absurd (hbe.trans z) hb
    ·rw[hbe];exact z
   rw[q]at R;cases R;obtain⟨v,S⟩:=J;exact⟨v,by rw[hbe];exact S⟩
  ·refine(ok b u q).stay (fun c v hc r=>k c v ?_ r) (fun c r=>by rw[Jo (N c b r)];exact r) (fun c xs r=>by rw[Jo (G c xs r)];exact r) fun c I xs r=>by rw[Jo (C c I xs r)];exact r
   rcases hc with rfl|hc
   ·exact hbe
   ·rintro rfl;rcases L with z|z
    ·exact N c b hc z
    ·rw[hc]at z;cases z;exact hb rfl
end
structure Un(fs ex:List aq)(H H':Hp)(h h':aN):Prop where
 keep:∀b o,h.get? b=some o->H b=none->b∉fs->b∉ex->h'.get? b=some o
 slot:∀b o,h.get? b=some o->H b=none->b∈fs->b∉ex->∃sl,h'.get? b=some { o with slots:=sl }
 free:∀b o,h.get? b=some o->H b=none->b∉ex->H' b=none
 there:∀b o,h.get? b=some o->b∉ex->∃o',h'.get? b=some o'
 tups:∀b xs,H b=some (.tup xs)->H' b=some (.tup xs)
 frzs:∀b o u,H b=some (.frz o u)->H' b=some (.frz o u)
 tbls:∀b q,H b=some (.tbl q)->H' b=some (.tbl q)
section
variable{fs fs' ex ex':List aq}{H H1 H2:Hp}{h h1 h2 h':aN}{a x e:aq}{o:HO}
theorem Un.any(u:Un fs ex H H1 h h1){b:aq}{l:Obj}(q:h.get? b=some l)(n:H b=none)(hx:b∉ex):∃v,h1.get? b=some { l with slots:=v }:=by
 by_cases hb:b∈fs
 ·exact u.slot b l q n hb hx
 ·exact⟨l.slots,u.keep b l q n hb hx⟩
theorem Un.kept(k:∀b u,h.get? b=some u->h'.get? b=some u):Un fs ex H H h h' :=
 ⟨fun b l q _ _ _=>k b l q,fun b l q _ _ _=>⟨l.slots,k b l q⟩,fun _ _ _ n _=>n,fun b l q _=>⟨l,k b l q⟩,fun _ _ q=>q,fun _ _ _ q=>q,fun _ _ q=>q⟩
theorem Un.refl:Un fs ex H H h h:=Un.kept fun _ _ q=>q
theorem Un.laid(k:∀b u,h.get? b=some u->h'.get? b=some u)(v:h.objs.size<=a)(l:H a=none):Un fs ex H (upd H a o) h h' where
 keep:=fun b u q _ _ _=>k b u q
 slot:=fun b u q _ _ _=>⟨u.slots,k b u q⟩
 free:=fun b u q n _=>by rw[Jo (aF (aD (ay q) v))];exact n
 there:=fun b u q _=>⟨u,k b u q⟩
 tups:=fun b xs q=>by rw[Jo (Qt q l)];exact q
 frzs:=fun b u xs q=>by rw[Jo (Qt q l)];exact q
 tbls:=fun b ps q=>by rw[Jo (Qt q l)];exact q
theorem Un.write(l:Mut (H x))(G:e=x\/H e=some (.own x))(k:∀b u,b≠e->h.get? b=some u->h'.get? b=some u)(v:∃u,h'.get? e=some u):Un fs ex H (upd H x o) h h':=by
 have hx:∀b,H b=none->b≠x:=fun b n z=>by subst z;rw[n]at l;exact l
 have C:∀b,H b=none->b≠e:=fun b n z=>by
  subst z;rcases G with r|r
  ·exact hx b n r
  ·rw[n]at r;cases r
 have y:∀b u,H b=some u->¬Mut (some u)->b≠x:=fun b u q nm z=>by subst z;rw[q]at l;exact nm l
 refine⟨fun b u q n _ _=>k b u (C b n) q,fun b u q n _ _=>⟨u.slots,k b u (C b n) q⟩,fun b u q n _=>by rw[Jo (hx b n)];exact n,fun b u q _=>?_,
  fun b xs q=>by rw[Jo (y b _ q fun z=>z)];exact q,fun b u xs q=>by rw[Jo (y b _ q fun z=>z)];exact q,fun b ps q=>by rw[Jo (y b _ q fun z=>z)];exact q⟩
 by_cases hbe:b=e
 ·subst hbe;exact v
 ·exact⟨u,k b u hbe q⟩
end
def trk(h:aN)(H:Hp):List aq:=(dh h.objs.size).filter fun a=>(H a).isSome
def hidT(h:aN)(H:Hp):aN:=oP h (trk h H)
theorem zlL(h:aN)(H:Hp):(hidT h H).objs.size=h.objs.size:=PySem.W.hideAll_size _ _
theorem zn0{h:aN}{H:Hp}{b:aq}{o:Obj}(e:h.get? b=some o)(n:H b=none):(hidT h H).get? b=some o :=
 mH _ e fun l=>by
  have q:(H b).isSome=true:=(cj.mp l).2;rw[n]at q;simp at q
theorem zpF{h:aN}{H:Hp}{b:aq}{o:Obj}(e:(hidT h H).get? b=some o):h.get? b=some o/\H b=none:=by
 have l:h.get? b=some o:=mX (trk h H) e;refine⟨l,?_⟩;cases q:H b with
 | none=>rfl
 | some x =>
  have u:b∈trk h H:=cj.mpr ⟨fg.mpr (ay l),by simp[q]⟩
  have z:(hidT h H).get? b=none:=PySem.W.hideAll_none (trk h H) u;rw[z]at e;cases e
structure Mod(K:qF)(mg:qM)(base:aN):Prop where
 kin:K.In base
 glob:base.Ns mainGlobals mg
 blt:∃mb,base.Ns builtinsNs mb/\∀x:Str,x ≠ "__name__" -> mb x=bootBuiltins x
 nolimit:base.NoLimit
structure Cx where
 prog:aK
 w:aQ
 K:qF
 mg:Str->Option ah
 base:aN
 A:br
 N:List Str
 s₀:au
 H₀:Hp
 env:Env
 outer:List Env
 stack:List Env
 ex:List aq
 fn:Str->Bool
 calm:Bool
 pn:List (aq×Obj)
 xe:ah->au->Prop
def frs(l:List Env):List aq:=l.filterMap (·.frame)
abbrev Cx.fs(X:Cx):List aq:=frs X.outer
def Vis(sc:fv)(x:Str):Prop:=sc.names.lookup x=some .local\/sc.names.lookup x=some .cell\/sc.names.lookup x=some .free
def Loc(sc:fv)(x:Str):Prop:=sc.names.lookup x=some .local\/sc.names.lookup x=some .cell
def Look(env:Env)(h:aN)(m:qM)(x:Str)(u:ah):Prop :=
 (env.kindOf x=some .local/\m x=some u)\/((env.kindOf x=some .cell\/env.kindOf x=some .free)/\∃c,env.cells.lookup x=some c/\h.IsCell c (some u))
structure Cx.Ok(X:Cx):Prop where
 mod:Mod X.K X.mg X.base
 kind:X.env.scope.kind=.function
 glob:X.env.globals=mainGlobals
 blt:X.env.builtins=builtinsNs
 above:X.s₀.heap.objs.size<=X.env.locals
 inj:∀x y c,X.env.cells.lookup x=some c->X.env.cells.lookup y=some c->x=y
 has:∀x,(X.env.kindOf x=some .cell\/X.env.kindOf x=some .free)->∃c,X.env.cells.lookup x=some c
 cab:∀x c,X.fn x=true->X.env.cells.lookup x=some c->X.s₀.heap.objs.size<=c
 hd:X.calm=true->X.A.handled=none
 frames:X.A.frames=some X.stack
 stk:X.stack=X.outer\/(X.stack=X.env::X.outer/\X.env.frame=some X.env.locals)
 exf:∀b∈X.ex,b≠X.env.locals/\∀x c,X.env.cells.lookup x=some c->c≠b
 bs:∀b o,X.base.get? b=some o->X.s₀.heap.get? b=some o/\X.H₀ b=none
 bsz:X.base.objs.size<=X.s₀.heap.objs.size
 noex:∀b o,X.base.get? b=some o->b∉X.ex
 exfs:∀b∈X.ex,b∉X.fs
 funs:X.s₀.heap.FunFrames X.base X.outer
 frf:∀b∈X.fs,X.H₀ b=none
structure Inv(X:Cx)(pins:qO)(σ:List (Option V))(H:Hp)(s:au):Prop where
 ok:X.Ok
 os:s.os=X.s₀.os
 bare:iz s.gens
 base:Un X.fs X.ex X.H₀ H X.s₀.heap s.heap
 loc:∃m,s.heap.Ns X.env.locals m/\∀(i:Nat) (x:Str) (v:V),X.N[i]?=some x->σ[i]?=some (some v)->Vis X.env.scope x->∃u,RelV v u/\Look X.env s.heap m x u
 cell:∀x c,X.env.cells.lookup x=some c->∃v,s.heap.IsCell c v
 free:H X.env.locals=none
 freeC:∀x c,X.env.cells.lookup x=some c->H c=none
 pin:∀p∈X.pn++pins,s.heap.get? p.1=some p.2/\H p.1=none/\p.1≠X.env.locals/\p.1∉X.fs/\∀v,p.2.data≠.cell v
 hok:HOk X.prog X.w H s.heap
 len:σ.length=X.N.length
section
variable{X:Cx}{pins:qO}{σ:List (Option V)}{H H':Hp}{s:au}{h':aN}
theorem Cx.Ok.nofr(ok:X.Ok){b:aq}{o:Obj}(e:X.base.get? b=some o):b∉X.fs:=fun l=>by
 have:=(ok.funs.mem l).1;rw[e]at this;cases this
theorem Inv.bs(I:Inv X pins σ H s):∀b o,X.base.get? b=some o->s.heap.get? b=some o/\H b=none:=fun b o e =>
 ⟨I.base.keep b o (I.ok.bs b o e).1 (I.ok.bs b o e).2 (I.ok.nofr e) (I.ok.noex b o e),I.base.free b o (I.ok.bs b o e).1 (I.ok.bs b o e).2 (I.ok.noex b o e)⟩
theorem Inv.bk(I:Inv X pins σ H s):∀b o,X.base.get? b=some o->s.heap.get? b=some o:=fun b o e=>(I.bs b o e).1
theorem Inv.mod(I:Inv X pins σ H s):Mod X.K X.mg X.base:=I.ok.mod
theorem Inv.kIn(I:Inv X pins σ H s):X.K.In s.heap:=I.ok.mod.kin.keeps I.bk
theorem Inv.lt(I:Inv X pins σ H s):X.env.locals<s.heap.objs.size:=let ⟨_,hn,_⟩:=I.loc;hn.lt
theorem Inv.sz(I:Inv X pins σ H s):X.s₀.heap.objs.size<=s.heap.objs.size:=cf I.ok.above (nt I.lt)
theorem Inv.nofs(I:Inv X pins σ H s){a:aq}(h:s.heap.objs.size<=a):a∉X.fs:=fun u=>by
 obtain⟨_,o,l,_⟩:=I.ok.funs.mem u;exact absurd (aD (ay l) (cf I.sz h)) (fL _)
theorem Inv.cne(I:Inv X pins σ H s):∀x c,X.env.cells.lookup x=some c->c≠X.env.locals:=fun x c e z=>by
 obtain⟨v,o,y,hd⟩:=I.cell x c e;obtain⟨m,⟨J,G,C,l,u,_⟩,_⟩:=I.loc;rw[z,l]at y;cases y;rw[u]at hd;cases hd
theorem Inv.funs(I:Inv X pins σ H s):s.heap.FunFrames X.base X.outer:=by
 have all:∀(l:List Env),(∀b∈frs l,b∈X.fs)->X.s₀.heap.FunFrames X.base l->s.heap.FunFrames X.base l:=by
  intro l;induction l with
  | nil=>intro _ _;trivial
  | cons env r C =>
   intro x N;obtain⟨J,⟨L,o,hf,R,G,hd⟩,y⟩:=N;have v:L∈X.fs:=x L (by unfold frs;rw[dA,hf];exact c8)
   obtain⟨S,e⟩:=I.base.slot L o G (I.ok.frf L v) v fun z=>I.ok.exfs L z v
   exact⟨J,⟨L,_,hf,R,e,hd⟩,C (fun b u=>x b (by unfold frs;rw[dA,hf];exact cJ _ u)) y⟩
 exact all X.outer (fun _ u=>u) I.ok.funs
theorem Inv.stack(I:Inv X pins σ H s):s.heap.FunFrames X.base X.stack:=by
 rcases I.ok.stk with e|⟨e,hf⟩
 ·rw[e];exact I.funs
 ·rw[e];obtain⟨m,l,_⟩:=I.loc;refine .cons (by rw[I.ok.kind];decide) hf l ?_ I.funs
  exact Heap.get?_none_of_le (cf I.ok.bsz I.ok.above)
theorem Inv.stkSub(I:Inv X pins σ H s):∀b∈frs X.stack,b∈X.env.locals::X.fs:=fun b l=>by
 rcases I.ok.stk with e|⟨e,hf⟩
 ·rw[e]at l;exact cJ _ l
 ·rw[e]at l;unfold frs at l;rw[dA,hf]at l;exact l
theorem Inv.stkFree(I:Inv X pins σ H s):∀b∈frs X.stack,H b=none:=fun b l=>by
 rcases aw.mp (I.stkSub b l) with e|l
 ·rw[e];exact I.free
 ·obtain⟨_,o,u,_⟩:=I.ok.funs.mem l;exact I.base.free b o u (I.ok.frf b l) fun z=>I.ok.exfs b z l
theorem Inv.step{g':Array GenState}{t':Nat}{d':Drawn}{ch:List aq}(I:Inv X pins σ H s)
  (C:∀b∈ch,(b∈X.ex\/X.s₀.heap.objs.size<=b)/\b≠X.env.locals/\(∀x c,X.env.cells.lookup x=some c->c≠b)/\∀p∈X.pn++pins,p.1≠b)
  (keep:∀b o,b≠X.env.locals->b∉X.fs->b∉ch->s.heap.get? b=some o->H b=none->h'.get? b=some o)
  (slot:∀b o,b≠X.env.locals->b∈X.fs->b∉ch->s.heap.get? b=some o->H b=none->∃U,h'.get? b=some { o with slots:=U }) (free:∀b o,b∉ch->s.heap.get? b=some o->H b=none->H' b=none)
  (there:∀b o,b∉ch->s.heap.get? b=some o->∃R,h'.get? b=some R)
  (tups:∀b xs,H b=some (.tup xs)->H' b=some (.tup xs)) (frzs:∀b o u,H b=some (.frz o u)->H' b=some (.frz o u)) (tbls:∀b q,H b=some (.tbl q)->H' b=some (.tbl q))
  (ns:∀m,s.heap.Ns X.env.locals m->h'.Ns X.env.locals m) (hok:HOk X.prog X.w H' h') (hg:iz g') :
  Inv X pins σ H' { s with heap:=h',gens:=g',drawn:=d',toks:=t' }:=by
 have S:∀b o,X.s₀.heap.get? b=some o->b≠X.env.locals:=fun b o e=>aF (aD (ay e) I.ok.above)
 have G:∀b o,X.s₀.heap.get? b=some o->b∉X.ex->b∉ch:=fun b o e hx J=>by
  rcases(C b J).1 with z|z
  ·exact hx z
  ·exact absurd (aD (ay e) z) (fL _)
 have cellK:∀x c,X.env.cells.lookup x=some c->∀v,s.heap.IsCell c v->h'.IsCell c v:=fun x c e v ⟨o,N,hd⟩=>by
  have y:c∉ch:=fun z=>(C c z).2.2.1 x c e rfl
  by_cases hc:c∈X.fs
  ·obtain⟨U,q⟩:=slot c o (I.cne x c e) hc y N (I.freeC x c e);exact⟨_,q,hd⟩
  ·exact⟨o,keep c o (I.cne x c e) hc y N (I.freeC x c e),hd⟩
 refine⟨I.ok,I.os,hg,⟨fun b o e n J hx=>?_,fun b o e n J hx=>?_,fun b o e n hx=>?_,fun b o e hx=>?_,fun b xs e=>tups b xs (I.base.tups b xs e),fun b o xs e=>frzs b o xs (I.base.frzs b o xs e),fun b ps e=>?_⟩,?_,fun x c e=>?_,?_,fun x c e=>?_,fun p hp=>?_,hok,I.len⟩
 ·exact keep b o (S b o e) J (G b o e hx) (I.base.keep b o e n J hx) (I.base.free b o e n hx)
 ·obtain⟨U,L⟩:=I.base.slot b o e n J hx;obtain⟨Y,Z⟩:=slot b _ (S b o e) J (G b o e hx) L (I.base.free b o e n hx);exact⟨Y,Z⟩
 ·obtain⟨R,L⟩:=I.base.there b o e hx;exact free b R (G b o e hx) L (I.base.free b o e n hx)
 ·obtain⟨R,L⟩:=I.base.there b o e hx;exact there b R (G b o e hx) L
 ·exact tbls b ps (I.base.tbls b ps e)
 ·obtain⟨m,hn,hl⟩:=I.loc;refine⟨m,ns m hn,fun i x v L Z e3=>?_⟩
  obtain⟨u,r,l⟩:=hl i x v L Z e3;refine⟨u,r,?_⟩;rcases l with l|⟨k,c,e,z⟩
  ·exact .inl l
  ·exact .inr ⟨k,c,e,cellK x c e _ z⟩
 ·obtain⟨v,z⟩:=I.cell x c e;exact⟨v,cellK x c e v z⟩
 ·obtain⟨m,⟨o,_,_,N,_⟩,_⟩:=I.loc;exact free _ o (fun z=>(C _ z).2.1 rfl) N I.free
 ·obtain⟨v,o,N,hd⟩:=I.cell x c e;exact free c o (fun z=>(C c z).2.2.1 x c e rfl) N (I.freeC x c e)
 ·obtain⟨e,n,ne,nf,d⟩:=I.pin p hp;have y:p.1∉ch:=fun z=>(C p.1 z).2.2.2 p hp rfl
  exact⟨keep p.1 p.2 ne nf y e n,free p.1 p.2 y e n,ne,nf,d⟩
theorem Inv.un{t':Nat}(I:Inv X pins σ H s)(u:Un X.fs [] H H' s.heap h')(hok:HOk X.prog X.w H' h'):Inv X pins σ H' { s with heap:=h',toks:=t' }:=by
 obtain⟨m,⟨o,Y,N,C,r⟩,_⟩:=id I.loc;obtain⟨R,J⟩:=u.any C I.free (by simp)
 exact I.step (g':=s.gens) (d':=s.drawn) (ch:=[]) (fun _ z=>nomatch z) (fun b o _ v _ e n=>u.keep b o e n v (by simp)) (fun b o _ v _ e n=>u.slot b o e n v (by simp)) (fun b o _ e n=>u.free b o e n (by simp)) (fun b o _ e=>u.there b o e (by simp)) u.tups u.frzs u.tbls (fun S G=>by
  obtain⟨U,x,y,l,L⟩:=G;rw[C]at l;cases l;exact⟨_,x,y,J,L⟩) hok I.bare
theorem Inv.call{g':Array GenState}{t':Nat}{d':Drawn}{ch:List aq}(I:Inv X pins σ H s)(u:Un (frs X.stack) ch H H' s.heap h')(hok:HOk X.prog X.w H' h')(N:iz g')
  (v:∀b∈ch,(b∈X.ex\/X.s₀.heap.objs.size<=b)/\b≠X.env.locals/\(∀x c,X.env.cells.lookup x=some c->c≠b)/\∀p∈X.pn++pins,p.1≠b) :
  Inv X pins σ H' { s with heap:=h',gens:=g',drawn:=d',toks:=t' }:=by
 obtain⟨m,⟨o,es,Y,L,r⟩,_⟩:=id I.loc;obtain⟨Z,J⟩:=u.any L I.free fun z=>(v _ z).2.1 rfl
 exact I.step (ch:=ch) v (fun b o J R hc e n=>u.keep b o e n (fun z=>(aw.mp (I.stkSub b z)).elim J R) hc) (fun b o _ _ hc e n=>u.any e n hc) (fun b o hc e n=>u.free b o e n hc) (fun b o hc e=>u.there b o e hc) u.tups u.frzs u.tbls (fun m' S=>by
  obtain⟨o',C,G,y,U⟩:=S;rw[L]at y;cases y;exact⟨_,C,G,J,U⟩) hok N
theorem Inv.turned{t':Nat}{it:aq}(I:Inv X pins σ H s)(k:∀b o,b≠it->s.heap.get? b=some o->h'.get? b=some o)(Y:H it=none)(C:it≠X.env.locals)
  (R:it∈X.ex\/X.s₀.heap.objs.size<=it) (S:∀x c,X.env.cells.lookup x=some c->c≠it) (J:∀p∈X.pn++pins,p.1≠it):Inv X pins σ H { s with heap:=h',toks:=t' }:=by
 have l:∀b u,H b=some u->b≠it:=fun b u e z=>by rw[z,Y]at e;cases e
 refine I.step (g':=s.gens) (d':=s.drawn) (ch:=[it]) (fun b L=>?_) (fun b o _ _ hc e _=>k b o (fun z=>hc (by simp[z])) e) (fun b o _ _ hc e _=>⟨o.slots,k b o (fun z=>hc (by simp[z])) e⟩) (fun _ _ _ _ n=>n)
  (fun b o hc e=>⟨o,k b o (fun z=>hc (by simp[z])) e⟩) (fun _ _ e=>e) (fun _ _ _ e=>e) (fun _ _ e=>e) (fun m U=>?_) (fun b u e=>?_) I.bare
 ·have e:b=it:=by simpa using L
  subst e;exact⟨R,C,S,J⟩
 ·obtain⟨o,Z,G,N,r⟩:=U;exact⟨o,Z,G,k _ o (gT C) N,r⟩
 ·refine(I.hok b u e).stay (fun c v hc q=>k c v ?_ q) (fun _ q=>q) (fun _ _ q=>q) fun _ _ _ q=>q
  rcases hc with z|z
  ·rw[z];exact l b u e
  ·exact l c _ z
theorem Inv.tok(I:Inv X pins σ H s)(t:Nat):Inv X pins σ H { s with toks:=t }:=I.un (h':=s.heap) (t':=t) Un.refl I.hok
theorem Inv.kept{t':Nat}(I:Inv X pins σ H s)(k:∀b u,s.heap.get? b=some u->h'.get? b=some u):Inv X pins σ H { s with heap:=h',toks:=t' }:=I.un (Un.kept k) (I.hok.kept k)
theorem Inv.laid{a:aq}{o:HO}{t':Nat}(I:Inv X pins σ H s)(k:∀b u,s.heap.get? b=some u->h'.get? b=some u)(l:s.heap.objs.size<=a)(new:JL X.prog X.w (upd H a o) h' a o) :
  Inv X pins σ (upd H a o) { s with heap:=h',toks:=t' }:=I.un (Un.laid k l (I.hok.fresh l)) (I.hok.laid k l new)
theorem Inv.write{x e:aq}{o:HO}{t':Nat}(I:Inv X pins σ H s)(y:Mut (H x))(v:e=x\/H e=some (.own x))(k:∀b u,b≠e->s.heap.get? b=some u->h'.get? b=some u)(l:∃u,h'.get? e=some u)
  (new:JL X.prog X.w (upd H x o) h' x o):Inv X pins σ (upd H x o) { s with heap:=h',toks:=t' }:=I.un (Un.write y v k l) (I.hok.write y v k l new)
theorem Inv.weak{σ':List (Option V)}(I:Inv X pins σ H s)(l:σ'.length=σ.length)(w:∀(i:Nat) v,σ'[i]?=some (some v)->σ[i]?=some (some v)):Inv X pins σ' H s :=
 ⟨I.ok,I.os,I.bare,I.base,let ⟨m,hn,hl'⟩:=I.loc;⟨m,hn,fun i x v u y C=>hl' i x v u (w i v y) C⟩,I.cell,I.free,I.freeC,I.pin,I.hok,l.trans I.len⟩
theorem Inv.pins_of{u:qO}(I:Inv X pins σ H s)(h:∀p∈u,s.heap.get? p.1=some p.2/\H p.1=none/\p.1≠X.env.locals/\p.1∉X.fs/\∀v,p.2.data≠.cell v):Inv X u σ H s :=
 ⟨I.ok,I.os,I.bare,I.base,I.loc,I.cell,I.free,I.freeC,fun p x=>(aE.mp x).elim (fun z=>I.pin p (lZ _ z)) (h p),I.hok,I.len⟩
theorem zfH{N:List Str}(v:N.Nodup){i j:Nat}{x:Str}(a:N[i]?=some x)(b:N[j]?=some x):i=j:=by
 obtain⟨y,u⟩:=av.mp a;obtain⟨C,l⟩:=av.mp b;exact(List.getElem_inj v).mp (u.trans l.symm)
theorem zgc{M:sR}{A:br}{E:qV}{i:Nat}{x:Str}{v:V}{u:ah}{Q:Unit->au->Prop}(I:Inv X pins σ H s)(hN:X.N.Nodup)(hi:X.N[i]?=some x)(hx:Loc X.env.scope x)(r:RelV v u)
  (h:∀s',Inv X pins (σ.set i (some v)) H s'->(∃a,eu a s.heap s'.heap/\(a=X.env.locals\/X.env.cells.lookup x=some a))->Q () s') (hf:X.fn x=true\/X.env.scope.names.lookup x=some .local:=by walk_at "F"):wpAny M A (storeName X.env x u) Q E s:=by
 obtain⟨m,hn,hl⟩:=id I.loc;have U:(X.env.scope.kind == .class||(X.env.scope.kind == .module&&X.env.locals != X.env.globals))=false:=by rw[I.ok.kind];rfl
 have L:i<σ.length:=by rw[I.len];exact(av.mp hi).1
 have cne:=I.cne;have tracked:∀{a:aq} {h':aN},(∃o,s.heap.get? a=some o/\H a=none)->eu a s.heap h'->HOk X.prog X.w H h':=fun {a h'} ha C b ob e=>by
  obtain⟨_,_,Ij⟩:=ha;refine(I.hok b ob e).stay (fun c w' hc q=>(C.2 c ?_).trans q) (fun _ q=>q) (fun _ _ q=>q) fun _ _ _ q=>q
  rintro rfl;rcases hc with rfl|hc
  ·rw[Ij]at e;cases e
  ·rw[Ij]at hc;cases hc
 rcases hx with hk|hk
 ·refine wpAny_storeName_local hk hn (fun h' hn' C=>?_) U
  obtain⟨oL,_,_,hoL,_⟩:=id hn;refine h _ ⟨I.ok,I.os,I.bare,⟨fun b o e n N hx=>?_,fun b o e n N hx=>?_,I.base.free,fun b o e hx=>?_,I.base.tups,I.base.frzs,I.base.tbls⟩,⟨_,hn',fun j y v' G J e3=>?_⟩,fun y c e=>?_,I.free,I.freeC,fun p hp=>?_,tracked ⟨oL,hoL,I.free⟩ C,by simpa using I.len⟩ ⟨_,C,.inl rfl⟩
  ·exact(C.2 b (aF (aD (ay e) I.ok.above))).trans (I.base.keep b o e n N hx)
  ·obtain⟨sl,G⟩:=I.base.slot b o e n N hx;exact⟨sl,(C.2 b (aF (aD (ay e) I.ok.above))).trans G⟩
  ·obtain⟨o',G⟩:=I.base.there b o e hx;exact⟨o',(C.2 b (aF (aD (ay e) I.ok.above))).trans G⟩
  ·by_cases hj:j=i
   ·subst hj;rw[hi]at G;cases G;rw[cB L]at J;cases J;exact⟨u,r,.inl ⟨hk,by simp⟩⟩
   ·rw[aO (gT hj)]at J;obtain⟨u',r',q⟩:=hl j y v' G J e3;refine⟨u',r',?_⟩;rcases q with⟨k,e⟩|⟨k,c,e,z⟩
    ·refine .inl ⟨k,?_⟩;have:y≠x:=fun e=>hj (zfH hN G (e▸hi))
     simp[this,e]
    ·exact .inr ⟨k,c,e,z.sameBut C (cne y c e)⟩
  ·obtain⟨w',z⟩:=I.cell y c e;exact⟨w',z.sameBut C (cne y c e)⟩
  ·obtain⟨e,n,ne,nf,d⟩:=I.pin p hp;exact⟨(C.2 p.1 ne).trans e,n,ne,nf,d⟩
 ·have R:X.fn x=true:=by
   rcases hf with z|z
   ·exact z
   ·rw[z]at hk;cases hk
  obtain⟨c,hc⟩:=I.ok.has x (.inl hk);obtain⟨w',z⟩:=I.cell x c hc;refine wpAny_storeName_cell I.ok.kind hk hc z (fun h' S C=>?_)
  obtain⟨oc,Y,Z⟩:=id z;refine h { s with heap:=h' } ⟨I.ok,I.os,I.bare,⟨fun b o e n N hx=>?_,fun b o e n N hx=>?_,I.base.free,fun b o e hx=>?_,I.base.tups,I.base.frzs,I.base.tbls⟩,⟨m,hn.sameBut C (gT (cne x c hc)),fun j y v' G J e3=>?_⟩,fun y c' e=>?_,I.free,I.freeC,fun p hp=>?_,tracked ⟨oc,Y,I.freeC x c hc⟩ C,by simpa using I.len⟩ ⟨c,C,.inr hc⟩
  ·exact(C.2 b (aF (aD (ay e) (I.ok.cab x c R hc)))).trans (I.base.keep b o e n N hx)
  ·obtain⟨sl,G⟩:=I.base.slot b o e n N hx;exact⟨sl,(C.2 b (aF (aD (ay e) (I.ok.cab x c R hc)))).trans G⟩
  ·obtain⟨o',G⟩:=I.base.there b o e hx;exact⟨o',(C.2 b (aF (aD (ay e) (I.ok.cab x c R hc)))).trans G⟩
  ·by_cases hj:j=i
   ·subst hj;rw[hi]at G;cases G;rw[cB L]at J;cases J;exact⟨u,r,.inr ⟨.inl hk,c,hc,S⟩⟩
   ·rw[aO (gT hj)]at J;obtain⟨u',r',q⟩:=hl j y v' G J e3;refine⟨u',r',?_⟩;rcases q with q|⟨k,c',e,z'⟩
    ·exact .inl q
    ·refine .inr ⟨k,c',e,z'.sameBut C ?_⟩;rintro rfl;exact hj (zfH hN G (I.ok.inj _ _ _ e hc▸hi))
  ·by_cases hcc:c'=c
   ·subst hcc;exact⟨_,S⟩
   ·obtain⟨w2,z2⟩:=I.cell y c' e;exact⟨w2,z2.sameBut C hcc⟩
  ·obtain⟨e,n,ne,nf,d⟩:=I.pin p hp;refine⟨(C.2 p.1 ?_).trans e,n,ne,nf,d⟩;intro q;rw[q,Y]at e;have q':oc=p.2:=aM e;exact d w' (by rw[<- q'];exact Z)
theorem Yp{M:sR}{A:br}{E:qV}{i:Nat}{x:Str}{v:V}{u:ah}{Q:Unit->au->Prop}(I:Inv X pins σ H s)(C:X.N.Nodup)(hi:X.N[i]?=some x)(hx:Loc X.env.scope x)(r:RelV v u)
  (h:∀s',Inv X pins (σ.set i (some v)) H s'->Q () s') (hf:X.fn x=true\/X.env.scope.names.lookup x=some .local:=by walk_at "F"):wpAny M A (storeName X.env x u) Q E s :=
 zgc I C hi hx r (fun s' y _=>h s' y) hf
theorem Inv.call'{s':au}{ch:List aq}(I:Inv X pins σ H s)(v:s'.os=s.os)(u:Un (frs X.stack) ch H H' s.heap s'.heap)(hok:HOk X.prog X.w H' s'.heap)(C:iz s'.gens)
  (l:∀b∈ch,(b∈X.ex\/X.s₀.heap.objs.size<=b)/\b≠X.env.locals/\(∀x c,X.env.cells.lookup x=some c->c≠b)/\∀p∈X.pn++pins,p.1≠b):Inv X pins σ H' s':=by
 obtain⟨h',g',d',t',y⟩:=s';have e:y=s.os:=v;subst e;exact I.call (g':=g') (t':=t') (d':=d') u hok C l
end
abbrev XK:=ah->Option aq->Hp->Prop
abbrev St:=List (Option V)
abbrev VK:=V->Hp->Prop
abbrev TE:=St->Hp->VK->Prop
abbrev TT:=St->Hp->(Bool->Hp->Prop)->Prop
abbrev TA:=St->Hp->(List V->Hp->Prop)->Prop
structure Ends where
 nx:St->Hp->Prop
 rt:VK
 bk:St->Hp->Prop:=fun _ _=>False
 ct:St->Hp->Prop:=fun _ _=>False
abbrev TS:=Ends->St->Hp->Prop
def EP(X:Cx)(pins:qO)(σ:St)(Q:VK)(u:ah)(s':au):Prop:=∃v l,Inv X pins σ l s'/\RelV v u/\Q v l
def TP(X:Cx)(pins:qO)(σ:St)(Q:Bool->Hp->Prop)(b:Bool)(s':au):Prop:=∃l,Inv X pins σ l s'/\Q b l
def AP(X:Cx)(pins:qO)(σ:St)(Q:List V->Hp->Prop)(v:List ah)(s':au):Prop:=∃l u,Inv X pins σ u s'/\Vals l v/\Q l u
def SP(X:Cx)(pins:qO)(D:Ends)(f:Flow)(s':au):Prop :=
 match f with
 | .next=>∃σ' l,Inv X pins σ' l s'/\D.nx σ' l
 | .brk=>∃σ' l,Inv X pins σ' l s'/\D.bk σ' l
 | .cont=>∃σ' l,Inv X pins σ' l s'/\D.ct σ' l
 | .ret u=>∃v σ' l,Inv X pins σ' l s'/\RelV v u/\D.rt v l
def PE(X:Cx)(e:aP)(t:TE):Prop :=
 ∀(pins:qO) (s:au) (σ:St) (H:Hp) (Q:VK),Inv X pins σ H s->t σ H Q->wpAny (model X.prog X.w) X.A (eval e X.env) (EP X pins σ Q) X.xe s
def PT(X:Cx)(e:aP)(t:TT):Prop :=
 ∀(pins:qO) (s:au) (σ:St) (H:Hp) (Q:Bool->Hp->Prop),Inv X pins σ H s->t σ H Q->wpAny (model X.prog X.w) X.A (isTrue e X.env (eval e X.env)) (TP X pins σ Q) X.xe s
def PW(X:Cx)(e:aP)(t:TT):Prop :=
 ∀(whole:Sem ah) (pins:qO) (s:au) (σ:St) (H:Hp) (Q:Bool->Hp->Prop),Inv X pins σ H s->t σ H Q->wpAny (model X.prog X.w) X.A (isTrue e X.env whole) (TP X pins σ Q) X.xe s
theorem PW.pt{X:Cx}{e:aP}{t:TT}(h:PW X e t):PT X e t:=h _
def PA(X:Cx)(l:List aP)(t:TA):Prop :=
 ∀(pos:Pos) (pins:qO) (s:au) (σ:St) (H:Hp) (Q:List V->Hp->Prop),Inv X pins σ H s->t σ H Q->wpAny (model X.prog X.w) X.A (spliced (backTo pos (starEach l X.env))) (AP X pins σ Q) X.xe s
def PS(X:Cx)(st:dD)(t:TS):Prop :=
 ∀(pins:qO) (s:au) (σ:St) (H:Hp) (D:Ends),Inv X pins σ H s->t D σ H->wpAny (model X.prog X.w) X.A (exec st X.env) (SP X pins D) X.xe s
def PSs(X:Cx)(st:List dD)(t:TS):Prop :=
 ∀(pins:qO) (s:au) (σ:St) (H:Hp) (D:Ends),Inv X pins σ H s->t D σ H->wpAny (model X.prog X.w) X.A (execs st X.env) (SP X pins D) X.xe s
theorem thn{α:Type}{t:Sem α}{Q l:α->au->Prop}{M:sR}{A:br}{E:qV}{s:au}(h:wpAny M A t Q E s)(u:∀a s,Q a s->l a s):wpAny M A t l E s:=cQ h u fun _ _ x=>x
section
variable{X:Cx}
def tVar(i:Nat):TE:=fun σ H Q=>∃v,σ[i]?=some (some v)/\Q v H
def tC(v:V):TE:=fun _ H Q=>Q v H
theorem QX{i:Nat}{x:Str}{pos:Pos}(L:X.N[i]?=some x)(J:Vis X.env.scope x)(hd:(x == ("__debug__":Str))=false:=by decide) (G:(x == ("__classdict__":Str))=false:=by decide):PE X (.Name x pos) (tVar i):=by
 intro pins s σ H Q I h;obtain⟨v,e,h⟩:=h;obtain⟨m,U,R⟩:=I.loc;obtain⟨u,r,l⟩:=R i x v L e J;have fin:EP X pins σ Q u s:=⟨v,H,I,r,h⟩;rcases l with⟨C,S⟩|⟨C,c,hc,y⟩
 ·exact pE (wpAny_loadName_local I.ok.kind C U S fin) hd
 ·rcases C with C|C
  ·exact pE (wpAny_loadName_cell I.ok.kind C hc y fin) hd
  ·exact pE (wpAny_loadName_free I.ok.kind C hc y fin G) hd
theorem JE{i j pos}:PE X (.Constant (.int i) j pos) (tC (.int i)):=fun _ _ _ H _ I h=>wpAny_Constant_int ⟨.int i,H,I.tok _,⟨_,rfl⟩,h⟩
theorem zpq{b j pos}:PE X (.Constant (.bool b) j pos) (tC (.bl b)):=fun _ _ _ H _ I h=>Constant_bool ⟨.bl b,H,I,rfl,h⟩
theorem zr4{j pos}:PE X (.Constant .none j pos) (tC .non):=fun _ _ _ H _ I h=>Constant_none ⟨.non,H,I,rfl,h⟩
theorem zr0{x j pos}:PE X (.Constant (.str x) j pos) (tC (.str x)):=fun _ _ _ H _ I h=>Calls.Constant_str ⟨.str x,H,I.tok _,⟨_,rfl⟩,h⟩
def Gl(X:Cx)(x:Str):Prop:=X.env.kindOf x=some .globalImplicit
theorem UY{E:qV}{pins:qO}{s:au}{σ:St}{H:Hp}{x:Str}{u:ah}{pos:Pos}{Q:qV}(I:Inv X pins σ H s)(l:Gl X x)(v:X.mg x=some u)(h:Q u s)
  (hd:(x == ("__debug__":Str))=false:=by decide):wpAny (model X.prog X.w) X.A (eval (.Name x pos) X.env) Q E s :=
 fU I.ok.kind l (kU (by rw[I.ok.glob];exact I.mod.glob.keeps I.bk) v h) hd
theorem Zg{E:qV}{pins:qO}{s:au}{σ:St}{H:Hp}{x:Str}{u:ah}{pos:Pos}{Q:qV}(I:Inv X pins σ H s)(J:Gl X x)(C:X.mg x=none)(l:bootBuiltins x=some u)(h:Q u s)
  (G:x ≠ "__name__":=by decide) (hd:(x == ("__debug__":Str))=false:=by decide):wpAny (model X.prog X.w) X.A (eval (.Name x pos) X.env) Q E s:=by
 obtain⟨L,v,y⟩:=I.mod.blt;exact fU I.ok.kind J (Calls.loadGlobal_builtin (by rw[I.ok.glob];exact I.mod.glob.keeps I.bk) C (by rw[I.ok.blt];exact v.keeps I.bk) ((y x G).trans l) h) hd
theorem zpp{x:Str}{v:V}{u:ah}{pos:Pos}(G:Gl X x)(y:X.mg x=none)(l:bootBuiltins x=some u)(r:RelV v u)(C:x ≠ "__name__":=by decide) (hd:(x == ("__debug__":Str))=false:=by decide):PE X (.Name x pos) (tC v) :=
 fun _ _ _ H _ I h=>Zg I G y l ⟨v,H,I,r,h⟩ C hd
variable{a b:aP}{ta tb:TE}{pos:Pos}
def PC(X:Cx)(op:oG)(a b:aP)(t:TE):Prop :=
 ∀(pins:qO) (s:au) (σ:St) (H:Hp) (Q:VK),Inv X pins σ H s->t σ H Q ->
  wpAny (model X.prog X.w) X.A (eval a X.env) (fun v l=>wpAny (model X.prog X.w) X.A (eval b X.env) (fun u x=>wpAny (model X.prog X.w) X.A (compareOp op v u) (EP X pins σ Q) X.xe x) X.xe l) X.xe s
def tB(t:TE):TT:=fun σ H Q=>t σ H fun x u=>∃c,x=.bl c/\Q c u
theorem zrP{op:oG}{t:TE}(h:PC X op a b t)(l:behindInMarks op b=false:=by first|exact nobehind _ (by decide) (by decide)|rfl):PT X (.Compare a [op] [b] pos) (tB t):=by
 intro pins s σ H Q I hw;refine lT (thn (h pins s σ H _ I hw) fun v s1 l=>thn l fun u s2 N=>thn N fun c s3 ⟨x,y,L,G,J⟩=>?_) l
 obtain⟨d,rfl,q⟩:=J;cases G;exact bz ⟨y,L,q⟩
variable{tA tB':TT}{rest:List aP}
def tAnd(t u:TT):TT:=fun σ H Q=>t σ H fun c l=>if c=true then u σ l Q else Q false l
def tOr(t u:TT):TT:=fun σ H Q=>t σ H fun c l=>if c=true then Q true l else u σ l Q
def tNot(t:TT):TT:=fun σ H Q=>t σ H fun c l=>Q (!c) l
theorem zpa(u:PT X a tA):PW X (.BoolOp .And [a] pos) tA:=by
 intro v pins s σ H Q I h;refine isTrue_and (thn (u pins s σ H Q I h) fun c s1 e=>?_)
 cases c with
 | true=>exact isTrue_and_nil e
 | false=>exact e
theorem zrK(u:PT X a tA):PW X (.BoolOp .Or [a] pos) tA:=by
 intro v pins s σ H Q I h;refine isTrue_or (thn (u pins s σ H Q I h) fun c s1 e=>?_)
 cases c with
 | false=>exact isTrue_or_nil e
 | true=>exact e
theorem zrL(G:PT X a tA)(C:PW X (.BoolOp .And (b::rest) pos) tB'):PW X (.BoolOp .And (a::b::rest) pos) (tAnd tA tB'):=by
 intro y pins s σ H Q I h;refine isTrue_and (thn (G pins s σ H _ I h) fun c s1 ⟨u,x,v⟩=>?_)
 cases c with
 | true=>exact C y pins s1 σ u Q x v
 | false=>exact⟨u,x,v⟩
theorem zvE(G:PT X a tA)(C:PW X (.BoolOp .Or (b::rest) pos) tB'):PW X (.BoolOp .Or (a::b::rest) pos) (tOr tA tB'):=by
 intro y pins s σ H Q I h;refine isTrue_or (thn (G pins s σ H _ I h) fun c s1 ⟨u,x,v⟩=>?_)
 cases c with
 | true=>exact⟨u,x,v⟩
 | false=>exact C y pins s1 σ u Q x v
theorem zrO(u:PT X a tA):PT X (.UnaryOp .Not a pos) (tNot tA):=by
 intro pins s σ H Q I h;exact isTrue_not (u pins s σ H (fun c l=>Q (!c) l) I h)
def zu3(ta tb:TE):TE:=fun σ H Q=>ta σ H fun x u=>∃c,x=.bl c/\if c=true then tb σ u Q else Q (.bl false) u
def tOrV(ta tb:TE):TE:=fun σ H Q=>ta σ H fun x u=>∃c,x=.bl c/\if c=true then Q (.bl true) u else tb σ u Q
def zuX(ta:TE):TE:=fun σ H Q=>ta σ H fun x u=>∃c,x=.bl c/\Q (.bl (!c)) u
theorem zr2{op}{t:TE}(h:PE X a t):PE X (.BoolOp op [a] pos) t:=fun pins s σ H Q I hw=>BoolOp_one (h pins s σ H Q I hw)
theorem zr7(L:PE X a ta)(G:PE X (.BoolOp .And (b::rest) pos) tb):PE X (.BoolOp .And (a::b::rest) pos) (zu3 ta tb):=by
 intro pins s σ H Q I h;refine BoolOp_and (thn (L pins s σ H _ I h) fun v s1 ⟨x,y,C,J,u⟩=>?_)
 obtain⟨c,rfl,u⟩:=u;cases J;refine bz ?_;cases c with
 | true=>exact G pins s1 σ y Q C u
 | false=>exact⟨.bl false,y,C,rfl,u⟩
theorem zvG(L:PE X a ta)(G:PE X (.BoolOp .Or (b::rest) pos) tb):PE X (.BoolOp .Or (a::b::rest) pos) (tOrV ta tb):=by
 intro pins s σ H Q I h;refine BoolOp_or (thn (L pins s σ H _ I h) fun v s1 ⟨x,y,C,J,u⟩=>?_)
 obtain⟨c,rfl,u⟩:=u;cases J;refine bz ?_;cases c with
 | false=>exact G pins s1 σ y Q C u
 | true=>exact⟨.bl true,y,C,rfl,u⟩
theorem zr3(G:PE X a ta):PE X (.UnaryOp .Not a pos) (zuX ta):=by
 intro pins s σ H Q I h;refine UnaryOp_ (thn (G pins s σ H _ I h) fun v s1 ⟨x,C,J,L,u⟩=>?_)
 obtain⟨c,rfl,u⟩:=u;cases L;exact not_of (bz ⟨.bl (!c),C,J,rfl,u⟩)
def tIf(t:TT)(ta tb:TE):TE:=fun σ H Q=>t σ H fun c l=>if c=true then ta σ l Q else tb σ l Q
theorem znq{c:aP}(hc:PT X c tA)(C:PE X a ta)(y:PE X b tb):PE X (.IfExp c a b pos) (tIf tA ta tb):=by
 intro pins s σ H Q I h;refine wpAny_IfExp (thn (hc pins s σ H _ I h) fun d s1 ⟨l,v,u⟩=>?_)
 cases d with
 | true=>exact C pins s1 σ l Q v u
 | false=>exact y pins s1 σ l Q v u
end
def SqL(K:qF)(H:Hp)(a:aq)(xs:List V):Prop :=
 Rd H a (.lst xs) \/
  ∃(o:Obj) (u:Array ah) (n:Nat),K.lookup a=some o/\o.cls=.type "list" /\ o.dict=none/\o.data=.seq u n/\u.size<=sizeLine/\Vals xs u.toList
def SqT(K:qF)(H:Hp)(a:aq)(xs:List V):Prop :=
 Rd H a (.tup xs) \/
  ∃(o:Obj) (l:Array ah) (n:Nat),K.lookup a=some o/\o.cls=.type "tuple" /\ o.data=.seq l n/\l.size<=sizeLine/\Vals xs l.toList
def absV:ah->Option V
 | .none=>some .non
 | .bool b=>some (.bl b)
 | .int i _=>some (.int i)
 | .str x _=>some (.str x)
 | .bytes b _=>some (.byt b)
 | .float b _=>some (.flt b)
 | .ref a=>some (.ref a)
 | .type n=>some (.ty n)
 | _=>none
theorem RelV.abs{x:V}{u:ah}(r:RelV x u):absV u=some x:=by
 cases x with
 | non=>cases r;rfl
 | bl _=>cases r;rfl
 | int _=>obtain⟨t,rfl⟩:=r;rfl
 | str _=>obtain⟨t,rfl⟩:=r;rfl
 | byt _=>obtain⟨t,rfl⟩:=r;rfl
 | flt _=>obtain⟨t,rfl⟩:=r;rfl
 | ref _=>cases r;rfl
 | ty _=>cases r;rfl
theorem RelV.inj{x y:V}{u:ah}(r:RelV x u)(q:RelV y u):x=y:=aM (r.abs.symm.trans q.abs)
theorem Vals.inj{xs ys:List V}{l:List ah}(h:Vals xs l)(k:Vals ys l):xs=ys:=by
 induction h generalizing ys with
 | nil=>cases k;rfl
 | cons r t v =>
  cases k with
  | cons u t'=>rw[r.inj u,v t']
section
variable{X:Cx}{pins:qO}{σ:St}{H:Hp}{s:au}{a:aq}{xs ys:List V}
theorem SqL.of{K:qF}(h:H a=some (.lst xs)):SqL K H a xs:=.inl (.inl h)
theorem Inv.list(I:Inv X pins σ H s)(h:SqL X.K H a xs):∃l:List ah,Vals xs l/\PlainL s.heap a l.toArray/\xs.length<=sizeLine:=by
 rcases h with h|⟨o,l,n,v,hc,hd,u,x,r⟩
 ·obtain⟨z,l,n,r,e⟩:=h.ok I.hok;exact⟨l,r,⟨_,n,e,rfl,rfl,rfl⟩,z⟩
 ·refine⟨l.toList,r,⟨o,n,I.kIn a o v,hc,hd,by simpa using u⟩,?_⟩
  have e:=r.length;simp only[dB]at e;lia
theorem Inv.tuple(I:Inv X pins σ H s)(h:SqT X.K H a xs):∃l:List ah,Vals xs l/\lY s.heap a l.toArray/\xs.length<=sizeLine:=by
 rcases h with h|⟨o,l,n,v,hc,u,x,r⟩
 ·obtain⟨z,l,r,p⟩:=h.ok I.hok;exact⟨l,r,p.tup,z⟩
 ·refine⟨l.toList,r,⟨o,I.kIn a o v,hc,n,by simpa using u⟩,?_⟩
  have e:=r.length;simp only[dB]at e;lia
theorem Inv.list_inj(I:Inv X pins σ H s)(h:SqL X.K H a xs)(h':SqL X.K H a ys):xs=ys:=by
 obtain⟨l,r,⟨o,n,e,_,_,d⟩,_⟩:=I.list h;obtain⟨its',v,⟨y,x,u,_,_,d'⟩,_⟩:=I.list h';rw[e]at u;cases u;rw[d]at d'
 injection d' with d1 _
 have:l=its':=by simpa using congrArg lA d1
 subst this;exact r.inj v
theorem Inv.tuple_inj(I:Inv X pins σ H s)(h:SqT X.K H a xs)(h':SqT X.K H a ys):xs=ys:=by
 obtain⟨l,r,⟨o,e,_,n,d⟩,_⟩:=I.tuple h;obtain⟨its',v,⟨y,u,_,x,d'⟩,_⟩:=I.tuple h';rw[e]at u;cases u;rw[d]at d'
 injection d' with d1 _
 have:l=its':=by simpa using congrArg lA d1
 subst this;exact r.inj v
end
abbrev Cx.wish(X:Cx)(E:qV):Cx:={ X with xe:=E }
abbrev Cx.nox(X:Cx):Cx:=X.wish fun _ _=>False
theorem Cx.Ok.wish{X:Cx}(ok:X.Ok)(E:qV):(X.wish E).Ok :=
 ⟨ok.mod,ok.kind,ok.glob,ok.blt,ok.above,ok.inj,ok.has,ok.cab,ok.hd,ok.frames,ok.stk,ok.exf,ok.bs,ok.bsz,ok.noex,ok.exfs,ok.funs,ok.frf⟩
theorem Cx.Ok.unwish{X:Cx}{E:qV}(ok:(X.wish E).Ok):X.Ok :=
 ⟨ok.mod,ok.kind,ok.glob,ok.blt,ok.above,ok.inj,ok.has,ok.cab,ok.hd,ok.frames,ok.stk,ok.exf,ok.bs,ok.bsz,ok.noex,ok.exfs,ok.funs,ok.frf⟩
section
variable{X:Cx}{pins:qO}{σ:St}{H:Hp}{s:au}{E:qV}
theorem Inv.wish(I:Inv X pins σ H s)(E:qV):Inv (X.wish E) pins σ H s:=⟨I.ok.wish E,I.os,I.bare,I.base,I.loc,I.cell,I.free,I.freeC,I.pin,I.hok,I.len⟩
theorem Inv.unwish(I:Inv (X.wish E) pins σ H s):Inv X pins σ H s:=⟨I.ok.unwish,I.os,I.bare,I.base,I.loc,I.cell,I.free,I.freeC,I.pin,I.hok,I.len⟩
theorem SP.unwish{D:Ends}{f:Flow}{s':au}(h:SP (X.wish E) pins D f s'):SP X pins D f s':=by
 cases f with
 | next=>obtain⟨σ',l,I,q⟩:=h;exact⟨σ',l,I.unwish,q⟩
 | brk=>obtain⟨σ',l,I,q⟩:=h;exact⟨σ',l,I.unwish,q⟩
 | cont=>obtain⟨σ',l,I,q⟩:=h;exact⟨σ',l,I.unwish,q⟩
 | ret u=>obtain⟨v,σ',l,I,r,q⟩:=h;exact⟨v,σ',l,I.unwish,r,q⟩
theorem PSs.nox{st:List dD}{t:TS}(h:PSs X.nox st t):PSs X st t:=fun pins s σ H D I hw =>
 cQ (h pins s σ H D (I.wish _) hw) (fun _ _ q=>q.unwish) fun _ _ z=>cu z
end
section
variable{X:Cx}{st:dD}{rest:List dD}{t u:TS}{e:aP}{te:TE}{pos:Pos}
def zuY:TS:=fun D σ H=>D.nx σ H
def tSeq(t u:TS):TS:=fun D σ H=>t { D with nx:=u D } σ H
theorem zhW:PSs X [] zuY:=fun _ _ σ H _ I h=>fE ⟨σ,H,I,h⟩
theorem Qs(l:PS X st t)(C:PSs X rest u):PSs X (st::rest) (tSeq t u):=by
 intro pins s σ H D I h;refine kW (thn (l pins s σ H { D with nx:=u D } I h) fun f s1 q=>?_)
 cases f with
 | next =>
  obtain⟨σ',x,y,q⟩:=q;exact C pins s1 σ' x D y q
 | ret v=>exact q
 | brk=>exact q
 | cont=>exact q
theorem UZ(l:PS X st t):PSs X [st] t:=by
 intro pins s σ H D I h;refine kW (thn (l pins s σ H D I h) fun f s1 q=>?_)
 cases f with
 | next=>exact fE q
 | ret v=>exact q
 | brk=>exact q
 | cont=>exact q
theorem Inv.quiet{pins:qO}{σ:St}{H:Hp}{s:au}(I:Inv X pins σ H s):interactive X.env=false:=by simp[interactive,I.ok.kind]
def zu2(te:TE):TS:=fun D σ H=>te σ H fun _ l=>D.nx σ l
theorem zpe(l:PE X e te)(y:swapsWith e none pos.line X.env=pure false:=by rfl):PS X (.Expr e pos) (zu2 te):=by
 intro pins s σ H D I h;exact pF (thn (l pins s σ H _ I h) fun v s1 ⟨x,C,J,L,G⟩=>⟨σ,C,J,G⟩) I.quiet y
def tRet(te:TE):TS:=fun D σ H=>te σ H D.rt
theorem Y5(l:PE X e te):PS X (.Return (some e) pos) (tRet te):=by
 intro pins s σ H D I h;exact wpAny_Return_some (thn (l pins s σ H _ I h) fun v s1 ⟨x,y,G,J,C⟩=>⟨x,σ,y,G,J,C⟩)
def tIfS(c:TT)(t u:TS):TS:=fun D σ H=>c σ H fun b l=>if b=true then t D σ l else u D σ l
theorem zpd{c:aP}{a b:List dD}{y:TT}(hc:PT X c y)(G:PSs X a t)(C:PSs X b u):PS X (.If c a b pos) (tIfS y t u):=by
 intro pins s σ H D I h;refine wpAny_If (thn (hc pins s σ H _ I h) fun d s1 ⟨l,x,v⟩=>?_)
 cases d with
 | true=>exact G pins s1 σ l D x v
 | false=>exact C pins s1 σ l D x v
end
abbrev TG:=V->St->Hp->(St->Hp->Prop)->Prop
abbrev TGs:=List V->St->Hp->(St->Hp->Prop)->Prop
def PG(X:Cx)(target:aP)(t:TG):Prop :=
 ∀(pins:qO) (s:au) (σ:St) (H:Hp) (v:V) (u:ah) (Q:St->Hp->Prop),Inv X pins σ H s->RelV v u->t v σ H Q ->
  wpAny (model X.prog X.w) X.A (assign target X.env u) (fun _ s'=>∃σ' l,Inv X pins σ' l s'/\Q σ' l) X.xe s
def PGs(X:Cx)(ts:List aP)(t:TGs):Prop :=
 ∀(pins:qO) (s:au) (σ:St) (H:Hp) (l:List V) (v:List ah) (Q:St->Hp->Prop),Inv X pins σ H s->Vals l v->t l σ H Q ->
  wpAny (model X.prog X.w) X.A (assignInOrder ((assignEach ts X.env).map (·.2)) v) (fun _ s'=>∃σ' u,Inv X pins σ' u s'/\Q σ' u) X.xe s
abbrev TSet:=V->V->V->Hp->(Hp->Prop)->Prop
def PSet(X:Cx)(t:TSet):Prop :=
 ∀(pins:qO) (s:au) (σ:St) (H:Hp) (o i v:V) (l y u:ah) (Q:Hp->Prop),Inv X pins σ H s->RelV o l->RelV i y->RelV v u->t o i v H Q ->
  wpAny (model X.prog X.w) X.A (setItem l y u) (fun _ s'=>∃x,Inv X pins σ x s'/\Q x) X.xe s
section
variable{X:Cx}{pos:Pos}
def YT(i:Nat):TG:=fun v σ H Q=>Q (σ.set i (some v)) H
theorem Vn{i:Nat}{x:Str}(C:X.N.Nodup)(hi:X.N[i]?=some x)(hx:Loc X.env.scope x)(hf:X.fn x=true\/X.env.scope.names.lookup x=some .local:=by walk_at "F"):PG X (.Name x pos) (YT i):=by
 intro pins s σ H v u Q I r h;exact nu (Yp I C hi hx r (fun s' y=>⟨_,H,y,h⟩) hf)
def gNil:TGs:=fun l σ H Q=>l=[]/\Q σ H
def zws(t:TG)(u:TGs):TGs:=fun l σ H Q=>∃v r,l=v::r/\t v σ H fun σ' x=>u r σ' x Q
theorem zkK:PGs X [] gNil:=by
 intro pins s σ H l u Q I r h;obtain⟨e,h⟩:=h;subst e;cases r;exact nv ⟨σ,H,I,h⟩
theorem VI{e:aP}{l:List aP}{t:TG}{u:TGs}(J:PG X e t)(R:PGs X l u)
  (S:(assignEach (e::l) X.env).map (·.2)=assign e X.env::(assignEach l X.env).map (·.2):=by rfl):PGs X (e::l) (zws t u):=by
 intro pins s σ H Y Z Q I r h;obtain⟨v,U,N,h⟩:=h;subst N;cases r with
 | cons r C =>
  rw[S];refine iY (thn (J pins s σ H _ _ _ I r h) fun _ s1 ⟨x,y,L,G⟩=>?_)
  exact R pins s1 x y _ _ Q L C G
def gTup(K:qF)(n:Nat)(t:TGs):TG:=fun v σ H Q=>∃a xs,v=.ref a/\SqT K H a xs/\xs.length=n/\t xs σ H Q
theorem zrY{y:List aP}{k:Nat}{t:TGs}{n:Nat}(hc:X.calm=true)(h:PGs X y t)
  (Y:(assignEach y X.env).length=n:=by rfl) (C:(assignEach y X.env).findIdx? (·.1)=none:=by rfl):PG X (.Tuple y k pos) (gTup X.K n t):=by
 intro pins s σ H v u Q I r hw;obtain⟨a,xs,L,J,U,hw⟩:=hw;subst L;cases r;obtain⟨R,G,S,Z⟩:=I.tuple J;refine assign_Tuple_tuple (I.ok.hd hc) S (by simp[Y,<- U,G.length]) C fun h' hx=>?_
 have N:Inv X pins σ H { s with heap:=h' }:=I.kept (t':=s.toks) fun b o e=>hx b o (aF (ay e)) e
 exact h pins _ σ H xs _ Q N (by simpa using G) hw
def gSub(to ti:TE)(t:TSet):TG:=fun v σ H Q=>to σ H fun o u=>ti σ u fun i l=>t o i v l fun x=>Q σ x
theorem pg_sub{o i:aP}{to ti:TE}{t:TSet}(N:PE X o to)(hi:PE X i ti)(hs:PSet X t)
  (Z:∀v,assign (.Subscript o i pos) X.env v=(do
   let l <- holding [v] (eval o X.env)
   let C <- holding [v,l] (eval i X.env)
   standAt pos
   holding [v,l,C] (setItem l C v)
   release [v,l,C] []):=by intro _;rfl):PG X (.Subscript o i pos) (gSub to ti t):=by
 intro pins s σ H v u Q I r h;rw[Z];refine aa (bO (thn (N pins s σ H _ I h) fun l s1 ⟨x,G,Y,L,U⟩=>?_))
 refine aa (bO (thn (hi pins s1 σ G _ Y U) fun C s2 ⟨y,R,I2,r2,q2⟩=>?_))
 refine aa (dM (aa (bO (thn (hs pins s2 σ R x y v l C u _ I2 L r2 r q2) fun _ s3 ⟨H3,J,q3⟩=>?_))))
 exact wpAny_release ⟨σ,H3,J,q3⟩
def tAsg(l:TE)(g:TG):TS:=fun D σ H=>l σ H fun x u=>g x σ u D.nx
theorem Y4{l e:aP}{u:TE}{g:TG}(G:PE X e u)(S:PG X l g)(R:swapsWithSole [l] e pos.line X.env=pure false:=by rfl)(hw:swappedStores [l] e X.env=pure none:=by rfl)
  (L:(assignEach [l] X.env).map (·.2)=[assign l X.env]:=by rfl):PS X (.Assign [l] e pos) (tAsg u g):=by
 intro pins s σ H D I h;refine wpAny_Assign_stores (thn (G pins s σ H _ I h) fun v s1 ⟨x,y,N,C,J⟩=>?_) R hw
 rw[L];exact thn (S pins s1 σ y x v _ N C J) fun _ s2 q=>q
theorem Qy{i:Nat}{x:Str}{e:aP}{C:TE}{u:Pos}(U:X.N.Nodup)(hi:X.N[i]?=some x)(hx:Loc X.env.scope x)(L:PE X e C)(Z:swapsWith e (some (.Name x u)) pos.line X.env=pure false:=by rfl)(hf:X.fn x=true\/X.env.scope.names.lookup x=some .local:=by walk_at "F") :
  PS X (.Assign [.Name x u] e pos) (tAsg C (YT i)):=by
 intro pins s σ H D I h;refine wpAny_Assign_Name (thn (L pins s σ H _ I h) fun v s1 ⟨y,G,S,J,R⟩=>?_) Z
 exact Yp S U hi hx J (fun s2 Y=>⟨_,G,Y,R⟩) hf
def tPar(i j:Nat)(u:TA):TS:=fun D σ H=>u σ H fun l x=>∃v w,l=[v,w]/\D.nx ((σ.set i (some v)).set j (some w)) x
theorem zoA{i j:Nat}{x y:Str}{a b:aP}{ta:TA}{L py pt:Pos}{kt k2 pt2}(hc:X.calm=true)(hN:X.N.Nodup)(hi:X.N[i]?=some x)(hj:X.N[j]?=some y)(U:i≠j)
  (hx:X.env.scope.names.lookup x=some .local) (Z:X.env.scope.names.lookup y=some .local) (ha:PA X [a,b] ta)
  (hw:swappedStores [.Tuple [.Name x L,.Name y py] kt pt] (.Tuple [a,b] k2 pt2) X.env=pure (some [x,y]))
  (hs:swapsWithSole [.Tuple [.Name x L,.Name y py] kt pt] (.Tuple [a,b] k2 pt2) pos.line X.env=pure false:=by rfl) :
  PS X (.Assign [.Tuple [.Name x L,.Name y py] kt pt] (.Tuple [a,b] k2 pt2) pos) (tPar i j ta):=by
 intro pins s σ H D I h;rw[exec_Assign_arm];refine aa (dM ?_);rw[hs];refine aa (aj ?_);rw[if_neg (by decide)]
 refine aa (Tuple_ (thn (ha _ pins s σ H _ I h) fun us s1 ⟨vs,Y,I1,r1,R⟩=>?_))
 obtain⟨v,w,e1,R⟩:=R;subst e1;obtain⟨C,G,rfl,rv,J⟩:∃C G,us=[C,G]/\RelV v C/\RelV w G:=by
  cases r1 with
  | cons p q =>
   cases q with
   | cons p' q' =>
    cases q';exact⟨_,_,rfl,p,p'⟩
 refine cR ?_ (by show 2<=sizeLine;decide)
 have I2:Inv X pins σ Y { s1 with heap:=s1.heap.push { cls:=.type "tuple",data:=.seq [C,G].toArray } }:=I1.kept (t':=s1.toks) fun b o e=>ak _ e
 rw[hw];refine aa (aj ?_);show wpAny (model X.prog X.w) X.A (do rule "assign.swapped-stores";let items <- unpackItems (.ref s1.heap.objs.size) 2 none;assignInOrder [fun v=>bindName X.env y v,fun v=>bindName X.env x v] items.reverse;pure xT) _ _ _
 refine aa (eX (aa (unpackItems_tuple (items:=#[C,G]) (I.ok.hd hc) (IsTup.new s1.heap _) fun h' S=>?_)))
 have I3:=I2.kept (h':=h') (t':=s1.toks) fun b o e=>S b o (aF (ay e)) e
 show wpAny _ _ (assignInOrder [fun v=>bindName X.env y v,fun v=>bindName X.env x v] [G,C] >>= fun _=>pure xT) _ _ _
 refine aa (iY (l5 (Yp I3 hN hj (.inl Z) J (fun s2 I4=>?_) (.inr Z))))
 refine iY (l5 (Yp I4 hN hi (.inl hx) rv (fun s3 I5=>nv (aj ?_)) (.inr hx)))
 rw[List.set_comm _ _ (gT U)]at I5;exact⟨_,Y,I5,R⟩
end
section
variable{X:Cx}{pos:Pos}
def zra(c:TT)(x:TS):TS:=fun D σ H=>∃W:Nat->St->Hp->Prop,(∃m,W m σ H)/\∀m σ H,W m σ H ->
 c σ H fun b l=>if b=true then ∃N:St->Hp->Prop,(∀σ' u,N σ' u->∃v,v<m/\W v σ' u)/\x { D with nx:=N,ct:=N,bk:=D.nx } σ l else D.nx σ l
theorem znk{c:aP}{body:List dD}{tc:TT}{tb:TS}(hp:oa (model X.prog X.w) X.A X.env X.xe)(hc:PT X c tc)(hb:PSs X body tb):PS X (.While c body [] pos) (zra tc tb):=by
 intro pins s σ H D I h;obtain⟨W,⟨m0,w0⟩,turn⟩:=h;refine wpAny_While (codeAny_whileLoop (fun n s'=>∃σ' H',Inv X pins σ' H' s'/\W n σ' H') ?_ m0 ⟨σ,H,I,w0⟩)
 rintro n s1 ⟨x,Y,I1,w1⟩;refine eP hp (thn (hc pins s1 x Y _ I1 (turn n x Y w1)) fun b s2 ⟨Z,I2,C⟩=>?_)
 cases b with
 | true =>
  obtain⟨N,hN,C⟩:=C;rw[if_pos rfl];refine eP hp (thn (hb pins s2 x Z _ I2 C) fun f s3 G=>?_)
  cases f with
  | next =>
   obtain⟨u,y,J,S⟩:=G;obtain⟨R,U,L⟩:=hN u y S;exact⟨R,U,u,y,J,L⟩
  | cont =>
   obtain⟨u,y,J,S⟩:=G;obtain⟨R,U,L⟩:=hN u y S;exact⟨R,U,u,y,J,L⟩
  | brk=>exact G
  | ret v=>exact G
 | false =>
  rw[if_neg aW];exact fE ⟨x,Z,I2,C⟩
end
structure It where
 go:Nat->Hp->Prop
 yld:Nat->Hp->V->Hp->Prop
 stop:Nat->Hp->Prop
def FpOk(X:Cx)(pins:qO)(H:Hp)(b:aq):Prop :=
 H b=none/\b≠X.env.locals/\b∉X.fs/\(b∈X.ex\/X.s₀.heap.objs.size<=b)/\(∀x c,X.env.cells.lookup x=some c->c≠b)/\∀p∈X.pn++pins,p.1≠b
theorem Inv.fpOk{X:Cx}{pins:qO}{σ:St}{H u:Hp}{s:au}{b:aq}(I:Inv X pins σ H s)(l:s.heap.objs.size<=b)(C:u b=none):FpOk X pins u b:=by
 refine⟨C,lB (aD I.lt l),I.nofs l,.inr (cf I.sz l),fun x c e z=>?_,fun p y z=>?_⟩
 ·obtain⟨v,q⟩:=I.cell x c e;exact absurd (aD q.lt (by rw[z];exact l)) (fL _)
 ·exact absurd (aD (ay (I.pin p y).1) (by rw[z];exact l)) (fL _)
structure Turn(P:aK)(w:aQ)(K:qF)(tg:aP)(J:It)(fp:List aq)(it:aq)(tn:Nat->aN->Prop):Prop where
 mem:it∈fp
 obj:∀i h,tn i h->∀b∈fp,∃o,h.get? b=some o/\∀v,o.data≠.cell v
 keep:∀i h h',tn i h->(∀b∈fp,∀o,h.get? b=some o->h'.get? b=some o)->tn i h'
 item:∀(X:Cx),X.prog=P->X.w=w->X.K=K->X.calm=true->∀(i:Nat) (pins:qO) (s:au) (σ:St) (H:Hp) (E:qV),Inv X pins σ H s->(∀b∈fp,FpOk X pins H b)->tn i s.heap->J.go i H ->
  wpAny (model P w) X.A (pyNext (.ref it)) (fun r s1=>∃u,r=some u /\
   wpAny (model P w) X.A (letOwnedTupleGo tg (.ref it) u) (fun _ s2=>∃x H',Inv X pins σ H' s2/\RelV x u/\J.yld i H x H'/\tn (i+1) s2.heap/\∀b∈fp,H' b=none) E s1) E s
 done:∀(X:Cx),X.prog=P->X.w=w->X.K=K->X.calm=true->∀(i:Nat) (pins:qO) (s:au) (σ:St) (H:Hp) (E:qV),Inv X pins σ H s->(∀b∈fp,FpOk X pins H b)->tn i s.heap->J.stop i H ->
  wpAny (model P w) X.A (pyNext (.ref it)) (fun r s1=>r=none/\Inv X pins σ H s1) E s
 self:∀(A:br) (i:Nat) (s:au) (Q:qV) (E:qV),tn i s.heap->Q (.ref it) s->wpAny (model P w) A (pyIter (.ref it)) Q E s
abbrev TI:=St->Hp->(It->Hp->Prop)->Prop
def PIE(X:Cx)(pins:qO)(σ:St)(y:aP)(R:It->Hp->Prop)(u:ah)(s2:au):Prop :=
 ∃(it:aq) (x:List aq) (v:Nat->aN->Prop) (J:It) (l:Hp),u=.ref it/\Inv X pins σ l s2/\Turn X.prog X.w X.K y J x it v/\v 0 s2.heap/\(∀b∈x,FpOk X pins l b)/\R J l
def PI(X:Cx)(l iter:aP)(u:TI):Prop :=
 ∀(pins:qO) (s:au) (σ:St) (H:Hp) (R:It->Hp->Prop),Inv X pins σ H s->u σ H R ->
  wpAny (model X.prog X.w) X.A (eval iter X.env) (fun v s1=>wpAny (model X.prog X.w) X.A (pyIter v) (PIE X pins σ l R) X.xe s1) X.xe s
theorem ZX{M:sR}{A:br}{E:qV}{s:au}{C:aP}{it:aq}{u:ah}{o:Obj}{n:String}{x:Array ah}{Q:Unit->au->Prop}(G:s.heap.get? it=some o)(hc:o.cls=.type n)(hd:o.data=.fields x)
  (I:["enumerate","zip","dict_itemiterator","dict_reverseitemiterator","odict_iterator","itertools.zip_longest","itertools.pairwise"].contains n=false) (v:Q () s):wpAny M A (letOwnedTupleGo C (.ref it) u) Q E s:=by
 unfold letOwnedTupleGo;cases C <;> first
  | exact aj v
  | (cases u <;> first
    | exact aj v
    | (refine aa (wpAny_load G ?_)
       rw[hc,hd];show wpAny M A (if (["enumerate","zip","dict_itemiterator","dict_reverseitemiterator","odict_iterator","itertools.zip_longest","itertools.pairwise"].contains n&&x[0]? == some (rawInt _))=true then _ else _) Q E s
       rw[if_neg (by intro h;rw[I,cC]at h;cases h)]
       exact aj v))
def Itl(K:qF)(a:aq):It :=
 ⟨fun i H=>∃xs x,SqL K H a xs/\xs[i]?=some x,fun i H x l=>l=H/\∀xs,SqL K H a xs->xs[i]?=some x,fun i H=>∃xs,SqL K H a xs/\xs.length<=i⟩
def Itt(K:qF)(a:aq):It :=
 ⟨fun i H=>∃xs x,SqT K H a xs/\xs[i]?=some x,fun i H x l=>l=H/\∀xs,SqT K H a xs->xs[i]?=some x,fun i H=>∃xs,SqT K H a xs/\xs.length<=i⟩
def Itr(lo:Int)(n:Nat):It:=⟨fun i _=>i<n,fun i H x l=>l=H/\x=.int (lo+i),fun i _=>n<=i⟩
theorem zf8{P:aK}{w:aQ}{K:qF}{tg:aP}(a it:aq):Turn P w K tg (Itl K a) [it] it (fun i h=>h.IsListIter it a i) where
 mem:=by simp
 obj:=fun i h st b l=>by
  have e:b=it:=by simpa using l
  subst e;obtain⟨o,e,c,d⟩:=st;exact⟨o,e,fun v z=>by rw[d]at z;cases z⟩
 keep:=fun i h h' st k=>st.at fun o e=>k it (by simp) o e
 item:=by
  intro X R hw J hc i pins s σ H E I hf st G;subst R hw J;obtain⟨xs,x,C,hx⟩:=G;obtain⟨N,U,p,hz⟩:=I.list C;obtain⟨u,hu,ru⟩:=U.get hx;obtain⟨f0,f1,f2,S,f4,L⟩:=hf it (by simp)
  refine wpAny_pyNext_list_item st p.isList (x:=u) (by simpa using hu) fun h' y Y=>?_
  have I1:Inv X pins σ H { s with heap:=h' }:=I.turned (t':=s.toks) (fun b o l e=>(Y.2 b l).trans e) f0 f1 S f4 L
  obtain⟨o,e,c,d⟩:=id y;exact⟨u,rfl,ZX (s:={ s with heap:=h' }) e c d (by decide) ⟨x,H,I1,ru,⟨rfl,fun ys Z=>by rw[I.list_inj Z C];exact hx⟩,y,fun b l=>(hf b l).1⟩⟩
 done:=by
  intro X R hw J hc i pins s σ H E I hf st G;subst R hw J;obtain⟨xs,C,hx⟩:=G;obtain⟨N,U,p,hz⟩:=I.list C;obtain⟨f0,f1,f2,S,f4,L⟩:=hf it (by simp)
  have hl:=U.length;exact wpAny_pyNext_list_end (I.ok.hd hc) st p.isList (by simp;lia) fun h' eb=>⟨rfl,I.turned (t':=s.toks) (fun b o l e=>eb b o l e) f0 f1 S f4 L⟩
 self:=fun _ _ _ _ _ st h=>wpAny_pyIter_listiter st h
theorem zeW{P:aK}{w:aQ}{K:qF}{tg:aP}(a it:aq):Turn P w K tg (Itt K a) [it] it (fun i h=>h.IsTupleIter it a i) where
 mem:=by simp
 obj:=fun i h st b l=>by
  have e:b=it:=by simpa using l
  subst e;obtain⟨o,e,c,d⟩:=st;exact⟨o,e,fun v z=>by rw[d]at z;cases z⟩
 keep:=fun i h h' st k=>st.at fun o e=>k it (by simp) o e
 item:=by
  intro X R hw L hc i pins s σ H E I hf st J;subst R hw L;obtain⟨xs,x,G,hx⟩:=J;obtain⟨y,U,p,hz⟩:=I.tuple G;obtain⟨u,hu,ru⟩:=U.get hx;obtain⟨f0,f1,f2,S,f4,N⟩:=hf it (by simp)
  refine wpAny_pyNext_tuple_item st (show s.heap.IsTuple a y.toArray from p) (x:=u) (by simpa using hu) fun h' C Y=>?_
  have I1:Inv X pins σ H { s with heap:=h' }:=I.turned (t':=s.toks) (fun b o l e=>(Y.2 b l).trans e) f0 f1 S f4 N
  obtain⟨o,e,c,d⟩:=id C;exact⟨u,rfl,ZX (s:={ s with heap:=h' }) e c d (by decide) ⟨x,H,I1,ru,⟨rfl,fun ys Z=>by rw[I.tuple_inj Z G];exact hx⟩,C,fun b l=>(hf b l).1⟩⟩
 done:=by
  intro X R hw L hc i pins s σ H E I hf st J;subst R hw L;obtain⟨xs,G,hx⟩:=J;obtain⟨y,U,p,hz⟩:=I.tuple G;obtain⟨f0,f1,f2,S,f4,N⟩:=hf it (by simp)
  have hl:=U.length;exact wpAny_pyNext_tuple_end (I.ok.hd hc) st (show s.heap.IsTuple a y.toArray from p) (by simp;lia) fun h' eb=>⟨rfl,I.turned (t':=s.toks) (fun b o l e=>eb b o l e) f0 f1 S f4 N⟩
 self:=fun _ _ _ _ _ st h=>wpAny_pyIter_tupleiter st h
theorem zjA{P:aK}{w:aQ}{K:qF}{S:aP}(it:aq)(lo:Int)(n:Nat):Turn P w K S (Itr lo n) [it] it (fun i h=>IsRangeIter h it (lo+(i:Nat)*1) ((n:Int) - (i:Nat)) 1) where
 mem:=by simp
 obj:=fun i h st b l=>by
  have e:b=it:=by simpa using l
  subst e;exact⟨_,st,fun v z=>by
   have R:Data.fields _=Data.cell v:=z;cases R⟩
 keep:=fun i h h' st k=>k it (by simp) _ st
 item:=by
  intro X G hw y hc i pins s σ H E I hf st x;subst G hw y;obtain⟨f0,f1,f2,J,f4,C⟩:=hf it (by simp)
  have W:=Walks.range (prog:=X.prog) (w:=X.w) (I.ok.hd hc) it lo 1 n;refine W.item i s _ _ x st fun v h' tk L u U=>?_
  obtain⟨t,rfl⟩:=L;have N:Inv X pins σ H { s with heap:=h',toks:=tk }:=I.turned (fun b o l e=>U b o (by simpa using l) e) f0 f1 J f4 C
  refine⟨_,rfl,ZX (s:={ s with heap:=h',toks:=tk }) (n:="range_iterator") u rfl rfl (by decide) ⟨.int (lo+i),H,N,⟨t,?_⟩,⟨rfl,rfl⟩,u,fun b l=>(hf b l).1⟩⟩
  rw[kD]
 done:=by
  intro X G hw y hc i pins s σ H E I hf st x;subst G hw y;obtain⟨f0,f1,f2,J,f4,C⟩:=hf it (by simp)
  exact wpAny_pyNext_range_end (I.ok.hd hc) st (by have:n<=i:=x;lia) fun h' Y=>⟨rfl,I.turned (t':=s.toks) (fun b o l e=>Y b o l e) f0 f1 J f4 C⟩
 self:=fun _ _ _ _ _ st h=>wpAny_pyIter_rangeiter st h
section
variable{X:Cx}{tg:aP}
def zwo(K:qF)(u:TE):TI:=fun σ H R=>u σ H fun x l=>∃a,x=.ref a/\(∃xs,SqL K l a xs)/\R (Itl K a) l
def iTup(K:qF)(u:TE):TI:=fun σ H R=>u σ H fun x l=>∃a,x=.ref a/\(∃xs,SqT K l a xs)/\R (Itt K a) l
theorem zkJ{l:aP}{y:TE}(U:PE X l y):PI X tg l (zwo X.K y):=by
 intro pins s σ H R I h;refine thn (U pins s σ H _ I h) fun v s1 ⟨x,C,u,J,N⟩=>?_
 obtain⟨a,e,⟨xs,L⟩,q⟩:=N;subst e;cases J;obtain⟨S,Z,p,Y⟩:=u.list L;refine eT p.isList ?_;refine⟨s1.heap.objs.size,[s1.heap.objs.size],_,_,C,rfl,u.kept (t':=s1.toks) fun b o e=>ak _ e,zf8 a _,⟨_,az _ rfl,rfl,rfl⟩,fun b G=>?_,q⟩
 have e:b=s1.heap.objs.size:=by simpa using G
 subst e;exact u.fpOk (aA _) (u.hok.fresh (aA _))
theorem zrV{l:aP}{C:TE}(U:PE X l C):PI X tg l (iTup X.K C):=by
 intro pins s σ H R I h;refine thn (U pins s σ H _ I h) fun v s1 ⟨x,G,u,L,S⟩=>?_
 obtain⟨a,e,⟨xs,N⟩,q⟩:=S;subst e;cases L;obtain⟨y,Z,p,Y⟩:=u.tuple N;refine iZ (show s1.heap.IsTuple a y.toArray from p) ?_
 refine⟨s1.heap.objs.size,[s1.heap.objs.size],_,_,G,rfl,u.kept (t':=s1.toks) fun b o e=>ak _ e,zeW a _,⟨_,az _ rfl,rfl,rfl⟩,fun b J=>?_,q⟩
 have e:b=s1.heap.objs.size:=by simpa using J
 subst e;exact u.fpOk (aA _) (u.hok.fresh (aA _))
theorem znh{pins:qO}{σ:St}{H:Hp}{s:au}{R:It->Hp->Prop}{E:qV}{lo hi:Int}{t u v:Tok}{tk:Nat}(I:Inv X pins σ H s)(L:-(2 ^ 62)<=lo)(U:lo<2 ^ 62)(G:-(2 ^ 62)<=hi)(C:hi<2 ^ 62)
  (q:R (Itr lo (hi - lo).toNat) H):wpAny (model X.prog X.w) X.A (pyIter (.ref s.heap.objs.size)) (PIE X pins σ tg R) E { s with heap:=s.heap.push { cls:=.type "range",data:=.fields #[.int lo t,.int hi u,.int 1 v] },toks:=tk }:=by
 refine wpAny_pyIter_range (IsRange.new ..) (small_one L U G C) ?_;have x:Inv X pins σ H { s with heap:=s.heap.push { cls:=.type "range",data:=.fields #[.int lo t,.int hi u,.int 1 v] },toks:=tk }:=I.kept fun b o e=>ak _ e
 refine⟨(s.heap.push { cls:=.type "range",data:=.fields #[.int lo t,.int hi u,.int 1 v] }).objs.size,[(s.heap.push { cls:=.type "range",data:=.fields #[.int lo t,.int hi u,.int 1 v] }).objs.size],_,_,H,rfl,
  x.kept (t':=tk) fun b o e=>ak _ e,zjA _ lo (hi - lo).toNat,?_,fun b J=>?_,q⟩
 ·have S:lo+((0:Nat):Int)*1=lo:=by simp
  have Y:(((hi - lo).toNat:Nat):Int) - ((0:Nat):Int)=bE lo hi 1:=by rw[rangeSize_one];split <;> lia
  show IsRangeIter _ _ (lo+((0:Nat):Int)*1) ((((hi - lo).toNat:Nat):Int) - ((0:Nat):Int)) 1
  rw[S,Y];exact az _ rfl
 ·have e:b=(s.heap.push { cls:=.type "range",data:=.fields #[.int lo t,.int hi u,.int 1 v] }).objs.size:=by simpa using J
  subst e;exact x.fpOk (aA _) (x.hok.fresh (aA _))
def zwn(u:TA):TI:=fun σ H R=>u σ H fun l v=>∃j:Int,l=[.int j]/\-(2 ^ 62)<=j/\j<2 ^ 62/\R (Itr 0 j.toNat) v
theorem zkI{a:aP}{v:TA}{p pos:Pos}(Y:Gl X "range") (S:X.mg "range" = none) (G:PA X [a] v) (L:starEach [a] X.env=[(false,eval a X.env)]:=by rfl):PI X tg (.Call (.Name "range" p) [a] [] pos) (zwn v):=by
 intro pins s σ H R I h;refine Call_ (Zg I Y S boot_range (fQ (thn (G pos pins s σ H _ I h) fun us s1 ⟨vs,Z,y,x,u⟩=>?_) L rfl))
 obtain⟨j,e,u,J,q⟩:=u;subst e;cases x with
 | cons r U =>
  cases U;obtain⟨t,rfl⟩:=r;exact call_range_1 (znh y (by lia) (by lia) u J (by simpa using q))
def tFor(I:TI)(g:TG)(y:TS):TS:=fun D σ H=>I σ H fun J G=>∃W:Nat->Nat->St->Hp->Prop,(∃m,W 0 m σ G)/\∀i m σ H,W i m σ H ->
 (J.stop i H/\D.nx σ H)\/(J.go i H/\∃N:St->Hp->Prop,(∀σ' l,N σ' l->∃v,v<m/\W (i+1) v σ' l)/\∀x l,J.yld i H x l->g x σ l fun u C=>y { D with nx:=N,ct:=N,bk:=D.nx } u C)
def Y3(l:List aq)(h:aN):List (aq×Obj):=l.filterMap fun b=>(h.get? b).map fun o=>(b,o)
theorem VQ{l:List aq}{h:aN}{b:aq}{o:Obj}(u:b∈l)(e:h.get? b=some o):(b,o)∈Y3 l h:=fw.mpr ⟨b,u,by rw[e];rfl⟩
theorem zk3{l:List aq}{h:aN}{p:aq×Obj}(v:p∈Y3 l h):p.1∈l/\h.get? p.1=some p.2:=by
 obtain⟨b,x,e⟩:=fw.mp v;cases q:h.get? b with
 | none=>rw[q]at e;cases e
 | some o =>
  rw[q]at e;have u:(b,o)=p:=aM e;subst u;exact⟨x,q⟩
theorem Inv.pinned{pins:qO}{σ:St}{H:Hp}{s:au}{u:List aq}(I:Inv X pins σ H s)(hf:∀b∈u,FpOk X pins H b)(C:∀b∈u,∃o,s.heap.get? b=some o/\∀v,o.data≠.cell v):Inv X (pins++Y3 u s.heap) σ H s :=
 I.pins_of fun p G=>(aE.mp G).elim (fun z=>I.pin p (bS _ z)) fun z=>by
  obtain⟨x,e⟩:=zk3 z;obtain⟨f0,f1,f2,_⟩:=hf p.1 x;obtain⟨o,y,d⟩:=C p.1 x;rw[e]at y;cases y;exact⟨e,f0,f1,f2,d⟩
theorem Inv.unpinned{pins pl:qO}{σ:St}{H:Hp}{s:au}(I:Inv X (pins++pl) σ H s):Inv X pins σ H s:=I.pins_of fun p l=>I.pin p (bS _ (lZ _ l))
theorem zrR{iter:aP}{body:List dD}{wi:TI}{g:TG}{tb:TS}{pos:Pos}(Y:oa (model X.prog X.w) X.A X.env X.xe)(hc:X.calm=true)(hi:PI X tg iter wi)(hg:PG X tg g)(C:PSs X body tb)
  (hs:∀x,foldedSetIterable iter X.env x=pure x:=by intro _;rfl):PS X (.For tg iter body [] pos) (tFor wi g tb):=by
 intro pins s σ H D I h;refine wpAny_For (thn (hi pins s σ H _ I h) fun v s1 h1=>thn h1 fun itv s2 h2=>?_) hs
 obtain⟨it,fp,tn,J,H2,e,I2,T,st2,f2,W,⟨m0,w0⟩,turn⟩:=h2;subst e;have Ik:∀{R:Hp},(∀b∈fp,R b=none)->∀b∈fp,FpOk X pins R b:=fun hn b C=>⟨hn b C,(f2 b C).2⟩
 refine codeAny_forLoop_any (fun n s'=>∃i σ' R,Inv X pins σ' R s'/\tn i s'.heap/\(∀b∈fp,R b=none)/\W i n σ' R) ?_ m0 ⟨0,σ,H2,I2,st2,fun b C=>(f2 b C).1,w0⟩
 rintro n s3 ⟨i,L,H3,I3,st3,fr3,w3⟩;rcases turn i n L H3 w3 with⟨stop,qn⟩|⟨go,N,hN,step⟩
 ·refine eP Y (thn (T.done X rfl rfl rfl hc i pins s3 L H3 X.xe I3 (Ik fr3) st3 stop) fun r s4 ⟨hr,I4⟩=>?_)
  subst hr;exact fE ⟨L,H3,I4,qn⟩
 ·refine eP Y (thn (T.item X rfl rfl rfl hc i pins s3 L H3 X.xe I3 (Ik fr3) st3 go) fun r s4 ⟨u,hr,h4⟩=>?_)
  subst hr;refine eP Y (thn h4 fun _ s5 ⟨x,H5,I5,r5,y5,U,fr5⟩=>?_)
  have I5':=I5.pinned (Ik fr5) (T.obj _ _ U);refine eP Y (thn (hg _ s5 L H5 x u _ I5' r5 (step x H5 y5)) fun _ s6 ⟨σ6,H6,I6,q6⟩=>?_)
  refine eP Y (thn (C _ s6 σ6 H6 _ I6 q6) fun f s7 S=>?_)
  have again:∀{l:St} {G:Hp},Inv X (pins++Y3 fp s5.heap) l G s7->N l G->∃m,m<n/\∃i σ' R,Inv X pins σ' R s7/\tn i s7.heap/\(∀b∈fp,R b=none)/\W i m σ' R:=fun {l G} y Z=>by
   obtain⟨m',hm,w7⟩:=hN l G Z;refine⟨m',hm,i+1,l,G,y.unpinned,T.keep _ _ _ U fun b C o e=>(y.pin (b,o) (bS _ (bS _ (VQ C e)))).1,fun b C=>?_,w7⟩
   obtain⟨o,e,d⟩:=T.obj _ _ U b C;exact(y.pin (b,o) (bS _ (bS _ (VQ C e)))).2.1
  cases f with
  | next=>obtain⟨l,G,y,Z⟩:=S;exact again y Z
  | cont=>obtain⟨l,G,y,Z⟩:=S;exact again y Z
  | brk=>obtain⟨l,G,y,S⟩:=S;exact⟨l,G,y.unpinned,S⟩
  | ret v=>obtain⟨x7,l,G,y,r7,S⟩:=S;exact⟨x7,l,G,y.unpinned,r7,S⟩
end
abbrev R2:=V->V->Hp->VK->Prop
def OpR(X:Cx)(f:ah->ah->Sem ah)(r:R2):Prop :=
 ∀(pins:qO) (s:au) (σ:St) (H:Hp) (x y:V) (v u:ah) (Q:VK),Inv X pins σ H s->RelV x v->RelV y u->r x y H Q ->
  wpAny (model X.prog X.w) X.A (f v u) (EP X pins σ Q) X.xe s
def UnR(X:Cx)(f:ah->Sem ah)(r:V->Hp->VK->Prop):Prop :=
 ∀(pins:qO) (s:au) (σ:St) (H:Hp) (x:V) (v:ah) (Q:VK),Inv X pins σ H s->RelV x v->r x H Q ->
  wpAny (model X.prog X.w) X.A (f v) (EP X pins σ Q) X.xe s
def JG(X:Cx)(f:ah)(r:List V->Hp->VK->Prop):Prop :=
 ∀(pins:qO) (s:au) (σ:St) (H:Hp) (xs:List V) (l:List ah) (Q:VK),Inv X pins σ H s->Vals xs l->r xs H Q ->
  wpAny (model X.prog X.w) X.A (call f l) (EP X pins σ Q) X.xe s
def TruR(X:Cx)(r:V->Hp->(Bool->Hp->Prop)->Prop):Prop :=
 ∀(pins:qO) (s:au) (σ:St) (H:Hp) (x:V) (v:ah) (Q:Bool->Hp->Prop),Inv X pins σ H s->RelV x v->r x H Q ->
  wpAny (model X.prog X.w) X.A (truthy v) (TP X pins σ Q) X.xe s
def tOp(r:R2)(u l:TE):TE:=fun σ H Q=>u σ H fun x C=>l σ C fun y v=>r x y v Q
def tUn(r:V->Hp->VK->Prop)(l:TE):TE:=fun σ H Q=>l σ H fun x u=>r x u Q
def rI(C:Int->Int->Prop)(g:Int->Int->V):R2:=fun x y H Q=>∃i j,x=.int i/\y=.int j/\C i j/\Q (g i j) H
def rI0(g:Int->Int->V):R2:=fun x y H Q=>∃i j,x=.int i/\y=.int j/\Q (g i j) H
def rU(g:Int->V):V->Hp->VK->Prop:=fun x H Q=>∃i,x=.int i/\Q (g i) H
section
variable{X:Cx}{a b c:aP}{ta tb tc:TE}{pos:Pos}
theorem binT(Y:PE X a ta)(L:PE X b tb){pins:qO}{s:au}{σ:St}{H:Hp}{R:V->V->Hp->Prop}(I:Inv X pins σ H s)
  (h:ta σ H fun x J=>tb σ J fun y l=>R x y l) {Q:qV} {f:ah->ah->Sem ah}
  (hf:∀v u s2 x y l,Inv X pins σ l s2->RelV x v->RelV y u->R x y l->wpAny (model X.prog X.w) X.A (f v u) Q X.xe s2) :
  wpAny (model X.prog X.w) X.A (eval a X.env) (fun v C=>wpAny (model X.prog X.w) X.A (eval b X.env) (fun u G=>wpAny (model X.prog X.w) X.A (f v u) Q X.xe G) X.xe C) X.xe s:=by
 refine thn (Y pins s σ H _ I h) fun v s1 ⟨x,J,U,N,S⟩=>?_
 refine thn (L pins s1 σ J _ U S) fun u s2 ⟨y,l,I2,r2,Z⟩=>?_
 exact hf v u s2 x y l I2 N r2 Z
theorem JD{op:Operator}{r:R2}(G:OpR X (binaryOp op) r)(N:PE X a ta)(C:PE X b tb):PE X (.BinOp a op b pos) (tOp r ta tb):=by
 intro pins s σ H Q I h;exact wpAny_BinOp (binT N C I h fun v u s2 x y J R L l q=>G pins s2 σ J x y v u Q R L l q)
theorem zvF{op:UnaryOp}{r:V->Hp->VK->Prop}(l:UnR X (unaryOp op) r)(C:PE X a ta):PE X (.UnaryOp op a pos) (tUn r ta):=by
 intro pins s σ H Q I h;exact UnaryOp_ (thn (C pins s σ H _ I h) fun v s1 ⟨x,u,G,J,L⟩=>l pins s1 σ u x v Q G J L)
theorem opI{f:ah->ah->Sem ah}{C:Int->Int->Prop}{g:Int->Int->Int}
  (rule:∀(i j:Int) (t u:Tok) (s:au) (Q:qV) (E:qV),C i j->Q (.int (g i j) s.toks) { s with toks:=s.toks+1 }->wpAny (model X.prog X.w) X.A (f (.int i t) (.int j u)) Q E s) :
  OpR X f (rI C fun i j=>.int (g i j)):=by
 intro pins s σ H x y v u Q I G l h;obtain⟨i,j,rfl,rfl,hc,q⟩:=h;obtain⟨t,rfl⟩:=G;obtain⟨t',rfl⟩:=l;exact rule i j t t' s _ _ hc ⟨.int (g i j),H,I.tok _,⟨_,rfl⟩,q⟩
theorem opI0{f:ah->ah->Sem ah}{g:Int->Int->Int}
  (rule:∀(i j:Int) (t u:Tok) (s:au) (Q:qV) (E:qV),Q (.int (g i j) s.toks) { s with toks:=s.toks+1 }->wpAny (model X.prog X.w) X.A (f (.int i t) (.int j u)) Q E s) :
  OpR X f (rI0 fun i j=>.int (g i j)):=by
 intro pins s σ H x y v u Q I C l h;obtain⟨i,j,rfl,rfl,q⟩:=h;obtain⟨t,rfl⟩:=C;obtain⟨t',rfl⟩:=l;exact rule i j t t' s _ _ ⟨.int (g i j),H,I.tok _,⟨_,rfl⟩,q⟩
theorem opB0{f:ah->ah->Sem ah}{g:Int->Int->Bool}
  (rule:∀(i j:Int) (t u:Tok) (s:au) (Q:qV) (E:qV),Q (.bool (g i j)) s->wpAny (model X.prog X.w) X.A (f (.int i t) (.int j u)) Q E s) :
  OpR X f (rI0 fun i j=>.bl (g i j)):=by
 intro pins s σ H x y v u Q I G C h;obtain⟨i,j,rfl,rfl,q⟩:=h;obtain⟨t,rfl⟩:=G;obtain⟨t',rfl⟩:=C;exact rule i j t t' s _ _ ⟨.bl (g i j),H,I,rfl,q⟩
def CPow(i j:Int):Prop:=0<=j/\j<=1000000/\i.natAbs<2 ^ 64
def CMul(i j:Int):Prop:=(-(2 ^ 64)<i/\i<2 ^ 64)\/(-(2 ^ 64)<j/\j<2 ^ 64)
theorem CMul.ok{i j:Int}(h:CMul i j):IntMulOk i j:=by
 rcases h with⟨u,v⟩|⟨u,v⟩
 ·exact .of_left (intBits_le_64 u v)
 ·exact .of_right (intBits_le_64 u v)
theorem zjz(k:Nat):(0:Int)<=2 ^ k:=by
 rw[two_pow_cast];exact i5 _
theorem Q1:OpR X (binaryOp .Add) (rI0 fun i j=>.int (i+j)):=opI0 fun _ _ _ _ _ _ _ q=>add_int q
theorem zsa:OpR X (binaryOp .Sub) (rI0 fun i j=>.int (i - j)):=opI0 fun _ _ _ _ _ _ _ q=>sub_int q
theorem QV:OpR X (binaryOp .Mult) (rI CMul fun i j=>.int (i*j)):=opI fun _ _ _ _ _ _ _ hc q=>mul_int q hc.ok
theorem UW:OpR X (binaryOp .Mod) (rI (fun _ j=>0<j) fun i j=>.int (i % j)):=opI fun i j _ _ _ _ _ hc q=>by
 have l:(0:Int)<j:=hc;exact mod_int' (by lia) (by rw[Int.fmod_eq_emod_of_nonneg i (by lia)];exact q)
theorem zsd:OpR X (binaryOp .Pow) (rI CPow fun i j=>.int (i ^ j.toNat)):=opI fun _ _ _ _ _ _ _ hc q=>pow_int_small hc.1 hc.2.1 hc.2.2 q
theorem zsc:OpR X (binaryOp .LShift) (rI CPow fun i j=>.int (i*2 ^ j.toNat)):=opI fun _ _ _ _ _ _ _ hc q=>lshift_int_small hc.1 hc.2.1 hc.2.2 q
theorem zsb:OpR X (binaryOp .RShift) (rI (fun _ j=>0<=j) fun i j=>.int (i / 2 ^ j.toNat)):=opI fun i j _ _ _ _ _ hc q =>
 rshift_int hc (by rw[i6 i (zjz _)];exact q)
theorem zsn:OpR X (binaryOp .BitAnd) (rI0 fun i j=>.int (fV i j)):=opI0 fun _ _ _ _ _ _ _ q=>and_int q
theorem zr_:OpR X (binaryOp .BitXor) (rI0 fun i j=>.int (fh i j)):=opI0 fun _ _ _ _ _ _ _ q=>xor_int q
theorem unI{f:ah->Sem ah}{g:Int->Int}
  (rule:∀(i:Int) (t:Tok) (s:au) (Q:qV) (E:qV),Q (.int (g i) s.toks) { s with toks:=s.toks+1 }->wpAny (model X.prog X.w) X.A (f (.int i t)) Q E s) :
  UnR X f (rU fun i=>.int (g i)):=by
 intro pins s σ H x v Q I l h;obtain⟨i,rfl,q⟩:=h;obtain⟨t,rfl⟩:=l;exact rule i t s _ _ ⟨.int (g i),H,I.tok _,⟨_,rfl⟩,q⟩
theorem zq8:UnR X (unaryOp .USub) (rU fun i=>.int (-i)):=unI fun _ _ _ _ _ q=>neg_int q
end
def scal:V->V->Bool
 | .non,.non=>true|.non,.int _=>true|.int _,.non=>true|.non,.bl _=>true|.bl _,.non=>true|.non,.str _=>true|.str _,.non=>true
 | .int _,.int _=>true|.bl _,.bl _=>true|.str _,.str _=>true|.byt _,.byt _=>true
 | .int _,.str _=>true|.str _,.int _=>true|.bl _,.str _=>true|.str _,.bl _=>true
 | _,_=>false
def rEq:R2:=fun x y H Q=>scal x y=true/\Q (.bl (decide (x=y))) H
def rNe:R2:=fun x y H Q=>scal x y=true/\Q (.bl (!decide (x=y))) H
theorem zl0{i j:Int}:decide (V.int i=V.int j)=(i == j):=by
 rw[fF];simp
theorem zoS{i j:Bool}:decide (V.bl i=V.bl j)=(i == j):=by
 rw[fF];simp
theorem zlZ{i j:Str}:decide (V.str i=V.str j)=(i == j):=by
 rw[fF];simp
theorem zl1{i j:Array UInt8}:decide (V.byt i=V.byt j)=(i.toList == j.toList):=by
 rw[fF];cases i;cases j;simp
section
variable{X:Cx}{a b c:aP}{ta tb tc:TE}{pos:Pos}
theorem Ju{pins:qO}{σ:St}{H:Hp}{s:au}{Q:VK}{k u:Bool}(I:Inv X pins σ H s)(q:Q (.bl k) H)(e:k=u):EP X pins σ Q (.bool u) s:=by
 subst e;exact⟨.bl k,H,I,rfl,q⟩
theorem zvL:OpR X (compareOp .Eq) rEq:=by
 intro pins s σ H x y v u Q I G l h;obtain⟨C,q⟩:=h;cases x with
 | non =>
  cases G;cases y with
  | non=>cases l;exact rh (Ju I q (by simp))
  | bl j=>cases l;exact rm (Ju I q (by simp))
  | int j=>obtain⟨t',rfl⟩:=l;exact rQ (Ju I q (by simp))
  | str j=>obtain⟨t',rfl⟩:=l;exact rR (Ju I q (by simp))
  | _=>exact absurd (show false=true from C) aW
 | bl i =>
  cases G;cases y with
  | non=>cases l;exact rn (Ju I q (by simp))
  | bl j=>cases l;exact eq_bool (Ju I q zoS)
  | str j=>obtain⟨t',rfl⟩:=l;exact rq (Ju I q (by simp))
  | _=>exact absurd (show false=true from C) aW
 | int i =>
  obtain⟨t,rfl⟩:=G;cases y with
  | non=>cases l;exact rS (Ju I q (by simp))
  | int j=>obtain⟨t',rfl⟩:=l;exact eq_int (Ju I q zl0)
  | str j=>obtain⟨t',rfl⟩:=l;exact rT (Ju I q (by simp))
  | _=>exact absurd (show false=true from C) aW
 | str i =>
  obtain⟨t,rfl⟩:=G;cases y with
  | non=>cases l;exact rV (Ju I q (by simp))
  | bl j=>cases l;exact rA (Ju I q (by simp))
  | int j=>obtain⟨t',rfl⟩:=l;exact rW (Ju I q (by simp))
  | str j=>obtain⟨t',rfl⟩:=l;exact eq_str (Ju I q zlZ)
  | _=>exact absurd (show false=true from C) aW
 | byt i =>
  obtain⟨t,rfl⟩:=G;cases y with
  | byt j=>obtain⟨t',rfl⟩:=l;exact PySem.W.eq_bytes (Ju I q zl1)
  | _=>exact absurd (show false=true from C) aW
 | _=>cases y <;> exact absurd (show false=true from C) aW
theorem zvJ:OpR X (compareOp .NotEq) rNe:=by
 intro pins s σ H x y v u Q I G l h;obtain⟨C,q⟩:=h;cases x with
 | non =>
  cases G;cases y with
  | non=>cases l;exact rB (Ju I q (by simp))
  | bl j=>cases l;exact rC (Ju I q (by simp))
  | int j=>obtain⟨t',rfl⟩:=l;exact rX (Ju I q (by simp))
  | str j=>obtain⟨t',rfl⟩:=l;exact rY (Ju I q (by simp))
  | _=>exact absurd (show false=true from C) aW
 | bl i =>
  cases G;cases y with
  | non=>cases l;exact rD (Ju I q (by simp))
  | bl j=>cases l;exact ne_bool (Ju I q (congrArg not zoS))
  | str j=>obtain⟨t',rfl⟩:=l;exact rE (Ju I q (by simp))
  | _=>exact absurd (show false=true from C) aW
 | int i =>
  obtain⟨t,rfl⟩:=G;cases y with
  | non=>cases l;exact rZ (Ju I q (by simp))
  | int j=>obtain⟨t',rfl⟩:=l;exact ne_int (Ju I q (congrArg not zl0))
  | str j=>obtain⟨t',rfl⟩:=l;exact r8 (Ju I q (by simp))
  | _=>exact absurd (show false=true from C) aW
 | str i =>
  obtain⟨t,rfl⟩:=G;cases y with
  | non=>cases l;exact se (Ju I q (by simp))
  | bl j=>cases l;exact rF (Ju I q (by simp))
  | int j=>obtain⟨t',rfl⟩:=l;exact sg (Ju I q (by simp))
  | str j=>obtain⟨t',rfl⟩:=l;exact ne_str (Ju I q (congrArg not zlZ))
  | _=>exact absurd (show false=true from C) aW
 | byt i =>
  obtain⟨t,rfl⟩:=G;cases y with
  | byt j=>obtain⟨t',rfl⟩:=l;exact PySem.W.ne_bytes (Ju I q (congrArg not zl1))
  | _=>exact absurd (show false=true from C) aW
 | _=>cases y <;> exact absurd (show false=true from C) aW
theorem zsg:OpR X (compareOp .Lt) (rI0 fun i j=>.bl (decide (i<j))):=opB0 fun _ _ _ _ _ _ _ q=>lt_int q
theorem zvK:OpR X (compareOp .LtE) (rI0 fun i j=>.bl (decide (i<=j))):=opB0 fun _ _ _ _ _ _ _ q=>le_int q
theorem QR:OpR X (compareOp .Gt) (rI0 fun i j=>.bl (decide (j<i))):=opB0 fun _ _ _ _ _ _ _ q=>gt_int q
theorem zsk:OpR X (compareOp .GtE) (rI0 fun i j=>.bl (decide (j<=i))):=opB0 fun _ _ _ _ _ _ _ q=>ge_int q
theorem zkT:OpR X (compareOp .Lt) (fun x y H Q=>∃i j,x=.str i/\y=.str j/\Q (.bl (decide (i.cps.toList<j.cps.toList))) H):=by
 intro pins s σ H x y v u Q I G C h;obtain⟨i,j,rfl,rfl,q⟩:=h;obtain⟨t,rfl⟩:=G;obtain⟨t',rfl⟩:=C;exact lt_str (Ju I q rfl)
theorem zsh:OpR X (compareOp .Is) (fun x y H Q=>y=.non/\Q (.bl (decide (x=.non))) H):=by
 intro pins s σ H x y v u Q I C G h;obtain⟨rfl,q⟩:=h;cases G;refine is_none_gen (Ju I q ?_);cases x <;> first
  | (cases C;rfl)
  | (obtain⟨t,rfl⟩:=C;rfl)
theorem OpR.or{f:ah->ah->Sem ah}{r C:R2}(h:OpR X f r)(h':OpR X f C):OpR X f (fun x y H Q=>r x y H Q\/C x y H Q):=by
 intro pins s σ H x y v u Q I l G q;rcases q with q|q
 ·exact h pins s σ H x y v u Q I l G q
 ·exact h' pins s σ H x y v u Q I l G q
theorem Jl(b:aP){op:oG}(h:op≠.In:=by decide)(v:op≠.NotIn:=by decide):behindInMarks op b=false:=by
 have l:(op == CmpOp.In)=false:=by cases op <;> first|rfl|exact absurd rfl h
 have u:(op == CmpOp.NotIn)=false:=by cases op <;> first|rfl|exact absurd rfl v
 cases b <;> simp[behindInMarks,l,u]
theorem zkN{op:oG}{r:R2}(J:OpR X (compareOp op) r)(R:PE X a ta)(G:PE X b tb)(U:behindInMarks op b=false):PE X (.Compare a [op] [b] pos) (tOp r ta tb):=by
 intro pins s σ H Q I h;exact wpAny_Compare1 (binT R G I h fun v u s2 x y L S N l q=>J pins s2 σ L x y v u Q S N l q) U
def zrb(t:TE):TT:=fun σ H Q=>t σ H fun x u=>∃k,x=.bl k/\Q k u
theorem zhV{op:oG}{r:R2}(N:OpR X (compareOp op) r)(Z:PE X a ta)(G:PE X b tb)(hm:behindInMarks op b=false):PT X (.Compare a [op] [b] pos) (zrb (tOp r ta tb)):=by
 intro pins s σ H Q I h;refine lT (thn (Z pins s σ H _ I h) fun v s1 ⟨x,l,Y,J,S⟩=>thn (G pins s1 σ l _ Y S) fun u s2 ⟨y,R,I2,r2,q2⟩ =>
  thn (N pins s2 σ R x y v u _ I2 J r2 q2) fun c s3 ⟨z,H3,L,U,k,e,q3⟩=>?_) hm
 subst e;cases U;exact bz ⟨H3,L,q3⟩
def zos(r G:R2)(ta tb tc:TE):TE:=fun σ H Q=>ta σ H fun x C=>tb σ C fun y v=>r x y v fun z u=>∃k,z=.bl k /\
 (if k=true then tc σ u fun J I=>G y J I Q else Q (.bl false) u)
theorem znr{op G:oG}{r R:R2}(ho:OpR X (compareOp op) r)(J:OpR X (compareOp G) R)(ha:PE X a ta)(Z:PE X b tb)(hc:PE X c tc)
  (hm:lastMarks [op,G] [b,c]=false:=by with_unfolding_all rfl):PE X (.Compare a [op,G] [b,c] pos) (zos r R ta tb tc):=by
 intro pins s σ H Q I h;refine Compare_chain (thn (ha pins s σ H _ I h) fun v s1 ⟨x,Y,I1,r1,q1⟩=>chain_link (thn (Z pins s1 σ Y _ I1 q1) fun u s2 ⟨y,H2,I2,N,q2⟩ =>
  thn (ho pins s2 σ H2 x y v u _ I2 r1 N q2) fun d s3 ⟨z,S,L,r3,k,e,U⟩=>?_)) hm
 subst e;cases r3;refine bz ?_;cases k with
 | false=>exact ite_ff ⟨.bl false,S,L,rfl,U⟩
 | true=>exact ite_tt (chain_last (thn (hc pins s3 σ S _ L U) fun w' s4 ⟨z',H4,I4,r4,q4⟩=>J pins s4 σ H4 y z' u w' Q I4 N r4 q4))
theorem znj{op l:oG}{r N:R2}(ho:OpR X (compareOp op) r)(G:OpR X (compareOp l) N)(ha:PE X a ta)(Y:PE X b tb)(hc:PE X c tc)
  (hm:lastMarks [op,l] [b,c]=false:=by with_unfolding_all rfl):PT X (.Compare a [op,l] [b,c] pos) (zrb (zos r N ta tb tc)):=by
 intro pins s σ H Q I h;refine isTrue_chain (thn (ha pins s σ H _ I h) fun v s1 ⟨x,U,I1,Z,q1⟩=>test_link (thn (Y pins s1 σ U _ I1 q1) fun u s2 ⟨y,H2,I2,L,q2⟩ =>
  thn (ho pins s2 σ H2 x y v u _ I2 Z L q2) fun d s3 ⟨z,R,J,r3,k,e,S⟩=>?_)) hm
 subst e;cases r3;refine bz ?_;cases k with
 | false =>
  obtain⟨k',e',q'⟩:=S;cases e';exact ite_ff ⟨R,J,q'⟩
 | true =>
  refine ite_tt (test_last (thn (hc pins s3 σ R _ J S) fun w' s4 ⟨z',H4,I4,r4,q4⟩=>thn (G pins s4 σ H4 y z' u w' _ I4 L r4 q4) fun d' s5 ⟨z2,H5,I5,r5,k2,e2,q5⟩=>?_))
  subst e2;cases r5;exact bz ⟨H5,I5,q5⟩
def TruV(K:qF)(x:V)(H:Hp)(k:Bool):Prop :=
 match x with
 | .non=>k=false
 | .bl b=>k=b
 | .int i=>k=(i != 0)
 | .str y=>y.length<=sizeLine/\k=((y.length:Int) != 0)
 | .byt y=>y.size<=sizeLine/\k=((y.size:Int) != 0)
 | .ref p=>(∃xs,SqL K H p xs/\k=!xs.isEmpty)\/(∃xs,SqT K H p xs/\k=!xs.isEmpty)\/∃u,H p=some (.dK u)/\k=!u.isEmpty
 | _=>False
theorem zjX{v:Type}{l:List (v×V)}{u:List (v×ah)}(r:KV l u):(!u.isEmpty)=!l.isEmpty:=by
 cases r <;> rfl
theorem ze_{xs:List V}{l:List ah}(r:Vals xs l):(!l.toArray.isEmpty)=!xs.isEmpty:=by
 cases r <;> simp
theorem UV:(sizeLine:Nat)<2 ^ 63:=by rw[kE];decide
theorem zoq:TruR X (fun x H Q=>∃k,TruV X.K x H k/\Q k H):=by
 intro pins s σ H x v Q I J h;obtain⟨k,e,q⟩:=h;have Z:=UV;have Y:sizeLine=16777216:=kE;cases x with
 | non =>
  cases J;have u:k=false:=e;subst u;exact truthy_none ⟨H,I,q⟩
 | bl b =>
  cases J;have u:k=b:=e;subst u;exact bz ⟨H,I,q⟩
 | int i =>
  obtain⟨t,rfl⟩:=J;have u:k=(i != 0):=e;subst u;exact PySem.P.truthy_int ⟨H,I,q⟩
 | str y =>
  obtain⟨t,rfl⟩:=J;obtain⟨S,u⟩:y.length<=sizeLine/\k=((y.length:Int) != 0):=e;subst u;exact PySem.P.truthy_str (by lia) ⟨H,I.tok _,q⟩
 | byt y =>
  obtain⟨t,rfl⟩:=J;obtain⟨S,u⟩:y.size<=sizeLine/\k=((y.size:Int) != 0):=e;subst u;exact PySem.W.truthy_bytes (by lia) ⟨H,I.tok _,q⟩
 | ref p =>
  cases J;have u:(∃xs,SqL X.K H p xs/\k=!xs.isEmpty)\/(∃xs,SqT X.K H p xs/\k=!xs.isEmpty)\/∃C,H p=some (.dK C)/\k=!C.isEmpty:=e;rcases u with⟨xs,hx,u⟩|⟨xs,hx,u⟩|⟨C,hx,u⟩
  ·subst u;obtain⟨N,r,pl,R⟩:=I.list hx;have G:=r.length;exact wpAny_truthy_list pl.isList (by simp only[ax];lia) ⟨H,I.tok _,by rw[ze_ r];exact q⟩
  ·subst u;obtain⟨N,r,pl,R⟩:=I.tuple hx;have G:=r.length;exact truthy_tuple pl (by simp only[ax];lia) ⟨H,I.tok _,by rw[ze_ r];exact q⟩
  ·subst u;obtain⟨R,U,L,r,m⟩:C.length<=sizeLine/\(p == sysModules)=false/\∃L,KV C L/\s.heap.DictOf (Zv X.prog X.w) p L:=I.hok p _ hx;have G:C.length=L.length:=mQ r;exact wpAny_truthy_dict U m (by lia) ⟨H,I.tok _,by rw[zjX r];exact q⟩
 | _=>exact(show False from e).elim
theorem zni(L:PE X a ta)(C:∀whole,isTrue a X.env whole=(do let v <- whole;standAt a.pos;holding [v] (truthy v))) :
  PT X a (fun σ H Q=>ta σ H fun x l=>∃k,TruV X.K x l k/\Q k l):=by
 intro pins s σ H Q I h;exact isTrue_plain (thn (L pins s σ H _ I h) fun v s1 ⟨x,u,J,y,G⟩=>zoq pins s1 σ u x v Q J y G) (C _)
theorem zjK:OpR X (binaryOp .Add) (fun x y H Q=>∃i j,x=.str i/\y=.str j/\i.length+j.length<=sizeLine/\Q (.str (i++j)) H):=by
 intro pins s σ H x y v u Q I C l h;obtain⟨i,j,rfl,rfl,G,q⟩:=h;obtain⟨t,rfl⟩:=C;obtain⟨t',rfl⟩:=l;exact add_str (fun t' tk=>⟨.str (i++j),H,I.tok _,⟨_,rfl⟩,q⟩) G
theorem vals1{x:V}{l:List ah}(r:Vals [x] l):∃u,l=[u]/\RelV x u:=by
 cases r with
 | cons v y=>cases y;exact⟨_,rfl,v⟩
theorem vals2{x y:V}{l:List ah}(r:Vals [x,y] l):∃u v,l=[u,v]/\RelV x u/\RelV y v:=by
 cases r with
 | cons I J =>
  cases J with
  | cons G C=>cases C;exact⟨_,_,rfl,I,G⟩
theorem zoi:JG X (.builtin "abs") (fun xs H Q=>∃i,xs=[.int i]/\Q (.int (if i<0 then -i else i)) H):=by
 intro pins s σ H xs v Q I r h;obtain⟨i,rfl,q⟩:=h;obtain⟨u,rfl,t,rfl⟩:=vals1 r;exact call_abs_int fun u tk=>⟨.int (if i<0 then -i else i),H,I.tok _,⟨_,rfl⟩,q⟩
theorem ZC(hc:X.calm=true):JG X (.builtin "max") (fun xs H Q=>∃i j,xs=[.int i,.int j]/\Q (.int (if j > i then j else i)) H):=by
 intro pins s σ H xs x Q I r h;obtain⟨i,j,rfl,q⟩:=h;obtain⟨u,v,rfl,⟨t,rfl⟩,⟨t',rfl⟩⟩:=vals2 r;refine max_two_ints (I.ok.hd hc) fun h' tk k=>⟨_,H,I.kept k,?_,q⟩
 by_cases hj:j > i
 ·rw[if_pos hj,if_pos hj];exact⟨_,rfl⟩
 ·rw[if_neg hj,if_neg hj];exact⟨_,rfl⟩
theorem U1(hc:X.calm=true):JG X (.builtin "min") (fun xs H Q=>∃i j,xs=[.int i,.int j]/\Q (.int (if j<i then j else i)) H):=by
 intro pins s σ H xs x Q I r h;obtain⟨i,j,rfl,q⟩:=h;obtain⟨u,v,rfl,⟨t,rfl⟩,⟨t',rfl⟩⟩:=vals2 r;refine min_two_ints (I.ok.hd hc) fun h' tk k=>⟨_,H,I.kept k,?_,q⟩
 by_cases hj:j<i
 ·rw[if_pos hj,if_pos hj];exact⟨_,rfl⟩
 ·rw[if_neg hj,if_neg hj];exact⟨_,rfl⟩
theorem ZB:JG X (.type "int") (fun xs H Q=>(∃i,xs=[.int i]/\Q (.int i) H)\/∃k,xs=[.bl k]/\Q (.int (if k then 1 else 0)) H):=by
 intro pins s σ H xs x Q I r h;rcases h with⟨i,rfl,q⟩|⟨k,rfl,q⟩
 ·obtain⟨u,rfl,t,rfl⟩:=vals1 r;exact call_int_int ⟨.int i,H,I,⟨_,rfl⟩,q⟩
 ·obtain⟨u,rfl,v⟩:=vals1 r;cases v;exact call_int_bool ⟨.int (if k then 1 else 0),H,I.tok _,⟨_,rfl⟩,q⟩
def LenV(K:qF)(x:V)(H:Hp)(n:Nat):Prop :=
 match x with
 | .str y=>y.length<=sizeLine/\n=y.length
 | .byt y=>y.size<=sizeLine/\n=y.size
 | .ref p=>(∃xs,SqL K H p xs/\n=xs.length)\/∃xs,SqT K H p xs/\n=xs.length
 | _=>False
theorem UB:JG X (.builtin "len") (fun xs H Q=>∃x n,xs=[x]/\LenV X.K x H n/\Q (.int n) H):=by
 intro pins s σ H xs Y Q I r h;obtain⟨x,n,rfl,e,q⟩:=h;obtain⟨u,rfl,J⟩:=vals1 r;have U:=UV;have S:sizeLine=16777216:=kE;cases x with
 | str y =>
  obtain⟨t,rfl⟩:=J;obtain⟨N,C⟩:y.length<=sizeLine/\n=y.length:=e;subst C;exact len_str (by lia) ⟨.int _,H,I.tok _,⟨_,rfl⟩,q⟩
 | byt y =>
  obtain⟨t,rfl⟩:=J;obtain⟨N,C⟩:y.size<=sizeLine/\n=y.size:=e;subst C;exact PySem.W.len_bytes (by lia) ⟨.int _,H,I.tok _,⟨_,rfl⟩,q⟩
 | ref p =>
  cases J;have C:(∃xs,SqL X.K H p xs/\n=xs.length)\/∃xs,SqT X.K H p xs/\n=xs.length:=e;rcases C with⟨xs,hx,C⟩|⟨xs,hx,C⟩
  ·subst C;obtain⟨G,L,pl,R⟩:=I.list hx;have v:=L.length;exact mI pl.isList (by simp only[ax];lia) ⟨.int xs.length,H,I.tok _,⟨_,by simp only[ax];rw[v]⟩,q⟩
  ·subst C;obtain⟨G,L,pl,R⟩:=I.tuple hx;have v:=L.length;exact len_tuple pl (by simp only[ax];lia) ⟨.int xs.length,H,I.tok _,⟨_,by simp only[ax];rw[v]⟩,q⟩
 | _=>exact(show False from e).elim
end
structure ObjM(h:aN)(x dx C:aq)(mA:qM):Prop where
 obj:h.get? x=some (lP C dx)
 ns:h.Ns1 dx mA
 ne:dx≠x
theorem zle{h:aN}{u:aq}{C:qM}(n:h.Ns1 u C):∃v,h.get? u=some v/\∀name,l7 name v=some (C name):=by
 obtain⟨o,x,R,G,hd,L,_,N⟩:=n;refine⟨o,G,fun name=>?_⟩
 have e:=N name;unfold nsFind findBy at e;rw[<- Array.find?_toList]at e;unfold l7;rw[hd];dsimp only;split
 ·rename_i y q;rw[q]at e;exact congrArg some e
 ·rename_i q;rw[q]at e;have a:x.toList.any (·.refKey)=false:=by
   rw[ny];intro y I;obtain⟨z,t,l⟩:=L y (Array.mem_toList_iff.mp I);simp[DictEntry.refKey,l]
  have J:¬x.toList.any (·.refKey)=true:=by rw[a];exact aW
  rw[if_neg J];exact congrArg some e
theorem ObjM.look{h:aN}{x u C:aq}{v:qM}(I:ObjM h x u C v):∃l,PySem.W.InstAt h x (lP C u) C (some l)/\∀name,l7 name l=some (v name) :=
 let ⟨l,ho,hl⟩:=zle I.ns
 ⟨l,⟨I.obj,rfl,rfl,ho⟩,hl⟩
section
variable{P:aK}{w:aQ}{H H':Hp}{h h':aN}{a C dx:aq}{fs fs':List (Str×V)}
theorem zp4(hok:HOk P w H h)(e:H a=some (.ins C dx fs)):∃l,ObjM h a dx C l/\(∀f,RelO (fs.lookup f) (l f))/\tD l (fs.map (·.1))/\fs.length<=1000/\H dx=some (.own a):=by
 obtain⟨d,z,ne,u,l,n,r,q⟩:=(show JL P w H h a (.ins C dx fs) from hok a _ e)
 exact⟨l,⟨u,n,ne⟩,r,q,z,d⟩
end
structure Cls(K:qF)(C:aq):Prop where
 pg:og K C iW=true
 hd:PySem.W.hasDictIn K C=true
 po:PySem.W.plainOver K C=true
 sa:pH K (.ref C) "__setattr__" = some (some (.builtin "object.__setattr__"))
theorem Cls.get{K:qF}{C:aq}(c:Cls K C)(f:Str):og K C f=true:=c.pg
section
variable{X:Cx}{pins:qO}{σ:St}{H:Hp}{s:au}{A:br}{E:qV}{Q:qV}{c:ah}{b:Bool}
inductive TyOf (K:qF)(H:Hp):V->ah->Prop where
 | non:TyOf K H .non (.type "NoneType")
 | bl (x:Bool):TyOf K H (.bl x) (.type "bool")
 | int (i:Int):TyOf K H (.int i) (.type "int")
 | str (x:Str):TyOf K H (.str x) (.type "str")
 | flt (x:UInt64):TyOf K H (.flt x) (.type "float")
 | lst {a:aq} {xs:List V} (e:H a=some (.lst xs)):TyOf K H (.ref a) (.type "list")
 | frz {a:aq} {o:Obj} {xs:List V} (e:H a=some (.frz o (.lst xs))):TyOf K H (.ref a) (.type "list")
 | tup {a:aq} {xs:List V} (e:H a=some (.tup xs)):TyOf K H (.ref a) (.type "tuple")
 | dK {a:aq} {kvs:List (Key×V)} (e:H a=some (.dK kvs)):TyOf K H (.ref a) (.type "dict")
 | dT {a:aq} {kvs:List (List Key×V)} (e:H a=some (.dT kvs)):TyOf K H (.ref a) (.type "dict")
 | ins {a C dx:aq} {fs:List (Str×V)} (e:H a=some (.ins C dx fs)) (cl:Cls K C) (ha:pH K (.ref C) "__class__" = some (some (.builtin "object.__class__")))
   (hn:PySem.W.specialIn K (.builtin "object.__class__") "__get__" = some (some (.builtin "getset_descriptor.__get__"))) (htk:PySem.W.takesIn K (.builtin "object.__class__")=some true)
   (hm:PySem.W.mroIn K C (.type "object")=some true):TyOf K H (.ref a) (.ref C)
theorem zlD{x:V}{u t:ah}(I:Inv X pins σ H s)(v:RelV x u)(ty:TyOf X.K H x t)(e:pI X.K t c=some b)(h:∀tk,Q (.bool b) { s with toks:=tk }) :
  wpAny (model X.prog X.w) A (call (.builtin "isinstance") [u,c]) Q E s:=by
 cases ty with
 | non=>cases(show u=iX from v);exact bG PySem.W.kitx_none I.kIn lC e (fun z=>nomatch z) h
 | bl y=>cases(show u=dY y from v);exact bG PySem.W.kitx_bool I.kIn lC e (fun z=>nomatch z) h
 | int i=>obtain⟨t,q⟩:=(show ∃t,u=sQ i t from v);cases q;exact bG PySem.W.kitx_int I.kIn lC e (fun z=>nomatch z) h
 | str y=>obtain⟨t,q⟩:=(show ∃t,u=iV y t from v);cases q;exact bG PySem.W.kitx_str I.kIn lC e (fun z=>nomatch z) h
 | flt y=>obtain⟨t,q⟩:=(show ∃t,u=uF y t from v);cases q;exact bG PySem.W.kitx_float I.kIn lC e (fun z=>nomatch z) h
 | @lst a xs ea =>
  cases(show u=bM a from v)
  obtain⟨_,_,n,_,G⟩:=(show JL X.prog X.w H s.heap a (.lst xs) from I.hok a _ ea)
  exact bG nA I.kIn ⟨_,G,rfl⟩ e (fun z=>nomatch z) h
 | @frz a ob xs ea =>
  cases(show u=bM a from v)
  obtain⟨_,_,_,n,_,G⟩:=(show JL X.prog X.w H s.heap a (.frz ob (.lst xs)) from I.hok a _ ea)
  exact bG nA I.kIn ⟨_,G,rfl⟩ e (fun z=>nomatch z) h
 | @tup a xs ea =>
  cases(show u=bM a from v)
  obtain⟨_,_,_,p⟩:=(show JL X.prog X.w H s.heap a (.tup xs) from I.hok a _ ea)
  obtain⟨o,G,L,_⟩:=p;exact bG mY I.kIn ⟨o,G,L⟩ e (fun z=>nomatch z) h
 | @dK a kvs ea =>
  cases(show u=bM a from v)
  obtain⟨_,_,Y,_,p⟩:=(show JL X.prog X.w H s.heap a (.dK kvs) from I.hok a _ ea)
  obtain⟨o,R,N,G,L,_⟩:=p;exact bG eU I.kIn ⟨o,G,L.1⟩ e (fun z=>nomatch z) h
 | @dT a kvs ea =>
  cases(show u=bM a from v)
  obtain⟨_,_,xs,_,o,R,N,G,L,_⟩:=(show JL X.prog X.w H s.heap a (.dT kvs) from I.hok a _ ea)
  exact bG eU I.kIn ⟨o,G,L.1⟩ e (fun z=>nomatch z) h
 | @ins a C dx fs ea cl ha hn htk hm =>
  cases(show u=bM a from v)
  obtain⟨U,O,_⟩:=zp4 I.hok ea;obtain⟨S,J,_⟩:=O.look;exact bG (PySem.W.kitx_own (cl.get _) cl.hd ha hn htk hm) I.kIn J e (fun z=>nomatch z) h
end
structure Room(k:Nat)(A:br):Prop where
 hd:A.handled=none
 dp:A.depth+3*k+5<recursionLimit
 un:A.units+16*k+200<cLine
 gd:A.guards=some []
theorem Room.mono{j k:Nat}{A:br}(r:Room k A)(h:j<=k):Room j A:=⟨r.hd,by have:=r.dp;lia,by have:=r.un;lia,r.gd⟩
theorem Room.deeper{k:Nat}{A:br}(r:Room (k+1) A)(env:Env):Room k (A.deeper env) :=
 ⟨r.hd,by have:=r.dp;show A.depth+1+3*k+5<_;lia,by have:=r.un;show A.units+3+16*k+200<_;lia,r.gd⟩
theorem Room.depth{k:Nat}{A:br}(r:Room k A):A.depth<recursionLimit:=by have:=r.dp;lia
theorem Room.units{k:Nat}{A:br}(r:Room k A):A.units+64<cLine:=by have:=r.un;lia
theorem Room.units0{k:Nat}{A:br}(r:Room k A):A.units<cLine:=by have:=r.un;lia
def tNil:TA:=fun _ H Q=>Q [] H
def QD(l:TE)(v:TA):TA:=fun σ H Q=>l σ H fun x y=>v σ y fun xs u=>Q (x::xs) u
section
variable{X:Cx}{e:aP}{es:List aP}{te:TE}{t:TA}{pos:Pos}
theorem Q3:PA X [] tNil:=fun _ _ _ _ H Q I h=>Calls.spliced_nil ⟨[],H,I,.nil,h⟩
theorem Qn(L:PE X e te)(l:PA X es t)(U:starEach (e::es) X.env=(false,eval e X.env)::starEach es X.env:=by rfl):PA X (e::es) (QD te t):=by
 intro pos pins s σ H Q I h;rw[U];show wpAny _ _ (spliced ((false,eval e X.env)::backTo pos (starEach es X.env))) _ _ s
 refine Calls.spliced_cons (thn (L pins s σ H _ I h) fun u s1 ⟨x,v,J,y,G⟩=>?_)
 exact thn (l pos pins s1 σ v _ J G) fun Y s2 ⟨xs,C,S,R,N⟩=>⟨x::xs,C,S,.cons y R,N⟩
def tTup(t:TA):TE:=fun σ H Q=>t σ H fun xs l=>xs.length<=sizeLine/\∀p,l p=none->Q (.ref p) (upd l p (.tup xs))
def tLst(t:TA):TE:=fun σ H Q=>t σ H fun xs u=>xs.length<=sizeLine/\∀p,u p=none->Q (.ref p) (upd u p (.lst xs))
theorem zoB{x1}(h:PA X es t):PE X (.Tuple es x1 pos) (tTup t):=by
 intro pins s σ H Q I y;refine wpAny_Tuple_spliced (thn (h pos pins s σ H _ I y) fun C s1 ⟨xs,v,x,r,z,q⟩=>⟨by rw[<- r.length];exact z,?_⟩)
 have hf:v s1.heap.objs.size=none:=x.hok.fresh (aA _);refine⟨.ref s1.heap.objs.size,upd v s1.heap.objs.size (.tup xs),x.laid (t':=s1.toks) (fun b u e=>ak _ e) (aA _) ?_,rfl,q _ hf⟩
 exact⟨z,C,r,⟨_,az _ rfl,rfl,⟨_,rfl⟩,rfl⟩⟩
theorem zr5(h:PA X es t):PE X (.List es pos) (tLst t):=by
 intro pins s σ H Q I y;refine wpAny_List_spliced (thn (h pos pins s σ H _ I y) fun C s1 ⟨xs,v,x,r,z,q⟩=>⟨by rw[<- r.length];exact z,?_⟩)
 have hf:v s1.heap.objs.size=none:=x.hok.fresh (aA _);refine⟨.ref s1.heap.objs.size,upd v s1.heap.objs.size (.lst xs),x.laid (t':=s1.toks) (fun b u e=>ak _ e) (aA _) ?_,rfl,q _ hf⟩
 exact⟨z,C,0,r,az _ rfl⟩
end
abbrev Sp:=List V->Hp->VK->XK->Prop
abbrev CXT:=List Env->Hp->au->XK->ah->au->Prop
structure Env0(P:aK)(w:aQ)(K:qF)(mg:qM)(base:aN)(A:br)(outer:List Env)(s:au)(H:Hp):Prop where
 frames:A.frames=some outer
 mod:Mod K mg base
 bs:∀b o,base.get? b=some o->s.heap.get? b=some o/\H b=none
 bsz:base.objs.size<=s.heap.objs.size
 funs:s.heap.FunFrames base outer
 frf:∀b∈frs outer,H b=none
 hok:HOk P w H s.heap
 bare:iz s.gens
def CE(outer:List Env)(P:aK)(w:aQ)(H:Hp)(s:au)(Q:VK)(u:ah)(s':au):Prop :=
 ∃v l,s'.os=s.os/\iz s'.gens/\Un (frs outer) [] H l s.heap s'.heap/\HOk P w l s'.heap/\RelV v u/\Q v l
def CR(l:CXT)(outer:List Env)(P:aK)(w:aQ)(H:Hp)(s:au)(Q:VK)(E:XK)(r:mZ)(s':au):Prop :=
 match r with
 | .ok (.ret u)=>CE outer P w H s Q u s'
 | .ok _=>False
 | .error e=>l outer H s E e s'
structure FnOk(P:aK)(w:aQ)(K:qF)(mg:qM)(base:aN)(CX:CXT)(k:Nat)(f:aq)(fd:cP)(ps:List Str)(sp:Sp):Prop where
 len:∀vs H Q E,sp vs H Q E->vs.length=ps.length
 run:∀(A:br) (outer:List Env) (s:au) (H:Hp) (args:Args) (us:List ah) (vs:List V) (Q:VK) (E:XK),Room k A->Env0 P w K mg base A outer s H->pd s fd args (ps.zip us)->Vals vs us->sp vs H Q E ->
  codeAny (model P w) A (.call (.ref f) args) (CR CX outer P w H s Q E) s
theorem FnOk.imp{P:aK}{w:aQ}{K:qF}{mg:qM}{base:aN}{v:CXT}{k:Nat}{f:aq}{fd:cP}{ps:List Str}{x u:Sp}(F:FnOk P w K mg base v k f fd ps x)
  (h:∀l H Q E,u l H Q E->x l H Q E):FnOk P w K mg base v k f fd ps u :=
 ⟨fun l H Q E q=>F.len l H Q E (h _ _ _ _ q),fun A outer s H args L l Q E y G C I J=>F.run A outer s H args L l Q E y G C I (h _ _ _ _ J)⟩
section
variable{X:Cx}{pins:qO}{σ:St}{H:Hp}{s s':au}
theorem Inv.env0(I:Inv X pins σ H s):Env0 X.prog X.w X.K X.mg X.base X.A X.stack s H :=
 ⟨I.ok.frames,I.ok.mod,I.bs,cf I.ok.bsz I.sz,I.stack,I.stkFree,I.hok,I.bare⟩
theorem Inv.after{Q:VK}{u:ah}(I:Inv X pins σ H s)(h:CE X.stack X.prog X.w H s Q u s'):EP X pins σ Q u s':=by
 obtain⟨v,y,os,bare,un,hok,r,q⟩:=h;obtain⟨x,g,d,t,l⟩:=s';obtain rfl:l=s.os:=os;exact⟨v,y,I.call (h':=x) (g':=g) (d':=d) (t':=t) (ch:=[]) un hok bare (fun b z=>absurd z (by simp)),r,q⟩
end
def zre(v:Sp)(l:List V)(E:XK)(t:TA):TE:=fun σ H Q=>t σ H fun u x=>v (u++l) x Q E
def Binds(K:qF)(fd:cP)(ps:List Str)(ds:List ah):Prop :=
 ∀(s:au) (u:List ah),K.In s.heap->(u++ds).length=ps.length->pd s fd ⟨u,[]⟩ (ps.zip (u++ds))
theorem Binds.all{K:qF}{fd:cP}{ps:List Str}(h:∀l:List ah,l.length=ps.length->bindArgs fd ⟨l,[]⟩=pure (ps.zip l)):Binds K fd ps []:=fun s l _ u=>by
 rw[bT]at u ⊢;exact .of_eq (h l u)
def Z2(l:CXT)(X:Cx)(E:XK):Prop:=∀(pins:qO) (σ:St) (H:Hp) (s:au) (e:ah) (s':au),Inv X pins σ H s->l X.stack H s E e s'->X.xe e s'
section
variable{X:Cx}{CX:CXT}{k:Nat}{f C:aq}{fd:cP}{ps:List Str}{sp:Sp}{dvs:List V}{ds:List ah}{E:XK}{x m:Str}{p pos apos:Pos}{e o:aP}{es:List aP}{ta:TE}{t:TA}
theorem zow{pins:qO}{σ:St}{H:Hp}{s:au}{Q:VK}{v:List ah}{G:List V}(F:FnOk X.prog X.w X.K X.mg X.base CX k f fd ps sp)(L:Room k X.A)(N:Binds X.K fd ps ds)(hd:Vals dvs ds)(hx:Z2 CX X E)
  (I:Inv X pins σ H s) (r:Vals G v) (h:sp (G++dvs) H Q E):wpAny (model X.prog X.w) X.A (call (.ref f) v) (EP X pins σ Q) X.xe s:=by
 have J:Vals (G++dvs) (v++ds):=r.append hd;have R:(v++ds).length=ps.length:=by rw[<- J.length];exact F.len _ _ _ _ h
 refine m5 (gU (F.run X.A X.stack s H ⟨v,[]⟩ (v++ds) (G++dvs) Q E L I.env0 (N s v I.kIn R) J h) fun r s' y=>?_)
 cases r with
 | error e=>exact hx pins σ H s e s' I y
 | ok fl =>
  cases fl with
  | ret u=>exact I.after y
  | next=>exact cu y
  | brk=>exact cu y
  | cont=>exact cu y
theorem zpn(F:FnOk X.prog X.w X.K X.mg X.base CX k f fd ps sp)(J:Room k X.A)(Z:Gl X x)(Y:X.mg x=some (.ref f))(U:gV X.K (.ref f)=true)(L:Binds X.K fd ps ds)(hd:Vals dvs ds)(hx:Z2 CX X E)
  (S:PA X (e::es) t) (v:(x == ("__debug__":Str))=false:=by decide) (R:starEach (e::es) X.env=(false,eval e X.env)::starEach es X.env:=by rfl) (u:(backTo pos (starEach es X.env)).any (·.1)=false:=by rfl) :
  PE X (.Call (.Name x p) (e::es) [] pos) (zre sp dvs E t):=by
 intro pins s σ H Q I h;refine fA (UY I Z Y ?_ v);refine i7 (h₀:=X.base) I.ok.mod.kin U (thn (S pos pins s σ H _ I h) fun us s1 ⟨vs,H1,G,r,q⟩=>⟨G.kIn,?_⟩) R u
 exact zow F J L hd hx G r q
end
structure Q9(N P:List Str)(sc:fv):Prop where
 kind:sc.kind=.function
 co:sc.isCoroutine=false
 gen:sc.isGenerator=false
 nd:N.Nodup
 pre:N.take P.length=P
 par:∀x∈P,sc.names.lookup x=some .local\/sc.names.lookup x=some .cell
 nofree:∀y∈sc.names,y.2≠.free
theorem zhM{kindOf:Str->Option eJ}{x:Str}:∀{binds:List (Str×ah)}{m:qM},(∀v,(x,v)∉binds)->bindL kindOf binds m x=m x
 | [],_,_=>rfl
 | (n,v)::r,m,h=>by
  unfold bindL;rw[zhM fun w hw=>h w (cJ _ hw)]
  split
  ·have:x≠n:=by rintro rfl;exact h v c8
   simp[this]
  ·rfl
theorem zhO{kindOf:Str->Option eJ}{x:Str}:∀{binds:List (Str×ah)}{m:qM},(∀v,(x,v)∉binds)->bindC kindOf binds m x=m x
 | [],_,_=>rfl
 | (n,v)::r,m,h=>by
  unfold bindC;rw[zhO fun w hw=>h w (cJ _ hw)]
  split
  ·rfl
  ·have:x≠n:=by rintro rfl;exact h v c8
   simp[this]
theorem zhN{kindOf:Str->Option eJ}{x:Str}{v:ah}:∀{P:List Str}{u:List ah}{i:Nat}{m:qM},P.Nodup->P[i]?=some x->u[i]?=some v->kindOf x=some .local ->
  bindL kindOf (P.zip u) m x=some v
 | [],_,_,_,_,h,_,_=>by simp at h
 | _::_,[],_,_,_,_,h,_=>by simp at h
 | p::P,w::u,0,m,nd,h1,h2,hk=>by
  simp at h1 h2;subst h1;subst h2;show bindL kindOf ((p,w)::P.zip u) m p=_
  unfold bindL;rw[zhM fun v y=>(eQ.mp nd).1 (cY y).1,if_pos hk]
  simp
 | p::P,w::u,i+1,m,nd,h1,h2,hk=>by
  show bindL kindOf ((p,w)::P.zip u) m x=_
  unfold bindL;exact zhN (i:=i) (eQ.mp nd).2 (by simpa using h1) (by simpa using h2) hk
theorem zhP{kindOf:Str->Option eJ}{x:Str}{v:ah}:∀{P:List Str}{u:List ah}{i:Nat}{m:qM},P.Nodup->P[i]?=some x->u[i]?=some v->kindOf x≠some .local ->
  bindC kindOf (P.zip u) m x=some v
 | [],_,_,_,_,h,_,_=>by simp at h
 | _::_,[],_,_,_,_,h,_=>by simp at h
 | p::P,w::u,0,m,nd,h1,h2,hk=>by
  simp at h1 h2;subst h1;subst h2;show bindC kindOf ((p,w)::P.zip u) m p=_
  unfold bindC;rw[zhO fun v y=>(eQ.mp nd).1 (cY y).1,if_neg hk]
  simp
 | p::P,w::u,i+1,m,nd,h1,h2,hk=>by
  show bindC kindOf ((p,w)::P.zip u) m x=_
  unfold bindC;exact zhP (i:=i) (eQ.mp nd).2 (by simpa using h1) (by simpa using h2) hk
def start(N:List Str)(l:List V):St:=l.map some++bR (N.length - l.length) none
def cxOf(u:CXT)(P:aK)(w:aQ)(K:qF)(mg:qM)(base:aN)(N:List Str)(qual:Str)(scope:fv)(f:aq)(cd:ah)(A:br)(outer:List Env)(s:au)(H:Hp)(E:XK):Cx where
 prog:=P
 w:=w
 K:=K
 mg:=mg
 base:=base
 A:=A.deeper (envOfC qual scope s.heap.objs.size f cd)
 N:=N
 s₀:=s
 H₀:=H
 env:=envOfC qual scope s.heap.objs.size f cd
 outer:=outer
 stack:=envOfC qual scope s.heap.objs.size f cd::outer
 ex:=[]
 calm:=true
 fn:=fun _=>true
 pn:=[]
 xe:=fun e s'=>wpAny (model P w) (A.deeper (envOfC qual scope s.heap.objs.size f cd)) (leaving (envOfC qual scope s.heap.objs.size f cd) e) (fun _ l=>u outer H s E e l) (fun v l=>u outer H s E v l) s'
theorem zjs{sc:fv}{n:Nat}{x:Str}(h:sc.names.lookup x=some .cell):∃c,(cellsFrom n sc.names []).lookup x=some c:=by
 have q:=lD sc.names n [] (.inl h);exact kN.mp q
theorem zlF{CX:CXT}{P:aK}{w:aQ}{K:qF}{mg:qM}{base:aN}{N ps:List Str}{qual:Str}{scope:fv}{f:aq}{cd:ah}{A:br}{outer:List Env}{s s1:au}{H:Hp}{E:XK}{Z:List ah}{L:List V}
  (S:Q9 N ps scope) (hd:A.handled=none) (G:Env0 P w K mg base A outer s H) (hl:L.length=ps.length) (r:Vals L Z)
  (x:InCallC s s.heap.objs.size (bindL (envOfC qual scope s.heap.objs.size f cd).kindOf (ps.zip Z) fun _=>none) (cellsFrom (s.heap.objs.size+1) scope.names []) (bindC (envOfC qual scope s.heap.objs.size f cd).kindOf (ps.zip Z) fun _=>none) s1) :
  Inv (cxOf CX P w K mg base N qual scope f cd A outer s H E) [] (start N L) H s1:=by
 have hpl:ps.length<=N.length:=by have:=congrArg eD S.pre;rw[fi]at this;lia
 obtain⟨Y,tk,rfl,hk⟩:=x.done;have J:∀b:aq,b∉(cxOf CX P w K mg base N qual scope f cd A outer s H E).ex:=fun b z=>absurd (show b∈([]:List aq) from z) (by simp)
 refine⟨⟨G.mod,S.kind,rfl,rfl,aA _,fun y z c Y C=>?_,fun y I=>?_,fun y c _ h=>?_,fun _=>hd,Around.frames_deeper G.frames,.inr ⟨rfl,rfl⟩,fun b z=>absurd z (J b),G.bs,G.bsz,fun b _ _=>J b,fun b z=>absurd z (J b),G.funs,G.frf⟩,
  rfl,G.bare,Un.kept hk,⟨_,x.toInCall.ns,fun i y v Y C h3=>?_⟩,fun y c h=>⟨_,x.cell y c h⟩,G.hok.fresh (aA _),fun y c h=>?_,fun p U=>absurd (show p∈([]:qO) from U) (by simp),G.hok.kept hk,?_⟩
 ·exact name_of_addr x.apart (e9 Y) (e9 C)
 ·have I:scope.names.lookup y=some .cell\/scope.names.lookup y=some .free:=I;rcases I with I|I
  ·exact zjs I
  ·exact absurd rfl (S.nofree _ (e9 I))
 ·exact nt (x.above y c (e9 h))
 ·have hi:i<L.length:=by
   unfold start at C
   by_cases hi:i<L.length
   ·exact hi
   ·rw[cK (by simpa using hi)]at C
    rw[dQ]at C;split at C <;> cases C
  have ha:L[i]?=some v:=by
   unfold start at C;rw[cz (by simpa using hi),aV]at C
   cases e:L[i]? with
   | none=>rw[e]at C;cases C
   | some a=>rw[e]at C;cases C;rfl
  obtain⟨u,hu,rv⟩:=r.get ha;have U:ps[i]?=some y:=by
   rw[<- S.pre,List.getElem?_take_of_lt (by lia)];exact Y
  have R:ps.Nodup:=by rw[<- S.pre];exact S.nd.sublist (List.take_sublist _ _)
  refine⟨u,rv,?_⟩;rcases S.par y (aR U) with k|k
  ·exact .inl ⟨k,zhN R U hu k⟩
  ·obtain⟨c,e⟩:=zjs (n:=s.heap.objs.size+1) k;refine .inr ⟨.inl k,c,e,?_⟩;have q:=x.cell y c e;rw[zhP R U hu (by show scope.names.lookup y≠_;rw[k];decide)]at q
   exact q
 ·exact G.hok.fresh (nt (x.above y c (e9 h)))
 ·unfold start;show _=N.length
  rw[aY,aL,ic];lia
theorem ztN{Z:CXT}{P:aK}{w:aQ}{K:qF}{mg:qM}{base:aN}{k:Nat}{f:aq}{name qual:Str}{params:Arguments}{body:List dD}{scope:fv}{dV kV doc pm C ct oc:ah}{an od:Option aq}
  {osl:Array (Option ah)} {N ps:List Str} {sp:Sp} (lk:K.lookup f=some ⟨oc,od,.func (dm name qual params body scope dV kV doc pm an C ct),osl⟩) (hcd:gW K C qual=true) (S:Q9 N ps scope)
  (len:∀G H Q E,sp G H Q E->G.length=ps.length)
  (II:∀(A:br) (outer:List Env) (s:au) (H:Hp) (G:List V) (Q:VK) (E:XK),Room k (A.deeper (envOfC qual scope s.heap.objs.size f C))->sp G H Q E ->
   ∃t,PSs (cxOf Z P w K mg base N qual scope f C A outer s H E) body t/\t { nx:=fun _ L=>Q .non L,rt:=Q } (start N G) H) :
  FnOk P w K mg base Z (k+1) f (dm name qual params body scope dV kV doc pm an C ct) ps sp:=by
 refine⟨len,fun A outer s H args us G Q E hr U hb r Y=>?_⟩
 have hl:=len _ _ _ _ Y;have KX:K.In s.heap:=U.mod.kin.keeps fun b o e=>(U.bs b o e).1
 have lim:s.heap.NoLimit:=U.mod.nolimit.keeps fun b o e=>(U.bs b o e).1
 have ID:∀y∈ps.zip us,scope.names.lookup y.1=some .local\/(scope.names.lookup y.1=some .cell/\((cellsFrom (s.heap.objs.size+1) scope.names []).lookup y.1).isSome=true):=fun⟨n,v⟩ hy=>by
  rcases S.par n (cY hy).1 with q|q
  ·exact .inl q
  ·exact .inr ⟨q,lD _ _ _ (.inl q)⟩
 refine codeAny_call_function hr.depth (KX _ _ lk) rfl S.co S.gen rfl (PySem.W.codeRec_of KX hcd) (hb _ _ _ _ ?_);refine wpAny_newFunctionEnv_cells S.kind ID fun env he s1 x=>?_
 subst he;refine⟨lim.keeps x.toInCall.keep,codeAny_func ?_⟩;obtain⟨t,ht,hq⟩:=II A outer s H G Q E (hr.deeper _) Y;have I:Inv (cxOf Z P w K mg base N qual scope f C A outer s H E) [] (start N G) H s1:=zlF S hr.hd U hl r x;refine cQ (ht [] s1 (start N G) H _ I hq) (fun fl s' R=>?_) fun e s' R=>R
 have fin:∀{σ':St} {L:Hp} {v:V} {u:ah},Inv (cxOf Z P w K mg base N qual scope f C A outer s H E) [] σ' L s'->RelV v u->Q v L->CE outer P w H s Q u s' :=
  fun {σ' L v u} J rv q=>⟨v,L,J.os,J.bare,J.base,J.hok,rv,q⟩
 cases fl with
 | ret u =>
  obtain⟨v,σ',L,J,rv,q⟩:=R;exact fin J rv q
 | next =>
  obtain⟨σ',L,J,q⟩:=R;exact fin (v:=V.non) (u:=iX) J rfl q
 | brk =>
  obtain⟨_,_,_,q⟩:=R;exact cu q
 | cont =>
  obtain⟨_,_,_,q⟩:=R;exact cu q
section
variable{X:Cx}{x:Str}{p pos:Pos}{e:aP}{es:List aP}{t:TA}{id T:String}{r:List V->Hp->VK->Prop}
def tCB(r:List V->Hp->VK->Prop)(t:TA):TE:=fun σ H Q=>t σ H fun l u=>r l u Q
theorem znt(hc:JG X (.builtin id) r)(L:Gl X x)(hm:X.mg x=none)(U:bootBuiltins x=some (.builtin id))(ha:PA X (e::es) t)(hn:x ≠ "__name__":=by decide) (G:(x == ("__debug__":Str))=false:=by decide)
  (S:starEach (e::es) X.env=(false,eval e X.env)::starEach es X.env:=by rfl) (v:(backTo pos (starEach es X.env)).any (·.1)=false:=by rfl):PE X (.Call (.Name x p) (e::es) [] pos) (tCB r t):=by
 intro pins s σ H Q I h;refine fA (Zg I L hm U ?_ hn G);exact oh (thn (ha pos pins s σ H _ I h) fun us s1 ⟨vs,J,Z,R,Y⟩=>hc pins s1 σ J vs us Q Z R Y) S v
theorem zkO(hc:JG X (.type T) r)(J:Gl X x)(hm:X.mg x=none)(S:bootBuiltins x=some (.type T))(Z:PA X (e::es) t)(hn:x ≠ "__name__":=by decide) (v:(x == ("__debug__":Str))=false:=by decide)
  (R:starEach (e::es) X.env=(false,eval e X.env)::starEach es X.env:=by rfl) (u:(backTo pos (starEach es X.env)).any (·.1)=false:=by rfl):PE X (.Call (.Name x p) (e::es) [] pos) (tCB r t):=by
 intro pins s σ H Q I h;refine fA (Zg I J hm S ?_ hn v);exact fQ (thn (Z pos pins s σ H _ I h) fun us s1 ⟨vs,G,Y,L,U⟩=>hc pins s1 σ G vs us Q Y L U) R u
end
end L2
namespace HT
open PySem PyProof.Rows
def lexLt:List Int->List Int->Bool
 | [],[]=>false
 | [],_::_=>true
 | _::_,[]=>false
 | x::xs,y::ys=>if x=y then lexLt xs ys else decide (x<y)
theorem zjV(x y:Int)(xs ys:List Int):lexLt (x::xs) (y::ys)=if x=y then lexLt xs ys else decide (x<y):=rfl
theorem zfJ:lexLt [] []=false:=rfl
theorem zeO(y:Int)(ys:List Int):lexLt [] (y::ys)=true:=rfl
theorem zeP(x:Int)(xs:List Int):lexLt (x::xs) []=false:=rfl
theorem zn5(A:br)(s:au)(a:Int)(t:Tok)(c:Int)(u:Tok):∃e,i8 A s (.int a t) (.int c u) e/\(e=true↔a=c) :=
 ⟨(a == c),gK a t c u,by simp⟩
theorem zng(A:br)(s:au)(a:Int)(t:Tok)(c:Int)(u:Tok)(prog:aK)(w:aQ)(E:qV)(Q:qV)(h:Q (.bool (decide (a<c))) s) :
  wpAny (model prog w) A (richCompare .Lt (.int a t) (.int c u)) Q E s :=
 (mJ h:wpAny (model prog w) A (compareOp .Lt (.int a t) (.int c u)) Q E s)
section
open PySem.SeqAt
open PySem.AutoSeq1 (wpAny_loadPart')
open PySem.MeetsSeq PySem.MeetsSeq2 PySem.MeetsSeq3
theorem zfq(l b:aq)(items Y:Array ah)(n n2:Nat)(dd dd2:Option aq)(sl sl2:Array (Option ah))(ns ms:List Int)(hi:gh items.toList ns)(hj:gh Y.toList ms) :
  Meets (fR.«tuple.__lt__» ⟨[.ref l,.ref b],[]⟩)
   (fun _ R s=>s.heap.get? l=some { cls:=.type "tuple",dict:=dd,data:=.seq items n,slots:=sl }/\s.heap.get? b=some { cls:=.type "tuple",dict:=dd2,data:=.seq Y n2,slots:=sl2 } /\
    R (.ok (.ret (.bool (lexLt ns ms)))) s) :=
 .of_wp fun prog w A R s h=>by
  obtain⟨hp,g,d,tk,os⟩:=s;obtain⟨hl,hb,h⟩:=h;have f2:=kO;have z1:items.size=ns.length:=by rw[<- hi.length];simp
  have z2:Y.size=ms.length:=by rw[<- hj.length];simp
  wp_walk using iG hl,iG hb,oi _ (fun rest b s'=>b.1=none/\s'=⟨hp,g,d,tk,os⟩/\∃(vs ws:List ah) (C G:List Int),rest=vs.zip ws /\
   gh vs C/\gh ws G/\C.length+Y.size=G.length+items.size/\R (.ok (.ret (.bool (lexLt C G)))) ⟨hp,g,d,tk,os⟩) _
  case turn =>
   rintro⟨y,x⟩ rest b s' ⟨S,rfl,vs,ws,C,G,J,U,I,v,N⟩;cases U with
   | nil=>rw[nB]at J;cases J
   | cons a t hvi' =>
    cases I with
    | nil=>rw[List.zip_nil_right]at J;cases J
    | cons c u Z =>
     rw[i9]at J
     injection J with hyx hrest
     injection hyx with hy hx
     subst hy hx;rw[zjV]at N;simp only[aT]at v;obtain⟨e,he,L⟩:=zn5 A.in1 ⟨hp,g,d,tk,os⟩ a t c u;refine aa (he prog w _ _ ?_);cases e with
     | true =>
      rw[if_pos (L.mp rfl)]at N
      wp_walk
      exact⟨rfl,rfl,_,_,_,_,hrest,hvi',Z,by lia,N⟩
     | false =>
      rw[if_neg (fun q=>absurd (L.mpr q) aW)]at N
      have hri:=zng A.in1 ⟨hp,g,d,tk,os⟩ a t c u prog w
      wp_walk using hri
      exact⟨_,rfl,by simpa using N⟩
  case fin =>
   rintro⟨b1,b2⟩ s' ⟨S,rfl,vs,ws,C,G,J,U,I,v,N⟩;simp only at S;subst S;have hv:lexLt C G=decide (items.size<Y.size):=by
    cases U with
    | nil =>
     cases I with
     | nil =>
      simp only[cL]at v;rw[zfJ];exact(decide_eq_false (by lia)).symm
     | cons c u hw =>
      simp only[cL,aT]at v;rw[zeO];exact(decide_eq_true (by lia)).symm
    | cons a t hv =>
     cases I with
     | nil =>
      simp only[cL,aT]at v;rw[zeP];exact(decide_eq_false (by lia)).symm
     | cons c u hw =>
      rw[i9]at J;cases J
   rw[hv]at N
   wp_walk
   exact⟨_,rfl,by simpa[ib] using N⟩
  case h =>
   exact⟨rfl,rfl,items.toList,Y.toList,ns,ms,rfl,hi,hj,by lia,h⟩
end
section
variable{prog:aK}{w:aQ}{A:br}{E:qV}{s:au}
theorem zcn{l b:aq}{items G:Array ah}{ns y:List Int}{Q:qV}(Z:lY s.heap l items)(S:lY s.heap b G)(hi:gh items.toList ns)(R:gh G.toList y)
  (hu:A.units<cLine) (h:Q (.bool (lexLt ns y)) s):wpAny (model prog w) A (compareOp .Lt (.ref l) (.ref b)) Q E s:=by
 obtain⟨⟨cls,dd,data,U⟩,J,hc,n,hd⟩:=id Z;obtain⟨⟨N,I,data2,C⟩,v,u,Y,hd2⟩:=id S;simp only at hc hd u hd2;subst hc hd u hd2;exact lE (op:=.Lt) ⟨_,J,rfl⟩ ⟨_,v,rfl⟩ lU lF (kX _ _) (zfq l b items G n Y dd I U C ns y hi R)
  ⟨J,v,show dY (lexLt ns y)≠l8/\Q (.bool (lexLt ns y)) s from⟨(fun x=>nomatch x),h⟩⟩ hu
theorem zqM{t b:aq}{v l:List ah}{Q:qV}(Z:lY s.heap t v.toArray)(S:lY s.heap b l.toArray)(L:v≠[])
  (U:l=[]->Q (.ref t) s) (Y:l≠[]->Q (.ref s.heap.objs.size) { s with heap:=s.heap.push { cls:=.type "tuple",data:=.seq (v++l).toArray } })
  (hsz:v.length+l.length<=sizeLine):wpAny (model prog w) A (binaryOp .Add (.ref t) (.ref b)) Q E s:=by
 obtain⟨⟨cls,dd,data,J⟩,I,hc,n,hd⟩:=id Z;obtain⟨⟨N,G,data2,C⟩,u,x,R,hd2⟩:=id S;simp only at hc hd x hd2;subst hc hd x hd2;have e:v.toArray++l.toArray=(v++l).toArray:=by simp
 by_cases hw:l=[]
 ·exact nE ⟨_,I,rfl⟩ ⟨_,u,rfl⟩ kY mS gX gQ (gF _ _)
   (tuple_addW1 t b v.toArray l.toArray n R dd G J C (by simpa using L) (by simp[hw])) ⟨I,u,U hw⟩
 ·refine nE ⟨_,I,rfl⟩ ⟨_,u,rfl⟩ kY mS gX gQ (gF _ _)
   (tuple_addW2 t b v.toArray l.toArray n R dd G J C (by simpa using L) (by simpa using hw) (by rw[ax,ax];exact hsz)) ⟨I,u,?_⟩
  rw[e];exact Y hw
def sIx(n d:Nat):Option Int->Nat
 | none=>d
 | some v=>if v<0 then(v+(n:Int)).toNat else min v.toNat n
theorem zdC(n d:Nat):sIx n d none=d:=rfl
theorem zhU(n d k:Nat):sIx n d (some (k:Int))=min k n:=by
 show(if (k:Int)<0 then((k:Int)+(n:Int)).toNat else min (k:Int).toNat n)=min k n
 rw[if_neg (by lia),fS]
theorem zrC(n d:Nat)(hd:d<=n)(o:Option Int):sIx n d o<=n:=by
 cases o with
 | none=>exact hd
 | some v =>
  show(if v<0 then(v+(n:Int)).toNat else min v.toNat n)<=n
  by_cases hv:v<0
  ·rw[if_pos hv];lia
  ·rw[if_neg hv];exact Nat.min_le_right _ _
theorem zmj(v:Int)(n d:Nat):(if v<0 then max (v+(n:Int)) 0 else min v (n:Int))=((sIx n d (some v):Nat):Int):=by
 show(if v<0 then max (v+(n:Int)) 0 else min v (n:Int))=(((if v<0 then(v+(n:Int)).toNat else min v.toNat n):Nat):Int)
 by_cases hv:v<0
 ·simp only[if_pos hv];lia
 ·simp only[if_neg hv];lia
theorem zj9(lo hi:Option Int)(n:Nat):gp lo hi 1 (n:Int)=(((sIx n 0 lo:Nat):Int),((sIx n n hi:Nat):Int)):=by
 have l:¬((1:Int)<0):=by lia
 unfold gp;simp only[l,if_false];refine kc ?_ ?_
 ·cases lo with
  | none=>rfl
  | some v=>exact zmj v n 0
 ·cases hi with
  | none=>rfl
  | some v=>exact zmj v n n
theorem zjJ(i j:Nat):eO (i:Int) (j:Int) 1=j - i:=by
 unfold eO;have l:(1:Int) > 0:=by lia
 simp only[l,if_true,Int.ediv_one];split <;> lia
theorem zeY{v:ah}{o:Option Int}{Q:Option Int->au->Prop}(p:kP v o)(h:Q o s):wpAny (model prog w) A (oQ v) Q E s:=by
 cases p with
 | none=>exact pK h
 | int i t=>exact slicePart_int h
theorem zbV{C:aq}{y v:ah}{lo hi:Option Int}{n:Nat}{Q:Int×Int×Nat->au->Prop}(G:s.heap.IsSliceOf C y v .none)(pl:kP y lo)(I:kP v hi)
  (h:Q (((sIx n 0 lo:Nat):Int),1,sIx n n hi - sIx n 0 lo) s):wpAny (model prog w) A (ke (.ref C) (pure (n:Int))) Q E s:=by
 obtain⟨os,l,J,u⟩:=id G;unfold ke rG;refine aa (aa (cS l u (x:=y) rfl (aa (cS l u (x:=v) rfl (aa (cS l u (x:=.none) rfl (aj ?_)))))));refine aa (pK ?_);show wpAny _ _ (if ((1:Int) == 0)=true then _ else _) _ _ s
 rw[if_neg (by decide)]
 refine aa (zeY pl (aa (zeY I (aa (aj ?_)))));show wpAny _ _ (match gp lo hi 1 (n:Int) with|(lo,hi)=>pure (lo,(1:Int),eO lo hi 1)) _ _ s
 rw[zj9 lo hi n];show wpAny _ _ (pure (((sIx n 0 lo:Nat):Int),(1:Int),eO ((sIx n 0 lo:Nat):Int) ((sIx n n hi:Nat):Int) 1)) _ _ s
 rw[zjJ];exact aj h
theorem zno(xs:Array ah)(i k:Nat):((dh k).filterMap fun(m:Nat)=>xs[((i:Int)+(m:Int)*1).toNat]?).toArray=((xs.toList.drop i).take k).toArray:=by
 have e:(fun(m:Nat)=>xs[((i:Int)+(m:Int)*1).toNat]?)=fun m=>xs[i+m]?:=by
  funext m
  have:((i:Int)+(m:Int)*1).toNat=i+m:=by lia
  rw[this]
 rw[e];have:=uP xs i k;rw[List.filterMap_map]at this;have u:((fun x=>xs[x]?)∘fun x=>i+x)=fun m=>xs[i+m]?:=rfl
 rw[u]at this;rw[this]
theorem zc9{t v:aq}{items:Array ah}{J N:ah}{lo hi:Option Int}{Q:qV}(l:lY s.heap t items)(L:s.heap.IsSliceOf v J N .none)(pl:kP J lo)(R:kP N hi)
  (hw:¬(sIx items.size 0 lo=0/\sIx items.size items.size hi=items.size))
  (h:Q (.ref s.heap.objs.size) { s with heap:=s.heap.push { cls:=.type "tuple",data:=.seq ((items.toList.drop (sIx items.size 0 lo)).take (sIx items.size items.size hi - sIx items.size 0 lo)).toArray } })
  (hsz:items.size<=sizeLine):wpAny (model prog w) A (getItem (.ref t) (.ref v)) Q E s:=by
 have u:sizeOk (.seq ((items.toList.drop (sIx items.size 0 lo)).take (sIx items.size items.size hi - sIx items.size 0 lo)).toArray):=by
  show((items.toList.drop (sIx items.size 0 lo)).take (sIx items.size items.size hi - sIx items.size 0 lo)).toArray.size<=sizeLine
  rw[ax,fi,eE,dB];lia
 have U:sIx items.size items.size hi<=items.size:=zrC _ _ (aA _) hi;obtain⟨os,G,I,S⟩:=id L;have x:s.TypeIs (.ref v) "slice":=⟨os,G,I⟩;unfold getItem
 try with_reducible refine bO ?_
 first|refine aa (aj ?_)|skip
 refine aa (nF l.typeIs (by decide) ?_)
 refine aa (dR (name:=ae "__getitem__") l.typeIs cc
  (eF cc l.typeIs mK ?_ (m6 _ _)))
 show wpAny _ _ (kg (.ref t) >>= _) _ _ s
 refine aa (tupleItemsOf_ l ?_);refine aa (gi x ?_);rw[if_pos (by decide)]
 refine aa (zbV L pl R ?_);have C:¬((((sIx items.size 0 lo:Nat):Int) == 0&&(1:Int) == 1&&(sIx items.size items.size hi - sIx items.size 0 lo) == items.size)=true):=by
  intro q;rw[aG,aG]at q;have Y:((sIx items.size 0 lo:Nat):Int)=0:=eq_of_beq q.1.1;have Z:sIx items.size items.size hi - sIx items.size 0 lo=items.size:=eq_of_beq q.2;exact hw ⟨by lia,by lia⟩
 show wpAny _ _ (if (((sIx items.size 0 lo:Nat):Int) == 0&&(1:Int) == 1&&(sIx items.size items.size hi - sIx items.size 0 lo) == items.size)=true then _ else _) _ _ s
 rw[if_neg C,zno]
 first
  | exact aa (m:=eY _) (cR (aj ⟨_,rfl,aj h⟩) u)
  | exact aa (m:=eY _) (cR (aa (aj (aj ⟨_,rfl,aj h⟩))) u)
  | exact aa (aa (m:=eY _) (cR (aj (aj ⟨_,rfl,aj h⟩)) u))
  | exact aa (aa (m:=eY _) (cR (aj ⟨_,rfl,aj h⟩) u))
end
end HT
namespace L2
open PySem PySem.Spec PyProof.Rows
abbrev TO:=St->Hp->(Option Int->Hp->Prop)->Prop
def PO(X:Cx)(e:Option aP)(t:TO):Prop :=
 ∀(pins:qO) (s:au) (σ:St) (H:Hp) (Q:Option Int->Hp->Prop),Inv X pins σ H s->t σ H Q ->
  wpAny (model X.prog X.w) X.A (evalPart e X.env) (fun u s'=>∃o l,Inv X pins σ l s'/\kP u o/\Q o l) X.xe s
def zoZ:TO:=fun _ H Q=>Q none H
def zuW(t:TE):TO:=fun σ H Q=>t σ H fun x l=>∃i,x=.int i/\Q (some i) l
theorem intsAre_of{ns:List Int}:∀{u:List ah},Vals (ns.map V.int) u->gh u ns:=by
 induction ns with
 | nil=>intro u r;rw[fB]at r;cases r;exact .nil
 | cons n ns v =>
  intro u r;rw[bZ]at r;cases r with
  | cons x y =>
   obtain⟨t,e⟩:=x;subst e;exact .cons n t (v y)
section
variable{X:Cx}{e:aP}{te:TE}{lo hi:Option aP}{tl th:TO}{pos p2:Pos}
theorem zph:PO X none zoZ:=by
 intro pins s σ H Q I h;rw[evalPart_none];exact aj ⟨none,H,I,.none,h⟩
theorem zpg(h:PE X e te):PO X (some e) (zuW te):=by
 intro pins s σ H Q I hw;rw[evalPart_some];refine thn (h pins s σ H _ I hw) fun u s1 ⟨x,l,C,v,y⟩=>?_
 obtain⟨i,rfl,q⟩:=y;obtain⟨t,rfl⟩:=v;exact⟨some i,l,C,.int i t,q⟩
def SlR(X:Cx)(r:V->Option Int->Option Int->Hp->VK->Prop):Prop :=
 ∀(pins:qO) (s:au) (σ:St) (H:Hp) (x:V) (v I G:ah) (lo hi:Option Int) (C:aq) (Q:VK),Inv X pins σ H s->RelV x v->s.heap.IsSliceOf C I G .none->kP I lo->kP G hi->r x lo hi H Q ->
  ∃T id,typeLookup (.type T) "__getitem__" = pure (some (.builtin id))/\s.TypeIs v T/\wpAny (model X.prog X.w) X.A (getItem v (.ref C)) (EP X pins σ Q) X.xe s
theorem SlR.or{r J:V->Option Int->Option Int->Hp->VK->Prop}(h:SlR X r)(h':SlR X J):SlR X (fun x lo hi H Q=>r x lo hi H Q\/J x lo hi H Q):=by
 intro pins s σ H x v y L lo hi u Q I C G pl l q;rcases q with q|q
 ·exact h pins s σ H x v y L lo hi u Q I C G pl l q
 ·exact h' pins s σ H x v y L lo hi u Q I C G pl l q
def tSl(r:V->Option Int->Option Int->Hp->VK->Prop)(te:TE)(tl th:TO):TE:=fun σ H Q=>te σ H fun x y=>tl σ y fun l v=>th σ v fun u C=>r x l u C Q
theorem ziV{r:V->Option Int->Option Int->Hp->VK->Prop}(L:SlR X r)(he:PE X e te)(hl:PO X lo tl)(hu:PO X hi th):PE X (.Subscript e (.Slice lo hi none p2) pos) (tSl r te tl th):=by
 intro pins s σ H Q I h;refine pL (thn (he pins s σ H _ I h) fun v s1 ⟨x,N,I1,U,q1⟩=>?_)
 refine wpAny_Slice (thn (hl pins s1 σ N _ I1 q1) fun C s2 ⟨l,H2,I2,pl,q2⟩=>thn (hu pins s2 σ H2 _ I2 q2) fun G s3 ⟨u,J,R,Y,q3⟩=>?_)
 rw[evalPart_none];refine aj ?_;have I4:Inv X pins σ J { s3 with heap:=s3.heap.push { cls:=.type "slice",data:=.fields #[C,G,.none] } }:=R.kept (t':=s3.toks) fun b ob q=>ak _ q
 obtain⟨T,id,Z,ht,hg⟩:=L pins { s3 with heap:=s3.heap.push { cls:=.type "slice",data:=.fields #[C,G,.none] } } σ J x v C G l u s3.heap.objs.size Q I4 U (wA ..) pl Y q3
 show wpAny (model X.prog X.w) X.A (subscriptTail e (.Slice lo hi none p2) v (.ref s3.heap.objs.size)) (EP X pins σ Q) X.xe { s3 with heap:=s3.heap.push { cls:=.type "slice",data:=.fields #[C,G,.none] } }
 exact tail_any (ops:=[.ref s3.heap.objs.size,v]) ht Z hg (by with_unfolding_all rfl)
def cutV(xs:List V)(lo hi:Option Int):List V:=(xs.drop (HT.sIx xs.length 0 lo)).take (HT.sIx xs.length xs.length hi - HT.sIx xs.length 0 lo)
theorem zeB(xs:List V)(lo hi:Option Int):(cutV xs lo hi).length<=xs.length:=by
 unfold cutV;rw[fi,eE];lia
def rSlT(K:qF):V->Option Int->Option Int->Hp->VK->Prop:=fun x lo hi H Q=>∃a xs,x=.ref a/\SqT K H a xs /\
 ¬(HT.sIx xs.length 0 lo=0/\HT.sIx xs.length xs.length hi=xs.length)/\∀p,H p=none->Q (.ref p) (upd H p (.tup (cutV xs lo hi)))
theorem zrk:SlR X (rSlT X.K):=by
 intro pins s σ H x v S Y lo hi R Q I L N pl J h;obtain⟨a,xs,rfl,hx,hw,q⟩:=h;cases L;obtain⟨y,r,G,C⟩:=I.tuple hx;have l:y.toArray.size=xs.length:=by rw[ax];exact r.length.symm
 refine⟨"tuple",_,cc.lookup,G.typeIs,?_⟩;refine HT.zc9 G N pl J (by rw[l];exact hw) ?_ (by rw[l];exact C)
 rw[l];refine⟨.ref s.heap.objs.size,_,I.laid (t':=s.toks) (o:=.tup (cutV xs lo hi)) (fun b U q=>ak _ q) (aA _) ?_,rfl,q _ (I.hok.fresh (aA _))⟩
 exact⟨cf (zeB xs lo hi) C,_,(r.drop (HT.sIx xs.length 0 lo)).take (HT.sIx xs.length xs.length hi - HT.sIx xs.length 0 lo),IsTD.new _ _⟩
def rLtT(K:qF):R2:=fun x y H Q=>∃a b ns u,x=.ref a/\y=.ref b/\SqT K H a (ns.map V.int)/\SqT K H b (u.map V.int)/\Q (.bl (HT.lexLt ns u)) H
theorem zsf(hu:X.A.units<cLine):OpR X (compareOp .Lt) (rLtT X.K):=by
 intro pins s σ H x y v u Q I Y N h;obtain⟨a,b,ns,J,rfl,rfl,Z,R,q⟩:=h;cases Y;cases N;obtain⟨G,S,p1,_⟩:=I.tuple Z;obtain⟨C,r2,p2,_⟩:=I.tuple R;have i1:gh G.toArray.toList ns:=intsAre_of S;have U:gh C.toArray.toList J:=intsAre_of r2;exact HT.zcn p1 p2 i1 U hu ⟨.bl (HT.lexLt ns J),H,I,rfl,q⟩
def zvD(K:qF):R2:=fun x y H Q=>∃a b xs ys,x=.ref a/\y=.ref b/\SqT K H a xs/\SqT K H b ys/\xs≠[]/\xs.length+ys.length<=sizeLine /\
 (ys=[]->Q (.ref a) H)/\(ys≠[]->∀p,H p=none->Q (.ref p) (upd H p (.tup (xs++ys))))
theorem Vals.nil_iff{xs:List V}{l:List ah}(r:Vals xs l):l=[]↔xs=[]:=by
 cases r with
 | nil=>simp
 | cons _ _=>simp
theorem zpw:OpR X (binaryOp .Add) (zvD X.K):=by
 intro pins s σ H x y v u Q I U L h;obtain⟨a,b,xs,ys,rfl,rfl,Y,N,hx,J,R,Z⟩:=h;cases U;cases L;obtain⟨S,C,p1,_⟩:=I.tuple Y;obtain⟨G,l,p2,_⟩:=I.tuple N;refine HT.zqM p1 p2 (fun z=>hx (C.nil_iff.mp z)) (fun z=>⟨.ref a,H,I,rfl,R (l.nil_iff.mp z)⟩) (fun z=>?_) (by rw[<- C.length,<- l.length];exact J)
 refine⟨.ref s.heap.objs.size,_,I.laid (t':=s.toks) (o:=.tup (xs++ys)) (fun b ob q=>ak _ q) (aA _) ?_,rfl,Z (fun w=>z (l.nil_iff.mpr w)) _ (I.hok.fresh (aA _))⟩
 exact⟨by rw[aY];exact J,_,C.append l,IsTD.new _ _⟩
end
def ixN(n:Nat)(i:Int):Option Nat:=if 0<=i then(if i<n then some i.toNat else none) else if -(n:Int)<=i then some (i+n).toNat else none
def atI{α:Type}(xs:List α)(i:Int):Option α:=(ixN xs.length i).bind fun j=>xs[j]?
theorem zlC{n:Nat}{i:Int}{j:Nat}(h:ixN n i=some j):seqIndex? i n=some j/\j<n/\-(n:Int)<=i/\i<n:=by
 unfold ixN at h
 by_cases h0:0<=i
 ·rw[if_pos h0]at h
  by_cases h1:i<n
  ·rw[if_pos h1]at h;have e:i.toNat=j:=aM h;exact⟨by rw[oH h0 h1,e],by lia,by lia,h1⟩
  ·rw[if_neg h1]at h;cases h
 ·rw[if_neg h0]at h
  by_cases h1:-(n:Int)<=i
  ·rw[if_pos h1]at h;have e:(i+n).toNat=j:=aM h;exact⟨by rw[nG (by lia) h1,e],by lia,h1,by lia⟩
  ·rw[if_neg h1]at h;cases h
theorem ziy{α:Type}{xs:List α}{i:Int}{v:α}(h:atI xs i=some v):∃j,seqIndex? i xs.length=some j/\xs[j]?=some v/\j<xs.length/\-(xs.length:Int)<=i/\i<xs.length:=by
 unfold atI at h;cases e:ixN xs.length i with
 | none=>rw[e]at h;cases h
 | some j =>
  rw[e]at h;obtain⟨u,y,x,l⟩:=zlC e;exact⟨j,u,h,y,x,l⟩
theorem zqT{α:Type}{xs:List α}{j:Nat}{v:α}(h:xs[j]?=some v):atI xs (j:Int)=some v:=by
 have l:j<xs.length:=(av.mp h).1;have e:ixN xs.length (j:Int)=some j:=by
  unfold ixN;rw[if_pos (by lia),if_pos (by lia)];simp
 unfold atI;rw[e];exact h
def zmE(b:aP):Prop:=∀o i,subscripted b false o i=operate [o,i] (getItem o i)
def IxR(X:Cx)(r:R2):Prop :=
 ∀(value slice:aP) (pins:qO) (s:au) (σ:St) (H:Hp) (x y:V) (v u:ah) (Q:VK),Inv X pins σ H s->RelV x v->RelV y u->r x y H Q ->
  subscripted slice false v u=operate [v,u] (getItem v u)->wpAny (model X.prog X.w) X.A (subscriptTail value slice v u) (EP X pins σ Q) X.xe s
def MtR(X:Cx)(id:String)(r:V->List V->Hp->VK->Prop):Prop :=
 ∀(pins:qO) (s:au) (σ:St) (H:Hp) (x:V) (xs:List V) (v:ah) (y:List ah) (Q:VK),Inv X pins σ H s->RelV x v->Vals xs y->r x xs H Q ->
  wpAny (model X.prog X.w) X.A (call (.builtin id) (v::y)) (EP X pins σ Q) X.xe s
section
variable{X:Cx}{a b:aP}{ta tb:TE}{pos:Pos}
theorem IxR.or{r J:R2}(h:IxR X r)(h':IxR X J):IxR X (fun x y H Q=>r x y H Q\/J x y H Q):=by
 intro value slice pins s σ H x y v u Q I C l q G;rcases q with q|q
 ·exact h value slice pins s σ H x y v u Q I C l q G
 ·exact h' value slice pins s σ H x y v u Q I C l q G
theorem Ul{r:R2}(l:IxR X r)(N:PE X a ta)(G:PE X b tb)(U:zmE b):PE X (.Subscript a b pos) (tOp r ta tb):=by
 intro pins s σ H Q I h;exact pL (binT N G I h fun v u s2 x y J R L C q=>l a b pins s2 σ J x y v u Q R L C q (U _ _))
def rIxL(K:qF):R2:=fun x y H Q=>∃p xs i v,x=.ref p/\y=.int i/\SqL K H p xs/\atI xs i=some v/\Q v H
def rIxT(K:qF):R2:=fun x y H Q=>∃p xs i v,x=.ref p/\y=.int i/\SqT K H p xs/\atI xs i=some v/\Q v H
def rIxS:R2:=fun x y H Q=>∃z i c,x=.str z/\y=.int i/\z.length<=sizeLine/\atI z.cps.toList i=some c/\Q (.str ⟨#[c]⟩) H
theorem UC:IxR X (rIxL X.K):=by
 intro value slice pins s σ H x y v u Q I rx U h R;obtain⟨p,xs,i,z,rfl,rfl,Y,Z,q⟩:=h;cases rx;obtain⟨t,rfl⟩:=U;obtain⟨J,r,pl,hz⟩:=I.list Y;obtain⟨j,l,h2,h3,S,h5⟩:=ziy Z;obtain⟨w,L,G⟩:=r.get h2;have hl:=r.length;have hn:=UV;have fin:EP X pins σ Q w s:=⟨z,H,I,G,q⟩
 by_cases h0:0<=i
 ·have C:i.toNat=j:=by
   rw[oH h0 h5]at l;exact aM l
  exact item_listR pl.isList h0 (by lia) (by rw[C];simpa using L) fin R
 ·have C:(i+(J.toArray.size:Int)).toNat=j:=by
   rw[nG (by lia) S]at l
   rw[ax,<- hl];exact aM l
  exact lG (x:=w) pl.isList.typeIs nH.lookup
   (wpAny_getItem_list_neg (Q:=fun r s'=>r=w/\EP X pins σ Q r s') pl.isList (by lia) (by rw[ax] <;> lia) (by lia) (by rw[C];simpa using L) ⟨rfl,fin⟩) R
theorem zs9:IxR X (rIxT X.K):=by
 intro value slice pins s σ H x y v u Q I U C h Y;obtain⟨p,xs,i,z,rfl,rfl,G,J,q⟩:=h;cases U;obtain⟨t,rfl⟩:=C;obtain⟨S,r,pl,hz⟩:=I.tuple G;obtain⟨j,N,R,h3,h4,h5⟩:=ziy J;obtain⟨w,L,l⟩:=r.get R;have Z:=r.length;have hn:=UV;have fin:EP X pins σ Q w s:=⟨z,H,I,l,q⟩;exact lG (x:=w) pl.typeIs slot_tuple_getitem.lookup
  (getItem_tuple (j:=j) (Q:=fun r s'=>r=w/\EP X pins σ Q r s') pl (by lia) (by lia) (by rw[ax,<- Z];exact N) (by simpa using L) ⟨rfl,fin⟩) Y
theorem zs_:IxR X rIxS:=by
 intro value slice pins s σ H x y v u Q I S G h U;obtain⟨z,i,c,rfl,rfl,hz,J,q⟩:=h;obtain⟨t,rfl⟩:=S;obtain⟨t',rfl⟩:=G;obtain⟨j,l,R,h3,C,L⟩:=ziy J;have Y:z.cps.toList.length=z.length:=by simp[lH]
 rw[Y]at l C L;have hn:=UV;exact tail_any (pM s z t) slot_str_getitem.lookup (getItem_str (c:=c) (by
  have N:decide (i < -(2 ^ 63:Int))=false:=decide_eq_false (by lia)
  have Z:decide (i>=2 ^ 63)=false:=decide_eq_false (by lia)
  rw[N,Z,Bool.or_false]) (by rw[l];simpa using R) ⟨.str ⟨#[c]⟩,H,I.tok _,⟨_,rfl⟩,q⟩) U
def rIx(K:qF):R2:=fun x y H Q=>rIxL K x y H Q\/rIxT K x y H Q\/rIxS x y H Q
theorem zta:IxR X (rIx X.K):=UC.or (zs9.or zs_)
theorem zjU(l:List ah)(n j:Nat)(u:ah):eZ (·.setIfInBounds j u) { cls:=.type "list",data:=.seq l.toArray n }={ cls:=.type "list",data:=.seq (l.set j u).toArray n }:=by
 simp[eZ]
theorem Inv.lst{pins:qO}{σ:St}{H:Hp}{s:au}{p:aq}{xs:List V}(I:Inv X pins σ H s)(h:H p=some (.lst xs)) :
  ∃(u:List ah) (n:Nat),Vals xs u/\s.heap.get? p=some { cls:=.type "list",data:=.seq u.toArray n }/\xs.length<=sizeLine:=by
 obtain⟨z,u,n,r,e⟩:=I.hok p _ h;exact⟨u,n,r,e,z⟩
theorem Inv.lstUpd{pins:qO}{σ:St}{H:Hp}{s:au}{p:aq}{xs ys:List V}{v its':List ah}{n C:Nat}{f:Obj->Obj}(I:Inv X pins σ H s)(h:H p=some (.lst xs))
  (J:s.heap.get? p=some { cls:=.type "list",data:=.seq v.toArray n }) (hf:f { cls:=.type "list",data:=.seq v.toArray n }={ cls:=.type "list",data:=.seq its'.toArray C }) (r:Vals ys its') (L:ys.length<=sizeLine) (t:Nat) :
  Inv X pins σ (upd H p (.lst ys)) { s with heap:=s.heap.update p f,toks:=t }:=by
 have e:(s.heap.update p f).get? p=some { cls:=.type "list",data:=.seq its'.toArray C }:=by
  rw[fN f J (by rw[hf] <;> rfl),hf]
 refine I.write (x:=p) (e:=p) (by rw[h];trivial) (.inl rfl) (fun b u G q=>(bV _ _ (gT G)).trans q) ⟨_,e⟩ ?_
 exact⟨L,its',C,r,e⟩
def zvC:V->V->V->Hp->(Hp->Prop)->Prop:=fun o i v H Q=>∃p xs k j,o=.ref p/\i=.int k/\H p=some (.lst xs)/\ixN xs.length k=some j/\Q (upd H p (.lst (xs.set j v)))
theorem set_list:PSet X zvC:=by
 intro pins s σ H o i v ov iv u Q I ro Z rv h;obtain⟨p,xs,k,j,rfl,rfl,U,Y,q⟩:=h;cases ro;obtain⟨t,rfl⟩:=Z;obtain⟨x,n,r,C,hz⟩:=I.lst U;obtain⟨y,h2,S,L⟩:=zlC Y;have J:=r.length;have hn:=UV;have R:Inv X pins σ (upd H p (.lst (xs.set j v))) { s with heap:=s.heap.update p (eZ (·.setIfInBounds j u)) } :=
  I.lstUpd U C (zjU x n j u) (r.set rv j) (by rw[fG];exact hz) s.toks
 by_cases h0:0<=k
 ·have G:k.toNat=j:=by
   rw[oH h0 L]at y;exact aM y
  exact PySem.W.ki_setAt C h0 (by lia) (by rw[ax,<- J];exact L) (by rw[G];exact⟨_,R,q⟩)
 ·have G:(k+(x.toArray.size:Int)).toNat=j:=by
   rw[nG (by lia) S]at y
   rw[ax,<- J];exact aM y
  exact PySem.W.ki_setBack C (by lia) (by rw[ax,<- J];exact S) (by lia) (by rw[G];exact⟨_,R,q⟩)
theorem zgh(lo hi:Option Int)(n:Nat):(sliceBounds lo hi none n).1=((HT.sIx n 0 lo:Nat):Int)/\(sliceBounds lo hi none n).2.1=((HT.sIx n n hi:Nat):Int)/\(sliceBounds lo hi none n).2.2=1:=by
 refine⟨?_,?_,rfl⟩
 ·cases lo with
  | none=>simp[sliceBounds,HT.sIx]
  | some i =>
   simp only[sliceBounds,HT.sIx,oj,show(1:Int) > 0 by decide,if_true]
   by_cases h:i<0
   ·simp only[h,if_true] <;> lia
   ·simp only[h,if_false] <;> lia
 ·cases hi with
  | none=>simp[sliceBounds,HT.sIx]
  | some i =>
   simp only[sliceBounds,HT.sIx,oj,show(1:Int) > 0 by decide,if_true]
   by_cases h:i<0
   ·simp only[h,if_true] <;> lia
   ·simp only[h,if_false] <;> lia
theorem zfs(l:List ah)(lo hi:Option Int):slicePick l.toArray lo hi none=((l.drop (HT.sIx l.length 0 lo)).take (HT.sIx l.length l.length hi - HT.sIx l.length 0 lo)).toArray:=by
 obtain⟨u,x,v⟩:=zgh lo hi l.toArray.size;unfold slicePick;rw[u,x,v];simp only[pN,uP,ax] <;> rfl
def rSlL(K:qF):V->Option Int->Option Int->Hp->VK->Prop:=fun x lo hi H Q=>∃a xs,x=.ref a/\SqL K H a xs/\∀p,H p=none->Q (.ref p) (upd H p (.lst (cutV xs lo hi)))
theorem zo3:SlR X (rSlL X.K):=by
 intro pins s σ H x v S Y lo hi R Q I J N pl C h;obtain⟨a,xs,rfl,hx,q⟩:=h;cases J;obtain⟨G,r,y,L⟩:=I.list hx;have u:=r.length;refine⟨"list",_,nH.lookup,y.isList.typeIs,?_⟩;refine wpAny_getItem_list_slice y.isList N pl C .none (by simp) ?_ (by rw[ax] <;> lia)
 rw[zfs,<- u];refine⟨.ref s.heap.objs.size,_,I.laid (t':=s.toks) (o:=.lst (cutV xs lo hi)) (fun b U q=>ak _ q) (aA _) ?_,rfl,q _ (I.hok.fresh (aA _))⟩
 exact⟨cf (zeB xs lo hi) L,_,0,(r.drop (HT.sIx xs.length 0 lo)).take (HT.sIx xs.length xs.length hi - HT.sIx xs.length 0 lo),az _ rfl⟩
theorem zhz:JG X (.builtin "len") (fun xs H Q=>∃p ys,xs=[.ref p]/\(SqL X.K H p ys\/SqT X.K H p ys)/\Q (.int ys.length) H):=by
 intro pins s σ H xs N Q I r h;obtain⟨p,ys,rfl,x,q⟩:=h;obtain⟨u,rfl,G⟩:=vals1 r;cases G;have L:=UV;rcases x with x|x
 ·obtain⟨y,C,pl,J⟩:=I.list x;have v:=C.length;exact mI pl.isList (by simp only[ax] <;> lia) ⟨.int ys.length,H,I.tok _,⟨s.toks+1,by rw[ax,v]⟩,q⟩
 ·obtain⟨y,C,pl,J⟩:=I.tuple x;have v:=C.length;exact len_tuple pl (by simp only[ax] <;> lia) ⟨.int ys.length,H,I.tok _,⟨s.toks+1,by rw[ax,v]⟩,q⟩
theorem Ue:JG X (.type "tuple") (fun xs H Q=>∃p ys,xs=[.ref p]/\((SqL X.K H p ys/\∀l,H l=none->Q (.ref l) (upd H l (.tup ys)))\/(SqT X.K H p ys/\Q (.ref p) H))):=by
 intro pins s σ H xs S Q I r h;obtain⟨p,ys,rfl,h⟩:=h;obtain⟨u,rfl,N⟩:=vals1 r;cases N;rcases h with⟨x,q⟩|⟨x,q⟩
 ·obtain⟨v,C,pl,L⟩:=I.list x;have G:=C.length;refine call_tuple_list pl.isList (fun h' kp=>?_) (by simp only[ax] <;> lia)
  have J:Inv X pins σ H { s with heap:=h' }:=I.kept (t':=s.toks) kp
  have R:Inv X pins σ (upd H h'.objs.size (.tup ys)) { s with heap:=h'.push { cls:=.type "tuple",data:=.seq v.toArray } } :=
   J.laid (t':=s.toks) (fun b o e=>ak _ e) (aA _) (show JL X.prog X.w _ _ _ (.tup ys) from⟨L,v,C,IsTD.new _ _⟩)
  exact⟨.ref h'.objs.size,_,R,rfl,q _ (J.hok.fresh (aA _))⟩
 ·obtain⟨v,C,pl,L⟩:=I.tuple x;exact call_tuple_same pl ⟨.ref p,H,I,rfl,q⟩
def tyV(K:qF)(T:String)(x:V)(H:Hp):Prop:=match x with
 | .str _=>T = "str"
 | .int _=>T = "int"
 | .ref p=>(T = "list" /\ ∃xs,SqL K H p xs)\/(T = "tuple" /\ ∃o,K.lookup p=some o/\o.cls=.type "tuple" /\ o.dict=none) \/
   (T = "dict" /\ ((∃l,H p=some (.dK l))\/∃l,H p=some (.dT l)))\/(T = "set" /\ ∃S n,H p=some (.set S n))
 | _=>False
theorem zop{pins:qO}{σ:St}{H:Hp}{s:au}{T:String}{x:V}{v:ah}(I:Inv X pins σ H s)(r:RelV x v)(ty:tyV X.K T x H) :
  s.TypeIs v T/\∀a,v=.ref a->∃C,s.heap.get? a=some C/\C.dict=none:=by
 cases x with
 | str z =>
  obtain⟨t,rfl⟩:=r;cases(show T = "str" from ty)
  exact⟨pM s z t,fun _ e=>nomatch e⟩
 | int i =>
  obtain⟨t,rfl⟩:=r;cases(show T = "int" from ty)
  exact⟨typeIs_int s i t,fun _ e=>nomatch e⟩
 | ref p =>
  cases r;rcases ty with⟨rfl,xs,G⟩|⟨rfl,o,l,hc,hd⟩|⟨rfl,l⟩|⟨rfl,S,n,l⟩
  ·obtain⟨J,_,pl,_⟩:=I.list G;refine⟨pl.isList.typeIs,fun a e=>?_⟩
   cases e;obtain⟨o,n,e,c,hd,_⟩:=pl;exact⟨o,e,hd⟩
  ·refine⟨⟨o,I.kIn p o l,hc⟩,fun a e=>?_⟩
   cases e;exact⟨o,I.kIn _ o l,hd⟩
  ·have z:∃o,s.heap.get? p=some o/\o.ExactDict:=by
    rcases l with⟨u,l⟩|⟨u,l⟩
    ·obtain⟨_,_,_,_,o,_,_,e,ex,_⟩:=I.hok p _ l;exact⟨o,e,ex⟩
    ·obtain⟨_,_,_,_,o,_,_,e,ex,_⟩:=I.hok p _ l;exact⟨o,e,ex⟩
   obtain⟨o,e,ex⟩:=z;refine⟨⟨o,e,ex.1⟩,fun a y=>?_⟩
   cases y;exact⟨o,e,ex.2.1⟩
  ·obtain⟨o,_,_,_,e,ex,_⟩:=I.hok p _ l;refine⟨⟨o,e,ex.1⟩,fun a y=>?_⟩
   cases y;exact⟨o,e,ex.2.1⟩
 | _=>exact cu ty
def tBM0(K:qF)(T:String)(r:V->List V->Hp->VK->Prop)(to:TE):TE:=fun σ H Q=>to σ H fun x l=>tyV K T x l/\r x [] l Q
def tBM(K:qF)(T:String)(r:V->List V->Hp->VK->Prop)(to:TE)(t:TA):TE:=fun σ H Q=>to σ H fun x l=>tyV K T x l/\t σ l fun xs u=>r x xs u Q
variable{o e:aP}{es:List aP}{to:TE}{t:TA}{name:Str}{apos HY:Pos}{T id:String}{r:V->List V->Hp->VK->Prop}
theorem zr6(pa:PlainAttrs T)(slot:Slot T name id)(G:typeOf (.builtin id)=pure (.type "method_descriptor")) (hm:MtR X id r) (R:PE X o to)
  (Y:attributeBase o name X.env (eval o X.env)=eval o X.env:=by rfl) (HH:(apos.endLine == HY.line)=true:=by rfl):PE X (.Call (.Attribute o name apos) [] [] HY) (tBM0 X.K T r to):=by
 intro pins s σ H Q I h;refine wpAny_Call_method0_late Y HH (thn (R pins s σ H _ I h) fun v s1 ⟨x,N,L,J,ty,S⟩=>?_)
 obtain⟨U,Z⟩:=zop L J ty;exact⟨T,id,pa,slot,G,U,Z,lI rfl (PySem.evalArgs_none (hm pins s1 σ N x [] v [] Q L J .nil S))⟩
theorem zpo(pa:PlainAttrs T)(slot:Slot T name id)(G:typeOf (.builtin id)=pure (.type "method_descriptor")) (hm:MtR X id r) (S:PE X o to) (ha:PA X (e::es) t)
  (HG:attributeBase o name X.env (eval o X.env)=eval o X.env:=by rfl)
  (IR:((backTo HY (starEach (e::es) X.env)).all (fun x=>!x.1)&&(backToKw HY (keywordEach [] X.env)).all (fun x=>x.1.isSome)
   && decide ((e::es).length+([]:List tK).length+(if ([]:List tK).isEmpty then 0 else 1)<30))=true:=by rfl)
  (HH:(apos.endLine == HY.line)=true:=by rfl) (hs:starEach (e::es) X.env=(false,eval e X.env)::starEach es X.env:=by rfl) (IS:(backTo HY (starEach es X.env)).any (·.1)=false:=by rfl) :
  PE X (.Call (.Attribute o name apos) (e::es) [] HY) (tBM X.K T r to t):=by
 intro pins s σ H Q I h;refine wpAny_Call_method_late HG IR HH rfl (thn (S pins s σ H _ I h) fun v s1 ⟨x,R,L,J,ty,Y⟩=>?_)
 obtain⟨Z,h2⟩:=zop L J ty;refine⟨T,id,pa,slot,G,Z,h2,?_⟩;have N:=ha HY pins s1 σ R _ L Y;rw[hs]at N ⊢;refine lI (by show(false||(backTo HY (starEach es X.env)).any (·.1))=false;rw[IS] <;> rfl) (Calls.evalArgs_plain ?_)
 exact thn N fun us s2 ⟨vs,U,I2,r2,q2⟩=>hm pins s2 σ U x vs v us Q I2 J r2 q2
end
def MtM(X:Cx)(id:String)(r:V->List V->Hp->VK->Prop):Prop :=
 ∀(pins:qO) (s:au) (σ:St) (H:Hp) (x:V) (xs:List V) (v:ah) (y:List ah) (Q:VK),Inv X pins σ H s->RelV x v->Vals xs y->r x xs H Q ->
  wpAny (model X.prog X.w) X.A (call (.builtin id) (v::y)) (EP X pins σ Q) X.xe s
theorem Vals.one{x:V}{l:List ah}(h:Vals [x] l):∃u,l=[u]/\RelV x u:=by
 cases h with
 | cons r t=>cases t;exact⟨_,rfl,r⟩
section
variable{X:Cx}{pins:qO}{σ:St}{H:Hp}{s:au}{l b:aq}{xs ys zs:List V}
theorem Inv.lset{v its':List ah}{n:Nat}{f:Array ah->Array ah}{t':Nat}(I:Inv X pins σ H s)(G:H l=some (.lst xs))
  (e:s.heap.get? l=some { cls:=.type "list",data:=.seq v.toArray n }) (hf:f v.toArray=its'.toArray) (C:Vals ys its') (N:ys.length<=sizeLine) :
  Inv X pins σ (upd H l (.lst ys)) { s with heap:=s.heap.update l (eZ f),toks:=t' }:=by
 have q:=PySem.IsL.update e f;rw[hf]at q;refine I.write (x:=l) (e:=l) (by rw[G];exact trivial) (.inl rfl) (fun R u J L=>(bV s.heap (eZ f) (gT J)).trans L) ⟨_,q⟩ ?_
 exact⟨N,its',_,C,q⟩
theorem Inv.lnew{u:List ah}{t':Nat}(I:Inv X pins σ H s)(v:Vals ys u)(x:ys.length<=sizeLine) :
  Inv X pins σ (upd H s.heap.objs.size (.lst ys)) { s with heap:=s.heap.push { cls:=.type "list",data:=.seq u.toArray },toks:=t' } :=
 I.laid (fun _ _ q=>ak _ q) (aA _) ⟨x,u,0,v,az _ rfl⟩
theorem Inv.fresh(I:Inv X pins σ H s):H s.heap.objs.size=none:=I.hok.fresh (aA _)
theorem Inv.lstM(I:Inv X pins σ H s)(v:H l=some (.lst xs)):xs.length<=sizeLine/\∃(u:List ah) (n:Nat),Vals xs u/\xs.length=u.length/\s.heap.get? l=some { cls:=.type "list",data:=.seq u.toArray n }:=by
 obtain⟨z,u,n,r,e⟩:=I.hok l _ v;exact⟨z,u,n,r,r.length,e⟩
end
section
variable{X:Cx}
def zo_:V->List V->Hp->VK->Prop:=fun x u H Q=>∃l xs y,x=.ref l/\u=[y]/\H l=some (.lst xs)/\xs.length<sizeLine/\Q .non (upd H l (.lst (xs++[y])))
theorem zec:MtM X "list.append" zo_:=by
 intro pins s σ H x U v R Q I J N h;obtain⟨l,xs,y,rfl,rfl,G,S,q⟩:=h;cases J;obtain⟨u,rfl,L⟩:=N.one;obtain⟨z,C,n,r,Y,e⟩:=I.lstM G;refine call_meets F.slot_list_append ⟨_,e,rfl⟩ F.entry_list_append (F.args_list_append_2 _ _) (PySem.list_append l C.toArray n u (by rw[ax];lia)) ⟨e,?_⟩
 refine⟨.non,_,I.lset (its':=C++[u]) G e (by simp) (r.append (.cons L .nil)) ?_,rfl,q⟩
 rw[aY,List.length_singleton];lia
def rCat:R2:=fun x y H Q=>∃l b xs zs,x=.ref l/\y=.ref b/\H l=some (.lst xs)/\H b=some (.lst zs)/\xs.length+zs.length<=sizeLine/\∀p,H p=none->Q (.ref p) (upd H p (.lst (xs++zs)))
theorem zsm:OpR X (binaryOp .Add) rCat:=by
 intro pins s σ H x y v u Q I S L h;obtain⟨l,b,xs,zs,rfl,rfl,J,R,hz,q⟩:=h;cases S;cases L;obtain⟨z,G,n,r,hl,e⟩:=I.lstM J;obtain⟨z2,C,n2,Y,N,Z⟩:=I.lstM R;refine PySem.P.add_list e Z ?_ (by rw[ax,ax];lia)
 have U:G.toArray++C.toArray=(G++C).toArray:=by simp
 rw[U];exact⟨.ref _,_,I.lnew (t':=s.toks) (r.append Y) (by rw[aY];lia),rfl,q _ I.fresh⟩
end
end L2
namespace Att
open PySem PySem.W PySem.Calls PyProof.Rows
theorem zeg{P:pO}{h:aN}:∀(ns:List Int) (u:List ah),WellAll P h u (ns.map yf)->gh u ns:=by
 intro ns;induction ns with
 | nil =>
  intro u w;rw[fB]at w;cases w;exact .nil
 | cons n ns v =>
  intro u w;rw[bZ]at w;cases w with
  | cons a b =>
   cases a;exact .cons _ _ (v _ b)
theorem zko{l:OpenLaw}{n:Nat}(U:l.most=some n){P:pO}{h:aN}{args:List WData}{vals:List ah}
  (J:l.row.toRowW.claim.pre args=true) (G:WellAll P h vals args) :
  ∃a I ns,vals=[bM a]/\args=[WData.list (ns.map yf)]/\h.get? a=some { cls:=.type "list",data:=.seq I.toArray }/\gh I ns/\ns.length<=n:=by
 have C:WShape.hasAll [] args [.list .int]=true:=(pre_splitW J).1;have hc:l.pre.holds [] { args:=args }=true:=(pre_splitW J).2;obtain⟨d,r,rfl,S,Z⟩:=hasAllW_cons C;obtain rfl:=hasAllW_nil Z;obtain⟨xs,rfl,N⟩:=hasW_list S;obtain⟨ns,rfl⟩:=items_int N;have u:ns.length<=n:=by
  unfold OpenLaw.pre at hc;have v:(WTm.not (.lt (.lit (.int (n:Int))) (.len (.arg 0)))).holds [] { args:=[.list (ns.map .int)] }=true:=by
   have v:=(holds_andW hc).1;rw[U]at v;exact v
  have x:=condW_of v (w_not (w_lt w_lit (w_len_list (w_arg rfl))));rw[aL]at x;refine om fun q=>?_
  have Y:(n:Int)<((ns.length:Nat):Int):=by lia
  first
   | (rw[decide_eq_true Y]at x;exact absurd x (by decide))
   | (simp at x;lia)
 cases G with
 | cons L w2 =>
  cases w2;cases L with
  | list R IG=>exact⟨_,_,ns,rfl,rfl,R,zeg ns _ IG,u⟩
theorem zkH(l:OpenLaw)(args:List WData):l.row.toRowW.claim.post args (.bool true) args=true :=
 postW_of (r:=l.row.toRowW) (X:=(true == true))
  (show wI [] (.bool true) .bool=true by first|rfl|decide|simp[wI,WShape.arms,WShape.armsAll])
  (show(WTm.eq .res (.lit (.bool true))).value [] { args:=args,res:=some (.bool true),after:=args }=some (.bool (true == true)) from w_eq_bool (w_res rfl) w_lit) rfl
theorem attach_call{l:OpenLaw}{n:Nat}{q:aK}{loose:List Str}{XP:(Str->Option ah)->aN->Prop}{YP:aQ->aN->Prop}{d:DefRec}
  (hn:l.most=some n) (S:d.params.defaults=[])
  (call:∀(w:aQ) (s₀ v:au) (mg N:qM) (J:aq) (o:Obj) (pm cd doc:ah) (a:aq) (C:List ah) (ns:List Int),
   Ground q loose [] XP w s₀ mg N v.heap->YP w v.heap ->
   v.heap.get? J=some o->o.data=.func (docDef d.name d.params d.body d.scope pm cd doc)->v.heap.CodeRec cd d.name->mg d.name=some (.ref J) ->
   v.heap.get? a=some { cls:=.type "list",data:=.seq C.toArray }->gh C ns->ns.length<=n->v.gens=#[] ->
   codeAny (model l.prog w) callerA (.call (.ref J) ⟨[.ref a],[]⟩) (fun r s'=>r=.ok (.ret (.bool true))/\OldK v.heap s'.heap/\s'.os=v.os/\iz s'.gens) v) :
  WalkO q loose XP YP l.row.toRowW d [] (fun f C=>wJ f C):=by
 intro w s₀ v mg N G Y J o pm cd doc dV kV ho hd U hD R hg args vals as IM hlay hrd Z hlo;obtain rfl:dV=.none:=Dflts.none hD S;obtain rfl:kV=.none:=Dflts.noKw hD;obtain⟨a,C,ns,rfl,rfl,L,x,I⟩:=zko hn IM Z;refine enter_call (gU (call w s₀ v mg N J o pm cd doc a C ns G Y ho (fd_plain hd) U R L x I hg) fun r s' hq=>?_)
 obtain⟨rfl,h2,h3,h4⟩:=hq;exact⟨.inl ⟨.bool true,.bool true,[],rfl,fun _=>rfl,.bool true,zkH l _,fun _=>⟨xv,fun _ hm=>(nomatch hm)⟩⟩,h2,h3,h4⟩
end Att
namespace L2
open PySem PySem.Spec PyProof.Rows
theorem zf3:∀{u:List ah}{ns:List Int},gh u ns->Vals (ns.map V.int) u
 | _,_,.nil=>.nil
 | _,_,.cons n t h=>.cons ⟨t,rfl⟩ (zf3 h)
def Only(H:Hp):Prop:=∀b,H b=none\/∃o xs,H b=some (.frz o (.lst xs))
theorem znE{P:aK}{w:aQ}{K:qF}{mg mb:qM}{CX:CXT}{k:Nat}{fa a:aq}{fd:cP}{x:Str}{sp:Sp}{C:au}{J:List ah}{ns:List Int}
  (KX:K.In C.heap) (R:C.heap.Ns mainGlobals mg) (G:C.heap.Ns builtinsNs mb) (hbb:∀x:Str,x ≠ "__name__" -> mb x=bootBuiltins x) (U:C.heap.NoLimit) (hg:C.gens=#[])
  (ha:C.heap.get? a=some { cls:=.type "list",data:=.seq J.toArray }) (hi:gh J ns) (hl:ns.length<=sizeLine) (hr:Room k callerA)
  (F:∀base:aN,K.In base->base.Ns mainGlobals mg->FnOk P w K mg base CX k fa fd [x] sp) (Ke:∀(s:au) (u:ah),pd s fd ⟨[u],[]⟩ [(x,u)])
  (hsp:∀H:Hp,Only H->SqL K H a (ns.map V.int)->sp [.ref a] H (fun v _=>v=.bl true) fun _ _ _=>False)
  (hCX:∀H e s',CX [] H C (fun _ _ _=>False) e s'->False) :
  codeAny (model P w) callerA (.call (.ref fa) ⟨[.ref a],[]⟩) (fun r s'=>r=.ok (.ret (.bool true))/\OldK C.heap s'.heap/\s'.os=C.os/\iz s'.gens) C:=by
 have rv:=zf3 hi;have Z:=hi.length;have core:∀H:Hp,Only H->SqL K H a (ns.map V.int)->HOk P w H C.heap->(∀b,H b≠none->b=a)->(H a≠none->K.lookup a=none) ->
   codeAny (model P w) callerA (.call (.ref fa) ⟨[.ref a],[]⟩) (fun r s'=>r=.ok (.ret (.bool true))/\OldK C.heap s'.heap/\s'.os=C.os/\iz s'.gens) C:=by
  intro H hO hS hok hA hK;have IF:∀{b:aq} {o:Obj},C.heap.get? b=some o->H b=none->(hidT C.heap H).get? b=some o:=fun e n=>zn0 e n
  have noA:∀{b:aq} {o:Obj} {es:Array dG} {L:Nat},C.heap.get? b=some o->o.data=.dict es L->H b=none:=fun {b o es L} e d=>by
   cases q:H b with
   | none=>rfl
   | some u =>
    have e':b=a:=hA b (by rw[q];simp)
    subst e';rw[ha]at e;cases e;have d':Data.seq J.toArray _=Data.dict es L:=d;cases d'
  have I:∀{b:aq} {m:qM},C.heap.Ns b m->(hidT C.heap H).Ns b m:=fun {b m} ⟨o,es,L,e,d,r⟩=>⟨o,es,L,IF e (noA e d),d,r⟩
  have Y:K.In (hidT C.heap H):=fun b o e=>IF (KX b o e) (by
   cases q:H b with
   | none=>rfl
   | some u =>
    have e':b=a:=hA b (by rw[q];simp)
    subst e';rw[hK (by rw[q];simp)]at e;cases e)
  have hM:Mod K mg (hidT C.heap H):=⟨Y,I R,⟨mb,I G,hbb⟩,let ⟨mc,h1,h2⟩:=U;⟨mc,I h1,h2⟩⟩
  have e0:Env0 P w K mg (hidT C.heap H) callerA [] C H:=⟨rfl,hM,fun b o e=>zpF e,Nat.le_of_eq (zlL _ _),trivial,fun b G=>absurd (show b∈([]:List aq) from G) (by simp),hok,.of_eq hg⟩
  refine gU ((F _ Y (I R)).run callerA [] C H ⟨[.ref a],[]⟩ [.ref a] [.ref a] _ _ hr e0 (Ke C (.ref a)) (.cons rfl .nil) (hsp H hO hS)) fun r s' h=>?_
  cases r with
  | error e=>exact(hCX H e s' h).elim
  | ok fl =>
   cases fl with
   | next=>exact cu h
   | brk=>exact cu h
   | cont=>exact cu h
   | ret u =>
    obtain⟨v,H',os,bare,un,S,r',q⟩:=h;have q':v=.bl true:=q;subst q';obtain rfl:u=dY true:=r';refine⟨rfl,OldK.of_keep fun b o e=>?_,os,bare⟩
    cases q:H b with
    | none=>exact un.keep b o e q (by intro z;exact absurd (show b∈([]:List aq) from z) (by simp)) (by simp)
    | some u =>
     rcases hO b with z|⟨ob,xs,z⟩
     ·rw[q]at z;cases z
     ·have z2:=un.frzs b ob _ z;obtain⟨e1,_⟩:=hok b _ z;obtain⟨e2,_⟩:=S b _ z2;rw[e]at e1;cases e1;exact e2
 cases hk:K.lookup a with
 | some o =>
  have e:=KX a o hk;rw[ha]at e;cases e;refine core (fun _=>none) (fun _=>.inl rfl) (.inr ⟨_,J.toArray,_,hk,rfl,rfl,rfl,by rw[ax,Z];exact hl,by simpa using rv⟩) (fun b u z=>by have z':(none:Option HO)=some u:=z;cases z') (fun b z=>absurd rfl z) fun z=>absurd rfl z
 | none =>
  refine core (fun b=>if b=a then some (.frz { cls:=.type "list",data:=.seq J.toArray } (.lst (ns.map V.int))) else none) (fun b=>?_) (.inl (.inr ⟨{ cls:=.type "list",data:=.seq J.toArray },if_pos rfl⟩)) (fun b u z=>?_) (fun b z=>?_) fun _=>hk
  ·by_cases G:b=a
   ·exact .inr ⟨_,_,if_pos G⟩
   ·exact .inl (if_neg G)
  ·by_cases G:b=a
   ·have z':=(if_pos G).symm.trans z;cases z';subst G;exact⟨ha,by rw[aL];exact hl,J,_,rv,ha⟩
   ·have z':=(if_neg G).symm.trans z;cases z'
  ·by_cases G:b=a
   ·exact G
   ·exact absurd (if_neg G) z
def Qu(s:dD):Arguments:=match s with
 | .FunctionDef _ a _ _ _ _ _ _ _ _=>a
 | _=>{ posonlyargs:=[],args:=[],vararg:=none,kwonlyargs:=[],kw_defaults:=[],kwarg:=none,defaults:=[] }
def J3(s:dD):List dD:=match s with
 | .FunctionDef _ _ b _ _ _ _ _ _ _=>b
 | _=>[]
def JH(s:dD):fv:=match s with
 | .FunctionDef _ _ _ _ _ _ sc _ _ _=>sc
 | _=>{ kind:=.function,names:=[],isGenerator:=false,isCoroutine:=false }
abbrev CX0:CXT:=fun _ _ _ _ _ _=>False
abbrev E0:XK:=fun _ _ _=>False
theorem zvI{X:Cx}:Z2 CX0 X E0:=fun _ _ _ _ _ _ _ h=>h.elim
structure Fun(K:qF)(x qual:Str)(st:dD)(f:aq)(fd:cP):Prop where
 ex:∃(oc:ah) (od:Option aq) (kV doc pm:ah) (an:Option aq) (cdv ct:ah) (osl:Array (Option ah)),
  fd=dm x qual (Qu st) (J3 st) (JH st) .none kV doc pm an cdv ct/\K.lookup f=some ⟨oc,od,.func fd,osl⟩/\gW K cdv qual=true
 kp:gV K (.ref f)=true
section
variable{P:aK}{w:aQ}{K:qF}{mg:qM}{base:aN}
theorem Fun.ok{x qual:Str}{st:dD}{f:aq}{fd:cP}{N ps:List Str}{k:Nat}{v:Sp}(F:Fun K x qual st f fd)(S:Q9 N ps (JH st))(len:∀u H Q E,v u H Q E->u.length=ps.length)
  (L:∀(l:ah) (A:br) (outer:List Env) (s:au) (H:Hp) (u:List V) (Q:VK) (E:XK),Room k (A.deeper (envOfC qual (JH st) s.heap.objs.size f l))->v u H Q E ->
   ∃t,PSs (cxOf CX0 P w K mg base N qual (JH st) f l A outer s H E).nox (J3 st) t/\t { nx:=fun _ R=>Q .non R,rt:=Q } (start N u) H):FnOk P w K mg base CX0 (k+1) f fd ps v:=by
 obtain⟨Y,U,kV,doc,pm,an,l,ct,I,rfl,J,y⟩:=F.ex;refine ztN J y S len fun A outer s H u Q E G C=>?_
 obtain⟨t,h,q⟩:=L l A outer s H u Q E G C;exact⟨t,h.nox,q⟩
theorem Fun.binds{x qual:Str}{st:dD}{f:aq}{fd:cP}{ps:List Str}(F:Fun K x qual st f fd)
  (h:∀(kV doc pm:ah) (an:Option aq) (u ct:ah) (v:List ah),v.length=ps.length->bindArgs (dm x qual (Qu st) (J3 st) (JH st) .none kV doc pm an u ct) ⟨v,[]⟩=pure (ps.zip v)):Binds K fd ps []:=by
 obtain⟨J,G,kV,doc,pm,an,u,ct,y,rfl,I,C⟩:=F.ex;exact .all (h kV doc pm an u ct)
theorem zoO{x qual:Str}{st:dD}{f:aq}{G:ah}{C an:Option aq}{y:Array (Option ah)}{kV doc pm v ct:ah}(l:K.lookup f=some ⟨G,C,.func (dm x qual (Qu st) (J3 st) (JH st) .none kV doc pm an v ct),y⟩)
  (c:gW K v qual=true) (k:gV K (.ref f)=true):Fun K x qual st f (dm x qual (Qu st) (J3 st) (JH st) .none kV doc pm an v ct):=⟨⟨G,C,kV,doc,pm,an,v,ct,y,rfl,l,c⟩,k⟩
end
section
variable{X:Cx}
theorem pv(i:Nat){x:Str}{pos:Pos}(v:X.N[i]?=some x:=by rfl)(u:Vis X.env.scope x:=by walk_at "V")(hd:(x == ("__debug__":Str))=false:=by decide)
  (l:(x == ("__classdict__":Str))=false:=by decide):PE X (.Name x pos) (tVar i):=QX v u hd l
end
theorem iteF{A B:Prop}(h:B):if false=true then A else B:=by
 rw[if_neg aW];exact h
theorem iteT{A B:Prop}(h:A):if true=true then A else B:=by
 rw[if_pos rfl];exact h
def Same(H l:Hp):Prop:=∀b o,H b=some o->l b=some o
theorem Same.refl(H:Hp):Same H H:=fun _ _ h=>h
def closed(env:Env):List (Str×eJ)->List (Str×aq)->List (Str×aq)
 | [],acc=>acc
 | (n,k)::r,acc=>closed env r (if (k == .free)=true then(n,(env.cells.lookup n).getD 0)::acc else acc)
theorem zeE{env:Env}:∀(l:List (Str×eJ)) (u:List (Str×aq)),(∀x∈l,x.2=.free->∃c,env.cells.lookup x.1=some c) ->
  (forIn l u fun x __s=>if (x.snd == cw)=true then do
    let c <- cellOf env x.fst
    pure (cm ((x.fst,c)::__s))
   else pure (cm __s):Sem (List (Str×aq)))=pure (closed env l u)
 | [],u,_=>rfl
 | (n,k)::r,u,h=>by
  have C:=fun a=>zeE (env:=env) r a fun x hx=>h x (cJ _ hx)
  rw[iH]
  by_cases e:(k == cw)=true
  ·obtain⟨c,hc⟩:=h (n,k) c8 (by simpa using e)
   have v:uS n env.cells=some c:=hc;have G:cellOf env n=pure c:=by unfold cellOf;rw[v]
   simp only[e,if_true,G,pure_bind];rw[C]
   conv=>rhs;unfold closed
   simp only[e,if_true,v,cM]
  ·have y:(k == cw)=false:=by simpa using e
   simp only[y,aI,if_false,pure_bind];rw[C]
   conv=>rhs;unfold closed
   simp only[y,aI,if_false]
theorem zbg{scope:fv}{env:Env}(h:∀x∈scope.names,x.2=.free->∃c,env.cells.lookup x.1=some c):closureFor scope env=pure (closed env scope.names []):=by
 simp only[closureFor];rw[zeE scope.names [] h]
 rfl
theorem VP{env:Env}:∀(l:List (Str×eJ)) (v:List (Str×aq)),(∀x∈l,x.2=.free->∃c,env.cells.lookup x.1=some c) ->
  (∀x c,v.lookup x=some c->env.cells.lookup x=some c)->∀x c,(closed env l v).lookup x=some c->env.cells.lookup x=some c
 | [],v,_,ha=>ha
 | (n,k)::r,v,h,ha=>by
  unfold closed;refine VP r _ (fun x hx=>h x (cJ _ hx)) fun x c=>?_
  by_cases e:(k == cw)=true
  ·obtain⟨d,hd⟩:=h (n,k) c8 (by simpa using e)
   have y:uS n env.cells=some d:=hd;simp only[e,if_true,y,cM];intro q;rw[cN]at q
   by_cases ex:(x == n)=true
   ·simp only[ex]at q;have G:x=n:=by simpa using ex
    cases q;rw[G];exact y
   ·have C:(x == n)=false:=by simpa using ex
    simp only[C]at q;exact ha x c q
  ·have I:(k == cw)=false:=by simpa using e
   simp only[I,aI,if_false];exact ha x c
theorem zfk{env:Env}:∀(l:List (Str×eJ)) (v:List (Str×aq)) (x:Str),(∃c,v.lookup x=some c)->∃c,(closed env l v).lookup x=some c
 | [],_,_,h=>h
 | (n,k)::r,v,x,h=>by
  unfold closed;refine zfk r _ x ?_
  by_cases e:(k == cw)=true
  ·simp only[e,if_true];rw[cN];cases(x == n) with
   | true=>exact⟨_,rfl⟩
   | false=>exact h
  ·have y:(k == cw)=false:=by simpa using e
   simp only[y,aI,if_false];exact h
theorem zde{env:Env}:∀(l:List (Str×eJ)) (v:List (Str×aq)) (x:Str),(x,cw)∈l->∃c,(closed env l v).lookup x=some c
 | [],_,_,h=>nomatch h
 | (n,k)::r,v,x,h=>by
  unfold closed;rcases aw.mp h with e|h
  ·cases e;refine zfk r _ _ ?_;have y:(cw == cw)=true:=rfl;simp only[y,if_true];rw[cN];simp
  ·exact zde r _ x h
theorem lookup_mem{α:Type}{l:List (Str×α)}{x:Str}{v:α}(h:l.lookup x=some v):(x,v)∈l:=by
 induction l with
 | nil=>simp at h
 | cons p r y =>
  obtain⟨n,w⟩:=p;rw[cN]at h
  by_cases e:(x == n)=true
  ·simp only[e]at h;cases h;have u:x=n:=by simpa using e
   rw[u];exact c8
  ·have C:(x == n)=false:=by simpa using e
   simp only[C]at h;exact cJ _ (y h)
def Um(env:Env)(p:Str×eJ):Str×eJ:=if (p.2 == cw&&env.scope.kind == .function&&env.kindOf p.1 == some .cell)=true then(p.1,.cell) else p
theorem zkB(env:Env)(p:Str×eJ):(Um env p).1=p.1:=by
 unfold Um
 by_cases c:(p.2 == cw&&env.scope.kind == .function&&env.kindOf p.1 == some .cell)=true
 ·rw[if_pos c]
 ·rw[if_neg c]
def kin(env:Env)(x:Str):Option eJ->Option eJ
 | some .free=>if (env.scope.kind == .function&&env.kindOf x == some .cell)=true then some .cell else some .free
 | o=>o
theorem zkA(env:Env)(x:Str)(k:eJ):some (Um env (x,k)).2=kin env x (some k):=by
 unfold Um
 by_cases c:(k == cw&&env.scope.kind == .function&&env.kindOf x == some .cell)=true
 ·rw[if_pos c];rw[aG,aG]at c;have y:k=.free:=by simpa using c.1.1
  subst y;unfold kin;rw[if_pos (by rw[aG];exact⟨c.1.2,c.2⟩)]
 ·rw[if_neg c];cases k with
  | free =>
   have:¬(env.scope.kind == .function&&env.kindOf x == some .cell)=true:=fun z=>c (by
    have v:(cw == cw)=true:=rfl;rw[v,dN];exact z)
   unfold kin;rw[if_neg this]
  | _=>rfl
theorem zfu(scope:fv)(env:Env):(relabel scope env).names=scope.names.map (Um env):=by
 show scope.names.map _=_
 refine iN fun p _=>?_
 obtain⟨n,k⟩:=p
 rfl
theorem ze0(env:Env):∀(l:List (Str×eJ)) (x:Str),(l.map (Um env)).lookup x=kin env x (l.lookup x)
 | [],_=>rfl
 | (n,k)::r,x=>by
  have C:=ze0 env r x;have v:Um env (n,k)=(n,(Um env (n,k)).2):=kc (zkB env (n,k)) rfl;rw[bZ,v,cN,cN]
  by_cases e:(x == n)=true
  ·have y:x=n:=by simpa using e
   subst y;simp only[beq_self_eq_true];exact zkA env x k
  ·have G:(x == n)=false:=by simpa using e
   simp only[G];exact C
theorem zdg(scope:fv)(env:Env)(x:Str):(relabel scope env).names.lookup x=kin env x (scope.names.lookup x):=by
 rw[zfu];exact ze0 env _ x
abbrev capN(X:Cx)(capt:List Nat):List Str:=capt.map fun i=>X.N.getD i iW
abbrev capS(capt:List Nat)(σ:St):St:=capt.map fun i=>σ.getD i none
abbrev Jy(own:List Str):St:=own.map fun _=>none
abbrev Jg(X:Cx)(scope:fv)(own:List Str)(capt:List Nat)(C:aq)(s₀:au)(H₀:Hp)(fp:List aq):Cx :=
 { X with N:=own++capN X capt,s₀:=s₀,H₀:=H₀,env:=compEnvC scope (closed X.env scope.names []) C X.env,outer:=X.stack,stack:=X.stack,ex:=fp,fn:=fun _=>false,pn:=[],xe:=fun _ _=>False }
structure JK(scope:fv)(own:List Str)(capt:List Nat)(X:Cx):Prop where
 kind:scope.kind=.function
 nocell:∀y∈scope.names,y.2≠.cell
 names:∀y∈scope.names,y.2=.local->scope.names.lookup y.1=some .local
 frees:∀y∈scope.names,y.2=.free->X.env.kindOf y.1=some .cell\/X.env.kindOf y.1=some .free
 caps:∀k∈capt,scope.names.lookup (X.N.getD k iW)=some .free
theorem getD_some{α:Type}{l:List (Option α)}{k:Nat}{v:α}(h:l.getD k none=some v):l[k]?=some (some v):=by
 rw[ba]at h;cases e:l[k]? with
 | none=>rw[e]at h;cases h
 | some o=>rw[e]at h;simp at h;rw[h]
section
variable{X:Cx}{scope:fv}{own:List Str}{capt:List Nat}
theorem JK.cells(S:JK scope own capt X)(ok:X.Ok):∀x∈scope.names,x.2=.free->∃c,X.env.cells.lookup x.1=some c:=fun x hx hf=>ok.has x.1 (S.frees x hx hf)
theorem zqL{pins:qO}{σ:St}{H₀:Hp}{s₀:au}{C:aq}{L:List aq}(S:JK scope own capt X)(I:Inv X pins σ H₀ s₀)(hf:∀b∈L,FpOk X pins H₀ b)(J:∀b∈L,b<s₀.heap.objs.size)(U:s₀.heap.objs.size<=C) :
  (Jg X scope own capt C s₀ H₀ L).Ok:=by
 have sub:=VP scope.names [] (S.cells I.ok) (fun x c h=>nomatch (show(none:Option aq)=some c from h))
 refine⟨I.ok.mod,S.kind,I.ok.glob,I.ok.blt,U,fun x y c Y Z=>I.ok.inj x y c (sub x c Y) (sub y c Z),fun x hk=>?_,fun x c z=>absurd (show false=true from z) aW,I.ok.hd,I.ok.frames,.inl rfl,fun b G=>?_,I.bs,cf I.ok.bsz I.sz,fun b o e G=>?_,fun b G z=>?_,I.stack,I.stkFree⟩
 ·have e:=zdg scope X.env x;have v:(relabel scope X.env).names.lookup x=some .cell\/(relabel scope X.env).names.lookup x=some .free:=hk;rw[e]at v;cases q:scope.names.lookup x with
  | none=>rw[q]at v;rcases v with z|z <;> cases z
  | some k =>
   rw[q]at v;cases k with
   | free=>exact zde scope.names [] x (lookup_mem q)
   | cell=>exact absurd rfl (S.nocell _ (lookup_mem q))
   | _=>rcases v with z|z <;> cases z
 ·obtain⟨f0,f1,f2,N,f4,R⟩:=hf b G;exact⟨aF (aD (J b G) U),fun x c e=>f4 x c (sub x c e)⟩
 ·obtain⟨f0,f1,f2,N,f4,R⟩:=hf b G;rcases N with z|z
  ·exact I.ok.noex b o e z
  ·exact absurd (aD (ay (I.ok.bs b o e).1) z) (fL _)
 ·obtain⟨f0,f1,f2,N,f4,R⟩:=hf b G;rcases aw.mp (I.stkSub b z) with q|q
  ·exact f1 q
  ·exact f2 q
theorem zmg{J:HO}{pins:qO}{σ:St}{H₀:Hp}{s₀:au}{fp:List aq}{h':aN}{D C:aq}{tk:Nat}(S:JK scope own capt X)(I:Inv X pins σ H₀ s₀)(hf:∀b∈fp,FpOk X pins H₀ b)(hfp:∀b∈fp,b<s₀.heap.objs.size)
  (hD:s₀.heap.objs.size<=D) (hC:s₀.heap.objs.size<=C) (hDC:D≠C) (old:∀b o,s₀.heap.get? b=some o->h'.get? b=some o) (hns:h'.Ns C (fun _=>none)) (R:JL X.prog X.w (upd H₀ D J) h' D J) :
  Inv (Jg X scope own capt C s₀ H₀ fp) [] (Jy own++capS capt σ) (upd H₀ D J) { s₀ with heap:=h',toks:=tk }:=by
 have ok:=zqL S I hf hfp hC;have sub:=VP scope.names [] (S.cells I.ok) (fun x c h=>nomatch (show(none:Option aq)=some c from h))
 have hn:H₀ D=none:=I.hok.fresh hD;refine⟨ok,rfl,I.bare,Un.laid old hD hn,⟨_,hns,fun i x v e1 L e3=>?_⟩,fun x c e=>?_,?_,fun x c e=>?_,fun p hp=>absurd (show p∈([]:qO) from hp) (by simp),I.hok.laid (o:=J) old hD R,(by show(Jy own++capS capt σ).length=(own++capN X capt).length;simp[Jy,capS,capN])⟩
 ·have N:(Jy own).length=own.length:=aL ..
  by_cases hi:i<own.length
  ·rw[cz (by rw[N];exact hi)]at L
   unfold Jy at L;rw[aV]at L;cases q:own[i]? with
   | none=>rw[q]at L;cases L
   | some z=>rw[q]at L;cases L
  ·have Y:own.length<=i:=om hi;have G:(own++capN X capt)[i]?=some x:=e1;rw[cK Y]at G;rw[cK (by rw[N];exact Y),N]at L
   unfold capN at G;unfold capS at L;rw[aV]at G L;cases q:capt[i - own.length]? with
   | none=>rw[q]at G;cases G
   | some k =>
    rw[q]at G L;have ex:X.N.getD k iW=x:=aM G;have ev:σ.getD k none=some v:=aM L;have hk:k∈capt:=aR q;have hv:=getD_some ev;have Z:k<X.N.length:=by
     rw[<- I.len];exact(av.mp hv).1
    have hx:X.N[k]?=some x:=by
     rw[ba,aJ Z]at ex;rw[aJ Z];exact congrArg some ex
    have Ij:=S.caps k hk;rw[ex]at Ij;have ID:=S.frees _ (lookup_mem Ij) rfl;obtain⟨m,hm,hl⟩:=I.loc;have vis:Vis X.env.scope x:=by
     rcases ID with z|z
     ·exact .inr (.inl z)
     ·exact .inr (.inr z)
    obtain⟨u,r,l⟩:=hl k x v hx hv vis;refine⟨u,r,.inr ⟨?_,?_⟩⟩
    ·have e:=zdg scope X.env x;rw[Ij]at e;show(relabel scope X.env).names.lookup x=some .cell\/(relabel scope X.env).names.lookup x=some .free
     rw[e];unfold kin
     by_cases c:(X.env.scope.kind == .function&&X.env.kindOf x == some .cell)=true
     ·rw[if_pos c];exact .inl rfl
     ·rw[if_neg c];exact .inr rfl
    ·rcases l with⟨z,_⟩|⟨_,c,hc,U⟩
     ·rcases ID with y|y <;> (have y':X.env.kindOf x=_:=y;rw[z]at y';cases y')
     ·obtain⟨d,hd⟩:=zde (env:=X.env) scope.names [] x (lookup_mem Ij);have:=sub x d hd;rw[hc]at this;cases this;obtain⟨o,R,hod⟩:=U;exact⟨c,hd,o,old _ _ R,hod⟩
 ·obtain⟨v,o,R,hd⟩:=I.cell x c (sub x c e);exact⟨v,o,old _ _ R,hd⟩
 ·show upd H₀ D J C=none
  rw[Jo (gT hDC)];exact I.hok.fresh hC
 ·obtain⟨v,o,R,hd⟩:=I.cell x c (sub x c e);show upd H₀ D J c=none
  rw[Jo (aF (aD (ay R) hD))];exact I.freeC x c (sub x c e)
theorem zoh{pins:qO}{σ:St}{H₀:Hp}{s₀:au}{G:List aq}{h':aN}{D C:aq}{tk:Nat}(S:JK scope own capt X)(I:Inv X pins σ H₀ s₀)(hf:∀b∈G,FpOk X pins H₀ b)(v:∀b∈G,b<s₀.heap.objs.size)
  (J:s₀.heap.objs.size<=D) (L:s₀.heap.objs.size<=C) (u:D≠C) (old:∀b o,s₀.heap.get? b=some o->h'.get? b=some o) (x:h'.Ns C (fun _=>none)) (N:h'.get? D=some { cls:=.type "list",data:=.seq ([]:List ah).toArray 0 }) :
  Inv (Jg X scope own capt C s₀ H₀ G) [] (Jy own++capS capt σ) (upd H₀ D (.lst [])) { s₀ with heap:=h',toks:=tk }:=zmg S I hf v J L u old x ⟨eV _,[],0,.nil,N⟩
theorem zog{pins Y:qO}{σ σ':St}{H₀ x:Hp}{s₀ s':au}{R:List aq}{h'':aN}{C:aq}(I:Inv X pins σ H₀ s₀)(hf:∀b∈R,FpOk X pins H₀ b)(hC:s₀.heap.objs.size<=C)
  (J:Inv (Jg X scope own capt C s₀ H₀ R) Y σ' x s') (N:eu C s'.heap h''):Inv X pins σ x { s' with heap:=h'' }:=by
 have G:x C=none:=J.free;have l:∀b o,s₀.heap.get? b=some o->b≠C:=fun b o e=>aF (aD (ay e) hC)
 have u:Un (frs X.stack) R H₀ x s₀.heap s'.heap:=J.base;have u2:Un (frs X.stack) R H₀ x s₀.heap h'':=by
  refine⟨fun b o q n S L=>(N.2 b (l b o q)).trans (u.keep b o q n S L),fun b o q n S L=>?_,u.free,fun b o q L=>?_,u.tups,u.frzs,u.tbls⟩
  ·obtain⟨Z,e⟩:=u.slot b o q n S L;exact⟨Z,(N.2 b (l b o q)).trans e⟩
  ·obtain⟨o',e⟩:=u.there b o q L;exact⟨o',(N.2 b (l b o q)).trans e⟩
 have hok:HOk X.prog X.w x h'':=fun b ob e=>by
  refine(J.hok b ob e).stay (fun c v hc q=>(N.2 c ?_).trans q) (fun _ q=>q) (fun _ _ q=>q) fun _ _ _ q=>q
  rintro rfl;rcases hc with z|z
  ·subst z;rw[G]at e;cases e
  ·rw[G]at z;cases z
 refine I.call' (s':={ s' with heap:=h'' }) J.os u2 hok J.bare fun b U=>?_
 obtain⟨f0,f1,f2,f3,f4,f5⟩:=hf b U;exact⟨f3,f1,f4,f5⟩
end
def PTs(Y:Cx)(ifs:List aP)(t:TT):Prop :=
 ∀(pins:qO) (s:au) (σ:St) (H:Hp) (Q:Bool->Hp->Prop),Inv Y pins σ H s->t σ H Q ->
  wpAny (model Y.prog Y.w) Y.A (forIn ifs true fun c r=>if r=true then do let ok <- isTrue c Y.env (eval c Y.env);pure (cm ok) else pure (cm r)) (TP Y pins σ Q) Y.xe s
def tYes:TT:=fun _ H Q=>Q true H
theorem zpc{Y:Cx}:PTs Y [] tYes:=fun _ _ _ H _ I h=>wpAny_tests_nil ⟨H,I,h⟩
theorem zpb{Y:Cx}{c:aP}{t:TT}(h:PT Y c t):PTs Y [c] t:=fun pins s σ H Q I q=>wpAny_tests_one (h pins s σ H Q I q)
abbrev NoX:ah->au->Prop:=fun _ _=>False
theorem zj2{prog:aK}{w:aQ}{A:br}{R:mZ->au->Prop}{s:au}{elt target iter:aP}{ifs:List aP}{scope:fv}{pos:Pos}{it acc:ah}{env:Env}(I:Nat->au->Prop)
  (turn:∀n s,I n s->wpAny (model prog w) A (pyNext it) (fun r y=>match r with
   | none=>R (.ok .next) y
   | some v=>wpAny (model prog w) A (letOwnedTupleGo target it v) (fun _ Y=>wpAny (model prog w) A (assign target env v) (fun _ U =>
     wpAny (model prog w) A (forIn ifs true fun c r=>if r=true then do let ok <- isTrue c env (eval c env);pure (cm ok) else pure (cm r)) (fun ok G =>
      if ok=true then wpAny (model prog w) A (eval elt env) (fun x Z=>wpAny (model prog w) A (call (.builtin "list.append") [acc,x]) (fun _ J=>∃m,m<n/\I m J) NoX Z) NoX G
      else ∃m,m<n/\I m G) NoX U) NoX Y) NoX y) NoX s) (n:Nat) (h:I n s) :
  codeAny (model prog w) A (.compLoop (.ListComp elt [⟨target,iter,ifs,0⟩] scope pos) 0 it acc env) R s:=by
 refine nI rfl I (fun n s hI=>?_) n h
 show wpAny _ A ((compTurn (.ListComp elt [⟨target,iter,ifs,0⟩] scope pos) 0 it acc env).onRaise (fun x=>do noteFrame x env;theTreesLotGoes x)) _ _ s
 refine oI (cQ (E:=NoX) ?_ (fun _ _ q=>q) fun _ _ z=>cu z)
 rw[compTurn_list];refine aa (dM (aa (thn (turn n s hI) fun r y S=>?_)))
 cases r with
 | none=>exact aj S
 | some v =>
  refine aa (thn S fun _ Y h₂=>aa (thn h₂ fun _ U h₃=>aa (thn h₃ fun ok G N=>?_)))
  cases ok with
  | false=>exact aj ⟨rfl,N⟩
  | true =>
   refine aa (aa (thn N fun x Z h₅=>aa (thn h₅ fun _ J h₆=>?_)))
   exact aj (aj ⟨rfl,h₆⟩)
def Wk:St->St->Prop
 | [],[]=>True
 | none::r,_::r'=>Wk r r'
 | some v::r,o::r'=>o=some v/\Wk r r'
 | _,_=>False
theorem Wk.weak:∀{σ σ':St},Wk σ σ'->σ.length=σ'.length/\∀(i:Nat) v,σ[i]?=some (some v)->σ'[i]?=some (some v)
 | [],[],_=>⟨rfl,fun _ _ h=>by simp at h⟩
 | none::r,o::r',h=>by
  obtain⟨a,b⟩:=Wk.weak (σ:=r) (σ':=r') h;refine⟨by simp[a],fun i v e=>?_⟩
  cases i with
  | zero=>simp at e
  | succ i=>simpa using b i v (by simpa using e)
 | some w::r,o::r',h=>by
  obtain⟨h0,l⟩:o=some w/\Wk r r':=h;obtain⟨a,b⟩:=Wk.weak l;refine⟨by simp[a],fun i v e=>?_⟩
  cases i with
  | zero=>rw[h0];simpa using e
  | succ i=>simpa using b i v (by simpa using e)
 | none::_,[],h=>cu h
 | some _::_,[],h=>cu h
 | [],_::_,h=>cu h
def zqX(own:List Str)(capt:List Nat)(g:TG)(tt:TT)(U:TE)(σ:St)(J:It)(S:Hp)(D:aq)(Q:VK):Prop:=∃W:Nat->Nat->Hp->Prop,(∃m,W 0 m (upd S D (.lst [])))/\∀i m y,W i m y ->
 (J.stop i y/\Q (.ref D) y)\/(J.go i y/\∃(N:V->Hp->Prop) (L:Hp->Prop),(∀v I,N v I->∃ys,I D=some (.lst ys)/\ys.length<sizeLine/\∃C,C<m/\W (i+1) C (upd I D (.lst (ys++[v]))))/\(∀G,L G->∃C,C<m/\W (i+1) C G) /\
  ∀x R,J.yld i y x R->g x (Jy own++capS capt σ) R fun u Y=>Wk (Jy own++capS capt σ) u/\tt u Y fun b G=>if b=true then U u G N else L G)
def tComp(own:List Str)(capt:List Nat)(v:TI)(g:TG)(tt:TT)(u:TE):TE:=fun σ H Q=>v σ H fun J l=>∀D,l D=none->zqX own capt g tt u σ J l D Q
def CompI(Y:Cx)(pins:qO)(σ:St)(v:List aq)(u:Nat->aN->Prop)(W:Nat->Nat->Hp->Prop)(n:Nat)(s':au):Prop:=∃i l,Inv Y pins σ l s'/\u i s'.heap/\(∀b∈v,l b=none)/\W i n l
theorem zfp{Y:Cx}{tg:aP}{ifs:List aP}{g:TG}{tt:TT}(hxe:Y.xe=NoX)(hc:Y.calm=true)(hg:PG Y tg g)(ht:PTs Y ifs tt){pins:qO}{σ:St}{it:aq}{L:List aq}{tn:Nat->aN->Prop}{J:It}(T:Turn Y.prog Y.w Y.K tg J L it tn)
  (Ik:∀{H':Hp},(∀b∈L,H' b=none)->∀b∈L,FpOk Y pins H' b) {W:Nat->Nat->Hp->Prop} {n i:Nat} {s4:au} {N:Hp} {Dn AC:au->Prop} (I4:Inv Y pins σ N s4) (st4:tn i s4.heap) (fr4:∀b∈L,N b=none)
  (h:(J.stop i N/\∀s5,Inv Y pins σ N s5->Dn s5)\/(J.go i N/\∃(NT:St->Hp->Prop) (NF:Hp->Prop),(∀{p6 l C S},Inv Y (pins++p6) l C S->NT l C->(∀{s9 H9 y},Inv Y (pins++p6) l H9 s9->y<n->W (i+1) y H9->∃m,m<n/\CompI Y pins σ L tn W m s9)->AC S) /\
   (∀H5,NF H5->∃y,y<n/\W (i+1) y H5)/\∀x H3,J.yld i N x H3->g x σ H3 fun U H5=>Wk σ U/\tt U H5 fun b H6=>if b=true then NT U H6 else NF H6)) :
  wpAny (model Y.prog Y.w) Y.A (pyNext (.ref it)) (fun r I=>match r with
   | none=>Dn I
   | some v=>wpAny (model Y.prog Y.w) Y.A (letOwnedTupleGo tg (.ref it) v) (fun _ s₂=>wpAny (model Y.prog Y.w) Y.A (assign tg Y.env v) (fun _ s₃ =>
     wpAny (model Y.prog Y.w) Y.A (forIn ifs true fun c r=>if r=true then do let ok <- isTrue c Y.env (eval c Y.env);pure (cm ok) else pure (cm r)) (fun ok G =>
      if ok=true then AC G else ∃m,m<n/\CompI Y pins σ L tn W m G) NoX s₃) NoX s₂) NoX I) NoX s4:=by
 rcases h with⟨stop,dn⟩|⟨go,NT,NF,hT,hF,step⟩
 ·refine thn (T.done Y rfl rfl rfl hc i pins s4 _ N NoX I4 (Ik fr4) st4 stop) fun r s5 ⟨hr,I5⟩=>?_
  subst hr;exact dn s5 I5
 ·refine thn (T.item Y rfl rfl rfl hc i pins s4 _ N NoX I4 (Ik fr4) st4 go) fun r s5 ⟨u,hr,h5⟩=>?_
  subst hr;refine thn h5 fun _ s6 ⟨x,H6,I6,r6,y6,R,fr6⟩=>?_
  have I6':=I6.pinned (Ik fr6) (T.obj _ _ R);have a1:=hg _ s6 _ H6 x u _ I6' r6 (step x H6 y6);rw[hxe]at a1;refine thn a1 fun _ s7 ⟨l,H7,I7,wk,q7⟩=>?_
  obtain⟨wl,wv⟩:=wk.weak;have again:∀{S:au} {C:Hp} {y:Nat},Inv Y (pins++Y3 L s6.heap) l C S->y<n->W (i+1) y C->∃m,m<n/\CompI Y pins σ L tn W m S:=fun {S C y} Z hm w8=>by
   refine⟨y,hm,i+1,C,(Z.unpinned).weak wl wv,T.keep _ _ _ R fun b hb o e=>(Z.pin (b,o) (bS _ (bS _ (VQ hb e)))).1,fun b hb=>?_,w8⟩
   obtain⟨o,e,d⟩:=T.obj _ _ R b hb;exact(Z.pin (b,o) (bS _ (bS _ (VQ hb e)))).2.1
  have a2:=ht _ s7 l H7 _ I7 q7;rw[hxe]at a2;refine thn a2 fun ok S ⟨C,Z,q8⟩=>?_
  cases ok with
  | false =>
   obtain⟨y,hm,w8⟩:=hF C (by simpa using q8)
   exact again Z hm w8
  | true=>exact hT Z (by simpa using q8) again
section
variable{X:Cx}{scope:fv}{own:List Str}{capt:List Nat}{elt tg iter:aP}{ifs:List aP}{pos:Pos}{wi:TI}{g:TG}{tt:TT}{te:TE}
theorem zmd(S:JK scope own capt X){pins:qO}{σ:St}{G:Hp}{s2:au}{u:List aq}{C:aq}(I:Inv X pins σ G s2)(f2:∀b∈u,FpOk X pins G b)(y:∀b∈u,b<s2.heap.objs.size)(L:s2.heap.objs.size<=C){J:Hp}(N:∀b∈u,J b=none):∀b∈u,FpOk (Jg X scope own capt C s2 G u) [] J b:=fun b v=>by
 obtain⟨Z,g1,g2,g3,U,Y⟩:=f2 b v;have sub:=VP scope.names [] (S.cells I.ok) (fun x c h=>nomatch (show(none:Option aq)=some c from h))
 refine⟨N b v,aF (aD (y b v) L),fun z=>?_,.inl v,fun x c e=>U x c (sub x c e),fun p R=>absurd (show p∈([]:qO) from R) (by simp)⟩
 rcases aw.mp (I.stkSub b z) with q|q
 ·exact g1 q
 ·exact g2 q
theorem zhw(S:JK scope own capt X){pins:qO}{σ:St}{R:It->Hp->Prop}{Y:ah}{s2:au}{E:qV}{CA:ah->Env->au->Prop}(h2:PIE X pins σ tg R Y s2)
  (k:∀(it:aq) (G:List aq) (tn:Nat->aN->Prop) (J:It) (I:Hp) (D C:aq) (v:aN),Y=.ref it->Turn X.prog X.w X.K tg J G it tn->R J I->I D=none->tn 0 v->(∀b∈G,upd I D (.lst []) b=none) ->
   (∀tk,Inv (Jg X scope own capt C s2 I G) [] (Jy own++capS capt σ) (upd I D (.lst [])) { s2 with heap:=v,toks:=tk })->(∀{H':Hp},(∀b∈G,H' b=none)->∀b∈G,FpOk (Jg X scope own capt C s2 I G) [] H' b) ->
   (∀s5 H4,Inv (Jg X scope own capt C s2 I G) [] (Jy own++capS capt σ) H4 s5->(∃m,s5.heap.Ns C m)/\(∀h'',eu C s5.heap h''->Inv X pins σ H4 { s5 with heap:=h'' })/\H4 C=none/\FpOk X pins H4 C) ->
   CA (.ref D) (compEnvC scope (closed X.env scope.names []) C X.env) { s2 with heap:=v }) :
  wpAny (model X.prog X.w) X.A (newList []) (fun acc s₃=>wpAny (model X.prog X.w) X.A (newFunctionEnv scope X.env.globals (closed X.env scope.names []) [] X.env.qual none .none (some X.env)) (fun N s₄=>CA acc { N with scope:=relabel scope X.env } s₄) E s₃) E s2:=by
 obtain⟨it,G,tn,J,I,e,I2,T,st2,f2,rd⟩:=h2;have L:∀b∈G,b<s2.heap.objs.size:=fun b Z=>by
  obtain⟨o,e,_⟩:=T.obj 0 _ st2 b Z;exact ay e
 refine cR (wpAny_newFunctionEnv S.nocell (by intro y hy;simp at hy) (fun v x u=>?_) S.kind)
 dsimp only at x u ⊢;generalize hH3:s2.heap.push { cls:=.type "list",dict:=none,data:=.seq ([]:List ah).toArray }=H3 at x u ⊢;have hC:H3.objs.size=s2.heap.objs.size+1:=by rw[<- hH3,cV]
 have U:s2.heap.objs.size≠H3.objs.size:=by rw[hC];exact aF (Nat.lt_succ_self _)
 have Iz:s2.heap.objs.size<=H3.objs.size:=by rw[hC];exact kF _
 have neC:∀b o,s2.heap.get? b=some o->b≠H3.objs.size:=fun b o e=>aF (aD (ay e) Iz)
 have old:∀b o,s2.heap.get? b=some o->v.get? b=some o:=fun b o e=>u.extBut b o (neC b o e) (ak _ (hH3▸ak _ e))
 have IJ:v.get? s2.heap.objs.size=some { cls:=.type "list",data:=.seq ([]:List ah).toArray 0 }:=u.extBut _ _ U (ak _ (hH3▸az _ rfl));refine k it G tn J I s2.heap.objs.size H3.objs.size v e T rd (I2.hok.fresh (aA _)) (T.keep _ _ _ st2 fun b Z o e=>old b o e) (fun b Z=>by rw[Jo (aF (L b Z))];exact(f2 b Z).1)
  (fun tk=>zoh (tk:=tk) S I2 f2 L (aA _) Iz U old x IJ) (zmd S I2 f2 L Iz) (fun s5 H4 I5=>?_)
 obtain⟨m,hn,_⟩:=I5.loc;exact⟨⟨m,hn⟩,fun h'' sb=>zog I2 f2 Iz I5 sb,I5.free,I2.fpOk Iz I5.free⟩
theorem zjq(hc:X.calm=true)(S:JK scope own capt X)
  (hg:∀C s₀ H₀ R,PG (Jg X scope own capt C s₀ H₀ R) tg g) (ht:∀C s₀ H₀ R,PTs (Jg X scope own capt C s₀ H₀ R) ifs tt) (he:∀C s₀ H₀ R,PE (Jg X scope own capt C s₀ H₀ R) elt te)
  {pins:qO} {σ:St} {Q:VK} {U:ah} {s2:au} {E:qV} {RR:ah->aq->mZ->au->Prop}
  (h2:PIE X pins σ tg (fun J H1=>∀D,H1 D=none->zqX own capt g tt te σ J H1 D Q) U s2)
  (hR:∀D C s' Z,(∃m,s'.heap.Ns C m)->(∀h'',eu C s'.heap h''->Inv X pins σ Z { s' with heap:=h'' })->Z C=none->FpOk X pins Z C->Q (.ref D) Z->RR (.ref D) C (.ok .next) s') :
  wpAny (model X.prog X.w) X.A (newList []) (fun G s₃=>wpAny (model X.prog X.w) X.A (newFunctionEnv scope X.env.globals (closed X.env scope.names []) [] X.env.qual none .none (some X.env)) (fun u I =>
   codeAny (model X.prog X.w) X.A (.compStart (.ListComp elt [⟨tg,iter,ifs,0⟩] scope pos) 0 U G { u with scope:=relabel scope X.env }) (RR G u.locals) I) E s₃) E s2:=by
 refine zhw (CA:=fun G u I=>codeAny (model X.prog X.w) X.A (.compStart (.ListComp elt [⟨tg,iter,ifs,0⟩] scope pos) 0 U G u) (RR G u.locals) I) S h2 fun it R tn J H2 D C h₁ e T rd hnD st1 fr0 J0 Ik out=>?_
 subst e;obtain⟨W,⟨m0,w0⟩,turn⟩:=rd _ hnD;have loop:∀tk:Tok,codeAny (model X.prog X.w) X.A (.compLoop (.ListComp elt [⟨tg,iter,ifs,0⟩] scope pos) 0 (.ref it) (.ref D) (compEnvC scope (closed X.env scope.names []) C X.env)) (RR (.ref D) C) { s2 with heap:=h₁,toks:=tk }:=fun tk=>by
  refine zj2 (CompI (Jg X scope own capt C s2 H2 R) [] (Jy own++capS capt σ) R tn W) ?_ m0 ⟨0,_,J0 tk,st1,fr0,w0⟩;rintro n s4 ⟨i,H4,I4,st4,fr4,w4⟩;refine zfp (Y:=Jg X scope own capt C s2 H2 R) rfl hc (hg _ _ _ _) (ht _ _ _ _) T Ik I4 st4 fr4 ?_;rcases turn i n H4 w4 with⟨stop,qn⟩|⟨go,N,N',hN,hN',step⟩
  ·exact .inl ⟨stop,fun s5 I5=>let ⟨o1,o2,o3,o4⟩:=out s5 H4 I5;hR _ _ s5 H4 o1 o2 o3 o4 qn⟩
  ·refine .inr ⟨go,fun σ4 H5=>te σ4 H5 N,N',fun {p6 σ7 H8 s8} I8 q8 again=>?_,hN',step⟩
   refine thn (he _ _ _ _ _ s8 σ7 H8 N I8 q8) fun y s9 ⟨v,H9,I9,r9,q9⟩=>?_
   obtain⟨ys,hD,hl,m',hm,w9⟩:=hN v H9 q9;refine thn (zec (X:=Jg X scope own capt C s2 H2 R) _ s9 σ7 H9 (.ref D) [v] _ [y] (fun _ Z=>Z=upd H9 D (.lst (ys++[v]))) I9 rfl (.cons r9 .nil) ⟨_,ys,v,rfl,rfl,hD,hl,rfl⟩) fun _ s10 ⟨_,H10,I10,_,q10⟩=>?_
   subst q10;exact again I10 hm w9
 exact lJ (loop _) (T.self X.A 0 _ _ _ st1 (loop _))
theorem znp(hc:X.calm=true)(S:JK scope own capt X)(hi:PI X tg iter wi)
  (N:∀C s₀ H₀ l,PG (Jg X scope own capt C s₀ H₀ l) tg g) (ht:∀C s₀ H₀ l,PTs (Jg X scope own capt C s₀ H₀ l) ifs tt) (U:∀C s₀ H₀ l,PE (Jg X scope own capt C s₀ H₀ l) elt te)
  (hs:∀x,foldedSetIterable iter X.env x=pure x:=by intro _;rfl):PE X (.ListComp elt [⟨tg,iter,ifs,0⟩] scope pos) (tComp own capt wi g tt te):=by
 intro pins s σ H Q I h;rw[eval_ListComp];refine gG (use:=none) rfl hs (zbg (S.cells I.ok)) S.kind S.names (thn (hi pins s σ H _ I h) fun v s1 Y=>thn Y fun R s2 Z=>?_)
 refine zjq (RR:=fun u C=>compPost (model X.prog X.w) X.A X.xe none (EP X pins σ Q) u C) hc S N ht U Z fun D C s' H' y J _ _ q=>?_
 obtain⟨m,y⟩:=y;exact⟨m,y,fun h'' G=>⟨.ref D,H',J h'' G,rfl,q⟩⟩
theorem zkE(hc:X.calm=true)(S:JK scope own capt X)(hi:PI X tg iter wi)
  (hg:∀C s₀ H₀ y,PG (Jg X scope own capt C s₀ H₀ y) tg g) (ht:∀C s₀ H₀ y,PTs (Jg X scope own capt C s₀ H₀ y) ifs tt) (he:∀C s₀ H₀ y,PE (Jg X scope own capt C s₀ H₀ y) elt te)
  {i:Nat} {x:Str} {u Iw:Pos} (hN:X.N.Nodup) (hxi:X.N[i]?=some x) (hx:Loc X.env.scope x)
  (hs:∀x,foldedSetIterable iter X.env x=pure x:=by intro _;rfl) (U:swapsWith (.ListComp elt [⟨tg,iter,ifs,0⟩] scope pos) (some (.Name x u)) Iw.line X.env=pure true:=by rfl)
  (hf:X.fn x=true\/X.env.scope.names.lookup x=some .local:=by walk_at "F") :
  PS X (.Assign [.Name x u] (.ListComp elt [⟨tg,iter,ifs,0⟩] scope pos) Iw) (tAsg (tComp own capt wi g tt te) (YT i)):=by
 intro pins s σ H D I h;rw[exec_Assign_Name_used _ _ _ _ U];refine aa (dM (aa ?_));show wpAny _ X.A (do let _ <- comprehension (.ListComp elt [⟨tg,iter,ifs,0⟩] scope pos) scope X.env _ (newList []) false (eval iter X.env) (some (assign (.Name x u) X.env))) _ _ s
 refine aa (cQ (gG (use:=some (assign (.Name x u) X.env)) (Q:=fun _ s'=>SP X pins D .next s') rfl hs (zbg (S.cells I.ok)) S.kind S.names (thn (hi pins s σ H _ I h) fun v s1 h1=>thn h1 fun itv s2 h2=>?_)) (fun _ s' hq=>aj (aj hq)) fun _ _ e=>e)
 refine zjq (RR:=fun acc C=>compPost (model X.prog X.w) X.A X.xe (some (assign (.Name x u) X.env)) (fun _ s'=>SP X pins D .next s') acc C) hc S hg ht he h2 fun D' C s' H' hn J hCn y q=>?_
 obtain⟨m,hn⟩:=hn;obtain⟨f0,f1,f2,f3,f4,f5⟩:=y;have Is:Inv X pins σ H' s':=J s'.heap (xx _ _);refine nu (zgc Is hN hxi hx (show RelV (.ref D') (.ref D') from rfl) (fun G R Y=>?_) hf)
 obtain⟨a,Y,ha⟩:=Y;have neA:C≠a:=by
  rcases ha with rfl|ha
  ·exact f1
  ·exact fun z=>f4 x a ha z.symm
 have Z:G.heap.Ns C m:=hn.sameBut Y neA;exact⟨m,Z,fun h' sb'=>⟨_,H',R.turned (t':=G.toks) (fun b o hb e=>(sb'.2 b hb).trans e) f0 f1 f3 f4 f5,q⟩⟩
end
theorem zmf{J:It}{n:Nat}{own:List Str}{capt:List Nat}{g:TG}{tt:TT}{N:TE}{σ:St}{L:Hp}{D:aq}{Q:VK}(C:Nat->List V->Hp->Prop)(h0:C 0 [] (upd L D (.lst [])))
  (turn:∀i ys u,i<n->u D=some (.lst ys)->C i ys u->J.go i u/\∀x S,J.yld i u x S->g x (Jy own++capS capt σ) S fun y U=>Wk (Jy own++capS capt σ) y/\tt y U fun b G =>
   if b=true then N y G (fun v I=>∃zs,I D=some (.lst zs)/\zs.length<sizeLine/\C (i+1) (zs++[v]) (upd I D (.lst (zs++[v])))) else ∃zs,G D=some (.lst zs)/\C (i+1) zs G)
  (stop:∀ys u,u D=some (.lst ys)->C n ys u->J.stop n u/\Q (.ref D) u) :
  zqX own capt g tt N σ J L D Q:=by
 refine⟨fun i m H=>m=n - i/\i<=n/\∃ys,H D=some (.lst ys)/\C i ys H,⟨n,rfl,eV _,[],JJ,h0⟩,?_⟩
 rintro i m u ⟨rfl,hi,ys,R,p⟩
 by_cases hlt:i<n
 ·obtain⟨go,st⟩:=turn i ys u hlt R p;refine .inr ⟨go,_,_,?_,?_,st⟩
  ·rintro v I ⟨zs,e,l,q⟩;exact⟨zs,e,l,n - (i+1),by omega,rfl,hlt,_,JJ,q⟩
  ·rintro G ⟨zs,e,q⟩;exact⟨n - (i+1),by omega,rfl,hlt,zs,e,q⟩
 ·have e:i=n:=by omega
  subst e;exact .inl (stop ys u R p)
def VU(scope outer:fv)(N:List Str)(capt:List Nat):Bool :=
 scope.kind == .function&&scope.names.all (fun y=>!(y.2 == .cell))&&scope.names.all (fun y=>!(y.2 == .local)||scope.names.lookup y.1 == some .local) &&
 scope.names.all (fun y=>!(y.2 == .free)||(outer.names.lookup y.1 == some .cell||outer.names.lookup y.1 == some .free))&&capt.all (fun k=>scope.names.lookup (N.getD k iW) == some .free)
theorem JK.of{X:Cx}{scope:fv}{own:List Str}{capt:List Nat}(h:VU scope X.env.scope X.N capt=true):JK scope own capt X:=by
 unfold VU at h;simp only[aG]at h;obtain⟨⟨⟨⟨J,C⟩,G⟩,v⟩,x⟩:=h;rw[bg]at C G v x;refine⟨by simpa using J,fun y u=>?_,fun y u I=>?_,fun y u hf=>?_,fun k L=>?_⟩
 ·simpa using C y u
 ·have:=G y u;rw[I]at this;simpa using this
 ·have:=v y u;rw[hf]at this;show X.env.scope.names.lookup y.1=some .cell\/X.env.scope.names.lookup y.1=some .free
  simpa using this
 ·simpa using x k L
section
variable{X:Cx}
theorem zsi:OpR X (compareOp .Is) (fun x y H Q=>∃a b,x=.bl a/\y=.bl b/\Q (.bl (a == b)) H):=by
 intro pins s σ H x y v u Q I C G h;obtain⟨a,b,rfl,rfl,q⟩:=h;cases C;cases G;exact is_bool ⟨.bl (a == b),H,I,rfl,q⟩
def kitB(t T:String):Option Bool:=if (bq t == bq T)=true then some true else if PySem.W.kitMeta T=true then(fastBuiltinMro t).map (·.contains (.type T)) else none
theorem Yk(K:qF)(t T:String):pI K (.type t) (.type T)=kitB t T:=rfl
inductive Ty (H:Hp):V->String->Prop where
 | non:Ty H .non "NoneType"
 | bl (x:Bool):Ty H (.bl x) "bool"
 | int (i:Int):Ty H (.int i) "int"
 | str (x:Str):Ty H (.str x) "str"
 | lst {a:aq} {xs:List V} (e:H a=some (.lst xs)):Ty H (.ref a) "list"
 | tup {a:aq} {xs:List V} (e:H a=some (.tup xs)):Ty H (.ref a) "tuple"
 | dK {a:aq} {kvs:List (Key×V)} (e:H a=some (.dK kvs)):Ty H (.ref a) "dict"
theorem Ty.of{K:qF}{H:Hp}{v:V}{t:String}(h:Ty H v t):TyOf K H v (.type t):=by
 cases h with
 | non=>exact .non
 | bl x=>exact .bl x
 | int i=>exact .int i
 | str x=>exact .str x
 | lst e=>exact .lst e
 | tup e=>exact .tup e
 | dK e=>exact .dK e
theorem Vz:bootBuiltins "isinstance" = some (.builtin "isinstance"):=by decide +kernel
theorem boot_int:bootBuiltins "int" = some (.type "int"):=by decide +kernel
theorem zj8:bootBuiltins "bool" = some (.type "bool"):=by decide +kernel
theorem QK:bootBuiltins "tuple" = some (.type "tuple"):=by decide +kernel
theorem zhI:bootBuiltins "str" = some (.type "str"):=by decide +kernel
theorem zeI:bootBuiltins "all" = some (.builtin "all"):=by decide +kernel
theorem VN:bootBuiltins "repr" = some (.builtin "repr"):=by decide +kernel
theorem QZ:bootBuiltins "min" = some (.builtin "min"):=by decide +kernel
theorem Yv:bootBuiltins "max" = some (.builtin "max"):=by decide +kernel
theorem Q8:bootBuiltins "len" = some (.builtin "len"):=by decide +kernel
theorem zhJ:∀{bs:List Bool}{u:List ah},Vals (bs.map V.bl) u->LSm.BoolsAre u bs
 | [],_,h=>by cases h;exact .nil
 | b::bs,_,h=>by
  cases h with
  | cons r t =>
   cases(show _=dY b from r)
   exact .cons b (zhJ t)
theorem zeF(hc:X.calm=true):JG X (.builtin "all") (fun xs H Q=>∃(a:aq) (bs:List Bool),xs=[.ref a]/\SqL X.K H a (bs.map V.bl)/\Q (.bl (bs.all id)) H):=by
 intro pins s σ H xs us Q I r h;obtain⟨a,bs,rfl,L,q⟩:=h;cases r with
 | cons N U =>
  cases U;cases(show _=bM a from N)
  obtain⟨x,Y,p,hz⟩:=I.list L;have G:=zhJ Y;have y:s.heap.IsList a x.toArray:=p.isList;have C:a<s.heap.objs.size:=by obtain⟨_,e,_⟩:=y;exact ay e
  refine call_all_walk (eT y ?_);refine⟨s.heap.objs.size,[s.heap.objs.size,a],[s.heap.objs.size],x.toArray.size,_,_,fun i=>(bs[i]?).getD true,rfl,pP (A:=X.A.in1) (I.ok.hd hc) _ a (aF C) x.toArray,
   ⟨⟨_,az _ rfl,rfl,rfl⟩,y.push _⟩,fun i v s' Z E' R J=>?_,fun h' tk S=>?_⟩
  ·obtain⟨b,e,rfl⟩:=G.get i v (by simpa using R)
   simp only[e,cM]at J;exact bz J
  ·have e:((dh x.toArray.size).all fun i=>(bs[i]?).getD true)=bs.all id:=by
    rw[ax,G.length];exact LSm.range_all bs
   rw[e];exact⟨.bl _,H,I.kept (mT S),rfl,q⟩
mutual
inductive UM (H:Hp):V->af->Prop
 | non:UM H .non .none
 | bl (b:Bool):UM H (.bl b) (.bool b)
 | int (i:Int):UM H (.int i) (.int i)
 | str (x:Str):UM H (.str x) (.str x)
 | lst {a:aq} {xs:List V} {ds:qD}:H a=some (.lst xs)->ZL H xs ds->UM H (.ref a) (.list ds)
 | tup {a:aq} {xs:List V} {ds:qD}:H a=some (.tup xs)->ZL H xs ds->UM H (.ref a) (.tuple ds)
inductive ZL (H:Hp):List V->List af->Prop
 | nil:ZL H [] []
 | cons {v:V} {vs:List V} {d:af} {ds:qD}:UM H v d->ZL H vs ds->ZL H (v::vs) (d::ds)
end
def Yw(i j:Int):Prop:=0<j/\j<2 ^ 128
theorem VF:OpR X (binaryOp .FloorDiv) (rI Yw fun i j=>.int (i / j)):=opI fun i j _ _ _ _ _ hc q=>by
 have y:(0:Int)<j:=hc.1;have C:j<2 ^ 128:=hc.2;refine floordiv_int (by omega) (by rw[i6 i (by omega)];exact q) (.inl (PyProof.noPylong_of_log2 ?_))
 have u:j.natAbs<2 ^ 128:=by omega
 have x:j.natAbs.log2<128:=(oJ (by omega)).mpr u
 omega
end
def Pl(X:Cx)(l:List aP):Prop:=∀pos,(backTo pos (starEach l X.env)).any (·.1)=false
def Hd(X:Cx):List aP->Prop
 | []=>True
 | e::r=>starEach (e::r) X.env=(false,eval e X.env)::starEach r X.env/\Pl X r
structure PB(X:Cx)(es:List aP)(t:TA):Prop where
 pa:PA X es t
 pl:Pl X es
 hd:Hd X es
section
variable{X:Cx}{es:List aP}{t:TA}{te:TE}
theorem Qg:PB X [] tNil:=⟨Q3,fun _=>rfl,trivial⟩
theorem JU(h:PE X e te)(l:PB X es t)(u:starEach (e::es) X.env=(false,eval e X.env)::starEach es X.env):PB X (e::es) (QD te t) :=
 ⟨Qn h l.pa u,fun pos=>by
  rw[u];have:(backTo pos ((false,eval e X.env)::starEach es X.env)).any (·.1)=(false||(backTo pos (starEach es X.env)).any (·.1)):=rfl
  rw[this,l.pl pos];rfl,u,l.pl⟩
theorem pb_i{j pos}(l:PB X es t):PB X (.Constant (.int i) j pos::es) (QD (tC (.int i)) t):=JU JE l rfl
theorem pb_v(i:Nat){x:Str}{pos:Pos}(u:PB X es t)(y:X.N[i]?=some x:=by rfl)(v:Vis X.env.scope x:=by walk_at "V")(hd:(x == ("__debug__":Str))=false:=by rfl)
  (l:(x == ("__classdict__":Str))=false:=by rfl):PB X (.Name x pos::es) (QD (tVar i) t):=JU (QX y v hd l) u rfl
theorem zhY(h:PE X (.Name x pos) te)(l:PB X es t):PB X (.Name x pos::es) (QD te t):=JU h l rfl
theorem zoC{a b c d}(h:PE X (.BinOp a b c d) te)(l:PB X es t):PB X (.BinOp a b c d::es) (QD te t):=JU h l rfl
theorem zr8{a b c d}(h:PE X (.Compare a b c d) te)(l:PB X es t):PB X (.Compare a b c d::es) (QD te t):=JU h l rfl
variable{e:aP}{x:Str}{p pos:Pos}
theorem zpj{x1}(h:PB X es t):PE X (.Tuple es x1 pos) (tTup t):=zoB h.pa
theorem zkL(h:PB X es t):PE X (.List es pos) (tLst t):=zr5 h.pa
theorem Uk{id:String}{r:List V->Hp->VK->Prop}(hc:JG X (.builtin id) r)(G:X.mg x=none)(y:bootBuiltins x=some (.builtin id))(h:PB X (e::es) t)(I:Gl X x:=by rfl)(J:x ≠ "__name__":=by decide) (v:(x == ("__debug__":Str))=false:=by rfl) :
  PE X (.Call (.Name x p) (e::es) [] pos) (tCB r t):=znt hc I G y h.pa J v h.hd.1 (h.hd.2 pos)
theorem ZQ(hc:JG X (.type T) r)(G:X.mg x=none)(v:bootBuiltins x=some (.type T))(h:PB X (e::es) t)(I:Gl X x:=by rfl)(J:x ≠ "__name__":=by decide) (u:(x == ("__debug__":Str))=false:=by rfl) :
  PE X (.Call (.Name x p) (e::es) [] pos) (tCB r t):=zkO hc I G v h.pa J u h.hd.1 (h.hd.2 pos)
end
end L2
namespace Bd
open PySem L2
structure Def(K:qF)(mg:qM)(x:Str)(st:dD)(ps:List Str)(f:aq)(fd:cP):Prop where
 F:Fun K x x st f fd
 b:Binds K fd ps []
 m:mg x=some (.ref f)
section
variable{X:Cx}{k:Nat}{f:aq}{fd:cP}{ps:List Str}{sp:Sp}{x:Str}{p pos:Pos}{e:aP}{es:List aP}{t:TA}{st:dD}
theorem zpl(D:Def X.K X.mg x st ps f fd)(G:FnOk X.prog X.w X.K X.mg X.base CX0 k f fd ps sp)(v:Room k X.A)(h:PB X (e::es) t)(y:Gl X x:=by rfl)
  (u:(x == ("__debug__":Str))=false:=by rfl):PE X (.Call (.Name x p) (e::es) [] pos) (zre sp [] E0 t):=zpn G v y D.m D.F.kp D.b .nil zvI h.pa u h.hd.1 (h.hd.2 pos)
theorem zrZ(u:X.mg x=none)(l:bootBuiltins x=some (.type T))(C:Gl X x:=by rfl)(v:x ≠ "__name__":=by decide) (hd:(x == ("__debug__":Str))=false:=by rfl):PE X (.Name x p) (tC (.ty T)) :=
 zpp C u l rfl v hd
end
theorem iteP{c A B:Prop}[Decidable c](hc:c)(h:A):if decide c=true then A else B:=by
 rw[decide_eq_true hc];exact iteT h
theorem iteN{c A B:Prop}[Decidable c](hc:¬c)(h:B):if decide c=true then A else B:=by
 rw[decide_eq_false hc];exact iteF h
theorem ztc{c A B:Prop}[Decidable c](l:c->A)(u:¬c->B):if decide c=true then A else B:=by
 by_cases h:c
 ·exact iteP h (l h)
 ·exact iteN h (u h)
theorem zeK{α:Type}{xs:List α}{k:Int}{v:α}(h0:0<=k)(h:xs[k.toNat]?=some v):atI xs k=some v:=by
 obtain⟨n,rfl⟩:=kZ h0;exact zqT h
theorem JA(k:Nat):(0:Int)<2 ^ k:=by
 have:(0:Nat)<2 ^ k:=Nat.two_pow_pos k;have e:((2 ^ k:Nat):Int)=(2:Int) ^ k:=by simp
 omega
theorem zkG(h:k<=64):(2:Int) ^ k<2 ^ 128:=by
 have:(2:Nat) ^ k<2 ^ 128:=Nat.pow_lt_pow_right (by decide) (by omega)
 have e:((2 ^ k:Nat):Int)=(2:Int) ^ k:=by simp
 omega
theorem Ys(h:k<=64):(2:Int) ^ k<=2 ^ 64:=by
 have:(2:Nat) ^ k<=2 ^ 64:=Nat.pow_le_pow_right (by decide) (by omega)
 have e:((2 ^ k:Nat):Int)=(2:Int) ^ k:=by simp
 omega
theorem zm4(h:H p=none):Same H (upd H p o):=fun b u e=>by
 rw[Jo (Qt e h)];exact e
end Bd
namespace L2
open PySem PySem.Spec PyProof.Rows
theorem zqU(k h:Nat):(k*2 ^ h) &&& (2 ^ h)=(k % 2)*2 ^ h:=by
 have l:k*2 ^ h=k <<< h:=(k8 k h).symm;have u:(2:Nat) ^ h=1 <<< h:=by rw[k8,uW]
 have v:(k &&& 1) <<< h=k <<< h &&& 1 <<< h:=Nat.shiftLeft_and_distrib;rw[l]
 conv=>lhs;rw[u]
 rw[<- v,Nat.and_one_is_mod,k8]
theorem zmW(h:Nat)(k0:0<=k):fh (k*2 ^ h) (2 ^ h)=if k % 2=0 then k*2 ^ h+2 ^ h else k*2 ^ h - 2 ^ h:=by
 obtain⟨n,rfl⟩:=kZ k0;have l:((2 ^ h:Nat):Int)=(2:Int) ^ h:=by simp
 have u:((n:Int)*2 ^ h)=((n*2 ^ h:Nat):Int):=by rw[Int.natCast_mul,l]
 rw[bitXor_and,u,<- l,bitAnd_pp (i5 _) (i5 _)];have v:((n*2 ^ h:Nat):Int).toNat &&& ((2 ^ h:Nat):Int).toNat=(n % 2)*2 ^ h:=by
  rw[fS,fS];exact zqU n h
 rw[v];rcases Nat.mod_two_eq_zero_or_one n with z|z
 ·have:((n:Int)) % 2=0:=by lia
  rw[if_pos this,z];simp
 ·have:¬((n:Int)) % 2=0:=by lia
  rw[if_neg this,z,uW];lia
def HAND:af:=.dict [(.none,.none)]
def SCR(ns:List Int):af:=.dict [(.none,.list (ns.map .int))]
def Z1(H:Hp)(hd:aq)(n:Int):Prop:=∃d m t:Int,H hd=some (.lst [.int d,.int m,.int t])/\0<=m/\m<2 ^ 62/\0<=t/\t<=n
def StT(K:qF)(a:aq)(xs:List V):Prop :=
 ∃(o:Obj) (l:Array ah) (n:Nat),K.lookup a=some o/\o.cls=.type "tuple" /\ o.data=.seq l n/\l.size<=sizeLine/\Vals xs l.toList/\o.dict=none
theorem StT.sq{K:qF}{H:Hp}{a:aq}{xs:List V}(h:StT K a xs):SqT K H a xs:=by
 obtain⟨o,l,n,x,C,y,u,v,_⟩:=h;exact .inr ⟨o,l,n,x,C,y,u,v⟩
def hsT(k:Int×Int):Int:=reduceHash (rJ [hashInt k.1,hashInt k.2])
def entZ(z:(Int×Int)×aq×V)(e:dG):Prop:=e.hash=hsT z.1/\e.key=.ref z.2.1/\RelV z.2.2 e.val
abbrev ZT:=List ((Int×Int)×aq×V)
def ZDO(a:aq)(zs:ZT)(v:Nat):HO:=.ext fun h=>(a == sysModules)=false/\zs.length<=sizeLine/\(zs.map (·.1)).Nodup/\∃o l,h.get? a=some o/\o.ExactDict/\o.data=.dict l v/\cZ entZ zs l.toList
abbrev KT2:=List ((Int×Int)×af)
def entI(z:Int×V)(e:dG):Prop:=e.hash=hashInt z.1/\(∃t,e.key=.int z.1 t)/\RelV z.2 e.val
def KDO(a:aq)(zs:List (Int×V))(v:Nat):HO:=.ext fun h=>(a == sysModules)=false/\zs.length<=sizeLine/\(zs.map (·.1)).Nodup/\∃o l,h.get? a=some o/\o.ExactDict/\o.data=.dict l v/\cZ entI zs l.toList
def blkT(k:Int×Int):af:=.tuple [.int k.1,.int k.2]
def zqv(l:List (Int×af)):List (af×af):=l.map fun q=>(.int q.1,q.2)
def Yb(l:KT2):List (af×af):=l.map fun q=>(blkT q.1,q.2)
def EXC(C:aq):af:=.dict [(.none,.int (C:Int))]
def EXO(a C:aq):HO:=.ext fun h=>∃o,h.get? a=some o/\o.cls=.ref C/\∃u,o.data=.fields u
mutual
inductive Rep (K:qF)(hd:Option aq)(O:aq->Prop)(H:Hp):V->af->Prop
 | non:Rep K hd O H .non .none
 | bl (b:Bool):Rep K hd O H (.bl b) (.bool b)
 | int (i:Int):Rep K hd O H (.int i) (.int i)
 | str (x:Str):Rep K hd O H (.str x) (.str x)
 | tup {a vs ds} (h:H a=some (.tup vs)) (o:¬O a) (r:Reps K hd O H vs ds):Rep K hd O H (.ref a) (.tuple ds)
 | tupS {a vs ds} (h:StT K a vs) (r:Reps K hd O H vs ds):Rep K hd O H (.ref a) (.tuple ds)
 | lst {a vs ds} (h:H a=some (.lst vs)) (o:¬O a) (r:Reps K hd O H vs ds):Rep K hd O H (.ref a) (.list ds)
 | dct {a ep} (h:H a=some (KDO a [] ep)) (o:¬O a):Rep K hd O H (.ref a) (.dict [])
 | dcK {a kvs ep ks ps} (h:H a=some (KDO a kvs ep)) (o:¬O a) (r:Yy K hd O H kvs ks) (e:ps=zqv ks):Rep K hd O H (.ref a) (.dict ps)
 | dcT {a zs ep ks ps} (h:H a=some (ZDO a zs ep)) (o:¬O a) (r:Qa K hd O H zs ks) (e:ps=Yb ks):Rep K hd O H (.ref a) (.dict ps)
 | hand {a} (h:hd=some a):Rep K hd O H (.ref a) HAND
 | scr {a ns} (h:Rd H a (.lst (ns.map V.int))) (o:¬O a):Rep K hd O H (.ref a) (SCR ns)
 | scrS {a} {ns:List Int} (h:∀H':Hp,SqL K H' a (ns.map V.int)):Rep K hd O H (.ref a) (SCR ns)
 | exc {a C} (h:H a=some (EXO a C)) (o:¬O a):Rep K hd O H (.ref a) (EXC C)
inductive Reps (K:qF)(hd:Option aq)(O:aq->Prop)(H:Hp):List V->List af->Prop
 | nil:Reps K hd O H [] []
 | cons {v d vs ds} (h:Rep K hd O H v d) (r:Reps K hd O H vs ds):Reps K hd O H (v::vs) (d::ds)
inductive Yy (K:qF)(hd:Option aq)(O:aq->Prop)(H:Hp):List (Int×V)->List (Int×af)->Prop
 | nil:Yy K hd O H [] []
 | cons {k v d kvs ks} (h:Rep K hd O H v d) (r:Yy K hd O H kvs ks):Yy K hd O H ((k,v)::kvs) ((k,d)::ks)
inductive Qa (K:qF)(hd:Option aq)(O:aq->Prop)(H:Hp):ZT->KT2->Prop
 | nil:Qa K hd O H [] []
 | cons {k q v d zs ks} (h:Rep K hd O H (.ref q) (.tuple [.int k.1,.int k.2])) (h2:Rep K hd O H v d) (r:Qa K hd O H zs ks):Qa K hd O H ((k,q,v)::zs) ((k,d)::ks)
end
section
variable{K:qF}{hd:Option aq}{O O':aq->Prop}{H H':Hp}
theorem Rep.mono(y:∀a o,H a=some o->O' a->O a)(C:∀a o,¬O a->H a=some o->H' a=some o)(q:Rep K hd O H v d):Rep K hd O' H' v d :=
 Rep.rec (motive_1:=fun v d _=>Rep K hd O' H' v d) (motive_2:=fun v d _=>Reps K hd O' H' v d) (motive_3:=fun v d _=>Yy K hd O' H' v d) (motive_4:=fun v d _=>Qa K hd O' H' v d)
  .non .bl .int .str (fun h o _ r=>.tup (C _ _ o h) (fun z=>o (y _ _ h z)) r) (fun h _ r=>.tupS h r) (fun h o _ r=>.lst (C _ _ o h) (fun z=>o (y _ _ h z)) r) (fun h o=>.dct (C _ _ o h) (fun z=>o (y _ _ h z))) (fun h o _ e r=>.dcK (C _ _ o h) (fun z=>o (y _ _ h z)) r e) (fun h o _ e r=>.dcT (C _ _ o h) (fun z=>o (y _ _ h z)) r e) .hand
  (fun h o=>h.elim (fun h=>.scr (.inl (C _ _ o h)) fun z=>o (y _ _ h z)) fun h=>h.elim fun u h=>.scr (.inr ⟨u,C _ _ o h⟩) fun z=>o (y _ _ h z)) .scrS (fun h o=>.exc (C _ _ o h) (fun z=>o (y _ _ h z)))
  .nil (fun _ _ h r=>.cons h r) .nil (fun _ _ h r=>.cons h r) .nil (fun _ _ _ h k r=>.cons h k r) q
theorem Reps.ind{P:List V->List af->Prop}(n:P [] [])(c:∀{v d vs ds},Rep K hd O H v d->Reps K hd O H vs ds->P vs ds->P (v::vs) (d::ds))(q:Reps K hd O H vs ds):P vs ds:=by
 refine Reps.rec (motive_1:=fun _ _ _=>True) (motive_2:=fun v d _=>P v d) (motive_3:=fun _ _ _=>True) (motive_4:=fun _ _ _=>True) ?_ ?_ ?_ ?_ ?_ ?_ ?_ ?_ ?_ ?_ ?_ ?_ ?_ ?_ n (fun h r _ i=>c h r i) ?_ ?_ ?_ ?_ q <;> intros <;> trivial
theorem Qa.ind{P:ZT->KT2->Prop}(n:P [] [])(c:∀{k q v d vs ds},Rep K hd O H (.ref q) (.tuple [.int k.1,.int k.2])->Rep K hd O H v d->Qa K hd O H vs ds->P vs ds->P ((k,q,v)::vs) ((k,d)::ds))(q:Qa K hd O H vs ds):P vs ds:=by
 refine Qa.rec (motive_1:=fun _ _ _=>True) (motive_4:=fun v d _=>P v d) (motive_2:=fun _ _ _=>True) (motive_3:=fun _ _ _=>True) ?_ ?_ ?_ ?_ ?_ ?_ ?_ ?_ ?_ ?_ ?_ ?_ ?_ ?_ ?_ ?_ ?_ ?_ n (fun h k r _ _ i=>c h k r i) q <;> intros <;> trivial
theorem Reps.mono(u:∀a o,H a=some o->O' a->O a)(v:∀a o,¬O a->H a=some o->H' a=some o)(q:Reps K hd O H vs ds):Reps K hd O' H' vs ds:=q.ind .nil fun h _ r=>.cons (h.mono u v) r
theorem Qa.mono(u:∀a o,H a=some o->O' a->O a)(v:∀a o,¬O a->H a=some o->H' a=some o)(q:Qa K hd O H vs ds):Qa K hd O' H' vs ds:=q.ind .nil fun h k _ r=>.cons (h.mono u v) (k.mono u v) r
theorem dict_noK(e:(l9,v)::r=zqv l):False:=by
 cases l with
 | nil=>cases e
 | cons q l=>cases e
theorem dict_noT(e:(l9,v)::r=Yb l):False:=by
 cases l with
 | nil=>cases e
 | cons q l=>cases e
theorem Reps.length(q:Reps K hd O H vs ds):vs.length=ds.length:=q.ind (P:=fun a b=>a.length=b.length) rfl fun _ _ e=>congrArg (·+1) e
theorem Reps.get{i:Nat}(q:Reps K hd O H l ds):ds[i]?=some d->∃v,l[i]?=some v/\Rep K hd O H v d :=
 q.ind (P:=fun l ds=>∀(i:Nat),ds[i]?=some d->∃v,l[i]?=some v/\Rep K hd O H v d) (fun _ e=>nomatch e) (fun {v _ _ _} h _ r i=>i.casesOn (fun e=>⟨v,rfl,aM e▸h⟩) fun i e=>r i e) i
theorem Reps.append(q:Reps K hd O H vs ds)(s:Reps K hd O H ws es):Reps K hd O H (vs++ws) (ds++es):=q.ind (P:=fun a b=>Reps K hd O H (a++ws) (b++es)) s fun h _ r=>.cons h r
theorem Reps.take(n:Nat)(q:Reps K hd O H u ds):Reps K hd O H (u.take n) (ds.take n) :=
 q.ind (P:=fun u ds=>∀n:Nat,Reps K hd O H (u.take n) (ds.take n)) (fun n=>by rw[sC,sC];exact .nil) (fun h _ r n=>n.casesOn .nil fun n=>.cons h (r n)) n
theorem Reps.drop(n:Nat)(q:Reps K hd O H u ds):Reps K hd O H (u.drop n) (ds.drop n) :=
 q.ind (P:=fun u ds=>∀n:Nat,Reps K hd O H (u.drop n) (ds.drop n)) (fun n=>by rw[sD,sD];exact .nil) (fun h k r n=>n.casesOn (.cons h k) fun n=>r n) n
theorem Reps.set{v d}(h:Rep K hd O H v d)(n:Nat)(q:Reps K hd O H u ds):Reps K hd O H (u.set n v) (ds.set n d) :=
 q.ind (P:=fun u ds=>∀n:Nat,Reps K hd O H (u.set n v) (ds.set n d)) (fun n=>.nil) (fun k s r n=>n.casesOn (.cons h s) fun n=>.cons k (r n)) n
theorem Rep.tupI(h:Rep K hd O H v (.tuple ds)):∃a x,v=.ref a/\SqT K H a x/\Reps K hd O H x ds:=by
 cases h with
 | tup h o r=>exact⟨_,_,rfl,.inl (.inl h),r⟩
 | tupS h r=>exact⟨_,_,rfl,h.sq,r⟩
theorem Rep.lstI(h:Rep K hd O H v (.list ds)):∃a u,v=.ref a/\H a=some (.lst u)/\¬O a/\Reps K hd O H u ds:=by
 cases h with
 | lst h o r=>exact⟨_,_,rfl,h,o,r⟩
theorem Rep.intI(h:Rep K hd O H v (.int i)):v=.int i:=by cases h;rfl
theorem Rep.blI(h:Rep K hd O H v (.bool b)):v=.bl b:=by cases h;rfl
theorem Rep.strI(h:Rep K hd O H v (.str x)):v=.str x:=by cases h;rfl
theorem Rep.nonI(h:Rep K hd O H v .none):v=.non:=by cases h;rfl
theorem Rep.handI(h:Rep K hd O H v HAND):∃a,v=.ref a/\hd=some a:=by
 generalize e:HAND=d at h;cases h with
 | hand h=>exact⟨_,rfl,h⟩
 | dct _ _=>cases e
 | dcK _ _ _ u=>cases e;exact(dict_noK u).elim
 | dcT _ _ _ u=>cases e;exact(dict_noT u).elim
 | scr _ _=>simp[HAND,SCR]at e
 | scrS _=>simp[HAND,SCR]at e
 | exc _ _=>simp[HAND,EXC]at e
 | _=>cases e
theorem Rep.scrI(h:Rep K hd O H v (SCR ns)):∃a,v=.ref a/\SqL K H a (ns.map V.int):=by
 generalize e:SCR ns=d at h;cases h with
 | hand h=>simp[HAND,SCR]at e
 | dct _ _=>cases e
 | dcK _ _ _ u=>cases e;exact(dict_noK u).elim
 | dcT _ _ _ u=>cases e;exact(dict_noT u).elim
 | @scr a ms h o =>
  have:ns=ms:=by
   have u:(ns.map bH)=ms.map bH:=by simpa[SCR] using e
   have:=congrArg (nJ fun x=>match x with|bH i=>i|_=>0) u
   simpa[cH,kG] using this
  subst this;exact⟨_,rfl,.inl h⟩
 | @scrS a ms h =>
  have:ns=ms:=by
   have u:(ns.map bH)=ms.map bH:=by simpa[SCR] using e
   have:=congrArg (nJ fun x=>match x with|bH i=>i|_=>0) u
   simpa[cH,kG] using this
  subst this;exact⟨_,rfl,h H⟩
 | exc _ _=>simp[SCR,EXC]at e
 | _=>cases e
end
mutual
def JS:af->Bool
 | .list _=>false
 | .tuple ts=>Zj ts
 | .dict [(.none,.none)]=>true
 | .dict _=>false
 | _=>true
def Zj:List af->Bool
 | []=>true
 | t::ts=>JS t&&Zj ts
end
section
variable{K:qF}{hd:Option aq}{O O':aq->Prop}{H:Hp}
theorem zpM(e:JS (.dict (zqv ks))=true):False:=by
 unfold JS at e;split at e
 ·rename_i h;cases h
 ·rename_i h;cases h
 ·rename_i h;exact dict_noK (lQ h).symm
 ·cases e
 ·rename_i h;exact h _ rfl
theorem zpL(e:JS (.dict (Yb ks))=true):False:=by
 unfold JS at e;split at e
 ·rename_i h;cases h
 ·rename_i h;cases h
 ·rename_i h;exact dict_noT (lQ h).symm
 ·cases e
 ·rename_i h;exact h _ rfl
def MutO(o:Option HO):Prop:=(∃xs,o=some (.lst xs))\/(∃u,o=some (.dK u))\/∃a zs v,o=some (ZDO a zs v)
theorem Rep.up(y:∀a,O a->MutO (H a))(q:Rep K hd O' H v d):JS d=true->Rep K hd O H v d:=by
 refine Rep.rec (motive_1:=fun v d _=>JS d=true->Rep K hd O H v d) (motive_2:=fun v d _=>Zj d=true->Reps K hd O H v d) (motive_3:=fun _ _ _=>True) (motive_4:=fun _ _ _=>True)
  (fun _=>.non) (fun b _=>.bl b) (fun b _=>.int b) (fun b _=>.str b) (fun h _ _ r e=>.tup h (fun z=>by rcases y _ z with⟨xs,q⟩|⟨xs,q⟩|⟨xs,zs,C,q⟩ <;> (rw[h]at q;cases q)) (r (by simpa[JS] using e))) (fun h _ r e=>.tupS h (r (by simpa[JS] using e)))
  (fun _ _ _ _ e=>by simp[JS]at e) (fun _ _ e=>by simp[JS]at e) (fun _ _ _ x _ e=>by subst x;exact(zpM e).elim) (fun _ _ _ x _ e=>by subst x;exact(zpL e).elim) (fun h _=>.hand h) (fun _ _ e=>by simp[SCR,JS]at e) (fun _ e=>by simp[SCR,JS]at e) (fun _ _ e=>by simp[EXC,JS]at e)
  (fun _=>.nil) (fun _ _ h r e=>by rw[Zj,aG]at e;exact .cons (h e.1) (r e.2)) trivial ?_ trivial ?_ q <;> intros <;> trivial
end
section
variable{X:Cx}{pins:qO}{σ:St}{H:Hp}{s:au}{hd:Option aq}{O:aq->Prop}
theorem Rep.reads(I:Inv X pins σ H s){u:ah}(q:Rep X.K hd O H v d):RelV v u->d.hasDict=false->∃C,Reads s.heap u d C:=by
 refine Rep.rec (motive_1:=fun v d _=>∀u,RelV v u->d.hasDict=false->∃C,Reads s.heap u d C) (motive_2:=fun v d _=>∀u,Vals v u->fT d=false->∃C,pR s.heap u d C) (motive_3:=fun _ _ _=>True) (motive_4:=fun _ _ _=>True)
  (fun _ r _=>by cases r;exact⟨_,.none⟩) (fun b _ r _=>by cases r;exact⟨_,.bool b⟩) (fun i _ r _=>by obtain⟨t,rfl⟩:=r;exact⟨_,.int i t⟩) (fun x _ r _=>by obtain⟨t,rfl⟩:=r;exact⟨_,.str x t⟩)
  (fun {_ vs _} h _ _ q _ r e=>?_) (fun {_ vs _} h _ q _ r e=>?_) (fun {_ vs _} h _ _ q _ r e=>?_) (fun _ _ _ _ e=>by simp[cD]at e) (fun _ _ _ _ _ _ _ e=>by simp[cD]at e) (fun _ _ _ _ _ _ _ e=>by simp[cD]at e)
  (fun _ _ _ e=>by simp[HAND,cD]at e) (fun _ _ _ _ e=>by simp[SCR,cD]at e) (fun _ _ _ e=>by simp[SCR,cD]at e) (fun _ _ _ _ e=>by simp[EXC,cD]at e)
  (fun _ r _=>by cases r;exact⟨_,.nil⟩) (fun _ _ h q _ r e=>?_) trivial (by intros;trivial) trivial (by intros;trivial) q u
 ·cases r;obtain⟨L,N,p,_⟩:=I.tuple (xs:=vs) (.inl (.inl h));obtain⟨o,J,hc,n,y⟩:=p;obtain⟨C,G⟩:=q _ N (by simpa[cD] using e)
  exact⟨_,.tuple J hc y (by simpa using G)⟩
 ·cases r;obtain⟨L,N,p,_⟩:=I.tuple (xs:=vs) h.sq;obtain⟨o,J,hc,n,y⟩:=p;obtain⟨C,G⟩:=q _ N (by simpa[cD] using e)
  exact⟨_,.tuple J hc y (by simpa using G)⟩
 ·cases r;obtain⟨L,N,p,_⟩:=I.list (xs:=vs) (.inl (.inl h));obtain⟨o,n,J,hc,_,y⟩:=p;obtain⟨C,G⟩:=q _ N (by simpa[cD] using e)
  exact⟨_,.list J hc y (by simpa using G)⟩
 ·cases r with
  | cons R S =>
   rw[fT,ma]at e;obtain⟨C,G⟩:=h _ R e.1;obtain⟨bs,U⟩:=q _ S e.2;exact⟨_,.cons G U⟩
theorem Reps.reads(I:Inv X pins σ H s){u:List ah}(q:Reps X.K hd O H x ds):Vals x u->fT ds=false->∃v,pR s.heap u ds v :=
 q.ind (P:=fun x ds=>∀u,Vals x u->fT ds=false->∃v,pR s.heap u ds v) (fun _ r _=>by cases r;exact⟨_,.nil⟩) (fun h _ q _ r e=>by
  cases r with
  | cons G J =>
   rw[fT,ma]at e;obtain⟨v,C⟩:=h.reads I G e.1;obtain⟨bs,y⟩:=q _ J e.2;exact⟨_,.cons C y⟩) u
end
inductive Cell where
 | val (d:af)
 | own (ds:qD)
 | dct (ks:List (Key×af))
 | rdo (ks:List (Key×af))
 | dtt (ks:KT2)
def Cell.mine:Cell->Bool
 | .val _=>false
 | .own _=>true
 | .dct _=>true
 | .rdo _=>false
 | .dtt _=>true
def UL(K:qF)(hd:Option aq)(O:aq->Prop)(H:Hp)(l:List (Key×V))(u:List (Key×af)):Prop:=cZ (fun(p:Key×V) (q:Key×af)=>p.1=q.1/\Rep K hd O H p.2 q.2) l u
theorem UL.mono{K:qF}{hd:Option aq}{O x:aq->Prop}{H u:Hp}(y:∀a o,H a=some o->x a->O a)(C:∀a o,¬O a->H a=some o->u a=some o){l:List (Key×V)}{v:List (Key×af)}(r:UL K hd O H l v):UL K hd x u l v :=
 Paired.mapP r fun _ _ z=>⟨z.1,z.2.mono y C⟩
abbrev En:=List (Option Cell)
structure Ctx where
 hd:Option aq
 ext:aq->Prop
def OwnS(l:En)(σ:St)(a:aq):Prop:=∃(i:Nat) (c:Cell),c.mine=true/\l[i]?=some (some c)/\σ[i]?=some (some (V.ref a))
def Own(C:Ctx)(l:En)(σ:St)(a:aq):Prop:=C.ext a\/OwnS l σ a
def Hn(hd:Option aq)(H:Hp)(n:Nat):Prop:=∀a,hd=some a->Z1 H a n
structure Stt(K:qF)(C:Ctx)(ρ:En)(σ:St)(H:Hp)(n:Nat):Prop where
 len:ρ.length=σ.length
 val:∀(i:Nat) (d:af),ρ[i]?=some (some (Cell.val d))->∃v,σ[i]?=some (some v)/\Rep K C.hd (Own C ρ σ) H v d
 own:∀(i:Nat) (ds:qD),ρ[i]?=some (some (Cell.own ds))->∃a vs,σ[i]?=some (some (V.ref a))/\H a=some (.lst vs)/\Reps K C.hd (Own C ρ σ) H vs ds/\¬C.ext a
 dct:∀(i:Nat) (ks:List (Key×af)),ρ[i]?=some (some (Cell.dct ks))->∃a kvs,σ[i]?=some (some (V.ref a))/\H a=some (.dK kvs)/\UL K C.hd (Own C ρ σ) H kvs ks/\¬C.ext a
 rdo:∀(i:Nat) (ks:List (Key×af)),ρ[i]?=some (some (Cell.rdo ks))->∃a kvs,σ[i]?=some (some (V.ref a))/\H a=some (.dK kvs)/\UL K C.hd (Own C ρ σ) H kvs ks/\C.ext a/\C.hd≠some a
 dtt:∀(i:Nat) (ks:KT2),ρ[i]?=some (some (Cell.dtt ks))->∃a zs ep,σ[i]?=some (some (V.ref a))/\H a=some (ZDO a zs ep)/\Qa K C.hd (Own C ρ σ) H zs ks/\¬C.ext a
 dif:∀(i j:Nat) (c e:Cell) (a:aq),c.mine=true->e.mine=true->ρ[i]?=some (some c)->ρ[j]?=some (some e)->σ[i]?=some (some (V.ref a))->σ[j]?=some (some (V.ref a))->i=j
 hnd:Hn C.hd H n
 ext:∀a,C.ext a->MutO (H a)
 hx:∀a,C.hd=some a->C.ext a
def ExtE(hd:Option aq)(H l:Hp):Prop:=∀a o,H a=some o->hd≠some a->l a=some o
theorem ExtE.refl:ExtE hd H H:=fun _ _ h _=>h
theorem ExtE.trans(a:ExtE hd H H1)(b:ExtE hd H1 H2):ExtE hd H H2:=fun c o h n=>b c o (a c o h n) n
theorem ExtE.new(h:H p=none):ExtE hd H (upd H p o):=fun b u e _=>by
 rw[Jo (Qt e h)];exact e
section
variable{K:qF}{C:Ctx}{ρ:En}{σ:St}{H H':Hp}{n n':Nat}
theorem MutO.ne(h:MutO o):o≠none:=by
 rcases h with⟨_,rfl⟩|⟨_,rfl⟩|⟨_,_,_,rfl⟩ <;> exact fun z=>by cases z
theorem Stt.at(S:Stt K C ρ σ H n){i:Nat}{c:Cell}(m:c.mine=true)(G:ρ[i]?=some (some c)):∃a:aq,σ[i]?=some (some (V.ref a))/\MutO (H a)/\¬C.ext a:=by
 cases c with
 | val d=>cases m
 | own ds =>
  obtain⟨a,I,v,x,_,u⟩:=S.own i ds G;exact⟨a,v,.inl ⟨_,x⟩,u⟩
 | dct y =>
  obtain⟨a,I,v,x,_,u⟩:=S.dct i y G;exact⟨a,v,.inr (.inl ⟨_,x⟩),u⟩
 | rdo y=>cases m
 | dtt y =>
  obtain⟨a,I,J,v,x,_,u⟩:=S.dtt i y G;exact⟨a,v,.inr (.inr ⟨_,_,_,x⟩),u⟩
theorem Stt.lst(S:Stt K C ρ σ H n){a:aq}(h:Own C ρ σ a):MutO (H a):=by
 rcases h with h|⟨i,c,m,u,x⟩
 ·exact S.ext a h
 ·obtain⟨b,l,v,_⟩:=S.at m u;rw[x]at l;cases l;exact v
theorem Stt.dom(S:Stt K C ρ σ H n)(h:Own C ρ σ a):H a≠none:=(S.lst h).ne
theorem Stt.free(S:Stt K C ρ σ H n)(h:H a=none):¬Own C ρ σ a:=fun z=>S.dom z h
theorem ExtE.rep(e:ExtE C.hd H H')(hx:∀a,C.hd=some a->C.ext a){v d}(r:Rep K C.hd (Own C ρ σ) H v d):Rep K C.hd (Own C ρ σ) H' v d :=
 r.mono (fun _ _ _ z=>z) fun a o no h=>e a o h fun z=>no (.inl (hx a z))
theorem ExtE.reps(e:ExtE C.hd H H')(hx:∀a,C.hd=some a->C.ext a){v d}(r:Reps K C.hd (Own C ρ σ) H v d):Reps K C.hd (Own C ρ σ) H' v d :=
 r.mono (fun _ _ _ z=>z) fun a o no h=>e a o h fun z=>no (.inl (hx a z))
theorem Stt.on(S:Stt K C ρ σ H n)(e:ExtE C.hd H H')(h:Hn C.hd H' n'):Stt K C ρ σ H' n' where
 len:=S.len
 val:=fun i d hi=>by
  obtain⟨v,x,y⟩:=S.val i d hi;exact⟨v,x,e.rep S.hx y⟩
 own:=fun i ds hi=>by
  obtain⟨a,I,x,y,G,u⟩:=S.own i ds hi;exact⟨a,I,x,e a _ y fun z=>u (S.hx a z),e.reps S.hx G,u⟩
 dct:=fun i J hi=>by
  obtain⟨a,I,x,y,G,u⟩:=S.dct i J hi;exact⟨a,I,x,e a _ y fun z=>u (S.hx a z),Paired.mapP G fun _ _ z=>⟨z.1,e.rep S.hx z.2⟩,u⟩
 rdo:=fun i J hi=>by
  obtain⟨a,I,x,y,G,u,N⟩:=S.rdo i J hi;exact⟨a,I,x,e a _ y N,Paired.mapP G fun _ _ z=>⟨z.1,e.rep S.hx z.2⟩,u,N⟩
 dtt:=fun i J hi=>by
  obtain⟨a,I,L,x,y,G,u⟩:=S.dtt i J hi;exact⟨a,I,L,x,e a _ y fun z=>u (S.hx a z),G.mono (fun _ _ _ z=>z) (fun a o no h=>e a o h fun z=>no (.inl (S.hx a z))),u⟩
 dif:=S.dif
 hnd:=h
 ext:=fun a R=>by
  by_cases z:C.hd=some a
  ·obtain⟨d,m,t,q,_⟩:=h a z;exact .inl ⟨_,q⟩
  ·rcases S.ext a R with⟨xs,q⟩|⟨xs,q⟩|⟨b,xs,L,q⟩
   ·exact .inl ⟨xs,e a _ q z⟩
   ·exact .inr (.inl ⟨xs,e a _ q z⟩)
   ·exact .inr (.inr ⟨b,xs,L,e a _ q z⟩)
 hx:=S.hx
end
abbrev DTE:=En->Nat->(af->Nat->Prop)->Prop
abbrev DTT:=En->Nat->(Bool->Nat->Prop)->Prop
abbrev DTA:=En->Nat->(List af->Nat->Prop)->Prop
def DE(X:Cx)(e:aP)(d:DTE):Prop:=∃x,PE X e x/\∀(C:Ctx) (u:En) (σ:St) (H:Hp) (n:Nat) (Q:VK) (R:qN),Stt X.K C u σ H n->d u n R ->
 (∀t y v l,R t y->ExtE C.hd H l->Hn C.hd l y->Rep X.K C.hd (Own C u σ) l v t->Q v l)->x σ H Q
def RepT(K:qF)(hd:Option aq)(O:aq->Prop)(H:Hp)(v:V)(t:af):Prop :=
 Rep K hd O H v t\/(∃a u ds,v=.ref a/\t=.list ds/\H a=some (.lst u)/\Reps K hd O H u ds/\hd≠some a)\/∃a zs y x,v=.ref a/\t=.dict (Yb x)/\H a=some (ZDO a zs y)/\Qa K hd O H zs x/\hd≠some a
def DL(X:Cx)(e:aP)(d:DTE):Prop:=∃x,PE X e x/\∀(C:Ctx) (u:En) (σ:St) (H:Hp) (n:Nat) (Q:VK) (R:qN),Stt X.K C u σ H n->d u n R ->
 (∀t y v l,R t y->ExtE C.hd H l->Hn C.hd l y->RepT X.K C.hd (Own C u σ) l v t->Q v l)->x σ H Q
def DN(X:Cx)(e:aP)(d:DTA):Prop:=∃y,PE X e y/\∀(C:Ctx) (v:En) (σ:St) (H:Hp) (n:Nat) (Q:VK) (R:List af->Nat->Prop),Stt X.K C v σ H n->d v n R ->
 (∀ts G p x u,R ts G->ExtE C.hd H u->Hn C.hd u G->H p=none->u p=some (.lst x)->Reps X.K C.hd (fun a=>Own C v σ a\/a=p) u x ts->Q (.ref p) u)->y σ H Q
def DT(X:Cx)(e:aP)(d:DTT):Prop:=∃v,PT X e v/\∀(C:Ctx) (u:En) (σ:St) (H:Hp) (n:Nat) (Q:Bool->Hp->Prop) (R:Bool->Nat->Prop),Stt X.K C u σ H n->d u n R ->
 (∀b x l,R b x->ExtE C.hd H l->Hn C.hd l x->Q b l)->v σ H Q
def DW(X:Cx)(e:aP)(d:DTT):Prop:=∃v,PW X e v/\∀(C:Ctx) (u:En) (σ:St) (H:Hp) (n:Nat) (Q:Bool->Hp->Prop) (R:Bool->Nat->Prop),Stt X.K C u σ H n->d u n R ->
 (∀b x l,R b x->ExtE C.hd H l->Hn C.hd l x->Q b l)->v σ H Q
def DB(X:Cx)(G:List aP)(d:DTA):Prop:=∃x,PB X G x/\∀(C:Ctx) (u:En) (σ:St) (H:Hp) (n:Nat) (Q:List V->Hp->Prop) (R:List af->Nat->Prop),Stt X.K C u σ H n->d u n R ->
 (∀ts y v l,R ts y->ExtE C.hd H l->Hn C.hd l y->Reps X.K C.hd (Own C u σ) l v ts->ts.length=G.length->Q v l)->x σ H Q
section
variable{X:Cx}{e a b c:aP}{es:List aP}{d da db dc:DTE}{pos:Pos}
theorem dl(h:DE X e d):DL X e d:=by
 obtain⟨y,p,h⟩:=h;exact⟨y,p,fun C x σ H n Q R S hd u=>h C x σ H n Q R S hd fun t J v L r e G I=>u t J v L r e G (.inl I)⟩
def dNew(d:DTA):DTE:=fun u n R=>d u n fun ts v=>R (.list ts) v
theorem Jj{d:DTA}(h:DN X e d):DE X e (dNew d):=by
 obtain⟨G,p,h⟩:=h;refine⟨G,p,fun C y σ H n Q R S hd x=>h C y σ H n Q _ S hd fun ts L p U N r e I J v u=>x _ L _ N r e I (.lst v (S.free J) (u.mono (fun _ _ _ z=>.inl z) fun _ _ _ z=>z))⟩
def dVar(i:Nat):DTE:=fun l n R=>match l[i]? with|some (some (Cell.val d))=>R d n|_=>False
def dOwn(i:Nat):DTE:=fun u n R=>match u[i]? with|some (some (Cell.own d))=>R (.list d) n|_=>False
def dC(t:af):DTE:=fun _ n R=>R t n
theorem Jk(i:Nat)(J:X.N[i]?=some x:=by rfl)(y:Vis X.env.scope x:=by walk_at "V")(hd:(x == ("__debug__":Str))=false:=by rfl)
  (l:(x == ("__classdict__":Str))=false:=by rfl):DE X (.Name x pos) (dVar i):=by
 refine⟨_,QX J y hd l,fun C L σ H n Q R S h u=>?_⟩
 unfold dVar at h;split at h
 ·rename_i d e;obtain⟨v,G,I⟩:=S.val i d e;exact⟨v,G,u d n v H h ExtE.refl S.hnd I⟩
 ·exact h.elim
theorem Ye(i:Nat)(U:X.N[i]?=some x:=by rfl)(I:Vis X.env.scope x:=by walk_at "V")(hd:(x == ("__debug__":Str))=false:=by rfl)
  (u:(x == ("__classdict__":Str))=false:=by rfl):DL X (.Name x pos) (dOwn i):=by
 refine⟨_,QX U I hd u,fun C Z σ H n Q R S h G=>?_⟩
 unfold dOwn at h;split at h
 ·rename_i ds e;obtain⟨p,Y,J,L,y,v⟩:=S.own i ds e;exact⟨.ref p,J,G _ n _ H h ExtE.refl S.hnd (.inr (.inl ⟨p,Y,ds,rfl,rfl,L,y,fun z=>v (S.hx p z)⟩))⟩
 ·exact h.elim
theorem Je{i j pos}:DE X (.Constant (.int i) j pos) (dC (.int i)):=⟨_,JE,fun _ _ _ H n _ _ S h l=>l _ n _ H h ExtE.refl S.hnd (.int i)⟩
theorem QN{b j pos}:DE X (.Constant (.bool b) j pos) (dC (.bool b)):=⟨_,zpq,fun _ _ _ H n _ _ S h u=>u _ n _ H h ExtE.refl S.hnd (.bl b)⟩
theorem Yd{j pos}:DE X (.Constant .none j pos) (dC .none):=⟨_,zr4,fun _ _ _ H n _ _ S h l=>l _ n _ H h ExtE.refl S.hnd .non⟩
theorem Qz{x j pos}:DE X (.Constant (.str x) j pos) (dC (.str x)):=⟨_,zr0,fun _ _ _ H n _ _ S h l=>l _ n _ H h ExtE.refl S.hnd (.str x)⟩
end
section
variable{K:qF}{hd:Option aq}{O:aq->Prop}{H H':Hp}{v:V}{t:af}{n:Nat}
theorem Same.ext(h:Same H H'):ExtE hd H H':=fun a o e _=>h a o e
theorem Hn.same(h:Hn hd H n)(s:Same H H'):Hn hd H' n:=fun a e=>by
 obtain⟨d,m,t,q,r⟩:=h a e;exact⟨d,m,t,s _ _ q,r⟩
theorem Reps.same{vs ts}(s:Same H H')(r:Reps K hd O H vs ts):Reps K hd O H' vs ts:=r.mono (fun _ _ _ z=>z) fun a o _ h=>s a o h
theorem ExtE.repT(e:ExtE C.hd H H')(hx:∀a,C.hd=some a->C.ext a)(r:RepT K C.hd (Own C ρ σ) H v t):RepT K C.hd (Own C ρ σ) H' v t:=by
 rcases r with r|⟨a,N,ds,G,I,y,x,u⟩|⟨a,zs,L,J,G,I,y,x,u⟩
 ·exact .inl (e.rep hx r)
 ·exact .inr (.inl ⟨a,N,ds,G,I,e _ _ y u,e.reps hx x,u⟩)
 ·exact .inr (.inr ⟨a,zs,L,J,G,I,e _ _ y u,x.mono (fun _ _ _ z=>z) (fun a o no h=>e a o h fun z=>no (.inl (hx a z))),u⟩)
theorem RepT.lstI{ds}(h:RepT K hd O H v (.list ds)):∃a u,v=.ref a/\H a=some (.lst u)/\Reps K hd O H u ds:=by
 rcases h with h|⟨a,u,I,y,x,C,G,_⟩|⟨a,u,J,I,y,x,C,G,_⟩
 ·obtain⟨a,u,y,x,_,C⟩:=h.lstI;exact⟨a,u,y,x,C⟩
 ·cases x;exact⟨a,u,y,C,G⟩
 ·cases x
theorem RepT.tupI{ds}(h:RepT K hd O H v (.tuple ds)):∃a x,v=.ref a/\SqT K H a x/\Reps K hd O H x ds:=by
 rcases h with h|⟨a,x,J,G,y,I,C,_⟩|⟨a,x,L,J,G,y,I,C,_⟩
 ·exact h.tupI
 ·cases y
 ·cases y
theorem RepT.rep(h:RepT K hd O H v t)(nl:∀ds,t≠.list ds)(nd:∀y,t≠.dict (Yb y):=by intro y z;first|cases z|exact dict_noT (lQ z)):Rep K hd O H v t:=by
 rcases h with h|⟨a,C,x,I,u,J,G,_⟩|⟨a,C,L,x,I,u,J,G,_⟩
 ·exact h
 ·exact absurd u (nl x)
 ·exact absurd u (nd x)
theorem RepT.intI{i}(h:RepT K hd O H v (.int i)):v=.int i:=(h.rep (by intro _ z;cases z)).intI
theorem RepT.blI{i}(h:RepT K hd O H v (.bool i)):v=.bl i:=(h.rep (by intro _ z;cases z)).blI
theorem RepT.strI{i}(h:RepT K hd O H v (.str i)):v=.str i:=(h.rep (by intro _ z;cases z)).strI
theorem RepT.nonI(h:RepT K hd O H v .none):v=.non:=(h.rep (by intro _ z;cases z)).nonI
theorem Rep.newT{vs ts}(no:¬O p)(h:H p=none)(r:Reps K hd O H vs ts):Rep K hd O (upd H p (.tup vs)) (.ref p) (.tuple ts) :=
 .tup JJ no (r.same (fun b u e=>by rw[Jo (Qt e h)];exact e))
end
theorem JO(h:H p=none):Same H (upd H p o):=fun b u e=>by
 rw[Jo (Qt e h)];exact e
abbrev G2:=af->af->(af->Prop)->Prop
def dOp(g:G2)(v db:DTE):DTE:=fun l n R=>v l n fun x C=>db l C fun y u=>g x y fun z=>R z u
def Gp2(X:Cx)(r:R2)(g:G2):Prop:=∀(hd:Option aq) (O:aq->Prop) (H:Hp) (x y:V) (t u:af) (Q:VK) (R:af->Prop),(∀p,O p->H p≠none)->RepT X.K hd O H x t->RepT X.K hd O H y u->g t u R ->
 (∀z v l,R z->Same H l->Rep X.K hd O l v z->Q v l)->r x y H Q
section
variable{X:Cx}{a b c:aP}{da db dc:DTE}{pos:Pos}{r r':R2}{g g':G2}
theorem two{C:Ctx}{l:En}{σ:St}{H:Hp}{n:Nat}{ta tb:TE}(ha:∀(C:Ctx) (l:En) (σ:St) (H:Hp) (n:Nat) (Q:VK) (R:qN),Stt X.K C l σ H n->da l n R ->
  (∀t L v I,R t L->ExtE C.hd H I->Hn C.hd I L->RepT X.K C.hd (Own C l σ) I v t->Q v I)->ta σ H Q)
  (hb:∀(C:Ctx) (l:En) (σ:St) (H:Hp) (n:Nat) (Q:VK) (R:qN),Stt X.K C l σ H n->db l n R ->
  (∀t L v I,R t L->ExtE C.hd H I->Hn C.hd I L->RepT X.K C.hd (Own C l σ) I v t->Q v I)->tb σ H Q)
  {Z:V->V->Hp->Prop} {R2:af->af->Nat->Prop} (S:Stt X.K C l σ H n) (h:da l n fun x Y=>db l Y fun y J=>R2 x y J)
  (hq:∀x y J v w G,R2 x y J->ExtE C.hd H G->Stt X.K C l σ G J->RepT X.K C.hd (Own C l σ) G v x->RepT X.K C.hd (Own C l σ) G w y->Z v w G) :
  ta σ H fun v N=>tb σ N fun w G=>Z v w G:=by
 refine ha C l σ H n _ _ S h fun t Y v N r1 e1 h1 q1=>?_
 have S1:=S.on e1 h1;refine hb C l σ N Y _ _ S1 r1 fun u J w G r2 U h2 q2=>?_
 exact hq t u J v w G r2 (e1.trans U) (S1.on U h2) (U.repT S.hx q1) q2
theorem QO{op:Operator}(U:OpR X (binaryOp op) r)(hg:Gp2 X r g)(G:DL X a da)(l:DL X b db):DE X (.BinOp a op b pos) (dOp g da db):=by
 obtain⟨ta,pa,G⟩:=G;obtain⟨tb,pb,l⟩:=l;refine⟨_,JD U pa pb,fun C Y σ H n Q R S h N=>?_⟩
 refine two G l S h fun x y n2 v w H2 r2 e I q1 q2=>?_
 exact hg C.hd (Own C Y σ) H2 v w x y Q _ (fun p=>I.dom) q1 q2 r2 fun z u H' L J Z=>N z n2 u H' L (e.trans J.ext) (I.hnd.same J) Z
theorem Qo{op:oG}(U:OpR X (compareOp op) r)(hg:Gp2 X r g)(G:DL X a da)(l:DL X b db)(hm:behindInMarks op b=false):DE X (.Compare a [op] [b] pos) (dOp g da db):=by
 obtain⟨ta,pa,G⟩:=G;obtain⟨tb,pb,l⟩:=l;refine⟨_,zkN U pa pb hm,fun C Y σ H n Q R S h N=>?_⟩
 refine two G l S h fun x y n2 v w H2 r2 e I q1 q2=>?_
 exact hg C.hd (Own C Y σ) H2 v w x y Q _ (fun p=>I.dom) q1 q2 r2 fun z u H' L J Z=>N z n2 u H' L (e.trans J.ext) (I.hnd.same J) Z
def Q0(d:DTE):DTT:=fun u n R=>d u n fun t v=>match t with|.bool k=>R k v|_=>False
theorem Jr{op:oG}(U:OpR X (compareOp op) r)(hg:Gp2 X r g)(G:DL X a da)(l:DL X b db)(hm:behindInMarks op b=false):DT X (.Compare a [op] [b] pos) (Q0 (dOp g da db)):=by
 obtain⟨ta,pa,G⟩:=G;obtain⟨tb,pb,l⟩:=l;refine⟨_,zhV U pa pb hm,fun C Y σ H n Q R S h N=>?_⟩
 refine two G l S h fun x y n2 v w H2 r2 e J q1 q2=>?_
 refine hg C.hd (Own C Y σ) H2 v w x y _ _ (fun p=>J.dom) q1 q2 r2 fun z u H' I L Z=>?_
 cases z with
 | bool k =>
  cases Z;exact⟨k,rfl,N k n2 H' I (e.trans L.ext) (J.hnd.same L)⟩
 | _=>exact I.elim
def Yc(g g':G2)(da db dc:DTE):DTE:=fun u n R=>da u n fun x G=>db u G fun y v=>g x y fun z=>match z with
 | .bool true=>dc u v fun w C=>g' y w fun z=>R z C
 | .bool false=>R (.bool false) v
 | _=>False
def gI(C:Int->Int->Prop)(f:Int->Int->Int):G2
 | .int i,.int j,R=>C i j/\R (.int (f i j))
 | _,_,_=>False
def gB(f:Int->Int->Bool):G2
 | .int i,.int j,R=>R (.bool (f i j))
 | _,_,_=>False
theorem gp_I:Gp2 X (rI C fun i j=>.int (f i j)) (gI C f):=by
 intro hd O H x y t u Q R dom l v h G;unfold gI at h;split at h
 ·rename_i i j;exact⟨i,j,l.intI,v.intI,h.1,G _ _ H h.2 (Same.refl H) (.int _)⟩
 ·exact h.elim
def gI0(f:Int->Int->Int):G2
 | .int i,.int j,R=>R (.int (f i j))
 | _,_,_=>False
theorem zqm:Gp2 X (rI0 fun i j=>.int (f i j)) (gI0 f):=by
 intro hd O H x y t u Q R dom l v h C;unfold gI0 at h;split at h
 ·rename_i i j;exact⟨i,j,l.intI,v.intI,C _ _ H h (Same.refl H) (.int _)⟩
 ·exact h.elim
theorem gp_B:Gp2 X (rI0 fun i j=>.bl (f i j)) (gB f):=by
 intro hd O H x y t u Q R dom v C h G;unfold gB at h;split at h
 ·rename_i i j;exact⟨i,j,v.intI,C.intI,G _ _ H h (Same.refl H) (.bl _)⟩
 ·exact h.elim
end
section
variable{X:Cx}{a b c:aP}{da db dc:DTE}{pos:Pos}
def oSub:=gI0 fun i j=>i - j
def oMod:=gI (fun _ j=>0<j) fun i j=>i % j
def UP:=gI Yw fun i j=>i / j
def oShl:=gI CPow fun i j=>i*2 ^ j.toNat
def oShr:=gI (fun _ j=>0<=j) fun i j=>i / 2 ^ j.toNat
def oXor:=gI0 fh
def oAnd:=gI0 fV
theorem JZ(v:DL X a da)(l:DL X b db):DE X (.BinOp a .Sub b pos) (dOp oSub da db):=QO zsa zqm v l
theorem zl2(u:DL X a da)(l:DL X b db):DE X (.BinOp a .Mod b pos) (dOp oMod da db):=QO UW gp_I u l
theorem Vr(x:DL X a da)(u:DL X b db):DE X (.BinOp a .FloorDiv b pos) (dOp UP da db):=QO VF gp_I x u
theorem JT(u:DL X a da)(l:DL X b db):DE X (.BinOp a .LShift b pos) (dOp oShl da db):=QO zsc gp_I u l
theorem ztZ(u:DL X a da)(l:DL X b db):DE X (.BinOp a .RShift b pos) (dOp oShr da db):=QO zsb gp_I u l
theorem ztY(u:DL X a da)(l:DL X b db):DE X (.BinOp a .BitXor b pos) (dOp oXor da db):=QO zr_ zqm u l
theorem zt4(u:DL X a da)(l:DL X b db):DE X (.BinOp a .BitAnd b pos) (dOp oAnd da db):=QO zsn zqm u l
end
section
variable{X:Cx}{pins:qO}{σ:St}{H:Hp}{s:au}{hd:Option aq}{O:aq->Prop}
theorem RepT.reads(I:Inv X pins σ H s)(h:RepT X.K hd O H v d)(r:RelV v u)(e:d.hasDict=false):∃G,Reads s.heap u d G:=by
 rcases h with h|⟨a,N,ds,rfl,rfl,C,y,_⟩|⟨a,zs,Y,U,rfl,rfl,C,y,_⟩
 rotate_left 2
 ·simp[cD]at e
 ·exact h.reads I r e
 ·cases r;obtain⟨L,R,p,_⟩:=I.list (xs:=N) (.inl (.inl C));obtain⟨o,n,J,hc,_,x⟩:=p;obtain⟨G,S⟩:=Reps.reads I y R (by simpa[cD] using e)
  exact⟨_,.list J hc x (by simpa using S)⟩
end
def Okd(t:af):Prop:=t.canLay0=true/\t.depth<=60
section
variable{X:Cx}{a b c:aP}{da db dc:DTE}{pos:Pos}{k:Nat}
def rEqD(K:qF)(neg:Bool):R2:=fun x y H Q=>∃hd O t u,RepT K hd O H x t/\RepT K hd O H y u/\Okd t/\Okd u/\Q (.bl (if neg then !t.eqv u else t.eqv u)) H
theorem zsl(J:Room k X.A):OpR X (compareOp .Eq) (rEqD X.K false):=by
 intro pins s σ H x y v u Q I S L h;obtain⟨hd,O,t,w,N,R,C,G,q⟩:=h;obtain⟨Z,Y⟩:=N.reads I S (b5 _ C.1);obtain⟨bs,U⟩:=R.reads I L (b5 _ G.1);refine SeqAt.compareEq_reads Y U C.1 G.1 ?_ ⟨.bl _,H,I,rfl,q⟩;have:=J.un;have:=C.2;omega
theorem zse(J:Room k X.A):OpR X (compareOp .NotEq) (rEqD X.K true):=by
 intro pins s σ H x y v u Q I U L h;obtain⟨hd,O,t,w,R,S,C,G,q⟩:=h;obtain⟨as,Z⟩:=R.reads I U (b5 _ C.1);obtain⟨bs,Y⟩:=S.reads I L (b5 _ G.1);refine SeqAt.compareNe_reads Z Y C.1 G.1 ?_ ⟨.bl _,H,I,rfl,q⟩;have:=J.un;have:=C.2;omega
theorem ZI:Okd .none:=⟨by simp[bu],by simp[cO]⟩
def oEq:G2
 | .int i,.int j,R=>R (.bool (decide (i=j)))
 | .str i,.str j,R=>R (.bool (decide (i=j)))
 | .bool i,.bool j,R=>R (.bool (decide (i=j)))
 | t,u,R=>Okd t/\Okd u/\R (.bool (t.eqv u))
def oNe:G2
 | .int i,.int j,R=>R (.bool (!decide (i=j)))
 | .str i,.str j,R=>R (.bool (!decide (i=j)))
 | .bool i,.bool j,R=>R (.bool (!decide (i=j)))
 | t,u,R=>Okd t/\Okd u/\R (.bool (!t.eqv u))
def rEqA(K:qF):R2:=fun x y H Q=>rEq x y H Q\/rEqD K false x y H Q
def rNeA(K:qF):R2:=fun x y H Q=>rNe x y H Q\/rEqD K true x y H Q
theorem QH(l:Room k X.A):OpR X (compareOp .Eq) (rEqA X.K):=OpR.or zvL (zsl l)
theorem QW(l:Room k X.A):OpR X (compareOp .NotEq) (rNeA X.K):=OpR.or zvJ (zse l)
theorem QB:Gp2 X (rEqA X.K) oEq:=by
 intro hd O H x y t u Q R dom v C h G;unfold oEq at h;split at h
 ·rename_i i j;rw[v.intI,C.intI];refine .inl ⟨rfl,?_⟩;have e:decide (V.int i=V.int j)=decide (i=j):=decide_eq_decide.mpr ⟨fun z=>by cases z;rfl,fun z=>by rw[z]⟩
  rw[e];exact G _ _ H h (Same.refl H) (.bl _)
 ·rename_i i j;rw[v.strI,C.strI];refine .inl ⟨rfl,?_⟩;have e:decide (V.str i=V.str j)=decide (i=j):=decide_eq_decide.mpr ⟨fun z=>by cases z;rfl,fun z=>by rw[z]⟩
  rw[e];exact G _ _ H h (Same.refl H) (.bl _)
 ·rename_i i j;rw[v.blI,C.blI];refine .inl ⟨rfl,?_⟩;have e:decide (V.bl i=V.bl j)=decide (i=j):=decide_eq_decide.mpr ⟨fun z=>by cases z;rfl,fun z=>by rw[z]⟩
  rw[e];exact G _ _ H h (Same.refl H) (.bl _)
 ·exact .inr ⟨hd,O,_,_,v,C,h.1,h.2.1,G _ _ H h.2.2 (Same.refl H) (.bl _)⟩
theorem QQ:Gp2 X (rNeA X.K) oNe:=by
 intro hd O H x y t u Q R dom v C h G;unfold oNe at h;split at h
 ·rename_i i j;rw[v.intI,C.intI];refine .inl ⟨rfl,?_⟩;have e:decide (V.int i=V.int j)=decide (i=j):=decide_eq_decide.mpr ⟨fun z=>by cases z;rfl,fun z=>by rw[z]⟩
  rw[e];exact G _ _ H h (Same.refl H) (.bl _)
 ·rename_i i j;rw[v.strI,C.strI];refine .inl ⟨rfl,?_⟩;have e:decide (V.str i=V.str j)=decide (i=j):=decide_eq_decide.mpr ⟨fun z=>by cases z;rfl,fun z=>by rw[z]⟩
  rw[e];exact G _ _ H h (Same.refl H) (.bl _)
 ·rename_i i j;rw[v.blI,C.blI];refine .inl ⟨rfl,?_⟩;have e:decide (V.bl i=V.bl j)=decide (i=j):=decide_eq_decide.mpr ⟨fun z=>by cases z;rfl,fun z=>by rw[z]⟩
  rw[e];exact G _ _ H h (Same.refl H) (.bl _)
 ·exact .inr ⟨hd,O,_,_,v,C,h.1,h.2.1,G _ _ H h.2.2 (Same.refl H) (.bl _)⟩
def isNone:af->Bool
 | .none=>true
 | _=>false
def oIs:G2
 | .bool a,.bool b,R=>R (.bool (a == b))
 | t,.none,R=>R (.bool (isNone t))
 | _,_,_=>False
def rIs:R2:=fun x y H Q=>(y=.non/\Q (.bl (decide (x=.non))) H)\/∃a b,x=.bl a/\y=.bl b/\Q (.bl (a == b)) H
theorem zsj:OpR X (compareOp .Is) rIs:=OpR.or zsh zsi
theorem RepT.isN{K:qF}{hd:Option aq}{O:aq->Prop}{H:Hp}{v:V}{t:af}(h:RepT K hd O H v t):decide (v=.non)=(isNone t):=by
 rcases h with h|⟨a,x,ds,rfl,rfl,u,l,_⟩|⟨a,zs,y,C,rfl,rfl,u,l,_⟩
 ·cases h <;> simp[HAND,SCR,EXC,isNone]
 ·simp[isNone]
 ·simp[isNone]
theorem ztE:Gp2 X rIs oIs:=by
 intro hd O H x y t u Q R dom v C h G;unfold oIs at h;split at h
 ·rename_i i j;exact .inr ⟨i,j,v.blI,C.blI,G _ _ H h (Same.refl H) (.bl _)⟩
 ·refine .inl ⟨C.nonI,?_⟩;rw[v.isN];exact G _ _ H h (Same.refl H) (.bl _)
 ·exact h.elim
def rInD(K:qF)(neg:Bool):R2:=fun x y H Q=>∃hd O t ts,RepT K hd O H x t/\(RepT K hd O H y (.tuple ts)\/RepT K hd O H y (.list ts))/\Okd t/\(∀u∈ts,Okd u)/\Q (.bl (if neg then !ts.any (fun u=>u.eqv t) else ts.any (fun u=>u.eqv t))) H
theorem zkY:∀{ts:qD},(∀u∈ts,Okd u)->bc ts=true
 | [],_=>by simp[bc]
 | t::ts,h=>by
  simp only[bc,aG];exact⟨(h t (by simp)).1,zkY fun u l=>h u (by simp[l])⟩
theorem zkS(U:Room k X.A):OpR X (compareOp .NotIn) (rInD X.K true):=by
 intro pins s σ H x y v u Q I rx L h;obtain⟨hd,O,t,ts,Z,C,G,Y,q⟩:=h;obtain⟨as,R⟩:=Z.reads I rx (b5 _ G.1);have cl:=zkY Y;have S:X.A.units+1+min (bU ts) t.depth<cLine:=by
  have:=U.un;have:=G.2;omega
 rcases C with C|C
 ·obtain⟨bs,J⟩:=C.reads I L (b5 _ (by simpa[bu] using cl))
  exact SeqAt.notIn_tuple_reads J R cl G.1 S ⟨.bl _,H,I,rfl,q⟩
 ·obtain⟨bs,J⟩:=C.reads I L (b5 _ (by simpa[bu] using cl))
  exact SeqAt.notIn_list_reads J R cl G.1 S ⟨.bl _,H,I,rfl,q⟩
def Zk:G2
 | t,.tuple ts,R=>Okd t/\(∀u∈ts,Okd u)/\R (.bool (!ts.any fun u=>u.eqv t))
 | t,.list ts,R=>Okd t/\(∀u∈ts,Okd u)/\R (.bool (!ts.any fun u=>u.eqv t))
 | _,_,_=>False
theorem zn1:Gp2 X (rInD X.K true) Zk:=by
 intro hd O H x y t u Q R dom v C h G;unfold Zk at h;split at h
 ·exact⟨hd,O,_,_,v,.inl C,h.1,h.2.1,G _ _ H h.2.2 (Same.refl H) (.bl _)⟩
 ·exact⟨hd,O,_,_,v,.inr C,h.1,h.2.1,G _ _ H h.2.2 (Same.refl H) (.bl _)⟩
 ·exact h.elim
def oLtA:G2
 | .int i,.int j,R=>R (.bool (decide (i<j)))
 | .str i,.str j,R=>R (.bool (decide (i.cps.toList<j.cps.toList)))
 | .tuple xs,.tuple ys,R=>∃ns v,xs=ns.map bH/\ys=v.map bH/\R (.bool (HT.lexLt ns v))
 | _,_,_=>False
def rLtA(K:qF):R2:=fun x y H Q=>(rI0 fun i j=>.bl (decide (i<j))) x y H Q\/(∃i j,x=.str i/\y=.str j/\Q (.bl (decide (i.cps.toList<j.cps.toList))) H)\/rLtT K x y H Q
theorem Qx(l:Room k X.A):OpR X (compareOp .Lt) (rLtA X.K):=OpR.or zsg (OpR.or zkT (zsf l.units0))
theorem zdV{K:qF}{hd:Option aq}{O:aq->Prop}{H:Hp}:∀{ns:List Int}{l:List V},Reps K hd O H l (ns.map bH)->l=ns.map V.int
 | [],_,h=>by cases h;rfl
 | n::ns,_,h=>by
  cases h with
  | cons h r=>rw[h.intI,zdV r];rfl
theorem Qw:Gp2 X (rLtA X.K) oLtA:=by
 intro hd O H x y t u Q R dom G v h C;unfold oLtA at h;split at h
 ·exact .inl ⟨_,_,G.intI,v.intI,C _ _ H h (Same.refl H) (.bl _)⟩
 ·exact .inr (.inl ⟨_,_,G.strI,v.strI,C _ _ H h (Same.refl H) (.bl _)⟩)
 ·obtain⟨ns,L,rfl,rfl,h⟩:=h;obtain⟨p,Y,J,s1,I⟩:=G.tupI;obtain⟨q,U,S,s2,N⟩:=v.tupI;rw[zdV I]at s1;rw[zdV N]at s2;exact .inr (.inr ⟨p,q,ns,L,J,S,s1,s2,C _ _ H h (Same.refl H) (.bl _)⟩)
 ·exact h.elim
def oLeA:G2
 | .int i,.int j,R=>R (.bool (decide (i<=j)))
 | .str i,.str j,R=>R (.bool (!decide (j.cps.toList<i.cps.toList)))
 | _,_,_=>False
def rLeA:R2:=fun x y H Q=>(rI0 fun i j=>.bl (decide (i<=j))) x y H Q\/(∃i j,x=.str i/\y=.str j/\Q (.bl (!decide (j.cps.toList<i.cps.toList))) H)
theorem zkU:OpR X (compareOp .LtE) (fun x y H Q=>∃i j,x=.str i/\y=.str j/\Q (.bl (!decide (j.cps.toList<i.cps.toList))) H):=by
 intro pins s σ H x y v u Q I G C h;obtain⟨i,j,rfl,rfl,q⟩:=h;obtain⟨t,rfl⟩:=G;obtain⟨t',rfl⟩:=C;exact PySem.P.le_str ⟨.bl _,H,I,rfl,q⟩
theorem Qf:OpR X (compareOp .LtE) rLeA:=OpR.or zvK zkU
theorem Qe:Gp2 X rLeA oLeA:=by
 intro hd O H x y t u Q R dom v C h G;unfold oLeA at h;split at h
 ·exact .inl ⟨_,_,v.intI,C.intI,G _ _ H h (Same.refl H) (.bl _)⟩
 ·exact .inr ⟨_,_,v.strI,C.strI,G _ _ H h (Same.refl H) (.bl _)⟩
 ·exact h.elim
variable{r r':R2}{g g':G2}
theorem VB(ho:OpR X (compareOp op) r)(hg:Gp2 X r g)(ho':OpR X (compareOp op') r')(hg':Gp2 X r' g')(ha:DL X a da)(N:DL X b db)(hc:DL X c dc)
  (hm:lastMarks [op,op'] [b,c]=false:=by with_unfolding_all rfl):DE X (.Compare a [op,op'] [b,c] pos) (Yc g g' da db dc):=by
 obtain⟨ta,pa,ha⟩:=ha;obtain⟨tb,pb,N⟩:=N;obtain⟨tc,pc,hc⟩:=hc;refine⟨_,znr ho ho' pa pb pc hm,fun C U σ H n Q R S h hq=>?_⟩
 refine two ha N S h fun x y n2 v w H2 r2 e Z q1 q2=>?_
 refine hg C.hd (Own C U σ) H2 v w x y _ _ (fun p=>Z.dom) q1 q2 r2 fun z u L G J Y=>?_
 have S3:=Z.on J.ext (Z.hnd.same J);cases z with
 | bool k =>
  cases Y;refine⟨k,rfl,?_⟩;cases k with
  | false=>exact iteF (hq _ n2 _ L G (e.trans J.ext) S3.hnd (.bl _))
  | true =>
   refine iteT (hc C U σ L n2 _ _ S3 G fun z2 n3 w2 H4 r4 e4 h4 q4=>?_)
   have S4:=S3.on e4 h4;have q2':=e4.repT S.hx ((Same.ext J:ExtE C.hd H2 L).repT S.hx q2);exact hg' C.hd (Own C U σ) H4 w w2 y z2 Q _ (fun p=>S4.dom) q2' q4 r4 fun z u L G I Y=>hq z n3 u L G (((e.trans J.ext).trans e4).trans I.ext) (S4.hnd.same I) Y
 | _=>exact G.elim
end
section
variable{X:Cx}{a b c e:aP}{es rest:List aP}{d da db dc:DTE}{t u:DTT}{pos p:Pos}{k:Nat}
def truD:af->(Bool->Prop)->Prop
 | .none,R=>R false
 | .bool b,R=>R b
 | .int i,R=>R (decide (i≠0))
 | .str x,R=>x.length<=16777216/\R (decide (x.length≠0))
 | .list ts,R=>R (!ts.isEmpty)
 | .tuple ts,R=>R (!ts.isEmpty)
 | _,_=>False
def dTru(d:DTE):DTT:=fun l n R=>d l n fun t v=>truD t fun b=>R b v
theorem zor{K:qF}{hd:Option aq}{O:aq->Prop}{H:Hp}{v:V}{t:af}{Q:Bool->Hp->Prop}{R:Bool->Prop}(r:RepT K hd O H v t)(h:truD t R)(y:∀b,R b->Q b H):∃k,TruV K v H k/\Q k H:=by
 cases t with
 | none=>exact⟨false,by rw[r.nonI];rfl,y _ h⟩
 | bool b=>exact⟨b,by rw[r.blI];rfl,y _ h⟩
 | int i=>exact⟨decide (i≠0),by rw[r.intI];show _=(i != 0);by_cases z:i=0 <;> simp[z],y _ h⟩
 | str x =>
  refine⟨decide (x.length≠0),by rw[r.strI];exact⟨h.1,by by_cases z:x.length=0 <;> simp[z]⟩,y _ h.2⟩
 | list ts =>
  obtain⟨p,I,e,C,G⟩:=r.lstI;subst e;refine⟨!ts.isEmpty,.inl ⟨I,.of C,?_⟩,y _ h⟩;cases G <;> rfl
 | tuple ts =>
  obtain⟨p,I,e,C,G⟩:=r.tupI;subst e;refine⟨!ts.isEmpty,.inr (.inl ⟨I,C,?_⟩),y _ h⟩;cases G <;> rfl
 | dict _=>exact h.elim
theorem J1(l:DL X a da)(y:∀whole,isTrue a X.env whole=(do let v <- whole;standAt a.pos;holding [v] (truthy v)):=by intro _;rfl):DT X a (dTru da):=by
 obtain⟨Y,pa,l⟩:=l;refine⟨_,zni pa y,fun C G σ H n Q R S h x=>?_⟩
 refine l C G σ H n _ _ S h fun t N v U r J I q=>?_
 exact zor q r fun b L=>x b N U L J I
def dAnd(t u:DTT):DTT:=fun l n R=>t l n fun b v=>if b=true then u l v R else R false v
def dOr(t u:DTT):DTT:=fun l n R=>t l n fun b v=>if b=true then R true v else u l v R
def dNot(t:DTT):DTT:=fun l n R=>t l n fun b v=>R (!b) v
theorem QA(h:DW X a t):DT X a t:=by
 obtain⟨l,pa,h⟩:=h;exact⟨_,pa.pt,h⟩
theorem zik(h:DT X a t):DW X (.BoolOp .And [a] pos) t:=by
 obtain⟨v,pa,h⟩:=h;exact⟨_,zpa pa,h⟩
theorem Uq(h:DT X a t):DW X (.BoolOp .Or [a] pos) t:=by
 obtain⟨v,pa,h⟩:=h;exact⟨_,zrK pa,h⟩
theorem zlV(h:DT X a t)(h':DW X (.BoolOp .And (b::rest) pos) u):DW X (.BoolOp .And (a::b::rest) pos) (dAnd t u):=by
 obtain⟨ta,pa,h⟩:=h;obtain⟨tb,U,h'⟩:=h';refine⟨_,zrL pa U,fun C G σ H n Q R S hd y=>?_⟩
 refine h C G σ H n _ _ S hd fun b J x r v I=>?_
 cases b with
 | true=>exact iteT (h' C G σ x J Q R (S.on v I) (by simpa using r) fun b Y L r Z N=>y b Y L r (v.trans Z) N)
 | false=>exact iteF (y _ J x (by simpa using r) v I)
theorem QP(h:DT X a t)(h':DW X (.BoolOp .Or (b::rest) pos) u):DW X (.BoolOp .Or (a::b::rest) pos) (dOr t u):=by
 obtain⟨ta,pa,h⟩:=h;obtain⟨tb,U,h'⟩:=h';refine⟨_,zvE pa U,fun C G σ H n Q R S hd y=>?_⟩
 refine h C G σ H n _ _ S hd fun b J x r v I=>?_
 cases b with
 | false=>exact iteF (h' C G σ x J Q R (S.on v I) (by simpa using r) fun b Y L r Z N=>y b Y L r (v.trans Z) N)
 | true=>exact iteT (y _ J x (by simpa using r) v I)
theorem Qq(h:DT X a t):DT X (.UnaryOp .Not a pos) (dNot t):=by
 obtain⟨L,pa,h⟩:=h;refine⟨_,zrO pa,fun C x σ H n Q R S hd v=>?_⟩
 exact h C x σ H n _ _ S hd fun b J l r I G=>v _ J l r I G
def bolD:af->(Bool->Prop)->Prop
 | .bool b,R=>R b
 | _,_=>False
def zqG(da db:DTE):DTE:=fun v n R=>da v n fun t x=>bolD t fun b=>if b=true then db v x R else R (.bool false) x
def dOrV(da db:DTE):DTE:=fun v n R=>da v n fun t x=>bolD t fun b=>if b=true then R (.bool true) x else db v x R
def zqE(da:DTE):DTE:=fun v n R=>da v n fun t x=>bolD t fun b=>R (.bool (!b)) x
theorem Uo{op}(h:DE X a d):DE X (.BoolOp op [a] pos) d:=by
 obtain⟨v,pa,h⟩:=h;exact⟨_,zr2 pa,h⟩
theorem Zw(h:DE X a da)(h':DE X (.BoolOp .And (b::rest) pos) db):DE X (.BoolOp .And (a::b::rest) pos) (zqG da db):=by
 obtain⟨ta,pa,h⟩:=h;obtain⟨tb,Z,h'⟩:=h';refine⟨_,zr7 pa Z,fun C I σ H n Q R S hd G=>?_⟩
 refine h C I σ H n _ _ S hd fun t L v y r x J U=>?_
 cases t with
 | bool b =>
  cases U;refine⟨b,rfl,?_⟩;cases b with
  | true=>exact iteT (h' C I σ y L Q R (S.on x J) (by simpa[bolD] using r) fun t n2 v N r e2 Y q2=>G t n2 v N r (x.trans e2) Y q2)
  | false=>exact iteF (G _ L _ y (by simpa[bolD] using r) x J (.bl _))
 | _=>exact r.elim
theorem zoT(h:DE X a da)(h':DE X (.BoolOp .Or (b::rest) pos) db):DE X (.BoolOp .Or (a::b::rest) pos) (dOrV da db):=by
 obtain⟨ta,pa,h⟩:=h;obtain⟨tb,Z,h'⟩:=h';refine⟨_,zvG pa Z,fun C I σ H n Q R S hd G=>?_⟩
 refine h C I σ H n _ _ S hd fun t L v y r x J U=>?_
 cases t with
 | bool b =>
  cases U;refine⟨b,rfl,?_⟩;cases b with
  | false=>exact iteF (h' C I σ y L Q R (S.on x J) (by simpa[bolD] using r) fun t n2 v N r e2 Y q2=>G t n2 v N r (x.trans e2) Y q2)
  | true=>exact iteT (G _ L _ y (by simpa[bolD] using r) x J (.bl _))
 | _=>exact r.elim
theorem zqy(h:DE X a da):DE X (.UnaryOp .Not a pos) (zqE da):=by
 obtain⟨ta,pa,h⟩:=h;refine⟨_,zr3 pa,fun C I σ H n Q R S hd G=>?_⟩
 refine h C I σ H n _ _ S hd fun t Z v x r Y L J=>?_
 cases t with
 | bool b =>
  cases J;exact⟨b,rfl,G _ Z _ x r Y L (.bl _)⟩
 | _=>exact r.elim
def dIfE(t:DTT)(da db:DTE):DTE:=fun l n R=>t l n fun b v=>if b=true then da l v R else db l v R
theorem zoc(hc:DT X c t)(h:DE X a da)(h':DE X b db):DE X (.IfExp c a b pos) (dIfE t da db):=by
 obtain⟨tc,pc,hc⟩:=hc;obtain⟨ta,pa,h⟩:=h;obtain⟨tb,pb,h'⟩:=h';refine⟨_,znq pc pa pb,fun C y σ H n Q R S hd Z=>?_⟩
 refine hc C y σ H n _ _ S hd fun b n1 Y r l h1=>?_
 cases b with
 | true=>exact iteT (h C y σ Y n1 Q R (S.on l h1) (by simpa using r) fun t N v G r U J L=>Z t N v G r (l.trans U) J L)
 | false=>exact iteF (h' C y σ Y n1 Q R (S.on l h1) (by simpa using r) fun t N v G r U J L=>Z t N v G r (l.trans U) J L)
def dNil:DTA:=fun _ n R=>R [] n
def Qb(d:DTE)(ds:DTA):DTA:=fun l n R=>d l n fun t x=>ds l x fun ts v=>R (t::ts) v
theorem Ja:DB X [] dNil:=⟨_,Qg,fun C x σ H n Q R S h v=>v [] n [] H h ExtE.refl S.hnd .nil rfl⟩
theorem zl5(h:DE X e d)(l:DB X es ds)(hs:starEach (e::es) X.env=(false,eval e X.env)::starEach es X.env):DB X (e::es) (Qb d ds):=by
 obtain⟨ta,pa,h⟩:=h;obtain⟨tb,Z,l⟩:=l;refine⟨_,JU pa Z hs,fun C x σ H n Q R S hd J=>?_⟩
 refine h C x σ H n _ _ S hd fun t n1 v I r y U N=>?_
 refine l C x σ I n1 _ _ (S.on y U) r fun ts n2 vs L r2 G Y q2 l2=>?_
 exact J _ n2 _ L r2 (y.trans G) Y (.cons (G.rep S.hx N) q2) (by simp[l2])
def Yx(K:qF)(hd:Option aq)(O:aq->Prop)(H:Hp):List V->List af->Prop:=cZ (RepT K hd O H)
def DBL(X:Cx)(es:List aP)(d:DTA):Prop:=∃y,PB X es y/\∀(C:Ctx) (v:En) (σ:St) (H:Hp) (n:Nat) (Q:List V->Hp->Prop) (R:List af->Nat->Prop),Stt X.K C v σ H n->d v n R ->
 (∀ts G x l,R ts G->ExtE C.hd H l->Hn C.hd l G->Yx X.K C.hd (Own C v σ) l x ts->ts.length=es.length->Q x l)->y σ H Q
theorem Jn:DBL X [] dNil:=⟨_,Qg,fun C x σ H n Q R S h v=>v [] n [] H h ExtE.refl S.hnd .nil rfl⟩
theorem Jf(h:DL X e d)(l:DBL X es ds)(hs:starEach (e::es) X.env=(false,eval e X.env)::starEach es X.env):DBL X (e::es) (Qb d ds):=by
 obtain⟨ta,pa,h⟩:=h;obtain⟨tb,Z,l⟩:=l;refine⟨_,JU pa Z hs,fun C x σ H n Q R S hd J=>?_⟩
 refine h C x σ H n _ _ S hd fun t n1 v I r y U N=>?_
 refine l C x σ I n1 _ _ (S.on y U) r fun ts n2 vs L r2 G Y q2 l2=>?_
 exact J _ n2 _ L r2 (y.trans G) Y (.cons (G.repT S.hx N) q2) (by simp[l2])
def dTup(ds:DTA):DTE:=fun v n R=>ds v n fun ts x=>R (.tuple ts) x
theorem Js(h:DB X es ds)(U:es.length<=sizeLine:=by decide):DE X (.Tuple es x1 pos) (dTup ds):=by
 obtain⟨ta,pa,h⟩:=h;refine⟨_,zpj pa,fun C L σ H n Q R S hd J=>?_⟩
 refine h C L σ H n _ _ S hd fun ts Y vs Z r G y x N=>⟨by rw[x.length,N];exact U,fun p v=>?_⟩
 have I:=S.on G y;exact J _ Y _ _ r (G.trans (ExtE.new v)) (y.same (JO v)) (.newT (I.free v) v x)
theorem Jt(h:DB X es ds)(hl:es.length<=sizeLine:=by decide):DN X (.List es pos) ds:=by
 obtain⟨ta,pa,h⟩:=h;refine⟨_,zkL pa,fun C U σ H n Q R S hd N=>?_⟩
 refine h C U σ H n _ _ S hd fun ts n1 Z H1 r G x J Y=>⟨by rw[J.length,Y];exact hl,fun p l=>?_⟩
 have S1:=S.on G x;have I:H p=none:=by
  cases z:H p with
  | none=>rfl
  | some o =>
   by_cases y:C.hd=some p
   ·obtain⟨d,m,t,q,_⟩:=x p y;rw[l]at q;cases q
   ·rw[G p o z y]at l;cases l
 refine N ts n1 p Z _ r (G.trans (ExtE.new l)) (x.same (JO l)) I JJ ?_;refine J.mono (fun b o v z=>z.elim id fun z=>?_) fun b o _ v=>JO l b o v
 subst z;rw[l]at v;cases v
end
section
variable{X:Cx}{a b c e:aP}{es rest:List aP}{d da db dc:DTE}{ds:DTA}{pos p:Pos}{k:Nat}{x:Str}
abbrev GC:=List af->(af->Prop)->Prop
def YX(g:GC)(ds:DTA):DTE:=fun l n R=>ds l n fun ts u=>g ts fun z=>R z u
def GpC(X:Cx)(r:List V->Hp->VK->Prop)(g:GC):Prop:=∀(hd:Option aq) (O:aq->Prop) (H:Hp) (xs:List V) (ts:qD) (Q:VK) (R:af->Prop),(∀p,O p->H p≠none)->Yx X.K hd O H xs ts->g ts R ->
 (∀z v l,R z->Same H l->Rep X.K hd O l v z->Q v l)->r xs H Q
theorem Jv{id:String}{r:List V->Hp->VK->Prop}{g:GC}(hc:JG X (.builtin id) r)(v:GpC X r g)(hm:X.mg x=none)(hv:bootBuiltins x=some (.builtin id))(h:DBL X (e::es) ds)(hg:Gl X x:=by rfl)(hn:x ≠ "__name__":=by decide) (y:(x == ("__debug__":Str))=false:=by rfl) :
  DE X (.Call (.Name x p) (e::es) [] pos) (YX g ds):=by
 obtain⟨ta,pa,h⟩:=h;refine⟨_,Uk hc hm hv pa hg hn y,fun C G σ H n Q R S hd hq=>?_⟩
 refine h C G σ H n _ _ S hd fun ts n1 vs Y r1 J I q1 _=>?_
 have U:=S.on J I;exact v C.hd (Own C G σ) Y vs ts Q _ (fun p=>U.dom) q1 r1 fun z u H' Z L rp=>hq z n1 u H' Z (J.trans L.ext) (I.same L) rp
theorem Qk(hc:JG X (.type T) r)(v:GpC X r g)(hm:X.mg x=none)(hv:bootBuiltins x=some (.type T))(h:DBL X (e::es) ds)(hg:Gl X x:=by rfl)(hn:x ≠ "__name__":=by decide) (G:(x == ("__debug__":Str))=false:=by rfl) :
  DE X (.Call (.Name x p) (e::es) [] pos) (YX g ds):=by
 obtain⟨ta,pa,h⟩:=h;refine⟨_,ZQ hc hm hv pa hg hn G,fun C I σ H n Q R S hd hq=>?_⟩
 refine h C I σ H n _ _ S hd fun ts n1 vs Z r1 L J q1 _=>?_
 have Y:=S.on L J;exact v C.hd (Own C I σ) Z vs ts Q _ (fun p=>Y.dom) q1 r1 fun z u H' rz U rp=>hq z n1 u H' rz (L.trans U.ext) (J.same U) rp
theorem Qr{K:qF}{hd:Option aq}{O:aq->Prop}{H:Hp}{xs:List V}{t:af}(h:Yx K hd O H xs [t]):∃v,xs=[v]/\RepT K hd O H v t:=by
 cases h with
 | cons h r=>cases r;exact⟨_,rfl,h⟩
theorem Va{K:qF}{hd:Option aq}{O:aq->Prop}{H:Hp}{xs:List V}{t u:af}(h:Yx K hd O H xs [t,u]):∃v w,xs=[v,w]/\RepT K hd O H v t/\RepT K hd O H w u:=by
 cases h with
 | cons h r=>cases r with|cons l r=>cases r;exact⟨_,_,rfl,h,l⟩
def bLen:GC:=fun l R=>(∃ts,l=[.list ts]/\R (.int ts.length))\/(∃ts,l=[.tuple ts]/\R (.int ts.length))\/(∃x:Str,l=[.str x]/\x.length<=16777216/\R (.int x.length))\/∃ts,l=[.dict [(.none,.list ts)]]/\R (.int ts.length)
def rLen(K:qF):List V->Hp->VK->Prop:=fun xs H Q=>∃x n,xs=[x]/\LenV K x H n/\Q (.int n) H
theorem Ur:GpC X (rLen X.K) bLen:=by
 intro hd O H xs ts Q R dom rs h y;rcases h with⟨ts,rfl,h⟩|⟨ts,rfl,h⟩|⟨x,rfl,h⟩|⟨ts,rfl,h⟩
 ·obtain⟨v,rfl,r⟩:=Qr rs;obtain⟨p,I,rfl,u,G⟩:=r.lstI;exact⟨_,_,rfl,.inl ⟨I,.of u,rfl⟩,by rw[G.length];exact y _ _ H h (Same.refl H) (.int _)⟩
 ·obtain⟨v,rfl,r⟩:=Qr rs;obtain⟨p,I,rfl,u,G⟩:=r.tupI;exact⟨_,_,rfl,.inr ⟨I,u,rfl⟩,by rw[G.length];exact y _ _ H h (Same.refl H) (.int _)⟩
 ·obtain⟨v,rfl,r⟩:=Qr rs;rw[r.strI];exact⟨_,_,rfl,⟨h.1,rfl⟩,y _ _ H h.2 (Same.refl H) (.int _)⟩
 ·obtain⟨v,rfl,r⟩:=Qr rs;have r:=r.rep (by intro _ z;cases z)
  generalize e:(uX [(l9,uY ts)])=t at r;cases r with
  | scr u o =>
   simp only[SCR,kH,gJ,kQ,nK,true_and,and_true]at e;subst e;exact⟨_,_,rfl,.inl ⟨_,.inl u,rfl⟩,by simpa using y _ _ H h (Same.refl H) (.int _)⟩
  | scrS u =>
   simp only[SCR,kH,gJ,kQ,nK,true_and,and_true]at e;subst e;exact⟨_,_,rfl,.inl ⟨_,u H,rfl⟩,by simpa using y _ _ H h (Same.refl H) (.int _)⟩
  | hand _=>simp[HAND]at e
  | exc _ _=>simp[EXC]at e
  | dct _ _=>cases e
  | dcK _ _ _ C=>cases e;exact(dict_noK C).elim
  | dcT _ _ _ C=>cases e;exact(dict_noT C).elim
  | _=>cases e
def bMin:GC
 | [.int i,.int j],R=>R (.int (if j<i then j else i))
 | _,_=>False
def bMax:GC
 | [.int i,.int j],R=>R (.int (if j > i then j else i))
 | _,_=>False
theorem UU:GpC X (fun xs H Q=>∃i j,xs=[.int i,.int j]/\Q (.int (if j<i then j else i)) H) bMin:=by
 intro hd O H xs ts Q R dom rs h u;unfold bMin at h;split at h
 ·obtain⟨v,w,rfl,l,y⟩:=Va rs;rw[l.intI,y.intI];exact⟨_,_,rfl,u _ _ H h (Same.refl H) (.int _)⟩
 ·exact h.elim
theorem Y0:GpC X (fun xs H Q=>∃i j,xs=[.int i,.int j]/\Q (.int (if j > i then j else i)) H) bMax:=by
 intro hd O H xs ts Q R dom rs h u;unfold bMax at h;split at h
 ·obtain⟨v,w,rfl,l,y⟩:=Va rs;rw[l.intI,y.intI];exact⟨_,_,rfl,u _ _ H h (Same.refl H) (.int _)⟩
 ·exact h.elim
def bAbs:GC
 | [.int i],R=>R (.int (if i<0 then -i else i))
 | _,_=>False
theorem ztG:GpC X (fun xs H Q=>∃i,xs=[.int i]/\Q (.int (if i<0 then -i else i)) H) bAbs:=by
 intro hd O H xs ts Q R dom rs h u;unfold bAbs at h;split at h
 ·obtain⟨v,rfl,l⟩:=Qr rs;rw[l.intI];exact⟨_,rfl,u _ _ H h (Same.refl H) (.int _)⟩
 ·exact h.elim
def bInt:GC
 | [.int i],R=>R (.int i)
 | [.bool k],R=>R (.int (if k then 1 else 0))
 | _,_=>False
theorem Z7:GpC X (fun xs H Q=>(∃i,xs=[.int i]/\Q (.int i) H)\/∃k,xs=[.bl k]/\Q (.int (if k then 1 else 0)) H) bInt:=by
 intro hd O H xs ts Q R dom rs h y;unfold bInt at h;split at h
 ·obtain⟨v,rfl,u⟩:=Qr rs;rw[u.intI];exact .inl ⟨_,rfl,y _ _ H h (Same.refl H) (.int _)⟩
 ·obtain⟨v,rfl,u⟩:=Qr rs;rw[u.blI];exact .inr ⟨_,rfl,y _ _ H h (Same.refl H) (.int _)⟩
 ·exact h.elim
def bAll:GC
 | [.list ts],R=>∃bs:List Bool,ts=bs.map cF/\R (.bool (bs.all id))
 | _,_=>False
theorem VS{K:qF}{hd:Option aq}{O:aq->Prop}{H:Hp}:∀{ns:List Bool}{l:List V},Reps K hd O H l (ns.map cF)->l=ns.map V.bl
 | [],_,h=>by cases h;rfl
 | n::ns,_,h=>by
  cases h with
  | cons h r=>rw[h.blI,VS r];rfl
theorem zlN:GpC X (fun xs H Q=>∃(a:aq) (bs:List Bool),xs=[.ref a]/\SqL X.K H a (bs.map V.bl)/\Q (.bl (bs.all id)) H) bAll:=by
 intro hd O H xs ts Q R dom rs h C;unfold bAll at h;split at h
 ·obtain⟨bs,rfl,h⟩:=h;obtain⟨v,rfl,y⟩:=Qr rs;obtain⟨p,I,rfl,u,G⟩:=y.lstI;rw[VS G]at u;exact⟨p,bs,rfl,.of u,C _ _ H h (Same.refl H) (.bl _)⟩
 ·exact h.elim
def Y2:GC
 | [.list ts],R=>R (.tuple ts)
 | [.tuple ts],R=>R (.tuple ts)
 | _,_=>False
theorem Q6:GpC X (fun xs H Q=>∃p ys,xs=[.ref p]/\((SqL X.K H p ys/\∀l,H l=none->Q (.ref l) (upd H l (.tup ys)))\/(SqT X.K H p ys/\Q (.ref p) H))) Y2:=by
 intro hd O H xs ts Q R dom rs h J;unfold Y2 at h;split at h
 ·obtain⟨v,rfl,y⟩:=Qr rs;obtain⟨p,G,rfl,C,L⟩:=y.lstI;refine⟨p,G,rfl,.inl ⟨.of C,fun l I=>?_⟩⟩
  exact J _ _ _ h (JO I) (.newT (fun z=>dom l z I) I L)
 ·obtain⟨v,rfl,y⟩:=Qr rs;obtain⟨p,G,rfl,C,L⟩:=y.tupI;exact⟨p,G,rfl,.inr ⟨C,J _ _ H h (Same.refl H) (y.rep (by intro _ z;cases z))⟩⟩
 ·exact h.elim
def JX:af->(List af->Prop)->Prop
 | .list ts,R=>R ts
 | .tuple ts,R=>R ts
 | _,_=>False
def tyN:af->Option String
 | .none=>some "NoneType"
 | .bool _=>some "bool"
 | .int _=>some "int"
 | .str _=>some "str"
 | .list _=>some "list"
 | .tuple _=>some "tuple"
 | .dict []=>some "dict"
 | .dict _=>none
def rIsi(K:qF):List V->Hp->VK->Prop:=fun xs H Q=>∃x hd O t T y b,xs=[x,.ty T]/\RepT K hd O H x t/\tyN t=some y/\kitB y T=some b/\Q (.bl b) H
theorem zmq:JG X (.builtin "isinstance") (rIsi X.K):=by
 intro pins s σ H xs us Q I r h;obtain⟨x,hd,O,t,T,y,b,rfl,N,ty,e,q⟩:=h;cases r with
 | cons C r2 =>
  cases r2 with
  | cons U r4 =>
   cases r4;cases(show _=bq T from U)
   have fin:∀R,tyN t=some R->R=y:=fun R h=>aM (h.symm.trans ty)
   have go:Ty H x y->wpAny (model X.prog X.w) X.A (call (.builtin "isinstance") [_,bq T]) (EP X pins σ Q) X.xe s:=fun ty=>zlD I C ty.of ((Yk X.K y T).trans e) fun tk=>⟨.bl b,H,I.tok tk,rfl,q⟩
   rcases N with N|⟨a,vs,ds,rfl,rfl,L,S,_⟩|⟨a,zs,J,G,rfl,rfl,L,S,_⟩
   ·cases N with
    | non=>cases ty;exact go .non
    | bl b=>cases ty;exact go (.bl b)
    | int i=>cases ty;exact go (.int i)
    | str i=>cases ty;exact go (.str i)
    | tup h o r=>cases ty;exact go (.tup h)
    | lst h o r=>cases ty;exact go (.lst h)
    | @dct a J h o =>
      cases ty;cases(show _=bM a from C)
      obtain⟨⟨_,_,_,v,es,g1,g2,_⟩,_⟩:=I.hok a _ h;exact bG eU I.kIn ⟨v,g1,g2.1⟩ ((Yk X.K "dict" T).trans e) (fun z=>nomatch z) fun tk=>⟨.bl b,H,I.tok tk,rfl,q⟩
    | @dcK a kvs J G ps h o r e' =>
     cases ps with
     | nil =>
      cases ty;cases(show _=bM a from C)
      obtain⟨⟨_,_,_,v,es,g1,g2,_⟩,_⟩:=I.hok a _ h;exact bG eU I.kIn ⟨v,g1,g2.1⟩ ((Yk X.K "dict" T).trans e) (fun z=>nomatch z) fun tk=>⟨.bl b,H,I.tok tk,rfl,q⟩
     | cons _ _=>simp[tyN]at ty
    | @dcT a zs J G ps h o r e' =>
     cases ps with
     | nil =>
      cases ty;cases(show _=bM a from C)
      obtain⟨⟨_,_,_,v,es,g1,g2,_⟩,_⟩:=I.hok a _ h;exact bG eU I.kIn ⟨v,g1,g2.1⟩ ((Yk X.K "dict" T).trans e) (fun z=>nomatch z) fun tk=>⟨.bl b,H,I.tok tk,rfl,q⟩
     | cons _ _=>simp[tyN]at ty
    | hand h=>simp[HAND,tyN]at ty
    | scr h o=>simp[SCR,tyN]at ty
    | scrS h=>simp[SCR,tyN]at ty
    | exc h o=>simp[EXC,tyN]at ty
    | @tupS a vs ds h r =>
     cases ty;cases(show _=bM a from C)
     obtain⟨o,Y,n,Z,hc,_⟩:=h;exact bG mY I.kIn ⟨o,I.kIn a o Z,hc⟩ ((Yk X.K "tuple" T).trans e) (fun z=>nomatch z) fun tk=>⟨.bl b,H,I.tok tk,rfl,q⟩
   ·cases ty;exact go (.lst L)
   ·cases G with
    | nil =>
     cases ty;cases(show _=bM a from C)
     obtain⟨⟨_,_,_,v,es,g1,g2,_⟩,_⟩:=I.hok a _ L;exact bG eU I.kIn ⟨v,g1,g2.1⟩ ((Yk X.K "dict" T).trans e) (fun z=>nomatch z) fun tk=>⟨.bl b,H,I.tok tk,rfl,q⟩
    | cons _ _=>simp[tyN,Yb]at ty
def Shd(t:af):Prop:=t.showable=true/\t.hasDict=false/\t.depth<=60/\t.shown.length<=16777216
def zrG(K:qF):List V->Hp->VK->Prop:=fun xs H Q=>∃x hd O d,xs=[x]/\RepT K hd O H x d/\Shd d/\Q (.str d.shown) H
theorem VO(y:Room k X.A):JG X (.builtin "repr") (zrG X.K):=by
 intro pins s σ H xs us Q I r h;obtain⟨x,hd,O,d,rfl,U,⟨N,G,h3,J⟩,q⟩:=h;cases r with
 | cons S Z =>
  cases Z;have fin:∀h' tk u,(∀b o,s.heap.get? b=some o->h'.get? b=some o)->EP X pins σ Q (.str d.shown u) { s with heap:=h',toks:=tk }:=fun h' tk u v=>⟨.str d.shown,H,I.kept v,⟨_,rfl⟩,q⟩
  have C:∀tk u,EP X pins σ Q (.str d.shown u) { s with toks:=tk }:=fun tk u=>⟨.str d.shown,H,I.tok tk,⟨_,rfl⟩,q⟩
  obtain⟨as,rd⟩:=U.reads I S G;cases rd with
  | none=>exact P.repr_of_none (by simpa only[gY] using C _ _)
  | bool b=>exact P.repr_of_bool (by simpa only[gY] using C _ _)
  | int i=>exact P.repr_of_int (by simpa[iI] using N) (by simpa only[gY] using C _ _)
  | str x=>exact P.repr_of_str (by simpa only[gY] using C _ _) (by have Y:_<=sizeLine:=J;simpa only[gY] using Y)
  | list a1 a2 R L=>exact pS (.list a1 a2 R L) N (nM G) y.gd (by have:=y.units;omega) (fun _ _ e=>e) (fun h' u tk v=>fin h' tk u v) J
  | tuple a1 a2 R L=>exact pS (.tuple a1 a2 R L) N (nM G) y.gd (by have:=y.units;omega) (fun _ _ e=>e) (fun h' u tk v=>fin h' tk u v) J
  | dict _ _ _ _ _=>simp[cD]at G
def Yz:GC
 | [t],R=>Shd t/\R (.str t.shown)
 | _,_=>False
theorem Vu:GpC X (zrG X.K) Yz:=by
 intro hd O H xs ts Q R dom rs h u;unfold Yz at h;split at h
 ·obtain⟨v,rfl,l⟩:=Qr rs;exact⟨v,hd,O,_,rfl,l,h.1,u _ _ H h.2 (Same.refl H) (.str _)⟩
 ·exact h.elim
end
section
variable{X:Cx}{a b c e:aP}{es rest:List aP}{d da db dc:DTE}{ds:DTA}{pos p:Pos}{k:Nat}{x:Str}
theorem Reps.atI{K:qF}{hd:Option aq}{O:aq->Prop}{H:Hp}{vs ts}{i:Int}{t}(r:Reps K hd O H vs ts)(h:L2.atI ts i=some t):∃v,L2.atI vs i=some v/\Rep K hd O H v t:=by
 unfold L2.atI at h ⊢;rw[r.length];cases e:ixN ts.length i with
 | none=>rw[e]at h;cases h
 | some j =>
  rw[e]at h;have h:ts[j]?=some t:=h;exact r.get h
def oIx:G2
 | .list ts,.int i,R=>match atI ts i with|some t=>R t|none=>False
 | .tuple ts,.int i,R=>match atI ts i with|some t=>R t|none=>False
 | .str x,.int i,R=>x.length<=16777216/\match atI x.cps.toList i with|some c=>R (.str ⟨#[c]⟩)|none=>False
 | _,_,_=>False
theorem zwq:Gp2 X (rIx X.K) oIx:=by
 intro hd O H x y t u Q R dom N C h G;unfold oIx at h;split at h
 ·rename_i ts i;obtain⟨p,S,rfl,J,L⟩:=N.lstI;split at h
  ·rename_i t I;obtain⟨v,ev,U⟩:=L.atI I;exact .inl ⟨p,S,i,v,rfl,C.intI,.of J,ev,G _ _ H h (Same.refl H) U⟩
  ·exact h.elim
 ·rename_i ts i;obtain⟨p,S,rfl,J,L⟩:=N.tupI;split at h
  ·rename_i t I;obtain⟨v,ev,U⟩:=L.atI I;exact .inr (.inl ⟨p,S,i,v,rfl,C.intI,J,ev,G _ _ H h (Same.refl H) U⟩)
  ·exact h.elim
 ·rename_i z i;obtain⟨h0,h⟩:=h;split at h
  ·rename_i c Y;exact .inr (.inr ⟨z,i,c,N.strI,C.intI,h0,Y,G _ _ H h (Same.refl H) (.str _)⟩)
  ·exact h.elim
 ·exact h.elim
theorem Jh(G:DL X a da)(l:DL X b db)(hs:zmE b:=by intro _ _;rfl):DE X (.Subscript a b pos) (dOp oIx da db):=by
 obtain⟨ta,pa,G⟩:=G;obtain⟨tb,pb,l⟩:=l;refine⟨_,Ul zta pa pb hs,fun C U σ H n Q R S h N=>?_⟩
 refine two G l S h fun x y n2 v w Z r2 e I q1 q2=>?_
 exact zwq C.hd (Own C U σ) Z v w x y Q _ (fun p=>I.dom) q1 q2 r2 fun z u H' L J Y=>N z n2 u H' L (e.trans J.ext) (I.hnd.same J) Y
def dNeg(d:DTE):DTE:=fun l n R=>d l n fun t u=>match t with|.int i=>R (.int (-i)) u|_=>False
theorem UR(h:DE X a da):DE X (.UnaryOp .USub a pos) (dNeg da):=by
 obtain⟨Z,pa,h⟩:=h;refine⟨_,zvF zq8 pa,fun C I σ H n Q R S hd G=>?_⟩
 refine h C I σ H n _ _ S hd fun t Y v l r N L J=>?_
 cases t with
 | int i=>rw[J.intI];exact⟨i,rfl,G _ Y _ l r N L (.int _)⟩
 | _=>exact r.elim
def zrI(K:qF):R2:=fun x y H Q=>∃a b xs ys,x=.ref a/\y=.ref b/\SqT K H a xs/\SqT K H b ys/\xs.length+ys.length<=sizeLine /\
 (xs=[]->Q (.ref b) H)/\(ys=[]->Q (.ref a) H)/\∀p,H p=none->Q (.ref p) (upd H p (.tup (xs++ys)))
theorem zpx:OpR X (binaryOp .Add) (zrI X.K):=by
 intro pins s σ H x y v u Q I Z R h;obtain⟨a,b,xs,ys,rfl,rfl,ha,S,hz,q0,q1,q2⟩:=h
 by_cases hx:xs=[]
 ·cases Z;cases R;obtain⟨G,r1,p1,_⟩:=I.tuple ha;obtain⟨J,r2,p2,_⟩:=I.tuple S;have hv:G=[]:=r1.nil_iff.mpr hx;obtain⟨⟨cls,dd,data,sl⟩,U,hc,n,hd⟩:=id p1;obtain⟨⟨Y,N,data2,L⟩,C,l,n2,hd2⟩:=id p2;simp only at hc hd l hd2;subst hc hd l hd2;exact nE ⟨_,U,rfl⟩ ⟨_,C,rfl⟩ kY mS gX gQ (gF _ _)
   (tuple_addW0 a b G.toArray J.toArray n n2 dd N sl L (by simp[hv])) ⟨U,C,⟨.ref b,H,I,rfl,q0 hx⟩⟩
 ·exact zpw pins s σ H _ _ v u Q I Z R ⟨a,b,xs,ys,rfl,rfl,ha,S,hx,hz,q1,fun _=>q2⟩
def oAdd:G2
 | .int i,.int j,R=>R (.int (i+j))
 | .str i,.str j,R=>i.length+j.length<=16777216/\R (.str (i++j))
 | .tuple xs,.tuple ys,R=>xs.length+ys.length<=16777216/\R (.tuple (xs++ys))
 | _,_,_=>False
def zrJ(K:qF):R2:=fun x y H Q=>(rI0 fun i j=>.int (i+j)) x y H Q\/(∃i j,x=.str i/\y=.str j/\i.length+j.length<=sizeLine/\Q (.str (i++j)) H)\/zrI K x y H Q
theorem zpy:OpR X (binaryOp .Add) (zrJ X.K):=OpR.or Q1 (OpR.or zjK zpx)
theorem ztF:Gp2 X (zrJ X.K) oAdd:=by
 intro hd O H x y t u Q R dom G C h v;unfold oAdd at h;split at h
 ·exact .inl ⟨_,_,G.intI,C.intI,v _ _ H h (Same.refl H) (.int _)⟩
 ·exact .inr (.inl ⟨_,_,G.strI,C.strI,h.1,v _ _ H h.2 (Same.refl H) (.str _)⟩)
 ·rename_i xs ys;obtain⟨p,Y,rfl,U,J⟩:=G.tupI;obtain⟨q,S,rfl,N,I⟩:=C.tupI;refine .inr (.inr ⟨p,q,Y,S,rfl,rfl,U,N,by rw[J.length,I.length];exact h.1,fun e=>?_,fun e=>?_,fun l L=>?_⟩)
  ·subst e;cases J;exact v _ _ H h.2 (Same.refl H) (C.rep (by intro _ z;cases z))
  ·subst e;cases I;exact v _ _ H h.2 (Same.refl H) (by rw[bT];exact G.rep (by intro _ z;cases z))
  ·exact v _ _ _ h.2 (JO L) (.newT (fun z=>dom l z L) L (J.append I))
 ·exact h.elim
theorem JF(u:DL X a da)(l:DL X b db):DE X (.BinOp a .Add b pos) (dOp oAdd da db):=QO zpy ztF u l
def dCat(da db:DTE):DTA:=fun u n R=>da u n fun x C=>db u C fun y v=>match x,y with|.list xs,.list ys=>xs.length+ys.length<=16777216/\R (xs++ys) v|_,_=>False
theorem Zt{C:Ctx}{H l:Hp}{I:Nat}{p:aq}(G:ExtE C.hd H l)(v:Hn C.hd l I)(u:l p=none):H p=none:=by
 cases z:H p with
 | none=>rfl
 | some o =>
  by_cases y:C.hd=some p
  ·obtain⟨d,m,t,q,_⟩:=v p y;rw[u]at q;cases q
  ·rw[G p o z y]at u;cases u
theorem zne{K:qF}{hd:Option aq}{O:aq->Prop}{H:Hp}{p:aq}{o:HO}{vs ts}(u:H p=none)(r:Reps K hd O H vs ts):Reps K hd (fun a=>O a\/a=p) (upd H p o) vs ts:=by
 refine r.mono (fun b o l z=>z.elim id fun z=>?_) fun b o _ l=>JO u b o l
 subst z;rw[u]at l;cases l
theorem Yg(J:DL X a da)(I:DL X b db):DN X (.BinOp a .Add b pos) (dCat da db):=by
 obtain⟨ta,pa,J⟩:=J;obtain⟨tb,pb,I⟩:=I;refine⟨_,JD zsm pa pb,fun C ρ σ H n Q R S h Z=>?_⟩
 refine two J I S h fun x y n2 v w H2 u e U q1 q2=>?_
 split at u
 ·obtain⟨p,vs,rfl,h1,N⟩:=q1.lstI;obtain⟨q,ws,rfl,Y,L⟩:=q2.lstI;refine⟨p,q,vs,ws,rfl,rfl,h1,Y,by rw[N.length,L.length];exact u.1,fun l G=>?_⟩
  exact Z _ n2 l _ _ u.2 (e.trans (ExtE.new G)) (U.hnd.same (JO G)) (Zt e U.hnd G) JJ (zne G (N.append L))
 ·exact u.elim
def oMul:=gI CMul fun i j=>i*j
theorem UQ(y:DL X a da)(v:DL X b db):DE X (.BinOp a .Mult b pos) (dOp oMul da db):=QO QV gp_I y v
abbrev GD:=List af->Nat->(af->Nat->Prop)->Prop
def spD(K:qF)(m:Nat)(g:GD):Sp:=fun y H Q _=>∃(hd:Option aq) (O:aq->Prop) (ts:qD) (n:Nat) (R:qN),Reps K hd O H y ts/\Hn hd H n/\(∀a,O a->MutO (H a))/\(∀a,hd=some a->O a)/\ts.length=m/\g ts n R /\
 ∀t u v l,R t u->ExtE hd H l->Hn hd l u->Rep K hd O l v t->Q v l
def dFn(g:GD)(ds:DTA):DTE:=fun l n R=>ds l n fun ts u=>g ts u R
theorem zwt{st:dD}{ps:List Str}{f:aq}{fd:cP}{g:GD}{m:Nat}(D:Bd.Def X.K X.mg x st ps f fd)(G:FnOk X.prog X.w X.K X.mg X.base CX0 k f fd ps (spD X.K m g))(L:Room k X.A)(h:DB X (e::es) ds)(hm:(e::es).length=m:=by rfl)(hg:Gl X x:=by rfl)
  (u:(x == ("__debug__":Str))=false:=by rfl):DE X (.Call (.Name x p) (e::es) [] pos) (dFn g ds):=by
 obtain⟨ta,pa,h⟩:=h;refine⟨_,Bd.zpl D G L pa hg u,fun C y σ H n Q R S hd Z=>?_⟩
 refine h C y σ H n _ _ S hd fun ts n1 vs H1 Y J I q1 l1=>?_
 have U:=S.on J I;rw[bT];exact⟨C.hd,Own C y σ,ts,n1,R,q1,I,fun a=>U.lst,fun a z=>.inl (S.hx a z),l1.trans hm,Y,fun t n' v H' rt e2 h2 q2=>Z t n' v H' rt (J.trans e2) h2 q2⟩
def dFnL(g:GD)(ds:DTA):DTE:=fun u n R=>ds u n fun ts v=>g ts v fun t l=>JS t=true/\R t l
theorem zt3{st:dD}{ps:List Str}{f:aq}{fd:cP}{g:GD}{m:Nat}(D:Bd.Def X.K X.mg x st ps f fd)(G:FnOk X.prog X.w X.K X.mg X.base CX0 k f fd ps (spD X.K m g))(hr:Room k X.A)(h:DBL X (e::es) ds)(hm:(e::es).length=m:=by rfl)(hg:Gl X x:=by rfl)
  (U:(x == ("__debug__":Str))=false:=by rfl):DE X (.Call (.Name x p) (e::es) [] pos) (dFnL g ds):=by
 obtain⟨ta,pa,h⟩:=h;refine⟨_,Bd.zpl D G hr pa hg U,fun C Z σ H n Q R S hd hq=>?_⟩
 refine h C Z σ H n _ _ S hd fun ts n1 u Y r1 e1 L q1 l1=>?_
 have S1:=S.on e1 L;rw[bT];have lend:∀{u ts},Yx X.K C.hd (Own C Z σ) Y u ts->Reps X.K C.hd (fun a=>C.hd=some a) Y u ts:=by
  intro u ts q;induction q with
  | nil=>exact .nil
  | cons r _ ih =>
   refine .cons ?_ ih;rcases r with r|⟨a,ws,us,rfl,rfl,I,y,J⟩|⟨a,zs,ep,ks,rfl,rfl,I,y,J⟩
   ·exact r.mono (fun a o _ z=>.inl (S.hx a z)) fun _ _ _ z=>z
   ·exact .lst I J (y.mono (fun a o _ z=>.inl (S.hx a z)) fun _ _ _ z=>z)
   ·exact .dcT I J (y.mono (fun a o _ z=>.inl (S.hx a z)) fun _ _ _ z=>z) rfl
 refine⟨C.hd,fun a=>C.hd=some a,ts,n1,_,lend q1,L,fun a z=>?_,fun a z=>z,l1.trans hm,r1,fun t n' v H' rt e2 h2 q2=>?_⟩
 ·obtain⟨d,m,t,q,_⟩:=L a z;exact .inl ⟨_,q⟩
 ·exact hq t n' v H' rt.2 (e1.trans e2) h2 (q2.up (fun a z=>(S1.on e2 h2).lst z) rt.1)
end
section
variable{X:Cx}{pins:qO}{σ:St}{H H':Hp}{s s':au}{C e:aq}
theorem Inv.land(I:Inv X pins σ H s)(st:∀b o,s.heap.get? b=some o->b∉frs X.stack->h''.get? b=some o)(up:∀b o,s.heap.get? b=some o->b∈frs X.stack->∃l,h''.get? b=some { o with slots:=l }) :
  Un (frs X.stack) [] H H s.heap h''/\HOk X.prog X.w H h'':=by
 refine⟨⟨fun b o e _ x _=>st b o e x,fun b o e _ hf _=>up b o e hf,fun _ _ _ n _=>n,fun b o e _=>?_,fun _ _ q=>q,fun _ _ _ q=>q,fun _ _ q=>q⟩,fun a u e=>?_⟩
 ·by_cases hf:b∈frs X.stack
  ·obtain⟨l,q⟩:=up b o e hf;exact⟨_,q⟩
  ·exact⟨o,st b o e hf⟩
 ·refine(I.hok a u e).stay (fun c v hc q=>st c v q fun hf=>?_) (fun _ q=>q) (fun _ _ q=>q) fun _ _ _ q=>q
  have n:=I.stkFree c hf;rcases hc with z|z
  ·rw[z]at n;rw[n]at e;cases e
  ·rw[n]at z;cases z
def Fly1(P:aK)(w:aQ)(l:List Env)(H H':Hp)(h:aN)(C e:aq)(h':aN):Prop :=
 ∃B u,nN B l e (.ref C) u h'/\H' e=none/\h.get? e=none/\∀h'',B.StaysIn h''->h'.UpToSlots h''->Un (frs l) [] H H' h h''/\HOk P w H' h''
def CX1(P:aK)(w:aQ):CXT:=fun outer H s E e s'=>∃l C H',e=.ref l/\s'.os=s.os/\iz s'.gens/\Fly1 P w outer H H' s.heap C l s'.heap/\E (.ref C) none H'
inductive FlyX (X:Cx)(C:aq)(H':Hp)(e:aq)(s':au):Prop
 | made {Ig:qO} {σ':St} {s h1} (I:Inv X Ig σ' H' s) (m:Heap.MadeExcOf s.heap h1 e (.ref C) []) (hs:s'={ s with heap:=h1 })
 | on {Ig:qO} {σ':St} {H1:Hp} {s} (I:Inv X Ig σ' H1 s) (os:s'.os=s.os) (bare:iz s'.gens) (f:Fly1 X.prog X.w X.stack H1 H' s.heap C e s'.heap)
def XW(X:Cx)(C:aq)(H':Hp):Prop:=∀e s',FlyX X C H' e s'->X.xe (.ref e) s'
theorem zvH:Z2 (CX1 X.prog X.w) X (fun y _ H'=>∃C,y=.ref C/\XW X C H'):=fun pins σ H s e s' I l=>by
 obtain⟨x,C,H',rfl,os,bare,f,G,v,u⟩:=l;cases v;exact u x s' (.on I os bare f)
theorem zlJ(x:HOk P w H h)(e:H a=some u):∃o,h.get? a=some o:=by
 have x:=x a u e;cases u with
 | lst xs=>obtain⟨_,_,_,_,e⟩:=x;exact⟨_,e⟩
 | tup xs=>obtain⟨_,_,_,o,e,_⟩:=x;exact⟨_,e⟩
 | dK l=>obtain⟨_,_,_,_,o,_,_,e,_⟩:=x;exact⟨_,e⟩
 | dT l=>obtain⟨_,_,_,_,o,_,_,e,_⟩:=x;exact⟨_,e⟩
 | set S n=>obtain⟨o,_,_,_,e,_⟩:=x;exact⟨_,e⟩
 | ins C v fs=>obtain⟨_,_,_,e,_⟩:=x;exact⟨_,e⟩
 | own y=>obtain⟨_,e⟩:=x;exact⟨_,e⟩
 | xd fs=>obtain⟨_,⟨_,_,_,e,_⟩,_⟩:=x;exact⟨_,e⟩
 | rng lo hi=>obtain⟨_,_,_,e⟩:=x;exact⟨_,e⟩
 | frz G u=>obtain⟨e,_⟩:=x;exact⟨_,e⟩
 | tbl ps=>obtain⟨_,e,_⟩:=x;exact⟨_,e⟩
 | met f y=>exact⟨_,show h.get? a=some _ from x⟩
 | ext I=>obtain⟨_,e,_⟩:=x;exact e
theorem znZ(x:HOk P w H h)(n:h.get? a=none):H a=none:=by
 cases q:H a with
 | none=>rfl
 | some u=>obtain⟨o,e⟩:=zlJ x q;rw[n]at e;cases e
end
section
variable{P:aK}{w:aQ}{K:qF}{mg:qM}{base:aN}{N:List Str}{qual:Str}{scope:fv}{f:aq}{cd:ah}{A:br}{outer:List Env}{s₀:au}{H₀:Hp}{E:XK}{C:aq}{H':Hp}
theorem zmV(hE:E (.ref C) none H'):XW (cxOf (CX1 P w) P w K mg base N qual scope f cd A outer s₀ H₀ E) C H':=by
 intro e s' fx;generalize hX:cxOf (CX1 P w) P w K mg base N qual scope f cd A outer s₀ H₀ E=X at fx;have Y:X.xe=fun e s'=>wpAny (model P w) (A.deeper (envOfC qual scope s₀.heap.objs.size f cd)) (leaving (envOfC qual scope s₀.heap.objs.size f cd) e) (fun _ y=>CX1 P w outer H₀ s₀ E e y) (fun e' y=>CX1 P w outer H₀ s₀ E e' y) s':=by rw[<- hX];rfl
 have l:X.stack=envOfC qual scope s₀.heap.objs.size f cd::outer:=by rw[<- hX];rfl
 have hA:X.A=A.deeper (envOfC qual scope s₀.heap.objs.size f cd):=by rw[<- hX];rfl
 have v:X.s₀=s₀:=by rw[<- hX];rfl
 have Z:X.H₀=H₀:=by rw[<- hX];rfl
 have hex:X.ex=[]:=by rw[<- hX];rfl
 have U:X.fs=frs outer:=by rw[<- hX];rfl
 have hP:X.prog=P:=by rw[<- hX];rfl
 have hw:X.w=w:=by rw[<- hX];rfl
 have fin:∀{pins σ H s} (I:Inv X pins σ H s) {h'':aN},Un (frs X.stack) [] H H' s.heap h''->HOk X.prog X.w H' h''->Un (frs outer) [] H₀ H' s₀.heap h''/\HOk P w H' h'':=fun {pins σ H s} I {h''} u x=>by
  have J:=(I.call (h':=h'') (g':=s.gens) (d':=s.drawn) (t':=s.toks) u x I.bare (fun b z=>absurd z (by simp))).base
  rw[hex,U,Z,v]at J;rw[hP,hw]at x;exact⟨J,x⟩
 have old:∀{pins σ H s} (I:Inv X pins σ H s) {a:aq},s.heap.get? a=none->s₀.heap.get? a=none:=fun {pins σ H s} I {a} n=>by
  cases q:s₀.heap.get? a with
  | none=>rfl
  | some o =>
   have b:=I.base;rw[v]at b;obtain⟨o',z⟩:=b.there a o q (by rw[hex];simp)
   rw[n]at z;cases z
 rw[Y];cases fx with
 | @made pins σ s h1 I m hs =>
  subst hs;have fr:(A.deeper (envOfC qual scope s₀.heap.objs.size f cd)).frames=some (envOfC qual scope s₀.heap.objs.size f cd::outer):=by rw[<- hA,<- l];exact I.ok.frames
  have ff:=I.stack;rw[l]at ff;refine wpAny_leaves_madeW (base:=oP s.heap (frs X.stack)) (h:=s.heap) fr rfl (fun b o q=>mX _ q) (PySem.W.funFrames_hide ff fun env he b hb=>by rw[l];exact fw.mpr ⟨env,he,hb⟩) m fun h' t fl tup bt up=>?_
  refine⟨e,C,H',rfl,I.os.trans (by rw[v]),I.bare,⟨_,_,fl,znZ I.hok m.new,old I m.new,fun h'' st G=>?_⟩,hE⟩
  obtain⟨u,x⟩:=I.land (h'':=h'') (fun b o q nf=>st b o (mH _ q nf)) (fun b o q hf=>by
   obtain⟨_,o',L,hnf⟩:=I.stack.mem hf;rw[q]at L;cases L;exact(up.trans G) b o (m.keeps b o q) hnf)
  exact fin I u x
 | @on pins σ H s I os bare g =>
  obtain⟨B,a0,fl,ne,nn,st⟩:=g;have fr:(A.deeper (envOfC qual scope s₀.heap.objs.size f cd)).frames=some (envOfC qual scope s₀.heap.objs.size f cd::outer):=by rw[<- hA,<- l];exact I.ok.frames
  rw[l]at fl;refine wpAny_leaves_onW fr rfl fl fun h' R up=>⟨e,C,H',rfl,(os.trans I.os).trans (by rw[v]),bare,⟨B,a0,R,ne,old I nn,fun h'' S G=>?_⟩,hE⟩
  obtain⟨u,x⟩:=st h'' S (up.trans G);exact fin I u x
end
def ztQ:List ah:=[.type "ValueError",.type "Exception",.type "BaseException",.type "object"]
def OwnX(K:qF)(mg:qM)(x:Str)(C:aq):Prop:=∀h:aN,K.In h->OwnCls x C ztQ "ValueError.__new__" mg h
section
variable{X:Cx}{x:Str}{C:aq}{np HY pos:Pos}
theorem znl(O:OwnX X.K X.mg x C)(hc:X.calm=true)(y:Gl X x)(hd:(x == ("__debug__":Str))=false:=by rfl):PS X (.Raise (some (.Call (.Name x np) [] [] HY)) none pos) (fun _ _ H=>XW X C H):=by
 intro pins s σ H D I h;have v:=(O X.base I.ok.mod.kin).keeps I.bk;obtain⟨G,N,nm,q,bs,hdct,sn,sub,ab,col,dd,k0,k1,k2,k3,k5,mN,L,J,u,T⟩:=v.obj;refine wpAny_Raise_call_subU (C:=C) (nm:=nm) (q:=q) (N:=N) (bs:=bs) (bm:=G) (hdct:=hdct) (sn:=sn) (sub:=sub) (ab:=ab) (col:=col) (dd:=dd) (k0:=k0) (k1:=k1) (k2:=k2) (k3:=k3) (k5:=k5)
  fW (by decide) fW (mN:=mN) (T.hasType fW.hasBase) (I.ok.hd hc) rfl u (UY I y v.bound ⟨rfl,?_⟩ hd)
 exact evalArgs_empty ⟨rfl,eV _,L,J,T,fun h' e m=>h e _ (.made I m rfl)⟩
end
def Keep(C:Ctx)(u:En)(σ:St)(H:Hp)(l:En)(σ':St)(v:Hp):Prop:=∀a o,H a=some o->C.hd≠some a->¬OwnS u σ a->v a=some o/\¬OwnS l σ' a
structure JN where
 nx:En->Nat->Prop
 rt:af->Nat->Prop
 bk:En->Nat->Prop:=fun _ _=>False
 ct:En->Nat->Prop:=fun _ _=>False
 xr:Str->Nat->Prop:=fun _ _=>False
abbrev DTS:=JN->En->Nat->Prop
def XN(X:Cx)(c:Str)(l:Hp):Prop:=∀C,X.mg c=some (.ref C)->XW X C l
structure Good(X:Cx)(C:Ctx)(ρ:En)(σ:St)(H:Hp)(D:Ends)(D':JN):Prop where
 nx:∀ρ' σ' H' n',D'.nx ρ' n'->Stt X.K C ρ' σ' H' n'->Keep C ρ σ H ρ' σ' H'->D.nx σ' H'
 rt:∀t n' v H',D'.rt t n'->Hn C.hd H' n'->(∀a o,H a=some o->C.hd≠some a->¬OwnS ρ σ a->H' a=some o)->Rep X.K C.hd C.ext H' v t->D.rt v H'
 bk:∀ρ' σ' H' n',D'.bk ρ' n'->Stt X.K C ρ' σ' H' n'->Keep C ρ σ H ρ' σ' H'->D.bk σ' H'
 ct:∀ρ' σ' H' n',D'.ct ρ' n'->Stt X.K C ρ' σ' H' n'->Keep C ρ σ H ρ' σ' H'->D.ct σ' H'
 xr:∀c n' H',D'.xr c n'->Hn C.hd H' n'->(∀a o,H a=some o->C.hd≠some a->¬OwnS ρ σ a->H' a=some o)->XN X c H'
def DS(X:Cx)(st:dD)(d:DTS):Prop:=∃ts,PS X st ts/\∀(C:Ctx) (l:En) (σ:St) (H:Hp) (n:Nat) (D:Ends) (u:JN),Stt X.K C l σ H n->d u l n->Good X C l σ H D u->ts D σ H
def DSs(X:Cx)(st:List dD)(d:DTS):Prop:=∃ts,PSs X st ts/\∀(C:Ctx) (l:En) (σ:St) (H:Hp) (n:Nat) (D:Ends) (u:JN),Stt X.K C l σ H n->d u l n->Good X C l σ H D u->ts D σ H
section
variable{K:qF}{C:Ctx}{ρ ρ1 ρ2:En}{σ σ1 σ2:St}{H H1 H2:Hp}{n n1:Nat}{D:Ends}{D':JN}
theorem Keep.refl:Keep C ρ σ H ρ σ H:=fun _ _ h _ no=>⟨h,no⟩
theorem Keep.trans(k1:Keep C ρ σ H ρ1 σ1 H1)(k2:Keep C ρ1 σ1 H1 ρ2 σ2 H2):Keep C ρ σ H ρ2 σ2 H2:=fun a o h u no=>by
 obtain⟨v,l⟩:=k1 a o h u no;exact k2 a o v u l
theorem ExtE.keep(e:ExtE C.hd H H1):Keep C ρ σ H ρ σ H1:=fun a o h l no=>⟨e a o h l,no⟩
theorem Good.on{X:Cx}(g:Good X C ρ σ H D D')(k:Keep C ρ σ H ρ1 σ1 H1):Good X C ρ1 σ1 H1 D D' where
 nx:=fun l σ' x y h S u=>g.nx l σ' x y h S (k.trans u)
 rt:=fun t y v x h N u r=>g.rt t y v x h N (fun a o L I no=>by
  obtain⟨J,G⟩:=k a o L I no;exact u a o J I G) r
 bk:=fun l σ' x y h S u=>g.bk l σ' x y h S (k.trans u)
 ct:=fun l σ' x y h S u=>g.ct l σ' x y h S (k.trans u)
 xr:=fun c y x h N u=>g.xr c y x h N fun a o L I no=>by
  obtain⟨J,G⟩:=k a o L I no;exact u a o J I G
theorem Keep.rep(k:Keep C ρ σ H ρ1 σ1 H1)(hx:∀a,C.hd=some a->C.ext a){v t}(r:Rep K C.hd (Own C ρ σ) H v t):Rep K C.hd (Own C ρ1 σ1) H1 v t :=
 Rep.mono (O:=Own C ρ σ) (fun a o h z=>by
  by_cases q:Own C ρ σ a
  ·exact q
  ·rcases z with z|z
   ·exact .inl z
   ·exact absurd z (k a o h (fun y=>q (.inl (hx a y))) fun y=>q (.inr y)).2) (fun a o no h=>(k a o h (fun y=>no (.inl (hx a y))) fun y=>no (.inr y)).1) r
theorem Keep.reps(k:Keep C ρ σ H ρ1 σ1 H1)(hx:∀a,C.hd=some a->C.ext a){v t}(r:Reps K C.hd (Own C ρ σ) H v t):Reps K C.hd (Own C ρ1 σ1) H1 v t :=
 Reps.mono (O:=Own C ρ σ) (fun a o h z=>by
  by_cases q:Own C ρ σ a
  ·exact q
  ·rcases z with z|z
   ·exact .inl z
   ·exact absurd z (k a o h (fun y=>q (.inl (hx a y))) fun y=>q (.inr y)).2) (fun a o no h=>(k a o h (fun y=>no (.inl (hx a y))) fun y=>no (.inr y)).1) r
theorem Jw{α:Type}{l:List (Option α)}{i j:Nat}{v w:α}(h:(l.set i (some v))[j]?=some (some w)):(i=j/\v=w)\/(i≠j/\l[j]?=some (some w)):=by
 by_cases e:i=j
 ·subst e;rw[gZ]at h;simp only[↓reduceIte]at h;split at h
  ·simp at h;exact .inl ⟨rfl,h⟩
  ·cases h
 ·rw[aO e]at h;exact .inr ⟨e,h⟩
theorem Yj{α:Type}{l:List (Option α)}{i j:Nat}{v w:α}(e:i≠j)(h:l[j]?=some (some w)):(l.set i (some v))[j]?=some (some w):=by
 rw[aO e];exact h
theorem zov{α:Type}{l:List (Option α)}{i j:Nat}{v:α}{w:Option α}(h:(l.set i (some v))[j]?=some w)(e:i=j):i<l.length:=by
 subst e;rw[gZ]at h;simp only[↓reduceIte]at h;split at h
 ·assumption
 ·cases h
theorem zkn{α:Type}{l:List (Option α)}{i:Nat}{v:α}(h:i<l.length):(l.set i (some v))[i]?=some (some v):=by
 rw[gZ];simp[h]
theorem VG{i:Nat}{t:af}{v:V}{a:aq}(h:OwnS (ρ.set i (some (.val t))) (σ.set i (some v)) a):OwnS ρ σ a:=by
 obtain⟨j,c,m,u,x⟩:=h;rcases Jw u with⟨_,z⟩|⟨e,u⟩
 ·subst z;cases m
 ·rcases Jw x with⟨z,_⟩|⟨_,x⟩
  ·exact absurd z e
  ·exact⟨j,c,m,u,x⟩
def QE(K:qF)(hd:Option aq)(O:aq->Prop)(H:Hp)(a:aq):Cell->Prop
 | .val _=>False
 | .rdo _=>False
 | .own ts=>∃y,H a=some (.lst y)/\Reps K hd O H y ts
 | .dct x=>∃u,H a=some (.dK u)/\UL K hd O H u x
 | .dtt x=>∃zs G,H a=some (ZDO a zs G)/\Qa K hd O H zs x
theorem QE.mono(x:QE K hd O H a c)(y:∀a o,H a=some o->O' a->O a)(G:∀a o,¬O a->H a=some o->H' a=some o)(I:∀o,H a=some o->H' a=some o):QE K hd O' H' a c:=by
 cases c with
 | val _=>exact x.elim
 | rdo _=>exact x.elim
 | own ts=>obtain⟨l,u,v⟩:=x;exact⟨l,I _ u,v.mono y G⟩
 | dct J=>obtain⟨l,u,v⟩:=x;exact⟨l,I _ u,v.mono y G⟩
 | dtt J=>obtain⟨l,L,u,v⟩:=x;exact⟨l,L,I _ u,v.mono y G⟩
theorem QE.some(x:QE K hd O H a c):∃o,H a=some o:=by
 cases c with
 | val _=>exact x.elim
 | rdo _=>exact x.elim
 | own ts=>obtain⟨u,l,v⟩:=x;exact⟨_,l⟩
 | dct y=>obtain⟨u,l,v⟩:=x;exact⟨_,l⟩
 | dtt y=>obtain⟨u,G,l,v⟩:=x;exact⟨_,l⟩
theorem QE.mine(x:QE K hd O H a c):c.mine=true:=by
 cases c with
 | val _=>exact x.elim
 | rdo _=>exact x.elim
 | own ts=>rfl
 | dct l=>rfl
 | dtt l=>rfl
theorem Stt.cell(S:Stt K C ρ σ H n){i:Nat}{c:Cell}(m:c.mine=true)(h:ρ[i]?=some (some c)):∃a:aq,σ[i]?=some (some (V.ref a))/\QE K C.hd (Own C ρ σ) H a c/\¬C.ext a:=by
 cases c with
 | val _=>cases m
 | rdo _=>cases m
 | own ts=>obtain⟨a,l,v,y,x,u⟩:=S.own i ts h;exact⟨a,v,⟨l,y,x⟩,u⟩
 | dct G=>obtain⟨a,l,v,y,x,u⟩:=S.dct i G h;exact⟨a,v,⟨l,y,x⟩,u⟩
 | dtt G=>obtain⟨a,l,I,v,y,x,u⟩:=S.dtt i G h;exact⟨a,v,⟨l,I,y,x⟩,u⟩
def zqW(K:qF)(C:Ctx)(ρ:En)(σ:St)(H:Hp):Prop:=∀(i:Nat) (u:List (Key×af)),ρ[i]?=some (some (Cell.rdo u))->∃a l,σ[i]?=some (some (V.ref a))/\H a=some (.dK l)/\UL K C.hd (Own C ρ σ) H l u/\C.ext a/\C.hd≠some a
theorem Stt.mk'(len:ρ.length=σ.length)(val:∀(i:Nat) (d:af),ρ[i]?=some (some (Cell.val d))->∃v,σ[i]?=some (some v)/\Rep K C.hd (Own C ρ σ) H v d)
  (cell:∀(i:Nat) (c:Cell),c.mine=true->ρ[i]?=some (some c)->∃a:aq,σ[i]?=some (some (V.ref a))/\QE K C.hd (Own C ρ σ) H a c/\¬C.ext a)
  (rdo:zqW K C ρ σ H) (dif:∀(i j:Nat) (c e:Cell) (a:aq),c.mine=true->e.mine=true->ρ[i]?=some (some c)->ρ[j]?=some (some e)->σ[i]?=some (some (V.ref a))->σ[j]?=some (some (V.ref a))->i=j)
  (hnd:Hn C.hd H n) (ext:∀a,C.ext a->MutO (H a)) (hx:∀a,C.hd=some a->C.ext a):Stt K C ρ σ H n where
 len:=len
 val:=val
 own:=fun i ts h=>by obtain⟨a,x,⟨G,y,u⟩,l⟩:=cell i _ rfl h;exact⟨a,G,x,y,u,l⟩
 dct:=fun i ts h=>by obtain⟨a,x,⟨G,y,u⟩,l⟩:=cell i _ rfl h;exact⟨a,G,x,y,u,l⟩
 rdo:=rdo
 dtt:=fun i ts h=>by obtain⟨a,x,⟨G,I,y,u⟩,l⟩:=cell i _ rfl h;exact⟨a,G,I,x,y,u,l⟩
 dif:=dif
 hnd:=hnd
 ext:=ext
 hx:=hx
theorem Stt.put(S:Stt K C ρ σ H n){i:Nat}{t:af}{v:V}(r:Rep K C.hd (Own C ρ σ) H v t):Stt K C (ρ.set i (some (.val t))) (σ.set i (some v)) H n:=by
 have sub:∀a o,H a=some o->Own C (ρ.set i (some (.val t))) (σ.set i (some v)) a->Own C ρ σ a:=fun a o _ z=>z.elim .inl fun z=>.inr (VG z)
 have mono:∀{w u},Rep K C.hd (Own C ρ σ) H w u->Rep K C.hd (Own C (ρ.set i (some (.val t))) (σ.set i (some v))) H w u:=fun q=>q.mono sub fun _ _ _ z=>z
 refine .mk' (by simp[S.len]) (fun j d h=>?_) (fun j c m h=>?_) (fun j ks h=>?_) (fun j k c e a Y U x y I h4=>?_) S.hnd S.ext S.hx
 rotate_left 2
 ·rcases Jw h with⟨_,z⟩|⟨e,h'⟩
  ·cases z
  ·obtain⟨a,L,q1,q2,q3,q4⟩:=S.rdo j ks h';exact⟨a,L,Yj e q1,q2,q3.mono sub fun _ _ _ z=>z,q4⟩
 rotate_left 1
 ·rcases Jw h with⟨e,z⟩|⟨e,h'⟩
  ·cases z;have:=zov h e;subst e;exact⟨v,zkn (by rw[<- S.len];exact this),mono r⟩
  ·obtain⟨w,x,y⟩:=S.val j d h';exact⟨w,Yj e x,mono y⟩
 ·rcases Jw h with⟨e,z⟩|⟨e,h'⟩
  ·subst z;cases m
  ·obtain⟨a,x,y,I⟩:=S.cell m h';exact⟨a,Yj e x,y.mono sub (fun _ _ _ z=>z) fun _ z=>z,I⟩
 ·rcases Jw x with⟨e,z⟩|⟨e,R⟩
  ·subst z;cases Y
  ·rcases Jw y with⟨Z,z⟩|⟨Z,J⟩
   ·subst z;cases U
   ·rcases Jw I with⟨z,_⟩|⟨_,G⟩
    ·exact absurd z e
    ·rcases Jw h4 with⟨z,_⟩|⟨_,N⟩
     ·exact absurd z Z
     ·exact S.dif j k c _ a Y U R J G N
theorem QL:Keep C ρ σ H (ρ.set i (some (.val t))) (σ.set i (some v)) H:=fun a o h _ no=>⟨h,fun z=>no (VG z)⟩
theorem ziZ{i:Nat}{c:Cell}{p a:aq}(h:OwnS (ρ.set i (some c)) (σ.set i (some (.ref p))) a):OwnS ρ σ a\/a=p:=by
 obtain⟨j,ds,m,u,v⟩:=h;rcases Jw v with⟨e,z⟩|⟨e,v⟩
 ·cases z;exact .inr rfl
 ·rcases Jw u with⟨z,_⟩|⟨_,u⟩
  ·exact absurd z e
  ·exact .inl ⟨j,ds,m,u,v⟩
theorem Stt.putNew(S:Stt K C ρ σ H n){i:Nat}{c:Cell}{p:aq}{U:Hp}(e:ExtE C.hd H U)(h:Hn C.hd U n1)(hp:H p=none)(r:QE K C.hd (fun a=>Own C ρ σ a\/a=p) U p c) :
  Stt K C (ρ.set i (some c)) (σ.set i (some (.ref p))) U n1:=by
 have S':=S.on e h;have mc:=r.mine;have sub:∀a,Own C (ρ.set i (some c)) (σ.set i (some (.ref p))) a->Own C ρ σ a\/a=p:=fun a z=>z.elim (fun z=>.inl (.inl z)) fun z=>(ziZ z).elim (fun z=>.inl (.inr z)) .inr
 have npx:¬C.ext p:=fun z=>S.dom (.inl z) hp
 have sb:∀a o,H a=some o->Own C (ρ.set i (some c)) (σ.set i (some (.ref p))) a->Own C ρ σ a:=fun a o J z=>(sub a z).elim id fun z=>by subst z;rw[hp]at J;cases J
 have kp:∀a o,¬Own C ρ σ a->H a=some o->U a=some o:=fun a o no J=>e a o J fun z=>no (.inl (S.hx a z))
 have Kf:∀(j:Nat) (d:Cell),d.mine=true->ρ[j]?=some (some d)->σ[j]?≠some (some (V.ref p)):=fun j d m y v=>by
  obtain⟨a,e1,Z,_⟩:=S.cell m y;rw[v]at e1;cases e1;obtain⟨o,Z⟩:=Z.some;rw[hp]at Z;cases Z
 refine .mk' (by simp[S.len]) (fun j d I=>?_) (fun j d m I=>?_) (fun j ks I=>?_) (fun j k c1 c2 a m1 m2 y v h3 N=>?_) h S'.ext S.hx
 rotate_left 2
 ·rcases Jw I with⟨_,z⟩|⟨u,h'⟩
  ·subst z;cases mc
  ·obtain⟨a,kvs,q1,q2,q3,q4,q5⟩:=S.rdo j ks h';exact⟨a,kvs,Yj u q1,e a _ q2 q5,q3.mono sb kp,q4,q5⟩
 rotate_left 1
 ·rcases Jw I with⟨_,z⟩|⟨u,h'⟩
  ·subst z;cases mc
  ·obtain⟨w,y,v⟩:=S.val j d h';exact⟨w,Yj u y,v.mono sb kp⟩
 ·rcases Jw I with⟨u,z⟩|⟨u,h'⟩
  ·subst z;have:=zov I u;subst u;exact⟨p,zkn (by rw[<- S.len];exact this),r.mono (fun a o _ z=>sub a z) (fun _ _ _ z=>z) fun _ z=>z,npx⟩
  ·obtain⟨a,y,v,N⟩:=S.cell m h';exact⟨a,Yj u y,v.mono sb kp (fun o J=>e a o J fun z=>N (S.hx a z)),N⟩
 ·rcases Jw h3 with⟨e3,z3⟩|⟨e3,R⟩
  ·cases z3;rcases Jw N with⟨L,_⟩|⟨L,G⟩
   ·rw[<- e3,<- L]
   ·rcases Jw v with⟨z,_⟩|⟨_,x⟩
    ·exact absurd z L
    ·exact absurd G (Kf k _ m2 x)
  ·rcases Jw y with⟨z,_⟩|⟨_,Y⟩
   ·exact absurd z e3
   ·rcases Jw N with⟨L,z4⟩|⟨L,G⟩
    ·cases z4;exact absurd R (Kf j _ m1 Y)
    ·rcases Jw v with⟨z,_⟩|⟨_,x⟩
     ·exact absurd z L
     ·exact S.dif j k _ _ a m1 m2 Y x R G
theorem Stt.putOwn(S:Stt K C ρ σ H n)(e:ExtE C.hd H H')(h:Hn C.hd H' n1)(v:H p=none)(u:H' p=some (.lst vs))(r:Reps K C.hd (fun a=>Own C ρ σ a\/a=p) H' vs ts) :
  Stt K C (ρ.set i (some (.own ts))) (σ.set i (some (.ref p))) H' n1:=S.putNew e h v ⟨vs,u,r⟩
theorem zia(e:ExtE C.hd H H')(u:H p=none):Keep C ρ σ H (ρ.set i (some c)) (σ.set i (some (.ref p))) H':=fun a o h v no =>
 ⟨e a o h v,fun z=>(ziZ z).elim no fun z=>by subst z;rw[u]at h;cases h⟩
theorem zcE(e:ExtE C.hd H H')(l:H p=none):Keep C ρ σ H (ρ.set i (some (.own ts))) (σ.set i (some (.ref p))) H':=zia e l
theorem Stt.chgC(S:Stt K C ρ σ H n){i:Nat}{c y:Cell}{p:aq}{U:HO}(m:c.mine=true)(m':y.mine=true)(Y:ρ[i]?=some (some c))(N:σ[i]?=some (some (.ref p)))
  (r:∀(O':aq->Prop) (H':Hp),(∀a o,H a=some o->O' a->Own C ρ σ a)->(∀a o,¬Own C ρ σ a->H a=some o->H' a=some o)->H' p=some U->QE K C.hd O' H' p y) :
  Stt K C (ρ.set i (some y)) σ (upd H p U) n/\Keep C ρ σ H (ρ.set i (some y)) σ (upd H p U):=by
 have op:OwnS ρ σ p:=⟨i,c,m,Y,N⟩;obtain⟨p',e1,hp,x⟩:=S.cell m Y;rw[N]at e1;cases e1;have IH:∀a,OwnS (ρ.set i (some y)) σ a->OwnS ρ σ a:=fun a ⟨j,d,I,u,v⟩=>by
  rcases Jw u with⟨e,_⟩|⟨e,u⟩
  ·subst e;rw[N]at v;cases v;exact op
  ·exact⟨j,d,I,u,v⟩
 have sub:∀a o,H a=some o->Own C (ρ.set i (some y)) σ a->Own C ρ σ a:=fun a o _ z=>z.elim .inl fun z=>.inr (IH a z)
 have kp:∀a o,¬Own C ρ σ a->H a=some o->upd H p U a=some o:=fun a o no ho=>by rw[Jo (show a≠p from fun z=>no (by rw[z];exact .inr op))];exact ho
 have rd:zqW K C (ρ.set i (some y)) σ (upd H p U):=fun j ks J=>by
  rcases Jw J with⟨_,z⟩|⟨L,h'⟩
  ·subst z;cases m'
  ·obtain⟨a,kvs,u,v,q3,G,q5⟩:=S.rdo j ks h';exact⟨a,kvs,u,by rw[Jo (show a≠p from fun z=>x (by rw[<- z];exact G))];exact v,q3.mono sub kp,G,q5⟩
 refine⟨.mk' (by simp[S.len]) (fun j d J=>?_) (fun j d I J=>?_) rd (fun j k c1 c2 a m1 m2 u v q3 G=>?_) (fun a R=>?_) (fun a R=>?_) S.hx,fun a o h nh no=>⟨by rw[Jo (show a≠p from fun z=>no (by rw[z];exact op))];exact h,fun z=>no (IH a z)⟩⟩
 ·rcases Jw J with⟨_,z⟩|⟨L,h'⟩
  ·subst z;cases m'
  ·obtain⟨w,u,v⟩:=S.val j d h';exact⟨w,u,v.mono sub kp⟩
 ·rcases Jw J with⟨L,z⟩|⟨L,h'⟩
  ·subst z;subst L;exact⟨p,N,r _ _ sub kp JJ,x⟩
  ·obtain⟨a,u,v,G⟩:=S.cell I h';have:a≠p:=fun z=>by subst z;exact L (S.dif i j c d a m I Y h' N u)
   exact⟨a,u,v.mono sub kp (fun o ho=>by rw[Jo this];exact ho),G⟩
 ·have get:∀(j:Nat) (d:Cell),d.mine=true->(ρ.set i (some y))[j]?=some (some d)->∃d':Cell,d'.mine=true/\ρ[j]?=some (some d'):=fun j d I q=>by
   rcases Jw q with⟨e,_⟩|⟨_,q⟩
   ·subst e;exact⟨_,m,Y⟩
   ·exact⟨_,I,q⟩
  obtain⟨d1,Z,g1⟩:=get j c1 m1 u;obtain⟨d2,md2,g2⟩:=get k c2 m2 v;exact S.dif j k d1 d2 a Z md2 g1 g2 q3 G
 ·obtain⟨d,m,t,q,rest⟩:=S.hnd a R;exact⟨d,m,t,by rw[Jo (show a≠p from fun z=>x (by rw[<- z];exact S.hx a R))];exact q,rest⟩
 ·by_cases z:a=p
  ·subst z;exact absurd R x
  ·rw[Jo z];exact S.ext a R
theorem Stt.chg(S:Stt K C ρ σ H n)(v:ρ[i]?=some (some (.own ts)))(x:σ[i]?=some (some (.ref p)))(r:Reps K C.hd (Own C ρ σ) H ws us) :
  Stt K C (ρ.set i (some (.own us))) σ (upd H p (.lst ws)) n/\Keep C ρ σ H (ρ.set i (some (.own us))) σ (upd H p (.lst ws)):=S.chgC rfl rfl v x fun _ _ a b u=>⟨ws,u,r.mono a b⟩
theorem Stt.freeze(S:Stt K C ρ σ H n){i:Nat}{ts:qD}(Y:ρ[i]?=some (some (.own ts))):Stt K C (ρ.set i (some (.val (.list ts)))) σ H n/\Keep C ρ σ H (ρ.set i (some (.val (.list ts)))) σ H:=by
 obtain⟨p,vs,Z,hp,hr,L⟩:=S.own i ts Y;have R:∀a,OwnS (ρ.set i (some (.val (.list ts)))) σ a->OwnS ρ σ a/\a≠p:=fun a ⟨j,ds,m,u,x⟩=>by
  rcases Jw u with⟨_,z⟩|⟨e,u⟩
  ·subst z;cases m
  ·exact⟨⟨j,ds,m,u,x⟩,fun z=>by subst z;exact e (S.dif i j (.own ts) ds a rfl m Y u Z x)⟩
 have sub:∀a o,H a=some o->Own C (ρ.set i (some (.val (.list ts)))) σ a->Own C ρ σ a:=fun a o _ z=>z.elim .inl fun z=>.inr (R a z).1
 have rd:zqW K C (ρ.set i (some (.val (.list ts)))) σ H:=fun j ks y=>by
  rcases Jw y with⟨_,z⟩|⟨J,h'⟩
  ·cases z
  ·obtain⟨a,N,u,x,I,G⟩:=S.rdo j ks h';exact⟨a,N,u,x,I.mono sub fun _ _ _ z=>z,G⟩
 refine⟨.mk' (by simp[S.len]) (fun j d y=>?_) (fun j d m y=>?_) rd (fun j k c1 c2 a m1 U u x I G=>?_) S.hnd S.ext S.hx,fun a o h _ no=>⟨h,fun z=>no (R a z).1⟩⟩
 ·rcases Jw y with⟨J,z⟩|⟨J,h'⟩
  ·cases z;subst J;exact⟨.ref p,Z,.lst hp (fun z=>z.elim L fun z=>(R p z).2 rfl) (hr.mono sub fun _ _ _ z=>z)⟩
  ·obtain⟨w,u,x⟩:=S.val j d h';exact⟨w,u,x.mono sub fun _ _ _ z=>z⟩
 ·rcases Jw y with⟨_,z⟩|⟨J,h'⟩
  ·subst z;cases m
  ·obtain⟨a,u,I,G⟩:=S.cell m h';exact⟨a,u,I.mono sub (fun _ _ _ z=>z) fun _ z=>z,G⟩
 ·rcases Jw u with⟨_,z⟩|⟨_,g1⟩
  ·subst z;cases m1
  ·rcases Jw x with⟨_,z⟩|⟨_,g2⟩
   ·subst z;cases U
   ·exact S.dif j k _ _ a m1 U g1 g2 I G
end
section
variable{X:Cx}{a b c e:aP}{es rest:List aP}{d da db dc:DTE}{ds:DTA}{dt:DTT}{t u:DTS}{st:dD}{sts sa sb:List dD}{pos p:Pos}{k:Nat}{x:Str}
def ZR:DTS:=fun D l n=>D.nx l n
def sSeq(t u:DTS):DTS:=fun D l n=>t { D with nx:=u D } l n
theorem Jz:DSs X [] ZR:=⟨_,zhW,fun C l σ H n D v S h g=>g.nx l σ H n h S Keep.refl⟩
theorem Jb(v:DS X st t)(y:DSs X sts u):DSs X (st::sts) (sSeq t u):=by
 obtain⟨Y,pa,v⟩:=v;obtain⟨Z,J,y⟩:=y;refine⟨_,Qs pa J,fun C I σ H n D L S h g=>?_⟩
 exact v C I σ H n _ _ S h ⟨fun l σ' N R U G k=>y C l σ' N R D L G U (g.on k),g.rt,g.bk,g.ct,g.xr⟩
theorem Jc(l:DS X st t):DSs X [st] t:=by
 obtain⟨v,pa,l⟩:=l;exact⟨_,UZ pa,l⟩
def Zy(i:Nat)(t:DTS):DTS:=fun D y n=>match y[i]? with|some (some (.own ts))=>t D (y.set i (some (.val (.list ts)))) n|_=>False
theorem Ug(i:Nat)(l:DSs X sts t):DSs X sts (Zy i t):=by
 obtain⟨J,pa,l⟩:=l;refine⟨_,pa,fun C I σ H n D v S h g=>?_⟩
 unfold Zy at h;split at h
 ·rename_i ts y;obtain⟨G,kp⟩:=S.freeze y;exact l C _ σ H n D v G h (g.on kp)
 ·exact h.elim
def sRet(d:DTE):DTS:=fun D l n=>d l n fun t v=>D.rt t v
theorem Ji(h:DE X e d):DS X (.Return (some e) pos) (sRet d):=by
 obtain⟨Y,pa,h⟩:=h;refine⟨_,Y5 pa,fun C G σ H n D Z S hd g=>?_⟩
 refine h C G σ H n _ _ S hd fun t N v U r J I q=>?_
 exact g.rt t N v U r I (fun a o L y _=>J a o L y) (q.mono (fun _ _ _ z=>.inl z) fun _ _ _ z=>z)
def sIf(c:DTT)(t u:DTS):DTS:=fun D l n=>c l n fun b v=>if b=true then t D l v else u D l v
theorem Jx(hc:DT X c dt)(y:DSs X sa t)(G:DSs X sb u):DS X (.If c sa sb pos) (sIf dt t u):=by
 obtain⟨tc,pc,hc⟩:=hc;obtain⟨Y,pa,y⟩:=y;obtain⟨Z,U,G⟩:=G;refine⟨_,zpd pc pa U,fun C v σ H n D L S hd g=>?_⟩
 refine hc C v σ H n _ _ S hd fun b R J r l N=>?_
 cases b with
 | true=>exact iteT (y C v σ J R D L (S.on l N) (by simpa using r) (g.on l.keep))
 | false=>exact iteF (G C v σ J R D L (S.on l N) (by simpa using r) (g.on l.keep))
def sSet(i:Nat)(d:DTE):DTS:=fun D y n=>d y n fun t C=>D.nx (y.set i (some (.val t))) C
theorem ztT(J:X.N.Nodup)(hi:X.N[i]?=some x)(hx:Loc X.env.scope x)(h:DE X e d)(L:swapsWith e (some (.Name x pos')) pos.line X.env=pure false:=by rfl)(hf:X.fn x=true\/X.env.scope.names.lookup x=some .local:=by walk_at "F") :
  DS X (.Assign [.Name x pos'] e pos) (sSet i d):=by
 obtain⟨Y,pa,h⟩:=h;refine⟨_,Qy J hi hx pa L hf,fun C G σ H n D Z S hd g=>?_⟩
 refine h C G σ H n _ _ S hd fun t R v U r y I q=>?_
 exact g.nx _ _ U R r ((S.on y I).put q) (y.keep.trans QL)
def sOwn(i:Nat)(d:DTA):DTS:=fun D l n=>d l n fun ts v=>D.nx (l.set i (some (.own ts))) v
theorem US(L:X.N.Nodup)(hi:X.N[i]?=some x)(hx:Loc X.env.scope x)(h:DN X e ds)(R:swapsWith e (some (.Name x pos')) pos.line X.env=pure false:=by rfl)(hf:X.fn x=true\/X.env.scope.names.lookup x=some .local:=by walk_at "F") :
  DS X (.Assign [.Name x pos'] e pos) (sOwn i ds):=by
 obtain⟨Z,pa,h⟩:=h;refine⟨_,Qy L hi hx pa R hf,fun C I σ H n D D' S hd g=>?_⟩
 refine h C I σ H n _ _ S hd fun ts U p vs Y r y J G v q=>?_
 exact g.nx _ _ Y U r (S.putOwn y J G v q) (zcE y G)
abbrev DTG:=af->En->(En->Prop)->Prop
abbrev DTGs:=List af->En->(En->Prop)->Prop
def DG(X:Cx)(G:aP)(is:List Nat)(d:DTG):Prop:=(∀t y R,d t y R->∃l,R l)/\∃g,PG X G g/\∀(C:Ctx) (y:En) (σ:St) (H:Hp) (n:Nat) (v:V) (t:af) (Q:St->Hp->Prop) (R:En->Prop),Stt X.K C y σ H n->Rep X.K C.hd (Own C y σ) H v t->d t y R ->
 (∀l σ',R l->Stt X.K C l σ' H n->Keep C y σ H l σ' H->(∀j,j∉is->σ'[j]?=σ[j]?)->σ'.length=σ.length->Q σ' H)->g v σ H Q
def DGs(X:Cx)(y:List aP)(is:List Nat)(d:DTGs):Prop:=(∀ts v R,d ts v R->ts.length=y.length)/\(∀t v R,d t v R->∃l,R l)/\∃g,PGs X y g/\∀(C:Ctx) (v:En) (σ:St) (H:Hp) (n:Nat) (G:List V) (ts:qD) (Q:St->Hp->Prop) (R:En->Prop),Stt X.K C v σ H n->Reps X.K C.hd (Own C v σ) H G ts->d ts v R ->
 (∀l σ',R l->Stt X.K C l σ' H n->Keep C v σ H l σ' H->(∀j,j∉is->σ'[j]?=σ[j]?)->σ'.length=σ.length->Q σ' H)->g G σ H Q
def Qd(i:Nat):DTG:=fun t y R=>R (y.set i (some (.val t)))
def U8:DTGs:=fun ts l R=>match ts with|[]=>R l|_=>False
def Q4(d:DTG)(ds:DTGs):DTGs:=fun ts v R=>match ts with|t::ts=>d t v fun l=>ds ts l R|[]=>False
def U9(ds:DTGs):DTG:=fun t v R=>match t with|.tuple ts=>ds ts v R|_=>False
theorem zqw(J:X.N.Nodup)(hi:X.N[i]?=some x)(hx:Loc X.env.scope x)(hf:X.fn x=true\/X.env.scope.names.lookup x=some .local:=by walk_at "F"):DG X (.Name x pos) [i] (Qd i):=by
 refine⟨fun t I R h=>⟨_,h⟩,_,Vn J hi hx hf,fun C I σ H n v t Q R S r hd G=>?_⟩
 exact G _ _ hd (S.put r) QL (fun j y=>by rw[aO (fun z=>y (by simp[z]))]) (by simp)
theorem JR:DGs X [] [] U8:=by
 refine⟨fun ts l R h=>?_,fun ts l R h=>?_,_,zkK,fun C l σ H n y ts Q R S r hd v=>?_⟩
 ·cases ts with
  | nil=>rfl
  | cons _ _=>exact h.elim
 ·cases ts with
  | nil=>exact⟨_,h⟩
  | cons _ _=>exact h.elim
 ·cases r with
  | nil=>exact⟨rfl,v _ _ hd S Keep.refl (fun _ _=>rfl) rfl⟩
  | cons _ _=>exact hd.elim
theorem Jm(J:DG X e is g)(N:DGs X es js gs)(hs:(assignEach (e::es) X.env).map (·.2)=assign e X.env::(assignEach es X.env).map (·.2):=by rfl):DGs X (e::es) (is++js) (Q4 g gs):=by
 obtain⟨w1,ga,pa,J⟩:=J;obtain⟨l2,w2,gb,pb,N⟩:=N;refine⟨fun ts y R h=>?_,fun ts y R h=>?_,_,VI pa pb hs,fun C y σ H n vs ts Q R S r hd hq=>?_⟩
 ·cases ts with
  | nil=>exact h.elim
  | cons t ts =>
   obtain⟨l,h'⟩:=w1 t y _ h;simp[l2 ts l R h']
 ·cases ts with
  | nil=>exact h.elim
  | cons t ts =>
   obtain⟨l,h'⟩:=w1 t y _ h;exact w2 ts l R h'
 ·cases r with
  | nil=>exact hd.elim
  | cons r rs =>
   refine⟨_,_,rfl,J C y σ H n _ _ _ _ S r hd fun l σ' hr S' kp hj hl=>?_⟩
   refine N C l σ' H n _ _ _ _ S' (kp.reps S.hx rs) hr fun Z Y U S2 I L G=>?_
   exact hq Z Y U S2 (kp.trans I) (fun j v=>by rw[L j (fun z=>v (by simp[z])),hj j (fun z=>v (by simp[z]))]) (G.trans hl)
theorem JQ(hc:X.calm=true)(h:DGs X es is gs)(Y:(assignEach es X.env).length=es.length:=by rfl)(G:(assignEach es X.env).findIdx? (·.1)=none:=by rfl):DG X (.Tuple es k pos) is (U9 gs):=by
 obtain⟨l,w,g,pg,h⟩:=h;refine⟨fun t y R h=>?_,_,zrY hc pg Y G,fun C y σ H n v t Q R S r hd N=>?_⟩
 ·cases t with
  | tuple ts=>exact w ts y R h
  | _=>exact h.elim
 ·cases t with
  | tuple ts =>
   obtain⟨p,L,rfl,U,J⟩:=r.tupI;exact⟨p,L,rfl,U,by rw[J.length];exact l ts y R hd,h C y σ H n L ts Q R S J hd N⟩
  | _=>exact hd.elim
def sAsg(d:DTE)(g:DTG):DTS:=fun D v n=>d v n fun t y=>g t v fun l=>D.nx l y
theorem QT(h:DE X e d)(y:DG X tg is g)(Z:swapsWithSole [tg] e pos.line X.env=pure false:=by rfl)(hw:swappedStores [tg] e X.env=pure none:=by rfl)
  (U:(assignEach [tg] X.env).map (·.2)=[assign tg X.env]:=by rfl):DS X (.Assign [tg] e pos) (sAsg d g):=by
 obtain⟨ta,pa,h⟩:=h;obtain⟨w,gb,Y,y⟩:=y;refine⟨_,Y4 pa Y Z hw U,fun C G σ H n D D' S hd gd=>?_⟩
 refine h C G σ H n _ _ S hd fun t J v L r I hn q=>?_
 exact y C G σ L J v t _ _ (S.on I hn) q r fun l σ' N R kp _ _=>gd.nx l σ' L J N R (I.keep.trans kp)
def Yr(i:Nat)(d:DTE):DTS:=fun D l n=>match l[i]? with
 | some (some (.own ts))=>d l n fun t v=>ts.length<16777216/\D.nx (l.set i (some (.own (ts++[t])))) v
 | _=>False
theorem Qi(i:Nat){J p2 I:Pos}(h:DE X e d)(hN:X.N[i]?=some x:=by rfl)(hv:Vis X.env.scope x:=by walk_at "V")(hd:(x == ("__debug__":Str))=false:=by rfl)
  (hcd:(x == ("__classdict__":Str))=false:=by rfl) (hs:swapsWith (.Call (.Attribute (.Name x J) "append" p2) [e] [] I) none pos.line X.env=pure false:=by rfl)
  (HG:attributeBase (.Name x J) "append" X.env (eval (.Name x J) X.env)=eval (.Name x J) X.env:=by rfl)
  (IR:((backTo I (starEach [e] X.env)).all (fun x=>!x.1)&&(backToKw I (keywordEach [] X.env)).all (fun x=>x.1.isSome)
   && decide ([e].length+([]:List tK).length+(if ([]:List tK).isEmpty then 0 else 1)<30))=true:=by rfl)
  (HH:(p2.endLine == I.line)=true:=by rfl) (L:starEach [e] X.env=[(false,eval e X.env)]:=by rfl):DS X (.Expr (.Call (.Attribute (.Name x J) "append" p2) [e] [] I) pos) (Yr i d):=by
 obtain⟨ta,pa,h⟩:=h;refine⟨_,zpe (zpo gR PySem.F.slot_list_append PySem.F.type_list_append zec (QX hN hv hd hcd) (Qn pa Q3 L) HG IR HH L rfl) hs,fun C ρ σ H n D D' S hd g=>?_⟩
 unfold Yr at hd;split at hd
 ·rename_i ts Y;obtain⟨p,vs,Z,h2,h3,h4⟩:=S.own i ts Y;refine⟨.ref p,Z,.inl ⟨rfl,_,SqL.of h2⟩,?_⟩;refine h C ρ σ H n _ _ S hd fun t n' v H' r e1 hn q=>?_
  have S1:=S.on e1 hn;obtain⟨p',vs',R,U,G,h4'⟩:=S1.own i ts Y;rw[Z]at R;cases R;refine⟨p,vs',v,rfl,rfl,U,by rw[G.length];exact r.1,?_⟩
  obtain⟨S2,k2⟩:=S1.chg Y Z (G.append (.cons q .nil));exact g.nx _ _ _ n' r.2 S2 (e1.keep.trans k2)
 ·exact hd.elim
def sPut(i:Nat)(y d:DTE):DTS:=fun D l n=>d l n fun t C=>match l[i]? with
 | some (some (.own ts))=>y l C fun j v=>match j with|.int j=>(match ixN ts.length j with|some k=>D.nx (l.set i (some (.own (ts.set k t)))) v|none=>False)|_=>False
 | _=>False
theorem ztU(i:Nat){dj:DTE}{l p2:Pos}(L:DE X b dj)(h:DE X e d)(hN:X.N[i]?=some x:=by rfl)(hv:Vis X.env.scope x:=by walk_at "V")(hd:(x == ("__debug__":Str))=false:=by rfl)
  (hcd:(x == ("__classdict__":Str))=false:=by rfl) (hs:swapsWithSole [.Subscript (.Name x l) b p2] e pos.line X.env=pure false:=by rfl) (hw:swappedStores [.Subscript (.Name x l) b p2] e X.env=pure none:=by rfl)
  (y:(assignEach [.Subscript (.Name x l) b p2] X.env).map (·.2)=[assign (.Subscript (.Name x l) b p2) X.env]:=by rfl)
  (IK:PG X (.Subscript (.Name x l) b p2)=PG X (.Subscript (.Name x l) b p2):=rfl) (pg:∀{to ti:TE} {t:TSet},PE X (.Name x l) to->PE X b ti->PSet X t->PG X (.Subscript (.Name x l) b p2) (L2.gSub to ti t):=by intro _ _ _ y h2 h3;exact pg_sub y h2 h3) :
  DS X (.Assign [.Subscript (.Name x l) b p2] e pos) (sPut i dj d):=by
 obtain⟨ta,pa,h⟩:=h;obtain⟨tj,pj,L⟩:=L;refine⟨_,Y4 pa (pg (QX hN hv hd hcd) pj set_list) hs hw y,fun C Z σ H n D D' S hd g=>?_⟩
 refine h C Z σ H n _ _ S hd fun t n1 v H1 r e1 hn q=>?_
 have R:=S.on e1 hn;split at r
 ·rename_i ts et;obtain⟨p,vs,y,h2,h3,h4⟩:=R.own i ts et;refine⟨.ref p,y,L C Z σ H1 n1 _ _ R r fun j n2 w H2 G e2 U q2=>?_⟩
  have S2:=R.on e2 U;cases j with
  | int j =>
   have G:(match ixN ts.length j with|some k=>D'.nx (Z.set i (some (.own (ts.set k t)))) n2|none=>False):=G
   cases ek:ixN ts.length j with
   | none=>rw[ek]at G;exact G.elim
   | some m =>
    rw[ek]at G;obtain⟨p',vs',J,Y,I,h4'⟩:=S2.own i ts et;rw[y]at J;cases J;refine⟨p,vs',j,m,rfl,q2.intI,Y,by rw[I.length];exact ek,?_⟩
    obtain⟨S3,k3⟩:=S2.chg et y (I.set (e2.rep S.hx q) m);exact g.nx _ _ _ n2 G S3 ((e1.trans e2).keep.trans k3)
  | _=>exact G.elim
 ·exact r.elim
def zkt(c:DTT)(I:DTS):DTS:=fun D v n=>∃W:Nat->En->Nat->Prop,(∃m,W m v n)/\∀m v n,W m v n ->
 c v n fun b G=>if b=true then I { D with nx:=fun l C=>∃y,y<m/\W y l C,ct:=fun l C=>∃y,y<m/\W y l C,bk:=D.nx } v G else D.nx v G
theorem zn8(hp:oa (model X.prog X.w) X.A X.env X.xe)(hc:DT X c dt)(hb:DSs X sa t):DS X (.While c sa [] pos) (zkt dt t):=by
 obtain⟨tc,pc,hc⟩:=hc;obtain⟨tb,pb,hb⟩:=hb;refine⟨_,znk hp pc pb,fun C ρ σ H n D D' S hd g=>?_⟩
 obtain⟨W,⟨m0,w0⟩,turn⟩:=hd;refine⟨fun m L H1=>∃G n1,W m G n1/\Stt X.K C G L H1 n1/\Keep C ρ σ H G L H1,⟨m0,ρ,n,w0,S,Keep.refl⟩,?_⟩
 rintro m L H1 ⟨G,n1,w1,S1,k1⟩;refine hc C G L H1 n1 _ _ S1 (turn m G n1 w1) fun b n2 H2 r e2 hn2=>?_
 have S2:=S1.on e2 hn2;have k2:=k1.trans e2.keep;cases b with
 | true =>
  refine iteT ⟨fun σ' N=>∃J,J<m/\∃y I,W J y I/\Stt X.K C y σ' N I/\Keep C ρ σ H y σ' N,fun σ' N ⟨J,Z,z⟩=>⟨J,Z,z⟩,?_⟩
  refine hb C G L H2 n2 _ { D' with nx:=fun y I=>∃J,J<m/\W J y I,ct:=fun y I=>∃J,J<m/\W J y I,bk:=D'.nx } S2 (by simpa using r) ⟨?_,fun t I v N h hn R r=>g.rt t I v N h hn (fun a o ha U no=>?_) r,?_,?_,fun c I N h hn R=>g.xr c I N h hn fun a o ha U no=>R a o (k2 a o ha U no).1 U (k2 a o ha U no).2⟩
  ·rintro y σ' N I ⟨J,Z,w'⟩ Y R;exact⟨J,Z,y,I,w',Y,k2.trans R⟩
  ·obtain⟨q1,q2⟩:=k2 a o ha U no;exact R a o q1 U q2
  ·intro y σ' N I h' Y R;exact g.nx y σ' N I h' Y (k2.trans R)
  ·rintro y σ' N I ⟨J,Z,w'⟩ Y R;exact⟨J,Z,y,I,w',Y,k2.trans R⟩
 | false=>exact iteF (g.nx G L H2 n2 (by simpa using r) S2 k2)
end
def ItOk(K:qF)(hd:Option aq)(P O:aq->Prop)(H:Hp)(J:It)(ts:qD):Prop:=∀(u:aq->Prop) (l:Hp),(∀a o,H a=some o->P a->l a=some o)->(∀a o,H a=some o->¬O a->¬u a)->(∀a,u a->l a≠none) ->
 (∀i t,ts[i]?=some t->J.go i l/\∀x v,J.yld i l x v->Same l v/\Rep K hd u v x t)/\J.stop ts.length l
def DI(X:Cx)(y iter:aP)(d:DTA):Prop:=∃x,PI X y iter x/\∀(C:Ctx) (l:En) (σ:St) (H:Hp) (n:Nat) (Q:It->Hp->Prop) (R:List af->Nat->Prop),Stt X.K C l σ H n->d l n R ->
 (∀ts v J u,R ts v->ExtE C.hd H u->Hn C.hd u v->ItOk X.K C.hd (fun a=>¬Own C l σ a) (Own C l σ) u J ts->Q J u)->x σ H Q
def DIL(X:Cx)(y iter:aP)(d:DTA):Prop:=∃x,PI X y iter x/\∀(C:Ctx) (u:En) (σ:St) (H:Hp) (n:Nat) (Q:It->Hp->Prop) (R:List af->Nat->Prop),Stt X.K C u σ H n->d u n R ->
 (∀ts v J l,R ts v->ExtE C.hd H l->Hn C.hd l v->ItOk X.K C.hd (fun a=>C.hd≠some a) (Own C u σ) l J ts->Q J l)->x σ H Q
section
variable{X:Cx}{a b c e tg iter:aP}{es rest:List aP}{d da db dc:DTE}{ds di:DTA}{dt:DTT}{t u:DTS}{st:dD}{sts sa sb:List dD}{pos p:Pos}{k:Nat}{x:Str}
theorem dil(h:DI X tg iter di):DIL X tg iter di:=by
 obtain⟨Y,pi,h⟩:=h;refine⟨Y,pi,fun C G σ H n Q R S hd y=>h C G σ H n Q R S hd fun ts n' J H' r U hn it=>y ts n' J H' r U hn ?_⟩
 exact fun L I N Z v=>it L I (fun a o ha no=>N a o ha fun z=>no (.inl (S.hx a z))) Z v
theorem Reps.getP{K:qF}{hd:Option aq}{O:aq->Prop}{H:Hp}{vs ts}{i:Nat}{t}{x:V}(r:Reps K hd O H vs ts)(h:ts[i]?=some t)(hx:vs[i]?=some x):Rep K hd O H x t:=by
 obtain⟨v,l,y⟩:=r.get h;rw[hx]at l;cases l;exact y
theorem Vw{K:qF}{hd:Option aq}{P O:aq->Prop}{H:Hp}{q:aq}{vs ts}(N:H q=some (.lst vs))(Z:P q)(U:∀a,¬O a->P a)(r:Reps K hd O H vs ts):ItOk K hd P O H (Itl K q) ts:=by
 intro S R J Y _;have y:=J q _ N Z;have L:Reps K hd S R vs ts:=r.mono (fun a o G z=>gq fun no=>Y a o G no z) fun a o no G=>J a o G (U a no)
 refine⟨fun i t I=>?_,⟨vs,.of y,by rw[r.length];exact aA _⟩⟩
 obtain⟨v,ev,rv⟩:=L.get I;refine⟨⟨vs,v,.of y,ev⟩,fun x H3 C=>?_⟩
 obtain⟨rfl,C⟩:=C;exact⟨Same.refl _,L.getP I (C vs (.of y))⟩
theorem zoH{K:qF}{hd:Option aq}{P O:aq->Prop}{H:Hp}{v:V}{ts}(S:∀a,¬O a->P a)(r:Rep K hd O H v (.tuple ts)):∃q y,v=.ref q/\SqT K H q y/\ItOk K hd P O H (Itt K q) ts:=by
 have key:∀q y,Reps K hd O H y ts->(∀(I:aq->Prop) (G:Hp),(∀a o,H a=some o->P a->G a=some o)->(∀a o,H a=some o->¬O a->¬I a)->SqT K G q y)->ItOk K hd P O H (Itt K q) ts:=by
  intro q y r Z I G J U _;have C:=Z I G J U;have Y:Reps K hd I G y ts:=r.mono (fun a o N z=>gq fun no=>U a o N no z) fun a o no N=>J a o N (S a no)
  refine⟨fun i t R=>?_,⟨y,C,by rw[r.length];exact aA _⟩⟩
  obtain⟨v,ev,rv⟩:=Y.get R;refine⟨⟨y,v,C,ev⟩,fun x H3 L=>?_⟩
  obtain⟨rfl,L⟩:=L;exact⟨Same.refl _,Y.getP R (L y C)⟩
 cases r with
 | @tup q y ds h o r=>exact⟨q,y,rfl,.inl (.inl h),key q y r fun I G J _=>.inl (.inl (J q _ h (S q o)))⟩
 | @tupS q y ds h r=>exact⟨q,y,rfl,h.sq,key q y r fun I G _ _=>h.sq⟩
def dItL(d:DTE):DTA:=fun v n R=>d v n fun t y=>match t with|.list ts=>R ts y|_=>False
def dItT(d:DTE):DTA:=fun v n R=>d v n fun t y=>match t with|.tuple ts=>R ts y|_=>False
theorem QF(h:DE X iter d):DI X tg iter (dItL d):=by
 obtain⟨Z,pa,h⟩:=h;refine⟨_,zkJ pa,fun C G σ H n Q R S hd y=>?_⟩
 refine h C G σ H n _ _ S hd fun t N v U r I Y q=>?_
 cases t with
 | list ts =>
  obtain⟨p,L,rfl,l,no,J⟩:=q.lstI;exact⟨p,rfl,⟨L,.of l⟩,y ts N _ U r I Y (Vw l no (fun _ z=>z) J)⟩
 | _=>exact r.elim
theorem zoa(h:DL X iter d):DIL X tg iter (dItL d):=by
 obtain⟨ta,pa,h⟩:=h;refine⟨_,zkJ pa,fun C ρ σ H n Q R S hd L=>?_⟩
 refine h C ρ σ H n _ _ S hd fun t Y v Z r U hn q=>?_
 cases t with
 | list ts =>
  rcases q with q|⟨p,J,ds,rfl,I,y,G,N⟩|⟨p,zs,ep,ks,rfl,I,y,G,N⟩
  rotate_left 2
  ·cases I
  ·obtain⟨p,J,rfl,y,no,G⟩:=q.lstI;exact⟨p,rfl,⟨J,.of y⟩,L ts Y _ Z r U hn (Vw y (fun z=>no (.inl (S.hx p z))) (fun a no z=>no (.inl (S.hx a z))) G)⟩
  ·cases I;exact⟨p,rfl,⟨J,.of y⟩,L ts Y _ Z r U hn (Vw y N (fun a no z=>no (.inl (S.hx a z))) G)⟩
 | _=>exact r.elim
theorem Qp(h:DE X iter d):DI X tg iter (dItT d):=by
 obtain⟨Y,pa,h⟩:=h;refine⟨_,zrV pa,fun C l σ H n Q R S hd y=>?_⟩
 refine h C l σ H n _ _ S hd fun t L v N r I U q=>?_
 cases t with
 | tuple ts =>
  obtain⟨p,J,rfl,G,it⟩:=zoH (P:=fun a=>¬Own C l σ a) (fun _ z=>z) q
  exact⟨p,rfl,⟨J,G⟩,y ts L _ N r I U it⟩
 | _=>exact r.elim
def QI(lo:Int)(n:Nat):List af:=(dh n).map fun(i:Nat)=>bH (lo+(i:Int))
theorem znQ{K:qF}{hd:Option aq}{P O:aq->Prop}{H:Hp}{lo:Int}{m:Nat}:ItOk K hd P O H (Itr lo m) (QI lo m):=by
 intro G C _ _ _;refine⟨fun i t v=>?_,by show m<=(QI lo m).length;simp[QI]⟩
 unfold QI at v;rw[aV]at v
 by_cases hi:i<m
 ·rw[iO hi]at v;cases v;refine⟨hi,fun x I y=>?_⟩
  obtain⟨rfl,rfl⟩:=y;exact⟨Same.refl _,.int _⟩
 ·rw[cT (by simp;omega)]at v
  cases v
def YU(d:DTE):DTA:=fun l n R=>d l n fun t v=>match t with|.int j=>(-(2 ^ 62)<=j/\j<2 ^ 62)/\R (QI 0 j.toNat) v|_=>False
theorem zex(U:X.mg "range" = none) (h:DE X a d) (hg:Gl X "range":=by rfl) (y:starEach [a] X.env=[(false,eval a X.env)]:=by rfl):DI X tg (.Call (.Name "range" p) [a] [] pos) (YU d):=by
 obtain⟨ta,pa,h⟩:=h;refine⟨_,zkI hg U (Qn pa Q3 y) y,fun C I σ H n Q R S hd G=>?_⟩
 refine h C I σ H n _ _ S hd fun t L v Y r J Z q=>?_
 cases t with
 | int j =>
  rw[q.intI];exact⟨j,rfl,r.1.1,r.1.2,G _ L _ Y r.2 J Z znQ⟩
 | _=>exact r.elim
def forP(g:DTG)(v:DTS)(D:JN):List af->En->Nat->Prop
 | [],ρ,n=>D.nx ρ n
 | t::ts,ρ,n=>g t ρ fun l=>v { D with nx:=forP g v D ts,ct:=forP g v D ts,bk:=D.nx } l n
def sFor(di:DTA)(g:DTG)(v:DTS):DTS:=fun D l n=>di l n fun ts y=>forP g v D ts l y
theorem Qv(hp:oa (model X.prog X.w) X.A X.env X.xe)(hc:X.calm=true)(hi:DI X tg iter di)(hg:DG X tg is g)(hb:DSs X sa t)
  (hs:∀x,foldedSetIterable iter X.env x=pure x:=by intro _;rfl):DS X (.For tg iter sa [] pos) (sFor di g t):=by
 obtain⟨wi,pi,hi⟩:=hi;obtain⟨_,gg,pg,hg⟩:=hg;obtain⟨tb,pb,hb⟩:=hb;refine⟨_,zrR hp hc pi pg pb hs,fun C ρ σ H n D D' S hd gd=>?_⟩
 refine hi C ρ σ H n _ _ S hd fun ts n1 J H1 r e1 hn it=>?_
 have S1:=S.on e1 hn;refine⟨fun i m L H2=>m=ts.length - i/\i<=ts.length/\∃I n2,forP g t D' (ts.drop i) I n2/\Stt X.K C I L H2 n2/\Keep C ρ σ H1 I L H2,⟨ts.length,by simp,eV _,ρ,n1,by simpa using r,S1,Keep.refl⟩,?_⟩
 rintro i m L H2 ⟨rfl,hi',I,n2,f2,S2,k2⟩;have itq:=it (Own C I L) H2 (fun a o Y no=>(k2 a o Y (fun z=>no (.inl (S.hx a z))) fun z=>no (.inr z)).1) (fun a o Y no z=>z.elim (fun z=>no (.inl z)) fun z=>(k2 a o Y (fun y=>no (.inl (S.hx a y))) fun y=>no (.inr y)).2 z) (fun a=>S2.dom)
 by_cases hlt:i<ts.length
 ·have et:ts[i]?=some ts[i]:=aJ hlt;obtain⟨go,yl⟩:=itq.1 i _ et;rw[cA hlt]at f2;refine .inr ⟨go,fun σ' R=>∃G N,forP g t D' (ts.drop (i+1)) G N/\Stt X.K C G σ' R N/\Keep C ρ σ H1 G σ' R,fun σ' R z=>⟨ts.length - (i+1),by omega,rfl,hlt,z⟩,fun x H3 hy=>?_⟩
  obtain⟨sm,rx⟩:=yl x H3 hy;have S3:=S2.on sm.ext (S2.hnd.same sm);have k3:Keep C ρ σ H1 I L H3:=k2.trans (Same.ext sm:ExtE C.hd H2 H3).keep;refine hg C I L H3 n2 x _ _ _ S3 rx f2 fun ρ4 σ4 r4 S4 k4 _ _=>?_
  have k5:=k3.trans k4;refine hb C ρ4 σ4 H3 n2 _ { D' with nx:=forP g t D' (ts.drop (i+1)),ct:=forP g t D' (ts.drop (i+1)),bk:=D'.nx } S4 r4 ⟨fun G σ' R N h' S' U=>⟨G,N,h',S',k5.trans U⟩,fun t N v R h Z U rp=>gd.rt t N v R h Z (fun a o Y nh no=>?_) rp,fun G σ' R N h' S' U=>gd.nx G σ' R N h' S' (e1.keep.trans (k5.trans U)),fun G σ' R N h' S' U=>⟨G,N,h',S',k5.trans U⟩,fun c N R h Z U=>gd.xr c N R h Z fun a o Y nh no=>U a o ((e1.keep.trans k5) a o Y nh no).1 nh ((e1.keep.trans k5) a o Y nh no).2⟩
  obtain⟨q1,q2⟩:=(e1.keep.trans k5) a o Y nh no;exact U a o q1 nh q2
 ·have e:i=ts.length:=by omega
  subst e;rw[ig]at f2;exact .inl ⟨itq.2,gd.nx I L H2 n2 f2 S2 (e1.keep.trans k2)⟩
def JY(N:List Str)(ts:qD):En:=ts.map (fun t=>some (.val t))++bR (N.length - ts.length) none
theorem zgb{K:qF}{hd:Option aq}{O:aq->Prop}{H:Hp}{n:Nat}{N:List Str}{y:List V}{ts:qD}(r:Reps K hd O H y ts)(J:Hn hd H n)(dom:∀a,O a->MutO (H a))(hx:∀a,hd=some a->O a) :
  Stt K ⟨hd,O⟩ (JY N ts) (start N y) H n/\∀a,¬OwnS (JY N ts) (start N y) a:=by
 have get:∀(i:Nat) c,(JY N ts)[i]?=some (some c)->∃t,c=.val t/\ts[i]?=some t:=fun i c h=>by
  unfold JY at h
  by_cases hi:i<ts.length
  ·rw[cz (by simpa using hi),aV]at h
   cases e:ts[i]? with
   | none=>rw[e]at h;cases h
   | some t=>rw[e]at h;cases h;exact⟨t,rfl,rfl⟩
  ·rw[cK (by simpa using hi),dQ]at h
   split at h <;> cases h
 have no:∀a,¬OwnS (JY N ts) (start N y) a:=fun a ⟨i,ds,m,G,_⟩=>by
  obtain⟨t,e,_⟩:=get i _ G;subst e;cases m
 refine⟨.mk' (by unfold JY start;simp[r.length]) (fun i d h=>?_) (fun i ds m h=>?_) (fun i L h=>by obtain⟨t,e,_⟩:=get i _ h;cases e) (fun i j ds es a m _ h=>?_) J dom hx,no⟩
 ·obtain⟨t,e,C⟩:=get i _ h;cases e;obtain⟨v,ev,I⟩:=r.get C;refine⟨v,?_,I.mono (fun a o _ z=>z.elim id fun z=>absurd z (no a)) fun _ _ _ z=>z⟩
  unfold start;have hi:i<y.length:=by
   rcases bN i y.length with z|z
   ·exact z
   ·rw[cT z]at ev;cases ev
  rw[cz (by simpa using hi),aV,ev];rfl
 ·obtain⟨t,e,_⟩:=get i _ h;subst e;cases m
 ·obtain⟨t,e,_⟩:=get i _ h;subst e;cases m
end
end L2
namespace Bd
open PySem L2 PyProof.Rows
theorem Def.okD{P:aK}{w:aQ}{K:qF}{mg:qM}{base:aN}{x:Str}{st:dD}{ps N:List Str}{f:aq}{fd:cP}{k m:Nat}{g:GD}(D:Def K mg x st ps f fd)(S:Q9 N ps (JH st))(hm:m=ps.length)
  (hb:∀(l:ah) (A:br) (outer:List Env) (s:au) (H:Hp) (E:XK),Room k (A.deeper (envOfC x (JH st) s.heap.objs.size f l))->∃d,DSs (cxOf CX0 P w K mg base N x (JH st) f l A outer s H E).nox (J3 st) d /\
   ∀ts n R,ts.length=m->g ts n R->d { nx:=fun _ u=>R .none u,rt:=R } (JY N ts) n):FnOk P w K mg base CX0 (k+1) f fd ps (spD K m g):=by
 refine D.F.ok S (fun vs H Q E h=>?_) (fun l A outer s H vs Q E Z h=>?_)
 ·obtain⟨hd,O,ts,n,R,r,_,_,_,L,_⟩:=h;rw[r.length,L,hm]
 ·obtain⟨hd,O,ts,n,R,r,hn,dom,hx,L,hg,Y⟩:=h;obtain⟨d,⟨t,pt,ht⟩,G⟩:=hb l A outer s H E Z;obtain⟨S0,no⟩:=zgb (N:=N) r hn dom hx;refine⟨t,pt,ht ⟨hd,O⟩ _ _ H n _ _ S0 (G ts n R L hg) ⟨fun ρ' σ' U u h S' I=>?_,fun t u v U h y I rp=>?_,fun _ _ _ _ h=>h.elim,fun _ _ _ _ h=>h.elim,fun _ _ _ h=>h.elim⟩⟩
  ·exact Y .none u .non U h (fun a o J C=>(I a o J C (no a)).1) S'.hnd .non
  ·exact Y t u v U h (fun a o J C=>I a o J C (no a)) y rp
end Bd
namespace L2
open PySem PySem.Spec PyProof.Rows
def DTs(Y:Cx)(ifs:List aP)(d:DTT):Prop:=∃v,PTs Y ifs v/\∀(C:Ctx) (u:En) (σ:St) (H:Hp) (n:Nat) (Q:Bool->Hp->Prop) (R:Bool->Nat->Prop),Stt Y.K C u σ H n->d u n R ->
 (∀b x l,R b x->ExtE C.hd H l->Hn C.hd l x->Q b l)->v σ H Q
def dYes:DTT:=fun _ n R=>R true n
section
variable{Y:Cx}{c:aP}{d:DTT}
theorem Vt:DTs Y [] dYes:=⟨_,zpc,fun C u σ H n Q R S h l=>l true n H h ExtE.refl S.hnd⟩
theorem Uw(h:DT Y c d):DTs Y [c] d:=by
 obtain⟨l,p,h⟩:=h;exact⟨_,zpb p,h⟩
end
theorem DE.uni{L:Type}{Xf:L->Cx}{K:qF}(y:∀i,(Xf i).K=K){e:aP}{d:DTE}(h:∀i,DE (Xf i) e d):∃G:TE,(∀i,PE (Xf i) e G)/\∀(C:Ctx) (u:En) (σ:St) (H:Hp) (n:Nat) (Q:VK) (R:qN),Stt K C u σ H n->d u n R ->
  (∀t x v l,R t x->ExtE C.hd H l->Hn C.hd l x->Rep K C.hd (Own C u σ) l v t->Q v l)->G σ H Q:=by
 refine⟨fun σ H Q=>∀i,(ik (h i)) σ H Q,fun i pins s σ H Q I hw=>(cG (h i)).1 pins s σ H Q I (hw i),fun C u σ H n Q R S hd J i=>?_⟩
 have:=(cG (h i)).2 C u σ H n Q R;exact this (by rw[y i];exact S) hd fun t x v l r e h q=>J t x v l r e h (by rw[<- y i];exact q)
theorem DTs.uni{J:Type}{Xf:J->Cx}{K:qF}(G:∀i,(Xf i).K=K){e:List aP}{d:DTT}(h:∀i,DTs (Xf i) e d):∃v:TT,(∀i,PTs (Xf i) e v)/\∀(C:Ctx) (l:En) (σ:St) (H:Hp) (n:Nat) (Q:Bool->Hp->Prop) (R:Bool->Nat->Prop),Stt K C l σ H n->d l n R ->
  (∀b x u,R b x->ExtE C.hd H u->Hn C.hd u x->Q b u)->v σ H Q:=by
 refine⟨fun σ H Q=>∀i,(ik (h i)) σ H Q,fun i pins s σ H Q I hw=>(cG (h i)).1 pins s σ H Q I (hw i),fun C l σ H n Q R S hd y i=>?_⟩
 have:=(cG (h i)).2 C l σ H n Q R;exact this (by rw[G i];exact S) hd y
theorem DG.uni{J:Type}[Nonempty J]{Xf:J->Cx}{K:qF}(y:∀i,(Xf i).K=K){e:aP}{is:List Nat}{d:DTG}(h:∀i,DG (Xf i) e is d):∃G:TG,(∀i,PG (Xf i) e G)/\∀(C:Ctx) (x:En) (σ:St) (H:Hp) (n:Nat) (v:V) (t:af) (Q:St->Hp->Prop) (R:En->Prop),Stt K C x σ H n->Rep K C.hd (Own C x σ) H v t->d t x R ->
  (∀l σ',R l->Stt K C l σ' H n->Keep C x σ H l σ' H->(∀j,j∉is->σ'[j]?=σ[j]?)->σ'.length=σ.length->Q σ' H)->G v σ H Q:=by
 refine⟨fun v σ H Q=>∀i,(ik (h i).2) v σ H Q,fun i pins s σ H v u Q I r hw=>(cG (h i).2).1 pins s σ H v u Q I r (hw i),fun C x σ H n v t Q R S r hd U i=>?_⟩
 have:=(cG (h i).2).2 C x σ H n v t Q R;exact this (by rw[y i];exact S) (by rw[y i];exact r) hd fun l σ' L N=>U l σ' L (by rw[<- y i];exact N)
theorem Wk.of:∀{σ σ':St},σ.length=σ'.length->(∀(i:Nat) v,σ[i]?=some (some v)->σ'[i]?=some (some v))->Wk σ σ'
 | [],[],_,_=>trivial
 | [],_::_,h,_=>by simp at h
 | _::_,[],h,_=>by simp at h
 | none::r,o::r',h,k=>Wk.of (σ:=r) (σ':=r') (by simpa using h) fun i v e=>by simpa using k (i+1) v (by simpa using e)
 | some w::r,o::r',h,k=>⟨by simpa using k 0 w rfl,Wk.of (by simpa using h) fun i v e=>by simpa using k (i+1) v (by simpa using e)⟩
def capV:Option Cell->Option Cell
 | some (.val d)=>some (.val d)
 | some (.dct ks)=>some (.rdo ks)
 | some (.rdo ks)=>some (.rdo ks)
 | _=>none
def JC(m:Nat)(capt:List Nat)(l:En):En:=bR m none++capt.map fun i=>capV (l.getD i none)
def JP(g:DTG)(tt:DTT)(v:DTE)(l:En):List af->List af->Nat->(List af->Nat->Prop)->Prop
 | [],acc,n,R=>R acc n
 | x::xs,acc,n,R=>g x l fun u=>tt u n fun b y=>if b=true then v u y fun t C=>acc.length<16777216/\JP g tt v l xs (acc++[t]) C R else JP g tt v l xs acc y R
def dComp(m:Nat)(capt:List Nat)(u:DTA)(g:DTG)(tt:DTT)(v:DTE):DTA:=fun l n R=>u l n fun ts x=>JP g tt v (JC m capt l) ts [] x R
theorem zoo{own:List Str}{capt is:List Nat}{σ u:St}(x:∀i∈is,i<own.length)(y:∀j,j∉is->u[j]?=(Jy own++capS capt σ)[j]?){j:Nat}{v:V}(l:(Jy own++capS capt σ)[j]?=some (some v)):u[j]?=some (some v):=by
 by_cases hjo:j<own.length
 ·rw[cz (by simpa using hjo),aV]at l
  cases z:own[j]? with
  | none=>rw[z]at l;cases l
  | some q=>rw[z]at l;cases l
 ·rw[y j (fun z=>hjo (x j z))];exact l
theorem ExtE.updR{hd:Option aq}{l v:Hp}{D:aq}{o:HO}(y:l D=none)(e:ExtE hd l v):ExtE hd l (upd v D o):=fun a u x C=>by
 rw[Jo (Qt x y)];exact e a u x C
theorem Hn.updR{hd:Option aq}{u:Hp}{D:aq}{o:HO}{n:Nat}(l:hd≠some D)(h:Hn hd u n):Hn hd (upd u D o) n:=fun a v=>by
 obtain⟨d,m,t,q,rest⟩:=h a v;exact⟨d,m,t,by rw[Jo (show a≠D from fun z=>l (by rw[<- z];exact v))];exact q,rest⟩
section
variable{X:Cx}{scope:fv}{own:List Str}{capt:List Nat}{elt tg iter:aP}{ifs:List aP}{pos:Pos}{di:DTA}{is:List Nat}{g:DTG}{tt:DTT}{te:DTE}
theorem zfT{x:En}{i:Nat}{c:Cell}(h:capV (x.getD i none)=some c):(∃d,c=.val d/\x[i]?=some (some (.val d)))\/∃u,c=.rdo u/\(x[i]?=some (some (.dct u))\/x[i]?=some (some (.rdo u))):=by
 rw[ba]at h;cases e:x[i]? with
 | none=>rw[e]at h;cases h
 | some o =>
  rw[e]at h;cases o with
  | none=>cases h
  | some y =>
   cases y with
   | val d'=>simp[capV]at h;exact .inl ⟨d',h.symm,rfl⟩
   | own _=>simp[capV]at h
   | dct u=>simp[capV]at h;exact .inr ⟨u,h.symm,.inl rfl⟩
   | dtt u=>simp[capV]at h
   | rdo u=>simp[capV]at h;exact .inr ⟨u,h.symm,.inr rfl⟩
theorem zmc{K:qF}{C:Ctx}{u:En}{σ:St}{H R:Hp}{n n2:Nat}{D:aq}(S:Stt K C u σ H n)(e:ExtE C.hd H R)(hn:Hn C.hd R n2)(hD:H D=none)(hy:MutO (R D)) :
  Stt K ⟨C.hd,fun a=>Own C u σ a\/a=D⟩ (JC own.length capt u) (Jy own++capS capt σ) R n2/\∀a,¬OwnS (JC own.length capt u) (Jy own++capS capt σ) a:=by
 have get:∀(i:Nat) c,(JC own.length capt u)[i]?=some (some c)->∃j,capV (u.getD j none)=some c/\own.length<=i/\capt[i - own.length]?=some j:=fun i c h=>by
  unfold JC at h
  by_cases hi:i<own.length
  ·rw[cz (by simpa using hi),dQ]at h
   split at h <;> cases h
  ·rw[cK (by simpa using hi),ic,aV]at h
   cases ej:capt[i - own.length]? with
   | none=>rw[ej]at h;cases h
   | some j =>
    rw[ej]at h;exact⟨j,by simpa using h,by omega,rfl⟩
 have slot:∀(i j:Nat) (v:V),own.length<=i->capt[i - own.length]?=some j->σ[j]?=some (some v)->(Jy own++capS capt σ)[i]?=some (some v):=fun i j v hi J x=>by
  rw[cK (by simpa using hi)]
  simp only[aL,aV,J,dE];rw[ba,x];rfl
 have nm:∀(i:Nat) (c:Cell),c.mine=true->(JC own.length capt u)[i]?=some (some c)->False:=fun i c m h=>by
  obtain⟨j,U,_⟩:=get i c h;rcases zfT U with⟨d,rfl,_⟩|⟨L,rfl,_⟩ <;> cases m
 have no:∀a,¬OwnS (JC own.length capt u) (Jy own++capS capt σ) a:=fun a ⟨i,c,m,x,_⟩=>nm i c m x
 have S2:=S.on e hn;have sub:∀a o,H a=some o->Own ⟨C.hd,fun a=>Own C u σ a\/a=D⟩ (JC own.length capt u) (Jy own++capS capt σ) a->Own C u σ a:=fun a o y z=>by
  rcases z with z|z
  ·rcases z with z|z
   ·exact z
   ·subst z;rw[hD]at y;cases y
  ·exact absurd z (no a)
 have kp:∀a o,¬Own C u σ a->H a=some o->R a=some o:=fun a o nO y=>e a o y fun z=>nO (.inl (S.hx a z))
 refine⟨.mk' (by unfold JC;simp) (fun i d h=>?_) (fun i ds m h=>(nm i _ m h).elim) (fun i L h=>?_) (fun i j ds es a m _ h=>(nm i _ m h).elim) hn (fun a y=>?_) (fun a y=>.inl (.inl (S.hx a y))),no⟩
 ·obtain⟨j,U,hi,J⟩:=get i _ h;rcases zfT U with⟨d',z,G⟩|⟨L,z,_⟩
  ·cases z;obtain⟨v,x,Y⟩:=S.val j d G;exact⟨v,slot i j v hi J x,Y.mono sub kp⟩
  ·cases z
 ·obtain⟨j,U,hi,J⟩:=get i _ h;rcases zfT U with⟨d',z,G⟩|⟨ks',z,G⟩
  ·cases z
  ·cases z;rcases G with G|G
   ·obtain⟨a,I,x,Y,h3,Z⟩:=S.dct j L G;have N:C.hd≠some a:=fun z=>Z (S.hx a z)
    exact⟨a,I,slot i j _ hi J x,e a _ Y N,h3.mono sub kp,.inl (.inr ⟨j,.dct L,rfl,G,x⟩),N⟩
   ·obtain⟨a,I,x,Y,h3,Z,N⟩:=S.rdo j L G;exact⟨a,I,slot i j _ hi J x,e a _ Y N,h3.mono sub kp,.inl (.inl Z),N⟩
 ·rcases y with y|rfl
  ·exact S2.lst y
  ·exact hy
theorem zjp{K:qF}{C:Ctx}{u:En}{σ:St}{H v:Hp}{n x:Nat}{D:aq}{ys:List V}(S:Stt K C u σ H n)(e:ExtE C.hd H v)(I:Hn C.hd v x)(y:H D=none)(G:v D=some (.lst ys)) :
  Stt K ⟨C.hd,fun a=>Own C u σ a\/a=D⟩ (JC own.length capt u) (Jy own++capS capt σ) v x/\∀a,¬OwnS (JC own.length capt u) (Jy own++capS capt σ) a:=zmc S e I y (.inl ⟨_,G⟩)
def zub(K:qF)(te:TE)(d:DTA):Prop:=∀(C:Ctx) (v:En) (σ:St) (H:Hp) (n:Nat) (Q:VK) (R:List af->Nat->Prop),Stt K C v σ H n->d v n R ->
 (∀ts y p x u,R ts y->ExtE C.hd H u->Hn C.hd u y->H p=none->u p=some (.lst x)->Reps K C.hd (fun a=>Own C v σ a\/a=p) u x ts->Q (.ref p) u)->te σ H Q
theorem zhv(hi:DIL X tg iter di)
  (hg:∀C s₀ H₀ y,DG (Jg X scope own capt C s₀ H₀ y) tg is g) (hin:∀i∈is,i<own.length) (ht:∀C s₀ H₀ y,DTs (Jg X scope own capt C s₀ H₀ y) ifs tt) (he:∀C s₀ H₀ y,DE (Jg X scope own capt C s₀ H₀ y) elt te) :
  ∃(wi:TI) (gg:TG) (gt:TT) (ge:TE),PI X tg iter wi/\(∀C s₀ H₀ y,PG (Jg X scope own capt C s₀ H₀ y) tg gg)/\(∀C s₀ H₀ y,PTs (Jg X scope own capt C s₀ H₀ y) ifs gt)/\(∀C s₀ H₀ y,PE (Jg X scope own capt C s₀ H₀ y) elt ge)/\zub X.K (tComp own capt wi gg gt ge) (dComp own.length capt di g tt te):=by
 obtain⟨wi,pi,hi⟩:=hi
 let Xf:(aq×au×Hp×List aq)->Cx:=fun q=>Jg X scope own capt q.1 q.2.1 q.2.2.1 q.2.2.2
 have hK:∀q,(Xf q).K=X.K:=fun _=>rfl
 have hne:Nonempty (aq×au×Hp×List aq):=⟨(0,X.s₀,X.H₀,[])⟩;obtain⟨gg,pg,hgg⟩:=DG.uni (Xf:=Xf) hK fun q=>hg q.1 q.2.1 q.2.2.1 q.2.2.2
 obtain⟨gt,pt,hgt⟩:=DTs.uni (Xf:=Xf) hK fun q=>ht q.1 q.2.1 q.2.2.1 q.2.2.2
 obtain⟨ge,pe,hge⟩:=DE.uni (Xf:=Xf) hK fun q=>he q.1 q.2.1 q.2.2.1 q.2.2.2
 refine⟨wi,gg,gt,ge,pi,(fun C s₀ H₀ y=>pg (C,s₀,H₀,y)),(fun C s₀ H₀ y=>pt (C,s₀,H₀,y)),(fun C s₀ H₀ y=>pe (C,s₀,H₀,y)),fun C L σ H n Q R St hd hq=>?_⟩
 refine hi C L σ H n _ _ St hd fun ts n1 J H1 r e1 hn it=>fun D I=>?_
 have St1:=St.on e1 hn;have hD:H D=none:=Zt e1 hn I;have nhd:C.hd≠some D:=fun z=>St.dom (.inl (St.hx D z)) hD
 refine zmf (n:=ts.length) (fun i ys S=>∃u n2,JP g tt te (JC own.length capt L) (ts.drop i) u n2 R/\Reps X.K C.hd (fun a=>Own C L σ a\/a=D) S ys u/\ExtE C.hd H1 S/\Hn C.hd S n2)
  ⟨[],n1,by simpa using r,.nil,ExtE.new I,hn.same (JO I)⟩ ?_ ?_
 ·rintro i ys S hlt hy ⟨u,n2,c2,r2,Z,N⟩;have et:ts[i]?=some ts[i]:=aJ hlt;rw[cA hlt]at c2;have U:=it (fun a=>Own C L σ a\/a=D) S (fun a o G nh=>Z a o G nh) (fun a o G no z=>z.elim no fun z=>by subst z;rw[I]at G;cases G) (fun a z=>z.elim (fun z=>(St1.on Z N).dom z) fun z=>by subst z;rw[hy];exact fun z=>by cases z)
  obtain⟨go,yl⟩:=U.1 i _ et;refine⟨go,fun x H3 hyd=>?_⟩
  obtain⟨sm,rx⟩:=yl x H3 hyd;have hn3:=N.same sm;have e3:ExtE C.hd H1 H3:=Z.trans sm.ext;obtain⟨I3,no3⟩:=zjp (own:=own) (capt:=capt) (D:=D) (ys:=ys) St (e1.trans e3) hn3 hD (sm _ _ hy);have rx':Rep X.K C.hd (Own ⟨C.hd,fun a=>Own C L σ a\/a=D⟩ (JC own.length capt L) (Jy own++capS capt σ)) H3 x ts[i]:=rx.mono (fun a o _ z=>z.elim id fun z=>absurd z (no3 a)) fun _ _ _ z=>z
  refine hgg ⟨C.hd,fun a=>Own C L σ a\/a=D⟩ (JC own.length capt L) (Jy own++capS capt σ) H3 n2 x ts[i] _ _ I3 rx' c2 fun ρ4 σ4 r4 S4 k4 hj hl=>⟨Wk.of hl.symm fun j v ej=>zoo hin hj ej,?_⟩
  ·refine hgt _ ρ4 σ4 H3 n2 _ _ S4 r4 fun b n5 H5 r5 Y hn5=>?_
   have S5:=S4.on Y hn5;have hy5:H5 D=some (.lst ys):=Y D _ (sm _ _ hy) nhd;have r25:∀{H6},ExtE C.hd S H6->Reps X.K C.hd (fun a=>Own C L σ a\/a=D) H6 ys u:=fun e=>r2.mono (fun _ _ _ z=>z) fun a o no G=>e a o G fun z=>no (.inl (.inl (St.hx a z)))
   cases b with
   | false =>
    refine iteF ⟨ys,hy5,u,n5,by simpa using r5,r25 ((Same.ext sm).trans Y),e3.trans Y,hn5⟩
   | true =>
    refine iteT (hge _ ρ4 σ4 H5 n5 _ _ S5 (by simpa using r5) fun t n6 v H6 r6 e6 hn6 q6=>?_)
    have hy6:H6 D=some (.lst ys):=e6 D _ hy5 nhd;have rl:=(r25 ((Same.ext sm).trans (Y.trans e6))).length;refine⟨ys,hy6,by rw[rl];exact r6.1,u++[t],n6,r6.2,?_,?_,?_⟩
    ·have q6':Rep X.K C.hd (fun a=>Own C L σ a\/a=D) H6 v t:=q6.mono (fun _ _ _ z=>.inl z) fun _ _ _ z=>z
     have all:=(r25 ((Same.ext sm).trans (Y.trans e6))).append (Reps.cons q6' .nil);exact all.mono (fun _ _ _ z=>z) fun a o no G=>by rw[Jo (show a≠D from fun z=>no (.inr z))];exact G
    ·exact ExtE.updR I (e3.trans (Y.trans e6))
    ·exact Hn.updR nhd hn6
 ·rintro ys S hy ⟨u,n2,c2,r2,Z,N⟩;rw[ig]at c2;have U:=it (fun a=>Own C L σ a\/a=D) S (fun a o G nh=>Z a o G nh) (fun a o G no z=>z.elim no fun z=>by subst z;rw[I]at G;cases G) (fun a z=>z.elim (fun z=>(St1.on Z N).dom z) fun z=>by subst z;rw[hy];exact fun z=>by cases z)
  exact⟨U.2,hq u n2 D ys S c2 (e1.trans Z) N hD hy r2⟩
theorem zlY(hc:X.calm=true)(S:JK scope own capt X)(hi:DIL X tg iter di)
  (v:∀C s₀ H₀ l,DG (Jg X scope own capt C s₀ H₀ l) tg is g) (u:∀i∈is,i<own.length) (I:∀C s₀ H₀ l,DTs (Jg X scope own capt C s₀ H₀ l) ifs tt) (y:∀C s₀ H₀ l,DE (Jg X scope own capt C s₀ H₀ l) elt te)
  (J:∀x,foldedSetIterable iter X.env x=pure x:=by intro _;rfl):DN X (.ListComp elt [⟨tg,iter,ifs,0⟩] scope pos) (dComp own.length capt di g tt te):=by
 obtain⟨N,R,gt,ge,a,b,c,d,G⟩:=zhv hi v u I y;exact⟨_,znp hc S a b c d J,G⟩
def DNA(X:Cx)(x:Str)(l:Pos)(e:aP)(pos:Pos)(i:Nat)(d:DTA):Prop:=∃te,PS X (.Assign [.Name x l] e pos) (tAsg te (YT i))/\zub X.K te d
theorem VD{x:Str}{u J:Pos}{i:Nat}(Y:X.N.Nodup)(G:X.N[i]?=some x)(hx:Loc X.env.scope x)(hc:X.calm=true)(S:JK scope own capt X)(hi:DIL X tg iter di)
  (hg:∀C s₀ H₀ v,DG (Jg X scope own capt C s₀ H₀ v) tg is g) (I:∀i∈is,i<own.length) (Z:∀C s₀ H₀ v,DTs (Jg X scope own capt C s₀ H₀ v) ifs tt) (R:∀C s₀ H₀ v,DE (Jg X scope own capt C s₀ H₀ v) elt te)
  (hs:∀x,foldedSetIterable iter X.env x=pure x:=by intro _;rfl) (y:swapsWith (.ListComp elt [⟨tg,iter,ifs,0⟩] scope pos) (some (.Name x u)) J.line X.env=pure true:=by rfl)
  (hf:X.fn x=true\/X.env.scope.names.lookup x=some .local:=by walk_at "F") :
  DNA X x u (.ListComp elt [⟨tg,iter,ifs,0⟩] scope pos) J i (dComp own.length capt di g tt te):=by
 obtain⟨wi,gg,gt,ge,a,b,c,d,U⟩:=zhv hi hg I Z R;exact⟨_,zkE hc S a b c d Y G hx hs y hf,U⟩
theorem Vs{x:Str}{v G:Pos}{e:aP}{i:Nat}{d:DTA}(h:DNA X x v e G i d):DS X (.Assign [.Name x v] e G) (sSet i (dNew d)):=by
 obtain⟨ta,pa,h⟩:=h;refine⟨_,pa,fun C L σ H n D D' S hd g=>?_⟩
 refine h C L σ H n _ _ S hd fun ts Y p vs Z r y R U J I=>?_
 exact g.nx _ _ Z Y r ((S.on y R).put (.lst J (S.free U|> fun z=>z) (I.mono (fun _ _ _ z=>.inl z) fun _ _ _ z=>z))) (y.keep.trans QL)
end
def Vb(K:qF):Sp:=fun u H Q _=>∃(a:aq) (ns:List Int) (k:Int),u=[.ref a,.int k]/\SqL K H a (ns.map V.int)/\ns.length<=63/\0<=k/\k<=100 /\
 ∀hd l,H hd=none->Z1 l hd 0->Same H l->Q (.ref hd) l
def zua(hd:aq)(H l:Hp):Prop:=∀b o,H b=some o->b≠hd->l b=some o
def zot:Sp:=fun l H Q _=>∃(hd:aq) (many n:Int),l=[.ref hd,.int many]/\Z1 H hd n/\n<=1000000000000/\0<many/\many<2 ^ 128 /\
 ∀(r:Int) H',0<=r->r<many->Z1 H' hd (n+1)->zua hd H H'->Q (.int r) H'
def UT:GD:=fun ts n R=>match ts with
 | [h,.int many]=>h=HAND/\0<many/\many<2 ^ 128/\n<=1000000000000/\∀r:Int,0<=r->r<many->R (.int r) (n+1)
 | _=>False
theorem zm2{K:qF}(v:List V)(H:Hp)(Q:VK)(E:XK)(h:spD K 2 UT v H Q E):zot v H Q E:=by
 obtain⟨hd,O,ts,n,R,r,Z,dom,hx,hl,g,I⟩:=h;unfold UT at g;split at g
 ·rename_i u many;obtain⟨rfl,m0,S,y,g⟩:=g;cases r with
  | cons G r =>
   cases r with
   | cons U r =>
    cases r;obtain⟨a,rfl,l⟩:=G.handI;rw[U.intI];refine⟨a,many,n,rfl,Z a l,by omega,m0,S,fun q Y J L u N=>?_⟩
    refine I _ (n+1) _ Y (g q J L) (fun b o C nb=>N b o C fun z=>nb (by rw[l,z])) (fun b x=>?_) (.int _)
    rw[l]at x;cases x;exact u
 ·exact g.elim
def zrn:Option (Option Cell)->(List af->Prop)->Prop
 | some (some (.val (.dict [(.none,.list ts)]))),R=>R ts
 | _,_=>False
def JM(u:En):En:=match (u[(0:Nat)]?:Option (Option Cell)) with
 | some (some (.val (.dict [(.none,.list ts)])))=>some (.val (.dict [(.none,.list ts)]))::bR (u.length - 1) none
 | _=>bR u.length none
def intOf:Option (Option Cell)->(Int->Prop)->Prop
 | some (some (.val (.int k))),R=>R k
 | _,_=>False
def U7(i j:Nat)(u:DTS):DTS:=fun D y n=>zrn y[0]? fun ts=>intOf y[j]? fun k=>(∃ns:List Int,ts=ns.map bH/\ns.length<=63)/\0<=k/\k<=100 /\
 u { nx:=fun x _=>D.nx (JM x) n,rt:=fun t _=>∃b,t=.bool b/\D.rt t n,bk:=fun x _=>D.bk (JM x) n,ct:=fun x _=>D.ct (JM x) n } (((JM y).set j (some (.val (.int k)))).set i (some (.val HAND))) 0
theorem U3(h:(JM ρ)[i]?=some (some c)):i=0/\ρ[0]?=some (some c)/\∃ts,c=.val (.dict [(.none,.list ts)]):=by
 unfold JM at h;split at h
 ·rename_i ts e;cases i with
  | zero=>simp at h;subst h;exact⟨rfl,e,ts,rfl⟩
  | succ i =>
   rw[dS,dQ]at h;split at h <;> cases h
 ·rw[dQ]at h;split at h <;> cases h
theorem zn9:(JM ρ).length=ρ.length:=by
 unfold JM;split
 ·rename_i ts e;cases ρ with
  | nil=>simp at e
  | cons a r=>simp
 ·simp
theorem zfW:¬OwnS (JM ρ) σ a:=fun⟨i,ds,m,h,_⟩=>by
 obtain⟨_,_,ts,e⟩:=U3 h;subst e;cases m
theorem Rep.scrHd{K:qF}{hd G:Option aq}{O J:aq->Prop}{H I:Hp}{v:V}{ts:qD}(h:Rep K hd O H v (.dict [(.none,.list ts)]))(C:∀a o,H a=some o->¬O a->I a=some o/\¬J a):Rep K G J I v (.dict [(.none,.list ts)])/\∃ns:List Int,ts=ns.map bH:=by
 generalize e:(uX [(l9,uY ts)])=t at h;cases h with
 | @scr a ns x o =>
  have y:ts=ns.map bH:=by simpa[SCR] using e
  subst y;refine⟨?_,ns,rfl⟩;rcases x with x|⟨u,x⟩
  ·exact .scr (.inl (C a _ x o).1) (C a _ x o).2
  ·exact .scr (.inr ⟨u,(C a _ x o).1⟩) (C a _ x o).2
 | @scrS a ns x =>
  have y:ts=ns.map bH:=by simpa[SCR] using e
  subst y;exact⟨.scrS x,ns,rfl⟩
 | hand _=>simp[HAND]at e
 | dct _ _=>cases e
 | dcK _ _ _ y=>cases e;exact(dict_noK y).elim
 | dcT _ _ _ y=>cases e;exact(dict_noT y).elim
 | _=>cases e
theorem Stt.drop{K:qF}{C I:Ctx}{u:En}{σ:St}{H l:Hp}{n G:Nat}(S:Stt K I u σ H n)(Y:Hn C.hd l G)(U:∀a,C.ext a->MutO (l a))(hx:∀a,C.hd=some a->C.ext a)
  (x:∀a o,H a=some o->¬Own I u σ a->l a=some o/\¬C.ext a):Stt K C (JM u) σ l G where
 len:=by rw[zn9];exact S.len
 val:=fun i d h=>by
  obtain⟨rfl,J,ts,L⟩:=U3 h;cases L;obtain⟨v,N,R⟩:=S.val 0 _ J;exact⟨v,N,(R.scrHd fun a o y no=>⟨(x a o y no).1,fun z=>z.elim (x a o y no).2 zfW⟩).1⟩
 own:=fun i ds h=>by
  obtain⟨_,_,ts,e⟩:=U3 h;cases e
 dct:=fun i ds h=>by
  obtain⟨_,_,ts,e⟩:=U3 h;cases e
 rdo:=fun i ds h=>by
  obtain⟨_,_,ts,e⟩:=U3 h;cases e
 dtt:=fun i ds h=>by
  obtain⟨_,_,ts,e⟩:=U3 h;cases e
 dif:=fun i j ds Z a m _ h=>by
  obtain⟨_,_,ts,e⟩:=U3 h;subst e;cases m
 hnd:=Y
 ext:=U
 hx:=hx
section
variable{X:Cx}{st:dD}{sts:List dD}{ps:List Str}{f:aq}{fd:cP}{u:DTS}{x s kx hx:Str}{pos pos' p p1 p2 p3:Pos}{k:Nat}
theorem zn6{i j:Nat}(D:Bd.Def X.K X.mg hx st ps f fd)(G:FnOk X.prog X.w X.K X.mg X.base CX0 k f fd ps (Vb X.K))(hr:Room k X.A)(hN:X.N.Nodup)(hi:X.N[i]?=some x)(hlx:Loc X.env.scope x)(hu:DSs X sts u)(hij:i≠0:=by decide)(hj0:j≠0:=by decide)(hji:j≠i:=by decide)
  (h0:X.N[0]?=some s:=by rfl) (hj:X.N[j]?=some kx:=by rfl) (hv0:Vis X.env.scope s:=by walk_at "V") (hvj:Vis X.env.scope kx:=by walk_at "V")
  (hd0:(s == ("__debug__":Str))=false:=by rfl) (IU:(s == ("__classdict__":Str))=false:=by rfl) (hdj:(kx == ("__debug__":Str))=false:=by rfl) (IV:(kx == ("__classdict__":Str))=false:=by rfl) (hg:Gl X hx:=by rfl) (hdb:(hx == ("__debug__":Str))=false:=by rfl)
  (hs:swapsWith (.Call (.Name hx p) [.Name s p1,.Name kx p2] [] p3) (some (.Name x pos')) pos.line X.env=pure false:=by rfl) (hf:X.fn x=true\/X.env.scope.names.lookup x=some .local:=by walk_at "F") :
  DSs X (.Assign [.Name x pos'] (.Call (.Name hx p) [.Name s p1,.Name kx p2] [] p3) pos::sts) (U7 i j u):=by
 obtain⟨tu,pu,hu⟩:=hu;refine⟨_,Qs (Qy hN hi hlx (Bd.zpl D G hr (JU (QX h0 hv0 hd0 IU) (JU (QX hj hvj hdj IV) Qg rfl) rfl) hg hdb) hs hf) pu,fun C ρ σ H n Dn D' S hd g=>?_⟩
 unfold U7 zrn at hd;split at hd
 ·rename_i ts e0;unfold intOf at hd;split at hd
  ·rename_i R ej;obtain⟨⟨ns,rfl,hl⟩,k0,k1,hd⟩:=hd;obtain⟨v0,s0,r0⟩:=S.val 0 _ e0;obtain⟨vj,sj,rj⟩:=S.val j _ ej;obtain⟨a0,rfl,sq0⟩:=r0.scrI;rw[rj.intI]at sj;refine⟨_,s0,_,sj,?_⟩;refine⟨a0,ns,R,rfl,sq0,hl,k0,k1,fun h H1 Z hok Y=>?_⟩
   have S1:=S.on (Same.ext Y:ExtE C.hd H H1) (S.hnd.same Y);have nx:¬Own C ρ σ h:=fun z=>S.dom z Z
   have Sd:Stt X.K ⟨some h,fun a=>C.ext a\/a=h⟩ (JM ρ) σ H1 0:=S.drop (fun a ea=>by cases ea;exact hok) (fun a z=>z.elim (fun z=>S1.ext a z) fun z=>by subst z;obtain⟨_,_,_,q,_⟩:=hok;exact .inl ⟨_,q⟩) (fun a ea=>.inr (by cases ea;rfl))
    (fun a o J no=>⟨Y a o J,fun z=>z.elim (fun z=>no (.inl z)) fun z=>by subst z;rw[Z]at J;cases J⟩)
   have Sd2:=(Sd.put (i:=j) (t:=.int R) (v:=.int R) (.int R)).put (i:=i) (t:=HAND) (v:=.ref h) (.hand rfl);have IW:∀a,¬OwnS (((JM ρ).set j (some (.val (.int R)))).set i (some (.val HAND))) ((σ.set j (some (.int R))).set i (some (.ref h))) a:=fun a z=>zfW (VG (VG z))
   have es:(σ.set j (some (V.int R)))=σ:=by
    apply nQ
    intro q
    by_cases z:j=q
    ·subst z;have:j<σ.length:=by
      rcases bN j σ.length with w|w
      ·exact w
      ·rw[cT w]at sj;cases sj
     rw[zkn this,sj]
    ·rw[aO z]
   rw[es]at Sd2 IW;refine hu _ _ _ H1 0 _ _ Sd2 hd ?_;have back:∀{y σ' I n'},Stt X.K ⟨some h,fun a=>C.ext a\/a=h⟩ y σ' I n'->(∀a o,H1 a=some o->some h≠some a->I a=some o)->Stt X.K C (JM y) σ' I n:=fun {y σ' I n'} S' kp =>
    S'.drop (fun a ea=>by
      obtain⟨d,m,t,q,rest⟩:=S.hnd a ea;exact⟨d,m,t,kp a _ (Y _ _ q) (fun z=>by cases z;rw[Z]at q;cases q),rest⟩)
     (fun a z=>by
      rcases S.ext a z with⟨xs,q⟩|⟨xs,q⟩|⟨b,xs,ep,q⟩
      ·exact .inl ⟨xs,kp a _ (Y _ _ q) (fun z=>by cases z;rw[Z]at q;cases q)⟩
      ·exact .inr (.inl ⟨xs,kp a _ (Y _ _ q) (fun z=>by cases z;rw[Z]at q;cases q)⟩)
      ·exact .inr (.inr ⟨b,xs,ep,kp a _ (Y _ _ q) (fun z=>by cases z;rw[Z]at q;cases q)⟩)) S.hx (fun a o J no=>⟨J,fun z=>no (.inl (.inl z))⟩)
   have U:∀{y σ' I},Keep ⟨some h,fun a=>C.ext a\/a=h⟩ (((JM ρ).set j (some (.val (.int R)))).set i (some (.val HAND))) (σ.set i (some (.ref h))) H1 y σ' I->∀a o,H1 a=some o->some h≠some a->I a=some o:=fun k a o J na=>(k a o J na (IW a)).1
   have kp2:∀{y σ' I},Keep ⟨some h,fun a=>C.ext a\/a=h⟩ (((JM ρ).set j (some (.val (.int R)))).set i (some (.val HAND))) (σ.set i (some (.ref h))) H1 y σ' I->Keep C ρ σ H (JM y) σ' I:=fun k a o J _ _=>⟨U k a o (Y a o J) (fun z=>by cases z;rw[Z]at J;cases J),zfW⟩
   refine⟨fun y σ' I n' h' S' L=>g.nx _ _ I n h' (back S' (U L)) (kp2 L),fun t n' v I h' hn' L rp=>?_,fun y σ' I n' h' S' L=>g.bk _ _ I n h' (back S' (U L)) (kp2 L),fun y σ' I n' h' S' L=>g.ct _ _ I n h' (back S' (U L)) (kp2 L),fun _ _ _ h=>h.elim⟩
   obtain⟨b,rfl,h'⟩:=h';rw[rp.blI];have kq:∀a o,H a=some o->I a=some o:=fun a o J=>L a o (Y a o J) (fun z=>by cases z;rw[Z]at J;cases J) (IW a)
   refine g.rt _ n _ I h' (fun a ea=>?_) (fun a o J _ _=>kq a o J) (.bl b)
   obtain⟨d,m,t,q,rest⟩:=S.hnd a ea;exact⟨d,m,t,kq a _ q,rest⟩
  ·exact hd.elim
 ·exact hd.elim
end
def zo1(K:qF):Sp:=fun u H Q _=>∃(a:aq) (ns:List Int),u=[.ref a]/\SqL K H a (ns.map V.int)/\ns.length<=63/\∀v,Q (.bl true) v
def ztJ:GD:=fun ts n R=>∃ns:List Int,ts=[SCR ns]/\ns.length<=63/\∀u,R (.bool true) u
theorem zpW{K:qF}(u:List V)(H:Hp)(Q:VK)(E:XK)(h:zo1 K u H Q E):spD K 1 ztJ u H Q E:=by
 obtain⟨a,ns,rfl,sq,C,q⟩:=h;refine⟨none,fun _=>False,[SCR ns],0,fun t _=>t=.bool true,.cons ?_ .nil,(fun a e=>by cases e),(fun a z=>z.elim),(fun a e=>by cases e),rfl,⟨ns,rfl,C,fun _=>rfl⟩,fun t I v G y _ _ x=>?_⟩
 ·rcases sq with sq|sq
  ·exact .scr sq (fun z=>z)
  ·exact .scrS fun _=>.inr sq
 ·subst y;rw[x.blI];exact q G
section
variable{env:Env}{es:List aP}{a b:aP}{l1 l2:List aP}{p:Pos}{x:Str}
theorem Jq:starEach (.Name x p::es) env=(false,eval (.Name x p) env)::starEach es env:=rfl
theorem Y6{j}:starEach (.Constant (.int i) j p::es) env=(false,eval (.Constant (.int i) j p) env)::starEach es env:=rfl
theorem QY{c d}:starEach (.Call a l1 c d::es) env=(false,eval (.Call a l1 c d) env)::starEach es env:=rfl
theorem QJ{o}:starEach (.BinOp a o b p::es) env=(false,eval (.BinOp a o b p) env)::starEach es env:=rfl
theorem Y7:starEach (.Subscript a b p::es) env=(false,eval (.Subscript a b p) env)::starEach es env:=rfl
theorem Vc{o}:starEach (.Compare a o l1 p::es) env=(false,eval (.Compare a o l1 p) env)::starEach es env:=rfl
theorem U0{g s}:starEach (.ListComp a g s p::es) env=(false,eval (.ListComp a g s p) env)::starEach es env:=rfl
end
section
variable{X:Cx}{a b c e:aP}{da db dc:DTE}{pos p:Pos}{r r':R2}{g g':G2}
theorem zjl(ho:OpR X (compareOp op) r)(hg:Gp2 X r g)(ho':OpR X (compareOp op') r')(hg':Gp2 X r' g')(Z:DL X a da)(L:DL X b db)(hc:DL X c dc)
  (hm:lastMarks [op,op'] [b,c]=false:=by with_unfolding_all rfl):DT X (.Compare a [op,op'] [b,c] pos) (Q0 (Yc g g' da db dc)):=by
 obtain⟨ta,pa,Z⟩:=Z;obtain⟨tb,pb,L⟩:=L;obtain⟨tc,pc,hc⟩:=hc;refine⟨_,znj ho ho' pa pb pc hm,fun C N σ H n Q R S h hq=>?_⟩
 refine two Z L S h fun x y n2 v w H2 r2 e Y q1 q2=>?_
 refine hg C.hd (Own C N σ) H2 v w x y _ _ (fun p=>Y.dom) q1 q2 r2 fun z u J l I U=>?_
 have S3:=Y.on I.ext (Y.hnd.same I);cases z with
 | bool k =>
  cases U;refine⟨k,rfl,?_⟩;cases k with
  | false=>exact iteF ⟨false,rfl,hq _ n2 J l (e.trans I.ext) S3.hnd⟩
  | true =>
   refine iteT (hc C N σ J n2 _ _ S3 l fun z2 n3 w2 H4 r4 e4 h4 q4=>?_)
   have S4:=S3.on e4 h4;have q2':=e4.repT S.hx ((Same.ext I:ExtE C.hd H2 J).repT S.hx q2);refine hg' C.hd (Own C N σ) H4 w w2 y z2 _ _ (fun p=>S4.dom) q2' q4 r4 fun z u J l G U=>?_
   cases z with
   | bool k=>cases U;exact⟨k,rfl,hq _ n3 J l (((e.trans I.ext).trans e4).trans G.ext) (S4.hnd.same G)⟩
   | _=>exact l.elim
 | _=>exact l.elim
def zo9(K:qF):V->List V->Hp->VK->Prop:=fun x xs H Q=>∃(l:aq) (bs:List Bool) (k:Bool),x=.ref l/\xs=[.bl k]/\SqL K H l (bs.map V.bl)/\Q (.int (countIn (.bool k) (bs.map cF))) H
theorem zdW:∀{h:aN}{bs:List Bool}{u:List ah},Vals (bs.map V.bl) u->pR h u (bs.map cF) []
 | _,[],_,r=>by cases r;exact .nil
 | _,b::bs,_,r=>by
  cases r with
  | cons v x =>
   cases(show _=dY b from v)
   exact .cons (.bool b) (zdW x)
theorem zk7:MtR X "list.count" (zo9 X.K):=by
 intro pins s σ H x xs v R Q I C rs h;obtain⟨l,bs,k,rfl,rfl,J,q⟩:=h;cases C;cases rs with
 | cons u G =>
  cases G;cases(show _=dY k from u)
  obtain⟨y,L,p,_⟩:=I.list J;exact count_list_bools p.isList (zdW (h:=s.heap) L) (by induction bs with|nil=>rfl|cons b bs N=>simp[Shape.has]) ⟨.int _,H,I.tok _,⟨_,rfl⟩,q⟩
def YY(k:Bool)(d:DTE):DTE:=fun u n R=>d u n fun t v=>match t with|.list ts=>∃bs:List Bool,ts=bs.map cF/\R (.int (countIn (.bool k) (bs.map cF))) v|_=>False
theorem zod{k:Bool}{j}{p1 p2 y:Pos}(h:DL X a da)(Z:attributeBase a "count" X.env (eval a X.env)=eval a X.env:=by rfl) (HH:(p2.endLine == y.line)=true:=by rfl):DE X (.Call (.Attribute a "count" p2) [.Constant (.bool k) j p1] [] y) (YY k da):=by
 obtain⟨ta,pa,h⟩:=h;refine⟨_,zpo gR PySem.F.slot_list_count PySem.F.type_list_count zk7 pa (Qn zpq Q3 rfl) Z rfl HH rfl rfl,fun C L σ H n Q R S hd J=>?_⟩
 refine h C L σ H n _ _ S hd fun t n1 v G r Y U N=>?_
 cases t with
 | list ts =>
  obtain⟨bs,rfl,r⟩:=r;obtain⟨p,vs,rfl,x,I⟩:=N.lstI;rw[VS I]at x;exact⟨.inl ⟨rfl,_,SqL.of x⟩,p,bs,k,rfl,rfl,.of x,J _ n1 _ G r Y U (.int _)⟩
 | _=>exact r.elim
end
section
variable{C:Int->Int->Prop}{f:Int->Int->Int}{fb:Int->Int->Bool}{i j k:Int}{R:af->Prop}{Rb:Bool->Prop}{xs ys:qD}{s t:Str}{a b:Bool}{u v:af}
theorem l_gI:gI C f (.int i) (.int j) R=(C i j/\R (.int (f i j))):=propext aU
theorem ZV:gI0 f (.int i) (.int j) R=R (.int (f i j)):=propext aU
theorem Zl:oAdd (.int i) (.int j) R=R (.int (i+j)):=propext aU
theorem Zm:oAdd (.str s) (.str t) R=(s.length+t.length<=16777216/\R (.str (s++t))):=propext aU
theorem Zn:oAdd (.tuple xs) (.tuple ys) R=(xs.length+ys.length<=16777216/\R (.tuple (xs++ys))):=propext aU
theorem YE:oEq (.int i) (.int j) R=R (.bool (decide (i=j))):=propext aU
theorem YG:oEq (.str s) (.str t) R=R (.bool (decide (s=t))):=propext aU
theorem YF:oEq (.list xs) (.list ys) R=(Okd (.list xs)/\Okd (.list ys)/\R (.bool (dH (.list xs) (.list ys)))):=propext aU
theorem YO:oNe (.int i) (.int j) R=R (.bool (!decide (i=j))):=propext aU
theorem YR:oNe (.str s) (.str t) R=R (.bool (!decide (s=t))):=propext aU
theorem YQ:oNe (.list xs) (.list ys) R=(Okd (.list xs)/\Okd (.list ys)/\R (.bool (!PyData.eqv (.list xs) (.list ys)))):=propext aU
theorem YH:oIs u .none R=R (.bool (isNone u)):=by cases u <;> exact propext aU
theorem ZE:Zk u (.tuple xs) R=(Okd u/\(∀t∈xs,Okd t)/\R (.bool (!xs.any fun t=>t.eqv u))):=by cases u <;> exact propext aU
theorem YL:oLtA (.int i) (.int j) R=R (.bool (decide (i<j))):=propext aU
theorem YJ:oLeA (.int i) (.int j) R=R (.bool (decide (i<=j))):=propext aU
theorem YK:oLeA (.str s) (.str t) R=R (.bool (!decide (t.cps.toList<s.cps.toList))):=propext aU
theorem YI(h:atI xs i=some x):oIx (.list xs) (.int i) R=R x:=by show(match atI xs i with|some t=>R t|none=>False)=_;rw[h]
theorem ZW(h:atI xs i=some x):oIx (.tuple xs) (.int i) R=R x:=by show(match atI xs i with|some t=>R t|none=>False)=_;rw[h]
theorem Za:oIx (.tuple (u::xs)) (.int 0) R=R u:=ZW (by unfold atI ixN;simp)
theorem Zb:oIx (.tuple (u::v::xs)) (.int 1) R=R v:=ZW (by unfold atI ixN;simp;rw[if_pos (by omega)];rfl)
theorem Zc:oIx (.tuple (u::v::w::xs)) (.int 2) R=R w:=ZW (by unfold atI ixN;simp;rw[if_pos (by omega)];rfl)
theorem Y8:oIx (.list (u::xs)) (.int 0) R=R u:=YI (by unfold atI ixN;simp)
theorem Y9:oIx (.list (u::v::xs)) (.int 1) R=R v:=YI (by unfold atI ixN;simp;rw[if_pos (by omega)];rfl)
theorem Ze:truD (.bool a) Rb=Rb a:=propext aU
theorem Zf:truD (.list xs) Rb=Rb (!xs.isEmpty):=propext aU
theorem YC:bolD (.bool a) Rb=Rb a:=propext aU
theorem YN:bMin [.int i,.int j] R=R (.int (if j<i then j else i)):=propext aU
theorem YM:bMax [.int i,.int j] R=R (.int (if j > i then j else i)):=propext aU
theorem YB:bAbs [.int i] R=R (.int (if i<0 then -i else i)):=propext aU
theorem Zo:bInt [.bool a] R=R (.int (if a then 1 else 0)):=propext aU
theorem ZF:Y2 [.list xs] R=R (.tuple xs):=propext aU
theorem Zd:Yz [u] R=(Shd u/\R (.str u.shown)):=propext aU
theorem Zu:JX (.list xs) Rl=Rl xs:=propext aU
theorem ZM:JX (.tuple xs) Rl=Rl xs:=propext aU
theorem zsN(y:String)(h:y∈["NoneType","bool","int","str","list","tuple","dict"]):kitB y "int" = some (decide (y = "int")||decide (y = "bool")):=by
 simp only[aw,aH,or_false]at h;rcases h with rfl|rfl|rfl|rfl|rfl|rfl|rfl <;> decide +kernel
theorem zpY(y:String)(h:y∈["NoneType","bool","int","str","list","tuple","dict"]):kitB y "bool" = some (decide (y = "bool")):=by
 simp only[aw,aH,or_false]at h;rcases h with rfl|rfl|rfl|rfl|rfl|rfl|rfl <;> decide +kernel
theorem znK(y:String)(h:y∈["NoneType","bool","int","str","list","tuple","dict"]):kitB y "tuple" = some (decide (y = "tuple")):=by
 simp only[aw,aH,or_false]at h;rcases h with rfl|rfl|rfl|rfl|rfl|rfl|rfl <;> decide +kernel
theorem zsM(y:String)(h:y∈["NoneType","bool","int","str","list","tuple","dict"]):kitB y "str" = some (decide (y = "str")):=by
 simp only[aw,aH,or_false]at h;rcases h with rfl|rfl|rfl|rfl|rfl|rfl|rfl <;> decide +kernel
def Pln(t:af):Prop:=tyN t≠none
def isInt:af->Bool|.int _=>true|.bool _=>true|_=>false
def isBool:af->Bool|.bool _=>true|_=>false
def isTup:af->Bool|.tuple _=>true|_=>false
def isStr:af->Bool|.str _=>true|_=>false
variable{d:DTE}{ρ:En}{n:Nat}{Rn:qN}
theorem Vp(h:tyN u=some y):y∈["NoneType","bool","int","str","list","tuple","dict"]:=by
 unfold tyN at h;split at h <;> cases h <;> simp
def isiD(f:af->Bool)(d:DTE):DTE:=fun ρ n R=>d ρ n fun t x=>Pln t/\R (.bool (f t)) x
end
section
variable{X:Cx}{e:aP}{d:DTE}{p p2 pos:Pos}
theorem Ym(hk:∀t y,tyN t=some y->kitB y T=some (f t))(hm:X.mg "isinstance" = none) (x:X.mg y=none) (U:bootBuiltins y=some (.type T)) (h:DL X e d) (hs:starEach (e::[.Name y p2]) X.env=(false,eval e X.env)::starEach [.Name y p2] X.env) (hg:Gl X "isinstance":=by rfl) (u:Gl X y:=by rfl) (hn:y ≠ "__name__":=by decide) (hd:(y == ("__debug__":Str))=false:=by rfl) :
  DE X (.Call (.Name "isinstance" p) [e,.Name y p2] [] pos) (isiD f d):=by
 obtain⟨ta,pa,h⟩:=h;refine⟨_,Uk zmq hm Vz (JU pa (zhY (Bd.zrZ x U u hn hd) Qg) hs) hg,fun C I σ H n Q R S hd L=>?_⟩
 refine h C I σ H n _ _ S hd fun t n1 v J G e1 Z Y=>?_
 cases et:tyN t with
 | none=>exact absurd et G.1
 | some z=>exact⟨v,C.hd,Own C I σ,t,T,z,f t,rfl,Y,et,hk t z et,L _ n1 _ J G.2 e1 Z (.bl _)⟩
theorem ztD:∀t y,tyN t=some y->kitB y "int" = some (isInt t):=fun t y e=>by
 rw[zsN y (Vp e)];unfold tyN at e;split at e <;> cases e <;> rfl
theorem zqg:∀t y,tyN t=some y->kitB y "bool" = some (isBool t):=fun t y e=>by
 rw[zpY y (Vp e)];unfold tyN at e;split at e <;> cases e <;> rfl
theorem zjc:∀t y,tyN t=some y->kitB y "tuple" = some (isTup t):=fun t y e=>by
 rw[znK y (Vp e)];unfold tyN at e;split at e <;> cases e <;> rfl
theorem zoM:∀t y,tyN t=some y->kitB y "str" = some (isStr t):=fun t y e=>by
 rw[zsM y (Vp e)];unfold tyN at e;split at e <;> cases e <;> rfl
theorem Ud:Pln (.int i):=by simp[Pln,tyN]
theorem Q7:Pln (.bool i):=by simp[Pln,tyN]
theorem UD:Pln (.str i):=by simp[Pln,tyN]
theorem UA:Pln (.tuple i):=by simp[Pln,tyN]
theorem Uy:Pln (.list i):=by simp[Pln,tyN]
theorem Uz:Pln .none:=by simp[Pln,tyN]
theorem Ux:Pln (.dict []):=by simp[Pln,tyN]
end
abbrev blk(i h:Int):af:=.tuple [.int i,.int h]
theorem Yo:Okd (.tuple [.int i,.int h]):=⟨by simp[bu,bc],by simp[cO,bU]⟩
def IsBk(bits i h:Int):Prop:=0<=h/\h<=bits/\∃k:Int,0<=k/\i=k*2 ^ h.toNat/\k<2 ^ (bits - h).toNat
theorem VJ(k:Nat):(0:Int)<2 ^ k:=Bd.JA k
theorem ziS:(2:Int) ^ (a+b)=2 ^ a*2 ^ b:=dP 2 a b
theorem IsBk.bounds(l:0<=bits)(H:IsBk bits i h):0<=i/\i+2 ^ h.toNat<=2 ^ bits.toNat:=by
 obtain⟨h0,u,k,k0,rfl,k1⟩:=H;have p:=VJ h.toNat;refine⟨mf k0 (bf p),?_⟩;have e:bits.toNat=(bits - h).toNat+h.toNat:=by lia
 rw[e,ziS];have:(k+1)*2 ^ h.toNat<=2 ^ (bits - h).toNat*2 ^ h.toNat:=aB (by lia) (bf p)
 rw[bP,bQ]at this;exact this
theorem zkF(h:k<=64):(2:Int) ^ k<=18446744073709551616:=by
 have:=Bd.Ys h;simpa using this
theorem IsBk.lt(l:0<=bits)(u:bits<=64)(H:IsBk bits i h):0<=i/\i<18446744073709551616:=by
 obtain⟨a,b⟩:=H.bounds l;have:=zkF (show bits.toNat<=64 by lia)
 have:=VJ h.toNat;lia
theorem cpow(h0:0<=j)(l:j<=1000000):CPow 1 j:=⟨h0,l,by decide⟩
section
variable{t u tb:DTS}{D:JN}{ρ ρ0:En}{n i j m:Nat}{d da db dc d1 d2:DTE}{ds di:DTA}{c c' tt:DTT}{g:G2}{g':G2}{gc:GC}{gd:GD}{tg:DTG}{tgs:DTGs}{R:qN}{Rb:Bool->Nat->Prop}{Rl:List af->Nat->Prop}{Re:En->Prop}{x y:af}{xs ys acc:qD}{f:Int->Int->Int}{fb:af->Bool}{k:Bool}{capt:List Nat}{h:Option Cell}
theorem Vi:(sSeq t u D ρ n)=(t { D with nx:=u D } ρ n):=propext aU
theorem Vh:(sRet d D ρ n)=(d ρ n fun t l=>D.rt t l):=propext aU
theorem Vj:(sSet i d D ρ n)=(d ρ n fun t C=>D.nx (ρ.set i (some (.val t))) C):=propext aU
theorem u_dC:(dC x ρ n R)=(R x n):=propext aU
theorem Z0:(dOp g da db ρ n R)=(da ρ n fun x v=>db ρ v fun y l=>g x y fun z=>R z l):=propext aU
theorem Vd:(dNew ds ρ n R)=(ds ρ n fun ts v=>R (.list ts) v):=propext aU
theorem Vf:(dTup ds ρ n R)=(ds ρ n fun ts v=>R (.tuple ts) v):=propext aU
theorem Ve:(dNil ρ n Rl)=(Rl [] n):=propext aU
theorem Vq:(Qb d ds ρ n Rl)=(d ρ n fun t v=>ds ρ v fun ts l=>Rl (t::ts) l):=propext aU
theorem ZY:(dFn gd ds ρ n R)=(ds ρ n fun ts l=>gd ts l R):=propext aU
theorem VM:(YX gc ds ρ n R)=(ds ρ n fun ts l=>gc ts fun z=>R z l):=propext aU
def cVal:Option Cell->(af->Prop)->Prop
 | some (.val d),R=>R d
 | _,_=>False
def cOwn:Option Cell->(List af->Prop)->Prop
 | some (.own d),R=>R d
 | _,_=>False
theorem Vl:cVal (some (.val x)) Q=Q x:=propext aU
theorem Vg:dVar i ρ n R=cVal (ρ.getD i none) fun d=>R d n:=by
 unfold dVar;rw[ba];cases e:ρ[i]? with
 | none=>exact propext aU
 | some o=>cases o with
  | none=>exact propext aU
  | some c=>cases c <;> exact propext aU
theorem ZA:Q0 d ρ n Rb=(d ρ n fun t l=>bolD t fun b=>Rb b l):=by
 unfold Q0;congr 1
 funext t l
 cases t <;> exact propext aU
def lCat:af->af->(List af->Prop)->Prop
 | .list xs,.list ys,R=>xs.length+ys.length<=16777216/\R (xs++ys)
 | _,_,_=>False
theorem Zp:dCat da db ρ n Rl=(da ρ n fun x v=>db ρ v fun y l=>lCat x y fun zs=>Rl zs l):=by
 unfold dCat;congr 1
 funext x v
 congr 1
 funext y l
 cases x <;> cases y <;> exact propext aU
def lLst:af->(List af->Prop)->Prop
 | .list xs,R=>R xs
 | _,_=>False
def lTup:af->(List af->Prop)->Prop
 | .tuple xs,R=>R xs
 | _,_=>False
theorem Zq:dItL d ρ n Rl=(d ρ n fun t l=>lLst t fun ts=>Rl ts l):=by
 unfold dItL;congr 1
 funext t l
 cases t <;> exact propext aU
theorem Zr:dItT d ρ n Rl=(d ρ n fun t l=>lTup t fun ts=>Rl ts l):=by
 unfold dItT;congr 1
 funext t l
 cases t <;> exact propext aU
def lInt:af->(Int->Prop)->Prop
 | .int i,R=>R i
 | _,_=>False
theorem Zz:YU d ρ n Rl=(d ρ n fun t l=>lInt t fun j=>(-(2 ^ 62)<=j/\j<2 ^ 62)/\Rl (QI 0 j.toNat) l):=by
 unfold YU;congr 1
 funext t l
 cases t <;> exact propext aU
theorem Zs:dNeg d ρ n R=(d ρ n fun t l=>lInt t fun i=>R (.int (-i)) l):=by
 unfold dNeg;congr 1
 funext t l
 cases t <;> exact propext aU
theorem ZK:YY k d ρ n R=(d ρ n fun t v=>lLst t fun ts=>∃bs:List Bool,ts=bs.map cF/\R (.int (countIn (.bool k) (bs.map cF))) v):=by
 unfold YY;congr 1
 funext t v
 cases t <;> exact propext aU
theorem ZJ:Yc g g' da db dc ρ n R=(da ρ n fun x C=>db ρ C fun y v=>g x y fun z=>bolD z fun b=>if b=true then dc ρ v fun w G=>g' y w fun z=>R z G else R (.bool false) v):=by
 unfold Yc;congr 1
 funext x C
 congr 1
 funext y v
 congr 1
 funext z
 cases z with
 | bool b=>cases b <;> simp[bolD]
 | _=>exact propext aU
def UO(ρ:En)(i:Nat)(D:JN)(v:DTE)(t:af)(C:Nat)(ts:qD):Prop:=v ρ C fun j l=>lInt j fun j=>(match ixN ts.length j with|some k=>D.nx (ρ.set i (some (.own (ts.set k t)))) l|none=>False)
theorem YV:sPut i dj d D ρ n=(d ρ n fun t l=>cOwn (ρ.getD i none) fun xs=>UO ρ i D dj t l xs):=by
 unfold sPut;congr 1
 funext t l
 rw[ba];cases e:ρ[i]? with
 | none=>exact propext aU
 | some o=>cases o with
  | none=>exact propext aU
  | some c=>cases c with
   | val _=>exact propext aU
   | dct _=>exact propext aU
   | dtt _=>exact propext aU
   | rdo _=>exact propext aU
   | own xs =>
    show(dj ρ l fun j v=>_)=UO ρ i D dj t l xs
    unfold UO;congr 1
    funext j v
    cases j <;> exact propext aU
end
section
variable{t u tb:DTS}{D:JN}{ρ ρ0:En}{n i j m:Nat}{d da db dc d1 d2:DTE}{ds di:DTA}{c c' tt:DTT}{g:G2}{g':G2}{gc:GC}{gd:GD}{tg:DTG}{tgs:DTGs}{R:qN}{Rb:Bool->Nat->Prop}{Rl:List af->Nat->Prop}{Re:En->Prop}{x y:af}{xs ys acc:qD}{f:Int->Int->Int}{fb:af->Bool}{k:Bool}{capt:List Nat}
theorem zte(h:t { D with nx:=u D } ρ n):sSeq t u D ρ n:=h
theorem zp7(h:D.nx ρ n):ZR D ρ n:=h
theorem ztf(h:d ρ n fun t l=>D.rt t l):sRet d D ρ n:=h
theorem zwg(h:c ρ n fun b l=>if b=true then t D ρ l else u D ρ l):sIf c t u D ρ n:=h
theorem zth(h:d ρ n fun t v=>tg t ρ fun l=>D.nx l v):sAsg d tg D ρ n:=h
theorem ztg(h:di ρ n fun ts l=>forP tg tb D ts ρ l):sFor di tg tb D ρ n:=h
theorem i_dC(h:R x n):dC x ρ n R:=h
theorem zwk(h:da ρ n fun x v=>db ρ v fun y l=>g x y fun z=>R z l):dOp g da db ρ n R:=h
theorem ztu(h:ds ρ n fun ts v=>R (.list ts) v):dNew ds ρ n R:=h
theorem zto(h:ds ρ n fun ts v=>R (.tuple ts) v):dTup ds ρ n R:=h
theorem ztt(h:Rl [] n):dNil ρ n Rl:=h
theorem zqd(h:d ρ n fun t v=>ds ρ v fun ts l=>Rl (t::ts) l):Qb d ds ρ n Rl:=h
theorem zwl(h:ds ρ n fun ts l=>gd ts l R):dFn gd ds ρ n R:=h
theorem ztz(h:ds ρ n fun ts v=>gd ts v fun t l=>JS t=true/\R t l):dFnL gd ds ρ n R:=h
theorem znX(h:ds ρ n fun ts l=>gc ts fun z=>R z l):YX gc ds ρ n R:=h
theorem ztB(h:c ρ n fun b l=>if b=true then c' ρ l Rb else Rb false l):dAnd c c' ρ n Rb:=h
theorem zwj(h:c ρ n fun b l=>if b=true then Rb true l else c' ρ l Rb):dOr c c' ρ n Rb:=h
theorem zts(h:c ρ n fun b l=>Rb (!b) l):dNot c ρ n Rb:=h
theorem zqf(h:da ρ n fun t v=>bolD t fun b=>if b=true then db ρ v R else R (.bool false) v):zqG da db ρ n R:=h
theorem ztr(h:da ρ n fun t v=>bolD t fun b=>if b=true then R (.bool true) v else db ρ v R):dOrV da db ρ n R:=h
theorem zqc(h:da ρ n fun t v=>bolD t fun b=>R (.bool (!b)) v):zqE da ρ n R:=h
theorem zty(h:c ρ n fun b l=>if b=true then da ρ l R else db ρ l R):dIfE c da db ρ n R:=h
theorem ztp(h:d ρ n fun t l=>truD t fun b=>Rb b l):dTru d ρ n Rb:=h
theorem zqe(h:di ρ n fun ts l=>JP tg tt d (JC m capt ρ) ts [] l Rl):dComp m capt di tg tt d ρ n Rl:=h
theorem ztn(h:Rb true n):dYes ρ n Rb:=h
theorem zp5(h:tgs xs ρ Re):U9 tgs (.tuple xs) ρ Re:=h
theorem zp6(h:Re ρ):U8 [] ρ Re:=h
theorem znT(h:tg x ρ fun l=>tgs xs l Re):Q4 tg tgs (x::xs) ρ Re:=h
theorem zp9(h:d ρ n fun t l=>bolD t fun b=>Rb b l):Q0 d ρ n Rb:=ZA.symm▸h
theorem ztA(h:da ρ n fun x v=>db ρ v fun y l=>lCat x y fun zs=>Rl zs l):dCat da db ρ n Rl:=Zp.symm▸h
theorem ztx(h:d ρ n fun t l=>lLst t fun ts=>Rl ts l):dItL d ρ n Rl:=Zq.symm▸h
theorem ztw(h:d ρ n fun t l=>lTup t fun ts=>Rl ts l):dItT d ρ n Rl:=Zr.symm▸h
theorem zqa(h:d ρ n fun t l=>lInt t fun j=>(-(2 ^ 62)<=j/\j<2 ^ 62)/\Rl (QI 0 j.toNat) l):YU d ρ n Rl:=Zz.symm▸h
theorem ztv(h:d ρ n fun t l=>lInt t fun i=>R (.int (-i)) l):dNeg d ρ n R:=Zs.symm▸h
theorem znV(h:d ρ n fun t v=>lLst t fun ts=>∃bs:List Bool,ts=bs.map cF/\R (.int (countIn (.bool k) (bs.map cF))) v):YY k d ρ n R:=ZK.symm▸h
theorem znW(h:da ρ n fun x C=>db ρ C fun y v=>g x y fun z=>bolD z fun b=>if b=true then dc ρ v fun w G=>g' y w fun z=>R z G else R (.bool false) v):Yc g g' da db dc ρ n R:=ZJ.symm▸h
def lIsi(fb:af->Bool)(t:af)(R:af->Prop):Prop:=Pln t/\R (.bool (fb t))
theorem ztl(h:d ρ n fun t l=>lIsi fb t fun z=>R z l):isiD fb d ρ n R:=h
theorem zoK(e:ρ[i]?=some (some (.val x)))(h:R x n):dVar i ρ n R:=by unfold dVar;rw[e];exact h
theorem zoL(e:ρ[i]?=some (some (.own xs)))(h:R (.list xs) n):dOwn i ρ n R:=by unfold dOwn;rw[e];exact h
theorem zjb(e:ρ[i]?=some (some (.own xs)))(h:d ρ n fun t l=>xs.length<16777216/\D.nx (ρ.set i (some (.own (xs++[t])))) l):Yr i d D ρ n:=by unfold Yr;rw[e];exact h
theorem zja(e:ρ[i]?=some (some (.own xs)))(h:t D (ρ.set i (some (.val (.list xs)))) n):Zy i t D ρ n:=by unfold Zy;rw[e];exact h
theorem zwh(e:ρ[i]?=some (some (.own xs)))(h:d ρ n fun t l=>UO ρ i D dj t l xs):sPut i dj d D ρ n:=by
 rw[YV,ba,e];exact h
theorem zti(h:dj ρ n fun j l=>lInt j fun j=>(match ixN xs.length j with|some k=>D.nx (ρ.set i (some (.own (xs.set k x)))) l|none=>False)):UO ρ i D dj x n xs:=h
theorem zwi{A B:Prop}(l:b=true->A)(v:b=false->B):if b=true then A else B:=by cases b with|true=>exact iteT (l rfl)|false=>exact iteF (v rfl)
theorem ztk{p:Prop}[Decidable p]{A B:Prop}(l:p->A)(v:¬p->B):if decide p=true then A else B:=by
 by_cases h:p
 ·rw[decide_eq_true h];exact iteT (l h)
 ·rw[decide_eq_false h];exact iteF (v h)
theorem ztj{A B:Prop}(h:if b=true then B else A):if (!b)=true then A else B:=by
 cases b with|true=>exact iteF h|false=>exact iteT h
end
section
variable{C:Int->Int->Prop}{f:Int->Int->Int}{fb:Int->Int->Bool}{i j k:Int}{R:af->Prop}{Rb:Bool->Prop}{xs ys:qD}{s t:Str}{a b:Bool}{u v x y:af}{Rn:qN}{n:Nat}
theorem zs8(h:R (.int (i+j))):oAdd (.int i) (.int j) R:=Zl.symm▸h
theorem zs7(h:(s.length+t.length<=16777216/\R (.str (s++t)))):oAdd (.str s) (.str t) R:=Zm.symm▸h
theorem zs6(h:(xs.length+ys.length<=16777216/\R (.tuple (xs++ys)))):oAdd (.tuple xs) (.tuple ys) R:=Zn.symm▸h
theorem zwb(h:R (.bool (decide (i=j)))):oEq (.int i) (.int j) R:=YE.symm▸h
theorem zv_(h:R (.bool (decide (s=t)))):oEq (.str s) (.str t) R:=YG.symm▸h
theorem zwa(h:(Okd (.list xs)/\Okd (.list ys)/\R (.bool (dH (.list xs) (.list ys))))):oEq (.list xs) (.list ys) R:=YF.symm▸h
theorem zvZ(h:R (.bool (!decide (i=j)))):oNe (.int i) (.int j) R:=YO.symm▸h
theorem zvX(h:R (.bool (!decide (s=t)))):oNe (.str s) (.str t) R:=YR.symm▸h
theorem zvY(h:(Okd (.list xs)/\Okd (.list ys)/\R (.bool (!PyData.eqv (.list xs) (.list ys))))):oNe (.list xs) (.list ys) R:=YQ.symm▸h
theorem zv8(h:R (.bool (isNone u))):oIs u .none R:=YH.symm▸h
theorem znM(h:(Okd u/\(∀t∈xs,Okd t)/\R (.bool (!xs.any fun t=>t.eqv u)))):Zk u (.tuple xs) R:=ZE.symm▸h
theorem zv4(h:R (.bool (decide (i<j)))):oLtA (.int i) (.int j) R:=YL.symm▸h
theorem zv7(h:R (.bool (decide (i<=j)))):oLeA (.int i) (.int j) R:=YJ.symm▸h
theorem zv6(h:R (.bool (!decide (t.cps.toList<s.cps.toList)))):oLeA (.str s) (.str t) R:=YK.symm▸h
theorem zs2(h:R u):oIx (.tuple (u::xs)) (.int 0) R:=Za.symm▸h
theorem zs1(h:R v):oIx (.tuple (u::v::xs)) (.int 1) R:=Zb.symm▸h
theorem zs0(h:R w):oIx (.tuple (u::v::w::xs)) (.int 2) R:=Zc.symm▸h
theorem Vk(h:R u):oIx (.list (u::xs)) (.int 0) R:=Y8.symm▸h
theorem zoG(h:R v):oIx (.list (u::v::xs)) (.int 1) R:=Y9.symm▸h
theorem zsQ(h:Rb a):truD (.bool a) Rb:=Ze.symm▸h
theorem zsP(h:Rb (!xs.isEmpty)):truD (.list xs) Rb:=Zf.symm▸h
theorem zwd(h:Rb a):bolD (.bool a) Rb:=YC.symm▸h
theorem zsZ(h:R (.int xs.length)):bLen [.list xs] R:=.inl ⟨xs,rfl,h⟩
theorem zsX(h:R (.int xs.length)):bLen [.tuple xs] R:=.inr (.inl ⟨xs,rfl,h⟩)
theorem zsY(h:(s.length<=16777216/\R (.int s.length))):bLen [.str s] R:=.inr (.inr (.inl ⟨s,rfl,h⟩))
theorem znN(h:R (.int ns.length)):bLen [SCR ns] R:=.inr (.inr (.inr ⟨_,rfl,by rw[aL];exact h⟩))
theorem zv2(h:R (.int (if j<i then j else i))):bMin [.int i,.int j] R:=YN.symm▸h
theorem zv3(h:R (.int (if j > i then j else i))):bMax [.int i,.int j] R:=YM.symm▸h
theorem zwf(h:R (.int (if i<0 then -i else i))):bAbs [.int i] R:=YB.symm▸h
theorem zs4(h:R (.int (if a then 1 else 0))):bInt [.bool a] R:=Zo.symm▸h
theorem znL(h:R (.tuple xs)):Y2 [.list xs] R:=ZF.symm▸h
theorem zsS(h:(Shd u/\R (.str u.shown))):Yz [u] R:=Zd.symm▸h
theorem zp2(h:Rl xs):JX (.list xs) Rl:=Zu.symm▸h
theorem znP(h:Rl xs):JX (.tuple xs) Rl:=ZM.symm▸h
theorem zwc(h:(xs.length+ys.length<=16777216/\Q (xs++ys))):lCat (.list xs) (.list ys) Q:=h
theorem zv5(h:Q xs):lLst (.list xs) Q:=h
theorem zvT(h:Q xs):lTup (.tuple xs) Q:=h
theorem zv9(h:Q i):lInt (.int i) Q:=h
theorem zv0(c:CMul i j)(h:R (.int (i*j))):oMul (.int i) (.int j) R:=⟨c,h⟩
theorem zv1(c:0<j)(h:R (.int (i % j))):oMod (.int i) (.int j) R:=⟨c,h⟩
theorem zs5(c:Yw i j)(h:R (.int (i / j))):UP (.int i) (.int j) R:=⟨c,h⟩
theorem zvW(c:CPow i j)(h:R (.int (i*2 ^ j.toNat))):oShl (.int i) (.int j) R:=⟨c,h⟩
theorem zvU(h:R (.int (i - j))):oSub (.int i) (.int j) R:=h
theorem zvS(h:R (.int (fh i j))):oXor (.int i) (.int j) R:=h
theorem zwe(h:R (.int (fV i j))):oAnd (.int i) (.int j) R:=h
theorem j_gB(h:R (.bool (fb i j))):gB fb (.int i) (.int j) R:=h
theorem zig(h:R (.bool true)):lIsi isInt (.int i) R:=⟨Ud,h⟩
theorem zhg(h:R (.bool true)):lIsi isInt (.bool a) R:=⟨Q7,h⟩
theorem zif(h:R (.bool false)):lIsi isInt (.str s) R:=⟨UD,h⟩
theorem zfM(h:R (.bool false)):lIsi isInt (.tuple xs) R:=⟨UA,h⟩
theorem zhe(h:R (.bool false)):lIsi isInt (.list xs) R:=⟨Uy,h⟩
theorem zhd(h:R (.bool false)):lIsi isInt (.none) R:=⟨Uz,h⟩
theorem zhf(h:R (.bool false)):lIsi isInt (.dict []) R:=⟨Ux,h⟩
theorem zhh(h:R (.bool false)):lIsi isBool (.int i) R:=⟨Ud,h⟩
theorem zfN(h:R (.bool true)):lIsi isBool (.bool a) R:=⟨Q7,h⟩
theorem zic(h:R (.bool false)):lIsi isTup (.int i) R:=⟨Ud,h⟩
theorem zg9(h:R (.bool false)):lIsi isTup (.bool a) R:=⟨Q7,h⟩
theorem zib(h:R (.bool false)):lIsi isTup (.str s) R:=⟨UD,h⟩
theorem zfK(h:R (.bool true)):lIsi isTup (.tuple xs) R:=⟨UA,h⟩
theorem zg7(h:R (.bool false)):lIsi isTup (.list xs) R:=⟨Uy,h⟩
theorem zg6(h:R (.bool false)):lIsi isTup (.none) R:=⟨Uz,h⟩
theorem zg8(h:R (.bool false)):lIsi isTup (.dict []) R:=⟨Ux,h⟩
theorem zie(h:R (.bool false)):lIsi isStr (.int i) R:=⟨Ud,h⟩
theorem zhc(h:R (.bool false)):lIsi isStr (.bool a) R:=⟨Q7,h⟩
theorem zid(h:R (.bool true)):lIsi isStr (.str s) R:=⟨UD,h⟩
theorem zfL(h:R (.bool false)):lIsi isStr (.tuple xs) R:=⟨UA,h⟩
theorem zha(h:R (.bool false)):lIsi isStr (.list xs) R:=⟨Uy,h⟩
theorem zg_(h:R (.bool false)):lIsi isStr (.none) R:=⟨Uz,h⟩
theorem zhb(h:R (.bool false)):lIsi isStr (.dict []) R:=⟨Ux,h⟩
end
theorem zpf{h:Int}(h0:0<h):(2:Int) ^ h.toNat=2*2 ^ (h - 1).toNat:=by
 have e:h.toNat=(h - 1).toNat+1:=by lia
 rw[e,bW,dw]
theorem zrS{h:Int}(h0:0<=h):(2:Int) ^ (h+1).toNat=2*2 ^ h.toNat:=by
 have:=zpf (h:=h+1) (by lia)
 rw[this];simp
theorem IsBk.low{bits i h:Int}(B:IsBk bits i h)(l:0<h):IsBk bits i (h - 1):=by
 obtain⟨h0,u,k,k0,rfl,k1⟩:=B;refine⟨by lia,by lia,2*k,by lia,?_,?_⟩
 ·rw[zpf l,<- dO,dw k 2]
 ·have e:(bits - (h - 1)).toNat=(bits - h).toNat+1:=by lia
  rw[e,bW];lia
theorem IsBk.up{bits i h:Int}(B:IsBk bits i h)(l:0<h):IsBk bits (i+2 ^ h.toNat / 2) (h - 1):=by
 obtain⟨h0,u,k,k0,rfl,k1⟩:=B;refine⟨by lia,by lia,2*k+1,by lia,?_,?_⟩
 ·rw[zpf l];have:2*(2:Int) ^ (h - 1).toNat / 2=2 ^ (h - 1).toNat:=by lia
  rw[this,bP,bQ,<- dO,dw k 2]
 ·have e:(bits - (h - 1)).toNat=(bits - h).toNat+1:=by lia
  rw[e,bW];lia
theorem zny(P:Int)(l:0<P):k*P % (2*P)=(k % 2)*P:=by
 rw[dw 2 P,dw k P,Int.mul_emod_mul_of_pos _ _ l,dw]
theorem IsBk.abt{bits i h:Int}(B:IsBk bits i h)(l:h<bits):IsBk bits (i - i % (2*2 ^ h.toNat)) (h+1):=by
 obtain⟨h0,u,k,k0,rfl,k1⟩:=B;refine⟨by lia,by lia,k / 2,by lia,?_,?_⟩
 ·rw[zny _ (VJ _),zrS h0,<- kI];have:k - k % 2=k / 2*2:=by lia
  rw[this,dO]
 ·have e:(bits - h).toNat=(bits - (h+1)).toNat+1:=by lia
  rw[e,bW]at k1;lia
theorem IsBk.oth(B:IsBk bits i h)(u:h<bits):IsBk bits (fh i (2 ^ h.toNat)) h:=by
 obtain⟨h0,l,k,k0,rfl,k1⟩:=B;rw[zmW _ k0];have e:(bits - h).toNat=(bits - (h+1)).toNat+1:=by lia
 split
 ·refine⟨h0,l,k+1,by lia,by rw[bP,bQ],?_⟩
  rw[e,bW]at k1 ⊢;lia
 ·refine⟨h0,l,k - 1,by lia,by rw[kI,bQ],by lia⟩
theorem IsBk.nxt(B:IsBk bits i h)(l:i+2*2 ^ h.toNat<=2 ^ bits.toNat):IsBk bits (i+2 ^ h.toNat) h:=by
 obtain⟨h0,u,k,k0,rfl,k1⟩:=B;refine⟨h0,u,k+1,by lia,by rw[bP,bQ],?_⟩
 have e:bits.toNat=(bits - h).toNat+h.toNat:=by lia
 rw[e,ziS]at l;have p:=VJ h.toNat;have:(k+2)*2 ^ h.toNat<=2 ^ (bits - h).toNat*2 ^ h.toNat:=by rw[bP];exact l
 have:=kh this p;lia
theorem zwu:CMul 2 j:=.inl ⟨by decide,by decide⟩
theorem zwv:Yw j 2:=⟨by decide,by decide⟩
theorem Qc(h:Nat):(1:Int)*2 ^ h=2 ^ h:=bQ _
def BlkN(bits i:Int)(h:Nat):Prop:=(h:Int)<=bits/\∃k:Int,0<=k/\i=k*2 ^ h/\k<2 ^ (bits.toNat - h)
theorem IsBk.n(B:IsBk bits i h):BlkN bits i h.toNat:=by
 obtain⟨h0,l,k,k0,e,k1⟩:=B;refine⟨by lia,k,k0,e,?_⟩
 have:(bits - h).toNat=bits.toNat - h.toNat:=by lia
 rw[<- this];exact k1
theorem zmz(b:BlkN bits j g)(l:g<=h):j / 2 ^ h*2 ^ h<=j/\j+2 ^ g<=(j / 2 ^ h+1)*2 ^ h:=by
 obtain⟨_,m,m0,rfl,_⟩:=b;have C:=Bd.JA h;have v:=Bd.JA g;have x:=Bd.JA (h - g);have u:(2:Int) ^ h=2 ^ (h - g)*2 ^ g:=by rw[<- dP];congr 1;lia
 refine⟨oR _ (by lia),?_⟩
 have eq:(m*2 ^ g) / 2 ^ h=m / 2 ^ (h - g):=by rw[u];exact Int.mul_ediv_mul_of_pos_left m _ v
 rw[eq,u,<- dO];have y:m*2 ^ g+2 ^ g=(m+1)*2 ^ g:=by rw[bP,bQ]
 rw[y];refine aB ?_ (by lia)
 have:=Int.lt_ediv_add_one_mul_self m x;lia
theorem zi2{a b A:Int}(p:0<A)(l:a<b):(a+1)*A<=b*A:=aB (by lia) (by lia)
theorem zlK(x:BlkN bits i h)(v:BlkN bits j g):(g<=h/\j / 2 ^ h*2 ^ h=i)↔(i<=j/\j+2 ^ g<=i+2 ^ h):=by
 have u:=Bd.JA h;have C:=Bd.JA g;constructor
 ·rintro⟨l,e⟩;have t:=zmz v l;rw[e,bP,bQ,e]at t;exact t
 ·rintro⟨y,l2⟩;have l:g<=h:=by
   by_cases z:g<=h
   ·exact z
   ·exfalso;have:(2:Int) ^ h<2 ^ g:=by
     have e:(2:Int) ^ g=2 ^ (g - h)*2 ^ h:=by rw[<- dP];congr 1;lia
     have p2:(2:Int)<=2 ^ (g - h):=by
      obtain⟨d,hd⟩:∃d,g - h=d+1:=⟨g - h - 1,by lia⟩
      rw[hd,bW];have:=Bd.JA d;lia
     rw[e];have:=aB p2 (show(0:Int)<=2 ^ h by lia)
     lia
    lia
  refine⟨l,?_⟩;obtain⟨_,k,k0,rfl,_⟩:=x;have e:j / 2 ^ h=k:=by
   have a1:k<=j / 2 ^ h:=(g6 u).mpr y;have a2:j / 2 ^ h<k+1:=(g7 u).mpr (by rw[bP,bQ];lia)
   lia
  rw[e]
theorem zhK{bits i j:Int}{h g:Nat}(x:BlkN bits i h)(v:BlkN bits j g)(l:g<=h):(g<=h/\j / 2 ^ h*2 ^ h=i)\/j+2 ^ g<=i\/i+2 ^ h<=j:=by
 have u:=Bd.JA h;have t:=zmz v l;obtain⟨_,k,k0,rfl,_⟩:=x;rcases eW (j / 2 ^ h) k with z|z|z
 ·have:=zi2 u z;exact .inr (.inl (by lia))
 ·exact .inl ⟨l,by rw[z]⟩
 ·have:=zi2 u z;rw[bP,bQ]at this;exact .inr (.inr (by lia))
theorem zlR(Inv:Nat->En->Nat->Prop):∀(ts:qD) (i:Nat) {v:En}{n:Nat},Inv i v n ->
  (∀(k:Nat) (t:af) (v:En) (n:Nat) (K:En->Nat->Prop),ts[k]?=some t->Inv (i+k) v n->(∀x y,Inv (i+k+1) x y->K x y)->g t v fun x=>tb { D with nx:=K,ct:=K,bk:=D.nx } x n) ->
  (∀v n,Inv (i+ts.length) v n->D.nx v n)->forP g tb D ts v n
 | [],i,v,n,h0,_,fin=>fin v n (by simpa using h0)
 | t::ts,i,v,n,h0,turn,fin=>by
  refine turn 0 t v n _ rfl (by simpa using h0) fun x y h'=>?_
  refine zlR Inv ts (i+1) (by simpa using h') (fun k u v n K e G C=>?_) (fun v n h=>fin v n ?_)
  ·refine turn (k+1) u v n K (by simpa using e) ?_ fun x y h'=>C x y ?_
   ·have:i+(k+1)=i+1+k:=by lia
    rw[this];exact G
   ·have:i+1+k+1=i+(k+1)+1:=by lia
    rw[this];exact h'
  ·have:i+(t::ts).length=i+1+ts.length:=by simp;lia
   rw[this]at *;exact h
theorem U4(Inv:Nat->En->Nat->Prop)(h0:Inv 0 u n)
  (turn:∀(k:Nat) (t:af) (u:En) (n:Nat) (K:En->Nat->Prop),ts[k]?=some t->Inv k u n->(∀l v,Inv (k+1) l v->K l v)->g t u fun l=>tb { D with nx:=K,ct:=K,bk:=D.nx } l n)
  (fin:∀u n,Inv ts.length u n->D.nx u n):forP g tb D ts u n:=by
 refine zlR Inv ts 0 h0 (fun k t u n K e y x=>turn k t u n K e (by simpa using y) fun l v h'=>x l v (by simpa using h')) fun u n h=>fin u n (by simpa using h)
theorem ze1{lo:Int}{m i:Nat}{t:af}(h:(QI lo m)[i]?=some t):i<m/\t=.int (lo+(i:Int)):=by
 unfold QI at h;rw[aV]at h
 by_cases hi:i<m
 ·rw[iO hi]at h;cases h;exact⟨hi,rfl⟩
 ·rw[cT (by simp;lia)]at h
  cases h
theorem zkc(Inv:Nat->En->Nat->Prop)(h0:Inv m u n)
  (turn:∀m u n,Inv m u n->c u n fun b y=>if b=true then tb { D with nx:=fun l x=>∃v,v<m/\Inv v l x,ct:=fun l x=>∃v,v<m/\Inv v l x,bk:=D.nx } u y else D.nx u y):zkt c tb D u n :=
 ⟨Inv,⟨m,h0⟩,turn⟩
structure Sm(w k:Nat)(d:af):Prop where
 ls:d.leavesShort 41=true
 sh:d.showable=true
 cl:d.canLay0=true
 dp:d.depth<=k
 wt:d.weight<=w
theorem Sm.shd(h:Sm w k d)(hw:w<=380000)(l:k<=60):Shd d:=by
 refine⟨h.sh,b5 _ h.cl,cf h.dp l,?_⟩;have:=PyData.shown_le 41 (by decide) d h.ls
 have:=h.wt;lia
theorem Sm.mono(h:Sm w k d)(hw:w<=w')(l:k<=k'):Sm w' k' d:=⟨h.ls,h.sh,h.cl,cf h.dp l,cf h.wt hw⟩
theorem zkl(h:i.natAbs<10 ^ 40):Sm 140 0 (.int i):=by
 have x:i.natAbs<2 ^ 139:=aD h (by decide)
 have u:i.natAbs≠0->i.natAbs.log2<139:=fun z=>(oJ z).mpr x
 refine⟨?_,?_,by simp[bu],by simp[cO],?_⟩
 ·have e:=int_text_length_le10 (k:=40) (by decide) h
  have v:(gY (.int i)).length<=41:=by
   show(ae (toString i)).length<=41
   rw[PySem.ofString_length];exact e
  simp only[gL];exact decide_eq_true v
 ·simp only[iI,decide_eq_true_eq]
  by_cases z:i.natAbs=0
  ·rw[z];decide
  ·have:=u z;lia
 ·simp only[mU];split
  ·lia
  ·rename_i z;have:i.natAbs≠0:=fun y=>z (by simp;lia)
   have:=u this;lia
theorem zou:∀{xs:qD},(∀x∈xs,Sm w k x)->fO 41 xs=true/\gM xs=true/\bc xs=true/\bU xs<=k/\ip xs<=(w+1)*xs.length
 | [],_=>⟨by simp[fO],by simp[gM],by simp[bc],by simp[bU],by simp[ip]⟩
 | x::xs,h=>by
  obtain⟨a,b,c,d,e⟩:=zou (xs:=xs) fun y l=>h y (by simp[l])
  have hx:=h x (by simp)
  refine⟨by simp[fO,hx.ls,a],by simp[gM,hx.sh,b],by simp[bc,hx.cl,c],?_,?_⟩
  ·simp only[bU];have:=hx.dp;lia
  ·simp only[ip,aT,Nat.mul_add];have:=hx.wt;lia
theorem zfr(h:∀x∈xs,Sm w k x):Sm ((w+1)*xs.length) (k+1) (.tuple xs):=by
 obtain⟨a,b,c,d,e⟩:=zou h;exact⟨by simpa[gL] using a,by simpa[iI] using b,by simpa[bu] using c,by simp only[cO];lia,by simpa[mU] using e⟩
theorem zkk(a:i.natAbs<10 ^ 40)(b:h.natAbs<10 ^ 40):Sm 282 1 (.tuple [.int i,.int h]):=by
 have:=zfr (w:=140) (k:=0) (xs:=[.int i,.int h]) (by intro x hx;simp at hx;rcases hx with rfl|rfl;exact zkl a;exact zkl b)
 exact this.mono (by simp) (by decide)
theorem zrh(a:Sm w k p)(b:Sm w k q):Sm ((w+1)*2) (k+1) (.tuple [p,q]) :=
 zfr (xs:=[p,q]) (by intro x hx;simp at hx;rcases hx with rfl|rfl;exact a;exact b)
theorem ziN(y:-36893488147419103232<i)(a1:i<36893488147419103232)(v:-1000<=h)(x:h<=1000):Shd (.tuple [.int i,.int h]):=by
 have e:(36893488147419103232:Nat)<10 ^ 40:=by decide
 exact(zkk (i:=i) (h:=h) (by lia) (by lia)).shd (by decide) (by decide)
theorem zp8(y:ρ[0]?=some (some (.val (SCR ns))))(C:ρ[j]?=some (some (.val (.int k))))(G:ns.length<=63)(k0:0<=k)(k1:k<=100)(I:JM ρ=ρd)
  (h:u { nx:=fun x _=>D.nx (JM x) n,rt:=fun t _=>∃b,t=.bool b/\D.rt t n,bk:=fun x _=>D.bk (JM x) n,ct:=fun x _=>D.ct (JM x) n } ((ρd.set j (some (.val (.int k)))).set i (some (.val HAND))) 0):U7 i j u D ρ n:=by
 subst I;unfold U7;rw[y,C];exact⟨⟨ns,rfl,G⟩,k0,k1,h⟩
def rkAt(rk:ah->Int)(xs:Array mV)(i:Nat):Int:=((xs[i]?).map fun p=>rk p.1).getD 0
theorem Zx(h:xs[i]?=ys[j]?):rkAt rk xs i=rkAt rk ys j:=by unfold rkAt;rw[h]
theorem zox(v:u<xs.size)(hd:d<=u)(k:Nat) :
  (k=u - d->rkAt rk (bubble xs u d) k=rkAt rk xs u)/\(u - d<k->k<=u->rkAt rk (bubble xs u d) k=rkAt rk xs (k - 1))/\(k<u - d\/u<k->rkAt rk (bubble xs u d) k=rkAt rk xs k):=by
 have e:=getElem?_bubble v d hd k;refine⟨fun h=>?_,fun l x=>?_,fun h=>?_⟩
 ·rw[if_pos h]at e;exact Zx e
 ·rw[if_neg (by lia),if_pos ⟨l,x⟩]at e;exact Zx e
 ·rw[if_neg (by lia),if_neg (by lia)]at e;exact Zx e
theorem zkv(l:j<=xs.size)(k:Nat) :
  (i<=k->k<j->rkAt rk (mirror xs i j ((j - i) / 2)) k=rkAt rk xs (i+j - 1 - k))/\(k<i\/j<=k->rkAt rk (mirror xs i j ((j - i) / 2)) k=rkAt rk xs k):=by
 have e:=getElem?_mirror_all (i:=i) l k;refine⟨fun u v=>?_,fun h=>?_⟩
 ·rw[if_pos ⟨u,v⟩]at e;exact Zx e
 ·rw[if_neg (by lia)]at e;exact Zx e
structure Sb(kd:ki)(a0:Array mV)(z:mh):Prop where
 pm:(arrOf z).Perm a0
 kn:kindOf z=kd
 fl:failedOf z=none
 pe:pendingOf z=#[]
def Up(rk:ah->Int)(xs:Array mV)(m:Nat):Prop:=∀i j,i<j->j<m->rkAt rk xs i<=rkAt rk xs j
def Dn(rk:ah->Int)(xs:Array mV)(m:Nat):Prop:=∀i j,i<j->j<m->rkAt rk xs j<=rkAt rk xs i
section
variable{prog:aK}{w:aQ}{A:br}{E:qV}{s:au}{kd:ki}{rk:ah->Int}{a0:Array mV}
def Cmp(prog:aK)(w:aQ)(A:br)(s:au)(kd:ki)(rk:ah->Int)(a0:Array mV):Prop :=
 ∀(p q:mV) (E:qV) (Q:Bool->au->Prop),p∈a0.toList->q∈a0.toList->Q (decide (rk p.1<rk q.1)) s->wpAny (model prog w) A (keyLt' kd p.1 q.1) Q E s
theorem Sb.sz(b:Sb kd a0 z):(arrOf z).size=a0.size:=b.pm.size_eq
theorem Sb.arr(b:Sb kd a0 z)(h:xs.Perm (arrOf z)):Sb kd a0 (setArr z xs):=⟨h.trans b.pm,b.kn,b.fl,b.pe⟩
theorem ask(c:Cmp prog w A s kd rk a0)(b:Sb kd a0 z)(hi:i<a0.size)(v:j<a0.size)
  (h:Q (some (decide (rkAt rk (arrOf z) i<rkAt rk (arrOf z) j))) z):wpS (model prog w) A E s (ltAt' i j) Q z:=by
 have mem:∀k,k<a0.size->∃p,(arrOf z)[k]?=some p/\p∈a0.toList:=fun k I=>by
  have l:k<(arrOf z).size:=by rw[b.sz];exact I
  exact⟨(arrOf z)[k],gr l,(fX.mp b.pm).mem_iff.mp (by simp)⟩
 obtain⟨p,u,mp⟩:=mem i hi;obtain⟨q,eq,G⟩:=mem j v;have C:rkAt rk (arrOf z) i=rk p.1:=by unfold rkAt;rw[u];rfl
 have J:rkAt rk (arrOf z) j=rk q.1:=by unfold rkAt;rw[eq];rfl
 rw[C,J]at h;rw[ltAt'_eq];refine bX (nR ?_);show wpS (model prog w) A E s (elem' (arrOf z) i >>= fun x=>elem' (arrOf z) j >>= fun y=>lt' x y) Q z
 simp only[elem'_eq,u,eq,pure_bind];rw[lt'_eq];refine bX (nR (bX (u0 (iA ?_))));rw[b.kn];exact c p q _ _ mp G ⟨rfl,dz h⟩
theorem zt9(c:Cmp prog w A s kd rk a0)(hn:n<=a0.size)(hok:ok<=n)(b:Sb kd a0 z)(up:Up rk (arrOf z) ok)
  (h:∀y,Sb kd a0 y->Up rk (arrOf y) n->Q true y):wpS (model prog w) A E s (binarySort' 0 n ok) Q z:=by
 rw[binarySort'_eq];simp only[gj];refine bX (pT (g8 (Q:=fun c y=>c=(none,())/\Sb kd a0 y/\Up rk (arrOf y) n) (I:=fun k c y=>c=(none,())/\Sb kd a0 y/\Up rk (arrOf y) (min k n)) ?turn ?last ⟨rfl,b,fun i j S h2=>up i j S (by lia)⟩) ?post)
 case post =>
  rintro _ y ⟨rfl,C,u⟩
  exact dz (h y C u)
 case last =>
  rintro _ y ⟨rfl,C,u⟩
  exact⟨rfl,C,by rwa [show min (max (max ok 1) n) n=n by lia]at u⟩
 case turn =>
  rintro k _ y k1 k2 ⟨rfl,C,u⟩
  rw[show min k n=k by lia]at u
  refine bX (pT (g8 (Q:=fun c U=>U=y/\∃l r,c=(none,l,r)/\l<=k/\(∀i,i<l->rkAt rk (arrOf y) i<=rkAt rk (arrOf y) k)/\∀i,l<=i->i<k->rkAt rk (arrOf y) k<rkAt rk (arrOf y) i)
   (I:=fun x c U=>U=y/\∃l r,c=(none,l,r)/\l<=r/\r<=k/\r - l+x<=k/\(∀i,i<l->rkAt rk (arrOf y) i<=rkAt rk (arrOf y) k)/\∀i,r<=i->i<k->rkAt rk (arrOf y) k<rkAt rk (arrOf y) i) ?t2 ?l2 ⟨rfl,0,k,rfl,by lia,by lia,by lia,fun i hi=>by lia,fun i R L=>by lia⟩) ?p2)
  case l2 =>
   rintro _ v ⟨e,l,r,rfl,q1,q2,q3,G,J⟩;subst e;exact⟨rfl,l,r,rfl,by lia,G,fun i R L=>J i (by lia) L⟩
  case t2 =>
   rintro x _ v _ _ ⟨e,l,r,rfl,q1,q2,q3,G,J⟩;subst e
   by_cases ge:r<=l
   ·simp only[ge_iff_le,ge,if_true];exact dz ⟨rfl,l,r,rfl,by lia,G,fun i R L=>J i (by lia) L⟩
   ·simp only[ge_iff_le,ge,if_false];refine bX (ask c C (by lia) (by lia) ?_)
    by_cases le:rkAt rk (arrOf v) k<rkAt rk (arrOf v) ((l+r) / 2)
    ·simp only[le,decide_true,if_true];refine dz ⟨rfl,l,(l+r) / 2,rfl,by lia,by lia,by lia,G,fun i R L=>?_⟩
     rcases bN ((l+r) / 2) i with g|g
     ·have:=u _ _ g L;lia
     ·have:i=(l+r) / 2:=by lia
      rw[this];exact le
    ·simp only[le,decide_false,aI,if_false];refine dz ⟨rfl,(l+r) / 2+1,r,rfl,by lia,by lia,by lia,fun i R=>?_,J⟩
     rcases bN i ((l+r) / 2) with g|g
     ·have:=u _ _ g (by lia);lia
     ·have:i=(l+r) / 2:=by lia
      rw[this];lia
  case p2 =>
   rintro _ v ⟨e,l,r,rfl,q2,G,J⟩;subst e;show wpS (model prog w) A E s (moveDown' k l >>= fun _=>pure (cm (none,()))) _ v
   rw[moveDown'_eq];have hk:k<(arrOf v).size:=by rw[C.sz];lia
   refine bX (pU (dz ⟨rfl,C.arr (bubble_perm _ _ _),fun i j S h2=>?_⟩))
   show rkAt rk (bubble (arrOf v) k (k - l)) i<=rkAt rk (bubble (arrOf v) k (k - l)) j
   have hj:j<=k:=by lia
   obtain⟨a1,a2,N⟩:=zox (rk:=rk) hk (show k - l<=k by lia) i
   obtain⟨b1,Y,Z⟩:=zox (rk:=rk) hk (show k - l<=k by lia) j
   have el:k - (k - l)=l:=by lia
   rw[el]at a1 a2 N b1 Y Z;rcases dU j l with jl|jl|jl
   ·rw[N (by lia),Z (by lia)];exact u i j S (by lia)
   ·rw[N (by lia),b1 jl];exact G i (by lia)
   ·rw[Y jl hj];rcases dU i l with il|il|il
    ·rw[N (by lia)]
     rcases bN i (j - 1) with g|g
     ·exact u i (j - 1) g (by lia)
     ·exact absurd g (by lia)
    ·rw[a1 il];exact bf (J (j - 1) (by lia) (by lia))
    ·rw[a2 il (by lia)]
     rcases bN (i - 1) (j - 1) with g|g
     ·exact u _ _ g (by lia)
     ·exact absurd g (by lia)
end
section
variable{prog:aK}{w:aQ}{A:br}{E:qV}{s:au}{kd:ki}{rk:ah->Int}{a0:Array mV}
theorem zoV(c:Cmp prog w A s kd rk a0)(N:m<=a0.size)(a1:1<=a)(C:a<=m)(b:Sb kd a0 z)(up:Up rk (arrOf z) a)
  (h:∀n,a<=n->n<=m->Up rk (arrOf z) n->(n<m->rkAt rk (arrOf z) n<rkAt rk (arrOf z) (n - 1))->Q (none,n) z):wpS (model prog w) A E s (ascLoop a m) Q z:=by
 unfold ascLoop;refine g8 (I:=fun x c y=>y=z/\c=(none,x)/\Up rk (arrOf z) x) (fun x _ y G L I=>?_) (fun _ y I=>?_) ⟨rfl,rfl,up⟩
 ·obtain⟨e,rfl,u⟩:=I;subst e;refine bX (ask c b (by omega) (by omega) ?_)
  by_cases g:rkAt rk (arrOf y) x<rkAt rk (arrOf y) (x - 1)
  ·simp only[g,decide_true,if_true];exact dz (h x G (by omega) u fun _=>g)
  ·simp only[g,decide_false,aI,if_false];refine dz ⟨rfl,rfl,fun i j v J=>?_⟩
   rcases bN j x with jx|jx
   ·exact u i j v jx
   ·have l:j=x:=by omega
    subst l;rcases bN i (j - 1) with ij|ij
    ·have:=u i (j - 1) ij (by omega);omega
    ·have:i=j - 1:=by omega
     rw[this];omega
 ·obtain⟨e,rfl,u⟩:=I;subst e;rw[show max a m=m by omega]at u ⊢
  exact h m C (aA _) u fun g=>absurd g (by omega)
theorem zkg(c:Cmp prog w A s kd rk a0)(C:m<=a0.size)(I:1<=n)(nm:n<=m)(b:Sb kd a0 z)(G:Dn rk (arrOf z) n)
  (h:∀k y,Sb kd a0 y->1<=k->k<=m->Up rk (arrOf y) k->Q (some k) y):wpS (model prog w) A E s (tail3 n m) Q z:=by
 unfold tail3;have v:n<=(arrOf z).size:=by rw[b.sz];omega
 refine bX (mi (bX ?_));have l:=b.arr (mj (arrOf z) 0 n ((n - 0) / 2));refine zoV c C I nm l (fun i j J x=>?_) fun k k1 k2 u _=>dz (h k _ l (by omega) k2 u)
 show rkAt rk (mirror (arrOf z) 0 n ((n - 0) / 2)) i<=rkAt rk (mirror (arrOf z) 0 n ((n - 0) / 2)) j
 rw[(zkv (rk:=rk) v i).1 (by omega) (by omega),(zkv (rk:=rk) v j).1 (by omega) x]
 exact G _ _ (by omega) (by omega)
theorem ZH(l:j<=xs.size)(al:∀k,i<=k->k<j->rkAt rk xs k=rkAt rk xs (j - 1))(k:Nat):rkAt rk (mirror xs i j ((j - i) / 2)) k=rkAt rk xs k:=by
 obtain⟨p,q⟩:=zkv (rk:=rk) (i:=i) l k
 by_cases g:i<=k/\k<j
 ·rw[p g.1 g.2,al _ (by omega) (by omega),al k g.1 g.2]
 ·exact q (by omega)
theorem zqx(c:Cmp prog w A s kd rk a0)(Y:m<=a0.size)(Z:1<=n)(nm:n<=m)(b:Sb kd a0 z)(S:Dn rk (arrOf z) n)
  (h:∀k e y,Sb kd a0 y->n<=k->k<=m->Dn rk (arrOf y) k->e<k->(∀i,k - (e+1)<=i->i<k->rkAt rk (arrOf y) i=rkAt rk (arrOf y) (k - 1))->Q (none,k,e) y) :
  wpS (model prog w) A E s (descLoop n m) Q z:=by
 unfold descLoop;refine g8 (I:=fun x c y=>∃e,c=(none,x,e)/\Sb kd a0 y/\Dn rk (arrOf y) x/\e<x/\∀i,x - (e+1)<=i->i<x->rkAt rk (arrOf y) i=rkAt rk (arrOf y) (x - 1)) (fun x _ y R U I=>?_) (fun _ y I=>?_)
  ⟨0,rfl,b,S,by omega,fun i L J=>by rw[show i=n - 1 by omega]⟩
 ·obtain⟨e,rfl,l,d,ex,al⟩:=I
  have xz:x<=(arrOf y).size:=by rw[l.sz];omega
  refine bX (ask c l (show x<a0.size by omega) (show x - 1<a0.size by omega) ?_)
  by_cases g:rkAt rk (arrOf y) x<rkAt rk (arrOf y) (x - 1)
  ·simp only[g,decide_true,if_true];have G:∀xs:Array mV,(∀k,rkAt rk xs k=rkAt rk (arrOf y) k)->Dn rk xs (x+1):=fun xs hx i j v N=>by
    rw[hx,hx];rcases bN j x with jx|jx
    ·exact d i j v jx
    ·have u:j=x:=by omega
     subst u;rcases bN i (j - 1) with ij|ij
     ·have:=d i (j - 1) ij (by omega);omega
     ·have:i=j - 1:=by omega
      rw[this];omega
   have one:∀xs:Array mV,∀i,x+1 - (0+1)<=i->i<x+1->rkAt rk xs i=rkAt rk xs (x+1 - 1):=fun xs i L J=>by rw[show i=x+1 - 1 by omega]
   by_cases e0:e > 0
   ·simp only[e0,if_true];exact bX (mi (dz ⟨0,rfl,l.arr (mj _ _ _ _),G _ (ZH xz al),by omega,one _⟩))
   ·simp only[e0,if_false];exact dz ⟨0,rfl,l,G _ (fun _=>rfl),by omega,one _⟩
  ·simp only[g,decide_false,aI,if_false];refine bX (ask c l (show x - 1<a0.size by omega) (show x<a0.size by omega) ?_)
   by_cases g2:rkAt rk (arrOf y) (x - 1)<rkAt rk (arrOf y) x
   ·simp only[g2,decide_true,if_true];exact dz (h x e y l R (by omega) d ex al)
   ·simp only[g2,decide_false,aI,if_false];have C:rkAt rk (arrOf y) x=rkAt rk (arrOf y) (x - 1):=by omega
    refine dz ⟨e+1,rfl,l,fun i j v N=>?_,by omega,fun i L J=>?_⟩
    ·rcases bN j x with jx|jx
     ·exact d i j v jx
     ·have u:j=x:=by omega
      subst u;rcases bN i (j - 1) with ij|ij
      ·have:=d i (j - 1) ij (by omega);omega
      ·have:i=j - 1:=by omega
       rw[this];omega
    ·rw[show x+1 - 1=x by omega]
     rcases bN i x with ix|ix
     ·rw[al i (by omega) ix,C]
     ·rw[show i=x by omega]
 ·obtain⟨e,rfl,l,d,ex,al⟩:=I
  rw[show max n m=m by omega]at *
  exact h m e y l nm (aA _) d ex al
theorem zkQ(c:Cmp prog w A s kd rk a0)(u:m<=a0.size)(nm:n+1<=m)(b:Sb kd a0 z)(G:Dn rk (arrOf z) (n+1))
  (h:∀k y,Sb kd a0 y->1<=k->k<=m->Up rk (arrOf y) k->Q (some k) y):wpS (model prog w) A E s (descPart n m) Q z:=by
 unfold descPart;refine bX (u0 (eX ⟨rfl,bX ?_⟩));refine zqx c u (by omega) nm b G fun k e y l k1 k2 d I al=>?_
 have v:k<=(arrOf y).size:=by rw[l.sz];omega
 by_cases e0:e > 0
 ·simp only[e0,if_true];refine bX (mi (zkg c u (by omega) k2 (l.arr (mj _ _ _ _)) (fun i j x C=>?_) h))
  show rkAt rk (mirror (arrOf y) (k - (e+1)) k ((k - (k - (e+1))) / 2)) j<=rkAt rk (mirror (arrOf y) (k - (e+1)) k ((k - (k - (e+1))) / 2)) i
  rw[ZH v al,ZH v al];exact d i j x C
 ·simp only[e0,if_false];exact zkg c u (by omega) k2 l d h
theorem zrE(c:Cmp prog w A s kd rk a0)(C:m<=a0.size)(I:1<=m)(b:Sb kd a0 z)
  (h:∀k y,Sb kd a0 y->1<=k->k<=m->Up rk (arrOf y) k->Q (some k) y):wpS (model prog w) A E s (countRun' 0 m) Q z:=by
 rw[countRun0_eq];refine bX (zoV c C (aA 1) I b (fun i j v G=>absurd v (by omega)) fun n N L u lt=>?_)
 by_cases en:n=m
 ·simp only[en,beq_self_eq_true,if_true];exact dz (h m z b I (aA _) (en▸u))
 ·have x:(n == m)=false:=by simpa using en
  simp only[x,aI,if_false];have l:=lt (by omega)
  by_cases g:n > 1
  ·simp only[g,if_true];refine bX (ask c b (by omega) (by omega) ?_)
   by_cases rose:rkAt rk (arrOf z) 0<rkAt rk (arrOf z) (n - 1)
   ·simp only[rose,decide_true,if_true];exact dz (h n z b N L u)
   ·simp only[rose,decide_false,aI,if_false];have zn:n<=(arrOf z).size:=by rw[b.sz];omega
    have al:∀k,0<=k->k<n->rkAt rk (arrOf z) k=rkAt rk (arrOf z) (n - 1):=fun k _ kn=>by
     have p:rkAt rk (arrOf z) 0<=rkAt rk (arrOf z) k:=by
      rcases m7 k with k0|k0
      ·rw[k0];exact bh _
      ·exact u 0 k k0 kn
     have q:rkAt rk (arrOf z) k<=rkAt rk (arrOf z) (n - 1):=by
      rcases bN k (n - 1) with kk|kk
      ·exact u k (n - 1) kk (by omega)
      ·rw[show k=n - 1 by omega];exact bh _
     omega
    refine bX (mi (zkQ c C (by omega) (b.arr (mj _ _ _ _)) (fun i j v G=>?_) h))
    show rkAt rk (mirror (arrOf z) 0 n ((n - 0) / 2)) j<=rkAt rk (mirror (arrOf z) 0 n ((n - 0) / 2)) i
    rw[ZH zn al,ZH zn al];have R:=al i (by omega) (by omega)
    rcases bN j n with jn|jn
    ·have:=al j (by omega) jn;omega
    ·rw[show j=n by omega];omega
  ·simp only[g,if_false];have J:n=1:=by omega
   subst J;refine zkQ c C (by omega) b (fun i j v G=>?_) h
   rw[show i=0 by omega,show j=1 by omega]
   exact bf l
theorem zo7(c:Cmp prog w A s kd rk a0)(b:Sb kd a0 z)(s2:2<=a0.size)(s64:a0.size<64)
  (h:∀y,(arrOf y).Perm a0->failedOf y=none->Up rk (arrOf y) a0.size->Q () y):wpS (model prog w) A E s sortRuns' Q z:=by
 rw[sortRuns'_eq];refine bX (nR ?_);have Z:minRun' a0.size a0.size 0=a0.size:=by
  obtain⟨q,Y⟩:∃q,a0.size=q+1:=⟨a0.size - 1,by omega⟩
  conv=>lhs;rw[Y]
  rw[minRun'_succ,if_pos (by omega)];omega
 simp only[b.sz,Z];refine bX (pT (g8 (Q:=fun c y=>c=(none,a0.size)/\(arrOf y).Perm a0/\failedOf y=none/\pendingOf y=#[(0,a0.size,0)]/\Up rk (arrOf y) a0.size)
  (I:=fun x c y=>(x=0/\c=(none,0)/\Sb kd a0 y)\/(0<x/\c=(none,a0.size)/\(arrOf y).Perm a0/\failedOf y=none/\pendingOf y=#[(0,a0.size,0)]/\Up rk (arrOf y) a0.size)) ?turn ?last (.inl ⟨rfl,rfl,b⟩)) ?post)
 case last =>
  rintro _ y (⟨x0,_⟩|⟨_,q⟩)
  ·omega
  ·exact q
 case turn =>
  rintro x _ y _ _ (⟨rfl,rfl,J⟩|⟨x1,rfl,q⟩)
  ·simp only[ge_iff_le,show ¬a0.size<=0 by omega,if_false,nS,nT,gj]
   have fin:∀C,Sb kd a0 C->Up rk (arrOf C) a0.size->(arrOf (setPending C ((pendingOf C).push (0,a0.size,0)))).Perm a0/\failedOf (setPending C ((pendingOf C).push (0,a0.size,0)))=none/\pendingOf (setPending C ((pendingOf C).push (0,a0.size,0)))=#[(0,a0.size,0)]/\Up rk (arrOf (setPending C ((pendingOf C).push (0,a0.size,0)))) a0.size :=
    fun C G N=>⟨G.pm,G.fl,by show(pendingOf C).push (0,a0.size,0)=_;rw[G.pe];rfl,N⟩
   refine bX (zrE c (aA _) (by omega) J fun k S R k1 k2 U=>?_)
   by_cases g:k<a0.size
   ·simp only[g,if_true];refine bX (u0 (eX ⟨rfl,bX ?_⟩));refine zt9 c (aA _) k2 R U fun C G N=>?_
    simp only[e8,aI,if_false];refine bX (nR ?_);have L:(pendingOf C).back?=none:=by rw[G.pe];rfl
    simp only[L];exact bX (pU (dz (.inr ⟨by omega,rfl,fin C G N⟩)))
   ·simp only[g,if_false];have ek:k=a0.size:=by omega
    subst ek;refine bX (nR ?_);have L:(pendingOf S).back?=none:=by rw[R.pe];rfl
    simp only[L];exact bX (pU (dz (.inr ⟨by omega,rfl,fin S R U⟩)))
  ·simp only[ge_iff_le,aA,if_true];exact dz ⟨rfl,q⟩
 case post =>
  rintro _ y ⟨rfl,q1,q2,q3,q4⟩;refine bX (pT (g8 (Q:=fun c v=>v=y/\c=(none,())) (I:=fun _ c v=>v=y/\c=(none,())) (fun x _ v _ _ I=>?_) (fun _ _ I=>I) ⟨rfl,rfl⟩) fun _ v I=>?_)
  ·obtain⟨e,rfl⟩:=I;subst e;refine bX (nR ?_);simp only[q3,ax,aT,cL,aA,if_true];exact dz ⟨rfl,rfl⟩
  ·obtain⟨e,rfl⟩:=I;subst e;exact dz (h v q1 q2 q4)
end
theorem znb{prog:aK}{w:aQ}{A:br}{E:qV}{s:au}{v:ki}{rk:ah->Int}{l:Array mV}{z:mh}{Q:Unit->mh->Prop}(c:Cmp prog w A s v rk l)(b:Sb v l z)(s2:2<=l.size)(u:l.size<64)
  (h:∀y,(arrOf y).Perm l->failedOf y=none->Up rk (arrOf y) l.size->Q () y):wpS (model prog w) A E s sortRuns' Q z:=zo7 c b s2 u h
def midH(h:aN)(a:aq)(l:List ah):aN:=((h.update a (eZ fun _=>#[])).push (seqObj "tuple" l.toArray 0)).push (seqObj "list" #[] 0)
section
variable{prog:aK}{w:aQ}{A:br}{E:qV}{s:au}{rk:ah->Int}
def Kinds(prog:aK)(w:aQ)(A:br)(s:au)(rk:ah->Int)(l:List ah):Prop:=2<=l.length->∃u,(∀(E:qV) (Q:ki->au->Prop),Q u s->wpAny (model prog w) A (keyKind' l.toArray) Q E s)/\Cmp prog w A s u rk (pairsOf l)
theorem zi3{a:aq}{l:List ah}{n:Nat}{P:Fin->au->Prop}(u:s.heap.get? a=some (seqObj "list" l.toArray n)) (x:l.length<64) (S:Kinds prog w A { s with heap:=midH s.heap a l } rk l)
  (h:∀y:mh,(arrOf y).Perm (pairsOf l)->Up rk (arrOf y) l.length->P (.done (.ret .none)) { s with heap:=sortedHeap s.heap a l ((arrOf y).map (·.2)) }) :
  wpAny (model prog w) A (fR.«list.sort» ⟨[.ref a],[]⟩) P E s:=by
 rw[list_sort_plain];have I:a<s.heap.objs.size:=ay u;refine aa (gk u rfl (aa (mW u rfl ?_)));obtain⟨v,J⟩:∃v,(s.heap.update a (eZ fun _=>#[])).get? a=some (seqObj "list" #[] v):=⟨_,oV u (fun _=>#[])⟩
 refine aa (seqEpoch_at J rfl (aa (pV (aa (iB (bO ?_))))));have L:(midH s.heap a l).get? a=some (seqObj "list" #[] v):=by
  unfold midH;rw[cx _ _ _ (by rw[dZ,cE];exact aF (aD I (kF _))),cx _ _ _ (by rw[cE];exact aF I)]
  exact J
 show wpAny (model prog w) A _ P E { s with heap:=midH s.heap a l }
 have z:l.toArray.size=l.length:=by simp
 have tail:∀(y:mh),(arrOf y).Perm (pairsOf l)->failedOf y=none->Up rk (arrOf y) l.length->wpAny (model prog w) A (do
   let touched:=(<- seqEpoch a) != v
   sZ (.ref a) fun _=>(arrOf y).map (·.2)
   if let some e:=failedOf y then rule "list.sort.comparison-raised";throw e
   if touched then rule "list.sort.modified";raiseError "ValueError" "list modified during sort"
   ret .none) P E { s with heap:=midH s.heap a l }:=fun y pm fl up=>by
  refine aa (seqEpoch_at L rfl (aa (mW L rfl ?_ (hsz2:=?_))))
  ·rw[fl];simp only[bne_self_eq_false,aI,if_false];exact aj (h y pm up)
  ·rw[Array.size_map,pm.size_eq,lK];show l.length<=sizeLine+1
   have:64<=sizeLine:=by decide
   omega
 by_cases two:l.length<2
 ·simp only[z,two,if_true];refine aa (aj ?_);rw[StateT.run_pure];refine aa (aj ?_);exact tail (wM general' (l.toArray.zip l.toArray) #[] 7 none) (oW _) rfl fun i j U R=>absurd R (by omega)
 ·simp only[z,two,if_false];obtain⟨N,k1,k2⟩:=S (by omega)
  refine aa (k1 _ _ ?_);refine aa (cQ (znb (Q:=fun _ y=>(arrOf y).Perm (pairsOf l)/\failedOf y=none/\Up rk (arrOf y) l.length) (z:=wM N (l.toArray.zip l.toArray) #[] 7 none) k2 ⟨oW _,rfl,rfl,rfl⟩ (by rw[lK];omega) (by rw[lK];exact x)
   fun y G p2 C=>⟨G,p2,by rwa [lK]at C⟩) ?_ fun _ _ e=>e)
  rintro⟨⟨⟩,y⟩ s' ⟨rfl,G,p2,C⟩;exact tail y G p2 C
theorem zeD{l:aq}{v:List ah}{o:Obj}{T:String}{n:Nat}{Q:List ah->au->Prop}(I:s.heap.get? l=some o)(hc:o.cls=.type T)(G:T = "list" \/ T = "tuple") (hd:o.data=.seq v.toArray n) (R:v.length<=sizeLine)
  (h:Q v { s with heap:=(s.heap.push (seqObj "list" #[] 0)).update s.heap.objs.size (eZ (·++v.toArray)) }):wpAny (model prog w) A (collect (.ref l)) Q E s:=by
 unfold collect;refine aa (wpAny_runValue (fH entry_proto_collect' ?_));show wpAny (model prog w) _ (newList [] >>= fun x=>again (.builtin "list.__iadd__" ⟨[x,.ref l],[]⟩)) _ _ s
 refine aa (iB (aj ⟨m8 _ (by decide +kernel),fH entry_list_iadd' ?_⟩))
 show wpAny (model prog w) _ (iP (.ref s.heap.objs.size) (.ref l) (.ref s.heap.objs.size)) _ _ { s with heap:=s.heap.push (seqObj "list" #[] 0) }
 unfold iP;have C:(s.heap.push (seqObj "list" #[] 0)).get? l=some o:=ak _ I;refine aa (gi (T:=T) ⟨o,C,hc⟩ ?_);have cond:∀b:Bool,(b||bq T == bq "list" ||bq T == bq "tuple")=true:=by
  intro b;have J:(bq "list" == bq "list")=true:=rfl;have N:(bq "tuple" == bq "tuple")=true:=rfl;rcases G with rfl|rfl
  ·rw[J];simp
  ·rw[N];simp
 rw[if_pos (cond _)];refine aa (gk C hd (aa (gk (xs:=#[]) (n:=0) (az _ rfl) rfl ?_)));rw[if_neg (by simp)]
 refine aa (mW (xs:=#[]) (n:=0) (az _ rfl) rfl (aj ?_) (eV _) (by simp only[Array.size_append,ax,cL];omega))
 refine aa (m:=load s.heap.objs.size) (wpAny_load (oV (az _ rfl) _) ?_);show wpAny (model prog w) A (pure ((#[]:Array ah)++v.toArray).toList) Q E _
 have e:((#[]:Array ah)++v.toArray).toList=v:=by simp
 rw[e];exact aj h
def preH(h:aN)(l:List ah):aN:=((h.push (seqObj "list" #[] 0)).update h.objs.size (eZ (·++l.toArray))).push (seqObj "list" l.toArray 0)
theorem zjF{l:aq}{v:List ah}{o:Obj}{T:String}{n:Nat}{Q:qV}(I:s.heap.get? l=some o)(hc:o.cls=.type T)(G:T = "list" \/ T = "tuple") (hd:o.data=.seq v.toArray n) (x:v.length<64)
  (J:∀N,Kinds prog w N { s with heap:=midH (preH s.heap v) (s.heap.objs.size+1) v } rk v)
  (h:∀y:mh,(arrOf y).Perm (pairsOf v)->Up rk (arrOf y) v.length->Q (.ref (s.heap.objs.size+1)) { s with heap:=sortedAll s.heap v ((arrOf y).map (·.2)) }) :
  wpAny (model prog w) A (call (.builtin "sorted") [.ref l]) Q E s:=by
 refine ky kind_sorted plain_sorted entry_sorted (args_sorted1 _) ?_;unfold fR.«sorted»;refine aa (m:=checkCount "sorted" 1 1 _) (aj ?_);refine aa (zeD I hc G hd (by have:64<=sizeLine:=(by decide);omega) (aa (iB ?_)))
 have z:((s.heap.push (seqObj "list" #[] 0)).update s.heap.objs.size (eZ (·++v.toArray))).objs.size=s.heap.objs.size+1:=by rw[cE,dZ]
 have C:(preH s.heap v).get? (s.heap.objs.size+1)=some (seqObj "list" v.toArray 0):=by
  unfold preH;rw[<- z];exact az _ rfl
 show wpAny (model prog w) _ _ _ _ { s with heap:=preH s.heap v }
 rw[z];refine aa (bO (eF pW ⟨_,C,rfl⟩ oX (zi3 C x (J _) fun y L p2=>⟨_,rfl,?_⟩) (pX _)))
 exact aj ⟨_,rfl,h y L p2⟩
end
section
variable{prog:aK}{w:aQ}{A:br}{E:qV}{s:au}
theorem zlA(b:Bool)(x y:ah):keyLt' (tuples' b) x y=(do
  let xs <- g9 x
  let ys <- g9 y
  for ((p,q),i) in (xs.toList.zip ys.toList).zipIdx do
   if !(<- eqBool p q) then return <- oneLt' (b&&i == 0) p q
  return decide (xs.size<ys.size)):=rfl
def LtAt(prog:aK)(w:aQ)(A:br)(s:au)(one:Bool)(p q:ah)(l:Bool):Prop:=∀(E:qV) (Q:Bool->au->Prop),Q l s->wpAny (model prog w) A (oneLt' one p q) Q E s
theorem zg4{b:Bool}{x y:aq}{R N:Obj}{v C l u:ah}{n m:Nat}{G J U S:Bool}{Q:Bool->au->Prop}(hx:s.heap.get? x=some R)(Z:R.data=.seq #[v,C] n)(hy:s.heap.get? y=some N)(dy:N.data=.seq #[l,u] m)
  (Y:i8 A s v l G) (e1:i8 A s C u J) (t0:G=false->LtAt prog w A s b v l U) (t1:J=false->LtAt prog w A s false C u S) (h:Q (if G=true then(if J=true then false else S) else U) s) :
  wpAny (model prog w) A (keyLt' (tuples' b) (.ref x) (.ref y)) Q E s:=by
 rw[zlA];refine aa (gk hx Z (aa (gk hy dy ?_)));have ez:((#[v,C]:Array ah).toList.zip (#[l,u]:Array ah).toList).zipIdx=[((v,l),0),((C,u),1)]:=rfl;simp only[ez,iH,mn];refine aa (aa ?_);refine aa (Y prog w E _ ?_);cases G with
 | false =>
  simp only[fY,if_true];have z0:(b&&(0:Nat) == 0)=b:=by simp
  rw[z0];refine aa (t0 rfl E _ ?_);exact aj (aj (aj (by simpa using h)))
 | true =>
  simp only[e8,aI,if_false];refine aj (aa (aa (e1 prog w E _ ?_)));cases J with
  | false =>
   simp only[fY,if_true];have z1:(b&&(1:Nat) == 0)=false:=by simp
   rw[z1];refine aa (t1 rfl E _ ?_);exact aj (aj (aj (by simpa using h)))
  | true =>
   simp only[e8,aI,if_false];exact aj (aj (aj (by simpa using h)))
theorem zlc(a b:Int)(t u:Tok):LtAt prog w A s true (.int a t) (.int b u) (decide (a<b)):=fun _ _ q=>oneLt_int q
theorem znB(a b:Int)(t u:Tok):LtAt prog w A s false (.int a t) (.int b u) (decide (a<b)):=fun E Q q=>by
 rw[td];simp only[aI,if_false];refine aa (show wpAny (model prog w) A (compareOp .Lt (.int a t) (.int b u)) _ E s from lt_int ?_)
 exact bz q
def PrIn(h:aN)(u:ah)(b k:Int):Prop:=∃(a:aq) (o:Obj) (t t':Tok) (n:Nat),u=.ref a/\h.get? a=some o/\o.cls=.type "tuple" /\ o.data=.seq #[.int b t,.int k t'] n
def two?:List ah->Int
 | [.int b _,.int k _]=>b*1000+k
 | _=>0
def rkC(h:aN)(u:ah):Int:=match u with
 | .ref a=>match h.get? a with
  | some o=>match o.data with
   | .seq xs _=>two? xs.toList
   | _=>0
  | none=>0
 | _=>0
theorem PrIn.rk{h:aN}{u:ah}{b k:Int}(p:PrIn h u b k):rkC h u=b*1000+k:=by
 obtain⟨a,o,t,t',n,rfl,l,_,v⟩:=p;simp only[rkC,l,v,two?]
theorem PrIn.kept{h h':aN}{u:ah}{b k:Int}(p:PrIn h u b k)(kp:∀b o,h.get? b=some o->h'.get? b=some o):PrIn h' u b k:=by
 obtain⟨a,o,t,t',n,l,v,x,y⟩:=p;exact⟨a,o,t,t',n,l,kp _ _ v,x,y⟩
theorem ZG{α u:Type}{f:α->Sem u}{P:α->u->Prop}{M:sR}:∀(l:List α) {Q:List u->au->Prop},(∀v∈l,∀(C:u->au->Prop),(∀r,P v r->C r s)->wpAny M A (f v) C E s)->(∀rs,cZ P l rs->Q rs s)->wpAny M A (l.mapM f) Q E s
 | [],_,_,h=>by rw[List.mapM_nil];exact aj (h _ .nil)
 | x::l,Q,hf,h=>by
  rw[List.mapM_cons];exact aa (hf x (.head _) _ fun r G=>aa (ZG l (fun v I=>hf v (.tail _ I)) fun rs y=>aj (h _ (.cons G y))))
theorem zjj(v:ah):firstOfTuple' v=(do
  if (<- typeOf v) != .type "tuple" then return none
  return (<- g9 v)[0]?):=rfl
theorem zjW{N:List ah}{Q:ki->au->Prop}(U:1<=N.length)(R:∀v∈N,∃b k,PrIn s.heap v b k)(h:Q (tuples' true) s):wpAny (model prog w) A (keyKind' N.toArray) Q E s:=by
 rw[keyKind'_eq,hU,map_eq_pure_bind];refine aa (aa (ZG (P:=fun _ r=>∃(b:Int) (t:Tok),r=some (.int b t)) N (fun v hv Q' hq=>?_) fun rs J=>aj ?_))
 ·obtain⟨b,k,a,o,t,t',n,rfl,Y,e2,e3⟩:=R v hv;rw[zjj];refine aa (gi (T:="tuple") ⟨o,Y,e2⟩ ?_);rw[if_neg (by decide)]
  exact aa (gk Y e3 (aj (hq _ ⟨b,t,rfl⟩)))
 ·have al:∀r∈rs,∃(b:Int) (t:Tok),r=some (.int b t):=by
   clear h R U;induction J with
   | nil=>intro r u;cases u
   | cons x y G =>
    intro r u;rcases aw.mp u with rfl|u
    ·exact x
    ·exact G r u
  have ln:rs.length=N.length:=by
   clear h R U al;induction J with
   | nil=>rfl
   | cons x y G=>simp[G]
  have IG:(rs.toArray.all fun x=>x.isSome)=true:=by
   simp only[iq,bg];intro x hx;obtain⟨b,t,rfl⟩:=al x hx
   rfl
  rw[if_pos IG];refine aa (eX ?_);rw[oY];have L:rs.toArray.filterMap id=(rs.filterMap id).toArray:=by simp
  rw[L,hU,map_eq_pure_bind];refine aa (aa (aa (ZG (P:=fun _ r=>r=bq "int") _ (fun v hv Q' hq=>?_) fun ts C=>aj ?_)))
  ·obtain⟨x,hx,e⟩:=fw.mp hv;obtain⟨b,t,rfl⟩:=al x hx;cases e;exact aj (hq _ rfl)
  ·have I:∀r∈ts,r=bq "int":=by
    clear h R U;generalize rs.filterMap id=l at C;induction C with
    | nil=>intro r u;cases u
    | cons x y G =>
     intro r u;rcases aw.mp u with rfl|u
     ·exact x
     ·exact G r u
   have ln2:ts.length=rs.length:=by
    have:ts.length=(rs.filterMap id).length:=by
     clear h R U I;generalize rs.filterMap id=l at C;induction C with
     | nil=>rfl
     | cons x y G=>simp[G]
    rw[this];clear this C L IG;clear ln J;induction rs with
    | nil=>rfl
    | cons x l G =>
     obtain⟨b,t,rfl⟩:=al x (.head _);simp only[dA,id,aT];rw[G fun r u=>al r (.tail _ u)]
   obtain⟨S,Z,rfl⟩:∃S Z,ts=S::Z:=by
    cases ts with
    | nil=>simp at ln2;omega
    | cons a b=>exact⟨a,b,rfl⟩
   have Y:S=bq "int":=I S (.head _);subst Y;have IL:(((bq "int")::Z).toArray.all fun x=>x == bq "int")=true:=by
    simp only[iq,bg];intro x hx;rw[I x hx];rfl
   have h0:((bq "int")::Z).toArray[0]?=some (bq "int"):=by simp
   rw[h0];simp only[IL,if_true];refine aj (aj ?_);exact h
theorem zh_{l:List ah}{h0:aN}(C:∀v∈l,∃b k,PrIn s.heap v b k/\rkC h0 v=b*1000+k/\0<=k/\k<1000):Kinds prog w A s (rkC h0) l:=fun h2=>by
 refine⟨tuples' true,fun E Q q=>zjW (by omega) (fun v S=>?_) q,fun p q E Q mp U h=>?_⟩
 ·obtain⟨b,k,h,_⟩:=C v S;exact⟨b,k,h⟩
 ·have mem:∀z∈(pairsOf l).toList,z.1∈l:=fun z hz=>by
   have:z∈l.zip l:=by simpa[pairsOf] using hz
   exact(cY this).1
  obtain⟨b,k,⟨a,o,t,t',n,I,Y,e2,e3⟩,N,k0,k1⟩:=C _ (mem p mp);obtain⟨y,x,⟨a',o',u,G,n',f0,f1,f2,f3⟩,Z,J,R⟩:=C _ (mem q U);rw[N,Z]at h;rw[I,f0];refine zg4 Y e3 f1 f3 (gK b t y u) (gK k t' x G) (fun _=>zlc b y t u) (fun _=>znB k x t' G) ?_
  have:(if (b == y)=true then(if (k == x)=true then false else decide (k<x)) else decide (b<y))=decide (b*1000+k<y*1000+x):=by
   simp only[beq_iff_eq];split
   ·split
    ·symm;rw[decide_eq_false_iff_not];omega
    ·rw[decide_eq_decide];omega
   ·rw[decide_eq_decide];omega
  rw[this];exact h
end
theorem VH{α v:Type}{l:List (α×v)}{m:List v}(h:m.Perm (l.map (·.2))):∃u:List (α×v),u.Perm l/\u.map (·.2)=m:=by
 induction m generalizing l with
 | nil =>
  have:l.map (·.2)=[]:=h.symm.eq_nil;cases l with
  | nil=>exact⟨[],.refl _,rfl⟩
  | cons a b=>simp at this
 | cons x m y =>
  have hx:x∈l.map (·.2):=h.mem_iff.mp (.head _);obtain⟨z,I,rfl⟩:=aS.mp hx;obtain⟨C,l2,rfl⟩:=List.append_of_mem I;have G:(z.2::m).Perm (z.2::(C++l2).map (·.2)):=by
   refine h.trans ?_;simp only[eh,bZ];exact oq
  obtain⟨u,p,e⟩:=y (List.perm_cons _|>.mp G)
  exact⟨z::u,(p.cons z).trans oq.symm,by simp[e]⟩
theorem zjT{h:aN}{u:List ah}{b:aq}{o:Obj}(v:h.get? b=some o):(midH (preH h u) (h.objs.size+1) u).get? b=some o:=by
 have l:b<h.objs.size:=ay v;unfold midH preH;rw[cx _ _ _ (by rw[dZ,cE,dZ,cE,dZ];exact aF (aD l (by lia))),cx _ _ _ (by rw[cE,dZ,cE,dZ];exact aF (aD l (by lia))),
  gy _ _ _ _ (by exact aF (aD l (by lia))),cx _ _ _ (by rw[cE,dZ];exact aF (aD l (by lia))),gy _ _ _ _ (by exact aF (aD l (by lia))),cx _ _ _ (by exact aF (aD l (by lia)))]
 exact v
def rkD:af->Int
 | .tuple [.int b,.int k]=>b*1000+k
 | _=>0
def PrV(K:qF)(H:Hp)(z:V×af):Prop:=∃q b k,z.1=.ref q/\z.2=.tuple [.int b,.int k]/\SqT K H q [.int b,.int k]/\0<=k/\k<1000
section
variable{X:Cx}
theorem zhy:JG X (.builtin "sorted") (fun xs H Q=>∃(p:aq) (zs:List (V×af)),xs=[.ref p]/\(SqL X.K H p (zs.map (·.1))\/SqT X.K H p (zs.map (·.1)))/\zs.length<64/\(∀z∈zs,PrV X.K H z) /\
  ∀R:List (V×af),R.Perm zs->R.Pairwise (fun a b=>rkD a.2<=rkD b.2)->∀l,H l=none->Q (.ref l) (upd H l (.lst (R.map (·.1))))):=by
 intro pins s σ H xs us Q I r h;obtain⟨p,zs,rfl,Y,h64,hp,q⟩:=h;obtain⟨u,rfl,rx⟩:=vals1 r;cases rx;have key:∀(C:List ah) (o:Obj) (T:String) (n:Nat),Vals (zs.map (·.1)) C->s.heap.get? p=some o->o.cls=.type T->(T = "list" \/ T = "tuple")->o.data=.seq C.toArray n -> 
   wpAny (model X.prog X.w) X.A (call (.builtin "sorted") [.ref p]) (EP X pins σ Q) X.xe s:=fun C o T n rv U hc hT hd=>by
  have hlen:zs.length=C.length:=by simpa using rv.length
  have each:∀x∈zs.zip C,RelV x.1.1 x.2/\∃b k,PrIn s.heap x.2 b k/\x.1.2=.tuple [.int b,.int k]/\0<=k/\k<1000:=by
   have rel:∀(zs:List (V×af)) (C:List ah),Vals (zs.map (·.1)) C->∀x∈zs.zip C,RelV x.1.1 x.2:=by
    intro zs;induction zs with
    | nil=>intro C _ x hx;simp at hx
    | cons z zs ih =>
     intro C r x hx;cases r with
     | cons S r2 =>
      rcases aw.mp (by simpa using hx) with rfl|hx
      ·exact S
      ·exact ih _ r2 x hx
   intro x hx;have S:=rel zs C rv x hx;obtain⟨q',b,k,e1,e2,e3,k0,k1⟩:=hp x.1 (cY hx).1;refine⟨S,b,k,?_,e2,k0,k1⟩;rw[e1]at S;obtain⟨is,rs,⟨o',f1,f2,n',f3⟩,_⟩:=I.tuple e3;cases rs with
   | cons a1 a2 =>
    cases a2 with
    | cons a3 a4 =>
     cases a4;obtain⟨t,rfl⟩:=a1;obtain⟨t',rfl⟩:=a3;exact⟨q',o',t,t',n',S,f1,f2,f3⟩
  refine zjF (rk:=rkC s.heap) U hc hT hd (by lia) (fun A'=>zh_ fun v hv=>?_) fun y pm up=>?_
  ·obtain⟨i,hi,rfl⟩:=bL hv;have hz:i<zs.length:=by lia
   have mem:(zs[i],C[i])∈zs.zip C:=by
    have:(zs.zip C)[i]'(by simp;lia)=(zs[i],C[i]):=by simp
    rw[<- this];exact dI _
   obtain⟨_,b,k,h1,_,k0,k1⟩:=each _ mem;exact⟨b,k,h1.kept fun _ _ e=>zjT e,h1.rk,k0,k1⟩
  ·have N:(arrOf y).toList.Perm (C.zip C):=by
    have:=fX.mp pm;simpa[pairsOf] using this
   have pm1:((arrOf y).toList.map (·.2)).Perm ((zs.zip C).map (·.2)):=by
    refine(N.map _).trans ?_;rw[eG (by lia),eG (by lia)]
   obtain⟨G,p1,p2⟩:=VH pm1;have Ir:∀x∈G,RelV x.1.1 x.2/\∃b k,PrIn s.heap x.2 b k/\x.1.2=.tuple [.int b,.int k]/\0<=k/\k<1000:=fun x hx=>each x (p1.mem_iff.mp hx)
   have pz:(G.map (·.1)).Perm zs:=by
    have:=p1.map (·.1)
    rwa [fj (by lia)]at this
   have rw':Vals ((G.map (·.1)).map (·.1)) (G.map (·.2)):=by
    have:∀G:List ((V×af)×ah),(∀x∈G,RelV x.1.1 x.2)->Vals ((G.map (·.1)).map (·.1)) (G.map (·.2)):=by
     intro G;induction G with
     | nil=>intro _;exact .nil
     | cons a l ih=>intro h;exact .cons (h a (.head _)) (ih fun x hx=>h x (.tail _ hx))
    exact this G fun x hx=>(Ir x hx).1
   have Z:∀x∈G,rkC s.heap x.2=rkD x.1.2:=fun x hx=>by
    obtain⟨_,b,k,h1,h2,_⟩:=Ir x hx;rw[h1.rk,h2];rfl
   have Iu:∀z∈(arrOf y).toList,z.1=z.2:=fun z hz=>by
    have:z∈C.zip C:=N.mem_iff.mp hz;obtain⟨i,hi,rfl⟩:=bL this;simp
   have szy:(arrOf y).size=C.length:=by
    have:=N.length_eq;simpa using this
   have pw:(G.map (·.1)).Pairwise (fun a b=>rkD a.2<=rkD b.2):=by
    rw[dW,bK];intro i j hi hj hij;have lw:G.length=C.length:=by
     have:=congrArg eD p2;simpa[szy] using this
    have gw:∀k (hk:k<G.length),rkAt (rkC s.heap) (arrOf y) k=rkD G[k].1.2:=fun k hk=>by
     have J:k<(arrOf y).size:=by lia
     have e1:(arrOf y).toList[k]'(by simpa using J)=(arrOf y)[k]:=by simp
     have e2:G[k].2=(arrOf y)[k].2:=by
      have:(G.map (·.2))[k]'(by simpa using hk)=((arrOf y).toList.map (·.2))[k]'(by simpa using J):=by simp only[p2]
      simpa using this
     have e3:(arrOf y)[k].1=(arrOf y)[k].2:=Iu _ (by rw[<- e1];exact dI _)
     unfold rkAt;rw[gr J];simp only[dE,cM];rw[e3,<- e2];exact Z _ (dI _)
    have:=up i j hij (by lia)
    rwa [gw i hi,gw j hj]at this
   have ev:(arrOf y).map (·.2)=(G.map (·.2)).toArray:=by
    apply ot.mp;rw[ou,p2]
   rw[ev];obtain⟨e,he⟩:=sortedAll_at s.heap C (G.map (·.2)).toArray;refine⟨.ref (s.heap.objs.size+1),_,I.laid (a:=s.heap.objs.size+1) (o:=.lst ((G.map (·.1)).map (·.1))) (t':=s.toks) (fun _ _=>sortedAll_old) (kF _) ?_,rfl,q _ pz pw _ (I.hok.fresh (kF _))⟩
   refine⟨?_,G.map (·.2),e,rw',he⟩;have:64<=sizeLine:=by decide
   have:=pz.length_eq;simp at this ⊢;lia
 rcases Y with Y|Y
 ·obtain⟨C,r',pl,hz⟩:=I.list Y;obtain⟨o,U,hc,n,hd⟩:=pl.isList;exact key C o "list" n r' U hc (.inl rfl) hd
 ·obtain⟨C,r',pl,hz⟩:=I.tuple Y;obtain⟨o,U,hc,n,hd⟩:=pl;exact key C o "tuple" n r' U hc (.inr rfl) hd
end
def IsPr(t:af):Prop:=∃b k:Int,t=.tuple [.int b,.int k]/\0<=k/\k<1000
def YA(t:af)(R:List af->Prop):Prop:=JX t fun ts=>ts.length<64/\(∀x∈ts,IsPr x)/\∀l:List af,l.Perm ts->l.Pairwise (fun a b=>rkD a<=rkD b)->R l
def zqC(d:DTE):DTA:=fun l n R=>d l n fun t u=>YA t fun ts=>R ts u
section
variable{X:Cx}{e:aP}{d:DTE}{pos p:Pos}{k:Nat}
theorem zew(hr:Room k X.A)(hm:X.mg "sorted" = none) (h:DL X e d) (hs:starEach [e] X.env=[(false,eval e X.env)]) (hg:Gl X "sorted":=by rfl):DN X (.Call (.Name "sorted" p) [e] [] pos) (zqC d):=by
 obtain⟨ta,pa,h⟩:=h;refine⟨_,Uk zhy hm boot_sorted (JU pa Qg hs) hg,fun C Y σ H n Q R S hd hq=>?_⟩
 refine h C Y σ H n _ _ S hd fun t n1 v G r1 e1 Z q1=>?_
 have S1:=S.on e1 Z;have fin:∀p u ts,Reps X.K C.hd (Own C Y σ) G u ts->R ts n1->G p=none->Q (.ref p) (upd G p (.lst u)):=fun p u ts rp rr L=>by
  have hp0:H p=none:=by
   cases z:H p with
   | none=>rfl
   | some o =>
    by_cases y:C.hd=some p
    ·obtain⟨d,m,t,q,_⟩:=Z p y;rw[L]at q;cases q
    ·rw[e1 p o z y]at L;cases L
  refine hq ts n1 p u _ rr (e1.trans (ExtE.new L)) (Z.same (JO L)) hp0 JJ ?_;refine rp.mono (fun b o hb z=>z.elim id fun z=>?_) fun b o _ hb=>JO L b o hb
  subst z;rw[L]at hb;cases hb
 have go:∀(p:aq) u ts,(SqL X.K G p u\/SqT X.K G p u)->Reps X.K C.hd (Own C Y σ) G u ts->(ts.length<64/\(∀x∈ts,IsPr x)/\∀J:List af,J.Perm ts->J.Pairwise (fun a b=>rkD a<=rkD b)->R J n1) ->
   ∃(p':aq) (zs:List (V×af)),[V.ref p]=[V.ref p']/\(SqL X.K G p' (zs.map (·.1))\/SqT X.K G p' (zs.map (·.1)))/\zs.length<64/\(∀z∈zs,PrV X.K G z) /\
  ∀I:List (V×af),I.Perm zs->I.Pairwise (fun a b=>rkD a.2<=rkD b.2)->∀l,G l=none->Q (.ref l) (upd G l (.lst (I.map (·.1)))):=fun p u ts hs rp h=>by
  have ln:=rp.length;have rel:∀z∈u.zip ts,Rep X.K C.hd (Own C Y σ) G z.1 z.2:=fun z hz=>by
   obtain⟨i,hi,rfl⟩:=bL hz;have hi2:i<ts.length:=by simp at hi;lia
   obtain⟨v,Z,h2⟩:=rp.get (aJ hi2);have hi1:i<u.length:=by lia
   rw[aJ hi1]at Z;cases Z;simpa using h2
  refine⟨p,u.zip ts,rfl,?_,by simp;lia,fun z hz=>?_,fun I pm pw l hl=>?_⟩
  ·rw[fj (by lia)];exact hs
  ·obtain⟨b,k,e,k0,k1⟩:=h.2.1 z.2 (cY hz).2;have r:=rel z hz;rw[e]at r;obtain⟨a,ws,e1,e2,e3⟩:=r.tupI;cases e3 with
   | cons x1 x2 =>
    cases x2 with
    | cons x3 x4 =>
     cases x4;rw[x1.intI,x3.intI]at e2;exact⟨a,b,k,e1,e,e2,k0,k1⟩
  ·refine fin l _ (I.map (·.2)) ?_ (h.2.2 _ ?_ ?_) hl
   ·have:∀zs:List (V×af),(∀z∈zs,Rep X.K C.hd (Own C Y σ) G z.1 z.2)->Reps X.K C.hd (Own C Y σ) G (zs.map (·.1)) (zs.map (·.2)):=by
     intro zs;induction zs with
     | nil=>intro _;exact .nil
     | cons a l ih=>intro h;exact .cons (h a (.head _)) (ih fun x hx=>h x (.tail _ hx))
    exact this I fun z hz=>rel z (pm.mem_iff.mp hz)
   ·have:=pm.map (·.2)
    rwa [eG (by lia)]at this
   ·rw[dW];exact pw
 cases t with
 | list ts =>
  obtain⟨p,u,rfl,U,h2⟩:=q1.lstI;exact go p u ts (.inl (.of U)) h2 r1
 | tuple ts =>
  obtain⟨p,u,rfl,U,h2⟩:=q1.tupI;exact go p u ts (.inr U) h2 r1
 | _=>exact r1.elim
end
abbrev prD(b:Int×Int):af:=.tuple [.int b.1,.int b.2]
def pD(bs:qB):List af:=bs.map prD
theorem JB{bs:qB}:(pD bs).length=bs.length:=by simp[pD]
theorem Z9{bs cs:qB}:pD bs++pD cs=pD (bs++cs):=by simp[pD]
theorem Ut{i h:Int}{bs:qB}:pD bs++[.tuple [.int i,.int h]]=pD (bs++[(i,h)]):=by simp[pD]
theorem Yl{bs:qB}{k:Nat}{t:af}(h:(pD bs)[k]?=some t):∃i g:Int,bs[k]?=some (i,g)/\t=.tuple [.int i,.int g]:=by
 unfold pD at h;rw[aV]at h;cases e:bs[k]? with
 | none=>rw[e]at h;cases h
 | some b=>rw[e]at h;cases h;exact⟨b.1,b.2,rfl,rfl⟩
def eB(b:Int×Int):Int:=b.1+2 ^ b.2.toNat
def Bks(bits:Int)(bs:qB):Prop:=∀b∈bs,IsBk bits b.1 b.2
def Ptc(bits:Int)(bs:qB):Prop:=Bks bits bs/\bs.Pairwise fun a b=>eB a<=b.1
theorem QU(b:Int×Int):b.1<eB b:=by have:=Bd.JA b.2.toNat;unfold eB;lia
theorem zoD{bs:qB}:Okd (.list (pD bs)):=by
 have:∀bs:List (Int×Int),bc (pD bs)=true/\bU (pD bs)<=1:=by
  intro bs;induction bs with
  | nil=>exact⟨by simp[pD,bc],by simp[pD,bU]⟩
  | cons b l u =>
   refine⟨?_,?_⟩
   ·have:=u.1;simp only[pD,bZ,bc,bu,iC,dN]at this ⊢;exact this
   ·have:=u.2;simp only[pD,bZ,bU,cO]at this ⊢;lia
 exact⟨by simp only[bu];exact(this bs).1,by simp only[cO];have:=(this bs).2;lia⟩
theorem Yq:Okd (.list []):=⟨by simp[bu,bc],by simp[cO,bU]⟩
theorem zp_{d:DTE}{l:En}{n:Nat}{u:List af->Nat->Prop}(h:d l n fun t v=>YA t fun ts=>u ts v):zqC d l n u:=h
theorem zsR{bits:Int}{bs:qB}{S:List af->Prop}(y:bits<=64)(B:Bks bits bs)(G:bs.Pairwise fun a b=>eB a<=b.1\/eB b<=a.1)(I:bs.length<64)
  (h:∀cs,Ptc bits cs->cs.Perm bs->S (pD cs)):YA (.list (pD bs)) S:=by
 refine⟨by rw[JB];exact I,fun x hx=>?_,fun v pm pw=>?_⟩
 ·obtain⟨b,J,rfl⟩:=aS.mp hx;have:=B b J;exact⟨b.1,b.2,rfl,this.1,by have:=this.2.1;lia⟩
 ·have N:v.Perm ((bs.map fun b=>(b,prD b)).map (·.2)):=by
   have:(bs.map fun b=>(b,prD b)).map (·.2)=pD bs:=by simp[pD]
   rw[this];exact pm
  obtain⟨zs,Y,p2⟩:=VH N;have Z:∀z∈zs,z.2=prD z.1:=fun z L=>by
   obtain⟨b,_,rfl⟩:=aS.mp (Y.mem_iff.mp L)
   rfl
  have e:v=pD (zs.map (·.1)):=by
   rw[<- p2];unfold pD;rw[cH];exact iN fun z L=>Z z L
  have pc:(zs.map (·.1)).Perm bs:=by
   have:=Y.map (·.1);rw[cH]at this;have e2:bs.map ((fun x:(Int×Int)×af=>x.1)∘fun b=>(b,prD b))=bs:=by
    show bs.map id=bs
    exact vc _
   rwa [e2]at this
  rw[e];have C:(zs.map (·.1)).Pairwise fun a b=>eB a<=b.1\/eB b<=a.1:=(pc.pairwise_iff (fun {a b} h=>h.symm)).mpr G
  have u:Bks bits (zs.map (·.1)):=fun b y=>B b (pc.mem_iff.mp y)
  rw[e]at pw;unfold pD at pw;rw[dW]at pw;refine h _ ⟨u,?_⟩ pc;have both:=xA C pw;refine gH ?_ both;rintro a b U y ⟨h1,R⟩;have R:a.1*1000+a.2<=b.1*1000+b.2:=R;have a0:=(u a U).1;have a1:=(u a U).2.1;have b0:=(u b y).1;have b1:=(u b y).2.1;have:=QU a;have:=QU b;lia
theorem zt7{L:DTG}{tt:DTT}{d:DTE}{C:En}{J:List af->Nat->Prop}(Inv:Nat->List af->Nat->Prop):∀(xs:qD) (i:Nat) {v:qD}{n:Nat},Inv i v n ->
  (∀(k:Nat) (x:af) (v:qD) (n:Nat) (K:List af->Nat->Prop),xs[k]?=some x->Inv (i+k) v n->(∀y I,Inv (i+k+1) y I->K y I) ->
   L x C fun G=>tt G n fun b N=>if b=true then d G N fun t U=>v.length<16777216/\K (v++[t]) U else K v N) ->
  (∀v n,Inv (i+xs.length) v n->J v n)->JP L tt d C xs v n J
 | [],i,v,n,h0,_,fin=>fin v n (by simpa using h0)
 | x::xs,i,v,n,h0,turn,fin=>by
  refine turn 0 x v n (fun v n=>JP L tt d C xs v n J) rfl (by simpa using h0) fun y I h'=>?_
  refine zt7 Inv xs (i+1) (by simpa using h') (fun k u v n K e R S=>?_) (fun v n h=>fin v n ?_)
  ·refine turn (k+1) u v n K (by simpa using e) ?_ fun y I h'=>S y I ?_
   ·have:i+(k+1)=i+1+k:=by lia
    rw[this];exact R
   ·have:i+1+k+1=i+(k+1)+1:=by lia
    rw[this];exact h'
  ·have:i+(x::xs).length=i+1+xs.length:=by simp;lia
   rw[this]at *;exact h
theorem zmh{G:DTG}{tt:DTT}{d:DTE}{y:En}{C:List af->Nat->Prop}{xs:qD}{n:Nat}(Inv:Nat->List af->Nat->Prop)(h0:Inv 0 [] n)
  (turn:∀(k:Nat) (x:af) (l:qD) (n:Nat) (K:List af->Nat->Prop),xs[k]?=some x->Inv k l n->(∀u J,Inv (k+1) u J->K u J) ->
   G x y fun v=>tt v n fun b I=>if b=true then d v I fun t R=>l.length<16777216/\K (l++[t]) R else K l I)
  (fin:∀l n,Inv xs.length l n->C l n):JP G tt d y xs [] n C :=
 zt7 Inv xs 0 h0 (fun k x l n K e L N=>turn k x l n K e (by simpa using L) fun a m h=>N a m (by simpa using h)) fun l n h=>fin l n (by simpa using h)
theorem Uf{α:Type}{cs:List α}{D:α->af}{G:DTG}{tt:DTT}{d:DTE}{y:En}{n:Nat}{C:List af->Nat->Prop}(F:α->af)(L:cs.length<=16777216)
  (step:∀b∈cs,∀(K:qN) (X:Nat->Prop),K (F b) n->G (D b) y fun v=>tt v n fun c I=>if c=true then d v I K else X I) (fin:C (cs.map F) n):JP G tt d y (cs.map D) [] n C:=by
 refine zmh (fun j l m=>m=n/\l=(cs.take j).map F) ⟨rfl,rfl⟩ ?_ ?_
 ·rintro j x l m K u ⟨rfl,rfl⟩ hK;rw[aV]at u;cases eb:cs[j]? with
  | none=>rw[eb]at u;cases u
  | some b =>
   rw[eb]at u;cases u;obtain⟨J,N⟩:=av.mp eb;refine step b (aR eb) _ _ ⟨?_,hK _ _ ⟨rfl,?_⟩⟩
   ·simp;lia
   ·rw[fk,eb];simp
 ·rintro l m ⟨rfl,rfl⟩;rw[aL,c9];exact fin
theorem zwm{bs:List Bool}{R:af->Prop}(h:R (.bool (bs.all id))):bAll [.list (bs.map cF)] R:=⟨bs,rfl,h⟩
theorem zlI{α:Type}{cs:List α}{f:α->Bool}{R:af->Prop}(h:R (.bool (cs.all f))):bAll [.list (cs.map fun b=>cF (f b))] R:=by
 have e:(cs.map fun b=>cF (f b))=(cs.map f).map cF:=by simp
 rw[e];refine zwm ?_;have u:(cs.map f).all id=cs.all f:=by simp[List.all_map,kG]
 rw[u];exact h
theorem zqq{bs:qB}:dH (.list (pD bs)) (.list [])=bs.isEmpty:=by
 cases bs with
 | nil=>simp[pD,dH,fM]
 | cons b l=>simp[pD,dH,fM]
theorem QS{many:Int}{n:Nat}{R:qN}(h0:0<many)(l:many<2 ^ 128)(u:n<=1000000000000)(h:∀r:Int,0<=r->r<many->R (.int r) (n+1)):UT [HAND,.int many] n R:=⟨rfl,h0,l,u,h⟩
theorem zjS{i h:Int}:JS (.tuple [.int i,.int h])=true:=by simp[JS,Zj]
theorem Bks.app{bits i h:Int}{bs:qB}(B:Bks bits bs)(C:IsBk bits i h):Bks bits (bs++[(i,h)]):=fun b l=>by
 rcases aE.mp l with z|z
 ·exact B b z
 ·cases aC.mp z;exact C
section
variable{prog:aK}{w:aQ}{A:br}{E:qV}{s:au}
open HT in
theorem zcF{t v:aq}{items:Array ah}{G J:ah}{lo hi:Option Int}{Q:qV}(u:lY s.heap t items)(I:s.heap.IsSliceOf v G J .none)(pl:kP G lo)(L:kP J hi)
  (hw:HT.sIx items.size 0 lo=0/\HT.sIx items.size items.size hi=items.size) (h:Q (.ref t) s):wpAny (model prog w) A (getItem (.ref t) (.ref v)) Q E s:=by
 obtain⟨os,y,C,N⟩:=id I;have x:s.TypeIs (.ref v) "slice":=⟨os,y,C⟩;unfold getItem
 try with_reducible refine bO ?_
 first|refine aa (aj ?_)|skip
 refine aa (nF u.typeIs (by decide) ?_)
 refine aa (dR (name:=ae "__getitem__") u.typeIs cc
  (eF cc u.typeIs mK ?_ (m6 _ _)))
 show wpAny _ _ (kg (.ref t) >>= _) _ _ s
 refine aa (tupleItemsOf_ u ?_);refine aa (gi x ?_);rw[if_pos (by decide)]
 refine aa (HT.zbV I pl L ?_);have l:(((HT.sIx items.size 0 lo:Nat):Int) == 0&&(1:Int) == 1&&(HT.sIx items.size items.size hi - HT.sIx items.size 0 lo) == items.size)=true:=by
  rw[hw.1,hw.2];simp
 show wpAny _ _ (if (((HT.sIx items.size 0 lo:Nat):Int) == 0&&(1:Int) == 1&&(HT.sIx items.size items.size hi - HT.sIx items.size 0 lo) == items.size)=true then _ else _) _ _ s
 rw[if_pos l];unfold pY;refine aa (aa (gi u.typeIs (aj ?_)));rw[if_pos (by decide)]
 exact aa (eX (aj ⟨_,rfl,aj h⟩))
end
section
variable{X:Cx}
def rSlW(K:qF):V->Option Int->Option Int->Hp->VK->Prop:=fun x lo hi H Q=>∃a xs,x=.ref a/\SqT K H a xs/\(HT.sIx xs.length 0 lo=0/\HT.sIx xs.length xs.length hi=xs.length)/\Q (.ref a) H
theorem zo2:SlR X (rSlW X.K):=by
 intro pins s σ H x v N S lo hi L Q I G J pl C h;obtain⟨a,xs,rfl,hx,hw,q⟩:=h;cases G;obtain⟨u,r,y,R⟩:=I.tuple hx;have l:u.toArray.size=xs.length:=by rw[ax];exact r.length.symm
 refine⟨"tuple",_,cc.lookup,y.typeIs,?_⟩;exact zcF y J pl C (by rw[l];exact hw) ⟨.ref a,H,I,rfl,q⟩
end
abbrev DTO:=En->Nat->(Option Int->Nat->Prop)->Prop
def DP(X:Cx)(e:Option aP)(d:DTO):Prop:=∃t,PO X e t/\∀(C:Ctx) (u:En) (σ:St) (H:Hp) (n:Nat) (Q:Option Int->Hp->Prop) (R:Option Int->Nat->Prop),Stt X.K C u σ H n->d u n R ->
 (∀o v l,R o v->ExtE C.hd H l->Hn C.hd l v->Q o l)->t σ H Q
def zim:DTO:=fun l n R=>R none n
def zqD(d:DTE):DTO:=fun l n R=>d l n fun t u=>lInt t fun i=>R (some i) u
def cutD(ts:qD)(lo hi:Option Int):List af:=(ts.drop (HT.sIx ts.length 0 lo)).take (HT.sIx ts.length ts.length hi - HT.sIx ts.length 0 lo)
def lSl(t:af)(lo hi:Option Int)(R:List af->Prop):Prop:=match t with
 | .list ts=>R (cutD ts lo hi)
 | _=>False
def dSlL(d:DTE)(dl v:DTO):DTA:=fun l n R=>d l n fun t y=>dl l y fun lo u=>v l u fun hi x=>lSl t lo hi fun z=>R z x
section
variable{X:Cx}{e:aP}{d:DTE}{lo hi:Option aP}{dlo dhi:DTO}{pos p2:Pos}
theorem Ua:DP X none zim:=⟨_,zph,fun C u σ H n Q R S h l=>l none n H h ExtE.refl S.hnd⟩
theorem Ub(h:DE X e d):DP X (some e) (zqD d):=by
 obtain⟨N,pa,h⟩:=h;refine⟨_,zpg pa,fun C y σ H n Q R S hd x=>?_⟩
 refine h C y σ H n _ _ S hd fun t L v u l J I G=>?_
 cases t with
 | int i =>
  cases G;exact⟨i,rfl,x (some i) L u l J I⟩
 | _=>exact l.elim
theorem zjo{K:qF}{hd:Option aq}{O:aq->Prop}{H:Hp}{vs ts}(r:Reps K hd O H vs ts)(lo hi:Option Int):Reps K hd O H (cutV vs lo hi) (cutD ts lo hi):=by
 unfold cutV cutD;rw[r.length];exact(r.drop _).take _
theorem zj1{ts:qD}{lo hi:Option Int}(h:HT.sIx ts.length 0 lo=0/\HT.sIx ts.length ts.length hi=ts.length):cutD ts lo hi=ts:=by
 unfold cutD;rw[h.1,h.2];simp
theorem VC(h:DL X e d)(L:DP X lo dlo)(N:DP X hi dhi):DN X (.Subscript e (.Slice lo hi none p2) pos) (dSlL d dlo dhi):=by
 obtain⟨ta,pa,h⟩:=h;obtain⟨tl,pl,L⟩:=L;obtain⟨tu,pu,N⟩:=N;refine⟨_,ziV zo3 pa pl pu,fun C I σ H n Q R S hd hq=>?_⟩
 refine h C I σ H n _ _ S hd fun t n1 v H1 r1 Z h1 q1=>?_
 have Y:=S.on Z h1;refine L C I σ H1 n1 _ _ Y r1 fun lo n2 H2 r2 U h2=>?_
 have S2:=Y.on U h2;refine N C I σ H2 n2 _ _ S2 r2 fun hi n3 H3 r3 J G=>?_
 have S3:=S2.on J G;have q3:=(U.trans J).repT S.hx q1;cases t with
 | list ts =>
  obtain⟨a,vs,rfl,hs,rs⟩:=q3.lstI;refine⟨a,vs,rfl,.of hs,fun p x=>?_⟩
  have e:=Z.trans (U.trans J);refine hq _ n3 p _ _ r3 (e.trans (ExtE.new x)) (G.same (JO x)) (Zt e G x) JJ ?_;refine(zjo rs lo hi).mono (fun b o y z=>z.elim id fun z=>?_) fun b o _ y=>JO x b o y
  subst z;rw[x]at y;cases y
 | _=>exact r3.elim
end
structure NxS(prog:aK)(w:aQ)(i a:aq)(IT:Nat->aN->Prop)(SQ:aN->Array ah->Prop):Prop where
 rcd:∀k h,IT k h->∃o,h.get? i=some o/\∀v,o.data≠.cell v
 keep:∀k h h',IT k h->(∀o,h.get? i=some o->h'.get? i=some o)->IT k h'
 sk:∀h h' xs,SQ h xs->(∀o,h.get? a=some o->h'.get? a=some o)->SQ h' xs
 item:∀(A:br) (E:qV) (k:Nat) (xs:Array ah) (x:ah) (s:au) (Q:qV),IT k s.heap->SQ s.heap xs->xs[k]?=some x ->
  (∀h',IT (k+1) h'->eu i s.heap h'->Q x { s with heap:=h' })->wpAny (model prog w) A (bp (.ref i)) Q E s
 done:∀(A:br) (E:qV) (k:Nat) (xs:Array ah) (s:au) (Q:qV),A.handled=none->IT k s.heap->SQ s.heap xs->xs[k]?=none ->
  (∀h' e,vd i s.heap h'->(∃o,h'.get? e=some o/\o.cls=.type "StopIteration")->E (.ref e) { s with heap:=h' })->wpAny (model prog w) A (bp (.ref i)) Q E s
theorem zpH{prog:aK}{w:aQ}{i a:aq}:NxS prog w i a (fun k h=>h.IsListIter i a k) (fun h xs=>h.IsList a xs) where
 rcd:=fun k h ⟨o,e,c,d⟩=>⟨o,e,fun v z=>by rw[d]at z;cases z⟩
 keep:=fun k h h' x f=>x.at f
 sk:=fun h h' xs x f=>x.at f
 item:=fun A E k xs x s Q u y l h=>wpAny_nextOf_list_item u y l h
 done:=fun A E k xs s Q C u y l h=>wpAny_nextOf_list_end C u y l h
section
variable{prog:aK}{w:aQ}{A:br}{E:qV}{s:au}
theorem zgL{i:aq}{T id:String}{Q:qV}{f:fR}(u:s.TypeIs (.ref i) T)(l:Slot T "__next__" id) (x:entryFor table id=some f) (y:argsOk id ⟨[.ref i],[]⟩)
  (h:wpAny (model prog w) A.in1 (f ⟨[.ref i],[]⟩) (fun fin s'=>∃v,fin=.done (.ret v)/\Q v s') E s):wpAny (model prog w) A (bp (.ref i)) Q E s:=by
 unfold bp;refine aa (dR (name:=ae "__next__") u l (eF l u x ?_ y));refine cQ h (fun fin s' C=>?_) fun _ _ e=>e
 obtain⟨v,e,q⟩:=C;exact⟨v,e,aj q⟩
theorem zf9{i a:aq}{k:Nat}{xs:Array ah}{x:ah}{Q:qV}(v:s.heap.IsTupleIter i a k)(C:s.heap.IsTuple a xs)(y:xs[k]?=some x)
  (h:∀h',h'.IsTupleIter i a (k+1)->eu i s.heap h'->Q x { s with heap:=h' }):wpAny (model prog w) A (bp (.ref i)) Q E s:=by
 refine zgL v.typeIs kj iQ (iJ _) ?_;obtain⟨o,u,I,l⟩:=v;obtain⟨p,f1,_,n,G⟩:=C;refine aa (m:=field (.ref i) 0) (cS u l (x:=.ref a) rfl ?_);have ne:¬((bM a == iX)=true):=fun z=>by cases z
 rw[if_neg ne];refine aa (m:=field (.ref i) 1) (cS u l (x:=.int k 0) rfl ?_);refine aa (m:=seqItems? (.ref a)) (cW f1 G ?_);simp only[fS,y];refine aa (pZ u l (by simp) (aj ⟨x,rfl,h _ ?_ (mL ..)⟩))
 refine⟨_,fN _ u (Obj.isFreed_of_fields (m9 l _)),?_,?_⟩
 ·rw[Obj.cls_mapFields];exact I
 ·rw[m9 l];simp[rawInt]
theorem zf_{i a:aq}{k:Nat}{xs:Array ah}{Q:qV}(I:A.handled=none)(G:s.heap.IsTupleIter i a k)(L:s.heap.IsTuple a xs)(J:xs[k]?=none)
  (h:∀h' e,vd i s.heap h'->(∃o,h'.get? e=some o/\o.cls=.type "StopIteration")->E (.ref e) { s with heap:=h' }):wpAny (model prog w) A (bp (.ref i)) Q E s:=by
 refine zgL G.typeIs kj iQ (iJ _) ?_;obtain⟨o,v,R,C⟩:=G;obtain⟨p,f1,_,n,N⟩:=L;refine aa (m:=field (.ref i) 0) (cS v C (x:=.ref a) rfl ?_);have ne:¬((bM a == iX)=true):=fun z=>by cases z
 rw[if_neg ne];refine aa (m:=field (.ref i) 1) (cS v C (x:=.int k 0) rfl ?_);refine aa (m:=seqItems? (.ref a)) (cW f1 N ?_);simp only[fS,J];refine aa (eX (aa (pZ v C (by simp) ?_)))
 refine aa (m:=newExc (.type "StopIteration") []) ?_;simp only[newExc,newTuple];refine aa (cR ?_ (by size_fits))
 refine aa (m:=firstArgMember _ _) (oK (a:=iX) (by first|rfl|(simp only[firstArgMember];rfl)) (cR ?_ (by size_fits)))
 simp only[raiseNew];refine aa (wpAny_handled ?_);have l:A.in1.handled=none:=I
 first|rw[l]|rw[I]
 exact aa (aj (wpAny_throw (h _ _ (((mL ..).extBut.push _).push _) ⟨_,az _ rfl,rfl⟩)))
end
theorem Heap.IsTupleIter.at'{h h':aN}{i a:aq}{k:Nat}(x:h.IsTupleIter i a k)(f:∀o,h.get? i=some o->h'.get? i=some o):h'.IsTupleIter i a k:=by
 obtain⟨o,e,r⟩:=x;exact⟨o,f o e,r⟩
theorem Heap.IsTuple.at'{h h':aN}{a:aq}{xs:Array ah}(x:h.IsTuple a xs)(f:∀o,h.get? a=some o->h'.get? a=some o):h'.IsTuple a xs:=by
 obtain⟨o,e,r⟩:=x;exact⟨o,f o e,r⟩
theorem zsq{prog:aK}{w:aQ}{i a:aq}:NxS prog w i a (fun k h=>h.IsTupleIter i a k) (fun h xs=>h.IsTuple a xs) where
 rcd:=fun k h ⟨o,e,c,d⟩=>⟨o,e,fun v z=>by rw[d]at z;cases z⟩
 keep:=fun k h h' x f=>Heap.IsTupleIter.at' x f
 sk:=fun h h' xs x f=>Heap.IsTuple.at' x f
 item:=fun A E k xs x s Q u y l h=>zf9 u y l h
 done:=fun A E k xs s Q C u y l h=>zf_ C u y l h
structure ZAp(z TI TO i1 i2 a1 a2:aq):Prop where
 p:[z,TI,TO,i1,i2].Nodup
 q:∀a∈[a1,a2],a∉[z,TI,TO,i1,i2]
section
variable{prog:aK}{w:aQ}{A:br}{E:qV}{s:au}{z TI TO i1 i2 a1 a2:aq}{I1 I2:Nat->aN->Prop}{S1 S2:aN->Array ah->Prop}
structure ZSt(z TI TO i1 i2:aq)(I1 I2:Nat->aN->Prop)(f:ah)(k:Nat)(h:aN):Prop where
 zip:oM h z TI TO f
 ti:lL h TI (.ref i1) (.ref i2)
 to:∃a b,lL h TO a b
 it1:I1 k h
 it2:I2 k h
theorem zj_(D:ZAp z TI TO i1 i2 a1 a2):(z≠TI/\z≠TO/\z≠i1/\z≠i2/\TI≠TO/\TI≠i1/\TI≠i2/\TO≠i1/\TO≠i2/\i1≠i2)/\(a1≠z/\a1≠TO/\a1≠i1/\a1≠i2)/\(a2≠z/\a2≠TO/\a2≠i1/\a2≠i2):=by
 have l:=D.p;have x:=D.q;simp only[eQ,aw,aH,or_false,not_or,List.nodup_nil,and_true,not_false_eq_true]at l;have u:=x a1 (by simp)
 have v:=x a2 (by simp)
 simp only[aw,aH,or_false,not_or]at u v;exact⟨⟨l.1.1,l.1.2.1,l.1.2.2.1,l.1.2.2.2,l.2.1.1,l.2.1.2.1,l.2.1.2.2,l.2.2.1.1,l.2.2.1.2,l.2.2.2⟩,⟨u.1,u.2.2.1,u.2.2.2.1,u.2.2.2.2⟩,⟨v.1,v.2.2.1,v.2.2.2.1,v.2.2.2.2⟩⟩
theorem z_item{k:Nat}{xs ys:Array ah}{x y:ah}{Q:qV}(D:ZAp z TI TO i1 i2 a1 a2)(N1:NxS prog w i1 a1 I1 S1)(N2:NxS prog w i2 a2 I2 S2)(st:ZSt z TI TO i1 i2 I1 I2 .none k s.heap)(s1:S1 s.heap xs)(s2:S2 s.heap ys)
  (hx:xs[k]?=some x) (hy:ys[k]?=some y)
  (hQ:∀h',ZSt z TI TO i1 i2 I1 I2 (rawInt s.heap.objs.size) (k+1) h'->lL h' s.heap.objs.size x y->h'.objs.size=s.heap.objs.size+1 ->
   (∀c o,c≠z->c≠TO->c≠i1->c≠i2->s.heap.get? c=some o->h'.get? c=some o)->Q (.ref s.heap.objs.size) { s with heap:=h' }) :
  wpAny (model prog w) A (fR.«zip.__next__» ⟨[.ref z],[]⟩) (fun fin s'=>∃v,fin=.done (.ret v)/\Q v s') E s:=by
 obtain⟨⟨d1,d2,d3,d4,d5,d6,d7,d8,d9,R⟩,⟨e1,e2,e3,e4⟩,⟨g1,g2,g3,g4⟩⟩:=zj_ D;obtain⟨zip,ti,⟨va,vb,to⟩,it1,it2⟩:=st;refine aa (m:=field (.ref z) 2) (cS zip rfl (x:=.bool false) rfl ?_);refine aa (m:=field (.ref z) 3) (cS zip rfl (x:=.ref TI) rfl (aa (cW ti rfl ?_)));refine aa (m:=cX (.ref z)) ?_;unfold cX
 refine aa (cS zip rfl (x:=.none) rfl (aj ?_));simp only[if_true];refine aa (eX (aa (cS zip rfl (x:=.ref TO) rfl (aa (eK zip (by simp) fun hA zA bA=>?_)))))
 have zA':oM hA z TI TO .ellipsis:=zA;refine aa ?_;simp only[ow,oZ,iH,mn];refine aa (aa (iD (aa (m:=bp (.ref i1)) ?_)));refine N1.item _ _ k xs x _ _ (N1.keep _ _ _ it1 fun o e=>bA.extBut _ _ d3.symm e) (N1.sk _ _ _ s1 fun o e=>bA.extBut _ _ e1 e) hx fun hB it1B bB=>aj ?_
 have L:lL hB TO va vb:=bB.extBut _ _ d8 (bA.extBut _ _ d2.symm to);refine aa (cW L rfl (aa (iE L fun hC toC bC=>?_)))
 have Y:lL hC TO x vb:=toC;refine aa (gS (aj ?_));refine aa (aa (iD (aa (m:=bp (.ref i2)) ?_)));have I:∀c o,c≠z->c≠TO->c≠i1->s.heap.get? c=some o->hC.get? c=some o:=fun c o C J c3 e=>bC.extBut _ _ J (bB.extBut _ _ c3 (bA.extBut _ _ C e))
 refine N2.item _ _ k ys y _ _ (N2.keep _ _ _ it2 fun o e=>I _ _ d4.symm d9.symm R.symm e) (N2.sk _ _ _ s2 fun o e=>I _ _ g1 g2 g3 e) hy fun hD S bD=>aj ?_
 have toD:lL hD TO x vb:=bD.extBut _ _ d9 Y;refine aa (cW toD rfl (aa (iE toD fun u toF bF=>?_)))
 have G:lL u TO x y:=toF;refine aa (gS (aj (aj ?_)));refine aa (cW G rfl (aa (pV ?_)));have sz:u.objs.size=s.heap.objs.size:=by rw[bF.1,bD.1,bC.1,bB.1,bA.1]
 have N:∀c o,c≠z->c≠TO->c≠i1->c≠i2->s.heap.get? c=some o->u.get? c=some o:=fun c o C J c3 c4 e=>bF.extBut _ _ J (bD.extBut _ _ c4 (I c o C J c3 e))
 have zF:oM u z TI TO .ellipsis:=bF.extBut _ _ d2 (bD.extBut _ _ d4 (bC.extBut _ _ d2 (bB.extBut _ _ d3 zA')));have zlt:z<u.objs.size:=ay zF;refine aa (m:=gz (.ref z) (.ref u.objs.size)) ?_;unfold gz;have zG:oM (u.push { cls:=.type "tuple",data:=.seq #[x,y] }) z TI TO .ellipsis:=ak _ zF
 refine aa (eK zG (by simp) fun hI zI bI=>?_)
 have zI':oM hI z TI TO (rawInt u.objs.size):=zI;refine eK zI' (by simp) fun U zJ bJ=>aj ⟨_,rfl,?_⟩
 have Z:oM U z TI TO (rawInt u.objs.size):=zJ;have up:∀c o,c≠z->u.get? c=some o->U.get? c=some o:=fun c o C e=>bJ.extBut _ _ C (bI.extBut _ _ C (ak _ e))
 have pr:lL U u.objs.size x y:=bJ.extBut _ _ (lB zlt) (bI.extBut _ _ (lB zlt) (az _ rfl));have szJ:U.objs.size=u.objs.size+1:=by rw[bJ.1,bI.1,cV]
 rw[sz]at Z pr szJ;show Q (.ref u.objs.size) _
 rw[sz];refine hQ U ⟨Z,up _ _ d1.symm (N _ _ d1.symm d5 d6 d7 ti),⟨x,y,up _ _ d2.symm G⟩,?_,?_⟩ pr szJ fun c o C J c3 c4 e=>up c o C (N c o C J c3 c4 e)
 ·exact N1.keep _ _ _ it1B fun o e=>up _ _ d3.symm (bF.extBut _ _ d8.symm (bD.extBut _ _ R (bC.extBut _ _ d8.symm e)))
 ·exact N2.keep _ _ _ S fun o e=>up _ _ d4.symm (bF.extBut _ _ d9.symm e)
theorem z_end{k:Nat}{xs ys:Array ah}{Q:PySem.Fin->au->Prop}(hh:A.handled=none)(D:ZAp z TI TO i1 i2 a1 a2)(Y:NxS prog w i1 a1 I1 S1)(N2:NxS prog w i2 a2 I2 S2)(st:ZSt z TI TO i1 i2 I1 I2 .none k s.heap)(s1:S1 s.heap xs)(s2:S2 s.heap ys)
  (hxy:xs[k]?=none\/ys[k]?=none)
  (hE:∀h' e,(∀c o,c≠z->c≠TO->c≠i1->c≠i2->s.heap.get? c=some o->h'.get? c=some o)->(∃o,h'.get? e=some o/\o.cls=.type "StopIteration")->E (.ref e) { s with heap:=h' }) :
  wpAny (model prog w) A (fR.«zip.__next__» ⟨[.ref z],[]⟩) Q E s:=by
 obtain⟨⟨d1,d2,d3,d4,d5,d6,d7,d8,d9,d10⟩,⟨e1,e2,e3,e4⟩,⟨g1,g2,g3,g4⟩⟩:=zj_ D;obtain⟨zip,ti,⟨va,vb,to⟩,it1,it2⟩:=st;refine aa (m:=field (.ref z) 2) (cS zip rfl (x:=.bool false) rfl ?_);refine aa (m:=field (.ref z) 3) (cS zip rfl (x:=.ref TI) rfl (aa (cW ti rfl ?_)));refine aa (m:=cX (.ref z)) ?_;unfold cX
 refine aa (cS zip rfl (x:=.none) rfl (aj ?_));simp only[if_true];refine aa (eX (aa (cS zip rfl (x:=.ref TO) rfl (aa (eK zip (by simp) fun hA zA L=>?_)))))
 have I:oM hA z TI TO .ellipsis:=zA;refine aa ?_;simp only[ow,oZ,iH,mn];refine aa (aa (iD (aa (m:=bp (.ref i1)) ?_)));have S:=Y.keep _ _ _ it1 fun o e=>L.extBut _ _ d3.symm e
 have N:=Y.sk _ _ _ s1 fun o e=>L.extBut _ _ e1 e
 cases hx:xs[k]? with
 | none =>
  refine Y.done _ _ k xs _ _ hh S N hx fun hB e G ⟨Z,u,hc⟩=>?_
  have zB:oM hB z TI TO .ellipsis:=G _ _ d3 I;have ez:e≠z:=fun y=>by subst y;rw[zB]at u;cases u;simp at hc
  exact eK zB (by simp) fun hC _ U=>hE hC e (fun c o v _ R _ y=>U.extBut _ _ v (G _ _ R (L.extBut _ _ v y))) ⟨Z,U.extBut _ _ ez u,hc⟩
 | some x =>
  have hy:ys[k]?=none:=by rcases hxy with h|h;rw[hx]at h;cases h;exact h
  refine Y.item _ _ k xs x _ _ S N hx fun hB it1B G=>aj ?_
  have J:lL hB TO va vb:=G.extBut _ _ d8 (L.extBut _ _ d2.symm to);refine aa (cW J rfl (aa (iE J fun hC toC U=>?_)))
  refine aa (gS (aj ?_));refine aa (aa (iD (aa (m:=bp (.ref i2)) ?_)));have C:∀c o,c≠z->c≠TO->c≠i1->s.heap.get? c=some o->hC.get? c=some o:=fun c o v c2 R e=>U.extBut _ _ c2 (G.extBut _ _ R (L.extBut _ _ v e))
  refine N2.done _ _ k ys _ _ hh (N2.keep _ _ _ it2 fun o e=>C _ _ d4.symm d9.symm d10.symm e) (N2.sk _ _ _ s2 fun o e=>C _ _ g1 g2 g3 e) hy fun hD e bD ⟨Z,u,hc⟩=>?_
  have zD:oM hD z TI TO .ellipsis:=bD _ _ d4 (U.extBut _ _ d2 (G.extBut _ _ d3 I));have ez:e≠z:=fun y=>by subst y;rw[zD]at u;cases u;simp at hc
  exact eK zD (by simp) fun hF _ bF=>hE hF e (fun c o v c2 R c4 y=>bF.extBut _ _ v (bD _ _ c4 (C c o v c2 R y))) ⟨Z,bF.extBut _ _ ez u,hc⟩
theorem zq7{k:Nat}{xs ys:Array ah}{x y:ah}{Q:Option ah->au->Prop}(D:ZAp z TI TO i1 i2 a1 a2)(C:NxS prog w i1 a1 I1 S1)(G:NxS prog w i2 a2 I2 S2)(st:ZSt z TI TO i1 i2 I1 I2 .none k s.heap)(s1:S1 s.heap xs)(s2:S2 s.heap ys)
  (hx:xs[k]?=some x) (I:ys[k]?=some y)
  (L:∀h',ZSt z TI TO i1 i2 I1 I2 (rawInt s.heap.objs.size) (k+1) h'->lL h' s.heap.objs.size x y->h'.objs.size=s.heap.objs.size+1 ->
   (∀c o,c≠z->c≠TO->c≠i1->c≠i2->s.heap.get? c=some o->h'.get? c=some o)->Q (some (.ref s.heap.objs.size)) { s with heap:=h' }) :
  wpAny (model prog w) A (pyNext (.ref z)) Q E s:=by
 have l:s.TypeIs (.ref z) "zip":=⟨_,st.zip,rfl⟩;unfold pyNext;exact aa (iA (dR (name:=ae "__next__") l iK (eF iK l oz
  (z_item D C G st s1 s2 hx I fun h' N u v J=>aj (L h' N u v J)) (nU _))))
theorem zq6{k:Nat}{xs ys:Array ah}{Q:Option ah->au->Prop}(C:A.handled=none)(D:ZAp z TI TO i1 i2 a1 a2)(v:NxS prog w i1 a1 I1 S1)(y:NxS prog w i2 a2 I2 S2)(st:ZSt z TI TO i1 i2 I1 I2 .none k s.heap)(s1:S1 s.heap xs)(s2:S2 s.heap ys)
  (l:xs[k]?=none\/ys[k]?=none) (I:∀h',(∀c o,c≠z->c≠TO->c≠i1->c≠i2->s.heap.get? c=some o->h'.get? c=some o)->Q none { s with heap:=h' }):wpAny (model prog w) A (pyNext (.ref z)) Q E s:=by
 have u:s.TypeIs (.ref z) "zip":=⟨_,st.zip,rfl⟩;unfold pyNext;refine aa (iA (dR (name:=ae "__next__") u iK (eF iK u oz
  (z_end C D v y st s1 s2 l fun h' e G ⟨o,x,hc⟩=>?_) (nU _))))
 exact aa (wpAny_isInstance (T:="StopIteration") (b:=true) ⟨o,x,hc⟩ isSubtype_stop (aj (I _ G)))
end
def SqB(t:Bool)(K:qF)(H:Hp)(a:aq)(xs:List V):Prop:=match t with|true=>SqT K H a xs|false=>SqL K H a xs
def ITB(t:Bool)(i a:aq):Nat->aN->Prop:=match t with|true=>fun k h=>h.IsTupleIter i a k|false=>fun k h=>h.IsListIter i a k
def SQB(t:Bool)(a:aq):aN->Array ah->Prop:=match t with|true=>fun h xs=>h.IsTuple a xs|false=>fun h xs=>h.IsList a xs
def itN(t:Bool):String:=match t with|true=>"tuple_iterator" | false=>"list_iterator"
theorem nx_B{prog:aK}{w:aQ}{i a:aq}(t:Bool):NxS prog w i a (ITB t i a) (SQB t a):=by
 cases t
 ·exact zpH
 ·exact zsq
section
variable{X:Cx}{pins:qO}{σ:St}{H:Hp}{s:au}
theorem Inv.seqB{t:Bool}{a:aq}{xs:List V}(I:Inv X pins σ H s)(h:SqB t X.K H a xs):∃l:List ah,Vals xs l/\SQB t a s.heap l.toArray/\xs.length<=sizeLine:=by
 cases t
 ·obtain⟨l,r,p,z⟩:=I.list h;exact⟨l,r,p.isList,z⟩
 ·obtain⟨l,r,p,z⟩:=I.tuple h;exact⟨l,r,p,z⟩
theorem Inv.injB{t:Bool}{a:aq}{xs ys:List V}(I:Inv X pins σ H s)(h:SqB t X.K H a xs)(h':SqB t X.K H a ys):xs=ys:=by
 cases t
 ·exact I.list_inj h h'
 ·exact I.tuple_inj h h'
theorem Inv.turnedL{h':aN}{t':Nat}(ch:List aq)(I:Inv X pins σ H s)(k:∀b o,b∉ch->s.heap.get? b=some o->h'.get? b=some o)(f:∀b∈ch,FpOk X pins H b):Inv X pins σ H { s with heap:=h',toks:=t' }:=by
 have l:∀b u,H b=some u->b∉ch:=fun b u e z=>by rw[(f b z).1]at e;cases e
 refine I.step (g':=s.gens) (d':=s.drawn) (ch:=ch) (fun b x=>⟨(f b x).2.2.2.1,(f b x).2.1,(f b x).2.2.2.2.1,(f b x).2.2.2.2.2⟩) (fun b o _ _ hc e _=>k b o hc e) (fun b o _ _ hc e _=>⟨o.slots,k b o hc e⟩) (fun _ _ _ _ n=>n) (fun b o hc e=>⟨o,k b o hc e⟩) (fun _ _ e=>e) (fun _ _ _ e=>e)
  (fun _ _ e=>e) (fun m ⟨o,J,C,G,r⟩=>⟨o,J,C,k _ o (fun z=>(f _ z).2.1 rfl) G,r⟩) (fun b u e=>(I.hok b u e).stay (fun c v hc q=>k c v ?_ q) (fun _ q=>q) (fun _ _ q=>q) fun _ _ _ q=>q) I.bare
 rcases hc with z|z
 ·rw[z];exact l b u e
 ·exact l c _ z
end
section
variable{prog:aK}{w:aQ}{A:br}{E:qV}{s:au}
theorem ztb{t:Bool}{a:aq}{xs:Array ah}{Q:qV}(h:SQB t a s.heap xs)(u:Q (.ref s.heap.objs.size) { s with heap:=s.heap.push { cls:=.type (itN t),data:=.fields #[.ref a,.int 0 0] } }):wpAny (model prog w) A (pyIter (.ref a)) Q E s:=by
 cases t
 ·exact eT h u
 ·exact iZ h u
theorem SQB.push{t:Bool}{a:aq}{xs:Array ah}{h:aN}(x:SQB t a h xs)(o:Obj):SQB t a (h.push o) xs:=by
 cases t
 ·exact ym x o
 ·exact xC x o
abbrev zA(h:aN)(t:Bool)(a:aq):aN:=h.push { cls:=.type (itN t),data:=.fields #[.ref a,.int 0 0] }
abbrev zB(h:aN)(t u:Bool)(a b:aq):aN:=(zA h t a).push { cls:=.type (itN u),data:=.fields #[.ref b,.int 0 0] }
abbrev zC(h:aN)(t u:Bool)(a b:aq):aN:=(zB h t u a b).push { cls:=.type "tuple",data:=.seq #[.ref h.objs.size,.ref (zA h t a).objs.size] }
abbrev zD(h:aN)(t u:Bool)(a b:aq):aN:=(zC h t u a b).push { cls:=.type "tuple",data:=.seq #[.none,.none] }
abbrev zE(h:aN)(t u:Bool)(a b:aq):aN:=(zD h t u a b).push { cls:=.type "zip",data:=.fields #[.none,.bool false,.bool false,.ref (zB h t u a b).objs.size,.ref (zC h t u a b).objs.size] }
theorem znz(t u:Bool)(a b:aq)(xs ys:Array ah) :
  Meets (fR.«zip.__new__» ⟨[.type "zip",.ref a,.ref b],[]⟩) (fun _ R s=>SQB t a s.heap xs/\SQB u b s.heap ys/\R (.ok (.ret (.ref (zD s.heap t u a b).objs.size))) { s with heap:=zE s.heap t u a b }) :=
 .of_wp fun prog w A R s h=>by
  obtain⟨v,g,d,tk,os⟩:=s;obtain⟨C,G,h⟩:=h;have I:=sub_zip;have x:SQB t a (ve ⟨v,g,d,tk,os⟩) xs:=C;have L2:SQB u b (ve ⟨v.push { cls:=.type (itN t),data:=.fields #[.ref a,.int 0 0] },g,d,tk,os⟩) ys:=SQB.push G _
  wp_walk using ztb x,ztb L2
  exact⟨_,rfl,h⟩
theorem ITB.new{t:Bool}{i a:aq}{h:aN}(e:h.get? i=some { cls:=.type (itN t),data:=.fields #[.ref a,.int 0 0] }):ITB t i a 0 h:=by
 cases t
 ·exact⟨_,e,rfl,rfl⟩
 ·exact⟨_,e,rfl,rfl⟩
theorem zqN{t u:Bool}{a b:aq}{xs ys:Array ah}{Q:qV}(L:SQB t a s.heap xs)(N:SQB u b s.heap ys)
  (h:∀h',ZSt (s.heap.objs.size+4) (s.heap.objs.size+2) (s.heap.objs.size+3) s.heap.objs.size (s.heap.objs.size+1) (ITB t s.heap.objs.size a) (ITB u (s.heap.objs.size+1) b) .none 0 h'->h'.objs.size=s.heap.objs.size+5 ->
   (∀c o,s.heap.get? c=some o->h'.get? c=some o)->Q (.ref (s.heap.objs.size+4)) { s with heap:=h' }) :
  wpAny (model prog w) A (call (.type "zip") [.ref a,.ref b]) Q E s:=by
 refine callType_new F.called_zip (by decide) (F.typeCall_zip_2 _ _) (F.newCall_zip_2 _ _) (fun obj=>F.args_object_init_3 obj _ _) F.entry_zip_new (znz t u a b xs ys) ⟨L,N,?_⟩
 have I:(zA s.heap t a).objs.size=s.heap.objs.size+1:=cV ..;have G:(zB s.heap t u a b).objs.size=s.heap.objs.size+2:=by rw[cV,I]
 have C:(zC s.heap t u a b).objs.size=s.heap.objs.size+3:=by rw[cV,G]
 have l:(zD s.heap t u a b).objs.size=s.heap.objs.size+4:=by rw[cV,C]
 have R:(zE s.heap t u a b).objs.size=s.heap.objs.size+5:=by rw[cV,l]
 have v:(zE s.heap t u a b).get? (zD s.heap t u a b).objs.size=some _:=az _ rfl;have J:(zE s.heap t u a b).get? (zC s.heap t u a b).objs.size=some _:=ak _ (az _ rfl);have g3:(zE s.heap t u a b).get? (zB s.heap t u a b).objs.size=some _:=ak _ (ak _ (az _ rfl));have g2:(zE s.heap t u a b).get? (zA s.heap t a).objs.size=some _:=ak _ (ak _ (ak _ (az _ rfl)))
 have g1:(zE s.heap t u a b).get? s.heap.objs.size=some _:=ak _ (ak _ (ak _ (ak _ (az _ rfl))));show _/\_
 rw[G,C,l]at v;rw[I,G]at g3;rw[C]at J;rw[I]at g2;rw[l];refine⟨⟨_,v,rfl⟩,h _ ⟨v,g3,⟨_,_,J⟩,.new g1,.new g2⟩ R fun c o x=>?_⟩
 iterate 5 refine ak _ ?_
 exact x
end
def Itz(t u:Bool)(K:qF)(a b:aq):It :=
 ⟨fun i H=>∃xs ys x y,SqB t K H a xs/\SqB u K H b ys/\xs[i]?=some x/\ys[i]?=some y,
  fun i H v l=>∃p x y,H p=none/\v=.ref p/\(∀xs,SqB t K H a xs->xs[i]?=some x)/\(∀ys,SqB u K H b ys->ys[i]?=some y)/\l=upd H p (.tup [x,y]),
  fun i H=>∃xs ys,SqB t K H a xs/\SqB u K H b ys/\(xs.length<=i\/ys.length<=i)⟩
theorem zm0{P:aK}{w:aQ}{K:qF}{Z:List aP}{x1:_}{pos:Pos}{t u:Bool}{z TI TO C G a b:aq}(D:ZAp z TI TO C G a b) :
  Turn P w K (.Tuple Z x1 pos) (Itz t u K a b) [z,TI,TO,C,G] z (fun i h=>ZSt z TI TO C G (ITB t C a) (ITB u G b) .none i h) where
 mem:=by simp
 obj:=fun i h st c hc=>by
  obtain⟨R,ti,⟨va,Y,to⟩,J,L⟩:=st;simp only[aw,aH,or_false]at hc;rcases hc with rfl|rfl|rfl|rfl|rfl
  ·exact⟨_,R,fun v y=>by cases y⟩
  ·exact⟨_,ti,fun v y=>by cases y⟩
  ·exact⟨_,to,fun v y=>by cases y⟩
  ·exact(nx_B (prog:=P) (w:=w) t).rcd _ _ J
  ·exact(nx_B (prog:=P) (w:=w) u).rcd _ _ L
 keep:=fun i h h' st k=>by
  obtain⟨R,ti,⟨va,Y,to⟩,J,L⟩:=st;exact⟨k _ (by simp) _ R,k _ (by simp) _ ti,⟨va,Y,k _ (by simp) _ to⟩,(nx_B (prog:=P) (w:=w) t).keep _ _ _ J (k _ (by simp)),(nx_B (prog:=P) (w:=w) u).keep _ _ _ L (k _ (by simp))⟩
 item:=by
  intro X hP hw hK hc i pins s σ H E I hf st hg;subst hP hw hK;obtain⟨xs,ys,x,y,q1,q2,hx,hy⟩:=hg;obtain⟨its,r1,p1,z1⟩:=I.seqB q1;obtain⟨jts,r2,p2,z2⟩:=I.seqB q2;obtain⟨S,hux,rux⟩:=r1.get hx;obtain⟨N,huy,ruy⟩:=r2.get hy;refine zq7 D (nx_B t) (nx_B u) st p1 p2 (x:=S) (y:=N) (by simpa using hux) (by simpa using huy) fun h' U pr sz kp=>?_
  refine⟨_,rfl,?_⟩;refine wpAny_letOwnedTupleGo_zip (s:={ s with heap:=h' }) U.zip fun h2 z2' sb=>?_
  obtain⟨⟨d1,d2,d3,d4,d5,d6,d7,d8,d9,d10⟩,_,_⟩:=zj_ D;have big:∀c∈[z,TI,TO,C,G],c<s.heap.objs.size:=fun c hc=>by
   obtain⟨R,ti,⟨va,Y,to⟩,J,L⟩:=st;simp only[aw,aH,or_false]at hc;rcases hc with rfl|rfl|rfl|rfl|rfl
   ·exact ay R
   ·exact ay ti
   ·exact ay to
   ·obtain⟨o,e,_⟩:=(nx_B (prog:=X.prog) (w:=X.w) t).rcd _ _ J;exact ay e
   ·obtain⟨o,e,_⟩:=(nx_B (prog:=X.prog) (w:=X.w) u).rcd _ _ L;exact ay e
  have hp:H s.heap.objs.size=none:=I.hok.fresh (aA _);have I1:Inv X pins σ (upd H s.heap.objs.size (.tup [x,y])) { s with heap:=s.heap.push { cls:=.type "tuple",data:=.seq #[S,N] } } :=
   I.laid (t':=s.toks) (fun b o e=>ak _ e) (aA _) (show JL X.prog X.w _ _ _ (.tup [x,y]) from⟨by show 2<=sizeLine;decide,[S,N],.cons rux (.cons ruy .nil),IsTD.new _ _⟩)
  have npos:∀c∈[z,TI,TO,C,G],c≠s.heap.objs.size:=fun c hc=>aF (big c hc)
  have fu:∀c∈[z,TI,TO,C,G],upd H s.heap.objs.size (.tup [x,y]) c=none:=fun c hc=>by rw[Jo (npos c hc)];exact(hf c hc).1
  refine⟨.ref s.heap.objs.size,upd H s.heap.objs.size (.tup [x,y]),?_,rfl,⟨_,x,y,hp,rfl,fun xs' h=>by rw[I.injB h q1];exact hx,fun ys' h=>by rw[I.injB h q2];exact hy,rfl⟩,?_,fu⟩
  ·refine Inv.turnedL (s:={ s with heap:=s.heap.push { cls:=.type "tuple",data:=.seq #[S,N] } }) (t':=s.toks) [z,TO,C,G] I1 (fun c o hc e=>?_) fun c hc=>?_
   ·simp only[aw,aH,or_false,not_or]at hc;refine sb.extBut _ _ hc.1 ?_
    by_cases y:c=s.heap.objs.size
    ·subst y;have e':(s.heap.push { cls:=.type "tuple",data:=.seq #[S,N] }).get? s.heap.objs.size=some _:=az _ rfl;have e2:some o=some _:=e.symm.trans e';cases e2;exact pr
    ·have e':s.heap.get? c=some o:=by
      have e3:(s.heap.push { cls:=.type "tuple",data:=.seq #[S,N] }).get? c=some o:=e
      rwa [cx _ _ _ y]at e3
     exact kp c o hc.1 hc.2.1 hc.2.2.1 hc.2.2.2 e'
   ·have m:c∈[z,TI,TO,C,G]:=by simp only[aw,aH,or_false]at hc ⊢;rcases hc with h|h|h|h <;> simp[h]
    exact⟨fu c m,(hf c m).2⟩
  ·obtain⟨R,ti,⟨va,Y,to⟩,J,L⟩:=U;exact⟨z2',sb.extBut _ _ d1.symm ti,⟨va,Y,sb.extBut _ _ d2.symm to⟩,(nx_B (prog:=X.prog) (w:=X.w) t).keep _ _ _ J fun o e=>sb.extBut _ _ d3.symm e,(nx_B (prog:=X.prog) (w:=X.w) u).keep _ _ _ L fun o e=>sb.extBut _ _ d4.symm e⟩
 done:=by
  intro X hP hw hK hc i pins s σ H E I hf st hg;subst hP hw hK;obtain⟨xs,ys,q1,q2,hx⟩:=hg;obtain⟨its,r1,p1,z1⟩:=I.seqB q1;obtain⟨jts,r2,p2,z2⟩:=I.seqB q2;have l1:=r1.length;have l2:=r2.length;refine zq6 (I.ok.hd hc) D (nx_B t) (nx_B u) st p1 p2 (by rcases hx with h|h;exact .inl (by simp;omega);exact .inr (by simp;omega)) fun h' kp=>⟨rfl,?_⟩
  refine Inv.turnedL (t':=s.toks) [z,TO,C,G] I (fun c o hc e=>?_) fun c hc=>hf c ?_
  ·simp only[aw,aH,or_false,not_or]at hc;exact kp c o hc.1 hc.2.1 hc.2.2.1 hc.2.2.2 e
  ·simp only[aw,aH,or_false]at hc ⊢;rcases hc with h|h|h|h <;> simp[h]
 self:=fun _ _ _ _ _ st h=>oA st.zip h
section
variable{X:Cx}{a b:aP}{elts:List aP}{x1:Nat}{p p' pos:Pos}
def iZip(K:qF)(x:TA):TI:=fun σ H R=>x σ H fun v l=>∃(t u:Bool) (c d:aq) (xs ys:List V),v=[.ref c,.ref d]/\SqB t K l c xs/\SqB u K l d ys/\R (Itz t u K c d) l
theorem SQB.lt{t:Bool}{c:aq}{xs:Array ah}{h:aN}(x:SQB t c h xs):c<h.objs.size:=by
 cases t
 ·obtain⟨o,e,_⟩:=x;exact ay e
 ·obtain⟨o,e,_⟩:=x;exact ay e
theorem zoX{n:Nat}{c d:aq}(v:c<n)(x:d<n):ZAp (n+4) (n+2) (n+3) n (n+1) c d:=by
 have ne:∀(e:aq) (k:Nat),e<n->e≠n+k:=fun e k h=>aF (aD h (gm _ _))
 refine⟨by simp,fun e u=>?_⟩
 have l:e<n:=by
  simp only[aw,aH,or_false]at u;rcases u with rfl|rfl
  ·exact v
  ·exact x
 simp only[aw,aH,or_false,not_or];exact⟨ne e 4 l,ne e 2 l,ne e 3 l,aF l,ne e 1 l⟩
theorem zrU{S:TA}(hg:Gl X "zip") (hm:X.mg "zip" = none) (ha:PA X [a,b] S) (hs:starEach [a,b] X.env=[(false,eval a X.env),(false,eval b X.env)]) (x:starEach [b] X.env=[(false,eval b X.env)]) :
  PI X (.Tuple elts x1 p') (.Call (.Name "zip" p) [a,b] [] pos) (iZip X.K S):=by
 intro pins s σ H R I h;refine Call_ (Zg I hg hm boot_zip (fQ (thn (ha pos pins s σ H _ I h) fun us s1 ⟨vs,Y,v,Z,q1⟩=>?_) (by rw[hs,x]) (by rw[x];rfl)))
 obtain⟨t,u,c,d,xs,ys,rfl,G,y,q⟩:=q1;cases Z with
 | cons r J =>
  cases J with
  | cons r' J =>
   cases J;cases r;cases r';obtain⟨its,_,U,_⟩:=v.seqB G;obtain⟨jts,_,p2,_⟩:=v.seqB y;refine zqN U p2 fun h' st sz kp=>?_
   refine oA (s:={ s1 with heap:=h' }) st.zip ?_
   refine⟨_,_,_,_,Y,rfl,v.kept (t':=s1.toks) kp,zm0 (zoX U.lt p2.lt),st,fun e L=>?_,q⟩
   have ge:s1.heap.objs.size<=e:=by
    simp only[aw,aH,or_false]at L;rcases L with rfl|rfl|rfl|rfl|rfl
    ·exact gm _ _
    ·exact gm _ _
    ·exact gm _ _
    ·exact aA _
    ·exact gm _ _
   exact v.fpOk ge (v.hok.fresh ge)
theorem srcB{K:qF}{hd:Option aq}{P O:aq->Prop}{H:Hp}{v:V}{t:af}{ts:qD}(N:∀a,¬O a->P a)(r:Rep K hd O H v t)(h:t=.tuple ts\/t=.list ts) :
  ∃(k:Bool) (q:aq) (x:List V),v=.ref q/\SqB k K H q x/\∀(C:aq->Prop) (y:Hp),(∀a o,H a=some o->P a->y a=some o)->(∀a o,H a=some o->¬O a->¬C a)->SqB k K y q x/\Reps K hd C y x ts:=by
 have L:∀x,Reps K hd O H x ts->∀(C:aq->Prop) (y:Hp),(∀a o,H a=some o->P a->y a=some o)->(∀a o,H a=some o->¬O a->¬C a)->Reps K hd C y x ts:=fun x r C y G I =>
  r.mono (fun a o R z=>gq fun no=>I a o R no z) fun a o no R=>G a o R (N a no)
 rcases h with rfl|rfl
 ·cases r with
  | @tup q x ds h o r=>exact⟨true,q,x,rfl,.inl (.inl h),fun C y G I=>⟨.inl (.inl (G q _ h (N q o))),L x r C y G I⟩⟩
  | @tupS q x ds h r=>exact⟨true,q,x,rfl,h.sq,fun C y G I=>⟨h.sq,L x r C y G I⟩⟩
 ·obtain⟨q,x,rfl,J,no,r⟩:=r.lstI;exact⟨false,q,x,rfl,SqL.of J,fun C y G I=>⟨SqL.of (G q _ J (N q no)),L x r C y G I⟩⟩
def zipD(xs ys:qD):List af:=(xs.zip ys).map fun q=>.tuple [q.1,q.2]
def dZip(v db:DTE):DTA:=fun l n R=>v l n fun x C=>db l C fun y u=>JX x fun xs=>JX y fun ys=>R (zipD xs ys) u
theorem zi8{t:af}{R:List af->Prop}(h:JX t R):∃ts,(t=.tuple ts\/t=.list ts)/\R ts:=by
 cases t with
 | list ts=>exact⟨ts,.inr rfl,h⟩
 | tuple ts=>exact⟨ts,.inl rfl,h⟩
 | _=>exact h.elim
theorem ztV{da db:DTE}(hm:X.mg "zip" = none) (h:DE X a da) (h':DE X b db) (hg:Gl X "zip":=by rfl) (hs:starEach [a,b] X.env=[(false,eval a X.env),(false,eval b X.env)]:=by rfl) (G:starEach [b] X.env=[(false,eval b X.env)]:=by rfl) :
  DI X (.Tuple elts x1 p') (.Call (.Name "zip" p) [a,b] [] pos) (dZip da db):=by
 obtain⟨ta,pa,h⟩:=h;obtain⟨tb,pb,h'⟩:=h';refine⟨_,zrU hg hm (Qn pa (Qn pb Q3 G) (by rw[hs,G])) hs G,fun C ρ σ H n Q R S hd hq=>?_⟩
 refine h C ρ σ H n _ _ S hd fun x n1 v H1 r1 e1 hn1 q1=>?_
 have S1:=S.on e1 hn1;refine h' C ρ σ H1 n1 _ _ S1 r1 fun y n2 w H2 U e2 hn2 q2=>?_
 have q1':=e2.rep S.hx q1;obtain⟨xs,hx,U⟩:=zi8 U;obtain⟨ys,hy,U⟩:=zi8 U;obtain⟨k1,c,vs,rfl,s1,f1⟩:=srcB (P:=fun a=>¬Own C ρ σ a) (fun _ z=>z) q1' hx
 obtain⟨k2,d,ws,rfl,s2,f2⟩:=srcB (P:=fun a=>¬Own C ρ σ a) (fun _ z=>z) q2 hy
 refine⟨k1,k2,c,d,vs,ws,rfl,s1,s2,hq _ n2 _ H2 U (e1.trans e2) hn2 ?_⟩;intro O2 H3 h1 h2 h3;obtain⟨g1,L⟩:=f1 O2 H3 h1 h2;obtain⟨g2,Y⟩:=f2 O2 H3 h1 h2;refine⟨fun i t I=>?_,?_⟩
 ·unfold zipD at I;rw[aV]at I;cases ez:(xs.zip ys)[i]? with
  | none=>rw[ez]at I;cases I
  | some q =>
   rw[ez]at I;cases I;obtain⟨ex,ey⟩:=gu.mp ez;obtain⟨vx,Z,rx⟩:=L.get ex;obtain⟨vy,J,ry⟩:=Y.get ey;refine⟨⟨vs,ws,vx,vy,g1,g2,Z,J⟩,fun v H4 hyd=>?_⟩
   obtain⟨pp,x',y',hp,rfl,hx',hy',rfl⟩:=hyd;have e1:x'=vx:=aM ((hx' vs g1).symm.trans Z);have e2:y'=vy:=aM ((hy' ws g2).symm.trans J);subst e1 e2;exact⟨JO hp,.newT (fun z=>h3 pp z hp) hp (.cons rx (.cons ry .nil))⟩
 ·refine⟨vs,ws,g1,g2,?_⟩;have:=L.length;have:=Y.length;unfold zipD;simp only[aL,iL];omega
end
section
variable{d da db:DTE}{dlo dhi:DTO}{ρ:En}{n:Nat}{R:qN}{Ro:Option Int->Nat->Prop}{Rl:List af->Nat->Prop}{xs ys:qD}{lo hi:Option Int}{Q:af->Prop}{Ql:List af->Prop}
theorem ztq(h:d ρ n fun t u=>dlo ρ u fun lo l=>dhi ρ l fun hi v=>lSl t lo hi fun z=>Rl z v):dSlL d dlo dhi ρ n Rl:=h
theorem zlH(h:Ro none n):zim ρ n Ro:=h
theorem zqb(h:d ρ n fun t l=>lInt t fun i=>Ro (some i) l):zqD d ρ n Ro:=h
theorem zvV(h:Ql (cutD xs lo hi)):lSl (.list xs) lo hi Ql:=h
theorem ztm(h:da ρ n fun x u=>db ρ u fun y l=>JX x fun xs=>JX y fun ys=>Rl (zipD xs ys) l):dZip da db ρ n Rl:=h
end
class Stp (P:Prop)(Q:outParam Prop):Prop where
 go:Q->P
section
variable{t u tb:DTS}{D:JN}{ρ ρ0:En}{n i j m:Nat}{d da db dc d1 d2:DTE}{ds di:DTA}{c c' tt:DTT}{g:G2}{g':G2}{gc:GC}{gd:GD}{tg:DTG}{tgs:DTGs}{R:qN}{Rb:Bool->Nat->Prop}{Rl:List af->Nat->Prop}{Re:En->Prop}{x y:af}{xs ys acc:qD}{f:Int->Int->Int}{fb:af->Bool}{k:Bool}{capt:List Nat}
instance zuv :Stp (sSeq t u D ρ n) ((t { D with nx:=u D } ρ n)):=⟨fun h=>zte h⟩
instance zrr :Stp (ZR D ρ n) ((D.nx ρ n)):=⟨fun h=>zp7 h⟩
instance zuw :Stp (sRet d D ρ n) ((d ρ n fun t n'=>D.rt t n')):=⟨fun h=>ztf h⟩
instance zvx :Stp (sIf c t u D ρ n) ((c ρ n fun b n1=>if b=true then t D ρ n1 else u D ρ n1)):=⟨fun h=>zwg h⟩
instance zuy :Stp (sAsg d tg D ρ n) ((d ρ n fun t n'=>tg t ρ fun ρ'=>D.nx ρ' n')):=⟨fun h=>zth h⟩
instance zux :Stp (sFor di tg tb D ρ n) ((di ρ n fun ts n1=>forP tg tb D ts ρ n1)):=⟨fun h=>ztg h⟩
instance zwK :Stp (dC x ρ n R) ((R x n)):=⟨fun h=>i_dC h⟩
instance zvz :Stp (dOp g da db ρ n R) ((da ρ n fun x n1=>db ρ n1 fun y n2=>g x y fun z=>R z n2)):=⟨fun h=>zwk h⟩
instance zuJ :Stp (dNew ds ρ n R) ((ds ρ n fun ts n'=>R (.list ts) n')):=⟨fun h=>ztu h⟩
instance zuD :Stp (dTup ds ρ n R) ((ds ρ n fun ts n1=>R (.tuple ts) n1)):=⟨fun h=>zto h⟩
instance zuI :Stp (dNil ρ n Rl) ((Rl [] n)):=⟨fun h=>ztt h⟩
instance zrx :Stp (Qb d ds ρ n Rl) ((d ρ n fun t n1=>ds ρ n1 fun ts n2=>Rl (t::ts) n2)):=⟨fun h=>zqd h⟩
instance zvA :Stp (dFn gd ds ρ n R) ((ds ρ n fun ts n1=>gd ts n1 R)):=⟨fun h=>zwl h⟩
instance zuO :Stp (dFnL gd ds ρ n R) ((ds ρ n fun ts n1=>gd ts n1 fun t n2=>JS t=true/\R t n2)):=⟨fun h=>ztz h⟩
instance zq5 :Stp (YX gc ds ρ n R) ((ds ρ n fun ts n1=>gc ts fun z=>R z n1)):=⟨fun h=>znX h⟩
instance zuA :Stp (isiD fb d ρ n R) ((d ρ n fun t n1=>lIsi fb t fun z=>R z n1)):=⟨fun h=>ztl h⟩
instance zuQ :Stp (dAnd c c' ρ n Rb) ((c ρ n fun b n1=>if b=true then c' ρ n1 Rb else Rb false n1)):=⟨fun h=>ztB h⟩
instance zvy :Stp (dOr c c' ρ n Rb) ((c ρ n fun b n1=>if b=true then Rb true n1 else c' ρ n1 Rb)):=⟨fun h=>zwj h⟩
instance zuH :Stp (dNot c ρ n Rb) ((c ρ n fun b n1=>Rb (!b) n1)):=⟨fun h=>zts h⟩
instance zry :Stp (zqG da db ρ n R) ((da ρ n fun t n1=>bolD t fun b=>if b=true then db ρ n1 R else R (.bool false) n1)):=⟨fun h=>zqf h⟩
instance zuG :Stp (dOrV da db ρ n R) ((da ρ n fun t n1=>bolD t fun b=>if b=true then R (.bool true) n1 else db ρ n1 R)):=⟨fun h=>ztr h⟩
instance zrw :Stp (zqE da ρ n R) ((da ρ n fun t n1=>bolD t fun b=>R (.bool (!b)) n1)):=⟨fun h=>zqc h⟩
instance zuN :Stp (dIfE c da db ρ n R) ((c ρ n fun b n1=>if b=true then da ρ n1 R else db ρ n1 R)):=⟨fun h=>zty h⟩
instance zuE :Stp (dTru d ρ n Rb) ((d ρ n fun t n'=>truD t fun b=>Rb b n')):=⟨fun h=>ztp h⟩
instance zuC :Stp (dYes ρ n Rb) ((Rb true n)):=⟨fun h=>ztn h⟩
instance zrp :Stp (U9 tgs (.tuple xs) ρ Re) ((tgs xs ρ Re)):=⟨fun h=>zp5 h⟩
instance zrq :Stp (U8 [] ρ Re) ((Re ρ)):=⟨fun h=>zp6 h⟩
instance zq2 :Stp (Q4 tg tgs (x::xs) ρ Re) ((tg x ρ fun ρ'=>tgs xs ρ' Re)):=⟨fun h=>znT h⟩
instance zrs :Stp (Q0 d ρ n Rb) ((d ρ n fun t n'=>bolD t fun b=>Rb b n')):=⟨fun h=>zp9 h⟩
instance zuP :Stp (dCat da db ρ n Rl) ((da ρ n fun x n1=>db ρ n1 fun y n2=>lCat x y fun zs=>Rl zs n2)):=⟨fun h=>ztA h⟩
instance zuM :Stp (dItL d ρ n Rl) ((d ρ n fun t n'=>lLst t fun ts=>Rl ts n')):=⟨fun h=>ztx h⟩
instance zuL :Stp (dItT d ρ n Rl) ((d ρ n fun t n'=>lTup t fun ts=>Rl ts n')):=⟨fun h=>ztw h⟩
instance zru :Stp (YU d ρ n Rl) ((d ρ n fun t n'=>lInt t fun j=>(-(2 ^ 62)<=j/\j<2 ^ 62)/\Rl (QI 0 j.toNat) n')):=⟨fun h=>zqa h⟩
instance zuK :Stp (dNeg d ρ n R) ((d ρ n fun t n'=>lInt t fun i=>R (.int (-i)) n')):=⟨fun h=>ztv h⟩
instance zq3 :Stp (YY k d ρ n R) ((d ρ n fun t n'=>lLst t fun ts=>∃bs:List Bool,ts=bs.map cF/\R (.int (countIn (.bool k) (bs.map cF))) n')):=⟨fun h=>znV h⟩
instance zq4 :Stp (Yc g g' da db dc ρ n R) ((da ρ n fun x n1=>db ρ n1 fun y n2=>g x y fun z=>bolD z fun b=>if b=true then dc ρ n2 fun w n3=>g' y w fun z=>R z n3 else R (.bool false) n2)):=⟨fun h=>znW h⟩
instance zuz {b:Bool}{A B:Prop}:Stp (if (!b)=true then A else B) ((if b=true then B else A)):=⟨fun h=>ztj h⟩
end
section
variable{C:Int->Int->Prop}{f:Int->Int->Int}{fb:Int->Int->Bool}{i j k:Int}{R:af->Prop}{Rb:Bool->Prop}{xs ys:qD}{s t:Str}{a b:Bool}{u v x y:af}{Rn:qN}{n:Nat}
instance zuu :Stp (oAdd (.int i) (.int j) R) ((R (.int (i+j)))):=⟨fun h=>zs8 h⟩
instance zut :Stp (oAdd (.str s) (.str t) R) (((s.length+t.length<=16777216/\R (.str (s++t))))):=⟨fun h=>zs7 h⟩
instance zus :Stp (oAdd (.tuple xs) (.tuple ys) R) (((xs.length+ys.length<=16777216/\R (.tuple (xs++ys))))):=⟨fun h=>zs6 h⟩
instance zvs :Stp (oEq (.int i) (.int j) R) ((R (.bool (decide (i=j))))):=⟨fun h=>zwb h⟩
instance zvq :Stp (oEq (.str s) (.str t) R) ((R (.bool (decide (s=t))))):=⟨fun h=>zv_ h⟩
instance zvr :Stp (oEq (.list xs) (.list ys) R) (((Okd (.list xs)/\Okd (.list ys)/\R (.bool (dH (.list xs) (.list ys)))))):=⟨fun h=>zwa h⟩
instance zvf :Stp (oNe (.int i) (.int j) R) ((R (.bool (!decide (i=j))))):=⟨fun h=>zvZ h⟩
instance zvd :Stp (oNe (.str s) (.str t) R) ((R (.bool (!decide (s=t))))):=⟨fun h=>zvX h⟩
instance zve :Stp (oNe (.list xs) (.list ys) R) (((Okd (.list xs)/\Okd (.list ys)/\R (.bool (!PyData.eqv (.list xs) (.list ys)))))):=⟨fun h=>zvY h⟩
instance zvo :Stp (oIs u .none R) ((R (.bool (isNone u)))):=⟨fun h=>zv8 h⟩
instance zqZ :Stp (Zk u (.tuple xs) R) (((Okd u/\(∀t∈xs,Okd t)/\R (.bool (!xs.any fun t=>t.eqv u))))):=⟨fun h=>znM h⟩
instance zvk :Stp (oLtA (.int i) (.int j) R) ((R (.bool (decide (i<j))))):=⟨fun h=>zv4 h⟩
instance zvn :Stp (oLeA (.int i) (.int j) R) ((R (.bool (decide (i<=j))))):=⟨fun h=>zv7 h⟩
instance zvm :Stp (oLeA (.str s) (.str t) R) ((R (.bool (!decide (t.cps.toList<s.cps.toList))))):=⟨fun h=>zv6 h⟩
instance zun :Stp (oIx (.tuple (u::xs)) (.int 0) R) ((R u)):=⟨fun h=>zs2 h⟩
instance zum :Stp (oIx (.tuple (u::v::xs)) (.int 1) R) ((R v)):=⟨fun h=>zs1 h⟩
instance zul {w:af}:Stp (oIx (.tuple (u::v::w::xs)) (.int 2) R) ((R w)):=⟨fun h=>zs0 h⟩
instance zup :Stp (oIx (.list (u::xs)) (.int 0) R) ((R u)):=⟨fun h=>Vk h⟩
instance zuo :Stp (oIx (.list (u::v::xs)) (.int 1) R) ((R v)):=⟨fun h=>zoG h⟩
instance zug :Stp (truD (.bool a) Rb) ((Rb a)):=⟨fun h=>zsQ h⟩
instance zuf :Stp (truD (.list xs) Rb) ((Rb (!xs.isEmpty))):=⟨fun h=>zsP h⟩
instance zvu :Stp (bolD (.bool a) Rb) ((Rb a)):=⟨fun h=>zwd h⟩
instance zuk :Stp (bLen [.list xs] R) ((R (.int xs.length))):=⟨fun h=>zsZ h⟩
instance zui :Stp (bLen [.tuple xs] R) ((R (.int xs.length))):=⟨fun h=>zsX h⟩
instance zuj :Stp (bLen [.str s] R) (((s.length<=16777216/\R (.int s.length)))):=⟨fun h=>zsY h⟩
instance zq0 {ns:List Int}:Stp (bLen [SCR ns] R) ((R (.int ns.length))):=⟨fun h=>znN h⟩
instance zvi :Stp (bMin [.int i,.int j] R) ((R (.int (if j<i then j else i)))):=⟨fun h=>zv2 h⟩
instance zvj :Stp (bMax [.int i,.int j] R) ((R (.int (if j > i then j else i)))):=⟨fun h=>zv3 h⟩
instance zvw :Stp (bAbs [.int i] R) ((R (.int (if i<0 then -i else i)))):=⟨fun h=>zwf h⟩
instance zuq :Stp (bInt [.bool a] R) ((R (.int (if a then 1 else 0)))):=⟨fun h=>zs4 h⟩
instance zqY :Stp (Y2 [.list xs] R) ((R (.tuple xs))):=⟨fun h=>znL h⟩
instance zuh :Stp (Yz [u] R) (((Shd u/\R (.str u.shown)))):=⟨fun h=>zsS h⟩
instance zro {Rl:List af->Prop}:Stp (JX (.list xs) Rl) ((Rl xs)):=⟨fun h=>zp2 h⟩
instance zq1 {Rl:List af->Prop}:Stp (JX (.tuple xs) Rl) ((Rl xs)):=⟨fun h=>znP h⟩
instance zvt {Q:List af->Prop}:Stp (lCat (.list xs) (.list ys) Q) (((xs.length+ys.length<=16777216/\Q (xs++ys)))):=⟨fun h=>zwc h⟩
instance zvl {Q:List af->Prop}:Stp (lLst (.list xs) Q) ((Q xs)):=⟨fun h=>zv5 h⟩
instance zu_ {Q:List af->Prop}:Stp (lTup (.tuple xs) Q) ((Q xs)):=⟨fun h=>zvT h⟩
instance zvp {i:Int}{Q:Int->Prop}:Stp (lInt (.int i) Q) ((Q i)):=⟨fun h=>zv9 h⟩
instance zvg :Stp (oMul (.int i) (.int j) R) ((CMul i j)/\(R (.int (i*j)))):=⟨fun h=>zv0 h.1 h.2⟩
instance zvh :Stp (oMod (.int i) (.int j) R) ((0<j)/\(R (.int (i % j)))):=⟨fun h=>zv1 h.1 h.2⟩
instance zur :Stp (UP (.int i) (.int j) R) ((Yw i j)/\(R (.int (i / j)))):=⟨fun h=>zs5 h.1 h.2⟩
instance zvc :Stp (oShl (.int i) (.int j) R) ((CPow i j)/\(R (.int (i*2 ^ j.toNat)))):=⟨fun h=>zvW h.1 h.2⟩
instance zva :Stp (oSub (.int i) (.int j) R) ((R (.int (i - j)))):=⟨fun h=>zvU h⟩
instance zu9 :Stp (oXor (.int i) (.int j) R) ((R (.int (fh i j)))):=⟨fun h=>zvS h⟩
instance zvv :Stp (oAnd (.int i) (.int j) R) ((R (.int (fV i j)))):=⟨fun h=>zwe h⟩
instance zwH :Stp (gB fb (.int i) (.int j) R) ((R (.bool (fb i j)))):=⟨fun h=>j_gB h⟩
instance zm_ :Stp (lIsi isInt (.int i) R) ((R (.bool true))):=⟨fun h=>zig h⟩
instance zmS :Stp (lIsi isInt (.bool a) R) ((R (.bool true))):=⟨fun h=>zhg h⟩
instance zm9 :Stp (lIsi isInt (.str s) R) ((R (.bool false))):=⟨fun h=>zif h⟩
instance zkr :Stp (lIsi isInt (.tuple xs) R) ((R (.bool false))):=⟨fun h=>zfM h⟩
instance zmQ :Stp (lIsi isInt (.list xs) R) ((R (.bool false))):=⟨fun h=>zhe h⟩
instance zmP :Stp (lIsi isInt (.none) R) ((R (.bool false))):=⟨fun h=>zhd h⟩
instance zmR :Stp (lIsi isInt (.dict []) R) ((R (.bool false))):=⟨fun h=>zhf h⟩
instance zmT :Stp (lIsi isBool (.int i) R) ((R (.bool false))):=⟨fun h=>zhh h⟩
instance zks :Stp (lIsi isBool (.bool a) R) ((R (.bool true))):=⟨fun h=>zfN h⟩
instance zm6 :Stp (lIsi isTup (.int i) R) ((R (.bool false))):=⟨fun h=>zic h⟩
instance zmK :Stp (lIsi isTup (.bool a) R) ((R (.bool false))):=⟨fun h=>zg9 h⟩
instance zm5 :Stp (lIsi isTup (.str s) R) ((R (.bool false))):=⟨fun h=>zib h⟩
instance zkp :Stp (lIsi isTup (.tuple xs) R) ((R (.bool true))):=⟨fun h=>zfK h⟩
instance zmI :Stp (lIsi isTup (.list xs) R) ((R (.bool false))):=⟨fun h=>zg7 h⟩
instance zmH :Stp (lIsi isTup (.none) R) ((R (.bool false))):=⟨fun h=>zg6 h⟩
instance zmJ :Stp (lIsi isTup (.dict []) R) ((R (.bool false))):=⟨fun h=>zg8 h⟩
instance zm8 :Stp (lIsi isStr (.int i) R) ((R (.bool false))):=⟨fun h=>zie h⟩
instance zmO :Stp (lIsi isStr (.bool a) R) ((R (.bool false))):=⟨fun h=>zhc h⟩
instance zm7 :Stp (lIsi isStr (.str s) R) ((R (.bool true))):=⟨fun h=>zid h⟩
instance zkq :Stp (lIsi isStr (.tuple xs) R) ((R (.bool false))):=⟨fun h=>zfL h⟩
instance zmM :Stp (lIsi isStr (.list xs) R) ((R (.bool false))):=⟨fun h=>zha h⟩
instance zmL :Stp (lIsi isStr (.none) R) ((R (.bool false))):=⟨fun h=>zg_ h⟩
instance zmN :Stp (lIsi isStr (.dict []) R) ((R (.bool false))):=⟨fun h=>zhb h⟩
end
section
variable{d da db:DTE}{dlo dhi:DTO}{ρ:En}{n:Nat}{R:qN}{Ro:Option Int->Nat->Prop}{Rl:List af->Nat->Prop}{xs ys:qD}{lo hi:Option Int}{Q:af->Prop}{Ql:List af->Prop}
instance zuF :Stp (dSlL d dlo dhi ρ n Rl) ((d ρ n fun t n1=>dlo ρ n1 fun lo n2=>dhi ρ n2 fun hi n3=>lSl t lo hi fun z=>Rl z n3)):=⟨fun h=>ztq h⟩
instance zo6 :Stp (zim ρ n Ro) ((Ro none n)):=⟨fun h=>zlH h⟩
instance zrv :Stp (zqD d ρ n Ro) ((d ρ n fun t n'=>lInt t fun i=>Ro (some i) n')):=⟨fun h=>zqb h⟩
instance zuB :Stp (dZip da db ρ n Rl) ((da ρ n fun x n1=>db ρ n1 fun y n2=>JX x fun xs=>JX y fun ys=>Rl (zipD xs ys) n2)):=⟨fun h=>ztm h⟩
instance zvb :Stp (lSl (.list xs) lo hi Ql) ((Ql (cutD xs lo hi))):=⟨fun h=>zvV h⟩
end
section
instance zrt {d:DTE}{ρ:En}{n:Nat}{Rl:List af->Nat->Prop}:Stp (zqC d ρ n Rl) ((d ρ n fun t n1=>YA t fun ts=>Rl ts n1)):=⟨fun h=>zp_ h⟩
end
section
variable{R:af->Prop}{b:Bool}{A B:Prop}
instance zwI:Stp (if true=true then A else B) A:=⟨fun h=>iteT h⟩
instance zwJ:Stp (if false=true then A else B) B:=⟨fun h=>iteF h⟩
end
class GetN (ρ:En)(i:Nat)(c:outParam (Option Cell)):Prop where
 e:ρ[i]?=some c
class SetN (ρ:En)(i:Nat)(c:Option Cell)(ρ':outParam En):Prop where
 e:ρ.set i c=ρ'
instance{a0:Option Cell}{as:En}:GetN (a0::as) 0 a0:=⟨rfl⟩
instance{a0 c:Option Cell}{as:En}:SetN (a0::as) 0 c (c::as):=⟨rfl⟩
instance{a0 a1:Option Cell}{as:En}:GetN (a0::a1::as) 1 a1:=⟨rfl⟩
instance{a0 a1 c:Option Cell}{as:En}:SetN (a0::a1::as) 1 c (a0::c::as):=⟨rfl⟩
instance{a0 a1 a2:Option Cell}{as:En}:GetN (a0::a1::a2::as) 2 a2:=⟨rfl⟩
instance{a0 a1 a2 c:Option Cell}{as:En}:SetN (a0::a1::a2::as) 2 c (a0::a1::c::as):=⟨rfl⟩
instance{a0 a1 a2 a3:Option Cell}{as:En}:GetN (a0::a1::a2::a3::as) 3 a3:=⟨rfl⟩
instance{a0 a1 a2 a3 c:Option Cell}{as:En}:SetN (a0::a1::a2::a3::as) 3 c (a0::a1::a2::c::as):=⟨rfl⟩
instance{a0 a1 a2 a3 c:Option Cell}{as:En}{i:Nat}[h:GetN as i c]:GetN (a0::a1::a2::a3::as) (i+4) c:=⟨h.e⟩
instance{a0 a1 a2 a3 c:Option Cell}{as bs:En}{i:Nat}[h:SetN as i c bs]:SetN (a0::a1::a2::a3::as) (i+4) c (a0::a1::a2::a3::bs):=⟨by rw[<- h.e];rfl⟩
class NormE (ρ:En)(ρ':outParam En):Prop where
 e:ρ=ρ'
instance{a:Option Cell}{as:En}:NormE (a::as) (a::as):=⟨rfl⟩
instance{ρ ρ1 ρ2:En}{i:Nat}{c:Option Cell}[h:NormE ρ ρ1][k:SetN ρ1 i c ρ2]:NormE (ρ.set i c) ρ2:=⟨by rw[h.e];exact k.e⟩
class NoneN (as:En)(nn:outParam En):Prop where
 e:bR as.length none=nn
instance:NoneN [] []:=⟨rfl⟩
instance{a:Option Cell}{as nn:En}[h:NoneN as nn]:NoneN (a::as) (none::nn):=⟨by rw[aT,cg,h.e]⟩
class StartN (N:List Str)(ts:qD)(ρ:outParam En):Prop where
 e:JY N ts=ρ
instance:StartN [] [] []:=⟨rfl⟩
instance{x:Str}{N:List Str}{ρ:En}[h:StartN N [] ρ]:StartN (x::N) [] (none::ρ):=⟨by
 have:=h.e;simp only[JY,fB,ei,cL,nS]at this ⊢;rw[aT,cg,this]⟩
instance{x:Str}{N:List Str}{t:af}{ts:qD}{ρ:En}[h:StartN N ts ρ]:StartN (x::N) (t::ts) (some (.val t)::ρ):=⟨by
 have:=h.e;simp only[JY]at this ⊢;rw[bZ,aT,aT,dJ,Nat.add_sub_add_right,this]⟩
theorem zjD{d:DTS}{D:JN}{n:Nat}{N:List Str}{ts:qD}{l:En}[e:StartN N ts l](h:d D l n):d D (JY N ts) n:=e.e.symm▸h
class CapN (is:List Nat)(ρ:En)(out:outParam En):Prop where
 e:(is.map fun i=>capV (ρ.getD i none))=out
class CapC (c:Option Cell)(c':outParam (Option Cell)):Prop where
 e:capV c=c'
instance{d:af}:CapC (some (.val d)) (some (.val d)):=⟨rfl⟩
instance{d:qD}:CapC (some (.own d)) none:=⟨rfl⟩
instance:CapC none none:=⟨rfl⟩
instance{ρ:En}:CapN [] ρ []:=⟨rfl⟩
instance{i:Nat}{is:List Nat}{ρ out:En}{c c':Option Cell}[g:GetN ρ i c][k:CapC c c'][h:CapN is ρ out]:CapN (i::is) ρ (c'::out):=⟨by
 have ge:=g.e;rw[bZ,h.e,ba,ge,cM,k.e]⟩
class CompN (m:Nat)(capt:List Nat)(ρ:En)(ρ':outParam En):Prop where
 e:JC m capt ρ=ρ'
instance{x:Str}{capt:List Nat}{ρ out:En}[h:CapN capt ρ out]:CompN (eD [x]) capt ρ (none::out):=⟨by unfold JC;rw[h.e];rfl⟩
instance{x y:Str}{capt:List Nat}{ρ out:En}[h:CapN capt ρ out]:CompN (eD [x,y]) capt ρ (none::none::out):=⟨by unfold JC;rw[h.e];rfl⟩
instance{x y z:Str}{capt:List Nat}{ρ out:En}[h:CapN capt ρ out]:CompN (eD [x,y,z]) capt ρ (none::none::none::out):=⟨by unfold JC;rw[h.e];rfl⟩
instance{x y z u:Str}{capt:List Nat}{ρ out:En}[h:CapN capt ρ out]:CompN (eD [x,y,z,u]) capt ρ (none::none::none::none::out):=⟨by unfold JC;rw[h.e];rfl⟩
def SetK(i:Nat)(c:Option Cell)(K:En->Nat->Prop)(l:En)(n:Nat):Prop:=K (l.set i c) n
section
variable{t u:DTS}{D:JN}{ρ ρ0 ρ':En}{n i j m:Nat}{d dj:DTE}{ds di:DTA}{tt:DTT}{tg:DTG}{R:qN}{Rl:List af->Nat->Prop}{Re:En->Prop}{x:af}{xs:qD}{f:Int->Int->Int}{capt:List Nat}{c:Option Cell}{K:En->Nat->Prop}{q:Int}
instance zwR [h:SetN ρ i c ρ']:Stp (SetK i c K ρ n) (K ρ' n):=⟨fun k=>by unfold SetK;rw[h.e];exact k⟩
instance zwz:Stp (sSet i d D ρ n) (d ρ n fun t n'=>SetK i (some (.val t)) D.nx ρ n'):=⟨fun h=>h⟩
instance zwA:Stp (sOwn i ds D ρ n) (ds ρ n fun t n'=>SetK i (some (.own t)) D.nx ρ n'):=⟨fun h=>h⟩
instance zuc [h:SetN ρ i (some (.val x)) ρ']:Stp (Qd i x ρ Re) (Re ρ'):=⟨fun k=>by unfold Qd;rw[h.e];exact k⟩
instance zwN [h:GetN ρ i (some (.val x))]:Stp (dVar i ρ n R) (R x n):=⟨fun k=>zoK h.e k⟩
instance zwO [h:GetN ρ i (some (.own xs))]:Stp (dOwn i ρ n R) (R (.list xs) n):=⟨fun k=>zoL h.e k⟩
instance zuT [h:GetN ρ i (some (.own xs))]:Stp (Yr i d D ρ n) (d ρ n fun t n'=>xs.length<16777216/\SetK i (some (.own (xs++[t]))) D.nx ρ n'):=⟨fun k=>zjb h.e k⟩
instance zuR [h:GetN ρ i (some (.own xs))][h':SetN ρ i (some (.val (.list xs))) ρ']:Stp (Zy i t D ρ n) (t D ρ' n):=⟨fun k=>zja h.e (by rw[h'.e];exact k)⟩
instance zwP [h:CompN m capt ρ ρ0]:Stp (dComp m capt di tg tt d ρ n Rl) (di ρ n fun ts n1=>JP tg tt d ρ0 ts [] n1 Rl):=⟨fun k=>zqe (by rw[h.e];exact k)⟩
theorem zrM{D:JN}{ρ:En}{i:Nat}{xs:qD}{x:af}{n:Nat}{j:Int}{k:Nat}(e:ixN xs.length j=some k)(h:SetK i (some (.own (xs.set k x))) D.nx ρ n) :
  (match ixN xs.length j with|some k=>D.nx (ρ.set i (some (.own (xs.set k x)))) n|none=>False):=by rw[e];exact h
instance zwU [h:GetN ρ i (some (.own xs))]:Stp (sPut i dj d D ρ n) (d ρ n fun t n1=>UO ρ i D dj t n1 xs):=⟨fun k=>zwh h.e k⟩
instance zwB:Stp (UO ρ i D dj x n xs) (dj ρ n fun j n2=>lInt j fun j=>(match ixN xs.length j with|some k=>D.nx (ρ.set i (some (.own (xs.set k x)))) n2|none=>False)):=⟨fun h=>zti h⟩
end
theorem Qh{l:En}{i:Nat}:l.set i (l.getD i none)=l:=by
 apply nQ
 intro j
 by_cases h:i=j
 ·subst h
  by_cases hl:i<l.length
  ·rw[cB hl,ba,aJ hl];rfl
  ·rw[cT (by simp;omega),cT (by omega)]
 ·rw[aO h]
section
variable{g:DTG}{tb:DTS}{D:JN}{ts:qD}{ρ:En}{n:Nat}
theorem ztM(J I:Nat)(Inv:Nat->Option Cell->Option Cell->Nat->Prop){v:Option Cell->Option Cell->En}[N:∀l a1,NormE ((ρ.set J l).set I a1) (v l a1)](h0:Inv 0 (ρ.getD J none) (ρ.getD I none) n)
  (turn:∀(k:Nat) (t:af) (l a1:Option Cell) (m:Nat) (K:En->Nat->Prop) (L:qN) (R:En->Nat->Prop),ts[k]?=some t->Inv k l a1 m->(∀x y G,Inv (k+1) x y G->K (v x y) G)->(∀t m,D.rt t m->L t m)->(∀ρ m,D.nx ρ m->R ρ m)->g t (v l a1) fun u=>tb { nx:=K,rt:=L,bk:=R,ct:=K,xr:=D.xr } u m)
  (fin:∀l a1 m,Inv ts.length l a1 m->D.nx (v l a1) m):forP g tb D ts ρ n:=by
 refine U4 (fun k u m=>∃l a1,u=((ρ.set J l).set I a1)/\Inv k l a1 m) ⟨_,_,?_,h0⟩ ?_ ?_
 ·rw[Qh,Qh]
 ·rintro k t u m K e ⟨l,a1,rfl,C⟩ hK;rw[(N l a1).e];exact turn k t l a1 m K D.rt D.nx e C (fun x y G h=>(N x y).e▸hK _ _ ⟨x,y,rfl,h⟩) (fun _ _ h=>h) (fun _ _ h=>h)
 ·rintro u m ⟨l,a1,rfl,C⟩;rw[(N l a1).e];exact fin l a1 m C
theorem zoQ(R L J:Nat)(Inv:Nat->Option Cell->Option Cell->Option Cell->Nat->Prop){v:Option Cell->Option Cell->Option Cell->En}[N:∀l a1 a2,NormE (((ρ.set R l).set L a1).set J a2) (v l a1 a2)](h0:Inv 0 (ρ.getD R none) (ρ.getD L none) (ρ.getD J none) n)
  (turn:∀(k:Nat) (t:af) (l a1 a2:Option Cell) (m:Nat) (K:En->Nat->Prop) (S:qN) (U:En->Nat->Prop),ts[k]?=some t->Inv k l a1 a2 m->(∀y C x I,Inv (k+1) y C x I->K (v y C x) I)->(∀t m,D.rt t m->S t m)->(∀ρ m,D.nx ρ m->U ρ m)->g t (v l a1 a2) fun u=>tb { nx:=K,rt:=S,bk:=U,ct:=K,xr:=D.xr } u m)
  (fin:∀l a1 a2 m,Inv ts.length l a1 a2 m->D.nx (v l a1 a2) m):forP g tb D ts ρ n:=by
 refine U4 (fun k u m=>∃l a1 a2,u=(((ρ.set R l).set L a1).set J a2)/\Inv k l a1 a2 m) ⟨_,_,_,?_,h0⟩ ?_ ?_
 ·rw[Qh,Qh,Qh]
 ·rintro k t u m K e ⟨l,a1,a2,rfl,G⟩ hK;rw[(N l a1 a2).e];exact turn k t l a1 a2 m K D.rt D.nx e G (fun y C x I h=>(N y C x).e▸hK _ _ ⟨y,C,x,rfl,h⟩) (fun _ _ h=>h) (fun _ _ h=>h)
 ·rintro u m ⟨l,a1,a2,rfl,G⟩;rw[(N l a1 a2).e];exact fin l a1 a2 m G
theorem Z6(Y U S R:Nat)(Inv:Nat->Option Cell->Option Cell->Option Cell->Option Cell->Nat->Prop){x:Option Cell->Option Cell->Option Cell->Option Cell->En}[N:∀l a1 a2 u,NormE ((((ρ.set Y l).set U a1).set S a2).set R u) (x l a1 a2 u)](h0:Inv 0 (ρ.getD Y none) (ρ.getD U none) (ρ.getD S none) (ρ.getD R none) n)
  (turn:∀(k:Nat) (t:af) (l a1 a2 u:Option Cell) (m:Nat) (K:En->Nat->Prop) (Z:qN) (BK:En->Nat->Prop),ts[k]?=some t->Inv k l a1 a2 u m->(∀G I y C L,Inv (k+1) G I y C L->K (x G I y C) L)->(∀t m,D.rt t m->Z t m)->(∀ρ m,D.nx ρ m->BK ρ m)->g t (x l a1 a2 u) fun v=>tb { nx:=K,rt:=Z,bk:=BK,ct:=K,xr:=D.xr } v m)
  (fin:∀l a1 a2 u m,Inv ts.length l a1 a2 u m->D.nx (x l a1 a2 u) m):forP g tb D ts ρ n:=by
 refine U4 (fun k v m=>∃l a1 a2 u,v=((((ρ.set Y l).set U a1).set S a2).set R u)/\Inv k l a1 a2 u m) ⟨_,_,_,_,?_,h0⟩ ?_ ?_
 ·rw[Qh,Qh,Qh,Qh]
 ·rintro k t v m K e ⟨l,a1,a2,u,rfl,J⟩ hK;rw[(N l a1 a2 u).e];exact turn k t l a1 a2 u m K D.rt D.nx e J (fun G I y C L h=>(N G I y C).e▸hK _ _ ⟨G,I,y,C,rfl,h⟩) (fun _ _ h=>h) (fun _ _ h=>h)
 ·rintro v m ⟨l,a1,a2,u,rfl,J⟩;rw[(N l a1 a2 u).e];exact fin l a1 a2 u m J
theorem zoP(i0 i1 Z Y S:Nat)(Inv:Nat->Option Cell->Option Cell->Option Cell->Option Cell->Option Cell->Nat->Prop){y:Option Cell->Option Cell->Option Cell->Option Cell->Option Cell->En}[N:∀u a1 a2 v l,NormE (((((ρ.set i0 u).set i1 a1).set Z a2).set Y v).set S l) (y u a1 a2 v l)](h0:Inv 0 (ρ.getD i0 none) (ρ.getD i1 none) (ρ.getD Z none) (ρ.getD Y none) (ρ.getD S none) n)
  (turn:∀(k:Nat) (t:af) (u a1 a2 v l:Option Cell) (m:Nat) (K:En->Nat->Prop) (RT:qN) (BK:En->Nat->Prop),ts[k]?=some t->Inv k u a1 a2 v l m->(∀I L C G J U,Inv (k+1) I L C G J U->K (y I L C G J) U)->(∀t m,D.rt t m->RT t m)->(∀ρ m,D.nx ρ m->BK ρ m)->g t (y u a1 a2 v l) fun x=>tb { nx:=K,rt:=RT,bk:=BK,ct:=K,xr:=D.xr } x m)
  (fin:∀u a1 a2 v l m,Inv ts.length u a1 a2 v l m->D.nx (y u a1 a2 v l) m):forP g tb D ts ρ n:=by
 refine U4 (fun k x m=>∃u a1 a2 v l,x=(((((ρ.set i0 u).set i1 a1).set Z a2).set Y v).set S l)/\Inv k u a1 a2 v l m) ⟨_,_,_,_,_,?_,h0⟩ ?_ ?_
 ·rw[Qh,Qh,Qh,Qh,Qh]
 ·rintro k t x m K e ⟨u,a1,a2,v,l,rfl,R⟩ hK;rw[(N u a1 a2 v l).e];exact turn k t u a1 a2 v l m K D.rt D.nx e R (fun I L C G J U h=>(N I L C G J).e▸hK _ _ ⟨I,L,C,G,J,rfl,h⟩) (fun _ _ h=>h) (fun _ _ h=>h)
 ·rintro x m ⟨u,a1,a2,v,l,rfl,R⟩;rw[(N u a1 a2 v l).e];exact fin u a1 a2 v l m R
theorem znU{i j:Nat}{u:DTS}{D:JN}{G nn y C:En}{n:Nat}{ns:List Int}{k:Int}[ej:GetN (some (.val (SCR ns))::G) j (some (.val (.int k)))][e1:NoneN G nn][e2:SetN (some (.val (SCR ns))::nn) j (some (.val (.int k))) y][e3:SetN y i (some (.val HAND)) C](R:ns.length<=63)(k0:0<=k)(k1:k<=100)
  (h:∀(J:En->Nat->Prop) (L:qN) (N I:En->Nat->Prop),(∀x m,D.nx (JM x) n->J x m)->(∀b m,D.rt (.bool b) n->L (.bool b) m)->(∀x m,D.bk (JM x) n->N x m)->(∀x m,D.ct (JM x) n->I x m) ->
   u { nx:=J,rt:=L,bk:=N,ct:=I } C 0):U7 i j u D (some (.val (SCR ns))::G) n:=by
 refine zp8 (ρd:=some (.val (SCR ns))::nn) rfl ej.e R k0 k1 ?_ ?_
 ·show some (Cell.val (SCR ns))::bR (eD (some (Cell.val (SCR ns))::G) - 1) none=_
  rw[aT,Nat.add_sub_cancel,e1.e]
 ·rw[e2.e,e3.e];exact h _ _ _ _ (fun _ _ h=>h) (fun b _ h=>⟨b,rfl,h⟩) (fun _ _ h=>h) (fun _ _ h=>h)
theorem zoY{c:DTT}{tb:DTS}{D:JN}{ρ:En}{n:Nat}(Inv:Nat->En->Nat->Prop){m:Nat}(h0:Inv m ρ n)
  (turn:∀m ρ n (K:En->Nat->Prop) (y:qN) (x:En->Nat->Prop),Inv m ρ n->(∀u l v,u<m->Inv u l v->K l v)->(∀t m,D.rt t m->y t m)->(∀ρ m,D.nx ρ m->x ρ m) ->
   c ρ n fun b C=>if b=true then tb { nx:=K,rt:=y,bk:=x,ct:=K,xr:=D.xr } ρ C else x ρ C):zkt c tb D ρ n :=
 zkc Inv h0 fun m ρ n h=>turn m ρ n (fun l v=>∃u,u<m/\Inv u l v) D.rt D.nx h (fun u _ _ a b=>⟨u,a,b⟩) (fun _ _ h=>h) (fun _ _ h=>h)
end
open Builtin Builtin.Str
def cutS(x:Str)(lo hi:Option Int):Str:=⟨((x.cps.toList.drop (HT.sIx x.length 0 lo)).take (HT.sIx x.length x.length hi - HT.sIx x.length 0 lo)).toArray⟩
theorem Vo(n d:Nat)(i:Int):((HT.sIx n d (some i):Nat):Int)=max 0 (min (if i<0 then i+(n:Int) else i) (n:Int)):=by
 simp only[HT.sIx]
 by_cases h:i<0
 ·simp only[h,if_true] <;> lia
 ·simp only[h,if_false] <;> lia
theorem zrf(lo hi:Option Int)(n:Nat):strSliceIndices lo hi 1 n=sliceRange ((HT.sIx n 0 lo:Nat):Int) ((HT.sIx n n hi:Nat):Int) 1:=by
 have u:((HT.sIx n 0 none:Nat):Int)=0:=by simp[HT.sIx]
 have l:((HT.sIx n n none:Nat):Int)=n:=by simp[HT.sIx]
 cases lo with
 | none =>
  cases hi with
  | none=>rw[u,l];rfl
  | some j=>rw[u,Vo];rfl
 | some i =>
  cases hi with
  | none=>rw[l,Vo];rfl
  | some j=>rw[Vo,Vo];rfl
theorem zkm(x:Str)(lo hi:Option Int):oB x lo hi=cutS x lo hi:=by
 have e:strSliceIndices lo hi 1 x.length=(dh (HT.sIx x.length x.length hi - HT.sIx x.length 0 lo)).map (HT.sIx x.length 0 lo+·):=by rw[zrf,pN]
 have v:(strSliceIndices lo hi 1 x.length).filterMap (x.cps[·]?)=(x.cps.toList.drop (HT.sIx x.length 0 lo)).take (HT.sIx x.length x.length hi - HT.sIx x.length 0 lo):=by rw[e,uP]
 unfold oB;split
 ·rename_i h;have u:(strSliceIndices lo hi 1 x.length).length=x.length:=by simpa using h
  rw[e,aL,kJ]at u;unfold cutS;have y:HT.sIx x.length x.length hi<=x.length:=by
   cases hi with
   | none=>simp[HT.sIx]
   | some i=>simp only[HT.sIx];split <;> lia
  have z:HT.sIx x.length 0 lo=0\/x.length=0:=by lia
  have:(x.cps.toList.drop (HT.sIx x.length 0 lo)).take (HT.sIx x.length x.length hi - HT.sIx x.length 0 lo)=x.cps.toList:=by
   have sz:x.cps.toList.length=x.length:=by simp[lH]
   rcases z with z|z
   ·rw[z,mw,hV (by lia)]
   ·have:x.cps.toList=[]:=dX.mp (by lia)
    rw[this];simp
  rw[this]
 ·rw[v];rfl
section
variable{X:Cx}
theorem ze9{v:ah}{p:Option Int}(h:kP v p):∃l:Option (Int×Tok),v=partValue l/\l.map (·.1)=p:=by
 cases h with
 | none=>exact⟨none,rfl,rfl⟩
 | int i t=>exact⟨some (i,t),rfl,rfl⟩
def rSlS:V->Option Int->Option Int->Hp->VK->Prop:=fun x lo hi H Q=>∃z,x=.str z/\z.length<=sizeLine/\Q (.str (cutS z lo hi)) H
theorem zrl:SlR X rSlS:=by
 intro pins s σ H x v S U lo hi J Q I L R pl G h;obtain⟨z,rfl,N,q⟩:=h;obtain⟨t,rfl⟩:=L;obtain⟨l,rfl,rfl⟩:=ze9 pl;obtain⟨u,rfl,rfl⟩:=ze9 G;have C:s.heap.IsSlice J l u none:=R;refine⟨"str",_,F.slot_str_getitem.lookup,pM _ _ _,wpAny_getItem_str_slice (l:=l) (u:=u) (st:=none) C rfl (post_val_or_str ?_)⟩;have e:(if (((none:Option (Int×Tok)).map (·.1)).getD 1 == 1&&(slicePicked z l u none).length == z.length)=true then z else⟨((slicePicked z l u none).filterMap (z.cps[·]?)).toArray⟩)=oB z (l.map (·.1)) (u.map (·.1)):=rfl
 rw[e];refine⟨cf (Txt.slice_le z _ _) N,fun t' k=>⟨.str (oB z (l.map (·.1)) (u.map (·.1))),H,I.tok _,⟨_,rfl⟩,?_⟩⟩
 rw[zkm];exact q
def oSlA(t:af)(lo hi:Option Int)(R:af->Prop):Prop:=match t with
 | .tuple ts=>R (.tuple (cutD ts lo hi))
 | .str x=>x.length<=16777216/\R (.str (cutS x lo hi))
 | _=>False
def dSlA(d:DTE)(dl v:DTO):DTE:=fun l n R=>d l n fun t y=>dl l y fun lo u=>v l u fun hi x=>oSlA t lo hi fun z=>R z x
variable{e a b iter tg:aP}{d da db:DTE}{lo hi:Option aP}{dlo dhi:DTO}{pos p2:Pos}
theorem ZD(h:DL X e d)(hl:DP X lo dlo)(hu:DP X hi dhi):DE X (.Subscript e (.Slice lo hi none p2) pos) (dSlA d dlo dhi):=by
 obtain⟨ta,pa,h⟩:=h;obtain⟨tl,pl,hl⟩:=hl;obtain⟨tu,pu,hu⟩:=hu;refine⟨_,ziV (SlR.or (SlR.or zrk zo2) zrl) pa pl pu,fun C Y σ H n Q R S hd U=>?_⟩
 refine h C Y σ H n _ _ S hd fun t n1 v H1 r1 L h1 q1=>?_
 have S1:=S.on L h1;refine hl C Y σ H1 n1 _ _ S1 r1 fun lo n2 H2 r2 I h2=>?_
 have S2:=S1.on I h2;refine hu C Y σ H2 n2 _ _ S2 r2 fun hi Z H3 y G J=>?_
 have S3:=S2.on G J;have q3:=(I.trans G).repT S.hx q1;cases t with
 | tuple ts =>
  obtain⟨a,x,rfl,hs,rs⟩:=q3.tupI
  by_cases w:HT.sIx x.length 0 lo=0/\HT.sIx x.length x.length hi=x.length
  ·refine .inl (.inr ⟨a,x,rfl,hs,w,U _ Z _ H3 y (L.trans (I.trans G)) J ?_⟩);rw[zj1 (by rw[<- rs.length];exact w)]
   exact q3.rep (by intro _ z;cases z)
  ·refine .inl (.inl ⟨a,x,rfl,hs,w,fun p N=>U _ Z _ _ y (L.trans (I.trans (G.trans (ExtE.new N)))) (J.same (JO N)) ?_⟩)
   exact .newT (S3.free N) N (zjo rs lo hi)
 | str z =>
  rw[q3.strI];exact .inr ⟨z,rfl,y.1,U _ Z _ H3 y.2 (L.trans (I.trans G)) J (.str _)⟩
 | _=>exact y.elim
def repS(x:Str)(n:Int):Str:=⟨(bR n.toNat x.cps.toList).flatten.toArray⟩
theorem zhq(x:Array Nat):∀(n:Nat) (u:Array Nat),(bR n x).foldl (·++·) u=(u.toList++(bR n x.toList).flatten).toArray
 | 0,u=>by simp
 | n+1,u=>by
  rw[cg,List.foldl_cons,zhq x n,cg,nV];simp
theorem zpu:OpR X (binaryOp .Mult) (fun x y H Q=>∃i j,x=.str i/\y=.int j/\-100000<=j/\j<=100000/\i.length<=100/\Q (.str (repS i j)) H):=by
 intro pins s σ H x y v u Q I S J h;obtain⟨i,j,rfl,rfl,j0,Z,hi,q⟩:=h;obtain⟨t,rfl⟩:=S;obtain⟨t',rfl⟩:=J;have G:decide (j < -(2 ^ 63:Int))=false:=decide_eq_false (by lia)
 have N:decide (j>=2 ^ 63)=false:=decide_eq_false (by lia)
 have C:∀n:Nat,n<=100000->i.length*n<=10000000:=fun n U=>Nat.mul_le_mul hi U
 refine P.mul_str (by rw[G,N];rfl) (fun L _ h2=>?_) (fun L _=>?_) ?_
 ·have Y:(100:Int)<=(2 ^ 63 - 1) / j:=by
   apply Int.le_ediv_of_mul_le (by lia)
   lia
  lia
 ·have:=C j.toNat (by lia)
  unfold tooLong;exact decide_eq_false (by have:sizeLine=16777216:=rfl;lia)
 ·by_cases c1:j<1
  ·rw[if_pos c1];have e:repS i j=iW:=by
    unfold repS;rw[show j.toNat=0 by lia];rfl
   rw[e]at q;exact⟨by decide,.str iW,H,I.tok _,⟨_,rfl⟩,q⟩
  ·rw[if_neg c1]
   by_cases c2:(j == 1||i.length == 0)=true
   ·rw[if_pos c2];have e:repS i j=i:=by
     unfold repS;rw[o5,beq_iff_eq,beq_iff_eq]at c2;rcases c2 with c2|c2
     ·subst c2;simp
     ·have z:i.cps.toList=[]:=dX.mp (by simpa[lH] using c2)
      have R:i.cps=#[]:=by
       have:=congrArg List.toArray z;simpa using this
      rw[z];have:(bR j.toNat ([]:List Nat)).flatten=[]:=by simp
      rw[this,<- R]
    rw[e]at q;exact⟨.str i,H,I,⟨_,rfl⟩,q⟩
   ·rw[if_neg c2];have e:repS i j=⟨(bR j.toNat i.cps).foldl (·++·) #[]⟩:=by
     unfold repS;rw[zhq];simp
    rw[e]at q;refine⟨?_,.str _,H,I.tok _,⟨_,rfl⟩,q⟩;have:=C j.toNat (by lia)
    show(⟨(bR j.toNat i.cps).foldl (·++·) #[]⟩:Str).length<=sizeLine
    rw[<- e];unfold repS lH;rw[ax,List.length_flatten,List.map_replicate,List.sum_replicate_nat,dB];have e3:sizeLine=16777216:=rfl;have e4:j.toNat*i.cps.size=i.length*j.toNat:=by rw[lM];rfl
    lia
def ZP:G2
 | .int i,.int j,R=>CMul i j/\R (.int (i*j))
 | .str i,.int j,R=>-100000<=j/\j<=100000/\i.length<=100/\R (.str (repS i j))
 | _,_,_=>False
theorem zpv:OpR X (binaryOp .Mult) (fun x y H Q=>(rI CMul fun i j=>.int (i*j)) x y H Q\/∃i j,x=.str i/\y=.int j/\-100000<=j/\j<=100000/\i.length<=100/\Q (.str (repS i j)) H):=OpR.or QV zpu
theorem zqh:Gp2 X (fun x y H Q=>(rI CMul fun i j=>.int (i*j)) x y H Q\/∃i j,x=.str i/\y=.int j/\-100000<=j/\j<=100000/\i.length<=100/\Q (.str (repS i j)) H) ZP:=by
 intro hd O H x y t u Q R dom v C g G;unfold ZP at g;split at g
 ·rw[v.intI,C.intI];exact .inl ⟨_,_,rfl,rfl,g.1,G _ _ H g.2 (Same.refl _) (.int _)⟩
 ·rw[v.strI,C.intI];exact .inr ⟨_,_,rfl,rfl,g.1,g.2.1,g.2.2.1,G _ _ H g.2.2.2 (Same.refl _) (.str _)⟩
 ·exact g.elim
theorem zqz(x:DL X a da)(v:DL X b db):DE X (.BinOp a .Mult b pos) (dOp ZP da db):=QO zpv zqh x v
end
def Its(z:Str):It:=⟨fun i _=>i<z.cps.size,fun i H x l=>l=H/\∃c,z.cps[i]?=some c/\x=.str ⟨#[c]⟩,fun i _=>z.cps.size<=i⟩
theorem zm1{P:aK}{w:aQ}{K:qF}{tg:aP}(z:Str)(t:Tok)(it:aq)(T:String)(L:T = "str_ascii_iterator" \/ T = "str_iterator"):Turn P w K tg (Its z) [it] it (fun i h=>h.IsStrIter it T z t i) where
 mem:=by simp
 obj:=fun i h st b C=>by
  have e:b=it:=by simpa using C
  subst e;obtain⟨o,e,c,d⟩:=st;exact⟨o,e,fun v z=>by rw[d]at z;cases z⟩
 keep:=fun i h h' st k=>by
  obtain⟨o,e,r⟩:=st;exact⟨o,k it (by simp) o e,r⟩
 item:=by
  intro X Y hw U hc i pins s σ H E I hf st G;subst Y hw U;obtain⟨f0,f1,f2,S,f4,R⟩:=hf it (by simp)
  have G:i<z.cps.size:=G;have J:z.cps[i]?=some z.cps[i]:=by simp[G]
  have fin:∀h',h'.IsStrIter it T z t (i+1)->eu it s.heap h'->∃u,some (iV ⟨#[z.cps[i]]⟩ s.toks)=some u /\
    wpAny (model X.prog X.w) X.A (letOwnedTupleGo tg (.ref it) u) (fun _ s2=>∃x Z,Inv X pins σ Z s2/\RelV x u/\(Its z).yld i H x Z/\s2.heap.IsStrIter it T z t (i+1)/\∀b∈[it],Z b=none) E { s with heap:=h',toks:=s.toks+1 }:=by
   intro h' N sb;have I1:Inv X pins σ H { s with heap:=h',toks:=s.toks+1 }:=I.turned (t':=s.toks+1) (fun b o C e=>(sb.2 b C).trans e) f0 f1 S f4 R
   obtain⟨o,e,c,d⟩:=id N;have ne:(T = "enumerate")=False:=by rcases L with rfl|rfl <;> decide
   refine⟨_,rfl,ZX (s:={ s with heap:=h',toks:=s.toks+1 }) (n:=T) e c d (by rcases L with rfl|rfl <;> decide) ⟨.str ⟨#[z.cps[i]]⟩,H,I1,⟨_,rfl⟩,⟨rfl,_,J,rfl⟩,N,fun b C=>(hf b C).1⟩⟩
  rcases L with rfl|rfl
  ·exact wpAny_pyNext_ascii_item st J fin
  ·exact wpAny_pyNext_wide_item st J fin
 done:=by
  intro X Y hw U hc i pins s σ H E I hf st G;subst Y hw U;obtain⟨f0,f1,f2,S,f4,R⟩:=hf it (by simp)
  have G:z.cps.size<=i:=G;have J:z.cps[i]?=none:=by simp[G]
  rcases L with rfl|rfl
  ·exact wpAny_pyNext_ascii_end (I.ok.hd hc) st J fun h' eb=>⟨rfl,I.turned (t':=s.toks) (fun b o C e=>eb b o C e) f0 f1 S f4 R⟩
  ·exact wpAny_pyNext_wide_end (I.ok.hd hc) st J fun h' eb=>⟨rfl,I.turned (t':=s.toks) (fun b o C e=>eb b o C e) f0 f1 S f4 R⟩
 self:=fun _ _ _ _ _ st h=>by
  rcases L with rfl|rfl
  ·exact wpAny_pyIter_striter_ascii st h
  ·exact wpAny_pyIter_striter_wide st h
section
variable{X:Cx}{tg iter:aP}{d:DTE}
def iStr(u:TE):TI:=fun σ H R=>u σ H fun x l=>∃z,x=.str z/\R (Its z) l
theorem zrW{l:aP}{C:TE}(U:PE X l C):PI X tg l (iStr C):=by
 intro pins s σ H R I h;refine thn (U pins s σ H _ I h) fun v s1 ⟨x,G,u,L,S⟩=>?_
 obtain⟨z,rfl,q⟩:=S;obtain⟨t,rfl⟩:=L;have key:∀T,(T = "str_ascii_iterator" \/ T = "str_iterator")->PIE X pins σ tg R (.ref s1.heap.objs.size) { s1 with heap:=s1.heap.push { cls:=.type T,data:=.fields #[.str z t,.int 0 0] } }:=by
  intro T N;refine⟨s1.heap.objs.size,[s1.heap.objs.size],_,_,G,rfl,u.kept (t':=s1.toks) fun b o e=>ak _ e,zm1 z t _ T N,⟨_,az _ rfl,rfl,rfl⟩,fun b J=>?_,q⟩
  have e:b=s1.heap.objs.size:=by simpa using J
  subst e;exact u.fpOk (aA _) (u.hok.fresh (aA _))
 cases ha:z.cps.all (·<128)
 ·exact wpAny_pyIter_wide ha (key _ (.inr rfl))
 ·exact wpAny_pyIter_ascii ha (key _ (.inl rfl))
def sgnD(z:Str):List af:=z.cps.toList.map fun c=>.str ⟨#[c]⟩
theorem ztd{K:qF}{hd:Option aq}{P O:aq->Prop}{H:Hp}{z:Str}:ItOk K hd P O H (Its z) (sgnD z):=by
 intro N L _ _ _;have sz:z.cps.toList.length=z.cps.size:=by simp
 refine⟨fun i t u=>?_,by show z.cps.size<=(sgnD z).length;unfold sgnD;rw[aL];lia⟩
 unfold sgnD at u;rw[aV]at u;cases ec:z.cps.toList[i]? with
 | none=>rw[ec]at u;cases u
 | some c =>
  rw[ec]at u;cases u;obtain⟨hi,I⟩:=av.mp ec;have v:i<z.cps.size:=by lia
  have y:z.cps[i]?=some c:=by rw[<- lV];exact ec
  refine⟨v,fun x R G=>?_⟩
  obtain⟨rfl,J,C,rfl⟩:=G;rw[y]at C;cases C;exact⟨Same.refl _,.str _⟩
def lStr:af->(Str->Prop)->Prop
 | .str z,R=>R z
 | _,_=>False
def dItS(d:DTE):DTA:=fun l n R=>d l n fun t u=>lStr t fun z=>R (sgnD z) u
theorem ztW(h:DE X iter d):DI X tg iter (dItS d):=by
 obtain⟨J,pa,h⟩:=h;refine⟨_,zrW pa,fun C u σ H n Q R S hd l=>?_⟩
 refine h C u σ H n _ _ S hd fun t y v G r x I q=>?_
 cases t with
 | str z =>
  rw[q.strI];exact⟨z,rfl,l _ y _ G r x I ztd⟩
 | _=>exact r.elim
end
section
variable{X:Cx}{a b:aP}{rest:List aP}{ta tb:TE}{da db:DTE}{pos:Pos}
def tOrA(K:qF)(ta tb:TE):TE:=fun σ H Q=>ta σ H fun x l=>∃k,TruV K x l k/\if k=true then Q x l else tb σ l Q
theorem zr1(S:PE X a ta)(L:PE X (.BoolOp .Or (b::rest) pos) tb):PE X (.BoolOp .Or (a::b::rest) pos) (tOrA X.K ta tb):=by
 intro pins s σ H Q I h;refine BoolOp_or (thn (S pins s σ H _ I h) fun v s1 ⟨x,y,N,C,u⟩=>?_)
 obtain⟨k,e,u⟩:=u;refine thn (zoq pins s1 σ y x v (fun c U=>c=k/\U=y) N C ⟨k,e,rfl,rfl⟩) fun c s2 R=>?_
 obtain⟨G,J,rfl,rfl⟩:=R;cases c with
 | false=>exact L pins s2 σ G Q J u
 | true=>exact⟨x,G,J,C,u⟩
def dOrA(da db:DTE):DTE:=fun l n R=>da l n fun t u=>truD t fun b=>if b=true then R t u else db l u R
theorem zt0(h:DE X a da)(h':DE X (.BoolOp .Or (b::rest) pos) db):DE X (.BoolOp .Or (a::b::rest) pos) (dOrA da db):=by
 obtain⟨ta,pa,h⟩:=h;obtain⟨tb,Z,h'⟩:=h';refine⟨_,zr1 pa Z,fun C I σ H n Q R S hd G=>?_⟩
 refine h C I σ H n _ _ S hd fun t N v u r x L J=>?_
 refine zor (Q:=fun k u=>if k=true then Q v u else tb σ u Q) (.inl J) r fun b y=>?_
 cases b with
 | true=>exact iteT (G _ N _ u y x L J)
 | false=>exact iteF (h' C I σ u N Q R (S.on x L) y fun t n2 v U r e2 Y q2=>G t n2 v U r (x.trans e2) Y q2)
end
section
variable{ρ:En}{n:Nat}{d da db:DTE}{dlo dhi:DTO}{R:qN}{Rl:List af->Nat->Prop}{Q:af->Prop}{xs:qD}{lo hi:Option Int}{x:Str}{i j:Int}{Ql:List af->Prop}
instance zwV:Stp (dOrA da db ρ n R) (da ρ n fun t n1=>truD t fun b=>if b=true then R t n1 else db ρ n1 R):=⟨fun h=>h⟩
instance zwT:Stp (dSlA d dlo dhi ρ n R) (d ρ n fun t n1=>dlo ρ n1 fun lo n2=>dhi ρ n2 fun hi n3=>oSlA t lo hi fun z=>R z n3):=⟨fun h=>h⟩
instance zwx:Stp (oSlA (.tuple xs) lo hi Q) (Q (.tuple (cutD xs lo hi))):=⟨fun h=>h⟩
instance zwy:Stp (oSlA (.str x) lo hi Q) (x.length<=16777216/\Q (.str (cutS x lo hi))):=⟨fun h=>h⟩
instance zwF:Stp (ZP (.str x) (.int j) Q) (-100000<=j/\j<=100000/\x.length<=100/\Q (.str (repS x j))):=⟨fun h=>h⟩
instance zwW:Stp (dItS d ρ n Rl) (d ρ n fun t n'=>lStr t fun z=>Rl (sgnD z) n'):=⟨fun h=>h⟩
instance zwG {Rs:Str->Prop}:Stp (lStr (.str x) Rs) (Rs x):=⟨fun h=>h⟩
end
mutual
def plnD:af->Bool
 | .dict []=>true
 | .dict _=>false
 | .tuple ts=>decide (ts.length<=1000000)&&U6 ts
 | .list ts=>decide (ts.length<=1000000)&&U6 ts
 | .str x=>decide (x.length<=1000000)
 | _=>true
def U6:List af->Bool
 | []=>true
 | t::ts=>plnD t&&U6 ts
end
def PlnD(d:af):Prop:=plnD d=true
theorem zd9:∀{ts:qD},U6 ts=true↔∀t∈ts,PlnD t
 | []=>by simp[U6]
 | t::ts=>by
  rw[U6,aG,zd9 (ts:=ts)];constructor
  ·rintro⟨a,b⟩ u l;rcases aw.mp l with rfl|l
   ·exact a
   ·exact b u l
  ·intro h;exact⟨h t (by simp),fun u l=>h u (by simp[l])⟩
theorem PlnD.tup{ts:qD}(h:PlnD (.tuple ts)):ts.length<=1000000/\∀t∈ts,PlnD t:=by
 unfold PlnD plnD at h;rw[aG,decide_eq_true_iff,zd9]at h;exact h
theorem PlnD.str{x:Str}(h:PlnD (.str x)):x.length<=1000000:=by
 unfold PlnD plnD at h;exact decide_eq_true_iff.mp h
theorem znm{ts:qD}(l:ts.length<=1000000)(h:∀t∈ts,PlnD t):PlnD (.tuple ts):=by
 unfold PlnD plnD;rw[aG,decide_eq_true_iff,zd9];exact⟨l,h⟩
theorem ziT{x:Str}(h:x.length<=1000000):PlnD (.str x):=by unfold PlnD plnD;exact decide_eq_true h
theorem ziU{i:Int}:PlnD (.int i):=by unfold PlnD plnD;rfl
theorem znn:∀t∈([]:qD),PlnD t:=fun t h=>nomatch h
theorem VT{x:af}{xs:qD}(h:PlnD x)(h':∀t∈xs,PlnD t):∀t∈x::xs,PlnD t:=fun t l=>by
 rcases aw.mp l with rfl|l
 ·exact h
 ·exact h' t l
theorem PlnD.pln{d:af}(h:PlnD d):Pln d:=by
 cases d with
 | dict l =>
  cases l with
  | nil=>exact Ux
  | cons a b=>cases a with|mk x y=>simp[PlnD,plnD]at h
 | none=>exact Uz
 | bool=>exact Q7
 | int=>exact Ud
 | str=>exact UD
 | list=>exact Uy
 | tuple=>exact UA
def IsNm(s:Str):Prop:=1<=s.length/\s.length<=8/\∀c∈s.cps.toList,97<=c/\c<=122
def nmS(s:Str):Bool:=decide (1<=s.length)&&decide (s.length<=8)&&s.cps.toList.all fun c=>decide (97<=c)&&decide (c<=122)
theorem zpN{s:Str}:nmS s=true↔IsNm s:=by
 unfold nmS IsNm;simp only[aG,decide_eq_true_iff,bg,and_assoc]
def nmD:af->Bool
 | .str s=>nmS s
 | _=>false
theorem Qj(s:Str):s.cps.toList.length=s.length:=by simp[lH]
theorem zkV{a b:Nat}:(([a]:List Nat)<[b])↔a<b:=by
 constructor
 ·intro h;cases h with
  | rel h=>exact h
  | cons h=>cases h
 ·intro h;exact .rel h
theorem zpV{a c:Nat}:(!decide (([c]:List Nat)<[a]))=decide (a<=c):=by
 rw[<- decide_not];exact decide_eq_decide.mpr (by rw[zkV];lia)
theorem ziz(a b:Str):(a++b).cps.toList=a.cps.toList++b.cps.toList:=by
 show(a.cps++b.cps).toList=_
 simp
theorem Str.ext'{a b:Str}(h:a.cps.toList=b.cps.toList):a=b:=by
 cases a with|mk a =>
 cases b with|mk b =>
 have:a=b:=ot.mp h;rw[this]
theorem zs3{x:Str}{i:Int}{k c:Nat}{R:af->Prop}(l:x.length<=16777216)(hi:i=(k:Int))(e:x.cps.toList[k]?=some c)(h:R (.str ⟨#[c]⟩)):oIx (.str x) (.int i) R:=by
 subst hi;have a:atI x.cps.toList (k:Int)=some c:=Bd.zeK (by lia) (by simpa using e)
 show x.length<=16777216/\(match atI x.cps.toList (k:Int) with|some c=>R (.str ⟨#[c]⟩)|none=>False)
 rw[a];exact⟨l,h⟩
theorem letters{k:Nat}(h:k<26):(ae "abcdefghijklmnopqrstuvwxyz").cps.toList[k]?=some (97+k):=by
 have:∀i:Fin 26,(ae "abcdefghijklmnopqrstuvwxyz").cps.toList[i.val]?=some (97+i.val):=by decide +kernel
 exact this ⟨k,h⟩
theorem zeC{x:Str}{i:Int}{k:Nat}(h:i=(k:Int)):(cutS x none (some i)).cps.toList=x.cps.toList.take k:=by
 subst h;unfold cutS;rw[HT.zdC,HT.zhU];simp only[mw,nS];rw[<- Qj x];simp[lW]
theorem zhu{x:Str}{i:Int}{k:Nat}(h:i=(k:Int))(l:k<=x.length):(cutS x (some i) none).cps.toList=x.cps.toList.drop k:=by
 subst h;unfold cutS;rw[HT.zdC,HT.zhU,o6 l];show(List.take _ (List.drop k x.cps.toList))=_
 rw[hV (by rw[eE,Qj];lia)]
def OkK(k:Nat)(t:af):Prop:=t.canLay0=true/\t.depth<=k
theorem OkK.okd{k:Nat}{t:af}(h:OkK k t)(l:k<=60:=by decide):Okd t:=⟨h.1,cf h.2 l⟩
theorem zpE{i:Int}:OkK 0 (.int i):=⟨by simp[bu],by simp[cO]⟩
theorem znw:OkK 0 .none:=⟨by simp[bu],by simp[cO]⟩
theorem zpC{s:Str}(h:bu (.str s)=true):OkK 0 (.str s):=⟨h,by simp[cO]⟩
theorem OkK.mono{k u:Nat}{t:af}(h:OkK k t)(l:k<=u):OkK u t:=⟨h.1,cf h.2 l⟩
theorem zh4{k:Nat}:∀{ts:qD},(∀t∈ts,OkK k t)->bc ts=true/\bU ts<=k
 | [],_=>⟨by simp[bc],by simp[bU]⟩
 | t::ts,h=>by
  obtain⟨a,b⟩:=zh4 (ts:=ts) fun u l=>h u (by simp[l])
  have c:=h t (by simp)
  refine⟨by simp[bc,c.1,a],?_⟩
  have:=c.2;simp only[bU];lia
theorem zk2{k:Nat}{ts:qD}(h:∀t∈ts,OkK k t):OkK (k+1) (.tuple ts):=by
 obtain⟨a,b⟩:=zh4 h;exact⟨by simpa only[bu] using a,by simp only[cO];lia⟩
theorem zpD{k:Nat}{ts:qD}(h:∀t∈ts,OkK k t):OkK (k+1) (.list ts):=by
 obtain⟨a,b⟩:=zh4 h;exact⟨by simpa only[bu] using a,by simp only[cO];lia⟩
theorem zsp{b:Int×Int}:OkK 1 (prD b):=zk2 fun t l=>by
 simp only[aw,aH,or_false]at l;rcases l with rfl|rfl <;> exact zpE
theorem YW{s:Str}(h:IsNm s):OkK 0 (.str s):=zpC (by
 simp only[bu];show(s.cps.all (·<0x110000))=true
 rw[<- Array.all_toList,bg];intro c hc;have:=h.2.2 c hc;exact decide_eq_true (by lia))
theorem zn4{xs:qD}:dH (.list xs) (.list [])=xs.isEmpty:=by
 cases xs with
 | nil=>rfl
 | cons a b=>rfl
theorem UE{α:Type}{cs:List α}{D:α->af}{J:DTG}{tt:DTT}{d:DTE}{C:En}{n:Nat}{I:List af->Nat->Prop}(p:α->Bool)(F:α->af)(R:cs.length<=16777216)
  (step:∀b∈cs,∀(K:qN) (X:Nat->Prop),(p b=true->K (F b) n)->(p b=false->X n)->J (D b) C fun y=>tt y n fun c L=>if c=true then d y L K else X L) (fin:I ((cs.filter p).map F) n):JP J tt d C (cs.map D) [] n I:=by
 refine zmh (fun j u m=>m=n/\u=((cs.take j).filter p).map F) ⟨rfl,rfl⟩ ?_ ?_
 ·rintro j x u m K v ⟨rfl,rfl⟩ hK;rw[aV]at v;cases eb:cs[j]? with
  | none=>rw[eb]at v;cases v
  | some b =>
   rw[eb]at v;cases v;obtain⟨N,S⟩:=av.mp eb;have tk:cs.take (j+1)=cs.take j++[b]:=by rw[fk,eb];rfl
   refine step b (aR eb) _ _ (fun G=>⟨?_,hK _ _ ⟨rfl,?_⟩⟩) (fun G=>hK _ _ ⟨rfl,?_⟩)
   ·have:=cU p (cs.take j);simp at this ⊢;lia
   ·rw[tk,nc,eh];simp[G]
   ·rw[tk,nc,eh];simp[G]
 ·rintro u m ⟨rfl,rfl⟩;rw[aL,c9];exact fin
theorem znf{x:Str}{n:Int}:(repS x n).cps.toList=(bR n.toNat x.cps.toList).flatten:=rfl
theorem zoF{xs:qD}{r:Int}{R:af->Prop}(v:0<=r)(y:r<xs.length)(h:∀x∈xs,R x):oIx (.list xs) (.int r) R:=by
 have u:r.toNat<xs.length:=by omega
 rw[YI (Bd.zeK v (aJ u))];exact h _ (dI u)
theorem zoe{ts:qD}:cutD ts none (some (-1))=ts.take (ts.length - 1):=by
 unfold cutD;have e:HT.sIx ts.length ts.length (some (-1))=ts.length - 1:=by
  have:HT.sIx ts.length ts.length (some (-1))=if (-1:Int)<0 then((-1:Int)+(ts.length:Int)).toNat else min (-1:Int).toNat ts.length:=by
   first|rfl|(unfold HT.sIx;rfl)|(simp[HT.sIx];done)
  rw[this,if_pos (by decide)];omega
 rw[HT.zdC,e];simp
section
variable{prog:aK}{w:aQ}{A:br}{R:mZ->au->Prop}{s:au}{elt tg1 it1 tg2 it2:aP}{Hz Hr:List aP}{scope:fv}{pos:Pos}{it acc:ah}{env:Env}
theorem zhx(it acc:ah)(env:Env):compTurn (.ListComp elt [⟨tg1,it1,Hz,0⟩,⟨tg2,it2,Hr,0⟩] scope pos) 0 it acc env=(do
      standAt it1.pos
      match <- pyNext it with
      | none=>pure (.done .next)
      | some v =>
       letOwnedTupleGo tg1 it v
       assign tg1 env v
       let mut ok:=true
       for c in Hz do
        if ok then ok <- isTrue c env (eval c env)
       if ok then
        let x <- eval it2 env
        standAt it2.pos
        let x <- foldedSetIterable it2 env x
        let _ <- runOwn (.compStart (.ListComp elt [⟨tg1,it1,Hz,0⟩,⟨tg2,it2,Hr,0⟩] scope pos) 1 (<- holding [x] (pyIter x)) acc env) env
       again (.compLoop (.ListComp elt [⟨tg1,it1,Hz,0⟩,⟨tg2,it2,Hr,0⟩] scope pos) 0 it acc env)):=by rfl
theorem zin(it acc:ah)(env:Env):compTurn (.ListComp elt [⟨tg1,it1,Hz,0⟩,⟨tg2,it2,Hr,0⟩] scope pos) 1 it acc env=(do
      standAt it2.pos
      match <- pyNext it with
      | none=>pure (.done .next)
      | some v =>
       letOwnedTupleGo tg2 it v
       assign tg2 env v
       let mut ok:=true
       for c in Hr do
        if ok then ok <- isTrue c env (eval c env)
       if ok then
        (do let _ <- call (.builtin "list.append") [acc,<- eval elt env])
       again (.compLoop (.ListComp elt [⟨tg1,it1,Hz,0⟩,⟨tg2,it2,Hr,0⟩] scope pos) 1 it acc env)):=by rfl
theorem zmZ(I:Nat->au->Prop)
  (turn:∀n s,I n s->wpAny (model prog w) A (pyNext it) (fun r y=>match r with
   | none=>R (.ok .next) y
   | some v=>wpAny (model prog w) A (letOwnedTupleGo tg2 it v) (fun _ Y=>wpAny (model prog w) A (assign tg2 env v) (fun _ U =>
     wpAny (model prog w) A (forIn Hr true fun c r=>if r=true then do let ok <- isTrue c env (eval c env);pure (cm ok) else pure (cm r)) (fun ok G =>
      if ok=true then wpAny (model prog w) A (eval elt env) (fun x Z=>wpAny (model prog w) A (call (.builtin "list.append") [acc,x]) (fun _ J=>∃m,m<n/\I m J) NoX Z) NoX G
      else ∃m,m<n/\I m G) NoX U) NoX Y) NoX y) NoX s) (n:Nat) (h:I n s) :
  codeAny (model prog w) A (.compLoop (.ListComp elt [⟨tg1,it1,Hz,0⟩,⟨tg2,it2,Hr,0⟩] scope pos) 1 it acc env) R s:=by
 refine nI rfl I (fun n s hI=>?_) n h
 show wpAny _ A ((compTurn (.ListComp elt [⟨tg1,it1,Hz,0⟩,⟨tg2,it2,Hr,0⟩] scope pos) 1 it acc env).onRaise (fun x=>do noteFrame x env;theTreesLotGoes x)) _ _ s
 refine oI (cQ (E:=NoX) ?_ (fun _ _ q=>q) fun _ _ z=>cu z)
 rw[zin];refine aa (dM (aa (thn (turn n s hI) fun r y S=>?_)))
 cases r with
 | none=>exact aj S
 | some v =>
  refine aa (thn S fun _ Y h₂=>aa (thn h₂ fun _ U h₃=>aa (thn h₃ fun ok G N=>?_)))
  cases ok with
  | false=>exact aj ⟨rfl,N⟩
  | true =>
   refine aa (aa (thn N fun x Z h₅=>aa (thn h₅ fun _ J h₆=>?_)))
   exact aj (aj ⟨rfl,h₆⟩)
theorem zke(hs:∀x,foldedSetIterable it2 env x=pure x)(I:Nat->au->Prop)
  (turn:∀n s,I n s->wpAny (model prog w) A (pyNext it) (fun r l=>match r with
   | none=>R (.ok .next) l
   | some v=>wpAny (model prog w) A (letOwnedTupleGo tg1 it v) (fun _ Y=>wpAny (model prog w) A (assign tg1 env v) (fun _ U =>
     wpAny (model prog w) A (forIn Hz true fun c r=>if r=true then do let ok <- isTrue c env (eval c env);pure (cm ok) else pure (cm r)) (fun ok u =>
      if ok=true then wpAny (model prog w) A (eval it2 env) (fun x Z=>wpAny (model prog w) A (pyIter x) (fun itv y =>
       codeAny (model prog w) A (.compStart (.ListComp elt [⟨tg1,it1,Hz,0⟩,⟨tg2,it2,Hr,0⟩] scope pos) 1 itv acc env) (fun r N=>r=.ok .next/\∃m,m<n/\I m N) y) NoX Z) NoX u
      else ∃m,m<n/\I m u) NoX U) NoX Y) NoX l) NoX s) (n:Nat) (h:I n s) :
  codeAny (model prog w) A (.compLoop (.ListComp elt [⟨tg1,it1,Hz,0⟩,⟨tg2,it2,Hr,0⟩] scope pos) 0 it acc env) R s:=by
 refine nI rfl I (fun n s hI=>?_) n h
 show wpAny _ A ((compTurn (.ListComp elt [⟨tg1,it1,Hz,0⟩,⟨tg2,it2,Hr,0⟩] scope pos) 0 it acc env).onRaise (fun x=>do noteFrame x env;theTreesLotGoes x)) _ _ s
 refine oI (cQ (E:=NoX) ?_ (fun _ _ q=>q) fun _ _ z=>cu z)
 rw[zhx];refine aa (dM (aa (thn (turn n s hI) fun r l J=>?_)))
 cases r with
 | none=>exact aj J
 | some v =>
  refine aa (thn J fun _ Y h₂=>aa (thn h₂ fun _ U h₃=>aa (thn h₃ fun ok u G=>?_)))
  cases ok with
  | false=>exact aj ⟨rfl,G⟩
  | true =>
   refine aa (thn G fun x Z h₅=>aa (dM (aa (oK (hs x) (aa (bO (thn h₅ fun itv y h₆=>?_)))))))
   refine aa (wpAny_runOwn (gU h₆ fun r N h₇=>?_))
   obtain⟨rfl,m,hm,hI'⟩:=h₇;exact aj ⟨rfl,m,hm,hI'⟩
theorem zm3
  (h0:codeAny (model prog w) A (.compLoop (.ListComp elt [⟨tg1,it1,Hz,0⟩,⟨tg2,it2,Hr,0⟩] scope pos) 1 it acc env) R s)
  (h:wpAny (model prog w) A (pyIter it) (fun l s'=>codeAny (model prog w) A (.compLoop (.ListComp elt [⟨tg1,it1,Hz,0⟩,⟨tg2,it2,Hr,0⟩] scope pos) 1 l acc env) R s')
   (notedBy (model prog w) A env fun x s'=>R (.error x) s') s) :
  codeAny (model prog w) A (.compStart (.ListComp elt [⟨tg1,it1,Hz,0⟩,⟨tg2,it2,Hr,0⟩] scope pos) 1 it acc env) R s:=by
 refine codeAny_of_tree ?_;show wpAny _ _ ((compStart (.ListComp elt [⟨tg1,it1,Hz,0⟩,⟨tg2,it2,Hr,0⟩] scope pos) 1 it acc env).onRaise (fun x=>do noteFrame x env;standAt theWindowsPlace)) _ _ s
 refine wpAny_notedAt ?_;unfold compStart;show wpAny _ _ (PySem.ask >>= _) _ _ s
 refine aa (wpAny_askSetting (wpAny_ite ?_));split
 ·first
   | exact aa (aj (aj (mF rfl h0)))
   | exact aj (mF rfl h0)
 ·first
   | exact aa (eX (aa (dM (aa (cQ h (fun l s' h'=>aj (mF rfl h')) fun _ _ x=>x)))))
   | (refine aa (eX ?_);show wpAny _ _ (standAt it2.pos >>= _) _ _ s;exact aa (dM (aa (cQ h (fun l s' h'=>aj (mF rfl h')) fun _ _ x=>x))))
end
def Y1(g:TG)(tt:TT)(U:TE)(σ:St)(J:It)(S:Hp)(D:aq)(Q:Hp->Prop):Prop:=∃W:Nat->Nat->Hp->Prop,(∃m,W 0 m S)/\∀i m y,W i m y ->
 (J.stop i y/\Q y)\/(J.go i y/\∃(N:V->Hp->Prop) (L:Hp->Prop),(∀v I,N v I->∃ys,I D=some (.lst ys)/\ys.length<sizeLine/\∃C,C<m/\W (i+1) C (upd I D (.lst (ys++[v]))))/\(∀G,L G->∃C,C<m/\W (i+1) C G) /\
  ∀x R,J.yld i y x R->g x σ R fun u Y=>Wk σ u/\tt u Y fun b G=>if b=true then U u G N else L G)
section
variable{Y:Cx}{elt tg1 it1 tg2 it2:aP}{Hz Hr:List aP}{scope:fv}{pos:Pos}{g:TG}{tt:TT}{te:TE}
theorem zlG(u:Y.xe=NoX)(hc:Y.calm=true)(hg:PG Y tg2 g)(ht:PTs Y Hr tt)(he:PE Y elt te){pins:qO}{σ:St}{D:aq}{G:ah}{s:au}{Q:Hp->Prop}{R:mZ->au->Prop}
  (h:PIE Y pins σ tg2 (fun J H1=>Y1 g tt te σ J H1 D Q) G s) (hR:∀s' Z,Inv Y pins σ Z s'->Q Z->R (.ok .next) s') :
  codeAny (model Y.prog Y.w) Y.A (.compStart (.ListComp elt [⟨tg1,it1,Hz,0⟩,⟨tg2,it2,Hr,0⟩] scope pos) 1 G (.ref D) Y.env) R s:=by
 obtain⟨it,fp,tn,J,H2,e,I2,T,I,f2,W,⟨m0,w0⟩,turn⟩:=h;subst e;have loop:codeAny (model Y.prog Y.w) Y.A (.compLoop (.ListComp elt [⟨tg1,it1,Hz,0⟩,⟨tg2,it2,Hr,0⟩] scope pos) 1 (.ref it) (.ref D) Y.env) R s:=by
  refine zmZ (CompI Y pins σ fp tn W) ?_ m0 ⟨0,_,I2,I,fun b U=>(f2 b U).1,w0⟩
  rintro n s4 ⟨i,H4,I4,st4,fr4,w4⟩;refine zfp u hc hg ht T (fun hn b U=>⟨hn b U,(f2 b U).2⟩) I4 st4 fr4 ?_
  rcases turn i n H4 w4 with⟨stop,qn⟩|⟨go,N,N',hN,hN',step⟩
  ·exact .inl ⟨stop,fun s5 I5=>hR _ _ I5 qn⟩
  ·refine .inr ⟨go,fun σ4 H5=>te σ4 H5 N,N',fun {p6 σ7 H8 s8} I8 q8 again=>?_,hN',step⟩
   have a3:=he _ s8 σ7 H8 N I8 q8;rw[u]at a3;refine thn a3 fun y s9 ⟨v,H9,I9,r9,q9⟩=>?_
   obtain⟨ys,hD,hl,m',hm,w9⟩:=hN v H9 q9;have a4:=zec (X:=Y) _ s9 σ7 H9 (.ref D) [v] _ [y] (fun _ Z=>Z=upd H9 D (.lst (ys++[v]))) I9 rfl (.cons r9 .nil) ⟨_,ys,v,rfl,rfl,hD,hl,rfl⟩
   rw[u]at a4;refine thn a4 fun _ s10 ⟨_,H10,I10,_,q10⟩=>?_
   subst q10;exact again I10 hm w9
 exact zm3 loop (T.self Y.A 0 _ _ _ I loop)
end
def zmF(own:List Str)(capt:List Nat)(g:TG)(tt:TT)(L:TI)(g2:TG)(I:TT)(Y:TE)(σ:St)(J:It)(U:Hp)(D:aq)(Q:VK):Prop:=∃W:Nat->Nat->Hp->Prop,(∃m,W 0 m (upd U D (.lst [])))/\∀i m v,W i m v ->
 (J.stop i v/\Q (.ref D) v)\/(J.go i v/\∃(N R:Hp->Prop),(∀G,N G->∃y,y<m/\W (i+1) y G)/\(∀C,R C->∃y,y<m/\W (i+1) y C) /\
  ∀x S,J.yld i v x S->g x (Jy own++capS capt σ) S fun u Z=>Wk (Jy own++capS capt σ) u/\tt u Z fun b C=>if b=true then L u C (fun J2 G=>Y1 g2 I Y u J2 G D N) else R C)
def zrc(own:List Str)(capt:List Nat)(y:TI)(g:TG)(tt:TT)(l:TI)(g2:TG)(u:TT)(x:TE):TE:=fun σ H Q=>y σ H fun J v=>∀D,v D=none->zmF own capt g tt l g2 u x σ J v D Q
section
variable{X:Cx}{scope:fv}{own:List Str}{capt:List Nat}{elt tg iter tg2 it2:aP}{ifs Hr:List aP}{pos:Pos}{wi wi2:TI}{g g2:TG}{tt tt2:TT}{te:TE}
theorem zme(hc:X.calm=true)(S:JK scope own capt X)
  (hg:∀C s₀ H₀ v,PG (Jg X scope own capt C s₀ H₀ v) tg g) (ht:∀C s₀ H₀ v,PTs (Jg X scope own capt C s₀ H₀ v) ifs tt) (hi2:∀C s₀ H₀ v,PI (Jg X scope own capt C s₀ H₀ v) tg2 it2 wi2)
  (hg2:∀C s₀ H₀ v,PG (Jg X scope own capt C s₀ H₀ v) tg2 g2) (ht2:∀C s₀ H₀ v,PTs (Jg X scope own capt C s₀ H₀ v) Hr tt2) (he:∀C s₀ H₀ v,PE (Jg X scope own capt C s₀ H₀ v) elt te)
  (hs2:∀(C:aq) (x:ah),foldedSetIterable it2 (compEnvC scope (closed X.env scope.names []) C X.env) x=pure x)
  {pins:qO} {σ:St} {Q:VK} {R:ah} {s2:au} {E:qV} {RR:ah->aq->mZ->au->Prop}
  (h2:PIE X pins σ tg (fun J H1=>∀D,H1 D=none->zmF own capt g tt wi2 g2 tt2 te σ J H1 D Q) R s2)
  (hR:∀D C s' U,(∃m,s'.heap.Ns C m)->(∀h'',eu C s'.heap h''->Inv X pins σ U { s' with heap:=h'' })->U C=none->FpOk X pins U C->Q (.ref D) U->RR (.ref D) C (.ok .next) s') :
  wpAny (model X.prog X.w) X.A (newList []) (fun G s₃=>wpAny (model X.prog X.w) X.A (newFunctionEnv scope X.env.globals (closed X.env scope.names []) [] X.env.qual none .none (some X.env)) (fun u I =>
   codeAny (model X.prog X.w) X.A (.compStart (.ListComp elt [⟨tg,iter,ifs,0⟩,⟨tg2,it2,Hr,0⟩] scope pos) 0 R G { u with scope:=relabel scope X.env }) (RR G u.locals) I) E s₃) E s2:=by
 refine zhw (CA:=fun G u I=>codeAny (model X.prog X.w) X.A (.compStart (.ListComp elt [⟨tg,iter,ifs,0⟩,⟨tg2,it2,Hr,0⟩] scope pos) 0 R G u) (RR G u.locals) I) S h2 fun it v tn J H2 D C Z e T rd hnD st1 fr0 J0 Ik out=>?_
 subst e;obtain⟨W,⟨m0,w0⟩,turn⟩:=rd _ hnD;have loop:∀tk:Tok,codeAny (model X.prog X.w) X.A (.compLoop (.ListComp elt [⟨tg,iter,ifs,0⟩,⟨tg2,it2,Hr,0⟩] scope pos) 0 (.ref it) (.ref D) (compEnvC scope (closed X.env scope.names []) C X.env)) (RR (.ref D) C) { s2 with heap:=Z,toks:=tk }:=fun tk=>by
  refine zke (hs2 _) (CompI (Jg X scope own capt C s2 H2 v) [] (Jy own++capS capt σ) v tn W) ?_ m0 ⟨0,_,J0 tk,st1,fr0,w0⟩;rintro n s4 ⟨i,H4,I4,st4,fr4,w4⟩;refine zfp (Y:=Jg X scope own capt C s2 H2 v) rfl hc (hg _ _ _ _) (ht _ _ _ _) T Ik I4 st4 fr4 ?_;rcases turn i n H4 w4 with⟨stop,qn⟩|⟨go,N,N',hN,hN',step⟩
  ·exact .inl ⟨stop,fun s5 I5=>let ⟨o1,o2,o3,o4⟩:=out s5 H4 I5;hR _ _ s5 H4 o1 o2 o3 o4 qn⟩
  ·refine .inr ⟨go,fun σ4 H5=>wi2 σ4 H5 (fun J2 H6=>Y1 g2 tt2 te σ4 J2 H6 D N),N',fun {p6 σ7 H8 s8} I8 q8 again=>?_,hN',step⟩
   refine thn (hi2 _ _ _ _ _ s8 σ7 H8 _ I8 q8) fun y s9 h9=>thn h9 fun itv2 s10 h10=>?_
   refine zlG (Y:=Jg X scope own capt C s2 H2 v) rfl hc (hg2 _ _ _ _) (ht2 _ _ _ _) (he _ _ _ _) h10 fun s' U I' q'=>⟨rfl,?_⟩
   obtain⟨m',hm,w9⟩:=hN U q';exact again I' hm w9
 exact lJ (loop _) (T.self X.A 0 _ _ _ st1 (loop _))
theorem zkM(hc:X.calm=true)(S:JK scope own capt X)(hi:PI X tg iter wi)
  (Z:∀C s₀ H₀ l,PG (Jg X scope own capt C s₀ H₀ l) tg g) (ht:∀C s₀ H₀ l,PTs (Jg X scope own capt C s₀ H₀ l) ifs tt) (G:∀C s₀ H₀ l,PI (Jg X scope own capt C s₀ H₀ l) tg2 it2 wi2)
  (N:∀C s₀ H₀ l,PG (Jg X scope own capt C s₀ H₀ l) tg2 g2) (u:∀C s₀ H₀ l,PTs (Jg X scope own capt C s₀ H₀ l) Hr tt2) (he:∀C s₀ H₀ l,PE (Jg X scope own capt C s₀ H₀ l) elt te)
  (hs:∀x,foldedSetIterable iter X.env x=pure x:=by intro _;rfl) (y:∀(C:aq) (x:ah),foldedSetIterable it2 (compEnvC scope (closed X.env scope.names []) C X.env) x=pure x:=by intro _ _;rfl) :
  PE X (.ListComp elt [⟨tg,iter,ifs,0⟩,⟨tg2,it2,Hr,0⟩] scope pos) (zrc own capt wi g tt wi2 g2 tt2 te):=by
 intro pins s σ H Q I h;rw[eval_ListComp];refine gG (use:=none) rfl hs (zbg (S.cells I.ok)) S.kind S.names (thn (hi pins s σ H _ I h) fun v s1 h1=>thn h1 fun itv s2 h2=>?_)
 refine zme (RR:=fun R C=>compPost (model X.prog X.w) X.A X.xe none (EP X pins σ Q) R C) hc S Z ht G N u he y h2 fun D C s' H' U J _ _ q=>?_
 obtain⟨m,U⟩:=U;exact⟨m,U,fun h'' Y=>⟨.ref D,H',J h'' Y,rfl,q⟩⟩
end
theorem zjY{J:It}{n:Nat}{g:TG}{tt:TT}{N:TE}{σ:St}{I:Hp}{D:aq}{Q:Hp->Prop}(C:Nat->List V->Hp->Prop)(h0:∃ys,I D=some (.lst ys)/\C 0 ys I)
  (turn:∀i ys u,i<n->u D=some (.lst ys)->C i ys u->J.go i u/\∀x S,J.yld i u x S->g x σ S fun y U=>Wk σ y/\tt y U fun b G =>
   if b=true then N y G (fun v L=>∃zs,L D=some (.lst zs)/\zs.length<sizeLine/\C (i+1) (zs++[v]) (upd L D (.lst (zs++[v])))) else ∃zs,G D=some (.lst zs)/\C (i+1) zs G)
  (stop:∀ys u,u D=some (.lst ys)->C n ys u->J.stop n u/\Q u):Y1 g tt N σ J I D Q:=by
 refine⟨fun i m H=>m=n - i/\i<=n/\∃ys,H D=some (.lst ys)/\C i ys H,⟨n,rfl,eV _,h0⟩,?_⟩
 rintro i m u ⟨rfl,hi,ys,R,p⟩
 by_cases hlt:i<n
 ·obtain⟨go,st⟩:=turn i ys u hlt R p;refine .inr ⟨go,_,_,?_,?_,st⟩
  ·rintro v L ⟨zs,e,l,q⟩;exact⟨zs,e,l,n - (i+1),by omega,rfl,hlt,_,JJ,q⟩
  ·rintro G ⟨zs,e,q⟩;exact⟨n - (i+1),by omega,rfl,hlt,zs,e,q⟩
 ·have e:i=n:=by omega
  subst e;exact .inl (stop ys u R p)
theorem zj3{J:It}{n:Nat}{own:List Str}{capt:List Nat}{g g2:TG}{tt C:TT}{G:TI}{R:TE}{σ:St}{L:Hp}{D:aq}{Q:VK}(y:Nat->List V->Hp->Prop)(h0:y 0 [] (upd L D (.lst [])))
  (turn:∀i ys u,i<n->u D=some (.lst ys)->y i ys u->J.go i u/\∀x Y,J.yld i u x Y->g x (Jy own++capS capt σ) Y fun v Z=>Wk (Jy own++capS capt σ) v/\tt v Z fun b I =>
   if b=true then G v I (fun J2 U=>Y1 g2 C R v J2 U D fun N=>∃zs,N D=some (.lst zs)/\y (i+1) zs N) else ∃zs,I D=some (.lst zs)/\y (i+1) zs I)
  (stop:∀ys u,u D=some (.lst ys)->y n ys u->J.stop n u/\Q (.ref D) u) :
  zmF own capt g tt G g2 C R σ J L D Q:=by
 refine⟨fun i m H=>m=n - i/\i<=n/\∃ys,H D=some (.lst ys)/\y i ys H,⟨n,rfl,eV _,[],JJ,h0⟩,?_⟩
 rintro i m u ⟨rfl,hi,ys,S,p⟩
 by_cases hlt:i<n
 ·obtain⟨go,st⟩:=turn i ys u hlt S p;refine .inr ⟨go,_,_,?_,?_,st⟩
  ·rintro U ⟨zs,e,q⟩;exact⟨n - (i+1),by omega,rfl,hlt,zs,e,q⟩
  ·rintro I ⟨zs,e,q⟩;exact⟨n - (i+1),by omega,rfl,hlt,zs,e,q⟩
 ·have e:i=n:=by omega
  subst e;exact .inl (stop ys u S p)
theorem DI.uni{N:Type}{Xf:N->Cx}{K:qF}(x:∀i,(Xf i).K=K){G e:aP}{d:DTA}(h:∀i,DI (Xf i) G e d):∃y:TI,(∀i,PI (Xf i) G e y)/\∀(C:Ctx) (l:En) (σ:St) (H:Hp) (n:Nat) (Q:It->Hp->Prop) (R:List af->Nat->Prop),Stt K C l σ H n->d l n R ->
  (∀ts v J u,R ts v->ExtE C.hd H u->Hn C.hd u v->ItOk K C.hd (fun a=>¬Own C l σ a) (Own C l σ) u J ts->Q J u)->y σ H Q:=by
 refine⟨fun σ H Q=>∀i,(ik (h i)) σ H Q,fun i pins s σ H R I hw=>(cG (h i)).1 pins s σ H R I (hw i),fun C l σ H n Q R S hd L i=>?_⟩
 have:=(cG (h i)).2 C l σ H n Q R;exact this (by rw[x i];exact S) hd fun t v J u r e h q=>L t v J u r e h (by rw[<- x i];exact q)
theorem Stt.onX{K:qF}{C:Ctx}{N:En}{σ:St}{H J:Hp}{n U:Nat}(S:Stt K C N σ H n)(k:∀a o,H a=some o->¬C.ext a->J a=some o)(Z:∀a,C.ext a->MutO (J a))(kr:∀a L,H a=some (.dK L)->C.ext a->C.hd≠some a->J a=some (.dK L))(hn:Hn C.hd J U):Stt K C N σ J U where
 len:=S.len
 val:=fun i d hi=>by
  obtain⟨v,x,y⟩:=S.val i d hi;exact⟨v,x,y.mono (fun _ _ _ z=>z) fun a o no h=>k a o h fun z=>no (.inl z)⟩
 own:=fun i ds hi=>by
  obtain⟨a,I,x,y,G,u⟩:=S.own i ds hi;exact⟨a,I,x,k a _ y u,G.mono (fun _ _ _ z=>z) (fun a o no h=>k a o h fun z=>no (.inl z)),u⟩
 dct:=fun i ds hi=>by
  obtain⟨a,I,x,y,G,u⟩:=S.dct i ds hi;exact⟨a,I,x,k a _ y u,G.mono (fun _ _ _ z=>z) (fun a o no h=>k a o h fun z=>no (.inl z)),u⟩
 rdo:=fun i ds hi=>by
  obtain⟨a,I,x,y,G,u,R⟩:=S.rdo i ds hi;exact⟨a,I,x,kr a _ y u R,G.mono (fun _ _ _ z=>z) (fun a o no h=>k a o h fun z=>no (.inl z)),u,R⟩
 dtt:=fun i ds hi=>by
  obtain⟨a,I,Y,x,y,G,u⟩:=S.dtt i ds hi;exact⟨a,I,Y,x,k a _ y u,G.mono (fun _ _ _ z=>z) (fun a o no h=>k a o h fun z=>no (.inl z)),u⟩
 dif:=S.dif
 hnd:=hn
 ext:=Z
 hx:=S.hx
def Uv(g:DTG)(tt:DTT)(v:DTA)(g2:DTG)(y:DTT)(G:DTE)(l:En):List af->List af->Nat->(List af->Nat->Prop)->Prop
 | [],acc,n,R=>R acc n
 | x::xs,acc,n,R=>g x l fun u=>tt u n fun b I=>if b=true then v u I fun ts J=>JP g2 y G u ts acc J fun C L=>Uv g tt v g2 y G l xs C L R else Uv g tt v g2 y G l xs acc I R
def zl9(m:Nat)(capt:List Nat)(x:DTA)(g:DTG)(tt:DTT)(l:DTA)(g2:DTG)(u:DTT)(y:DTE):DTA:=fun v n R=>x v n fun ts C=>Uv g tt l g2 u y (JC m capt v) ts [] C R
section
variable{X:Cx}{scope:fv}{own:List Str}{capt:List Nat}{elt tg iter tg2 it2:aP}{ifs Hr:List aP}{pos:Pos}{di di2:DTA}{is is2:List Nat}{g g2:DTG}{tt tt2:DTT}{te:DTE}
theorem zn_(hc:X.calm=true)(S:JK scope own capt X)(hi:DIL X tg iter di)
  (hg:∀C s₀ H₀ I,DG (Jg X scope own capt C s₀ H₀ I) tg is g) (hin:∀i∈is,i<own.length) (ht:∀C s₀ H₀ I,DTs (Jg X scope own capt C s₀ H₀ I) ifs tt)
  (hi2:∀C s₀ H₀ I,DI (Jg X scope own capt C s₀ H₀ I) tg2 it2 di2) (hg2:∀C s₀ H₀ I,DG (Jg X scope own capt C s₀ H₀ I) tg2 is2 g2) (hin2:∀i∈is2,i<own.length/\i∉is) (ht2:∀C s₀ H₀ I,DTs (Jg X scope own capt C s₀ H₀ I) Hr tt2)
  (he:∀C s₀ H₀ I,DE (Jg X scope own capt C s₀ H₀ I) elt te)
  (hs:∀x,foldedSetIterable iter X.env x=pure x:=by intro _;rfl) (hs2:∀(C:aq) (x:ah),foldedSetIterable it2 (compEnvC scope (closed X.env scope.names []) C X.env) x=pure x:=by intro _ _;rfl) :
  DN X (.ListComp elt [⟨tg,iter,ifs,0⟩,⟨tg2,it2,Hr,0⟩] scope pos) (zl9 own.length capt di g tt di2 g2 tt2 te):=by
 obtain⟨wi,pi,hi⟩:=hi
 let Xf:(aq×au×Hp×List aq)->Cx:=fun q=>Jg X scope own capt q.1 q.2.1 q.2.2.1 q.2.2.2
 have hK:∀q,(Xf q).K=X.K:=fun _=>rfl
 have hne:Nonempty (aq×au×Hp×List aq):=⟨(0,X.s₀,X.H₀,[])⟩;obtain⟨gg,pg,hgg⟩:=DG.uni (Xf:=Xf) hK fun q=>hg q.1 q.2.1 q.2.2.1 q.2.2.2
 obtain⟨gt,pt,hgt⟩:=DTs.uni (Xf:=Xf) hK fun q=>ht q.1 q.2.1 q.2.2.1 q.2.2.2
 obtain⟨wi2,pi2,hwi2⟩:=DI.uni (Xf:=Xf) hK fun q=>hi2 q.1 q.2.1 q.2.2.1 q.2.2.2
 obtain⟨gg2,pg2,hgg2⟩:=DG.uni (Xf:=Xf) hK fun q=>hg2 q.1 q.2.1 q.2.2.1 q.2.2.2
 obtain⟨gt2,pt2,hgt2⟩:=DTs.uni (Xf:=Xf) hK fun q=>ht2 q.1 q.2.1 q.2.2.1 q.2.2.2
 obtain⟨ge,pe,hge⟩:=DE.uni (Xf:=Xf) hK fun q=>he q.1 q.2.1 q.2.2.1 q.2.2.2
 refine⟨_,zkM hc S pi (fun C s₀ H₀ I=>pg (C,s₀,H₀,I)) (fun C s₀ H₀ I=>pt (C,s₀,H₀,I)) (fun C s₀ H₀ I=>pi2 (C,s₀,H₀,I)) (fun C s₀ H₀ I=>pg2 (C,s₀,H₀,I)) (fun C s₀ H₀ I=>pt2 (C,s₀,H₀,I)) (fun C s₀ H₀ I=>pe (C,s₀,H₀,I)) hs hs2,fun C N σ H n Q R St hd hq=>?_⟩
 refine hi C N σ H n _ _ St hd fun ts n1 J H1 r e1 hn it=>fun D hD1=>?_
 have St1:=St.on e1 hn;have hD:H D=none:=Zt e1 hn hD1;have nhd:C.hd≠some D:=fun z=>St.dom (.inl (St.hx D z)) hD
 refine zj3 (n:=ts.length) (fun i ys H2=>∃U n2,Uv g tt di2 g2 tt2 te (JC own.length capt N) (ts.drop i) U n2 R/\Reps X.K C.hd (fun a=>Own C N σ a\/a=D) H2 ys U/\ExtE C.hd H1 H2/\Hn C.hd H2 n2)
  ⟨[],n1,by simpa using r,.nil,ExtE.new hD1,hn.same (JO hD1)⟩ ?_ ?_
 ·rintro i ys H2 hlt hy ⟨U,n2,c2,r2,e2,hn2⟩;have et:ts[i]?=some ts[i]:=aJ hlt;rw[cA hlt]at c2;have itq:=it (fun a=>Own C N σ a\/a=D) H2 (fun a o u nh=>e2 a o u nh) (fun a o u no z=>z.elim no fun z=>by subst z;rw[hD1]at u;cases u) (fun a z=>z.elim (fun z=>(St1.on e2 hn2).dom z) fun z=>by subst z;rw[hy];exact fun z=>by cases z)
  obtain⟨go,yl⟩:=itq.1 i _ et;refine⟨go,fun x H3 hyd=>?_⟩
  obtain⟨sm,rx⟩:=yl x H3 hyd;have hn3:=hn2.same sm;have e3:ExtE C.hd H1 H3:=e2.trans sm.ext;obtain⟨I3,no3⟩:=zjp (own:=own) (capt:=capt) (D:=D) (ys:=ys) St (e1.trans e3) hn3 hD (sm _ _ hy);have rx':Rep X.K C.hd (Own ⟨C.hd,fun a=>Own C N σ a\/a=D⟩ (JC own.length capt N) (Jy own++capS capt σ)) H3 x ts[i]:=rx.mono (fun a o _ z=>z.elim id fun z=>absurd z (no3 a)) fun _ _ _ z=>z
  refine hgg ⟨C.hd,fun a=>Own C N σ a\/a=D⟩ (JC own.length capt N) (Jy own++capS capt σ) H3 n2 x ts[i] _ _ I3 rx' c2 fun Y σ4 r4 S4 k4 hj hl=>⟨Wk.of hl.symm fun j v ej=>zoo hin hj ej,?_⟩
  ·refine hgt _ Y σ4 H3 n2 _ _ S4 r4 fun b n5 H5 r5 e5 hn5=>?_
   have S5:=S4.on e5 hn5;have hy5:H5 D=some (.lst ys):=e5 D _ (sm _ _ hy) nhd;have r25:∀{H6},ExtE C.hd H2 H6->Reps X.K C.hd (fun a=>Own C N σ a\/a=D) H6 ys U:=fun e=>r2.mono (fun _ _ _ z=>z) fun a o no u=>e a o u fun z=>no (.inl (.inl (St.hx a z)))
   cases b with
   | false =>
    refine iteF ⟨ys,hy5,U,n5,by simpa using r5,r25 ((Same.ext sm).trans e5),e3.trans e5,hn5⟩
   | true =>
    refine iteT (hwi2 ⟨C.hd,fun a=>Own C N σ a\/a=D⟩ Y σ4 H5 n5 _ _ S5 (by simpa using r5) fun us n6 J2 H6 r6 e6 hn6 it6=>?_)
    have S6:=S5.on e6 hn6;have hy6:H6 D=some (.lst ys):=e6 D _ hy5 nhd;refine zjY (n:=us.length) (fun k zs H7=>∃G n7,JP g2 tt2 te Y (us.drop k) G n7 (fun G n4=>Uv g tt di2 g2 tt2 te (JC own.length capt N) (ts.drop (i+1)) G n4 R)/\Reps X.K C.hd (fun a=>Own C N σ a\/a=D) H7 zs G/\ExtE C.hd H1 H7/\Hn C.hd H7 n7/\∀a o,H6 a=some o->¬(Own C N σ a\/a=D)->H7 a=some o)
     ⟨ys,hy6,U,n6,by simpa using r6,r25 ((Same.ext sm).trans (e5.trans e6)),e3.trans (e5.trans e6),hn6,fun _ _ h _=>h⟩ ?_ ?_
    ·rintro k zs H7 hk hz ⟨G,n7,c7,r7,e7,Z,k7⟩;have et2:us[k]?=some us[k]:=aJ hk;rw[cA hk]at c7;have S7:Stt X.K ⟨C.hd,fun a=>Own C N σ a\/a=D⟩ Y σ4 H7 n7:=S6.onX k7 (fun a z=>z.elim (fun z=>(St1.on e7 Z).lst z) fun z=>by subst z;exact .inl ⟨_,hz⟩) (fun a ks u z nh=>z.elim (fun z=>by
      have e16:ExtE C.hd H1 H6:=e3.trans (e5.trans e6);rcases St1.lst z with⟨xs,q⟩|⟨xs,q⟩|⟨b,xs,ep,q⟩
      ·rw[e16 a _ q nh]at u;cases u
      ·rw[e16 a _ q nh]at u;cases u;exact e7 a _ q nh
      ·rw[e16 a _ q nh]at u;cases u) (fun z=>by subst z;rw[hy6]at u;cases u)) Z
     have IX:=it6 (Own ⟨C.hd,fun a=>Own C N σ a\/a=D⟩ Y σ4) H7 (fun a o u no=>k7 a o u fun z=>no (.inl z)) (fun a o u no=>no) (fun a z=>S7.dom z)
     obtain⟨go2,yl2⟩:=IX.1 k _ et2;refine⟨go2,fun y H8 hyd2=>?_⟩
     obtain⟨sm8,ry⟩:=yl2 y H8 hyd2;have hn8:=Z.same sm8;have S8:=S7.on (Same.ext sm8) hn8;refine hgg2 _ Y σ4 H8 n7 y us[k] _ _ S8 ry c7 fun ρ9 σ9 r9 S9 k9 hj9 hl9=>⟨Wk.of hl9.symm fun j v ej=>?_,?_⟩
     ·by_cases hjo:j∈is2
      ·exfalso;obtain⟨lo,nis⟩:=hin2 j hjo;rw[hj j nis,cz (by simpa using lo),aV]at ej
       cases z:own[j]? with
       | none=>rw[z]at ej;cases ej
       | some q=>rw[z]at ej;cases ej
      ·rw[hj9 j hjo];exact ej
     ·refine hgt2 _ ρ9 σ9 H8 n7 _ _ S9 r9 fun b n10 H10 r10 e10 hn10=>?_
      have S10:=S9.on e10 hn10;have Kg:H10 D=some (.lst zs):=e10 D _ (sm8 _ _ hz) nhd;have IY:∀{H'},ExtE C.hd H7 H'->Reps X.K C.hd (fun a=>Own C N σ a\/a=D) H' zs G:=fun e=>r7.mono (fun _ _ _ z=>z) fun a o no u=>e a o u fun z=>no (.inl (.inl (St.hx a z)))
      have kk:∀{H'},ExtE C.hd H7 H'->∀a o,H6 a=some o->¬(Own C N σ a\/a=D)->H' a=some o:=fun e a o u no=>e a o (k7 a o u no) fun z=>no (.inl (.inl (St.hx a z)))
      cases b with
      | false=>exact iteF ⟨zs,Kg,G,n10,by simpa using r10,IY ((Same.ext sm8).trans e10),e7.trans ((Same.ext sm8).trans e10),hn10,kk ((Same.ext sm8).trans e10)⟩
      | true =>
       refine iteT (hge _ ρ9 σ9 H10 n10 _ _ S10 (by simpa using r10) fun t n11 v H11 r11 e11 hn11 q11=>?_)
       have hz11:H11 D=some (.lst zs):=e11 D _ Kg nhd;have IQ:ExtE C.hd H7 H11:=(Same.ext sm8).trans (e10.trans e11);have rl:=(IY IQ).length;refine⟨zs,hz11,by rw[rl];exact r11.1,G++[t],n11,r11.2,?_,?_,?_,?_⟩
       ·have q11':Rep X.K C.hd (fun a=>Own C N σ a\/a=D) H11 v t:=q11.mono (fun _ _ _ z=>.inl z) fun _ _ _ z=>z
        have all:=(IY IQ).append (Reps.cons q11' .nil);exact all.mono (fun _ _ _ z=>z) fun a o no u=>by rw[Jo (show a≠D from fun z=>no (.inr z))];exact u
       ·exact ExtE.updR hD1 (e7.trans IQ)
       ·exact Hn.updR nhd hn11
       ·exact fun a o u no=>by
         rw[Jo (show a≠D from fun z=>no (.inr z))]
         exact kk IQ a o u no
    ·rintro zs H7 hz ⟨G,n7,c7,r7,e7,Z,k7⟩;rw[ig]at c7;have S7:Stt X.K ⟨C.hd,fun a=>Own C N σ a\/a=D⟩ Y σ4 H7 n7:=S6.onX k7 (fun a z=>z.elim (fun z=>(St1.on e7 Z).lst z) fun z=>by subst z;exact .inl ⟨_,hz⟩) (fun a ks u z nh=>z.elim (fun z=>by
      have e16:ExtE C.hd H1 H6:=e3.trans (e5.trans e6);rcases St1.lst z with⟨xs,q⟩|⟨xs,q⟩|⟨b,xs,ep,q⟩
      ·rw[e16 a _ q nh]at u;cases u
      ·rw[e16 a _ q nh]at u;cases u;exact e7 a _ q nh
      ·rw[e16 a _ q nh]at u;cases u) (fun z=>by subst z;rw[hy6]at u;cases u)) Z
     have IX:=it6 (Own ⟨C.hd,fun a=>Own C N σ a\/a=D⟩ Y σ4) H7 (fun a o u no=>k7 a o u fun z=>no (.inl z)) (fun a o u no=>no) (fun a z=>S7.dom z)
     exact⟨IX.2,zs,hz,G,n7,c7,r7,e7,Z⟩
 ·rintro ys H2 hy ⟨U,n2,c2,r2,e2,hn2⟩;rw[ig]at c2;have itq:=it (fun a=>Own C N σ a\/a=D) H2 (fun a o u nh=>e2 a o u nh) (fun a o u no z=>z.elim no fun z=>by subst z;rw[hD1]at u;cases u) (fun a z=>z.elim (fun z=>(St1.on e2 hn2).dom z) fun z=>by subst z;rw[hy];exact fun z=>by cases z)
  exact⟨itq.2,hq U n2 D ys H2 c2 (e1.trans e2) hn2 hD hy r2⟩
end
section
variable{ρ ρ0:En}{n m:Nat}{di di2:DTA}{g g2:DTG}{tt tt2:DTT}{te:DTE}{capt:List Nat}{Rl:List af->Nat->Prop}
instance zvB [h:CompN m capt ρ ρ0]:Stp (zl9 m capt di g tt di2 g2 tt2 te ρ n Rl) (di ρ n fun ts n1=>Uv g tt di2 g2 tt2 te ρ0 ts [] n1 Rl):=⟨fun k=>by unfold zl9;rw[h.e];exact k⟩
end
abbrev Run:=Int×Int
def NR(rs:List Run):Prop:=(∀r∈rs,r.1<r.2)/\rs.Pairwise fun a b=>a.2<b.1
def mR(x:Int)(rs:List Run):Prop:=∃r∈rs,r.1<=x/\x<r.2
def mB(x:Int)(bs:qB):Prop:=∃b∈bs,b.1<=x/\x<eB b
theorem Uc{x:Int}{r:Run}{rs:List Run}:mR x (r::rs)↔(r.1<=x/\x<r.2)\/mR x rs:=by
 unfold mR;constructor
 ·rintro⟨s,u,h⟩;rcases aw.mp u with rfl|u
  ·exact .inl h
  ·exact .inr ⟨s,u,h⟩
 ·rintro(h|⟨s,u,h⟩)
  ·exact⟨r,by simp,h⟩
  ·exact⟨s,by simp[u],h⟩
theorem QG{x:Int}:¬mR x []:=fun⟨_,h,_⟩=>nomatch h
theorem Us{x:Int}{rs ss:List Run}:mR x (rs++ss)↔mR x rs\/mR x ss:=by
 unfold mR;constructor
 ·rintro⟨s,u,h⟩;rcases aE.mp u with u|u
  ·exact .inl ⟨s,u,h⟩
  ·exact .inr ⟨s,u,h⟩
 ·rintro(⟨s,u,h⟩|⟨s,u,h⟩)
  ·exact⟨s,by simp[u],h⟩
  ·exact⟨s,by simp[u],h⟩
theorem zh8{x:Int}{b:Int×Int}{bs:qB}:mB x (b::bs)↔(b.1<=x/\x<eB b)\/mB x bs:=by
 unfold mB;constructor
 ·rintro⟨s,u,h⟩;rcases aw.mp u with rfl|u
  ·exact .inl h
  ·exact .inr ⟨s,u,h⟩
 ·rintro(h|⟨s,u,h⟩)
  ·exact⟨b,by simp,h⟩
  ·exact⟨s,by simp[u],h⟩
theorem Zi{x:Int}:¬mB x []:=fun⟨_,h,_⟩=>nomatch h
theorem Zh{x:Int}{bs cs:qB}:mB x (bs++cs)↔mB x bs\/mB x cs:=by
 unfold mB;constructor
 ·rintro⟨s,u,h⟩;rcases aE.mp u with u|u
  ·exact .inl ⟨s,u,h⟩
  ·exact .inr ⟨s,u,h⟩
 ·rintro(⟨s,u,h⟩|⟨s,u,h⟩)
  ·exact⟨s,by simp[u],h⟩
  ·exact⟨s,by simp[u],h⟩
theorem zla{x:Int}{bs cs:qB}(h:bs.Perm cs):mB x bs↔mB x cs:=by
 unfold mB;constructor
 ·rintro⟨s,l,q⟩;exact⟨s,h.mem_iff.mp l,q⟩
 ·rintro⟨s,l,q⟩;exact⟨s,h.mem_iff.mpr l,q⟩
theorem NR.tail{r:Run}{rs:List Run}(h:NR (r::rs)):NR rs:=⟨fun s l=>h.1 s (by simp[l]),(eM.mp h.2).2⟩
def QC(lo hi:Int)(h:Nat):Prop:=lo % 2 ^ h=0/\(2:Int) ^ h<=hi - lo/\¬(lo % 2 ^ (h+1)=0/\(2:Int) ^ (h+1)<=hi - lo)
theorem zc7{a b:Nat}(h:a<=b):((2:Int) ^ a)∣2 ^ b:=⟨2 ^ (b - a),by rw[<- dP];congr 1;lia⟩
theorem Uj{a b:Nat}(h:a<=b):(2:Int) ^ a<=2 ^ b:=by
 obtain⟨c,e⟩:=zc7 h;have pa:=Bd.JA a;have l:=Bd.JA b;have pc:0<c:=by
  rcases eW c 0 with z|z|z
  ·have:=gv pa z;lia
  ·subst z;lia
  ·exact z
 rw[e];have:=bw (show(1:Int)<=c by lia) (show(0:Int)<=2 ^ a by lia)
 lia
theorem U2{lo:Int}{a b:Nat}(h:a<=b)(e:lo % 2 ^ b=0):lo % 2 ^ a=0:=by
 have d:((2:Int) ^ b)∣lo:=aZ e;exact df (Int.dvd_trans (zc7 h) d)
theorem QC.uniq{lo hi:Int}{h g:Nat}(a:QC lo hi h)(b:QC lo hi g):h=g:=by
 rcases dU h g with z|z|z
 ·exfalso;exact a.2.2 ⟨U2 (show h+1<=g by lia) b.1,nW (Uj (show h+1<=g by lia)) b.2.1⟩
 ·exact z
 ·exfalso;exact b.2.2 ⟨U2 (show g+1<=h by lia) a.1,nW (Uj (show g+1<=h by lia)) a.2.1⟩
def Jp:Int->Int->List (Int×Int)->Prop
 | lo,hi,[]=>lo=hi
 | lo,hi,b::r=>lo<hi/\b.1=lo/\0<=b.2/\QC lo hi b.2.toNat/\Jp (lo+2 ^ b.2.toNat) hi r
theorem Jp.le:∀{bs:qB}{lo hi:Int},Jp lo hi bs->lo<=hi
 | [],_,_,h=>by have:_=_:=h;lia
 | b::r,lo,hi,h=>by have:=h.1;lia
theorem Jp.uniq:∀{bs cs:qB}{lo hi:Int},Jp lo hi bs->Jp lo hi cs->bs=cs
 | [],[],_,_,_,_=>rfl
 | [],c::cs,lo,hi,h,k=>by have:lo=hi:=h;have:=k.1;lia
 | b::bs,[],lo,hi,h,k=>by have:lo=hi:=k;have:=h.1;lia
 | b::bs,c::cs,lo,hi,h,k=>by
  obtain⟨C,I,G,l,u⟩:=h;obtain⟨k1,k2,k3,x,k5⟩:=k;have e:=l.uniq x;have y:b.2=c.2:=by lia
  have v:b=c:=kc (by lia) y
  subst v;rw[Jp.uniq u k5]
theorem Jp.mem:∀{bs:qB}{lo hi:Int},Jp lo hi bs->∀x,mB x bs↔lo<=x/\x<hi
 | [],lo,hi,h,x=>by
  have:lo=hi:=h;exact⟨fun z=>absurd z Zi,fun z=>by lia⟩
 | b::r,lo,hi,h,x=>by
  obtain⟨C,v,G,y,u⟩:=h;have:=Jp.mem u x;have l:=Jp.le u;have p:=Bd.JA b.2.toNat;rw[zh8,this];unfold eB;rw[v];lia
theorem Jp.blk{bits:Int}(I:0<=bits):∀{bs:qB}{lo hi:Int},Jp lo hi bs->0<=lo->hi<=2 ^ bits.toNat->Bks bits bs
 | [],_,_,_,_,_=>fun b v=>nomatch v
 | b::r,lo,hi,h,l0,l1=>by
  obtain⟨L,J,C,u,x⟩:=h;have p:=Bd.JA b.2.toNat;have l:=Jp.le x;have G:=Jp.blk I x (by lia) l1
  intro c hc;rcases aw.mp hc with rfl|hc
  ·have v:c.2.toNat<=bits.toNat:=by
    rcases bN bits.toNat c.2.toNat with z|z
    ·exfalso;have:=Uj (show bits.toNat+1<=c.2.toNat by lia)
     have p2:=Bd.JA bits.toNat;rw[bW]at this;have:=u.2.1;lia
    ·exact z
   obtain⟨k,y⟩:=aZ u.1;have k0:0<=k:=by
    rcases iR k 0 with z|z
    ·have:=gv p z;lia
    ·exact z
   refine⟨C,by lia,k,k0,by rw[J,y,dw],?_⟩
   have e:(2:Int) ^ bits.toNat=2 ^ (bits - c.2).toNat*2 ^ c.2.toNat:=by rw[<- dP];congr 1;lia
   have up:k*2 ^ c.2.toNat<2 ^ (bits - c.2).toNat*2 ^ c.2.toNat:=by
    rw[<- e,dw,<- y];lia
   exact km up (by lia)
  ·exact G c hc
theorem Jp.in:∀{bs:qB}{lo hi:Int},Jp lo hi bs->∀b∈bs,lo<=b.1/\eB b<=hi
 | [],_,_,_=>fun b v=>nomatch v
 | b::r,lo,hi,h=>by
  obtain⟨G,x,I,C,u⟩:=h;have p:=Bd.JA b.2.toNat;have y:=Jp.in u;have l:=Jp.le u;intro c hc;rcases aw.mp hc with rfl|hc
  ·unfold eB;rw[x];lia
  ·have:=y c hc;lia
theorem Jp.pw:∀{bs:qB}{lo hi:Int},Jp lo hi bs->bs.Pairwise fun a b=>eB a<=b.1
 | [],_,_,_=>.nil
 | b::r,lo,hi,h=>by
  obtain⟨y,v,C,x,u⟩:=h;refine .cons (fun c hc=>?_) (Jp.pw u)
  have:=Jp.in u c hc;unfold eB;rw[v];lia
theorem zgg:∀{bs:qB}{lo hi:Int}{k:Nat},Jp lo hi bs->lo % 2 ^ k=0->hi - lo<2 ^ k->bs.length<=k
 | [],_,_,_,_,_,_=>eV _
 | b::r,lo,hi,k,h,d,l=>by
  obtain⟨x,y,C,u,v⟩:=h;have G:b.2.toNat<k:=by
   rcases bN b.2.toNat k with z|z
   ·exact z
   ·have:=Uj z;have:=u.2.1;lia
  have up:¬(2:Int) ^ (b.2.toNat+1)<=hi - lo:=fun z=>u.2.2 ⟨U2 (show b.2.toNat+1<=k by lia) d,z⟩
  rw[bW]at up;have:=zgg (k:=b.2.toNat) v (by rw[nX,u.1];simp) (by lia)
  rw[aT];lia
theorem zgf{K:Nat}:∀{bs:qB}{lo hi:Int}{k:Nat},Jp lo hi bs->lo % 2 ^ k=0->hi - lo<2 ^ K->k<=K->bs.length<=(K - k)+K
 | [],_,_,_,_,_,_,_=>eV _
 | b::r,lo,hi,k,h,d,l,hkK=>by
  obtain⟨I,J,C,u,v⟩:=h;have p:=Bd.JA b.2.toNat;have G:b.2.toNat<K:=by
   rcases bN b.2.toNat K with z|z
   ·exact z
   ·have:=Uj z;have:=u.2.1;lia
  rw[aT]
  by_cases up:(2:Int) ^ (b.2.toNat+1)<=hi - lo
  ·have nd:¬lo % 2 ^ (b.2.toNat+1)=0:=fun z=>u.2.2 ⟨z,up⟩
   have L:k<=b.2.toNat:=by
    rcases bN b.2.toNat k with z|z
    ·exact absurd (U2 (show b.2.toNat+1<=k by lia) d) nd
    ·exact z
   have d':(lo+2 ^ b.2.toNat) % 2 ^ (b.2.toNat+1)=0:=by
    obtain⟨q,eq⟩:=aZ u.1;have y:(2:Int) ^ (b.2.toNat+1)=2 ^ b.2.toNat*2:=bW _ _;rw[y]at nd ⊢;have odd:q % 2=1:=by
     rcases o7 q with z|z
     ·exfalso;obtain⟨t,x⟩:=aZ z;apply nd;apply df;exact⟨t,by rw[eq,x,dO]⟩
     ·exact z
    apply df;refine⟨(q+1) / 2,?_⟩;have:q+1=2*((q+1) / 2):=by lia
    rw[eq,dO,<- this,oN,kD]
   have:=zgf (K:=K) (k:=b.2.toNat+1) v d' (by lia) (by lia)
   lia
  ·rw[bW]at up;have:=zgg (k:=b.2.toNat) v (by rw[nX,u.1];simp) (by lia)
   lia
theorem Jp.len{bs:qB}{lo hi:Int}(h:Jp lo hi bs)(l:0<=lo)(u:hi<=2 ^ 64):bs.length<=130:=by
 have:=zgf (K:=65) (k:=0) h (by simp) (by have e:(2:Int) ^ 65=2*2 ^ 64:=(by decide);lia) (by decide)
 lia
theorem zjd{lo hi:Int}(h:lo<hi):∃g,QC lo hi g:=by
 have key:∀(d k:Nat),lo % 2 ^ k=0->(2:Int) ^ k<=hi - lo->(hi - lo).toNat<2 ^ (k+d)->∃g,QC lo hi g:=by
  intro d;induction d with
  | zero =>
   intro k _ b c;exfalso;have:((2 ^ k:Nat):Int)=(2:Int) ^ k:=by rw[fI];rfl
   rw[Nat.add_zero]at c;lia
  | succ d l =>
   intro k a b c
   by_cases z:lo % 2 ^ (k+1)=0/\(2:Int) ^ (k+1)<=hi - lo
   ·exact l (k+1) z.1 z.2 (by rw[show k+1+d=k+(d+1) by lia];exact c)
   ·exact⟨k,a,b,z⟩
 refine key (hi - lo).toNat 0 (by simp) (by simp;lia) ?_
 rw[gj];exact Nat.lt_two_pow_self
theorem zki:∀(n:Nat) (lo hi:Int),(hi - lo).toNat<=n->lo<=hi->∃bs,Jp lo hi bs:=by
 intro n;induction n with
 | zero =>
  intro lo hi h l;exact⟨[],by show lo=hi;lia⟩
 | succ n u =>
  intro lo hi h l
  by_cases z:lo<hi
  ·obtain⟨g,G⟩:=zjd z;have p:=Bd.JA g;have:=G.2.1;obtain⟨bs,B⟩:=u (lo+2 ^ g) hi (by lia) (by lia)
   exact⟨(lo,(g:Int))::bs,z,rfl,by show(0:Int)<=(g:Int);lia,by simpa using G,by simpa using B⟩
  ·exact⟨[],by show lo=hi;lia⟩
def PatS:List Run->List (Int×Int)->Prop
 | [],ps=>ps=[]
 | r::rs,ps=>∃a b,ps=a++b/\Jp r.1 r.2 a/\PatS rs b
theorem PatS.mem:∀{rs:List Run}{ps:qB},PatS rs ps->∀x,mB x ps↔mR x rs
 | [],_,h,x=>by
  cases(show _=[] from h)
  exact⟨fun z=>absurd z Zi,fun z=>absurd z QG⟩
 | r::rs,_,h,x=>by
  obtain⟨a,b,rfl,l,u⟩:=h;rw[Zh,Uc,l.mem x,PatS.mem u x]
theorem PatS.blk{bits:Int}(u:0<=bits):∀{rs:List Run}{ps:qB},PatS rs ps->(∀r∈rs,0<=r.1/\r.2<=2 ^ bits.toNat)->Bks bits ps
 | [],_,h,_=>by cases(show _=[] from h);exact fun b x=>nomatch x
 | r::rs,_,h,w=>by
  obtain⟨a,b,rfl,y,C⟩:=h;have l:=w r (by simp)
  intro c hc;rcases aE.mp hc with hc|hc
  ·exact y.blk u l.1 l.2 c hc
  ·exact PatS.blk u C (fun s v=>w s (by simp[v])) c hc
theorem PatS.in:∀{rs:List Run}{ps:qB},PatS rs ps->∀b∈ps,∃r∈rs,r.1<=b.1/\eB b<=r.2
 | [],_,h=>by cases(show _=[] from h);exact fun b u=>nomatch u
 | r::rs,_,h=>by
  obtain⟨a,b,rfl,v,x⟩:=h;intro c hc;rcases aE.mp hc with hc|hc
  ·exact⟨r,by simp,v.in c hc⟩
  ·obtain⟨s,l,q⟩:=PatS.in x c hc;exact⟨s,by simp[l],q⟩
theorem PatS.pw:∀{rs:List Run}{ps:qB},PatS rs ps->NR rs->ps.Pairwise fun a b=>eB a<=b.1
 | [],_,h,_=>by cases(show _=[] from h);exact .nil
 | r::rs,_,h,nr=>by
  obtain⟨a,b,rfl,u,v⟩:=h;rw[cy];refine⟨u.pw,PatS.pw v nr.tail,fun x hx y G=>?_⟩
  have:=u.in x hx;obtain⟨s,C,q⟩:=PatS.in v y G;have:=(eM.mp nr.2).1 s C;lia
theorem PatS.len:∀{rs:List Run}{ps:qB},PatS rs ps->(∀r∈rs,0<=r.1/\r.2<=2 ^ 64)->ps.length<=130*rs.length
 | [],_,h,_=>by cases(show _=[] from h);simp
 | r::rs,_,h,w=>by
  obtain⟨a,b,rfl,v,x⟩:=h;have l:=w r (by simp)
  have:=v.len l.1 l.2;have:=PatS.len x fun s u=>w s (by simp[u])
  rw[aY,aT];lia
def CanP(S:Int->Prop)(ps:qB):Prop:=∃rs,NR rs/\(∀x,mR x rs↔S x)/\PatS rs ps
theorem CanP.mem{S:Int->Prop}{ps:qB}(h:CanP S ps)(x:Int):mB x ps↔S x:=by
 obtain⟨rs,v,u,l⟩:=h;rw[l.mem,u]
theorem CanP.ptc{S:Int->Prop}{ps:qB}{bits:Int}(C:0<=bits)(h:CanP S ps)(w:∀x,S x->0<=x/\x<2 ^ bits.toNat):Ptc bits ps:=by
 obtain⟨rs,u,y,v⟩:=h;refine⟨v.blk C fun r l=>?_,v.pw u⟩
 have lt:=u.1 r l;have a:=w r.1 ((y _).mp ⟨r,l,bh _,lt⟩);have b:=w (r.2 - 1) ((y _).mp ⟨r,l,by lia,by lia⟩)
 lia
section
variable{X:Cx}{a:aP}{da:DTE}{ρ:En}{n:Nat}{R:qN}
theorem zk8:MtR X "int.bit_length" (fun x xs H Q=>∃i,x=.int i/\xs=[]/\Q (.int (fc i)) H):=by
 intro pins s σ H x xs v u Q I l rs h;obtain⟨i,rfl,rfl,q⟩:=h;obtain⟨t,rfl⟩:=l;cases rs;exact call_int_bit_length ⟨.int _,H,I.tok _,⟨_,rfl⟩,q⟩
def zl_(d:DTE):DTE:=fun ρ n R=>d ρ n fun t l=>lInt t fun i=>R (.int (fc i)) l
theorem zhr{p2 x:Pos}(h:DL X a da)(N:attributeBase a "bit_length" X.env (eval a X.env)=eval a X.env:=by rfl) (U:(p2.endLine == x.line)=true:=by rfl):DE X (.Call (.Attribute a "bit_length" p2) [] [] x) (zl_ da):=by
 obtain⟨Z,pa,h⟩:=h;refine⟨_,zr6 PySem.F.plainAttrs_int slot_int_bit_length type_int_bit_length zk8 pa N U,fun C ρ σ H n Q R S hd G=>?_⟩
 refine h C ρ σ H n _ _ S hd fun t Y v y r L J I=>?_
 cases t with
 | int i =>
  rw[I.intI];exact⟨rfl,i,rfl,rfl,G _ Y _ y r L J (.int _)⟩
 | _=>exact r.elim
instance zuS:Stp (zl_ da ρ n R) (da ρ n fun t n1=>lInt t fun i=>R (.int (fc i)) n1):=⟨fun h=>h⟩
end
theorem zeh{i:Int}(h:0<i):(fc i:Int) - 1=(i.toNat.log2:Int):=by
 unfold fc;have:(i == 0)=false:=by simp;lia
 rw[this];have e:i.natAbs=i.toNat:=by lia
 rw[e];simp
theorem zlf{i:Int}(h:0<i):(2:Int) ^ i.toNat.log2<=i:=by
 have:=Nat.log2_self_le (n:=i.toNat) (by lia)
 have e:((2 ^ i.toNat.log2:Nat):Int)=(2:Int) ^ i.toNat.log2:=by rw[fI];rfl
 lia
theorem zlb{i:Int}(h:0<i):i<(2:Int) ^ (i.toNat.log2+1):=by
 have:=Nat.lt_log2_self (n:=i.toNat);have e:((2 ^ (i.toNat.log2+1):Nat):Int)=(2:Int) ^ (i.toNat.log2+1):=by rw[fI];rfl
 lia
theorem zlh(t:Nat):∀x:Nat,x % 2 ^ t=0->¬x % 2 ^ (t+1)=0->x - (x &&& (x - 1))=2 ^ t:=by
 induction t with
 | zero =>
  intro x _ h;have G:x % 2=1:=by
   have:¬x % 2=0:=by simpa using h
   lia
  have e:x &&& (x - 1)=x - 1:=by
   apply my;intro i;rw[lR];cases i with
   | zero =>
    have:(x - 1).testBit 0=false:=by rw[lh];simp;lia
    rw[this,hW]
   | succ i =>
    have:x / 2=(x - 1) / 2:=by lia
    rw[gn,gn,this,Bool.and_self]
  rw[e];simp;lia
 | succ t u =>
  intro x l v;have ev:x % 2=0:=by
   have:2∣2 ^ (t+1):=⟨2 ^ t,by rw[lN,lM]⟩
   exact hY (Nat.dvd_trans this (hZ l))
  have hx:x=2*(x / 2):=by lia
  have y:(x / 2) % 2 ^ t=0:=by
   obtain⟨q,e⟩:=hZ l;apply hY;refine⟨q,?_⟩;rw[lN]at e;have:x=2*(2 ^ t*q):=by rw[e];rw[lM (2 ^ t) 2,sG]
   lia
  have p2:¬(x / 2) % 2 ^ (t+1)=0:=fun z=>by
   obtain⟨q,e⟩:=hZ z;apply v;apply hY;refine⟨q,?_⟩;rw[lN,lM (2 ^ (t+1)) 2,sG,<- e];exact hx
  have:=u (x / 2) y p2;have e:x &&& (x - 1)=2*(x / 2 &&& (x / 2 - 1)):=by
   apply my;intro i;rw[lR];cases i with
   | zero =>
    have a:x.testBit 0=false:=by rw[lh];simp;lia
    rw[a,cC,lh];simp
   | succ i =>
    have C:0<x / 2:=by
     rcases m7 (x / 2) with z|z
     ·rw[z]at p2;simp at p2
     ·exact z
    have b:(x - 1) / 2=x / 2 - 1:=by lia
    rw[gn,gn,gn,b,Nat.mul_div_cancel_left _ (by decide:0<2),lR]
  rw[e,lN];have le:(x / 2 &&& (x / 2 - 1))<=x / 2:=o8;lia
theorem zqV{b:Int}(h:0<b){t:Nat}(l:b % 2 ^ t=0)(v:¬b % 2 ^ (t+1)=0):fV b (-b)=2 ^ t:=by
 have e:fV b (-b)=b - ((b.toNat &&& (b.toNat - 1):Nat):Int):=by
  have h0:decide (0<=b)=true:=decide_eq_true (by lia)
  have u:decide (0<=-b)=false:=decide_eq_false (by lia)
  show(match decide (0<=b),decide (0<=-b) with
   | true,true=>((b.toNat &&& (-b).toNat:Nat):Int)
   | true,false=>b - ((b.toNat &&& (fo (-b)).toNat:Nat):Int)
   | false,true=>(-b) - (((-b).toNat &&& (fo b).toNat:Nat):Int)
   | false,false=>fo (((fo b).toNat|||(fo (-b)).toNat:Nat):Int))=_
  rw[h0,u];have:(fo (-b)).toNat=b.toNat - 1:=by
   have:fo (-b)=b - 1:=by show -(-b) - 1=b - 1;lia
   rw[this];lia
  rw[this]
 have cast:∀k:Nat,b % (2:Int) ^ k=((b.toNat % 2 ^ k:Nat):Int):=fun k=>by
  rw[Int.natCast_emod,fI,mM (by lia)];rfl
 rw[cast]at l v;have:=zlh t b.toNat (by lia) (by lia)
 have le:(b.toNat &&& (b.toNat - 1))<=b.toNat:=o8;rw[e];have x:((2 ^ t:Nat):Int)=(2:Int) ^ t:=by rw[fI];rfl
 lia
theorem zuV{b:Int}(h:0<b):∃t:Nat,b % 2 ^ t=0/\¬b % 2 ^ (t+1)=0:=by
 obtain⟨g,G⟩:=zjd (lo:=b) (hi:=b+b+1) (by lia)
 refine⟨g,G.1,fun z=>?_⟩
 have d:=aZ z;have:=Int.le_of_dvd h d;exact G.2.2 ⟨z,by lia⟩
theorem zi7{xs:qD}{x:af}:ixN (xs++[x]).length (-1)=some xs.length:=by
 unfold ixN;simp;lia
theorem znO{xs:qD}{x:af}{Q:af->Prop}(h:Q x):oIx (.list (xs++[x])) (.int (-1)) Q:=by
 have e:atI (xs++[x]) (-1)=some x:=by
  unfold atI;rw[zi7];simp
 rw[YI e];exact h
end L2
namespace Bd
open PySem L2
def ppD(xs:List (af×af)):List af:=xs.map fun p=>.tuple [p.1,p.2]
def oD(os:List ((Int×Int)×Str)):List af:=os.map fun p=>.tuple [prD p.1,.str p.2]
theorem UX{os:List ((Int×Int)×Str)}:(oD os).length=os.length:=by simp[oD]
def Shr(bits:Int)(os:List ((Int×Int)×Str)):Prop:=Ptc bits (os.map (·.1))/\∀p∈os,IsNm p.2
theorem zvM(os:List ((Int×Int)×Str)):oD os=ppD (os.map fun p=>(prD p.1,.str p.2)):=by
 unfold oD ppD;rw[cH];rfl
def apB(a b:Int×Int):Prop:=eB a<=b.1\/eB b<=a.1
def okPr(p q:(Int×Int)×Str):Prop:=p.2=q.2\/apB p.1 q.1
def Agr(os l:List ((Int×Int)×Str)):Prop:=∀p∈os,∀q∈l,okPr p q
abbrev Deal:=Int×List ((Int×Int)×Str)×List ((Int×Int)×Str)
def dlD(d:Deal):af:=.tuple [.int d.1,.tuple (oD d.2.1),.tuple (oD d.2.2)]
def Dl(d:Deal):Prop:=1<=d.1/\d.1<=64/\Shr d.1 d.2.1/\Shr d.1 d.2.2/\Agr d.2.1 d.2.2
def nD(l:List Str):List af:=l.map .str
theorem zst{u:List Str}:(nD u).length=u.length:=by simp[nD]
end Bd
namespace L2
open PySem PySem.Spec PyProof.Rows
section
variable{X:Cx}{tg iter:aP}{d:DTE}
def iSeq(K:qF)(u:TE):TI:=fun σ H R=>u σ H fun x l=>∃a,x=.ref a/\(((∃xs,SqL K l a xs)/\R (Itl K a) l)\/((∃xs,SqT K l a xs)/\R (Itt K a) l))
theorem zrX{l:aP}{N:TE}(Y:PE X l N):PI X tg l (iSeq X.K N):=by
 intro pins s σ H R I h;refine thn (Y pins s σ H _ I h) fun v s1 ⟨x,L,u,S,J⟩=>?_
 obtain⟨a,e,J⟩:=J;subst e;cases S;rcases J with⟨⟨xs,G⟩,q⟩|⟨⟨xs,G⟩,q⟩
 ·obtain⟨y,Z,p,U⟩:=u.list G;refine eT p.isList ?_;refine⟨s1.heap.objs.size,[s1.heap.objs.size],_,_,L,rfl,u.kept (t':=s1.toks) fun b o e=>ak _ e,zf8 a _,⟨_,az _ rfl,rfl,rfl⟩,fun b C=>?_,q⟩
  have e:b=s1.heap.objs.size:=by simpa using C
  subst e;exact u.fpOk (aA _) (u.hok.fresh (aA _))
 ·obtain⟨y,Z,p,U⟩:=u.tuple G;refine iZ (show s1.heap.IsTuple a y.toArray from p) ?_
  refine⟨s1.heap.objs.size,[s1.heap.objs.size],_,_,L,rfl,u.kept (t':=s1.toks) fun b o e=>ak _ e,zeW a _,⟨_,az _ rfl,rfl,rfl⟩,fun b C=>?_,q⟩
  have e:b=s1.heap.objs.size:=by simpa using C
  subst e;exact u.fpOk (aA _) (u.hok.fresh (aA _))
def dItA(d:DTE):DTA:=fun l n R=>d l n fun t u=>JX t fun ts=>R ts u
theorem zoR(h:DE X iter d):DI X tg iter (dItA d):=by
 obtain⟨Y,pa,h⟩:=h;refine⟨_,zrX pa,fun C G σ H n Q R S hd y=>?_⟩
 refine h C G σ H n _ _ S hd fun t J v L r I N q=>?_
 cases t with
 | tuple ts =>
  obtain⟨p,x,rfl,u,it⟩:=zoH (P:=fun a=>¬Own C G σ a) (fun _ z=>z) q
  exact⟨p,rfl,.inr ⟨⟨x,u⟩,y ts J _ L r I N it⟩⟩
 | list ts =>
  obtain⟨p,x,rfl,u,no,U⟩:=q.lstI;exact⟨p,rfl,.inl ⟨⟨x,SqL.of u⟩,y ts J _ L r I N (Vw u no (fun _ z=>z) U)⟩⟩
 | _=>exact r.elim
end
section
variable{ρ:En}{n:Nat}{d:DTE}{Rl:List af->Nat->Prop}
instance zwX:Stp (dItA d ρ n Rl) (d ρ n fun t n'=>JX t fun ts=>Rl ts n'):=⟨fun h=>h⟩
end
theorem Vy{bits:Int}{p q:Int×Int}(P:IsBk bits p.1 p.2)(Q:IsBk bits q.1 q.2){x:Int}(u:p.1<=x/\x<eB p)(v:q.1<=x/\x<eB q):(p.1<=q.1/\eB q<=eB p/\q.2<=p.2)\/(q.1<=p.1/\eB p<=eB q/\p.2<=q.2):=by
 unfold eB at *;rcases tW q.2.toNat p.2.toNat with l|l
 ·rcases zhK P.n Q.n l with z|z|z
  ·left
   have:=(zlK P.n Q.n).mp z;have:=P.1;have:=Q.1;lia
  ·lia
  ·lia
 ·rcases zhK Q.n P.n l with z|z|z
  ·right
   have:=(zlK Q.n P.n).mp z;have:=P.1;have:=Q.1;lia
  ·lia
  ·lia
theorem zmA{bits i h:Int}(B:IsBk bits i h):i % 2 ^ h.toNat=0:=by
 obtain⟨_,_,k,_,rfl,_⟩:=B;exact Int.mul_emod_left _ _
theorem Jp.great:∀{bs:qB}{lo hi:Int},Jp lo hi bs->∀b∈bs,QC b.1 hi b.2.toNat/\lo<=b.1
 | [],_,_,_=>fun b v=>nomatch v
 | b::r,lo,hi,h=>by
  obtain⟨y,x,C,l,u⟩:=h;have p:=Bd.JA b.2.toNat;intro c hc;rcases aw.mp hc with rfl|hc
  ·rw[x];exact⟨l,bh _⟩
  ·have:=Jp.great u c hc;exact⟨this.1,by lia⟩
theorem Jp.max{bits:Int}(U:0<=bits){bs:qB}{lo hi:Int}(S:Jp lo hi bs)(l0:0<=lo)(l1:hi<=2 ^ bits.toNat){p q:Int×Int}(I:p∈bs)(Q:IsBk bits q.1 q.2)(w:lo<=q.1/\eB q<=hi)(i:q.1<=p.1/\eB p<=eB q):q=p:=by
 have B:=S.blk U l0 l1;have P:=B p I;have pp:=Bd.JA p.2.toNat;have pq:=Bd.JA q.2.toNat;have nest:=Vy P Q (x:=p.1) ⟨bh _,by unfold eB;lia⟩ ⟨i.1,by unfold eB at *;lia⟩
 have hle:p.2<=q.2:=by
  rcases nest with⟨a,b,c⟩|⟨a,b,c⟩
  ·have u:p.1=q.1:=by lia
   have L:eB p=eB q:=by lia
   unfold eB at L;rcases iR q.2 p.2 with z|z
   ·have p0:=P.1;have q0:=Q.1;have:=Uj (show q.2.toNat+1<=p.2.toNat by lia)
    rw[bW]at this;lia
   ·exact z
  ·exact c
 have p0:=P.1;have q0:=Q.1
 by_cases e:p.2=q.2
 ·have u:(2:Int) ^ p.2.toNat=2 ^ q.2.toNat:=by rw[e]
  have:q.1=p.1:=by unfold eB at *;lia
  exact kc this e.symm
 ·exfalso;have J:p.2.toNat+1<=q.2.toNat:=by lia
  have dq:=zmA Q;have y:=U2 J dq;have G:=(S.great p I).1
  by_cases ev:p.1 % 2 ^ (p.2.toNat+1)=0
  ·
   apply G.2.2;refine⟨ev,?_⟩;obtain⟨a,l⟩:=aZ ev;have de:eB q % 2 ^ (p.2.toNat+1)=0:=by
    unfold eB;rw[nX,y,df (zc7 J)];simp
   obtain⟨c,v⟩:=aZ de;have lt:p.1<eB q:=by have:=i.2;unfold eB at *;lia
   rw[l,v]at lt;have pos:=Bd.JA (p.2.toNat+1);have ac:a<c:=kA lt (by lia)
   have:=bw (show a+1<=c by lia) (show(0:Int)<=2 ^ (p.2.toNat+1) by lia)
   rw[oN,kD,<- l,<- v]at this;lia
  ·
   have IA:(p.1 - 2 ^ p.2.toNat) % 2 ^ (p.2.toNat+1)=0:=by
    obtain⟨k,ek⟩:=aZ (zmA P);have L:(2:Int) ^ (p.2.toNat+1)=2 ^ p.2.toNat*2:=bW _ _;rw[L]at ev ⊢;have odd:k % 2=1:=by
     rcases o7 k with z|z
     ·exfalso;obtain⟨t,et⟩:=aZ z;apply ev;apply df;exact⟨t,by rw[ek,et,dO]⟩
     ·exact z
    apply df;refine⟨(k - 1) / 2,?_⟩;have:k - 1=2*((k - 1) / 2):=by lia
    rw[ek,dO,<- this,Int.mul_sub,kD]
   have lowq:q.1<=p.1 - 2 ^ p.2.toNat:=by
    obtain⟨a,l⟩:=aZ IA;obtain⟨c,v⟩:=aZ y;have pos:=Bd.JA (p.2.toNat+1);have L:(2:Int) ^ (p.2.toNat+1)=2 ^ p.2.toNat*2:=bW _ _;have lt:q.1<p.1 - 2 ^ p.2.toNat+2 ^ (p.2.toNat+1):=by lia
    rw[l,v]at lt;have:(2:Int) ^ (p.2.toNat+1)*c<2 ^ (p.2.toNat+1)*(a+1):=by rw[oN,kD];exact lt
    have ca:=kA this (by lia)
    have:=bw (show c<=a by lia) (show(0:Int)<=2 ^ (p.2.toNat+1) by lia)
    rw[<- l,<- v]at this;exact this
   obtain⟨c,hc,c1,c2⟩:=(S.mem (p.1 - 2 ^ p.2.toNat)).mpr ⟨by lia,by have:=S.in p I;unfold eB at this;lia⟩
   have C:=B c hc;have pc:=Bd.JA c.2.toNat;have cp:eB c<=p.1:=by
    obtain⟨i1,h1,rfl⟩:=bL hc;obtain⟨Z,h2,rfl⟩:=bL I;rcases dU i1 Z with z|z|z
    ·exact bK.mp S.pw i1 Z h1 h2 z
    ·subst z;lia
    ·have:=bK.mp S.pw Z i1 h2 h1 z;unfold eB at this;lia
   have LB:IsBk bits (p.1 - 2 ^ p.2.toNat) (p.2+1):=by
    have hq1:=Q.2.1;obtain⟨a,l⟩:=aZ IA;have u:(p.2+1).toNat=p.2.toNat+1:=by lia
    have pos:=Bd.JA (p.2.toNat+1);have a0:0<=a:=by
     rcases iR a 0 with z|z
     ·have:=gv pos z;have:=(Q.bounds U).1;lia
     ·exact z
    refine⟨by lia,by lia,a,a0,by rw[u,l,dw],?_⟩
    have e:(2:Int) ^ bits.toNat=2 ^ (bits - (p.2+1)).toNat*2 ^ (p.2.toNat+1):=by rw[<- dP];congr 1;lia
    have up:a*2 ^ (p.2.toNat+1)<2 ^ (bits - (p.2+1)).toNat*2 ^ (p.2.toNat+1):=by
     rw[<- e,dw,<- l];have:=(P.bounds U).2;lia
    exact km up (by lia)
   have u:(p.2+1).toNat=p.2.toNat+1:=by lia
   have n3:=Vy (p:=c) (q:=(p.1 - 2 ^ p.2.toNat,p.2+1)) C LB (x:=p.1 - 2 ^ p.2.toNat) ⟨c1,c2⟩ ⟨bh _,by show _<_+2 ^ (p.2+1).toNat;have:=Bd.JA (p.2+1).toNat;lia⟩
   have eL:eB (p.1 - 2 ^ p.2.toNat,p.2+1)=p.1+2 ^ p.2.toNat:=by
    show p.1 - 2 ^ p.2.toNat+2 ^ (p.2+1).toNat=_
    rw[u,bW];lia
   rcases n3 with⟨Y,z2,R⟩|⟨Y,z2,R⟩
   ·lia
   ·have Y:p.1 - 2 ^ p.2.toNat<=c.1:=Y;have R:c.2<=p.2+1:=R;have cb:c.1=p.1 - 2 ^ p.2.toNat:=by lia
    have c0:=C.1;have ch:c.2<=p.2:=by
     rcases iR p.2 c.2 with z|z
     ·have:c.2=p.2+1:=by lia
      unfold eB at cp;rw[this,u,bW]at cp;lia
     ·exact z
    have Gc:=(S.great c hc).1;apply Gc.2.2;refine⟨?_,?_⟩
    ·rw[cb];exact U2 (show c.2.toNat+1<=p.2.toNat+1 by lia) IA
    ·have:=Uj (show c.2.toNat+1<=p.2.toNat+1 by lia)
     have L:(2:Int) ^ (p.2.toNat+1)=2 ^ p.2.toNat*2:=bW _ _;have:=S.in p I;unfold eB at this;lia
theorem NR.one{rs:List Run}(l:NR rs){a b:Int}(h:a<b)(w:∀x,a<=x->x<b->mR x rs):∃r∈rs,r.1<=a/\b<=r.2:=by
 obtain⟨r,u,G,J⟩:=w a (bh _) h;refine⟨r,u,G,?_⟩;rcases iR r.2 b with z|z
 ·exfalso;obtain⟨s,C,k1,k2⟩:=w r.2 (by lia) z
  obtain⟨i,hi,rfl⟩:=bL u;obtain⟨j,v,rfl⟩:=bL C;have I:=l.1 _ u;have L:=l.1 _ C;rcases dU i j with y|y|y
  ·have:=bK.mp l.2 i j hi v y;lia
  ·subst y;lia
  ·have:=bK.mp l.2 j i v hi y;lia
 ·exact z
theorem PatS.from:∀{rs:List Run}{ps:qB},PatS rs ps->∀p∈ps,∃r∈rs,∃bs,Jp r.1 r.2 bs/\p∈bs
 | [],_,h=>by cases(show _=[] from h);exact fun b u=>nomatch u
 | s::rs,_,h=>by
  obtain⟨a,b,rfl,x,y⟩:=h;intro p l;rcases aE.mp l with l|l
  ·exact⟨s,by simp,a,x,l⟩
  ·obtain⟨r,v,bs,B,u⟩:=PatS.from y p l
   exact⟨r,by simp[v],bs,B,u⟩
theorem CanP.max{bits:Int}(U:0<=bits){S:Int->Prop}{ps:qB}(h:CanP S ps)(w:∀x,S x->0<=x/\x<2 ^ bits.toNat){p q:Int×Int}(hp:p∈ps)(Q:IsBk bits q.1 q.2)(Y:∀x,q.1<=x->x<eB q->S x)(i:q.1<=p.1/\eB p<=eB q):q=p:=by
 obtain⟨rs,v,G,P⟩:=h;obtain⟨r,l,bs,B,N⟩:=P.from p hp
 have lt:=v.1 r l;have R:=w r.1 ((G _).mp ⟨r,l,bh _,lt⟩);have w2:=w (r.2 - 1) ((G _).mp ⟨r,l,by lia,by lia⟩)
 have pin:=B.in p N;have pp:=QU p;obtain⟨s,Z,s1,s2⟩:=v.one (a:=q.1) (b:=eB q) (QU q) fun x u C=>(G x).mpr (Y x u C)
 have J:r=s:=by
  obtain⟨L,u,rfl⟩:=bL l;obtain⟨I,C,rfl⟩:=bL Z;rcases dU L I with y|y|y
  ·have:=bK.mp v.2 L I u C y;lia
  ·subst y;rfl
  ·have:=bK.mp v.2 I L C u y;lia
 subst J;exact B.max U R.1 (by lia) N Q ⟨s1,s2⟩ i
theorem zgQ:∀{ps bs:qB},(ps.Pairwise fun a b=>eB a<=b.1)->(∀p∈ps,∃b∈bs,p.1<=b.1/\b.1<eB p)->ps.length<=bs.length
 | [],_,_,_=>eV _
 | p::ps,bs,pw,h=>by
  obtain⟨b,u,G,C⟩:=h p (by simp)
  have l:=eM.mp pw;have:=zgQ (ps:=ps) (bs:=bs.erase b) l.2 fun q v=>by
   obtain⟨c,hc,x,y⟩:=h q (by simp[v])
   refine⟨c,(List.mem_erase_of_ne ?_).mpr hc,x,y⟩;rintro rfl;have:=l.1 q v;lia
  have e:=List.length_erase_of_mem u;have:=List.length_pos_of_mem u;rw[aT];lia
theorem CanP.le{bits:Int}(v:0<=bits){bs ps:qB}(B:Bks bits bs)(h:CanP (fun x=>mB x bs) ps):ps.length<=bs.length:=by
 have w:∀x,mB x bs->0<=x/\x<2 ^ bits.toNat:=fun x ⟨b,l,G,C⟩=>by
  have:=(B b l).bounds v;unfold eB at C;lia
 have P:=h.ptc v w;refine zgQ P.2 fun p y=>?_
 have pp:=QU p;obtain⟨b,l,G,C⟩:=(h.mem p.1).mp ⟨p,y,bh _,pp⟩;rcases Vy (P.1 p y) (B b l) (x:=p.1) ⟨bh _,pp⟩ ⟨G,C⟩ with z|z
 ·exact⟨b,l,z.1,by have:=QU b;lia⟩
 ·have:=h.max v w y (B b l) (fun x J I=>⟨b,l,J,I⟩) ⟨z.1,z.2.1⟩
  subst this;exact⟨b,l,bh _,pp⟩
section
variable{Q:af->Prop}{s t:Str}{i j:Int}{b:Bool}{xs ys:qD}
theorem zkX:Okd .none:=znw.okd
instance zwE:Stp (oNe (.str s) .none Q) (Okd (.str s)/\Q (.bool true)):=⟨fun h=>⟨h.1,zkX,h.2⟩⟩
end
end L2
namespace Bd
open PySem L2
def UK(nm:af):Prop:=nm=.none\/∃s,nm=.str s/\IsNm s
def who(s:Str):af->Bool
 | .str t=>decide (s=t)
 | _=>false
def JV(d:Deal)(nm:af):List (Int×Int):=(d.2.2.filter fun p=>!who p.2 nm).map (·.1)
end Bd
namespace L2
open PySem PySem.Spec PyProof.Rows
section
variable{X:Cx}{a b e o:aP}{d da db:DTE}{ds:DTA}{pos p:Pos}{x y:Str}
def zrB(i j:Nat)(ds:DTA)(d:DTE):DTS:=fun D u n=>ds u n fun ts G=>d u G fun t C=>JS t=true/\D.nx ((u.set i (some (.own ts))).set j (some (.val t))) C
theorem zqu{i j:Nat}{L py pt:Pos}{kt k2 pt2}(hc:X.calm=true)(hN:X.N.Nodup)(hi:X.N[i]?=some x)(hj:X.N[j]?=some y)(hij:i≠j)
  (hx:X.env.scope.names.lookup x=some .local) (hy:X.env.scope.names.lookup y=some .local) (h:DN X a ds) (h':DE X b d)
  (hs1:starEach [a,b] X.env=(false,eval a X.env)::starEach [b] X.env:=by rfl) (hs2:starEach [b] X.env=[(false,eval b X.env)]:=by rfl)
  (hw:swappedStores [.Tuple [.Name x L,.Name y py] kt pt] (.Tuple [a,b] k2 pt2) X.env=pure (some [x,y]):=by rfl)
  (hs:swapsWithSole [.Tuple [.Name x L,.Name y py] kt pt] (.Tuple [a,b] k2 pt2) pos.line X.env=pure false:=by rfl) :
  DS X (.Assign [.Tuple [.Name x L,.Name y py] kt pt] (.Tuple [a,b] k2 pt2) pos) (zrB i j ds d):=by
 obtain⟨ta,pa,h⟩:=h;obtain⟨tb,pb,h'⟩:=h';refine⟨_,zoA hc hN hi hj hij hx hy (Qn pa (Qn pb Q3 hs2) hs1) hw hs,fun C G σ H n D D' S hd g=>?_⟩
 refine h C G σ H n _ _ S hd fun ts n1 p vs H1 r1 Z h1 hp U q1=>?_
 have S1:=S.on Z h1;refine h' C G σ H1 n1 _ _ S1 r1 fun t n2 v Y r2 I h2 q2=>?_
 refine⟨_,_,rfl,?_⟩;have R:C.hd≠some p:=fun z=>S.dom (.inl (S.hx p z)) hp
 have J:Reps X.K C.hd (fun a=>Own C G σ a\/a=p) Y vs ts:=q1.mono (fun _ _ _ z=>z) fun a o no ha=>I a o ha fun z=>no (.inl (.inl (S.hx a z)))
 have SO:=S.putOwn (i:=i) (Z.trans I) h2 hp (I p _ U R) J;have q2':Rep X.K C.hd (Own C (G.set i (some (.own ts))) (σ.set i (some (.ref p)))) Y v t:=q2.up (fun a ha=>SO.lst ha) r2.1
 exact g.nx _ _ Y n2 r2.2 (SO.put q2') ((zcE (Z.trans I) hp).trans QL)
variable{ρ ρ':En}{n i j l k:Nat}{D:JN}{init us:qD}{t:af}
instance zwD:Stp (zrB i j ds d D ρ n) (ds ρ n fun ts n1=>d ρ n1 fun t n2=>JS t=true/\SetK i (some (.own ts)) (fun ρ1 n1=>SetK j (some (.val t)) D.nx ρ1 n1) ρ n2):=⟨fun h=>h⟩
end
section
variable{X:Cx}{Q:af->Prop}{i j k:Int}
def min3(i j k:Int):Int:=if j<i then(if k<j then k else j) else(if k<i then k else i)
theorem zmo(hc:X.calm=true):JG X (.builtin "min") (fun xs H Q=>∃i j k,xs=[.int i,.int j,.int k]/\Q (.int (min3 i j k)) H):=by
 intro pins s σ H xs J Q I r h;obtain⟨i,j,k,rfl,q⟩:=h;cases r with
 | cons y r =>
  obtain⟨v,G,rfl,⟨t',rfl⟩,⟨x,rfl⟩⟩:=vals2 r;obtain⟨t,rfl⟩:=y;refine min_three_ints (I.ok.hd hc) fun h' tk C=>⟨_,H,I.kept C,?_,q⟩
  unfold min3
  by_cases h1:j<i <;> by_cases h2:k<j <;> by_cases h3:k<i <;> simp only[h1,h2,h3,if_true,if_false] <;> exact⟨_,rfl⟩
def ZO:GC
 | [.int i,.int j,.int k],R=>R (.int (min3 i j k))
 | _,_=>False
theorem zqk:GpC X (fun xs H Q=>∃i j k,xs=[.int i,.int j,.int k]/\Q (.int (min3 i j k)) H) ZO:=by
 intro hd O H xs ts Q R dom rs h u;unfold ZO at h;split at h
 ·cases rs with
  | cons x rs =>
   obtain⟨v,w,rfl,l,y⟩:=Va rs;rw[x.intI,l.intI,y.intI];exact⟨_,_,_,rfl,u _ _ H h (Same.refl H) (.int _)⟩
 ·exact h.elim
theorem zsW{R:af->Prop}(h:R (.int (min3 i j k))):ZO [.int i,.int j,.int k] R:=h
instance{R:af->Prop}:Stp (ZO [.int i,.int j,.int k] R) (R (.int (min3 i j k))):=⟨fun h=>zsW h⟩
end
end L2
namespace L2
open PySem Bd
theorem CanP.hold{bits:Int}(u:0<=bits){S:Int->Prop}{ps:qB}(h:CanP S ps)(w:∀x,S x->0<=x/\x<2 ^ bits.toNat){b:Int×Int}(B:IsBk bits b.1 b.2)(v:∀x,b.1<=x->x<eB b->S x):∃p∈ps,p.1<=b.1/\eB b<=eB p:=by
 have P:=h.ptc u w;have lt:=QU b;obtain⟨p,l,y,p2⟩:=(h.mem b.1).mpr (v b.1 (bh _) lt);rcases Vy (P.1 p l) B (x:=b.1) ⟨y,p2⟩ ⟨bh _,lt⟩ with z|z
 ·exact⟨p,l,z.1,z.2.1⟩
 ·have e:=h.max u w l B v ⟨z.1,z.2.1⟩;exact⟨p,l,by rw[e];exact bh _,by rw[e];exact bh _⟩
variable{as bs cs:List Run}{a b:Nat}
end L2
namespace L2
open PySem PySem.Spec PyProof.Rows
abbrev KT(H:Hp):List (List Key×V)->List (List Key×aq×ah)->Prop:=cZ fun p q=>p.1=q.1/\H q.2.1=some (.tup (p.1.map kV))/\RelV p.2 q.2.2
def NoSl(i:aP):Prop:=∀l u,subscripted i false l u=operate [l,u] (getItem l u)
theorem zkh{prog:aK}{w:aQ}{A:br}{E:qV}{s:au}{env:Env}{value slice:aP}{pos:Pos}{T id:String}{Q:qV}
  (U:typeLookup (.type T) "__getitem__" = pure (some (.builtin id))) (R:NoSl slice)
  (h:wpAny (model prog w) A (eval value env) (fun o G=>wpAny (model prog w) A (eval slice env) (fun i v=>v.TypeIs o T/\wpAny (model prog w) A (getItem o i) Q E v) E G) E s) :
  wpAny (model prog w) A (eval (.Subscript value slice pos) env) Q E s:=by
 refine pL (cQ h (fun o G L=>cQ L (fun i v C=>?_) fun _ _ x=>x) fun _ _ x=>x)
 obtain⟨N,C⟩:=C;unfold subscriptTail;refine aa ?_;rw[getitemInPython_of_ne N.not_modules];refine aa (o9 N U ?_);have fin:wpAny (model prog w) A (subscripted slice false o i) (fun r I=>wpAny (model prog w) A (letTemporaryGo value o r >>= fun _=>pure r) Q E I) E v:=by
  rw[R o i];exact wpAny_operating (cQ C (fun r I J=>aa (wpAny_letTemporaryGo (aj J))) fun _ _ x=>x)
 first
  | exact aj (aa fin)
  | exact aa (aj (aa fin))
  | exact aa fin
end L2
namespace L2
open PySem PySem.Spec PyProof PyProof.Rows
abbrev KD:=List (Key×af)
section
variable{D:JN}{ρ ρ':En}{n i j:Nat}{d dk dv:DTE}{R:qN}{ks:KD}
instance{ks:KD}:CapC (some (.dct ks)) (some (.rdo ks)):=⟨rfl⟩
instance{ks:KD}:CapC (some (.rdo ks)) (some (.rdo ks)):=⟨rfl⟩
end
theorem zgv{α u:Type}{P:α->u->Prop}:∀{l:List α}{m:List u},l.length=m.length->(∀(j:Nat) a b,l[j]?=some a->m[j]?=some b->P a b)->cZ P l m
 | [],[],_,_=>.nil
 | a::l,b::m,h,k=>.cons (k 0 a b rfl rfl) (zgv (by simpa using h) fun j a b v x=>k (j+1) a b v x)
 | [],_::_,h,_=>by simp at h
 | _::_,[],h,_=>by simp at h
section
variable{X:Cx}{x:Str}{pos p p1:Pos}
theorem zky{K:qF}{hd:Option aq}{O:aq->Prop}{H:Hp}:∀u:List Int,Reps K hd O H (u.map V.int) (u.map bH)
 | []=>.nil
 | j::u=>.cons (.int _) (zky u)
end
theorem zgk{a b c:Int}:0<=bE a b c:=by
 unfold bE;split
 ·split
  ·have:=eR (a:=b - a - 1) (b:=c) (by lia) (by lia);lia
  ·lia
 ·split
  ·have:=eR (a:=a - b - 1) (b:=-c) (by lia) (by lia);lia
  ·lia
theorem zjG{a b c:Int}(y:-(2 ^ 60)<=a)(I:a<2 ^ 60)(C:-(2 ^ 60)<=b)(v:b<2 ^ 60)(x:-(2 ^ 29)<=c)(u:c<2 ^ 29)(h0:c≠0):mO a b c=true:=by
 have l:bE a b c<2 ^ 62:=by
  unfold bE;split
  ·split
   ·have:=lx (a:=b - a - 1) c (by lia)
    lia
   ·lia
  ·split
   ·have:=lx (a:=a - b - 1) (-c) (by lia)
    lia
   ·lia
 have G:=zgk (a:=a) (b:=b) (c:=c);unfold mO;simp only[pf,aG,o5,decide_eq_true_eq,beq_iff_eq];split <;> simp only[aG,decide_eq_true_eq] <;> lia
theorem Z4{bits:Int}(l:0<=bits){bs:qB}(B:Bks bits bs){x:Int}(h:mB x bs):0<=x/\x<2 ^ bits.toNat:=by
 obtain⟨b,v,C,y⟩:=h;have:=(B b v).bounds l;unfold eB at y;lia
theorem zpI{bits:Int}(v:0<=bits)(y:bits<=64){S:Int->Prop}{rs:qB}(u:NR rs)(e:∀x,mR x rs↔S x)(w:∀x,S x->0<=x/\x<2 ^ bits.toNat):∀r∈rs,0<=r.1/\r.1<=r.2/\r.2<=2 ^ 64:=fun r l=>by
 have lt:=u.1 r l;have a:=w r.1 ((e _).mp ⟨r,l,bh _,lt⟩);have b:=w (r.2 - 1) ((e _).mp ⟨r,l,by lia,by lia⟩)
 have:=Bd.Ys (k:=bits.toNat) (by lia)
 lia
section
variable{X:Cx}
theorem zcC{α v:Type}{F:α->v->Prop}{u:List α}{l:List v}(r:cZ F u l){b:v}(h:b∈l):∃a∈u,F a b:=by
 induction r with
 | nil=>cases h
 | cons f t y =>
  rcases aw.mp h with rfl|h
  ·exact⟨_,c8,f⟩
  ·obtain⟨b,x,g⟩:=y h;exact⟨b,cJ _ x,g⟩
end
end L2
namespace Bd
open PySem L2
theorem zri{s:Str}(h:bu (.str s)=true)(hc:∀c∈s.cps.toList,c<16 ^ 8):Sm s.cps.size 0 (.str s) :=
 ⟨by
  simp only[gL,bg,decide_eq_true_eq];exact hc,rfl,h,aA _,aA _⟩
theorem zu6{s:Str}(h:IsNm s):Sm 8 0 (.str s):=(zri (YW h).1 fun c hc=>by have:=(h.2.2 c hc).2;lia).mono h.2.1 (aA _)
theorem zof{ts:qD}{lo hi:Option Int}{t:af}(h:t∈cutD ts lo hi):t∈ts:=by
 unfold cutD at h;exact mC (fZ h)
theorem zfZ{ts:qD}{lo hi:Option Int}:(cutD ts lo hi).length<=ts.length:=by
 unfold cutD;rw[fi,eE];lia
end Bd
namespace Bd
open PySem L2
def Dq(K:qF)(mg:qM)(x:Str)(st:dD)(ps:List Str):Prop:=∃f fd,Def K mg x st ps f fd
def Fq(P:aK)(w:aQ)(K:qF)(mg:qM)(base:aN)(x:Str)(st:dD)(ps:List Str)(k:Nat)(l:Sp):Prop:=∃f fd,Def K mg x st ps f fd/\FnOk P w K mg base CX0 k f fd ps l
end Bd
namespace L2
open PySem PySem.Spec PyProof.Rows
section
variable{X:Cx}{x:Str}{st:dD}{ps:List Str}{k n m:Nat}{g:GD}{e:aP}{es:List aP}{ds:DTA}{p pos:Pos}
theorem Jd(F:Bd.Fq X.prog X.w X.K X.mg X.base x st ps k (spD X.K m g))(v:Room n X.A)(h:DB X (e::es) ds)(I:k<=n:=by decide)(y:(e::es).length=m:=by rfl)(J:Gl X x:=by rfl)
  (u:(x == ("__debug__":Str))=false:=by rfl):DE X (.Call (.Name x p) (e::es) [] pos) (dFn g ds):=by
 obtain⟨f,fd,D,G⟩:=F;exact zwt D G (v.mono I) h y J u
theorem zt2(F:Bd.Fq X.prog X.w X.K X.mg X.base x st ps k (spD X.K m g))(v:Room n X.A)(h:DBL X (e::es) ds)(I:k<=n:=by decide)(y:(e::es).length=m:=by rfl)(J:Gl X x:=by rfl)
  (u:(x == ("__debug__":Str))=false:=by rfl):DE X (.Call (.Name x p) (e::es) [] pos) (dFnL g ds):=by
 obtain⟨f,fd,D,G⟩:=F;exact zt3 D G (v.mono I) h y J u
end
section
variable{X:Cx}{hx s kx x:Str}{st:dD}{ps:List Str}{k n:Nat}{p p1 p2 p3 pos pos':Pos}{sts:List dD}{u:DTS}
theorem zlW{i j:Nat}(F:Bd.Fq X.prog X.w X.K X.mg X.base hx st ps k (Vb X.K))(Z:Room n X.A)(hN:X.N.Nodup)(hi:X.N[i]?=some x)(L:Loc X.env.scope x)(hu:DSs X sts u)(hk:k<=n:=by decide)(Y:i≠0:=by decide)(v:j≠0:=by decide)(y:j≠i:=by decide)
  (h0:X.N[0]?=some s:=by rfl) (hj:X.N[j]?=some kx:=by rfl) (S:Vis X.env.scope s:=by walk_at "V") (U:Vis X.env.scope kx:=by walk_at "V")
  (I:(s == ("__debug__":Str))=false:=by rfl) (IU:(s == ("__classdict__":Str))=false:=by rfl) (R:(kx == ("__debug__":Str))=false:=by rfl) (IV:(kx == ("__classdict__":Str))=false:=by rfl) (hg:Gl X hx:=by rfl) (J:(hx == ("__debug__":Str))=false:=by rfl)
  (hs:swapsWith (.Call (.Name hx p) [.Name s p1,.Name kx p2] [] p3) (some (.Name x pos')) pos.line X.env=pure false:=by rfl) (hf:X.fn x=true\/X.env.scope.names.lookup x=some .local:=by walk_at "F") :
  DSs X (.Assign [.Name x pos'] (.Call (.Name hx p) [.Name s p1,.Name kx p2] [] p3) pos::sts) (U7 i j u):=by
 obtain⟨f,fd,D,G⟩:=F;exact zn6 D G (Z.mono hk) hN hi L hu Y v y h0 hj S U I IU R IV hg J hs hf
end
end L2
namespace Bd
open PySem L2
section
variable{K:qF}{h:aN}{mg:qM}{x:Str}{st:dD}{ps:List Str}
abbrev BndA(x:Str)(st:dD)(ps:List Str):Prop:=∀(kV doc pm:ah) (an:Option aq) (cdv ct:ah) (us:List ah),us.length=ps.length->bindArgs (dm x x (Qu st) (J3 st) (JH st) .none kV doc pm an cdv ct) ⟨us,[]⟩=pure (ps.zip us)
theorem lenS{l:List ah}{n:Nat}(h:l.length=n+1):∃a t,l=a::t/\t.length=n:=by
 cases l with
 | nil=>cases h
 | cons a t=>exact⟨a,t,rfl,tY h⟩
theorem len1{l:List ah}(h:l.length=1):∃a,l=[a]:=by
 obtain⟨a,t,rfl,e⟩:=lenS h;exact⟨a,by rw[List.eq_nil_of_length_eq_zero e]⟩
theorem len2{l:List ah}(h:l.length=2):∃a b,l=[a,b]:=by
 obtain⟨a,t,rfl,e⟩:=lenS h;obtain⟨b,rfl⟩:=len1 e;exact⟨a,b,rfl⟩
theorem len3{l:List ah}(h:l.length=3):∃a b c,l=[a,b,c]:=by
 obtain⟨a,t,rfl,e⟩:=lenS h;obtain⟨b,c,rfl⟩:=len2 e;exact⟨a,b,c,rfl⟩
theorem len4{l:List ah}(h:l.length=4):∃a b c d,l=[a,b,c,d]:=by
 obtain⟨a,t,rfl,e⟩:=lenS h;obtain⟨b,c,d,rfl⟩:=len3 e;exact⟨a,b,c,d,rfl⟩
theorem len5{l:List ah}(h:l.length=5):∃a b c d e,l=[a,b,c,d,e]:=by
 obtain⟨a,t,rfl,e⟩:=lenS h;obtain⟨b,c,d,f,rfl⟩:=len4 e;exact⟨a,b,c,d,f,rfl⟩
end
end Bd
namespace L2
open PySem PySem.Spec PyProof PyProof.Rows
section
variable{prog:aK}{w:aQ}{A:br}{E:qV}{s:au}
theorem zih{l:aq}{items:Array ah}{Q:List ah->au->Prop}(J:lY s.heap l items)(U:A.handled=none)(S:2<=items.size)(Z:items.size<=sizeLine)
  (h:∀(h':aN) (tk:Nat),(∀b o,s.heap.get? b=some o->h'.get? b=some o)->Q (items.toList.take 2++[.ref h'.objs.size]) { s with heap:=h'.push { cls:=.type "list",data:=.seq (items.toList.drop 2).toArray },toks:=tk }) :
  wpAny (model prog w) A (unpackItems (.ref l) 3 (some 2)) Q E s:=by
 have G:l≠s.heap.objs.size:=by obtain⟨o,N,_⟩:=J;exact aF (ay N)
 unfold unpackItems;refine aa ?_;unfold notIterableAtAll;refine aa (o9 J.typeIs slot_tuple_iter.lookup (aj ?_));simp only[aI,if_false];refine aa (bO (iter_tuple J ?_));refine aa (bO (draw_tuple G 2 0 _ _ ⟨_,az _ rfl,rfl,rfl⟩ (J.push _) (by lia) fun v hit L=>?_))
 have C:lY v l items:=(J.push _).extBut L.extBut G;have a1:∃o,v.get? s.heap.objs.size=some o:=by obtain⟨o,q,_⟩:=hit;exact⟨o,q⟩
 have a2:∃o,v.get? l=some o:=by obtain⟨o,q,_⟩:=C;exact⟨o,q⟩
 obtain⟨o1,a1⟩:=a1;obtain⟨o2,a2⟩:=a2;rw[mw];have fl:(items.toList.take 2).length=2:=by rw[fi,dB];lia
 rw[if_neg (show ¬((items.toList.take 2).length<2) by lia)]
 refine aa (bO (PySem.W.kun_collect (s:={ s with heap:=v }) (T:="tuple_iterator") (.inr (.inr (.inr rfl))) (Walks.tuple (A:=A.in1) U s.heap.objs.size l G items) (fun j u st=>st.1.typeIs) (k:=2) S ⟨hit,C⟩ (ay a1) (ay a2) (fun I tk Y=>?_) Z))
 rw[if_neg (by lia)]
 show wpAny _ _ (newList ((items.toList.drop 2).take ((items.toList.drop 2).length - (3 - 1 - 2))) >>= fun d=>pure (items.toList.take 2++[d]++(items.toList.drop 2).drop ((items.toList.drop 2).length - (3 - 1 - 2)))) _ _ _
 have R:(items.toList.drop 2).take ((items.toList.drop 2).length - (3 - 1 - 2))=items.toList.drop 2:=hV (by lia)
 have e2:(items.toList.drop 2).drop ((items.toList.drop 2).length - (3 - 1 - 2))=[]:=List.drop_of_length_le (by lia)
 rw[R,e2];refine aa (iB (aj ?_) (by rw[eE,dB];lia))
 rw[bT];exact h I tk fun b o q=>Y b o (aF (ay q)) (L.extBut b o (aF (ay q)) (ak _ q))
end
theorem zps{xs:List V}{u:List ah}(r:Vals xs u):Vals (xs.drop 2) (u.drop 2):=by
 cases r with
 | nil=>exact .nil
 | cons _ r=>cases r with
  | nil=>exact .nil
  | cons _ r=>exact r
theorem zpr{xs:List V}{x:List ah}{v:V}{u:ah}(r:Vals xs x)(q:RelV v u):Vals (xs.take 2++[v]) (x.take 2++[u]):=by
 cases r with
 | nil=>exact .cons q .nil
 | cons a r=>cases r with
  | nil=>exact .cons a (.cons q .nil)
  | cons b r=>exact .cons a (.cons b (.cons q .nil))
section
variable{X:Cx}{a b c e:aP}{pos p3:Pos}{t:TGs}{te:TE}
def zwr(K:qF)(t:TGs):TG:=fun v σ H Q=>∃a xs,v=.ref a/\SqT K H a xs/\2<=xs.length/\∀p,H p=none->t (xs.take 2++[.ref p]) σ (upd H p (.lst (xs.drop 2))) Q
theorem zpi{k:Nat}(hc:X.calm=true)(h:PGs X [a,b,c] t)(Z:(assignEach [a,b,.Starred c p3] X.env).length=3:=by rfl)(J:(assignEach [a,b,.Starred c p3] X.env).findIdx? (·.1)=some 2:=by rfl)
  (Y:(assignEach [a,b,.Starred c p3] X.env).map (·.2)=(assignEach [a,b,c] X.env).map (·.2):=by rfl):PG X (.Tuple [a,b,.Starred c p3] k pos) (zwr X.K t):=by
 intro pins s σ H v u Q I r hw;obtain⟨q,xs,rfl,N,hl,hw⟩:=hw;cases r;obtain⟨C,G,U,hz⟩:=I.tuple N;have le:=G.length;rw[assign_Tuple];refine aa (dM ?_);unfold unpack;rw[Z,J,Y];refine aa (bO (zih U (I.ok.hd hc) (by rw[ax];lia) (by rw[ax];lia) fun h' tk kp=>?_))
 have L:Inv X pins σ H { s with heap:=h',toks:=tk }:=I.kept kp
 have R:Inv X pins σ (upd H h'.objs.size (.lst (xs.drop 2))) { s with heap:=h'.push { cls:=.type "list",data:=.seq (C.drop 2).toArray },toks:=tk }:=L.laid (t':=tk) (fun b o q=>ak _ q) (aA _) ⟨by rw[eE];lia,C.drop 2,0,zps G,az _ rfl⟩
 exact h pins _ σ _ _ _ Q R (zpr G (show RelV (.ref h'.objs.size) (.ref h'.objs.size) from rfl)) (hw _ (L.hok.fresh (aA _)))
end
section
variable{X:Cx}{e:aP}{x y z:Str}{pos px py pz p3 pt:Pos}{d:DTE}
def ZU(t:af)(Q:af->af->List af->Prop):Prop:=match t with
 | .tuple (x::y::r)=>Q x y r
 | _=>False
def zrz(i j k:Nat)(d:DTE):DTS:=fun D G n=>d G n fun t I=>ZU t fun x y r=>SetK i (some (.val x)) (fun u C=>SetK j (some (.val y)) (fun u C=>SetK k (some (.val (.list r))) D.nx u C) u C) G I
theorem zqs{i j k kt:Nat}(hc:X.calm=true)(L:X.N.Nodup)(hi:X.N[i]?=some x)(hj:X.N[j]?=some y)(hk:X.N[k]?=some z)(hx:Loc X.env.scope x)(hy:Loc X.env.scope y)(hz:Loc X.env.scope z)(h:DE X e d)
  (fx:X.fn x=true\/X.env.scope.names.lookup x=some .local:=by walk_at "F") (fy:X.fn y=true\/X.env.scope.names.lookup y=some .local:=by walk_at "F") (fz:X.fn z=true\/X.env.scope.names.lookup z=some .local:=by walk_at "F")
  (hs:swapsWithSole [.Tuple [.Name x px,.Name y py,.Starred (.Name z pz) p3] kt pt] e pos.line X.env=pure false:=by rfl) (hw:swappedStores [.Tuple [.Name x px,.Name y py,.Starred (.Name z pz) p3] kt pt] e X.env=pure none:=by rfl) :
  DS X (.Assign [.Tuple [.Name x px,.Name y py,.Starred (.Name z pz) p3] kt pt] e pos) (zrz i j k d):=by
 obtain⟨ta,pa,h⟩:=h;refine⟨_,Y4 pa (zpi hc (VI (Vn L hi hx fx) (VI (Vn L hj hy fy) (VI (Vn L hk hz fz) zkK)))) hs hw,fun C Y σ H n D D' S hd g=>?_⟩
 refine h C Y σ H n _ _ S hd fun t n' v U r Z hn q=>?_
 unfold ZU at r;split at r
 ·rename_i u w us;obtain⟨p,vs,rfl,h1,J⟩:=q.tupI;cases J with
  | cons ru J =>
   cases J with
   | @cons v2 d2 vr ds2 rw rs =>
    refine⟨p,_,rfl,h1,by simp,fun q I=>?_⟩
    have G:ExtE C.hd U (upd U q (.lst vr)):=ExtE.new I;have R:=S.on Z hn;have S2:=R.on G (hn.same (JO I));have r3:Rep X.K C.hd (Own C Y σ) _ (.ref q) (.list us):=.lst JJ (R.free I) (G.reps S.hx rs);have T1:=S2.put (i:=i) (G.rep S.hx ru);have T2:=T1.put (i:=j) (Keep.rep QL S.hx (G.rep S.hx rw));have T3:=T2.put (i:=k) (Keep.rep (QL.trans QL) S.hx r3);exact⟨_,_,rfl,_,_,rfl,_,_,rfl,rfl,g.nx _ _ _ n' r T3 ((Z.keep.trans G.keep).trans ((QL.trans QL).trans QL))⟩
 ·exact r.elim
end
def StD(P:aK)(w:aQ)(K:qF)(mg:qM)(x:Str)(y:List (Str×List Str)):Prop :=
 ∃(a:aq) (o:Obj) (v:Array dG) (C:Nat) (l:List (Str×ah)),mg x=some (.ref a)/\(a == sysModules)=false/\K.lookup a=some o/\o.ExactDict/\o.data=.dict v C/\KeysOf (strKind P w) v/\Pairs (strKind P w) v.toList l/\(l.map (·.1)).Nodup /\
  cZ (fun(p:Str×List Str) (q:Str×ah)=>p.1=q.1/\∃b,q.2=.ref b/\StT K b (p.2.map V.str)) y l
def getT(l:List (Str×List Str))(z:Str):Option (List Str):=(l.find? fun u=>decide (u.1=z)).map (·.2)
theorem zn3{K:qF}{l:List (Str×List Str)}{v:List (Str×ah)}(r:cZ (fun(p:Str×List Str) (q:Str×ah)=>p.1=q.1/\∃b,q.2=.ref b/\StT K b (p.2.map V.str)) l v)(z:Str) :
  (valueAt v z).isSome=(getT l z).isSome/\∀u,getT l z=some u->∃b,valueAt v z=some (.ref b)/\StT K b (u.map V.str):=by
 induction r with
 | nil=>exact⟨rfl,fun u h=>by cases h⟩
 | @cons p q ps qs h t ih =>
  obtain⟨x,b,y,I⟩:=h
  by_cases e:q.1=z
  ·have a1:valueAt (q::qs) z=some q.2:=by simp[valueAt,fJ,e]
   have a2:getT (p::ps) z=some p.2:=by simp[getT,fJ,x.trans e]
   rw[a1,a2];exact⟨rfl,fun u C=>by cases C;exact⟨b,by rw[y],I⟩⟩
  ·have a1:valueAt (q::qs) z=valueAt qs z:=by simp[valueAt,fJ,e]
   have a2:getT (p::ps) z=getT ps z:=by simp[getT,fJ,show ¬p.1=z from fun G=>e (x.symm.trans G)]
   rw[a1,a2];exact ih
section
variable{X:Cx}{e:aP}{x:Str}{pos p1:Pos}{d:DTE}{te:TE}{kvs:List (Str×List Str)}
theorem StD.at(h:StD X.prog X.w X.K X.mg x kvs):∃(a:aq) (l:List (Str×ah)),X.mg x=some (.ref a)/\(a == sysModules)=false/\(∀{pins σ H s},Inv X pins σ H s->s.heap.DictOf (strKind X.prog X.w) a l) /\
  ∀z,(valueAt l z).isSome=(getT kvs z).isSome/\∀u,getT kvs z=some u->∃b,valueAt l z=some (.ref b)/\StT X.K b (u.map V.str):=by
 obtain⟨a,o,Z,C,l,R,U,G,y,L,v,Y,J,N⟩:=h;exact⟨a,l,R,U,fun I=>⟨o,Z,C,I.kIn a o G,y,L,v,Y,J⟩,zn3 N⟩
def zuZ(kvs:List (Str×List Str))(te:TE):TE:=fun σ H Q=>te σ H fun y u=>∃z,y=.str z/\Q (.bl (!(getT kvs z).isSome)) u
theorem zpt(h:StD X.prog X.w X.K X.mg x kvs)(G:Gl X x)(R:PE X e te)(hd:(x == ("__debug__":Str))=false:=by rfl):PC X .NotIn e (.Name x p1) (zuZ kvs te):=by
 obtain⟨a,vs,S,U,L,v⟩:=h.at;intro pins s σ H Q I hw;refine thn (R pins s σ H _ I hw) fun Z s1 ⟨y,C,u,J,z,Y,q⟩=>UY u G S ?_ hd
 subst Y;obtain⟨t,rfl⟩:∃t,Z=iV z t:=J;refine wpAny_notIn_of (knd:=strKind X.prog X.w) (k:=z) (by show dg z (.str z t)=true;simp[dg]) U (L u).mapOf ?_
 rw[(v z).1];exact⟨.bl _,C,u.tok _,rfl,q⟩
def zu0(kvs:List (Str×List Str))(K:qF)(te:TE):TE:=fun σ H Q=>te σ H fun y u=>∃z l,y=.str z/\getT kvs z=some l/\∀b,StT K b (l.map V.str)->Q (.ref b) u
theorem zpk(h:StD X.prog X.w X.K X.mg x kvs)(L:Gl X x)(U:PE X e te)(hs:NoSl e)(hd:(x == ("__debug__":Str))=false:=by rfl):PE X (.Subscript (.Name x p1) e pos) (zu0 kvs X.K te):=by
 obtain⟨a,vs,Y,h2,v,C⟩:=h.at;intro pins s σ H Q I hw;refine zkh kB.lookup hs (UY I L Y (thn (U pins s σ H _ I hw) fun iv s1 ⟨y,G,l,R,z,J,Z,g,q⟩=>?_) hd)
 subst Z;obtain⟨t,rfl⟩:∃t,iv=iV z t:=R;obtain⟨b,g1,g2⟩:=(C z).2 J g;refine⟨(v l).typeIs,oC (knd:=strKind X.prog X.w) (k:=z) (by show dg z (.str z t)=true;simp[dg]) (v l).mapOf g1 ⟨.ref b,G,l.tok _,rfl,q b g2⟩⟩
def zt6(kvs:List (Str×List Str))(d:DTE):DTE:=fun u n R=>d u n fun y v=>lStr y fun z=>R (.bool (!(getT kvs z).isSome)) v
theorem zqr(h:StD X.prog X.w X.K X.mg x kvs)(l:DE X e d)(hg:Gl X x:=by rfl)(hd:(x == ("__debug__":Str))=false:=by rfl) (Y:behindInMarks .NotIn (.Name x p1)=false:=by rfl):DT X (.Compare e [.NotIn] [.Name x p1] pos) (Q0 (zt6 kvs d)):=by
 obtain⟨ta,pa,l⟩:=l;refine⟨_,zrP (zpt h hg pa hd) Y,fun C L σ H n Q R S hd J=>?_⟩
 refine l C L σ H n _ _ S hd fun y Z v G r U u q=>?_
 cases y with
 | str z=>exact⟨z,q.strI,_,rfl,J _ Z G r U u⟩
 | _=>exact r.elim
def dGGet(kvs:List (Str×List Str))(d:DTE):DTE:=fun C n R=>d C n fun y G=>lStr y fun z=>∃v,getT kvs z=some v/\R (.tuple (v.map gf)) G
theorem ziO{K:qF}{hd:Option aq}{O:aq->Prop}{H:Hp}:∀u:List Str,Reps K hd O H (u.map V.str) (u.map gf)
 | []=>.nil
 | k::u=>.cons (.str k) (ziO u)
theorem zqB(h:StD X.prog X.w X.K X.mg x kvs)(l:DE X e d)(hg:Gl X x:=by rfl)(hd:(x == ("__debug__":Str))=false:=by rfl) (hs:NoSl e:=by intro _ _;rfl):DE X (.Subscript (.Name x p1) e pos) (dGGet kvs d):=by
 obtain⟨ta,pa,l⟩:=l;refine⟨_,zpk h hg pa hs hd,fun C Y σ H n Q R S hd U=>?_⟩
 refine l C Y σ H n _ _ S hd fun y n1 v J r Z G q=>?_
 cases y with
 | str z =>
  obtain⟨I,g,r⟩:=r;exact⟨z,I,q.strI,g,fun b L=>U _ n1 _ J r Z G (.tupS L (ziO I))⟩
 | _=>exact r.elim
end
section
variable{i j k:Nat}{ρ:En}{n:Nat}{D:JN}{d:DTE}{x y:af}{r:qD}{R:qN}{kvs:List (Str×List Str)}
instance zww:Stp (zrz i j k d D ρ n) (d ρ n fun t n'=>ZU t fun x y r=>SetK i (some (.val x)) (fun ρ1 n1=>SetK j (some (.val y)) (fun ρ1 n1=>SetK k (some (.val (.list r))) D.nx ρ1 n1) ρ1 n1) ρ n'):=⟨fun h=>h⟩
instance zu8 {Q:af->af->List af->Prop}:Stp (ZU (.tuple (x::y::r)) Q) (Q x y r):=⟨fun h=>h⟩
instance zwL:Stp (zt6 kvs d ρ n R) (d ρ n fun y n1=>lStr y fun z=>R (.bool (!(getT kvs z).isSome)) n1):=⟨fun h=>h⟩
instance zwM:Stp (dGGet kvs d ρ n R) (d ρ n fun y n1=>lStr y fun z=>∃ks,getT kvs z=some ks/\R (.tuple (ks.map gf)) n1):=⟨fun h=>h⟩
end
def PtE(w:aQ)(K:qF)(e:dG)(p:Str×List Str):Prop:=e.hash=hashStr w p.1/\(∃t,e.key=.str p.1 t)/\∃b,e.val=.ref b/\StT K b (p.2.map V.str)
theorem zrN{P:aK}{w:aQ}{K:qF}{x:List dG}{u:List (Str×List Str)}(r:cZ (PtE w K) x u):∃v,Pairs (strKind P w) x v/\v.map (·.1)=u.map (·.1)/\(∀e∈x,∃k,(strKind P w).is k e.key=true/\e.hash=(strKind P w).hash k) /\
  cZ (fun(p:Str×List Str) (q:Str×ah)=>p.1=q.1/\∃b,q.2=.ref b/\StT K b (p.2.map V.str)) u v:=by
 induction r with
 | nil=>exact⟨[],.nil,rfl,(fun e h=>nomatch h),.nil⟩
 | @cons e p x ps h t ih =>
  obtain⟨v,a1,a2,S,I⟩:=ih;obtain⟨N,⟨t,R⟩,b,J,G⟩:=h;have C:(strKind P w).is p.1 e.key=true:=by rw[R];show dg p.1 (.str p.1 t)=true;simp[dg]
  refine⟨(p.1,e.val)::v,.cons C rfl a1,by simp[a2],fun L y=>?_,.cons ⟨rfl,b,J,G⟩ I⟩
  rcases aw.mp y with rfl|y
  ·exact⟨p.1,C,N⟩
  ·exact S L y
theorem zrg{P:aK}{w:aQ}{K:qF}{mg:qM}{x:Str}{l:List (Str×List Str)}{a:aq}{v:Array dG}{C:Nat}(U:mg x=some (.ref a))(J:(a == sysModules)=false)(S:K.lookup a=some ⟨.type "dict",none,.dict v C,#[]⟩)
  (r:cZ (PtE w K) v.toList l) (nd:(l.map (·.1)).Nodup):StD P w K mg x l:=by
 obtain⟨R,a1,a2,L,G⟩:=zrN (P:=P) r;exact⟨a,_,v,C,R,U,J,S,⟨rfl,rfl,rfl⟩,rfl,fun e I=>L e (by simpa using I),a1,by rw[a2];exact nd,G⟩
section
variable{X:Cx}
theorem Paired.flip{l:List ah}{m:List Nat}{f:Nat->V}(r:cZ (fun(v:ah) (i:Nat)=>RelV (f i) v) l m):Vals (m.map f) l:=by
 induction r with
 | nil=>exact .nil
 | cons a b u=>exact .cons a u
end
section
variable{prog:aK}{w:aQ}{A:br}{E:qV}{s:au}
theorem PrIn.tk{h:aN}{p:aq}{b k:Int}(x:PrIn h (.ref p) b k):IsTupleKey (Zv prog w) h [.inl b,.inl k] p:=by
 obtain⟨a,o,t,t',n,u,v,y,C⟩:=x;cases u;exact⟨o,_,n,v,y,C,.cons (zg5 b t) (.cons (zg5 k t') .nil)⟩
theorem zlU{p q:aq}{b k l u:Int}(v:A.units<cLine)(x:PrIn s.heap (.ref p) b k)(y:PrIn s.heap (.ref q) l u):i8 A s (.ref p) (.ref q) (decide (b=l/\k=u)):=fun prog w E Q h=>by
 refine wpAny_eqBool_tuple (knd:=Zv prog w) v x.tk y.tk ?_;have:decide (([iy b,iy k]:List Key)=[iy l,iy u])=decide (b=l/\k=u):=by
  rw[decide_eq_decide];constructor
  ·intro z;cases z;exact⟨rfl,rfl⟩
  ·rintro⟨rfl,rfl⟩;rfl
 rw[this];exact h
theorem zpS{p q:aq}{b k C v:Int}(U:A.units<cLine)(x:PrIn s.heap (.ref p) b k)(y:PrIn s.heap (.ref q) C v):LtAt prog w A s false (.ref p) (.ref q) (HT.lexLt [b,k] [C,v]):=fun E Q h=>by
 obtain⟨a,o,t,t',n,G,I,Y,J⟩:=x;obtain⟨a',N,u,Z,S,f0,f1,f2,R⟩:=y;cases G;cases f0;rw[td];simp only[aI,if_false];refine aa (show wpAny (model prog w) A (compareOp .Lt (.ref p) (.ref q)) _ E s from HT.zcn ⟨o,I,Y,n,J⟩ ⟨N,f1,f2,S,R⟩ (.cons _ _ (.cons _ _ .nil)) (.cons _ _ (.cons _ _ .nil)) U ?_)
 exact bz h
theorem zpT{a b c d:Int}:HT.lexLt [a,b] [c,d]=decide (a<c\/(a=c/\b<d)):=by
 have e:HT.lexLt [a,b] [c,d]=if a=c then(if b=d then false else decide (b<d)) else decide (a<c):=rfl
 rw[e];split
 ·rename_i h;subst h;split
  ·symm;rw[decide_eq_false_iff_not];lia
  ·rw[decide_eq_decide];lia
 ·rw[decide_eq_decide];lia
end
theorem znd{α:Type}{P:α->ah->Prop}{rk:ah->Int}{f:α->Int}{u:List ah}{N:List α}{y:mh}(hv:cZ P N u)(hr:∀a v,P a v->rk v=f a)(pm:(arrOf y).Perm (pairsOf u))(up:Up rk (arrOf y) u.length) :
  ∃bs:List α,bs.Perm N/\bs.Pairwise (fun a b=>f a<=f b)/\cZ P bs ((arrOf y).map (·.2)).toList:=by
 have C:(arrOf y).toList.Perm (u.zip u):=by
  have:=fX.mp pm;simpa[pairsOf] using this
 have hl:N.length=u.length:=mQ hv;have each:∀x∈N.zip u,P x.1 x.2:=by
  clear pm up C hl;induction hv with
  | nil=>intro x hx;simp at hx
  | cons h t R =>
   intro x hx;rcases aw.mp (by simpa using hx) with rfl|hx
   ·exact h
   ·exact R x hx
 have J:((arrOf y).toList.map (·.2)).Perm ((N.zip u).map (·.2)):=by
  refine(C.map _).trans ?_;rw[eG (aA _),eG (by lia)]
 obtain⟨G,Y,p2⟩:=VH J;have U:∀x∈G,P x.1 x.2:=fun x hx=>each x (Y.mem_iff.mp hx)
 have Iu:∀z∈(arrOf y).toList,z.1=z.2:=fun z hz=>by
  have:z∈u.zip u:=C.mem_iff.mp hz;obtain⟨i,hi,rfl⟩:=bL this;simp
 have S:(arrOf y).size=u.length:=by
  have:=C.length_eq;simpa using this
 refine⟨G.map (·.1),?_,?_,?_⟩
 ·have:=Y.map (·.1)
  rwa [fj (by lia)]at this
 ·rw[dW,bK];intro i j hi hj Z;have lw:G.length=u.length:=by
   have:=congrArg eD p2;simpa[S] using this
  have gw:∀k (hk:k<G.length),rkAt rk (arrOf y) k=f G[k].1:=fun k hk=>by
   have I:k<(arrOf y).size:=by lia
   have e1:(arrOf y).toList[k]'(by simpa using I)=(arrOf y)[k]:=by simp
   have e2:G[k].2=(arrOf y)[k].2:=by
    have:(G.map (·.2))[k]'(by simpa using hk)=((arrOf y).toList.map (·.2))[k]'(by simpa using I):=by simp only[p2]
    simpa using this
   have e3:(arrOf y)[k].1=(arrOf y)[k].2:=Iu _ (by rw[<- e1];exact dI _)
   unfold rkAt;rw[gr I];simp only[dE,cM];rw[e3,<- e2];exact hr _ _ (U _ (dI _))
  have:=up i j Z (by lia)
  rwa [gw i hi,gw j hj]at this
 ·rw[ou,<- p2];clear Y p2 J pm up;induction G with
  | nil=>exact .nil
  | cons a l R=>exact .cons (U a (.head _)) (R fun x hx=>U x (.tail _ hx))
section
variable{prog:aK}{w:aQ}{A:br}{E:qV}{s:au}{rk:ah->Int}
theorem zh7{h:aN}{u:List ah}{b:aq}{o:Obj}(v:h.get? b=some o):(midH (h.push (seqObj "list" u.toArray 0)) h.objs.size u).get? b=some o:=by
 have l:b<h.objs.size:=ay v;unfold midH;rw[cx _ _ _ (by rw[dZ,cE,dZ];lia),cx _ _ _ (by rw[cE,dZ];lia),gy _ _ _ _ (aF l),cx _ _ _ (aF l)]
 exact v
theorem zkj{l:List ah}{P:qV}(u:l.length<64)(I:Kinds prog w A { s with heap:=midH (s.heap.push (seqObj "list" l.toArray 0)) s.heap.objs.size l } rk l)
  (h:∀h' (y:mh) (e:Nat),(∀b o,s.heap.get? b=some o->h'.get? b=some o)->(arrOf y).Perm (pairsOf l)->Up rk (arrOf y) l.length->h'.get? s.heap.objs.size=some (seqObj "list" ((arrOf y).map (·.2)) e)->P .none { s with heap:=h' }) :
  wpAny (model prog w) A (fR.«list.sort» ⟨[.ref s.heap.objs.size],[]⟩) (fun f s'=>∃v,f=.done (.ret v)/\P v s') E { s with heap:=s.heap.push (seqObj "list" l.toArray 0) }:=by
 have C:(s.heap.push (seqObj "list" l.toArray 0)).get? s.heap.objs.size=some (seqObj "list" l.toArray 0):=az _ rfl;refine zi3 (s:={ s with heap:=s.heap.push (seqObj "list" l.toArray 0) }) C u I fun y J p2=>⟨_,rfl,?_⟩
 obtain⟨e,G⟩:=sortedHeap_at (out:=(arrOf y).map (·.2)) C;refine h _ y e (fun b o x=>?_) J p2 G
 have lt:=ay x;rw[sortedHeap_old (aF lt) (by rw[dZ];exact nY lt),cx _ _ _ (aF lt)]
 exact x
end
section
variable{prog:aK}{w:aQ}{A:br}{E:qV}{s:au}{rk:aN->ah->Int}
theorem zjE{x:ah}{C:aN->Nat->List ah->Prop}{Q:qV}(G:∀(J:br) (E':qV) (R:List ah->au->Prop),J.handled=A.handled->(∀h' tk v,C h' tk v->R v { s with heap:=h',toks:=tk })->wpAny (model prog w) J (collect x) R E' s)
  (L:∀h' tk v,C h' tk v->v.length<64)
  (U:∀h' tk v (J:br),C h' tk v->J.units<=A.units+16->Kinds prog w J { s with heap:=midH (h'.push (seqObj "list" v.toArray 0)) h'.objs.size v,toks:=tk } (rk h') v)
  (h:∀h' tk v I (y:mh) (e:Nat),C h' tk v->(∀b o,h'.get? b=some o->I.get? b=some o)->(arrOf y).Perm (pairsOf v)->Up (rk h') (arrOf y) v.length->I.get? h'.objs.size=some (seqObj "list" ((arrOf y).map (·.2)) e)->Q (.ref h'.objs.size) { s with heap:=I,toks:=tk }) :
  wpAny (model prog w) A (call (.builtin "sorted") [x]) Q E s:=by
 have hs:64<=sizeLine:=by decide
 refine ky kind_sorted plain_sorted entry_sorted (args_sorted1 _) ?_;unfold fR.«sorted»;refine aa (m:=checkCount "sorted" 1 1 _) (aj (aa (G _ _ _ rfl fun h' tk v c=>?_)))
 have N:=L h' tk v c;refine aa (iB (hsz:=by show v.toArray.size<=_;rw[ax];lia) ?_)
 have Z:(h'.push (seqObj "list" v.toArray 0)).get? h'.objs.size=some (seqObj "list" v.toArray 0):=az _ rfl;refine aa (bO (eF pW ⟨_,Z,rfl⟩ oX ?_ (pX _)));refine zkj (s:={ s with heap:=h',toks:=tk }) N (U h' tk v _ c (by show A.units+1+1<=_;lia)) fun I y e kp Y p2 S=>?_
 exact aj ⟨_,rfl,h h' tk v I y e c kp Y p2 S⟩
end
section
variable{X:Cx}
theorem zo0{pins:qO}{σ:St}{H:Hp}{s:au}{q:aq}{b k:Int}(I:Inv X pins σ H s)(h:SqT X.K H q [.int b,.int k]):PrIn s.heap (.ref q) b k:=by
 obtain⟨is,rs,⟨o,f1,f2,n,v⟩,_⟩:=I.tuple h;cases rs with
 | cons a1 a2 =>
  cases a2 with
  | cons u l =>
   cases l;obtain⟨t,rfl⟩:=a1;obtain⟨t',rfl⟩:=u;exact⟨q,o,t,t',n,rfl,f1,f2,v⟩
end
section
variable{K:qF}{hd:Option aq}{O:aq->Prop}{H:Hp}{zs:ZT}{ks:KT2}
theorem Rep.bkI{v:V}{a b:Int}(h:Rep K hd O H v (.tuple [.int a,.int b])):∃q,v=.ref q/\SqT K H q [.int a,.int b]:=by
 obtain⟨q,J,rfl,sq,y⟩:=h.tupI;cases y with
 | cons G x =>
  cases x with
  | cons C I =>
   cases I;rw[G.intI,C.intI]at sq;exact⟨q,rfl,sq⟩
end
end L2
namespace L2
open PySem
abbrev RL:=List ((Int×Int)×Int)
end L2
namespace Bd
open PySem PySem.W PySem.Calls L2 PyProof.Rows
structure ZZ where
 P:aK
 w:aQ
 K:qF
 mg:Str->Option ah
 base:aN
def FQ(Z:ZZ)(x:Str)(st:dD)(ps:List Str)(k:Nat)(l:Sp):Prop:=Fq Z.P Z.w Z.K Z.mg Z.base x st ps k l
theorem okQ{Z:ZZ}{x:Str}{st:dD}{ps N:List Str}{k m:Nat}{g:GD}(D:Dq Z.K Z.mg x st ps)(S:Q9 N ps (JH st))(C:m=ps.length)
  (v:∀(f:aq) (l:ah) (A:br) (outer:List Env) (s:au) (H:Hp) (E:XK),Room k (A.deeper (envOfC x (JH st) s.heap.objs.size f l))->∃d,DSs (cxOf CX0 Z.P Z.w Z.K Z.mg Z.base N x (JH st) f l A outer s H E).nox (J3 st) d /\
   ∀ts n R,ts.length=m->g ts n R->d { nx:=fun _ y=>R .none y,rt:=R } (JY N ts) n):FQ Z x st ps (k+1) (spD Z.K m g):=by
 obtain⟨f,fd,D⟩:=D;exact⟨f,fd,D,D.okD S C fun l A outer s H E u=>v f l A outer s H E u⟩
theorem bnd1{x:Str}{st:dD}{a:Str}(h:∀(kV doc pm:ah) (an:Option aq) (l ct u:ah),bindArgs (dm x x (Qu st) (J3 st) (JH st) .none kV doc pm an l ct) ⟨[u],[]⟩=pure [(a,u)]):BndA x st [a]:=fun _ _ _ _ _ _ y v=>by obtain⟨_,rfl⟩:=len1 v;exact h ..
theorem bnd2{x:Str}{st:dD}{a b:Str}(h:∀(kV doc pm:ah) (an:Option aq) (l ct u v:ah),bindArgs (dm x x (Qu st) (J3 st) (JH st) .none kV doc pm an l ct) ⟨[u,v],[]⟩=pure [(a,u),(b,v)]):BndA x st [a,b]:=fun _ _ _ _ _ _ C y=>by obtain⟨_,_,rfl⟩:=len2 y;exact h ..
theorem bnd3{x:Str}{st:dD}{a b c:Str}(h:∀(kV doc pm:ah) (an:Option aq) (l ct u v y:ah),bindArgs (dm x x (Qu st) (J3 st) (JH st) .none kV doc pm an l ct) ⟨[u,v,y],[]⟩=pure [(a,u),(b,v),(c,y)]):BndA x st [a,b,c]:=fun _ _ _ _ _ _ G C=>by obtain⟨_,_,_,rfl⟩:=len3 C;exact h ..
theorem bnd4{x:Str}{st:dD}{a b c d:Str}(h:∀(kV doc pm:ah) (an:Option aq) (l ct u v y z:ah),bindArgs (dm x x (Qu st) (J3 st) (JH st) .none kV doc pm an l ct) ⟨[u,v,y,z],[]⟩=pure [(a,u),(b,v),(c,y),(d,z)]):BndA x st [a,b,c,d]:=fun _ _ _ _ _ _ G C=>by obtain⟨_,_,_,_,rfl⟩:=len4 C;exact h ..
def JI(h:aN):qF:=(dh h.objs.size).filterMap fun a=>(h.get? a).map fun o=>(a,o)
theorem zld{h:aN}:∀{x:List aq}{a:aq},a∈x->(x.filterMap fun a=>(h.get? a).map fun o=>(a,o)).lookup a=h.get? a\/h.get? a=none
 | [],_,m=>nomatch m
 | b::x,a,m=>by
  by_cases e:a=b
  ·subst e;cases g:h.get? a with
   | none=>exact .inr rfl
   | some o=>exact .inl (by rw[dA];simp[g,cN])
  ·have y:a∈x:=(aw.mp m).resolve_left e;rcases zld (h:=h) y with z|z
   ·refine .inl ?_;rw[dA];cases g:h.get? b with
    | none=>exact z
    | some o =>
     have:(a == b)=false:=by simpa using e
     simp only[dE];rw[cN,this];exact z
   ·exact .inr z
theorem U5{h:aN}{a:aq}{o:Obj}(e:h.get? a=some o):(JI h).lookup a=some o:=by
 have m:a∈dh h.objs.size:=fg.mpr (ay e);rcases zld (h:=h) m with z|z
 ·exact z.trans e
 ·rw[e]at z;cases z
theorem zkb{h:aN}:(JI h).In h:=fun a o e=>by
 have key:∀(v:List aq),(v.filterMap fun a=>(h.get? a).map fun o=>(a,o)).lookup a=some o->h.get? a=some o:=by
  intro v;induction v with
  | nil=>intro z;cases z
  | cons b v x =>
   intro z;rw[dA]at z;cases g:h.get? b with
   | none=>rw[g]at z;exact x z
   | some y =>
    rw[g]at z;simp only[dE,cN]at z;cases q:a == b with
    | true=>rw[q]at z;cases z;rw[eq_of_beq q];exact g
    | false=>rw[q]at z;exact x z
 exact key _ e
def Z8:dD->Bool
 | .FunctionDef ..=>true
 | _=>false
def defName:dD->Str
 | .FunctionDef n _ _ _ _ _ _ _ _ _=>n
 | _=>ae ""
def ztX:dD->Pos
 | .FunctionDef _ _ _ _ _ _ _ _ _ p=>p
 | _=>⟨0,0,0,0⟩
def recD(st:dD):DefRec:=⟨defName st,Qu st,J3 st,JH st,ztX st⟩
theorem getD_mem{l:List dD}{i:Nat}(h:Z8 (l.getD i (.Pass ⟨0,0,0,0⟩))=true):l.getD i (.Pass ⟨0,0,0,0⟩)∈l:=by
 rw[ba]at h ⊢;cases e:l[i]? with
 | none=>rw[e]at h;cases h
 | some s=>exact aR e
section
variable{q:aK}{loose:List Str}{Il:nZ->Option ah}{mg mb:qM}{h:aN}{x:Str}{st:dD}{ps:List Str}
theorem zmi{cd:ah}{n:Str}(c:h.CodeRec cd n):gW (JI h) cd n=true:=by
 obtain⟨a,o,l,t,rfl,g,d,e⟩:=c;unfold gW;dsimp only;rw[U5 g];obtain⟨y,u,dd,v⟩:=o;cases(show dd=_ from d)
 have l2:l.toList[1]?=some (.str n t):=by simpa using e
 dsimp only
 match hv:l.toList,l2 with
 | [],l2=>simp at l2
 | [_],l2=>simp at l2
 | a::b::r,l2 =>
  have:b=.str n t:=by simpa using l2
  subst this;simp
theorem dq_g(T:Top q loose Il mg mb h)(hd:recD st∈recsOf q)(G:defName st=x)(I:BndA x st ps):Dq (JI h) mg x st ps:=by
 obtain⟨a,o,pm,cd,doc,C,N,y,v⟩:=T.fn _ hd;have C:mg (defName st)=some (.ref a):=C;have v:h.CodeRec cd (defName st):=v;rw[G]at C v;obtain⟨R,L,dd,J⟩:=o;have y:dd=.func (docDef (defName st) (Qu st) (J3 st) (JH st) pm cd doc):=y;rw[G]at y;have l:(JI h).lookup a=some ⟨R,L,.func (dm x x (Qu st) (J3 st) (JH st) .none .none doc pm none cd .none),J⟩:=by
  rw[U5 N,y];rfl
 have kp:gV (JI h) (.ref a)=true:=by
  unfold gV;dsimp only;rw[l]
 exact⟨a,_,zoO l (zmi v) kp,(zoO l (zmi v) kp).binds I,C⟩
end
end Bd
namespace L2
open PySem PySem.Spec PyProof PyProof.Rows
abbrev BL:=List (Int×Int)
abbrev PR:=List ((Int×Int)×(Int×Int))
abbrev upH(b:Int×Int):Int×Int:=(fh b.1 (2 ^ (b.2 - 1).toNat),b.2 - 1)
abbrev loH(b:Int×Int):Int×Int:=(b.1,b.2 - 1)
abbrev NP:=(Int×Int)×Str
def PsIn(h:aN)(u:ah)(r:NP):Prop:=∃(a p:aq) (o:Obj) (t:Tok) (n:Nat),u=.ref a/\h.get? a=some o/\o.cls=.type "tuple" /\ o.data=.seq #[.ref p,.str r.2 t] n/\PrIn h (.ref p) r.1.1 r.1.2
theorem PsIn.kept{h h':aN}{u:ah}{r:NP}(p:PsIn h u r)(kp:∀b o,h.get? b=some o->h'.get? b=some o):PsIn h' u r:=by
 obtain⟨a,q,o,t,n,l,x,y,C,v⟩:=p;exact⟨a,q,o,t,n,l,kp _ _ x,y,C,v.kept kp⟩
theorem PsIn.uniq{h:aN}{u:ah}{r C:NP}(p:PsIn h u r)(S:PsIn h u C):r=C:=by
 obtain⟨a,q,o,t,n,rfl,J,_,U,⟨x,Z,t1,t2,m,x0,L,_,R⟩⟩:=p;obtain⟨a',q',o',t',n',G,f1,_,f2,⟨y,Y,u1,u2,m',I,v,_,l⟩⟩:=S;cases G;rw[J]at f1;cases f1;rw[U]at f2
 injection f2 with f2 _
 have f2:=congrArg lA f2;simp at f2;obtain⟨N,f4,_⟩:=f2;cases x0;cases I;subst N;rw[L]at v;cases v;rw[R]at l
 injection l with l _
 have l:=congrArg lA l;simp at l;exact kc (kc l.1.1 l.2.1) f4
def npLt(a b:NP):Bool:=if a.1=b.1 then decide (a.2.cps.toList<b.2.cps.toList) else decide (a.1.1<b.1.1\/(a.1.1=b.1.1/\a.1.2<b.1.2))
theorem VE{a b:NP}:npLt a b=true↔(a.1.1<b.1.1\/(a.1.1=b.1.1/\(a.1.2<b.1.2\/(a.1.2=b.1.2/\a.2.cps.toList<b.2.cps.toList)))):=by
 unfold npLt;obtain⟨⟨a1,a2⟩,y⟩:=a;obtain⟨⟨v,u⟩,x⟩:=b;dsimp only
 by_cases e:(a1,a2)=(v,u)
 ·rw[if_pos e];cases e;simp
 ·rw[if_neg e,decide_eq_true_eq];have:¬(a1=v/\a2=u):=fun z=>e (by rw[z.1,z.2])
  constructor
  ·rintro(h|h)
   ·exact .inl h
   ·exact .inr ⟨h.1,.inl h.2⟩
  ·rintro(h|⟨h,h'|h'⟩)
   ·exact .inl h
   ·exact .inr ⟨h,h'⟩
   ·exact absurd ⟨h,h'.1⟩ this
theorem zqI(x y:Str):x.cps.toList<y.cps.toList\/x=y\/y.cps.toList<x.cps.toList:=by
 by_cases h:x.cps.toList<y.cps.toList
 ·exact .inl h
 ·by_cases h':y.cps.toList<x.cps.toList
  ·exact .inr (.inr h')
  ·refine .inr (.inl (L2.Str.ext' ?_));exact List.le_antisymm (vk.mp h') (vk.mp h)
theorem zi1(a:NP):npLt a a=false:=by
 rw[bY,ne_eq,VE];rintro(h|⟨_,h|⟨_,h⟩⟩)
 ·omega
 ·omega
 ·exact p8 _ h
theorem zi0(a b:NP):npLt a b=true\/a=b\/npLt b a=true:=by
 rw[VE,VE];obtain⟨⟨a1,a2⟩,y⟩:=a;obtain⟨⟨v,u⟩,x⟩:=b;dsimp only;rcases eW a1 v with h|rfl|h
 ·exact .inl (.inl h)
 ·rcases eW a2 u with h|rfl|h
  ·exact .inl (.inr ⟨rfl,.inl h⟩)
  ·rcases zqI y x with h|rfl|h
   ·exact .inl (.inr ⟨rfl,.inr ⟨rfl,h⟩⟩)
   ·exact .inr (.inl rfl)
   ·exact .inr (.inr (.inr ⟨rfl,.inr ⟨rfl,h⟩⟩))
  ·exact .inr (.inr (.inr ⟨rfl,.inl h⟩))
 ·exact .inr (.inr (.inl h))
theorem zjR{a b c:NP}(h:npLt a b=true)(h':npLt b c=true):npLt a c=true:=by
 rw[VE]at h h' ⊢;rcases h with h|⟨e,h|⟨u,h⟩⟩ <;> rcases h' with h'|⟨f,h'|⟨f2,h'⟩⟩
 ·exact .inl (by omega)
 ·exact .inl (by omega)
 ·exact .inl (by omega)
 ·exact .inl (by omega)
 ·exact .inr ⟨by omega,.inl (by omega)⟩
 ·exact .inr ⟨by omega,.inl (by omega)⟩
 ·exact .inl (by omega)
 ·exact .inr ⟨by omega,.inl (by omega)⟩
 ·exact .inr ⟨by omega,.inr ⟨by omega,List.lt_trans h h'⟩⟩
def npRk(rs:List NP)(r:NP):Int:=((rs.filter fun q=>npLt q r).length:Int)
theorem zlT{α:Type}{p q:α->Bool}{l:List α}(h:∀x,p x=true->q x=true):(l.filter p).length<=(l.filter q).length:=by
 induction l with
 | nil=>exact aA _
 | cons a l u =>
  rw[ir,ir];cases e:p a
  ·cases q a
   ·exact u
   ·exact Nat.le_succ_of_le u
  ·rw[h a e];exact Nat.succ_le_succ u
theorem zlS{α:Type}{p q:α->Bool}{l:List α}(h:∀x,p x=true->q x=true){a:α}(u:a∈l)(v:p a=false)(C:q a=true):(l.filter p).length<(l.filter q).length:=by
 induction l with
 | nil=>cases u
 | cons b l y =>
  rw[ir,ir];rcases aw.mp u with rfl|u
  ·rw[v,C];exact Nat.lt_succ_of_le (zlT h)
  ·have:=y u;cases e:p b
   ·cases q b
    ·exact this
    ·exact nY this
   ·rw[h b e];exact Nat.succ_lt_succ this
theorem ZN{rs:List NP}{a b:NP}(u:a∈rs)(h:npLt a b=true):npRk rs a<npRk rs b:=by
 unfold npRk;have:=zlS (p:=fun q=>npLt q a) (q:=fun q=>npLt q b) (l:=rs) (fun x hx=>zjR hx h) u (zi1 a) h
 omega
theorem zpK{rs:List NP}{a b:NP}(l:a∈rs)(u:b∈rs):npLt a b=decide (npRk rs a<npRk rs b):=by
 rcases zi0 a b with h|rfl|h
 ·rw[h,decide_eq_true (ZN l h)]
 ·rw[zi1];symm;rw[decide_eq_false_iff_not];exact Int.lt_irrefl _
 ·have:=ZN u h;rw[decide_eq_false (by omega)]
  cases e:npLt a b with
  | false=>rfl
  | true=>have:=ZN l e;omega
open Classical in
noncomputable def rkNP (rs:List NP) (h:aN) (u:ah):Int:=if z:∃r,PsIn h u r then npRk rs z.choose else 0
theorem PsIn.rk{rs:List NP}{h:aN}{u:ah}{r:NP}(p:PsIn h u r):rkNP rs h u=npRk rs r:=by
 unfold rkNP;have z:∃r,PsIn h u r:=⟨r,p⟩;rw[dif_pos z,z.choose_spec.uniq p]
section
variable{prog:aK}{w:aQ}{A:br}{E:qV}{s:au}
theorem zpX{G:List ah}{Q:ki->au->Prop}(h1:1<=G.length)(hp:∀v∈G,∃r,PsIn s.heap v r)(h:Q (tuples' false) s):wpAny (model prog w) A (keyKind' G.toArray) Q E s:=by
 rw[keyKind'_eq,hU,map_eq_pure_bind];refine aa (aa (ZG (P:=fun _ r=>∃(p:aq) (o:Obj),r=some (.ref p)/\s.heap.get? p=some o/\o.cls=.type "tuple") G (fun v L Q' J=>?_) fun rs S=>aj ?_))
 ·obtain⟨r,a,p,o,t,n,rfl,C,e2,e3,a',o',t1,t2,n',e4,e5,e6,e7⟩:=hp v L;cases e4;rw[zjj];refine aa (gi (T:="tuple") ⟨o,C,e2⟩ ?_);rw[if_neg (by decide)]
  exact aa (gk C e3 (aj (J _ ⟨p,o',rfl,e5,e6⟩)))
 ·have al:∀r∈rs,∃(p:aq) (o:Obj),r=some (.ref p)/\s.heap.get? p=some o/\o.cls=.type "tuple":=fun r I=>by
   obtain⟨_,_,h⟩:=zcC S I;exact h
  have IG:(rs.toArray.all fun x=>x.isSome)=true:=by
   rw[iq,bg];intro x hx;obtain⟨p,o,rfl,_⟩:=al x hx
   rfl
  rw[if_pos IG];refine aa (eX ?_);rw[oY];have N:rs.toArray.filterMap id=(rs.filterMap id).toArray:=by simp
  rw[N,hU,map_eq_pure_bind];refine aa (aa (aa (ZG (P:=fun _ r=>r=bq "tuple") _ (fun v L Q' J=>?_) fun ts R=>aj ?_)))
  ·obtain⟨x,hx,e⟩:=fw.mp L;obtain⟨p,o,rfl,g,c⟩:=al x hx;cases e;exact gi (T:="tuple") ⟨o,g,c⟩ (J _ rfl)
  ·have u:∀r∈ts,r=bq "tuple":=fun r I=>by
    obtain⟨_,_,h⟩:=zcC R I;exact h
   cases ts with
   | nil=>exact aj (aj h)
   | cons U Y =>
    have C:U=bq "tuple":=u U (.head _);subst C;have Z:(((bq "tuple")::Y).toArray.all fun x=>x == bq "tuple")=true:=by
     rw[iq,bg];intro x hx;rw[u x hx];rfl
    have h0:((bq "tuple")::Y).toArray[0]?=some (bq "tuple"):=by simp
    rw[h0];simp only[Z,if_true];refine aj (aj ?_);exact h
theorem znA(x y:Str)(t u:Tok):LtAt prog w A s false (.str x t) (.str y u) (decide (x.cps.toList<y.cps.toList)):=fun E Q q=>by
 rw[td];simp only[aI,if_false];refine aa (show wpAny (model prog w) A (compareOp .Lt (.str x t) (.str y u)) _ E s from vO ?_)
 exact bz q
theorem znI{l:List ah}{h0:aN}{rs:List NP}(I:A.units<cLine)(C:∀v∈l,∃r,r∈rs/\PsIn s.heap v r/\rkNP rs h0 v=npRk rs r):Kinds prog w A s (rkNP rs h0) l:=fun h2=>by
 refine⟨tuples' false,fun E Q q=>zpX (by lia) (fun v S=>?_) q,fun p q E Q mp U h=>?_⟩
 ·obtain⟨r,_,h,_⟩:=C v S;exact⟨r,h⟩
 ·have mem:∀z∈(pairsOf l).toList,z.1∈l:=fun z hz=>by
   have:z∈l.zip l:=by simpa[pairsOf] using hz
   exact(cY this).1
  obtain⟨⟨⟨b,k⟩,g⟩,Z,⟨a,x,o,t,n,J,Y,e2,e3,G⟩,R⟩:=C _ (mem p mp);obtain⟨⟨⟨y,u⟩,g'⟩,N,⟨a',x',o',t',n',f0,f1,f2,f3,f4⟩,r2⟩:=C _ (mem q U);rw[R,r2,<- zpK Z N]at h;rw[J,f0];refine zg4 Y e3 f1 f3 (zlU I G f4) (SeqAt.EqAt.str_str g t g' t') (fun _=>zpS I G f4) (fun _=>znA g g' t t') ?_
  have:(if decide (b=y/\k=u)=true then(if (g == g')=true then false else decide (g.cps.toList<g'.cps.toList)) else HT.lexLt [b,k] [y,u])=npLt ((b,k),g) ((y,u),g'):=by
   rw[zpT];unfold npLt;dsimp only
   by_cases e:b=y/\k=u
   ·obtain⟨rfl,rfl⟩:=e;rw[if_pos (by simp),if_pos rfl]
    by_cases eg:g=g'
    ·subst eg;rw[if_pos (by simp)]
     symm;rw[decide_eq_false_iff_not];exact p8 _
    ·rw[if_neg (by simpa using eg)]
   ·rw[if_neg (by simpa using e),if_neg (fun z=>e (by cases z;exact⟨rfl,rfl⟩))]
  rw[this];exact h
end
section
variable{X:Cx}
def PsV(K:qF)(H:Hp)(z:V×NP):Prop:=∃a q,z.1=.ref a/\SqT K H a [.ref q,.str z.2.2]/\SqT K H q [.int z.2.1.1,.int z.2.1.2]
theorem zu4{pins:qO}{σ:St}{H:Hp}{s:au}{a q:aq}{r:NP}(I:Inv X pins σ H s)(h:SqT X.K H a [.ref q,.str r.2])(u:SqT X.K H q [.int r.1.1,.int r.1.2]):PsIn s.heap (.ref a) r:=by
 obtain⟨is,rs,⟨o,f1,f2,n,x⟩,_⟩:=I.tuple h;cases rs with
 | cons a1 a2 =>
  cases a2 with
  | cons v l =>
   cases l;cases(show _=bM q from a1)
   obtain⟨t,rfl⟩:=v;exact⟨a,q,o,t,n,rfl,f1,f2,x,zo0 I u⟩
theorem zf0(hu:X.A.units+64<cLine):JG X (.builtin "sorted") (fun xs H Q=>∃(p:aq) (zs:List (V×NP)),xs=[.ref p]/\(SqL X.K H p (zs.map (·.1))\/SqT X.K H p (zs.map (·.1)))/\zs.length<64/\(∀z∈zs,PsV X.K H z) /\
  ∀J:List (V×NP),J.Perm zs->J.Pairwise (fun a b=>npRk (zs.map (·.2)) a.2<=npRk (zs.map (·.2)) b.2)->∀l,H l=none->Q (.ref l) (upd H l (.lst (J.map (·.1))))):=by
 intro pins s σ H xs us Q I r h;obtain⟨p,zs,rfl,N,h64,hp,q⟩:=h;obtain⟨u,rfl,rx⟩:=vals1 r;cases rx;have hs:64<=sizeLine:=by decide
 have key:∀(v:List ah) (o:Obj) (T:String) (n:Nat),Vals (zs.map (·.1)) v->s.heap.get? p=some o->o.cls=.type T->(T = "list" \/ T = "tuple")->o.data=.seq v.toArray n ->
   wpAny (model X.prog X.w) X.A (call (.builtin "sorted") [.ref p]) (EP X pins σ Q) X.xe s:=fun v o T n rv R hc hT hd=>by
  have hlen:zs.length=v.length:=by simpa using rv.length
  have cell:cZ (fun(z:V×NP) (u:ah)=>RelV z.1 u/\PsIn s.heap u z.2) zs v:=by
   have go:∀(zs:List (V×NP)) (v:List ah),(∀z∈zs,PsV X.K H z)->Vals (zs.map (·.1)) v->cZ (fun(z:V×NP) (u:ah)=>RelV z.1 u/\PsIn s.heap u z.2) zs v:=by
    intro zs;induction zs with
    | nil=>intro v _ r;cases r;exact .nil
    | cons z zs ih =>
     intro v hz r;cases r with
     | cons Y r2 =>
      obtain⟨a,q,e1,e2,e3⟩:=hz z (.head _);refine .cons ⟨Y,?_⟩ (ih _ (fun y hy=>hz y (.tail _ hy)) r2)
      dsimp only at Y;rw[e1]at Y;cases(show _=bM a from Y)
      exact zu4 I e2 e3
   exact go zs v hp rv
  refine zjE (A:=X.A) (x:=.ref p) (rk:=rkNP (zs.map (·.2))) (C:=fun h' tk U=>U=v/\(∀b o,s.heap.get? b=some o->h'.get? b=some o)/\s.heap.objs.size<=h'.objs.size) ?_ ?_ ?_ ?_
  ·intro A' E' Q' hA N;refine zeD R hc hT hd (by lia) ?_
   have hq':=N ((s.heap.push (seqObj "list" #[] 0)).update s.heap.objs.size (eZ (·++v.toArray))) s.toks v ⟨rfl,fun b ob Z=>?_,?_⟩
   ·exact hq'
   ·rw[gy _ _ _ _ (aF (ay Z))];exact ak _ Z
   ·rw[cE,dZ];exact kF _
  ·rintro h' tk U ⟨rfl,_,_⟩;lia
  ·rintro h' tk U A' ⟨rfl,kp,_⟩ hA';refine znI (by lia) fun u hu=>?_
   obtain⟨x,mx,_,rl⟩:=zcC cell hu;have S:=rl.kept kp;exact⟨x.2,mP mx,S.kept fun b o e=>zh7 e,S.rk⟩
  ·rintro h' tk U h2 y e ⟨rfl,kp,sz⟩ kp2 pm up he;have G:cZ (fun(z:V×NP) (u:ah)=>RelV z.1 u/\PsIn h' u z.2) zs U:=Paired.mapP cell fun _ _ h=>⟨h.1,h.2.kept kp⟩
   obtain⟨ws,p1,p2,p3⟩:=znd (f:=fun x=>npRk (zs.map (·.2)) x.2) G (fun x u hx=>hx.2.rk) pm up
   have rv':Vals (ws.map (·.1)) ((arrOf y).map (·.2)).toList:=by
    have:∀{l:List (V×NP)} {m:List ah},cZ (fun(z:V×NP) (u:ah)=>RelV z.1 u/\PsIn h' u z.2) l m->Vals (l.map (·.1)) m:=by
     intro l m p;induction p with
     | nil=>exact .nil
     | cons h t ih=>exact .cons h.1 ih
    exact this p3
   refine⟨.ref h'.objs.size,_,I.laid (a:=h'.objs.size) (o:=.lst (ws.map (·.1))) (t':=tk) (fun b o Z=>kp2 b o (kp b o Z)) sz ?_,rfl,q ws p1 p2 _ (I.hok.fresh sz)⟩
   refine⟨?_,_,e,rv',by rw[he]⟩
   have:=p1.length_eq;rw[aL];lia
 rcases N with N|N
 ·obtain⟨v,r',pl,hz⟩:=I.list N;obtain⟨o,R,hc,n,hd⟩:=pl.isList;exact key v o "list" n r' R hc (.inl rfl) hd
 ·obtain⟨v,r',pl,hz⟩:=I.tuple N;obtain⟨o,R,hc,n,hd⟩:=pl;exact key v o "tuple" n r' R hc (.inr rfl) hd
end
section
variable{X:Cx}{e:aP}{d:DTE}{pos p:Pos}{k:Nat}
theorem zkx{K:qF}{hd:Option aq}{O:aq->Prop}{H:Hp}:∀{y:List V}{rs:List NP},Reps K hd O H y (Bd.oD rs)->∀z∈y.zip rs,PsV K H z/\Rep K hd O H z.1 (.tuple [.tuple [.int z.2.1.1,.int z.2.1.2],.str z.2.2])
 | _,[],r=>by cases r;intro z v;simp at v
 | _,a::rs,r=>by
  cases r with
  | cons h r =>
   intro z v;rcases aw.mp (by simpa using v) with rfl|v
   ·refine⟨?_,h⟩;obtain⟨b,N,rfl,sq,C⟩:=h.tupI;cases C with
    | cons J L =>
     cases L with
     | cons G I =>
      cases I;obtain⟨q,rfl,x⟩:=J.bkI;rw[G.strI]at sq;exact⟨b,q,rfl,sq,x⟩
   ·exact zkx r z v
def zl6(d:DTE):DTA:=fun u n R=>d u n fun t v=>JX t fun ts=>∃rs:List NP,ts=Bd.oD rs/\rs.length<64/\∀l:List NP,l.Perm rs->l.Pairwise (fun a b=>npRk rs a<=npRk rs b)->R (Bd.oD l) v
theorem zeu(hr:Room k X.A)(hm:X.mg "sorted" = none) (h:DL X e d) (hs:starEach [e] X.env=[(false,eval e X.env)]) (hg:Gl X "sorted":=by rfl):DN X (.Call (.Name "sorted" p) [e] [] pos) (zl6 d):=by
 obtain⟨ta,pa,h⟩:=h;refine⟨_,Uk (zf0 (by have:=hr.un;lia)) hm boot_sorted (JU pa Qg hs) hg,fun C ρ σ H n Q R S hd hq=>?_⟩
 refine h C ρ σ H n _ _ S hd fun t n1 v I r1 e1 h1 q1=>?_
 have S1:=S.on e1 h1;have go:∀(p:aq) J ts,(SqL X.K I p J\/SqT X.K I p J)->Reps X.K C.hd (Own C ρ σ) I J ts->(∃rs:List NP,ts=Bd.oD rs/\rs.length<64/\∀L:List NP,L.Perm rs->L.Pairwise (fun a b=>npRk rs a<=npRk rs b)->R (Bd.oD L) n1) ->
   ∃(p':aq) (zs:List (V×NP)),[V.ref p]=[V.ref p']/\(SqL X.K I p' (zs.map (·.1))\/SqT X.K I p' (zs.map (·.1)))/\zs.length<64/\(∀z∈zs,PsV X.K I z) /\
  ∀G:List (V×NP),G.Perm zs->G.Pairwise (fun a b=>npRk (zs.map (·.2)) a.2<=npRk (zs.map (·.2)) b.2)->∀l,I l=none->Q (.ref l) (upd I l (.lst (G.map (·.1)))):=fun p J ts hs rp ⟨rs,ets,l64,hR⟩=>by
  subst ets;have ln:=rp.length;rw[Bd.UX]at ln;have rel:=zkx rp;refine⟨p,J.zip rs,rfl,?_,by simp;lia,fun z hz=>(rel z hz).1,fun G pm pw l U=>?_⟩
  ·rw[fj (by lia)];exact hs
  ·have hl0:H l=none:=by
    cases z:H l with
    | none=>rfl
    | some o =>
     by_cases y:C.hd=some l
     ·obtain⟨d,m,t,q,_⟩:=h1 l y;rw[U]at q;cases q
     ·rw[e1 l o z y]at U;cases U
   have pr:(G.map (·.2)).Perm rs:=by
    have:=pm.map (·.2)
    rwa [eG (by lia)]at this
   have rp':∀zs:List (V×NP),(∀z∈zs,Rep X.K C.hd (Own C ρ σ) I z.1 (.tuple [.tuple [.int z.2.1.1,.int z.2.1.2],.str z.2.2]))->Reps X.K C.hd (Own C ρ σ) I (zs.map (·.1)) (Bd.oD (zs.map (·.2))):=by
    intro zs;induction zs with
    | nil=>intro _;exact .nil
    | cons a l ih=>intro h;exact .cons (h a (.head _)) (ih fun x hx=>h x (.tail _ hx))
   refine hq _ n1 l _ _ (hR _ pr (by rw[dW];rw[eG (by lia)]at pw;exact pw)) (e1.trans (ExtE.new U)) (h1.same (JO U)) hl0 JJ ?_
   refine(rp' G fun z hz=>(rel z (pm.mem_iff.mp hz)).2).mono (fun b o Z z=>z.elim id fun z=>?_) fun b o _ Z=>JO U b o Z
   subst z;rw[U]at Z;cases Z
 cases t with
 | list ts =>
  obtain⟨p,J,rfl,Y,h2⟩:=q1.lstI;exact go p J ts (.inl (.of Y)) h2 r1
 | tuple ts =>
  obtain⟨p,J,rfl,Y,h2⟩:=q1.tupI;exact go p J ts (.inr Y) h2 r1
 | _=>exact r1.elim
instance zud {ρ:En}{n:Nat}{R:List af->Nat->Prop}:Stp (zl6 d ρ n R) (d ρ n fun t n1=>JX t fun ts=>∃rs:List NP,ts=Bd.oD rs/\rs.length<64/\∀rs':List NP,rs'.Perm rs->rs'.Pairwise (fun a b=>npRk rs a<=npRk rs b)->R (Bd.oD rs') n1):=⟨fun h=>h⟩
end
section
variable{prog:aK}{w:aQ}{A:br}{R:mZ->au->Prop}{I:aq}{fp wr:List aq}{n:Nat}{P:Nat->ah->Prop}{St:Nat->aN->Prop}
def CmpH(prog:aK)(w:aQ)(A:br)(Gd:aN->Prop)(P:Nat->ah->Prop)(bt:Nat->Nat->Bool):Prop :=
 ∀i j vi vj (s:au) (Q:qV) (E:qV),Gd s.heap->P i vi->P j vj->Q (.bool (bt i j)) s->wpAny (model prog w) A (richCompare .Lt vi vj) Q E s
theorem zk_{Gd:aN->Prop}{bt:Nat->Nat->Bool}{S:aq}(W:Walks prog w A.in1 I fp wr n P St)(IZ:CmpH prog w A.in1 Gd P bt)(hSf:S∉fp)
  (hG:∀h h',Gd h->(∀b o,b∉wr->b≠S->h.get? b=some o->h'.get? b=some o)->Gd h') :
  ∀(k j:Nat) (s:au) (Y:ah) (c:Nat),n - (j+1)=k->j+1<=n->St (j+1) s.heap->Gd s.heap->P (argBest bt j) Y ->
  s.heap.get? S=some { cls:=.type "list",dict:=none,data:=.seq #[Y,Y] c,slots:=#[] } ->
  (∀v h' tk,P (argBest bt (n - 1)) v->(∀b o,b∉wr->b≠S->s.heap.get? b=some o->h'.get? b=some o)->R (.ok (.ret v)) { s with heap:=h',toks:=tk }) ->
  codeAny (model prog w) A (.builtin "min.loop" ⟨[.ref I,.none,.ref S],[]⟩) R s:=by
 have hSw:S∉wr:=fun h=>hSf (W.sub _ h)
 have Iy:(toString "min" ++ toString ".loop":String) = "min.loop":=by decide
 intro k;induction k with
 | zero =>
  intro j s Y c hk hj hst gd U hS hR;have hin:j+1=n:=by omega
  refine fH ly ?_;rw[iF eI _];show wpAny _ A.in1 (seqItems? (.ref S) >>= _) _ _ s
  refine aa (cW hS rfl ?_);show wpAny _ A.in1 (tryCatch (pyNext (.ref I)) _ >>= _) _ _ s
  refine aa (ko (W.done s _ _ (hin▸hst) fun h' tk C=>?_))
  show wpAny _ A.in1 (updateSeq S (fun _=>#[]) >>= _) _ _ _
  refine aa (lS (C S _ hSw hS) rfl (aa (gS (aj ?_))));exact hR Y _ tk (by rw[<- hin];exact U) fun b o x G e=>(bV _ _ (gT G)).trans (C b o x e)
 | succ k ih =>
  intro j s Y c hk hj hst gd U hS hR;have hlt:j+1<n:=by omega
  refine fH ly ?_;rw[iF eI _];show wpAny _ A.in1 (seqItems? (.ref S) >>= _) _ _ s
  refine aa (cW hS rfl ?_);show wpAny _ A.in1 (tryCatch (pyNext (.ref I)) _ >>= _) _ _ s
  refine aa (ko (W.item (j+1) s _ _ hlt hst fun v h' tk hP Z C=>?_))
  have hS':=C S _ hSw hS;have gd':Gd h':=hG _ _ gd fun b o hb _ e=>C b o hb e
  show wpAny _ A.in1 (tryCatch (holding [v,v] (richCompare .Lt v Y >>= _)) _ >>= _) _ _ _
  refine aa (ko (bO (aa (IZ (j+1) (argBest bt j) v Y _ _ _ gd' hP U ?_))));refine aa (bO (bz ?_));refine aa (gS (aj ?_));cases hb:bt (j+1) (argBest bt j) with
  | true =>
   simp only[if_true];refine aa (lS hS' rfl (aa (gS ?_)));rw[Iy];refine aj ⟨kR eI _,ih (j+1) _ v _ (by omega) hlt (W.frame _ _ _ Z fun b hbf o e=>?_) (hG _ _ gd' fun b o _ hb e=>(bV _ _ (gT hb)).trans e) (by simp only[argBest,hb,if_true];exact hP) (fN _ hS' rfl)
    fun v' h'' J hP' N=>?_⟩
   ·exact(bV _ _ (fun h:S=b=>hSf (by rw[h];exact hbf))).trans e
   ·exact hR v' h'' J hP' fun b o x G e=>N b o x G ((bV _ _ (gT G)).trans (C b o x e))
  | false =>
   simp only[aI,if_false];refine aa (gS ?_);rw[Iy];refine aj ⟨kR eI _,ih (j+1) _ Y c (by omega) hlt Z gd' (by simp only[argBest,hb,aI,if_false];exact U) hS' fun v' h'' J hP' N=>?_⟩
   exact hR v' h'' J hP' fun b o x G e=>N b o x G (C b o x e)
theorem zgN{E:qV}{s:au}{x:ah}{Q:qV}
  (h:wpAny (model prog w) A.in1 (pyIter x) (fun it y=>∃(I:aq) (fp wr:List aq) (n:Nat) (P:Nat->ah->Prop) (St:Nat->aN->Prop) (bt:Nat->Nat->Bool) (Gd:aN->Prop),it=.ref I/\Walks prog w A.in1 I fp wr n P St/\St 0 y.heap/\(∀b∈fp,b<y.heap.objs.size)/\0<n/\CmpH prog w A.in1 Gd P bt/\Gd y.heap /\
   (∀h h',Gd h->(∀b o,b∉wr->b≠y.heap.objs.size->h.get? b=some o->h'.get? b=some o)->Gd h') /\
   ∀v h' tk,P (argBest bt (n - 1)) v->(∀b o,b∉wr->y.heap.get? b=some o->h'.get? b=some o)->Q v { y with heap:=h',toks:=tk }) E s) :
  wpAny (model prog w) A (call (.builtin "min") [x]) Q E s:=by
 have Iy:(toString "min" ++ toString ".loop":String) = "min.loop":=by decide
 refine call_function_tree F.kind_min F.plain_min F.entry_min (F.args_min1 _) ?_;show wpAny _ A.in1 (iS "min" ["key","default"] 0 ⟨[],[]⟩ >>= _) _ _ s
 refine aa (oK (show iS "min" ["key","default"] 0 ⟨[],[]⟩=pure [none,none] from rfl) (aa (aj ?_)))
 refine aa (cQ h (fun it y J=>?_) fun _ _ e=>e)
 obtain⟨I,fp,wr,n,P,St,bt,Gd,rfl,W,hst,hfp,hn,IZ,gd,Z,hQ⟩:=J;refine aa (cR ?_);have G:y.heap.objs.size∉fp:=fun hm=>fL _ (hfp _ hm)
 have hSw:y.heap.objs.size∉wr:=fun h=>G (W.sub _ h)
 rw[Iy];refine aj ⟨kR eI _,?_⟩;refine fH ly ?_;rw[iF eI _];show wpAny _ A.in1 (seqItems? (.ref y.heap.objs.size) >>= _) _ _ _
 refine aa (cW (az _ rfl) rfl ?_);show wpAny _ A.in1 (tryCatch (pyNext (.ref I)) _ >>= _) _ _ _
 refine aa (ko (W.item 0 _ _ _ hn (W.frame _ _ _ hst fun b _ o e=>ak _ e) fun v h' tk hP S C=>?_))
 have Y:=C y.heap.objs.size _ hSw (az _ rfl);show wpAny _ A.in1 (updateSeq y.heap.objs.size (fun _=>#[v,v]) >>= _) _ _ _
 refine aa (lS Y rfl ?_);rw[Iy];have g1:Gd h':=Z _ _ (Z _ _ gd fun b o _ _ e=>ak _ e) fun b o hb _ e=>C b o hb e
 refine aj ⟨kR eI _,zk_ (Gd:=Gd) (bt:=bt) W IZ G Z _ 0 _ v _ rfl hn (W.frame _ _ _ S fun b hbf o e=>?_) (Z _ _ g1 fun b o _ hb e=>(bV _ _ (gT hb)).trans e) hP (fN _ Y rfl) fun v' h'' L hP' U=>?_⟩
 ·exact(bV _ _ (fun h:y.heap.objs.size=b=>G (by rw[h];exact hbf))).trans e
 ·exact hQ v' h'' L hP' fun b o N e=>U b o N (aF (ay e)) ((bV _ _ (lB (ay e))).trans (C b o N (ak _ e)))
end
def pLt(a b:Int×Int):Bool:=HT.lexLt [a.1,a.2] [b.1,b.2]
theorem pLt_iff{a b:Int×Int}:pLt a b=true↔(a.1<b.1\/(a.1=b.1/\a.2<b.2)):=by
 have e:pLt a b=if a.1=b.1 then(if a.2=b.2 then false else decide (a.2<b.2)) else decide (a.1<b.1):=rfl
 rw[e]
 by_cases h1:a.1=b.1
 ·rw[if_pos h1]
  by_cases h2:a.2=b.2
  ·rw[if_pos h2];simp;omega
  ·rw[if_neg h2];simp;omega
 ·rw[if_neg h1];simp;omega
theorem zfm{f:Nat->Int×Int}:∀k j,j<=k->pLt (f j) (f (argBest (fun i j=>pLt (f i) (f j)) k))=false
 | 0,j,hj=>by
  cases vm.mp hj;simp only[argBest];rw[bY];intro z;rw[pLt_iff]at z;omega
 | k+1,j,hj=>by
  have u:=zfm (f:=f) k;simp only[argBest];rw[bY];intro z;split at z
  ·rename_i l;rcases gN hj with h|rfl
   ·have:=u j (by omega)
    rw[bY]at this;apply this;rw[pLt_iff]at z l ⊢;omega
   ·rw[pLt_iff]at z;omega
  ·rename_i l;rcases gN hj with h|rfl
   ·have:=u j (by omega)
    rw[bY]at this;exact this z
   ·exact l z
section
variable{X:Cx}{k:Nat}
theorem zmm(hr:Room k X.A)(hc:X.calm=true):JG X (.builtin "min") (fun xs H Q=>∃(a:aq) (zs:List (V×(Int×Int))),xs=[.ref a]/\SqL X.K H a (zs.map (·.1))/\zs≠[]/\(∀z∈zs,∃q,z.1=.ref q/\SqT X.K H q [.int z.2.1,.int z.2.2]) /\
  ∀z∈zs,(∀y∈zs,pLt y.2 z.2=false)->Q z.1 H):=by
 intro pins s σ H xs us Q I r h;obtain⟨a,zs,rfl,hq,ne,hp,q⟩:=h;cases r with
 | cons G U =>
  cases U;cases(show _=bM a from G)
  obtain⟨x,rv,p,hz⟩:=I.list hq;have cell:cZ (fun(z:V×(Int×Int)) (u:ah)=>RelV z.1 u/\PrIn s.heap u z.2.1 z.2.2) zs x:=by
   have go:∀(zs:List (V×(Int×Int))) (x:List ah),(∀z∈zs,∃q,z.1=.ref q/\SqT X.K H q [.int z.2.1,.int z.2.2])->Vals (zs.map (·.1)) x->cZ (fun(z:V×(Int×Int)) (u:ah)=>RelV z.1 u/\PrIn s.heap u z.2.1 z.2.2) zs x:=by
    intro zs;induction zs with
    | nil=>intro x _ r;cases r;exact .nil
    | cons z zs ih =>
     intro x hz r;cases r with
     | cons G U =>
      obtain⟨q,R,Z⟩:=hz z (.head _);refine .cons ⟨G,?_⟩ (ih _ (fun y hy=>hz y (.tail _ hy)) U)
      dsimp only at G;rw[R]at G;cases(show _=bM q from G)
      exact zo0 I Z
   exact go zs x hp rv
  have C:=cell.length;have at_:∀(i:Nat) (v:ah),x[i]?=some v->∃z,zs[i]?=some z/\RelV z.1 v/\PrIn s.heap v z.2.1 z.2.2:=by
   have go:∀{zs:List (V×(Int×Int))} {x:List ah},cZ (fun(z:V×(Int×Int)) (u:ah)=>RelV z.1 u/\PrIn s.heap u z.2.1 z.2.2) zs x->∀(i:Nat) (v:ah),x[i]?=some v->∃z,zs[i]?=some z/\RelV z.1 v/\PrIn s.heap v z.2.1 z.2.2:=by
    intro zs x h;induction h with
    | nil=>intro i v e;simp at e
    | cons h1 _ ih =>
     intro i v e;cases i with
     | zero=>cases e;exact⟨_,rfl,h1⟩
     | succ i=>exact ih i v e
   exact go cell
  have S:s.heap.IsList a x.toArray:=p.isList;have Y:a<s.heap.objs.size:=by obtain⟨_,e,_⟩:=S;exact ay e
  have hu:X.A.in1.units<cLine:=by have:=hr.un;show X.A.units+1<_;lia
  refine zgN (eT S ?_);refine⟨s.heap.objs.size,[s.heap.objs.size,a],[s.heap.objs.size],x.toArray.size,_,_,fun i j=>pLt ((zs[i]?.map (·.2)).getD (0,0)) ((zs[j]?.map (·.2)).getD (0,0)),fun h=>∀b o,s.heap.get? b=some o->h.get? b=some o,rfl,pP (A:=X.A.in1) (I.ok.hd hc) _ a (aF Y) x.toArray,
   ⟨⟨_,az _ rfl,rfl,rfl⟩,S.push _⟩,?_,?_,?_,fun b o e=>ak _ e,?_,fun v h' tk hP hk=>?_⟩
  ·intro b hb;simp only[aw,aH,or_false]at hb;rw[cV];rcases hb with rfl|rfl <;> lia
  ·rw[ax,<- C];exact gA.mpr ne
  ·intro i j vi vj s' Q' E' gd hi N hQ;obtain⟨z,J,_,pz⟩:=at_ i vi (by simpa using hi)
   obtain⟨y,ey,_,py⟩:=at_ j vj (by simpa using N)
   obtain⟨a1,o,t,t',n,e0,R,Z,e3⟩:=pz;obtain⟨a2,o',u,u',n',f0,f1,f2,f3⟩:=py;subst e0 f0;simp only[J,ey,dE,cM]at hQ;exact(show wpAny (model X.prog X.w) X.A.in1 (compareOp .Lt (.ref a1) (.ref a2)) _ E' s' from HT.zcn ⟨o,gd _ _ R,Z,n,e3⟩ ⟨o',gd _ _ f1,f2,n',f3⟩ (.cons _ _ (.cons _ _ .nil)) (.cons _ _ (.cons _ _ .nil)) hu hQ)
  ·intro h h' gd kp b o e;have:=ay e;refine kp b o (fun z=>?_) (fun z=>?_) (gd b o e)
   ·simp only[aw,aH,or_false]at z;lia
   ·rw[cV]at z;lia
  ·obtain⟨z,J,rz,_⟩:=at_ _ v (by simpa using hP)
   refine⟨z.1,H,I.kept (mT hk),rz,q z (aR J) fun y hy=>?_⟩
   obtain⟨j,N⟩:=dF.mp hy;have jl:=(av.mp N).1;have:=zfm (f:=fun i=>(zs[i]?.map (·.2)).getD (0,0)) (x.toArray.size - 1) j (by rw[ax,<- C];lia)
   simp only[ax]at this J;simp only[N,J,dE,cM]at this;exact this
def zqQ:GC
 | [.list ts],R=>∃bs:List (Int×Int),ts=pD bs/\bs≠[]/\∀b∈bs,(∀c∈bs,pLt c b=false)->R (.tuple [.int b.1,.int b.2])
 | _,_=>False
theorem zkw{K:qF}{hd:Option aq}{O:aq->Prop}{H:Hp}:∀{x:List V}{bs:qB},Reps K hd O H x (pD bs)->∀z∈x.zip bs,(∃q,z.1=.ref q/\SqT K H q [.int z.2.1,.int z.2.2])/\Rep K hd O H z.1 (.tuple [.int z.2.1,.int z.2.2])
 | _,[],r=>by cases r;intro z v;simp at v
 | _,a::bs,r=>by
  cases r with
  | cons h r =>
   intro z v;rcases aw.mp (by simpa using v) with rfl|v
   ·exact⟨h.bkI,h⟩
   ·exact zkw r z v
theorem zqi:GpC X (fun xs H Q=>∃(a:aq) (zs:List (V×(Int×Int))),xs=[.ref a]/\SqL X.K H a (zs.map (·.1))/\zs≠[]/\(∀z∈zs,∃q,z.1=.ref q/\SqT X.K H q [.int z.2.1,.int z.2.2]) /\
  ∀z∈zs,(∀y∈zs,pLt y.2 z.2=false)->Q z.1 H) zqQ:=by
 intro hd O H xs ts Q R dom rs h J;unfold zqQ at h;split at h
 ·obtain⟨bs,rfl,ne,h⟩:=h;obtain⟨v,rfl,I⟩:=Qr rs;obtain⟨p,u,rfl,L,G⟩:=I.lstI;have ln:u.length=bs.length:=by have:=G.length;simpa[pD] using this
  have rel:=zkw G;refine⟨p,u.zip bs,rfl,?_,fun z=>?_,fun z x=>(rel z x).1,fun z x N=>J _ _ H (h z.2 (cY x).2 fun c hc=>?_) (Same.refl H) (rel z x).2⟩
  ·rw[fj (by lia)];exact .of L
  ·have:(u.zip bs).length=0:=by rw[z];rfl
   rw[iL,ln,nT]at this;exact ne (dX.mp this)
  ·obtain⟨j,C⟩:=dF.mp hc;have S:=(av.mp C).1;have:(u[j]'(by lia),c)∈u.zip bs:=dF.mpr ⟨j,by rw[gu];exact⟨aJ _,C⟩⟩
   exact N _ this
 ·exact h.elim
theorem zsU{bs:qB}{R:af->Prop}(ne:bs≠[])(h:∀b∈bs,(∀c∈bs,pLt c b=false)->R (.tuple [.int b.1,.int b.2])):zqQ [.list (pD bs)] R:=⟨bs,rfl,ne,h⟩
end
def StG(K:qF)(mg:qM)(x:Str)(l:List Str):Prop:=∃a,mg x=some (.ref a)/\StT K a (l.map V.str)
end L2
namespace Bd
open PySem PySem.W PySem.Calls L2 PyProof.Rows
def Z5:List ah->List Str->Bool
 | [],[]=>true
 | .str x _::r,y::z=>decide (x=y)&&Z5 r z
 | _,_=>false
theorem zer:∀{u:List ah}{v:List Str},Z5 u v=true->Vals (v.map V.str) u
 | [],[],_=>.nil
 | .str x t::r,y::z,h=>by
  simp only[Z5,aG,decide_eq_true_eq]at h;obtain⟨rfl,h⟩:=h;exact .cons ⟨t,rfl⟩ (zer h)
def tupO(h:aN)(l:List Str):ah->Bool
 | .ref a=>(match h.get? a with
  | some ⟨.type c,none,.seq vs _,_⟩=>decide (c = "tuple")&&decide (vs.size<=100)&&Z5 vs.toList l
  | _=>false)
 | _=>false
def UN(l:List (Str×List Str))(s:au):Bool:=l.all fun q=>(s.heap.nsMap mainGlobals q.1).any (tupO s.heap q.2)
def TupsAre(l:List (Str×List Str))(mg:qM)(h:aN):Prop:=∀q∈l,∃v,mg q.1=some v/\tupO h q.2 v=true
theorem zq_{l:List (Str×List Str)}{s:au}(x:UN l s=true):TupsAre l (s.heap.nsMap mainGlobals) s.heap:=fun q u=>by
 have e:=bg.mp x q u;cases g:s.heap.nsMap mainGlobals q.1 with
 | none=>rw[g]at e;cases e
 | some v=>rw[g]at e;exact⟨v,rfl,e⟩
theorem zga{h h':aN}{l:List Str}{v:ah}(x:tupO h l v=true)(k:∀b o,h.get? b=some o->h'.get? b=some o):tupO h' l v=true:=by
 unfold tupO at x ⊢;split at x
 ·rename_i a;cases e:h.get? a with
  | none=>rw[e]at x;cases x
  | some o=>rw[e]at x;rw[k _ _ e];exact x
 ·cases x
theorem TupsAre.keeps{l:List (Str×List Str)}{mg:qM}{h h':aN}(x:TupsAre l mg h)(k:∀b o,h.get? b=some o->h'.get? b=some o):TupsAre l mg h':=fun q u=>by
 obtain⟨v,a,b⟩:=x q u;exact⟨v,a,zga b k⟩
theorem TupsAre.st{u:List (Str×List Str)}{mg:qM}{h:aN}(x:TupsAre u mg h){n:Str}{l:List Str}(m:(n,l)∈u):StG (JI h) mg n l:=by
 obtain⟨v,a,b⟩:=x _ m;unfold tupO at b;split at b
 ·rename_i p;split at b
  ·rename_i c I G J e;simp only[aG,decide_eq_true_eq]at b;obtain⟨⟨rfl,y⟩,C⟩:=b;exact⟨p,a,_,I,G,U5 e,rfl,rfl,cf y (by decide),zer C,rfl⟩
  ·cases b
 ·cases b
end Bd
namespace L2
open PySem PySem.Spec PyProof.Rows
def ndup:List Str->Bool
 | []=>true
 | x::l=>!l.any (fun y=>decide (x=y))&&ndup l
theorem ndB{l:List Str}(h:ndup l=true):l.Nodup:=by
 induction l with
 | nil=>exact .nil
 | cons x l u =>
  simp only[ndup,aG,kK,ny,decide_eq_true_eq]at h;exact eQ.mpr ⟨fun m=>h.1 x m rfl,u h.2⟩
def fnB(N P:List Str)(sc:fv):Bool:=(match sc.kind with|.function=>true|_=>false)&&!sc.isCoroutine&&!sc.isGenerator&&ndup N&&decide (N.take P.length=P)&&P.all (fun x=>decide (sc.names.lookup x=some .local\/sc.names.lookup x=some .cell))&&sc.names.all fun y=>decide (y.2≠.free)
theorem fnS{N P:List Str}{sc:fv}(h:fnB N P sc=true):Q9 N P sc:=by
 simp only[fnB,aG,kK,decide_eq_true_eq,bg]at h;obtain⟨⟨⟨⟨⟨⟨a,b⟩,c⟩,d⟩,e⟩,f⟩,g⟩:=h;exact⟨(by cases q:sc.kind <;> rw[q]at a <;> first|rfl|(exact nomatch a)),b,c,ndB d,e,f,g⟩
section
variable{X:Cx}{x:Str}{e:aP}{es:List aP}{d:DTE}{ds:DTA}{pos pos':Pos}
theorem dlv(i:Nat)(v:X.N[i]?=some x:=by rfl)(u:Vis X.env.scope x:=by walk_at "V")(hd:(x == ("__debug__":Str))=false:=by rfl)
  (l:(x == ("__classdict__":Str))=false:=by rfl):DL X (.Name x pos) (dVar i):=dl (Jk i v u hd l)
theorem dli{i j}:DL X (.Constant (.int i) j pos) (dC (.int i)):=dl Je
theorem dbc(h:DE X e d)(l:DB X es ds)(u:starEach (e::es) X.env=(false,eval e X.env)::starEach es X.env:=by rfl):DB X (e::es) (Qb d ds):=zl5 h l u
theorem dbv(i:Nat)(u:DB X es ds)(y:X.N[i]?=some x:=by rfl)(v:Vis X.env.scope x:=by walk_at "V")(hd:(x == ("__debug__":Str))=false:=by rfl)
  (l:(x == ("__classdict__":Str))=false:=by rfl):DB X (.Name x pos::es) (Qb (dVar i) ds):=zl5 (Jk i y v hd l) u rfl
theorem dsv(i:Nat)(v:X.N.Nodup)(h:DE X e d)(hi:X.N[i]?=some x:=by rfl)(hx:Loc X.env.scope x:=by first|exact er rfl|exact wY rfl)(u:swapsWith e (some (.Name x pos')) pos.line X.env=pure false:=by rfl)
  (hf:X.fn x=true\/X.env.scope.names.lookup x=some .local:=by walk_at "F"):DS X (.Assign [.Name x pos'] e pos) (sSet i d):=ztT v hi hx h u hf
theorem dgv(i:Nat)(u:X.N.Nodup)(hi:X.N[i]?=some x:=by rfl)(hx:Loc X.env.scope x:=by first|exact er rfl|exact wY rfl)(hf:X.fn x=true\/X.env.scope.names.lookup x=some .local:=by walk_at "F"):DG X (.Name x pos) [i] (Qd i):=zqw u hi hx hf
end
section
variable{X:Cx}{scope:fv}{iter elt:aP}{ifs:List aP}{tg:aP}{pos:Pos}{is:List Nat}{di:DTA}{g:DTG}{tt:DTT}{te:DTE}
theorem dnc(own:List Str)(capt:List Nat)(hi:DIL X tg iter di)(G:∀C s₀ H₀ u,DG (Jg X scope own capt C s₀ H₀ u) tg is g)(v:∀C s₀ H₀ u,DE (Jg X scope own capt C s₀ H₀ u) elt te)
  (hc:X.calm=true:=by rfl) (h:VU scope X.env.scope X.N capt=true:=by rfl) (l:∀i∈is,i<own.length:=by decide) (y:∀x,foldedSetIterable iter X.env x=pure x:=by intro _;rfl):DN X (.ListComp elt [⟨tg,iter,[],0⟩] scope pos) (dComp own.length capt di g dYes te) :=
 zlY hc (JK.of h) hi G l (fun _ _ _ _=>Vt) v y
theorem dnf(own:List Str)(capt:List Nat)(hi:DIL X tg iter di)(I:∀C s₀ H₀ l,DG (Jg X scope own capt C s₀ H₀ l) tg is g)(v:∀C s₀ H₀ l,DTs (Jg X scope own capt C s₀ H₀ l) ifs tt)(y:∀C s₀ H₀ l,DE (Jg X scope own capt C s₀ H₀ l) elt te)
  (hc:X.calm=true:=by rfl) (h:VU scope X.env.scope X.N capt=true:=by rfl) (u:∀i∈is,i<own.length:=by decide) (G:∀x,foldedSetIterable iter X.env x=pure x:=by intro _;rfl):DN X (.ListComp elt [⟨tg,iter,ifs,0⟩] scope pos) (dComp own.length capt di g tt te) :=
 zlY hc (JK.of h) hi I u v y G
end
end L2
namespace Bd
open PySem PySem.W PySem.Calls L2 PyProof.Rows
def Qm(h:aN):ah->Option (List dG)
 | .ref a=>if a == sysModules then none else(match h.get? a with
  | some ⟨.type c,none,.dict es _,sl⟩=>if decide (c = "dict")&&decide (sl.size=0) then some es.toList else none
  | _=>none)
 | _=>none
theorem zda{h h':aN}{v:ah}{l:List dG}(x:Qm h v=some l)(k:∀b o,h.get? b=some o->h'.get? b=some o):Qm h' v=some l:=by
 unfold Qm at x ⊢;split at x
 ·rename_i a;split at x
  ·cases x
  ·rename_i q;rw[if_neg q];cases e:h.get? a with
   | none=>rw[e]at x;cases x
   | some o=>rw[e]at x;rw[k _ _ e];exact x
 ·cases x
theorem zjn{h:aN}{v:ah}{C:List dG}(x:Qm h v=some C):∃a l u,v=.ref a/\(a == sysModules)=false/\h.get? a=some ⟨.type "dict",none,.dict l u,#[]⟩/\l.toList=C:=by
 unfold Qm at x;split at x
 ·rename_i a;split at x
  ·cases x
  ·rename_i q;split at x
   ·rename_i c l u G e;split at x
    ·rename_i z;simp only[aG,decide_eq_true_eq]at z;obtain⟨rfl,I⟩:=z;have:G=#[]:=Array.eq_empty_of_size_eq_zero I;subst this;cases x;exact⟨a,l,u,rfl,by simpa using q,e,rfl⟩
    ·cases x
   ·cases x
 ·cases x
def keyO(k:Str):ah->Bool
 | .str x _=>decide (x=k)
 | _=>false
def Uu(h:aN):List dG->List (Str×List Str)->Bool
 | [],[]=>true
 | e::r,q::z=>keyO q.1 e.key&&tupO h q.2 e.val&&Uu h r z
 | _,_=>false
def zrF:ah->Option ah->Bool
 | .ref a,some (.ref b)=>a == b
 | _,_=>false
def YS(mg:qM):List dG->List Str->Bool
 | [],[]=>true
 | e::r,k::z=>keyO k e.key&&zrF e.val (mg k)&&YS mg r z
 | _,_=>false
abbrev PLs:=List (Str×List (Str×List Str))
abbrev FLs:=List (Str×List Str)
def UH(pl:PLs)(fl:FLs)(s:au):Bool :=
 (pl.all fun q=>(s.heap.nsMap mainGlobals q.1).any fun v=>(Qm s.heap v).any fun l=>Uu s.heap l q.2)&&fl.all fun q=>(s.heap.nsMap mainGlobals q.1).any fun v=>(Qm s.heap v).any fun l=>YS (s.heap.nsMap mainGlobals) l q.2
structure DctsAre(pl:PLs)(fl:FLs)(mg:qM)(h:aN):Prop where
 p:∀q∈pl,∃v es,mg q.1=some v/\Qm h v=some es/\Uu h es q.2=true
 f:∀q∈fl,∃v es,mg q.1=some v/\Qm h v=some es/\YS mg es q.2=true
theorem Z3{α:Type}{o:Option α}{p:α->Bool}(h:o.any p=true):∃v,o=some v/\p v=true:=by
 cases o with
 | none=>cases h
 | some v=>exact⟨v,rfl,h⟩
theorem zt5{pl:PLs}{fl:FLs}{s:au}(x:UH pl fl s=true):DctsAre pl fl (s.heap.nsMap mainGlobals) s.heap:=by
 obtain⟨a,b⟩:=aX.mp x;refine⟨fun q l=>?_,fun q l=>?_⟩
 ·obtain⟨v,e,y⟩:=Z3 (bg.mp a q l);obtain⟨u,C,y⟩:=Z3 y;exact⟨v,u,e,C,y⟩
 ·obtain⟨v,e,y⟩:=Z3 (bg.mp b q l);obtain⟨u,C,y⟩:=Z3 y;exact⟨v,u,e,C,y⟩
theorem zd_{h h':aN}(k:∀b o,h.get? b=some o->h'.get? b=some o):∀{es ks},Uu h es ks=true->Uu h' es ks=true
 | [],[],_=>rfl
 | e::r,q::z,x=>by
  simp only[Uu,aG]at x ⊢;exact⟨⟨x.1.1,zga x.1.2 k⟩,zd_ k x.2⟩
theorem DctsAre.keeps{pl:PLs}{fl:FLs}{mg:qM}{h h':aN}(x:DctsAre pl fl mg h)(k:∀b o,h.get? b=some o->h'.get? b=some o):DctsAre pl fl mg h' :=
 ⟨fun q l=>let ⟨v,es,a,b,c⟩:=x.p q l;⟨v,es,a,zda b k,zd_ k c⟩,fun q l=>let ⟨v,es,a,b,c⟩:=x.f q l;⟨v,es,a,zda b k,c⟩⟩
def hshs(dl:FLs)(h:aN):List (Option (List Int)):=dl.map fun q=>((globalOf h q.1).bind (Qm h)).map (nJ (·.hash))
def hshW(dl:FLs)(w:aQ):List (Option (List Int)):=dl.map fun q=>some (q.2.map (hashStr w))
def HshOk(dl:FLs)(w:aQ)(h:aN):Prop:=∀q∈dl,((globalOf h q.1).bind (Qm h)).map (nJ (·.hash))=some (q.2.map (hashStr w))
theorem ztC{dl:FLs}(w:aQ)(s:au)(e:hshs dl s.heap=hshW dl w):HshOk dl w s.heap:=by
 unfold hshs hshW at e;intro q l;exact List.map_inj_left.mp e q l
theorem zfS{h h':aN}{x:Str}{v:ah}(e:globalOf h x=some v)(k:∀b o,h.get? b=some o->h'.get? b=some o):globalOf h' x=some v:=by
 unfold globalOf at e ⊢;cases g:h.get? mainNs with
 | none=>rw[g]at e;cases e
 | some o=>rw[g]at e;rw[k _ _ g];exact e
theorem znY{dl:FLs}(w:aQ)(h h':aN)(x:HshOk dl w h)(k:∀b o,h.get? b=some o->h'.get? b=some o):HshOk dl w h':=fun q l=>by
 have e:=x q l;cases g:globalOf h q.1 with
 | none=>rw[g]at e;cases e
 | some v =>
  rw[g]at e;rw[zfS g k];simp only[oF]at e ⊢;cases g2:Qm h v with
  | none=>rw[g2]at e;cases e
  | some u=>rw[g2]at e;rw[zda g2 k];exact e
theorem HshOk.at{dl:FLs}{w:aQ}{h:aN}{mg:qM}(x:HshOk dl w h)(G:h.Ns mainGlobals mg){n:Str}{l:List Str}(m:(n,l)∈dl){v:ah}{u:List dG}(e:mg n=some v)(d:Qm h v=some u):u.map (·.hash)=l.map (hashStr w):=by
 have y:=x _ m;rw[Claim2Try.globalOf_of_ns G,e]at y;simp only[oF]at y;rw[d]at y;exact aM y
theorem zlz{k:Str}{v:ah}(h:keyO k v=true):∃t,v=.str k t:=by
 unfold keyO at h;split at h
 ·rename_i x t;have:x=k:=by simpa using h
  subst this;exact⟨t,rfl⟩
 ·cases h
theorem ziW{w:aQ}{h:aN}:∀{v:List dG}{u:List (Str×List Str)},Uu h v u=true->v.map (·.hash)=(u.map (·.1)).map (hashStr w)->cZ (PtE w (JI h)) v u
 | [],[],_,_=>.nil
 | e::r,q::z,x,y=>by
  simp only[Uu,aG]at x;obtain⟨⟨G,C⟩,I⟩:=x;simp only[bZ,gJ]at y;have s:TupsAre [(q.1,q.2)] (fun _=>some e.val) h:=fun p J=>by
   cases aC.mp J;exact⟨_,rfl,C⟩
  obtain⟨b,L,st⟩:=s.st (aC.mpr rfl);exact .cons ⟨y.1,zlz G,b,aM L,st⟩ (ziW I y.2)
theorem DctsAre.st{pl:PLs}{fl dl:FLs}{P:aK}{w:aQ}{mg:qM}{h:aN}(x:DctsAre pl fl mg h)(y:HshOk dl w h)(G:h.Ns mainGlobals mg){n:Str}{l:List (Str×List Str)}(m:(n,l)∈pl)(C:(n,l.map (·.1))∈dl)(nd:(l.map (·.1)).Nodup):StD P w (JI h) mg n l:=by
 obtain⟨v,R,a,b,c⟩:=x.p _ m;have I:=y.at G C a b;obtain⟨ad,L,J,rfl,ns,e,rfl⟩:=zjn b;exact zrg a ns (U5 e) (ziW c I) nd
def StF(P:aK)(w:aQ)(K:qF)(mg:qM)(x:Str)(y:List Str):Prop :=
 ∃(a:aq) (o:Obj) (v:Array dG) (C:Nat) (l:List (Str×ah)),mg x=some (.ref a)/\(a == sysModules)=false/\K.lookup a=some o/\o.ExactDict/\o.data=.dict v C/\KeysOf (strKind P w) v/\Pairs (strKind P w) v.toList l/\(l.map (·.1)).Nodup /\
  ∀k∈y,∃f,valueAt l k=some (.ref f)/\mg k=some (.ref f)
theorem zlP{P:aK}{w:aQ}{mg:qM}:∀{I:List dG}{C:List Str},YS mg I C=true->I.map (·.hash)=C.map (hashStr w) ->
  ∃v,Pairs (strKind P w) I v/\v.map (·.1)=C/\(∀e∈I,∃k,(strKind P w).is k e.key=true/\e.hash=(strKind P w).hash k)/\∀k∈C,∃f,(k,bM f)∈v/\mg k=some (.ref f)
 | [],[],_,_=>⟨[],.nil,rfl,(fun e h=>nomatch h),fun k h=>nomatch h⟩
 | e::r,q::z,x,y=>by
  simp only[YS,aG]at x;obtain⟨⟨Y,G⟩,R⟩:=x;simp only[bZ,gJ]at y;obtain⟨v,a1,a2,Z,L⟩:=zlP (P:=P) R y.2;obtain⟨t,U⟩:=zlz Y;have u:(strKind P w).is q e.key=true:=by rw[U];show dg q (.str q t)=true;simp[dg]
  refine⟨(q,e.val)::v,.cons u rfl a1,by simp[a2],fun N J=>?_,fun k u=>?_⟩
  ·rcases aw.mp J with rfl|J
   ·exact⟨q,u,y.1⟩
   ·exact Z N J
  ·rcases aw.mp u with rfl|u
   ·unfold zrF at G;split at G
    ·rename_i a b S e2;have:a=b:=by simpa using G
     subst this;exact⟨a,by rw[S];exact .head _,e2⟩
    ·cases G
   ·obtain⟨f,m,g⟩:=L k u;exact⟨f,.tail _ m,g⟩
theorem zhS{l:List (Str×ah)}(nd:(l.map (·.1)).Nodup){k:Str}{v:ah}(m:(k,v)∈l):valueAt l k=some v:=by
 induction l with
 | nil=>exact nomatch m
 | cons p l x =>
  rw[bZ,eQ]at nd;rcases aw.mp m with rfl|m
  ·simp[valueAt,fJ]
  ·have ne:¬p.1=k:=fun z=>nd.1 (z▸aS.mpr ⟨_,m,rfl⟩)
   have:=x nd.2 m;simpa[valueAt,fJ,ne] using this
theorem DctsAre.sf{pl:PLs}{fl dl:FLs}{P:aK}{w:aQ}{mg:qM}{h:aN}(x:DctsAre pl fl mg h)(y:HshOk dl w h)(G:h.Ns mainGlobals mg){n:Str}{C:List Str}(m:(n,C)∈fl)(J:(n,C)∈dl)(nd:C.Nodup):StF P w (JI h) mg n C:=by
 obtain⟨v,es,a,b,c⟩:=x.f _ m;have Z:=y.at G J a b;obtain⟨ad,Y,R,rfl,ns,e,rfl⟩:=zjn b;obtain⟨I,a1,a2,a3,L⟩:=zlP (P:=P) c Z;have l:(I.map (·.1)).Nodup:=by rw[a2];exact nd
 refine⟨ad,_,Y,R,I,a,ns,U5 e,⟨rfl,rfl,rfl⟩,rfl,fun U S=>a3 U (by simpa using S),a1,l,fun k hk=>?_⟩
 obtain⟨f,m,g⟩:=L k hk;exact⟨f,zhS l m,g⟩
theorem zuU{lw:PySem.W.OpenLaw}{q:aK}{loose:List Str}{XP:(Str->Option ah)->aN->Prop}{YP:aQ->aN->Prop}{d:DefRec}{k:Nat}(hk:k<=60)(hn:lw.most=some 63)(L:d.params.defaults=[])
  (F:∀(w:aQ) (s₀:au) (mg C:qM) (y:aq) (h:aN),Ground q loose [] XP w s₀ mg C h->YP w h->mg d.name=some (.ref y) ->
   ∃fd:cP,(∀(s:au) (u:ah),pd s fd ⟨[u],[]⟩ [("_law_script",u)])/\∀base:aN,(JI h).In base->base.Ns mainGlobals mg->FnOk lw.prog w (JI h) mg base CX0 k y fd ["_law_script"] (zo1 (JI h))) :
  PySem.W.WalkO q loose XP YP lw.row.toRowW d [] (fun f R=>wJ f R):=by
 refine Att.attach_call hn L fun w s₀ N mg C y o pm cd doc a R ns G Y ho hd Z J x v l hg=>?_
 obtain⟨fd,S,U⟩:=F w s₀ mg C y _ G Y J;exact znE zkb G.T.g G.T.b G.T.builtins G.T.nolimit hg x v (cf l (by decide)) ((show Room 60 callerA from⟨rfl,by decide,by decide,rfl⟩).mono hk) U S (fun H hO hS=>⟨a,ns,rfl,hS,l,fun _=>rfl⟩) fun H e s' z=>z
end Bd
namespace L2
open PySem PySem.Spec PyProof.Rows
section
variable{K:qF}{C:Ctx}{ρ:En}{σ:St}{H:Hp}{n:Nat}
theorem ziY{i:Nat}{v:V}(hi:ρ[i]?=some none){a:aq}:Own C ρ (σ.set i (some v)) a↔Own C ρ σ a:=by
 have key:OwnS ρ (σ.set i (some v)) a↔OwnS ρ σ a:=by
  constructor
  ·rintro⟨j,c,m,l,u⟩;have ne:i≠j:=fun z=>by subst z;rw[hi]at l;cases l
   rw[aO ne]at u;exact⟨j,c,m,l,u⟩
  ·rintro⟨j,c,m,l,u⟩;have ne:i≠j:=fun z=>by subst z;rw[hi]at l;cases l
   exact⟨j,c,m,l,by rw[aO ne];exact u⟩
 unfold Own;rw[key]
theorem Stt.hole{i:Nat}{v:V}(hi:ρ[i]?=some none)(S:Stt K C ρ σ H n):Stt K C ρ (σ.set i (some v)) H n:=by
 have l:Own C ρ (σ.set i (some v))=Own C ρ σ:=funext fun a=>propext (ziY hi)
 have ne:∀{j:Nat} {c:Cell},ρ[j]?=some (some c)->(σ.set i (some v))[j]?=σ[j]?:=fun {j c} h=>aO fun z=>by subst z;rw[hi]at h;cases h
 refine⟨by rw[fG];exact S.len,fun j d h=>?_,fun j d h=>?_,fun j d h=>?_,fun j d h=>?_,fun j d h=>?_,fun j k c e a J I y G x u=>?_,S.hnd,S.ext,S.hx⟩
 ·rw[l,ne h];exact S.val j d h
 ·rw[l,ne h];exact S.own j d h
 ·rw[l,ne h];exact S.dct j d h
 ·rw[l,ne h];exact S.rdo j d h
 ·rw[l,ne h];exact S.dtt j d h
 ·rw[ne y]at x;rw[ne G]at u;exact S.dif j k c e a J I y G x u
end
section
variable{X:Cx}{e:aP}{es:List aP}{x y:Str}{pos p1 p2 p3 p4 p5 p6:Pos}{e1:aP}{d:DTE}{te:TE}{t:TA}{ks:List Str}{ds:DTA}{i m n:Nat}
def zu1(X:Cx)(ks:List Str)(te:TE):TE:=fun σ H Q=>te σ H fun y l=>∃z,y=.str z/\z∈ks/\∀f,X.mg z=some (.ref f)->Q (.ref f) l
theorem zpm(h:Bd.StF X.prog X.w X.K X.mg x ks)(J:Gl X x)(he:PE X e te)(hs:NoSl e)(hd:(x == ("__debug__":Str))=false:=by rfl):PE X (.Subscript (.Name x p1) e pos) (zu1 X ks te):=by
 obtain⟨a,o,es,U,vs,h1,h2,Y,C,h5,v,h7,Z,h9⟩:=h;intro pins s σ H Q I hw;refine zkh kB.lookup hs (UY I J h1 (thn (he pins s σ H _ I hw) fun iv s1 ⟨y,G,l,L,z,ez,R,q⟩=>?_) hd)
 subst ez;obtain⟨t,rfl⟩:∃t,iv=iV z t:=L;obtain⟨f,g1,g2⟩:=h9 z R;have dd:s1.heap.DictOf (strKind X.prog X.w) a vs:=⟨o,es,U,l.kIn a o Y,C,h5,v,h7,Z⟩;exact⟨dd.typeIs,oC (knd:=strKind X.prog X.w) (k:=z) (by show dg z (.str z t)=true;simp[dg]) dd.mapOf g1 ⟨.ref f,G,l.tok _,rfl,q f g2⟩⟩
end
end L2
namespace Bd
open PySem PySem.W PySem.Calls L2 PyProof.Rows
def JW(u:String->Option fR)(p:aK)(w:aQ)(l:Nat)(ann:Option ah):Nat->t4->Thread->Option t4
 | 0,_,_=>none
 | n+1,s,t=>match through t with
  | true=>some s
  | false=>match stepOk l ann t with
   | false=>none
   | true=>match stepT (denote u) p w s t with
    | some (s',t')=>JW u p w l ann n s' t'
    | none=>none
theorem zeX{u:String->Option fR}{p:aK}{w:aQ}{l:Nat}{ann:Option ah}:∀{n:Nat}{s s':t4}{t:Thread},JW u p w l ann n s t=some s'->topRun u p w l ann n s.abs t=some s'.abs
 | 0,_,_,_,h=>by cases h
 | n+1,s,s',t,h=>by
  unfold JW at h;unfold topRun;cases he:through t with
  | true=>rw[he]at h;cases h;rfl
  | false =>
   rw[he]at h;cases hk:stepOk l ann t with
   | false=>rw[hk]at h;cases h
   | true =>
    rw[hk]at h;cases hs:stepT (denote u) p w s t with
    | none=>rw[hs]at h;cases h
    | some r=>obtain⟨x,v⟩:=r;rw[hs]at h;dsimp only at h ⊢;rw[stepT_spec hs];exact zeX h
def zoI:List Obj->Nat->BT->BT
 | [],_,t=>t
 | o::r,i,t=>zoI r (i+1) (t.ins i o)
noncomputable def zqP (P:pO):BT:=zoI (bo P).objs.toList 0 .nil
noncomputable def zcg (w:aQ) (os:fe):t4:=⟨zqP w.params,11,(bo w.params).life,#[],lO,mG,os⟩
theorem boot_abs(P:pO):absHeap (zqP P) 11 (bo P).life=bo P:=by kernel_rfl
theorem zmx(P:pO):(bo P).objs.size=11:=by kernel_rfl
theorem zqO(P:pO):(bo P).isNs mainGlobals=true:=by kernel_rfl
def UI(p:aK)(h₀:aN)(l:au):Bool:=staticsOk (importedModules p.main.body) h₀ l.heap&&namesBound p l.heap&&gensDone l&&laidKept h₀ l.heap
theorem zlg{p q:aK}{loose:List Str}{x:au->Bool}{α:Type}{v:au->α}{u:aQ->α}{N:Nat}(e:opening p=plainProg p.main.scope.names)(L:Nat.ble 600 N=true)(S:∀s,fenceModules? p s=some s)
  (run:∀(w:aQ) (os:fe),(JW treeTable p w 11 ((bo w.params).nsMap mainGlobals "__annotations__") N (zcg w os) (topStub p)).map (fun s=>(UI p (bo w.params) s.abs,openSeen q loose (importedModules p.main.body) x true s.abs,v s.abs))=some (true,openGood q loose,u w)) :
  LeftO p q loose x v u N true:=fun w=>by
 obtain⟨⟨h,gs,d,k,os⟩,G,R⟩:=fC.mp (boot_open e L S w);obtain⟨rfl,rfl,rfl,rfl⟩:h=bo w.params/\gs=#[]/\d=lO/\k=mG:=by simpa using R
 obtain⟨y,r,l⟩:=fC.mp (run w os);have J:(zcg w os).abs=⟨bo w.params,#[],lO,mG,os⟩:=by
  show(⟨absHeap (zqP w.params) 11 (bo w.params).life,#[],lO,mG,os⟩:au)=_
  rw[boot_abs]
 have r:=zeX r;rw[J]at r;obtain⟨I,l2⟩:=vn l;obtain⟨l2,C⟩:=vn l2;have t:topFrom treeTable p w N ⟨bo w.params,#[],lO,mG,os⟩=some y.abs:=by
  unfold topFrom;dsimp only;rw[zqO,zmx,r];show(match UI p (bo w.params) y.abs with|true=>_|false=>_)=_
  rw[I]
 unfold openEnds;rw[G];show(topFrom treeTable p w N _).map _=_
 rw[t];exact congrArg some (kc l2 C)
theorem zsu{α T1 T2 T3 T4 T5 T6 T7 T8 T9 G C:Type}{o:Option α}{f1:α->T1}{f2:α->T2}{R:α->T3}{f4:α->T4}{L:α->T5}{I:α->T6}{N:α->T7}{f8:α->T8}{J:α->T9}{u:α->G}{l:α->C}{U:T1}{v2:T2}{Z:T3}{v4:T4}{v5:T5}{v6:T6}{v7:T7}{S:T8}{Y:T9}{y:G}{v:C}
  (ha:o.map (fun s=>(f1 s,l s,R s,f8 s,u s,I s))=some (U,v,Z,S,y,v6)) (hb:o.map f2=some v2) (hc:o.map f4=some v4) (hd:o.map L=some v5) (he:o.map N=some v7) (hf:o.map J=some Y) :
  o.map (fun s=>(f1 s,(f2 s,R s,f4 s,L s,I s,N s,f8 s,J s,u s),l s))=some (U,(v2,Z,v4,v5,v6,v7,S,Y,y),v):=by
 cases o with
 | none=>cases hc
 | some x =>
  have a:(f1 x,l x,R x,f8 x,u x,I x)=(U,v,Z,S,y,v6):=aM ha;have b:f2 x=v2:=aM hb;have e:N x=v7:=aM he;have f:J x=Y:=aM hf;have c:f4 x=v4:=aM hc;have d:L x=v5:=aM hd;simp only[kQ]at a;show some (f1 x,(f2 x,R x,f4 x,L x,I x,N x,f8 x,J x,u x),l x)=_
  rw[a.1,a.2.1,a.2.2.1,a.2.2.2.1,a.2.2.2.2.1,a.2.2.2.2.2,b,c,d,e,f]
theorem zku{w:aQ}{P:aQ->Prop}(row:String)(h0:∀w:aQ,P (w.withFollow row false))(l:∀w:aQ,P (w.withFollow row true)):P w:=by
 have e:=World.withFollow_self w row;cases hb:w.params.followText row <;> rw[hb]at e
 ·rw[<- e];exact h0 w
 ·rw[<- e];exact l w
end Bd
namespace L2
open PySem PySem.Spec PyProof.Rows
abbrev GX:=List af->Nat->(af->Nat->Prop)->(Str->Nat->Prop)->Prop
def spX(K:qF)(mg:qM)(m:Nat)(g:GX):Sp:=fun y H Q E=>∃(hd:Option aq) (O:aq->Prop) (ts:qD) (n:Nat) (R:qN) (x:Str->Nat->Prop),Reps K hd O H y ts/\Hn hd H n/\(∀a,O a->MutO (H a))/\(∀a,hd=some a->O a)/\ts.length=m/\g ts n R x /\
 (∀t u v l,R t u->ExtE hd H l->Hn hd l u->Rep K hd O l v t->Q v l)/\∀c u l C,x c u->ExtE hd H l->Hn hd l u->mg c=some (.ref C)->E (.ref C) none l
def EX(X:Cx):XK:=fun u _ l=>∃C,u=.ref C/\XW X C l
def OwnE(K:qF)(mg:qM)(x:Str):Prop:=∃C,mg x=some (.ref C)/\OwnX K mg x C
theorem zjm{X:Cx}{x:Str}{np u pos:Pos}(O:OwnE X.K X.mg x)(hc:X.calm=true:=by rfl)(y:Gl X x:=by rfl)(hd:(x == ("__debug__":Str))=false:=by rfl):DS X (.Raise (some (.Call (.Name x np) [] [] u)) none pos) (fun D _ n=>D.xr x n):=by
 obtain⟨C,b,O⟩:=O;exact⟨_,znl O hc y hd,fun _ _ _ H n D G S h g=>g.xr x n H h S.hnd (fun a o v _ _=>v) C b⟩
section
variable{X:Cx}{e e1:aP}{es:List aP}{x y:Str}{pos p1 p2 p3 p4 p5 p6:Pos}{d:DTE}{t:TA}{ks:List Str}{ds:DTA}{i m n:Nat}
def zrd(X:Cx)(i:Nat)(t:TA):TE:=fun σ H Q=>∃(z:Str) (st:dD) (f:aq) (fd:cP) (k:Nat) (ps:List Str) (l:Sp),σ[i]?=some (some (.ref f))/\Bd.Def X.K X.mg z st ps f fd/\FnOk X.prog X.w X.K X.mg X.base (CX1 X.prog X.w) k f fd ps l/\Room k X.A/\t σ H fun u v=>l u v Q (EX X)
theorem zns(h:PB X (e::es) t)(Z:X.N[i]?=some y)(Y:Vis X.env.scope y)(hd:(y == ("__debug__":Str))=false:=by rfl) (L:(y == ("__classdict__":Str))=false:=by rfl):PE X (.Call (.Name y p1) (e::es) [] pos) (zrd X i t):=by
 intro pins s σ H Q I hw;obtain⟨z,st,f,fd,k,ps,sp,e1,D,G,U,hw⟩:=hw;refine fA (thn (QX (pos:=p1) Z Y hd L pins s σ H (fun v J=>v=.ref f/\J=H) I ⟨_,e1,rfl,rfl⟩) fun u s1 ⟨v,J,R,r,ev,eH⟩=>?_)
 subst ev eH;cases(show u=.ref f from r)
 refine i7 (h₀:=X.base) R.ok.mod.kin D.F.kp (thn (h.pa pos pins s1 σ J _ R hw) fun us s2 ⟨vs,H2,S,r2,q⟩=>⟨S.kIn,?_⟩) h.hd.1 (h.hd.2 pos)
 exact zow G U D.b .nil zvH S r2 (by rw[bT];exact q)
end
end L2
namespace Bd
open PySem PySem.W PySem.Calls L2 PyProof.Rows
def FqX(P:aK)(w:aQ)(K:qF)(mg:qM)(base:aN)(x:Str)(st:dD)(ps:List Str)(k:Nat)(l:Sp):Prop:=∃f fd,Def K mg x st ps f fd/\FnOk P w K mg base (CX1 P w) k f fd ps l
def FQX(Z:ZZ)(x:Str)(st:dD)(ps:List Str)(k m:Nat)(g:GX):Prop:=FqX Z.P Z.w Z.K Z.mg Z.base x st ps k (spX Z.K Z.mg m g)
theorem okX{Z:ZZ}{x:Str}{st:dD}{ps N:List Str}{k m:Nat}{g:GX}(D:Dq Z.K Z.mg x st ps)(S:Q9 N ps (JH st))(hm:m=ps.length)
  (hb:∀(f:aq) (l:ah) (A:br) (outer:List Env) (s:au) (H:Hp) (E:XK),Room k (A.deeper (envOfC x (JH st) s.heap.objs.size f l))->∃d,DSs (cxOf (CX1 Z.P Z.w) Z.P Z.w Z.K Z.mg Z.base N x (JH st) f l A outer s H E) (J3 st) d /\
   ∀ts n R G,ts.length=m->g ts n R G->d { nx:=fun _ y=>R .none y,rt:=R,xr:=G } (JY N ts) n):FQX Z x st ps (k+1) m g:=by
 obtain⟨f,fd,D⟩:=D;refine⟨f,fd,D,?_⟩;obtain⟨oc,od,kV,doc,pm,an,l,ct,osl,rfl,lk,hcd⟩:=D.F.ex;refine ztN lk hcd S (fun vs H Q E h=>?_) fun A outer s H vs Q E hr h=>?_
 ·obtain⟨hd,O,ts,n,R,G,r,_,_,_,hl,_⟩:=h;rw[r.length,hl,hm]
 ·obtain⟨hd,O,ts,n,R,G,r,hn,dom,hx,hl,hg,hq,hE⟩:=h;obtain⟨d,⟨t,pt,ht⟩,Y⟩:=hb f l A outer s H E hr;obtain⟨S0,no⟩:=zgb (N:=N) r hn dom hx;refine⟨t,pt,ht ⟨hd,O⟩ _ _ H n _ _ S0 (Y ts n R G hl hg) ⟨fun ρ' σ' U y h S' J=>?_,fun t y v U h u J rp=>?_,fun _ _ _ _ h=>h.elim,fun _ _ _ _ h=>h.elim,fun c y U h u J C hC=>?_⟩⟩
  ·exact hq .none y .non U h (fun a o L I=>(J a o L I (no a)).1) S'.hnd .non
  ·exact hq t y v U h (fun a o L I=>J a o L I (no a)) u rp
  ·exact zmV (hE c y U C h (fun a o L I=>J a o L I (no a)) u hC)
theorem FQX.nox{Z:ZZ}{x:Str}{st:dD}{ps:List Str}{k m:Nat}{g:GX}(F:FQX Z x st ps k m g):FQ Z x st ps k (spD Z.K m fun ts n R=>g ts n R fun _ _=>False):=by
 obtain⟨f,fd,D,G⟩:=F;have up:∀{l H Q E},spD Z.K m (fun ts n R=>g ts n R fun _ _=>False) l H Q E->spX Z.K Z.mg m g l H Q (fun _ _ _=>False):=fun {l H Q E} h=>by
  obtain⟨hd,O,ts,n,R,r,N,dom,hx,L,U,y⟩:=h;exact⟨hd,O,ts,n,R,_,r,N,dom,hx,L,U,y,fun _ _ _ _ h=>h.elim⟩
 refine⟨f,fd,D,⟨fun l H Q E h=>G.len l H Q _ (up h),fun A outer s H args S l Q E u C v I J=>?_⟩⟩
 refine gU (G.run A outer s H args S l Q (fun _ _ _=>False) u C v I (up J)) fun r s' h=>?_
 cases r with
 | error e=>obtain⟨_,_,_,_,_,_,_,z⟩:=h;exact z.elim
 | ok fl=>cases fl <;> exact h
end Bd
namespace L2
open PySem PySem.Spec PyProof.Rows
section
variable{X:Cx}{e e1:aP}{es:List aP}{x y:Str}{pos p1 p2 p3 p4 p5 p6:Pos}{d:DTE}{ks:List Str}{ds:DTA}{i m n:Nat}
def zrD(i:Nat)(v:List (Str×GX))(d:DTE)(ds:DTA):DTS:=fun D l n=>d l n fun t C=>lStr t fun z=>l[i]?=some none/\∃q∈v,q.1=z/\ds l C fun ts u=>q.2 ts u D.rt D.xr
def UJ(X:Cx)(ks:List Str)(n m:Nat)(l:List (Str×GX)):Prop:=∀q∈l,q.1∈ks/\∃st ps k,k<=n/\Bd.FqX X.prog X.w X.K X.mg X.base q.1 st ps k (spX X.K X.mg m q.2)
theorem UJ.nil{X:Cx}{ks:List Str}{n m:Nat}:UJ X ks n m []:=fun _ h=>nomatch h
theorem UJ.cons{X:Cx}{ks:List Str}{n m k:Nat}{st:dD}{ps:List Str}{x:Str}{g:GX}{u:List (Str×GX)}(F:Bd.FqX X.prog X.w X.K X.mg X.base x st ps k (spX X.K X.mg m g))(r:UJ X ks n m u)(hx:x∈ks:=by decide +kernel)(v:k<=n:=by decide):UJ X ks n m ((x,g)::u):=fun q l=>by
 rcases aw.mp l with rfl|l
 ·exact⟨hx,st,ps,k,v,F⟩
 ·exact r q l
theorem zn7(M:Bd.StF X.prog X.w X.K X.mg x ks){tb:List (Str×GX)}(F:UJ X ks n m tb)(hr:Room n X.A)(hN:X.N.Nodup)(h:DE X e d)(I:DB X (e1::es) ds)(hm:(e1::es).length=m:=by rfl)(hi:X.N[i]?=some y:=by rfl)(hl:Loc X.env.scope y:=by first|exact er rfl|exact wY rfl)
  (hs:swapsWith (.Subscript (.Name x p1) e p2) (some (.Name y p3)) p4.line X.env=pure false:=by rfl) (hf:X.fn y=true\/X.env.scope.names.lookup y=some .local:=by walk_at "F") (hg:Gl X x:=by rfl) (hsl:NoSl e:=by intro _ _;rfl)
  (hd:(x == ("__debug__":Str))=false:=by rfl) (hv:Vis X.env.scope y:=by walk_at "V") (hd2:(y == ("__debug__":Str))=false:=by rfl) (hcd:(y == ("__classdict__":Str))=false:=by rfl) :
  DSs X [.Assign [.Name y p3] (.Subscript (.Name x p1) e p2) p4,.Return (some (.Call (.Name y p5) (e1::es) [] p6)) pos] (zrD i tb d ds):=by
 obtain⟨ta,pa,h⟩:=h;obtain⟨tb',pb,I⟩:=I;refine⟨_,Qs (Qy hN hi hl (zpm M hg pa hsl hd) hs hf) (UZ (Y5 (zns pb hi hv hd2 hcd))),fun C L σ H n0 D D' S hw g=>?_⟩
 refine h C L σ H n0 _ _ S hw fun t n1 v H1 J e1 h1 q1=>?_
 cases t with
 | str z =>
  obtain⟨ho,q,mq,rfl,J⟩:=J;obtain⟨mk,st,ps,k,hk,f,fd,Df,G⟩:=F q mq;refine⟨_,q1.strI,mk,fun U ef=>?_⟩
  have:U=f:=by have:=Df.m.symm.trans ef;cases this;rfl
  subst this;have S1:=(S.on e1 h1).hole (v:=.ref U) ho;have li:i<σ.length:=by
   have:i<L.length:=(av.mp ho).1;rw[<- S.len];exact this
  refine⟨q.1,st,U,fd,k,ps,_,by rw[cB li],Df,G,hr.mono hk,?_⟩
  refine I C L _ H1 n1 _ _ S1 J fun ts n2 vs H2 r2 e2 h2 q2 l2=>?_
  have S2:=S1.on e2 h2;refine⟨C.hd,Own C L (σ.set i (some (V.ref U))),ts,n2,D'.rt,D'.xr,q2,h2,fun a=>S2.lst,fun a z=>.inl (S.hx a z),l2.trans hm,r2,fun t Z v H' rt e3 Y q3=>?_,fun c Z H' Cc rx e3 Y hC=>?_⟩
  ·exact g.rt t Z v H' rt Y (fun a o I nh _=>(e1.trans (e2.trans e3)) a o I nh) (q3.mono (fun _ _ _ z=>.inl z) fun _ _ _ z=>z)
  ·exact⟨Cc,rfl,g.xr c Z H' rx Y (fun a o I nh _=>(e1.trans (e2.trans e3)) a o I nh) Cc hC⟩
 | _=>exact J.elim
end
section
variable{i:Nat}{tb:List (Str×GX)}{d:DTE}{ds:DTA}{D:JN}{ρ:En}{n:Nat}
instance zwQ:Stp (zrD i tb d ds D ρ n) (d ρ n fun t n1=>lStr t fun z=>ρ[i]?=some none/\∃q∈tb,q.1=z/\ds ρ n1 fun ts n2=>q.2 ts n2 D.rt D.xr):=⟨fun h=>h⟩
end
theorem isiF{f:af->Bool}{b:Bool}{t:af}{R:af->Prop}(p:Pln t)(e:f t=b)(h:R (.bool b)):lIsi f t R:=⟨p,e▸h⟩
theorem znR{d:af}(h:isTup d=true):∃ts,d=.tuple ts:=by
 cases d with
 | tuple ts=>exact⟨ts,rfl⟩
 | _=>cases h
theorem zvO{l:qD}(h:l.length=2):∃a b,l=[a,b]:=by
 cases l with
 | nil=>cases h
 | cons a t =>
  obtain⟨b,e⟩:=List.length_eq_one_iff.mp (tY h);exact⟨a,b,e▸rfl⟩
end L2
namespace L2
open PySem PySem.Spec PySem.W PySem.Calls PyProof.Rows
section
variable{X:Cx}{pins:qO}{σ:St}{H H':Hp}{s:au}
theorem Inv.adopt{a:aq}{o:HO}(I:Inv X pins σ H s)(C:H a=none)(h0:X.s₀.heap.get? a=none)(v:a≠X.env.locals)(hc:∀x c,X.env.cells.lookup x=some c->c≠a)(l:∀p∈X.pn++pins,p.1≠a)
  (new:JL X.prog X.w (upd H a o) s.heap a o):Inv X pins σ (upd H a o) s:=by
 have up:∀b u,H b=some u->upd H a o b=some u:=fun b u e=>by rw[Jo (Qt e C)];exact e
 refine⟨I.ok,I.os,I.bare,⟨I.base.keep,I.base.slot,fun b u e n hx=>?_,I.base.there,fun b xs e=>up b _ (I.base.tups b xs e),fun b u xs e=>up b _ (I.base.frzs b u xs e),fun b q e=>up b _ (I.base.tbls b q e)⟩,I.loc,I.cell,?_,fun x c e=>?_,fun p h=>?_,fun b u e=>?_,I.len⟩
 ·rw[Jo fun z=>by rw[z,h0]at e;cases e]
  exact I.base.free b u e n hx
 ·rw[Jo v.symm];exact I.free
 ·rw[Jo (hc x c e)];exact I.freeC x c e
 ·have q:=I.pin p h;exact⟨q.1,by rw[Jo (l p h)];exact q.2.1,q.2.2⟩
 ·by_cases hb:b=a
  ·subst hb;rw[JJ]at e;cases e;exact new
  ·rw[Jo hb]at e;exact(I.hok b u e).stay (fun _ _ _ q=>q) (fun d q=>up d _ q) (fun d xs q=>up d _ q) fun d G xs q=>up d _ q
theorem Inv.unbound{i:Nat}{n:Str}{h':aN}{t':Nat}{v:Option ah}{m:qM}(I:Inv X pins σ H s)(hN:X.N.Nodup)(hi:X.N[i]?=some n)(hk:X.env.kindOf n=some .local)(hm:s.heap.Ns X.env.locals m)
  (hn:h'.Ns X.env.locals (fun x=>if x=n then v else m x)) (hs:eu X.env.locals s.heap h'):Inv X pins (σ.set i none) H { s with heap:=h',toks:=t' }:=by
 have Y:Inv X pins (σ.set i none) H s:=I.weak (by simp) fun j u e=>by
  rw[gZ]at e;split at e
  ·split at e <;> cases e
  ·exact e
 obtain⟨m0,G,hl⟩:=id Y.loc;have em:m0=m:=by
  obtain⟨o,es,ep,e,d,_,r⟩:=G;obtain⟨N,es',ep',U,d',_,r'⟩:=hm;rw[e]at U;cases U;rw[d]at d';cases d'
  funext n
  rw[<- r n,r' n]
 subst em;have kp:∀b o,b≠X.env.locals->s.heap.get? b=some o->h'.get? b=some o:=fun b o C e=>(hs.2 b C).trans e
 have fr:∀b u,H b=some u->b≠X.env.locals:=fun b u e z=>by rw[z,I.free]at e;cases e
 refine⟨I.ok,I.os,I.bare,⟨fun b o e R C hx=>?_,fun b o e R C hx=>?_,I.base.free,fun b o e hx=>?_,I.base.tups,I.base.frzs,I.base.tbls⟩,⟨_,hn,fun j x u L S e3=>?_⟩,fun x c e=>?_,I.free,I.freeC,fun p hp=>?_,fun b u e=>?_,Y.len⟩
 ·exact kp b o (aF (aD (ay e) I.ok.above)) (I.base.keep b o e R C hx)
 ·obtain⟨sl,q⟩:=I.base.slot b o e R C hx;exact⟨sl,kp b _ (aF (aD (ay e) I.ok.above)) q⟩
 ·obtain⟨N,q⟩:=I.base.there b o e hx;exact⟨N,kp b N (aF (aD (ay e) I.ok.above)) q⟩
 ·obtain⟨w,r,l⟩:=hl j x u L S e3;refine⟨w,r,?_⟩;rcases l with⟨k,e⟩|⟨k,c,e,z⟩
  ·refine .inl ⟨k,?_⟩;have:x≠n:=fun z=>by
    subst z;have:=zfH hN L hi;subst this;rw[cB (by
     have:=(av.mp L).1;rw[I.len];exact this)]at S
    cases S
   show(if x=n then v else m0 x)=some w
   rw[if_neg this];exact e
  ·obtain⟨o,J,hd⟩:=z;exact .inr ⟨k,c,e,o,kp c o (I.cne x c e) J,hd⟩
 ·obtain⟨Z,o,J,hd⟩:=I.cell x c e;exact⟨Z,o,kp c o (I.cne x c e) J,hd⟩
 ·have q:=I.pin p hp;exact⟨kp p.1 p.2 q.2.2.1 q.1,q.2⟩
 ·refine(I.hok b u e).stay (fun c w hc q=>kp c w ?_ q) (fun _ q=>q) (fun _ _ q=>q) fun _ _ _ q=>q
  rcases hc with rfl|hc
  ·exact fr _ _ e
  ·exact fr _ _ hc
end
def SubK(l K:qF):Prop:=∀a o,l.lookup a=some o->K.lookup a=some o
theorem SubK.in{l K:qF}{h:aN}(s:SubK l K)(x:K.In h):l.In h:=fun a o e=>x a o (s a o e)
def Cx.marked(X:Cx)(e:ah):Cx:={ X with A:=X.A.mark (some e),calm:=false,xe:=fun _ _=>False }
section
variable{X:Cx}{pins:qO}{σ:St}{H H':Hp}{s:au}{e:ah}
theorem Inv.marked(I:Inv X pins σ H s):Inv (X.marked e) pins σ H s :=
 ⟨⟨I.ok.mod,I.ok.kind,I.ok.glob,I.ok.blt,I.ok.above,I.ok.inj,I.ok.has,I.ok.cab,(fun z=>by cases z),I.ok.frames,I.ok.stk,I.ok.exf,I.ok.bs,I.ok.bsz,I.ok.noex,I.ok.exfs,I.ok.funs,I.ok.frf⟩,I.os,I.bare,I.base,I.loc,I.cell,I.free,I.freeC,I.pin,I.hok,I.len⟩
theorem Inv.unmarked(ok:X.Ok)(I:Inv (X.marked e) pins σ H s):Inv X pins σ H s :=
 ⟨ok,I.os,I.bare,I.base,I.loc,I.cell,I.free,I.freeC,I.pin,I.hok,I.len⟩
end
section
variable{X:Cx}{k i ie:Nat}{f Dc:aq}{fd:cP}{ps:List Str}{sp:Sp}{fn T en x:Str}{st:dD}{e:aP}{es:List aP}{t:TA}{p p1 p2 p3 p4 p5 p6 pos:Pos}
def tTry(X:Cx)(i ie:Nat)(Dc:aq)(sp:Sp)(t:TA):TS:=fun D σ H=>t σ H fun y G=>sp y G (fun _ u=>D.nx σ u)
 fun I _ u=>∃C,I=.ref C/\(∃v,SubK v X.K/\exmOne v (.ref C) (.ref Dc)=some true)/\∀l,u l=none->D.nx (((σ.set ie (some (.ref l))).set i (some (.ref l))).set ie none) (upd u l (EXO l C))
theorem zrQ(D:Bd.Def X.K X.mg fn st ps f fd)(F:FnOk X.prog X.w X.K X.mg X.base (CX1 X.prog X.w) k f fd ps sp)(hr:Room k X.A)(ha:PB X.nox (e::es) t)(hc:X.calm=true)(hst:X.stack=X.env::X.outer)(hfr:X.env.frame=some X.env.locals)
  (hT:X.mg T=some (.ref Dc)) (hN:X.N.Nodup) (hi:X.N[i]?=some x) (L:X.N[ie]?=some en) (hne:i≠ie) (hx:Loc X.env.scope x) (hen:X.env.kindOf en=some .local) (Y:X.env.scope.names.lookup en=some .local) (hx0:X.ex=[]) (hg:Gl X fn) (hgT:Gl X T)
  (hdb:(fn == ("__debug__":Str))=false) (hdT:(T == ("__debug__":Str))=false) (hde:(en == ("__debug__":Str))=false) (hce:(en == ("__classdict__":Str))=false)
  (hsw:swapsWith (.Call (.Name fn p1) (e::es) [] p2) none p3.line X.env=pure false) (Ka:swapsWith (.Name en p6) (some (.Name x p5)) p4.line X.env=pure false) (hf:X.fn x=true\/X.env.scope.names.lookup x=some .local) (hfe:X.fn en=true\/X.env.scope.names.lookup en=some .local) :
  PS X (.Try [.Expr (.Call (.Name fn p1) (e::es) [] p2) p3] [.ExceptHandler (some (.Name T p)) (some en) [.Assign [.Name x p5] (.Name en p6) p4] pos] [] [] pos) (tTry X i ie Dc sp t):=by
 intro pins s σ H De I h;have hA:X.A.frames=some (X.env::X.outer):=by rw[<- hst];exact I.ok.frames
 refine wpAny_Try_except ?_;refine kW (pF ?_ I.quiet hsw);refine fA (UY I hg D.m ?_ hdb);refine i7 (h₀:=X.base) I.ok.mod.kin D.F.kp ?_ ha.hd.1 (ha.hd.2 p2);refine cQ (ha.pa p2 pins s σ H _ (I.wish _) h) (fun us s1 hu=>?_) fun _ _ z=>cu z
 obtain⟨vs,H1,U,r,q⟩:=hu;have U:=U.unwish;refine⟨U.kIn,?_⟩;have hl:us.length=ps.length:=by rw[<- r.length];exact F.len _ _ _ _ q
 refine m5 (gU (F.run X.A X.stack s1 H1 ⟨us,[]⟩ us vs _ _ hr U.env0 (by have:=D.b s1 us U.kIn (by rw[bT];exact hl);rwa [bT]at this) r q) fun rs s2 hq=>?_)
 cases rs with
 | ok fl =>
  cases fl with
  | ret u =>
   obtain⟨v,H2,J,_,hn⟩:=U.after hq;exact fE (fE ⟨σ,H2,J,hn⟩)
  | next=>exact cu hq
  | brk=>exact cu hq
  | cont=>exact cu hq
 | error ev =>
  obtain⟨G,C,H2,rfl,os,bare,⟨B,a0,fl,ne,nn,st'⟩,C',eC,⟨K0,sK,hex⟩,hnx⟩:=hq;cases eC;have hnx:=hnx G ne;rw[hst]at fl;refine wpAny_looks_onW hA hfr fl fun h3 held up3=>?_
  refine wpAny_landsW held fun h4 fl4 up4=>?_
  have inv:∀R,nN B (X.env::X.outer) G (.ref C) a0 R->s2.heap.UpToSlots R->Inv X pins σ H2 { s2 with heap:=R }:=fun R f5 u5=>by
   obtain⟨un,hk⟩:=st' R f5.1 u5;obtain⟨hh,g,d,tk,os'⟩:=s2;obtain rfl:os'=s1.os:=os;show Inv X pins σ H2 { s1 with heap:=R,gens:=g,drawn:=d,toks:=tk }
   exact U.call (h':=R) (g':=g) (d':=d) (t':=tk) (ch:=[]) un hk bare (fun b z=>absurd z (by simp))
  have J4:=inv h4 fl4 (up3.trans up4);have LT:∀R,nN B (X.env::X.outer) G (.ref C) a0 R->tv (model X.prog X.w) R (typeOf (.ref G)) (.ref C):=fun R f5=>by
   obtain⟨ob,ho,hc⟩:=f5.there;exact hc▸(Az ho).andThen .now
  refine wpAny_handleBy_cons (codeAny_handlers_test ?_) (by intro z;cases z)
  refine fU J4.ok.kind hgT (kU (by rw[J4.ok.glob];exact J4.mod.glob.keeps J4.bk) hT ?_) hdT
  refine(exm_one (sK.in J4.kIn) (LT h4 fl4) hex).here ?_;refine codeAny_handlers_suite_as (lands_againW fl4 fun R fl5 up5=>?_)
  have J5:=inv R fl5 ((up3.trans up4).trans up5);obtain⟨_,_,_,oe,ws,T',oT,ts,he,⟨hcl,_⟩,hdt,_⟩:=fl5;have nL:G≠X.env.locals:=fun z=>by
   obtain⟨m,⟨o,_,_,q,_⟩,_⟩:=U.loc;rw[<- z,nn]at q;cases q
  have nC:∀y c,X.env.cells.lookup y=some c->c≠G:=fun y c hc z=>by
   obtain⟨v,o,q,_⟩:=U.cell y c hc;rw[z,nn]at q;cases q
  have n0:X.s₀.heap.get? G=none:=by
   cases q:X.s₀.heap.get? G with
   | none=>rfl
   | some o =>
    obtain⟨o',z⟩:=U.base.there G o q (by rw[hx0];simp)
    rw[nn]at z;cases z
  have nP:∀p∈X.pn++pins,p.1≠G:=fun p hp z=>by
   have q:=(U.pin p hp).1;rw[z,nn]at q;cases q
  have J6:=J5.adopt (o:=EXO G C) ne n0 nL nC nP ⟨⟨oe,he,hcl,ws,hdt⟩,⟨oe,he⟩,fun h1 h2 z k=>by
   obtain⟨o,z1,z2⟩:=z;exact⟨o,k o z1,z2⟩⟩
  refine Yp (v:=.ref G) J6 hN L (.inl Y) rfl (fun s6 J7=>?_) hfe
  refine cQ (UZ (show PS (X.marked (.ref G)) (.Assign [.Name x p5] (.Name en p6) p4) (tAsg (tVar ie) (YT i)) from Qy hN hi hx (QX L (.inl Y) hde hce) Ka hf) pins s6 (σ.set ie (some (.ref G))) (upd H2 G (EXO G C))
   { nx:=fun σ' H'=>σ'=(σ.set ie (some (.ref G))).set i (some (.ref G))/\H'=upd H2 G (EXO G C),rt:=fun _ _=>False } J7.marked ⟨.ref G,?_,rfl,rfl⟩) (fun fl s7 hs=>?_) fun _ _ z=>cu z
  ·rw[cB];have:=(av.mp L).1;rw[I.len];exact this
  cases fl with
  | ret u=>obtain⟨_,_,_,_,_,z⟩:=hs;exact z.elim
  | brk=>obtain⟨_,_,_,z⟩:=hs;exact z.elim
  | cont=>obtain⟨_,_,_,z⟩:=hs;exact z.elim
  | next =>
  obtain⟨σ',H',J8,rfl,rfl⟩:=hs;have J8:=J8.unmarked I.ok;refine aa (l5 (Yp (v:=.non) J8 hN L (.inl Y) rfl (fun s8 J9=>?_) hfe))
  obtain⟨m,hm,hlo⟩:=id J9.loc;have li:ie<((σ.set ie (some (V.ref G))).set i (some (V.ref G))).length:=by
   have:=(av.mp L).1;rw[fG,fG,I.len];exact this
  have some':(m en).isSome=true:=by
   obtain⟨u,ru,lu⟩:=hlo ie en .non L (by rw[cB li]) (.inl Y)
   rcases lu with⟨_,z⟩|⟨z,_⟩
   ·rw[z];rfl
   ·rw[hen]at z;rcases z with z|z <;> cases z
  have hp:(X.env.scope.kind == .class||(X.env.scope.kind == .module&&X.env.locals != X.env.globals))=false:=by rw[I.ok.kind];rfl
  unfold unbindBehindTheSuite;refine iD ?_;unfold unbindName;refine aa (wpAny_point (aa ?_));unfold deleteName;simp only[hen,hp];rw[if_neg (by decide)]
  refine aa (wpAny_nsDel_keeps hm fun h₂ v hn₂ Z=>?_)
  simp only[some',e8,aI,if_false];refine aj (wpAny_point ?_);have J10:=J9.unbound (t':=s8.toks) hN L hen hm hn₂ Z;rw[List.set_set]at J10;exact⟨_,_,J10,hnx⟩
end
def zjy(K:qF)(mg:qM)(cs:List Str)(T:Str):Prop:=∃l,mg T=some (.ref l)/\∀c∈cs,∀C,mg c=some (.ref C)->∃u,SubK u K/\exmOne u (.ref C) (.ref l)=some true
def sTry(mg:qM)(cs:List Str)(i ie:Nat)(g:GX)(ds:DTA):DTS:=fun D u n=>u[ie]?=some none/\ds u n fun ts y=>g ts y (fun _ x=>D.nx u x) fun c x=>c∈cs/\∀C,mg c=some (.ref C)->D.nx (u.set i (some (.val (EXC C)))) x
section
variable{K:qF}{C:Ctx}{ρ:En}{σ:St}{H:Hp}{n:Nat}
theorem zkR{i:Nat}(hi:ρ[i]?=some none):Own C ρ (σ.set i none) a↔Own C ρ σ a:=by
 have key:OwnS ρ (σ.set i none) a↔OwnS ρ σ a:=by
  constructor <;> rintro⟨j,c,m,l,u⟩ <;> refine⟨j,c,m,l,?_⟩ <;>
  ·have ne:i≠j:=fun z=>by subst z;rw[hi]at l;cases l
   first|(rw[aO ne]at u;exact u)|(rw[aO ne];exact u)
 exact or_congr aU key
theorem Stt.hole0{i:Nat}(hi:ρ[i]?=some none)(S:Stt K C ρ σ H n):Stt K C ρ (σ.set i none) H n:=by
 have l:Own C ρ (σ.set i none)=Own C ρ σ:=funext fun a=>propext (zkR hi)
 have ne:∀{j:Nat} {c:Cell},ρ[j]?=some (some c)->(σ.set i none)[j]?=σ[j]?:=fun {j c} h=>aO fun z=>by subst z;rw[hi]at h;cases h
 refine⟨by rw[fG];exact S.len,fun j d h=>?_,fun j d h=>?_,fun j d h=>?_,fun j d h=>?_,fun j d h=>?_,fun j k c e a I G x y v u=>?_,S.hnd,S.ext,S.hx⟩
 ·rw[l,ne h];exact S.val j d h
 ·rw[l,ne h];exact S.own j d h
 ·rw[l,ne h];exact S.dct j d h
 ·rw[l,ne h];exact S.rdo j d h
 ·rw[l,ne h];exact S.dtt j d h
 ·rw[ne x]at v;rw[ne y]at u;exact S.dif j k c e a I G x y v u
end
section
variable{X:Cx}{k n m i ie:Nat}{ps:List Str}{fn T en x:Str}{st:dD}{e:aP}{es:List aP}{ds:DTA}{p p1 p2 p3 p4 p5 p6 pos:Pos}{g:GX}{cs:List Str}
theorem ztS(i ie:Nat)(F:Bd.FqX X.prog X.w X.K X.mg X.base fn st ps k (spX X.K X.mg m g))(M:zjy X.K X.mg cs T)(hr:Room n X.A)(hN:X.N.Nodup)(h:DB X.nox (e::es) ds)(hk:k<=n:=by decide)(hm:(e::es).length=m:=by rfl)(hc:X.calm=true:=by rfl)(hst:X.stack=X.env::X.outer:=by rfl)(hfr:X.env.frame=some X.env.locals:=by rfl)
  (hi:X.N[i]?=some x:=by rfl) (hie:X.N[ie]?=some en:=by rfl) (R:i≠ie:=by decide) (hx:Loc X.env.scope x:=by first|exact er rfl|exact wY rfl) (hen:X.env.kindOf en=some .local:=by rfl) (hel:X.env.scope.names.lookup en=some .local:=by rfl) (hx0:X.ex=[]:=by rfl) (hg:Gl X fn:=by rfl) (hgT:Gl X T:=by rfl)
  (hdb:(fn == ("__debug__":Str))=false:=by rfl) (hdT:(T == ("__debug__":Str))=false:=by rfl) (hde:(en == ("__debug__":Str))=false:=by rfl) (hce:(en == ("__classdict__":Str))=false:=by rfl)
  (hsw:swapsWith (.Call (.Name fn p1) (e::es) [] p2) none p3.line X.env=pure false:=by rfl) (Ka:swapsWith (.Name en p6) (some (.Name x p5)) p4.line X.env=pure false:=by rfl) (hf:X.fn x=true\/X.env.scope.names.lookup x=some .local:=by walk_at "F") (hfe:X.fn en=true\/X.env.scope.names.lookup en=some .local:=by walk_at "F") :
  DS X (.Try [.Expr (.Call (.Name fn p1) (e::es) [] p2) p3] [.ExceptHandler (some (.Name T p)) (some en) [.Assign [.Name x p5] (.Name en p6) p4] pos] [] [] pos) (sTry X.mg cs i ie g ds):=by
 obtain⟨f,fd,D,G⟩:=F;obtain⟨Dc,hT,hM⟩:=M;obtain⟨ta,pa,h⟩:=h;refine⟨_,zrQ D G (hr.mono hk) pa hc hst hfr hT hN hi hie R hx hen hel hx0 hg hgT hdb hdT hde hce hsw Ka hf hfe,fun C L σ H n De D' S hw gd=>?_⟩
 obtain⟨ho,hw⟩:=hw;refine h C L σ H n _ _ S hw fun ts n1 vs H1 r1 e1 h1 q1 l1=>?_
 have S1:=S.on e1 h1;refine⟨C.hd,Own C L σ,ts,n1,_,_,q1,h1,fun a=>S1.lst,fun a z=>.inl (S.hx a z),l1.trans hm,r1,fun t n' v H' rt Y h2 q2=>gd.nx L σ H' n' rt (S1.on Y h2) ((e1.trans Y).keep),fun c n' H' J rx Y h2 hC=>⟨J,rfl,hM c rx.1 J hC,fun U u=>?_⟩⟩
 have S2:=S1.on Y h2;have e3:ExtE C.hd H (upd H' U (EXO U J)):=(e1.trans Y).trans (ExtE.new u);have S3:=S2.on (ExtE.new (o:=EXO U J) u) (h2.same (JO u));have S4:=S3.hole (v:=.ref U) ho;have li:ie<σ.length:=by
  have:ie<L.length:=(av.mp ho).1;rw[<- S.len];exact this
 have S5:=S4.put (i:=i) (v:=.ref U) (t:=EXC J) (.exc JJ fun z=>S2.free u ((ziY ho).mp z))
 have Z:(L.set i (some (Cell.val (EXC J))))[ie]?=some none:=by rw[aO R];exact ho
 refine gd.nx _ _ _ n' (rx.2 J hC) (S5.hole0 Z) fun a o ha nh no=>⟨e3 a o ha nh,fun⟨j,c',mc,I,z2⟩=>no ⟨j,c',mc,?_,?_⟩⟩
 all_goals
  have nj:ie≠j:=fun z=>by subst z;rw[Z]at I;cases I
  have ni:i≠j:=fun z=>by
   subst z
   by_cases hl:i<L.length
   ·rw[cB hl]at I;cases I;cases mc
   ·rw[cT (by rw[fG];omega)]at I;cases I
 ·rw[aO ni]at I;exact I
 ·rw[aO nj,aO ni,aO nj]at z2;exact z2
end
end L2
namespace L2
open PySem PySem.Spec PySem.W PySem.Calls PyProof.Rows Builtin Builtin.ObjectAttr Builtin.Getset_descriptor
def ExAt(x C:aq)(h:aN):Prop:=∃o,h.get? x=some o/\o.cls=.ref C
def clsB(K:qF)(D:aq):Bool:=(clsIn K D).isSome&&(findIn K (.ref D) "__getattribute__" == some (some (.builtin "BaseException.__getattribute__")))&&(findIn K (.ref D) "__getattr__" == some none)&&(findIn K (.ref D) "__class__" == some (some (.builtin "object.__class__")))
 && (specialIn K (.builtin "object.__class__") "__get__" == some (some (.builtin "getset_descriptor.__get__")))&&(takesIn K (.builtin "object.__class__") == some true)&&(mroIn K D (.type "object") == some true)&&(mroIn K D (.type "BaseException") == some true)
section
variable{K:qF}{x D:aq}
theorem ExAt.type{M:sR}{h:aN}(I:ExAt x D h):tv M h (typeOf (.ref x)) (.ref D):=by
 obtain⟨o,l,hc⟩:=I;exact hc▸(Az l).andThen .now
theorem zj4{prog:aK}{w:aQ}{A:br}{s:au}{R:mZ->au->Prop}{C:ah}(X:K.In s.heap)(I:ExAt x D s.heap)(G:mroIn K D (.type "object")=some true)
  (h:R (.ok (.ret (.ref D))) s):codeAny (model prog w) A (.call (.builtin "getset_descriptor.__get__") ⟨[.builtin "object.__class__",.ref x,C],[]⟩) R s:=by
 obtain⟨v,g,N,t,os⟩:=s;have L:tv (model prog w) v (typeOf (.ref x)) (.ref D):=I.type;have J:=looks_mroIn (M:=model prog w) X G;refine mD KF.slot_gs.plain KF.entry_gs (KF.slot_gs.check _ _ _ _ _ _ _ _ KF.type_class (KF.args_gs _ _ _) ?_);unfold fR.«getset_descriptor.__get__» descrGet;rw[dga_obj];refine aa (aj ?_);unfold descrGetter descrCheckInstance descrNameAndClass isInstance
 simp only[KF.owner_class]
 repeat lk
 refine⟨m8 _ (by decide +kernel),fH KF.entry_class ?_⟩
 unfold fR.«object.__class__» shownTypeOf
 repeat lk
 exact h
theorem zka{M:sR}{A:br}{E:qV}{Q:Unit->au->Prop}{s:au}{m:Sem Unit}(e:m=pure ())(h:Q () s):wpAny M A m Q E s:=by rw[e];exact aj h
theorem zi5(Y:clsB K D=true):KitX K (.ref x) (.ref D) (ExAt x D):=by
 unfold clsB at Y;simp only[aG,beq_iff_eq]at Y;obtain⟨⟨⟨⟨⟨⟨⟨N,hga⟩,hgh⟩,Z⟩,R⟩,htk⟩,hm⟩,G⟩:=Y;obtain⟨cdD,v⟩:=kN.mp N;refine⟨fun M h _ I=>I.type,fun M h X _=>?_,fun h tp dd its n sl X htp=>?_,fun {prog w A E Q s} X I k=>?_⟩
 ·unfold clsIn at v;split at v
  ·rename_i c' d' cd' U J;intro A' Q' E' s' k q;unfold isType loadHead;exact aa (wpAny_loadPart (k _ _ (X _ _ J)) (aj q))
  ·cases v
 ·refine bY.mpr fun q=>?_
  have e:D=tp:=Value.ref.inj (beq_iff_eq.mp q);subst e;unfold clsIn at v;split at v
  ·rename_i c' d' cd' U J;have z:=(X _ _ J).symm.trans htp;cases z
  ·cases v
 ·obtain⟨C,g,d,t,os⟩:=s;have S:tv (model prog w) C (typeOf (.ref x)) (.ref D):=I.type;have L1:=n8 (M:=model prog w) X hga;have Lf:tv (model prog w) C (find (.ref x) (.ref D) "__class__") (.bind (.builtin "getset_descriptor.__get__") (.builtin "object.__class__")):=by
   refine(n8 X Z).andThen ((show tv (model prog w) C (getOf (some (.builtin "object.__class__"))) (some (.builtin "getset_descriptor.__get__")) from looks_specialIn X R).andThen ?_)
   exact(show tv (model prog w) C (dataDescriptor? (some (.builtin "object.__class__")) (some (.builtin "getset_descriptor.__get__"))) (some (.builtin "getset_descriptor.__get__",.builtin "object.__class__")) from(looks_takesIn X htk).andThen .now).andThen (Looks.tag .now)
  have Lh:=n8 (M:=model prog w) X hgh;have f3:=ku.ga.bind (.ref x);have L2:=looks_mroIn (M:=model prog w) X G;have hk:builtinKind "BaseException.__getattribute__" = some .slot:=by decide +kernel
  have Kb:splitId "BaseException.__getattribute__" = some ("BaseException","__getattribute__"):=by decide +kernel
  unfold getAttr? getAttrBy? getAttrBy;refine aa (wpAny_mkText (aa (iA (bO (aa (S.at (aa (L1.at ?_))))))));show wpAny _ _ (if (onTheHeap (bM D)&&kS "BaseException.__getattribute__" == kS "object.__getattribute__")=true then _ else getAttrByItsOwn _ _ _ _ _ _) _ _ _
  have L:(kS "BaseException.__getattribute__" == kS "object.__getattribute__")=false:=by decide +kernel
  rw[if_neg (by rw[L,hW];decide)]
  unfold getAttrByItsOwn;refine aa (show wpAny _ _ (typeLookup (.ref D) "__getattr__") _ _ _ from Lh.at ?_)
  unfold callGetattribute boundAndCalled;rw[if_neg (by decide)]
  refine aa (iA (bO (aa ?_)));rw[f3];refine aj ?_;refine m5 (mD ku.ga.plain PySem.F.entry_bexc_ga ?_);have ha:=PySem.F.args_bexc_ga (.ref x) (.str "__class__" t);simp only[checkBuiltinCall,hk,Kb,dJ,ei];unfold isInstance;refine aa (aa (S.at (L2.at ?_)));rw[if_neg (by decide)]
  refine zka ha ?_;unfold fR.«object.__getattribute__»;refine aa (aj (aa (aj (aa (S.at (aa (Lf.at ?_)))))));show wpAny _ _ (holding [.builtin "object.__class__"] (call (.builtin "getset_descriptor.__get__") [.builtin "object.__class__",.ref x,.ref D]) >>= ret) _ _ _
  refine aa (bO (m5 (zj4 (s:=⟨C,g,d,t+1,os⟩) X I hm ?_)));refine aj ?_;exact handed_on rfl (aj k)
end
end L2
namespace L2
open PySem PySem.Spec PySem.W PySem.Calls PyProof.Rows
def excT(l:qF)(mg:qM)(cs ys:List Str)(T:Str):Bool:=cs.all fun c=>match mg c,mg T with
 | some (.ref C),some (.ref D)=>clsB l C&&(exmOne l (.ref C) (.ref D) == some true)&&(kitOne l (.ref C) (.type "ValueError") == some true)&&ys.all fun y=>match mg y with
  | some (.ref E)=>kitOne l (.ref C) (.ref E) == some (decide (c=y))
  | _=>false
 | _,_=>false
def QM(K:qF)(mg:qM)(cs ys:List Str)(T:Str):Prop:=∃l,SubK l K/\((∃D,mg T=some (.ref D))/\∀y∈ys,∃E,mg y=some (.ref E))/\excT l mg cs ys T=true
section
variable{K:qF}{mg:qM}{cs ys:List Str}{T:Str}
theorem QM.at(M:QM K mg cs ys T):∃l,SubK l K/\∀c∈cs,∀C,mg c=some (.ref C)->clsB l C=true/\(∀D,mg T=some (.ref D)->exmOne l (.ref C) (.ref D)=some true)/\kitOne l (.ref C) (.type "ValueError")=some true/\∀y∈ys,∃E,mg y=some (.ref E)/\kitOne l (.ref C) (.ref E)=some (decide (c=y)):=by
 obtain⟨l,sK,⟨⟨D,v⟩,_⟩,e⟩:=M;refine⟨l,sK,fun c hc C L=>?_⟩
 have e:=bg.mp e c hc;rw[L,v]at e;simp only[aG,beq_iff_eq]at e;obtain⟨⟨⟨I,N⟩,J⟩,u⟩:=e;refine⟨I,fun R h'=>by rw[v]at h';cases h';exact N,J,fun y G=>?_⟩
 have u:=bg.mp u y G;split at u
 ·rename_i E x;exact⟨E,x,beq_iff_eq.mp u⟩
 ·cases u
theorem QM.under(M:QM K mg cs ys T):zjy K mg cs T:=by
 obtain⟨v,sK,h⟩:=M.at;obtain⟨_,_,⟨⟨D,l⟩,_⟩,_⟩:=M;exact⟨D,l,fun c hc C u=>⟨v,sK,(h c hc C u).2.1 D l⟩⟩
end
theorem Rep.excI{K:qF}{hd:Option aq}{O:aq->Prop}{H:Hp}{v:V}{C:aq}(h:Rep K hd O H v (EXC C)):∃a,v=.ref a/\H a=some (EXO a C):=by
 generalize e:EXC C=d at h;cases h with
 | exc h _ =>
  simp only[EXC,kH,gJ,kQ,PyData.int.injEq,true_and,and_true]at e;have e:=Int.ofNat.inj e;subst e;exact⟨_,rfl,h⟩
 | dct _ _=>cases e
 | dcK _ _ _ u=>cases e;exact(dict_noK u).elim
 | dcT _ _ _ u=>cases e;exact(dict_noT u).elim
 | hand _=>simp[HAND,EXC]at e
 | scr _ _=>simp[SCR,EXC]at e
 | scrS _=>simp[SCR,EXC]at e
 | _=>cases e
section
variable{X:Cx}
theorem ztR{pins:qO}{σ:St}{H:Hp}{s:au}{a C:aq}(I:Inv X pins σ H s)(h:H a=some (EXO a C)):ExAt a C s.heap:=by
 obtain⟨⟨o,l,hc,_⟩,_⟩:=I.hok a _ h;exact⟨o,l,hc⟩
theorem zjt:JG X (.builtin "isinstance") (fun xs H Q=>∃a C c w b v,xs=[.ref a,w]/\(w=.ty "ValueError" /\ c=bq "ValueError" \/ ∃D,w=.ref D/\c=bM D)/\H a=some (EXO a C)/\SubK v X.K/\clsB v C=true/\kitOne v (.ref C) c=some b/\Q (.bl b) H):=by
 intro pins s σ H xs U Q I r h;obtain⟨a,C,c,w,b,v,rfl,hw,x,sK,L,e,q⟩:=h;cases r with
 | cons G N =>
  cases N with
  | cons J R =>
   cases R;cases G;have key:∀u,u=c->wpAny (model X.prog X.w) X.A (call (.builtin "isinstance") [.ref a,u]) (EP X pins σ Q) X.xe s:=fun u S=>by
    subst S;exact kia_one (zi5 L) (sK.in I.kIn) (ztR I x) e (fun z=>by cases z) fun tk=>⟨.bl b,H,I.tok tk,rfl,q⟩
   rcases hw with⟨rfl,rfl⟩|⟨D,rfl,rfl⟩ <;> exact key _ J
theorem zmr:JG X (.builtin "isinstance") (fun xs H Q=>∃a C p L N x v y,xs=[.ref a,.ref p]/\H p=some (.tup [.ref L,.ref N])/\H a=some (EXO a C)/\SubK y X.K/\clsB y C=true/\kitOne y (.ref C) (.ref L)=some x/\kitOne y (.ref C) (.ref N)=some v/\Q (.bl (x||v)) H):=by
 intro pins s σ H xs us Q I r h;obtain⟨a,C,p,L,N,x,v,y,rfl,hp,R,sK,hB,e1,e2,q⟩:=h;cases r with
 | cons S r2 =>
  cases r2 with
  | cons Z r4 =>
   cases r4;cases S;cases Z;obtain⟨_,its,J,⟨oc,od,dt,sl⟩,U,hc,⟨n,hd⟩,G⟩:=I.hok p _ hp;cases J with
   | cons Y J =>
    cases J with
    | cons v2 J =>
     cases J;cases Y;cases v2;dsimp only at hc hd G;subst hc hd G;have e:kitAny y (.ref C) [.ref L,.ref N]=some (x||v):=by
      unfold kitAny;rw[e1];cases x with
      | true=>rfl
      | false =>
       dsimp only;unfold kitAny;rw[e2];cases v <;> rfl
     exact kia_tup (zi5 hB) (sK.in I.kIn) (ztR I R) U e (fun z=>by cases z) fun tk=>⟨.bl (x||v),H,I.tok tk,rfl,q⟩
end
def lIsE(mg:qM)(cs:List Str)(f:Str->Bool)(t:af)(R:af->Prop):Prop:=∃c C,c∈cs/\mg c=some (.ref C)/\t=EXC C/\R (.bool (f c))
def dIsE(mg:qM)(cs:List Str)(f:Str->Bool)(d:DTE):DTE:=fun l n R=>d l n fun t u=>lIsE mg cs f t fun z=>R z u
theorem isE{mg:qM}{cs:List Str}{f:Str->Bool}{c:Str}{C:aq}{R:af->Prop}(hc:c∈cs)(u:mg c=some (.ref C))(h:R (.bool (f c))):lIsE mg cs f (EXC C) R:=⟨c,C,hc,u,rfl,h⟩
section
variable{X:Cx}{e:aP}{d:DTE}{y y1 y2 T:Str}{cs ys:List Str}{p p2 p3 p4 pos:Pos}{k:Nat}
theorem zhX{D:aq}(l:X.mg y=some (.ref D))(u:Gl X y)(hd:(y == ("__debug__":Str))=false):PE X (.Name y p) (tC (.ref D)):=fun pins s σ H Q I h=>UY I u l ⟨.ref D,H,I,rfl,h⟩ hd
theorem zl3(M:QM X.K X.mg cs ys T)(J:y∈ys)(hm:X.mg "isinstance" = none) (h:DE X e d) (hs:starEach (e::[.Name y p2]) X.env=(false,eval e X.env)::starEach [.Name y p2] X.env) (hg:Gl X "isinstance":=by rfl) (G:Gl X y:=by rfl) (hd:(y == ("__debug__":Str))=false:=by rfl) :
  DE X (.Call (.Name "isinstance" p) [e,.Name y p2] [] pos) (dIsE X.mg cs (fun c=>decide (c=y)) d):=by
 obtain⟨ta,pa,h⟩:=h;obtain⟨K0,sK,hK⟩:=M.at;obtain⟨_,_,⟨_,U⟩,_⟩:=M;obtain⟨D,L⟩:=U y J;refine⟨_,Uk zjt hm Vz (JU pa (zhY (zhX L G hd) Qg) hs) hg,fun C ρ σ H n Q R S hd Z=>?_⟩
 refine h C ρ σ H n _ _ S hd fun t n1 v Y x e1 h1 q1=>?_
 obtain⟨c,I,hc,hC,rfl,x⟩:=x;obtain⟨a,rfl,ha⟩:=q1.excI;obtain⟨k1,k2,k3,k4⟩:=hK c hc I hC;obtain⟨E,u,k5⟩:=k4 y J;rw[L]at u;cases u;exact⟨a,I,.ref D,.ref D,_,K0,rfl,.inr ⟨D,rfl,rfl⟩,ha,sK,k1,k5,Z _ n1 _ Y x e1 h1 (.bl _)⟩
theorem zol:bootBuiltins "ValueError" = some (.type "ValueError"):=by decide +kernel
theorem zt1(M:QM X.K X.mg cs ys T)(hm:X.mg "isinstance" = none) (Y:X.mg "ValueError" = none) (h:DE X e d) (hs:starEach (e::[.Name "ValueError" p2]) X.env=(false,eval e X.env)::starEach [.Name "ValueError" p2] X.env) (hg:Gl X "isinstance":=by rfl) (x:Gl X "ValueError":=by rfl) :
  DE X (.Call (.Name "isinstance" p) [e,.Name "ValueError" p2] [] pos) (dIsE X.mg cs (fun _=>true) d):=by
 obtain⟨ta,pa,h⟩:=h;obtain⟨K0,sK,U⟩:=M.at;refine⟨_,Uk zjt hm Vz (JU pa (zhY (Bd.zrZ Y zol x) Qg) hs) hg,fun C L σ H n Q R S hd J=>?_⟩
 refine h C L σ H n _ _ S hd fun t n1 v I u e1 h1 Z=>?_
 obtain⟨c,G,hc,hC,rfl,u⟩:=u;obtain⟨a,rfl,ha⟩:=Z.excI;obtain⟨k1,k2,k3,k4⟩:=U c hc G hC;exact⟨a,G,.type "ValueError",.ty "ValueError",_,K0,rfl,.inl ⟨rfl,rfl⟩,ha,sK,k1,k3,J _ n1 _ I u e1 h1 (.bl _)⟩
theorem zqA(M:QM X.K X.mg cs ys T)(Y:y1∈ys)(I:y2∈ys)(hm:X.mg "isinstance" = none) (h:DE X e d) (hs:starEach (e::[.Tuple [.Name y1 p2,.Name y2 p3] k p4]) X.env=(false,eval e X.env)::starEach [.Tuple [.Name y1 p2,.Name y2 p3] k p4] X.env)
  (hs2:starEach [.Tuple [.Name y1 p2,.Name y2 p3] k p4] X.env=[(false,eval (.Tuple [.Name y1 p2,.Name y2 p3] k p4) X.env)]:=by rfl) (hs3:starEach [.Name y1 p2,.Name y2 p3] X.env=(false,eval (.Name y1 p2) X.env)::starEach [.Name y2 p3] X.env:=by rfl) (hs4:starEach [.Name y2 p3] X.env=(false,eval (.Name y2 p3) X.env)::starEach [] X.env:=by rfl)
  (hg:Gl X "isinstance":=by rfl) (hg1:Gl X y1:=by rfl) (hg2:Gl X y2:=by rfl) (hd1:(y1 == ("__debug__":Str))=false:=by rfl) (hd2:(y2 == ("__debug__":Str))=false:=by rfl) :
  DE X (.Call (.Name "isinstance" p) [e,.Tuple [.Name y1 p2,.Name y2 p3] k p4] [] pos) (dIsE X.mg cs (fun c=>decide (c=y1)||decide (c=y2)) d):=by
 obtain⟨ta,pa,h⟩:=h;obtain⟨K0,sK,hK⟩:=M.at;obtain⟨_,_,⟨_,hE⟩,_⟩:=M;obtain⟨D1,L⟩:=hE y1 Y;obtain⟨D2,G⟩:=hE y2 I;refine⟨_,Uk zmr hm Vz (JU pa (JU (zoB (Qn (zhX L hg1 hd1) (Qn (zhX G hg2 hd2) Q3 hs4) hs3)) Qg hs2) hs) hg,fun C ρ σ H n Q R S hd hq=>?_⟩
 refine h C ρ σ H n _ _ S hd fun t n1 v H1 Z e1 h1 q1=>?_
 obtain⟨c,Cc,hc,hC,rfl,Z⟩:=Z;obtain⟨a,rfl,ha⟩:=q1.excI;obtain⟨k1,k2,k3,k4⟩:=hK c hc Cc hC;obtain⟨E1,U,k5⟩:=k4 y1 Y;obtain⟨E2,J,k6⟩:=k4 y2 I;rw[L]at U;cases U;rw[G]at J;cases J;refine⟨by show 2<=sizeLine;rw[kE];decide,fun q x=>?_⟩
 refine⟨a,Cc,q,D1,D2,_,_,K0,rfl,JJ,?_,sK,k1,k5,k6,hq _ n1 _ _ Z (e1.trans (ExtE.new x)) (h1.same (JO x)) (.bl _)⟩;rw[Jo (Qt ha x)];exact ha
instance zwY {mg:qM}{f:Str->Bool}{ρ:En}{n:Nat}{R:qN}:Stp (dIsE mg cs f d ρ n R) (d ρ n fun t n1=>lIsE mg cs f t fun z=>R z n1):=⟨fun h=>h⟩
instance zwS {mg:qM}{i ie:Nat}{g:GX}{ds:DTA}{D:JN}{ρ:En}{n:Nat}:Stp (sTry mg cs i ie g ds D ρ n) (ρ[ie]?=some none/\ds ρ n fun ts n1=>g ts n1 (fun _ n2=>D.nx ρ n2) fun c n2=>c∈cs/\∀C,mg c=some (.ref C)->D.nx (ρ.set i (some (.val (EXC C)))) n2):=⟨fun h=>h⟩
end
section
variable{X:Cx}{a:aP}{da:DTE}
theorem zk6:MtR X "list.index" (fun x xs H Q=>∃(l:aq) (bs:List Bool) (k:Bool),x=.ref l/\xs=[.bl k]/\SqL X.K H l (bs.map V.bl)/\k∈bs/\bs.length<=1000000/\Q (.int (bs.idxOf k:Nat)) H):=by
 intro pins s σ H x xs v us Q I rx rs h;obtain⟨l,bs,k,rfl,rfl,R,J,hz,q⟩:=h;cases rx;cases rs with
 | cons Y r2 =>
  cases r2;cases(show _=dY k from Y)
  obtain⟨C,S,p,sz⟩:=I.list R;have e:C=bs.map dY:=by
   clear p R J hz q sz;induction bs generalizing C with
   | nil=>cases S;rfl
   | cons b bs ih =>
    cases S with
    | cons a b=>cases(show _=dY _ from a);rw[ih _ b];rfl
  subst e;obtain⟨⟨cls,dd,data,Z⟩,N,hc,n,hd⟩:=p.isList;simp only at hc hd;subst hc hd;have U:bs.idxOf k<bs.length:=kT.mpr J;refine call_meets lz ⟨_,N,rfl⟩ PySem.F.entry_list_index (PySem.F.args_list_index_2 _ _)
   (sL l (bs.map dY).toArray n dd Z (.bool k) (fun u=>match u with|.bool b=>b == k|_=>false) (bs.idxOf k) (by simpa using U) (by omega) ?_ ?_) ⟨N,fun y hy=>?_,⟨.int _,H,I.tok _,⟨_,rfl⟩,q⟩⟩
  ·simp
  ·intro j G L;have hjb:j<bs.length:=by simpa using G
   have:bs[j]≠k:=fun z=>by
    have:=kT.mpr J;exact absurd (List.not_of_lt_findIdx (p:=(· == k)) (xs:=bs) (i:=j) L) (by simp[z])
   simpa using this
  ·obtain⟨b,_,rfl⟩:=aS.mp (by simpa using hy:y∈bs.map dY)
   exact p9 b k
def zqF(k:Bool)(d:DTE):DTE:=fun u n R=>d u n fun t v=>∃bs:List Bool,t=.list (bs.map cF)/\k∈bs/\bs.length<=1000000/\R (.int (bs.idxOf k:Nat)) v
theorem zl4{k:Bool}{j}{p1 p2 y:Pos}(h:DL X a da)(Z:attributeBase a "index" X.env (eval a X.env)=eval a X.env:=by rfl) (HH:(p2.endLine == y.line)=true:=by rfl):DE X (.Call (.Attribute a "index" p2) [.Constant (.bool k) j p1] [] y) (zqF k da):=by
 obtain⟨ta,pa,h⟩:=h;refine⟨_,zpo gR lz PySem.F.type_list_index zk6 pa (Qn zpq Q3 rfl) Z rfl HH rfl rfl,fun C L σ H n Q R S hd J=>?_⟩
 refine h C L σ H n _ _ S hd fun t n1 v G r Y U N=>?_
 obtain⟨bs,rfl,hk,hz,r⟩:=r;obtain⟨p,vs,rfl,x,I⟩:=N.lstI;rw[VS I]at x;exact⟨.inl ⟨rfl,_,SqL.of x⟩,p,bs,k,rfl,rfl,.of x,hk,hz,J _ n1 _ G r Y U (.int _)⟩
end
end L2
namespace Bd
open PySem PySem.W PySem.Calls L2 PyProof.Rows
def kOne(h:aN)(v:Option ah):qF:=match v with
 | some (.ref C)=>(match h.get? C with
  | some o=>(C,o)::(match o.data with
   | .cls cd=>(match h.get? cd.ns with|some n=>[(cd.ns,n)]|none=>[])
   | _=>[])
  | none=>[])
 | _=>[]
def kOf(h:aN)(mg:qM)(xs:List Str):qF:=xs.flatMap fun x=>kOne h (mg x)
theorem zpZ{h:aN}{v:Option ah}{p:aq×Obj}(m:p∈kOne h v):h.get? p.1=some p.2:=by
 unfold kOne at m;split at m
 ·split at m
  ·rename_i C o l;rcases aw.mp m with rfl|m
   ·exact l
   ·split at m
    ·split at m
     ·rename_i n u;cases aC.mp m;exact u
     ·cases m
    ·cases m
  ·cases m
 ·cases m
theorem znC{K:qF}{a:aq}{o:Obj}(e:K.lookup a=some o):(a,o)∈K:=by
 induction K with
 | nil=>cases e
 | cons p K v =>
  obtain⟨b,u⟩:=p;rw[cN]at e;cases q:a == b with
  | true=>rw[q]at e;cases e;rw[eq_of_beq q];exact .head _
  | false=>rw[q]at e;exact .tail _ (v e)
theorem zsO{h:aN}{mg:qM}{xs:List Str}:(kOf h mg xs).In h:=fun a o e=>by
 obtain⟨x,_,m⟩:=List.mem_flatMap.mp (znC e);exact zpZ m
def isRef:Option ah->Bool
 | some (.ref _)=>true
 | _=>false
def excAt(xs cs ys:List Str)(T:Str)(s:au):Bool:=isRef (s.heap.nsMap mainGlobals T)&&ys.all (fun y=>isRef (s.heap.nsMap mainGlobals y))&&excT (kOf s.heap (s.heap.nsMap mainGlobals) xs) (s.heap.nsMap mainGlobals) cs ys T
def ExcsAre(cs ys:List Str)(T:Str)(mg:qM)(h:aN):Prop:=∃l:qF,l.In h/\((∃D,mg T=some (.ref D))/\∀y∈ys,∃E,mg y=some (.ref E))/\excT l mg cs ys T=true
theorem zi9{v:Option ah}(h:isRef v=true):∃D,v=some (.ref D):=by
 unfold isRef at h;split at h
 ·exact⟨_,rfl⟩
 ·cases h
theorem ztP{xs cs ys:List Str}{T:Str}{s:au}(x:excAt xs cs ys T s=true):ExcsAre cs ys T (s.heap.nsMap mainGlobals) s.heap:=by
 unfold excAt at x;simp only[aG]at x;exact⟨_,zsO,⟨zi9 x.1.1,fun y l=>zi9 (bg.mp x.1.2 y l)⟩,x.2⟩
theorem ExcsAre.keeps{cs ys:List Str}{T:Str}{mg:qM}{h h':aN}(x:ExcsAre cs ys T mg h)(k:∀b o,h.get? b=some o->h'.get? b=some o):ExcsAre cs ys T mg h':=by
 obtain⟨l,i,r⟩:=x;exact⟨l,fun a o e=>k a o (i a o e),r⟩
theorem ExcsAre.ok{cs ys:List Str}{T:Str}{mg:qM}{h:aN}(x:ExcsAre cs ys T mg h):QM (JI h) mg cs ys T:=by
 obtain⟨l,i,r⟩:=x;exact⟨l,fun a o e=>U5 (i a o e),r⟩
theorem zr9{q:aK}{loose:List Str}{y:nZ->Option ah}{mg v:qM}{h:aN}{x:Str}(T:Top q loose y mg v h)(u:specOf q x=some ("ValueError.__new__",ztQ)):OwnE (JI h) mg x:=by
 obtain⟨C,O,_⟩:=T.ownAt u;exact⟨C,O.bound,fun h' l=>(O.keeps fun b o e=>l b o (U5 e)).own⟩
end Bd
namespace Bd
open PySem L2
theorem zpJ{rs u L:List NP}(p:rs.Perm L)(v:u.Perm L)(h:rs.Pairwise fun a b=>npRk rs a<=npRk rs b)(h':u.Pairwise fun a b=>npRk u a<=npRk u b):rs=u:=by
 have q:=p.trans v.symm;have e:∀a,npRk rs a=npRk u a:=fun a=>by unfold npRk;rw[(q.filter _).length_eq]
 refine List.Perm.eq_of_pairwise (le:=fun a b=>npRk rs a<=npRk rs b) (fun a b x y C G=>?_) h (h'.imp fun {a b} z=>by rw[e,e];exact z) q
 rcases zi0 a b with z|z|z
 ·have:=ZN x z;lia
 ·exact z
 ·have:=ZN (q.mem_iff.mpr y) z;lia
def Nb(p:NP):Prop:=p.1.1.natAbs<10 ^ 40/\p.1.2.natAbs<10 ^ 40/\IsNm p.2
theorem zpQ{bits:Int}{p:NP}(v:1<=bits)(l:bits<=64)(B:IsBk bits p.1.1 p.1.2)(N:IsNm p.2):Nb p:=by
 have x:=B.lt (by lia) l
 have:=B.1;have:=B.2.1;have u:=B.bounds (by lia)
 exact⟨by lia,by lia,N⟩
theorem zrj{os:List NP}{a:Nat}(h:∀p∈os,Nb p)(l:os.length<=a):Sm (567*a) 3 (.tuple (oD os)):=by
 refine(zfr (w:=566) (k:=2) (xs:=oD os) fun x hx=>?_).mono (by rw[UX];lia) (aA _)
 obtain⟨p,v,rfl⟩:=aS.mp hx;obtain⟨a,b,N⟩:=h p v;exact zrh (zkk a b) ((zu6 N).mono (by decide) (by decide))
theorem zu7{d:Deal}{a b:Nat}(x:1<=d.1)(y:d.1<=64)(l:∀p∈d.2.1,Nb p)(u:d.2.1.length<=a)(v:∀p∈d.2.2,Nb p)(l2:d.2.2.length<=b):Sm (567*a+567*b+143) 4 (dlD d):=by
 have A:=zrj l u;have B:=zrj v l2;have C:Sm 140 0 (.int d.1):=zkl (by lia)
 have:=A.wt;have:=B.wt;have:=C.wt;have:=A.dp;have:=B.dp;have:=C.dp;exact⟨by have a:=A.ls;have b:=B.ls;have c:=C.ls;simp only[dlD,gL,fO,iC,aG]at a b c ⊢;exact⟨c,a,b⟩,by have a:=A.sh;have b:=B.sh;have c:=C.sh;simp only[dlD,iI,gM,iC,aG]at a b c ⊢;exact⟨c,a,b⟩,by have a:=A.cl;have b:=B.cl;have c:=C.cl;simp only[dlD,bu,bc,iC,aG]at a b c ⊢;first|exact⟨c,a,b⟩|exact⟨a,b⟩|simp_all,by simp only[dlD,cO,bU]at *;lia,by simp only[dlD,mU,ip]at *;lia⟩
theorem zrm{d:Deal}{a b:Nat}(C:567*a+567*b+200<=380000)(l:1<=d.1)(u:d.1<=64)(v:∀p∈d.2.1,Nb p)(x:d.2.1.length<=a)(y:∀p∈d.2.2,Nb p)(l2:d.2.2.length<=b):Shd (dlD d):=(zu7 l u v x y l2).shd (by lia) (by decide)
theorem Dl.o{d:Deal}(D:Dl d):∀p∈d.2.1,Nb p:=fun p l=>zpQ D.1 D.2.1 (D.2.2.1.1.1 _ (aS.mpr ⟨p,l,rfl⟩)) (D.2.2.1.2 p l)
theorem Dl.k{d:Deal}(D:Dl d):∀p∈d.2.2,Nb p:=fun p l=>zpQ D.1 D.2.1 (D.2.2.2.1.1.1 _ (aS.mpr ⟨p,l,rfl⟩)) (D.2.2.2.1.2 p l)
theorem zkW{p:NP}(h:IsNm p.2):Okd (.tuple [prD p.1,.str p.2]):=by
 have e:=(YW h).1;exact⟨by simp[prD,bu,bc]at e ⊢;exact e,by simp[prD,cO,bU]⟩
end Bd
namespace L2
open PySem PySem.Spec PyProof PyProof.Rows
theorem zmy:bootBuiltins "abs" = some (.builtin "abs"):=by decide +kernel
def RN3(p:aq)(i j k:Int):HO:=.ext fun h=>∃t u v,h.get? p=some { cls:=.type "range",data:=.fields #[.int i t,.int j u,.int k v] }
theorem zk4{x c:Int}(u:0<c)(v:c<2 ^ 29):iM x c=false:=by
 unfold iM;have e:(c == 0)=false:=by simp;omega
 have l:c.natAbs.log2<29:=(oJ (by omega)).mpr (by omega)
 simp only[e,aI,if_false,Bool.and_eq_false_imp,decide_eq_true_eq];intro h;omega
section
variable{X:Cx}
theorem zml:JG X (.type "range") (fun xs H Q=>∃i j k:Int,xs=[.int i,.int j,.int k]/\(0<k/\k<2 ^ 29)/\∀p,H p=none->Q (.ref p) (upd H p (RN3 p i j k))):=by
 intro pins s σ H xs J Q I r h;obtain⟨i,j,k,rfl,x,q⟩:=h;cases r with
 | cons a r =>
  cases r with
  | cons b r =>
   cases r with
   | cons c r =>
    cases r;obtain⟨t,rfl⟩:=a;obtain⟨u,rfl⟩:=b;obtain⟨v,rfl⟩:=c;refine call_range_3 (by lia) ⟨.ref s.heap.objs.size,_,I.laid (a:=s.heap.objs.size) (o:=RN3 s.heap.objs.size i j k) (t':=s.toks) (fun b o e=>ak _ e) (aA _) ⟨⟨t,u,v,az _ rfl⟩,⟨_,az _ rfl⟩,fun C G z kp=>?_⟩,rfl,q _ (I.hok.fresh (aA _))⟩ (.inl (zk4 x.1 x.2))
    obtain⟨t,u,v,e⟩:=z;exact⟨t,u,v,kp _ e⟩
theorem zio(hc:X.calm=true):JG X (.type "list") (fun xs H Q=>∃(p:aq) (lo hi k:Int) (m:Nat),xs=[.ref p]/\H p=some (RN3 p lo hi k)/\(-(2 ^ 60)<=lo/\lo<2 ^ 60/\-(2 ^ 60)<=hi/\hi<2 ^ 60)/\(0<k/\k<2 ^ 29)/\bE lo hi k=(m:Nat)/\m<=2 ^ 24 /\
  ∀l,H l=none->Q (.ref l) (upd H l (.lst (((dh m).map fun(i:Nat)=>lo+(i:Int)*k).map V.int)))):=by
 intro pins s σ H xs us Q I r h;obtain⟨p,lo,hi,k,m,rfl,hp,⟨b1,G,J,S⟩,⟨k0,k1⟩,sz,R,q⟩:=h;obtain⟨u,rfl,U⟩:=r.one;cases(show u=bM p from U)
 obtain⟨⟨t,u,v,N⟩,_⟩:=(show JL X.prog X.w H s.heap p (RN3 p lo hi k) from I.hok p _ hp)
 refine call_list_range (I.ok.hd hc) N (zjG b1 G J S (by lia) k1 (by lia)) sz R fun h' tk C c kp Z IJ=>?_
 refine⟨.ref s.heap.objs.size,_,I.laid (a:=s.heap.objs.size) (o:=.lst _) (t':=tk) kp (aA _) ⟨?_,C.toList,c,?_,by rw[Array.toArray_toList];exact Z⟩,rfl,q _ (I.hok.fresh (aA _))⟩
 ·simp;rw[kE];lia
 ·obtain⟨Y,L⟩:=IJ;rw[cH];refine Paired.flip (zgv (P:=fun(v:ah) (i:Nat)=>RelV (V.int (lo+(i:Int)*k)) v) (m:=dh m) (by rw[dB,Y,kJ]) fun j v i x hi=>?_)
  rw[lV]at x;obtain⟨t,rfl⟩:=L j v x;rw[iO (by have:=(Array.getElem?_eq_some_iff.mp x).1;lia)]at hi
  cases hi;exact⟨t,rfl⟩
end
section
variable{X:Cx}{a b c:aP}{da db dc:DTE}{p p0 p1 pos:Pos}
def zl8(da db dc:DTE):DTA:=fun l n R=>da l n fun x C=>db l C fun y u=>dc l u fun z v=>lInt x fun i=>lInt y fun j=>lInt z fun k=>(-(2 ^ 60)<=i/\i<2 ^ 60/\-(2 ^ 60)<=j/\j<2 ^ 60)/\(0<k/\k<2 ^ 29)/\∃m:Nat,bE i j k=(m:Nat)/\m<=2 ^ 24/\R (((dh m).map fun(q:Nat)=>i+(q:Int)*k).map bH) v
theorem zlX(hc:X.calm=true)(hl:X.mg "list" = none) (hr:X.mg "range" = none) (h:DE X a da) (h':DE X b db) (h'':DE X c dc) (s1:starEach [a,b,c] X.env=[(false,eval a X.env),(false,eval b X.env),(false,eval c X.env)]:=by rfl) (s2:starEach [b,c] X.env=[(false,eval b X.env),(false,eval c X.env)]:=by rfl) (s4:starEach [c] X.env=[(false,eval c X.env)]:=by rfl)
  (s3:starEach [.Call (.Name "range" p0) [a,b,c] [] p1] X.env=[(false,eval (.Call (.Name "range" p0) [a,b,c] [] p1) X.env)]:=by rfl) (g1:Gl X "list":=by rfl) (g2:Gl X "range":=by rfl):DN X (.Call (.Name "list" p) [.Call (.Name "range" p0) [a,b,c] [] p1] [] pos) (zl8 da db dc):=by
 obtain⟨ta,pa,h⟩:=h;obtain⟨tb,pb,h'⟩:=h';obtain⟨tc,pc,h''⟩:=h'';refine⟨_,ZQ (zio hc) hl (by decide +kernel) (JU (ZQ zml hr (by decide +kernel) (JU pa (JU pb (JU pc Qg s4) (by rw[s2,s4])) (by rw[s1,s2])) g2) Qg s3) g1,fun C L σ H n Q R S hd hq=>?_⟩
 refine h C L σ H n _ _ S hd fun x n1 v H1 r e1 h1 q1=>?_
 have Z:=S.on e1 h1;refine h' C L σ H1 n1 _ _ Z r fun y n2 w H2 r2 Y h2 q2=>?_
 have S2:=Z.on Y h2;refine h'' C L σ H2 n2 _ _ S2 r2 fun z n3 w' H3 G U h3 q3=>?_
 cases x with
 | int i =>
  cases y with
  | int j =>
   cases z with
   | int k =>
    obtain⟨bd,kb,m,sz,ml,G⟩:=G;have ev:=((Y.trans U).rep S.hx q1).intI;have ew:=(U.rep S.hx q2).intI;have ex:=q3.intI;subst ev ew ex;refine⟨i,j,k,rfl,kb,fun q J=>⟨q,i,j,k,m,rfl,JJ,bd,kb,sz,ml,fun l u=>?_⟩⟩
    have e4:=((e1.trans Y).trans U).trans (ExtE.new (o:=RN3 q i j k) J);have h4:=h3.same (JO (o:=RN3 q i j k) J);exact hq _ n3 l _ _ G (e4.trans (ExtE.new u)) (h4.same (JO u)) (Zt e4 h4 u) JJ (zky _)
   | _=>exact G.elim
  | _=>exact G.elim
 | _=>exact G.elim
end
section
variable{ρ:En}{n:Nat}{Rl:List af->Nat->Prop}{da db dc:DTE}
instance zue:Stp (zl8 da db dc ρ n Rl) (da ρ n fun x n1=>db ρ n1 fun y n2=>dc ρ n2 fun z n3=>lInt x fun i=>lInt y fun j=>lInt z fun k=>(-(2 ^ 60)<=i/\i<2 ^ 60/\-(2 ^ 60)<=j/\j<2 ^ 60)/\(0<k/\k<2 ^ 29)/\∃m:Nat,bE i j k=(m:Nat)/\m<=2 ^ 24/\Rl (((dh m).map fun(q:Nat)=>i+(q:Int)*k).map bH) n3):=⟨fun h=>h⟩
end
section
variable{X:Cx}{Q:af->Prop}{i j k:Int}
def max3(i j k:Int):Int:=if j > i then(if k > j then k else j) else(if k > i then k else i)
theorem zmp(hc:X.calm=true):JG X (.builtin "max") (fun xs H Q=>∃i j k,xs=[.int i,.int j,.int k]/\Q (.int (max3 i j k)) H):=by
 intro pins s σ H xs J Q I r h;obtain⟨i,j,k,rfl,q⟩:=h;cases r with
 | cons y r =>
  obtain⟨v,G,rfl,⟨t',rfl⟩,⟨x,rfl⟩⟩:=vals2 r;obtain⟨t,rfl⟩:=y;refine max_three_ints (I.ok.hd hc) fun h' tk C=>⟨_,H,I.kept C,?_,q⟩
  unfold max3
  by_cases h1:j > i <;> by_cases h2:k > j <;> by_cases h3:k > i <;> simp only[h1,h2,h3,if_true,if_false] <;> exact⟨_,rfl⟩
def zqS:GC
 | [.int i,.int j,.int k],R=>R (.int (max3 i j k))
 | _,_=>False
theorem zql:GpC X (fun xs H Q=>∃i j k,xs=[.int i,.int j,.int k]/\Q (.int (max3 i j k)) H) zqS:=by
 intro hd O H xs ts Q R dom rs h u;unfold zqS at h;split at h
 ·cases rs with
  | cons x rs =>
   obtain⟨v,w,rfl,l,y⟩:=Va rs;rw[x.intI,l.intI,y.intI];exact⟨_,_,_,rfl,u _ _ H h (Same.refl H) (.int _)⟩
 ·exact h.elim
instance{R:af->Prop}:Stp (zqS [.int i,.int j,.int k] R) (R (.int (max3 i j k))):=⟨fun h=>h⟩
end
section
variable{X:Cx}{a b:aP}{d:DTE}{ds:DTA}{pos:Pos}{x y:Str}
def zrA(i j:Nat)(d:DTE)(ds:DTA):DTS:=fun D u n=>d u n fun t G=>ds u G fun ts C=>ts=[]/\D.nx ((u.set i (some (.val t))).set j (some (.own []))) C
theorem zqt{i j:Nat}{G py pt:Pos}{kt k2 pt2}(hc:X.calm=true)(hN:X.N.Nodup)(hi:X.N[i]?=some x)(hj:X.N[j]?=some y)(U:i≠j)
  (hx:X.env.scope.names.lookup x=some .local) (hy:X.env.scope.names.lookup y=some .local) (h:DE X a d) (h':DN X b ds)
  (L:starEach [a,b] X.env=(false,eval a X.env)::starEach [b] X.env:=by rfl) (J:starEach [b] X.env=[(false,eval b X.env)]:=by rfl)
  (hw:swappedStores [.Tuple [.Name x G,.Name y py] kt pt] (.Tuple [a,b] k2 pt2) X.env=pure (some [x,y]):=by rfl)
  (hs:swapsWithSole [.Tuple [.Name x G,.Name y py] kt pt] (.Tuple [a,b] k2 pt2) pos.line X.env=pure false:=by rfl) :
  DS X (.Assign [.Tuple [.Name x G,.Name y py] kt pt] (.Tuple [a,b] k2 pt2) pos) (zrA i j d ds):=by
 obtain⟨ta,pa,h⟩:=h;obtain⟨tb,pb,h'⟩:=h';refine⟨_,zoA hc hN hi hj U hx hy (Qn pa (Qn pb Q3 J) L) hw hs,fun C Z σ H n D D' S hd g=>?_⟩
 refine h C Z σ H n _ _ S hd fun t n1 v H1 r1 e1 h1 q1=>?_
 have Y:=S.on e1 h1;refine h' C Z σ H1 n1 _ _ Y r1 fun ts n2 p vs H2 R e2 h2 hp I q2=>?_
 obtain⟨rfl,R⟩:=R;cases q2;refine⟨_,_,rfl,?_⟩;have T1:=Y.put (i:=i) q1;have SO:=T1.putOwn (i:=j) e2 h2 hp I .nil;exact g.nx _ _ H2 n2 R SO (e1.keep.trans (QL.trans (zcE e2 hp)))
variable{ρ:En}{n i j:Nat}{D:JN}
instance zwC:Stp (zrA i j d ds D ρ n) (d ρ n fun t n1=>ds ρ n1 fun ts n2=>ts=[]/\SetK i (some (.val t)) (fun ρ1 n1=>SetK j (some (.own [])) D.nx ρ1 n1) ρ n2):=⟨fun h=>h⟩
end
def RlAt(A:br)(s:au)(x y:ah)(l:Bool):Prop:=∀(prog:aK) (w:aQ) (E:qV) (Q:qV),Q (.bool l) s->wpAny (model prog w) A (richCompare .Lt x y) Q E s
section
open PySem.SeqAt
open PySem.AutoSeq1 (wpAny_loadPart')
open PySem.MeetsSeq PySem.MeetsSeq2 PySem.MeetsSeq3
theorem zkf(l b:aq)(x0 L N I:ah)(n n2:Nat)(dd U:Option aq)(sl S:Array (Option ah))(G J l0 Z:Bool) :
  Meets (fR.«tuple.__lt__» ⟨[.ref l,.ref b],[]⟩)
   (fun A R s=>s.heap.get? l=some { cls:=.type "tuple",dict:=dd,data:=.seq #[x0,L] n,slots:=sl }/\s.heap.get? b=some { cls:=.type "tuple",dict:=U,data:=.seq #[N,I] n2,slots:=S } /\
    EqAt A.in1 s x0 N G/\EqAt A.in1 s L I J/\(G=false->RlAt A.in1 s x0 N l0)/\(J=false->RlAt A.in1 s L I Z)/\R (.ok (.ret (.bool (if G=true then(if J=true then false else Z) else l0)))) s) :=
 .of_wp fun prog w A R s h=>by
  obtain⟨hp,g,d,tk,os⟩:=s;obtain⟨hl,hb,e0,e1,r0,r1,h⟩:=h;have f2:=kO
  wp_walk using iG hl,iG hb,oi _ (fun rest b s'=>b.1=none/\s'=⟨hp,g,d,tk,os⟩/\(rest=[(x0,N),(L,I)]\/(G=true/\rest=[(L,I)])\/(G=true/\J=true/\rest=[]))) _
  case turn =>
   rintro⟨y,x⟩ rest b s' ⟨v,rfl,u⟩;rcases u with u|⟨hc,u⟩|⟨_,_,u⟩
   ·cases u;refine aa (e0 prog w _ _ ?_);cases G with
    | true =>
     wp_walk
     exact⟨rfl,rfl,.inr (.inl ⟨rfl,rfl⟩)⟩
    | false =>
     have C:=r0 rfl prog w
     wp_walk using C
     exact⟨_,rfl,by simpa using h⟩
   ·cases u;subst hc;refine aa (e1 prog w _ _ ?_);cases J with
    | true =>
     wp_walk
     exact⟨rfl,rfl,.inr (.inr ⟨rfl,rfl,rfl⟩)⟩
    | false =>
     have C:=r1 rfl prog w
     wp_walk using C
     exact⟨_,rfl,by simpa using h⟩
   ·cases u
  case fin =>
   rintro⟨b1,b2⟩ s' ⟨v,rfl,u⟩;simp only at v;subst v;rcases u with u|⟨hc,u⟩|⟨hc,Y,u⟩
   ·cases u
   ·cases u
   ·subst hc Y
    wp_walk
    exact⟨_,rfl,by simpa[ib] using h⟩
  case h =>
   exact⟨rfl,rfl,.inl rfl⟩
end
section
variable{prog:aK}{w:aQ}{A:br}{E:qV}{s:au}
theorem zsv{l b:aq}{x0 J I C:ah}{y G U S:Bool}{Q:qV}(hl:lY s.heap l #[x0,J])(hb:lY s.heap b #[I,C])
  (e0:i8 A.in1 s x0 I y) (e1:i8 A.in1 s J C G) (r0:y=false->RlAt A.in1 s x0 I U) (r1:G=false->RlAt A.in1 s J C S) (hu:A.units<cLine) (h:Q (.bool (if y=true then(if G=true then false else S) else U)) s):wpAny (model prog w) A (richCompare .Lt (.ref l) (.ref b)) Q E s:=by
 obtain⟨⟨cls,dd,data,sl⟩,Y,hc,n,hd⟩:=id hl;obtain⟨⟨Z,R,data2,N⟩,v,u,n2,hd2⟩:=id hb;simp only at hc hd u hd2;subst hc hd u hd2;exact lE (op:=.Lt) ⟨_,Y,rfl⟩ ⟨_,v,rfl⟩ lU lF (kX _ _) (zkf l b x0 J I C n n2 dd R sl N y G U S)
  ⟨Y,v,e0,e1,r0,r1,show dY _≠l8/\Q (.bool _) s from⟨(fun x=>nomatch x),h⟩⟩ hu
theorem znc(a c:Int)(t u:Tok):RlAt A s (.int a t) (.int c u) (decide (a<c)):=fun prog w E Q h=>(mJ h:wpAny (model prog w) A (compareOp .Lt (.int a t) (.int c u)) Q E s)
abbrev FB:=Int×(Int×Int)
def FbIn(h:aN)(u:ah)(r:FB):Prop:=∃(a p:aq) (o:Obj) (t:Tok) (n:Nat),u=.ref a/\h.get? a=some o/\o.cls=.type "tuple" /\ o.data=.seq #[.int r.1 t,.ref p] n/\PrIn h (.ref p) r.2.1 r.2.2
theorem FbIn.kept{h h':aN}{u:ah}{r:FB}(p:FbIn h u r)(kp:∀b o,h.get? b=some o->h'.get? b=some o):FbIn h' u r:=by
 obtain⟨a,q,o,t,n,l,x,y,C,v⟩:=p;exact⟨a,q,o,t,n,l,kp _ _ x,y,C,v.kept kp⟩
def fLt(a b:FB):Bool:=if (a.1 == b.1)=true then(if decide (a.2.1=b.2.1/\a.2.2=b.2.2)=true then false else pLt a.2 b.2) else decide (a.1<b.1)
theorem fLt_iff{a b:FB}:fLt a b=true↔(a.1<b.1\/(a.1=b.1/\(a.2.1<b.2.1\/(a.2.1=b.2.1/\a.2.2<b.2.2)))):=by
 unfold fLt
 by_cases h1:a.1=b.1
 ·rw[if_pos (by simpa using h1)]
  by_cases h2:a.2.1=b.2.1/\a.2.2=b.2.2
  ·rw[if_pos (by simpa using h2)];simp;omega
  ·rw[if_neg (by simpa using h2),pLt_iff];omega
 ·rw[if_neg (by simpa using h1)];simp;omega
theorem zvN{u v:ah}{x y:FB}{Q:qV}(hu:A.units+64<cLine)(p:FbIn s.heap u x)(q:FbIn s.heap v y)(h:Q (.bool (fLt x y)) s):wpAny (model prog w) A (richCompare .Lt u v) Q E s:=by
 obtain⟨a,a1,o,t,n,rfl,R,e2,e3,C⟩:=p;obtain⟨b,b1,o',t',n',rfl,f1,f2,f3,f4⟩:=q;refine zsv ⟨o,R,e2,n,e3⟩ ⟨o',f1,f2,n',f3⟩ (gK _ _ _ _) (zlU (A:=A.in1) (by show A.units+1<_;lia) C f4) (fun _=>znc _ _ _ _) (fun _=>?_) (by lia) h
 intro prog w E Q h;obtain⟨a2,o2,t1,t2,n2,G,U,S,J⟩:=C;obtain⟨b2,Y,u1,u2,Z,N,I,y2,y3⟩:=f4;cases G;cases N;exact(show wpAny (model prog w) A.in1 (compareOp .Lt (.ref a1) (.ref b1)) _ E s from HT.zcn ⟨o2,U,S,n2,J⟩ ⟨Y,I,y2,Z,y3⟩ (.cons _ _ (.cons _ _ .nil)) (.cons _ _ (.cons _ _ .nil)) (by show A.units+1<_;lia) h)
theorem zeJ{f:Nat->FB}:∀k j,j<=k->fLt (f j) (f (argBest (fun i j=>fLt (f i) (f j)) k))=false
 | 0,j,hj=>by
  cases vm.mp hj;simp only[argBest];rw[bY];intro z;rw[fLt_iff]at z;omega
 | k+1,j,hj=>by
  have u:=zeJ (f:=f) k;simp only[argBest];rw[bY];intro z;split at z
  ·rename_i l;rcases gN hj with h|rfl
   ·have:=u j (by omega)
    rw[bY]at this;apply this;rw[fLt_iff]at z l ⊢;omega
   ·rw[fLt_iff]at z;omega
  ·rename_i l;rcases gN hj with h|rfl
   ·have:=u j (by omega)
    rw[bY]at this;exact this z
   ·exact l z
end
section
variable{X:Cx}{k:Nat}
def FbV(K:qF)(H:Hp)(x:V)(r:FB):Prop:=∃a q,x=.ref a/\SqT K H a [.int r.1,.ref q]/\SqT K H q [.int r.2.1,.int r.2.2]
theorem zu5{pins:qO}{σ:St}{H:Hp}{s:au}{a q:aq}{r:FB}(I:Inv X pins σ H s)(h:SqT X.K H a [.int r.1,.ref q])(u:SqT X.K H q [.int r.2.1,.int r.2.2]):FbIn s.heap (.ref a) r:=by
 obtain⟨is,rs,⟨o,f1,f2,n,x⟩,_⟩:=I.tuple h;cases rs with
 | cons a1 a2 =>
  cases a2 with
  | cons v l =>
   cases l;obtain⟨t,rfl⟩:=a1;cases(show _=bM q from v)
   exact⟨a,q,o,t,n,rfl,f1,f2,x,zo0 I u⟩
def zrH(K:qF):List V->Hp->VK->Prop:=fun xs H Q=>∃(a:aq) (zs:List (V×FB)),xs=[.ref a]/\SqL K H a (zs.map (·.1))/\zs≠[]/\(∀z∈zs,FbV K H z.1 z.2)/\∀z∈zs,(∀y∈zs,fLt y.2 z.2=false)->Q z.1 H
theorem zmn(hr:Room k X.A)(hc:X.calm=true):JG X (.builtin "min") (zrH X.K):=by
 intro pins s σ H xs us Q I r h;obtain⟨a,zs,rfl,hq,ne,hp,q⟩:=h;cases r with
 | cons G Y =>
  cases Y;cases(show _=bM a from G)
  obtain⟨x,rv,p,U⟩:=I.list hq;have cell:cZ (fun(z:V×FB) (u:ah)=>RelV z.1 u/\FbIn s.heap u z.2) zs x:=by
   have go:∀(zs:List (V×FB)) (x:List ah),(∀z∈zs,FbV X.K H z.1 z.2)->Vals (zs.map (·.1)) x->cZ (fun(z:V×FB) (u:ah)=>RelV z.1 u/\FbIn s.heap u z.2) zs x:=by
    intro zs;induction zs with
    | nil=>intro x _ r;cases r;exact .nil
    | cons z zs N =>
     intro x U r;cases r with
     | cons G Y =>
      obtain⟨a1,q,e1,e2,e3⟩:=U z (.head _);refine .cons ⟨G,?_⟩ (N _ (fun y R=>U y (.tail _ R)) Y)
      dsimp only at G;rw[e1]at G;cases(show _=bM a1 from G)
      exact zu5 I e2 e3
   exact go zs x hp rv
  have C:=cell.length;have at_:∀(i:Nat) (v:ah),x[i]?=some v->∃z,zs[i]?=some z/\RelV z.1 v/\FbIn s.heap v z.2:=by
   have go:∀{zs:List (V×FB)} {x:List ah},cZ (fun(z:V×FB) (u:ah)=>RelV z.1 u/\FbIn s.heap u z.2) zs x->∀(i:Nat) (v:ah),x[i]?=some v->∃z,zs[i]?=some z/\RelV z.1 v/\FbIn s.heap v z.2:=by
    intro zs x h;induction h with
    | nil=>intro i v e;simp at e
    | cons h1 _ N =>
     intro i v e;cases i with
     | zero=>cases e;exact⟨_,rfl,h1⟩
     | succ i=>exact N i v e
   exact go cell
  have Z:s.heap.IsList a x.toArray:=p.isList;have S:a<s.heap.objs.size:=by obtain⟨_,e,_⟩:=Z;exact ay e
  have hu:X.A.in1.units+64<cLine:=by have:=hr.un;show X.A.units+1+64<_;lia
  refine zgN (eT Z ?_);refine⟨s.heap.objs.size,[s.heap.objs.size,a],[s.heap.objs.size],x.toArray.size,_,_,fun i j=>fLt ((zs[i]?.map (·.2)).getD (0,0,0)) ((zs[j]?.map (·.2)).getD (0,0,0)),fun h=>∀b o,s.heap.get? b=some o->h.get? b=some o,rfl,pP (A:=X.A.in1) (I.ok.hd hc) _ a (aF S) x.toArray,
   ⟨⟨_,az _ rfl,rfl,rfl⟩,Z.push _⟩,?_,?_,?_,fun b o e=>ak _ e,?_,fun v h' tk hP hk=>?_⟩
  ·intro b hb;simp only[aw,aH,or_false]at hb;rw[cV];rcases hb with rfl|rfl <;> lia
  ·rw[ax,<- C];exact gA.mpr ne
  ·intro i j vi vj s' Q' E' gd hi L hQ;obtain⟨z,J,_,pz⟩:=at_ i vi (by simpa using hi)
   obtain⟨y,ey,_,py⟩:=at_ j vj (by simpa using L)
   simp only[J,ey,dE,cM]at hQ;exact zvN hu (pz.kept gd) (py.kept gd) hQ
  ·intro h h' gd kp b o e;have:=ay e;refine kp b o (fun z=>?_) (fun z=>?_) (gd b o e)
   ·simp only[aw,aH,or_false]at z;lia
   ·rw[cV]at z;lia
  ·obtain⟨z,J,rz,_⟩:=at_ _ v (by simpa using hP)
   refine⟨z.1,H,I.kept (mT hk),rz,q z (aR J) fun y R=>?_⟩
   obtain⟨j,L⟩:=dF.mp R;have jl:=(av.mp L).1;have:=zeJ (f:=fun i=>(zs[i]?.map (·.2)).getD (0,0,0)) (x.toArray.size - 1) j (by rw[ax,<- C];lia)
   simp only[ax]at this J;simp only[L,J,dE,cM]at this;exact this
def fD(r:FB):af:=.tuple [.int r.1,.tuple [.int r.2.1,.int r.2.2]]
def zqR:GC
 | [.list ts],R=>∃bs:List FB,ts=bs.map fD/\bs≠[]/\∀b∈bs,(∀c∈bs,fLt c b=false)->R (fD b)
 | _,_=>False
theorem zkz{K:qF}{hd:Option aq}{O:aq->Prop}{H:Hp}:∀{y:List V}{bs:List FB},Reps K hd O H y (bs.map fD)->∀z∈y.zip bs,FbV K H z.1 z.2/\Rep K hd O H z.1 (fD z.2)
 | _,[],r=>by cases r;intro z v;simp at v
 | _,a::bs,r=>by
  cases r with
  | cons h r =>
   intro z v;rcases aw.mp (by simpa using v) with rfl|v
   ·refine⟨?_,h⟩;have h':Rep K hd O H _ (.tuple [.int a.1,.tuple [.int a.2.1,.int a.2.2]]):=h;obtain⟨b,N,rfl,sq,C⟩:=h'.tupI;cases C with
    | cons J L =>
     cases L with
     | cons G I =>
      cases I;obtain⟨q,rfl,x⟩:=G.bkI;rw[J.intI]at sq;exact⟨b,q,rfl,sq,x⟩
   ·exact zkz r z v
theorem zqj:GpC X (zrH X.K) zqR:=by
 intro hd O H xs ts Q R dom rs h I;unfold zqR at h;split at h
 ·obtain⟨bs,rfl,ne,h⟩:=h;obtain⟨v,rfl,G⟩:=Qr rs;obtain⟨p,u,rfl,J,C⟩:=G.lstI;have ln:u.length=bs.length:=by have:=C.length;simpa using this
  have rel:=zkz C;refine⟨p,u.zip bs,rfl,?_,fun z=>?_,fun z x=>(rel z x).1,fun z x L=>I _ _ H (h z.2 (cY x).2 fun c hc=>?_) (Same.refl H) (rel z x).2⟩
  ·rw[fj (by lia)];exact .of J
  ·have:(u.zip bs).length=0:=by rw[z];rfl
   rw[iL,ln,nT]at this;exact ne (dX.mp this)
  ·obtain⟨j,y⟩:=dF.mp hc;have N:=(av.mp y).1;have:(u[j]'(by lia),c)∈u.zip bs:=dF.mpr ⟨j,by rw[gu];exact⟨aJ _,y⟩⟩
   exact L _ this
 ·exact h.elim
theorem zsV{bs:List FB}{R:af->Prop}(ne:bs≠[])(h:∀b∈bs,(∀c∈bs,fLt c b=false)->R (fD b)):zqR [.list (bs.map fD)] R:=⟨bs,rfl,ne,h⟩
end
end L2
namespace Bd
open PySem L2
def far(a h x:Int):Int:=max3 0 (x - a) (a - x - 2 ^ h.toNat+1)
theorem Yh{a h x:Int}:far a h x=if a<x then x - a else if x+2 ^ h.toNat<=a then a - x - 2 ^ h.toNat+1 else 0:=by
 have:=JA h.toNat;unfold far max3
 repeat' split
 all_goals omega
def kLt(a h y x:Int):Prop:=far a h y<far a h x\/(far a h y=far a h x/\y<x)
def Fb(bits:Int)(S:Int->Prop)(h x:Int):Prop:=IsBk bits x h/\∀y,x<=y->y<x+2 ^ h.toNat->S y
def Best(bits:Int)(S:Int->Prop)(h a x:Int):Prop:=Fb bits S h x/\∀y,Fb bits S h y->¬kLt a h y x
theorem Best.uniq{bits:Int}{S:Int->Prop}{h a x y:Int}(X:Best bits S h a x)(Y:Best bits S h a y):x=y:=by
 have p:=X.2 y Y.1;have q:=Y.2 x X.1;unfold kLt at p q;omega
def clB(a:Int)(b:Int×Int):Int:=if eB b - 1<(if b.1 > a then b.1 else a) then eB b - 1 else(if b.1 > a then b.1 else a)
theorem zmk{a:Int}{b:Int×Int}:b.1<=clB a b/\clB a b<eB b/\(a<b.1->clB a b=b.1)/\(eB b<=a->clB a b=eB b - 1)/\(b.1<=a->a<eB b->clB a b=a):=by
 have:=QU b;unfold clB
 repeat' split
 all_goals omega
theorem Vm{bits h s:Int}{p:Int×Int}(P:IsBk bits p.1 p.2)(h0:0<=h)(I:h<=p.2)(s1:p.1<=s)(s2:s<eB p):IsBk bits (s / 2 ^ h.toNat*2 ^ h.toNat) h/\p.1<=s / 2 ^ h.toNat*2 ^ h.toNat/\s / 2 ^ h.toNat*2 ^ h.toNat+2 ^ h.toNat<=eB p/\s / 2 ^ h.toNat*2 ^ h.toNat<=s/\s<s / 2 ^ h.toNat*2 ^ h.toNat+2 ^ h.toNat:=by
 obtain⟨S,g1,k,k0,e,k1⟩:=P;have z:=JA h.toNat;have v:=lX s (2 ^ h.toNat);have m0:=fK s (show(2:Int) ^ h.toNat≠0 by omega)
 have J:=eN s z;rw[dw]at v;have l:(2:Int) ^ p.2.toNat=2 ^ (p.2 - h).toNat*2 ^ h.toNat:=by rw[<- dP];congr 1;omega
 have U:(2:Int) ^ (bits - h).toNat=2 ^ (bits - p.2).toNat*2 ^ (p.2 - h).toNat:=by rw[<- dP];congr 1;omega
 have y:=JA (p.2 - h).toNat;have R:eB p=(k+1)*2 ^ (p.2 - h).toNat*2 ^ h.toNat:=by unfold eB;rw[e,l,bP,bP,bQ,dO]
 have C:p.1=k*2 ^ (p.2 - h).toNat*2 ^ h.toNat:=by rw[e,l,dO]
 have lo:k*2 ^ (p.2 - h).toNat<=s / 2 ^ h.toNat:=(g6 z).mpr (by omega)
 have hi:s / 2 ^ h.toNat<(k+1)*2 ^ (p.2 - h).toNat:=(g7 z).mpr (by omega)
 have x:=aB lo (bf z);have u:=aB (show s / 2 ^ h.toNat+1<=(k+1)*2 ^ (p.2 - h).toNat by omega) (bf z)
 rw[bP,bQ]at u;have L:=mf k0 (bf y);have G:(k+1)*2 ^ (p.2 - h).toNat<=2 ^ (bits - p.2).toNat*2 ^ (p.2 - h).toNat:=aB (by omega) (bf y)
 exact⟨⟨h0,by omega,_,by omega,rfl,by omega⟩,by omega,by omega,by omega,by omega⟩
theorem zo4{bits h x y s:Int}(X:IsBk bits x h)(Y:IsBk bits y h)(v:x<=s)(u:s<x+2 ^ h.toNat)(C:y<=s)(G:s<y+2 ^ h.toNat):x=y:=by
 obtain⟨_,_,k,_,rfl,_⟩:=X;obtain⟨_,_,l,_,rfl,_⟩:=Y;have z:=JA h.toNat;rcases eW k l with c|c|c
 ·have:=aB (show k+1<=l by omega) (bf z)
  rw[bP,bQ]at this;omega
 ·rw[c]
 ·have:=aB (show l+1<=k by omega) (bf z)
  rw[bP,bQ]at this;omega
def ab(i:Int):Int:=if i<0 then -i else i
theorem zgM{bits h a:Int}{p:Int×Int}(P:IsBk bits p.1 p.2)(h0:0<=h)(C:h<=p.2):far a h (clB a p / 2 ^ h.toNat*2 ^ h.toNat)=ab (a - clB a p)/\∀y,IsBk bits y h->p.1<=y->y+2 ^ h.toNat<=eB p->¬kLt a h y (clB a p / 2 ^ h.toNat*2 ^ h.toNat):=by
 obtain⟨N,R,L,G,J⟩:=zmk (a:=a) (b:=p);obtain⟨B,l1,l2,U,l4⟩:=Vm P h0 C N R;obtain⟨B1,k1,k2,k3,k4⟩:=Vm P h0 C (s:=p.1) (bh _) (QU p);have z:=JA h.toNat;have en:=QU p;obtain⟨B2,m1,S,m3,m4⟩:=Vm P h0 C (s:=eB p - 1) (by omega) (by omega)
 generalize hx:clB a p / 2 ^ h.toNat*2 ^ h.toNat=x at *;have I:far a h x=ab (a - clB a p):=by
  rw[Yh];unfold ab
  by_cases u:a<p.1
  ·have:=L u;have e:x=p.1:=by rw[this]at hx;omega
   split <;> (try split) <;> (try split) <;> omega
  ·by_cases v:eB p<=a
   ·have:=G v;have e:x+2 ^ h.toNat=eB p:=by rw[this]at hx;omega
    split <;> (try split) <;> (try split) <;> omega
   ·have:=J (by omega) (by omega)
    split <;> (try split) <;> (try split) <;> omega
 refine⟨I,fun y Y Z y2 k=>?_⟩
 have l:=Yh (a:=a) (h:=h) (x:=y);unfold kLt at k;rw[I]at k;unfold ab at k
 by_cases u:a<p.1
 ·have:=L u;have e:x=p.1:=by rw[this]at hx;omega
  rw[if_pos (by omega)]at l
  split at k <;> omega
 ·by_cases v:eB p<=a
  ·have:=G v;have e:x+2 ^ h.toNat=eB p:=by rw[this]at hx;omega
   rw[if_neg (by omega),if_pos (by omega)]at l
   split at k <;> omega
  ·have w:=J (by omega) (by omega)
   by_cases i1:a<y
   ·rw[if_pos i1]at l;split at k <;> omega
   ·by_cases i2:y+2 ^ h.toNat<=a
    ·rw[if_neg i1,if_pos i2]at l;split at k <;> omega
    ·have:=zo4 Y B (s:=a) (by omega) (by omega) (by omega) (by omega)
     rw[if_neg i1,if_neg i2]at l;split at k <;> omega
theorem zwp{x y:Int}{b p:Int×Int}(C:0<=b.2)(I:0<=p.2)(G:p.1<=b.1)(v:eB b<=eB p):b.2<=p.2:=by
 refine w5.mp fun z=>?_
 have e:(2:Int) ^ p.2.toNat<2 ^ b.2.toNat:=by
  have e:(2:Int) ^ b.2.toNat=2 ^ (b.2 - p.2).toNat*2 ^ p.2.toNat:=by rw[<- dP];congr 1;omega
  have u:=JA p.2.toNat;have l:(2:Int)<=2 ^ (b.2 - p.2).toNat:=by
   rw[show(b.2 - p.2).toNat=(b.2 - p.2 - 1).toNat+1 from by omega,bW]
   have:=JA (b.2 - p.2 - 1).toNat;omega
  have:=aB l (bf u);omega
 unfold eB at v;omega
section
variable{bits h a:Int}{S:Int->Prop}{qs:qB}
theorem Fb.held(u:0<=bits)(C:CanP S qs)(w:∀x,S x->0<=x/\x<2 ^ bits.toNat){y:Int}(Y:Fb bits S h y):∃p∈qs,h<=p.2/\p.1<=y/\y+2 ^ h.toNat<=eB p:=by
 obtain⟨p,v,G,p2⟩:=C.hold u w (b:=(y,h)) Y.1 fun x I l=>Y.2 x I (by unfold eB at l;exact l)
 have P:=(C.ptc u w).1 p v;exact⟨p,v,zwp (x:=0) (y:=0) (b:=(y,h)) Y.1.1 P.1 G p2,G,by unfold eB at p2 ⊢;exact p2⟩
def fbK(a h:Int)(q:Int×Int):FB:=(ab (a - clB a q),(clB a q / 2 ^ h.toNat*2 ^ h.toNat,h))
theorem zom(I:0<=bits)(C:CanP S qs)(w:∀x,S x->0<=x/\x<2 ^ bits.toNat)(h0:0<=h){p:Int×Int}(u:p∈qs)(J:h<=p.2)(Z:∀q∈qs,h<=q.2->fLt (fbK a h q) (fbK a h p)=false):Best bits S h a (clB a p / 2 ^ h.toNat*2 ^ h.toNat):=by
 have P:=(C.ptc I w).1;obtain⟨L,R,_⟩:=zmk (a:=a) (b:=p);obtain⟨B,l1,l2,l3,l4⟩:=Vm (P p u) h0 J L R;have fp:=(zgM (a:=a) (P p u) h0 J).1;refine⟨⟨B,fun y y1 y2=>(C.mem y).mp ⟨p,u,by omega,by omega⟩⟩,fun y Y k=>?_⟩
 obtain⟨q,v,G,N,U⟩:=Y.held I C w;obtain⟨fq,l⟩:=zgM (a:=a) (P q v) h0 G;have l:=l y Y.1 N U;have z:=Z q v G;rw[bY,ne_eq,fLt_iff]at z;unfold fbK at z;unfold kLt at k l;dsimp only at z;omega
theorem nrIn{rs:List L2.Run}{lo hi:Int}(N:NR rs)(h:lo<hi)(w:∀x,lo<=x->x<hi->mR x rs):∃r∈rs,r.1<=lo/\hi<=r.2:=by
 obtain⟨r,u,y,J⟩:=w lo (bh _) h;refine⟨r,u,y,?_⟩
 by_cases e:hi<=r.2
 ·exact e
 ·exfalso;obtain⟨q,C,G,I⟩:=w r.2 (by omega) (by omega)
  obtain⟨i,l,rfl⟩:=bL u;obtain⟨j,v,rfl⟩:=bL C;have pw:=bK.mp N.2;rcases dU i j with z|z|z
  ·have:=pw i j l v z;omega
  ·subst z;omega
  ·have:=pw j i v l z;have:=N.1 _ u;omega
theorem Fb.gap{gs:List L2.Run}(N:NR gs)(M:∀x,mR x gs↔S x){y:Int}(Y:Fb bits S h y):∃g∈gs,g.1<=y/\y+2 ^ h.toNat<=g.2 :=
 nrIn N (by have:=JA h.toNat;omega) fun x u l=>(M x).mpr (Y.2 x u l)
theorem Fb.of{gs:List L2.Run}(M:∀x,mR x gs↔S x){y:Int}(B:IsBk bits y h){g:L2.Run}(l:g∈gs)(g1:g.1<=y)(g2:y+2 ^ h.toNat<=g.2):Fb bits S h y :=
 ⟨B,fun x v u=>(M x).mp ⟨g,l,by omega,by omega⟩⟩
end
def Inn(bits h lo hi x:Int):Prop:=IsBk bits x h/\lo<=x/\x+2 ^ h.toNat<=hi
theorem Vv{bits h lo hi:Int}(h0:0<=h)(v:h<=bits)(y:0<=lo)(C:hi<=2 ^ bits.toNat){k:Int}:Inn bits h lo hi (k*2 ^ h.toNat)↔(lo+2 ^ h.toNat - 1) / 2 ^ h.toNat<=k/\k<=hi / 2 ^ h.toNat - 1:=by
 have z:=JA h.toNat;have e:(2:Int) ^ bits.toNat=2 ^ (bits - h).toNat*2 ^ h.toNat:=by rw[<- dP];congr 1;omega
 have a1:(lo+2 ^ h.toNat - 1) / 2 ^ h.toNat<=k↔lo<=k*2 ^ h.toNat:=by
  rw[<- Int.lt_add_one_iff,g7 z,bP];omega
 have a2:k<=hi / 2 ^ h.toNat - 1↔k*2 ^ h.toNat+2 ^ h.toNat<=hi:=by
  rw[show k<=hi / 2 ^ h.toNat - 1↔k+1<=hi / 2 ^ h.toNat from by omega,g6 z,bP,bQ]
 rw[a1,a2];constructor
 ·exact fun x=>x.2
 ·rintro⟨u,l⟩;refine⟨⟨h0,v,k,?_,rfl,?_⟩,u,l⟩
  ·refine w5.mp fun c=>?_
   have:=aB (show k<=-1 by omega) (bf z)
   omega
  ·refine Int.not_le.mp fun c=>?_
   have:=aB c (bf z);omega
theorem zfQ{bits h lo hi y:Int}(Y:Inn bits h lo hi y):∃k,y=k*2 ^ h.toNat:=by
 obtain⟨⟨_,_,k,_,e,_⟩,_⟩:=Y;exact⟨k,e⟩
theorem zp0{a h x:Int}:¬kLt a h x x:=by unfold kLt;omega
theorem znS{bits h lo hi a:Int}(h0:0<=h)(u:h<=bits)(C:0<=lo)(v:hi<=2 ^ bits.toNat){y:Int}(Y:Inn bits h lo hi y):∃x∈[(lo+2 ^ h.toNat - 1) / 2 ^ h.toNat*2 ^ h.toNat,hi / 2 ^ h.toNat*2 ^ h.toNat - 2 ^ h.toNat,a / 2 ^ h.toNat*2 ^ h.toNat],((lo+2 ^ h.toNat - 1) / 2 ^ h.toNat*2 ^ h.toNat<=x/\x<=hi / 2 ^ h.toNat*2 ^ h.toNat - 2 ^ h.toNat)/\¬kLt a h y x:=by
 obtain⟨k,rfl⟩:=zfQ Y;obtain⟨k1,k2⟩:=(Vv h0 u C v).mp Y;have z:=JA h.toNat;have I:=lX a (2 ^ h.toNat);have m0:=fK a (show(2:Int) ^ h.toNat≠0 by omega)
 have L:=eN a z;rw[dw]at I;have J:=aB k1 (bf z);have G:=aB k2 (bf z);rw[kI,bQ]at G;have l:=Yh (a:=a) (h:=h) (x:=k*2 ^ h.toNat);have sep:∀i j:Int,i<j->i*2 ^ h.toNat+2 ^ h.toNat<=j*2 ^ h.toNat:=fun i j c=>by
  have:=aB (show i+1<=j by omega) (bf z)
  rw[bP,bQ]at this;exact this
 generalize (lo+2 ^ h.toNat - 1) / 2 ^ h.toNat=kf at *;generalize hi / 2 ^ h.toNat=kl at *;generalize a / 2 ^ h.toNat=ka at *
 by_cases c1:ka<kf
 ·refine⟨kf*2 ^ h.toNat,by simp,⟨by omega,by omega⟩,?_⟩
  have s1:=sep ka kf c1;have f1:=Yh (a:=a) (h:=h) (x:=kf*2 ^ h.toNat);rw[if_pos (by omega)]at f1 l
  unfold kLt;omega
 ·by_cases c2:kl<=ka
  ·refine⟨kl*2 ^ h.toNat - 2 ^ h.toNat,by simp,⟨by omega,by omega⟩,?_⟩
   have s1:=aB c2 (bf z);have f1:=Yh (a:=a) (h:=h) (x:=kl*2 ^ h.toNat - 2 ^ h.toNat);rw[if_neg (by omega),if_pos (by omega)]at f1 l
   unfold kLt;omega
  ·have s1:=aB (show kf<=ka by omega) (bf z)
   have s2:=sep ka kl (by omega)
   refine⟨ka*2 ^ h.toNat,by simp,⟨by omega,by omega⟩,?_⟩
   have f1:=Yh (a:=a) (h:=h) (x:=ka*2 ^ h.toNat);rw[if_neg (by omega),if_neg (by omega)]at f1
   unfold kLt;rw[f1];rcases eW k ka with c|c|c
   ·have:=sep k ka c;rw[if_neg (by omega),if_pos (by omega)]at l
    omega
   ·rw[c];omega
   ·have:=sep ka k c;rw[if_pos (by omega)]at l
    omega
def Cov(bits h a lo hi:Int)(is:List Int):Prop:=is.length<=100/\(∀x∈is,Inn bits h lo hi x)/\∀y,Inn bits h lo hi y->∃x∈is,¬kLt a h y x
def fst0(h lo:Int):Int:=(lo+2 ^ h.toNat - 1) / 2 ^ h.toNat*2 ^ h.toNat
def lst0(h hi:Int):Int:=hi / 2 ^ h.toNat*2 ^ h.toNat - 2 ^ h.toNat
section
variable{bits h a lo hi:Int}
theorem zh6{i j:Int}(k:Nat):i*2 ^ k<=j*2 ^ k↔i<=j:=by
 have z:=JA k;constructor
 ·exact fun c=>kh c z
 ·exact fun c=>aB c (bf z)
theorem Vx:lst0 h hi=(hi / 2 ^ h.toNat - 1)*2 ^ h.toNat:=by unfold lst0;rw[kI,bQ]
theorem zoJ(h0:0<=h)(u:h<=bits)(l:0<=lo)(v:hi<=2 ^ bits.toNat){k:Int}:Inn bits h lo hi (k*2 ^ h.toNat)↔fst0 h lo<=k*2 ^ h.toNat/\k*2 ^ h.toNat<=lst0 h hi:=by
 rw[Vv h0 u l v,Vx];unfold fst0;rw[zh6,zh6]
theorem zqJ(h0:0<=h)(u:h<=bits)(l:0<=lo)(v:hi<=2 ^ bits.toNat)(c:lst0 h hi<fst0 h lo):Cov bits h a lo hi []:=by
 refine⟨by simp,by simp,fun y Y=>?_⟩
 obtain⟨k,rfl⟩:=zfQ Y;have:=(zoJ h0 u l v).mp Y;omega
theorem zma(h0:0<=h)(C:h<=bits)(u:0<=lo)(G:hi<=2 ^ bits.toNat):Cov bits h a lo hi ([fst0 h lo,lst0 h hi,a / 2 ^ h.toNat*2 ^ h.toNat].filter fun x=>decide (fst0 h lo<=x/\x<=lst0 h hi)):=by
 refine⟨cf (cU ..) (by simp),fun x hx=>?_,fun y Y=>?_⟩
 ·obtain⟨v,hc⟩:=cj.mp hx;have hc:=of_decide_eq_true hc;have:∃k,x=k*2 ^ h.toNat:=by
   simp only[aw,aH,or_false]at v;rcases v with rfl|rfl|rfl
   ·exact⟨_,rfl⟩
   ·exact⟨_,Vx⟩
   ·exact⟨_,rfl⟩
  obtain⟨k,rfl⟩:=this;exact(zoJ h0 C u G).mpr hc
 ·obtain⟨x,hx,I,J⟩:=znS (a:=a) h0 C u G Y;exact⟨x,cj.mpr ⟨hx,decide_eq_true I⟩,J⟩
theorem zqK(h0:0<=h)(v:h<=bits)(G:0<=lo)(C:hi<=2 ^ bits.toNat)(L:bits<=6)(c:fst0 h lo<=lst0 h hi):((0<=fst0 h lo/\fst0 h lo<=64)/\(0<=lst0 h hi/\lst0 h hi<=64)/\(2:Int) ^ h.toNat<=64)/\∃m:Nat,bE (fst0 h lo) (lst0 h hi+1) (2 ^ h.toNat)=(m:Nat)/\m<=64/\Cov bits h a lo hi ((dh m).map fun(q:Nat)=>fst0 h lo+(q:Int)*2 ^ h.toNat):=by
 have z:=JA h.toNat;have e:(2:Int) ^ bits.toNat=2 ^ (bits - h).toNat*2 ^ h.toNat:=by rw[<- dP];congr 1;omega
 have R:=JA (bits - h).toNat;have U:(2:Int) ^ bits.toNat<=64:=by
  have e:(2:Int) ^ 6=2 ^ (6 - bits.toNat)*2 ^ bits.toNat:=by rw[<- dP];congr 1;omega
  have I:=JA (6 - bits.toNat);have:=aB (show(1:Int)<=2 ^ (6 - bits.toNat) by omega) (bf (JA bits.toNat))
  rw[<- e]at this;omega
 have J:(2:Int) ^ h.toNat<=2 ^ bits.toNat:=by
  have:=aB (show(1:Int)<=2 ^ (bits - h).toNat by omega) (bf z)
  omega
 have f0:0<=(lo+2 ^ h.toNat - 1) / 2 ^ h.toNat:=eR (by omega) (by omega)
 have hd:=oR hi (show(2:Int) ^ h.toNat≠0 by omega)
 have f1:=mf f0 (bf z);have l:=c;rw[Vx]at l;have S:(lo+2 ^ h.toNat - 1) / 2 ^ h.toNat<=hi / 2 ^ h.toNat - 1:=by unfold fst0 at l;exact(zh6 _).mp l
 refine⟨by unfold fst0 lst0 at *;omega,((hi / 2 ^ h.toNat - (lo+2 ^ h.toNat - 1) / 2 ^ h.toNat).toNat),?_,?_,?_,fun x hx=>?_,fun y Y=>?_⟩
 ·unfold bE;rw[if_pos z,if_pos (by omega),Vx]
  unfold fst0;rw[show(hi / 2 ^ h.toNat - 1)*2 ^ h.toNat+1 - (lo+2 ^ h.toNat - 1) / 2 ^ h.toNat*2 ^ h.toNat - 1=(hi / 2 ^ h.toNat - 1 - (lo+2 ^ h.toNat - 1) / 2 ^ h.toNat)*2 ^ h.toNat from by rw[kI (hi / 2 ^ h.toNat - 1)];omega,Int.mul_ediv_cancel _ (by omega)]
  omega
 ·have:hi / 2 ^ h.toNat<=hi / 2 ^ h.toNat*2 ^ h.toNat:=by
   have:=bw (show 1<=(2:Int) ^ h.toNat by omega) (show 0<=hi / 2 ^ h.toNat by omega)
   omega
  omega
 ·have:hi / 2 ^ h.toNat<=hi / 2 ^ h.toNat*2 ^ h.toNat:=by
   have:=bw (show 1<=(2:Int) ^ h.toNat by omega) (show 0<=hi / 2 ^ h.toNat by omega)
   omega
  rw[aL,kJ];omega
 ·obtain⟨q,u,rfl⟩:=aS.mp hx;have u:=fg.mp u;unfold fst0;rw[<- bP];refine(Vv h0 v G C).mpr ?_;omega
 ·obtain⟨k,rfl⟩:=zfQ Y;have:=(Vv h0 v G C).mp Y;refine⟨k*2 ^ h.toNat,aS.mpr ⟨(k - (lo+2 ^ h.toNat - 1) / 2 ^ h.toNat).toNat,fg.mpr (by omega),?_⟩,zp0⟩
  unfold fst0;rw[<- bP];congr 1;omega
end
end Bd
namespace Bd
open PySem L2
def top(i:Nat):dD:=PySem.Challenge.pw_blockdeal_k27_blocks_near.main.body.getD i (.Pass ⟨0,0,0,0⟩)
set_option maxHeartbeats 4000000
local macro_rules | `(tactic| walk_at "S") => `(tactic| first | with_reducible refine zjD ?_ | with_reducible refine Stp.go ?_ | with_reducible refine j_all (by with_unfolding_all rfl) ?_ | with_reducible refine j_any (by with_unfolding_all rfl) ?_ | with_reducible refine zoK (by with_unfolding_all rfl) ?_ | with_reducible refine zoL (by with_unfolding_all rfl) ?_ | with_reducible refine zjb (by with_unfolding_all rfl) ?_ | with_reducible refine zja (by with_unfolding_all rfl) ?_)
set_option hygiene false in
local macro_rules | `(tactic| walk_at "K") => `(tactic| first | walk_at "S" | with_reducible refine ztk (fun hc => ?_) (fun hc => ?_) | with_reducible refine zwi (fun hc => ?_) (fun hc => ?_) | with_reducible refine And.intro ?_ ?_)
set_option hygiene false in
local macro_rules | `(tactic| wp_walk using $ts:term,*) => `(tactic| repeat' (first $[| with_reducible refine $ts:term]* | walk_at "K"))
local macro_rules | `(tactic| wp_walk) => `(tactic| repeat' walk_at "K")
structure Txt(mg:qM):Prop where
 isi:mg "isinstance" = none
 int:mg "int" = none
 boo:mg "bool" = none
 tup:mg "tuple" = none
 len:mg "len" = none
 min:mg "min" = none
 max:mg "max" = none
 str:mg "str" = none
 rep:mg "repr" = none
 all:mg "all" = none
 any:mg "any" = none
 ran:mg "range" = none
 sum:mg "sum" = none
 srt:mg "sorted" = none
 lst:mg "list" = none
 abs:mg "abs" = none
 zip:mg "zip" = none
 dct:mg "dict" = none
 rev:mg "reversed" = none
 enu:mg "enumerate" = none
 vae:mg "ValueError" = none
def EXS:List Str:=["NoDeed","NotTheirs","NoRoom"]
def EYS:List Str:=["NoDeed","NotTheirs","NoRoom","NoLine","NoText"]
section
open PySem.W PyProof.Rows
def pw:aK:=PySem.Challenge.pw_blockdeal_k27_blocks_near
def PL:PLs:=[(ae "PARTS",[(ae "take",[ae "height"]),(ae "near",[ae "height",ae "address"]),(ae "give",[ae "block"]),(ae "grow",[ae "block"]),(ae "keep",[ae "block"]),(ae "loose",[ae "block"]),(ae "move",[ae "block",ae "block"])])]
def FL:FLs:=[(ae "DEEDS",["take","near","give","grow","keep","loose","move"])]
def DL:FLs:=[(ae "PARTS",["take","near","give","grow","keep","loose","move"]),(ae "DEEDS",["take","near","give","grow","keep","loose","move"])]
def TL:List (Str×List Str):=[]
def zvR:dD->Bool
 | .FunctionDef ..=>true
 | .ClassDef ..=>true
 | .Assign [.Name x _] _ _=>!(x == ae "__name__")
 | _=>false
def qv:aK:={ pw with main:={ pw.main with body:=pw.main.body.filter zvR } }
theorem zo8:recsOf qv=(pw.main.body.filter Z8).map recD:=by kernel_rfl
theorem zoE{i:Nat}(h:Z8 (top i)=true):recD (top i)∈recsOf qv:=by
 rw[zo8];exact mP (cj.mpr ⟨getD_mem h,h⟩)
theorem dqG{i:Nat}{x:Str}{ps:List Str}{y:nZ->Option ah}{mg l:qM}{h:aN}(T:iu qv (looseW qv [ae "DEEDS",ae "PARTS"]) y mg l h) (u:BndA x (top i) ps) (v:Z8 (top i)=true:=by kernel_rfl) (C:defName (top i)=x:=by kernel_rfl):Dq (JI h) mg x (top i) ps:=dq_g T (zoE v) C u
def ztK:List Str:=[ae "isinstance",ae "int",ae "bool",ae "tuple",ae "len",ae "min",ae "max",ae "str",ae "repr",ae "all",ae "any",ae "range",ae "sum",ae "sorted",ae "list",ae "abs",ae "zip",ae "dict",ae "reversed",ae "enumerate",ae "ValueError"]
def ztL(x:Str):Bool:=!startupNames.contains x&&!(looseW qv [ae "DEEDS",ae "PARTS"]).contains x&&!((recsOf qv).map (·.name)).contains x&&!((litsOf qv).map (·.1)).contains x&&!((clssOf qv (looseW qv [ae "DEEDS",ae "PARTS"])).map (·.name)).contains x
theorem zqn:ztK.all ztL=true:=by kernel_rfl
theorem zqo{u:nZ->Option ah}{mg l:qM}{h:aN}(T:iu qv (looseW qv [ae "DEEDS",ae "PARTS"]) u mg l h) {x:Str} (m:x∈ztK):mg x=none:=by
 have e:=bg.mp zqn x m;unfold ztL at e;simp only[aG,kK,List.contains_eq_mem,decide_eq_false_iff_not]at e;obtain⟨⟨⟨⟨a,b⟩,c⟩,d⟩,f⟩:=e;exact T.free x a b c d f
theorem zq9{u:nZ->Option ah}{mg l:qM}{h:aN}(T:iu qv (looseW qv [ae "DEEDS",ae "PARTS"]) u mg l h):Txt mg:=by
 constructor <;> exact zqo T (List.contains_iff_mem.mp (by kernel_rfl))
theorem zo5:PySem.Challenge.rw_blockdeal_k27_blocks_near.wellSaid=true:=by kernel_rfl
theorem zsH(w:aQ)(os:fe):(JW treeTable pw (w.withFollow "special-get-raises" false) 11 ((bo ((w.withFollow "special-get-raises" false)).params).nsMap mainGlobals "__annotations__") 20000 (zcg (w.withFollow "special-get-raises" false) os) (topStub pw)).map (fun s=>(UI pw (bo ((w.withFollow "special-get-raises" false)).params) s.abs,(fun s=>hshs DL s.heap) s.abs,s.abs.heap.bltView,plainSeenD qv [ae "DEEDS",ae "PARTS"] s.abs,clsSeenW qv [ae "DEEDS",ae "PARTS"] s.abs,pinSeenD qv (drecsOf qv) s.abs))=some (true,(hshW DL) (w.withFollow "special-get-raises" false),bltViewBooted,plainGoodD qv [ae "DEEDS",ae "PARTS"],clsGoodW qv [ae "DEEDS",ae "PARTS"],pinGoodD (drecsOf qv)):=by kernel_rfl
theorem zsG(w:aQ)(os:fe):(JW treeTable pw (w.withFollow "special-get-raises" false) 11 ((bo ((w.withFollow "special-get-raises" false)).params).nsMap mainGlobals "__annotations__") 20000 (zcg (w.withFollow "special-get-raises" false) os) (topStub pw)).map (fun s=>seen ((recsOf qv).map (·.name)) (ownsOf qv) [] { s.abs with gens:=#[] })=some (expectedOf qv):=by kernel_rfl
theorem zsD(w:aQ)(os:fe):(JW treeTable pw (w.withFollow "special-get-raises" false) 11 ((bo ((w.withFollow "special-get-raises" false)).params).nsMap mainGlobals "__annotations__") 20000 (zcg (w.withFollow "special-get-raises" false) os) (topStub pw)).map (fun s=>plainSeenE qv (looseW qv [ae "DEEDS",ae "PARTS"]) s.abs)=some (plainGoodE qv (looseW qv [ae "DEEDS",ae "PARTS"])):=by kernel_rfl
theorem zsC(w:aQ)(os:fe):(JW treeTable pw (w.withFollow "special-get-raises" false) 11 ((bo ((w.withFollow "special-get-raises" false)).params).nsMap mainGlobals "__annotations__") 20000 (zcg (w.withFollow "special-get-raises" false) os) (topStub pw)).map (fun s=>wideSeen qv s.abs)=some (wideGood qv):=by kernel_rfl
theorem zsF(w:aQ)(os:fe):(JW treeTable pw (w.withFollow "special-get-raises" false) 11 ((bo ((w.withFollow "special-get-raises" false)).params).nsMap mainGlobals "__annotations__") 20000 (zcg (w.withFollow "special-get-raises" false) os) (topStub pw)).map (fun s=>(s.abs.heap.keysOk (looseW qv [ae "DEEDS",ae "PARTS"]) ((recsOf qv).map (·.name)) ((litsOf qv).map (·.1)) ((clssOf qv (looseW qv [ae "DEEDS",ae "PARTS"])).map (·.name))&&s.abs.heap.accountedOkI (importedModules pw.main.body)&&s.abs.heap.isNs mainGlobals&&s.abs.heap.isNs builtinsNs&&tablesOk qv s.abs.heap&&(fun s=>xlAt qv [] s&&recOk (ia PySem.Challenge.rw_blockdeal_k27_blocks_near.row.toRowW) s&&UN TL s&&UH PL FL s&&excAt ["DealError","NoDeed","NotTheirs","NoRoom","NoLine","NoText"] EXS EYS (ae "DealError") s) s.abs&&(if true then s.abs.gens.size == 0 else !leftWithCleanup s.abs.gens)))=some true:=by kernel_rfl
theorem zsE(w:aQ)(os:fe):(JW treeTable pw (w.withFollow "special-get-raises" false) 11 ((bo ((w.withFollow "special-get-raises" false)).params).nsMap mainGlobals "__annotations__") 20000 (zcg (w.withFollow "special-get-raises" false) os) (topStub pw)).map (fun s=>tabsOk qv s.abs)=some true:=by kernel_rfl
theorem zvQ(w:aQ)(os:fe):(JW treeTable pw (w.withFollow "special-get-raises" false) 11 ((bo ((w.withFollow "special-get-raises" false)).params).nsMap mainGlobals "__annotations__") 20000 (zcg (w.withFollow "special-get-raises" false) os) (topStub pw)).map (fun s=>(UI pw (bo ((w.withFollow "special-get-raises" false)).params) s.abs,openSeen qv [ae "DEEDS",ae "PARTS"] (importedModules pw.main.body) (fun s=>xlAt qv [] s&&recOk (ia PySem.Challenge.rw_blockdeal_k27_blocks_near.row.toRowW) s&&UN TL s&&UH PL FL s&&excAt ["DealError","NoDeed","NotTheirs","NoRoom","NoLine","NoText"] EXS EYS (ae "DealError") s) true s.abs,(fun s=>hshs DL s.heap) s.abs))=some (true,openGood qv [ae "DEEDS",ae "PARTS"],(hshW DL) (w.withFollow "special-get-raises" false)):=zsu (zsH w os) (zsG w os) (zsF w os) (zsE w os) (zsD w os) (zsC w os)
theorem zsB(w:aQ)(os:fe):(JW treeTable pw (w.withFollow "special-get-raises" true) 11 ((bo ((w.withFollow "special-get-raises" true)).params).nsMap mainGlobals "__annotations__") 20000 (zcg (w.withFollow "special-get-raises" true) os) (topStub pw)).map (fun s=>(UI pw (bo ((w.withFollow "special-get-raises" true)).params) s.abs,(fun s=>hshs DL s.heap) s.abs,s.abs.heap.bltView,plainSeenD qv [ae "DEEDS",ae "PARTS"] s.abs,clsSeenW qv [ae "DEEDS",ae "PARTS"] s.abs,pinSeenD qv (drecsOf qv) s.abs))=some (true,(hshW DL) (w.withFollow "special-get-raises" true),bltViewBooted,plainGoodD qv [ae "DEEDS",ae "PARTS"],clsGoodW qv [ae "DEEDS",ae "PARTS"],pinGoodD (drecsOf qv)):=by kernel_rfl
theorem zsA(w:aQ)(os:fe):(JW treeTable pw (w.withFollow "special-get-raises" true) 11 ((bo ((w.withFollow "special-get-raises" true)).params).nsMap mainGlobals "__annotations__") 20000 (zcg (w.withFollow "special-get-raises" true) os) (topStub pw)).map (fun s=>seen ((recsOf qv).map (·.name)) (ownsOf qv) [] { s.abs with gens:=#[] })=some (expectedOf qv):=by kernel_rfl
theorem zsx(w:aQ)(os:fe):(JW treeTable pw (w.withFollow "special-get-raises" true) 11 ((bo ((w.withFollow "special-get-raises" true)).params).nsMap mainGlobals "__annotations__") 20000 (zcg (w.withFollow "special-get-raises" true) os) (topStub pw)).map (fun s=>plainSeenE qv (looseW qv [ae "DEEDS",ae "PARTS"]) s.abs)=some (plainGoodE qv (looseW qv [ae "DEEDS",ae "PARTS"])):=by kernel_rfl
theorem zsw(w:aQ)(os:fe):(JW treeTable pw (w.withFollow "special-get-raises" true) 11 ((bo ((w.withFollow "special-get-raises" true)).params).nsMap mainGlobals "__annotations__") 20000 (zcg (w.withFollow "special-get-raises" true) os) (topStub pw)).map (fun s=>wideSeen qv s.abs)=some (wideGood qv):=by kernel_rfl
theorem zsz(w:aQ)(os:fe):(JW treeTable pw (w.withFollow "special-get-raises" true) 11 ((bo ((w.withFollow "special-get-raises" true)).params).nsMap mainGlobals "__annotations__") 20000 (zcg (w.withFollow "special-get-raises" true) os) (topStub pw)).map (fun s=>(s.abs.heap.keysOk (looseW qv [ae "DEEDS",ae "PARTS"]) ((recsOf qv).map (·.name)) ((litsOf qv).map (·.1)) ((clssOf qv (looseW qv [ae "DEEDS",ae "PARTS"])).map (·.name))&&s.abs.heap.accountedOkI (importedModules pw.main.body)&&s.abs.heap.isNs mainGlobals&&s.abs.heap.isNs builtinsNs&&tablesOk qv s.abs.heap&&(fun s=>xlAt qv [] s&&recOk (ia PySem.Challenge.rw_blockdeal_k27_blocks_near.row.toRowW) s&&UN TL s&&UH PL FL s&&excAt ["DealError","NoDeed","NotTheirs","NoRoom","NoLine","NoText"] EXS EYS (ae "DealError") s) s.abs&&(if true then s.abs.gens.size == 0 else !leftWithCleanup s.abs.gens)))=some true:=by kernel_rfl
theorem zsy(w:aQ)(os:fe):(JW treeTable pw (w.withFollow "special-get-raises" true) 11 ((bo ((w.withFollow "special-get-raises" true)).params).nsMap mainGlobals "__annotations__") 20000 (zcg (w.withFollow "special-get-raises" true) os) (topStub pw)).map (fun s=>tabsOk qv s.abs)=some true:=by kernel_rfl
theorem zvP(w:aQ)(os:fe):(JW treeTable pw (w.withFollow "special-get-raises" true) 11 ((bo ((w.withFollow "special-get-raises" true)).params).nsMap mainGlobals "__annotations__") 20000 (zcg (w.withFollow "special-get-raises" true) os) (topStub pw)).map (fun s=>(UI pw (bo ((w.withFollow "special-get-raises" true)).params) s.abs,openSeen qv [ae "DEEDS",ae "PARTS"] (importedModules pw.main.body) (fun s=>xlAt qv [] s&&recOk (ia PySem.Challenge.rw_blockdeal_k27_blocks_near.row.toRowW) s&&UN TL s&&UH PL FL s&&excAt ["DealError","NoDeed","NotTheirs","NoRoom","NoLine","NoText"] EXS EYS (ae "DealError") s) true s.abs,(fun s=>hshs DL s.heap) s.abs))=some (true,openGood qv [ae "DEEDS",ae "PARTS"],(hshW DL) (w.withFollow "special-get-raises" true)):=zsu (zsB w os) (zsA w os) (zsz w os) (zsy w os) (zsx w os) (zsw w os)
theorem zpU:LeftO pw qv [ae "DEEDS",ae "PARTS"] (fun s=>xlAt qv [] s&&recOk (ia PySem.Challenge.rw_blockdeal_k27_blocks_near.row.toRowW) s&&UN TL s&&UH PL FL s&&excAt ["DealError","NoDeed","NotTheirs","NoRoom","NoLine","NoText"] EXS EYS (ae "DealError") s) (fun s=>hshs DL s.heap) (hshW DL) 20000:=zlg (by kernel_rfl) (by decide) (fun _=>rfl) (fun w=>zku (w:=w) (P:=fun w=>∀os:fe,(JW treeTable pw w 11 ((bo (w).params).nsMap mainGlobals "__annotations__") 20000 (zcg w os) (topStub pw)).map (fun s=>(UI pw (bo (w).params) s.abs,openSeen qv [ae "DEEDS",ae "PARTS"] (importedModules pw.main.body) (fun s=>xlAt qv [] s&&recOk (ia PySem.Challenge.rw_blockdeal_k27_blocks_near.row.toRowW) s&&UN TL s&&UH PL FL s&&excAt ["DealError","NoDeed","NotTheirs","NoRoom","NoLine","NoText"] EXS EYS (ae "DealError") s) true s.abs,(fun s=>hshs DL s.heap) s.abs))=some (true,openGood qv [ae "DEEDS",ae "PARTS"],(hshW DL) w)) "special-get-raises" zvQ zvP)
end
section
variable{P:aK}{w:aQ}{K:qF}{mg:qM}{base:aN}{Z:ZZ}
def zp3:af->Bool|.int _=>true|_=>false
def zc_:GD:=fun ts n R=>match ts with
 | [d]=>Pln d/\R (.bool (zp3 d)) n
 | _=>False
theorem Uh{d:af}{b:Bool}{n:Nat}{R:qN}(e:zp3 d=b)(h:Pln d)(h':R (.bool b) n):zc_ [d] n R:=⟨h,e▸h'⟩
def VR(Z:ZZ):Prop:=FQ Z "is_whole" (top 1) ["thing"] 1 (spD Z.K 1 zc_)
theorem zh0(D:Dq Z.K Z.mg "is_whole" (top 1) ["thing"]) (T:Txt Z.mg):VR Z:=by
 refine' okQ D (fnS (N:=["thing"]) (by decide +kernel)) rfl fun f u A outer s H E v=>⟨_,(Jc (Ji (Zw (Ym ztD T.isi T.int boot_int (dlv 0) Jq) (Uo (zqy (Ym zqg T.isi T.boo zj8 (dlv 0) Jq)))))),?_⟩
 intro ts n R x h;unfold zc_ at h;split at h
 ·rename_i d;obtain⟨p,h⟩:=h;cases d with
  | dict l =>
   cases l with
   | nil =>
    wp_walk
    exact h
   | cons a b=>exact absurd rfl p
  | _ =>
   wp_walk
   exact h
 ·exact h.elim
def Q5(bits:Int):af->Bool
 | .tuple [.int b,.int h]=>decide (0<=h/\h<=bits/\0<=b/\b<2 ^ bits.toNat/\b % 2 ^ h.toNat=0)
 | _=>false
theorem zii{bits b h:Int}:Q5 bits (.tuple [.int b,.int h])=decide (0<=h/\h<=bits/\0<=b/\b<2 ^ bits.toNat/\b % 2 ^ h.toNat=0):=rfl
def Pl2(d:af):Prop:=Pln d/\∀ts,d=.tuple ts->∀t∈ts,Pln t
def zfb:GD:=fun ts n R=>∃(bits:Int) (d:af),ts=[.int bits,d]/\0<=bits/\bits<=64/\Pl2 d/\R (.bool (Q5 bits d)) n
theorem zj5{bits:Int}{d:af}{n:Nat}{R:qN}(u:0<=bits)(v:bits<=64)(h:Pl2 d)(h':R (.bool (Q5 bits d)) n):zfb [.int bits,d] n R:=⟨bits,d,rfl,u,v,h,h'⟩
theorem zlE{bits:Int}{d:af}(h:∀b g,d≠.tuple [.int b,.int g]):Q5 bits d=false:=by
 unfold Q5;split
 ·exact absurd rfl (h _ _)
 ·rfl
theorem ztO{b c:Bool}{n:Nat}{R:qN}(e:b=c)(h:R (.bool c) n):R (.bool b) n:=e▸h
def ze2(Z:ZZ):Prop:=FQ Z "is_block" (top 2) ["bits","thing"] 2 (spD Z.K 2 zfb)
theorem zh1(D:Dq Z.K Z.mg "is_block" (top 2) ["bits","thing"]) (G:VR Z) (T:Txt Z.mg):ze2 Z:=by
 refine' okQ D (fnS (N:=["bits","thing","begin","height"]) (by decide +kernel)) rfl fun f J A outer s H E v=>⟨_,(Jb (Jx (QA (QP (Qq (J1 (dl (Ym zjc T.isi T.tup QK (dlv 1) Jq)))) (Uq (Jr (QW v) QQ (dl (Jv UB Ur T.len Q8 (Jf (dlv 1) Jn Jq))) dli (Jl _))))) (Jc (Ji QN)) Jz) (Jb (QT (Jk 1) (JQ rfl (Jm (dgv 2 (ndB rfl)) (Jm (dgv 3 (ndB rfl)) JR)))) (Jb (Jx (QA (QP (Qq (J1 (dl (Jd G v (dbv 2 Ja))))) (Uq (Qq (J1 (dl (Jd G v (dbv 3 Ja)))))))) (Jc (Ji QN)) Jz) (Jb (Jx (QA (QP (Jr (Qx v) Qw (dlv 3) dli (Jl _)) (Uq (Jr QR gp_B (dlv 3) (dlv 0) (Jl _))))) (Jc (Ji QN)) Jz) (Jc (Ji (Zw (VB Qf Qe (Qx v) Qw dli (dlv 2) (dl (JT dli (dlv 0)))) (Uo (Qo (QH v) QB (dl (zl2 (dlv 2) (dl (JT dli (dlv 3))))) dli (Jl _)))))))))),?_⟩
 intro ts n R S h;obtain⟨bits,d,rfl,L,U,⟨p,p2⟩,h⟩:=h;have no:(∀b g,d≠.tuple [.int b,.int g])->R (.bool false) n:=fun z=>by rw[zlE z]at h;exact h
 cases hf:isTup d with
 | false =>
  wp_walk using isiF p hf ?_
  exact no fun b g e=>by rw[e]at hf;cases hf
 | true =>
  obtain⟨ts,rfl⟩:=znR hf;have p2:=p2 ts rfl
  by_cases l2:ts.length=2
  ·obtain⟨x,y,rfl⟩:=zvO l2;have C:=p2 x (by simp)
   have py:=p2 y (by simp)
   have I:∀t,(∃b,t=.int b)\/zp3 t=false:=fun t=>by
    cases t with
    | int b=>exact .inl ⟨b,rfl⟩
    | _=>exact .inr rfl
   rcases I x with⟨b,rfl⟩|wx
   ·rcases I y with⟨g,rfl⟩|wy
    ·wp_walk using Uh (b:=true) rfl C ?_,Uh (b:=true) rfl py ?_
     all_goals first
      | exact cpow (by lia) (by lia)
      | (rw[Qc];exact JA _)
      | skip
     all_goals
      refine ztO ?_ h
      try simp only[Qc]at *
      rw[zii];generalize (2:Int) ^ bits.toNat=X at *;generalize b % (2:Int) ^ g.toNat=Y at *
      first
       | (symm;rw[decide_eq_false_iff_not];lia)
       | (rw[decide_eq_decide];lia)
       | (exfalso;simp at hc;done)
    ·wp_walk using Uh (b:=true) rfl C ?_,Uh wy py ?_
     all_goals first|exact no fun _ _ e=>by cases e;cases wy|(exfalso;simp at hc;done)
   ·wp_walk using Uh wx C ?_
    all_goals first|exact no fun _ _ e=>by cases e;cases wx|(exfalso;simp at hc;done)
  ·wp_walk
   all_goals first|exact no fun _ _ e=>l2 (by cases e;rfl)|(exfalso;lia)
def zhk:GD:=fun ts n R=>∃i h:Int,ts=[.tuple [.int i,.int h]]/\0<=h/\h<=1000/\R (.int (2 ^ h.toNat)) n
theorem zms{i h:Int}{n:Nat}{R:qN}(v:0<=h)(g1:h<=1000)(h':R (.int (2 ^ h.toNat)) n):zhk [.tuple [.int i,.int h]] n R:=⟨_,_,rfl,v,g1,h'⟩
def zgl(Z:ZZ):Prop:=FQ Z "size_of" (top 3) ["block"] 1 (spD Z.K 1 zhk)
theorem zjL(D:Dq Z.K Z.mg "size_of" (top 3) ["block"]) (T:Txt Z.mg):zgl Z:=by
 refine' okQ D (fnS (N:=["block"]) (by decide +kernel)) rfl fun f u A outer s H E v=>⟨_,(Jc (Ji (JT dli (dl (Jh (dlv 0) dli))))),?_⟩
 intro ts n R x l;obtain⟨i,h,rfl,y,g1,l⟩:=l
 wp_walk
 ·exact cpow (by lia) (by lia)
 ·rw[Qc];exact l
def zjh:GD:=fun ts n R=>∃i h g:Int,ts=[.tuple [.int i,.int h],.int g]/\0<=g/\g<=1000/\0<=i/\i<2 ^ 64/\R (.tuple [.int (i / 2 ^ g.toNat*2 ^ g.toNat),.int g]) n
theorem zok{i h g:Int}{n:Nat}{R:qN}(x:0<=g)(g1:g<=1000)(v:0<=i)(y:i<2 ^ 64)(h':R (.tuple [.int (i / 2 ^ g.toNat*2 ^ g.toNat),.int g]) n):zjh [.tuple [.int i,.int h],.int g] n R:=⟨_,_,_,rfl,x,g1,v,y,h'⟩
def ziR(Z:ZZ):Prop:=FQ Z "around" (top 5) ["block","height"] 1 (spD Z.K 2 zjh)
theorem zk1(D:Dq Z.K Z.mg "around" (top 5) ["block","height"]) (T:Txt Z.mg):ziR Z:=by
 refine' okQ D (fnS (N:=["block","height"]) (by decide +kernel)) rfl fun f x A outer s H E y=>⟨_,(Jc (Ji (Js (dbc (JT (dl (ztZ (dl (Jh (dlv 0) dli)) (dlv 1))) (dlv 1)) (dbv 1 Ja))))),?_⟩
 intro ts n R G l;obtain⟨i,h,g,rfl,v,g1,u,C,l⟩:=l;simp only[Vi,Vh,Vj,u_dC,Z0,Vd,Vf,Ve,Vq,ZY,VM,Vg,Vl,ZA,Zp,Zq,Zr,Zz,Zs,ZK,ZJ,YV,oSub,oMul,oMod,UP,oShl,oShr,oXor,oAnd,isNone,isInt,isBool,isTup,isStr,l_gI,ZV,Zl,Zm,Zn,YE,YG,YF,YO,YR,YQ,YH,ZE,YL,YJ,YK,Za,Zb,Zc,Y8,Y9,Ze,Zf,YC,YN,YM,YB,Zo,ZF,Zd,Zu,ZM,Ud,Q7,UD,UA,Uy,Uz,Ux,ZI,Yo,JY,JC,capV,bZ,fB,aT,cL,cg,gC,dJ,ei,bT,dS,ft,gO,gP,gD,gE,gj,Nat.reduceAdd,Nat.reduceSub,iT,true_and,and_true,aI,if_true,if_false,ite_true,ite_false,e8,fY,iw]
 refine⟨v,⟨v,by lia,?_⟩,l⟩
 have:i / 2 ^ g.toNat<=i:=lx _ u;have:0<=i / 2 ^ g.toNat:=eR u (bf (JA _));lia
def zho:GD:=fun ts n R=>∃d,ts=[d]/\PlnD d/\R (.bool (nmD d)) n
theorem zhC{d:af}{n:Nat}{R:qN}(p:PlnD d)(h:R (.bool (nmD d)) n):zho [d] n R:=⟨d,rfl,p,h⟩
def zgo(Z:ZZ):Prop:=FQ Z "is_name" (top 8) ["thing"] 1 (spD Z.K 1 zho)
theorem zjP(D:Dq Z.K Z.mg "is_name" (top 8) ["thing"]) (T:Txt Z.mg):zgo Z:=by
 refine' okQ D (fnS (N:=["thing"]) (by decide +kernel)) rfl fun f S A outer s H E Y=>⟨_,(Jb (Jx (QA (QP (Qq (J1 (dl (Ym zoM T.isi T.str zhI (dlv 0) Jq)))) (Uq (Qq (zjl Qf Qe Qf Qe dli (dl (Jv UB Ur T.len Q8 (Jf (dlv 0) Jn Jq))) dli))))) (Jc (Ji QN)) Jz) (Jc (Ji (Jv (zeF rfl) zlN T.all zeI (Jf (dl (Jj (dnc ["letter"] [] (dil (ztW (Jk 0))) (fun _ _ _ _=>(dgv 0 (ndB rfl))) (fun _ _ _ _=>(VB Qf Qe Qf Qe (dl Qz) (dlv 0) (dl Qz)))))) Jn U0))))),?_⟩
 intro ts n R hl h;obtain⟨d,rfl,p,h⟩:=h;cases d with
 | str z =>
  have hz:=p.str;have C:(ae "a").cps.toList=[97]:=by decide +kernel
  have J:(ae "z").cps.toList=[122]:=by decide +kernel
  have e:nmD (.str z)=(decide (1<=z.length)&&decide (z.length<=8)&&z.cps.toList.all fun c=>decide (97<=c)&&decide (c<=122)):=rfl
  rw[e]at h
  wp_walk
  ·lia
  ·refine Uf (cs:=z.cps.toList) (D:=fun c=>.str ⟨#[c]⟩) (fun c=>.bool (decide (97<=c)&&decide (c<=122))) (by rw[Qj];lia) ?_ ?_
   ·intro c G K2 X2 u
    wp_walk
    ·have z:c<97:=zkV.mp (show([c]:List Nat)<[97] from C▸hc)
     rw[decide_eq_false (show ¬97<=c by lia),cC]at u
     exact u
    ·have z:¬c<97:=fun y=>hc (C.symm▸zkV.mpr y)
     rw[decide_eq_true (show 97<=c by lia),dN]at u
     have U:(!decide ((ae "z").cps.toList<(⟨#[c]⟩:Str).cps.toList))=decide (c<=122):=by
      rw[J];exact zpV
     rw[U];exact u
   ·wp_walk using zlI ?_
    have x:1<=z.length:=by lia
    have v:z.length<=8:=by lia
    rw[decide_eq_true x,decide_eq_true v]at h;exact h
  ·have v:¬z.length<=8:=by lia
   rw[decide_eq_false v,hW,cC]at h;exact h
  ·have x:¬1<=z.length:=by lia
   rw[decide_eq_false x,cC,cC]at h;exact h
 | dict I =>
  cases I with
  | nil =>
   wp_walk
   exact h
  | cons a b=>exact absurd rfl (PlnD.pln p)
 | _ =>
  wp_walk
  exact h
def zjg:GD:=fun ts n R=>∃i h:Int,ts=[.tuple [.int i,.int h]]/\0<=h/\h<=1000/\R (.int (i+2 ^ h.toNat)) n
theorem VA{i h:Int}{n:Nat}{R:qN}(v:0<=h)(g1:h<=1000)(h':R (.int (i+2 ^ h.toNat)) n):zjg [.tuple [.int i,.int h]] n R:=⟨_,_,rfl,v,g1,h'⟩
def VL(Z:ZZ):Prop:=FQ Z "end_of" (top 18) ["block"] 2 (spD Z.K 1 zjg)
theorem zk0(D:Dq Z.K Z.mg "end_of" (top 18) ["block"]) (x:zgl Z) (T:Txt Z.mg):VL Z:=by
 refine' okQ D (fnS (N:=["block"]) (by decide +kernel)) rfl fun f v A outer s H E u=>⟨_,(Jc (Ji (JF (dl (Jh (dlv 0) dli)) (dl (Jd x u (dbv 0 Ja)))))),?_⟩
 intro ts n R y l;obtain⟨i,h,rfl,C,g1,l⟩:=l
 wp_walk using zms ?_ ?_ ?_
 ·lia
 ·lia
 ·exact l
theorem zjZ{hi:Int}(h:0<hi):QC 0 hi hi.toNat.log2:=⟨by simp,by have:=zlf h;lia,fun z=>by have:=zlb h;have:=z.2;lia⟩
theorem zlM{lo hi:Int}{t:Nat}(h:lo<hi)(u:lo % 2 ^ t=0)(v:¬lo % 2 ^ (t+1)=0):QC lo hi (min (hi - lo).toNat.log2 t):=by
 have a:=zlf (i:=hi - lo) (by lia)
 have b:=zlb (i:=hi - lo) (by lia)
 rcases tW (hi - lo).toNat.log2 t with z|z
 ·rw[o6 z];exact⟨U2 z u,a,fun y=>by have:=y.2;lia⟩
 ·rw[Nat.min_eq_right z];exact⟨u,nW (Uj z) a,fun y=>v y.1⟩
theorem znD(t:Nat):((2:Int) ^ t).toNat.log2=t:=by
 have e:((2:Int) ^ t).toNat=2 ^ t:=by
  have:((2 ^ t:Nat):Int)=(2:Int) ^ t:=by rw[fI];rfl
  rw[<- this];rfl
 rw[e,Nat.log2_two_pow]
def zbJ:GD:=fun ts n R=>∃lo hi:Int,ts=[.int lo,.int hi]/\0<=lo/\lo<hi/\∀g:Nat,QC lo hi g->R (.int g) n
theorem zdf{lo hi:Int}{n:Nat}{R:qN}(l:0<=lo)(u:lo<hi)(h:∀g:Nat,QC lo hi g->R (.int g) n):zbJ [.int lo,.int hi] n R:=⟨lo,hi,rfl,l,u,h⟩
def zbI(Z:ZZ):Prop:=FQ Z "greatest_height" (top 19) ["begin","high"] 1 (spD Z.K 2 zbJ)
theorem zcV(D:Dq Z.K Z.mg "greatest_height" (top 19) ["begin","high"]) (T:Txt Z.mg):zbI Z:=by
 refine' okQ D (fnS (N:=["begin","high","room"]) (by decide +kernel)) rfl fun f y A outer s H E x=>⟨_,(Jb (dsv 2 (ndB rfl) (JZ (dl (zhr (dl (JZ (dlv 1) (dlv 0))))) dli)) (Jb (Jx (Jr (QH x) QB (dlv 0) dli (Jl _)) (Jc (Ji (Jk 2))) Jz) (Jc (Ji (Jv (U1 rfl) UU T.min QZ (Jf (dlv 2) (Jf (dl (JZ (dl (zhr (dl (zt4 (dlv 0) (dl (UR (Jk 0))))))) dli)) Jn QJ) Jq)))))),?_⟩
 intro ts n R G h;obtain⟨lo,hi,rfl,C,v,h⟩:=h;have room:=zeh (i:=hi - lo) (by lia)
 wp_walk
 ·rw[room];subst hc;have:=h _ (zjZ v);rw[Int.sub_zero];exact this
 ·obtain⟨t,t1,t2⟩:=zuV (b:=lo) (by lia)
  have an:=zqV (b:=lo) (by lia) t1 t2
  have u:=zeh (i:=(2:Int) ^ t) (JA t);rw[znD]at u;rw[an,room,u];have:=h _ (zlM v t1 t2);have e:(if (t:Int)<((hi - lo).toNat.log2:Int) then(t:Int) else((hi - lo).toNat.log2:Int))=((min (hi - lo).toNat.log2 t:Nat):Int):=by
   split <;> lia
  rw[e];exact this
def YZ:GD:=fun ts n R=>∃lo hi:Int,ts=[.int lo,.int hi]/\0<=lo/\lo<=hi/\hi<=2 ^ 64/\∀bs,Jp lo hi bs->R (.tuple (pD bs)) n
theorem zt8{lo hi:Int}{n:Nat}{R:qN}(v:0<=lo)(x:lo<=hi)(l2:hi<=2 ^ 64)(h:∀bs,Jp lo hi bs->R (.tuple (pD bs)) n):YZ [.int lo,.int hi] n R:=⟨lo,hi,rfl,v,x,l2,h⟩
def zoy(Z:ZZ):Prop:=FQ Z "span" (top 11) ["low","high"] 3 (spD Z.K 2 YZ)
theorem zpz(D:Dq Z.K Z.mg "span" (top 11) ["low","high"]) (U:VL Z) (Hs:zbI Z) (T:Txt Z.mg):zoy Z:=by
 refine' okQ D (fnS (N:=["low","high","blocks","begin","block"]) (by decide +kernel)) rfl fun f cdv A outer s H E C=>⟨_,(Jb (US (i:=2) (ndB rfl) rfl (er rfl) (Jt Ja)) (Jb (dsv 3 (ndB rfl) (Jk 0)) (Jb (zn8 cq (Jr (Qx C) Qw (dlv 3) (dlv 1) (Jl _)) (Jb (dsv 4 (ndB rfl) (Js (dbv 3 (dbc (Jd Hs C (dbv 3 (dbv 1 Ja))) Ja)))) (Jb (Qi 2 (Jk 4)) (Jc (dsv 3 (ndB rfl) (Jd U C (dbv 4 Ja))))))) (Ug 2 (Jc (Ji (Qk Ue Q6 T.tup QK (Jf (dlv 2) Jn Jq)))))))),?_⟩
 intro ts n R hl h;obtain⟨lo,hi,rfl,l0,Y,l2,h⟩:=h;obtain⟨all,A⟩:=zki _ lo hi (aA _) Y;have al:=A.len l0 l2
 wp_walk
 refine zoY (fun m J L=>L=n/\∃(bs rest:qB) (y:Int) (I:Option Cell),J=[some (.val (.int lo)),some (.val (.int hi)),some (.own (pD bs)),some (.val (.int y)),I]/\all=bs++rest/\Jp y hi rest/\lo<=y/\m=rest.length) (m:=all.length) ⟨rfl,[],all,lo,_,rfl,rfl,A,bh _,rfl⟩ ?_
 rintro m J L NX RT BK ⟨rfl,bs,rest,y,I,rfl,x,S,lb,rfl⟩ hN hR hB
 wp_walk
 ·cases rest with
  | nil=>have:y=hi:=S;lia
  | cons b r =>
   obtain⟨s1,s2,s3,s4,s5⟩:=S;refine zdf (by lia) hc fun g G=>?_
   have eg:b.2.toNat=g:=s4.uniq G;have eb:b=(y,(g:Int)):=kc s2 (by show b.2=(g:Int);lia)
   have gl:g<=64:=by
    rcases bN 64 g with z|z
    ·have:=Uj (show 65<=g by lia)
     have:=G.2.1;have e:(2:Int) ^ 65=2*2 ^ 64:=by decide
     lia
    ·exact z
   wp_walk using VA (by lia) (by lia) ?_
   ·rw[JB];have:=congrArg eD x;rw[aY]at this;lia
   ·refine hN r.length _ _ (by simp) ⟨rfl,bs++[b],r,y+2 ^ (g:Int).toNat,some (.val (.tuple [.int y,.int (g:Int)])),by rw[eb,<- Ut],by rw[x];simp,?_,?_,rfl⟩
    ·rw[eg]at s5;simpa using s5
    ·have:=JA (g:Int).toNat;lia
 ·have e:y=hi:=by have:=S.le;lia
  cases rest with
  | cons b r=>have:=S.1;lia
  | nil =>
   refine hB _ _ ?_
   wp_walk
   rw[bT]at x;rw[<- x];exact h _ A
def zfa:GD:=fun ts n R=>∃rs:List (Int×Int),ts=[.list (pD rs)]/\(∀r∈rs,0<=r.1/\r.1<=r.2/\r.2<=2 ^ 64)/\rs.length<=100000/\∀ps,PatS rs ps->R (.tuple (pD ps)) n
theorem zfl{rs:qB}{n:Nat}{R:qN}(w:∀r∈rs,0<=r.1/\r.1<=r.2/\r.2<=2 ^ 64)(l:rs.length<=100000)(h:∀ps,PatS rs ps->R (.tuple (pD ps)) n):zfa [.list (pD rs)] n R:=⟨rs,rfl,w,l,h⟩
theorem zkP:∀{rs:qB},(∀r∈rs,r.1<=r.2)->∃ps,PatS rs ps
 | [],_=>⟨[],rfl⟩
 | r::rs,h=>by
  obtain⟨a,A⟩:=zki _ r.1 r.2 (aA _) (h r (by simp))
  obtain⟨b,B⟩:=zkP (rs:=rs) fun s l=>h s (by simp[l])
  exact⟨a++b,a,b,rfl,A,B⟩
theorem zjr{g:DTG}{d:DTE}{v:En}{n:Nat}{C:List af->Nat->Prop}:∀(xs l:qD),(∀x∈xs,∀K:af->Nat->Prop,K x n->g x v fun u=>d u n K)->l.length+xs.length<=16777216->C (l++xs) n->JP g dYes d v xs l n C
 | [],l,_,_,h=>by simpa[JP] using h
 | x::xs,l,hg,hl,h=>by
  have e:(fun u=>dYes u n fun b I=>if b=true then d u I fun t G=>l.length<16777216/\JP g dYes d v xs (l++[t]) G C else JP g dYes d v xs l I C)=fun u=>d u n fun t G=>l.length<16777216/\JP g dYes d v xs (l++[t]) G C:=by
   funext u
   exact propext ⟨fun z=>by simpa[dYes] using z,fun z=>by simpa[dYes] using z⟩
  show g x v fun u=>dYes u n fun b I=>if b=true then d u I fun t G=>l.length<16777216/\JP g dYes d v xs (l++[t]) G C else JP g dYes d v xs l I C
  rw[e];refine hg x (by simp) _ ⟨by simp at hl;lia,zjr xs (l++[x]) (fun y J=>hg y (by simp[J])) (by simp at hl ⊢;lia) (by simpa using h)⟩
def zc6(Z:ZZ):Prop:=FQ Z "patch_of" (top 20) ["runs"] 4 (spD Z.K 1 zfa)
theorem zhZ(D:Dq Z.K Z.mg "patch_of" (top 20) ["runs"]) (IB:zoy Z) (T:Txt Z.mg):zc6 Z:=by
 refine' okQ D (fnS (N:=["runs"]) (by decide +kernel)) rfl fun f cdv A outer s H E J=>⟨_,(Jc (Ji (Qk Ue Q6 T.tup QK (Jf (dl (Jj (zn_ (own:=["low","high","block"]) (capt:=[]) rfl (JK.of rfl) (dil (zoR (Jk 0))) (fun _ _ _ _=>(JQ rfl (Jm (dgv 0 (ndB rfl)) (Jm (dgv 1 (ndB rfl)) JR)))) (by decide) (fun _ _ _ _=>Vt) (fun _ _ _ _=>(Qp (Jd IB J (dbv 0 (dbv 1 Ja))))) (fun _ _ _ _=>(dgv 2 (ndB rfl))) (by decide) (fun _ _ _ _=>Vt) (fun _ _ _ _=>(Jk 2))))) Jn U0)))),?_⟩
 intro ts n R hl h;obtain⟨rs,rfl,w,l,h⟩:=h
 wp_walk
 have key:∀(rs:qB) (v ps:qB),(∀r∈rs,0<=r.1/\r.1<=r.2/\r.2<=2 ^ 64)->v.length+130*rs.length<=16777216->PatS rs ps->∀K:List af->Nat->Prop,K (pD (v++ps)) n ->
   Uv (U9 (Q4 (Qd 0) (Q4 (Qd 1) U8))) dYes (dItT (dFn YZ (Qb (dVar 0) (Qb (dVar 1) dNil)))) (Qd 2) dYes (dVar 2) [none,none,none] (pD rs) (pD v) n K:=by
  intro rs;induction rs with
  | nil =>
   intro v ps _ _ P K I;cases(show ps=[] from P)
   rw[bT]at I;exact I
  | cons r rs ih =>
   intro v ps w Y P K I;obtain⟨a,b,rfl,S,U⟩:=P;have G:=w r (by simp)
   have ll:=S.len G.1 G.2.2;show U9 (Q4 (Qd 0) (Q4 (Qd 1) U8)) (.tuple [.int r.1,.int r.2]) [none,none,none] fun y=>dYes y n fun b n2=>if b=true then dItT (dFn YZ (Qb (dVar 0) (Qb (dVar 1) dNil))) y n2 fun ts n3=>JP (Qd 2) dYes (dVar 2) y ts (pD v) n3 fun C n4=>Uv (U9 (Q4 (Qd 0) (Q4 (Qd 1) U8))) dYes (dItT (dFn YZ (Qb (dVar 0) (Qb (dVar 1) dNil)))) (Qd 2) dYes (dVar 2) [none,none,none] (pD rs) C n4 K else _
   rw[aT]at Y
   wp_walk using zt8 G.1 G.2.1 G.2.2 (fun bs B=>?_)
   rw[B.uniq S];refine zjr _ _ (fun x hx K2 L=>?_) (by rw[JB,JB];lia) ?_
   ·wp_walk
    exact L
   ·rw[Z9];exact ih (v++a) b (fun s hs=>w s (by simp[hs])) (by rw[aY];lia) U K (by rw[kL];exact I)
 obtain⟨ps,P⟩:=zkP (rs:=rs) fun r J=>(w r J).2.1
 refine key rs [] ps w (by simp;lia) P _ ?_
 wp_walk
 exact h ps P
theorem zlB{bits:Int}{bs:qB}{t:af}{J:List af->Prop}(ht:t=.list (pD bs)\/t=.tuple (pD bs))(y:bits<=64)(B:Bks bits bs)(G:bs.length<64)
  (h:∀cs:List (Int×Int),cs.Perm bs->cs.Pairwise (fun a b=>a.1<=b.1)->J (pD cs)):YA t J:=by
 have key:(pD bs).length<64/\(∀x∈pD bs,IsPr x)/\∀v:List af,v.Perm (pD bs)->v.Pairwise (fun a b=>rkD a<=rkD b)->J v:=by
  refine⟨by rw[JB];exact G,fun x hx=>?_,fun v pm pw=>?_⟩
  ·obtain⟨b,I,rfl⟩:=aS.mp hx;have:=B b I;exact⟨b.1,b.2,rfl,this.1,by have:=this.2.1;lia⟩
  ·have N:v.Perm ((bs.map fun b=>(b,prD b)).map (·.2)):=by
    have:(bs.map fun b=>(b,prD b)).map (·.2)=pD bs:=by simp[pD]
    rw[this];exact pm
   obtain⟨zs,U,p2⟩:=VH N;have Y:∀z∈zs,z.2=prD z.1:=fun z L=>by
    obtain⟨b,_,rfl⟩:=aS.mp (U.mem_iff.mp L)
    rfl
   have e:v=pD (zs.map (·.1)):=by
    rw[<- p2];unfold pD;rw[cH];exact iN fun z L=>Y z L
   have pc:(zs.map (·.1)).Perm bs:=by
    have:=U.map (·.1);rw[cH]at this;have e2:bs.map ((fun x:(Int×Int)×af=>x.1)∘fun b=>(b,prD b))=bs:=by
     show bs.map id=bs
     exact vc _
    rwa [e2]at this
   rw[e];have C:Bks bits (zs.map (·.1)):=fun b y=>B b (pc.mem_iff.mp y)
   rw[e]at pw;unfold pD at pw;rw[dW]at pw;refine h _ pc (gH ?_ pw);intro a b S y R;have R:a.1*1000+a.2<=b.1*1000+b.2:=R;have a0:=(C a S).1;have a1:=(C a S).2.1;have b0:=(C b y).1;have b1:=(C b y).2.1;lia
 rcases ht with rfl|rfl <;> exact key
def zhl:GD:=fun ts n R=>∃(bits:Int) (bs:qB) (t:af),ts=[t]/\(t=.list (pD bs)\/t=.tuple (pD bs))/\0<=bits/\bits<=64/\Bks bits bs/\bs.length<64/\∀rs,NR rs->(∀x,mR x rs↔mB x bs)->rs.length<=bs.length->R (.list (pD rs)) n
theorem zhA{bits:Int}{bs:qB}{t:af}{n:Nat}{R:qN}(v:t=.list (pD bs)\/t=.tuple (pD bs))(y:0<=bits)(C:bits<=64)(B:Bks bits bs)(l:bs.length<64)(h:∀rs,NR rs->(∀x,mR x rs↔mB x bs)->rs.length<=bs.length->R (.list (pD rs)) n):zhl [t] n R:=⟨bits,bs,t,rfl,v,y,C,B,l,h⟩
def zdX(Z:ZZ):Prop:=FQ Z "runs_of" (top 21) ["blocks"] 3 (spD Z.K 1 zhl)
theorem zjM(D:Dq Z.K Z.mg "runs_of" (top 21) ["blocks"]) (Hq:VL Z) (T:Txt Z.mg):zdX Z:=by
 refine' okQ D (fnS (N:=["blocks","runs","block","low","high"]) (by decide +kernel)) rfl fun f cdv A outer s H E C=>⟨_,(Jb (US (i:=1) (ndB rfl) rfl (er rfl) (Jt Ja)) (Jb (Qv cq rfl (QF (Jj (zew C T.srt (dlv 0) Jq))) (dgv 2 (ndB rfl)) (Jc (Jx (QA (zlV (J1 (Ye 1)) (zik (Jr Qf Qe (dl (Jh (dlv 2) dli)) (dl (Jh (dl (Jh (Ye 1) (dl (UR Je)))) dli)) (Jl _))))) (Jb (QT (Jh (Ye 1) (dl (UR Je))) (JQ rfl (Jm (dgv 3 (ndB rfl)) (Jm (dgv 4 (ndB rfl)) JR)))) (Jc (ztU 1 (UR Je) (Js (dbv 3 (dbc (Jv (ZC rfl) Y0 T.max Yv (Jf (dlv 4) (Jf (dl (Jd Hq C (dbv 2 Ja))) Jn QY) Jq)) Ja)))))) (Jc (Qi 1 (Js (dbc (Jh (dlv 2) dli) (dbc (Jd Hq C (dbv 2 Ja)) Ja)))))))) (Ug 1 (Jc (Ji (Jk 1)))))),?_⟩
 intro ts n R hl h;obtain⟨bits,bs,t,rfl,ht,b0,b1,B,l,h⟩:=h
 wp_walk
 refine zlB ht b1 B l fun cs pm pw=>?_
 have Bc:Bks bits cs:=fun b G=>B b (pm.mem_iff.mp G)
 have lc:=pm.length_eq;refine Z6 1 2 3 4 (fun k a1 _ _ _ m=>m=n/\∃rs:List (Int×Int),a1=some (.own (pD rs))/\NR rs/\(∀x,mR x rs↔mB x (cs.take k))/\rs.length<=k/\∀r∈rs,∀b∈cs.drop k,r.1<=b.1) ⟨rfl,[],rfl,⟨(fun r C=>nomatch C),.nil⟩,(fun x=>⟨fun z=>absurd z QG,fun z=>absurd z Zi⟩),aA _,fun r C=>nomatch C⟩ ?_ ?_
 ·rintro k t' a1 a2 a3 a4 m K RT BK et ⟨rfl,rs,rfl,J,S,lr,lo⟩ hK hRT hBK;obtain⟨i,g,eb,rfl⟩:=Yl et;have kl:=(av.mp eb).1;have Bb:=Bc _ (aR eb);have g0:0<=g:=Bb.1;have g1:g<=bits:=Bb.2.1;have pg:=JA g.toNat;have tk:cs.take (k+1)=cs.take k++[(i,g)]:=by rw[fk,eb];rfl
  have dk:cs.drop k=(i,g)::cs.drop (k+1):=by
   rw[cA kl];congr 1;have:=aJ kl;rw[eb]at this;exact(aM this).symm
  have after:∀b∈cs.drop (k+1),i<=b.1:=fun b G=>by
   have:cs.Pairwise fun a b=>a.1<=b.1:=pw
   have:=(this.sublist (kM k cs));rw[dk]at this;exact(eM.mp this).1 b G
  have m1:∀x,mB x (cs.take (k+1))↔mB x (cs.take k)\/(i<=x/\x<i+2 ^ g.toNat):=fun x=>by
   rw[tk,Zh,zh8];constructor
   ·rintro(z|z|z)
    ·exact .inl z
    ·exact .inr z
    ·exact absurd z Zi
   ·rintro(z|z)
    ·exact .inl z
    ·exact .inr (.inl z)
  have new:(∀r∈rs,r.2<i)->∀c2 c3 c4,K [some (.val t),some (.own (pD rs++[.tuple [.int i,.int (i+2 ^ g.toNat)]])),c2,c3,c4] m:=fun hlt c2 c3 c4 =>
   hK _ _ _ _ _ ⟨rfl,rs++[(i,i+2 ^ g.toNat)],by rw[<- Ut],⟨fun r C=>by
    rcases aE.mp C with z|z
    ·exact J.1 r z
    ·cases aC.mp z;show i<i+2 ^ g.toNat;lia,by
    rw[cy];exact⟨J.2,cI _ _,fun a ha b G=>by cases aC.mp G;exact hlt a ha⟩⟩,(fun x=>by
    rw[Us,S,m1,Uc];constructor
    ·rintro(z|z|z)
     ·exact .inl z
     ·exact .inr z
     ·exact absurd z QG
    ·rintro(z|z)
     ·exact .inl z
     ·exact .inr (.inl z)),by simp;lia,fun r C b G=>by
    rcases aE.mp C with z|z
    ·exact lo r z b (by rw[dk];simp[G])
    ·cases aC.mp z;exact after b G⟩
  rcases List.eq_nil_or_concat rs with rfl|⟨I,r,rfl⟩
  ·wp_walk using VA g0 (by lia) ?_
   ·show 0<16777216;decide
   ·exact new (fun r C=>nomatch C) _ _ _
   ·exact absurd hc (by simp[pD])
  ·rw[List.concat_eq_append]at *;have sn:pD (I++[r])=pD I++[.tuple [.int r.1,.int r.2]]:=by simp[pD]
   have lr':I.length+1<=k:=by simpa using lr
   have r12:=J.1 r (by simp)
   have rlo:r.1<=i:=lo r (by simp) (i,g) (by rw[dk];simp)
   have L:=cy.mp J.2;rw[sn]at new ⊢
   wp_walk using znO ?_,VA g0 (by lia) ?_
   all_goals first
    | (exfalso;simp at hc;done)
    | (exfalso;rename_i y;simp at y;done)
    | (simp[JB];lia)
    | skip
   ·refine zrM zi7 ?_
    wp_walk
    rw[List.set_append_right _ _ (aA _),iT];have mx:(if i+2 ^ g.toNat > r.2 then i+2 ^ g.toNat else r.2)=max r.2 (i+2 ^ g.toNat):=by split <;> lia
    refine hK _ _ _ _ _ ⟨rfl,I++[(r.1,max r.2 (i+2 ^ g.toNat))],?_,⟨fun s U=>?_,?_⟩,fun x=>?_,by simp;lia,fun s U b G=>?_⟩
    ·rw[mx];simp[pD]
    ·rcases aE.mp U with z|z
     ·exact J.1 s (by simp[z])
     ·cases aC.mp z;show r.1<max r.2 _;lia
    ·rw[cy];exact⟨L.1,cI _ _,fun a ha b G=>by cases aC.mp G;exact L.2.2 a ha r (by simp)⟩
    ·have Y:=S x;rw[Us,Uc]at Y;rw[Us,Uc,m1,<- Y];have nn:=QG (x:=x);show _\/(r.1<=x/\x<max r.2 (i+2 ^ g.toNat))\/_↔_
     constructor
     ·rintro(z|z|z)
      ·exact .inl (.inl z)
      ·by_cases w:x<r.2
       ·exact .inl (.inr (.inl ⟨z.1,w⟩))
       ·exact .inr (by lia)
      ·exact absurd z nn
     ·rintro((z|z|z)|z)
      ·exact .inl z
      ·exact .inr (.inl (by lia))
      ·exact absurd z nn
      ·exact .inr (.inl (by lia))
    ·rcases aE.mp U with z|z
     ·exact lo s (by simp[z]) b (by rw[dk];simp[G])
     ·cases aC.mp z;exact lo r (by simp) b (by rw[dk];simp[G])
   ·refine new (fun s U=>?_) _ _ _
    rcases aE.mp U with z|z
    ·have:=L.2.2 s z r (by simp);have:=J.1 r (by simp);lia
    ·cases aC.mp z;lia
 ·rintro a1 a2 a3 a4 m ⟨rfl,rs,rfl,J,S,lr,lo⟩;rw[JB]at S lr;rw[c9]at S
  wp_walk
  exact h rs J (fun x=>by rw[S x,zla pm]) (by lia)
def zjf:GD:=fun ts n R=>∃(bits:Int) (bs:qB) (t:af),ts=[t]/\(t=.list (pD bs)\/t=.tuple (pD bs))/\0<=bits/\bits<=64/\Bks bits bs/\bs.length<64/\∀ps,CanP (fun x=>mB x bs) ps->ps.length<=bs.length->R (.tuple (pD ps)) n
theorem zoj{bits:Int}{bs:qB}{t:af}{n:Nat}{R:qN}(v:t=.list (pD bs)\/t=.tuple (pD bs))(y:0<=bits)(C:bits<=64)(B:Bks bits bs)(l:bs.length<64)(h:∀ps,CanP (fun x=>mB x bs) ps->ps.length<=bs.length->R (.tuple (pD ps)) n):zjf [t] n R:=⟨bits,bs,t,rfl,v,y,C,B,l,h⟩
def ziQ(Z:ZZ):Prop:=FQ Z "fewest" (top 10) ["blocks"] 5 (spD Z.K 1 zjf)
theorem zkZ(D:Dq Z.K Z.mg "fewest" (top 10) ["blocks"]) (J:zc6 Z) (L:zdX Z) (T:Txt Z.mg):ziQ Z:=by
 refine' okQ D (fnS (N:=["blocks"]) (by decide +kernel)) rfl fun f U A outer s H E v=>⟨_,(Jc (Ji (Jd J v (dbc (Jd L v (dbv 0 Ja)) Ja)))),?_⟩
 intro ts n R hl h;obtain⟨bits,bs,t,rfl,S,u,I,B,l,h⟩:=h
 wp_walk using zhA S u I B l (fun rs y G Y=>?_)
 have w:=zpI u I y G fun x hx=>Z4 u B hx
 wp_walk using zfl w ?_ (fun ps P=>?_)
 ·lia
 ·have C:CanP (fun x=>mB x bs) ps:=⟨rs,y,G,P⟩
  exact h ps C (C.le u B)
def zb9:GD:=fun ts n R=>∃(rs:qB) (top:Int),ts=[.list (pD rs),.int top]/\NR rs/\(∀r∈rs,0<=r.1)/\0<=top/\rs.length<=100000/\∀(gs:qB) (B:Int),NR gs->(∀x,mR x gs↔0<=x/\x<B/\¬mR x rs)->gs.length<=rs.length+1->top<=B->(B=top\/∃r∈rs,B=r.2)->R (.list (pD gs)) n
theorem zf1{rs:qB}{top:Int}{n:Nat}{R:qN}(u:NR rs)(w:∀r∈rs,0<=r.1)(t0:0<=top)(l:rs.length<=100000)(h:∀(gs:qB) (B:Int),NR gs->(∀x,mR x gs↔0<=x/\x<B/\¬mR x rs)->gs.length<=rs.length+1->top<=B->(B=top\/∃r∈rs,B=r.2)->R (.list (pD gs)) n):zb9 [.list (pD rs),.int top] n R:=⟨rs,top,rfl,u,w,t0,l,h⟩
theorem zhE{rs:qB}{top:Int}{n:Nat}{R:qN}(y:NR rs)(w:∀r∈rs,0<=r.1/\r.2<=top)(t0:0<=top)(l:rs.length<=100000)(h:∀gs,NR gs->(∀x,mR x gs↔0<=x/\x<top/\¬mR x rs)->gs.length<=rs.length+1->R (.list (pD gs)) n):zb9 [.list (pD rs),.int top] n R:=zf1 y (fun r u=>(w r u).1) t0 l fun gs B G v C J I=>by
 have:B=top:=by
  rcases I with e|⟨r,u,e⟩
  ·exact e
  ·have:=(w r u).2;lia
 subst this;exact h gs G v C
def zdj(Z:ZZ):Prop:=FQ Z "gaps_below" (top 22) ["runs","top"] 1 (spD Z.K 2 zb9)
theorem zfB(D:Dq Z.K Z.mg "gaps_below" (top 22) ["runs","top"]) (T:Txt Z.mg):zdj Z:=by
 refine' okQ D (fnS (N:=["runs","top","gaps","begin","low","high"]) (by decide +kernel)) rfl fun f cdv A outer s H E C=>⟨_,(Jb (US (i:=2) (ndB rfl) rfl (er rfl) (Jt Ja)) (Jb (dsv 3 (ndB rfl) Je) (Jb (Qv cq rfl (zoR (Jk 0)) (JQ rfl (Jm (dgv 4 (ndB rfl)) (Jm (dgv 5 (ndB rfl)) JR))) (Jb (Jx (Jr (Qx C) Qw (dlv 3) (dlv 4) (Jl _)) (Jc (Qi 2 (Js (dbv 3 (dbv 4 Ja))))) Jz) (Jc (dsv 3 (ndB rfl) (Jk 5))))) (Jb (Jx (Jr (Qx C) Qw (dlv 3) (dlv 1) (Jl _)) (Jc (Qi 2 (Js (dbv 3 (dbv 1 Ja))))) Jz) (Ug 2 (Jc (Ji (Jk 2)))))))),?_⟩
 intro ts n R hl h;obtain⟨rs,top,rfl,nr,w,t0,l,h⟩:=h
 wp_walk
 refine Z6 2 3 4 5 (fun k a2 a3 _ _ m=>m=n/\∃(gs:qB) (G:Int),a2=some (.own (pD gs))/\a3=some (.val (.int G))/\NR gs/\(∀x,mR x gs↔0<=x/\x<G/\¬mR x (rs.take k))/\gs.length<=k/\0<=G/\(G=0\/∃r∈rs,G=r.2)/\(∀r∈rs.take k,r.2<=G)/\(∀g∈gs,g.2<G)/\(∀r∈rs.drop k,(k=0/\G=0/\G<=r.1)\/G<r.1)) ⟨rfl,[],0,rfl,rfl,⟨(fun r C=>nomatch C),.nil⟩,(fun x=>⟨fun z=>absurd z QG,fun z=>by lia⟩),aA _,bh _,.inl rfl,(fun r C=>nomatch C),(fun r C=>nomatch C),fun r C=>.inl ⟨rfl,rfl,w r C⟩⟩ ?_ ?_
 ·rintro k t' a2 a3 a4 a5 m K RT BK et ⟨rfl,gs,G,rfl,rfl,L,S,lg,be0,U,ti,gl,dr⟩ hK hRT hBK;obtain⟨lo,hi,Y,rfl⟩:=Yl et;have kl:=(av.mp Y).1;have mr:=aR Y;have J:=nr.1 _ mr;have J:lo<hi:=J;have wr:=w _ mr;have wr1:0<=lo:=wr;have tk:rs.take (k+1)=rs.take k++[(lo,hi)]:=by rw[fk,Y];rfl
  have dk:rs.drop k=(lo,hi)::rs.drop (k+1):=by
   rw[cA kl];congr 1;have:=aJ kl;rw[Y]at this;exact(aM this).symm
  have after:∀r∈rs.drop (k+1),hi<r.1:=fun r C=>by
   have:=(nr.2.sublist (kM k rs));rw[dk]at this;exact(eM.mp this).1 r C
  have here:=dr (lo,hi) (by rw[dk];simp)
  have here:G<=lo:=by rcases here with z|z;exact z.2.2;exact bf z
  have mt:∀x,mR x (rs.take (k+1))↔mR x (rs.take k)\/(lo<=x/\x<hi):=fun x=>by
   rw[tk,Us,Uc];constructor
   ·rintro(z|z|z)
    ·exact .inl z
    ·exact .inr z
    ·exact absurd z QG
   ·rintro(z|z)
    ·exact .inl z
    ·exact .inr (.inl z)
  have old:∀x,G<=x->¬mR x (rs.take k):=fun x hx ⟨r,C,h1,h2⟩=>by have:=ti r C;lia
  have go:∀(I:qB) (c4 c5:Option Cell),NR I->(∀x,mR x I↔mR x gs\/(G<=x/\x<lo))->I.length<=k+1->(∀g∈I,g.2<hi)->K [some (.val (.list (pD rs))),some (.val (.int top)),some (.own (pD I)),some (.val (.int hi)),c4,c5] m:=fun I c4 c5 n' m' l' g' =>
   hK _ _ _ _ _ ⟨rfl,I,hi,rfl,rfl,n',(fun x=>by
    rw[m',S,mt];have ox:=old x;constructor
    ·rintro(⟨a,b,c⟩|⟨a,b⟩)
     ·exact⟨a,by lia,fun z=>z.elim c fun z=>by lia⟩
     ·exact⟨by lia,by lia,fun z=>z.elim (ox a) fun z=>by lia⟩
    ·rintro⟨a,b,c⟩
     by_cases y:x<G
     ·exact .inl ⟨a,y,fun z=>c (.inl z)⟩
     ·refine .inr ⟨by lia,?_⟩
      by_cases u:x<lo
      ·exact u
      ·exact absurd (.inr ⟨by lia,b⟩) c),l',by lia,.inr ⟨_,mr,rfl⟩,(fun r C=>by
    rw[tk]at C;rcases aE.mp C with z|z
    ·have:=ti r z;lia
    ·cases aC.mp z;exact bh _),g',fun r C=>.inr (after r C)⟩
  wp_walk
  ·rw[JB];lia
  ·rw[Ut];refine go (gs++[(G,lo)]) _ _ ⟨fun r C=>?_,?_⟩ (fun x=>?_) (by simp;lia) fun g hg=>?_
   ·rcases aE.mp C with z|z
    ·exact L.1 r z
    ·cases aC.mp z;exact hc
   ·rw[cy];exact⟨L.2,cI _ _,fun a ha b hb=>by cases aC.mp hb;exact gl a ha⟩
   ·rw[Us,Uc];constructor
    ·rintro(z|z|z)
     ·exact .inl z
     ·exact .inr z
     ·exact absurd z QG
    ·rintro(z|z)
     ·exact .inl z
     ·exact .inr (.inl z)
   ·rcases aE.mp hg with z|z
    ·have:=gl g z;lia
    ·cases aC.mp z;exact J
  ·refine go gs _ _ L (fun x=>⟨.inl,fun z=>z.elim id fun z=>by lia⟩) (by lia) fun g hg=>?_
   have:=gl g hg;lia
 ·rintro a2 a3 a4 a5 m ⟨rfl,gs,G,rfl,rfl,L,S,lg,be0,U,ti,gl,dr⟩;rw[JB]at S lg ti;rw[c9]at S ti;have old:∀x,G<=x->¬mR x rs:=fun x hx ⟨r,C,h1,h2⟩=>by have:=ti r C;lia
  wp_walk
  ·rw[JB];lia
  ·rw[Ut];refine h (gs++[(G,top)]) top ⟨fun r C=>?_,?_⟩ (fun x=>?_) (by simp;lia) (bh _) (.inl rfl)
   ·rcases aE.mp C with z|z
    ·exact L.1 r z
    ·cases aC.mp z;exact hc
   ·rw[cy];exact⟨L.2,cI _ _,fun a ha b hb=>by cases aC.mp hb;exact gl a ha⟩
   ·rw[Us,Uc,S];have ox:=old x;constructor
    ·rintro(⟨a,b,c⟩|z|z)
     ·exact⟨a,by lia,c⟩
     ·exact⟨by have:=z.1;lia,z.2,ox z.1⟩
     ·exact absurd z QG
    ·rintro⟨a,b,c⟩
     by_cases y:x<G
     ·exact .inl ⟨a,y,c⟩
     ·exact .inr (.inl ⟨by show G<=x;lia,b⟩)
  ·refine h gs G L S (by lia) (by lia) ?_
   rcases U with z|z
   ·exact .inl (by lia)
   ·exact .inr z
def zhm:GD:=fun ts n R=>∃(bits:Int) (ps:qB),ts=[.int bits,.tuple (pD ps)]/\1<=bits/\bits<=64/\Bks bits ps/\ps.length<64/\∀v,CanP (fun x=>0<=x/\x<2 ^ bits.toNat/\¬mB x ps) v->v.length<=130*(ps.length+1)->R (.tuple (pD v)) n
theorem zmt{bits:Int}{ps:qB}{n:Nat}{R:qN}(y:1<=bits)(C:bits<=64)(B:Bks bits ps)(l:ps.length<64)(h:∀v,CanP (fun x=>0<=x/\x<2 ^ bits.toNat/\¬mB x ps) v->v.length<=130*(ps.length+1)->R (.tuple (pD v)) n):zhm [.int bits,.tuple (pD ps)] n R:=⟨bits,ps,rfl,y,C,B,l,h⟩
def zgm(Z:ZZ):Prop:=FQ Z "rest_of" (top 12) ["bits","patch"] 5 (spD Z.K 2 zhm)
theorem zjN(D:Dq Z.K Z.mg "rest_of" (top 12) ["bits","patch"]) (U:zc6 Z) (L:zdj Z) (Y:zdX Z) (T:Txt Z.mg):zgm Z:=by
 refine' okQ D (fnS (N:=["bits","patch"]) (by decide +kernel)) rfl fun f cdv A outer s H E u=>⟨_,(Jc (Ji (Jd U u (dbc (Jd L u (dbc (Jd Y u (dbv 1 Ja)) (dbc (JT dli (dlv 0)) Ja))) Ja)))),?_⟩
 intro ts n R hl h;obtain⟨bits,ps,rfl,b0,I,B,l,h⟩:=h
 wp_walk using zhA (.inr rfl) (by lia) I B l (fun rs y C lr=>?_)
 ·exact cpow (by lia) (by lia)
 have w:=zpI (by lia) I y C fun x hx=>Z4 (by lia) B hx
 have wt:∀r∈rs,0<=r.1/\r.2<=1*2 ^ bits.toNat:=fun r u=>by
  have lt:=y.1 r u;have:=Z4 (by lia) B ((C (r.2 - 1)).mp ⟨r,u,by lia,by lia⟩)
  have:=(w r u).1;rw[Qc];lia
 have tp:=JA bits.toNat
 wp_walk using zhE y wt (by lia) (by lia) (fun gs J mg lg=>?_)
 have v:∀x,mR x gs↔0<=x/\x<2 ^ bits.toNat/\¬mB x ps:=fun x=>by rw[mg,Qc,C]
 have G:=zpI (by lia) I J v fun x hx=>⟨hx.1,hx.2.1⟩
 wp_walk using zfl G ?_ (fun S P=>?_)
 ·lia
 ·have:=P.len fun r u=>⟨(G r u).1,(G r u).2.2⟩
  exact h S ⟨gs,J,v,P⟩ (by lia)
def zb_:GD:=fun ts n R=>∃xs:List (af×af),ts=[.tuple (ppD xs)]/\xs.length<=1000000/\R (.tuple (xs.map (·.1))) n
theorem zhF{xs:List (af×af)}{n:Nat}{R:qN}(l:xs.length<=1000000)(h:R (.tuple (xs.map (·.1))) n):zb_ [.tuple (ppD xs)] n R:=⟨xs,rfl,l,h⟩
def zdk(Z:ZZ):Prop:=FQ Z "all_blocks" (top 26) ["pairs"] 1 (spD Z.K 1 zb_)
theorem zfC(D:Dq Z.K Z.mg "all_blocks" (top 26) ["pairs"]) (T:Txt Z.mg):zdk Z:=by
 refine' okQ D (fnS (N:=["pairs"]) (by decide +kernel)) rfl fun f x A outer s H E y=>⟨_,(Jc (Ji (Qk Ue Q6 T.tup QK (Jf (dl (Jj (dnc ["block","name"] [] (dil (Qp (Jk 0))) (fun _ _ _ _=>(JQ rfl (Jm (dgv 0 (ndB rfl)) (Jm (dgv 1 (ndB rfl)) JR)))) (fun _ _ _ _=>(Jk 0))))) Jn U0)))),?_⟩
 intro ts n R I h;obtain⟨xs,rfl,l,h⟩:=h
 wp_walk
 refine Uf (cs:=xs) (D:=fun p=>.tuple [p.1,p.2]) (fun p=>p.1) (by lia) ?_ ?_
 ·intro p J C G v
  wp_walk
  exact v
 ·wp_walk
  exact h
def zcG:GD:=fun ts n R=>∃(d:Deal) (nm:af),ts=[dlD d,nm]/\UK nm/\(∀p∈d.2.2,IsNm p.2)/\d.2.2.length<=1000000/\R (.tuple (pD (JV d nm))) n
theorem ziq{d:Deal}{nm:af}{n:Nat}{R:qN}(hw:UK nm)(v:∀p∈d.2.2,IsNm p.2)(l:d.2.2.length<=1000000)(h:R (.tuple (pD (JV d nm))) n):zcG [dlD d,nm] n R:=⟨d,nm,rfl,hw,v,l,h⟩
def zdY(Z:ZZ):Prop:=FQ Z "kept_from" (top 28) ["deal","name"] 1 (spD Z.K 2 zcG)
theorem zgw(D:Dq Z.K Z.mg "kept_from" (top 28) ["deal","name"]) (T:Txt Z.mg):zdY Z:=by
 refine' okQ D (fnS (N:=["deal","name"]) (by decide +kernel)) rfl fun f I A outer s H E G=>⟨_,(Jc (Ji (Qk Ue Q6 T.tup QK (Jf (dl (Jj (dnf ["block","theirs"] [1] (dil (Qp (Jh (dlv 0) dli))) (fun _ _ _ _=>(JQ rfl (Jm (dgv 0 (ndB rfl)) (Jm (dgv 1 (ndB rfl)) JR)))) (fun _ _ _ _=>(Uw (Jr (QW G) QQ (dlv 1) (dlv 2) (Jl _)))) (fun _ _ _ _=>(Jk 0))))) Jn U0)))),?_⟩
 intro ts n R U h;obtain⟨d,nm,rfl,hw,C,l,h⟩:=h;obtain⟨bits,os,v⟩:=d;have l:v.length<=1000000:=l;have C:∀p∈v,IsNm p.2:=C;rw[show dlD (bits,os,v)=.tuple [.int bits,.tuple (oD os),.tuple (oD v)] from rfl]
 wp_walk
 refine UE (cs:=v) (D:=fun p=>.tuple [prD p.1,.str p.2]) (fun p=>!who p.2 nm) (fun p=>prD p.1) (by lia) ?_ ?_
 ·intro p J L S x y;rcases hw with rfl|⟨s,rfl,ns⟩
  ·wp_walk
   ·exact(YW (C p J)).okd
   ·exact x rfl
  ·wp_walk
   ·exact y (by show(!decide (p.2=s))=false;rw[decide_eq_true hc];rfl)
   ·exact x (by show(!decide (p.2=s))=true;rw[decide_eq_false hc];rfl)
 ·wp_walk
  have:((v.filter fun p=>!who p.2 nm).map fun p=>prD p.1)=pD (JV (bits,os,v) nm):=by
   unfold pD JV;rw[cH];rfl
  rw[this];exact h
def Free(d:Deal)(nm:af)(x:Int):Prop:=0<=x/\x<2 ^ d.1.toNat/\¬mB x (d.2.1.map (·.1))/\¬mB x (JV d nm)
theorem ze7{d:Deal}{nm:af}:∀b∈JV d nm,b∈d.2.2.map (·.1):=fun b u=>by
 obtain⟨p,l,rfl⟩:=aS.mp u;exact aS.mpr ⟨p,(cj.mp l).1,rfl⟩
theorem ze8{d:Deal}{nm:af}:(JV d nm).length<=d.2.2.length:=by
 unfold JV;rw[aL];exact cU _ _
def zfc:GD:=fun ts n R=>∃(d:Deal) (nm:af),ts=[dlD d,nm]/\Dl d/\UK nm/\d.2.1.length+d.2.2.length<64/\∀v,CanP (Free d nm) v->v.length<=130*(d.2.1.length+d.2.2.length+1)->R (.tuple (pD v)) n
theorem zj6{d:Deal}{nm:af}{n:Nat}{R:qN}(D:Dl d)(hw:UK nm)(l:d.2.1.length+d.2.2.length<64)(h:∀v,CanP (Free d nm) v->v.length<=130*(d.2.1.length+d.2.2.length+1)->R (.tuple (pD v)) n):zfc [dlD d,nm] n R:=⟨d,nm,rfl,D,hw,l,h⟩
def ze3(Z:ZZ):Prop:=FQ Z "free_for" (top 25) ["deal","name"] 6 (spD Z.K 2 zfc)
theorem zh2(D:Dq Z.K Z.mg "free_for" (top 25) ["deal","name"]) (H0:zgm Z) (Im:ziQ Z) (HB:zdk Z) (HI:zdY Z) (T:Txt Z.mg):ze3 Z:=by
 refine' okQ D (fnS (N:=["deal","name","bits","outs","kept"]) (by decide +kernel)) rfl fun f cdv A outer s H E y=>⟨_,(Jb (QT (Jk 0) (JQ rfl (Jm (dgv 2 (ndB rfl)) (Jm (dgv 3 (ndB rfl)) (Jm (dgv 4 (ndB rfl)) JR))))) (Jc (Ji (Jd H0 y (dbv 2 (dbc (Jd Im y (dbc (JF (dl (Jd HB y (dbv 3 Ja))) (dl (Jd HI y (dbv 0 (dbv 1 Ja))))) Ja)) Ja)))))),?_⟩
 intro ts n R hl h;obtain⟨d,nm,rfl,D,hw,l,h⟩:=h;obtain⟨bits,os,v⟩:=d;obtain⟨L,I,J,G,ag⟩:=D;have L:1<=bits:=L;have I:bits<=64:=I;have J:Shr bits os:=J;have G:Shr bits v:=G;have l:os.length+v.length<64:=l;have U:=ze8 (d:=(bits,os,v)) (nm:=nm);have U:(JV (bits,os,v) nm).length<=v.length:=U;have eo:(os.map fun p=>(prD p.1,gf p.2)).map (·.1)=pD (os.map (·.1)):=by simp[pD]
 have B:Bks bits (os.map (·.1)++JV (bits,os,v) nm):=fun b hb=>by
  rcases aE.mp hb with z|z
  ·exact J.1.1 b z
  ·exact G.1.1 b (ze7 b z)
 rw[show dlD (bits,os,v)=.tuple [.int bits,.tuple (oD os),.tuple (oD v)] from rfl]
 have kf:∀{n:Nat} {R:qN},R (.tuple (pD (JV (bits,os,v) nm))) n->zcG [.tuple [.int bits,.tuple (oD os),.tuple (oD v)],nm] n R:=fun {n R} z=>ziq (d:=(bits,os,v)) hw (fun p hp=>G.2 p hp) (by show v.length<=_;lia) z
 have ab:∀{n:Nat} {R:qN},R (.tuple (pD (os.map (·.1)))) n->zb_ [.tuple (oD os)] n R:=fun {n R} z=>by
  rw[zvM];exact zhF (by simp;lia) (by rw[eo];exact z)
 wp_walk using kf ?_,ab ?_
 ·rw[JB,JB,aL];lia
 rw[Z9]
 wp_walk using zoj (.inr rfl) (by lia) I B ?_ (fun ps C Y=>?_)
 ·simp;lia
 have Y:ps.length<=os.length+v.length:=by rw[aY,aL]at Y;lia
 have Bp:=(C.ptc (bits:=bits) (by lia) fun x hx=>Z4 (by lia) B hx).1
 wp_walk using zmt L I Bp (by lia) (fun S Q lq=>?_)
 refine h S ?_ (by show S.length<=130*(os.length+v.length+1);lia)
 obtain⟨rs,r1,r2,r3⟩:=Q;refine⟨rs,r1,fun x=>?_,r3⟩
 rw[r2];show(0<=x/\x<2 ^ bits.toNat/\¬mB x ps)↔Free (bits,os,v) nm x
 rw[C.mem,Zh];show _↔0<=x/\x<2 ^ bits.toNat/\¬mB x (os.map (·.1))/\¬mB x (JV (bits,os,v) nm)
 constructor
 ·rintro⟨a,b,c⟩;exact⟨a,b,fun z=>c (.inl z),fun z=>c (.inr z)⟩
 ·rintro⟨a,b,c,e⟩;exact⟨a,b,fun z=>z.elim c e⟩
def htD(bits:Int):af->Bool|.int i=>decide (0<=i)&&decide (i<=bits)|_=>false
def zem:GD:=fun ts n R=>∃(bits:Int) (d:af),ts=[.int bits,d]/\Pln d/\R (.bool (htD bits d)) n
theorem zir{bits:Int}{d:af}{n:Nat}{R:qN}(p:Pln d)(h:R (.bool (htD bits d)) n):zem [.int bits,d] n R:=⟨bits,d,rfl,p,h⟩
def zdZ(Z:ZZ):Prop:=FQ Z "is_height" (top 33) ["bits","thing"] 2 (spD Z.K 2 zem)
theorem zgx(D:Dq Z.K Z.mg "is_height" (top 33) ["bits","thing"]) (v:VR Z) (T:Txt Z.mg):zdZ Z:=by
 refine' okQ D (fnS (N:=["bits","thing"]) (by decide +kernel)) rfl fun f x A outer s H E u=>⟨_,(Jc (Ji (Zw (Jd v u (dbv 1 Ja)) (Uo (VB Qf Qe Qf Qe dli (dlv 1) (dlv 0)))))),?_⟩
 intro ts n R y h;obtain⟨bits,d,rfl,p,h⟩:=h;cases d with
 | int i =>
  have h:R (.bool (decide (0<=i)&&decide (i<=bits))) n:=h
  wp_walk using Uh (b:=true) rfl p ?_
  ·rw[decide_eq_true hc,dN]at h;exact h
  ·rw[decide_eq_false hc,cC]at h;exact h
 | _ =>
  wp_walk using Uh (b:=false) rfl p ?_
  exact h
def adD(bits:Int):af->Bool|.int i=>decide (0<=i)&&decide (i<2 ^ bits.toNat)|_=>false
def zdu:GD:=fun ts n R=>∃(bits:Int) (d:af),ts=[.int bits,d]/\0<=bits/\bits<=64/\Pln d/\R (.bool (adD bits d)) n
theorem zhD{bits:Int}{d:af}{n:Nat}{R:qN}(u:0<=bits)(v:bits<=64)(p:Pln d)(h:R (.bool (adD bits d)) n):zdu [.int bits,d] n R:=⟨bits,d,rfl,u,v,p,h⟩
def zdi(Z:ZZ):Prop:=FQ Z "is_address" (top 34) ["bits","thing"] 2 (spD Z.K 2 zdu)
theorem zfA(D:Dq Z.K Z.mg "is_address" (top 34) ["bits","thing"]) (v:VR Z) (T:Txt Z.mg):zdi Z:=by
 refine' okQ D (fnS (N:=["bits","thing"]) (by decide +kernel)) rfl fun f x A outer s H E u=>⟨_,(Jc (Ji (Zw (Jd v u (dbv 1 Ja)) (Uo (VB Qf Qe (Qx u) Qw dli (dlv 1) (dl (JT dli (dlv 0)))))))),?_⟩
 intro ts n R C h;obtain⟨bits,d,rfl,y,G,p,h⟩:=h;cases d with
 | int i =>
  have h:R (.bool (decide (0<=i)&&decide (i<2 ^ bits.toNat))) n:=h
  wp_walk using Uh (b:=true) rfl p ?_
  all_goals first
   | exact cpow (by lia) (by lia)
   | skip
  ·rw[decide_eq_true hc,dN]at h;rw[Qc];exact h
  ·rw[decide_eq_false hc,cC]at h;exact h
 | _ =>
  wp_walk using Uh (b:=false) rfl p ?_
  exact h
def ptD(bits:Int)(k:Str)(d:af):Bool:=if k=ae "height" then htD bits d else if k=ae "address" then adD bits d else Q5 bits d
def zhn:GD:=fun ts n R=>∃(bits:Int) (k:Str) (d:af),ts=[.int bits,.str k,d]/\0<=bits/\bits<=64/\PlnD d/\R (.bool (ptD bits k d)) n
theorem zmu{bits:Int}{k:Str}{d:af}{n:Nat}{R:qN}(u:0<=bits)(v:bits<=64)(p:PlnD d)(h:R (.bool (ptD bits k d)) n):zhn [.int bits,.str k,d] n R:=⟨bits,k,d,rfl,u,v,p,h⟩
theorem zrT{d:af}(h:PlnD d):Pl2 d:=⟨h.pln,fun ts e t u=>by subst e;exact(h.tup.2 t u).pln⟩
def zgn(Z:ZZ):Prop:=FQ Z "is_part" (top 32) ["bits","kind","thing"] 3 (spD Z.K 3 zhn)
theorem zjO(D:Dq Z.K Z.mg "is_part" (top 32) ["bits","kind","thing"]) (C:ze2 Z) (y:zdZ Z) (G:zdi Z) (T:Txt Z.mg):zgn Z:=by
 refine' okQ D (fnS (N:=["bits","kind","thing"]) (by decide +kernel)) rfl fun f I A outer s H E l=>⟨_,(Jb (Jx (Jr (QH l) QB (dlv 1) (dl Qz) (Jl _)) (Jc (Ji (Jd y l (dbv 0 (dbv 2 Ja))))) Jz) (Jb (Jx (Jr (QH l) QB (dlv 1) (dl Qz) (Jl _)) (Jc (Ji (Jd G l (dbv 0 (dbv 2 Ja))))) Jz) (Jc (Ji (Jd C l (dbv 0 (dbv 2 Ja))))))),?_⟩
 intro ts n R J h;obtain⟨bits,k,d,rfl,v,x,p,h⟩:=h;unfold ptD at h
 wp_walk using zir p.pln ?_,zhD v x p.pln ?_,zj5 v x (zrT p) ?_
 ·rw[if_pos hc]at h;exact h
 ·rename_i u;rw[if_neg u,if_pos hc]at h;exact h
 ·rename_i u;rw[if_neg u,if_neg hc]at h;exact h
def Yn:List (Str×List Str):=[(ae "take",[ae "height"]),(ae "near",[ae "height",ae "address"]),(ae "give",[ae "block"]),(ae "grow",[ae "block"]),(ae "keep",[ae "block"]),(ae "loose",[ae "block"]),(ae "move",[ae "block",ae "block"])]
def hEq:List af->Bool
 | [.tuple [_,.int g],.tuple [_,.int h]]=>decide (g=h)
 | _=>false
def prtD(bits:Int)(w:Str)(ps:qD):Bool:=match getT Yn w with
 | none=>false
 | some u=>decide (ps.length=u.length)&&((u.zip ps).all fun q=>ptD bits q.1 q.2)&&(decide (w≠ae "move")||hEq ps)
def dedD(bits:Int):af->Bool
 | .tuple (.str w::nm::ps)=>nmD nm&&prtD bits w ps
 | _=>false
def zhp:GD:=fun ts n R=>∃(bits:Int) (d:af),ts=[.int bits,d]/\0<=bits/\bits<=64/\PlnD d/\R (.bool (dedD bits d)) n
theorem zmv{bits:Int}{d:af}{n:Nat}{R:qN}(u:0<=bits)(v:bits<=64)(p:PlnD d)(h:R (.bool (dedD bits d)) n):zhp [.int bits,d] n R:=⟨bits,d,rfl,u,v,p,h⟩
theorem zhL{bits:Int}{d:af}(h:Q5 bits d=true):∃b g:Int,d=.tuple [.int b,.int g]:=by
 unfold Q5 at h;split at h
 ·exact⟨_,_,rfl⟩
 ·cases h
theorem zmU{l:List Str}{ps:qD}:zipD (l.map gf) ps=(l.zip ps).map fun q=>iU [.str q.1,q.2]:=by
 unfold zipD;rw[List.zip_map_left,cH]
 rfl
theorem zkD{bits:Int}{d:af}:ptD bits (ae "block") d=Q5 bits d:=by
 unfold ptD;rw[if_neg (by decide +kernel),if_neg (by decide +kernel)]
theorem zpR:getT Yn (ae "move")=some [ae "block",ae "block"]:=by decide +kernel
def zgp(Z:ZZ):Prop:=FQ Z "is_deed" (top 31) ["bits","thing"] 4 (spD Z.K 2 zhp)
theorem zjQ(D:Dq Z.K Z.mg "is_deed" (top 31) ["bits","thing"]) (Ia:zgo Z) (Ib:zgn Z) (L:StD Z.P Z.w Z.K Z.mg "PARTS" Yn) (T:Txt Z.mg):zgp Z:=by
 refine' okQ D (fnS (N:=["bits","thing","word","name","parts","kinds"]) (by decide +kernel)) rfl fun f cdv A outer s H E y=>⟨_,(Jb (Jx (QA (QP (Qq (J1 (dl (Ym zjc T.isi T.tup QK (dlv 1) Jq)))) (Uq (Jr (Qx y) Qw (dl (Jv UB Ur T.len Q8 (Jf (dlv 1) Jn Jq))) dli (Jl _))))) (Jc (Ji QN)) Jz) (Jb (zqs (i:=2) (j:=3) (k:=4) rfl (ndB rfl) rfl rfl rfl (er rfl) (er rfl) (er rfl) (Jk 1)) (Jb (Jx (QA (QP (Qq (J1 (dl (Ym zoM T.isi T.str zhI (dlv 2) Jq)))) (QP (zqr L (Jk 2)) (Uq (Qq (J1 (dl (Jd Ia y (dbv 3 Ja))))))))) (Jc (Ji QN)) Jz) (Jb (dsv 5 (ndB rfl) (zqB L (Jk 2))) (Jb (Jx (Jr (QW y) QQ (dl (Jv UB Ur T.len Q8 (Jf (dlv 4) Jn Jq))) (dl (Jv UB Ur T.len Q8 (Jf (dlv 5) Jn Jq))) (Jl _)) (Jc (Ji QN)) Jz) (Jb (Jx (Qq (J1 (dl (Jv (zeF rfl) zlN T.all zeI (Jf (dl (Jj (dnc ["kind","part"] [0] (dil (ztV T.zip (Jk 5) (Jk 4))) (fun _ _ _ _=>(JQ rfl (Jm (dgv 0 (ndB rfl)) (Jm (dgv 1 (ndB rfl)) JR)))) (fun _ _ _ _=>(Jd Ib y (dbv 2 (dbv 0 (dbv 1 Ja)))))))) Jn U0))))) (Jc (Ji QN)) Jz) (Jc (Ji (zoT (Qo (QW y) QQ (dlv 2) (dl Qz) (Jl _)) (Uo (Qo (QH y) QB (dl (Jh (dl (Jh (dlv 4) dli)) dli)) (dl (Jh (dl (Jh (dlv 4) dli)) dli)) (Jl _)))))))))))),?_⟩
 intro ts n R hl h;obtain⟨bits,d,rfl,Y,b1,p,h⟩:=h;cases d with
 | dict C =>
  cases C with
  | nil =>
   wp_walk
   exact h
  | cons a b=>exact absurd rfl p.pln
 | tuple ts =>
  obtain⟨l6,G⟩:=p.tup
  match ts,G,h with
  | [],_,h =>
   wp_walk
   all_goals first|exact h|(exfalso;simp at hc;done)
  | [x],_,h =>
   have e:dedD bits (.tuple [x])=false:=by unfold dedD;split <;> simp_all
   rw[e]at h
   wp_walk
   all_goals first|exact h|(exfalso;simp at hc;done)
  | x::nm::ps,G,h =>
   have pn:=G nm (by simp)
   cases x with
   | str w =>
    have e:dedD bits (.tuple (.str w::nm::ps))=(nmD nm&&prtD bits w ps):=rfl;rw[e]at h;unfold prtD at h;cases g:getT Yn w with
    | none =>
     rw[g]at h;simp only[hW]at h
     wp_walk using zhC pn ?_
     all_goals first|exact h|(exfalso;simp at hc;done)|(exfalso;rw[g]at *;simp at *;done)
    | some C =>
     rw[g]at h;dsimp only at h
     wp_walk using zhC pn ?_
     ·exfalso;simp at hc;lia
     ·rename_i h1 h2;rw[hc,dN]at h;refine⟨C,g,?_⟩
      wp_walk
      ·have I:ps.length=C.length:=by simp at hc;lia
       rw[decide_eq_true I,dN]at h;rw[zmU];refine Uf (cs:=C.zip ps) (D:=fun q:Str×af=>iU [.str q.1,q.2]) (fun q=>.bool (ptD bits q.1 q.2)) (by rw[iL];simp at l6;lia) ?_ ?_
       ·intro q S K2 X2 J;have pq:=G q.2 (by have:=(cY S).2;simp[this])
        wp_walk using zmu Y b1 pq ?_
        exact J
       ·wp_walk using zlI ?_
        ·rename_i v;subst hc;rw[v,dN,decide_eq_false (fun z:ae "move" ≠ ae "move"=>z rfl),Bool.false_or]at h
         rw[zpR]at g;cases g
         match ps,I,v,h with
         | [p0,p1],_,v,h =>
          simp only[i9,nB,List.all_cons,List.all_nil,iC,aG,zkD]at v;obtain⟨b',g',rfl⟩:=zhL v.1;obtain⟨b'',g'',rfl⟩:=zhL v.2
          wp_walk
          exact h
        ·rename_i v;rw[v,dN,decide_eq_true hc,Bool.true_or]at h;exact h
        ·rw[hc,cC]at h;exact h
      ·have I:¬ps.length=C.length:=by simp at hc;lia
       rw[decide_eq_false I,cC,cC]at h;exact h
     ·rw[hc,cC]at h;exact h
     ·exfalso;rw[g]at hc;cases hc
   | dict ds =>
    have U:=G _ (c8 ..);cases ds with
    | nil =>
     have h:R (.bool false) n:=h
     wp_walk
     all_goals first|exact h|(exfalso;simp at hc;lia)
    | cons a b=>exact absurd rfl U.pln
   | _ =>
    have h:R (.bool false) n:=h
    wp_walk
    all_goals first|exact h|(exfalso;simp at hc;lia)
 | _ =>
  wp_walk
  exact h
def zdt:GD:=fun ts n R=>∃(a:Int) (b:Int×Int),ts=[.int a,.tuple [.int b.1,.int b.2]]/\0<=b.2/\b.2<=64/\R (.int (clB a b)) n
theorem zhB{a:Int}{b:Int×Int}{n:Nat}{R:qN}(h0:0<=b.2)(v:b.2<=64)(h:R (.int (clB a b)) n):zdt [.int a,.tuple [.int b.1,.int b.2]] n R:=⟨a,b,rfl,h0,v,h⟩
def zdh(Z:ZZ):Prop:=FQ Z "nearest_to" (top 54) ["address","block"] 3 (spD Z.K 2 zdt)
theorem zfz(D:Dq Z.K Z.mg "nearest_to" (top 54) ["address","block"]) (u:VL Z) (T:Txt Z.mg):zdh Z:=by
 refine' okQ D (fnS (N:=["address","block"]) (by decide +kernel)) rfl fun f v A outer s H E l=>⟨_,(Jc (Ji (Jv (U1 rfl) UU T.min QZ (Jf (dl (Jv (ZC rfl) Y0 T.max Yv (Jf (dlv 0) (Jf (dl (Jh (dlv 1) dli)) Jn Y7) Jq))) (Jf (dl (JZ (dl (Jd u l (dbv 1 Ja))) dli)) Jn QJ) QY)))),?_⟩
 intro ts n R y h;obtain⟨a,b,rfl,h0,x,h⟩:=h;unfold clB eB at h
 wp_walk using VA ?_ ?_ ?_
 ·exact h0
 ·lia
 ·exact h
def exO(os:List NP)(nm:Str)(gs cs:BL):List NP:=(os.filter fun p=>decide (p.1∉gs))++cs.map fun b=>(b,nm)
theorem zoW{gs:BL}{b:Int×Int}:((pD gs).any fun t=>t.eqv (prD b))=decide (b∈gs):=by
 rw[fF,List.any_eq_true,decide_eq_true_eq];constructor
 ·rintro⟨t,l,e⟩;obtain⟨c,hc,rfl⟩:=aS.mp l;have:c=b:=by simpa[prD,dH,fM,t7] using e
  exact this▸hc
 ·intro u;exact⟨prD b,aS.mpr ⟨b,u,rfl⟩,by simp[prD,dH,fM]⟩
def zen:GD:=fun ts n R=>∃(d:Deal) (nm:Str) (gs cs:BL),ts=[dlD d,.str nm,.tuple (pD gs),.tuple (pD cs)]/\d.2.1.length+cs.length<64/\d.2.1.length+cs.length<=1000/\gs.length<=1000 /\
 ∀rs:List NP,rs.Perm (exO d.2.1 nm gs cs)->rs.Pairwise (fun a b=>npRk rs a<=npRk rs b)->R (dlD (d.1,rs,d.2.2)) n
theorem zis{d:Deal}{nm:Str}{gs cs:BL}{n:Nat}{R:qN}(l:d.2.1.length+cs.length<64)(v:d.2.1.length+cs.length<=1000)(l2:gs.length<=1000)(h:∀rs:List NP,rs.Perm (exO d.2.1 nm gs cs)->rs.Pairwise (fun a b=>npRk rs a<=npRk rs b)->R (dlD (d.1,rs,d.2.2)) n):zen [dlD d,.str nm,.tuple (pD gs),.tuple (pD cs)] n R:=⟨d,nm,gs,cs,rfl,l,v,l2,h⟩
def zd0(Z:ZZ):Prop:=FQ Z "exchanged" (top 55) ["deal","name","gone","come"] 1 (spD Z.K 4 zen)
theorem zgy(D:Dq Z.K Z.mg "exchanged" (top 55) ["deal","name","gone","come"]) (T:Txt Z.mg):zd0 Z:=by
 refine' okQ D (fnS (N:=["deal","name","gone","come","bits","outs","kept","staying"]) (by decide +kernel)) rfl fun f S A outer s H E C=>⟨_,(Jb (QT (Jk 0) (JQ rfl (Jm (dgv 4 (ndB rfl)) (Jm (dgv 5 (ndB rfl)) (Jm (dgv 6 (ndB rfl)) JR))))) (Jb (Vs (VD (i:=7) (ndB rfl) rfl (er rfl) (own:=["pair"]) (capt:=[2]) rfl (JK.of rfl) (dil (Qp (Jk 5))) (fun _ _ _ _=>(dgv 0 (ndB rfl))) (by decide) (fun _ _ _ _=>(Uw (Jr (zkS C) zn1 (dl (Jh (dlv 0) dli)) (dlv 1) rfl))) (fun _ _ _ _=>(Jk 0)))) (Jc (Ji (Js (dbv 4 (dbc (Qk Ue Q6 T.tup QK (Jf (dl (Jj (zeu C T.srt (dl (Jj (Yg (dlv 7) (dl (Jj (dnc ["block"] [1] (dil (Qp (Jk 3))) (fun _ _ _ _=>(dgv 0 (ndB rfl))) (fun _ _ _ _=>(Js (dbv 0 (dbv 1 Ja)))))))))) QJ))) Jn QY)) (dbv 6 Ja)))))))),?_⟩
 intro ts n R hl h;obtain⟨⟨bits,os,G⟩,nm,gs,cs,rfl,l,I,l2,h⟩:=h;have l:os.length+cs.length<64:=l;have I:os.length+cs.length<=1000:=I;have e:dlD (bits,os,G)=.tuple [.int bits,.tuple (oD os),.tuple (oD G)]:=rfl;rw[e]
 wp_walk
 refine UE (cs:=os) (D:=fun p=>.tuple [prD p.1,.str p.2]) (fun p=>decide (p.1∉gs)) (fun p=>.tuple [prD p.1,.str p.2]) (by lia) ?_ ?_
 ·intro p hp U X2 y v
  wp_walk
  ·exact Yo
  ·intro t L;obtain⟨b,_,rfl⟩:=aS.mp L;exact Yo
  ·rw[zoW]at hc;exact v (by simpa using hc)
  ·rw[zoW]at hc;exact y (by simpa using hc)
 ·wp_walk
  refine Uf (cs:=cs) (D:=prD) (fun b=>.tuple [prD b,.str nm]) (by lia) ?_ ?_
  ·intro b Y K X J
   wp_walk
   exact J
  ·have lf:(os.filter fun p=>decide (p.1∉gs)).length<=os.length:=cU ..
   wp_walk
   ·simp only[aL];lia
   refine⟨exO os nm gs cs,?_,?_,fun x pm pw=>?_⟩
   ·simp only[oD,exO,eh,cH];rfl
   ·simp only[exO,aL,aY];lia
   ·wp_walk
    exact h x pm (pw.imp fun {a b} h=>by unfold npRk at h ⊢;rw[(pm.filter _).length_eq,(pm.filter _).length_eq];exact h)
def zoN:GX:=fun ts n R v=>∃(d:Deal) (w:af) (nm:Str) (h a:Int),ts=[dlD d,.tuple [w,.str nm,.int h,.int a]]/\Dl d/\IsNm nm/\0<=h/\h<=d.1/\d.2.1.length+d.2.2.length+1<64/\d.2.1.length+d.2.2.length<=900/\((∀x,¬Fb d.1 (Free d (.str nm)) h x)->v (ae "NoRoom") n) /\
 ∀x,Best d.1 (Free d (.str nm)) h a x->∀rs:List NP,rs.Perm (d.2.1++[((x,h),nm)])->rs.Pairwise (fun a b=>npRk rs a<=npRk rs b)->R (.tuple [dlD (d.1,rs,d.2.2),.tuple [.int x,.int h]]) n
theorem zqp{os:List NP}{nm:Str}{cs:BL}:exO os nm [] cs=os++cs.map fun b=>(b,nm):=by simp[exO]
def zoz(Z:ZZ):Prop:=FQX Z "near" (top 44) ["deal","deed"] 7 2 zoN
theorem zpA(D:Dq Z.K Z.mg "near" (top 44) ["deal","deed"]) (HD:zdh Z) (HK:zd0 Z) (HW:ze3 Z) (Io:ziR Z) (Ip:OwnE Z.K Z.mg "NoRoom") (T:Txt Z.mg):zoz Z:=by
 refine' okX D (fnS (N:=["deal","deed","name","height","address","spots","far","block"]) (by decide +kernel)) rfl fun f cdv A outer s H E G=>⟨_,(Jb (QT (ZD (dlv 1) (Ub Je) Ua) (JQ rfl (Jm (dgv 2 (ndB rfl)) (Jm (dgv 3 (ndB rfl)) (Jm (dgv 4 (ndB rfl)) JR))))) (Jb (Vs (VD (i:=5) (ndB rfl) rfl (er rfl) (own:=["block"]) (capt:=[4,3]) rfl (JK.of rfl) (dil (Qp (Jd HW G (dbv 0 (dbv 2 Ja))))) (fun _ _ _ _=>(dgv 0 (ndB rfl))) (by decide) (fun _ _ _ _=>(Uw (Jr zsk gp_B (dl (Jh (dlv 0) dli)) (dlv 2) (Jl _)))) (fun _ _ _ _=>(Jd HD G (dbv 1 (dbv 0 Ja)))))) (Jb (Jx (Qq (J1 (dlv 5))) (Jc (zjm Ip)) Jz) (Jb (QT (Jv (zmn G rfl) zqj T.min QZ (Jf (dl (Jj (dnc ["spot"] [3,4] (dil (QF (Jk 5))) (fun _ _ _ _=>(dgv 0 (ndB rfl))) (fun _ _ _ _=>(Js (dbc (Jv zoi ztG T.abs zmy (Jf (dl (JZ (dlv 2) (dlv 0))) Jn QJ)) (dbc (Jd Io G (dbc (Js (dbv 0 (dbc Je Ja))) (dbv 1 Ja))) Ja))))))) Jn U0)) (JQ rfl (Jm (dgv 6 (ndB rfl)) (Jm (dgv 7 (ndB rfl)) JR)))) (Jc (Ji (Js (dbc (Jd HK G (dbv 0 (dbv 2 (dbc (Js Ja) (dbc (Js (dbv 7 Ja)) Ja))))) (dbv 7 Ja))))))))),?_⟩
 intro ts n R Rx hl hh;obtain⟨d,w,nm,h,a,rfl,D,hn,h0,h1,l,l2,k1,k2⟩:=hh
 wp_walk
 rw[show cutD [w,.str nm,.int h,.int a] (some 1) none=[.str nm,.int h,.int a] from rfl]
 have hw:UK (.str nm):=.inr ⟨nm,rfl,hn⟩;have b0:1<=d.1:=D.1;have b1:d.1<=64:=D.2.1;have Y:∀x,Free d (.str nm) x->0<=x/\x<2 ^ d.1.toNat:=fun x hx=>⟨hx.1,hx.2.1⟩
 wp_walk using zj6 D hw ?_ (fun y C lq=>?_)
 ·lia
 have P:=(C.ptc (bits:=d.1) (by lia) Y).1
 refine UE (cs:=y) (D:=prD) (fun q=>decide (h<=q.2)) (fun q=>.int (clB a q)) (by lia) ?_ ?_
 ·intro q v K2 X2 S hX2;have:=(P q v).1;have:=(P q v).2.1
  wp_walk using zhB ?_ ?_ ?_
  ·lia
  ·lia
  ·exact S (decide_eq_true hc)
  ·exact hX2 (decide_eq_false hc)
 ·have hf:∀q∈y.filter (fun q=>decide (h<=q.2)),q∈y/\h<=q.2:=fun q v=>⟨(cj.mp v).1,of_decide_eq_true (cj.mp v).2⟩
  have U:∀q∈y,h<=q.2->q∈y.filter (fun q=>decide (h<=q.2)):=fun q v z=>cj.mpr ⟨v,decide_eq_true z⟩
  have lf:=cU (fun q:Int×Int=>decide (h<=q.2)) y
  generalize y.filter (fun q=>decide (h<=q.2))=fs at hf U lf
  cases fs with
  | nil =>
   rw[fB]
   wp_walk
   ·exact k1 fun x F=>by
     obtain⟨p,hp,ph,_⟩:=F.held (by lia) C Y
     cases U p hp ph
   ·exact absurd hc (by simp)
  | cons f fs =>
   rw[bZ]
   wp_walk
   ·exact absurd hc (by simp)
   have p64:=Ys (k:=d.1.toNat) (by lia)
   have en:=fun q (v:q∈y)=>(P q v).bounds (by lia)
   change JP _ _ _ _ ((f::fs).map fun q=>.int (clB a q)) [] _ _
   refine Uf (cs:=f::fs) (D:=fun q=>.int (clB a q)) (fun q=>fD (fbK a h q)) (by lia) ?_ ?_
   ·intro q v K4 X4 L;have e:=en q (hf q v).1;obtain⟨c1,c2,_⟩:=zmk (a:=a) (b:=q);unfold eB at c2
    wp_walk using zok ?_ ?_ ?_ ?_ ?_
    ·lia
    ·lia
    ·lia
    ·lia
    ·exact L
   ·wp_walk
    rw[show((f::fs).map fun q=>fD (fbK a h q))=((f::fs).map (fbK a h)).map fD from by rw[cH];rfl]
    refine zsV (by simp) fun b hb I=>?_
    obtain⟨q,v,rfl⟩:=aS.mp hb;have B:=zom (a:=a) (bits:=d.1) (by lia) C Y h0 (hf q v).1 (hf q v).2 fun q' J z=>I _ (aS.mpr ⟨q',U q' J z,rfl⟩)
    unfold fD fbK
    wp_walk
    refine zis (d:=d) (nm:=nm) (gs:=[]) (cs:=[(clB a q / 2 ^ h.toNat*2 ^ h.toNat,h)]) (by simp;lia) (by simp;lia) (by simp) fun rs pm pw=>?_
    wp_walk
    exact k2 _ B rs (by rw[zqp]at pm;exact pm) pw
theorem zpP:getT Yn (ae "near")=some [ae "height",ae "address"]:=by decide +kernel
theorem zob{bits h a:Int}{nm:Str}(y:IsNm nm)(h0:0<=h)(x:h<=bits)(v:0<=a)(a1:a<2 ^ bits.toNat):dedD bits (.tuple [.str (ae "near"),.str nm,.int h,.int a])=true:=by
 show(nmD (.str nm)&&prtD bits (ae "near") [.int h,.int a])=true
 rw[show nmD (.str nm)=true from zpN.mpr y,dN]
 unfold prtD;rw[zpP];have e:ptD bits (ae "height") (.int h)=true:=by unfold ptD;rw[if_pos rfl];simp[htD,h0,x]
 have C:ptD bits (ae "address") (.int a)=true:=by unfold ptD;rw[if_neg (by decide +kernel),if_pos rfl];simp[adD,v,a1]
 simp[e,C];exact .inl (by decide +kernel)
theorem zsr{nm:Str}(l:IsNm nm):nm.length<=1000000:=by
 have:=l.2.1;lia
def Yi:GX:=fun ts n R v=>∃(d:Deal) (nm:Str) (h a:Int),ts=[dlD d,.tuple [.str (ae "near"),.str nm,.int h,.int a]]/\Dl d/\IsNm nm/\0<=h/\h<=d.1/\0<=a/\a<2 ^ d.1.toNat/\zoN ts n R v
theorem zk9{ts:qD}{n:Nat}{R y:qN}{X C:Str->Nat->Prop}(h:Yi ts n R X)(hR:∀t m,R t m->y t m)(J:∀c m,X c m->C c m):Yi ts n y C:=by
 obtain⟨d,nm,k,a,e,D,hn,h0,N,a0,a1,d',w,v,S,a',I,D',u,G,L,l,l2,Y,U⟩:=h;exact⟨d,nm,k,a,e,D,hn,h0,N,a0,a1,d',w,v,S,a',I,D',u,G,L,l,l2,fun no=>J _ _ (Y no),fun x B rs pm pw=>hR _ _ (U x B rs pm pw)⟩
def zkC(Z:ZZ):Prop:=FQX Z "done" (top 51) ["deal","deed"] 8 2 Yi
theorem zpB(D:Dq Z.K Z.mg "done" (top 51) ["deal","deed"]) (L:zoz Z) (S:zgp Z) (C:OwnE Z.K Z.mg "NoDeed") (J:StF Z.P Z.w Z.K Z.mg "DEEDS" ["take","near","give","grow","keep","loose","move"]) (T:Txt Z.mg):zkC Z:=by
 refine' okX D (fnS (N:=["deal","deed","act"]) (by decide +kernel)) rfl fun f U A outer s H E v=>⟨_,(Jb (Jx (Qq (J1 (dl (Jd S v (dbc (Jh (dlv 0) dli) (dbv 1 Ja)))))) (Jc (zjm C)) Jz) (zn7 (i:=2) J (.cons L UJ.nil) v (ndB rfl) (Jh (dlv 1) dli) (dbv 0 (dbv 1 Ja)))),?_⟩
 intro ts n R Rx hl h;obtain⟨d,nm,h,a,rfl,D,y,h0,G,I,a1,k⟩:=h;obtain⟨bits,os,x⟩:=d;have b0:1<=bits:=D.1;have Y:bits<=64:=D.2.1;have pl:PlnD (.tuple [.str (ae "near"),.str nm,.int h,.int a]):=znm (by simp) (VT (ziT (by decide +kernel)) (VT (ziT (zsr y)) (VT ziU (VT ziU znn))))
 rw[show dlD (bits,os,x)=.tuple [.int bits,.tuple (oD os),.tuple (oD x)] from rfl]at k ⊢
 wp_walk
 refine zmv (by lia) Y pl ?_
 rw[zob y h0 G I a1]
 wp_walk
 ·rfl
 refine⟨_,.head _,rfl,?_⟩
 wp_walk
 exact k
theorem scH:Q9 ["_law_script","_law_k","_law_cell"] ["_law_script","_law_k"] (JH (top 57)):=⟨rfl,rfl,rfl,by decide +kernel,rfl,by decide +kernel,by decide +kernel⟩
theorem zgE{f:aq}{fd:cP}(D:Def K mg "_law_hand" (top 57) ["_law_script","_law_k"] f fd) (T:Txt mg):FnOk P w K mg base CX0 1 f fd ["_law_script","_law_k"] (Vb K):=by
 refine D.F.ok scH (fun y H Q E h=>?_) (fun C A outer s H y Q E I h=>?_)
 ·obtain⟨a,ns,k,rfl,_⟩:=h
  rfl
 ·obtain⟨a,ns,k,rfl,u,J,k0,k1,q⟩:=h;refine⟨_,Qs (Qy (i:=2) scH.nd rfl (er rfl) JE)
   (Qs (zpd (zhV zsg (pv 1) (Uk zhz T.len Q8 (pb_v 0 Qg)) (Jl _)) (UZ (Qy (i:=2) scH.nd rfl (er rfl) (Ul UC (pv 0) (pv 1) (fun _ _=>rfl)))) zhW)
   (UZ (Y5 (zkL (zoC (JD QV (pv 2) (ZQ ZB T.int boot_int (zr8 (zkN zsk (pv 2) (JD zsd JE JE) (Jl _)) Qg)))
    (zoC (JD Q1 (JD Q1 (JD UW (pv 2) JE) (JD QV JE (pv 1))) JE) (pb_i Qg))))))),?_⟩
  refine⟨_,rfl,_,rfl,a,_,rfl,.inl u,_,_,rfl,rfl,_,rfl,?_⟩;have fin:∀c:Int,tRet (tLst (QD (tOp (rI CMul fun i j=>V.int (i*j)) (tVar 2) (tCB (fun xs H Q=>(∃i,xs=[.int i]/\Q (.int i) H)\/∃k,xs=[.bl k]/\Q (.int (if k then 1 else 0)) H) (QD (tOp (rI0 fun i j=>.bl (decide (j<=i))) (tVar 2) (tOp (rI CPow fun i j=>.int (i ^ j.toNat)) (tC (.int 10)) (tC (.int 18)))) tNil)))
    (QD (tOp (rI0 fun i j=>.int (i+j)) (tOp (rI0 fun i j=>.int (i+j)) (tOp (rI (fun _ j=>0<j) fun i j=>.int (i % j)) (tVar 2) (tC (.int 2305843009213693951))) (tOp (rI CMul fun i j=>V.int (i*j)) (tC (.int 7919)) (tVar 1))) (tC (.int 3))) (QD (tC (.int 0)) tNil))))
    { nx:=fun _ G=>Q .non G,rt:=Q } [some (.ref a),some (.int k),some (.int c)] H:=by
   intro c;refine⟨_,rfl,_,rfl,_,_,rfl,rfl,⟨by decide,by decide,by decide⟩,_,_,rfl,rfl,.inr ⟨_,rfl,_,_,rfl,rfl,.inr ?_,?_⟩⟩
   ·split <;> decide
   ·refine⟨_,rfl,_,_,rfl,rfl,(by show(0:Int)<2305843009213693951;decide),_,rfl,_,_,rfl,rfl,.inl ⟨by decide,by decide⟩,_,_,rfl,rfl,_,_,rfl,rfl,(by show 3<=sizeLine;decide),fun l v=>?_⟩
    refine q l _ v ⟨_,_,_,JJ,?_,?_,bh _,bh _⟩ (zm4 v)
    ·lia
    ·lia
  refine ztc (fun c=>?_) (fun c=>?_)
  ·have x:k.toNat<ns.length:=by rw[aL]at c;lia
   refine⟨_,rfl,_,rfl,a,_,_,V.int (ns[k.toNat]),rfl,rfl,u,?_,?_⟩
   ·exact zeK k0 (by rw[aV,aJ x];rfl)
   ·exact fin _
  ·exact fin 0
def zd4(Z:ZZ):Prop:=FQ Z "_law_hand" (top 57) ["_law_script","_law_k"] 1 (Vb Z.K)
theorem zfy(D:Dq Z.K Z.mg "_law_hand" (top 57) ["_law_script","_law_k"]) (T:Txt Z.mg):zd4 Z:=by
 obtain⟨f,fd,D⟩:=D;exact⟨f,fd,D,zgE D T⟩
theorem zgi{H:Hp}{hd:aq}{o:HO}:zua hd H (upd H hd o):=fun b u e n=>by rw[Jo n];exact e
theorem scT:Q9 ["_law_hand_here","_law_many","_law_digit","_law_turn","_law_mixed","_law_other"] ["_law_hand_here","_law_many"] (JH (top 58)):=⟨rfl,rfl,rfl,by decide +kernel,rfl,by decide +kernel,by decide +kernel⟩
theorem znv{f:aq}{fd:cP}(D:Def K mg "_law_take" (top 58) ["_law_hand_here","_law_many"] f fd) (T:Txt mg):FnOk P w K mg base CX0 1 f fd ["_law_hand_here","_law_many"] zot:=by
 refine D.F.ok scT (fun C H Q E h=>?_) (fun G A outer s H C Q E I h=>?_)
 ·obtain⟨hd,many,n,rfl,_⟩:=h
  rfl
 ·obtain⟨hd,many,n,rfl,⟨d,m,t,u,m0,x,t0,t1⟩,J,v,y,q⟩:=h;refine⟨_,Qs (zpd (zhV QR (Ul UC (pv 0) JE (fun _ _=>rfl)) JE (Jl _))
    (Qs (Qy (i:=2) scT.nd rfl (er rfl) (JD UW (Ul UC (pv 0) JE (fun _ _=>rfl)) (pv 1)))
    (Qs (Y4 (JD VF (Ul UC (pv 0) JE (fun _ _=>rfl)) (pv 1)) (pg_sub (pv 0) JE set_list))
    (UZ (Y5 (pv 2))))) zhW)
   (Qs (Y4 (JD Q1 (Ul UC (pv 0) JE (fun _ _=>rfl)) JE) (pg_sub (pv 0) JE set_list))
   (Qs (Qy (i:=3) scT.nd rfl (er rfl) (Ul UC (pv 0) JE (fun _ _=>rfl)))
   (Qs (Qy (i:=4) scT.nd rfl (er rfl) (JD UW (JD QV (Ul UC (pv 0) JE (fun _ _=>rfl)) (JD Q1 (JD Q1 JE (JD QV (JD QV JE (pv 3)) (pv 3))) (JD QV JE (pv 3)))) JE))
   (Qs (Qy (i:=5) scT.nd rfl (er rfl) (JD Q1 (JD Q1 (JD UW (pv 4) JE) (JD QV (pv 3) JE)) JE))
   (Qs (Qy (i:=4) scT.nd rfl (er rfl) (JD UW (JD QV (pv 4) (pv 5)) JE))
   (UZ (Y5 (JD UW (JD Q1 (JD VF (pv 4) JE) (JD VF (pv 4) JE)) (pv 1))))))))),?_⟩
  refine⟨_,rfl,hd,_,_,_,rfl,rfl,.of u,rfl,_,_,rfl,rfl,_,rfl,?_⟩;refine ztc (fun c=>?_) (fun c=>?_)
  ·refine⟨_,rfl,hd,_,_,_,rfl,rfl,.of u,rfl,_,rfl,_,_,rfl,rfl,v,?_⟩;refine⟨_,rfl,hd,_,_,_,rfl,rfl,.of u,rfl,_,rfl,_,_,rfl,rfl,⟨v,y⟩,?_⟩;refine⟨_,rfl,hd,_,_,0,rfl,rfl,u,rfl,?_⟩;refine⟨_,rfl,?_⟩;exact q _ _ (fK _ (by lia)) (eN _ v) ⟨_,_,_,JJ,m0,x,t0,by lia⟩ zgi
  ·refine⟨_,rfl,hd,_,_,_,rfl,rfl,.of u,rfl,_,_,rfl,rfl,?_⟩;refine⟨_,rfl,hd,_,_,2,rfl,rfl,u,rfl,?_⟩;refine⟨_,rfl,hd,_,_,_,rfl,rfl,.of JJ,rfl,?_⟩;refine⟨_,rfl,hd,_,_,_,rfl,rfl,.of JJ,rfl,_,rfl,_,_,rfl,rfl,.inl ⟨by decide,by decide⟩,_,rfl,_,_,rfl,rfl,.inr ⟨by lia,by lia⟩,_,_,rfl,rfl,_,rfl,_,_,rfl,rfl,.inl ⟨by decide,by decide⟩,_,_,rfl,rfl,_,_,rfl,rfl,.inl ⟨by lia,by lia⟩,_,_,rfl,rfl,(by show(0:Int)<2305843009213693921;decide),?_⟩
   refine⟨_,rfl,_,_,rfl,rfl,(by show(0:Int)<1000003;decide),_,rfl,_,_,rfl,rfl,.inr ⟨by decide,by decide⟩,_,_,rfl,rfl,_,_,rfl,rfl,?_⟩
   refine⟨_,rfl,_,rfl,_,_,rfl,rfl,.inl ⟨by lia,by lia⟩,_,_,rfl,rfl,(by show(0:Int)<2305843009213693907;decide),?_⟩
   refine⟨_,rfl,_,_,rfl,rfl,⟨by decide,by decide⟩,_,rfl,_,_,rfl,rfl,⟨by decide,by decide⟩,_,_,rfl,rfl,_,rfl,_,_,rfl,rfl,v,?_⟩
   exact q _ _ (fK _ (by lia)) (eN _ v) ⟨_,_,_,JJ,m0,x,by lia,by lia⟩ zgi
theorem zgz{f:aq}{fd:cP}(D:Def K mg "_law_take" (top 58) ["_law_hand_here","_law_many"] f fd) (T:Txt mg):FnOk P w K mg base CX0 1 f fd ["_law_hand_here","_law_many"] (spD K 2 UT) :=
 (znv D T).imp zm2
def UG(Z:ZZ):Prop:=FQ Z "_law_take" (top 58) ["_law_hand_here","_law_many"] 1 (spD Z.K 2 UT)
theorem zfx(D:Dq Z.K Z.mg "_law_take" (top 58) ["_law_hand_here","_law_many"]) (T:Txt Z.mg):UG Z:=by
 obtain⟨f,fd,D⟩:=D;exact⟨f,fd,D,zgz D T⟩
def Yu:GD:=fun ts n R=>match ts with
 | [h,.list xs]=>h=HAND/\xs≠[]/\xs.length<=1000000/\n<=1000000000000/\∀x∈xs,R x (n+1)
 | [h,.tuple xs]=>h=HAND/\xs≠[]/\xs.length<=1000000/\n<=1000000000000/\∀x∈xs,R x (n+1)
 | _=>False
theorem Yt{xs:qD}{n:Nat}{R:qN}(h0:xs≠[])(u:xs.length<=1000000)(v:n<=1000000000000)(h:∀x∈xs,R x (n+1)):Yu [HAND,.list xs] n R:=⟨rfl,h0,u,v,h⟩
def UF(Z:ZZ):Prop:=FQ Z "_law_pick" (top 59) ["_law_hand_here","_law_some_here"] 2 (spD Z.K 2 Yu)
theorem zgB(D:Dq Z.K Z.mg "_law_pick" (top 59) ["_law_hand_here","_law_some_here"]) (J:UG Z) (T:Txt Z.mg):UF Z:=by
 refine' okQ D (fnS (N:=["_law_hand_here","_law_some_here"]) (by decide +kernel)) rfl fun f G A outer s H E x=>⟨_,(Jc (Ji (Jh (dlv 1) (dl (Jd J x (dbv 0 (dbc (Jv UB Ur T.len Q8 (Jf (dlv 1) Jn Jq)) Ja))))))),?_⟩
 intro ts n R L h;unfold Yu at h;split at h
 ·rename_i hd xs;obtain⟨rfl,h0,C,v,h⟩:=h;have I:0<xs.length:=gA.mpr h0
  wp_walk using QS (by lia) (by lia) v (fun r u y=>?_)
  have l:r.toNat<xs.length:=by lia
  rw[YI (zeK u (aJ l))];exact h _ (dI l)
 ·rename_i hd xs;obtain⟨rfl,h0,C,v,h⟩:=h;have I:0<xs.length:=gA.mpr h0
  wp_walk using QS (by lia) (by lia) v (fun r u y=>?_)
  have l:r.toNat<xs.length:=by lia
  rw[ZW (zeK u (aJ l))];exact h _ (dI l)
 ·exact h.elim
def zcK:GD:=fun ts n R=>match ts with
 | [h]=>h=HAND/\n<=1000000000000/\∀b:Int,1<=b->b<=64->R (.int b) (n+1)
 | _=>False
theorem zix{n:Nat}{R:qN}(l:n<=1000000000000)(h:∀b:Int,1<=b->b<=64->R (.int b) (n+1)):zcK [HAND] n R:=⟨rfl,l,h⟩
def zd8(Z:ZZ):Prop:=FQ Z "_law_bits" (top 60) ["_law_hand_here"] 3 (spD Z.K 1 zcK)
theorem zgI(D:Dq Z.K Z.mg "_law_bits" (top 60) ["_law_hand_here"]) (u:UF Z) (T:Txt Z.mg):zd8 Z:=by
 refine' okQ D (fnS (N:=["_law_hand_here"]) (by decide +kernel)) rfl fun f y A outer s H E l=>⟨_,(Jc (Ji (Jd u l (dbv 0 (dbc (Jj (Jt (dbc Je (dbc Je (dbc Je (dbc Je (dbc Je (dbc Je (dbc Je (dbc Je (dbc Je (dbc Je Ja)))))))))))) Ja))))),?_⟩
 intro ts n R C h;unfold zcK at h;split at h
 ·obtain⟨rfl,v,h⟩:=h;simp only[Vi,Vh,Vj,u_dC,Z0,Vd,Vf,Ve,Vq,ZY,VM,Vg,Vl,ZA,Zp,Zq,Zr,Zz,Zs,ZK,ZJ,YV,oSub,oMul,oMod,UP,oShl,oShr,oXor,oAnd,isNone,isInt,isBool,isTup,isStr,l_gI,ZV,Zl,Zm,Zn,YE,YG,YF,YO,YR,YQ,YH,ZE,YL,YJ,YK,Za,Zb,Zc,Y8,Y9,Ze,Zf,YC,YN,YM,YB,Zo,ZF,Zd,Zu,ZM,Ud,Q7,UD,UA,Uy,Uz,Ux,ZI,Yo,JY,JC,capV,bZ,fB,aT,cL,cg,gC,dJ,ei,bT,dS,ft,gO,gP,gD,gE,gj,Nat.reduceAdd,Nat.reduceSub,iT,true_and,and_true,aI,if_true,if_false,ite_true,ite_false,e8,fY,iw,Yu]
  refine⟨by simp,by decide,v,fun x hx=>?_⟩
  simp only[aw,aH,or_false]at hx;rcases hx with rfl|rfl|rfl|rfl|rfl|rfl|rfl|rfl|rfl|rfl <;> exact h _ (by decide) (by decide)
 ·exact h.elim
def zca:GD:=fun ts n R=>match ts with
 | [h,.int bits]=>h=HAND/\1<=bits/\bits<=64/\n<=1000000000000 - 10/\∀i h:Int,IsBk bits i h->R (.tuple [.int i,.int h]) (n+3)
 | _=>False
theorem zdA{bits:Int}{n:Nat}{R:qN}(v:1<=bits)(x:bits<=64)(y:n<=1000000000000 - 10)(h:∀i h:Int,IsBk bits i h->R (.tuple [.int i,.int h]) (n+3)):zca [HAND,.int bits] n R:=⟨rfl,v,x,y,h⟩
def zb3(Z:ZZ):Prop:=FQ Z "_law_block" (top 61) ["_law_hand_here","_law_bits_here"] 3 (spD Z.K 2 zca)
theorem zfG(D:Dq Z.K Z.mg "_law_block" (top 61) ["_law_hand_here","_law_bits_here"]) (C:UF Z) (y:UG Z) (T:Txt Z.mg):zb3 Z:=by
 refine' okQ D (fnS (N:=["_law_hand_here","_law_bits_here","_law_height"]) (by decide +kernel)) rfl fun f L A outer s H E v=>⟨_,(Jb (dsv 2 (ndB rfl) (Jv (U1 rfl) UU T.min QZ (Jf (dlv 1) (Jf (dl (Jd C v (dbv 0 (dbc (Jj (Jt (dbc Je (dbc Je (dbc Je (dbc Je (dbc Je (dbc Je (dbc (Jd y v (dbv 0 (dbc (JF (dlv 1) dli) Ja))) (dbv 1 Ja)))))))))) Ja)))) Jn QY) Jq))) (Jc (Ji (Js (dbc (UQ (dl (Jd y v (dbv 0 (dbc (JT dli (dl (JZ (dlv 1) (dlv 2)))) Ja)))) (dl (JT dli (dlv 2)))) (dbv 2 Ja)))))),?_⟩
 intro ts n R hl h;unfold zca at h;split at h
 ·rename_i hd bits;obtain⟨rfl,b0,b1,hn,h⟩:=h;simp only[Vi,Vh,Vj,u_dC,Z0,Vd,Vf,Ve,Vq,ZY,VM,Vg,Vl,ZA,Zp,Zq,Zr,Zz,Zs,ZK,ZJ,YV,oSub,oMul,oMod,UP,oShl,oShr,oXor,oAnd,isNone,isInt,isBool,isTup,isStr,l_gI,ZV,Zl,Zm,Zn,YE,YG,YF,YO,YR,YQ,YH,ZE,YL,YJ,YK,Za,Zb,Zc,Y8,Y9,Ze,Zf,YC,YN,YM,YB,Zo,ZF,Zd,Zu,ZM,Ud,Q7,UD,UA,Uy,Uz,Ux,ZI,Yo,JY,JC,capV,bZ,fB,aT,cL,cg,gC,dJ,ei,bT,dS,ft,gO,gP,gD,gE,gj,Nat.reduceAdd,Nat.reduceSub,iT,true_and,and_true,aI,if_true,if_false,ite_true,ite_false,e8,fY,iw,Yu,UT]
  refine⟨by lia,by lia,by lia,fun r Y U=>⟨by simp,by decide,by lia,fun x hx=>?_⟩⟩
  have G:∃b:Int,x=.int b/\0<=b:=by
   simp only[aw,aH,or_false]at hx;rcases hx with h|h|h|h|h|h|h|h <;> first|exact⟨_,h,by decide⟩|exact⟨_,h,by lia⟩
  obtain⟨b,rfl,bb⟩:=G;simp only[Vi,Vh,Vj,u_dC,Z0,Vd,Vf,Ve,Vq,ZY,VM,Vg,Vl,ZA,Zp,Zq,Zr,Zz,Zs,ZK,ZJ,YV,oSub,oMul,oMod,UP,oShl,oShr,oXor,oAnd,isNone,isInt,isBool,isTup,isStr,l_gI,ZV,Zl,Zm,Zn,YE,YG,YF,YO,YR,YQ,YH,ZE,YL,YJ,YK,Za,Zb,Zc,Y8,Y9,Ze,Zf,YC,YN,YM,YB,Zo,ZF,Zd,Zu,ZM,Ud,Q7,UD,UA,Uy,Uz,Ux,ZI,Yo,JY,JC,capV,bZ,fB,aT,cL,cg,gC,dJ,ei,bT,dS,ft,gO,gP,gD,gE,gj,Nat.reduceAdd,Nat.reduceSub,iT,true_and,and_true,aI,if_true,if_false,ite_true,ite_false,e8,fY,iw,UT]
  have key:∀m:Int,0<=m->m<=bits->(CPow 1 (bits - m)/\(0:Int)<1*2 ^ (bits - m).toNat/\1*2 ^ (bits - m).toNat<(2:Int) ^ 128/\n+1+1<=1000000000000/\∀r:Int,0<=r->r<1*2 ^ (bits - m).toNat->CPow 1 m/\CMul r (1*2 ^ m.toNat)/\R (.tuple [.int (r*(1*2 ^ m.toNat)),.int m]) (n+1+1+1)):=by
   intro m m0 J;have I:(1:Int)*2 ^ (bits - m).toNat=2 ^ (bits - m).toNat:=bQ _;have S:(1:Int)*2 ^ m.toNat=2 ^ m.toNat:=bQ _;rw[I,S];refine⟨cpow (by lia) (by lia),JA _,zkG (by lia),by lia,fun k k0 k1=>⟨cpow m0 (by lia),.inl ⟨by lia,?_⟩,?_⟩⟩
   ·have:=Ys (k:=(bits - m).toNat) (by lia);lia
   ·exact h _ m ⟨m0,J,k,k0,rfl,k1⟩
  exact key (if b<bits then b else bits) (by split <;> lia) (by split <;> lia)
 ·exact h.elim
def zeo:GD:=fun ts n R=>∃bits i h:Int,ts=[HAND,.int bits,.tuple [.int i,.int h]]/\1<=bits/\bits<=64/\n<=1000000000000 - 100/\IsBk bits i h/\∀j g:Int,IsBk bits j g->R (.tuple [.int j,.int g]) (n+7)
theorem zeG{bits i h:Int}{n:Nat}{R:qN}(v:1<=bits)(x:bits<=64)(y:n<=1000000000000 - 100)(B:IsBk bits i h)(h':∀j g:Int,IsBk bits j g->R (.tuple [.int j,.int g]) (n+7)):zeo [HAND,.int bits,.tuple [.int i,.int h]] n R:=⟨_,_,_,rfl,v,x,y,B,h'⟩
def zd3(Z:ZZ):Prop:=FQ Z "_law_near" (top 62) ["_law_hand_here","_law_bits_here","_law_block_here"] 4 (spD Z.K 3 zeo)
theorem zgD(D:Dq Z.K Z.mg "_law_near" (top 62) ["_law_hand_here","_law_bits_here","_law_block_here"]) (J:UF Z) (G:zb3 Z) (T:Txt Z.mg):zd3 Z:=by
 refine' okQ D (fnS (N:=["_law_hand_here","_law_bits_here","_law_block_here","_law_begin","_law_height","_law_size","_law_some_here"]) (by decide +kernel)) rfl fun f L A outer s H E y=>⟨_,(Jb (QT (Jk 2) (JQ rfl (Jm (dgv 3 (ndB rfl)) (Jm (dgv 4 (ndB rfl)) JR)))) (Jb (dsv 5 (ndB rfl) (JT dli (dlv 4))) (Jb (US (i:=6) (ndB rfl) rfl (er rfl) (Jt (dbv 2 (dbc (Js (dbv 3 (dbc (Jv (ZC rfl) Y0 T.max Yv (Jf dli (Jf (dl (JZ (dlv 4) dli)) Jn QJ) Y6)) Ja))) (dbc (Jd G y (dbv 0 (dbv 1 Ja))) (dbc (Jd G y (dbv 0 (dbv 1 Ja))) Ja)))))) (Jb (Jx (Jr QR gp_B (dlv 4) dli (Jl _)) (Jc (Qi 6 (Js (dbc (JF (dlv 3) (dl (Vr (dlv 5) dli))) (dbc (JZ (dlv 4) dli) Ja))))) Jz) (Jb (Jx (Jr (Qx y) Qw (dlv 4) (dlv 1) (Jl _)) (Jb (Qi 6 (Js (dbc (JZ (dlv 3) (dl (zl2 (dlv 3) (dl (UQ dli (dlv 5)))))) (dbc (JF (dlv 4) dli) Ja)))) (Jc (Qi 6 (Js (dbc (ztY (dlv 3) (dlv 5)) (dbv 4 Ja)))))) Jz) (Jb (Jx (Jr Qf Qe (dl (JF (dlv 3) (dl (UQ dli (dlv 5))))) (dl (JT dli (dlv 1))) (Jl _)) (Jc (Qi 6 (Js (dbc (JF (dlv 3) (dlv 5)) (dbv 4 Ja))))) Jz) (Ug 6 (Jc (Ji (Jd J y (dbv 0 (dbv 6 Ja)))))))))))),?_⟩
 intro ts n R Y C;obtain⟨bits,i,h,rfl,S,b1,hn,B,C⟩:=C;have h0:=B.1;have U:=B.2.1;have v:∀j g:Int,IsBk bits j g->∀m,m=n+7->R (.tuple [.int j,.int g]) m:=fun j g b m e=>e▸C j g b
 have I:IsBk bits i (if h - 1 > 0 then h - 1 else 0):=by
  split
  ·exact B.low (by lia)
  ·by_cases z:h=0
   ·subst z;exact B
   ·have:h=1:=by lia
    subst this;exact B.low (by decide)
 wp_walk using zdA ?_ ?_ ?_ (fun _ _ _=>?_),Yt ?_ ?_ ?_ ?_
 all_goals first
  | lia
  | exact cpow (by lia) (by lia)
  | exact zwu
  | exact zwv
  | (rw[Qc];exact Int.mul_pos (by decide) (JA _))
  | (intro z;simp at z;done)
  | (simp only[dJ,ei,aT,cL];decide)
  | skip
 all_goals
  simp only[dJ,ei,List.forall_mem_cons,Qc]at *
  repeat' (with_reducible refine mF ?_ ?_)
 all_goals first
  | exact v _ _ B _ rfl
  | exact v _ _ I _ rfl
  | exact v _ _ (by assumption) _ rfl
  | exact v _ _ (B.up (by lia)) _ rfl
  | exact v _ _ (B.abt (by lia)) _ rfl
  | exact v _ _ (B.oth (by lia)) _ rfl
  | exact v _ _ (B.nxt (by assumption)) _ rfl
  | (intro x hx;simp at hx)
def zc2:GD:=fun ts n R=>∃bits most:Int,ts=[HAND,.int bits,.int most]/\1<=bits/\bits<=64/\0<=most/\most<=1000/\n<=1000000000000 - 100000/\∀(bs:qB) (m:Nat),Bks bits bs->bs.length<=most.toNat->m<=n+1+12*most.toNat->R (.list (pD bs)) m
theorem zf2{bits most:Int}{n:Nat}{R:qN}(v:1<=bits)(x:bits<=64)(m0:0<=most)(u:most<=1000)(y:n<=1000000000000 - 100000)(h:∀(bs:qB) (m:Nat),Bks bits bs->bs.length<=most.toNat->m<=n+1+12*most.toNat->R (.list (pD bs)) m):zc2 [HAND,.int bits,.int most] n R:=⟨bits,most,rfl,v,x,m0,u,y,h⟩
def zcQ(Z:ZZ):Prop:=FQ Z "_law_blocks" (top 63) ["_law_hand_here","_law_bits_here","_law_most"] 5 (spD Z.K 3 zc2)
theorem zeN(D:Dq Z.K Z.mg "_law_blocks" (top 63) ["_law_hand_here","_law_bits_here","_law_most"]) (Hj:UG Z) (Hm:zb3 Z) (HL:zd3 Z) (Hk:UF Z) (T:Txt Z.mg):zcQ Z:=by
 refine' okQ D (fnS (N:=["_law_hand_here","_law_bits_here","_law_most","_law_found","_law_k","_law_block_here"]) (by decide +kernel)) rfl fun f cdv A outer s H E G=>⟨_,(Jb (US (i:=3) (ndB rfl) rfl (er rfl) (Jt Ja)) (Jb (Qv cq rfl (zex T.ran (Jd Hj G (dbv 0 (dbc (JF (dlv 2) dli) Ja)))) (dgv 4 (ndB rfl)) (Jb (dsv 5 (ndB rfl) (Jd Hm G (dbv 0 (dbv 1 Ja)))) (Jb (Jx (QA (zlV (Jr (QW G) QQ (Ye 3) (dl (Jj (Jt Ja))) (Jl _)) (zik (Jr QR gp_B (dl (Jd Hj G (dbv 0 (dbc Je Ja)))) dli (Jl _))))) (Jc (dsv 5 (ndB rfl) (Jd HL G (dbv 0 (dbv 1 (dbc (zt2 Hk G (Jf (dlv 0) (Jf (Ye 3) Jn Jq) Jq)) Ja)))))) Jz) (Jc (Qi 3 (Jk 5)))))) (Ug 3 (Jc (Ji (Jk 3)))))),?_⟩
 intro ts n R hl Y;obtain⟨bits,most,rfl,b0,b1,m0,m1,hn,Y⟩:=Y
 wp_walk using QS ?_ ?_ ?_ (fun r r0 r1=>?_)
 ·lia
 ·lia
 ·lia
 ·lia
 ·lia
 refine U4 (fun k L m=>∃bs:List (Int×Int),∃I U,L=[some (.val HAND),some (.val (.int bits)),some (.val (.int most)),some (.own (pD bs)),I,U]/\Bks bits bs/\bs.length=k/\m<=n+1+12*k) ⟨[],_,_,rfl,(fun b J=>nomatch J),rfl,by lia⟩ ?_ ?_
 ·rintro k t L m K et ⟨bs,I,U,rfl,B,hk,hm⟩ hK;obtain⟨hk2,rfl⟩:=ze1 et;have hk3:k<1000:=by lia
  have fin:∀(i h:Int) (x4 x5:Option Cell) (S:Nat),IsBk bits i h->S<=m+12->K [some (.val HAND),some (.val (.int bits)),some (.val (.int most)),some (.own (pD bs++[.tuple [.int i,.int h]])),x4,x5] S:=fun i h x4 x5 S C hm' =>
   hK _ _ ⟨bs++[(i,h)],_,_,by rw[<- Ut],B.app C,by simp[hk],by lia⟩
  wp_walk using zdA ?_ ?_ ?_ (fun i h C=>?_),QS ?_ ?_ ?_ (fun q q0 q1=>?_),Yt ?_ ?_ ?_ ?_,zeG ?_ ?_ ?_ ?_ (fun j g C'=>?_)
  all_goals first
   | lia
   | exact zoD
   | exact Yq
   | (rw[JB];lia)
   | decide
   | (intro z
      have y:dH (.list (pD bs)) (.list [])=false:=by assumption
      rw[zqq]at y;have y2:bs=[]:=by
       have:=congrArg eD z;rw[JB]at this;exact dX.mp this
      rw[y2]at y;cases y)
   | exact fin _ _ _ _ _ (by assumption) (by lia)
   | skip
  all_goals
   intro x hx;obtain⟨b,J,rfl⟩:=aS.mp hx;refine⟨zjS,?_⟩;have C0:=B b J
   wp_walk using zeG ?_ ?_ ?_ ?_ (fun j g C'=>?_)
   all_goals first
    | lia
    | exact C0
    | (rw[JB];lia)
    | exact fin _ _ _ _ _ (by assumption) (by lia)
 ·rintro L m ⟨bs,I,U,rfl,B,hk,hm⟩;have el:bs.length<=most.toNat:=by
   rw[hk];unfold QI;simp;lia
  wp_walk
  exact Y bs m B el (by lia)
def zdv:GD:=fun ts n R=>∃bits most:Int,ts=[HAND,.int bits,.int most]/\1<=bits/\bits<=64/\0<=most/\most<64/\n<=1000000000000 - 100000/\∀(bs:qB) (m:Nat),Ptc bits bs->bs.length<=most.toNat->m<=n+1+12*most.toNat->R (.tuple (pD bs)) m
theorem zdz{bits most:Int}{n:Nat}{R:qN}(x:1<=bits)(y:bits<=64)(m0:0<=most)(v:most<64)(C:n<=1000000000000 - 100000)(h:∀(bs:qB) (m:Nat),Ptc bits bs->bs.length<=most.toNat->m<=n+1+12*most.toNat->R (.tuple (pD bs)) m):zdv [HAND,.int bits,.int most] n R:=⟨bits,most,rfl,x,y,m0,v,C,h⟩
def zdm(Z:ZZ):Prop:=FQ Z "_law_patch" (top 64) ["_law_hand_here","_law_bits_here","_law_most"] 6 (spD Z.K 3 zdv)
theorem zfE(D:Dq Z.K Z.mg "_law_patch" (top 64) ["_law_hand_here","_law_bits_here","_law_most"]) (Hy:zcQ Z) (T:Txt Z.mg):zdm Z:=by
 refine' okQ D (fnS (N:=["_law_hand_here","_law_bits_here","_law_most","_law_found","_law_begin","_law_height"]) (by decide +kernel)) rfl fun f cdv A outer s H E Y=>⟨_,(Jb (US (i:=3) (ndB rfl) rfl (er rfl) (Jt Ja)) (Jb (Qv cq rfl (QF (Jd Hy Y (dbv 0 (dbv 1 (dbv 2 Ja))))) (JQ rfl (Jm (dgv 4 (ndB rfl)) (Jm (dgv 5 (ndB rfl)) JR))) (Jc (Jx (J1 (dl (Jv (zeF rfl) zlN T.all zeI (Jf (dl (Jj (dnc ["_law_one"] [4,5] (zoa (Ye 3)) (fun _ _ _ _=>(dgv 0 (ndB rfl))) (fun _ _ _ _=>(zoT (Qo Qf Qe (dl (JF (dlv 1) (dl (JT dli (dlv 2))))) (dl (Jh (dlv 0) dli)) (Jl _)) (Uo (Qo Qf Qe (dl (JF (dl (Jh (dlv 0) dli)) (dl (JT dli (dl (Jh (dlv 0) dli)))))) (dlv 1) (Jl _)))))))) Jn U0)))) (Jc (Qi 3 (Js (dbv 4 (dbv 5 Ja))))) Jz))) (Ug 3 (Jc (Ji (Qk Ue Q6 T.tup QK (Jf (dl (Jj (zew Y T.srt (dlv 3) Jq))) Jn QY))))))),?_⟩
 intro ts n R hl U;obtain⟨bits,most,rfl,b0,b1,m0,m1,hn,U⟩:=U
 wp_walk using zf2 ?_ ?_ ?_ ?_ ?_ (fun bs m B hlen hm=>?_)
 ·lia
 ·lia
 ·lia
 ·lia
 ·lia
 refine U4 (fun k J L=>L=m/\∃cs:List (Int×Int),∃I S,J=[some (.val HAND),some (.val (.int bits)),some (.val (.int most)),some (.own (pD cs)),I,S]/\Bks bits cs/\(cs.Pairwise fun a b=>eB a<=b.1\/eB b<=a.1)/\cs.length<=k) ⟨rfl,[],_,_,rfl,(fun b x=>nomatch x),.nil,aA _⟩ ?_ ?_
 ·rintro k t J L K et ⟨rfl,cs,I,S,rfl,C,u,hk⟩ hK;obtain⟨i,h,eb,rfl⟩:=Yl et;have x:=B _ (aR eb);have h0:0<=h:=x.1;have h1:h<=bits:=x.2.1;have hk3:k<64:=by
   have:=(av.mp eb).1;lia
  wp_walk
  refine Uf (D:=prD) (fun b=>.bool (decide (i+2 ^ h.toNat<=b.1)||decide (eB b<=i))) (by lia) ?_ ?_
  ·rintro⟨i',h'⟩ y K2 X2 hK2;have G:=C _ y;have h0':0<=h':=G.1;have h1':h'<=bits:=G.2.1
   wp_walk
   ·exact cpow (by lia) (by lia)
   ·have hc:i+2 ^ h.toNat<=i':=by rw[Qc]at hc;exact hc
    rw[decide_eq_true hc]at hK2;exact hK2
   ·exact cpow (by lia) (by lia)
   ·have hc:¬i+2 ^ h.toNat<=i':=by rw[Qc]at hc;exact hc
    rw[decide_eq_false hc]at hK2;rw[Qc];exact hK2
  ·wp_walk using zlI ?_
   ·rw[JB];lia
   ·have al:∀b∈cs,i+2 ^ h.toNat<=b.1\/eB b<=i:=fun b x=>by
     have:=bg.mp hc b x;simpa using this
    refine hK _ _ ⟨rfl,cs++[(i,h)],_,_,by rw[<- Ut],C.app x,?_,by simp;lia⟩
    rw[cy];refine⟨u,cI _ _,fun a ha b y=>?_⟩
    cases aC.mp y;rcases al a ha with z|z
    ·exact .inr z
    ·exact .inl z
   ·exact hK _ _ ⟨rfl,cs,_,_,rfl,C,u,by lia⟩
 ·rintro J L ⟨rfl,cs,I,S,rfl,C,u,hk⟩;rw[JB]at hk
  wp_walk
  refine zsR b1 C u (by lia) fun es P pm=>?_
  wp_walk
  exact U es _ P (by have:=pm.length_eq;lia) (by lia)
def nmL(l:List Nat)(k c:Nat):Str:=⟨(l.take k++[c]++l.drop k).toArray⟩
theorem zss{u:List Nat}{k c:Nat}(y:u.length<=7)(v:∀x∈u,97<=x/\x<=122)(hc:97<=c/\c<=122):IsNm (nmL u k c):=by
 have e:(nmL u k c).cps.toList=u.take k++[c]++u.drop k:=rfl;have l:(nmL u k c).length=u.length+1:=by
  rw[<- Qj,e];simp;lia
 refine⟨by lia,by lia,fun x hx=>?_⟩
 rw[e]at hx;simp only[aE,aC]at hx;rcases hx with(hx|rfl)|hx
 ·exact v x (fZ hx)
 ·exact hc
 ·exact v x (mC hx)
theorem zpO{l:List Nat}{k c d:Nat}(h:nmL l k c=nmL l k d):c=d:=by
 have e:l.take k++[c]++l.drop k=l.take k++[d]++l.drop k:=congrArg (fun s:Str=>s.cps.toList) h
 rw[kL,kL]at e;have:=List.append_cancel_left e;simpa using this
theorem zmb{step:Int}(h:step=1\/step=3\/step=5\/step=7\/step=9\/step=11){first i j:Int}(u:0<=i)(v:i<26)(l:0<=j)(x:j<26)(e:(first+step*i) % 26=(first+step*j) % 26):i=j:=by
 rcases h with rfl|rfl|rfl|rfl|rfl|rfl <;> lia
def zdw:GD:=fun ts n R=>∃many:Int,ts=[HAND,.int many]/\0<=many/\many<=26/\n<=1000000000000 - 1000/\∀u:List Str,u.length=many.toNat->(∀s∈u,IsNm s)->u.Nodup->R (.list (u.map .str)) (n+5)
theorem zhH{many:Int}{n:Nat}{R:qN}(m0:0<=many)(v:many<=26)(x:n<=1000000000000 - 1000)(h:∀u:List Str,u.length=many.toNat->(∀s∈u,IsNm s)->u.Nodup->R (.list (u.map .str)) (n+5)):zdw [HAND,.int many] n R:=⟨many,rfl,m0,v,x,h⟩
def zdn(Z:ZZ):Prop:=FQ Z "_law_names" (top 65) ["_law_hand_here","_law_many"] 3 (spD Z.K 2 zdw)
theorem zfF(D:Dq Z.K Z.mg "_law_names" (top 65) ["_law_hand_here","_law_many"]) (U:UG Z) (Hk:UF Z) (T:Txt Z.mg):zdn Z:=by
 refine' okQ D (fnS (N:=["_law_hand_here","_law_many","_law_letters","_law_first","_law_step","_law_stem","_law_at"]) (by decide +kernel)) rfl fun f cdv A outer s H E G=>⟨_,(Jb (dsv 2 (ndB rfl) Qz) (Jb (QT (Js (dbc (Jd U G (dbv 0 (dbc Je Ja))) (dbc (Jd Hk G (dbv 0 (dbc (Jj (Jt (dbc Je (dbc Je (dbc Je (dbc Je (dbc Je (dbc Je Ja)))))))) Ja))) Ja))) (JQ rfl (Jm (dgv 3 (ndB rfl)) (Jm (dgv 4 (ndB rfl)) JR)))) (Jb (dsv 5 (ndB rfl) (zqz (dl (Jh (dlv 2) (dl (Jd U G (dbv 0 (dbc Je Ja)))))) (dl (Jd Hk G (dbv 0 (dbc (Jj (Jt (dbc Je (dbc Je (dbc Je (dbc Je (dbc Je Ja))))))) Ja)))))) (Jb (dsv 6 (ndB rfl) (Jd U G (dbv 0 (dbc (JF (dl (Jv UB Ur T.len Q8 (Jf (dlv 5) Jn Jq))) dli) Ja)))) (Jc (Ji (Jj (dnc ["_law_k"] [5,2,6,3,4] (dil (zex T.ran (Jk 1))) (fun _ _ _ _=>(dgv 0 (ndB rfl))) (fun _ _ _ _=>(JF (dl (JF (dl (ZD (dlv 1) Ua (Ub (Jk 3)))) (dl (Jh (dlv 2) (dl (zl2 (dl (JF (dlv 4) (dl (UQ (dlv 5) (dlv 0))))) dli)))))) (dl (ZD (dlv 1) (Ub (Jk 3)) Ua)))))))))))),?_⟩
 intro ts n R hl h;obtain⟨many,rfl,m0,m1,hn,h⟩:=h
 wp_walk using QS ?_ ?_ ?_ (fun r r0 r1=>?_),Yt ?_ ?_ ?_ (fun x hx=>?_)
 all_goals first|lia|exact cpow (by lia) (by lia)|(simp;done)|skip
 rename_i first f0 f1
 revert r r0 r1;intro l l0 l1;obtain⟨step,rfl,C⟩:∃s:Int,x=.int s/\(s=1\/s=3\/s=5\/s=7\/s=9\/s=11):=by
  simp only[aw,aH,or_false]at hx;rcases hx with rfl|rfl|rfl|rfl|rfl|rfl <;> exact⟨_,rfl,by simp⟩
 refine zs3 (k:=l.toNat) (by decide) (by lia) (letters (by lia)) ?_
 wp_walk using Yt ?_ ?_ ?_ (fun y hy=>?_)
 all_goals first|lia|exact cpow (by lia) (by lia)|(simp;done)|skip
 obtain⟨m,rfl,mm0,mm7⟩:∃m:Int,y=.int m/\0<=m/\m<=7:=by
  simp only[aw,aH,or_false]at hy;rcases hy with rfl|rfl|rfl|rfl|rfl <;> exact⟨_,rfl,by decide,by decide⟩
 have v:(repS (⟨#[97+l.toNat]⟩:Str) m).cps.toList=bR m.toNat (97+l.toNat):=by
  rw[znf];show(bR m.toNat [97+l.toNat]).flatten=_
  generalize m.toNat=k;induction k with
  | zero=>rfl
  | succ k ih=>rw[cg,nV,ih,cg];rfl
 have u:(repS (⟨#[97+l.toNat]⟩:Str) m).length=m.toNat:=by rw[<- Qj,v,ic]
 wp_walk using QS ?_ ?_ ?_ (fun a a0 a1=>?_)
 ·lia
 ·lia
 ·show 1<=100;decide
 ·rw[u];lia
 ·rw[u];lia
 ·rw[u];lia
 ·lia
 ·lia
 ·lia
 rw[u]at a1;generalize repS (⟨#[97+l.toNat]⟩:Str) m=Ho at v u;have J:∀x∈Ho.cps.toList,97<=x/\x<=122:=fun x hx=>by
  rw[v]at hx;have:=List.eq_of_mem_replicate hx;lia
 refine Uf (cs:=dh many.toNat) (D:=fun(i:Nat)=>.int (0+(i:Int))) (fun i=>.str (nmL Ho.cps.toList a.toNat (97+((first+step*(i:Int)) % 26).toNat))) (by simp;lia) ?_ ?_
 ·intro i hi K2 X2 S;have hi:=fg.mp hi;have q0:0<=(first+step*(0+(i:Int))) % 26:=fK _ (by decide)
  have q1:(first+step*(0+(i:Int))) % 26<26:=eN _ (by decide)
  wp_walk using zs3 (k:=((first+step*(0+(i:Int))) % 26).toNat) (by decide) (by lia) (letters (by lia)) ?_
  all_goals first
   | lia
   | exact .inl ⟨by lia,by lia⟩
   | skip
  ·have l3:(cutS Ho none (some a)).length<=7:=by
    rw[<- Qj,zeC (k:=a.toNat) (by lia)]
    have:=Qj Ho;simp;lia
   show(cutS Ho none (some a)).length+1<=16777216
   lia
  ·have l3:(cutS Ho none (some a)).length<=7:=by
    rw[<- Qj,zeC (k:=a.toNat) (by lia)]
    have:=Qj Ho;simp;lia
   have l4:(cutS Ho (some a) none).length<=7:=by
    rw[<- Qj,zhu (k:=a.toNat) (by lia) (by lia),eE]
    have:=Qj Ho;lia
   rw[<- Qj,ziz,aY,Qj];show _+1+_<=_
   lia
  ·have e:(cutS Ho none (some a)++(⟨#[97+((first+step*(0+(i:Int))) % 26).toNat]⟩:Str)++cutS Ho (some a) none)=nmL Ho.cps.toList a.toNat (97+((first+step*(i:Int)) % 26).toNat):=by
    apply L2.Str.ext';rw[ziz,ziz,zeC (k:=a.toNat) (by lia),zhu (k:=a.toNat) (by lia) (by lia),Int.zero_add]
    rfl
   rw[e];exact S
 ·have e:((dh many.toNat).map fun(i:Nat)=>gf (nmL Ho.cps.toList a.toNat (97+((first+step*(i:Int)) % 26).toNat)))=((dh many.toNat).map fun(i:Nat)=>nmL Ho.cps.toList a.toNat (97+((first+step*(i:Int)) % 26).toNat)).map .str:=by rw[cH];rfl
  rw[e];have I:∀i:Nat,0<=(first+step*(i:Int)) % 26/\(first+step*(i:Int)) % 26<26:=fun i=>⟨fK _ (by decide),eN _ (by decide)⟩
  refine h _ (by simp) (fun s hs=>?_) ?_
  ·obtain⟨i,hi,rfl⟩:=aS.mp hs;have:=I i;have:=Qj Ho;exact zss (by lia) J (by lia)
  ·rw[List.Nodup,dW];refine gH ?_ (List.nodup_range (n:=many.toNat));intro i j hi Y ne e;have hi:=fg.mp hi;have Y:=fg.mp Y;have e':=zpO e;have:=I i;have:=I j;have:=zmb C (first:=first) (i:=i) (j:=j) (by lia) (by lia) (by lia) (by lia) (by lia)
   exact ne (by lia)
def zep:GD:=fun ts n R=>∃(bits most:Int) (u:List Str),ts=[HAND,.int bits,.list (nD u),.int most]/\1<=bits/\bits<=64/\0<=most/\most<64/\u≠[]/\u.length<=1000/\(∀s∈u,IsNm s)/\n<=1000000000000 - 200000 /\
 ∀(d:Deal) (m:Nat),Dl d->d.1=bits->d.2.1.length<=most.toNat->d.2.2.length<=most.toNat->(∀p∈d.2.1++d.2.2,p.2∈u)->m<=n+10000->R (dlD d) m
theorem zeH{bits most:Int}{u:List Str}{n:Nat}{R:qN}(x:1<=bits)(y:bits<=64)(m0:0<=most)(v:most<64)(ne:u≠[])(l:u.length<=1000)(C:∀s∈u,IsNm s)(G:n<=1000000000000 - 200000)
 (h:∀(d:Deal) (m:Nat),Dl d->d.1=bits->d.2.1.length<=most.toNat->d.2.2.length<=most.toNat->(∀p∈d.2.1++d.2.2,p.2∈u)->m<=n+10000->R (dlD d) m):zep [HAND,.int bits,.list (nD u),.int most] n R:=⟨bits,most,u,rfl,x,y,m0,v,ne,l,C,G,h⟩
def zd6(Z:ZZ):Prop:=FQ Z "_law_deal" (top 66) ["_law_hand_here","_law_bits_here","_law_names_here","_law_most"] 7 (spD Z.K 4 zep)
theorem zgG(D:Dq Z.K Z.mg "_law_deal" (top 66) ["_law_hand_here","_law_bits_here","_law_names_here","_law_most"]) (Hu:zdm Z) (Hk:UF Z) (Hj:UG Z) (T:Txt Z.mg):zd6 Z:=by
 refine' okQ D (fnS (N:=["_law_hand_here","_law_bits_here","_law_names_here","_law_most","_law_outs_here","_law_kept","_law_block_here","_law_name","_law_size","_law_there"]) (by decide +kernel)) rfl fun f cdv A outer s H E U=>⟨_,(Jb (Vs (VD (i:=4) (ndB rfl) rfl (er rfl) (own:=["_law_block_here"]) (capt:=[0,2]) rfl (JK.of rfl) (dil (Qp (Jd Hu U (dbv 0 (dbv 1 (dbv 3 Ja)))))) (fun _ _ _ _=>(dgv 0 (ndB rfl))) (by decide) (fun _ _ _ _=>Vt) (fun _ _ _ _=>(Js (dbv 0 (dbc (Jd Hk U (dbv 1 (dbv 2 Ja))) Ja)))))) (Jb (US (i:=5) (ndB rfl) rfl (er rfl) (Jt Ja)) (Jb (Qv cq rfl (Qp (Jd Hu U (dbv 0 (dbv 1 (dbv 3 Ja))))) (dgv 6 (ndB rfl)) (Jb (dsv 7 (ndB rfl) (Jd Hk U (dbv 0 (dbv 2 Ja)))) (Jb (dsv 8 (ndB rfl) (JT dli (dl (Jh (dlv 6) dli)))) (Jb (Vs (VD (i:=9) (ndB rfl) rfl (er rfl) (own:=["_law_one"]) (capt:=[8,6]) rfl (JK.of rfl) (dil (QF (Jk 4))) (fun _ _ _ _=>(dgv 0 (ndB rfl))) (by decide) (fun _ _ _ _=>(Uw (QA (zlV (Jr (Qx U) Qw (dl (Jh (dl (Jh (dlv 0) dli)) dli)) (dl (JF (dl (Jh (dlv 2) dli)) (dlv 1))) (Jl _)) (zik (Jr (Qx U) Qw (dl (Jh (dlv 2) dli)) (dl (JF (dl (Jh (dl (Jh (dlv 0) dli)) dli)) (dl (JT dli (dl (Jh (dl (Jh (dlv 0) dli)) dli)))))) (Jl _))))))) (fun _ _ _ _=>(Jk 0)))) (Jb (Jx (QA (QP (Jr (QH U) QB (dlv 9) (dl (Jj (Jt Ja))) (Jl _)) (Uq (Jr (QH U) QB (dl (Jd Hj U (dbv 0 (dbc Je Ja)))) dli (Jl _))))) (Jc (dsv 7 (ndB rfl) (Jh (dl (Jj (Yg (dl (Jj (dnc ["_law_one"] [] (dil (QF (Jk 9))) (fun _ _ _ _=>(dgv 0 (ndB rfl))) (fun _ _ _ _=>(Jh (dlv 0) dli))))) (dl (Jj (Jt (dbv 7 Ja))))))) dli))) Jz) (Jc (Jx (Jr (QH U) QB (dl (Jj (dnf ["_law_one"] [7] (dil (QF (Jk 9))) (fun _ _ _ _=>(dgv 0 (ndB rfl))) (fun _ _ _ _=>(Uw (Jr (QW U) QQ (dl (Jh (dlv 0) dli)) (dlv 1) (Jl _)))) (fun _ _ _ _=>(Jk 0))))) (dl (Jj (Jt Ja))) (Jl _)) (Jc (Qi 5 (Js (dbv 6 (dbv 7 Ja))))) Jz))))))) (Ug 5 (Jc (Ji (Js (dbv 1 (dbc (Qk Ue Q6 T.tup QK (Jf (dlv 4) Jn Jq)) (dbc (Qk Ue Q6 T.tup QK (Jf (dlv 5) Jn Jq)) Ja)))))))))),?_⟩
 intro ts n R hl h;obtain⟨bits,most,I,rfl,b0,b1,m0,m1,ne,l,hm,hn,h⟩:=h;have pick:∀{n:Nat} {Q:qN},n<=1000000000000->(∀s∈I,Q (.str s) (n+1))->Yu [HAND,.list (nD I)] n Q:=fun {n Q} hn L=>Yt (by intro z;cases I with|nil=>exact ne rfl|cons a b=>cases z) (by simp[nD];lia) hn fun x hx=>by
  obtain⟨s,hs,rfl⟩:=aS.mp hx;exact L s hs
 wp_walk using zdz b0 b1 m0 m1 ?_ (fun bs m P hlen hm1=>?_)
 ·lia
 refine zmh (fun j acc m'=>m'=m+j/\∃os:List ((Int×Int)×Str),acc=oD os/\os.map (·.1)=bs.take j/\∀p∈os,p.2∈I) ⟨rfl,[],rfl,by simp,fun p C=>nomatch C⟩ ?_ ?_
 ·rintro j x acc m' K ej ⟨rfl,os,rfl,e1,e2⟩ hK;obtain⟨i,g,eb,rfl⟩:=Yl ej;have jl:=(av.mp eb).1;have lo:os.length=j:=by
   have:=congrArg eD e1;simp at this;lia
  wp_walk using pick ?_ (fun s hs=>?_)
  ·lia
  ·rw[UX];lia
  ·refine hK _ _ ⟨by lia,os++[((i,g),s)],by simp[oD],?_,?_⟩
   ·rw[eh,e1,fk,eb];rfl
   ·intro p C;rcases aE.mp C with z|z
    ·exact e2 p z
    ·cases aC.mp z;exact hs
 ·rintro acc m' ⟨rfl,os,rfl,e1,e2⟩;rw[JB,c9]at e1
  wp_walk using zdz b0 b1 m0 m1 ?_ (fun cs m2 P2 hlen2 hm2=>?_)
  ·rw[JB];lia
  rw[JB]at hm2;have lo:os.length=bs.length:=by rw[<- aL (f:=(·.1)),e1]
  have Bo:∀p∈os,IsBk bits p.1.1 p.1.2:=fun p C=>P.1 _ (by rw[<- e1];exact aS.mpr ⟨p,C,rfl⟩)
  refine zoP 5 6 7 8 9 (fun k a5 _ _ _ _ m'=>m'<=m2+2*k/\∃J:List ((Int×Int)×Str),a5=some (.own (oD J))/\(J.map (·.1)).Sublist (cs.take k)/\(∀q∈J,q.2∈I)/\Agr os J) ⟨by lia,[],rfl,by simp,fun q L=>(nomatch L),fun p C q L=>(nomatch L)⟩ ?_ ?_
  ·rintro k t a5 a6 a7 a8 a9 m' K RT BK et ⟨hm',J,rfl,sb,kn,ag⟩ hK hRT hBK;obtain⟨i,g,eb,rfl⟩:=Yl et;have kl:=(av.mp eb).1;have Bb:=P2.1 _ (aR eb);have g0:0<=g:=Bb.1;have g1:g<=bits:=Bb.2.1;have pg:=JA g.toNat;have tk:cs.take (k+1)=cs.take k++[(i,g)]:=by rw[fk,eb];rfl
   have lks:J.length<=64:=by
    have:=sb.length_le;simp at this;lia
   have skip:∀(G:Nat) (b6 b7 b8 b9:Option Cell),G<=m'+2->K [some (.val HAND),some (.val (.int bits)),some (.val (.list (nD I))),some (.val (.int most)),some (.val (.list (oD os))),some (.own (oD J)),b6,b7,b8,b9] G:=fun G b6 b7 b8 b9 h2 =>
    hK _ _ _ _ _ _ ⟨by lia,J,rfl,by rw[tk];exact sb.trans (List.sublist_append_left _ _),kn,ag⟩
   have put:∀(G:Nat) (b6 b7 b8 b9:Option Cell) (s:Str),G<=m'+2->s∈I->(∀p∈os,p.1.1<i+2 ^ g.toNat->i<p.1.1+2 ^ p.1.2.toNat->p.2=s)->K [some (.val HAND),some (.val (.int bits)),some (.val (.list (nD I))),some (.val (.int most)),some (.val (.list (oD os))),some (.own (oD J++[.tuple [.tuple [.int i,.int g],.str s]])),b6,b7,b8,b9] G:=fun G b6 b7 b8 b9 s h2 hs al =>
    hK _ _ _ _ _ _ ⟨by lia,J++[((i,g),s)],by simp[oD],by rw[tk,eh];exact sb.append (xK _),(fun q L=>by
     rcases aE.mp L with z|z
     ·exact kn q z
     ·cases aC.mp z;exact hs),fun p C q L=>by
     rcases aE.mp L with z|z
     ·exact ag p C q z
     ·cases aC.mp z
      by_cases y:p.1.1<i+2 ^ g.toNat/\i<p.1.1+2 ^ p.1.2.toNat
      ·exact .inl (al p C y.1 y.2)
      ·right
       show eB p.1<=i\/i+2 ^ g.toNat<=p.1.1
       unfold eB;lia⟩
   wp_walk using pick ?_ (fun s hs=>?_)
   ·lia
   ·exact cpow (by lia) (by lia)
   refine UE (cs:=os) (D:=fun p=>.tuple [prD p.1,.str p.2]) (fun p=>decide (p.1.1<i+2 ^ g.toNat)&&decide (i<p.1.1+2 ^ p.1.2.toNat)) (fun p=>.tuple [prD p.1,.str p.2]) (by lia) ?_ ?_
   ·intro p C K2 X2 Y hX2;have Bp:=Bo p C;have p0:=Bp.1;have p1:=Bp.2.1
    wp_walk
    ·exact cpow (by lia) (by lia)
    all_goals simp only[Qc]at *
    ·rename_i y;exact Y (by rw[decide_eq_true y,decide_eq_true hc];rfl)
    ·exact hX2 (by rw[decide_eq_false hc,hW])
    ·exact hX2 (by rw[decide_eq_false hc,cC])
   ·rw[show((os.filter fun p=>decide (p.1.1<i+2 ^ g.toNat)&&decide (i<p.1.1+2 ^ p.1.2.toNat)).map fun p=>iU [prD p.1,gf p.2])=oD (os.filter fun p=>decide (p.1.1<i+2 ^ g.toNat)&&decide (i<p.1.1+2 ^ p.1.2.toNat)) from rfl]
    generalize ets:(os.filter fun p=>decide (p.1.1<i+2 ^ g.toNat)&&decide (i<p.1.1+2 ^ p.1.2.toNat))=us
    have Kc:∀p∈us,p∈os:=fun p C=>by rw[<- ets]at C;exact(cj.mp C).1
    have uin:∀p∈os,p.1.1<i+2 ^ g.toNat->i<p.1.1+2 ^ p.1.2.toNat->p∈us:=fun p C y z=>by
     rw[<- ets];exact cj.mpr ⟨C,by rw[decide_eq_true y,decide_eq_true z];rfl⟩
    have lus:us.length<=64:=by
     have:=cU (fun p:(Int×Int)×Str=>decide (p.1.1<i+2 ^ g.toNat)&&decide (i<p.1.1+2 ^ p.1.2.toNat)) os
     rw[ets]at this;lia
    have ok3:∀vs:List ((Int×Int)×Str),(∀p∈vs,p∈os)->Okd (.list (oD vs)):=fun vs hv=>(zpD (k:=2) fun t ht=>by
     obtain⟨p,C,rfl⟩:=aS.mp ht;refine zk2 fun u hu=>?_
     simp only[aw,aH,or_false]at hu;rcases hu with rfl|rfl
     ·exact zsp
     ·exact(YW (hm _ (e2 _ (hv p C)))).mono (by decide)).okd
    have tail:∀(G:Nat) (s':Str) (b8:Option Cell),G<=m'+2->s'∈I ->
      sIf (Q0 (dOp oEq (dNew (dComp [ae "_law_one"].length [7] (dItL (dVar 9)) (Qd 0) (Q0 (dOp oNe (dOp oIx (dVar 0) (dC (bH 1))) (dVar 1))) (dVar 0))) (dNew dNil))) (Yr 5 (dTup (Qb (dVar 6) (Qb (dVar 7) dNil)))) ZR { nx:=K,rt:=RT,bk:=BK,ct:=K }
       [some (.val HAND),some (.val (.int bits)),some (.val (.list (nD I))),some (.val (.int most)),some (.val (.list (oD os))),some (.own (oD J)),some (.val (.tuple [.int i,.int g])),some (.val (.str s')),b8,some (.val (.list (oD us)))] G:=by
     intro G s' b8 hm'' hs'
     wp_walk
     refine UE (cs:=us) (D:=fun p=>.tuple [prD p.1,.str p.2]) (fun p=>!decide (p.2=s')) (fun p=>.tuple [prD p.1,.str p.2]) (by lia) ?_ ?_
     ·intro p C K2 X2 Y hX2
      wp_walk
      ·exact hX2 (by rw[decide_eq_true hc];rfl)
      ·exact Y (by rw[decide_eq_false hc];rfl)
     ·wp_walk
      ·exact ok3 _ fun p C=>Kc p (cj.mp C).1
      ·exact Yq
      ·rw[UX];lia
      ·rw[zn4]at hc;refine put _ _ _ _ _ s' hm'' hs' fun p C y z=>?_
       by_cases w:p.2=s'
       ·exact w
       ·exfalso;have:p∈us.filter fun p=>!decide (p.2=s'):=cj.mpr ⟨uin p C y z,by rw[decide_eq_false w];rfl⟩
        have e0:us.filter (fun p=>!decide (p.2=s'))=[]:=by simpa using hc
        rw[e0]at this;cases this
      ·exact skip _ _ _ _ _ hm''
    have nm:∀{Q:af->Prop},(∀s'∈I,Q (.str s'))->oIx (.list ((us.map fun p=>gf p.2)++[.str s])) (.int 0) Q:=fun {Q} L=>by
     cases us with
     | nil=>exact Vk (L s hs)
     | cons u v=>exact Vk (L u.2 (e2 u (Kc u (by simp))))
    wp_walk using QS ?_ ?_ ?_ (fun r r0 r1=>?_),tail _ _ _ ?_ ?_
    all_goals first
     | exact ok3 _ Kc
     | exact Yq
     | exact hs
     | lia
     | skip
    all_goals
     refine Uf (cs:=us) (D:=fun p=>.tuple [prD p.1,.str p.2]) (fun p=>.str p.2) (by lia) ?_ ?_
     ·intro p C K2 X2 Y
      wp_walk
      exact Y
     ·wp_walk using nm (fun s' hs'=>?_),tail _ _ _ ?_ ?_
      ·simp;lia
      ·lia
      ·exact hs'
  ·rintro a5 a6 a7 a8 a9 m' ⟨hm',J,rfl,sb,kn,ag⟩;rw[JB,c9]at sb
   wp_walk
   refine h (bits,os,J) _ ⟨b0,b1,⟨by rw[e1];exact P,fun p C=>hm _ (e2 p C)⟩,⟨⟨fun b hb=>P2.1 b (sb.subset hb),P2.2.sublist sb⟩,fun q L=>hm _ (kn q L)⟩,ag⟩ rfl (by show os.length<=_;lia) ?_ ?_ ?_
   ·have:=sb.length_le;rw[aL]at this;show J.length<=_
    lia
   ·intro p C;rcases aE.mp C with z|z
    ·exact e2 p z
    ·exact kn p z
   ·rw[JB]at hm';lia
theorem zp1{a b:Int}{c:Prop}[Decidable c]{R:af->Prop}(h:∀z:Int,z=a\/z=b->R (.int z)):oIx (.list [.int a,.int b]) (.int (if decide c=true then 1 else 0)) R:=by
 by_cases hc:c
 ·rw[if_pos (decide_eq_true hc)];exact zoG (h b (.inr rfl))
 ·rw[if_neg (by simp[hc])];exact Vk (h a (.inl rfl))
def zeq:GD:=fun ts n R=>∃x:Int,ts=[HAND,.int x]/\0<=x/\n<=1000000000000 - 400000/\∀(d:Deal) (v:List Str) (m:Nat),Dl d->v≠[]->v.length<=4->(∀s∈v,IsNm s)->d.2.1.length<=20->d.2.2.length<=20->m<=n+20000->R (.tuple [dlD d,.list (nD v)]) m
theorem ziw{x:Int}{n:Nat}{R:qN}(k0:0<=x)(y:n<=1000000000000 - 400000)(h:∀(d:Deal) (v:List Str) (m:Nat),Dl d->v≠[]->v.length<=4->(∀s∈v,IsNm s)->d.2.1.length<=20->d.2.2.length<=20->m<=n+20000->R (.tuple [dlD d,.list (nD v)]) m):zeq [HAND,.int x] n R:=⟨x,rfl,k0,y,h⟩
def zd7(Z:ZZ):Prop:=FQ Z "_law_case" (top 67) ["_law_hand_here","_law_k"] 8 (spD Z.K 2 zeq)
theorem zgH(D:Dq Z.K Z.mg "_law_case" (top 67) ["_law_hand_here","_law_k"]) (HE:zdn Z) (HM:zd8 Z) (L:UG Z) (Y:zd6 Z) (T:Txt Z.mg):zd7 Z:=by
 refine' okQ D (fnS (N:=["_law_hand_here","_law_k","_law_bits_here","_law_names_here","_law_most"]) (by decide +kernel)) rfl fun f cdv A outer s H E u=>⟨_,(Jb (dsv 2 (ndB rfl) (Jv (U1 rfl) UU T.min QZ (Jf (dl (Jd HM u (dbv 0 Ja))) (Jf (dl (Jh (dl (Jj (Jt (dbc Je (dbc Je Ja))))) (dl (Qk ZB Z7 T.int boot_int (Jf (dl (Qo QR gp_B (dlv 1) dli (Jl _))) Jn Vc))))) Jn Y7) QY))) (Jb (dsv 3 (ndB rfl) (Jd HE u (dbv 0 (dbc (JF dli (dl (Jd L u (dbv 0 (dbc Je Ja))))) Ja)))) (Jb (dsv 4 (ndB rfl) (Jh (dl (Jj (Jt (dbc Je (dbc Je (dbc Je (dbc Je (dbc Je (dbc Je (dbc Je (dbc Je Ja))))))))))) (dl (Jd L u (dbv 0 (dbc Je Ja)))))) (Jb (dsv 4 (ndB rfl) (Jv (zmo rfl) zqk T.min QZ (Jf (dlv 4) (Jf (dl (Jh (dl (Jj (Jt (dbc Je (dbc Je Ja))))) (dl (Qk ZB Z7 T.int boot_int (Jf (dl (Qo QR gp_B (dlv 1) dli (Jl _))) Jn Vc))))) (Jf (dl (Jh (dl (Jj (Jt (dbc Je (dbc Je Ja))))) (dl (Qk ZB Z7 T.int boot_int (Jf (dl (Qo QR gp_B (dlv 2) dli (Jl _))) Jn Vc))))) Jn Y7) Y7) Jq))) (Jc (Ji (Js (dbc (Jd Y u (dbv 0 (dbv 2 (dbc (zt0 (Jj (VC (dlv 3) Ua (Ub (UR Je)))) (Uo (Jk 3))) (dbv 4 Ja))))) (dbv 3 Ja))))))))),?_⟩
 intro ts n R hl h;obtain⟨kk,rfl,k0,hn,h⟩:=h;have ml:∀x∈[bH 5,bH 5,bH 5,bH 5,bH 5,bH 5,bH 5,bH 20],∃most:Int,x=.int most/\0<=most/\most<=20:=fun x hx=>by
  simp only[aw,aH,or_false]at hx;rcases hx with rfl|rfl|rfl|rfl|rfl|rfl|rfl|rfl <;> exact⟨_,rfl,by decide,by decide⟩
 wp_walk using zix ?_ (fun bits b0 b1=>?_),QS ?_ ?_ ?_ (fun r r0 r1=>?_),zhH ?_ ?_ ?_ (fun l nl C nd=>?_),zp1 (fun z hz=>?_)
 all_goals first|lia|exact cpow (by lia) (by lia)|(simp;done)|skip
 all_goals
  refine zoF (by lia) (by simp;lia) fun x hx=>?_
  obtain⟨most,rfl,m0,m1⟩:=ml x hx
  wp_walk using zp1 (fun y hy=>?_)
 all_goals
  rename_i G hy1;have ne:l≠[]:=fun z=>by rw[z]at nl;simp at nl;lia
  have I:0<=min3 most G y/\min3 most G y<=20:=by unfold min3;lia
  have v:1<=(if z<bits then z else bits)/\(if z<bits then z else bits)<=64:=by lia
  generalize min3 most G y=mo at I ⊢;generalize (if z<bits then z else bits)=bt at v ⊢
 ·refine zeH v.1 v.2 I.1 (by lia) ne (by lia) C (by lia) fun d m D e l1 l2 pn hm=>?_
  wp_walk
  exact h d l m D ne (by lia) C (by lia) (by lia) (by lia)
 ·have S:cutD (nJ gf l) none (some (-1))=nD (l.take (l.length - 1)):=by
   rw[zoe,aL,<- sP];rfl
  rw[S]at hc ⊢;have U:∀s∈l.take (l.length - 1),s∈l:=fun s J=>fZ J
  refine zeH v.1 v.2 I.1 (by lia) (fun z=>by rw[z]at hc;cases hc) (by simp;lia) (fun s J=>C s (U s J)) (by lia) fun d m D e l1 l2 pn hm=>?_
  wp_walk
  exact h d l m D ne (by lia) C (by lia) (by lia) (by lia)
def zcJ:GD:=fun ts n R=>∃(d:Deal) (nm:af),ts=[dlD d,nm]/\Dl d/\UK nm/\d.2.1.length+d.2.2.length<64/\∀gs,NR gs->(∀x,mR x gs↔Free d nm x)->gs.length<=100->R (.list (pD gs)) n
theorem ziv{d:Deal}{nm:af}{n:Nat}{R:qN}(D:Dl d)(hw:UK nm)(l:d.2.1.length+d.2.2.length<64)(h:∀gs,NR gs->(∀x,mR x gs↔Free d nm x)->gs.length<=100->R (.list (pD gs)) n):zcJ [dlD d,nm] n R:=⟨d,nm,rfl,D,hw,l,h⟩
def zd5(Z:ZZ):Prop:=FQ Z "_law_gaps" (top 68) ["_law_deal_here","_law_name"] 1 (spD Z.K 2 zcJ)
theorem zgF(D:Dq Z.K Z.mg "_law_gaps" (top 68) ["_law_deal_here","_law_name"]) (T:Txt Z.mg):zd5 Z:=by
 refine' okQ D (fnS (N:=["_law_deal_here","_law_name","_law_taken","_law_found","_law_low","_law_begin","_law_height"]) (by decide +kernel)) rfl fun f cdv A outer s H E C=>⟨_,(Jb (dsv 2 (ndB rfl) (Jj (zew C T.srt (dl (Jj (Yg (dl (Jj (dnc ["_law_block_here","_law_owner"] [] (dil (Qp (Jh (dlv 0) dli))) (fun _ _ _ _=>(JQ rfl (Jm (dgv 0 (ndB rfl)) (Jm (dgv 1 (ndB rfl)) JR)))) (fun _ _ _ _=>(Jk 0))))) (dl (Jj (dnf ["_law_block_here","_law_owner"] [1] (dil (Qp (Jh (dlv 0) dli))) (fun _ _ _ _=>(JQ rfl (Jm (dgv 0 (ndB rfl)) (Jm (dgv 1 (ndB rfl)) JR)))) (fun _ _ _ _=>(Uw (Jr (QW C) QQ (dlv 1) (dlv 2) (Jl _)))) (fun _ _ _ _=>(Jk 0)))))))) QJ))) (Jb (zqu (i:=3) (j:=4) rfl (ndB rfl) rfl rfl (by decide) rfl rfl (Jt Ja) Je) (Jb (Qv cq rfl (QF (Jk 2)) (JQ rfl (Jm (dgv 5 (ndB rfl)) (Jm (dgv 6 (ndB rfl)) JR))) (Jb (Jx (Jr QR gp_B (dlv 5) (dlv 4) (Jl _)) (Jc (Qi 3 (Js (dbv 4 (dbv 5 Ja))))) Jz) (Jc (dsv 4 (ndB rfl) (Jv (ZC rfl) Y0 T.max Yv (Jf (dlv 4) (Jf (dl (JF (dlv 5) (dl (JT dli (dlv 6))))) Jn QJ) Jq)))))) (Jb (Jx (Jr (Qx C) Qw (dlv 4) (dl (JT dli (dl (Jh (dlv 0) dli)))) (Jl _)) (Jc (Qi 3 (Js (dbv 4 (dbc (JT dli (dl (Jh (dlv 0) dli))) Ja))))) Jz) (Ug 3 (Jc (Ji (Jk 3)))))))),?_⟩
 intro ts n R hl h;obtain⟨d,nm,rfl,D,hw,l,h⟩:=h;obtain⟨bits,os,I⟩:=d;obtain⟨b0,b1,S1,S2,ag⟩:=D;have b0:1<=bits:=b0;have b1:bits<=64:=b1;have S1:Shr bits os:=S1;have S2:Shr bits I:=S2;have l:os.length+I.length<64:=l;have hn:∀p∈I,IsNm p.2:=S2.2;have lk:=ze8 (d:=(bits,os,I)) (nm:=nm);have lk:(JV (bits,os,I) nm).length<=I.length:=lk;rw[show dlD (bits,os,I)=.tuple [.int bits,.tuple (oD os),.tuple (oD I)] from rfl]
 have B:Bks bits (os.map (·.1)++JV (bits,os,I) nm):=fun b S=>by
  rcases aE.mp S with z|z
  ·exact S1.1.1 b z
  ·exact S2.1.1 b (ze7 b z)
 have top:=JA bits.toNat
 wp_walk
 refine Uf (cs:=os) (D:=fun p=>.tuple [prD p.1,.str p.2]) (fun p=>prD p.1) (by lia) ?_ ?_
 ·intro p hp K2 X2 U
  wp_walk
  exact U
 wp_walk
 refine UE (cs:=I) (D:=fun p=>.tuple [prD p.1,.str p.2]) (fun p=>!who p.2 nm) (fun p=>prD p.1) (by lia) ?_ ?_
 ·intro p hp K2 X2 U hX2;rcases hw with rfl|⟨s,rfl,ns⟩
  ·wp_walk
   ·exact(YW (hn p hp)).okd
   ·exact U rfl
  ·wp_walk
   ·exact hX2 (by show(!decide (p.2=s))=false;rw[decide_eq_true hc];rfl)
   ·exact U (by show(!decide (p.2=s))=true;rw[decide_eq_false hc];rfl)
 have e1:(os.map fun p=>prD p.1)=pD (os.map (·.1)):=by
  unfold pD;rw[cH];rfl
 have e2:((I.filter fun p=>!who p.2 nm).map fun p=>prD p.1)=pD (JV (bits,os,I) nm):=by
  unfold pD JV;rw[cH];rfl
 rw[e1,e2]
 wp_walk
 ·rw[JB,JB,aL];lia
 rw[Z9];have ll:(os.map (·.1)++JV (bits,os,I) nm).length<64:=by rw[aY,aL];lia
 have fr:∀x,Free (bits,os,I) nm x↔0<=x/\x<2 ^ bits.toNat/\¬mB x (os.map (·.1)++JV (bits,os,I) nm):=fun x=>by
  rw[Zh];show 0<=x/\x<2 ^ bits.toNat/\¬mB x (os.map (·.1))/\¬mB x (JV (bits,os,I) nm)↔_
  constructor
  ·rintro⟨a,b,c,e⟩;exact⟨a,b,fun z=>z.elim c e⟩
  ·rintro⟨a,b,c⟩;exact⟨a,b,fun z=>c (.inl z),fun z=>c (.inr z)⟩
 generalize os.map (·.1)++JV (bits,os,I) nm=bs at B ll fr;refine zlB (.inl rfl) b1 B (by lia) fun cs pm pw=>?_
 have Bc:Bks bits cs:=fun b S=>B b (pm.mem_iff.mp S)
 have lc:=pm.length_eq;have fr:∀x,Free (bits,os,I) nm x↔0<=x/\x<2 ^ bits.toNat/\¬mB x cs:=fun x=>by rw[fr,zla pm]
 wp_walk
 ·rfl
 refine Z6 3 4 5 6 (fun k a3 a4 _ _ m=>m=n/\∃(gs:qB) (G:Int),a3=some (.own (pD gs))/\a4=some (.val (.int G))/\NR gs/\(∀x,mR x gs↔0<=x/\x<G/\¬mB x (cs.take k))/\gs.length<=k/\0<=G/\G<=2 ^ bits.toNat/\(∀b∈cs.take k,eB b<=G)/\(∀g∈gs,g.2<G)/\(∀g∈gs,∀b∈cs.drop k,g.2<=b.1)) ⟨rfl,[],0,rfl,rfl,⟨(fun r C=>nomatch C),.nil⟩,(fun x=>⟨fun z=>absurd z QG,fun z=>by lia⟩),aA _,bh _,by lia,(fun r C=>nomatch C),(fun r C=>nomatch C),fun r C=>nomatch C⟩ ?_ ?_
 ·rintro k t' a3 a4 a5 a6 m K RT BK et ⟨rfl,gs,G,rfl,rfl,ng,me,lg,be0,be1,ti,gl,dr⟩ hK hRT hBK;obtain⟨i,g,eb,rfl⟩:=Yl et;have kl:=(av.mp eb).1;have Bb:=Bc _ (aR eb);have g0:0<=g:=Bb.1;have g1:g<=bits:=Bb.2.1;have i0:0<=i:=(Bb.bounds (by lia)).1
  have i1:i+2 ^ g.toNat<=2 ^ bits.toNat:=(Bb.bounds (by lia)).2
  have pg:=JA g.toNat;have tk:cs.take (k+1)=cs.take k++[(i,g)]:=by rw[fk,eb];rfl
  have dk:cs.drop k=(i,g)::cs.drop (k+1):=by
   rw[cA kl];congr 1;have:=aJ kl;rw[eb]at this;exact(aM this).symm
  have after:∀b∈cs.drop (k+1),i<=b.1:=fun b S=>by
   have:=(pw.sublist (kM k cs));rw[dk]at this;exact(eM.mp this).1 b S
  have m1:∀x,mB x (cs.take (k+1))↔mB x (cs.take k)\/(i<=x/\x<i+2 ^ g.toNat):=fun x=>by
   rw[tk,Zh,zh8];constructor
   ·rintro(z|z|z)
    ·exact .inl z
    ·exact .inr z
    ·exact absurd z Zi
   ·rintro(z|z)
    ·exact .inl z
    ·exact .inr (.inl z)
  have old:∀x,G<=x->¬mB x (cs.take k):=fun x hx ⟨r,C,h1,h2⟩=>by have:=ti r C;lia
  have gb:∀x,mR x gs->x<i:=fun x ⟨r,C,h1,h2⟩=>by
   have:r.2<=i:=dr r C (i,g) (by rw[dk];simp)
   lia
  have go:∀(J:qB) (c5 c6:Option Cell) (L:Int),L=max G (i+2 ^ g.toNat)->NR J->(∀x,mR x J↔mR x gs\/(G<=x/\x<i))->J.length<=k+1->(∀g'∈J,g'.2<L)->(∀g'∈J,g'.2<=i)->K [some (.val (.tuple [.int bits,.tuple (oD os),.tuple (oD I)])),some (.val nm),some (.val (.list (pD cs))),some (.own (pD J)),some (.val (.int L)),c5,c6] m:=fun J c5 c6 L eb' n' m' l' g' g'' =>
   hK _ _ _ _ _ ⟨rfl,J,L,rfl,rfl,n',(fun x=>by
    rw[m',me,m1];have ox:=old x;have gx:=gb x;rw[me]at gx;constructor
    ·rintro(z|⟨a,b⟩)
     ·have:=gx z;obtain⟨a,b,c⟩:=z;exact⟨a,by lia,fun z=>z.elim c fun z=>by lia⟩
     ·exact⟨by lia,by lia,fun z=>z.elim (ox a) fun z=>by lia⟩
    ·rintro⟨a,b,c⟩
     by_cases y:x<G
     ·exact .inl ⟨a,y,fun z=>c (.inl z)⟩
     ·refine .inr ⟨by lia,?_⟩
      by_cases u:x<i
      ·exact u
      ·exact absurd (.inr ⟨by lia,by lia⟩) c),l',by lia,by lia,(fun r C=>by
    rw[tk]at C;rcases aE.mp C with z|z
    ·have:=ti r z;lia
    ·cases aC.mp z;show i+2 ^ g.toNat<=_;lia),g',fun r C b S=>by
    have:=g'' r C;have:=after b S;lia⟩
  have mx:(if i+1*2 ^ g.toNat > G then i+1*2 ^ g.toNat else G)=max G (i+2 ^ g.toNat):=by rw[Qc];split <;> lia
  wp_walk
  ·rw[JB];lia
  ·exact cpow (by lia) (by lia)
  ·rw[Ut];refine go (gs++[(G,i)]) _ _ _ mx ⟨fun r C=>?_,?_⟩ (fun x=>?_) (by simp;lia) (fun g' Y=>?_) fun g' Y=>?_
   ·rcases aE.mp C with z|z
    ·exact ng.1 r z
    ·cases aC.mp z;exact hc
   ·rw[cy];exact⟨ng.2,cI _ _,fun a ha b S=>by cases aC.mp S;exact gl a ha⟩
   ·rw[Us,Uc];constructor
    ·rintro(z|z|z)
     ·exact .inl z
     ·exact .inr z
     ·exact absurd z QG
    ·rintro(z|z)
     ·exact .inl z
     ·exact .inr (.inl z)
   ·rw[mx];rcases aE.mp Y with z|z
    ·have:=gl g' z;lia
    ·cases aC.mp z;show i<_;lia
   ·rcases aE.mp Y with z|z
    ·exact dr g' z (i,g) (by rw[dk];simp)
    ·cases aC.mp z;exact bh _
  ·exact cpow (by lia) (by lia)
  ·refine go gs _ _ _ mx ng (fun x=>⟨.inl,fun z=>z.elim id fun z=>by lia⟩) (by lia) (fun g' Y=>?_) fun g' Y=>dr g' Y (i,g) (by rw[dk];simp)
   have:=gl g' Y;rw[mx];lia
 ·rintro a3 a4 a5 a6 m ⟨rfl,gs,G,rfl,rfl,ng,me,lg,be0,be1,ti,gl,dr⟩;rw[JB]at me lg ti;rw[c9]at me ti;have old:∀x,G<=x->¬mB x cs:=fun x hx ⟨r,C,h1,h2⟩=>by have:=ti r C;lia
  wp_walk
  ·exact cpow (by lia) (by lia)
  ·exact cpow (by lia) (by lia)
  ·rw[JB];lia
  ·rw[Ut,Qc]at *;refine h (gs++[(G,2 ^ bits.toNat)]) ⟨fun r C=>?_,?_⟩ (fun x=>?_) (by simp;lia)
   ·rcases aE.mp C with z|z
    ·exact ng.1 r z
    ·cases aC.mp z;exact hc
   ·rw[cy];exact⟨ng.2,cI _ _,fun a ha b S=>by cases aC.mp S;exact gl a ha⟩
   ·rw[Us,Uc,me,fr];have ox:=old x;constructor
    ·rintro(⟨a,b,c⟩|z|z)
     ·exact⟨a,by lia,c⟩
     ·exact⟨by have:=z.1;lia,z.2,ox z.1⟩
     ·exact absurd z QG
    ·rintro⟨a,b,c⟩
     by_cases y:x<G
     ·exact .inl ⟨a,y,c⟩
     ·exact .inr (.inl ⟨by show G<=x;lia,b⟩)
  ·rw[Qc]at *;refine h gs ng (fun x=>?_) (by lia)
   rw[me,fr];constructor
   ·rintro⟨a,b,c⟩;exact⟨a,by lia,c⟩
   ·rintro⟨a,b,c⟩;exact⟨a,by lia,c⟩
def msg(c:Str):Str:=if c=ae "NoDeed" then ae "no deed" else if c=ae "NotTheirs" then ae "not theirs" else ae "no room"
def zcw:GD:=fun ts n R=>∃a b,ts=[a,b]/\Yi [a,b] n (fun _ m=>R .none m) fun c m=>c∈EXS/\R (.str (msg c)) m
theorem zeU{a b:af}{n:Nat}{R:qN}(h:Yi [a,b] n (fun _ m=>R .none m) fun c m=>c∈EXS/\R (.str (msg c)) m):zcw [a,b] n R:=⟨a,b,rfl,h⟩
def zcs(Z:ZZ):Prop:=FQ Z "_law_refused" (top 69) ["_law_deal_here","_law_deed"] 9 (spD Z.K 2 zcw)
theorem zeb(D:Dq Z.K Z.mg "_law_refused" (top 69) ["_law_deal_here","_law_deed"]) (J:zkC Z) (x:QM Z.K Z.mg EXS EYS "DealError") (T:Txt Z.mg):zcs Z:=by
 refine' okQ D (fnS (N:=["_law_deal_here","_law_deed","_law_caught","e","_law_marks"]) (by decide +kernel)) rfl fun f L A outer s H E G=>⟨_,(Jb (dsv 2 (ndB rfl) Yd) (Jb (ztS (i:=2) (ie:=3) J x.under G (ndB rfl) (dbv 0 (dbv 1 Ja))) (Jb (Jx (Jr zsj ztE (dlv 2) (dl Yd) (Jl _)) (Jc (Ji Yd)) Jz) (Jb (dsv 4 (ndB rfl) (Jj (Jt (dbc (zl3 x (by decide +kernel) T.isi (Jk 2) Jq) (dbc (zl3 x (by decide +kernel) T.isi (Jk 2) Jq) (dbc (zl3 x (by decide +kernel) T.isi (Jk 2) Jq) Ja)))))) (Jb (Jx (QA (QP (Jr (QW G) QQ (dl (zod (dlv 4))) dli (Jl _)) (QP (J1 (dl (zqA x (by decide +kernel) (by decide +kernel) T.isi (Jk 2) Jq))) (Uq (Qq (J1 (dl (zt1 x T.isi T.vae (Jk 2) Jq)))))))) (Jc (Ji Qz)) Jz) (Jc (Ji (Jh (dl (Jj (Jt (dbc Qz (dbc Qz (dbc Qz Ja)))))) (dl (zl4 (dlv 4))))))))))),?_⟩
 intro ts n R S h;obtain⟨a,b,rfl,h⟩:=h
 wp_walk
 ·rfl
 wp_walk
 refine zk9 h (fun t m z=>?_) fun c m z=>⟨z.1,fun C I=>?_⟩
 ·wp_walk
  ·exact z
  ·exact absurd hc (by simp[isNone])
 ·obtain⟨u,z⟩:=z;have e:c=ae "NoDeed" \/ c=ae "NotTheirs" \/ c=ae "NoRoom":=by
   simpa[EXS] using u
  have y:(decide (c=ae "NoLine")||decide (c=ae "NoText"))=false:=by rcases e with rfl|rfl|rfl <;> decide +kernel
  change SetK 2 (some (.val (EXC C))) _ _ _
  wp_walk using isE u I ?_
  ·exact absurd hc (by simp[isNone,EXC])
  refine⟨[_,_,_],rfl,?_⟩
  wp_walk using isE u I ?_
  ·rw[y]at hc;cases hc
  ·change dVar 4 _ _ _
   wp_walk
   refine⟨[_,_,_],rfl,?_,(by simp),?_⟩
   ·rcases e with rfl|rfl|rfl <;> decide +kernel
   ·rcases e with rfl|rfl|rfl
    ·rw[show rg true [decide (ae "NoDeed" = ae "NoDeed"),decide (ae "NoDeed" = ae "NotTheirs"),decide (ae "NoDeed" = ae "NoRoom")]=0 from by decide +kernel]
     wp_walk
     exact z
    ·rw[show rg true [decide (ae "NotTheirs" = ae "NoDeed"),decide (ae "NotTheirs" = ae "NotTheirs"),decide (ae "NotTheirs" = ae "NoRoom")]=1 from by decide +kernel]
     wp_walk
     exact z
    ·rw[show rg true [decide (ae "NoRoom" = ae "NoDeed"),decide (ae "NoRoom" = ae "NotTheirs"),decide (ae "NoRoom" = ae "NoRoom")]=2 from by decide +kernel]
     wp_walk
     exact z
  ·exfalso;refine hc ?_;rcases e with rfl|rfl|rfl <;> decide +kernel
def goD:Option NP->af
 | none=>.none
 | some p=>.tuple [prD p.1,.str p.2]
def outO(os:List NP)(g:Option NP)(cs:List NP):List NP:=(os.filter fun p=>decide (some p≠g))++cs
theorem ztI{p:NP}{g:Option NP}:(iU [prD p.1,.str p.2]).eqv (goD g)=decide (some p=g):=by
 cases g with
 | none=>simp[goD,dH]
 | some q =>
  rw[fF,decide_eq_true_eq];obtain⟨⟨a,b⟩,c⟩:=p;obtain⟨⟨u,l⟩,x⟩:=q;simp[goD,prD,dH,fM,t7,and_assoc]
theorem ztH{g:Option NP}(h:∀p,g=some p->IsNm p.2):Okd (goD g):=by
 cases g with
 | none=>exact ZI
 | some q=>exact zkW (h q rfl)
theorem zsT{p:NP}{g:Option NP}{R:af->Prop}(x:IsNm p.2)(y:∀p,g=some p->IsNm p.2)(h:R (.bool (decide (some p≠g)))):oNe (.tuple [prD p.1,.str p.2]) (goD g) R:=by
 have e:(!(iU [prD p.1,.str p.2]).eqv (goD g))=decide (some p≠g):=by rw[ztI];simp
 have o:=ztH y;cases g with
 | none=>exact⟨zkW x,o,by rw[e];exact h⟩
 | some q=>exact⟨zkW x,o,by rw[e];exact h⟩
def zcI:GD:=fun ts n R=>∃(d:Deal) (g:Option NP) (cs:List NP),ts=[dlD d,goD g,.list (oD cs)]/\d.2.1.length+cs.length<64/\(∀p∈d.2.1,IsNm p.2)/\(∀p,g=some p->IsNm p.2)/\∀rs:List NP,rs.Perm (outO d.2.1 g cs)->rs.Pairwise (fun a b=>npRk rs a<=npRk rs b)->R (dlD (d.1,rs,d.2.2)) n
theorem ziu{d:Deal}(g:Option NP){cs:List NP}{n:Nat}{R:qN}(l:d.2.1.length+cs.length<64)(v:∀p∈d.2.1,IsNm p.2)(u:∀p,g=some p->IsNm p.2)(h:∀rs:List NP,rs.Perm (outO d.2.1 g cs)->rs.Pairwise (fun a b=>npRk rs a<=npRk rs b)->R (dlD (d.1,rs,d.2.2)) n):zcI [dlD d,goD g,.list (oD cs)] n R:=⟨d,g,cs,rfl,l,v,u,h⟩
def zd2(Z:ZZ):Prop:=FQ Z "_law_outs" (top 70) ["_law_deal_here","_law_gone","_law_come"] 1 (spD Z.K 3 zcI)
theorem zgC(D:Dq Z.K Z.mg "_law_outs" (top 70) ["_law_deal_here","_law_gone","_law_come"]) (T:Txt Z.mg):zd2 Z:=by
 refine' okQ D (fnS (N:=["_law_deal_here","_law_gone","_law_come"]) (by decide +kernel)) rfl fun f J A outer s H E C=>⟨_,(Jc (Ji (Js (dbc (Jh (dlv 0) dli) (dbc (Qk Ue Q6 T.tup QK (Jf (dl (Jj (zeu C T.srt (dl (Jj (Yg (dl (Jj (dnf ["_law_pair"] [1] (dil (Qp (Jh (dlv 0) dli))) (fun _ _ _ _=>(dgv 0 (ndB rfl))) (fun _ _ _ _=>(Uw (Jr (QW C) QQ (dlv 0) (dlv 1) (Jl _)))) (fun _ _ _ _=>(Jk 0))))) (dlv 2)))) QJ))) Jn QY)) (dbc (Jh (dlv 0) dli) Ja)))))),?_⟩
 intro ts n R hl h;obtain⟨⟨bits,os,G⟩,g,cs,rfl,l,S,I,h⟩:=h;have l:os.length+cs.length<64:=l;have e:dlD (bits,os,G)=.tuple [.int bits,.tuple (oD os),.tuple (oD G)]:=rfl;rw[e]
 wp_walk
 refine UE (cs:=os) (D:=fun p=>.tuple [prD p.1,.str p.2]) (fun p=>decide (some p≠g)) (fun p=>.tuple [prD p.1,.str p.2]) (by lia) ?_ ?_
 ·intro p L U Y y v
  wp_walk using zsT (S p L) I ?_
  ·exact y (by simpa using hc)
  ·exact v (by simpa using hc)
 ·have lf:(os.filter fun p=>decide (some p≠g)).length<=os.length:=cU ..
  wp_walk
  ·simp only[aL,oD];lia
  refine⟨outO os g cs,?_,?_,fun x pm pw=>?_⟩
  ·simp only[oD,outO,eh]
  ·simp only[outO,aY];lia
  ·wp_walk
   exact h x pm (pw.imp fun {a b} h=>by unfold npRk at h ⊢;rw[(pm.filter _).length_eq,(pm.filter _).length_eq];exact h)
def zcH:GD:=fun ts n R=>∃(bits h a lo hi:Int) (t:Bool),ts=[.int lo,.int hi,.int (1*2 ^ h.toNat),.int a,.bool t]/\1<=bits/\bits<=64/\(t=true->bits<=6)/\0<=h/\h<=bits/\0<=a/\a<2 ^ bits.toNat/\0<=lo/\lo<hi/\hi<=2 ^ bits.toNat/\∀is:List Int,Cov bits h a lo hi is->R (.list (is.map .int)) n
theorem zit{bits h a lo hi:Int}{t:Bool}{n:Nat}{R:qN}(u:1<=bits)(I:bits<=64)(G:t=true->bits<=6)(h0:0<=h)(v:h<=bits)(C:0<=a)(a1:a<2 ^ bits.toNat)(y:0<=lo)(x:lo<hi)(l2:hi<=2 ^ bits.toNat)(k:∀is:List Int,Cov bits h a lo hi is->R (.list (is.map .int)) n):zcH [.int lo,.int hi,.int (1*2 ^ h.toNat),.int a,.bool t] n R:=⟨bits,h,a,lo,hi,t,rfl,u,I,G,h0,v,C,a1,y,x,l2,k⟩
def zd1(Z:ZZ):Prop:=FQ Z "_law_some" (top 71) ["_law_low","_law_high","_law_size","_law_address","_law_all_of_them"] 1 (spD Z.K 5 zcH)
theorem zgA(D:Dq Z.K Z.mg "_law_some" (top 71) ["_law_low","_law_high","_law_size","_law_address","_law_all_of_them"]) (T:Txt Z.mg):zd1 Z:=by
 refine' okQ D (fnS (N:=["_law_low","_law_high","_law_size","_law_address","_law_all_of_them","_law_first","_law_last","_law_own"]) (by decide +kernel)) rfl fun f cdv A outer s H E hr=>⟨_,(Jb (dsv 5 (ndB rfl) (UQ (dl (Vr (dl (JZ (dl (JF (dlv 0) (dlv 2))) dli)) (dlv 2))) (dlv 2))) (Jb (dsv 6 (ndB rfl) (JZ (dl (UQ (dl (Vr (dlv 1) (dlv 2))) (dlv 2))) (dlv 2))) (Jb (Jx (Jr QR gp_B (dlv 5) (dlv 6) (Jl _)) (Jc (Ji (Jj (Jt Ja)))) Jz) (Jb (Jx (J1 (dlv 4)) (Jc (Ji (Jj (zlX rfl T.lst T.ran (Jk 5) (JF (dlv 6) dli) (Jk 2))))) Jz) (Jb (dsv 7 (ndB rfl) (UQ (dl (Vr (dlv 3) (dlv 2))) (dlv 2))) (Jc (Ji (Jj (dnf ["_law_begin"] [5,6] (dil (Qp (Js (dbv 5 (dbv 6 (dbv 7 Ja)))))) (fun _ _ _ _=>(dgv 0 (ndB rfl))) (fun _ _ _ _=>(Uw (zjl Qf Qe Qf Qe (dlv 1) (dlv 0) (dlv 2)))) (fun _ _ _ _=>(Jk 0))))))))))),?_⟩
 intro ts n R hl hh;obtain⟨bits,h,a,lo,hi,t,rfl,b0,b1,y,h0,I,a0,a1,G,l1,l2,k⟩:=hh;have z:=JA h.toNat;have p64:=Ys (k:=bits.toNat) (by lia)
 have U:=Ys (k:=h.toNat) (by lia)
 rw[bQ];have q0:0<=(lo+2 ^ h.toNat - 1) / 2 ^ h.toNat:=eR (by lia) (by lia)
 have q1:(lo+2 ^ h.toNat - 1) / 2 ^ h.toNat<lo+1:=by
  refine fP z ?_;have:=bw (show 1<=(2:Int) ^ h.toNat by lia) G
  rw[bP];lia
 have r0:0<=hi / 2 ^ h.toNat:=eR (by lia) (by lia)
 have r1:hi / 2 ^ h.toNat<hi+1:=by
  refine fP z ?_;have:=bw (show 1<=(2:Int) ^ h.toNat by lia) (show 0<=hi by lia)
  rw[bP];lia
 have s0:0<=a / 2 ^ h.toNat:=eR (by lia) (by lia)
 have s1:a / 2 ^ h.toNat<a+1:=by
  refine fP z ?_;have:=bw (show 1<=(2:Int) ^ h.toNat by lia) a0
  rw[bP];lia
 have cr:CMul (hi / 2 ^ h.toNat) (2 ^ h.toNat):=by
  by_cases e:h=0
  ·rw[e];exact .inr ⟨by decide,by decide⟩
  ·refine .inl ⟨by lia,fP z ?_⟩
   have:(2:Int)<=2 ^ h.toNat:=by
    rw[show h.toNat=(h - 1).toNat+1 from by lia,bW]
    have:=JA (h - 1).toNat;lia
   lia
 have L:=zqJ (a:=a) h0 I G l2;have S:=zma (a:=a) h0 I G l2;have ca:=zqK (a:=a) h0 I G l2;unfold fst0 lst0 at L S ca
 wp_walk
 ·exact⟨z,by lia⟩
 ·exact .inl ⟨by lia,by lia⟩
 ·exact⟨z,by lia⟩
 ·exact cr
 ·exact k [] (L hc)
 ·have:=(ca (y hc) (by lia)).1;lia
 ·have:=(ca (y hc) (by lia)).1;lia
 ·have:=(ca (y hc) (by lia)).1;lia
 ·have:=(ca (y hc) (by lia)).1;lia
 ·exact z
 ·have:=(ca (y hc) (by lia)).1;lia
 ·obtain⟨_,m,em,ml,Y⟩:=ca (y hc) (by lia)
  exact⟨m,em,by lia,k _ Y⟩
 ·exact⟨z,by lia⟩
 ·exact .inl ⟨by lia,by lia⟩
 clear L ca cr;generalize (lo+2 ^ h.toNat - 1) / 2 ^ h.toNat*2 ^ h.toNat=u at *;generalize hi / 2 ^ h.toNat*2 ^ h.toNat - 2 ^ h.toNat=v at *;generalize a / 2 ^ h.toNat*2 ^ h.toNat=w at *;refine UE (cs:=[u,v,w]) (D:=.int) (fun x=>decide (u<=x/\x<=v)) (fun x=>.int x) (by show 3<=16777216;decide) ?_ ?_
 ·intro x hx K2 X2 J C
  wp_walk
  ·exact J (decide_eq_true ⟨by assumption,hc⟩)
  ·exact C (decide_eq_false fun z=>hc z.2)
  ·exact C (decide_eq_false fun z=>hc z.1)
 ·exact k _ S
def zfe:GD:=fun ts n R=>∃(d:Deal) (nm:Str) (h a:Int),ts=[dlD d,.str nm,.int h,.int a]/\Dl d/\IsNm nm/\d.2.1.length+d.2.2.length<64/\0<=h/\h<=d.1/\0<=a/\a<2 ^ d.1.toNat/\((∀x,¬Fb d.1 (Free d (.str nm)) h x)->R .none n)/\∀x,Best d.1 (Free d (.str nm)) h a x->R (.tuple [.int x,.int h]) n
theorem zj7{d:Deal}{nm:Str}{h a:Int}{n:Nat}{R:qN}(D:Dl d)(C:IsNm nm)(l:d.2.1.length+d.2.2.length<64)(h0:0<=h)(y:h<=d.1)(v:0<=a)(a1:a<2 ^ d.1.toNat)(k1:(∀x,¬Fb d.1 (Free d (.str nm)) h x)->R .none n)(k2:∀x,Best d.1 (Free d (.str nm)) h a x->R (.tuple [.int x,.int h]) n):zfe [dlD d,.str nm,.int h,.int a] n R:=⟨d,nm,h,a,rfl,D,C,l,h0,y,v,a1,k1,k2⟩
def ze4(Z:ZZ):Prop:=FQ Z "_law_due" (top 72) ["_law_deal_here","_law_name","_law_height","_law_address"] 2 (spD Z.K 4 zfe)
theorem zh3(D:Dq Z.K Z.mg "_law_due" (top 72) ["_law_deal_here","_law_name","_law_height","_law_address"]) (HP:zd5 Z) (HQ:zd1 Z) (T:Txt Z.mg):ze4 Z:=by
 refine' okQ D (fnS (N:=["_law_deal_here","_law_name","_law_height","_law_address","_law_size","_law_found","_law_low","_law_high","_law_begin","_law_far"]) (by decide +kernel)) rfl fun f cdv A outer s H E hr=>⟨_,(Jb (zqt (i:=4) (j:=5) rfl (ndB rfl) rfl rfl (by decide) rfl rfl (JT dli (dlv 2)) (Jt Ja)) (Jb (Qv cq rfl (QF (Jd HP hr (dbv 0 (dbv 1 Ja)))) (JQ rfl (Jm (dgv 6 (ndB rfl)) (Jm (dgv 7 (ndB rfl)) JR))) (Jc (Qv cq rfl (QF (Jd HQ hr (dbv 6 (dbv 7 (dbv 4 (dbv 3 (dbc (Qo (Qx hr) Qw (dl (Jh (dlv 0) dli)) dli (Jl _)) Ja))))))) (dgv 8 (ndB rfl)) (Jb (dsv 9 (ndB rfl) (Jv (zmp rfl) zql T.max Yv (Jf dli (Jf (dl (JZ (dlv 8) (dlv 3))) (Jf (dl (JF (dl (JZ (dl (JZ (dlv 3) (dlv 8))) (dlv 4))) dli)) Jn QJ) QJ) Y6))) (Jc (Qi 5 (Js (dbv 9 (dbv 8 Ja))))))))) (Ug 5 (Jc (Ji (zoc (Jr (QW hr) QQ (dlv 5) (dl (Jj (Jt Ja))) (Jl _)) (Js (dbc (Jh (dl (Jv (zmm hr rfl) zqi T.min QZ (Jf (dlv 5) Jn Jq))) dli) (dbv 2 Ja))) Yd)))))),?_⟩
 intro ts n R hl hh;obtain⟨⟨bits,os,ks⟩,nm,h,a,rfl,D,hn,l,h0,h1,a0,a1,k1,k2⟩:=hh;have b0:1<=bits:=D.1;have b1:bits<=64:=D.2.1;have h1:h<=bits:=h1;have a1:a<2 ^ bits.toNat:=a1;obtain⟨S,eS⟩:∃S,S=Free (bits,os,ks) (.str nm):=⟨_,rfl⟩;have wS:∀x,S x->0<=x/\x<2 ^ bits.toNat:=fun x hx=>by rw[eS]at hx;exact⟨hx.1,hx.2.1⟩
 have k1:(∀x,¬Fb bits S h x)->R .none n:=by rw[eS];exact k1
 have k2:∀x,Best bits S h a x->R (.tuple [.int x,.int h]) n:=by rw[eS];exact k2
 have lg:∀{n:Nat} {R:qN},(∀gs:List L2.Run,NR gs->(∀x,mR x gs↔S x)->gs.length<=100->R (.list (pD gs)) n)->zcJ [.tuple [.int bits,.tuple (oD os),.tuple (oD ks)],.str nm] n R:=fun {n R} z=>ziv (d:=(bits,os,ks)) D (.inr ⟨nm,rfl,hn⟩) l fun gs N hx l3=>z gs N (by rw[eS];exact hx) l3
 rw[show dlD (bits,os,ks)=.tuple [.int bits,.tuple (oD os),.tuple (oD ks)] from rfl]
 wp_walk
 ·exact cpow (by lia) (by lia)
 ·rfl
 refine lg fun gs N M lgs=>?_
 have G:∀g∈gs,0<=g.1/\g.1<g.2/\g.2<=2 ^ bits.toNat:=fun g U=>by
  have lt:=N.1 g U;have a:=wS _ ((M g.1).mp ⟨g,U,by lia,lt⟩)
  have b:=wS _ ((M (g.2 - 1)).mp ⟨g,U,by lia,by lia⟩)
  lia
 have pbd:=Ys (k:=bits.toNat) (by lia)
 wp_walk
 refine zoP 5 6 7 8 9 (fun j a5 _ _ _ _ m=>m=n/\∃cs:List (Int×Int),a5=some (.own (pD cs))/\cs.length<=100*j/\(∀c∈cs,c.1=far a h c.2/\Fb bits S h c.2)/\∀g∈gs.take j,∀y,Inn bits h g.1 g.2 y->∃c∈cs,¬kLt a h y c.2) ⟨rfl,[],rfl,by simp,by simp,by simp⟩ ?_ ?_
 ·rintro j t a5 a6 a7 a8 a9 m K RT BK et ⟨rfl,cs,rfl,lc,J,C⟩ hK hRT hBK;have jl:=(av.mp et).1;rw[JB]at jl;obtain⟨g,eg,rfl⟩:∃g,gs[j]?=some g/\t=prD g:=by
   have e:=et;unfold pD at e;rw[aV,fC]at e;obtain⟨g,e1,e2⟩:=e;exact⟨g,e1,e2.symm⟩
  have U:=aR eg;obtain⟨g0,g1,g2⟩:=G g U;have tk:gs.take (j+1)=gs.take j++[g]:=by rw[n9,eg];rfl
  have so:∀{n:Nat} {R:qN} {t:Bool},(t=true->bits<=6)->(∀is:List Int,Cov bits h a g.1 g.2 is->R (.list (is.map .int)) n)->zcH [.int g.1,.int g.2,.int (1*2 ^ h.toNat),.int a,.bool t] n R:=fun ht z=>zit b0 b1 ht h0 h1 a0 a1 g0 g1 g2 z
  wp_walk
  refine so (fun z=>by have:=of_decide_eq_true z;lia) fun is V=>?_
  obtain⟨li,hin,hne⟩:=V
  wp_walk
  refine zoQ 5 8 9 (fun i a5 _ _ m'=>m'=m/\∃v:List (Int×Int),a5=some (.own (pD v))/\v.length<=100*j+i/\(∀c∈v,c.1=far a h c.2/\Fb bits S h c.2)/\(∀c∈cs,c∈v)/\∀x∈is.take i,(far a h x,x)∈v) ⟨rfl,cs,rfl,by lia,J,fun c hc=>hc,by simp⟩ ?_ ?_
  ·rintro i t a5 a8 a9 m' K2 RT2 BK2 et2 ⟨rfl,v,rfl,lc',I,IK,L⟩ hK2 hRT2 hBK2;have il:=(av.mp et2).1;rw[aL]at il;obtain⟨x,ex,rfl⟩:∃x,is[i]?=some x/\t=.int x:=by
    rw[aV,fC]at et2;obtain⟨g,e1,e2⟩:=et2;exact⟨g,e1,e2.symm⟩
   have hx:=hin x (aR ex);have tk2:is.take (i+1)=is.take i++[x]:=by rw[n9,ex];rfl
   have ef:max3 0 (x - a) (a - x - 1*2 ^ h.toNat+1)=far a h x:=by unfold far;rw[bQ]
   wp_walk
   ·rw[JB];lia
   rw[ef];refine hK2 _ _ _ _ ⟨rfl,v++[(far a h x,x)],by rw[<- Z9];rfl,by rw[aY];show v.length+1<=_;lia,fun c hc=>?_,fun c hc=>aE.mpr (.inl (IK c hc)),fun y hy=>?_⟩
   ·rcases aE.mp hc with z|z
    ·exact I c z
    ·cases aC.mp z;exact⟨rfl,Fb.of M hx.1 U hx.2.1 hx.2.2⟩
   ·rw[tk2]at hy;rcases aE.mp hy with z|z
    ·exact aE.mpr (.inl (L y z))
    ·cases aC.mp z;exact aE.mpr (.inr (.head _))
  ·rintro a5 a8 a9 m' ⟨rfl,v,rfl,lc',I,IK,L⟩;rw[aL]at *;refine hK _ _ _ _ _ _ ⟨rfl,v,rfl,by lia,I,fun q hq y Y=>?_⟩
   rw[tk]at hq;rcases aE.mp hq with z|z
   ·obtain⟨c,hc,k⟩:=C q z y Y;exact⟨c,IK c hc,k⟩
   ·cases aC.mp z;obtain⟨x,hx,k⟩:=hne y Y;exact⟨_,L x (by rw[c9];exact hx),k⟩
 ·rintro a5 a6 a7 a8 a9 m ⟨rfl,cs,rfl,lc,J,C⟩;have full:∀y,Fb bits S h y->∃c∈cs,¬kLt a h y c.2:=fun y Y=>by
   obtain⟨g,U,g1,g2⟩:=Y.gap N M;exact C g (by rw[JB,c9];exact U) y ⟨Y.1,g1,g2⟩
  clear C;cases cs with
  | nil =>
   wp_walk
   ·exact Yq
   ·exact Yq
   ·exact k1 fun x X=>by
     obtain⟨c,hc,_⟩:=full x X;cases hc
   ·exact absurd hc (by simp[pD,dH,fM])
  | cons c cs =>
   wp_walk
   ·exact zoD
   ·exact Yq
   ·exact absurd hc (by simp[pD,dH,fM])
   refine zsU (by simp) fun b hb hmin=>?_
   wp_walk
   refine k2 b.2 ⟨(J b hb).2,fun y Y k=>?_⟩
   obtain⟨q,hq,nk⟩:=full y Y;have p:=hmin q hq;rw[bY,ne_eq,pLt_iff,(J q hq).1,(J b hb).1]at p;unfold kLt at k nk;omega
theorem zmw{d:Deal}{nm:Str}{h a:Int}{n:Nat}{R:qN}{X:Str->Nat->Prop}(D:Dl d)(y:IsNm nm)(h0:0<=h)(v:h<=d.1)(C:0<=a)(a1:a<2 ^ d.1.toNat)(I:d.2.1.length<=20)(l2:d.2.2.length<=20)(G:(∀x,¬Fb d.1 (Free d (.str nm)) h x)->X (ae "NoRoom") n) (k:∀x,Best d.1 (Free d (.str nm)) h a x->∀rs:List NP,rs.Perm (d.2.1++[((x,h),nm)])->rs.Pairwise (fun a b=>npRk rs a<=npRk rs b)->R (.tuple [dlD (d.1,rs,d.2.2),.tuple [.int x,.int h]]) n):Yi [dlD d,.tuple [.str (ae "near"),.str nm,.int h,.int a]] n R X :=
 ⟨d,nm,h,a,rfl,D,y,h0,v,C,a1,d,_,nm,h,a,rfl,D,y,h0,v,by lia,by lia,G,k⟩
def VV:GD:=fun ts n R=>∃(d:Deal) (nm:Str) (h a:Int),ts=[dlD d,.str nm,.int h,.int a]/\Dl d/\IsNm nm/\0<=h/\h<=d.1/\0<=a/\a<2 ^ d.1.toNat/\d.2.1.length<=20/\d.2.2.length<=20/\R (.bool true) n
theorem zhG{d:Deal}{nm:Str}{h a:Int}{n:Nat}{R:qN}(D:Dl d)(y:IsNm nm)(h0:0<=h)(x:h<=d.1)(v:0<=a)(a1:a<2 ^ d.1.toNat)(u:d.2.1.length<=20)(l2:d.2.2.length<=20)(k:R (.bool true) n):VV [dlD d,.str nm,.int h,.int a] n R:=⟨d,nm,h,a,rfl,D,y,h0,x,v,a1,u,l2,k⟩
def zdl(Z:ZZ):Prop:=FQ Z "_law_right" (top 73) ["_law_deal_here","_law_name","_law_height","_law_address"] 10 (spD Z.K 4 VV)
theorem zfD(D:Dq Z.K Z.mg "_law_right" (top 73) ["_law_deal_here","_law_name","_law_height","_law_address"]) (HX:ze4 Z) (Ie:zkC Z) (Hw:zcs Z) (HR:zd2 Z) (T:Txt Z.mg):zdl Z:=by
 refine' okQ D (fnS (N:=["_law_deal_here","_law_name","_law_height","_law_address","_law_due_here","_law_deed","_law_behind","_law_told"]) (by decide +kernel)) rfl fun f cdv A outer s H E v=>⟨_,(Jb (dsv 4 (ndB rfl) (Jd HX v (dbv 0 (dbv 1 (dbv 2 (dbv 3 Ja)))))) (Jb (dsv 5 (ndB rfl) (Js (dbc Qz (dbv 1 (dbv 2 (dbv 3 Ja)))))) (Jb (Jx (Jr zsj ztE (dlv 4) (dl Yd) (Jl _)) (Jc (Ji (Qo (QH v) QB (dl (Jd Hw v (dbv 0 (dbv 5 Ja)))) (dl Qz) (Jl _)))) Jz) (Jb (QT (Jd (FQX.nox Ie) v (dbv 0 (dbv 5 Ja))) (JQ rfl (Jm (dgv 6 (ndB rfl)) (Jm (dgv 7 (ndB rfl)) JR)))) (Jc (Ji (Zw (Qo (QH v) QB (dl (Jv (VO v) Vu T.rep VN (Jf (dlv 7) Jn Jq))) (dl (Jv (VO v) Vu T.rep VN (Jf (dlv 4) Jn Jq))) (Jl _)) (Uo (Qo (QH v) QB (dl (Jv (VO v) Vu T.rep VN (Jf (dlv 6) Jn Jq))) (dl (Jv (VO v) Vu T.rep VN (Jf (dl (Jd HR v (dbv 0 (dbc Yd (dbc (Jj (Jt (dbc (Js (dbv 4 (dbv 1 Ja))) Ja))) Ja))))) Jn QY))) (Jl _)))))))))),?_⟩
 intro ts n R hl h;obtain⟨d,nm,h,a,rfl,D,C,h0,G,I,a1,l1,l2,k⟩:=h
 wp_walk using zj7 D C ?_ h0 G I a1 (fun no=>?_) (fun x F=>?_)
 ·lia
 ·refine zeU (zmw D C h0 G I a1 l1 l2 (fun _=>⟨by decide +kernel,?_⟩) fun x F=>absurd F.1 (no x))
  rw[show msg (ae "NoRoom")=ae "no room" from by decide +kernel]
  wp_walk
  simpa using k
 ·exact absurd hc (by simp[isNone])
 ·exact absurd hc (by simp[isNone])
 ·refine zmw D C h0 G I a1 l1 l2 (fun no=>absurd F.1 (no x)) fun x' F' rs pm pw=>?_
  cases F'.uniq F;have B:IsBk d.1 x h:=F.1.1;have b0:=D.1;have J:=D.2.1;obtain⟨L,nb2,_⟩:=zpQ (p:=((x,h),nm)) b0 J B C;have B2:=B.lt (by lia) J
  have B3:=B.bounds (by lia)
  have lr:rs.length<=21:=by have:=pm.length_eq;simp at this;lia
  have Y:Shd (dlD (d.1,rs,d.2.2)):=zrm (a:=21) (b:=21) (by decide) b0 J (fun p S=>by
   rcases aE.mp (pm.mem_iff.mp S) with z|z
   ·exact D.o p z
   ·cases aC.mp z;exact⟨L,by show h.natAbs<_;lia,C⟩) lr D.k (by show d.2.2.length<=21;lia)
  have co:∀{n:Nat} {R:qN},R (dlD (d.1,rs,d.2.2)) n->zcI [dlD d,.none,.list [.tuple [.tuple [.int x,.int h],.str nm]]] n R:=fun {n R} z=>ziu (d:=d) none (cs:=[((x,h),nm)]) (by simp;lia) (fun p S=>(D.o p S).2.2) (fun p z=>nomatch z) fun rs' y U=>by
   have e:=zpJ pm (by rw[show outO d.2.1 none [((x,h),nm)]=d.2.1++[((x,h),nm)] from by unfold outO;rw[List.filter_eq_self.mpr fun _ _=>by simp]]at y;exact y) pw U
   subst e;exact z
  wp_walk using co ?_
  ·exact ziN (by lia) (by lia) (by lia) (by lia)
  ·exact ziN (by lia) (by lia) (by lia) (by lia)
  ·exact Y
  ·exact Y
  ·rw[decide_eq_true rfl];exact k
  ·exact absurd rfl hc
theorem zqH{ts:qD}{k:Nat}:cutD ts none (some (k:Int))=ts.take k:=by
 unfold cutD;rw[HT.zdC,HT.zhU];simp[lW]
theorem zpG{a:List NP}{k:Nat}:(oD a).take k=oD (a.take k):=by unfold oD;rw[sP]
theorem zoU{os:List NP}{y:Int}(u:0<=y):∃l:List NP,cutD (oD os) none (some y)=oD l/\l.length<=y.toNat/\∀q∈l,q∈os:=by
 refine⟨os.take y.toNat,?_,by rw[fi];lia,fun q v=>fZ v⟩
 have e:=zqH (ts:=oD os) (k:=y.toNat);rw[mM u]at e;rw[e,zpG]
theorem zso{f:aq}{fd:cP}(D:Def Z.K Z.mg "law" (top 74) ["_law_script"] f fd) (HS:zd4 Z) (HU:zd7 Z) (Hj:UG Z) (Hk:UF Z) (HF:zdl Z) (T:Txt Z.mg):FnOk Z.P Z.w Z.K Z.mg Z.base CX0 11 f fd ["_law_script"] (spD Z.K 1 ztJ):=by
 refine D.okD (fnS (N:=["_law_script","_law_k","_law_hand_here","_law_deal_here","_law_names_here","_law_last","_law_some_here","_law_wide","_law_begin","_law_height","_law_name","_law_address"]) (by decide +kernel)) rfl fun cdv A outer s H E U=>?_
 refine'⟨_,(Jb (Qv cq rfl (zex T.ran (Jv (ZC rfl) Y0 T.max Yv (Jf dli (Jf (dl (Jv (U1 rfl) UU T.min QZ (Jf dli (Jf (dl (Jv UB Ur T.len Q8 (Jf (dlv 0) Jn Jq))) Jn QY) Y6))) Jn QY) Y6))) (dgv 1 (ndB rfl)) (zlW (i:=2) (j:=1) HS U (ndB rfl) rfl (er rfl) (Jb (QT (Jd HU U (dbv 2 (dbv 1 Ja))) (JQ rfl (Jm (dgv 3 (ndB rfl)) (Jm (dgv 4 (ndB rfl)) JR)))) (Jb (dsv 5 (ndB rfl) (JZ (dl (JT dli (dl (Jh (dlv 3) dli)))) dli)) (Jb (dsv 6 (ndB rfl) (Jj (Jt (dbc Je (dbv 5 (dbc (Jd Hj U (dbv 2 (dbc (JF (dlv 5) dli) Ja))) (dbc (Jd Hj U (dbv 2 (dbc (JF (dlv 5) dli) Ja))) Ja))))))) (Jb (dsv 7 (ndB rfl) (Qk ZB Z7 T.int boot_int (Jf (dl (Qo QR gp_B (dl (Jh (dlv 3) dli)) dli (Jl _))) Jn Vc))) (Jb (Qv cq rfl (Qp (JF (dl (ZD (dl (Jh (dlv 3) dli)) Ua (Ub (Jh (dl (Jj (Jt (dbc Je (dbc Je Ja))))) (dlv 7))))) (dl (ZD (dl (Jh (dlv 3) dli)) Ua (Ub (Jh (dl (Jj (Jt (dbc Je (dbc Je Ja))))) (dlv 7))))))) (JQ rfl (Jm (JQ rfl (Jm (dgv 8 (ndB rfl)) (Jm (dgv 9 (ndB rfl)) JR))) (Jm (dgv 10 (ndB rfl)) JR))) (Jc (dsv 6 (ndB rfl) (Jj (Yg (dlv 6) (dl (Jj (Jt (dbv 8 (dbc (JZ (dl (JF (dlv 8) (dl (JT dli (dlv 9))))) dli) (dbc (Jv (U1 rfl) UU T.min QZ (Jf (dlv 5) (Jf (dl (JF (dlv 8) (dl (JT dli (dlv 9))))) Jn QJ) Jq)) Ja))))))))))) (Jc (Qv cq rfl (QF (Jk 6)) (dgv 11 (ndB rfl)) (Jc (Qv cq rfl (QF (Jh (dl (Jj (Jt (dbc (Jj (Yg (dl (Jj (VC (dlv 4) Ua (Ub Je)))) (dl (Jj (VC (dlv 4) (Ub (UR Je)) Ua))))) (dbc (Jj (VC (dlv 4) (Ub (UR Je)) Ua)) Ja))))) (dlv 7))) (dgv 10 (ndB rfl)) (Jb (dsv 9 (ndB rfl) (Jd Hk U (dbv 2 (dbc (Jj (Jt (dbc Je (dbc Je (dbc Je (dbc (Jv (U1 rfl) UU T.min QZ (Jf dli (Jf (dl (Jh (dlv 3) dli)) Jn Y7) Y6)) (dbc (Jd Hj U (dbv 2 (dbc (JF (dl (Jh (dlv 3) dli)) dli) Ja))) Ja))))))) Ja)))) (Jc (Jx (Qq (J1 (dl (Jd HF U (dbv 3 (dbv 10 (dbv 9 (dbv 11 Ja)))))))) (Jc (Ji QN)) Jz)))))))))))))) (Jc (Ji QN))),?_⟩
 intro ts n R hl hh;obtain⟨ns,rfl,hl63,hh⟩:=hh
 wp_walk
 ·split <;> (try split) <;> lia
 ·split <;> (try split) <;> lia
 refine U4 (fun _ ρ m=>∃a1 a2 a3 a4 a5 Y a7 a8 S C J,ρ=[some (.val (SCR ns)),a1,a2,a3,a4,a5,Y,a7,a8,S,C,J]/\m=n) ⟨_,_,_,_,_,_,_,_,_,_,_,rfl,rfl⟩ ?_ ?_
 ·rintro k t ρ m K et ⟨a1,a2,a3,a4,a5,Y,a7,a8,S,C,J,rfl,rfl⟩ hK;obtain⟨hk,rfl⟩:=ze1 et;have hk8:k<8:=by
   revert hk;split <;> (try split) <;> lia
  with_reducible refine Stp.go ?_
  refine znU hl63 (by lia) (by lia) fun NX RT BK CT hNX hRT hBK hCT=>?_
  wp_walk using ziw ?_ ?_ (fun d G m3 D ne ln nk l1 l2 hm3=>?_)
  ·lia
  ·lia
  have rt:∀{nm:Str} {h a:Int} {n:Nat} {R:qN},nm∈G->0<=h->h<=d.1->0<=a->a<2 ^ d.1.toNat->R (.bool true) n->VV [dlD d,.str nm,.int h,.int a] n R:=fun hn h0 h1 a0 a1 z=>zhG D (nk _ hn) h0 h1 a0 a1 l1 l2 z
  have oo:∀p∈d.2.1,IsBk d.1 p.1.1 p.1.2:=fun p hp=>D.2.2.1.1.1 _ (aS.mpr ⟨p,hp,rfl⟩)
  have ok:∀p∈d.2.2,IsBk d.1 p.1.1 p.1.2:=fun p hp=>D.2.2.2.1.1.1 _ (aS.mpr ⟨p,hp,rfl⟩)
  obtain⟨bits,os,ks⟩:=d;have b0:1<=bits:=D.1;have b1:bits<=64:=D.2.1;have rt:∀{nm:Str} {h a:Int} {n:Nat} {R:qN},nm∈G->0<=h->h<=bits->0<=a->a<2 ^ bits.toNat->R (.bool true) n->VV [dlD (bits,os,ks),.str nm,.int h,.int a] n R:=rt;have oo:∀p∈os,IsBk bits p.1.1 p.1.2:=oo;have ok:∀p∈ks,IsBk bits p.1.1 p.1.2:=ok;have p64:=Ys (k:=bits.toNat) (by lia)
  have pb:=JA bits.toNat;rw[show dlD (bits,os,ks)=.tuple [.int bits,.tuple (oD os),.tuple (oD ks)] from rfl]at *
  wp_walk using QS ?_ ?_ ?_ (fun r r0 r1=>?_),zp1 (fun y hy=>?_)
  ·exact cpow (by lia) (by lia)
  ·lia
  ·lia
  ·lia
  ·lia
  ·lia
  ·lia
  all_goals
   rename_i s s0 s1 y' hy';have y0:0<=y/\y<=4:=by rcases hy with rfl|rfl <;> decide
   have y0':0<=y'/\y'<=4:=by rcases hy' with rfl|rfl <;> decide
   obtain⟨qs,eq,lq,hq⟩:=zoU (os:=os) y0'.1;obtain⟨qs2,eq2,lq2,hq2⟩:=zoU (os:=ks) y0.1;rw[eq,eq2]
  ·rw[UX,UX];lia
  have bk:∀t∈oD qs++oD qs2,∃p:NP,t=.tuple [prD p.1,.str p.2]/\IsBk bits p.1.1 p.1.2:=fun t ht=>by
   rcases aE.mp ht with z|z
   ·obtain⟨p,hp,rfl⟩:=aS.mp z;exact⟨p,rfl,oo p (hq p hp)⟩
   ·obtain⟨p,hp,rfl⟩:=aS.mp z;exact⟨p,rfl,ok p (hq2 p hp)⟩
  have lt:(oD qs++oD qs2).length<=8:=by rw[aY,UX,UX];lia
  clear eq eq2 hq hq2 lq lq2 oo ok;generalize oD qs++oD qs2=us at bk lt;refine Z6 6 8 9 10 (fun j Y _ _ _ m=>m=m3+2/\∃is:List Int,Y=some (.val (.list (is.map .int)))/\is.length<=4+3*j/\∀x∈is,0<=x/\x<2 ^ bits.toNat) ⟨rfl,[0,1*2 ^ bits.toNat - 1,s,r],rfl,by simp,by simp;lia⟩ ?_ ?_
  ·rintro j t Y a8 S C m K2 RT2 BK2 I ⟨rfl,is,rfl,li,hb⟩ hK2 hRT2 hBK2;have jl:=(av.mp I).1;obtain⟨p,rfl,B⟩:=bk t (aR I);have g0:=B.1;have g1:=B.2.1;have bb:=B.bounds (by lia)
   have pp:=JA p.1.2.toNat
   wp_walk
   ·exact cpow (by lia) (by lia)
   ·exact cpow (by lia) (by lia)
   ·rw[aL];show is.length+3<=_;lia
   ·refine hK2 _ _ _ _ _ ⟨rfl,is++[p.1.1,p.1.1+1*2 ^ p.1.2.toNat - 1,if p.1.1+1*2 ^ p.1.2.toNat<1*2 ^ bits.toNat - 1 then p.1.1+1*2 ^ p.1.2.toNat else 1*2 ^ bits.toNat - 1],by rw[eh];rfl,by rw[aY];show is.length+3<=_;lia,fun x hx=>?_⟩
    rcases aE.mp hx with z|z
    ·exact hb x z
    ·simp only[aw,aH,or_false]at z;rcases z with rfl|rfl|rfl
     ·lia
     ·lia
     ·split <;> lia
  ·rintro Y a8 S C m ⟨rfl,is,rfl,li,hb⟩
   wp_walk
   refine zoQ 9 10 11 (fun j _ _ _ m=>m<=m3+2+20*j) (by lia) ?_ ?_
   ·rintro j t S C J m K2 RT2 BK2 I hm hK2 hRT2 hBK2;have jl:=(av.mp I).1;rw[aL]at jl;obtain⟨x,hx,rfl⟩:=aS.mp (aR I);obtain⟨x0,x1⟩:=hb x hx;have c1:=zfZ (ts:=nD G) (lo:=none) (hi:=some 2);have c2:=zfZ (ts:=nD G) (lo:=some (-1)) (hi:=none);have c3:=zfZ (ts:=nD G) (lo:=some (-2)) (hi:=none);rw[zst]at c1 c2 c3
    wp_walk
    ·lia
    refine zoF (by split <;> lia) (by show _<((2:Nat):Int);split <;> lia) fun z hz=>?_
    have L:∀{lo hi:Option Int},∀t∈cutD (nD G) lo hi,∃nm∈G,t=.str nm:=fun t ht=>by
     obtain⟨s,hs,rfl⟩:=aS.mp (zof ht);exact⟨s,hs,rfl⟩
    obtain⟨vs,rfl,hvs,lvs⟩:∃vs,z=.list vs/\(∀t∈vs,∃nm∈G,t=.str nm)/\vs.length<=8:=by
     simp only[aw,aH,or_false]at hz;rcases hz with rfl|rfl
     ·exact⟨_,rfl,fun t ht=>(aE.mp ht).elim (L t) (L t),by rw[aY];lia⟩
     ·exact⟨_,rfl,L,by lia⟩
    clear hz L c1 c2 c3
    wp_walk
    refine ztM 9 10 (fun i _ _ m'=>m'<=m+2*i) (by lia) ?_ ?_
    ·rintro i t S C m' K3 RT3 BK3 et3 hm' hK3 hRT3 hBK3;have il:=(av.mp et3).1;obtain⟨nm,hn,rfl⟩:=hvs t (aR et3)
     wp_walk using QS ?_ ?_ ?_ (fun q q0 q1=>?_),Yt ?_ ?_ ?_ (fun v hv=>?_)
     ·lia
     ·lia
     ·lia
     ·simp
     ·show 5<=1000000;decide
     ·lia
     obtain⟨hh',rfl,t0,t1⟩:∃h:Int,v=.int h/\0<=h/\h<=bits:=by
      simp only[aw,aH,or_false]at hv;rcases hv with rfl|rfl|rfl|rfl|rfl
      ·exact⟨0,rfl,by lia,by lia⟩
      ·exact⟨0,rfl,by lia,by lia⟩
      ·exact⟨1,rfl,by lia,by lia⟩
      ·exact⟨_,rfl,by split <;> lia,by split <;> lia⟩
      ·exact⟨q,rfl,q0,by lia⟩
     refine rt hn t0 t1 x0 x1 ?_
     wp_walk
     exact hK3 _ _ _ (by lia)
    ·rintro S C m' hm'
     wp_walk
     exact hK2 _ _ _ _ (by lia)
   ·rintro S C J m hm
    wp_walk
    exact hNX _ _ (hK _ _ ⟨_,_,_,_,_,_,_,_,_,_,_,rfl,rfl⟩)
 ·rintro ρ m ⟨a1,a2,a3,a4,a5,Y,a7,a8,S,C,J,rfl,rfl⟩
  wp_walk
  exact hh _
end
section
open PySem.W PyProof.Rows
theorem zt_{Il:nZ->Option ah}{mg mb:qM}{h:aN}{w:aQ}{C:aq}(T0:iu qv (looseW qv [ae "DEEDS",ae "PARTS"]) Il mg mb h) (N:mg (defName (top 74))=some (.ref C)) (XT:TupsAre TL mg h) (U:DctsAre PL FL mg h) (S:HshOk DL w h) (XE:ExcsAre EXS EYS (ae "DealError") mg h) :
  ∃fd:cP,(∀(s:au) (v:ah),pd s fd ⟨[v],[]⟩ [("_law_script",v)])/\∀base:aN,(JI h).In base->base.Ns mainGlobals mg->FnOk PySem.Challenge.rw_blockdeal_k27_blocks_near.prog w (JI h) mg base CX0 11 C fd ["_law_script"] (zo1 (JI h)):=by
 have T:=zq9 T0;have Ii:StD PySem.Challenge.rw_blockdeal_k27_blocks_near.prog w (JI h) mg (ae "PARTS") Yn:=U.st S T0.g (by repeat (first|exact .head _|refine .tail _ ?_)) (by repeat (first|exact .head _|refine .tail _ ?_)) (by decide +kernel)
 have Iv:StF PySem.Challenge.rw_blockdeal_k27_blocks_near.prog w (JI h) mg (ae "DEEDS") ["take","near","give","grow","keep","loose","move"]:=U.sf S T0.g (by repeat (first|exact .head _|refine .tail _ ?_)) (by repeat (first|exact .head _|refine .tail _ ?_)) (by decide +kernel)
 have Iq:OwnE (JI h) mg (ae "NoDeed"):=zr9 T0 (by kernel_rfl)
 have Ip:OwnE (JI h) mg (ae "NoRoom"):=zr9 T0 (by kernel_rfl)
 have Ih:QM (JI h) mg EXS EYS (ae "DealError"):=XE.ok;obtain⟨f,fd,DL⟩:=dq_g (x:="law") (ps:=["_law_script"]) T0 (zoE (i:=74) (by kernel_rfl)) (by kernel_rfl) fun _ _ _ _ _ _ us G=>by obtain⟨_,rfl⟩:=len1 G;rfl
 have e0:bM f=bM C:=aM (DL.m.symm.trans N);cases e0;refine⟨fd,fun s v=>?_,fun base _ _=>?_⟩
 ·obtain⟨oc,od,kV,doc,pm,an,cdv,ct,osl,rfl,_,_⟩:=DL.F.ex;exact .of_eq rfl
 let Z:ZZ:=⟨PySem.Challenge.rw_blockdeal_k27_blocks_near.prog,w,JI h,mg,base⟩
 have L:=zh0 (Z:=Z) (dqG (i:=1) T0 (bnd1 fun _ _ _ _ _ _ _=>rfl))  T
 have HV:=zh1 (Z:=Z) (dqG (i:=2) T0 (bnd2 fun _ _ _ _ _ _ _ _=>rfl)) L T
 have HZ:=zjL (Z:=Z) (dqG (i:=3) T0 (bnd1 fun _ _ _ _ _ _ _=>rfl))  T
 have Io:=zk1 (Z:=Z) (dqG (i:=5) T0 (bnd2 fun _ _ _ _ _ _ _ _=>rfl))  T
 have Ia:=zjP (Z:=Z) (dqG (i:=8) T0 (bnd1 fun _ _ _ _ _ _ _=>rfl))  T
 have J:=zk0 (Z:=Z) (dqG (i:=18) T0 (bnd1 fun _ _ _ _ _ _ _=>rfl)) HZ T
 have Hs:=zcV (Z:=Z) (dqG (i:=19) T0 (bnd2 fun _ _ _ _ _ _ _ _=>rfl))  T
 have IB:=zpz (Z:=Z) (dqG (i:=11) T0 (bnd2 fun _ _ _ _ _ _ _ _=>rfl)) J Hs T
 have Ht:=zhZ (Z:=Z) (dqG (i:=20) T0 (bnd1 fun _ _ _ _ _ _ _=>rfl)) IB T
 have Hv:=zjM (Z:=Z) (dqG (i:=21) T0 (bnd1 fun _ _ _ _ _ _ _=>rfl)) J T
 have Im:=zkZ (Z:=Z) (dqG (i:=10) T0 (bnd1 fun _ _ _ _ _ _ _=>rfl)) Ht Hv T
 have HA:=zfB (Z:=Z) (dqG (i:=22) T0 (bnd2 fun _ _ _ _ _ _ _ _=>rfl))  T
 have H0:=zjN (Z:=Z) (dqG (i:=12) T0 (bnd2 fun _ _ _ _ _ _ _ _=>rfl)) Ht HA Hv T
 have HB:=zfC (Z:=Z) (dqG (i:=26) T0 (bnd1 fun _ _ _ _ _ _ _=>rfl))  T
 have HI:=zgw (Z:=Z) (dqG (i:=28) T0 (bnd2 fun _ _ _ _ _ _ _ _=>rfl))  T
 have HW:=zh2 (Z:=Z) (dqG (i:=25) T0 (bnd2 fun _ _ _ _ _ _ _ _=>rfl)) H0 Im HB HI T
 have HJ:=zgx (Z:=Z) (dqG (i:=33) T0 (bnd2 fun _ _ _ _ _ _ _ _=>rfl)) L T
 have HC:=zfA (Z:=Z) (dqG (i:=34) T0 (bnd2 fun _ _ _ _ _ _ _ _=>rfl)) L T
 have Ib:=zjO (Z:=Z) (dqG (i:=32) T0 (bnd3 fun _ _ _ _ _ _ _ _ _=>rfl)) HV HJ HC T
 have Ic:=zjQ (Z:=Z) (dqG (i:=31) T0 (bnd2 fun _ _ _ _ _ _ _ _=>rfl)) Ia Ib Ii T
 have HD:=zfz (Z:=Z) (dqG (i:=54) T0 (bnd2 fun _ _ _ _ _ _ _ _=>rfl)) J T
 have HK:=zgy (Z:=Z) (dqG (i:=55) T0 (bnd4 fun _ _ _ _ _ _ _ _ _ _=>rfl))  T
 have IC:=zpA (Z:=Z) (dqG (i:=44) T0 (bnd2 fun _ _ _ _ _ _ _ _=>rfl)) HD HK HW Io Ip T
 have R:=zpB (Z:=Z) (dqG (i:=51) T0 (bnd2 fun _ _ _ _ _ _ _ _=>rfl)) IC Ic Iq Iv T
 have HS:=zfy (Z:=Z) (dqG (i:=57) T0 (bnd2 fun _ _ _ _ _ _ _ _=>rfl))  T
 have u:=zfx (Z:=Z) (dqG (i:=58) T0 (bnd2 fun _ _ _ _ _ _ _ _=>rfl))  T
 have y:=zgB (Z:=Z) (dqG (i:=59) T0 (bnd2 fun _ _ _ _ _ _ _ _=>rfl)) u T
 have HM:=zgI (Z:=Z) (dqG (i:=60) T0 (bnd1 fun _ _ _ _ _ _ _=>rfl)) y T
 have Y:=zfG (Z:=Z) (dqG (i:=61) T0 (bnd2 fun _ _ _ _ _ _ _ _=>rfl)) y u T
 have HL:=zgD (Z:=Z) (dqG (i:=62) T0 (bnd3 fun _ _ _ _ _ _ _ _ _=>rfl)) y Y T
 have Hy:=zeN (Z:=Z) (dqG (i:=63) T0 (bnd3 fun _ _ _ _ _ _ _ _ _=>rfl)) u Y HL y T
 have Hu:=zfE (Z:=Z) (dqG (i:=64) T0 (bnd3 fun _ _ _ _ _ _ _ _ _=>rfl)) Hy T
 have HE:=zfF (Z:=Z) (dqG (i:=65) T0 (bnd2 fun _ _ _ _ _ _ _ _=>rfl)) u y T
 have HN:=zgG (Z:=Z) (dqG (i:=66) T0 (bnd4 fun _ _ _ _ _ _ _ _ _ _=>rfl)) Hu y u T
 have HU:=zgH (Z:=Z) (dqG (i:=67) T0 (bnd2 fun _ _ _ _ _ _ _ _=>rfl)) HE HM u HN T
 have HP:=zgF (Z:=Z) (dqG (i:=68) T0 (bnd2 fun _ _ _ _ _ _ _ _=>rfl))  T
 have Hw:=zeb (Z:=Z) (dqG (i:=69) T0 (bnd2 fun _ _ _ _ _ _ _ _=>rfl)) R Ih T
 have HR:=zgC (Z:=Z) (dqG (i:=70) T0 (bnd3 fun _ _ _ _ _ _ _ _ _=>rfl))  T
 have HQ:=zgA (Z:=Z) (dqG (i:=71) T0 fun _ _ _ _ _ _ us G=>by obtain⟨_,_,_,_,_,rfl⟩:=len5 G;rfl)  T
 have HX:=zh3 (Z:=Z) (dqG (i:=72) T0 (bnd4 fun _ _ _ _ _ _ _ _ _ _=>rfl)) HP HQ T
 have HF:=zfD (Z:=Z) (dqG (i:=73) T0 (bnd4 fun _ _ _ _ _ _ _ _ _ _=>rfl)) HX R Hw HR T
 exact(zso (Z:=Z) DL HS HU u y HF T).imp zpW
end
end Bd
open PySem PySem.W PyProof.Rows
set_option maxRecDepth 100000 in
set_option maxHeartbeats 0 in
theorem PySem.Challenge.cw_blockdeal_k27_blocks_near_holds : PySem.Challenge.rw_blockdeal_k27_blocks_near.Holds := by
 w_on
 refine holds_law Bd.zo5 fun l=>?_
 refine holds_open (r:=PySem.Challenge.rw_blockdeal_k27_blocks_near.row) (d:=Bd.recD (Bd.top 74)) (kwd:=[]) Bd.zpU (YP:=Bd.HshOk Bd.DL) Bd.ztC Bd.znY (XP:=fun mg h=>XL Bd.qv [] mg h/\Bd.TupsAre Bd.TL mg h/\Bd.DctsAre Bd.PL Bd.FL mg h/\Bd.ExcsAre Bd.EXS Bd.EYS (ae "DealError") mg h) (fun s e=>⟨xl_of s (aX.mp (aX.mp (aX.mp (aX.mp e).1).1).1).1,Bd.zq_ (aX.mp (aX.mp (aX.mp e).1).1).2,Bd.zt5 (aX.mp (aX.mp e).1).2,Bd.ztP (aX.mp e).2⟩) (fun mg h h' x k=>⟨XL.keeps mg h h' x.1 k,x.2.1.keeps k,x.2.2.1.keeps k,x.2.2.2.keeps k⟩) (by kernel_rfl) (by kernel_rfl) (by kernel_rfl) (fun s e=>recFacts_of (aX.mp (aX.mp (aX.mp (aX.mp e).1).1).1).2) (by kernel_rfl) l (by kernel_rfl) ⟨rfl,rfl,rfl,rfl,rfl,by decide +kernel⟩ ?hw ?hc
 case hw=>w_witness2
 case hc=>exact Bd.zuU (lw:=PySem.Challenge.rw_blockdeal_k27_blocks_near) (k:=11) (by decide) rfl rfl fun w s₀ mg v y h G Y u=>Bd.zt_ G.T u G.X.2.1 G.X.2.2.1 Y G.X.2.2.2
