import PyProof.Rows.All
import Wide.All
import OpenK.AllK
import Wide.FinOn
import Lean
import PyProof.EqAt
import PyProof.EqKinds
import PyProof.TupleCall
import PySem.Challenge.RW_blockdeal_k17_papers_of_rules
open PySem renaming wpAny_bind->aa,PyData->ab,Value->ae,Addr->af,wpAny_pure->ag,Shared->aj,Program->aK,Expr->aT,Around->aX,World->ba,Heap->bB,wpAny_mono->bN,wpAny_truthy_bool->bO,Paired->bQ,wpAny_holding->bW,FuncData->cA,wpAny_call_entry->cI,wpAny_newObj_type->cN,Stmt->dA,NameKind->dB,wpAny_typeNameOfWhole_keyiter->dE,Scope->dF,Builtin->dG,wpAny_callSpecial?_slot->dH,wpAny_rule->dM,wpAny_standAt->dS,sizeLine_eq->dU,wpAny_passesOwn->eh,mem_of_lookup->eK,DictEntry->eS,wpAny_Call_Name_kw->e9,builtinLookup_eq_fast->fF,wpAny_pyIter_list->fG,codeAny_mono->fR,wpAny_attempt->gn,codeAny_builtin->gy,tupleKind_room_in1->gD,wpAny_dictEntries->gY,wpAny_newList->ic,codeAny_call_builtin->ik,wpAny_execs_nil->iq,typeLookup_type->ix,wpAny_typeOf->iD,wpAny_newFunctionEnv_cells->iL,IsTupleKey->iP,wpAny_comprehension_free->i5,Builtin->i6,Arguments->ka,noFill_tuple_add->kb,wpAny_isInstance->kD,wpAny_pyNext_list_item->kI,Keyword->kN,wpAny_dictEpoch->k8,wpAny_pyNext_list_end->k9,wpAny_notOrdered_dict->lB,wpAny_isOneOf_keyiter->lE,wpAny_loadName_local->lL,wpAny_of_eq->lO,wpAny_seqItems->mf,wpAny_setField->mi,wpAny_loadName_cell->mC,seq_tuple_add->mI,wpAny_pyIter_tuple->mN,sub_AttributeError->mY,wpAny_dictSet_heap->mZ,wpAny_assign_Name->m7,concat_meets->nj,seqIndex_neg->nq,ExcName->nJ,wpAny_pyIter_slot->nK,OsState->nR,wpAny_execs_cons->nX,PassesOwn->nY,seqIndex_of->om,wpAny_field->oz,wpAny_loadPart'->oA,codeAny_of_tree->oC,pushCells_keeps->oD,BindsTo->oR,CellsOk->oS,Model->oV,wpAny_Name->oW,Operator->oX,wpAny_bindName->oY,wpAny_load->oZ,wpAny_call->o7,call_meets->o9,Params->pd,wpAny_newTuple->pK,wpAny_fieldsOf->pP,isSubtype_stop->pQ,KeyKind->rD,TriplesOk->sL,CmpOp->sP,PyData->tq,Within->tu,Result->tF,Value->uz,ReadsAll->uT,call->wt,Fin->yr
open List renaming getElem?_eq_some_iff->ah,mem_append->ai,getElem?_eq_getElem->ak,length_map->ao,size_toArray->aw,mem_singleton->ax,mem_cons->ay,append_assoc->aA,map_cons->aC,length_cons->aG,length_append->aH,mem_append_right->aL,mem_of_getElem?->aM,pairwise_iff_getElem->aQ,getElem?_append_right->aU,getElem_of_mem->aY,getD_eq_getElem?_getD->aZ,getElem?_map->a6,mem_map->a7,getElem?_append_left->bg,take_append_drop->bu,append_nil->bE,drop_eq_getElem_cons->bF,not_mem_nil->bI,map_append->bJ,mem_cons_of_mem->bK,length->bL,getElem?_eq_none->bM,length_nil->bT,find?_cons->bU,mem_cons_self->bZ,mem_append_left->b7,cons_append->cj,map_congr_left->cn,pairwise_map->cx,nodup_cons->cB,map_nil->cC,map_map->cD,length_take->cE,lookup_cons->cF,mem_of_mem_take->cH,nodup_append->cT,filterMap_cons->cU,replicate_succ->cV,length_reverse->cX,nil_append->cZ,all_eq_true->df,take_length->dr,getElem?_set_ne->dz,pairwise_append->dD,getElem?_cons_succ->dI,getElem?_cons_zero->dJ,take_of_length_le->dQ,sum_cons->dW,take_succ->d0,set_cons_succ->d5,pairwise_cons->d7,length_singleton->d9,getElem?_reverse->ed,foldl_cons->eC,replicate_zero->eN,getD_cons_succ->eO,getD_cons_zero->eP,getElem_mem->eU,getElem?_set_self->e8,drop_of_length_le->fj,set_cons_zero->fx,of_mem_zip->fz,length_drop->fT,map_snd_zip->fU,mem_map_of_mem->f7,getElem?_take_of_lt->gh,lookup_append->gz,getElem?_replicate->gF,map_id->gJ,pairwise_singleton->gK,any_eq_false->gN,perm_append_comm->g8,range->g9,drop_append_of_le_length->ie,mem_of_mem_drop->ij,mem_filter->ip,perm_append_comm_assoc->iC,any_map->iE,mem_filterMap->iH,replicate->iK,mem_take_iff_getElem->iT,getElem?_set->iW,getElem?_inj->i4,length_erase_of_mem->i7,eraseIdx_cons_succ->kc,perm_middle->kq,mem_reverse->kE,any_eq_true->kF,length_pos_of_mem->kR,length_replicate->lg,length_filter_le->lA,mem_iff_getElem?->lH,eq_nil_or_concat->lI,concat_eq_append->lJ,mem_range->lK,forIn_nil->lQ,drop_drop->lU,take_take->lV,mem_erase_of_ne->l9,getElem?_range->mE,length_pos_iff->mH,zip_cons_cons->mS,filter_append->mX,take_sublist->ni,drop_sublist->nA,mapM_toArray->nE,sum_nil->nN,getElem_inj->nW,drop_length->oa,all_toArray->og,map_fst_zip->oh,forIn_cons->oB,take_left'->oH,take_nil->rZ,drop_nil->r8,any_cons->sD,lookup->uP
open PySem.Heap renaming get?_push_of_some->aq,get?_push_size->aB,lt_size->aD,get?_push_ne->cS,size_update->dX,SameBut->fQ,get?_update_self->gZ,get?_update_ne->iz,get?_update_other->kK,NewAttrErr->k7,ExtBut->ou,size_push->pE
open Nat renaming lt_of_lt_of_le->au,le_refl->av,ne_of_lt->aJ,le_trans->aP,zero_le->bp,sub_one_lt_of_lt->bR,le_of_lt->bY,add_le_add_right->b9,lt_of_succ_lt->cu,lt_trichotomy->cw,le_add_right->cG,zero_add->du,min_eq_left->dO,lt_of_le_of_lt->dY,lt_or_ge->fc,sub_self->ff,eq_or_lt_of_le->fg,lt_of_le_of_ne->fk,eq_zero_of_not_pos->fq,lt_irrefl->fC,add_sub_assoc->fJ,le_succ->fP,lt_trans->fS,testBit_succ->fW,add_lt_add_left->fZ,add_le_add_left->f6,le_antisymm->gv,ne_of_gt->gM,le_of_succ_le->gQ,le_of_lt_succ->gU,pow_succ->gV,mod_eq_zero_of_dvd->gW,dvd_of_mod_eq_zero->gX,le_of_sub_eq_zero->g6,sub_le->hJ,le_sub_one_of_lt->ig,lt_or_eq_of_le->iN,le_succ_of_le->iZ,shiftLeft_eq->kg,add_sub_cancel_left->km,testBit_zero->ku,le_mul_of_pos_left->kO,le_of_eq->kQ,testBit_and->k6,one_pos->lS,eq_of_testBit_eq->l7,not_le->mT,one_lt_two_pow->m4,one_le_two_pow->m5,succ_pos->nB,lt_succ_of_lt->nF,mul_comm->nH,le_of_not_lt->n9,succ_lt_succ->oe,and_le_left->oN,add_assoc->sr,mul_assoc->sv,le_total->tT,add_comm->tY,min_self->t7,one_mul->uS
open Int renaming le_refl->aE,dvd_of_emod_eq_zero->bh,le_trans->bo,pow_succ->bA,one_mul->bH,le_of_lt->cf,mul_comm->cg,emod_eq_zero_of_dvd->cJ,mul_assoc->cM,toNat_natCast->cP,mul_le_mul_of_nonneg_right->dh,add_mul->eG,mul_le_mul_of_nonneg_left->eZ,natCast_pow->fB,lt_or_le->fV,natCast_zero->fX,mul_neg_of_pos_of_neg->fY,not_lt->gA,pow_add->gH,natCast_nonneg->iI,fdiv_eq_ediv_of_nonneg->iJ,lt_of_mul_lt_mul_right->iO,lt_of_mul_lt_mul_left->iS,mul_one->iV,lt_trichotomy->iX,eq_ofNat_of_zero_le->kf,natCast_succ->kG,toNat_of_nonneg->mG,emod_lt_of_pos->m6,add_emod->nG,mul_emod_left->nI,mul_add->oq,le_antisymm->oI,emod_two_eq->oM,ediv_nonneg->oP,emod_nonneg->oQ,pow_zero->t6,sub_mul->uV
open PyProof.Rows renaming wpS_pure->aF,SortSt->aV,Keyed->br,wpS_bind->bt,SortKind->dZ,IntsAre->eE,listItems_at->ft,listUpdate_at->fD,callWith_type1->fH,size_push'->fO,get?_update_seq->gx,Top->hW,AllBare->iA,wpS_get->iB,assignInOrder_cons->iG,wpS_lift->kj,subscriptTail_builtinR->kJ,wpS_modify->kP,seqEpoch_at->l4,assignInOrder_nil->m8,pairsOf_size->nC,callWith_builtin1->n8,entry_list_sort->oK,IsTup->oU,slot_list_sort->pM,KskOut->t5,ksk_rest->vk,lt_int->vE
open Option.some renaming inj->aI
open PySem.Str renaming ofString->aN,empty->mn
open Bool renaming false_eq_true->aO,false_ne_true->aS,and_eq_true->aW,eq_iff_iff->cc,eq_false_iff->cR,not_false->d6,true_and->eH,false_and->eQ,not_true->fE,not_eq_true'->gR,beq_eq_decide_eq->lh,or_eq_false_iff->lR,and_false->l8,and_eq_true_iff->mj,and_true->mK
open Iff renaming rfl->aR
open Classical renaming byContradiction->a8,choose_spec->bX,choose->hG
open PySem.Value renaming ref->a9,type->bC,none->fK,int->i9,bool->kH,str->nV,isStrOf->rC,isInt->uA,float->uB
open Array renaming getElem?_toList->bq,length_toList->bz,toList_append->bG,perm_iff_toList_perm->d4,getElem?_eq_getElem->iQ,toList_push->iY,getElem?_eq_none->kT,toList_extract->lW,toList_reverse->lZ,toList_modify->mF,size_append->nD,size_map->pL,size_zip->pV,toList->tw
open PySem.Obj renaming mapSeq->bw,data_mapFields->gE,isFreed_of_fields->lF,mapFields->mL,cls_mapFields->nL
open PySem.W renaming kia_one->bD,boot_heap->cy,fnOf->cO,cellsFrom_some->dP,kitx_dict->eD,keepIn->fM,codeIn->gO,methodObj->iU,boot_drawn->kX,instObj->kZ,lookIn->lN,boot_toks->mw,kitx_tuple->mO,callWith_K->mQ,kitx_list->m9,plainGet->nZ,findIn->o5,kitOne->o6,TabsAt->pU,ghost_get->sZ,SharedT->tZ
open PySem.NameKind renaming free->bP,cell->h8
open PySem.F renaming slot_dict_keyiterator_next->bS,slot_list_reversed->d8,slot_list_getattribute->eJ,plainAttrs_list->eT,args_dict_keyiterator_next_1->f9,args_tuple_add_2->gj,entry_dict_keyiterator_next->gr,entry_tuple_add->gG,slot_tuple_add->gP,slot_dict_iter->kW,slot_dict_len->lC
open PySem.PassesOwn renaming never->bV
open PySem.PyData renaming hasDict->b8,int->cq,canLayAll0->cQ,tuple->dw,depthAll->dN,bool->eF,hasDict_of_canLay->eI,eqv->fe,hasDictAll->fI,canLay0->fN,depth->gT,eqvAll->mJ,none->oo,dict->uU
open False renaming elim->cm
open PySem.Builtin renaming bitXor->cz,bitNot->eV,bitAnd->fL
open PySem.Paired renaming length->cK
open PySem.Heap.SameBut renaming update->cW,refl->xk
open PySem.PyData.dict renaming inj->cY,injEq->nv
open PySem.Builtin.List renaming listExtendWith->dR,listItems->fu,listTooLong->gm,listSameRef->sy,listUpdate->sV
open PySem.Builtin.Int renaming intBits->eM
open Option renaming getD_some->eR,map_eq_some_iff->fv,isSome_iff_exists->gf,map_some->ir,isSome_map->nM
open PySem.PyData.tuple renaming inj->eW
open Or renaming inl->fw,inr->wD
open Prod renaming ext->fA,fst->vf
open List.Pairwise renaming imp_of_mem->gp,sublist->ly,nil->nt,and->xn,imp->xw
open List.cons renaming inj->gq,injEq->oE
open ForInStep renaming yield->gu
open PySem.Code renaming quiet_builtin->gC
open Ne renaming symm->gL
open Function renaming comp_def->gS
open List.Perm renaming append_left->g7,trans->iu,refl->pI
open True renaming intro->hE
open PySem.W.Hook renaming none->hY,obs->vo,val->vp
open Array.Perm renaming refl->iw
open PySem.Builtin.Dict_items renaming ownsTuple->iy
open PySem.Calls renaming Name_function_global->iF,call_function_entry->iR,callWith_builtin->kM,call_len_list->mD,spliced_cons->mP,spliced_nil->ng
open PySem.SeqAt.EqAt renaming int_int->iM
open PySem.Builtin.Dict renaming addKeywords->i8,updateFrom->kC,showsAll->lD,pendingCount->rj,dictSlotNone->rm,selfAndRest->sE,pairItems->tW
open PySem.Heap.DictOfH renaming new->kB
open PySem.W.RowW renaming records->kY
open PySem.AutoListH renaming list___reversed___list_0->lG
open Prod.mk renaming inj->mh,injEq->se
open Sum renaming inl->ml,inr->mm
open And renaming intro->mv
open PyProof.Rows.SortSt renaming mk'->mW
open PySem.PyData.list renaming injEq->ny
open PySem.Builtin.SmallTypes renaming stopIteration->nQ
open PySem.Builtin.Tuple renaming tupleCompareSizes->nS,tupleHashOf->rh
open PySem.Heap.ExtBut renaming push->oj
open StateT renaming run_pure->oJ
open PySem.SeqAt renaming EqAt->o8,eqv_refl->u7
open PySem.PyData.int renaming inj->pR
open PySem.Manifest renaming find?->pS
open PySem.EqNone renaming eq_none_none->pX,eq_none_bool->pY,eq_bool_none->pZ,ne_none_none->p6,ne_none_bool->p7,ne_bool_none->p8,eq_none_int->rG,eq_none_str->rH,eq_int_none->rJ,eq_str_none->rL,ne_none_int->rN,ne_none_str->rO,ne_int_none->rP,ne_str_none->rR
open PySem.EqMixed renaming eq_bool_str->p4,eq_str_bool->p5,ne_bool_str->p9,ne_str_bool->rf,eq_int_str->rK,eq_str_int->rM,ne_int_str->rQ,ne_str_int->rS
open PyProof.Rows.LSm renaming kept_iter->rX
open PySem.Builtin.Range renaming rangeSize->sO
open Nat.succ renaming inj->tU
open PySem.W.WShape renaming has->wo
open PySem.Walks renaming list->wz
open PySem.Flow renaming next->xG
open PySem.W.WData renaming int->xW
open PySem.Data renaming func->yp
local macro_rules | `(tactic| walk_at "V") => `(tactic| first | exact Or.inl rfl | exact Or.inr (Or.inl rfl) | exact Or.inr (Or.inr rfl))
local macro_rules | `(tactic| walk_at "F") => `(tactic| first | exact .inl rfl | exact .inr rfl | assumption)
abbrev qF:=PySem.W.Frag
abbrev qB:=List (Int×Int)
abbrev qN:=tq->Nat->Prop
abbrev qM:=PySem.Str->Option uz
abbrev qV:=uz->PySem.Shared->Prop
abbrev qD:=List tq
abbrev qO:=List (PySem.Addr×PySem.Obj)
set_option Elab.async false
set_option linter.all false
set_option maxRecDepth 100000
set_option maxHeartbeats 4000000
namespace L2
open PySem PySem.Spec PyProof.Rows
abbrev Ndb(x:Str):Prop:=(x == ("__debug__":Str))=false
abbrev Ncd(x:Str):Prop:=(x == ("__classdict__":Str))=false
abbrev Key:=Sum Int Str
def U2:Key->ae->Bool
 | .inl k,v=>uA k v
 | .inr x,v=>rC x v
def keyH(w:ba):Key->Int
 | .inl k=>hashInt k
 | .inr x=>hashStr w x
theorem Q5:∀{k:Key}{v:ae},U2 k v=true->(∃i t,k=ml i/\v=i9 i t)\/(∃x t,k=mm x/\v=nV x t)
 | .inl i,v,h=>by obtain⟨t,e⟩:=Value.isInt_shape (k:=i) (v:=v) h;exact .inl ⟨i,t,rfl,e⟩
 | .inr x,v,h=>by obtain⟨t,e⟩:=Value.isStrOf_shape (x:=x) (v:=v) h;exact .inr ⟨x,t,rfl,e⟩
theorem zll(i:Int)(t:Tok):U2 (.inl i) (.int i t)=true:=by simp[U2,uA]
theorem zlk(x:Str)(t:Tok):U2 (.inr x) (.str x t)=true:=by simp[U2,rC]
theorem zrx(a b:Int):decide ((ml a:Key)=ml b)=(a == b):=by by_cases e:a=b;subst e;simp;have h:¬(ml a:Key)=ml b:=fun q=>e (Sum.inl.inj q);rw[decide_eq_false h];exact(beq_eq_false_iff_ne.mpr e).symm
theorem zru(a b:Str):decide ((mm a:Key)=mm b)=decide (a=b):=by by_cases e:a=b;subst e;simp;have h:¬(mm a:Key)=mm b:=fun q=>e (Sum.inr.inj q);rw[decide_eq_false h,decide_eq_false e]
theorem zrw(a:Int)(b:Str):decide ((ml a:Key)=mm b)=false:=decide_eq_false (fun q=>nomatch q)
theorem zrv(a:Str)(b:Int):decide ((mm a:Key)=ml b)=false:=decide_eq_false (fun q=>nomatch q)
def JA(prog:aK)(w:ba):rD prog w Key where
 is:=U2
 hash:=keyH w
 inj:=fun v a b ha hb=>by rcases Q5 ha with⟨i,t,rfl,rfl⟩|⟨x,t,rfl,rfl⟩;rcases Q5 hb with⟨j,u,rfl,e⟩|⟨y,u,rfl,e⟩;injection e with e1 _;rw[e1];exact nomatch e;rcases Q5 hb with⟨j,u,rfl,e⟩|⟨y,u,rfl,e⟩;exact nomatch e;injection e with e1 _;rw[e1]
 byValue:=fun k v h=>by rcases Q5 h with⟨i,t,rfl,rfl⟩|⟨x,t,rfl,rfl⟩ <;> rfl
 pyHash:=fun l h=>by rcases Q5 l with⟨i,t,rfl,rfl⟩|⟨x,t,rfl,rfl⟩;exact wpAny_pyHash_int h;exact wpAny_pyHash_str h
 eqBool:=fun o l h=>by rcases Q5 o with⟨i,t,rfl,rfl⟩|⟨x,t,rfl,rfl⟩;rcases Q5 l with⟨j,u,rfl,rfl⟩|⟨y,u,rfl,rfl⟩;rw[zrx]at h;exact wpAny_eqBool_int h;rw[zrw]at h;exact SeqAt.EqAt.int_str i t y u _ _ _ _ h;rcases Q5 l with⟨j,u,rfl,rfl⟩|⟨y,u,rfl,rfl⟩;rw[zrv]at h;exact SeqAt.EqAt.str_int x t j u _ _ _ _ h;rw[zru]at h;exact wpAny_eqBool_str h
 «strs»:=fun k x t v h=>by rcases Q5 h with⟨i,u,rfl,e⟩|⟨y,u,rfl,e⟩;exact nomatch e;injection e with e1 _;subst e1;cases v <;> rfl
theorem zh0(prog:aK)(w:ba)(i:Int)(t:Tok):(JA prog w).is (.inl i) (.int i t)=true:=zll i t
theorem zhZ(prog:aK)(w:ba)(x:Str)(t:Tok):(JA prog w).is (.inr x) (.str x t)=true:=zlk x t
inductive V where
 | non|bl (b:Bool)|int (i:Int)|str (x:Str)|byt (b:Array UInt8)|flt (b:UInt64)|ref (a:af)|ty (n:String)
 deriving DecidableEq
def RelV:V->ae->Prop
 | .non,u=>u=fK
 | .bl b,u=>u=kH b
 | .int i,u=>∃t,u=i9 i t
 | .str x,u=>∃t,u=nV x t
 | .byt b,u=>∃t,u=Value.bytes b t
 | .flt b,u=>∃t,u=uB b t
 | .ref a,u=>u=a9 a
 | .ty n,u=>u=bC n
abbrev Vals:List V->List ae->Prop:=bQ RelV
theorem Vals.length{xs:List V}{us:List ae}(r:Vals xs us):xs.length=us.length:=cK r
theorem Vals.get:∀{xs:List V}{us:List ae}{i:Nat}{x:V},Vals xs us->xs[i]?=some x->∃u,us[i]?=some u/\RelV x u
 | _,_,_,_,.nil,e=>by simp at e
 | _,_,0,_,.cons r _,e=>by simp at e;subst e;exact⟨_,rfl,r⟩
 | _,_,i+1,x,.cons _ t,e=>by obtain⟨u,C,v⟩:=Vals.get (i:=i) (x:=x) t (by simpa using e);exact⟨u,by simpa using C,v⟩
theorem Vals.set{x:V}{u:ae}(r:RelV x u):∀{xs:List V}{us:List ae} (i:Nat),Vals xs us->Vals (xs.set i x) (us.set i u)
 | _,_,_,.nil=>.nil
 | _,_,0,.cons _ t=>.cons r t
 | _,_,i+1,.cons q t=>.cons q (Vals.set r i t)
theorem Vals.append{xs ys:List V}{us ws:List ae}(h:Vals xs us)(s:Vals ys ws):Vals (xs++ys) (us++ws):=by
 induction h with
 | nil=>exact s
 | cons r _ l=>exact .cons r l
theorem Vals.take:∀{xs:List V}{us:List ae} (n:Nat),Vals xs us->Vals (xs.take n) (us.take n)
 | _,_,0,_=>.nil
 | _,_,_+1,.nil=>.nil
 | _,_,n+1,.cons r t=>.cons r (Vals.take n t)
theorem Vals.drop:∀{xs:List V}{us:List ae} (n:Nat),Vals xs us->Vals (xs.drop n) (us.drop n)
 | _,_,0,r=>r
 | _,_,_+1,.nil=>.nil
 | _,_,n+1,.cons _ t=>Vals.drop n t
def RelO:Option V->Option ae->Prop
 | some v,some u=>RelV v u
 | none,none=>True
 | _,_=>False
def KV{l:Type}:List (l×V)->List (l×ae)->Prop:=bQ fun(p:l×V) (q:l×ae)=>p.1=q.1/\RelV p.2 q.2
def kV:Key->V
 | .inl i=>.int i
 | .inr x=>.str x
inductive HO where
 | lst (xs:List V)
 | tup (xs:List V)
 | dK (kvs:List (Key×V))|dT (kvs:List (List Key×V))
 | set (S:Int->Bool) (n:Nat)
 | ins (C dx:af) (fs:List (Str×V))
 | own (x:af)
 | xd (fs:List (Str×V))
 | met (f x:af)
 | rng (lo hi:Int)
 | frz (o:Obj) (u:HO)
 | tbl (q:Str)
 | ext (φ:bB->Prop)
abbrev Hp:=af->Option HO
def upd(H:Hp)(a:af)(o:HO):Hp:=fun b=>if b=a then some o else H b
theorem JH{H:Hp}{a:af}{o:HO}:upd H a o a=some o:=by unfold upd;rw[if_pos rfl]
theorem Jj{H:Hp}{a b:af}{o:HO}(h:b≠a):upd H a o b=H b:=by unfold upd;rw[if_neg h]
theorem Qf{H:Hp}{a b:af}{o:HO}(h:H a=some o)(h':H b=none):a≠b:=by intro e;subst e;rw[h]at h';cases h'
def IsTD(h:bB)(a:af)(items:Array ae):Prop:=∃o,h.get? a=some o/\o.cls=.type "tuple" /\ (∃n,o.data=.seq items n)/\o.dict=none
theorem IsTD.tup{h:bB}{a:af}{items:Array ae}(x:IsTD h a items):oU h a items:=by obtain⟨o,e,c,d,_⟩:=x;exact⟨o,e,c,d⟩
theorem IsTD.lt{h:bB}{a:af}{items:Array ae}(x:IsTD h a items):a<h.objs.size:=x.tup.lt
theorem IsTD.new(h:bB)(items:Array ae):IsTD (h.push { cls:=.type "tuple",data:=.seq items }) h.objs.size items:=⟨_,aB _ rfl,rfl,⟨_,rfl⟩,rfl⟩
def TabOk(H:Hp)(q:Str)(ps:Array ae):Prop:=sL ps.toList/\∀(pos:Pos) (v:ae),codeAmong pos ps.toList=some v->∃(c:af) (o:Obj) (u:HO) (vs:Array ae) (t:Tok),v=.ref c/\H c=some (.frz o u)/\o.data=.fields vs/\vs[1]?=some (.str q t)
section
variable(P:aK)(w:ba)
def JG(H:Hp)(h:bB)(a:af):HO->Prop
 | .lst xs=>xs.length<=sizeLine/\∃(its:List ae) (n:Nat),Vals xs its/\h.get? a=some { cls:=.type "list",data:=.seq its.toArray n }
 | .tup xs=>xs.length<=sizeLine/\∃its:List ae,Vals xs its/\IsTD h a its.toArray
 | .dK G=>G.length<=sizeLine/\(a == sysModules)=false/\∃vs,KV G vs/\h.DictOf (JA P w) a vs
 | .dT G=>G.length<=sizeLine/\(a == sysModules)=false/\∃xs:List (List Key×af×ae),
   bQ (fun(p:List Key×V) (q:List Key×af×ae)=>p.1=q.1/\H q.2.1=some (.tup (p.1.map kV))/\RelV p.2 q.2.2) G xs /\
   ∃o es ep,h.get? a=some o/\o.ExactDict/\o.data=.dict es ep/\es.toList=xs.map (entryOfKey (tupleKind (JA P w)))/\(xs.map (·.1)).Nodup
 | .set S n=>h.SetOf (intKind P w) a S n
 | .ins C J fs=>H J=some (.own a)/\fs.length<=1000/\J≠a/\h.get? a=some (kZ C J) /\
   ∃I,h.Ns1 J I/\(∀f,RelO (fs.lookup f) (I f))/\tu I (fs.map (·.1))
 | .own _=>∃o,h.get? a=some o
 | .xd fs=>∃I,h.Ns1 a I/\∀f,RelO (fs.lookup f) (I f)
 | .rng lo hi=>∃t u v,h.get? a=some { cls:=.type "range",data:=.fields #[.int lo t,.int hi u,.int 1 v] }
 | .frz o u=>h.get? a=some o/\JG H h a u
 | .tbl q=>∃ps:Array ae,h.get? a=some { cls:=.none,data:=.fields ps }/\TabOk H q ps
 | .met f x=>h.get? a=some (iU (.ref f) (.ref x))
 | .ext L=>L h/\(∃o,h.get? a=some o)/\∀U R:bB,L U->(∀o,U.get? a=some o->R.get? a=some o)->L R
def HOk(H:Hp)(h:bB):Prop:=∀a o,H a=some o->JG P w H h a o
end
section
variable{P:aK}{w:ba}{H H':Hp}{h h':bB}{a:af}{o:HO}
theorem JG.lt(x:JG P w H h a o):a<h.objs.size:=by
 cases o with
 | lst xs=>obtain⟨_,_,_,_,e⟩:=x;exact aD e
 | tup xs=>obtain⟨_,_,_,p⟩:=x;exact p.lt
 | dK l=>obtain⟨_,_,_,_,o,_,_,e,_⟩:=x;exact aD e
 | dT l=>obtain⟨_,_,_,_,o,_,_,e,_⟩:=x;exact aD e
 | set S n=>obtain⟨o,_,_,_,e,_⟩:=x;exact aD e
 | ins C v fs=>obtain⟨_,_,_,e,_⟩:=x;exact aD e
 | own y=>obtain⟨_,e⟩:=x;exact aD e
 | xd fs=>obtain⟨_,⟨_,_,_,e,_⟩,_⟩:=x;exact aD e
 | rng lo hi=>obtain⟨_,_,_,e⟩:=x;exact aD e
 | frz I u=>obtain⟨e,_⟩:=x;exact aD e
 | tbl q=>obtain⟨_,e,_⟩:=x;exact aD e
 | met f y=>exact aD (show h.get? a=some _ from x)
 | ext G=>obtain⟨_,⟨_,e⟩,_⟩:=x;exact aD e
theorem Paired.mapP{α u:Type}{F G:α->u->Prop}{l₁:List α}{l₂:List u}(h:bQ F l₁ l₂)(f:∀a b,F a b->G a b):bQ G l₁ l₂:=by
 induction h with
 | nil=>exact .nil
 | cons r _ v=>exact .cons (f _ _ r) v
theorem JG.stay(x:JG P w H h a o)(k:∀b u,(b=a\/H b=some (.own a))->h.get? b=some u->h'.get? b=some u)
  (Z:∀b,H b=some (.own a)->H' b=some (.own a)) (Y:∀b xs,H b=some (.tup xs)->H' b=some (.tup xs)) (hf:∀b G u,H b=some (.frz G u)->H' b=some (.frz G u)):JG P w H' h' a o:=by
 induction o with
 | lst xs=>obtain⟨z,its,n,r,e⟩:=x;exact⟨z,its,n,r,k _ _ (.inl rfl) e⟩
 | tup xs=>obtain⟨z,its,r,G,e,c⟩:=x;exact⟨z,its,r,G,k _ _ (.inl rfl) e,c⟩
 | dK I=>obtain⟨z,y,vs,r,G,es,ep,e,c⟩:=x;exact⟨z,y,vs,r,G,es,ep,k _ _ (.inl rfl) e,c⟩
 | dT I =>obtain⟨z,y,xs,r,G,es,ep,e,c⟩:=x;exact⟨z,y,xs,Paired.mapP r fun p q z=>⟨z.1,Y _ _ z.2.1,z.2.2⟩,G,es,ep,k _ _ (.inl rfl) e,c⟩
 | set S n=>obtain⟨G,es,ep,t,e,c⟩:=x;exact⟨G,es,ep,t,k _ _ (.inl rfl) e,c⟩
 | ins C dx fs =>obtain⟨d,z,ne,e,L,⟨J,es,ep,N,c⟩,r⟩:=x;exact⟨Z _ d,z,ne,k _ _ (.inl rfl) e,L,⟨J,es,ep,k _ _ (.inr d) N,c⟩,r⟩
 | own y=>obtain⟨G,e⟩:=x;exact⟨G,k _ _ (.inl rfl) e⟩
 | xd fs=>obtain⟨L,⟨J,es,ep,e,c⟩,r⟩:=x;exact⟨L,⟨J,es,ep,k _ _ (.inl rfl) e,c⟩,r⟩
 | rng lo hi=>obtain⟨t,u,v,e⟩:=x;exact⟨t,u,v,k _ _ (.inl rfl) e⟩
 | frz G u U=>obtain⟨e,q⟩:=x;exact⟨k _ _ (.inl rfl) e,U q⟩
 | tbl q =>obtain⟨ps,e,z,r⟩:=x;refine⟨ps,k a _ (.inl rfl) e,z,fun pos cv m=>?_⟩;obtain⟨c,o,u,vs,t,R,N,e3⟩:=r pos cv m;exact⟨c,o,u,vs,t,R,hf _ _ _ N,e3⟩
 | met f y =>have e:h.get? a=some (iU (.ref f) (.ref y)):=x;show h'.get? a=some (iU (.ref f) (.ref y));exact k a _ (.inl rfl) e
 | ext φ=>obtain⟨p,⟨o,e⟩,st⟩:=x;exact⟨st _ _ p fun o q=>k _ _ (.inl rfl) q,⟨o,k _ _ (.inl rfl) e⟩,st⟩
theorem HOk.lt(x:HOk P w H h)(e:H a=some o):a<h.objs.size:=(x a o e).lt
theorem HOk.fresh(x:HOk P w H h)(e:h.objs.size<=a):H a=none:=by
 cases q:H a with
 | none=>rfl
 | some u=>exact absurd (au (x.lt q) e) (fC _)
theorem HOk.kept(x:HOk P w H h)(k:∀b u,h.get? b=some u->h'.get? b=some u):HOk P w H h':=fun a o e =>
 (x a o e).stay (fun b u _ q=>k b u q) (fun _ q=>q) (fun _ _ q=>q) fun _ _ _ q=>q
theorem HOk.laid(x:HOk P w H h)(k:∀b u,h.get? b=some u->h'.get? b=some u)(C:h.objs.size<=a)(new:JG P w (upd H a o) h' a o):HOk P w (upd H a o) h':=fun b u e=>by have l:=x.fresh C;by_cases hb:b=a;subst hb;rw[JH]at e;cases e;exact new;rw[Jj hb]at e;exact(x b u e).stay (fun c v _ q=>k c v q) (fun c q=>by rw[Jj (Qf q l)];exact q) (fun c xs q=>by rw[Jj (Qf q l)];exact q) fun c G xs q=>by rw[Jj (Qf q l)];exact q
end
def Rd(H:Hp)(a:af)(u:HO):Prop:=H a=some u\/∃o,H a=some (.frz o u)
theorem Rd.ok{P:aK}{w:ba}{H:Hp}{h:bB}{a:af}{u:HO}(r:Rd H a u)(x:HOk P w H h):JG P w H h a u:=by rcases r with r|⟨o,r⟩;exact x a u r;obtain⟨_,q⟩:=x a _ r;exact q
def Mut:Option HO->Prop
 | some (.lst _)=>True
 | some (.dK _)=>True
 | some (.dT _)=>True
 | some (.set _ _)=>True
 | some (.ins _ _ _)=>True
 | some (.ext _)=>True
 | _=>False
section
variable{P:aK}{w:ba}{H:Hp}{h h':bB}{x e:af}{o':HO}
theorem HOk.write(ok:HOk P w H h)(l:Mut (H x))(he:e=x\/H e=some (.own x))(k:∀b u,b≠e->h.get? b=some u->h'.get? b=some u)(J:∃u,h'.get? e=some u)
  (new:JG P w (upd H x o') h' x o'):HOk P w (upd H x o') h':=fun b u q=>by
 have N:∀c y,H c=some (.own y)->c≠x:=fun c y r z=>by subst z;rw[r]at l;exact l
 have C:∀c xs,H c=some (.tup xs)->c≠x:=fun c xs r z=>by subst z;rw[r]at l;exact l
 have G:∀c I xs,H c=some (.frz I xs)->c≠x:=fun c I xs r z=>by subst z;rw[r]at l;exact l
 by_cases hb:b=x;subst hb;rw[JH]at q;cases q;exact new;rw[Jj hb]at q;by_cases hbe:b=e;have L:H b=some (.own x):=by rcases he with z|z;exact absurd (hbe.trans z) hb;rw[hbe];exact z
 rw[q]at L;cases L;obtain⟨v,R⟩:=J;exact⟨v,by rw[hbe];exact R⟩;refine(ok b u q).stay (fun c v hc r=>k c v ?_ r) (fun c r=>by rw[Jj (N c b r)];exact r) (fun c xs r=>by rw[Jj (C c xs r)];exact r) fun c I xs r=>by rw[Jj (G c I xs r)];exact r
 rcases hc with rfl|hc;exact hbe;rintro rfl;rcases he with z|z;exact N c b hc z;rw[hc]at z;cases z;exact hb rfl
end
structure Un(fs ex:List af)(H H':Hp)(h h':bB):Prop where
 keep:∀b o,h.get? b=some o->H b=none->b∉fs->b∉ex->h'.get? b=some o
 slot:∀b o,h.get? b=some o->H b=none->b∈fs->b∉ex->∃sl,h'.get? b=some { o with slots:=sl }
 free:∀b o,h.get? b=some o->H b=none->b∉ex->H' b=none
 there:∀b o,h.get? b=some o->b∉ex->∃o',h'.get? b=some o'
 tups:∀b xs,H b=some (.tup xs)->H' b=some (.tup xs)
 frzs:∀b o u,H b=some (.frz o u)->H' b=some (.frz o u)
 tbls:∀b q,H b=some (.tbl q)->H' b=some (.tbl q)
section
variable{fs fs' ex ex':List af}{H H1 H2:Hp}{h h1 h2 h':bB}{a x e:af}{o:HO}
theorem Un.any(u:Un fs ex H H1 h h1){b:af}{l:Obj}(q:h.get? b=some l)(n:H b=none)(hx:b∉ex):∃sl,h1.get? b=some { l with slots:=sl }:=by by_cases hb:b∈fs;exact u.slot b l q n hb hx;exact⟨l.slots,u.keep b l q n hb hx⟩
theorem Un.kept(k:∀b u,h.get? b=some u->h'.get? b=some u):Un fs ex H H h h' :=
 ⟨fun b l q _ _ _=>k b l q,fun b l q _ _ _=>⟨l.slots,k b l q⟩,fun _ _ _ n _=>n,fun b l q _=>⟨l,k b l q⟩,fun _ _ q=>q,fun _ _ _ q=>q,fun _ _ q=>q⟩
theorem Un.refl:Un fs ex H H h h:=Un.kept fun _ _ q=>q
theorem Un.laid(k:∀b u,h.get? b=some u->h'.get? b=some u)(v:h.objs.size<=a)(l:H a=none):Un fs ex H (upd H a o) h h' where
 keep:=fun b u q _ _ _=>k b u q
 slot:=fun b u q _ _ _=>⟨u.slots,k b u q⟩
 free:=fun b u q n _=>by rw[Jj (aJ (au (aD q) v))];exact n
 there:=fun b u q _=>⟨u,k b u q⟩
 tups:=fun b xs q=>by rw[Jj (Qf q l)];exact q
 frzs:=fun b u xs q=>by rw[Jj (Qf q l)];exact q
 tbls:=fun b ps q=>by rw[Jj (Qf q l)];exact q
theorem Un.write(l:Mut (H x))(he:e=x\/H e=some (.own x))(k:∀b u,b≠e->h.get? b=some u->h'.get? b=some u)(v:∃u,h'.get? e=some u):Un fs ex H (upd H x o) h h':=by
 have hx:∀b,H b=none->b≠x:=fun b n z=>by subst z;rw[n]at l;exact l
 have hb:∀b,H b=none->b≠e:=fun b n z=>by subst z;rcases he with r|r;exact hx b n r;rw[n]at r;cases r
 have C:∀b u,H b=some u->¬Mut (some u)->b≠x:=fun b u q nm z=>by subst z;rw[q]at l;exact nm l
 refine⟨fun b u q n _ _=>k b u (hb b n) q,fun b u q n _ _=>⟨u.slots,k b u (hb b n) q⟩,fun b u q n _=>by rw[Jj (hx b n)];exact n,fun b u q _=>?_,
  fun b xs q=>by rw[Jj (C b _ q fun z=>z)];exact q,fun b u xs q=>by rw[Jj (C b _ q fun z=>z)];exact q,fun b ps q=>by rw[Jj (C b _ q fun z=>z)];exact q⟩
 by_cases hbe:b=e;subst hbe;exact v;exact⟨u,k b u hbe q⟩
end
def trk(h:bB)(H:Hp):List af:=(g9 h.objs.size).filter fun a=>(H a).isSome
def hidT(h:bB)(H:Hp):bB:=PySem.W.hideAll h (trk h H)
theorem zlr(h:bB)(H:Hp):(hidT h H).objs.size=h.objs.size:=PySem.W.hideAll_size _ _
theorem znk{h:bB}{H:Hp}{b:af}{o:Obj}(e:h.get? b=some o)(n:H b=none):(hidT h H).get? b=some o :=
 PySem.W.hideAll_get _ e fun l=>by have q:(H b).isSome=true:=(ip.mp l).2;rw[n]at q;simp at q
theorem zo8{h:bB}{H:Hp}{b:af}{o:Obj}(e:(hidT h H).get? b=some o):h.get? b=some o/\H b=none:=by
 have l:h.get? b=some o:=PySem.W.of_hideAll (trk h H) e;refine⟨l,?_⟩;cases q:H b with
 | none=>rfl
 | some x =>have u:b∈trk h H:=ip.mpr ⟨lK.mpr (aD l),by simp[q]⟩;have z:(hidT h H).get? b=none:=PySem.W.hideAll_none (trk h H) u;rw[z]at e;cases e
structure Mod(K:qF)(mg:qM)(base:bB):Prop where
 kin:K.In base
 glob:base.Ns mainGlobals mg
 blt:∃mb,base.Ns builtinsNs mb/\∀x:Str,x ≠ "__name__" -> mb x=bootBuiltins x
 nolimit:base.NoLimit
structure Cx where
 prog:aK
 w:ba
 K:qF
 mg:Str->Option ae
 base:bB
 A:aX
 N:List Str
 s₀:aj
 H₀:Hp
 env:Env
 outer:List Env
 stack:List Env
 ex:List af
 fn:Str->Bool
 calm:Bool
 pn:List (af×Obj)
 xe:ae->aj->Prop
abbrev Fsi(X:Cx)(e:aT):Prop:=∀x,foldedSetIterable e X.env x=pure x
abbrev Fnl(X:Cx)(x:Str):Prop:=X.fn x=true\/X.env.scope.names.lookup x=some .local
def frs(l:List Env):List af:=l.filterMap (·.frame)
abbrev Cx.fs(X:Cx):List af:=frs X.outer
def Vis(sc:dF)(x:Str):Prop:=sc.names.lookup x=some .local\/sc.names.lookup x=some .cell\/sc.names.lookup x=some .free
def Loc(sc:dF)(x:Str):Prop:=sc.names.lookup x=some .local\/sc.names.lookup x=some .cell
def Look(env:Env)(h:bB)(m:qM)(x:Str)(u:ae):Prop :=
 (env.kindOf x=some .local/\m x=some u)\/((env.kindOf x=some .cell\/env.kindOf x=some .free)/\∃c,env.cells.lookup x=some c/\h.IsCell c (some u))
structure Cx.Ok(X:Cx):Prop where
 mod:Mod X.K X.mg X.base
 kind:X.env.scope.kind=.function
 glob:X.env.globals=mainGlobals
 blt:X.env.builtins=builtinsNs
 above:X.s₀.heap.objs.size<=X.env.locals
 inj:∀x y c,X.env.cells.lookup x=some c->X.env.cells.lookup y=some c->x=y
 has:∀x,(X.env.kindOf x=some .cell\/X.env.kindOf x=some .free)->∃c,X.env.cells.lookup x=some c
 cab:∀x c,X.fn x=true->X.env.cells.lookup x=some c->X.s₀.heap.objs.size<=c
 hd:X.calm=true->X.A.handled=none
 frames:X.A.frames=some X.stack
 stk:X.stack=X.outer\/(X.stack=X.env::X.outer/\X.env.frame=some X.env.locals)
 exf:∀b∈X.ex,b≠X.env.locals/\∀x c,X.env.cells.lookup x=some c->c≠b
 bs:∀b o,X.base.get? b=some o->X.s₀.heap.get? b=some o/\X.H₀ b=none
 bsz:X.base.objs.size<=X.s₀.heap.objs.size
 noex:∀b o,X.base.get? b=some o->b∉X.ex
 exfs:∀b∈X.ex,b∉X.fs
 funs:X.s₀.heap.FunFrames X.base X.outer
 frf:∀b∈X.fs,X.H₀ b=none
structure Inv(X:Cx)(pins:qO)(σ:List (Option V))(H:Hp)(s:aj):Prop where
 ok:X.Ok
 os:s.os=X.s₀.os
 bare:iA s.gens
 base:Un X.fs X.ex X.H₀ H X.s₀.heap s.heap
 loc:∃m,s.heap.Ns X.env.locals m/\∀(i:Nat) (x:Str) (v:V),X.N[i]?=some x->σ[i]?=some (some v)->Vis X.env.scope x->∃u,RelV v u/\Look X.env s.heap m x u
 cell:∀x c,X.env.cells.lookup x=some c->∃v,s.heap.IsCell c v
 free:H X.env.locals=none
 freeC:∀x c,X.env.cells.lookup x=some c->H c=none
 pin:∀p∈X.pn++pins,s.heap.get? p.1=some p.2/\H p.1=none/\p.1≠X.env.locals/\p.1∉X.fs/\∀v,p.2.data≠.cell v
 hok:HOk X.prog X.w H s.heap
 len:σ.length=X.N.length
section
variable{X:Cx}{pins:qO}{σ:List (Option V)}{H H':Hp}{s:aj}{h':bB}
theorem Cx.Ok.nofr(ok:X.Ok){b:af}{o:Obj}(e:X.base.get? b=some o):b∉X.fs:=fun hb=>by have:=(ok.funs.mem hb).1;rw[e]at this;cases this
theorem Inv.bs(I:Inv X pins σ H s):∀b o,X.base.get? b=some o->s.heap.get? b=some o/\H b=none:=fun b o e =>
 ⟨I.base.keep b o (I.ok.bs b o e).1 (I.ok.bs b o e).2 (I.ok.nofr e) (I.ok.noex b o e),I.base.free b o (I.ok.bs b o e).1 (I.ok.bs b o e).2 (I.ok.noex b o e)⟩
theorem Inv.bk(I:Inv X pins σ H s):∀b o,X.base.get? b=some o->s.heap.get? b=some o:=fun b o e=>(I.bs b o e).1
theorem Inv.mod(I:Inv X pins σ H s):Mod X.K X.mg X.base:=I.ok.mod
theorem Inv.kIn(I:Inv X pins σ H s):X.K.In s.heap:=I.ok.mod.kin.keeps I.bk
theorem Inv.lt(I:Inv X pins σ H s):X.env.locals<s.heap.objs.size:=let ⟨_,hn,_⟩:=I.loc;hn.lt
theorem Inv.sz(I:Inv X pins σ H s):X.s₀.heap.objs.size<=s.heap.objs.size:=aP I.ok.above (bY I.lt)
theorem Inv.nofs(I:Inv X pins σ H s){a:af}(h:s.heap.objs.size<=a):a∉X.fs:=fun hb=>by obtain⟨_,o,l,_⟩:=I.ok.funs.mem hb;exact absurd (au (aD l) (aP I.sz h)) (fC _)
theorem Inv.cne(I:Inv X pins σ H s):∀x c,X.env.cells.lookup x=some c->c≠X.env.locals:=fun x c e z=>by obtain⟨v,o,C,hd⟩:=I.cell x c e;obtain⟨m,⟨G,es,ep,l,u,_⟩,_⟩:=I.loc;rw[z,l]at C;cases C;rw[u]at hd;cases hd
theorem Inv.funs(I:Inv X pins σ H s):s.heap.FunFrames X.base X.outer:=by
 have all:∀(l:List Env),(∀b∈frs l,b∈X.fs)->X.s₀.heap.FunFrames X.base l->s.heap.FunFrames X.base l:=by
  intro l;induction l with
  | nil=>intro _ _;trivial
  | cons env r x =>intro v R;obtain⟨C,⟨L,o,hf,N,J,hd⟩,G⟩:=R;have u:L∈X.fs:=v L (by unfold frs;rw[cU,hf];exact bZ);obtain⟨sl,e⟩:=I.base.slot L o J (I.ok.frf L u) u fun z=>I.ok.exfs L z u;exact⟨C,⟨L,_,hf,N,e,hd⟩,x (fun b hb=>v b (by unfold frs;rw[cU,hf];exact bK _ hb)) G⟩
 exact all X.outer (fun _ hb=>hb) I.ok.funs
theorem Inv.stack(I:Inv X pins σ H s):s.heap.FunFrames X.base X.stack:=by rcases I.ok.stk with e|⟨e,hf⟩;rw[e];exact I.funs;rw[e];obtain⟨m,l,_⟩:=I.loc;refine .cons (by rw[I.ok.kind];decide) hf l ?_ I.funs;exact Heap.get?_none_of_le (aP I.ok.bsz I.ok.above)
theorem Inv.stkSub(I:Inv X pins σ H s):∀b∈frs X.stack,b∈X.env.locals::X.fs:=fun b hb=>by rcases I.ok.stk with e|⟨e,hf⟩;rw[e]at hb;exact bK _ hb;rw[e]at hb;unfold frs at hb;rw[cU,hf]at hb;exact hb
theorem Inv.stkFree(I:Inv X pins σ H s):∀b∈frs X.stack,H b=none:=fun b hb=>by rcases ay.mp (I.stkSub b hb) with e|hb;rw[e];exact I.free;obtain⟨_,o,l,_⟩:=I.ok.funs.mem hb;exact I.base.free b o l (I.ok.frf b hb) fun z=>I.ok.exfs b z hb
theorem Inv.step{g':Array GenState}{t':Nat}{d':Drawn}{ch:List af}(I:Inv X pins σ H s)
  (C:∀b∈ch,(b∈X.ex\/X.s₀.heap.objs.size<=b)/\b≠X.env.locals/\(∀x c,X.env.cells.lookup x=some c->c≠b)/\∀p∈X.pn++pins,p.1≠b)
  (keep:∀b o,b≠X.env.locals->b∉X.fs->b∉ch->s.heap.get? b=some o->H b=none->h'.get? b=some o)
  (slot:∀b o,b≠X.env.locals->b∈X.fs->b∉ch->s.heap.get? b=some o->H b=none->∃sl,h'.get? b=some { o with slots:=sl }) (free:∀b o,b∉ch->s.heap.get? b=some o->H b=none->H' b=none)
  (there:∀b o,b∉ch->s.heap.get? b=some o->∃R,h'.get? b=some R)
  (tups:∀b xs,H b=some (.tup xs)->H' b=some (.tup xs)) (frzs:∀b o u,H b=some (.frz o u)->H' b=some (.frz o u)) (tbls:∀b q,H b=some (.tbl q)->H' b=some (.tbl q))
  (ns:∀m,s.heap.Ns X.env.locals m->h'.Ns X.env.locals m) (hok:HOk X.prog X.w H' h') (hg:iA g') :
  Inv X pins σ H' { s with heap:=h',gens:=g',drawn:=d',toks:=t' }:=by
 have S:∀b o,X.s₀.heap.get? b=some o->b≠X.env.locals:=fun b o e=>aJ (au (aD e) I.ok.above);have J:∀b o,X.s₀.heap.get? b=some o->b∉X.ex->b∉ch:=fun b o e hx hb=>by rcases(C b hb).1 with z|z;exact hx z;exact absurd (au (aD e) z) (fC _)
 have cellK:∀x c,X.env.cells.lookup x=some c->∀v,s.heap.IsCell c v->h'.IsCell c v:=fun x c e v ⟨o,N,hd⟩=>by have G:c∉ch:=fun z=>(C c z).2.2.1 x c e rfl;by_cases hc:c∈X.fs;obtain⟨sl,q⟩:=slot c o (I.cne x c e) hc G N (I.freeC x c e);exact⟨_,q,hd⟩;exact⟨o,keep c o (I.cne x c e) hc G N (I.freeC x c e),hd⟩
 refine⟨I.ok,I.os,hg,⟨fun b o e n hb hx=>?_,fun b o e n hb hx=>?_,fun b o e n hx=>?_,fun b o e hx=>?_,fun b xs e=>tups b xs (I.base.tups b xs e),fun b o xs e=>frzs b o xs (I.base.frzs b o xs e),fun b ps e=>?_⟩,?_,fun x c e=>?_,?_,fun x c e=>?_,fun p hp=>?_,hok,I.len⟩;exact keep b o (S b o e) hb (J b o e hx) (I.base.keep b o e n hb hx) (I.base.free b o e n hx);obtain⟨sl,L⟩:=I.base.slot b o e n hb hx;obtain⟨Y,U⟩:=slot b _ (S b o e) hb (J b o e hx) L (I.base.free b o e n hx);exact⟨Y,U⟩;obtain⟨R,L⟩:=I.base.there b o e hx;exact free b R (J b o e hx) L (I.base.free b o e n hx);obtain⟨R,L⟩:=I.base.there b o e hx;exact there b R (J b o e hx) L;exact tbls b ps (I.base.tbls b ps e);obtain⟨m,hn,hl⟩:=I.loc;refine⟨m,ns m hn,fun i x v L U e3=>?_⟩;obtain⟨u,r,l⟩:=hl i x v L U e3;refine⟨u,r,?_⟩;rcases l with l|⟨k,c,e,z⟩;exact .inl l;exact .inr ⟨k,c,e,cellK x c e _ z⟩;obtain⟨v,z⟩:=I.cell x c e;exact⟨v,cellK x c e v z⟩;obtain⟨m,⟨o,_,_,N,_⟩,_⟩:=I.loc;exact free _ o (fun z=>(C _ z).2.1 rfl) N I.free;obtain⟨v,o,N,hd⟩:=I.cell x c e;exact free c o (fun z=>(C c z).2.2.1 x c e rfl) N (I.freeC x c e);obtain⟨e,n,ne,Z,d⟩:=I.pin p hp;have G:p.1∉ch:=fun z=>(C p.1 z).2.2.2 p hp rfl;exact⟨keep p.1 p.2 ne Z G e n,free p.1 p.2 G e n,ne,Z,d⟩
theorem Inv.un{t':Nat}(I:Inv X pins σ H s)(u:Un X.fs [] H H' s.heap h')(hok:HOk X.prog X.w H' h'):Inv X pins σ H' { s with heap:=h',toks:=t' }:=by obtain⟨m,⟨o,es,ep,C,r⟩,_⟩:=id I.loc;obtain⟨sl,G⟩:=u.any C I.free (by simp);exact I.step (g':=s.gens) (d':=s.drawn) (ch:=[]) (fun _ z=>nomatch z) (fun b o _ hb _ e n=>u.keep b o e n hb (by simp)) (fun b o _ hb _ e n=>u.slot b o e n hb (by simp)) (fun b o _ e n=>u.free b o e n (by simp)) (fun b o _ e=>u.there b o e (by simp)) u.tups u.frzs u.tbls (fun R J=>by obtain⟨N,v,x,l,L⟩:=J;rw[C]at l;cases l;exact⟨_,v,x,G,L⟩) hok I.bare
theorem Inv.call{g':Array GenState}{t':Nat}{d':Drawn}{ch:List af}(I:Inv X pins σ H s)(u:Un (frs X.stack) ch H H' s.heap h')(hok:HOk X.prog X.w H' h')(R:iA g')
  (v:∀b∈ch,(b∈X.ex\/X.s₀.heap.objs.size<=b)/\b≠X.env.locals/\(∀x c,X.env.cells.lookup x=some c->c≠b)/\∀p∈X.pn++pins,p.1≠b) :
  Inv X pins σ H' { s with heap:=h',gens:=g',drawn:=d',toks:=t' }:=by
 obtain⟨m,⟨o,es,ep,N,r⟩,_⟩:=id I.loc;obtain⟨sl,L⟩:=u.any N I.free fun z=>(v _ z).2.1 rfl;exact I.step (ch:=ch) v (fun b o L hb hc e n=>u.keep b o e n (fun z=>(ay.mp (I.stkSub b z)).elim L hb) hc) (fun b o _ _ hc e n=>u.any e n hc) (fun b o hc e n=>u.free b o e n hc) (fun b o hc e=>u.there b o e hc) u.tups u.frzs u.tbls (fun Z S=>by obtain⟨Y,G,J,C,U⟩:=S;rw[N]at C;cases C;exact⟨_,G,J,L,U⟩) hok R
theorem Inv.turned{t':Nat}{it:af}(I:Inv X pins σ H s)(k:∀b o,b≠it->s.heap.get? b=some o->h'.get? b=some o)(L:H it=none)(C:it≠X.env.locals)
  (S:it∈X.ex\/X.s₀.heap.objs.size<=it) (G:∀x c,X.env.cells.lookup x=some c->c≠it) (R:∀p∈X.pn++pins,p.1≠it):Inv X pins σ H { s with heap:=h',toks:=t' }:=by
 have l:∀b u,H b=some u->b≠it:=fun b u e z=>by rw[z,L]at e;cases e
 refine I.step (g':=s.gens) (d':=s.drawn) (ch:=[it]) (fun b hb=>?_) (fun b o _ _ hc e _=>k b o (fun z=>hc (by simp[z])) e) (fun b o _ _ hc e _=>⟨o.slots,k b o (fun z=>hc (by simp[z])) e⟩) (fun _ _ _ _ n=>n)
  (fun b o hc e=>⟨o,k b o (fun z=>hc (by simp[z])) e⟩) (fun _ _ e=>e) (fun _ _ _ e=>e) (fun _ _ e=>e) (fun m N=>?_) (fun b u e=>?_) I.bare
 have e:b=it:=by simpa using hb
 subst e;exact⟨S,C,G,R⟩;obtain⟨o,es,ep,J,r⟩:=N;exact⟨o,es,ep,k _ o (gL C) J,r⟩;refine(I.hok b u e).stay (fun c v hc q=>k c v ?_ q) (fun _ q=>q) (fun _ _ q=>q) fun _ _ _ q=>q;rcases hc with z|z;rw[z];exact l b u e;exact l c _ z
theorem Inv.tok(I:Inv X pins σ H s)(t:Nat):Inv X pins σ H { s with toks:=t }:=I.un (h':=s.heap) (t':=t) Un.refl I.hok
theorem Inv.kept{t':Nat}(I:Inv X pins σ H s)(k:∀b u,s.heap.get? b=some u->h'.get? b=some u):Inv X pins σ H { s with heap:=h',toks:=t' }:=I.un (Un.kept k) (I.hok.kept k)
theorem Inv.laid{a:af}{o:HO}{t':Nat}(I:Inv X pins σ H s)(k:∀b u,s.heap.get? b=some u->h'.get? b=some u)(l:s.heap.objs.size<=a)(new:JG X.prog X.w (upd H a o) h' a o) :
  Inv X pins σ (upd H a o) { s with heap:=h',toks:=t' }:=I.un (Un.laid k l (I.hok.fresh l)) (I.hok.laid k l new)
theorem Inv.write{x e:af}{o:HO}{t':Nat}(I:Inv X pins σ H s)(v:Mut (H x))(he:e=x\/H e=some (.own x))(k:∀b u,b≠e->s.heap.get? b=some u->h'.get? b=some u)(l:∃u,h'.get? e=some u)
  (new:JG X.prog X.w (upd H x o) h' x o):Inv X pins σ (upd H x o) { s with heap:=h',toks:=t' }:=I.un (Un.write v he k l) (I.hok.write v he k l new)
theorem Inv.weak{σ':List (Option V)}(I:Inv X pins σ H s)(o:σ'.length=σ.length)(w:∀(i:Nat) v,σ'[i]?=some (some v)->σ[i]?=some (some v)):Inv X pins σ' H s :=
 ⟨I.ok,I.os,I.bare,I.base,let ⟨m,hn,hl'⟩:=I.loc;⟨m,hn,fun i x v l C u=>hl' i x v l (w i v C) u⟩,I.cell,I.free,I.freeC,I.pin,I.hok,o.trans I.len⟩
theorem Inv.pins_of{o:qO}(I:Inv X pins σ H s)(h:∀p∈o,s.heap.get? p.1=some p.2/\H p.1=none/\p.1≠X.env.locals/\p.1∉X.fs/\∀v,p.2.data≠.cell v):Inv X o σ H s :=
 ⟨I.ok,I.os,I.bare,I.base,I.loc,I.cell,I.free,I.freeC,fun p u=>(ai.mp u).elim (fun z=>I.pin p (b7 _ z)) (h p),I.hok,I.len⟩
theorem ziP{N:List Str}(u:N.Nodup){i j:Nat}{x:Str}(a:N[i]?=some x)(b:N[j]?=some x):i=j:=by obtain⟨C,l⟩:=ah.mp a;obtain⟨v,o⟩:=ah.mp b;exact(nW u).mp (l.trans o.symm)
theorem zgB{M:oV}{A:aX}{E:qV}{i:Nat}{x:Str}{v:V}{u:ae}{Q:Unit->aj->Prop}(I:Inv X pins σ H s)(hN:X.N.Nodup)(hi:X.N[i]?=some x)(hx:Loc X.env.scope x)(r:RelV v u)
  (h:∀s',Inv X pins (σ.set i (some v)) H s'->(∃a,fQ a s.heap s'.heap/\(a=X.env.locals\/X.env.cells.lookup x=some a))->Q () s') (hf:Fnl X x:=by walk_at "F"):wpAny M A (storeName X.env x u) Q E s:=by
 obtain⟨m,hn,hl⟩:=id I.loc;have R:(X.env.scope.kind == .class||(X.env.scope.kind == .module&&X.env.locals != X.env.globals))=false:=by rw[I.ok.kind];rfl
 have L:i<σ.length:=by rw[I.len];exact(ah.mp hi).1
 have cne:=I.cne;have tracked:∀{a:af} {h':bB},(∃o,s.heap.get? a=some o/\H a=none)->fQ a s.heap h'->HOk X.prog X.w H h':=fun {a h'} ha C b ob e=>by obtain⟨_,_,Ia⟩:=ha;refine(I.hok b ob e).stay (fun c Z hc q=>(C.2 c ?_).trans q) (fun _ q=>q) (fun _ _ q=>q) fun _ _ _ q=>q;rintro rfl;rcases hc with rfl|hc;rw[Ia]at e;cases e;rw[Ia]at hc;cases hc
 rcases hx with hk|hk;refine wpAny_storeName_local hk hn (fun h' hn' C=>?_) R;obtain⟨oL,_,_,hoL,_⟩:=id hn;refine h _ ⟨I.ok,I.os,I.bare,⟨fun b o e n hb hx=>?_,fun b o e n hb hx=>?_,I.base.free,fun b o e hx=>?_,I.base.tups,I.base.frzs,I.base.tbls⟩,⟨_,hn',fun j y v' G J e3=>?_⟩,fun y c e=>?_,I.free,I.freeC,fun p hp=>?_,tracked ⟨oL,hoL,I.free⟩ C,by simpa using I.len⟩ ⟨_,C,.inl rfl⟩;exact(C.2 b (aJ (au (aD e) I.ok.above))).trans (I.base.keep b o e n hb hx);obtain⟨sl,G⟩:=I.base.slot b o e n hb hx;exact⟨sl,(C.2 b (aJ (au (aD e) I.ok.above))).trans G⟩;obtain⟨o',G⟩:=I.base.there b o e hx;exact⟨o',(C.2 b (aJ (au (aD e) I.ok.above))).trans G⟩;by_cases hj:j=i;subst hj;rw[hi]at G;cases G;rw[e8 L]at J;cases J;exact⟨u,r,.inl ⟨hk,by simp⟩⟩;rw[dz (gL hj)]at J;obtain⟨u',r',q⟩:=hl j y v' G J e3;refine⟨u',r',?_⟩;rcases q with⟨k,e⟩|⟨k,c,e,z⟩;refine .inl ⟨k,?_⟩;have:y≠x:=fun e=>hj (ziP hN G (e▸hi));simp[this,e];exact .inr ⟨k,c,e,z.sameBut C (cne y c e)⟩;obtain⟨Z,z⟩:=I.cell y c e;exact⟨Z,z.sameBut C (cne y c e)⟩;obtain⟨e,n,ne,nf,d⟩:=I.pin p hp;exact⟨(C.2 p.1 ne).trans e,n,ne,nf,d⟩;have N:X.fn x=true:=by rcases hf with z|z;exact z;rw[z]at hk;cases hk
 obtain⟨c,hc⟩:=I.ok.has x (.inl hk);obtain⟨Z,z⟩:=I.cell x c hc;refine wpAny_storeName_cell I.ok.kind hk hc z (fun h' Y C=>?_);obtain⟨oc,U,S⟩:=id z;refine h { s with heap:=h' } ⟨I.ok,I.os,I.bare,⟨fun b o e n hb hx=>?_,fun b o e n hb hx=>?_,I.base.free,fun b o e hx=>?_,I.base.tups,I.base.frzs,I.base.tbls⟩,⟨m,hn.sameBut C (gL (cne x c hc)),fun j y v' G J e3=>?_⟩,fun y c' e=>?_,I.free,I.freeC,fun p hp=>?_,tracked ⟨oc,U,I.freeC x c hc⟩ C,by simpa using I.len⟩ ⟨c,C,.inr hc⟩;exact(C.2 b (aJ (au (aD e) (I.ok.cab x c N hc)))).trans (I.base.keep b o e n hb hx);obtain⟨sl,G⟩:=I.base.slot b o e n hb hx;exact⟨sl,(C.2 b (aJ (au (aD e) (I.ok.cab x c N hc)))).trans G⟩;obtain⟨o',G⟩:=I.base.there b o e hx;exact⟨o',(C.2 b (aJ (au (aD e) (I.ok.cab x c N hc)))).trans G⟩;by_cases hj:j=i;subst hj;rw[hi]at G;cases G;rw[e8 L]at J;cases J;exact⟨u,r,.inr ⟨.inl hk,c,hc,Y⟩⟩;rw[dz (gL hj)]at J;obtain⟨u',r',q⟩:=hl j y v' G J e3;refine⟨u',r',?_⟩;rcases q with q|⟨k,c',e,z'⟩;exact .inl q;refine .inr ⟨k,c',e,z'.sameBut C ?_⟩;rintro rfl;exact hj (ziP hN G (I.ok.inj _ _ _ e hc▸hi));by_cases hcc:c'=c;subst hcc;exact⟨_,Y⟩;obtain⟨w2,z2⟩:=I.cell y c' e;exact⟨w2,z2.sameBut C hcc⟩;obtain⟨e,n,ne,nf,d⟩:=I.pin p hp;refine⟨(C.2 p.1 ?_).trans e,n,ne,nf,d⟩;intro q;rw[q,U]at e;have q':oc=p.2:=aI e;exact d Z (by rw[<- q'];exact S)
theorem Z2{M:oV}{A:aX}{E:qV}{i:Nat}{x:Str}{v:V}{u:ae}{Q:Unit->aj->Prop}(I:Inv X pins σ H s)(o:X.N.Nodup)(hi:X.N[i]?=some x)(hx:Loc X.env.scope x)(r:RelV v u)
  (h:∀s',Inv X pins (σ.set i (some v)) H s'->Q () s') (hf:Fnl X x:=by walk_at "F"):wpAny M A (storeName X.env x u) Q E s :=
 zgB I o hi hx r (fun s' l _=>h s' l) hf
theorem Inv.call'{s':aj}{ch:List af}(I:Inv X pins σ H s)(o:s'.os=s.os)(u:Un (frs X.stack) ch H H' s.heap s'.heap)(hok:HOk X.prog X.w H' s'.heap)(C:iA s'.gens)
  (l:∀b∈ch,(b∈X.ex\/X.s₀.heap.objs.size<=b)/\b≠X.env.locals/\(∀x c,X.env.cells.lookup x=some c->c≠b)/\∀p∈X.pn++pins,p.1≠b):Inv X pins σ H' s':=by
 obtain⟨h',g',d',t',v⟩:=s';have e:v=s.os:=o;subst e;exact I.call (g':=g') (t':=t') (d':=d') u hok C l
end
abbrev XK:=ae->Option af->Hp->Prop
abbrev St:=List (Option V)
abbrev VK:=V->Hp->Prop
abbrev TE:=St->Hp->VK->Prop
abbrev TT:=St->Hp->(Bool->Hp->Prop)->Prop
abbrev TA:=St->Hp->(List V->Hp->Prop)->Prop
structure Ends where
 nx:St->Hp->Prop
 rt:VK
 bk:St->Hp->Prop:=fun _ _=>False
 ct:St->Hp->Prop:=fun _ _=>False
abbrev TS:=Ends->St->Hp->Prop
def EP(X:Cx)(pins:qO)(σ:St)(Q:VK)(u:ae)(s':aj):Prop:=∃v H',Inv X pins σ H' s'/\RelV v u/\Q v H'
def TP(X:Cx)(pins:qO)(σ:St)(Q:Bool->Hp->Prop)(b:Bool)(s':aj):Prop:=∃H',Inv X pins σ H' s'/\Q b H'
def AP(X:Cx)(pins:qO)(σ:St)(Q:List V->Hp->Prop)(us:List ae)(s':aj):Prop:=∃vs H',Inv X pins σ H' s'/\Vals vs us/\Q vs H'
def SP(X:Cx)(pins:qO)(D:Ends)(f:Flow)(s':aj):Prop :=
 match f with
 | .next=>∃σ' H',Inv X pins σ' H' s'/\D.nx σ' H'
 | .brk=>∃σ' H',Inv X pins σ' H' s'/\D.bk σ' H'
 | .cont=>∃σ' H',Inv X pins σ' H' s'/\D.ct σ' H'
 | .ret u=>∃v σ' H',Inv X pins σ' H' s'/\RelV v u/\D.rt v H'
def PE(X:Cx)(e:aT)(t:TE):Prop :=
 ∀(pins:qO) (s:aj) (σ:St) (H:Hp) (Q:VK),Inv X pins σ H s->t σ H Q->wpAny (model X.prog X.w) X.A (eval e X.env) (EP X pins σ Q) X.xe s
def PT(X:Cx)(e:aT)(t:TT):Prop :=
 ∀(pins:qO) (s:aj) (σ:St) (H:Hp) (Q:Bool->Hp->Prop),Inv X pins σ H s->t σ H Q->wpAny (model X.prog X.w) X.A (isTrue e X.env (eval e X.env)) (TP X pins σ Q) X.xe s
def PW(X:Cx)(e:aT)(t:TT):Prop :=
 ∀(whole:Sem ae) (pins:qO) (s:aj) (σ:St) (H:Hp) (Q:Bool->Hp->Prop),Inv X pins σ H s->t σ H Q->wpAny (model X.prog X.w) X.A (isTrue e X.env whole) (TP X pins σ Q) X.xe s
theorem PW.pt{X:Cx}{e:aT}{t:TT}(h:PW X e t):PT X e t:=h _
def PA(X:Cx)(es:List aT)(t:TA):Prop :=
 ∀(pos:Pos) (pins:qO) (s:aj) (σ:St) (H:Hp) (Q:List V->Hp->Prop),Inv X pins σ H s->t σ H Q->wpAny (model X.prog X.w) X.A (spliced (backTo pos (starEach es X.env))) (AP X pins σ Q) X.xe s
def PS(X:Cx)(st:dA)(t:TS):Prop :=
 ∀(pins:qO) (s:aj) (σ:St) (H:Hp) (D:Ends),Inv X pins σ H s->t D σ H->wpAny (model X.prog X.w) X.A (exec st X.env) (SP X pins D) X.xe s
def PSs(X:Cx)(st:List dA)(t:TS):Prop :=
 ∀(pins:qO) (s:aj) (σ:St) (H:Hp) (D:Ends),Inv X pins σ H s->t D σ H->wpAny (model X.prog X.w) X.A (execs st X.env) (SP X pins D) X.xe s
theorem thn{α:Type}{t:Sem α}{Q l:α->aj->Prop}{M:oV}{A:aX}{E:qV}{s:aj}(h:wpAny M A t Q E s)(o:∀a s,Q a s->l a s):wpAny M A t l E s:=bN h o fun _ _ x=>x
section
variable{X:Cx}
def tVar(i:Nat):TE:=fun σ H Q=>∃v,σ[i]?=some (some v)/\Q v H
def tC(v:V):TE:=fun _ H Q=>Q v H
theorem Qo{i:Nat}{x:Str}{pos:Pos}(U:X.N[i]?=some x)(L:Vis X.env.scope x)(hd:Ndb x:=by decide)(G:Ncd x:=by decide):PE X (.Name x pos) (tVar i):=by intro pins s σ H Q I h;obtain⟨v,e,h⟩:=h;obtain⟨m,J,S⟩:=I.loc;obtain⟨u,r,l⟩:=S i x v U e L;have fin:EP X pins σ Q u s:=⟨v,H,I,r,h⟩;rcases l with⟨C,R⟩|⟨C,c,hc,o⟩;exact oW (lL I.ok.kind C J R fin) hd;rcases C with C|C;exact oW (mC I.ok.kind C hc o fin) hd;exact oW (wpAny_loadName_free I.ok.kind C hc o fin G) hd
theorem JD{i j pos}:PE X (.Constant (.int i) j pos) (tC (.int i)):=fun _ _ _ H _ I h=>wpAny_Constant_int ⟨.int i,H,I.tok _,⟨_,rfl⟩,h⟩
theorem zuh{b j pos}:PE X (.Constant (.bool b) j pos) (tC (.bl b)):=fun _ _ _ H _ I h=>Constant_bool ⟨.bl b,H,I,rfl,h⟩
theorem zqX{j pos}:PE X (.Constant .none j pos) (tC .non):=fun _ _ _ H _ I h=>Constant_none ⟨.non,H,I,rfl,h⟩
def Gl(X:Cx)(x:Str):Prop:=X.env.kindOf x=some .globalImplicit
theorem zk_{E:qV}{pins:qO}{s:aj}{σ:St}{H:Hp}{x:Str}{u:ae}{pos:Pos}{Q:qV}(I:Inv X pins σ H s)(l:Gl X x)(o:X.mg x=some u)(h:Q u s)
  (hd:Ndb x:=by decide):wpAny (model X.prog X.w) X.A (eval (.Name x pos) X.env) Q E s :=
 iF I.ok.kind l (Calls.loadGlobal_global (by rw[I.ok.glob];exact I.mod.glob.keeps I.bk) o h) hd
theorem Yx{E:qV}{pins:qO}{s:aj}{σ:St}{H:Hp}{x:Str}{u:ae}{pos:Pos}{Q:qV}(I:Inv X pins σ H s)(o:Gl X x)(G:X.mg x=none)(C:bootBuiltins x=some u)(h:Q u s)
  (v:x ≠ "__name__":=by decide) (hd:Ndb x:=by decide):wpAny (model X.prog X.w) X.A (eval (.Name x pos) X.env) Q E s:=by
 obtain⟨L,J,l⟩:=I.mod.blt;exact iF I.ok.kind o (Calls.loadGlobal_builtin (by rw[I.ok.glob];exact I.mod.glob.keeps I.bk) G (by rw[I.ok.blt];exact J.keeps I.bk) ((l x v).trans C) h) hd
theorem zoT{x:Str}{v:V}{u:ae}{pos:Pos}(o:Gl X x)(C:X.mg x=none)(G:bootBuiltins x=some u)(r:RelV v u)(l:x ≠ "__name__":=by decide) (hd:Ndb x:=by decide):PE X (.Name x pos) (tC v) :=
 fun _ _ _ H _ I h=>Yx I o C G ⟨v,H,I,r,h⟩ l hd
variable{a b:aT}{ta tb:TE}{pos:Pos}
variable{tA tB':TT}{rest:List aT}
def tAnd(t u:TT):TT:=fun σ H Q=>t σ H fun c l=>if c=true then u σ l Q else Q false l
def tOr(t u:TT):TT:=fun σ H Q=>t σ H fun c l=>if c=true then Q true l else u σ l Q
def tNot(t:TT):TT:=fun σ H Q=>t σ H fun c l=>Q (!c) l
theorem zoD(ha:PT X a tA):PW X (.BoolOp .And [a] pos) tA:=by
 intro u pins s σ H Q I h;refine isTrue_and (thn (ha pins s σ H Q I h) fun c s1 e=>?_);cases c with
 | true=>exact isTrue_and_nil e
 | false=>exact e
theorem zqK(ha:PT X a tA):PW X (.BoolOp .Or [a] pos) tA:=by
 intro u pins s σ H Q I h;refine isTrue_or (thn (ha pins s σ H Q I h) fun c s1 e=>?_);cases c with
 | false=>exact isTrue_or_nil e
 | true=>exact e
theorem zqL(ha:PT X a tA)(hb:PW X (.BoolOp .And (b::rest) pos) tB'):PW X (.BoolOp .And (a::b::rest) pos) (tAnd tA tB'):=by
 intro G pins s σ H Q I h;refine isTrue_and (thn (ha pins s σ H _ I h) fun c s1 u=>?_);obtain⟨C,v,x⟩:=u;cases c with
 | true=>exact hb G pins s1 σ C Q v x
 | false=>exact⟨C,v,x⟩
theorem zud(ha:PT X a tA)(hb:PW X (.BoolOp .Or (b::rest) pos) tB'):PW X (.BoolOp .Or (a::b::rest) pos) (tOr tA tB'):=by
 intro G pins s σ H Q I h;refine isTrue_or (thn (ha pins s σ H _ I h) fun c s1 u=>?_);obtain⟨C,v,x⟩:=u;cases c with
 | true=>exact⟨C,v,x⟩
 | false=>exact hb G pins s1 σ C Q v x
theorem zqN(ha:PT X a tA):PT X (.UnaryOp .Not a pos) (tNot tA):=by intro pins s σ H Q I h;exact isTrue_not (ha pins s σ H (fun c l=>Q (!c) l) I h)
def ztE(ta tb:TE):TE:=fun σ H Q=>ta σ H fun x o=>∃c,x=.bl c/\if c=true then tb σ o Q else Q (.bl false) o
def tOrV(ta tb:TE):TE:=fun σ H Q=>ta σ H fun x o=>∃c,x=.bl c/\if c=true then Q (.bl true) o else tb σ o Q
def ztB(ta:TE):TE:=fun σ H Q=>ta σ H fun x o=>∃c,x=.bl c/\Q (.bl (!c)) o
theorem zqV{op}{t:TE}(h:PE X a t):PE X (.BoolOp op [a] pos) t:=fun pins s σ H Q I hw=>BoolOp_one (h pins s σ H Q I hw)
theorem zq1(ha:PE X a ta)(hb:PE X (.BoolOp .And (b::rest) pos) tb):PE X (.BoolOp .And (a::b::rest) pos) (ztE ta tb):=by
 intro pins s σ H Q I h;refine BoolOp_and (thn (ha pins s σ H _ I h) fun v s1 C=>?_);obtain⟨x,J,G,L,u⟩:=C;obtain⟨c,rfl,u⟩:=u;cases L;refine bO ?_;cases c with
 | true=>exact hb pins s1 σ J Q G u
 | false=>exact⟨.bl false,J,G,rfl,u⟩
theorem zug(ha:PE X a ta)(hb:PE X (.BoolOp .Or (b::rest) pos) tb):PE X (.BoolOp .Or (a::b::rest) pos) (tOrV ta tb):=by
 intro pins s σ H Q I h;refine BoolOp_or (thn (ha pins s σ H _ I h) fun v s1 C=>?_);obtain⟨x,J,G,L,u⟩:=C;obtain⟨c,rfl,u⟩:=u;cases L;refine bO ?_;cases c with
 | false=>exact hb pins s1 σ J Q G u
 | true=>exact⟨.bl true,J,G,rfl,u⟩
theorem zqW(ha:PE X a ta):PE X (.UnaryOp .Not a pos) (ztB ta):=by intro pins s σ H Q I h;refine UnaryOp_ (thn (ha pins s σ H _ I h) fun v s1 u=>?_);obtain⟨x,L,G,J,C⟩:=u;obtain⟨c,rfl,C⟩:=C;cases J;exact not_of (bO ⟨.bl (!c),L,G,rfl,C⟩)
def tIf(t:TT)(ta tb:TE):TE:=fun σ H Q=>t σ H fun c l=>if c=true then ta σ l Q else tb σ l Q
theorem zmO{c:aT}(hc:PT X c tA)(ha:PE X a ta)(hb:PE X b tb):PE X (.IfExp c a b pos) (tIf tA ta tb):=by
 intro pins s σ H Q I h;refine wpAny_IfExp (thn (hc pins s σ H _ I h) fun d s1 l=>?_);obtain⟨v,o,u⟩:=l;cases d with
 | true=>exact ha pins s1 σ v Q o u
 | false=>exact hb pins s1 σ v Q o u
end
def SqL(K:qF)(H:Hp)(a:af)(xs:List V):Prop :=
 Rd H a (.lst xs) \/
  ∃(o:Obj) (its:Array ae) (n:Nat),K.lookup a=some o/\o.cls=.type "list" /\ o.dict=none/\o.data=.seq its n/\its.size<=sizeLine/\Vals xs its.toList
def SqT(K:qF)(H:Hp)(a:af)(xs:List V):Prop :=
 Rd H a (.tup xs) \/
  ∃(o:Obj) (its:Array ae) (n:Nat),K.lookup a=some o/\o.cls=.type "tuple" /\ o.data=.seq its n/\its.size<=sizeLine/\Vals xs its.toList
def absV:ae->Option V
 | .none=>some .non
 | .bool b=>some (.bl b)
 | .int i _=>some (.int i)
 | .str x _=>some (.str x)
 | .bytes b _=>some (.byt b)
 | .float b _=>some (.flt b)
 | .ref a=>some (.ref a)
 | .type n=>some (.ty n)
 | _=>none
theorem RelV.abs{x:V}{u:ae}(r:RelV x u):absV u=some x:=by
 cases x with
 | non=>cases r;rfl
 | bl _=>cases r;rfl
 | int _=>obtain⟨t,rfl⟩:=r;rfl
 | str _=>obtain⟨t,rfl⟩:=r;rfl
 | byt _=>obtain⟨t,rfl⟩:=r;rfl
 | flt _=>obtain⟨t,rfl⟩:=r;rfl
 | ref _=>cases r;rfl
 | ty _=>cases r;rfl
theorem RelV.inj{x y:V}{u:ae}(r:RelV x u)(q:RelV y u):x=y:=aI (r.abs.symm.trans q.abs)
theorem Vals.inj{xs ys:List V}{us:List ae}(h:Vals xs us)(k:Vals ys us):xs=ys:=by
 induction h generalizing ys with
 | nil=>cases k;rfl
 | cons r t l =>
  cases k with
  | cons o t'=>rw[r.inj o,l t']
section
variable{X:Cx}{pins:qO}{σ:St}{H:Hp}{s:aj}{a:af}{xs ys:List V}
theorem SqL.of{K:qF}(h:H a=some (.lst xs)):SqL K H a xs:=.inl (.inl h)
theorem Inv.list(I:Inv X pins σ H s)(h:SqL X.K H a xs):∃its:List ae,Vals xs its/\PlainL s.heap a its.toArray/\xs.length<=sizeLine:=by rcases h with h|⟨o,its,n,l,hc,hd,u,hz,r⟩;obtain⟨z,its,n,r,e⟩:=h.ok I.hok;exact⟨its,r,⟨_,n,e,rfl,rfl,rfl⟩,z⟩;refine⟨its.toList,r,⟨o,n,I.kIn a o l,hc,hd,by simpa using u⟩,?_⟩;have e:=r.length;simp only[bz]at e;lia
theorem Inv.tuple(I:Inv X pins σ H s)(h:SqT X.K H a xs):∃its:List ae,Vals xs its/\oU s.heap a its.toArray/\xs.length<=sizeLine:=by rcases h with h|⟨o,its,n,l,hc,u,hz,r⟩;obtain⟨z,its,r,p⟩:=h.ok I.hok;exact⟨its,r,p.tup,z⟩;refine⟨its.toList,r,⟨o,I.kIn a o l,hc,n,by simpa using u⟩,?_⟩;have e:=r.length;simp only[bz]at e;lia
theorem Inv.list_inj(I:Inv X pins σ H s)(h:SqL X.K H a xs)(h':SqL X.K H a ys):xs=ys:=by
 obtain⟨its,r,⟨o,n,e,_,_,d⟩,_⟩:=I.list h;obtain⟨its',u,⟨x,v,l,_,_,d'⟩,_⟩:=I.list h';rw[e]at l;cases l;rw[d]at d';injection d' with d1 _
 have:its=its':=by simpa using congrArg tw d1
 subst this;exact r.inj u
theorem Inv.tuple_inj(I:Inv X pins σ H s)(h:SqT X.K H a xs)(h':SqT X.K H a ys):xs=ys:=by
 obtain⟨its,r,⟨o,e,_,n,d⟩,_⟩:=I.tuple h;obtain⟨its',u,⟨x,l,_,v,d'⟩,_⟩:=I.tuple h';rw[e]at l;cases l;rw[d]at d';injection d' with d1 _
 have:its=its':=by simpa using congrArg tw d1
 subst this;exact r.inj u
end
abbrev Cx.wish(X:Cx)(E:qV):Cx:={ X with xe:=E }
abbrev Cx.nox(X:Cx):Cx:=X.wish fun _ _=>False
theorem Cx.Ok.wish{X:Cx}(ok:X.Ok)(E:qV):(X.wish E).Ok :=
 ⟨ok.mod,ok.kind,ok.glob,ok.blt,ok.above,ok.inj,ok.has,ok.cab,ok.hd,ok.frames,ok.stk,ok.exf,ok.bs,ok.bsz,ok.noex,ok.exfs,ok.funs,ok.frf⟩
theorem Cx.Ok.unwish{X:Cx}{E:qV}(ok:(X.wish E).Ok):X.Ok :=
 ⟨ok.mod,ok.kind,ok.glob,ok.blt,ok.above,ok.inj,ok.has,ok.cab,ok.hd,ok.frames,ok.stk,ok.exf,ok.bs,ok.bsz,ok.noex,ok.exfs,ok.funs,ok.frf⟩
section
variable{X:Cx}{pins:qO}{σ:St}{H:Hp}{s:aj}{E:qV}
theorem Inv.wish(I:Inv X pins σ H s)(E:qV):Inv (X.wish E) pins σ H s:=⟨I.ok.wish E,I.os,I.bare,I.base,I.loc,I.cell,I.free,I.freeC,I.pin,I.hok,I.len⟩
theorem Inv.unwish(I:Inv (X.wish E) pins σ H s):Inv X pins σ H s:=⟨I.ok.unwish,I.os,I.bare,I.base,I.loc,I.cell,I.free,I.freeC,I.pin,I.hok,I.len⟩
theorem SP.unwish{D:Ends}{f:Flow}{s':aj}(h:SP (X.wish E) pins D f s'):SP X pins D f s':=by
 cases f with
 | next=>obtain⟨σ',H',I,q⟩:=h;exact⟨σ',H',I.unwish,q⟩
 | brk=>obtain⟨σ',H',I,q⟩:=h;exact⟨σ',H',I.unwish,q⟩
 | cont=>obtain⟨σ',H',I,q⟩:=h;exact⟨σ',H',I.unwish,q⟩
 | ret u=>obtain⟨v,σ',H',I,r,q⟩:=h;exact⟨v,σ',H',I.unwish,r,q⟩
theorem PSs.nox{st:List dA}{t:TS}(h:PSs X.nox st t):PSs X st t:=fun pins s σ H D I hw =>
 bN (h pins s σ H D (I.wish _) hw) (fun _ _ q=>q.unwish) fun _ _ z=>cm z
end
section
variable{X:Cx}{st:dA}{rest:List dA}{t u:TS}{e:aT}{te:TE}{pos:Pos}
def ztC:TS:=fun D σ H=>D.nx σ H
def tSeq(t u:TS):TS:=fun D σ H=>t { D with nx:=u D } σ H
theorem zhM:PSs X [] ztC:=fun _ _ σ H _ I h=>iq ⟨σ,H,I,h⟩
theorem QG(x:PS X st t)(o:PSs X rest u):PSs X (st::rest) (tSeq t u):=by
 intro pins s σ H D I h;refine nX (thn (x pins s σ H { D with nx:=u D } I h) fun f s1 q=>?_);cases f with
 | next =>obtain⟨σ',H',l,q⟩:=q;exact o pins s1 σ' H' D l q
 | ret v=>exact q
 | brk=>exact q
 | cont=>exact q
theorem ZE(l:PS X st t):PSs X [st] t:=by
 intro pins s σ H D I h;refine nX (thn (l pins s σ H D I h) fun f s1 q=>?_);cases f with
 | next=>exact iq q
 | ret v=>exact q
 | brk=>exact q
 | cont=>exact q
theorem Inv.quiet{pins:qO}{σ:St}{H:Hp}{s:aj}(I:Inv X pins σ H s):interactive X.env=false:=by simp[interactive,I.ok.kind]
def ztD(te:TE):TS:=fun D σ H=>te σ H fun _ l=>D.nx σ l
theorem zhN(he:PE X e te)(C:swapsWith e none pos.line X.env=pure false:=by rfl):PS X (.Expr e pos) (ztD te):=by intro pins s σ H D I h;exact wpAny_Expr_any (thn (he pins s σ H _ I h) fun v s1 ⟨x,G,l,J,o⟩=>⟨σ,G,l,o⟩) I.quiet C
def tRet(te:TE):TS:=fun D σ H=>te σ H D.rt
theorem Zz(he:PE X e te):PS X (.Return (some e) pos) (tRet te):=by intro pins s σ H D I h;exact wpAny_Return_some (thn (he pins s σ H _ I h) fun v s1 ⟨x,G,l,C,o⟩=>⟨x,σ,G,l,C,o⟩)
def tIfS(c:TT)(t u:TS):TS:=fun D σ H=>c σ H fun b l=>if b=true then t D σ l else u D σ l
theorem zoH{c:aT}{a b:List dA}{C:TT}(hc:PT X c C)(ha:PSs X a t)(hb:PSs X b u):PS X (.If c a b pos) (tIfS C t u):=by
 intro pins s σ H D I h;refine wpAny_If (thn (hc pins s σ H _ I h) fun d s1 l=>?_);obtain⟨x,o,v⟩:=l;cases d with
 | true=>exact ha pins s1 σ x D o v
 | false=>exact hb pins s1 σ x D o v
end
abbrev TG:=V->St->Hp->(St->Hp->Prop)->Prop
abbrev TGs:=List V->St->Hp->(St->Hp->Prop)->Prop
def PG(X:Cx)(target:aT)(t:TG):Prop :=
 ∀(pins:qO) (s:aj) (σ:St) (H:Hp) (v:V) (u:ae) (Q:St->Hp->Prop),Inv X pins σ H s->RelV v u->t v σ H Q ->
  wpAny (model X.prog X.w) X.A (assign target X.env u) (fun _ s'=>∃σ' H',Inv X pins σ' H' s'/\Q σ' H') X.xe s
def PGs(X:Cx)(ts:List aT)(t:TGs):Prop :=
 ∀(pins:qO) (s:aj) (σ:St) (H:Hp) (vs:List V) (us:List ae) (Q:St->Hp->Prop),Inv X pins σ H s->Vals vs us->t vs σ H Q ->
  wpAny (model X.prog X.w) X.A (assignInOrder ((assignEach ts X.env).map (·.2)) us) (fun _ s'=>∃σ' H',Inv X pins σ' H' s'/\Q σ' H') X.xe s
abbrev TSet:=V->V->V->Hp->(Hp->Prop)->Prop
def PSet(X:Cx)(t:TSet):Prop :=
 ∀(pins:qO) (s:aj) (σ:St) (H:Hp) (o i v:V) (x l u:ae) (Q:Hp->Prop),Inv X pins σ H s->RelV o x->RelV i l->RelV v u->t o i v H Q ->
  wpAny (model X.prog X.w) X.A (setItem x l u) (fun _ s'=>∃H',Inv X pins σ H' s'/\Q H') X.xe s
abbrev TIp:=V->V->Hp->VK->Prop
def PIp(X:Cx)(op:oX)(t:TIp):Prop :=
 ∀(pins:qO) (s:aj) (σ:St) (H:Hp) (x y:V) (v u:ae) (Q:VK),Inv X pins σ H s->RelV x v->RelV y u->t x y H Q ->
  wpAny (model X.prog X.w) X.A (inplaceOp op v u) (EP X pins σ Q) X.xe s
section
variable{X:Cx}{pos:Pos}
def Q7(i:Nat):TG:=fun v σ H Q=>Q (σ.set i (some v)) H
theorem zoN{i:Nat}{x:Str}(o:X.N.Nodup)(hi:X.N[i]?=some x)(hx:Loc X.env.scope x)(hf:Fnl X x:=by walk_at "F"):PG X (.Name x pos) (Q7 i):=by intro pins s σ H v u Q I r h;exact m7 (Z2 I o hi hx r (fun s' l=>⟨_,H,l,h⟩) hf)
def gNil:TGs:=fun vs σ H Q=>vs=[]/\Q σ H
def zuY(t:TG)(u:TGs):TGs:=fun vs σ H Q=>∃v r,vs=v::r/\t v σ H fun σ' H'=>u r σ' H' Q
theorem zoM:PGs X [] gNil:=by intro pins s σ H vs us Q I r h;obtain⟨e,h⟩:=h;subst e;cases r;exact m8 ⟨σ,H,I,h⟩
theorem zmN{e:aT}{es:List aT}{t:TG}{u:TGs}(N:PG X e t)(G:PGs X es u)
  (R:(assignEach (e::es) X.env).map (·.2)=assign e X.env::(assignEach es X.env).map (·.2):=by rfl):PGs X (e::es) (zuY t u):=by
 intro pins s σ H vs us Q I r h;obtain⟨v,U,x,h⟩:=h;subst x;cases r with
 | cons r S =>rw[R];refine iG (thn (N pins s σ H _ _ _ I r h) fun _ s1 l=>?_);obtain⟨o,L,C,J⟩:=l;exact G pins s1 o L _ _ Q C S J
def gTup(K:qF)(n:Nat)(t:TGs):TG:=fun v σ H Q=>∃a xs,v=.ref a/\SqT K H a xs/\xs.length=n/\t xs σ H Q
theorem znU{es:List aT}{k:Nat}{t:TGs}{n:Nat}(hc:X.calm=true)(h:PGs X es t)
  (S:(assignEach es X.env).length=n:=by rfl) (C:(assignEach es X.env).findIdx? (·.1)=none:=by rfl):PG X (.Tuple es k pos) (gTup X.K n t):=by
 intro pins s σ H v u Q I r hw;obtain⟨a,xs,J,N,U,hw⟩:=hw;subst J;cases r;obtain⟨its,G,R,hz⟩:=I.tuple N;refine assign_Tuple_tuple (I.ok.hd hc) R (by simp[S,<- U,G.length]) C fun h' hx=>?_;have L:Inv X pins σ H { s with heap:=h' }:=I.kept (t':=s.toks) fun b o e=>hx b o (aJ (aD e)) e;exact h pins _ σ H xs _ Q L (by simpa using G) hw
def gSub(to u:TE)(t:TSet):TG:=fun v σ H Q=>to σ H fun o C=>u σ C fun i l=>t o i v l fun x=>Q σ x
theorem pg_sub{o i:aT}{to J:TE}{t:TSet}(ho:PE X o to)(hi:PE X i J)(hs:PSet X t)
  (ha:∀v,assign (.Subscript o i pos) X.env v=(do
   let C <- holding [v] (eval o X.env);let G <- holding [v,C] (eval i X.env)
   standAt pos
   holding [v,C,G] (setItem C G v)
   release [v,C,G] []):=by intro _;rfl):PG X (.Subscript o i pos) (gSub to J t):=by
 intro pins s σ H v u Q I r h;rw[ha];refine aa (bW (thn (ho pins s σ H _ I h) fun C s1 l=>?_));obtain⟨x,H1,L,Z,R⟩:=l;refine aa (bW (thn (hi pins s1 σ H1 _ L R) fun G s2 l=>?_));obtain⟨y,H2,N,Y,q2⟩:=l;refine aa (dS (aa (bW (thn (hs pins s2 σ H2 x y v C G u _ N Z Y r q2) fun _ s3 l=>?_))));obtain⟨U,I3,q3⟩:=l;exact wpAny_release ⟨σ,U,I3,q3⟩
def tAsg(o:TE)(g:TG):TS:=fun D σ H=>o σ H fun x l=>g x σ l D.nx
theorem Zy{tg e:aT}{l:TE}{g:TG}(he:PE X e l)(C:PG X tg g)(L:swapsWithSole [tg] e pos.line X.env=pure false:=by rfl)(hw:swappedStores [tg] e X.env=pure none:=by rfl)
  (N:(assignEach [tg] X.env).map (·.2)=[assign tg X.env]:=by rfl):PS X (.Assign [tg] e pos) (tAsg l g):=by
 intro pins s σ H D I h;refine wpAny_Assign_stores (thn (he pins s σ H _ I h) fun v s1 ⟨x,J,o,G,u⟩=>?_) L hw;rw[N];exact thn (C pins s1 σ J x v _ o G u) fun _ s2 q=>q
theorem QC{i:Nat}{x:Str}{e:aT}{o:TE}{l:Pos}(S:X.N.Nodup)(hi:X.N[i]?=some x)(hx:Loc X.env.scope x)(he:PE X e o)(R:swapsWith e (some (.Name x l)) pos.line X.env=pure false:=by rfl)(hf:Fnl X x:=by walk_at "F") :
  PS X (.Assign [.Name x l] e pos) (tAsg o (Q7 i)):=by
 intro pins s σ H D I h;refine wpAny_Assign_Name (thn (he pins s σ H _ I h) fun v s1 ⟨y,L,u,J,G⟩=>?_) R;exact Z2 u S hi hx J (fun s2 C=>⟨_,L,C,G⟩) hf
def tPar(i j:Nat)(l:TA):TS:=fun D σ H=>l σ H fun vs o=>∃v w,vs=[v,w]/\D.nx ((σ.set i (some v)).set j (some w)) o
theorem zkA{i j:Nat}{x y:Str}{a b:aT}{ta:TA}{U py pt:Pos}{kt k2 pt2}(hc:X.calm=true)(hN:X.N.Nodup)(hi:X.N[i]?=some x)(hj:X.N[j]?=some y)(S:i≠j)
  (hx:X.env.scope.names.lookup x=some .local) (Z:X.env.scope.names.lookup y=some .local) (ha:PA X [a,b] ta)
  (hw:swappedStores [.Tuple [.Name x U,.Name y py] kt pt] (.Tuple [a,b] k2 pt2) X.env=pure (some [x,y]))
  (hs:swapsWithSole [.Tuple [.Name x U,.Name y py] kt pt] (.Tuple [a,b] k2 pt2) pos.line X.env=pure false:=by rfl) :
  PS X (.Assign [.Tuple [.Name x U,.Name y py] kt pt] (.Tuple [a,b] k2 pt2) pos) (tPar i j ta):=by
 intro pins s σ H D I h;rw[exec_Assign_arm];refine aa (dS ?_);rw[hs];refine aa (ag ?_);rw[if_neg (by decide)];refine aa (Tuple_ (thn (ha _ pins s σ H _ I h) fun us s1 J=>?_));obtain⟨vs,H1,I1,r1,L⟩:=J;obtain⟨v,w,e1,L⟩:=L;subst e1;obtain⟨G,C,rfl,rv,R⟩:∃G C,us=[G,C]/\RelV v G/\RelV w C:=by
  cases r1 with
  | cons p q =>
   cases q with
   | cons p' q' =>cases q';exact⟨_,_,rfl,p,p'⟩
 refine cN ?_ (by show 2<=sizeLine;decide);have I2:Inv X pins σ H1 { s1 with heap:=s1.heap.push { cls:=.type "tuple",data:=.seq [G,C].toArray } }:=I1.kept (t':=s1.toks) fun b o e=>aq _ e;rw[hw];refine aa (ag ?_);show wpAny (model X.prog X.w) X.A (do rule "assign.swapped-stores";let items <- unpackItems (.ref s1.heap.objs.size) 2 none;assignInOrder [fun v=>bindName X.env y v,fun v=>bindName X.env x v] items.reverse;pure xG) _ _ _;refine aa (dM (aa (unpackItems_tuple (items:=#[G,C]) (I.ok.hd hc) (IsTup.new s1.heap _) fun h' Y=>?_)));have I3:=I2.kept (h':=h') (t':=s1.toks) fun b o e=>Y b o (aJ (aD e)) e;show wpAny _ _ (assignInOrder [fun v=>bindName X.env y v,fun v=>bindName X.env x v] [C,G] >>= fun _=>pure xG) _ _ _;refine aa (iG (oY (Z2 I3 hN hj (.inl Z) R (fun s2 I4=>?_) (.inr Z))));refine iG (oY (Z2 I4 hN hi (.inl hx) rv (fun s3 I5=>m8 (ag ?_)) (.inr hx)));rw[List.set_comm _ _ (gL S)]at I5;exact⟨_,H1,I5,L⟩
def tAug(i:Nat)(v:TE)(o:TIp):TS:=fun D σ H=>∃x,σ[i]?=some (some x)/\v σ H fun y u=>o x y u fun z l=>D.nx (σ.set i (some z)) l
theorem zqP{i:Nat}{x:Str}{e:aT}{Y:TE}{op:oX}{U:TIp}{R:Pos}(hN:X.N.Nodup)(hi:X.N[i]?=some x)(hx:Loc X.env.scope x)(he:PE X e Y)(ho:PIp X op U)(hf:Fnl X x:=by walk_at "F") :
  PS X (.AugAssign (.Name x R) op e pos) (tAug i Y U):=by
 intro pins s σ H D I h;obtain⟨v,Z,h⟩:=h;obtain⟨m,hn,hl⟩:=I.loc;have S:Vis X.env.scope x:=by rcases hx with k|k;exact .inl k;exact .inr (.inl k)
 obtain⟨u,r,l⟩:=hl i x v hi Z S;refine wpAny_AugAssign_Name ?_;have go:wpAny (model X.prog X.w) X.A (eval e X.env) (fun w J=>wpAny (model X.prog X.w) X.A (inplaceOp op u w) (fun r L=>wpAny (model X.prog X.w) X.A (storeName X.env x r) (fun _=>SP X pins D .next) X.xe L) X.xe J) X.xe s:=by refine thn (he pins s σ H _ I h) fun w s1 C=>?_;obtain⟨y,H1,I1,r1,q1⟩:=C;refine thn (ho pins s1 σ H1 v y u w _ I1 r r1 q1) fun z s2 C=>?_;obtain⟨zv,H2,I2,r2,q2⟩:=C;exact Z2 I2 hN hi hx r2 (fun s3 I3=>⟨_,H2,I3,q2⟩) hf
 rcases l with⟨o,hm⟩|⟨o,c,hc,G⟩;exact lL I.ok.kind o hn hm go;rcases o with o|o;exact mC I.ok.kind o hc G go;rcases hx with k|k;have:X.env.scope.names.lookup x=some .free:=o;rw[k]at this;cases this;have:X.env.scope.names.lookup x=some .free:=o;rw[k]at this;cases this
def ipI(f:Int->Int->Int):TIp:=fun x y H Q=>∃i j,x=.int i/\y=.int j/\Q (.int (f i j)) H
theorem zrU:PIp X .Add (ipI fun i j=>i+j):=by intro pins s σ H x y v u Q I C o h;obtain⟨i,j,l,G,q⟩:=h;subst l;subst G;obtain⟨t,rfl⟩:=C;obtain⟨t',rfl⟩:=o;exact iadd_int ⟨.int _,H,I.tok _,⟨_,rfl⟩,q⟩
end
section
variable{X:Cx}{pos:Pos}
def zqn(c:TT)(u:TS):TS:=fun D σ H=>∃W:Nat->St->Hp->Prop,(∃m,W m σ H)/\∀m σ H,W m σ H ->
 c σ H fun b o=>if b=true then ∃N:St->Hp->Prop,(∀σ' H',N σ' H'->∃l,l<m/\W l σ' H')/\u { D with nx:=N,ct:=N,bk:=D.nx } σ o else D.nx σ o
theorem zmL{c:aT}{body:List dA}{tc:TT}{tb:TS}(hp:nY (model X.prog X.w) X.A X.env X.xe)(hc:PT X c tc)(hb:PSs X body tb):PS X (.While c body [] pos) (zqn tc tb):=by
 intro pins s σ H D I h;obtain⟨W,⟨m0,w0⟩,turn⟩:=h;refine wpAny_While (codeAny_whileLoop (fun n s'=>∃σ' H',Inv X pins σ' H' s'/\W n σ' H') ?_ m0 ⟨σ,H,I,w0⟩);rintro n s1 ⟨u,H1,I1,w1⟩;refine eh hp (thn (hc pins s1 u H1 _ I1 (turn n u H1 w1)) fun b s2 J=>?_);obtain⟨H2,Z,C⟩:=J;cases b with
 | true =>
  obtain⟨N,hN,C⟩:=C;rw[if_pos rfl];refine eh hp (thn (hb pins s2 u H2 _ Z C) fun f s3 G=>?_);cases f with
  | next =>obtain⟨o,x,L,R⟩:=G;obtain⟨U,Y,S⟩:=hN o x R;exact⟨U,Y,o,x,L,S⟩
  | cont =>obtain⟨o,x,L,R⟩:=G;obtain⟨U,Y,S⟩:=hN o x R;exact⟨U,Y,o,x,L,S⟩
  | brk=>exact G
  | ret v=>exact G
 | false =>rw[if_neg aS];exact iq ⟨u,H2,Z,C⟩
end
structure It where
 go:Nat->Hp->Prop
 yld:Nat->Hp->V->Hp->Prop
 stop:Nat->Hp->Prop
def FpOk(X:Cx)(pins:qO)(H:Hp)(b:af):Prop :=
 H b=none/\b≠X.env.locals/\b∉X.fs/\(b∈X.ex\/X.s₀.heap.objs.size<=b)/\(∀x c,X.env.cells.lookup x=some c->c≠b)/\∀p∈X.pn++pins,p.1≠b
theorem Inv.fpOk{X:Cx}{pins:qO}{σ:St}{H H':Hp}{s:aj}{b:af}(I:Inv X pins σ H s)(hb:s.heap.objs.size<=b)(l:H' b=none):FpOk X pins H' b:=by refine⟨l,gM (au I.lt hb),I.nofs hb,.inr (aP I.sz hb),fun x c e z=>?_,fun p o z=>?_⟩;obtain⟨v,q⟩:=I.cell x c e;exact absurd (au q.lt (by rw[z];exact hb)) (fC _);exact absurd (au (aD (I.pin p o).1) (by rw[z];exact hb)) (fC _)
structure Turn(P:aK)(w:ba)(K:qF)(tg:aT)(J:It)(fp:List af)(it:af)(tn:Nat->bB->Prop):Prop where
 mem:it∈fp
 obj:∀i h,tn i h->∀b∈fp,∃o,h.get? b=some o/\∀v,o.data≠.cell v
 keep:∀i h h',tn i h->(∀b∈fp,∀o,h.get? b=some o->h'.get? b=some o)->tn i h'
 item:∀(X:Cx),X.prog=P->X.w=w->X.K=K->X.calm=true->∀(i:Nat) (pins:qO) (s:aj) (σ:St) (H:Hp) (E:qV),Inv X pins σ H s->(∀b∈fp,FpOk X pins H b)->tn i s.heap->J.go i H ->
  wpAny (model P w) X.A (pyNext (.ref it)) (fun r s1=>∃u,r=some u /\
   wpAny (model P w) X.A (letOwnedTupleGo tg (.ref it) u) (fun _ s2=>∃x H',Inv X pins σ H' s2/\RelV x u/\J.yld i H x H'/\tn (i+1) s2.heap/\∀b∈fp,H' b=none) E s1) E s
 done:∀(X:Cx),X.prog=P->X.w=w->X.K=K->X.calm=true->∀(i:Nat) (pins:qO) (s:aj) (σ:St) (H:Hp) (E:qV),Inv X pins σ H s->(∀b∈fp,FpOk X pins H b)->tn i s.heap->J.stop i H ->
  wpAny (model P w) X.A (pyNext (.ref it)) (fun r s1=>r=none/\Inv X pins σ H s1) E s
 self:∀(A:aX) (i:Nat) (s:aj) (Q:qV) (E:qV),tn i s.heap->Q (.ref it) s->wpAny (model P w) A (pyIter (.ref it)) Q E s
abbrev TI:=St->Hp->(It->Hp->Prop)->Prop
def PIE(X:Cx)(pins:qO)(σ:St)(tg:aT)(R:It->Hp->Prop)(l:ae)(s2:aj):Prop :=
 ∃(it:af) (o:List af) (u:Nat->bB->Prop) (J:It) (H':Hp),l=.ref it/\Inv X pins σ H' s2/\Turn X.prog X.w X.K tg J o it u/\u 0 s2.heap/\(∀b∈o,FpOk X pins H' b)/\R J H'
def PI(X:Cx)(tg iter:aT)(l:TI):Prop :=
 ∀(pins:qO) (s:aj) (σ:St) (H:Hp) (R:It->Hp->Prop),Inv X pins σ H s->l σ H R ->
  wpAny (model X.prog X.w) X.A (eval iter X.env) (fun v s1=>wpAny (model X.prog X.w) X.A (pyIter v) (PIE X pins σ tg R) X.xe s1) X.xe s
theorem Y1{M:oV}{A:aX}{E:qV}{s:aj}{tg:aT}{it:af}{u:ae}{o:Obj}{n:String}{vs:Array ae}{Q:Unit->aj->Prop}(x:s.heap.get? it=some o)(hc:o.cls=.type n)(hd:o.data=.fields vs)
  (C:["enumerate","zip","dict_itemiterator","dict_reverseitemiterator","odict_iterator","itertools.zip_longest","itertools.pairwise"].contains n=false) (v:Q () s):wpAny M A (letOwnedTupleGo tg (.ref it) u) Q E s:=by
 unfold letOwnedTupleGo;cases tg <;> first
  | exact ag v
  | (cases u <;> first
    | exact ag v
    | (refine aa (oZ x ?_)
       rw[hc,hd];show wpAny M A (if (["enumerate","zip","dict_itemiterator","dict_reverseitemiterator","odict_iterator","itertools.zip_longest","itertools.pairwise"].contains n&&vs[0]? == some (rawInt _))=true then _ else _) Q E s;rw[if_neg (by intro h;rw[C,eQ]at h;cases h)];exact ag v))
def Itl(K:qF)(a:af):It :=
 ⟨fun i H=>∃xs x,SqL K H a xs/\xs[i]?=some x,fun i H x H'=>H'=H/\∀xs,SqL K H a xs->xs[i]?=some x,fun i H=>∃xs,SqL K H a xs/\xs.length<=i⟩
def Itt(K:qF)(a:af):It :=
 ⟨fun i H=>∃xs x,SqT K H a xs/\xs[i]?=some x,fun i H x H'=>H'=H/\∀xs,SqT K H a xs->xs[i]?=some x,fun i H=>∃xs,SqT K H a xs/\xs.length<=i⟩
def Itr(lo:Int)(n:Nat):It:=⟨fun i _=>i<n,fun i H x H'=>H'=H/\x=.int (lo+i),fun i _=>n<=i⟩
theorem zgy{P:aK}{w:ba}{K:qF}{tg:aT}(a it:af):Turn P w K tg (Itl K a) [it] it (fun i h=>h.IsListIter it a i) where
 mem:=by simp
 obj:=fun i h st b hb=>by
  have e:b=it:=by simpa using hb
  subst e;obtain⟨o,e,c,d⟩:=st;exact⟨o,e,fun v z=>by rw[d]at z;cases z⟩
 keep:=fun i h h' st k=>st.at fun o e=>k it (by simp) o e
 item:=by intro X J hw L hc i pins s σ H E I hf st G;subst J hw L;obtain⟨xs,x,C,hx⟩:=G;obtain⟨its,N,p,hz⟩:=I.list C;obtain⟨u,hu,U⟩:=N.get hx;obtain⟨f0,f1,f2,S,f4,R⟩:=hf it (by simp);refine kI st p.isList (x:=u) (by simpa using hu) fun h' l sb=>?_;have Y:Inv X pins σ H { s with heap:=h' }:=I.turned (t':=s.toks) (fun b o hb e=>(sb.2 b hb).trans e) f0 f1 S f4 R;obtain⟨o,e,c,d⟩:=id l;exact⟨u,rfl,Y1 (s:={ s with heap:=h' }) e c d (by decide) ⟨x,H,Y,U,⟨rfl,fun ys Z=>by rw[I.list_inj Z C];exact hx⟩,l,fun b hb=>(hf b hb).1⟩⟩
 done:=by intro X J hw L hc i pins s σ H E I hf st G;subst J hw L;obtain⟨xs,C,hx⟩:=G;obtain⟨its,N,p,hz⟩:=I.list C;obtain⟨f0,f1,f2,S,f4,R⟩:=hf it (by simp);have hl:=N.length;exact k9 (I.ok.hd hc) st p.isList (by simp;lia) fun h' eb=>⟨rfl,I.turned (t':=s.toks) (fun b o hb e=>eb b o hb e) f0 f1 S f4 R⟩
 self:=fun _ _ _ _ _ st h=>wpAny_pyIter_listiter st h
theorem ze4{P:aK}{w:ba}{K:qF}{tg:aT}(a it:af):Turn P w K tg (Itt K a) [it] it (fun i h=>h.IsTupleIter it a i) where
 mem:=by simp
 obj:=fun i h st b hb=>by
  have e:b=it:=by simpa using hb
  subst e;obtain⟨o,e,c,d⟩:=st;exact⟨o,e,fun v z=>by rw[d]at z;cases z⟩
 keep:=fun i h h' st k=>st.at fun o e=>k it (by simp) o e
 item:=by intro X J hw L hc i pins s σ H E I hf st G;subst J hw L;obtain⟨xs,x,C,hx⟩:=G;obtain⟨its,N,p,hz⟩:=I.tuple C;obtain⟨u,hu,U⟩:=N.get hx;obtain⟨f0,f1,f2,S,f4,R⟩:=hf it (by simp);refine wpAny_pyNext_tuple_item st (show s.heap.IsTuple a its.toArray from p) (x:=u) (by simpa using hu) fun h' l sb=>?_;have Y:Inv X pins σ H { s with heap:=h' }:=I.turned (t':=s.toks) (fun b o hb e=>(sb.2 b hb).trans e) f0 f1 S f4 R;obtain⟨o,e,c,d⟩:=id l;exact⟨u,rfl,Y1 (s:={ s with heap:=h' }) e c d (by decide) ⟨x,H,Y,U,⟨rfl,fun ys Z=>by rw[I.tuple_inj Z C];exact hx⟩,l,fun b hb=>(hf b hb).1⟩⟩
 done:=by intro X J hw L hc i pins s σ H E I hf st G;subst J hw L;obtain⟨xs,C,hx⟩:=G;obtain⟨its,N,p,hz⟩:=I.tuple C;obtain⟨f0,f1,f2,S,f4,R⟩:=hf it (by simp);have hl:=N.length;exact wpAny_pyNext_tuple_end (I.ok.hd hc) st (show s.heap.IsTuple a its.toArray from p) (by simp;lia) fun h' eb=>⟨rfl,I.turned (t':=s.toks) (fun b o hb e=>eb b o hb e) f0 f1 S f4 R⟩
 self:=fun _ _ _ _ _ st h=>wpAny_pyIter_tupleiter st h
theorem zjj{P:aK}{w:ba}{K:qF}{tg:aT}(it:af)(lo:Int)(n:Nat):Turn P w K tg (Itr lo n) [it] it (fun i h=>IsRangeIter h it (lo+(i:Nat)*1) ((n:Int) - (i:Nat)) 1) where
 mem:=by simp
 obj:=fun i h st b hb=>by
  have e:b=it:=by simpa using hb
  subst e;exact⟨_,st,fun v z=>by have U:Data.fields _=Data.cell v:=z;cases U⟩
 keep:=fun i h h' st k=>k it (by simp) _ st
 item:=by intro X x hw C hc i pins s σ H E I hf st u;subst x hw C;obtain⟨f0,f1,f2,J,f4,G⟩:=hf it (by simp);have W:=Walks.range (prog:=X.prog) (w:=X.w) (I.ok.hd hc) it lo 1 n;refine W.item i s _ _ u st fun v h' L S l R=>?_;obtain⟨t,rfl⟩:=S;have N:Inv X pins σ H { s with heap:=h',toks:=L }:=I.turned (fun b o hb e=>R b o (by simpa using hb) e) f0 f1 J f4 G;refine⟨_,rfl,Y1 (s:={ s with heap:=h',toks:=L }) (n:="range_iterator") l rfl rfl (by decide) ⟨.int (lo+i),H,N,⟨t,?_⟩,⟨rfl,rfl⟩,l,fun b hb=>(hf b hb).1⟩⟩;rw[iV]
 done:=by intro X x hw C hc i pins s σ H E I hf st u;subst x hw C;obtain⟨f0,f1,f2,J,f4,G⟩:=hf it (by simp);exact wpAny_pyNext_range_end (I.ok.hd hc) st (by have:n<=i:=u;lia) fun h' Y=>⟨rfl,I.turned (t':=s.toks) (fun b o hb e=>Y b o hb e) f0 f1 J f4 G⟩
 self:=fun _ _ _ _ _ st h=>wpAny_pyIter_rangeiter st h
section
variable{X:Cx}{tg:aT}
def zuV(K:qF)(o:TE):TI:=fun σ H R=>o σ H fun x l=>∃a,x=.ref a/\(∃xs,SqL K l a xs)/\R (Itl K a) l
def iTup(K:qF)(o:TE):TI:=fun σ H R=>o σ H fun x l=>∃a,x=.ref a/\(∃xs,SqT K l a xs)/\R (Itt K a) l
theorem zkG{l:aT}{G:TE}(U:PE X l G):PI X tg l (zuV X.K G):=by
 intro pins s σ H R I h;refine thn (U pins s σ H _ I h) fun v s1 C=>?_;obtain⟨x,S,u,N,L⟩:=C;obtain⟨a,e,⟨xs,J⟩,q⟩:=L;subst e;cases N;obtain⟨its,Y,p,hz⟩:=u.list J;refine fG p.isList ?_;refine⟨s1.heap.objs.size,[s1.heap.objs.size],_,_,S,rfl,u.kept (t':=s1.toks) fun b o e=>aq _ e,zgy a _,⟨_,aB _ rfl,rfl,rfl⟩,fun b hb=>?_,q⟩;have e:b=s1.heap.objs.size:=by simpa using hb
 subst e;exact u.fpOk (av _) (u.hok.fresh (av _))
theorem zqR{l:aT}{G:TE}(U:PE X l G):PI X tg l (iTup X.K G):=by
 intro pins s σ H R I h;refine thn (U pins s σ H _ I h) fun v s1 C=>?_;obtain⟨x,S,u,N,L⟩:=C;obtain⟨a,e,⟨xs,J⟩,q⟩:=L;subst e;cases N;obtain⟨its,Y,p,hz⟩:=u.tuple J;refine mN (show s1.heap.IsTuple a its.toArray from p) ?_;refine⟨s1.heap.objs.size,[s1.heap.objs.size],_,_,S,rfl,u.kept (t':=s1.toks) fun b o e=>aq _ e,ze4 a _,⟨_,aB _ rfl,rfl,rfl⟩,fun b hb=>?_,q⟩;have e:b=s1.heap.objs.size:=by simpa using hb
 subst e;exact u.fpOk (av _) (u.hok.fresh (av _))
theorem zmG{pins:qO}{σ:St}{H:Hp}{s:aj}{R:It->Hp->Prop}{E:qV}{lo hi:Int}{t u v:Tok}{C:Nat}(I:Inv X pins σ H s)(Y:-(2 ^ 62)<=lo)(J:lo<2 ^ 62)(U:-(2 ^ 62)<=hi)(L:hi<2 ^ 62)
  (q:R (Itr lo (hi - lo).toNat) H):wpAny (model X.prog X.w) X.A (pyIter (.ref s.heap.objs.size)) (PIE X pins σ tg R) E { s with heap:=s.heap.push { cls:=.type "range",data:=.fields #[.int lo t,.int hi u,.int 1 v] },toks:=C }:=by
 refine wpAny_pyIter_range (IsRange.new ..) (small_one Y J U L) ?_;have x:Inv X pins σ H { s with heap:=s.heap.push { cls:=.type "range",data:=.fields #[.int lo t,.int hi u,.int 1 v] },toks:=C }:=I.kept fun b o e=>aq _ e;refine⟨(s.heap.push { cls:=.type "range",data:=.fields #[.int lo t,.int hi u,.int 1 v] }).objs.size,[(s.heap.push { cls:=.type "range",data:=.fields #[.int lo t,.int hi u,.int 1 v] }).objs.size],_,_,H,rfl,
  x.kept (t':=C) fun b o e=>aq _ e,zjj _ lo (hi - lo).toNat,?_,fun b hb=>?_,q⟩
 have G:lo+((0:Nat):Int)*1=lo:=by simp
 have S:(((hi - lo).toNat:Nat):Int) - ((0:Nat):Int)=sO lo hi 1:=by rw[rangeSize_one];split <;> lia
 show IsRangeIter _ _ (lo+((0:Nat):Int)*1) ((((hi - lo).toNat:Nat):Int) - ((0:Nat):Int)) 1;rw[G,S];exact aB _ rfl;have e:b=(s.heap.push { cls:=.type "range",data:=.fields #[.int lo t,.int hi u,.int 1 v] }).objs.size:=by simpa using hb
 subst e;exact x.fpOk (av _) (x.hok.fresh (av _))
def zuU(l:TA):TI:=fun σ H R=>l σ H fun vs o=>∃j:Int,vs=[.int j]/\-(2 ^ 62)<=j/\j<2 ^ 62/\R (Itr 0 j.toNat) o
theorem zkF{a:aT}{u:TA}{p pos:Pos}(x:Gl X "range") (S:X.mg "range" = none) (ha:PA X [a] u) (L:starEach [a] X.env=[(false,eval a X.env)]:=by rfl):PI X tg (.Call (.Name "range" p) [a] [] pos) (zuU u):=by
 intro pins s σ H R I h;refine Call_ (Yx I x S boot_range (fH (thn (ha pos pins s σ H _ I h) fun us s1 ⟨vs,Y,v,G,o⟩=>?_) L rfl));obtain⟨j,e,o,J,q⟩:=o;subst e;cases G with
 | cons r U =>cases U;obtain⟨t,rfl⟩:=r;exact call_range_1 (zmG v (by lia) (by lia) o J (by simpa using q))
def tFor(C:TI)(g:TG)(G:TS):TS:=fun D σ H=>C σ H fun J v=>∃W:Nat->Nat->St->Hp->Prop,(∃m,W 0 m σ v)/\∀i m σ H,W i m σ H ->
 (J.stop i H/\D.nx σ H)\/(J.go i H/\∃N:St->Hp->Prop,(∀σ' H',N σ' H'->∃o,o<m/\W (i+1) o σ' H')/\∀x H',J.yld i H x H'->g x σ H' fun l u=>G { D with nx:=N,ct:=N,bk:=D.nx } l u)
def Zx(l:List af)(h:bB):List (af×Obj):=l.filterMap fun b=>(h.get? b).map fun o=>(b,o)
theorem zdw{l:List af}{h:bB}{b:af}{o:Obj}(hb:b∈l)(e:h.get? b=some o):(b,o)∈Zx l h:=iH.mpr ⟨b,hb,by rw[e];rfl⟩
theorem zkX{l:List af}{h:bB}{p:af×Obj}(v:p∈Zx l h):p.1∈l/\h.get? p.1=some p.2:=by
 obtain⟨b,hb,e⟩:=iH.mp v;cases q:h.get? b with
 | none=>rw[q]at e;cases e
 | some o =>rw[q]at e;have u:(b,o)=p:=aI e;subst u;exact⟨hb,q⟩
theorem Inv.pinned{pins:qO}{σ:St}{H:Hp}{s:aj}{u:List af}(I:Inv X pins σ H s)(hf:∀b∈u,FpOk X pins H b)(C:∀b∈u,∃o,s.heap.get? b=some o/\∀v,o.data≠.cell v):Inv X (pins++Zx u s.heap) σ H s :=
 I.pins_of fun p G=>(ai.mp G).elim (fun z=>I.pin p (aL _ z)) fun z=>by obtain⟨hb,e⟩:=zkX z;obtain⟨f0,f1,f2,_⟩:=hf p.1 hb;obtain⟨o,x,d⟩:=C p.1 hb;rw[e]at x;cases x;exact⟨e,f0,f1,f2,d⟩
theorem Inv.unpinned{pins pl:qO}{σ:St}{H:Hp}{s:aj}(I:Inv X (pins++pl) σ H s):Inv X pins σ H s:=I.pins_of fun p l=>I.pin p (aL _ (b7 _ l))
theorem zqO{iter:aT}{body:List dA}{wi:TI}{g:TG}{tb:TS}{pos:Pos}(hp:nY (model X.prog X.w) X.A X.env X.xe)(hc:X.calm=true)(hi:PI X tg iter wi)(hg:PG X tg g)(hb:PSs X body tb)
  (hs:Fsi X iter:=by intro _;rfl):PS X (.For tg iter body [] pos) (tFor wi g tb):=by
 intro pins s σ H D I h;refine wpAny_For (thn (hi pins s σ H _ I h) fun v s1 h1=>thn h1 fun itv s2 h2=>?_) hs;obtain⟨it,fp,tn,J,H2,e,I2,T,st2,f2,W,⟨m0,w0⟩,turn⟩:=h2;subst e;have Il:∀{H':Hp},(∀b∈fp,H' b=none)->∀b∈fp,FpOk X pins H' b:=fun hn b hb=>⟨hn b hb,(f2 b hb).2⟩;refine codeAny_forLoop_any (fun n s'=>∃i σ' H',Inv X pins σ' H' s'/\tn i s'.heap/\(∀b∈fp,H' b=none)/\W i n σ' H') ?_ m0 ⟨0,σ,H2,I2,st2,fun b hb=>(f2 b hb).1,w0⟩;rintro n s3 ⟨i,G,H3,I3,Z,Y,w3⟩;rcases turn i n G H3 w3 with⟨stop,qn⟩|⟨go,N,hN,step⟩
 ·refine eh hp (thn (T.done X rfl rfl rfl hc i pins s3 G H3 X.xe I3 (Il Y) Z stop) fun r s4 C=>?_);obtain⟨hr,I4⟩:=C;subst hr;exact iq ⟨G,H3,I4,qn⟩
 ·refine eh hp (thn (T.item X rfl rfl rfl hc i pins s3 G H3 X.xe I3 (Il Y) Z go) fun r s4 C=>?_);obtain⟨u,hr,h4⟩:=C;subst hr;refine eh hp (thn h4 fun _ s5 C=>?_);obtain⟨x,H5,I5,r5,y5,U,fr5⟩:=C;have I5':=I5.pinned (Il fr5) (T.obj _ _ U);refine eh hp (thn (hg _ s5 G H5 x u _ I5' r5 (step x H5 y5)) fun _ s6 C=>?_);obtain⟨σ6,H6,I6,q6⟩:=C;refine eh hp (thn (hb _ s6 σ6 H6 _ I6 q6) fun f s7 S=>?_);have again:∀{l:St} {L:Hp},Inv X (pins++Zx fp s5.heap) l L s7->N l L->∃m,m<n/\∃i σ' H',Inv X pins σ' H' s7/\tn i s7.heap/\(∀b∈fp,H' b=none)/\W i m σ' H':=fun {l L} R n7=>by
   obtain⟨m',hm,w7⟩:=hN l L n7;refine⟨m',hm,i+1,l,L,R.unpinned,T.keep _ _ _ U fun b hb o e=>(R.pin (b,o) (aL _ (aL _ (zdw hb e)))).1,fun b hb=>?_,w7⟩;obtain⟨o,e,d⟩:=T.obj _ _ U b hb;exact(R.pin (b,o) (aL _ (aL _ (zdw hb e)))).2.1
  cases f with
  | next=>obtain⟨l,L,R,n7⟩:=S;exact again R n7
  | cont=>obtain⟨l,L,R,n7⟩:=S;exact again R n7
  | brk=>obtain⟨l,L,R,S⟩:=S;exact⟨l,L,R.unpinned,S⟩
  | ret v=>obtain⟨x7,l,L,R,r7,S⟩:=S;exact⟨x7,l,L,R.unpinned,r7,S⟩
end
abbrev R2:=V->V->Hp->VK->Prop
def OpR(X:Cx)(f:ae->ae->Sem ae)(r:R2):Prop :=
 ∀(pins:qO) (s:aj) (σ:St) (H:Hp) (x y:V) (v u:ae) (Q:VK),Inv X pins σ H s->RelV x v->RelV y u->r x y H Q ->
  wpAny (model X.prog X.w) X.A (f v u) (EP X pins σ Q) X.xe s
def UnR(X:Cx)(f:ae->Sem ae)(r:V->Hp->VK->Prop):Prop :=
 ∀(pins:qO) (s:aj) (σ:St) (H:Hp) (x:V) (v:ae) (Q:VK),Inv X pins σ H s->RelV x v->r x H Q ->
  wpAny (model X.prog X.w) X.A (f v) (EP X pins σ Q) X.xe s
def JR(X:Cx)(f:ae)(r:List V->Hp->VK->Prop):Prop :=
 ∀(pins:qO) (s:aj) (σ:St) (H:Hp) (xs:List V) (us:List ae) (Q:VK),Inv X pins σ H s->Vals xs us->r xs H Q ->
  wpAny (model X.prog X.w) X.A (call f us) (EP X pins σ Q) X.xe s
def TruR(X:Cx)(r:V->Hp->(Bool->Hp->Prop)->Prop):Prop :=
 ∀(pins:qO) (s:aj) (σ:St) (H:Hp) (x:V) (v:ae) (Q:Bool->Hp->Prop),Inv X pins σ H s->RelV x v->r x H Q ->
  wpAny (model X.prog X.w) X.A (truthy v) (TP X pins σ Q) X.xe s
def tOp(r:R2)(o v:TE):TE:=fun σ H Q=>o σ H fun x u=>v σ u fun y l=>r x y l Q
def tUn(r:V->Hp->VK->Prop)(l:TE):TE:=fun σ H Q=>l σ H fun x o=>r x o Q
def rI(C:Int->Int->Prop)(g:Int->Int->V):R2:=fun x y H Q=>∃i j,x=.int i/\y=.int j/\C i j/\Q (g i j) H
def rI0(g:Int->Int->V):R2:=fun x y H Q=>∃i j,x=.int i/\y=.int j/\Q (g i j) H
def rU(g:Int->V):V->Hp->VK->Prop:=fun x H Q=>∃i,x=.int i/\Q (g i) H
section
variable{X:Cx}{a b c:aT}{ta tb tc:TE}{pos:Pos}
theorem binT(ha:PE X a ta)(hb:PE X b tb){pins:qO}{s:aj}{σ:St}{H:Hp}{R:V->V->Hp->Prop}(I:Inv X pins σ H s)
  (h:ta σ H fun x J=>tb σ J fun y o=>R x y o) {Q:qV} {f:ae->ae->Sem ae}
  (hf:∀v u s2 x y o,Inv X pins σ o s2->RelV x v->RelV y u->R x y o->wpAny (model X.prog X.w) X.A (f v u) Q X.xe s2) :
  wpAny (model X.prog X.w) X.A (eval a X.env) (fun v G=>wpAny (model X.prog X.w) X.A (eval b X.env) (fun u C=>wpAny (model X.prog X.w) X.A (f v u) Q X.xe C) X.xe G) X.xe s:=by
 refine thn (ha pins s σ H _ I h) fun v s1 l=>?_;obtain⟨x,J,L,Y,S⟩:=l;refine thn (hb pins s1 σ J _ L S) fun u s2 l=>?_;obtain⟨y,o,N,U,Z⟩:=l;exact hf v u s2 x y o N Y U Z
theorem JE{op:oX}{r:R2}(J:OpR X (binaryOp op) r)(ha:PE X a ta)(hb:PE X b tb):PE X (.BinOp a op b pos) (tOp r ta tb):=by intro pins s σ H Q I h;exact wpAny_BinOp (binT ha hb I h fun v u s2 x y G l C o q=>J pins s2 σ G x y v u Q l C o q)
theorem zue{op:UnaryOp}{r:V->Hp->VK->Prop}(o:UnR X (unaryOp op) r)(ha:PE X a ta):PE X (.UnaryOp op a pos) (tUn r ta):=by intro pins s σ H Q I h;exact UnaryOp_ (thn (ha pins s σ H _ I h) fun v s1 ⟨x,G,l,C,u⟩=>o pins s1 σ G x v Q l C u)
theorem opI{f:ae->ae->Sem ae}{C:Int->Int->Prop}{g:Int->Int->Int}
  (rule:∀(i j:Int) (t u:Tok) (s:aj) (Q:qV) (E:qV),C i j->Q (.int (g i j) s.toks) { s with toks:=s.toks+1 }->wpAny (model X.prog X.w) X.A (f (.int i t) (.int j u)) Q E s) :
  OpR X f (rI C fun i j=>.int (g i j)):=by
 intro pins s σ H x y v u Q I o l h;obtain⟨i,j,rfl,rfl,hc,q⟩:=h;obtain⟨t,rfl⟩:=o;obtain⟨t',rfl⟩:=l;exact rule i j t t' s _ _ hc ⟨.int (g i j),H,I.tok _,⟨_,rfl⟩,q⟩
theorem opI0{f:ae->ae->Sem ae}{g:Int->Int->Int}
  (rule:∀(i j:Int) (t u:Tok) (s:aj) (Q:qV) (E:qV),Q (.int (g i j) s.toks) { s with toks:=s.toks+1 }->wpAny (model X.prog X.w) X.A (f (.int i t) (.int j u)) Q E s) :
  OpR X f (rI0 fun i j=>.int (g i j)):=by
 intro pins s σ H x y v u Q I o l h;obtain⟨i,j,rfl,rfl,q⟩:=h;obtain⟨t,rfl⟩:=o;obtain⟨t',rfl⟩:=l;exact rule i j t t' s _ _ ⟨.int (g i j),H,I.tok _,⟨_,rfl⟩,q⟩
theorem opB0{f:ae->ae->Sem ae}{g:Int->Int->Bool}
  (rule:∀(i j:Int) (t u:Tok) (s:aj) (Q:qV) (E:qV),Q (.bool (g i j)) s->wpAny (model X.prog X.w) X.A (f (.int i t) (.int j u)) Q E s) :
  OpR X f (rI0 fun i j=>.bl (g i j)):=by
 intro pins s σ H x y v u Q I G C h;obtain⟨i,j,rfl,rfl,q⟩:=h;obtain⟨t,rfl⟩:=G;obtain⟨t',rfl⟩:=C;exact rule i j t t' s _ _ ⟨.bl (g i j),H,I,rfl,q⟩
def CPow(i j:Int):Prop:=0<=j/\j<=1000000/\i.natAbs<2 ^ 64
def CMul(i j:Int):Prop:=(-(2 ^ 64)<i/\i<2 ^ 64)\/(-(2 ^ 64)<j/\j<2 ^ 64)
theorem CMul.ok{i j:Int}(h:CMul i j):IntMulOk i j:=by rcases h with⟨v,u⟩|⟨v,u⟩;exact .of_left (intBits_le_64 v u);exact .of_right (intBits_le_64 v u)
theorem zji(k:Nat):(0:Int)<=2 ^ k:=by rw[two_pow_cast];exact iI _
theorem QT:OpR X (binaryOp .Add) (rI0 fun i j=>.int (i+j)):=opI0 fun _ _ _ _ _ _ _ q=>add_int q
theorem zq7:OpR X (binaryOp .Sub) (rI0 fun i j=>.int (i - j)):=opI0 fun _ _ _ _ _ _ _ q=>sub_int q
theorem QU:OpR X (binaryOp .Mult) (rI CMul fun i j=>.int (i*j)):=opI fun _ _ _ _ _ _ _ hc q=>mul_int q hc.ok
theorem UO:OpR X (binaryOp .Mod) (rI (fun _ j=>0<j) fun i j=>.int (i % j)):=opI fun i j _ _ _ _ _ hc q=>by have l:(0:Int)<j:=hc;exact mod_int' (by lia) (by rw[Int.fmod_eq_emod_of_nonneg i (by lia)];exact q)
theorem zq_:OpR X (binaryOp .Pow) (rI CPow fun i j=>.int (i ^ j.toNat)):=opI fun _ _ _ _ _ _ _ hc q=>pow_int_small hc.1 hc.2.1 hc.2.2 q
theorem zq9:OpR X (binaryOp .LShift) (rI CPow fun i j=>.int (i*2 ^ j.toNat)):=opI fun _ _ _ _ _ _ _ hc q=>lshift_int_small hc.1 hc.2.1 hc.2.2 q
theorem zq8:OpR X (binaryOp .RShift) (rI (fun _ j=>0<=j) fun i j=>.int (i / 2 ^ j.toNat)):=opI fun i j _ _ _ _ _ hc q =>
 rshift_int hc (by rw[iJ i (zji _)];exact q)
theorem zrj:OpR X (binaryOp .BitAnd) (rI0 fun i j=>.int (fL i j)):=opI0 fun _ _ _ _ _ _ _ q=>and_int q
theorem zq6:OpR X (binaryOp .BitXor) (rI0 fun i j=>.int (cz i j)):=opI0 fun _ _ _ _ _ _ _ q=>xor_int q
theorem unI{f:ae->Sem ae}{g:Int->Int}
  (rule:∀(i:Int) (t:Tok) (s:aj) (Q:qV) (E:qV),Q (.int (g i) s.toks) { s with toks:=s.toks+1 }->wpAny (model X.prog X.w) X.A (f (.int i t)) Q E s) :
  UnR X f (rU fun i=>.int (g i)):=by
 intro pins s σ H x v Q I l h;obtain⟨i,rfl,q⟩:=h;obtain⟨t,rfl⟩:=l;exact rule i t s _ _ ⟨.int (g i),H,I.tok _,⟨_,rfl⟩,q⟩
theorem zqi:UnR X (unaryOp .USub) (rU fun i=>.int (-i)):=unI fun _ _ _ _ _ q=>neg_int q
end
def scal:V->V->Bool
 | .non,.non=>true|.non,.int _=>true|.int _,.non=>true|.non,.bl _=>true|.bl _,.non=>true|.non,.str _=>true|.str _,.non=>true
 | .int _,.int _=>true|.bl _,.bl _=>true|.str _,.str _=>true|.byt _,.byt _=>true
 | .int _,.str _=>true|.str _,.int _=>true|.bl _,.str _=>true|.str _,.bl _=>true
 | _,_=>false
def rEq:R2:=fun x y H Q=>scal x y=true/\Q (.bl (decide (x=y))) H
def rNe:R2:=fun x y H Q=>scal x y=true/\Q (.bl (!decide (x=y))) H
theorem zlG{i j:Int}:decide (V.int i=V.int j)=(i == j):=by rw[cc];simp
theorem zoc{i j:Bool}:decide (V.bl i=V.bl j)=(i == j):=by rw[cc];simp
theorem zlF{i j:Str}:decide (V.str i=V.str j)=(i == j):=by rw[cc];simp
theorem zlH{i j:Array UInt8}:decide (V.byt i=V.byt j)=(i.toList == j.toList):=by rw[cc];cases i;cases j;simp
section
variable{X:Cx}{a b c:aT}{ta tb tc:TE}{pos:Pos}
theorem Js{pins:qO}{σ:St}{H:Hp}{s:aj}{Q:VK}{k u:Bool}(I:Inv X pins σ H s)(q:Q (.bl k) H)(e:k=u):EP X pins σ Q (.bool u) s:=by subst e;exact⟨.bl k,H,I,rfl,q⟩
theorem zuk:OpR X (compareOp .Eq) rEq:=by
 intro pins s σ H x y v u Q I C l h;obtain⟨o,q⟩:=h;cases x with
 | non =>
  cases C;cases y with
  | non=>cases l;exact pX (Js I q (by simp))
  | bl j=>cases l;exact pY (Js I q (by simp))
  | int j=>obtain⟨t',rfl⟩:=l;exact rG (Js I q (by simp))
  | str j=>obtain⟨t',rfl⟩:=l;exact rH (Js I q (by simp))
  | _=>exact absurd (show false=true from o) aS
 | bl i =>
  cases C;cases y with
  | non=>cases l;exact pZ (Js I q (by simp))
  | bl j=>cases l;exact eq_bool (Js I q zoc)
  | str j=>obtain⟨t',rfl⟩:=l;exact p4 (Js I q (by simp))
  | _=>exact absurd (show false=true from o) aS
 | int i =>
  obtain⟨t,rfl⟩:=C;cases y with
  | non=>cases l;exact rJ (Js I q (by simp))
  | int j=>obtain⟨t',rfl⟩:=l;exact eq_int (Js I q zlG)
  | str j=>obtain⟨t',rfl⟩:=l;exact rK (Js I q (by simp))
  | _=>exact absurd (show false=true from o) aS
 | str i =>
  obtain⟨t,rfl⟩:=C;cases y with
  | non=>cases l;exact rL (Js I q (by simp))
  | bl j=>cases l;exact p5 (Js I q (by simp))
  | int j=>obtain⟨t',rfl⟩:=l;exact rM (Js I q (by simp))
  | str j=>obtain⟨t',rfl⟩:=l;exact eq_str (Js I q zlF)
  | _=>exact absurd (show false=true from o) aS
 | byt i =>
  obtain⟨t,rfl⟩:=C;cases y with
  | byt j=>obtain⟨t',rfl⟩:=l;exact PySem.W.eq_bytes (Js I q zlH)
  | _=>exact absurd (show false=true from o) aS
 | _=>cases y <;> exact absurd (show false=true from o) aS
theorem zui:OpR X (compareOp .NotEq) rNe:=by
 intro pins s σ H x y v u Q I G l h;obtain⟨C,q⟩:=h;cases x with
 | non =>
  cases G;cases y with
  | non=>cases l;exact p6 (Js I q (by simp))
  | bl j=>cases l;exact p7 (Js I q (by simp))
  | int j=>obtain⟨t',rfl⟩:=l;exact rN (Js I q (by simp))
  | str j=>obtain⟨t',rfl⟩:=l;exact rO (Js I q (by simp))
  | _=>exact absurd (show false=true from C) aS
 | bl i =>
  cases G;cases y with
  | non=>cases l;exact p8 (Js I q (by simp))
  | bl j=>cases l;exact ne_bool (Js I q (congrArg not zoc))
  | str j=>obtain⟨t',rfl⟩:=l;exact p9 (Js I q (by simp))
  | _=>exact absurd (show false=true from C) aS
 | int i =>
  obtain⟨t,rfl⟩:=G;cases y with
  | non=>cases l;exact rP (Js I q (by simp))
  | int j=>obtain⟨t',rfl⟩:=l;exact ne_int (Js I q (congrArg not zlG))
  | str j=>obtain⟨t',rfl⟩:=l;exact rQ (Js I q (by simp))
  | _=>exact absurd (show false=true from C) aS
 | str i =>
  obtain⟨t,rfl⟩:=G;cases y with
  | non=>cases l;exact rR (Js I q (by simp))
  | bl j=>cases l;exact rf (Js I q (by simp))
  | int j=>obtain⟨t',rfl⟩:=l;exact rS (Js I q (by simp))
  | str j=>obtain⟨t',rfl⟩:=l;exact ne_str (Js I q (congrArg not zlF))
  | _=>exact absurd (show false=true from C) aS
 | byt i =>
  obtain⟨t,rfl⟩:=G;cases y with
  | byt j=>obtain⟨t',rfl⟩:=l;exact PySem.W.ne_bytes (Js I q (congrArg not zlH))
  | _=>exact absurd (show false=true from C) aS
 | _=>cases y <;> exact absurd (show false=true from C) aS
theorem zrc:OpR X (compareOp .Lt) (rI0 fun i j=>.bl (decide (i<j))):=opB0 fun _ _ _ _ _ _ _ q=>lt_int q
theorem zuj:OpR X (compareOp .LtE) (rI0 fun i j=>.bl (decide (i<=j))):=opB0 fun _ _ _ _ _ _ _ q=>le_int q
theorem Zd:OpR X (compareOp .Gt) (rI0 fun i j=>.bl (decide (j<i))):=opB0 fun _ _ _ _ _ _ _ q=>gt_int q
theorem zo2:OpR X (compareOp .GtE) (rI0 fun i j=>.bl (decide (j<=i))):=opB0 fun _ _ _ _ _ _ _ q=>ge_int q
theorem zkN:OpR X (compareOp .Lt) (fun x y H Q=>∃i j,x=.str i/\y=.str j/\Q (.bl (decide (i.cps.toList<j.cps.toList))) H):=by intro pins s σ H x y v u Q I C o h;obtain⟨i,j,rfl,rfl,q⟩:=h;obtain⟨t,rfl⟩:=C;obtain⟨t',rfl⟩:=o;exact lt_str (Js I q rfl)
theorem zre:OpR X (compareOp .Is) (fun x y H Q=>y=.non/\Q (.bl (decide (x=.non))) H):=by
 intro pins s σ H x y v u Q I C G h;obtain⟨rfl,q⟩:=h;cases G;refine is_none_gen (Js I q ?_);cases x <;> first
  | (cases C;rfl)
  | (obtain⟨t,rfl⟩:=C;rfl)
theorem zo1:OpR X (compareOp .IsNot) (fun x y H Q=>y=.non/\Q (.bl (!decide (x=.non))) H):=by
 intro pins s σ H x y v u Q I C G h;obtain⟨rfl,q⟩:=h;cases G;refine isnot_none_gen (Js I q ?_);cases x <;> first
  | (cases C;rfl)
  | (obtain⟨t,rfl⟩:=C;rfl)
theorem OpR.or{f:ae->ae->Sem ae}{r C:R2}(h:OpR X f r)(h':OpR X f C):OpR X f (fun x y H Q=>r x y H Q\/C x y H Q):=by intro pins s σ H x y v u Q I o l q;rcases q with q|q;exact h pins s σ H x y v u Q I o l q;exact h' pins s σ H x y v u Q I o l q
theorem Jl(b:aT){op:sP}(h:op≠.In:=by decide)(u:op≠.NotIn:=by decide):behindInMarks op b=false:=by
 have l:(op == CmpOp.In)=false:=by cases op <;> first|rfl|exact absurd rfl h
 have v:(op == CmpOp.NotIn)=false:=by cases op <;> first|rfl|exact absurd rfl u
 cases b <;> simp[behindInMarks,l,v]
theorem zkJ{op:sP}{r:R2}(N:OpR X (compareOp op) r)(ha:PE X a ta)(hb:PE X b tb)(R:behindInMarks op b=false):PE X (.Compare a [op] [b] pos) (tOp r ta tb):=by intro pins s σ H Q I h;exact wpAny_Compare1 (binT ha hb I h fun v u s2 x y L l J G q=>N pins s2 σ L x y v u Q l J G q) R
def zqo(t:TE):TT:=fun σ H Q=>t σ H fun x H'=>∃k,x=.bl k/\Q k H'
theorem zhL{op:sP}{r:R2}(ho:OpR X (compareOp op) r)(ha:PE X a ta)(hb:PE X b tb)(hm:behindInMarks op b=false):PT X (.Compare a [op] [b] pos) (zqo (tOp r ta tb)):=by
 intro pins s σ H Q I h;refine wpAny_isTrue_Compare1 (thn (ha pins s σ H _ I h) fun v s1 ⟨x,Y,l,S,L⟩=>thn (hb pins s1 σ Y _ l L) fun u s2 ⟨y,H2,J,R,Z⟩ =>
  thn (ho pins s2 σ H2 x y v u _ J S R Z) fun c s3 ⟨z,N,U,G,k,e,q3⟩=>?_) hm
 subst e;cases G;exact bO ⟨N,U,q3⟩
def znL(r I:R2)(ta tb tc:TE):TE:=fun σ H Q=>ta σ H fun x C=>tb σ C fun y u=>r x y u fun z o=>∃k,z=.bl k /\
 (if k=true then tc σ o fun G v=>I y G v Q else Q (.bl false) o)
theorem zmP{op G:sP}{r U:R2}(ho:OpR X (compareOp op) r)(J:OpR X (compareOp G) U)(ha:PE X a ta)(hb:PE X b tb)(hc:PE X c tc)
  (hm:lastMarks [op,G] [b,c]=false:=by with_unfolding_all rfl):PE X (.Compare a [op,G] [b,c] pos) (znL r U ta tb tc):=by
 intro pins s σ H Q I h;refine Compare_chain (thn (ha pins s σ H _ I h) fun v s1 ⟨x,H1,Z,r1,q1⟩=>chain_link (thn (hb pins s1 σ H1 _ Z q1) fun u s2 ⟨y,H2,I2,N,q2⟩ =>
  thn (ho pins s2 σ H2 x y v u _ I2 r1 N q2) fun d s3 ⟨z,L,R,r3,k,e,S⟩=>?_)) hm
 subst e;cases r3;refine bO ?_;cases k with
 | false=>exact ite_ff ⟨.bl false,L,R,rfl,S⟩
 | true=>exact ite_tt (chain_last (thn (hc pins s3 σ L _ R S) fun w' s4 ⟨z',H4,I4,Y,q4⟩=>J pins s4 σ H4 y z' u w' Q I4 N Y q4))
theorem zmK{op l:sP}{r U:R2}(ho:OpR X (compareOp op) r)(J:OpR X (compareOp l) U)(ha:PE X a ta)(hb:PE X b tb)(hc:PE X c tc)
  (hm:lastMarks [op,l] [b,c]=false:=by with_unfolding_all rfl):PT X (.Compare a [op,l] [b,c] pos) (zqo (znL r U ta tb tc)):=by
 intro pins s σ H Q I h;refine isTrue_chain (thn (ha pins s σ H _ I h) fun v s1 ⟨x,H1,Z,r1,q1⟩=>test_link (thn (hb pins s1 σ H1 _ Z q1) fun u s2 ⟨y,H2,I2,N,q2⟩ =>
  thn (ho pins s2 σ H2 x y v u _ I2 r1 N q2) fun d s3 ⟨z,L,R,r3,k,e,S⟩=>?_)) hm
 subst e;cases r3;refine bO ?_;cases k with
 | false =>obtain⟨k',e',q'⟩:=S;cases e';exact ite_ff ⟨L,R,q'⟩
 | true =>refine ite_tt (test_last (thn (hc pins s3 σ L _ R S) fun w' s4 ⟨z',H4,I4,Y,q4⟩=>thn (J pins s4 σ H4 y z' u w' _ I4 N Y q4) fun d' s5 G=>?_));obtain⟨z2,H5,I5,r5,k2,e2,q5⟩:=G;subst e2;cases r5;exact bO ⟨H5,I5,q5⟩
def TruV(K:qF)(x:V)(H:Hp)(k:Bool):Prop :=
 match x with
 | .non=>k=false
 | .bl b=>k=b
 | .int i=>k=(i != 0)
 | .str y=>y.length<=sizeLine/\k=((y.length:Int) != 0)
 | .byt y=>y.size<=sizeLine/\k=((y.size:Int) != 0)
 | .ref p=>(∃xs,SqL K H p xs/\k=!xs.isEmpty)\/(∃xs,SqT K H p xs/\k=!xs.isEmpty)\/∃u,H p=some (.dK u)/\k=!u.isEmpty
 | _=>False
theorem zjS{o:Type}{l:List (o×V)}{vs:List (o×ae)}(r:KV l vs):(!vs.isEmpty)=!l.isEmpty:=by cases r <;> rfl
theorem zfq{xs:List V}{its:List ae}(r:Vals xs its):(!its.toArray.isEmpty)=!xs.isEmpty:=by cases r <;> simp
theorem UN:(sizeLine:Nat)<2 ^ 63:=by rw[dU];decide
theorem zqk:TruR X (fun x H Q=>∃k,TruV X.K x H k/\Q k H):=by
 intro pins s σ H x v Q I G h;obtain⟨k,e,q⟩:=h;have R:=UN;have N:sizeLine=16777216:=dU;cases x with
 | non =>cases G;have o:k=false:=e;subst o;exact truthy_none ⟨H,I,q⟩
 | bl b =>cases G;have o:k=b:=e;subst o;exact bO ⟨H,I,q⟩
 | int i =>obtain⟨t,rfl⟩:=G;have o:k=(i != 0):=e;subst o;exact PySem.P.truthy_int ⟨H,I,q⟩
 | str y =>obtain⟨t,rfl⟩:=G;obtain⟨J,o⟩:y.length<=sizeLine/\k=((y.length:Int) != 0):=e;subst o;exact PySem.P.truthy_str (by lia) ⟨H,I.tok _,q⟩
 | byt y =>obtain⟨t,rfl⟩:=G;obtain⟨J,o⟩:y.size<=sizeLine/\k=((y.size:Int) != 0):=e;subst o;exact PySem.W.truthy_bytes (by lia) ⟨H,I.tok _,q⟩
 | ref p =>cases G;have o:(∃xs,SqL X.K H p xs/\k=!xs.isEmpty)\/(∃xs,SqT X.K H p xs/\k=!xs.isEmpty)\/∃u,H p=some (.dK u)/\k=!u.isEmpty:=e;rcases o with⟨xs,hx,o⟩|⟨xs,hx,o⟩|⟨u,hx,o⟩;subst o;obtain⟨its,r,pl,hz⟩:=I.list hx;have C:=r.length;exact wpAny_truthy_list pl.isList (by simp only[aw];lia) ⟨H,I.tok _,by rw[zfq r];exact q⟩;subst o;obtain⟨its,r,pl,hz⟩:=I.tuple hx;have C:=r.length;exact truthy_tuple pl (by simp only[aw];lia) ⟨H,I.tok _,by rw[zfq r];exact q⟩;subst o;obtain⟨hz,L,vs,r,m⟩:u.length<=sizeLine/\(p == sysModules)=false/\∃vs,KV u vs/\s.heap.DictOf (JA X.prog X.w) p vs:=I.hok p _ hx;have C:u.length=vs.length:=cK r;exact wpAny_truthy_dict L m (by lia) ⟨H,I.tok _,by rw[zjS r];exact q⟩
 | _=>exact(show False from e).elim
theorem zmJ(ha:PE X a ta)(he:∀whole,isTrue a X.env whole=(do let v <- whole;standAt a.pos;holding [v] (truthy v))) :
  PT X a (fun σ H Q=>ta σ H fun x H'=>∃k,TruV X.K x H' k/\Q k H'):=by
 intro pins s σ H Q I h;exact isTrue_plain (thn (ha pins s σ H _ I h) fun v s1 ⟨x,C,l,u,o⟩=>zqk pins s1 σ C x v Q l u o) (he _)
theorem zjq:OpR X (binaryOp .Add) (fun x y H Q=>∃i j,x=.str i/\y=.str j/\i.length+j.length<=sizeLine/\Q (.str (i++j)) H):=by intro pins s σ H x y v u Q I o l h;obtain⟨i,j,rfl,rfl,hz,q⟩:=h;obtain⟨t,rfl⟩:=o;obtain⟨t',rfl⟩:=l;exact add_str (fun t' C=>⟨.str (i++j),H,I.tok _,⟨_,rfl⟩,q⟩) hz
theorem vals1{x:V}{us:List ae}(r:Vals [x] us):∃u,us=[u]/\RelV x u:=by
 cases r with
 | cons o l=>cases l;exact⟨_,rfl,o⟩
theorem vals2{x y:V}{us:List ae}(r:Vals [x,y] us):∃u l,us=[u,l]/\RelV x u/\RelV y l:=by
 cases r with
 | cons G C =>
  cases C with
  | cons v o=>cases o;exact⟨_,_,rfl,G,v⟩
theorem YX(hc:X.calm=true):JR X (.builtin "max") (fun xs H Q=>∃i j,xs=[.int i,.int j]/\Q (.int (if j > i then j else i)) H):=by intro pins s σ H xs us Q I r h;obtain⟨i,j,rfl,q⟩:=h;obtain⟨u,v,rfl,⟨t,rfl⟩,⟨t',rfl⟩⟩:=vals2 r;refine max_two_ints (I.ok.hd hc) fun h' o k=>⟨_,H,I.kept k,?_,q⟩;by_cases hj:j > i;rw[if_pos hj,if_pos hj];exact⟨_,rfl⟩;rw[if_neg hj,if_neg hj];exact⟨_,rfl⟩
theorem Uu(hc:X.calm=true):JR X (.builtin "min") (fun xs H Q=>∃i j,xs=[.int i,.int j]/\Q (.int (if j<i then j else i)) H):=by intro pins s σ H xs us Q I r h;obtain⟨i,j,rfl,q⟩:=h;obtain⟨u,v,rfl,⟨t,rfl⟩,⟨t',rfl⟩⟩:=vals2 r;refine min_two_ints (I.ok.hd hc) fun h' o k=>⟨_,H,I.kept k,?_,q⟩;by_cases hj:j<i;rw[if_pos hj,if_pos hj];exact⟨_,rfl⟩;rw[if_neg hj,if_neg hj];exact⟨_,rfl⟩
theorem zeI:JR X (.type "int") (fun xs H Q=>(∃i,xs=[.int i]/\Q (.int i) H)\/∃k,xs=[.bl k]/\Q (.int (if k then 1 else 0)) H):=by intro pins s σ H xs us Q I r h;rcases h with⟨i,rfl,q⟩|⟨k,rfl,q⟩;obtain⟨u,rfl,t,rfl⟩:=vals1 r;exact call_int_int ⟨.int i,H,I,⟨_,rfl⟩,q⟩;obtain⟨u,rfl,o⟩:=vals1 r;cases o;exact call_int_bool ⟨.int (if k then 1 else 0),H,I.tok _,⟨_,rfl⟩,q⟩
def LenV(K:qF)(x:V)(H:Hp)(n:Nat):Prop :=
 match x with
 | .str y=>y.length<=sizeLine/\n=y.length
 | .byt y=>y.size<=sizeLine/\n=y.size
 | .ref p=>(∃xs,SqL K H p xs/\n=xs.length)\/∃xs,SqT K H p xs/\n=xs.length
 | _=>False
theorem QO:JR X (.builtin "len") (fun xs H Q=>∃x n,xs=[x]/\LenV X.K x H n/\Q (.int n) H):=by
 intro pins s σ H xs us Q I r h;obtain⟨x,n,rfl,e,q⟩:=h;obtain⟨u,rfl,C⟩:=vals1 r;have N:=UN;have L:sizeLine=16777216:=dU;cases x with
 | str y =>obtain⟨t,rfl⟩:=C;obtain⟨J,v⟩:y.length<=sizeLine/\n=y.length:=e;subst v;exact len_str (by lia) ⟨.int _,H,I.tok _,⟨_,rfl⟩,q⟩
 | byt y =>obtain⟨t,rfl⟩:=C;obtain⟨J,v⟩:y.size<=sizeLine/\n=y.size:=e;subst v;exact PySem.W.len_bytes (by lia) ⟨.int _,H,I.tok _,⟨_,rfl⟩,q⟩
 | ref p =>cases C;have v:(∃xs,SqL X.K H p xs/\n=xs.length)\/∃xs,SqT X.K H p xs/\n=xs.length:=e;rcases v with⟨xs,hx,v⟩|⟨xs,hx,v⟩;subst v;obtain⟨its,G,pl,hz⟩:=I.list hx;have o:=G.length;exact mD pl.isList (by simp only[aw];lia) ⟨.int xs.length,H,I.tok _,⟨_,by simp only[aw];rw[o]⟩,q⟩;subst v;obtain⟨its,G,pl,hz⟩:=I.tuple hx;have o:=G.length;exact len_tuple pl (by simp only[aw];lia) ⟨.int xs.length,H,I.tok _,⟨_,by simp only[aw];rw[o]⟩,q⟩
 | _=>exact(show False from e).elim
end
structure ObjM(h:bB)(x dx C:af)(mA:qM):Prop where
 obj:h.get? x=some (kZ C dx)
 ns:h.Ns1 dx mA
 ne:dx≠x
theorem zk7{h:bB}{x:af}{v:qM}(n:h.Ns1 x v):∃u,h.get? x=some u/\∀name,lN name u=some (v name):=by
 obtain⟨o,es,ep,I,hd,G,_,J⟩:=n;refine⟨o,I,fun name=>?_⟩;have e:=J name;unfold nsFind findBy at e;rw[<- Array.find?_toList]at e;unfold lN;rw[hd];dsimp only;split;rename_i y q;rw[q]at e;exact congrArg some e;rename_i q;rw[q]at e;have a:es.toList.any (·.refKey)=false:=by rw[gN];intro y C;obtain⟨z,t,l⟩:=G y (Array.mem_toList_iff.mp C);simp[DictEntry.refKey,l]
 have L:¬es.toList.any (·.refKey)=true:=by rw[a];exact aS
 rw[if_neg L];exact congrArg some e
theorem ObjM.look{h:bB}{x u C:af}{o:qM}(I:ObjM h x u C o):∃l,PySem.W.InstAt h x (kZ C u) C (some l)/\∀name,lN name l=some (o name) :=
 let ⟨l,ho,hl⟩:=zk7 I.ns
 ⟨l,⟨I.obj,rfl,rfl,ho⟩,hl⟩
section
variable{P:aK}{w:ba}{H H':Hp}{h h':bB}{a C dx:af}{fs fs':List (Str×V)}
theorem zpr(hok:HOk P w H h)(e:H a=some (.ins C dx fs)):∃l,ObjM h a dx C l/\(∀f,RelO (fs.lookup f) (l f))/\tu l (fs.map (·.1))/\fs.length<=1000/\H dx=some (.own a):=by obtain⟨d,z,ne,u,l,n,r,q⟩:=(show JG P w H h a (.ins C dx fs) from hok a _ e);exact⟨l,⟨u,n,ne⟩,r,q,z,d⟩
end
structure Cls(K:qF)(C:af):Prop where
 pg:nZ K C mn=true
 hd:PySem.W.hasDictIn K C=true
 po:PySem.W.plainOver K C=true
 sa:o5 K (.ref C) "__setattr__" = some (some (.builtin "object.__setattr__"))
theorem Cls.get{K:qF}{C:af}(c:Cls K C)(f:Str):nZ K C f=true:=c.pg
section
variable{X:Cx}{pins:qO}{σ:St}{H:Hp}{s:aj}{A:aX}{E:qV}{Q:qV}{c:ae}{b:Bool}
inductive TyOf (K:qF)(H:Hp):V->ae->Prop where
 | non:TyOf K H .non (.type "NoneType")
 | bl (x:Bool):TyOf K H (.bl x) (.type "bool")
 | int (i:Int):TyOf K H (.int i) (.type "int")
 | str (x:Str):TyOf K H (.str x) (.type "str")
 | flt (x:UInt64):TyOf K H (.flt x) (.type "float")
 | lst {a:af} {xs:List V} (e:H a=some (.lst xs)):TyOf K H (.ref a) (.type "list")
 | frz {a:af} {o:Obj} {xs:List V} (e:H a=some (.frz o (.lst xs))):TyOf K H (.ref a) (.type "list")
 | tup {a:af} {xs:List V} (e:H a=some (.tup xs)):TyOf K H (.ref a) (.type "tuple")
 | dK {a:af} {kvs:List (Key×V)} (e:H a=some (.dK kvs)):TyOf K H (.ref a) (.type "dict")
 | dT {a:af} {kvs:List (List Key×V)} (e:H a=some (.dT kvs)):TyOf K H (.ref a) (.type "dict")
 | ins {a C dx:af} {fs:List (Str×V)} (e:H a=some (.ins C dx fs)) (cl:Cls K C) (ha:o5 K (.ref C) "__class__" = some (some (.builtin "object.__class__")))
   (hn:PySem.W.specialIn K (.builtin "object.__class__") "__get__" = some (some (.builtin "getset_descriptor.__get__"))) (htk:PySem.W.takesIn K (.builtin "object.__class__")=some true)
   (hm:PySem.W.mroIn K C (.type "object")=some true):TyOf K H (.ref a) (.ref C)
theorem zln{x:V}{u t:ae}(I:Inv X pins σ H s)(v:RelV x u)(ty:TyOf X.K H x t)(e:o6 X.K t c=some b)(h:∀N,Q (.bool b) { s with toks:=N }) :
  wpAny (model X.prog X.w) A (call (.builtin "isinstance") [u,c]) Q E s:=by
 cases ty with
 | non=>cases(show u=fK from v);exact bD PySem.W.kitx_none I.kIn hE e (fun z=>nomatch z) h
 | bl y=>cases(show u=kH y from v);exact bD PySem.W.kitx_bool I.kIn hE e (fun z=>nomatch z) h
 | int i=>obtain⟨t,q⟩:=(show ∃t,u=i9 i t from v);cases q;exact bD PySem.W.kitx_int I.kIn hE e (fun z=>nomatch z) h
 | str y=>obtain⟨t,q⟩:=(show ∃t,u=nV y t from v);cases q;exact bD PySem.W.kitx_str I.kIn hE e (fun z=>nomatch z) h
 | flt y=>obtain⟨t,q⟩:=(show ∃t,u=uB y t from v);cases q;exact bD PySem.W.kitx_float I.kIn hE e (fun z=>nomatch z) h
 | @lst a xs ea =>cases(show u=a9 a from v);obtain⟨_,_,n,_,G⟩:=(show JG X.prog X.w H s.heap a (.lst xs) from I.hok a _ ea);exact bD m9 I.kIn ⟨_,G,rfl⟩ e (fun z=>nomatch z) h
 | @frz a ob xs ea =>cases(show u=a9 a from v);obtain⟨_,_,_,n,_,G⟩:=(show JG X.prog X.w H s.heap a (.frz ob (.lst xs)) from I.hok a _ ea);exact bD m9 I.kIn ⟨_,G,rfl⟩ e (fun z=>nomatch z) h
 | @tup a xs ea =>cases(show u=a9 a from v);obtain⟨_,_,_,p⟩:=(show JG X.prog X.w H s.heap a (.tup xs) from I.hok a _ ea);obtain⟨o,G,L,_⟩:=p;exact bD mO I.kIn ⟨o,G,L⟩ e (fun z=>nomatch z) h
 | @dK a kvs ea =>cases(show u=a9 a from v);obtain⟨_,_,vs,_,p⟩:=(show JG X.prog X.w H s.heap a (.dK kvs) from I.hok a _ ea);obtain⟨o,es,ep,G,L,_⟩:=p;exact bD eD I.kIn ⟨o,G,L.1⟩ e (fun z=>nomatch z) h
 | @dT a kvs ea =>cases(show u=a9 a from v);obtain⟨_,_,xs,_,o,es,ep,G,L,_⟩:=(show JG X.prog X.w H s.heap a (.dT kvs) from I.hok a _ ea);exact bD eD I.kIn ⟨o,G,L.1⟩ e (fun z=>nomatch z) h
 | @ins a C dx fs ea cl ha hn htk hm =>cases(show u=a9 a from v);obtain⟨S,O,_⟩:=zpr I.hok ea;obtain⟨R,J,_⟩:=O.look;exact bD (PySem.W.kitx_own (cl.get _) cl.hd ha hn htk hm) I.kIn J e (fun z=>nomatch z) h
end
structure Room(k:Nat)(A:aX):Prop where
 hd:A.handled=none
 dp:A.depth+3*k+5<recursionLimit
 un:A.units+16*k+200<cLine
 gd:A.guards=some []
theorem Room.mono{j k:Nat}{A:aX}(r:Room k A)(h:j<=k):Room j A:=⟨r.hd,by have:=r.dp;lia,by have:=r.un;lia,r.gd⟩
theorem Room.deeper{k:Nat}{A:aX}(r:Room (k+1) A)(env:Env):Room k (A.deeper env) :=
 ⟨r.hd,by have:=r.dp;show A.depth+1+3*k+5<_;lia,by have:=r.un;show A.units+3+16*k+200<_;lia,r.gd⟩
theorem Room.in1{k:Nat}{A:aX}(r:Room (k+1) A):Room k A.in1 :=
 ⟨r.hd,by have:=r.dp;show A.depth+3*k+5<_;lia,by have:=r.un;show A.units+1+16*k+200<_;lia,r.gd⟩
theorem Room.depth{k:Nat}{A:aX}(r:Room k A):A.depth<recursionLimit:=by have:=r.dp;lia
theorem Room.units{k:Nat}{A:aX}(r:Room k A):A.units+64<cLine:=by have:=r.un;lia
theorem Room.units0{k:Nat}{A:aX}(r:Room k A):A.units<cLine:=by have:=r.un;lia
def tNil:TA:=fun _ H Q=>Q [] H
def Qy(o:TE)(v:TA):TA:=fun σ H Q=>o σ H fun x u=>v σ u fun xs l=>Q (x::xs) l
section
variable{X:Cx}{e:aT}{es:List aT}{te:TE}{t:TA}{pos:Pos}
theorem QV:PA X [] tNil:=fun _ _ _ _ H Q I h=>ng ⟨[],H,I,.nil,h⟩
theorem Qr(ha:PE X e te)(S:PA X es t)(Y:starEach (e::es) X.env=(false,eval e X.env)::starEach es X.env:=by rfl):PA X (e::es) (Qy te t):=by intro pos pins s σ H Q I h;rw[Y];show wpAny _ _ (spliced ((false,eval e X.env)::backTo pos (starEach es X.env))) _ _ s;refine mP (thn (ha pins s σ H _ I h) fun u s1 l=>?_);obtain⟨x,N,v,L,G⟩:=l;exact thn (S pos pins s1 σ N _ v G) fun us s2 ⟨xs,U,C,J,R⟩=>⟨x::xs,U,C,.cons L J,R⟩
def tTup(t:TA):TE:=fun σ H Q=>t σ H fun xs l=>xs.length<=sizeLine/\∀p,l p=none->Q (.ref p) (upd l p (.tup xs))
def tLst(t:TA):TE:=fun σ H Q=>t σ H fun xs o=>xs.length<=sizeLine/\∀p,o p=none->Q (.ref p) (upd o p (.lst xs))
theorem zqU{x1}(h:PA X es t):PE X (.Tuple es x1 pos) (tTup t):=by intro pins s σ H Q I x;refine wpAny_Tuple_spliced (thn (h pos pins s σ H _ I x) fun us s1 ⟨xs,v,o,r,z,q⟩=>⟨by rw[<- r.length];exact z,?_⟩);have hf:v s1.heap.objs.size=none:=o.hok.fresh (av _);refine⟨.ref s1.heap.objs.size,upd v s1.heap.objs.size (.tup xs),o.laid (t':=s1.toks) (fun b u e=>aq _ e) (av _) ?_,rfl,q _ hf⟩;exact⟨z,us,r,⟨_,aB _ rfl,rfl,⟨_,rfl⟩,rfl⟩⟩
theorem zqY(h:PA X es t):PE X (.List es pos) (tLst t):=by intro pins s σ H Q I x;refine wpAny_List_spliced (thn (h pos pins s σ H _ I x) fun us s1 ⟨xs,v,o,r,z,q⟩=>⟨by rw[<- r.length];exact z,?_⟩);have hf:v s1.heap.objs.size=none:=o.hok.fresh (av _);refine⟨.ref s1.heap.objs.size,upd v s1.heap.objs.size (.lst xs),o.laid (t':=s1.toks) (fun b u e=>aq _ e) (av _) ?_,rfl,q _ hf⟩;exact⟨z,us,0,r,aB _ rfl⟩
end
abbrev Sp:=List V->Hp->VK->XK->Prop
abbrev CXT:=List Env->Hp->aj->XK->ae->aj->Prop
structure Env0(P:aK)(w:ba)(K:qF)(mg:qM)(base:bB)(A:aX)(outer:List Env)(s:aj)(H:Hp):Prop where
 frames:A.frames=some outer
 mod:Mod K mg base
 bs:∀b o,base.get? b=some o->s.heap.get? b=some o/\H b=none
 bsz:base.objs.size<=s.heap.objs.size
 funs:s.heap.FunFrames base outer
 frf:∀b∈frs outer,H b=none
 hok:HOk P w H s.heap
 bare:iA s.gens
def CE(outer:List Env)(P:aK)(w:ba)(H:Hp)(s:aj)(Q:VK)(u:ae)(s':aj):Prop :=
 ∃v H',s'.os=s.os/\iA s'.gens/\Un (frs outer) [] H H' s.heap s'.heap/\HOk P w H' s'.heap/\RelV v u/\Q v H'
def CR(l:CXT)(outer:List Env)(P:aK)(w:ba)(H:Hp)(s:aj)(Q:VK)(E:XK)(r:tF)(s':aj):Prop :=
 match r with
 | .ok (.ret u)=>CE outer P w H s Q u s'
 | .ok _=>False
 | .error e=>l outer H s E e s'
structure FnOk(P:aK)(w:ba)(K:qF)(mg:qM)(base:bB)(CX:CXT)(k:Nat)(f:af)(fd:cA)(ps:List Str)(sp:Sp):Prop where
 len:∀vs H Q E,sp vs H Q E->vs.length=ps.length
 run:∀(A:aX) (outer:List Env) (s:aj) (H:Hp) (args:Args) (us:List ae) (vs:List V) (Q:VK) (E:XK),Room k A->Env0 P w K mg base A outer s H->oR s fd args (ps.zip us)->Vals vs us->sp vs H Q E ->
  codeAny (model P w) A (.call (.ref f) args) (CR CX outer P w H s Q E) s
theorem FnOk.imp{P:aK}{w:ba}{K:qF}{mg:qM}{base:bB}{o:CXT}{k:Nat}{f:af}{fd:cA}{ps:List Str}{u l:Sp}(F:FnOk P w K mg base o k f fd ps u)
  (h:∀vs H Q E,l vs H Q E->u vs H Q E):FnOk P w K mg base o k f fd ps l :=
 ⟨fun vs H Q E q=>F.len vs H Q E (h _ _ _ _ q),fun A outer s H args us vs Q E v he hb C x=>F.run A outer s H args us vs Q E v he hb C (h _ _ _ _ x)⟩
theorem Env0.in1{P:aK}{w:ba}{K:qF}{mg:qM}{base:bB}{A:aX}{outer:List Env}{s:aj}{H:Hp}(e:Env0 P w K mg base A outer s H) :
  Env0 P w K mg base A.in1 outer s H:=⟨e.frames,e.mod,e.bs,e.bsz,e.funs,e.frf,e.hok,e.bare⟩
section
variable{X:Cx}{pins:qO}{σ:St}{H:Hp}{s s':aj}
theorem Inv.env0(I:Inv X pins σ H s):Env0 X.prog X.w X.K X.mg X.base X.A X.stack s H :=
 ⟨I.ok.frames,I.ok.mod,I.bs,aP I.ok.bsz I.sz,I.stack,I.stkFree,I.hok,I.bare⟩
theorem Inv.after{Q:VK}{u:ae}(I:Inv X pins σ H s)(h:CE X.stack X.prog X.w H s Q u s'):EP X pins σ Q u s':=by obtain⟨v,H',os,bare,un,hok,r,q⟩:=h;obtain⟨o,g,d,t,l⟩:=s';obtain rfl:l=s.os:=os;exact⟨v,H',I.call (h':=o) (g':=g) (d':=d) (t':=t) (ch:=[]) un hok bare (fun b z=>absurd z (by simp)),r,q⟩
end
def zon(u:Sp)(l:List V)(E:XK)(t:TA):TE:=fun σ H Q=>t σ H fun vs o=>u (vs++l) o Q E
def Binds(K:qF)(fd:cA)(ps:List Str)(ds:List ae):Prop :=
 ∀(s:aj) (us:List ae),K.In s.heap->(us++ds).length=ps.length->oR s fd ⟨us,[]⟩ (ps.zip (us++ds))
theorem Binds.all{K:qF}{fd:cA}{ps:List Str}(h:∀us:List ae,us.length=ps.length->bindArgs fd ⟨us,[]⟩=pure (ps.zip us)):Binds K fd ps []:=fun s us _ l=>by rw[bE]at l ⊢;exact .of_eq (h us l)
def Vl(l:CXT)(X:Cx)(E:XK):Prop:=∀(pins:qO) (σ:St) (H:Hp) (s:aj) (e:ae) (s':aj),Inv X pins σ H s->l X.stack H s E e s'->X.xe e s'
section
variable{X:Cx}{CX:CXT}{k:Nat}{f C:af}{fd:cA}{ps:List Str}{sp:Sp}{dvs:List V}{ds:List ae}{E:XK}{x m:Str}{p pos apos:Pos}{e o:aT}{es:List aT}{ta:TE}{t:TA}
theorem znQ{pins:qO}{σ:St}{H:Hp}{s:aj}{Q:VK}{us:List ae}{vs:List V}(F:FnOk X.prog X.w X.K X.mg X.base CX k f fd ps sp)(J:Room k X.A)(hb:Binds X.K fd ps ds)(hd:Vals dvs ds)(hx:Vl CX X E)
  (I:Inv X pins σ H s) (r:Vals vs us) (h:sp (vs++dvs) H Q E):wpAny (model X.prog X.w) X.A (call (.ref f) us) (EP X pins σ Q) X.xe s:=by
 have G:Vals (vs++dvs) (us++ds):=r.append hd;have L:(us++ds).length=ps.length:=by rw[<- G.length];exact F.len _ _ _ _ h
 refine o7 (fR (F.run X.A X.stack s H ⟨us,[]⟩ (us++ds) (vs++dvs) Q E J I.env0 (hb s us I.kIn L) G h) fun r s' v=>?_);cases r with
 | error e=>exact hx pins σ H s e s' I v
 | ok fl =>
  cases fl with
  | ret u=>exact I.after v
  | next=>exact cm v
  | brk=>exact cm v
  | cont=>exact cm v
theorem zoR(F:FnOk X.prog X.w X.K X.mg X.base CX k f fd ps sp)(R:Room k X.A)(J:Gl X x)(S:X.mg x=some (.ref f))(L:fM X.K (.ref f)=true)(hb:Binds X.K fd ps ds)(hd:Vals dvs ds)(hx:Vl CX X E)
  (ha:PA X (e::es) t) (u:Ndb x:=by decide) (he:starEach (e::es) X.env=(false,eval e X.env)::starEach es X.env:=by rfl) (v:(backTo pos (starEach es X.env)).any (·.1)=false:=by rfl) :
  PE X (.Call (.Name x p) (e::es) [] pos) (zon sp dvs E t):=by
 intro pins s σ H Q I h;refine e9 (zk_ I J S ?_ u);refine mQ (h₀:=X.base) I.ok.mod.kin L (thn (ha pos pins s σ H _ I h) fun us s1 ⟨vs,U,G,r,q⟩=>⟨G.kIn,?_⟩) he v;exact znQ F R hb hd hx G r q
end
structure Qp(N P:List Str)(sc:dF):Prop where
 kind:sc.kind=.function
 co:sc.isCoroutine=false
 gen:sc.isGenerator=false
 nd:N.Nodup
 pre:N.take P.length=P
 par:∀x∈P,sc.names.lookup x=some .local\/sc.names.lookup x=some .cell
 nofree:∀y∈sc.names,y.2≠.free
theorem zhz{kindOf:Str->Option dB}{x:Str}:∀{binds:List (Str×ae)}{m:qM},(∀v,(x,v)∉binds)->bindL kindOf binds m x=m x
 | [],_,_=>rfl
 | (n,v)::r,m,h=>by
  unfold bindL;rw[zhz fun w hw=>h w (bK _ hw)];split;have:x≠n:=by rintro rfl;exact h v bZ
  simp[this];rfl
theorem zhB{kindOf:Str->Option dB}{x:Str}:∀{binds:List (Str×ae)}{m:qM},(∀v,(x,v)∉binds)->bindC kindOf binds m x=m x
 | [],_,_=>rfl
 | (n,v)::r,m,h=>by
  unfold bindC;rw[zhB fun w hw=>h w (bK _ hw)];split;rfl;have:x≠n:=by rintro rfl;exact h v bZ
  simp[this]
theorem zhA{kindOf:Str->Option dB}{x:Str}{v:ae}:∀{P:List Str}{vs:List ae}{i:Nat}{m:qM},P.Nodup->P[i]?=some x->vs[i]?=some v->kindOf x=some .local ->
  bindL kindOf (P.zip vs) m x=some v
 | [],_,_,_,_,h,_,_=>by simp at h
 | _::_,[],_,_,_,_,h,_=>by simp at h
 | p::P,w::vs,0,m,nd,h1,h2,hk=>by simp at h1 h2;subst h1;subst h2;show bindL kindOf ((p,w)::P.zip vs) m p=_;unfold bindL;rw[zhz fun v u=>(cB.mp nd).1 (fz u).1,if_pos hk];simp
 | p::P,w::vs,i+1,m,nd,h1,h2,hk=>by show bindL kindOf ((p,w)::P.zip vs) m x=_;unfold bindL;exact zhA (i:=i) (cB.mp nd).2 (by simpa using h1) (by simpa using h2) hk
theorem zhC{kindOf:Str->Option dB}{x:Str}{v:ae}:∀{P:List Str}{vs:List ae}{i:Nat}{m:qM},P.Nodup->P[i]?=some x->vs[i]?=some v->kindOf x≠some .local ->
  bindC kindOf (P.zip vs) m x=some v
 | [],_,_,_,_,h,_,_=>by simp at h
 | _::_,[],_,_,_,_,h,_=>by simp at h
 | p::P,w::vs,0,m,nd,h1,h2,hk=>by simp at h1 h2;subst h1;subst h2;show bindC kindOf ((p,w)::P.zip vs) m p=_;unfold bindC;rw[zhB fun v u=>(cB.mp nd).1 (fz u).1,if_neg hk];simp
 | p::P,w::vs,i+1,m,nd,h1,h2,hk=>by show bindC kindOf ((p,w)::P.zip vs) m x=_;unfold bindC;exact zhC (i:=i) (cB.mp nd).2 (by simpa using h1) (by simpa using h2) hk
def start(N:List Str)(vs:List V):St:=vs.map some++iK (N.length - vs.length) none
def cxOf(o:CXT)(P:aK)(w:ba)(K:qF)(mg:qM)(base:bB)(N:List Str)(qual:Str)(scope:dF)(f:af)(cd:ae)(A:aX)(outer:List Env)(s:aj)(H:Hp)(E:XK):Cx where
 prog:=P
 w:=w
 K:=K
 mg:=mg
 base:=base
 A:=A.deeper (envOfC qual scope s.heap.objs.size f cd)
 N:=N
 s₀:=s
 H₀:=H
 env:=envOfC qual scope s.heap.objs.size f cd
 outer:=outer
 stack:=envOfC qual scope s.heap.objs.size f cd::outer
 ex:=[]
 calm:=true
 fn:=fun _=>true
 pn:=[]
 xe:=fun e s'=>wpAny (model P w) (A.deeper (envOfC qual scope s.heap.objs.size f cd)) (leaving (envOfC qual scope s.heap.objs.size f cd) e) (fun _ l=>o outer H s E e l) (fun u l=>o outer H s E u l) s'
theorem zjb{sc:dF}{n:Nat}{x:Str}(h:sc.names.lookup x=some .cell):∃c,(cellsFrom n sc.names []).lookup x=some c:=by have q:=dP sc.names n [] (.inl h);exact gf.mp q
theorem zhm{U:CXT}{P:aK}{w:ba}{K:qF}{mg:qM}{base:bB}{N ps:List Str}{qual:Str}{scope:dF}{f:af}{cd:ae}{A:aX}{outer:List Env}{s s1:aj}{H:Hp}{E:XK}{us:List ae}{vs:List V}
  (S:Qp N ps scope) (hd:A.handled=none) (C:Env0 P w K mg base A outer s H) (hl:vs.length=ps.length) (r:Vals vs us)
  (x:InCallC s s.heap.objs.size (bindL (envOfC qual scope s.heap.objs.size f cd).kindOf (ps.zip us) fun _=>none) (cellsFrom (s.heap.objs.size+1) scope.names []) (bindC (envOfC qual scope s.heap.objs.size f cd).kindOf (ps.zip us) fun _=>none) s1) :
  Inv (cxOf U P w K mg base N qual scope f cd A outer s H E) [] (start N vs) H s1:=by
 have hpl:ps.length<=N.length:=by have:=congrArg bL S.pre;rw[cE]at this;lia
 obtain⟨R,tk,rfl,Y⟩:=x.done;have I:∀b:af,b∉(cxOf U P w K mg base N qual scope f cd A outer s H E).ex:=fun b z=>absurd (show b∈([]:List af) from z) (by simp);refine⟨⟨C.mod,S.kind,rfl,rfl,av _,fun y z c R o=>?_,fun y G=>?_,fun y c _ h=>?_,fun _=>hd,Around.frames_deeper C.frames,.inr ⟨rfl,rfl⟩,fun b z=>absurd z (I b),C.bs,C.bsz,fun b _ _=>I b,fun b z=>absurd z (I b),C.funs,C.frf⟩,
  rfl,C.bare,Un.kept Y,⟨_,x.toInCall.ns,fun i y v R o h3=>?_⟩,fun y c h=>⟨_,x.cell y c h⟩,C.hok.fresh (av _),fun y c h=>?_,fun p L=>absurd (show p∈([]:qO) from L) (by simp),C.hok.kept Y,?_⟩
 exact name_of_addr x.apart (eK R) (eK o);have G:scope.names.lookup y=some .cell\/scope.names.lookup y=some .free:=G;rcases G with G|G;exact zjb G;exact absurd rfl (S.nofree _ (eK G));exact bY (x.above y c (eK h));have hi:i<vs.length:=by unfold start at o;by_cases hi:i<vs.length;exact hi;rw[aU (by simpa using hi)]at o;rw[gF]at o;split at o <;> cases o
 have ha:vs[i]?=some v:=by
  unfold start at o;rw[bg (by simpa using hi),a6]at o;cases e:vs[i]? with
  | none=>rw[e]at o;cases o
  | some a=>rw[e]at o;cases o;rfl
 obtain⟨u,Z,rv⟩:=r.get ha;have L:ps[i]?=some y:=by rw[<- S.pre,gh (by lia)];exact R
 have J:ps.Nodup:=by rw[<- S.pre];exact S.nd.sublist (ni _ _)
 refine⟨u,rv,?_⟩;rcases S.par y (aM L) with k|k;exact .inl ⟨k,zhA J L Z k⟩;obtain⟨c,e⟩:=zjb (n:=s.heap.objs.size+1) k;refine .inr ⟨.inl k,c,e,?_⟩;have q:=x.cell y c e;rw[zhC J L Z (by show scope.names.lookup y≠_;rw[k];decide)]at q;exact q;exact C.hok.fresh (bY (x.above y c (eK h)));unfold start;show _=N.length;rw[aH,ao,lg];lia
theorem zsv{U:CXT}{P:aK}{w:ba}{K:qF}{mg:qM}{base:bB}{k:Nat}{f:af}{name qual:Str}{params:ka}{body:List dA}{scope:dF}{dV kV doc pm C ct oc:ae}{an od:Option af}
  {osl:Array (Option ae)} {N ps:List Str} {sp:Sp} (lk:K.lookup f=some ⟨oc,od,.func (cO name qual params body scope dV kV doc pm an C ct),osl⟩) (hcd:gO K C qual=true) (S:Qp N ps scope)
  (len:∀vs H Q E,sp vs H Q E->vs.length=ps.length)
  (Ik:∀(A:aX) (outer:List Env) (s:aj) (H:Hp) (vs:List V) (Q:VK) (E:XK),Room k (A.deeper (envOfC qual scope s.heap.objs.size f C))->sp vs H Q E ->
   ∃t,PSs (cxOf U P w K mg base N qual scope f C A outer s H E) body t/\t { nx:=fun _ H'=>Q .non H',rt:=Q } (start N vs) H) :
  FnOk P w K mg base U (k+1) f (cO name qual params body scope dV kV doc pm an C ct) ps sp:=by
 refine⟨len,fun A outer s H args us vs Q E Z L hb r R=>?_⟩;have hl:=len _ _ _ _ R;have KX:K.In s.heap:=L.mod.kin.keeps fun b o e=>(L.bs b o e).1;have lim:s.heap.NoLimit:=L.mod.nolimit.keeps fun b o e=>(L.bs b o e).1;have Ih:∀y∈ps.zip us,scope.names.lookup y.1=some .local\/(scope.names.lookup y.1=some .cell/\((cellsFrom (s.heap.objs.size+1) scope.names []).lookup y.1).isSome=true):=fun⟨n,v⟩ hy=>by rcases S.par n (fz hy).1 with q|q;exact .inl q;exact .inr ⟨q,dP _ _ _ (.inl q)⟩
 refine codeAny_call_function Z.depth (KX _ _ lk) rfl S.co S.gen rfl (PySem.W.codeRec_of KX hcd) (hb _ _ _ _ ?_);refine iL S.kind Ih fun env he s1 x=>?_;subst he;refine⟨lim.keeps x.toInCall.keep,codeAny_func ?_⟩;obtain⟨t,ht,hq⟩:=Ik A outer s H vs Q E (Z.deeper _) R;have I:Inv (cxOf U P w K mg base N qual scope f C A outer s H E) [] (start N vs) H s1:=zhm S Z.hd L hl r x;refine bN (ht [] s1 (start N vs) H _ I hq) (fun fl s' G=>?_) fun e s' G=>G;have fin:∀{σ':St} {H':Hp} {v:V} {u:ae},Inv (cxOf U P w K mg base N qual scope f C A outer s H E) [] σ' H' s'->RelV v u->Q v H'->CE outer P w H s Q u s' :=
  fun {σ' H' v u} J Y q=>⟨v,H',J.os,J.bare,J.base,J.hok,Y,q⟩
 cases fl with
 | ret u =>obtain⟨v,σ',H',J,Y,q⟩:=G;exact fin J Y q
 | next =>obtain⟨σ',H',J,q⟩:=G;exact fin (v:=V.non) (u:=fK) J rfl q
 | brk =>obtain⟨_,_,_,q⟩:=G;exact cm q
 | cont =>obtain⟨_,_,_,q⟩:=G;exact cm q
section
variable{X:Cx}{x:Str}{p pos:Pos}{e:aT}{es:List aT}{t:TA}{id T:String}{r:List V->Hp->VK->Prop}
def tCB(r:List V->Hp->VK->Prop)(t:TA):TE:=fun σ H Q=>t σ H fun vs l=>r vs l Q
theorem zmQ(hc:JR X (.builtin id) r)(L:Gl X x)(Y:X.mg x=none)(Z:bootBuiltins x=some (.builtin id))(ha:PA X (e::es) t)(U:x ≠ "__name__":=by decide) (o:Ndb x:=by decide)
  (he:starEach (e::es) X.env=(false,eval e X.env)::starEach es X.env:=by rfl) (v:(backTo pos (starEach es X.env)).any (·.1)=false:=by rfl):PE X (.Call (.Name x p) (e::es) [] pos) (tCB r t):=by
 intro pins s σ H Q I h;refine e9 (Yx I L Y Z ?_ U o);exact n8 (thn (ha pos pins s σ H _ I h) fun us s1 ⟨vs,S,G,R,J⟩=>hc pins s1 σ S vs us Q G R J) he v
theorem zgT(hc:JR X (.type T) r)(J:Gl X x)(U:X.mg x=none)(Y:bootBuiltins x=some (.type T))(ha:PA X (e::es) t)(S:x ≠ "__name__":=by decide) (o:Ndb x:=by decide)
  (he:starEach (e::es) X.env=(false,eval e X.env)::starEach es X.env:=by rfl) (u:(backTo pos (starEach es X.env)).any (·.1)=false:=by rfl):PE X (.Call (.Name x p) (e::es) [] pos) (tCB r t):=by
 intro pins s σ H Q I h;refine e9 (Yx I J U Y ?_ S o);exact fH (thn (ha pos pins s σ H _ I h) fun us s1 ⟨vs,R,v,L,G⟩=>hc pins s1 σ R vs us Q v L G) he u
end
end L2
namespace HT
open PySem PyProof.Rows
def lexLt:List Int->List Int->Bool
 | [],[]=>false
 | [],_::_=>true
 | _::_,[]=>false
 | x::xs,y::ys=>if x=y then lexLt xs ys else decide (x<y)
theorem zjD(x y:Int)(xs ys:List Int):lexLt (x::xs) (y::ys)=if x=y then lexLt xs ys else decide (x<y):=rfl
theorem zf0:lexLt [] []=false:=rfl
theorem zeR(y:Int)(ys:List Int):lexLt [] (y::ys)=true:=rfl
theorem zeS(x:Int)(xs:List Int):lexLt (x::xs) []=false:=rfl
theorem znq(A:aX)(s:aj)(a:Int)(t:Tok)(c:Int)(u:Tok):∃e,o8 A s (.int a t) (.int c u) e/\(e=true↔a=c) :=
 ⟨(a == c),iM a t c u,by simp⟩
theorem zmE(A:aX)(s:aj)(a:Int)(t:Tok)(c:Int)(u:Tok)(prog:aK)(w:ba)(E:qV)(Q:qV)(h:Q (.bool (decide (a<c))) s) :
  wpAny (model prog w) A (richCompare .Lt (.int a t) (.int c u)) Q E s :=
 (vE h:wpAny (model prog w) A (compareOp .Lt (.int a t) (.int c u)) Q E s)
section
open PySem.SeqAt
open PySem.AutoSeq1 (wpAny_loadPart')
open PySem.MeetsSeq PySem.MeetsSeq2 PySem.MeetsSeq3
theorem zfD(l b:af)(items U:Array ae)(n n2:Nat)(dd dd2:Option af)(sl sl2:Array (Option ae))(ns ms:List Int)(hi:eE items.toList ns)(hj:eE U.toList ms) :
  Meets (dG.«tuple.__lt__» ⟨[.ref l,.ref b],[]⟩)
   (fun _ R s=>s.heap.get? l=some { cls:=.type "tuple",dict:=dd,data:=.seq items n,slots:=sl }/\s.heap.get? b=some { cls:=.type "tuple",dict:=dd2,data:=.seq U n2,slots:=sl2 } /\
    R (.ok (.ret (.bool (lexLt ns ms)))) s) :=
 .of_wp fun prog w A R s h=>by
  obtain⟨hp,g,d,tk,os⟩:=s;obtain⟨hl,hb,h⟩:=h;have f2:=AutoSeq1.sub_tuple_tuple;have z1:items.size=ns.length:=by rw[<- hi.length];simp
  have z2:U.size=ms.length:=by rw[<- hj.length];simp
  wp_walk using oA hl,oA hb,wpAny_forIn_list _ (fun rest b s'=>b.1=none/\s'=⟨hp,g,d,tk,os⟩/\∃(vs ws:List ae) (G C:List Int),rest=vs.zip ws /\
   eE vs G/\eE ws C/\G.length+U.size=C.length+items.size/\R (.ok (.ret (.bool (lexLt G C)))) ⟨hp,g,d,tk,os⟩) _
  case turn =>
   rintro⟨y,x⟩ rest b s' ⟨N,rfl,vs,ws,G,C,hz,S,I,v,L⟩;cases S with
   | nil=>rw[List.zip_nil_left]at hz;cases hz
   | cons a t Y =>
    cases I with
    | nil=>rw[List.zip_nil_right]at hz;cases hz
    | cons c u Z =>
     rw[mS]at hz;injection hz with hyx hrest;injection hyx with hy hx;subst hy hx;rw[zjD]at L;simp only[aG]at v;obtain⟨e,he,J⟩:=znq A.in1 ⟨hp,g,d,tk,os⟩ a t c u;refine aa (he prog w _ _ ?_);cases e with
     | true =>rw[if_pos (J.mp rfl)]at L;wp_walk;exact⟨rfl,rfl,_,_,_,_,hrest,Y,Z,by lia,L⟩
     | false =>rw[if_neg (fun q=>absurd (J.mpr q) aS)]at L;have hri:=zmE A.in1 ⟨hp,g,d,tk,os⟩ a t c u prog w;wp_walk using hri;exact⟨_,rfl,by simpa using L⟩
  case fin =>
   rintro⟨b1,b2⟩ s' ⟨N,rfl,vs,ws,G,C,hz,S,I,v,L⟩;simp only at N;subst N;have hv:lexLt G C=decide (items.size<U.size):=by
    cases S with
    | nil =>
     cases I with
     | nil =>simp only[bT]at v;rw[zf0];exact(decide_eq_false (by lia)).symm
     | cons c u hw =>simp only[bT,aG]at v;rw[zeR];exact(decide_eq_true (by lia)).symm
    | cons a t hv =>
     cases I with
     | nil =>simp only[bT,aG]at v;rw[zeS];exact(decide_eq_false (by lia)).symm
     | cons c u hw =>rw[mS]at hz;cases hz
   rw[hv]at L;wp_walk;exact⟨_,rfl,by simpa[nS] using L⟩
  case h =>exact⟨rfl,rfl,items.toList,U.toList,ns,ms,rfl,hi,hj,by lia,h⟩
end
section
variable{prog:aK}{w:ba}{A:aX}{E:qV}{s:aj}
theorem zjC{l b:af}{items G:Array ae}{ns u:List Int}{Q:qV}(Z:oU s.heap l items)(hb:oU s.heap b G)(hi:eE items.toList ns)(Y:eE G.toList u)
  (U:A.units<cLine) (h:Q (.bool (lexLt ns u)) s):wpAny (model prog w) A (compareOp .Lt (.ref l) (.ref b)) Q E s:=by
 obtain⟨⟨cls,dd,data,sl⟩,R,hc,n,hd⟩:=id Z;obtain⟨⟨N,J,data2,I⟩,v,C,S,hd2⟩:=id hb;simp only at hc hd C hd2;subst hc hd C hd2;exact richCompare_meets_room (op:=.Lt) ⟨_,R,rfl⟩ ⟨_,v,rfl⟩ PySem.F.slot_tuple_lt PySem.F.entry_tuple_lt (PySem.F.args_tuple_lt_2 _ _) (zfD l b items G n S dd J sl I ns u hi Y)
  ⟨R,v,show kH (lexLt ns u)≠Value.notImplemented/\Q (.bool (lexLt ns u)) s from⟨(fun x=>nomatch x),h⟩⟩ U
theorem zp0{t b:af}{vs ws:List ae}{Q:qV}(R:oU s.heap t vs.toArray)(hb:oU s.heap b ws.toArray)(J:vs≠[])
  (S:ws=[]->Q (.ref t) s) (N:ws≠[]->Q (.ref s.heap.objs.size) { s with heap:=s.heap.push { cls:=.type "tuple",data:=.seq (vs++ws).toArray } })
  (hsz:vs.length+ws.length<=sizeLine):wpAny (model prog w) A (binaryOp .Add (.ref t) (.ref b)) Q E s:=by
 obtain⟨⟨cls,L,data,sl⟩,C,hc,n,hd⟩:=id R;obtain⟨⟨I,v,data2,u⟩,l,x,G,hd2⟩:=id hb;simp only at hc hd x hd2;subst hc hd x hd2;have e:vs.toArray++ws.toArray=(vs++ws).toArray:=by simp
 by_cases hw:ws=[];exact nj ⟨_,C,rfl⟩ ⟨_,l,rfl⟩ kb mI gP gG (gj _ _)
  (tuple_addW1 t b vs.toArray ws.toArray n G L v sl u (by simpa using J) (by simp[hw])) ⟨C,l,S hw⟩
 refine nj ⟨_,C,rfl⟩ ⟨_,l,rfl⟩ kb mI gP gG (gj _ _)
  (tuple_addW2 t b vs.toArray ws.toArray n G L v sl u (by simpa using J) (by simpa using hw) (by rw[aw,aw];exact hsz)) ⟨C,l,?_⟩
 rw[e];exact N hw
end
end HT
namespace L2
open PySem PySem.Spec PyProof.Rows
abbrev TO:=St->Hp->(Option Int->Hp->Prop)->Prop
theorem intsAre_of{ns:List Int}:∀{us:List ae},Vals (ns.map V.int) us->eE us ns:=by
 induction ns with
 | nil=>intro us r;rw[cC]at r;cases r;exact .nil
 | cons n ns u =>
  intro us r;rw[aC]at r;cases r with
  | cons v x =>obtain⟨t,e⟩:=v;subst e;exact .cons n t (u x)
section
variable{X:Cx}{e:aT}{te:TE}{lo hi:Option aT}{tl th:TO}{pos p2:Pos}
def rLtT(K:qF):R2:=fun x y H Q=>∃a b ns o,x=.ref a/\y=.ref b/\SqT K H a (ns.map V.int)/\SqT K H b (o.map V.int)/\Q (.bl (HT.lexLt ns o)) H
theorem zrb(U:X.A.units<cLine):OpR X (compareOp .Lt) (rLtT X.K):=by intro pins s σ H x y v u Q I N G h;obtain⟨a,b,ns,C,rfl,rfl,ha,hb,q⟩:=h;cases N;cases G;obtain⟨its,S,J,_⟩:=I.tuple ha;obtain⟨o,R,p2,_⟩:=I.tuple hb;have i1:eE its.toArray.toList ns:=intsAre_of S;have Y:eE o.toArray.toList C:=intsAre_of R;exact HT.zjC J p2 i1 Y U ⟨.bl (HT.lexLt ns C),H,I,rfl,q⟩
def zuc(K:qF):R2:=fun x y H Q=>∃a b xs ys,x=.ref a/\y=.ref b/\SqT K H a xs/\SqT K H b ys/\xs≠[]/\xs.length+ys.length<=sizeLine /\
 (ys=[]->Q (.ref a) H)/\(ys≠[]->∀p,H p=none->Q (.ref p) (upd H p (.tup (xs++ys))))
theorem Vals.nil_iff{xs:List V}{us:List ae}(r:Vals xs us):us=[]↔xs=[]:=by
 cases r with
 | nil=>simp
 | cons _ _=>simp
theorem zo3:OpR X (binaryOp .Add) (zuc X.K):=by intro pins s σ H x y v u Q I R J h;obtain⟨a,b,xs,ys,rfl,rfl,ha,hb,hx,hz,L,S⟩:=h;cases R;cases J;obtain⟨its,C,N,_⟩:=I.tuple ha;obtain⟨G,l,p2,_⟩:=I.tuple hb;refine HT.zp0 N p2 (fun z=>hx (C.nil_iff.mp z)) (fun z=>⟨.ref a,H,I,rfl,L (l.nil_iff.mp z)⟩) (fun z=>?_) (by rw[<- C.length,<- l.length];exact hz);refine⟨.ref s.heap.objs.size,_,I.laid (t':=s.toks) (o:=.tup (xs++ys)) (fun b U q=>aq _ q) (av _) ?_,rfl,S (fun w=>z (l.nil_iff.mpr w)) _ (I.hok.fresh (av _))⟩;exact⟨by rw[aH];exact hz,_,C.append l,IsTD.new _ _⟩
end
def ixN(n:Nat)(i:Int):Option Nat:=if 0<=i then(if i<n then some i.toNat else none) else if -(n:Int)<=i then some (i+n).toNat else none
def atI{α:Type}(xs:List α)(i:Int):Option α:=(ixN xs.length i).bind fun j=>xs[j]?
theorem zlm{n:Nat}{i:Int}{j:Nat}(h:ixN n i=some j):seqIndex? i n=some j/\j<n/\-(n:Int)<=i/\i<n:=by unfold ixN at h;by_cases h0:0<=i;rw[if_pos h0]at h;by_cases h1:i<n;rw[if_pos h1]at h;have e:i.toNat=j:=aI h;exact⟨by rw[om h0 h1,e],by lia,by lia,h1⟩;rw[if_neg h1]at h;cases h;rw[if_neg h0]at h;by_cases h1:-(n:Int)<=i;rw[if_pos h1]at h;have e:(i+n).toNat=j:=aI h;exact⟨by rw[nq (by lia) h1,e],by lia,h1,by lia⟩;rw[if_neg h1]at h;cases h
theorem zis{α:Type}{xs:List α}{i:Int}{v:α}(h:atI xs i=some v):∃j,seqIndex? i xs.length=some j/\xs[j]?=some v/\j<xs.length/\-(xs.length:Int)<=i/\i<xs.length:=by
 unfold atI at h;cases e:ixN xs.length i with
 | none=>rw[e]at h;cases h
 | some j =>rw[e]at h;obtain⟨x,l,o,u⟩:=zlm e;exact⟨j,x,h,l,o,u⟩
theorem zp4{α:Type}{xs:List α}{j:Nat}{v:α}(h:xs[j]?=some v):atI xs (j:Int)=some v:=by
 have l:j<xs.length:=(ah.mp h).1;have e:ixN xs.length (j:Int)=some j:=by unfold ixN;rw[if_pos (by lia),if_pos (by lia)];simp
 unfold atI;rw[e];exact h
def zl_(b:aT):Prop:=∀o i,subscripted b false o i=operate [o,i] (getItem o i)
def IxR(X:Cx)(r:R2):Prop :=
 ∀(value slice:aT) (pins:qO) (s:aj) (σ:St) (H:Hp) (x y:V) (v u:ae) (Q:VK),Inv X pins σ H s->RelV x v->RelV y u->r x y H Q ->
  subscripted slice false v u=operate [v,u] (getItem v u)->wpAny (model X.prog X.w) X.A (subscriptTail value slice v u) (EP X pins σ Q) X.xe s
def MtR(X:Cx)(id:String)(r:V->List V->Hp->VK->Prop):Prop :=
 ∀(pins:qO) (s:aj) (σ:St) (H:Hp) (x:V) (xs:List V) (v:ae) (us:List ae) (Q:VK),Inv X pins σ H s->RelV x v->Vals xs us->r x xs H Q ->
  wpAny (model X.prog X.w) X.A (call (.builtin id) (v::us)) (EP X pins σ Q) X.xe s
section
variable{X:Cx}{a b:aT}{ta tb:TE}{pos:Pos}
theorem IxR.or{r G:R2}(h:IxR X r)(h':IxR X G):IxR X (fun x y H Q=>r x y H Q\/G x y H Q):=by intro value slice pins s σ H x y v u Q I o l q C;rcases q with q|q;exact h value slice pins s σ H x y v u Q I o l q C;exact h' value slice pins s σ H x y v u Q I o l q C
theorem Q9{r:R2}(G:IxR X r)(ha:PE X a ta)(hb:PE X b tb)(L:zl_ b):PE X (.Subscript a b pos) (tOp r ta tb):=by intro pins s σ H Q I h;exact Subscript_ (binT ha hb I h fun v u s2 x y J l C o q=>G a b pins s2 σ J x y v u Q l C o q (L _ _))
def rIxL(K:qF):R2:=fun x y H Q=>∃p xs i v,x=.ref p/\y=.int i/\SqL K H p xs/\atI xs i=some v/\Q v H
def rIxT(K:qF):R2:=fun x y H Q=>∃p xs i v,x=.ref p/\y=.int i/\SqT K H p xs/\atI xs i=some v/\Q v H
def rIxS:R2:=fun x y H Q=>∃z i c,x=.str z/\y=.int i/\z.length<=sizeLine/\atI z.cps.toList i=some c/\Q (.str ⟨#[c]⟩) H
theorem Ul:IxR X (rIxL X.K):=by
 intro value slice pins s σ H x y v u Q I Y R h L;obtain⟨p,xs,i,z,rfl,rfl,S,he,q⟩:=h;cases Y;obtain⟨t,rfl⟩:=R;obtain⟨its,r,pl,hz⟩:=I.list S;obtain⟨j,l,U,h3,h4,Z⟩:=zis he;obtain⟨w,J,C⟩:=r.get U;have hl:=r.length;have hn:=UN;have fin:EP X pins σ Q w s:=⟨z,H,I,C,q⟩;by_cases h0:0<=i;have G:i.toNat=j:=by rw[om h0 Z]at l;exact aI l
 exact item_listR pl.isList h0 (by lia) (by rw[G];simpa using J) fin L;have G:(i+(its.toArray.size:Int)).toNat=j:=by rw[nq (by lia) h4]at l;rw[aw,<- hl];exact aI l
 exact kJ (x:=w) pl.isList.typeIs slot_list_getitem.lookup
  (wpAny_getItem_list_neg (Q:=fun r s'=>r=w/\EP X pins σ Q r s') pl.isList (by lia) (by rw[aw] <;> lia) (by lia) (by rw[G];simpa using J) ⟨rfl,fin⟩) L
theorem zrQ:IxR X (rIxT X.K):=by
 intro value slice pins s σ H x y v u Q I J o h N;obtain⟨p,xs,i,z,rfl,rfl,C,he,q⟩:=h;cases J;obtain⟨t,rfl⟩:=o;obtain⟨its,r,pl,hz⟩:=I.tuple C;obtain⟨j,S,G,h3,Y,U⟩:=zis he;obtain⟨w,L,l⟩:=r.get G;have R:=r.length;have Z:=UN;have fin:EP X pins σ Q w s:=⟨z,H,I,l,q⟩;exact kJ (x:=w) pl.typeIs slot_tuple_getitem.lookup
  (getItem_tuple (j:=j) (Q:=fun r s'=>r=w/\EP X pins σ Q r s') pl (by lia) (by lia) (by rw[aw,<- R];exact S) (by simpa using L) ⟨rfl,fin⟩) N
theorem zrR:IxR X rIxS:=by
 intro value slice pins s σ H x y v u Q I J G h S;obtain⟨z,i,c,rfl,rfl,hz,he,q⟩:=h;obtain⟨t,rfl⟩:=J;obtain⟨t',rfl⟩:=G;obtain⟨j,l,C,Z,N,L⟩:=zis he;have U:z.cps.toList.length=z.length:=by simp[Str.length]
 rw[U]at l N L;have Y:=UN;exact tail_any (typeIs_str s z t) slot_str_getitem.lookup (getItem_str (c:=c) (by have o:decide (i < -(2 ^ 63:Int))=false:=decide_eq_false (by lia);have R:decide (i>=2 ^ 63)=false:=decide_eq_false (by lia);rw[o,R,Bool.or_false]) (by rw[l];simpa using C) ⟨.str ⟨#[c]⟩,H,I.tok _,⟨_,rfl⟩,q⟩) S
def rIx(K:qF):R2:=fun x y H Q=>rIxL K x y H Q\/rIxT K x y H Q\/rIxS x y H Q
theorem zrS:IxR X (rIx X.K):=Ul.or (zrQ.or zrR)
theorem zjA(its:List ae)(n j:Nat)(u:ae):bw (·.setIfInBounds j u) { cls:=.type "list",data:=.seq its.toArray n }={ cls:=.type "list",data:=.seq (its.set j u).toArray n }:=by simp[bw]
theorem Inv.lst{pins:qO}{σ:St}{H:Hp}{s:aj}{p:af}{xs:List V}(I:Inv X pins σ H s)(h:H p=some (.lst xs)) :
  ∃(its:List ae) (n:Nat),Vals xs its/\s.heap.get? p=some { cls:=.type "list",data:=.seq its.toArray n }/\xs.length<=sizeLine:=by
 obtain⟨z,its,n,r,e⟩:=I.hok p _ h;exact⟨its,n,r,e,z⟩
theorem Inv.lstUpd{pins:qO}{σ:St}{H:Hp}{s:aj}{p:af}{xs ys:List V}{its its':List ae}{n o:Nat}{f:Obj->Obj}(I:Inv X pins σ H s)(h:H p=some (.lst xs))
  (v:s.heap.get? p=some { cls:=.type "list",data:=.seq its.toArray n }) (hf:f { cls:=.type "list",data:=.seq its.toArray n }={ cls:=.type "list",data:=.seq its'.toArray o }) (r:Vals ys its') (hz:ys.length<=sizeLine) (t:Nat) :
  Inv X pins σ (upd H p (.lst ys)) { s with heap:=s.heap.update p f,toks:=t }:=by
 have e:(s.heap.update p f).get? p=some { cls:=.type "list",data:=.seq its'.toArray o }:=by rw[gZ f v (by rw[hf] <;> rfl),hf]
 refine I.write (x:=p) (e:=p) (by rw[h];trivial) (.inl rfl) (fun b u hb q=>(kK _ _ (gL hb)).trans q) ⟨_,e⟩ ?_;exact⟨hz,its',o,r,e⟩
def zub:V->V->V->Hp->(Hp->Prop)->Prop:=fun o i v H Q=>∃p xs k j,o=.ref p/\i=.int k/\H p=some (.lst xs)/\ixN xs.length k=some j/\Q (upd H p (.lst (xs.set j v)))
theorem set_list:PSet X zub:=by
 intro pins s σ H o i v ov iv u Q I ro ri Y h;obtain⟨p,xs,k,j,rfl,rfl,S,Z,q⟩:=h;cases ro;obtain⟨t,rfl⟩:=ri;obtain⟨its,n,r,G,hz⟩:=I.lst S;obtain⟨x,h2,U,L⟩:=zlm Z;have J:=r.length;have hn:=UN;have R:Inv X pins σ (upd H p (.lst (xs.set j v))) { s with heap:=s.heap.update p (bw (·.setIfInBounds j u)) } :=
  I.lstUpd S G (zjA its n j u) (r.set Y j) (by rw[List.length_set];exact hz) s.toks
 by_cases h0:0<=k;have C:k.toNat=j:=by rw[om h0 L]at x;exact aI x
 exact PySem.W.ki_setAt G h0 (by lia) (by rw[aw,<- J];exact L) (by rw[C];exact⟨_,R,q⟩);have C:(k+(its.toArray.size:Int)).toNat=j:=by rw[nq (by lia) U]at x;rw[aw,<- J];exact aI x
 exact PySem.W.ki_setBack G (by lia) (by rw[aw,<- J];exact U) (by lia) (by rw[C];exact⟨_,R,q⟩)
theorem zhx:JR X (.builtin "len") (fun xs H Q=>∃p ys,xs=[.ref p]/\(SqL X.K H p ys\/SqT X.K H p ys)/\Q (.int ys.length) H):=by intro pins s σ H xs us Q I r h;obtain⟨p,ys,rfl,v,q⟩:=h;obtain⟨u,rfl,C⟩:=vals1 r;cases C;have G:=UN;rcases v with v|v;obtain⟨its,x,pl,hz⟩:=I.list v;have o:=x.length;exact mD pl.isList (by simp only[aw] <;> lia) ⟨.int ys.length,H,I.tok _,⟨s.toks+1,by rw[aw,o]⟩,q⟩;obtain⟨its,x,pl,hz⟩:=I.tuple v;have o:=x.length;exact len_tuple pl (by simp only[aw] <;> lia) ⟨.int ys.length,H,I.tok _,⟨s.toks+1,by rw[aw,o]⟩,q⟩
theorem Z5:JR X (.type "tuple") (fun xs H Q=>∃p ys,xs=[.ref p]/\((SqL X.K H p ys/\∀l,H l=none->Q (.ref l) (upd H l (.tup ys)))\/(SqT X.K H p ys/\Q (.ref p) H))):=by
 intro pins s σ H xs us Q I r h;obtain⟨p,ys,rfl,h⟩:=h;obtain⟨u,rfl,L⟩:=vals1 r;cases L;rcases h with⟨v,q⟩|⟨v,q⟩;obtain⟨its,x,pl,hz⟩:=I.list v;have G:=x.length;refine call_tuple_list pl.isList (fun h' kp=>?_) (by simp only[aw] <;> lia);have C:Inv X pins σ H { s with heap:=h' }:=I.kept (t':=s.toks) kp;have J:Inv X pins σ (upd H h'.objs.size (.tup ys)) { s with heap:=h'.push { cls:=.type "tuple",data:=.seq its.toArray } } :=
  C.laid (t':=s.toks) (fun b o e=>aq _ e) (av _) (show JG X.prog X.w _ _ _ (.tup ys) from⟨hz,its,x,IsTD.new _ _⟩)
 exact⟨.ref h'.objs.size,_,J,rfl,q _ (C.hok.fresh (av _))⟩;obtain⟨its,x,pl,hz⟩:=I.tuple v;exact call_tuple_same pl ⟨.ref p,H,I,rfl,q⟩
def tyV(K:qF)(T:String)(x:V)(H:Hp):Prop:=match x with
 | .str _=>T = "str"
 | .int _=>T = "int"
 | .ref p=>(T = "list" /\ ∃xs,SqL K H p xs)\/(T = "tuple" /\ ∃o,K.lookup p=some o/\o.cls=.type "tuple" /\ o.dict=none) \/
   (T = "dict" /\ ((∃l,H p=some (.dK l))\/∃l,H p=some (.dT l)))\/(T = "set" /\ ∃S n,H p=some (.set S n))
 | _=>False
theorem znJ{pins:qO}{σ:St}{H:Hp}{s:aj}{T:String}{x:V}{v:ae}(I:Inv X pins σ H s)(r:RelV x v)(ty:tyV X.K T x H) :
  s.TypeIs v T/\∀a,v=.ref a->∃G,s.heap.get? a=some G/\G.dict=none:=by
 cases x with
 | str z =>obtain⟨t,rfl⟩:=r;cases(show T = "str" from ty);exact⟨typeIs_str s z t,fun _ e=>nomatch e⟩
 | int i =>obtain⟨t,rfl⟩:=r;cases(show T = "int" from ty);exact⟨typeIs_int s i t,fun _ e=>nomatch e⟩
 | ref p =>
  cases r;rcases ty with⟨rfl,xs,J⟩|⟨rfl,o,l,hc,hd⟩|⟨rfl,l⟩|⟨rfl,S,n,l⟩;obtain⟨its,_,pl,_⟩:=I.list J;refine⟨pl.isList.typeIs,fun a e=>?_⟩;cases e;obtain⟨o,n,e,c,hd,_⟩:=pl;exact⟨o,e,hd⟩;refine⟨⟨o,I.kIn p o l,hc⟩,fun a e=>?_⟩;cases e;exact⟨o,I.kIn _ o l,hd⟩;have z:∃o,s.heap.get? p=some o/\o.ExactDict:=by rcases l with⟨u,l⟩|⟨u,l⟩;obtain⟨_,_,_,_,o,_,_,e,ex,_⟩:=I.hok p _ l;exact⟨o,e,ex⟩;obtain⟨_,_,_,_,o,_,_,e,ex,_⟩:=I.hok p _ l;exact⟨o,e,ex⟩
  obtain⟨o,e,ex⟩:=z;refine⟨⟨o,e,ex.1⟩,fun a C=>?_⟩;cases C;exact⟨o,e,ex.2.1⟩;obtain⟨o,_,_,_,e,ex,_⟩:=I.hok p _ l;refine⟨⟨o,e,ex.1⟩,fun a C=>?_⟩;cases C;exact⟨o,e,ex.2.1⟩
 | _=>exact cm ty
def tBM0(K:qF)(T:String)(r:V->List V->Hp->VK->Prop)(to:TE):TE:=fun σ H Q=>to σ H fun x l=>tyV K T x l/\r x [] l Q
def tBM(K:qF)(T:String)(r:V->List V->Hp->VK->Prop)(to:TE)(t:TA):TE:=fun σ H Q=>to σ H fun x l=>tyV K T x l/\t σ l fun xs o=>r x xs o Q
variable{o e:aT}{es:List aT}{to:TE}{t:TA}{name:Str}{apos Ii:Pos}{T id:String}{r:V->List V->Hp->VK->Prop}
theorem znV(pa:PlainAttrs T)(slot:Slot T name id)(J:typeOf (.builtin id)=pure (.type "method_descriptor")) (hm:MtR X id r) (ho:PE X o to)
  (Y:attributeBase o name X.env (eval o X.env)=eval o X.env:=by rfl) (Z:(apos.endLine == Ii.line)=true:=by rfl):PE X (.Call (.Attribute o name apos) [] [] Ii) (tBM0 X.K T r to):=by
 intro pins s σ H Q I h;refine wpAny_Call_method0_late Y Z (thn (ho pins s σ H _ I h) fun v s1 G=>?_);obtain⟨x,U,L,N,ty,S⟩:=G;obtain⟨h1,R⟩:=znJ L N ty;exact⟨T,id,pa,slot,J,h1,R,kM rfl (PySem.evalArgs_none (hm pins s1 σ U x [] v [] Q L N .nil S))⟩
theorem zoS(pa:PlainAttrs T)(slot:Slot T name id)(J:typeOf (.builtin id)=pure (.type "method_descriptor")) (hm:MtR X id r) (ho:PE X o to) (ha:PA X (e::es) t)
  (HD:attributeBase o name X.env (eval o X.env)=eval o X.env:=by rfl)
  (Im:((backTo Ii (starEach (e::es) X.env)).all (fun x=>!x.1)&&(backToKw Ii (keywordEach [] X.env)).all (fun x=>x.1.isSome)
   && decide ((e::es).length+([]:List kN).length+(if ([]:List kN).isEmpty then 0 else 1)<30))=true:=by rfl)
  (HE:(apos.endLine == Ii.line)=true:=by rfl) (hs:starEach (e::es) X.env=(false,eval e X.env)::starEach es X.env:=by rfl) (IB:(backTo Ii (starEach es X.env)).any (·.1)=false:=by rfl) :
  PE X (.Call (.Attribute o name apos) (e::es) [] Ii) (tBM X.K T r to t):=by
 intro pins s σ H Q I h;refine wpAny_Call_method_late HD Im HE rfl (thn (ho pins s σ H _ I h) fun v s1 G=>?_);obtain⟨x,H1,L,N,ty,Y⟩:=G;obtain⟨h1,U⟩:=znJ L N ty;refine⟨T,id,pa,slot,J,h1,U,?_⟩;have R:=ha Ii pins s1 σ H1 _ L Y;rw[hs]at R ⊢;refine kM (by show(false||(backTo Ii (starEach es X.env)).any (·.1))=false;rw[IB] <;> rfl) (Calls.evalArgs_plain ?_);exact thn R fun us s2 ⟨vs,H2,S,Z,q2⟩=>hm pins s2 σ H2 x vs v us Q S N Z q2
end
def MtM(X:Cx)(id:String)(r:V->List V->Hp->VK->Prop):Prop :=
 ∀(pins:qO) (s:aj) (σ:St) (H:Hp) (x:V) (xs:List V) (v:ae) (us:List ae) (Q:VK),Inv X pins σ H s->RelV x v->Vals xs us->r x xs H Q ->
  wpAny (model X.prog X.w) X.A (call (.builtin id) (v::us)) (EP X pins σ Q) X.xe s
theorem Vals.one{x:V}{us:List ae}(h:Vals [x] us):∃u,us=[u]/\RelV x u:=by
 cases h with
 | cons r t=>cases t;exact⟨_,rfl,r⟩
theorem Vals.zero:∀{us:List ae},Vals [] us->us=[]
 | _,.nil=>rfl
theorem Vals.dropLast{xs:List V}{us:List ae}(h:Vals xs us):Vals xs.dropLast us.dropLast:=by
 induction h with
 | nil=>exact .nil
 | cons r t u =>
  cases t with
  | nil=>exact .nil
  | cons q t'=>exact .cons r u
theorem zjV{α:Type}(l:List α):l.eraseIdx (l.length - 1)=l.dropLast:=by
 induction l with
 | nil=>rfl
 | cons a r o =>
  cases r with
  | nil=>rfl
  | cons b r =>
   have e:(a::b::r).length - 1=((b::r).length - 1)+1:=by have v:(a::b::r).length=r.length+2:=rfl;have u:(b::r).length=r.length+1:=rfl;lia
   rw[e,kc,o];all_goals rfl
section
variable{X:Cx}{pins:qO}{σ:St}{H:Hp}{s:aj}{l b:af}{xs ys zs:List V}
theorem Inv.lset{its its':List ae}{n:Nat}{f:Array ae->Array ae}{t':Nat}(I:Inv X pins σ H s)(v:H l=some (.lst xs))
  (e:s.heap.get? l=some { cls:=.type "list",data:=.seq its.toArray n }) (hf:f its.toArray=its'.toArray) (C:Vals ys its') (hz:ys.length<=sizeLine) :
  Inv X pins σ (upd H l (.lst ys)) { s with heap:=s.heap.update l (bw f),toks:=t' }:=by
 have q:=PySem.IsL.update e f;rw[hf]at q;refine I.write (x:=l) (e:=l) (by rw[v];exact trivial) (.inl rfl) (fun G u hb o=>(kK s.heap (bw f) (gL hb)).trans o) ⟨_,q⟩ ?_;exact⟨hz,its',_,C,q⟩
theorem Inv.lnew{its:List ae}{t':Nat}(I:Inv X pins σ H s)(o:Vals ys its)(hz:ys.length<=sizeLine) :
  Inv X pins σ (upd H s.heap.objs.size (.lst ys)) { s with heap:=s.heap.push { cls:=.type "list",data:=.seq its.toArray },toks:=t' } :=
 I.laid (fun _ _ q=>aq _ q) (av _) ⟨hz,its,0,o,aB _ rfl⟩
theorem Inv.fresh(I:Inv X pins σ H s):H s.heap.objs.size=none:=I.hok.fresh (av _)
theorem Inv.lstM(I:Inv X pins σ H s)(o:H l=some (.lst xs)):xs.length<=sizeLine/\∃(its:List ae) (n:Nat),Vals xs its/\xs.length=its.length/\s.heap.get? l=some { cls:=.type "list",data:=.seq its.toArray n }:=by obtain⟨z,its,n,r,e⟩:=I.hok l _ o;exact⟨z,its,n,r,r.length,e⟩
theorem zmV{n:Nat}(h:n<=sizeLine):gm n=false:=by unfold gm;exact decide_eq_false (by lia)
end
section
variable{X:Cx}
def zoC:V->List V->Hp->VK->Prop:=fun x vs H Q=>∃l xs y,x=.ref l/\vs=[y]/\H l=some (.lst xs)/\xs.length<sizeLine/\Q .non (upd H l (.lst (xs++[y])))
theorem zg7:MtM X "list.append" zoC:=by intro pins s σ H x vs v us Q I J L h;obtain⟨l,xs,y,rfl,rfl,C,hz,q⟩:=h;cases J;obtain⟨u,rfl,G⟩:=L.one;obtain⟨z,its,n,r,N,e⟩:=I.lstM C;refine o9 F.slot_list_append ⟨_,e,rfl⟩ F.entry_list_append (F.args_list_append_2 _ _) (PySem.list_append l its.toArray n u (by rw[aw];lia)) ⟨e,?_⟩;refine⟨.non,_,I.lset (its':=its++[u]) C e (by simp) (r.append (.cons G .nil)) ?_,rfl,q⟩;rw[aH,d9];lia
def rPop:V->List V->Hp->VK->Prop:=fun x vs H Q=>∃l xs y,x=.ref l/\vs=[]/\H l=some (.lst xs)/\xs[xs.length - 1]?=some y/\Q y (upd H l (.lst xs.dropLast))
theorem zrn:MtM X "list.pop" rPop:=by
 intro pins s σ H x vs v us Q I L R h;obtain⟨l,xs,y,rfl,rfl,G,N,q⟩:=h;cases L;have C:=R.zero;subst C;obtain⟨z,its,n,r,U,e⟩:=I.lstM G;obtain⟨u,S,J⟩:=r.get N;have o:its.toArray[its.toArray.size - 1]?=some u:=by show its.toArray[its.length - 1]?=some u;rw[<- bq,<- U];exact S
 refine o9 F.slot_list_pop ⟨_,e,rfl⟩ F.entry_list_pop (F.args_list_pop_1 _) (MeetsSeq.list_pop_last l its.toArray n u o (by rw[aw];lia)) ⟨e,?_⟩;refine⟨y,_,I.lset (its':=its.dropLast) G e ?_ r.dropLast ?_,J,q⟩;show its.toArray.eraseIdxIfInBounds (its.toArray.size - 1)=its.dropLast.toArray;rw[aw,List.eraseIdxIfInBounds_toArray,zjV];rw[List.length_dropLast];lia
def rCat:R2:=fun x y H Q=>∃l b xs zs,x=.ref l/\y=.ref b/\H l=some (.lst xs)/\H b=some (.lst zs)/\xs.length+zs.length<=sizeLine/\∀p,H p=none->Q (.ref p) (upd H p (.lst (xs++zs)))
theorem zri:OpR X (binaryOp .Add) rCat:=by
 intro pins s σ H x y v u Q I L J h;obtain⟨l,b,xs,zs,rfl,rfl,R,U,hz,q⟩:=h;cases L;cases J;obtain⟨z,its,n,r,hl,e⟩:=I.lstM R;obtain⟨z2,C,Z,N,G,Y⟩:=I.lstM U;refine PySem.P.add_list e Y ?_ (by rw[aw,aw];lia);have S:its.toArray++C.toArray=(its++C).toArray:=by simp
 rw[S];exact⟨.ref _,_,I.lnew (t':=s.toks) (r.append N) (by rw[aH];lia),rfl,q _ I.fresh⟩
end
end L2
namespace Att
open PySem PySem.W PySem.Calls PyProof.Rows
theorem zeo{P:pd}{h:bB}:∀(ns:List Int) (vs:List ae),WellAll P h vs (ns.map xW)->eE vs ns:=by
 intro ns;induction ns with
 | nil =>intro vs w;rw[cC]at w;cases w;exact .nil
 | cons n ns u =>
  intro vs w;rw[aC]at w;cases w with
  | cons a b =>cases a;exact .cons _ _ (u _ b)
theorem zkk{l:OpenLaw}{n:Nat}(U:l.most=some n){P:pd}{h:bB}{args:List WData}{vals:List ae}
  (I:l.row.toRowW.claim.pre args=true) (G:WellAll P h vals args) :
  ∃a vs ns,vals=[a9 a]/\args=[WData.list (ns.map xW)]/\h.get? a=some { cls:=.type "list",data:=.seq vs.toArray }/\eE vs ns/\ns.length<=n:=by
 have C:WShape.hasAll [] args [.list .int]=true:=(pre_splitW I).1;have hc:l.pre.holds [] { args:=args }=true:=(pre_splitW I).2;obtain⟨d,r,rfl,h1,J⟩:=hasAllW_cons C;obtain rfl:=hasAllW_nil J;obtain⟨xs,rfl,Z⟩:=hasW_list h1;obtain⟨ns,rfl⟩:=items_int Z;have u:ns.length<=n:=by
  unfold OpenLaw.pre at hc;have x:(WTm.not (.lt (.lit (.int (n:Int))) (.len (.arg 0)))).holds [] { args:=[.list (ns.map .int)] }=true:=by have x:=(holds_andW hc).1;rw[U]at x;exact x
  have v:=condW_of x (w_not (w_lt w_lit (w_len_list (w_arg rfl))));rw[ao]at v;refine n9 fun q=>?_;have Y:(n:Int)<((ns.length:Nat):Int):=by lia
  first
   | (rw[decide_eq_true Y]at v;exact absurd v (by decide))
   | (simp at v;lia)
 cases G with
 | cons L R =>
  cases R;cases L with
  | list S N=>exact⟨_,_,ns,rfl,rfl,S,zeo ns _ N,u⟩
theorem zkE(l:OpenLaw)(args:List WData):l.row.toRowW.claim.post args (.bool true) args=true :=
 postW_of (r:=l.row.toRowW) (X:=(true == true))
  (show wo [] (.bool true) .bool=true by first|rfl|decide|simp[wo,WShape.arms,WShape.armsAll])
  (show(WTm.eq .res (.lit (.bool true))).value [] { args:=args,res:=some (.bool true),after:=args }=some (.bool (true == true)) from w_eq_bool (w_res rfl) w_lit) rfl
theorem attach_call{l:OpenLaw}{n:Nat}{q:aK}{loose:List Str}{XP:(Str->Option ae)->bB->Prop}{YP:ba->bB->Prop}{d:DefRec}
  (hn:l.most=some n) (L:d.params.defaults=[])
  (call:∀(w:ba) (s₀ v:aj) (mg N:qM) (J:af) (o:Obj) (pm cd doc:ae) (a:af) (vs:List ae) (ns:List Int),
   Ground q loose [] XP w s₀ mg N v.heap->YP w v.heap ->
   v.heap.get? J=some o->o.data=.func (docDef d.name d.params d.body d.scope pm cd doc)->v.heap.CodeRec cd d.name->mg d.name=some (.ref J) ->
   v.heap.get? a=some { cls:=.type "list",data:=.seq vs.toArray }->eE vs ns->ns.length<=n->v.gens=#[] ->
   codeAny (model l.prog w) callerA (.call (.ref J) ⟨[.ref a],[]⟩) (fun r s'=>r=.ok (.ret (.bool true))/\OldK v.heap s'.heap/\s'.os=v.os/\iA s'.gens) v) :
  WalkO q loose XP YP l.row.toRowW d [] (fun f vs=>wt f vs):=by
 intro w s₀ v mg N G Y J o pm cd doc dV kV ho hd S Z U hg args vals as Iw hlay hrd R hlo;obtain rfl:dV=.none:=Dflts.none Z L;obtain rfl:kV=.none:=Dflts.noKw Z;obtain⟨a,vs,ns,rfl,rfl,C,x,I⟩:=zkk hn Iw R;refine enter_call (fR (call w s₀ v mg N J o pm cd doc a vs ns G Y ho (fd_plain hd) S U C x I hg) fun r s' hq=>?_);obtain⟨rfl,h2,h3,h4⟩:=hq;exact⟨.inl ⟨.bool true,.bool true,[],rfl,fun _=>rfl,.bool true,zkE l _,fun _=>⟨nt,fun _ hm=>(nomatch hm)⟩⟩,h2,h3,h4⟩
end Att
namespace L2
open PySem PySem.Spec PyProof.Rows
theorem zj9{vs:List ae}{ns:List Int}(h:eE vs ns):Vals (ns.map V.int) vs:=by
 induction h with
 | nil=>exact .nil
 | cons n t h u=>exact .cons ⟨t,rfl⟩ u
def Qq(s:dA):ka:=match s with
 | .FunctionDef _ a _ _ _ _ _ _ _ _=>a
 | _=>{ posonlyargs:=[],args:=[],vararg:=none,kwonlyargs:=[],kw_defaults:=[],kwarg:=none,defaults:=[] }
def JU(s:dA):List dA:=match s with
 | .FunctionDef _ _ b _ _ _ _ _ _ _=>b
 | _=>[]
def Jt(s:dA):dF:=match s with
 | .FunctionDef _ _ _ _ _ _ sc _ _ _=>sc
 | _=>{ kind:=.function,names:=[],isGenerator:=false,isCoroutine:=false }
abbrev CX0:CXT:=fun _ _ _ _ _ _=>False
abbrev E0:XK:=fun _ _ _=>False
theorem zoW{X:Cx}:Vl CX0 X E0:=fun _ _ _ _ _ _ _ h=>h.elim
structure Fun(K:qF)(x qual:Str)(st:dA)(f:af)(fd:cA):Prop where
 ex:∃(oc:ae) (od:Option af) (kV doc pm:ae) (an:Option af) (cdv ct:ae) (osl:Array (Option ae)),
  fd=cO x qual (Qq st) (JU st) (Jt st) .none kV doc pm an cdv ct/\K.lookup f=some ⟨oc,od,.func fd,osl⟩/\gO K cdv qual=true
 kp:fM K (.ref f)=true
section
variable{P:aK}{w:ba}{K:qF}{mg:qM}{base:bB}
theorem Fun.ok{x qual:Str}{st:dA}{f:af}{fd:cA}{N ps:List Str}{k:Nat}{v:Sp}(F:Fun K x qual st f fd)(S:Qp N ps (Jt st))(len:∀vs H Q E,v vs H Q E->vs.length=ps.length)
  (G:∀(l:ae) (A:aX) (outer:List Env) (s:aj) (H:Hp) (vs:List V) (Q:VK) (E:XK),Room k (A.deeper (envOfC qual (Jt st) s.heap.objs.size f l))->v vs H Q E ->
   ∃t,PSs (cxOf CX0 P w K mg base N qual (Jt st) f l A outer s H E).nox (JU st) t/\t { nx:=fun _ H'=>Q .non H',rt:=Q } (start N vs) H):FnOk P w K mg base CX0 (k+1) f fd ps v:=by
 obtain⟨R,U,kV,doc,pm,an,l,ct,L,rfl,J,u⟩:=F.ex;refine zsv J u S len fun A outer s H vs Q E I C=>?_;obtain⟨t,h,q⟩:=G l A outer s H vs Q E I C;exact⟨t,h.nox,q⟩
theorem Fun.binds{x qual:Str}{st:dA}{f:af}{fd:cA}{ps:List Str}(F:Fun K x qual st f fd)
  (h:∀(kV doc pm:ae) (an:Option af) (u ct:ae) (us:List ae),us.length=ps.length->bindArgs (cO x qual (Qq st) (JU st) (Jt st) .none kV doc pm an u ct) ⟨us,[]⟩=pure (ps.zip us)):Binds K fd ps []:=by
 obtain⟨G,I,kV,doc,pm,an,u,ct,C,rfl,J,v⟩:=F.ex;exact .all (h kV doc pm an u ct)
theorem zob{x qual:Str}{st:dA}{f:af}{I:ae}{G an:Option af}{C:Array (Option ae)}{kV doc pm v ct:ae}(l:K.lookup f=some ⟨I,G,.func (cO x qual (Qq st) (JU st) (Jt st) .none kV doc pm an v ct),C⟩)
  (c:gO K v qual=true) (k:fM K (.ref f)=true):Fun K x qual st f (cO x qual (Qq st) (JU st) (Jt st) .none kV doc pm an v ct):=⟨⟨I,G,kV,doc,pm,an,v,ct,C,rfl,l,c⟩,k⟩
end
section
variable{X:Cx}
theorem pv(i:Nat){x:Str}{pos:Pos}(o:X.N[i]?=some x:=by rfl)(u:Vis X.env.scope x:=by walk_at "V")(hd:Ndb x:=by decide)
  (l:Ncd x:=by decide):PE X (.Name x pos) (tVar i):=Qo o u hd l
end
theorem iteF{A B:Prop}(h:B):if false=true then A else B:=by rw[if_neg aS];exact h
theorem iteT{A B:Prop}(h:A):if true=true then A else B:=by rw[if_pos rfl];exact h
def Same(H H':Hp):Prop:=∀b o,H b=some o->H' b=some o
theorem Same.refl(H:Hp):Same H H:=fun _ _ h=>h
end L2
namespace L2
open PySem PySem.Spec PyProof PyProof.Rows
def closed(env:Env):List (Str×dB)->List (Str×af)->List (Str×af)
 | [],acc=>acc
 | (n,k)::r,acc=>closed env r (if (k == .free)=true then(n,(env.cells.lookup n).getD 0)::acc else acc)
theorem zeH{env:Env}:∀(l:List (Str×dB)) (acc:List (Str×af)),(∀x∈l,x.2=.free->∃c,env.cells.lookup x.1=some c) ->
  (forIn l acc fun x __s=>if (x.snd == bP)=true then do
    let c <- cellOf env x.fst
    pure (gu ((x.fst,c)::__s))
   else pure (gu __s):Sem (List (Str×af)))=pure (closed env l acc)
 | [],acc,_=>rfl
 | (n,k)::r,acc,h=>by
  have u:=fun a=>zeH (env:=env) r a fun x hx=>h x (bK _ hx);rw[oB];by_cases e:(k == bP)=true;obtain⟨c,hc⟩:=h (n,k) bZ (by simpa using e);have o:uP n env.cells=some c:=hc;have C:cellOf env n=pure c:=by unfold cellOf;rw[o]
  simp only[e,if_true,C,pure_bind];rw[u];conv=>rhs;unfold closed
  simp only[e,if_true,o,eR];have v:(k == bP)=false:=by simpa using e
  simp only[v,aO,if_false,pure_bind];rw[u];conv=>rhs;unfold closed
  simp only[v,aO,if_false]
theorem zbO{scope:dF}{env:Env}(h:∀x∈scope.names,x.2=.free->∃c,env.cells.lookup x.1=some c):closureFor scope env=pure (closed env scope.names []):=by simp only[closureFor];rw[zeH scope.names [] h];rfl
theorem zfy{env:Env}:∀(l:List (Str×dB)) (acc:List (Str×af)),(∀x∈l,x.2=.free->∃c,env.cells.lookup x.1=some c) ->
  (∀x c,acc.lookup x=some c->env.cells.lookup x=some c)->∀x c,(closed env l acc).lookup x=some c->env.cells.lookup x=some c
 | [],acc,_,ha=>ha
 | (n,k)::r,acc,h,ha=>by
  unfold closed;refine zfy r _ (fun x hx=>h x (bK _ hx)) fun x c=>?_;by_cases e:(k == bP)=true;obtain⟨d,hd⟩:=h (n,k) bZ (by simpa using e);have v:uP n env.cells=some d:=hd;simp only[e,if_true,v,eR];intro q;rw[cF]at q;by_cases ex:(x == n)=true;simp only[ex]at q;have C:x=n:=by simpa using ex
  cases q;rw[C];exact v;have G:(x == n)=false:=by simpa using ex
  simp only[G]at q;exact ha x c q;have I:(k == bP)=false:=by simpa using e
  simp only[I,aO,if_false];exact ha x c
theorem zfA{env:Env}:∀(l:List (Str×dB)) (acc:List (Str×af)) (x:Str),(∃c,acc.lookup x=some c)->∃c,(closed env l acc).lookup x=some c
 | [],_,_,h=>h
 | (n,k)::r,acc,x,h=>by
  unfold closed;refine zfA r _ x ?_;by_cases e:(k == bP)=true;simp only[e,if_true];rw[cF];cases(x == n) with
  | true=>exact⟨_,rfl⟩
  | false=>exact h
  have v:(k == bP)=false:=by simpa using e
  simp only[v,aO,if_false];exact h
theorem zfz{env:Env}:∀(l:List (Str×dB)) (acc:List (Str×af)) (x:Str),(x,bP)∈l->∃c,(closed env l acc).lookup x=some c
 | [],_,_,h=>nomatch h
 | (n,k)::r,acc,x,h=>by unfold closed;rcases ay.mp h with e|h;cases e;refine zfA r _ _ ?_;have v:(bP == bP)=true:=rfl;simp only[v,if_true];rw[cF];simp;exact zfz r _ x h
theorem lookup_mem{α:Type}{l:List (Str×α)}{x:Str}{v:α}(h:l.lookup x=some v):(x,v)∈l:=by
 induction l with
 | nil=>simp at h
 | cons p r o =>
  obtain⟨n,w⟩:=p;rw[cF]at h;by_cases e:(x == n)=true;simp only[e]at h;cases h;have C:x=n:=by simpa using e
  rw[C];exact bZ;have u:(x == n)=false:=by simpa using e
  simp only[u]at h;exact bK _ (o h)
def Ua(env:Env)(p:Str×dB):Str×dB:=if (p.2 == bP&&env.scope.kind == .function&&env.kindOf p.1 == some .cell)=true then(p.1,.cell) else p
theorem zku(env:Env)(p:Str×dB):(Ua env p).1=p.1:=by unfold Ua;by_cases c:(p.2 == bP&&env.scope.kind == .function&&env.kindOf p.1 == some .cell)=true;rw[if_pos c];rw[if_neg c]
def kin(env:Env)(x:Str):Option dB->Option dB
 | some .free=>if (env.scope.kind == .function&&env.kindOf x == some .cell)=true then some .cell else some .free
 | o=>o
theorem zkt(env:Env)(x:Str)(k:dB):some (Ua env (x,k)).2=kin env x (some k):=by
 unfold Ua;by_cases c:(k == bP&&env.scope.kind == .function&&env.kindOf x == some .cell)=true;rw[if_pos c];rw[aW,aW]at c;have v:k=.free:=by simpa using c.1.1
 subst v;unfold kin;rw[if_pos (by rw[aW];exact⟨c.1.2,c.2⟩)];rw[if_neg c];cases k with
 | free =>have:¬(env.scope.kind == .function&&env.kindOf x == some .cell)=true:=fun z=>c (by have C:(bP == bP)=true:=rfl;rw[C,eH];exact z);unfold kin;rw[if_neg this]
 | _=>rfl
theorem zfI(scope:dF)(env:Env):(relabel scope env).names=scope.names.map (Ua env):=by show scope.names.map _=_;refine cn fun p _=>?_;obtain⟨n,k⟩:=p;rfl
theorem ze7(env:Env):∀(l:List (Str×dB)) (x:Str),(l.map (Ua env)).lookup x=kin env x (l.lookup x)
 | [],_=>rfl
 | (n,k)::r,x=>by
  have v:=ze7 env r x;have C:Ua env (n,k)=(n,(Ua env (n,k)).2):=fA (zku env (n,k)) rfl;rw[aC,C,cF,cF];by_cases e:(x == n)=true;have I:x=n:=by simpa using e
  subst I;simp only[beq_self_eq_true];exact zkt env x k;have G:(x == n)=false:=by simpa using e
  simp only[G];exact v
theorem zdG(scope:dF)(env:Env)(x:Str):(relabel scope env).names.lookup x=kin env x (scope.names.lookup x):=by rw[zfI];exact ze7 env _ x
def tbH(A B:Hp):Hp:=fun b=>match A b with
 | some (.tbl q)=>some (.tbl q)
 | _=>B b
theorem zke{A B:Hp}(h:∀b q,A b=some (.tbl q)->B b=some (.tbl q)):tbH A B=B:=funext fun b=>by unfold tbH;split;rename_i q e;exact(h b q e).symm;rfl
theorem zqm{A B:Hp}{b:af}{q:Str}(h:A b=some (.tbl q)):tbH A B b=some (.tbl q):=by unfold tbH;rw[h]
abbrev capN(X:Cx)(capt:List Nat):List Str:=capt.map fun i=>X.N.getD i mn
abbrev capS(capt:List Nat)(σ:St):St:=capt.map fun i=>σ.getD i none
abbrev Qh(own:List Str):St:=own.map fun _=>none
def celO(scope:dF)(C:af):List (Str×af):=cellsFrom (C+1) scope.names []
def ownCl(X:Cx)(scope:dF)(C:af):List (Str×af):=celO scope C++closed X.env scope.names []
abbrev QJ(X:Cx)(scope:dF)(own:List Str)(capt:List Nat)(C:af)(s₀:aj)(H₀:Hp)(fp:List af):Cx :=
 { X with N:=own++capN X capt,s₀:=s₀,H₀:=tbH X.H₀ H₀,env:=compEnvC scope (ownCl X scope C) C X.env,outer:=X.stack,stack:=X.stack,ex:=fp,fn:=fun y=>scope.names.lookup y == some .cell,pn:=[],xe:=fun _ _=>False }
abbrev Fam(X:Cx)(scope:dF)(own:List Str)(capt:List Nat)(P:Cx->Prop):Prop:=∀C s₀ H₀ fp,P (QJ X scope own capt C s₀ H₀ fp)
theorem zlW{cl:List (Str×af)}(names:List (Str×dB)):∀(n:Nat) (acc:List (Str×af)),cellsFrom n names (acc++cl)=cellsFrom n names acc++cl:=by
 induction names with
 | nil=>exact fun _ _=>rfl
 | cons a r l =>obtain⟨x,k⟩:=a;intro n acc;unfold cellsFrom;by_cases z:(k == h8)=true;rw[if_pos z,if_pos z];exact l (n+1) ((x,n)::acc);rw[if_neg z,if_neg z];exact l n acc
theorem zlV{x:Str}{c:af}(names:List (Str×dB)):∀(n:Nat) (acc:List (Str×af)),(x,c)∈cellsFrom n names acc->(x,h8)∈names\/(x,c)∈acc:=by
 induction names with
 | nil=>exact fun _ _ h=>.inr h
 | cons a r o =>obtain⟨y,k⟩:=a;intro n acc h;unfold cellsFrom at h;by_cases z:(k == h8)=true;rw[if_pos z]at h;rcases o _ _ h with h|h;exact .inl (.tail _ h);rcases ay.mp h with e|h;cases e;rw[eq_of_beq z];exact .inl (.head _);exact .inr h;rw[if_neg z]at h;exact(o _ _ h).imp (.tail _) id
theorem Vo{scope:dF}{h':bB}{C n b c:Nat}{x:Str}(l:oS h' (C+1) (celO scope C))(o:n<=C)(z:(x,c)∈celO scope C)(u:b<n):c≠b:=fun e=>by subst e;exact fC _ (au (au u o) (gQ (l.empty _ _ z).2))
structure JB(scope:dF)(own:List Str)(capt:List Nat)(X:Cx):Prop where
 kind:scope.kind=.function
 nov:∀y∈scope.names,y.2=.free->(y.1,h8)∉scope.names
 names:∀y∈scope.names,y.2=.local->scope.names.lookup y.1=some .local
 frees:∀y∈scope.names,y.2=.free->X.env.kindOf y.1=some .cell\/X.env.kindOf y.1=some .free
 caps:∀k∈capt,scope.names.lookup (X.N.getD k mn)=some .free
theorem getD_some{α:Type}{l:List (Option α)}{k:Nat}{v:α}(h:l.getD k none=some v):l[k]?=some (some v):=by
 rw[aZ]at h;cases e:l[k]? with
 | none=>rw[e]at h;cases h
 | some o=>rw[e]at h;simp at h;rw[h]
section
variable{X:Cx}{scope:dF}{own:List Str}{capt:List Nat}
theorem JB.cells(S:JB scope own capt X)(ok:X.Ok):∀x∈scope.names,x.2=.free->∃c,X.env.cells.lookup x.1=some c:=fun x hx hf=>ok.has x.1 (S.frees x hx hf)
theorem JB.sub(S:JB scope own capt X)(ok:X.Ok):∀x c,(closed X.env scope.names []).lookup x=some c->X.env.cells.lookup x=some c :=
 zfy scope.names [] (S.cells ok) (fun x c h=>nomatch (show(none:Option af)=some c from h))
theorem JB.cell(S:JB scope own capt X)(ok:X.Ok){C:af}{x:Str}{c:af}(h:(ownCl X scope C).lookup x=some c):(x,c)∈celO scope C\/X.env.cells.lookup x=some c:=by
 rw[ownCl,gz]at h;cases e:(celO scope C).lookup x with
 | some d =>rw[e]at h;cases h;exact .inl (mem_of_lookup e)
 | none =>rw[e]at h;exact .inr (S.sub ok x c h)
theorem JB.free(S:JB scope own capt X){C:af}{x:Str}(h:scope.names.lookup x=some .free):∃d,(closed X.env scope.names []).lookup x=some d/\(ownCl X scope C).lookup x=some d:=by
 obtain⟨d,hd⟩:=zfz (env:=X.env) scope.names [] x (lookup_mem h);refine⟨d,hd,?_⟩;rw[ownCl,gz];cases e:(celO scope C).lookup x with
 | none=>exact hd
 | some q =>rcases zlV _ _ _ (mem_of_lookup e) with z|z;exact absurd z (S.nov _ (lookup_mem h) rfl);cases z
theorem zjm{x:Str}(h:(relabel scope X.env).names.lookup x=some .cell\/(relabel scope X.env).names.lookup x=some .free):scope.names.lookup x=some .cell\/scope.names.lookup x=some .free:=by
 rw[zdG]at h;cases q:scope.names.lookup x with
 | none=>rw[q]at h;rcases h with z|z <;> cases z
 | some k =>
  rw[q]at h;cases k with
  | free=>exact .inr rfl
  | cell=>exact .inl rfl
  | _=>rcases h with z|z <;> cases z
theorem zpZ{pins:qO}{σ:St}{H₀:Hp}{s₀:aj}{C:af}{L:List af}{h':bB}(S:JB scope own capt X)(I:Inv X pins σ H₀ s₀)(hf:∀b∈L,FpOk X pins H₀ b)(N:∀b∈L,b<s₀.heap.objs.size)(v:s₀.heap.objs.size<=C)(G:oS h' (C+1) (celO scope C)) :
  (QJ X scope own capt C s₀ H₀ L).Ok:=by
 have old:∀{x y c},(x,c)∈celO scope C->X.env.cells.lookup y=some c->False:=fun h hz=>by obtain⟨w,q⟩:=I.cell _ _ hz;exact Vo G v h q.lt rfl
 unfold QJ;rw[zke I.base.tbls];refine⟨I.ok.mod,S.kind,I.ok.glob,I.ok.blt,v,fun x y c h1 Y=>?_,fun x Z=>?_,fun x c z h=>?_,I.ok.hd,I.ok.frames,.inl rfl,fun b hb=>?_,I.bs,aP I.ok.bsz I.sz,fun b o e hb=>?_,fun b hb z=>?_,I.stack,I.stkFree⟩;rcases S.cell I.ok h1 with a|a <;> rcases S.cell I.ok Y with b|b;exact name_of_addr G.apart a b;exact(old a b).elim;exact(old b a).elim;exact I.ok.inj x y c a b;rcases zjm Z with q|q;have:=dP scope.names (C+1) [] (.inl q);show ∃c,(ownCl X scope C).lookup x=some c;rw[ownCl,gz];obtain⟨d,hd⟩:=gf.mp this;exact⟨d,by rw[celO,hd];rfl⟩;exact let ⟨d,_,e⟩:=S.free q;⟨d,e⟩;have q:=dP scope.names (C+1) [] (.inl (eq_of_beq z));obtain⟨d,hd⟩:=gf.mp q;have h:(ownCl X scope C).lookup x=some c:=h;rw[ownCl,gz,celO,hd]at h;cases h;have:=(G.empty _ _ (mem_of_lookup hd)).2;exact aP v (gQ this);obtain⟨f0,f1,f2,J,f4,R⟩:=hf b hb;have U:=N b hb;refine⟨aJ (au U v),fun x c e=>?_⟩;rcases S.cell I.ok e with z|z;exact Vo G v z U;exact f4 x c z;obtain⟨f0,f1,f2,J,f4,R⟩:=hf b hb;rcases J with z|z;exact I.ok.noex b o e z;exact absurd (au (aD (I.ok.bs b o e).1) z) (fC _);obtain⟨f0,f1,f2,J,f4,R⟩:=hf b hb;rcases ay.mp (I.stkSub b z) with q|q;exact f1 q;exact f2 q
theorem zlS{J:HO}{pins:qO}{σ:St}{H₀:Hp}{s₀:aj}{fp:List af}{h':bB}{D C:af}(S:JB scope own capt X)(I:Inv X pins σ H₀ s₀)(hf:∀b∈fp,FpOk X pins H₀ b)(hfp:∀b∈fp,b<s₀.heap.objs.size)
  (Y:s₀.heap.objs.size<=D) (U:D<C) (old:∀b o,s₀.heap.get? b=some o->h'.get? b=some o) (hns:h'.Ns C (fun _=>none)) (ck:oS h' (C+1) (celO scope C)) (R:JG X.prog X.w (upd H₀ D J) h' D J) :
  Inv (QJ X scope own capt C s₀ H₀ fp) [] (Qh own++capS capt σ) (upd H₀ D J) { s₀ with heap:=h' }:=by
 have hC:s₀.heap.objs.size<=C:=bY (dY Y U);have ok:=zpZ (own:=own) (capt:=capt) S I hf hfp hC ck;have hn:H₀ D=none:=I.hok.fresh Y;unfold QJ at ok ⊢;rw[zke I.base.tbls]at ok ⊢;refine⟨ok,rfl,I.bare,Un.laid old Y hn,⟨_,hns,fun i x v e1 L e3=>?_⟩,fun x c e=>?_,?_,fun x c e=>?_,fun p hp=>absurd (show p∈([]:qO) from hp) (by simp),I.hok.laid (o:=J) old Y R,(by show(Qh own++capS capt σ).length=(own++capN X capt).length;simp[Qh,capS,capN])⟩;have N:(Qh own).length=own.length:=ao ..;by_cases hi:i<own.length;rw[bg (by rw[N];exact hi)]at L;unfold Qh at L;rw[a6]at L;cases q:own[i]? with
 | none=>rw[q]at L;cases L
 | some z=>rw[q]at L;cases L
 have hi':own.length<=i:=n9 hi;have G:(own++capN X capt)[i]?=some x:=e1;rw[aU hi']at G;rw[aU (by rw[N];exact hi'),N]at L;unfold capN at G;unfold capS at L;rw[a6]at G L;cases q:capt[i - own.length]? with
 | none=>rw[q]at G;cases G
 | some k =>
  rw[q]at G L;have ex:X.N.getD k mn=x:=aI G;have ev:σ.getD k none=some v:=aI L;have hv:=getD_some ev;have Z:k<X.N.length:=by rw[<- I.len];exact(ah.mp hv).1
  have hx:X.N[k]?=some x:=by rw[aZ,ak Z]at ex;rw[ak Z];exact congrArg some ex
  have Ia:=S.caps k (aM q);rw[ex]at Ia;have Ih:=S.frees _ (lookup_mem Ia) rfl;obtain⟨m,hm,hl⟩:=I.loc;obtain⟨u,r,l⟩:=hl k x v hx hv (Ih.elim (fun z=>.inr (.inl z)) fun z=>.inr (.inr z));refine⟨u,r,.inr ⟨?_,?_⟩⟩;have e:=zdG scope X.env x;rw[Ia]at e;show(relabel scope X.env).names.lookup x=some .cell\/(relabel scope X.env).names.lookup x=some .free;rw[e];unfold kin;by_cases c:(X.env.scope.kind == .function&&X.env.kindOf x == some .cell)=true;rw[if_pos c];exact .inl rfl;rw[if_neg c];exact .inr rfl;rcases l with⟨z,_⟩|⟨_,c,hc,o,R,hod⟩;rcases Ih with y|y <;> (have y':X.env.kindOf x=_:=y;rw[z]at y';cases y');obtain⟨d,hd,hd2⟩:=S.free (C:=C) Ia;have:=S.sub I.ok x d hd;rw[hc]at this;cases this;exact⟨c,hd2,o,old _ _ R,hod⟩
 rcases S.cell I.ok e with z|z;exact⟨none,(ck.empty _ _ z).1⟩;obtain⟨v,o,R,hd⟩:=I.cell x c z;exact⟨v,o,old _ _ R,hd⟩;show upd H₀ D J C=none;rw[Jj (gM U)];exact I.hok.fresh hC;show upd H₀ D J c=none;rcases S.cell I.ok e with z|z;rw[Jj (Vo ck (av _) z U)];exact I.hok.fresh (aP hC (gQ (ck.empty _ _ z).2));obtain⟨v,o,R,hd⟩:=I.cell x c z;rw[Jj (aJ (au (aD R) Y))];exact I.freeC x c z
theorem znA{pins Z:qO}{σ σ':St}{H₀ H':Hp}{s₀ s':aj}{N:List af}{l:bB}{C:af}(I:Inv X pins σ H₀ s₀)(hf:∀b∈N,FpOk X pins H₀ b)(Y:s₀.heap.objs.size<=C)
  (J:Inv (QJ X scope own capt C s₀ H₀ N) Z σ' H' s') (sb:fQ C s'.heap l):Inv X pins σ H' { s' with heap:=l }:=by
 have L:H' C=none:=J.free;have x:∀b o,s₀.heap.get? b=some o->b≠C:=fun b o e=>aJ (au (aD e) Y);have u:Un (frs X.stack) N (tbH X.H₀ H₀) H' s₀.heap s'.heap:=J.base;rw[zke I.base.tbls]at u;have S:Un (frs X.stack) N H₀ H' s₀.heap l:=by refine⟨fun b o q n R G=>(sb.2 b (x b o q)).trans (u.keep b o q n R G),fun b o q n R G=>?_,u.free,fun b o q G=>?_,u.tups,u.frzs,u.tbls⟩;obtain⟨sl,e⟩:=u.slot b o q n R G;exact⟨sl,(sb.2 b (x b o q)).trans e⟩;obtain⟨U,e⟩:=u.there b o q G;exact⟨U,(sb.2 b (x b o q)).trans e⟩
 have hok:HOk X.prog X.w H' l:=fun b ob e=>by refine(J.hok b ob e).stay (fun c v hc q=>(sb.2 c ?_).trans q) (fun _ q=>q) (fun _ _ q=>q) fun _ _ _ q=>q;rintro rfl;rcases hc with z|z;subst z;rw[L]at e;cases e;rw[L]at z;cases z
 refine I.call' (s':={ s' with heap:=l }) J.os S hok J.bare fun b hb=>?_;obtain⟨f0,f1,f2,f3,f4,f5⟩:=hf b hb;exact⟨f3,f1,f4,f5⟩
end
def PTs(Y:Cx)(ifs:List aT)(t:TT):Prop :=
 ∀(pins:qO) (s:aj) (σ:St) (H:Hp) (Q:Bool->Hp->Prop),Inv Y pins σ H s->t σ H Q ->
  wpAny (model Y.prog Y.w) Y.A (forIn ifs true fun c r=>if r=true then do let ok <- isTrue c Y.env (eval c Y.env);pure (gu ok) else pure (gu r)) (TP Y pins σ Q) Y.xe s
def tYes:TT:=fun _ H Q=>Q true H
theorem zoF{Y:Cx}:PTs Y [] tYes:=fun _ _ _ H _ I h=>wpAny_tests_nil ⟨H,I,h⟩
theorem zoE{Y:Cx}{c:aT}{t:TT}(h:PT Y c t):PTs Y [c] t:=fun pins s σ H Q I q=>wpAny_tests_one (h pins s σ H Q I q)
abbrev NoX:ae->aj->Prop:=fun _ _=>False
def Wk:St->St->Prop
 | [],[]=>True
 | none::r,_::r'=>Wk r r'
 | some v::r,o::r'=>o=some v/\Wk r r'
 | _,_=>False
theorem Wk.weak:∀{σ σ':St},Wk σ σ'->σ.length=σ'.length/\∀(i:Nat) v,σ[i]?=some (some v)->σ'[i]?=some (some v)
 | [],[],_=>⟨rfl,fun _ _ h=>by simp at h⟩
 | none::r,o::r',h=>by
  obtain⟨a,b⟩:=Wk.weak (σ:=r) (σ':=r') h;refine⟨by simp[a],fun i v e=>?_⟩;cases i with
  | zero=>simp at e
  | succ i=>simpa using b i v (by simpa using e)
 | some w::r,o::r',h=>by
  obtain⟨h0,l⟩:o=some w/\Wk r r':=h;obtain⟨a,b⟩:=Wk.weak l;refine⟨by simp[a],fun i v e=>?_⟩;cases i with
  | zero=>rw[h0];simpa using e
  | succ i=>simpa using b i v (by simpa using e)
 | none::_,[],h=>cm h
 | some _::_,[],h=>cm h
 | [],_::_,h=>cm h
abbrev TM:=St->Hp->(Hp->Prop)->Prop
def Vm(e:aT)(d:Nat)(tg iter:aT)(ifs:List aT)(acc:ae)(env:Env)(nx:Sem Fin->Sem Fin):Prop:=∀it,compTurn e d it acc env=(do
 standAt iter.pos
 match <- pyNext it with
 | none=>pure (.done .next)
 | some v =>
  letOwnedTupleGo tg it v
  assign tg env v
  let mut ok:=true
  for c in ifs do
   if ok then ok <- isTrue c env (eval c env)
  if ok then nx (again (.compLoop e d it acc env)) else again (.compLoop e d it acc env))
def IsC(e:aT):Prop:=∀(A:aX) (P:aK) (w:ba) (d:Nat) (it acc:ae) (env:Env),(A.under (.compLoop e d it acc env)=A/\(model P w).den (.compLoop e d it acc env)=(compTurn e d it acc env).onRaise fun x=>do noteFrame x env;theTreesLotGoes x) /\
 (A.under (.compStart e d it acc env)=A/\(model P w).den (.compStart e d it acc env)=(compStart e d it acc env).onRaise fun x=>do noteFrame x env;standAt theWindowsPlace)/\(Code.compLoop e d it acc env).quiet=true
def PM(Y:Cx)(nx:Sem Fin->Sem Fin)(l:TM):Prop:=∀(pins:qO) (s:aj) (σ:St) (H:Hp) (N:Hp->Prop) (k:Sem Fin) (Q:Fin->aj->Prop) (E:qV),Inv Y pins σ H s->l σ H N ->
 (∀s' H',Inv Y pins σ H' s'->N H'->wpAny (model Y.prog Y.w) Y.A k Q E s')->wpAny (model Y.prog Y.w) Y.A (nx k) Q E s
def Y0(g:TG)(tt:TT)(I:TM)(σ:St)(J:It)(G:Hp)(Q:Hp->Prop):Prop:=∃(n:Nat) (W:Nat->Hp->Prop),W 0 G/\∀i o,W i o ->
 (i=n->J.stop i o/\Q o)/\(i<n->J.go i o/\∀x u,J.yld i o x u->g x σ u fun l C=>Wk σ l/\tt l C fun b v=>if b=true then I l v (W (i+1)) else W (i+1) v)
section
variable{Y:Cx}{e:aT}{d:Nat}{tg iter:aT}{ifs:List aT}{acc:ae}{nx:Sem Fin->Sem Fin}{g:TG}{tt:TT}{te:TM}{pins:qO}{σ:St}{s:aj}{H1:Hp}{Q:Hp->Prop}{R:tF->aj->Prop}
theorem ziS(hC:IsC e)(Z:Y.xe=NoX)(hc:Y.calm=true)(hT:Vm e d tg iter ifs acc Y.env nx)(hg:PG Y tg g)(ht:PTs Y ifs tt)(hm:PM Y nx te){it:af}{v:List af}{tn:Nat->bB->Prop}{J:It}(T:Turn Y.prog Y.w Y.K tg J v it tn)
  (Il:∀{H':Hp},(∀b∈v,H' b=none)->∀b∈v,FpOk Y pins H' b) (I:Inv Y pins σ H1 s) (st:tn 0 s.heap) (fr:∀b∈v,H1 b=none) (h:Y0 g tt te σ J H1 Q) (hR:∀s' H',Inv Y pins σ H' s'->Q H'->R (.ok .next) s') :
  codeAny (model Y.prog Y.w) Y.A (.compLoop e d (.ref it) acc Y.env) R s:=by
 obtain⟨n,W,w0,turn⟩:=h;refine codeAny_loop (hC Y.A Y.prog Y.w _ _ _ _).2.2 (fun m s'=>∃i H',i+m=n/\Inv Y pins σ H' s'/\tn i s'.heap/\(∀b∈v,H' b=none)/\W i H') ?_ n ⟨0,H1,du _,I,st,fr,w0⟩;rintro m s4 ⟨i,H4,him,I4,st4,fr4,w4⟩;rw[(hC Y.A Y.prog Y.w _ _ _ _).1.1,(hC Y.A Y.prog Y.w _ _ _ _).1.2];refine wpAny_noted (bN (E:=NoX) ?_ (fun _ _ q=>q) fun _ _ z=>cm z);rw[hT];refine aa (dS (aa ?_));obtain⟨t1,t2⟩:=turn i H4 w4;by_cases hi:i=n
 ·obtain⟨stop,qn⟩:=t1 hi;refine thn (T.done Y rfl rfl rfl hc i pins s4 _ H4 NoX I4 (Il fr4) st4 stop) fun r s5 l=>?_;obtain⟨hr,I5⟩:=l;subst hr;exact ag (hR _ _ I5 qn)
 obtain⟨go,step⟩:=t2 (by omega);refine thn (T.item Y rfl rfl rfl hc i pins s4 _ H4 NoX I4 (Il fr4) st4 go) fun r s5 l=>?_;obtain⟨u,hr,h5⟩:=l;subst hr;refine aa (thn h5 fun _ s6 l=>aa ?_);obtain⟨x,H6,I6,r6,y6,G,fr6⟩:=l;have a1:=hg _ s6 _ H6 x u _ (I6.pinned (Il fr6) (T.obj _ _ G)) r6 (step x H6 y6);rw[Z]at a1;refine thn a1 fun _ s7 l=>aa ?_;obtain⟨C,H7,I7,wk,q7⟩:=l;obtain⟨wl,wv⟩:=wk.weak;have again:∀{N:aj} {S:Hp},Inv Y (pins++Zx v s6.heap) C S N->W (i+1) S->∃m',m'<m/\∃i H',i+m'=n/\Inv Y pins σ H' N/\tn i N.heap/\(∀b∈v,H' b=none)/\W i H':=fun {N S} U w8=>by have pn:∀{b o},b∈v->s6.heap.get? b=some o->_:=fun {b o} hb e=>U.pin (b,o) (aL _ (aL _ (zdw hb e)));refine⟨m - 1,by omega,i+1,S,by omega,(U.unpinned).weak wl wv,T.keep _ _ _ G fun b hb o e=>(pn hb e).1,fun b hb=>?_,w8⟩;obtain⟨o,e,d⟩:=T.obj _ _ G b hb;exact(pn hb e).2.1
 have a2:=ht _ s7 C H7 _ I7 q7;rw[Z]at a2;refine thn a2 fun ok N l=>?_;obtain⟨S,U,q8⟩:=l;cases ok with
 | false=>exact ag ⟨rfl,again U (by simpa using q8)⟩
 | true=>exact hm _ N C S _ _ _ _ U (by simpa using q8) fun s' H' I' w'=>ag ⟨rfl,again I' w'⟩
theorem zgC{prog:aK}{w:ba}{A:aX}{it:ae}{env:Env}(u:IsC e)(v:(clausesOf e)[d]?=some ⟨tg,iter,ifs,0⟩)
  (h0:codeAny (model prog w) A (.compLoop e d it acc env) R s)
  (h:wpAny (model prog w) A (pyIter it) (fun l s'=>codeAny (model prog w) A (.compLoop e d l acc env) R s') (notedBy (model prog w) A env fun x s'=>R (.error x) s') s) :
  codeAny (model prog w) A (.compStart e d it acc env) R s:=by
 refine oC ?_;rw[(u A prog w _ _ _ _).2.1.1,(u A prog w _ _ _ _).2.1.2];refine wpAny_notedAt ?_;unfold compStart;rw[v];show wpAny _ _ (PySem.ask >>= _) _ _ s;refine aa (wpAny_askSetting (wpAny_ite ?_));split;first
  | exact aa (ag (ag (mv (u A prog w _ _ _ _).2.2 h0)))
  | exact ag (mv (u A prog w _ _ _ _).2.2 h0)
 first
  | exact aa (dM (aa (dS (aa (bN h (fun l s' h'=>ag (mv (u A prog w _ _ _ _).2.2 h')) fun _ _ x=>x)))))
  | (refine aa (dM ?_);show wpAny _ _ (standAt iter.pos >>= _) _ _ s;exact aa (dS (aa (bN h (fun l s' h'=>ag (mv (u A prog w _ _ _ _).2.2 h')) fun _ _ x=>x))))
def nxN(e:aT)(d:Nat)(l:aT)(acc:ae)(env:Env)(k:Sem Fin):Sem Fin:=do
 let x <- eval l env
 standAt l.pos
 let x <- foldedSetIterable l env x;let _ <- runOwn (.compStart e d (<- holding [x] (pyIter x)) acc env) env
 k
theorem zoJ{S:TI}(G:IsC e)(u:Y.xe=NoX)(hc:Y.calm=true)(v:(clausesOf e)[d]?=some ⟨tg,iter,ifs,0⟩)(hT:Vm e d tg iter ifs acc Y.env nx)(hs:Fsi Y iter)(hi:PI Y tg iter S)(hg:PG Y tg g)(ht:PTs Y ifs tt)(hm:PM Y nx te) :
  PM Y (nxN e d iter acc Y.env) (fun σ H N=>S σ H fun J H1=>Y0 g tt te σ J H1 N):=by
 intro pins s σ H N k Q E I h hk;have a:=hi pins s σ H _ I h;rw[u]at a;unfold nxN;refine aa (bN a (fun x s1 h1=>aa (dS (aa (lO (hs x) (aa (bW (bN h1 (fun itv s2 Z=>?_) fun _ _ z=>z.elim))))))) fun _ _ z=>z.elim);obtain⟨it,fp,tn,J,H2,rfl,U,T,l,f2,lw⟩:=Z;have loop:codeAny (model Y.prog Y.w) Y.A (.compLoop e d (.ref it) acc Y.env) (fun r s'=>r=.ok .next/\wpAny (model Y.prog Y.w) Y.A k Q E s') s2 :=
  ziS G u hc hT hg ht hm T (fun hn b hb=>⟨hn b hb,(f2 b hb).2⟩) U l (fun b hb=>(f2 b hb).1) lw fun s' H' I' q=>⟨rfl,hk s' H' I' q⟩
 refine aa (wpAny_runOwn (fR (zgC G v loop (T.self Y.A 0 _ _ _ l loop)) fun r s7 C=>?_));obtain⟨rfl,C⟩:=C;exact C
end
def NA(P:aK)(w:ba)(u:Sem ae)(z:af->HO->Prop):Prop:=∀(A:aX) (E:qV) (s:aj) (Q:qV),sysModules<s.heap.objs.size ->
 (∀l:Obj,l.isFreed=false->(∀h':bB,h'.get? s.heap.objs.size=some l->∃o,z s.heap.objs.size o/\∀H',JG P w H' h' s.heap.objs.size o)->Q (.ref s.heap.objs.size) { s with heap:=s.heap.push l })->wpAny (model P w) A u Q E s
structure Vb(e tg iter:aT)(ifs:List aT)(scope:dF)(Ho:Sem ae)(nx:ae->Env->Sem Fin->Sem Fin):Prop where
 nof:IsC e
 cl:∃gs,clausesOf e=⟨tg,iter,ifs,0⟩::gs
 turn:∀acc env,Vm e 0 tg iter ifs acc env (nx acc env)
 ev:∀env,∃p,eval e env=comprehension e scope env p Ho false (eval iter env) none
 ev2:∀env u,∃p,evalThenUse e env u=do let _ <- comprehension e scope env p Ho false (eval iter env) (some u)
section
theorem zjv{M:oV}{A:aX}{E:qV}{s:aj}{scope:dF}{globals:af}{cl:List (Str×af)}{qual:Str}{outer:Env}{Q:Env->aj->Prop}
  (l:∀h',h'.Ns s.heap.objs.size (fun _=>none)->(∀b o,s.heap.get? b=some o->h'.get? b=some o)->oS h' (s.heap.objs.size+1) (celO scope s.heap.objs.size) ->
   Q { scope,locals:=s.heap.objs.size,globals,cells:=celO scope s.heap.objs.size++cl,qual,func:=none,code:=outer.code,frame:=outer.frame,builtins:=outer.builtins } { s with heap:=h' }) :
  wpAny M A (newFunctionEnv scope globals cl [] qual none .none (some outer)) Q E s:=by
 simp only[newFunctionEnv,Option.isSome_some,if_true];refine aa (wpAny_alloc (aa (wpAny_layCells _ (fun name kind cells=>by cases hkc:kind == h8 <;> simp[hkc]) _ _ _ _ ?_)));have sz:(s.heap.push { cls:=.type "dict",data:=.dict #[] }).objs.size=s.heap.objs.size+1:=pE ..;have ok:=cellsFrom_ok scope.names (s.heap.push { cls:=.type "dict",data:=.dict #[] }) (s.heap.objs.size+1) [] ⟨fun _ _ u=>(nomatch u),nt⟩ (by rw[sz];exact av _);dsimp only;rw[show cellsFrom (s.heap.push { cls:=.type "dict",data:=.dict #[] }).objs.size scope.names cl=celO scope s.heap.objs.size++cl by rw[sz];exact zlW (cl:=cl) scope.names _ []];rw[sz]at ok;rw[lQ];refine aa (ag (ag (l _ ?_ (fun b o e=>oD _ _ b o (aq _ e)) ok)));exact(Heap.Ns.new s.heap (.type "dict")).keeps (oD _ _)
variable{X:Cx}{e tg iter:aT}{ifs:List aT}{scope:dF}{Ho:Sem ae}{nx:ae->Env->Sem Fin->Sem Fin}{z:af->HO->Prop}{own:List Str}{capt:List Nat}{wi:TI}{g:TG}{tt:TT}{te:af->TM}
theorem zlR(S:JB scope own capt X){pins:qO}{σ:St}{u:Hp}{s2:aj}{o:List af}{C:af}{h':bB}(G:Inv X pins σ u s2)(f2:∀b∈o,FpOk X pins u b)(v:∀b∈o,b<s2.heap.objs.size)(I:s2.heap.objs.size<=C)(U:oS h' (C+1) (celO scope C)){H':Hp}(N:∀b∈o,H' b=none):∀b∈o,FpOk (QJ X scope own capt C s2 u o) [] H' b:=fun b hb=>by obtain⟨Y,g1,g2,g3,L,Z⟩:=f2 b hb;have J:=v b hb;refine⟨N b hb,aJ (au J I),fun z=>?_,.inl hb,fun x c e=>?_,fun p R=>absurd (show p∈([]:qO) from R) (by simp)⟩;rcases ay.mp (G.stkSub b z) with q|q;exact g1 q;exact g2 q;rcases S.cell G.ok e with z|z;exact Vo U I z J;exact L x c z
def zqp(z:af->HO->Prop)(own:List Str)(capt:List Nat)(wi:TI)(g:TG)(tt:TT)(te:af->TM):TE:=fun σ H Q=>wi σ H fun J o=>∀D l,o D=none->z D l->Y0 g tt (te D) (Qh own++capS capt σ) J (upd o D l) (Q (.ref D))
theorem zi9(hc:X.calm=true)(S:JB scope own capt X)(k:Vb e tg iter ifs scope Ho nx)(na:NA X.prog X.w Ho z)(hg:Fam X scope own capt fun Y=>PG Y tg g)(ht:Fam X scope own capt fun Y=>PTs Y ifs tt)(hm:∀D,Fam X scope own capt fun Y=>PM Y (nx (.ref D) Y.env) (te D))
  {pins:qO} {σ:St} {Q:VK} {itv:ae} {s2:aj} {E:qV} {RR:ae->af->tF->aj->Prop}
  (h2:PIE X pins σ tg (fun J H1=>∀D ho,H1 D=none->z D ho->Y0 g tt (te D) (Qh own++capS capt σ) J (upd H1 D ho) (Q (.ref D))) itv s2)
  (hR:∀D C s' H',(∃m,s'.heap.Ns C m)->(∀I,fQ C s'.heap I->Inv X pins σ H' { s' with heap:=I })->H' C=none->FpOk X pins H' C->Q (.ref D) H'->RR (.ref D) C (.ok .next) s') :
  wpAny (model X.prog X.w) X.A Ho (fun acc Z=>wpAny (model X.prog X.w) X.A (newFunctionEnv scope X.env.globals (closed X.env scope.names []) [] X.env.qual none .none (some X.env)) (fun v s₄ =>
   codeAny (model X.prog X.w) X.A (.compStart e 0 itv acc { v with scope:=relabel scope X.env }) (RR acc v.locals) s₄) E Z) E s2:=by
 obtain⟨it,fp,tn,J,H2,rfl,G,T,st2,f2,rd⟩:=h2;have U:∀b∈fp,b<s2.heap.objs.size:=fun b hb=>by obtain⟨o,e,_⟩:=T.obj 0 _ st2 b hb;exact aD e
 refine na _ _ _ _ (fS (by decide) (G.mod.glob.keeps G.bk).lt) fun ob lv hob=>zjv fun u N hk ck=>?_;have g0:(s2.heap.push ob).get? s2.heap.objs.size=some ob:=aB _ lv;have hC:(s2.heap.push ob).objs.size=s2.heap.objs.size+1:=pE ..;have old:∀b o,s2.heap.get? b=some o->u.get? b=some o:=fun b o e=>hk b o (aq _ e);obtain⟨ho,hz,hok⟩:=hob u (hk _ _ g0);dsimp only at N ck ⊢;generalize hCe:(s2.heap.push ob).objs.size=C at N hC ck ⊢;have R:s2.heap.objs.size<=C:=by omega
 have st1:=T.keep _ _ _ st2 fun b hb o e=>old b o e;have loop:codeAny (model X.prog X.w) X.A (.compLoop e 0 (.ref it) (.ref s2.heap.objs.size) (compEnvC scope (ownCl X scope C) C X.env)) (RR (.ref s2.heap.objs.size) C) { s2 with heap:=u } :=
  ziS (Y:=QJ X scope own capt C s2 H2 fp) k.nof rfl hc (k.turn _ _) (hg _ _ _ _) (ht _ _ _ _) (hm _ _ _ _ _) T (zlR S G f2 U R ck) (zlS (D:=s2.heap.objs.size) S G f2 U (av _) (by rw[hC];exact Nat.lt_succ_self _) old N ck (hok _)) st1 (fun b hb=>by rw[Jj (aJ (U b hb))];exact(f2 b hb).1)
   (rd _ ho (G.hok.fresh (av _)) hz) fun s5 H4 I5 q=>by obtain⟨m,hn,_⟩:=I5.loc;exact hR _ _ s5 H4 ⟨m,hn⟩ (fun I sb=>znA G f2 R I5 sb) I5.free (G.fpOk R I5.free) q
 obtain⟨gs,hcl⟩:=k.cl;exact zgC k.nof (by rw[hcl];rfl) loop (T.self X.A 0 _ _ _ st1 loop)
theorem zoQ(hc:X.calm=true)(S:JB scope own capt X)(k:Vb e tg iter ifs scope Ho nx)(na:NA X.prog X.w Ho z)(hi:PI X tg iter wi)(G:Fam X scope own capt fun Y=>PG Y tg g)(L:Fam X scope own capt fun Y=>PTs Y ifs tt)(U:∀D,Fam X scope own capt fun Y=>PM Y (nx (.ref D) Y.env) (te D))
  (R:Fsi X iter):PE X e (zqp z own capt wi g tt te):=by
 intro pins s σ H Q I h;obtain⟨gs,o⟩:=k.cl;obtain⟨p,ev⟩:=k.ev X.env;rw[ev];refine i5 (use:=none) o R (zbO (S.cells I.ok)) S.kind S.names (thn (hi pins s σ H _ I h) fun v s1 Z=>thn Z fun N s2 x=>?_);refine zi9 (RR:=fun acc C=>compPost (model X.prog X.w) X.A X.xe none (EP X pins σ Q) acc C) hc S k na G L U x fun D C s' H' u J _ _ q=>?_;obtain⟨m,u⟩:=u;exact⟨m,u,fun l sb=>⟨.ref D,H',J l sb,rfl,q⟩⟩
theorem zoI(hc:X.calm=true)(S:JB scope own capt X)(k:Vb e tg iter ifs scope Ho nx)(na:NA X.prog X.w Ho z)(hi:PI X tg iter wi)(hg:Fam X scope own capt fun Y=>PG Y tg g)(ht:Fam X scope own capt fun Y=>PTs Y ifs tt)(hm:∀D,Fam X scope own capt fun Y=>PM Y (nx (.ref D) Y.env) (te D))
  (hs:Fsi X iter) {i:Nat} {x:Str} {l HN:Pos} (hN:X.N.Nodup) (G:X.N[i]?=some x) (hx:Loc X.env.scope x) (L:swapsWith e (some (.Name x l)) HN.line X.env=pure true)
  (hf:Fnl X x):PS X (.Assign [.Name x l] e HN) (tAsg (zqp z own capt wi g tt te) (Q7 i)):=by
 intro pins s σ H D I h;obtain⟨gs,R⟩:=k.cl;obtain⟨p,ev⟩:=k.ev2 X.env (assign (.Name x l) X.env);rw[exec_Assign_Name_used _ _ _ _ L];refine aa (dS (aa ?_));rw[ev];refine aa (bN (i5 (use:=some (assign (.Name x l) X.env)) (Q:=fun _ s'=>SP X pins D .next s') R hs (zbO (S.cells I.ok)) S.kind S.names (thn (hi pins s σ H _ I h) fun v s1 h1=>thn h1 fun itv s2 h2=>?_)) (fun _ s' hq=>ag (ag hq)) fun _ _ e=>e);refine zi9 (RR:=fun acc C=>compPost (model X.prog X.w) X.A X.xe (some (assign (.Name x l) X.env)) (fun _ s'=>SP X pins D .next s') acc C) (Q:=fun v H'=>Q7 i v σ H' D.nx) hc S k na hg ht hm h2 fun D' C s' H' Z J hCn fp q=>?_;obtain⟨m,Z⟩:=Z;obtain⟨f0,f1,f2,f3,f4,f5⟩:=fp;have Is:Inv X pins σ H' s':=J s'.heap (xk _ _);refine m7 (zgB Is hN G hx (show RelV (.ref D') (.ref D') from rfl) (fun s'' U sb=>?_) hf);obtain⟨a,sb,ha⟩:=sb;have neA:C≠a:=by rcases ha with rfl|ha;exact f1;exact fun z=>f4 x a ha z.symm
 exact⟨m,Z.sameBut sb neA,fun h' u=>⟨_,H',U.turned (t':=s''.toks) (fun b o hb e=>(u.2 b hb).trans e) f0 f1 f3 f4 f5,q⟩⟩
end
def zeE(scope outer:dF)(N:List Str)(capt:List Nat):Bool :=
 scope.kind == .function&&scope.names.all (fun y=>!(y.2 == .free)||!scope.names.contains (y.1,.cell))&&scope.names.all (fun y=>!(y.2 == .local)||scope.names.lookup y.1 == some .local) &&
 scope.names.all (fun y=>!(y.2 == .free)||(outer.names.lookup y.1 == some .cell||outer.names.lookup y.1 == some .free))&&capt.all (fun k=>scope.names.lookup (N.getD k mn) == some .free)
theorem JB.of{X:Cx}{scope:dF}{own:List Str}{capt:List Nat}(h:zeE scope X.env.scope X.N capt=true):JB scope own capt X:=by simp only[zeE,aW,df,Bool.or_eq_true,gR,beq_iff_eq,beq_eq_false_iff_ne]at h;obtain⟨⟨⟨⟨J,x⟩,C⟩,G⟩,I⟩:=h;refine⟨J,fun y u e=>?_,fun y u e=>(C y u).resolve_left fun z=>z e,fun y u e=>(G y u).resolve_left fun z=>z e,I⟩;have:=(x y u).resolve_left fun z=>z e;simpa using this
end L2
namespace L2
open PySem PySem.Spec PyProof.Rows
section
variable{X:Cx}
theorem zrf:OpR X (compareOp .Is) (fun x y H Q=>∃a b,x=.bl a/\y=.bl b/\Q (.bl (a == b)) H):=by intro pins s σ H x y v u Q I C o h;obtain⟨a,b,rfl,rfl,q⟩:=h;cases C;cases o;exact is_bool ⟨.bl (a == b),H,I,rfl,q⟩
theorem zkP:OpR X (compareOp .IsNot) (fun x y H Q=>∃a b,x=.bl a/\y=.bl b/\Q (.bl (a != b)) H):=by intro pins s σ H x y v u Q I G C h;obtain⟨a,b,rfl,rfl,q⟩:=h;cases G;cases C;exact isnot_bool ⟨.bl (a != b),H,I,rfl,q⟩
def kitB(t T:String):Option Bool:=if (bC t == bC T)=true then some true else if PySem.W.kitMeta T=true then(fastBuiltinMro t).map (·.contains (.type T)) else none
theorem Yn(K:qF)(t T:String):o6 K (.type t) (.type T)=kitB t T:=rfl
inductive Ty (H:Hp):V->String->Prop where
 | non:Ty H .non "NoneType"
 | bl (x:Bool):Ty H (.bl x) "bool"
 | int (i:Int):Ty H (.int i) "int"
 | str (x:Str):Ty H (.str x) "str"
 | lst {a:af} {xs:List V} (e:H a=some (.lst xs)):Ty H (.ref a) "list"
 | tup {a:af} {xs:List V} (e:H a=some (.tup xs)):Ty H (.ref a) "tuple"
 | dK {a:af} {kvs:List (Key×V)} (e:H a=some (.dK kvs)):Ty H (.ref a) "dict"
theorem Ty.of{K:qF}{H:Hp}{v:V}{t:String}(h:Ty H v t):TyOf K H v (.type t):=by
 cases h with
 | non=>exact .non
 | bl x=>exact .bl x
 | int i=>exact .int i
 | str x=>exact .str x
 | lst e=>exact .lst e
 | tup e=>exact .tup e
 | dK e=>exact .dK e
theorem znD:bootBuiltins "isinstance" = some (.builtin "isinstance"):=by decide +kernel
theorem boot_int:bootBuiltins "int" = some (.type "int"):=by decide +kernel
theorem zj0:bootBuiltins "bool" = some (.type "bool"):=by decide +kernel
theorem UB:bootBuiltins "tuple" = some (.type "tuple"):=by decide +kernel
theorem ZR:bootBuiltins "all" = some (.builtin "all"):=by decide +kernel
theorem zl4:bootBuiltins "any" = some (.builtin "any"):=by decide +kernel
theorem Ut:bootBuiltins "min" = some (.builtin "min"):=by decide +kernel
theorem YW:bootBuiltins "max" = some (.builtin "max"):=by decide +kernel
theorem Qu:bootBuiltins "len" = some (.builtin "len"):=by decide +kernel
theorem zl2:bootBuiltins "sum" = some (.builtin "sum"):=by decide +kernel
theorem zeK:∀{bs:List Bool}{us:List ae},Vals (bs.map V.bl) us->LSm.BoolsAre us bs
 | [],_,h=>by cases h;exact .nil
 | b::bs,_,h=>by
  cases h with
  | cons r t =>cases(show _=kH b from r);exact .cons b (zeK t)
theorem ZS(hc:X.calm=true):JR X (.builtin "all") (fun xs H Q=>∃(a:af) (bs:List Bool),xs=[.ref a]/\SqL X.K H a (bs.map V.bl)/\Q (.bl (bs.all id)) H):=by
 intro pins s σ H xs us Q I r h;obtain⟨a,bs,rfl,G,q⟩:=h;cases r with
 | cons L J =>
  cases J;cases(show _=a9 a from L);obtain⟨its,S,p,hz⟩:=I.list G;have hb:=zeK S;have x:s.heap.IsList a its.toArray:=p.isList;have o:a<s.heap.objs.size:=by obtain⟨_,e,_⟩:=x;exact aD e
  refine call_all_walk (fG x ?_);refine⟨s.heap.objs.size,[s.heap.objs.size,a],[s.heap.objs.size],its.toArray.size,_,_,fun i=>(bs[i]?).getD true,rfl,wz (A:=X.A.in1) (I.ok.hd hc) _ a (aJ o) its.toArray,
   ⟨⟨_,aB _ rfl,rfl,rfl⟩,x.push _⟩,fun i v s' Y U N C=>?_,fun h' Z R=>?_⟩
  obtain⟨b,e,rfl⟩:=hb.get i v (by simpa using N);simp only[e,eR]at C;exact bO C;have e:((g9 its.toArray.size).all fun i=>(bs[i]?).getD true)=bs.all id:=by rw[aw,hb.length];exact LSm.range_all bs
  rw[e];exact⟨.bl _,H,I.kept (rX R),rfl,q⟩
theorem zl0(hc:X.calm=true):JR X (.builtin "any") (fun xs H Q=>∃(a:af) (bs:List Bool),xs=[.ref a]/\SqL X.K H a (bs.map V.bl)/\Q (.bl (bs.any id)) H):=by
 intro pins s σ H xs us Q I r h;obtain⟨a,bs,rfl,G,q⟩:=h;cases r with
 | cons L J =>
  cases J;cases(show _=a9 a from L);obtain⟨its,S,p,hz⟩:=I.list G;have hb:=zeK S;have x:s.heap.IsList a its.toArray:=p.isList;have o:a<s.heap.objs.size:=by obtain⟨_,e,_⟩:=x;exact aD e
  refine call_any_walk (fG x ?_);refine⟨s.heap.objs.size,[s.heap.objs.size,a],[s.heap.objs.size],its.toArray.size,_,_,fun i=>(bs[i]?).getD false,rfl,wz (A:=X.A.in1) (I.ok.hd hc) _ a (aJ o) its.toArray,
   ⟨⟨_,aB _ rfl,rfl,rfl⟩,x.push _⟩,fun i v s' Y U N C=>?_,fun h' Z R=>?_⟩
  obtain⟨b,e,rfl⟩:=hb.get i v (by simpa using N);simp only[e,eR]at C;exact bO C;have e:((g9 its.toArray.size).any fun i=>(bs[i]?).getD false)=bs.any id:=by rw[aw,hb.length];exact LSm.range_any bs
  rw[e];exact⟨.bl _,H,I.kept (rX R),rfl,q⟩
mutual
inductive UE (H:Hp):V->ab->Prop
 | non:UE H .non .none
 | bl (b:Bool):UE H (.bl b) (.bool b)
 | int (i:Int):UE H (.int i) (.int i)
 | str (x:Str):UE H (.str x) (.str x)
 | lst {a:af} {xs:List V} {ds:qD}:H a=some (.lst xs)->ZJ H xs ds->UE H (.ref a) (.list ds)
 | tup {a:af} {xs:List V} {ds:qD}:H a=some (.tup xs)->ZJ H xs ds->UE H (.ref a) (.tuple ds)
inductive ZJ (H:Hp):List V->List ab->Prop
 | nil:ZJ H [] []
 | cons {v:V} {vs:List V} {d:ab} {ds:qD}:UE H v d->ZJ H vs ds->ZJ H (v::vs) (d::ds)
end
def YZ(i j:Int):Prop:=0<j/\j<2 ^ 128
theorem VI:OpR X (binaryOp .FloorDiv) (rI YZ fun i j=>.int (i / j)):=opI fun i j _ _ _ _ _ hc q=>by
 have G:(0:Int)<j:=hc.1;have x:j<2 ^ 128:=hc.2;refine floordiv_int (by omega) (by rw[iJ i (by omega)];exact q) (.inl (PyProof.noPylong_of_log2 ?_));have u:j.natAbs<2 ^ 128:=by omega
 have C:j.natAbs.log2<128:=(Nat.log2_lt (by omega)).mpr u;omega
end
def Pl(X:Cx)(es:List aT):Prop:=∀pos,(backTo pos (starEach es X.env)).any (·.1)=false
def Hd(X:Cx):List aT->Prop
 | []=>True
 | e::r=>starEach (e::r) X.env=(false,eval e X.env)::starEach r X.env/\Pl X r
structure PB(X:Cx)(es:List aT)(t:TA):Prop where
 pa:PA X es t
 pl:Pl X es
 hd:Hd X es
section
variable{X:Cx}{es:List aT}{t:TA}{te:TE}
theorem Ui:PB X [] tNil:=⟨QV,fun _=>rfl,trivial⟩
theorem QP(h:PE X e te)(o:PB X es t)(l:starEach (e::es) X.env=(false,eval e X.env)::starEach es X.env):PB X (e::es) (Qy te t) :=
 ⟨Qr h o.pa l,fun pos=>by rw[l];have:(backTo pos ((false,eval e X.env)::starEach es X.env)).any (·.1)=(false||(backTo pos (starEach es X.env)).any (·.1)):=rfl;rw[this,o.pl pos];rfl,l,o.pl⟩
theorem pb_i{j pos}(l:PB X es t):PB X (.Constant (.int i) j pos::es) (Qy (tC (.int i)) t):=QP JD l rfl
theorem pb_v(i:Nat){x:Str}{pos:Pos}(u:PB X es t)(o:X.N[i]?=some x:=by rfl)(v:Vis X.env.scope x:=by walk_at "V")(hd:Ndb x:=by rfl)
  (l:Ncd x:=by rfl):PB X (.Name x pos::es) (Qy (tVar i) t):=QP (Qo o v hd l) u rfl
theorem zoV(h:PE X (.Name x pos) te)(l:PB X es t):PB X (.Name x pos::es) (Qy te t):=QP h l rfl
theorem znW{a b c d}(h:PE X (.BinOp a b c d) te)(l:PB X es t):PB X (.BinOp a b c d::es) (Qy te t):=QP h l rfl
theorem zq2{a b c d}(h:PE X (.Compare a b c d) te)(l:PB X es t):PB X (.Compare a b c d::es) (Qy te t):=QP h l rfl
variable{e:aT}{x:Str}{p pos:Pos}
theorem zoO{x1}(h:PB X es t):PE X (.Tuple es x1 pos) (tTup t):=zqU h.pa
theorem zkI(h:PB X es t):PE X (.List es pos) (tLst t):=zqY h.pa
theorem Vh{id:String}{r:List V->Hp->VK->Prop}(hc:JR X (.builtin id) r)(I:X.mg x=none)(J:bootBuiltins x=some (.builtin id))(h:PB X (e::es) t)(G:Gl X x:=by rfl)(v:x ≠ "__name__":=by decide) (o:Ndb x:=by rfl) :
  PE X (.Call (.Name x p) (e::es) [] pos) (tCB r t):=zmQ hc G I J h.pa v o h.hd.1 (h.hd.2 pos)
theorem zq0(hc:JR X (.type T) r)(G:X.mg x=none)(I:bootBuiltins x=some (.type T))(h:PB X (e::es) t)(v:Gl X x:=by rfl)(u:x ≠ "__name__":=by decide) (o:Ndb x:=by rfl) :
  PE X (.Call (.Name x p) (e::es) [] pos) (tCB r t):=zgT hc v G I h.pa u o h.hd.1 (h.hd.2 pos)
end
end L2
namespace Bd
open PySem L2
structure Def(K:qF)(mg:qM)(x:Str)(st:dA)(ps:List Str)(f:af)(fd:cA):Prop where
 F:Fun K x x st f fd
 b:Binds K fd ps []
 m:mg x=some (.ref f)
section
variable{X:Cx}{k:Nat}{f:af}{fd:cA}{ps:List Str}{sp:Sp}{x:Str}{p pos:Pos}{e:aT}{es:List aT}{t:TA}{st:dA}
theorem zoP(D:Def X.K X.mg x st ps f fd)(G:FnOk X.prog X.w X.K X.mg X.base CX0 k f fd ps sp)(v:Room k X.A)(h:PB X (e::es) t)(u:Gl X x:=by rfl)
  (o:Ndb x:=by rfl):PE X (.Call (.Name x p) (e::es) [] pos) (zon sp [] E0 t):=zoR G v u D.m D.F.kp D.b .nil zoW h.pa o h.hd.1 (h.hd.2 pos)
theorem zuf(u:X.mg x=none)(v:bootBuiltins x=some (.type T))(o:Gl X x:=by rfl)(l:x ≠ "__name__":=by decide) (hd:Ndb x:=by rfl):PE X (.Name x p) (tC (.ty T)) :=
 zoT o u v rfl l hd
end
theorem iteP{c A B:Prop}[Decidable c](hc:c)(h:A):if decide c=true then A else B:=by rw[decide_eq_true hc];exact iteT h
theorem iteN{c A B:Prop}[Decidable c](hc:¬c)(h:B):if decide c=true then A else B:=by rw[decide_eq_false hc];exact iteF h
theorem zrT{c A B:Prop}[Decidable c](o:c->A)(l:¬c->B):if decide c=true then A else B:=by by_cases h:c;exact iteP h (o h);exact iteN h (l h)
theorem zir{α:Type}{xs:List α}{k:Int}{v:α}(h0:0<=k)(h:xs[k.toNat]?=some v):atI xs k=some v:=by obtain⟨n,rfl⟩:=kf h0;exact zp4 h
theorem Q4(k:Nat):(0:Int)<2 ^ k:=by
 have:(0:Nat)<2 ^ k:=Nat.two_pow_pos k;have e:((2 ^ k:Nat):Int)=(2:Int) ^ k:=by simp
 omega
theorem zkD(h:k<=64):(2:Int) ^ k<2 ^ 128:=by
 have:(2:Nat) ^ k<2 ^ 128:=Nat.pow_lt_pow_right (by decide) (by omega);have e:((2 ^ k:Nat):Int)=(2:Int) ^ k:=by simp
 omega
theorem zdV(h:k<=64):(2:Int) ^ k<=2 ^ 64:=by
 have:(2:Nat) ^ k<=2 ^ 64:=Nat.pow_le_pow_right (by decide) (by omega);have e:((2 ^ k:Nat):Int)=(2:Int) ^ k:=by simp
 omega
theorem zmr(h:H p=none):Same H (upd H p o):=fun b u e=>by rw[Jj (Qf e h)];exact e
end Bd
namespace L2
open PySem PySem.Spec PyProof.Rows
theorem zp5(k h:Nat):(k*2 ^ h) &&& (2 ^ h)=(k % 2)*2 ^ h:=by
 have l:k*2 ^ h=k <<< h:=(kg k h).symm;have u:(2:Nat) ^ h=1 <<< h:=by rw[kg,uS]
 have o:(k &&& 1) <<< h=k <<< h &&& 1 <<< h:=Nat.shiftLeft_and_distrib;rw[l];conv=>lhs;rw[u]
 rw[<- o,Nat.and_one_is_mod,kg]
theorem ziv(h:Nat)(x:0<=k):cz (k*2 ^ h) (2 ^ h)=if k % 2=0 then k*2 ^ h+2 ^ h else k*2 ^ h - 2 ^ h:=by
 obtain⟨n,rfl⟩:=kf x;have l:((2 ^ h:Nat):Int)=(2:Int) ^ h:=by simp
 have u:((n:Int)*2 ^ h)=((n*2 ^ h:Nat):Int):=by rw[Int.natCast_mul,l]
 rw[bitXor_and,u,<- l,bitAnd_pp (iI _) (iI _)];have v:((n*2 ^ h:Nat):Int).toNat &&& ((2 ^ h:Nat):Int).toNat=(n % 2)*2 ^ h:=by rw[cP,cP];exact zp5 n h
 rw[v];rcases Nat.mod_two_eq_zero_or_one n with z|z;have:((n:Int)) % 2=0:=by lia
 rw[if_pos this,z];simp;have:¬((n:Int)) % 2=0:=by lia
 rw[if_neg this,z,uS];lia
def HAND:ab:=.dict [(.none,.none)]
def SCR(ns:List Int):ab:=.dict [(.none,.list (ns.map .int))]
def Zj(H:Hp)(hd:af)(n:Int):Prop:=∃d m t:Int,H hd=some (.lst [.int d,.int m,.int t])/\0<=m/\m<2 ^ 62/\0<=t/\t<=n
def StT(K:qF)(a:af)(xs:List V):Prop :=
 ∃(o:Obj) (its:Array ae) (n:Nat),K.lookup a=some o/\o.cls=.type "tuple" /\ o.data=.seq its n/\its.size<=sizeLine/\Vals xs its.toList/\o.dict=none
theorem StT.sq{K:qF}{H:Hp}{a:af}{xs:List V}(h:StT K a xs):SqT K H a xs:=by obtain⟨o,its,n,C,l,u,v,x,_⟩:=h;exact .inr ⟨o,its,n,C,l,u,v,x⟩
def hsT(k:Int×Int):Int:=reduceHash (rh [hashInt k.1,hashInt k.2])
def entZ(z:(Int×Int)×af×V)(e:eS):Prop:=e.hash=hsT z.1/\e.key=.ref z.2.1/\RelV z.2.2 e.val
abbrev ZT:=List ((Int×Int)×af×V)
def ZDO(a:af)(zs:ZT)(ep:Nat):HO:=.ext fun h=>(a == sysModules)=false/\zs.length<=sizeLine/\(zs.map (·.1)).Nodup/\∃o es,h.get? a=some o/\o.ExactDict/\o.data=.dict es ep/\bQ entZ zs es.toList
abbrev KT2:=List ((Int×Int)×ab)
def entI(z:Int×V)(e:eS):Prop:=e.hash=hashInt z.1/\(∃t,e.key=.int z.1 t)/\RelV z.2 e.val
def KDO(a:af)(zs:List (Int×V))(ep:Nat):HO:=.ext fun h=>(a == sysModules)=false/\zs.length<=sizeLine/\(zs.map (·.1)).Nodup/\∃o es,h.get? a=some o/\o.ExactDict/\o.data=.dict es ep/\bQ entI zs es.toList
def blkT(k:Int×Int):ab:=.tuple [.int k.1,.int k.2]
def Y7(ks:List (Int×ab)):List (ab×ab):=ks.map fun q=>(.int q.1,q.2)
def Jv(ks:KT2):List (ab×ab):=ks.map fun q=>(blkT q.1,q.2)
def EXC(C:af):ab:=.dict [(.none,.int (C:Int))]
def EXO(a C:af):HO:=.ext fun h=>∃o,h.get? a=some o/\o.cls=.ref C/\∃vs,o.data=.fields vs
mutual
inductive Rep (K:qF)(hd:Option af)(O:af->Prop)(H:Hp):V->ab->Prop
 | non:Rep K hd O H .non .none
 | bl (b:Bool):Rep K hd O H (.bl b) (.bool b)
 | int (i:Int):Rep K hd O H (.int i) (.int i)
 | str (x:Str):Rep K hd O H (.str x) (.str x)
 | tup {a vs ds} (h:H a=some (.tup vs)) (o:¬O a) (r:Reps K hd O H vs ds):Rep K hd O H (.ref a) (.tuple ds)
 | tupS {a vs ds} (h:StT K a vs) (r:Reps K hd O H vs ds):Rep K hd O H (.ref a) (.tuple ds)
 | lst {a vs ds} (h:H a=some (.lst vs)) (o:¬O a) (r:Reps K hd O H vs ds):Rep K hd O H (.ref a) (.list ds)
 | dct {a ep} (h:H a=some (KDO a [] ep)) (o:¬O a):Rep K hd O H (.ref a) (.dict [])
 | dcK {a kvs ep ks ps} (h:H a=some (KDO a kvs ep)) (o:¬O a) (r:Y9 K hd O H kvs ks) (e:ps=Y7 ks):Rep K hd O H (.ref a) (.dict ps)
 | dcT {a zs ep ks ps} (h:H a=some (ZDO a zs ep)) (o:¬O a) (r:Jk K hd O H zs ks) (e:ps=Jv ks):Rep K hd O H (.ref a) (.dict ps)
 | hand {a} (h:hd=some a):Rep K hd O H (.ref a) HAND
 | scr {a ns} (h:Rd H a (.lst (ns.map V.int))) (o:¬O a):Rep K hd O H (.ref a) (SCR ns)
 | scrS {a} {ns:List Int} (h:∀H':Hp,SqL K H' a (ns.map V.int)):Rep K hd O H (.ref a) (SCR ns)
 | exc {a C} (h:H a=some (EXO a C)) (o:¬O a):Rep K hd O H (.ref a) (EXC C)
inductive Reps (K:qF)(hd:Option af)(O:af->Prop)(H:Hp):List V->List ab->Prop
 | nil:Reps K hd O H [] []
 | cons {v d vs ds} (h:Rep K hd O H v d) (r:Reps K hd O H vs ds):Reps K hd O H (v::vs) (d::ds)
inductive Y9 (K:qF)(hd:Option af)(O:af->Prop)(H:Hp):List (Int×V)->List (Int×ab)->Prop
 | nil:Y9 K hd O H [] []
 | cons {k v d kvs ks} (h:Rep K hd O H v d) (r:Y9 K hd O H kvs ks):Y9 K hd O H ((k,v)::kvs) ((k,d)::ks)
inductive Jk (K:qF)(hd:Option af)(O:af->Prop)(H:Hp):ZT->KT2->Prop
 | nil:Jk K hd O H [] []
 | cons {k q v d zs ks} (h:Rep K hd O H (.ref q) (.tuple [.int k.1,.int k.2])) (h2:Rep K hd O H v d) (r:Jk K hd O H zs ks):Jk K hd O H ((k,q,v)::zs) ((k,d)::ks)
end
section
variable{K:qF}{hd:Option af}{O O':af->Prop}{H H':Hp}
theorem Rep.mono(C:∀a o,H a=some o->O' a->O a)(G:∀a o,¬O a->H a=some o->H' a=some o)(q:Rep K hd O H v d):Rep K hd O' H' v d :=
 Rep.rec (motive_1:=fun v d _=>Rep K hd O' H' v d) (motive_2:=fun v d _=>Reps K hd O' H' v d) (motive_3:=fun v d _=>Y9 K hd O' H' v d) (motive_4:=fun v d _=>Jk K hd O' H' v d)
  .non .bl .int .str (fun h o _ r=>.tup (G _ _ o h) (fun z=>o (C _ _ h z)) r) (fun h _ r=>.tupS h r) (fun h o _ r=>.lst (G _ _ o h) (fun z=>o (C _ _ h z)) r) (fun h o=>.dct (G _ _ o h) (fun z=>o (C _ _ h z))) (fun h o _ e r=>.dcK (G _ _ o h) (fun z=>o (C _ _ h z)) r e) (fun h o _ e r=>.dcT (G _ _ o h) (fun z=>o (C _ _ h z)) r e) .hand
  (fun h o=>h.elim (fun h=>.scr (.inl (G _ _ o h)) fun z=>o (C _ _ h z)) fun h=>h.elim fun u h=>.scr (.inr ⟨u,G _ _ o h⟩) fun z=>o (C _ _ h z)) .scrS (fun h o=>.exc (G _ _ o h) (fun z=>o (C _ _ h z)))
  .nil (fun _ _ h r=>.cons h r) .nil (fun _ _ h r=>.cons h r) .nil (fun _ _ _ h k r=>.cons h k r) q
theorem Reps.ind{P:List V->List ab->Prop}(n:P [] [])(c:∀{v d vs ds},Rep K hd O H v d->Reps K hd O H vs ds->P vs ds->P (v::vs) (d::ds))(q:Reps K hd O H vs ds):P vs ds:=by refine Reps.rec (motive_1:=fun _ _ _=>True) (motive_2:=fun v d _=>P v d) (motive_3:=fun _ _ _=>True) (motive_4:=fun _ _ _=>True) ?_ ?_ ?_ ?_ ?_ ?_ ?_ ?_ ?_ ?_ ?_ ?_ ?_ ?_ n (fun h r _ i=>c h r i) ?_ ?_ ?_ ?_ q <;> intros <;> trivial
theorem Jk.ind{P:ZT->KT2->Prop}(n:P [] [])(c:∀{k q v d vs ds},Rep K hd O H (.ref q) (.tuple [.int k.1,.int k.2])->Rep K hd O H v d->Jk K hd O H vs ds->P vs ds->P ((k,q,v)::vs) ((k,d)::ds))(q:Jk K hd O H vs ds):P vs ds:=by refine Jk.rec (motive_1:=fun _ _ _=>True) (motive_4:=fun v d _=>P v d) (motive_2:=fun _ _ _=>True) (motive_3:=fun _ _ _=>True) ?_ ?_ ?_ ?_ ?_ ?_ ?_ ?_ ?_ ?_ ?_ ?_ ?_ ?_ ?_ ?_ ?_ ?_ n (fun h k r _ _ i=>c h k r i) q <;> intros <;> trivial
theorem Reps.mono(u:∀a o,H a=some o->O' a->O a)(v:∀a o,¬O a->H a=some o->H' a=some o)(q:Reps K hd O H vs ds):Reps K hd O' H' vs ds:=q.ind .nil fun h _ r=>.cons (h.mono u v) r
theorem Jk.mono(u:∀a o,H a=some o->O' a->O a)(v:∀a o,¬O a->H a=some o->H' a=some o)(q:Jk K hd O H vs ds):Jk K hd O' H' vs ds:=q.ind .nil fun h k _ r=>.cons (h.mono u v) (k.mono u v) r
theorem zgc(e:(oo,v)::r=Y7 ks):False:=by
 cases ks with
 | nil=>cases e
 | cons q ks=>cases e
theorem dict_noT(e:(oo,v)::r=Jv ks):False:=by
 cases ks with
 | nil=>cases e
 | cons q ks=>cases e
theorem Reps.length(q:Reps K hd O H vs ds):vs.length=ds.length:=q.ind (P:=fun a b=>a.length=b.length) rfl fun _ _ e=>congrArg (·+1) e
theorem Reps.get{i:Nat}(q:Reps K hd O H vs ds):ds[i]?=some d->∃v,vs[i]?=some v/\Rep K hd O H v d :=
 q.ind (P:=fun vs ds=>∀(i:Nat),ds[i]?=some d->∃v,vs[i]?=some v/\Rep K hd O H v d) (fun _ e=>nomatch e) (fun {v _ _ _} h _ r i=>i.casesOn (fun e=>⟨v,rfl,aI e▸h⟩) fun i e=>r i e) i
theorem Reps.append(q:Reps K hd O H vs ds)(s:Reps K hd O H ws es):Reps K hd O H (vs++ws) (ds++es):=q.ind (P:=fun a b=>Reps K hd O H (a++ws) (b++es)) s fun h _ r=>.cons h r
theorem Reps.take(n:Nat)(q:Reps K hd O H vs ds):Reps K hd O H (vs.take n) (ds.take n) :=
 q.ind (P:=fun vs ds=>∀n:Nat,Reps K hd O H (vs.take n) (ds.take n)) (fun n=>by rw[rZ,rZ];exact .nil) (fun h _ r n=>n.casesOn .nil fun n=>.cons h (r n)) n
theorem Reps.drop(n:Nat)(q:Reps K hd O H vs ds):Reps K hd O H (vs.drop n) (ds.drop n) :=
 q.ind (P:=fun vs ds=>∀n:Nat,Reps K hd O H (vs.drop n) (ds.drop n)) (fun n=>by rw[r8,r8];exact .nil) (fun h k r n=>n.casesOn (.cons h k) fun n=>r n) n
theorem Reps.set{v d}(h:Rep K hd O H v d)(n:Nat)(q:Reps K hd O H vs ds):Reps K hd O H (vs.set n v) (ds.set n d) :=
 q.ind (P:=fun vs ds=>∀n:Nat,Reps K hd O H (vs.set n v) (ds.set n d)) (fun n=>.nil) (fun k s r n=>n.casesOn (.cons h s) fun n=>.cons k (r n)) n
theorem Rep.tupI(h:Rep K hd O H v (.tuple ds)):∃a vs,v=.ref a/\SqT K H a vs/\Reps K hd O H vs ds:=by
 cases h with
 | tup h o r=>exact⟨_,_,rfl,.inl (.inl h),r⟩
 | tupS h r=>exact⟨_,_,rfl,h.sq,r⟩
theorem Rep.lstI(h:Rep K hd O H v (.list ds)):∃a vs,v=.ref a/\H a=some (.lst vs)/\¬O a/\Reps K hd O H vs ds:=by
 cases h with
 | lst h o r=>exact⟨_,_,rfl,h,o,r⟩
theorem Rep.intI(h:Rep K hd O H v (.int i)):v=.int i:=by cases h;rfl
theorem Rep.blI(h:Rep K hd O H v (.bool b)):v=.bl b:=by cases h;rfl
theorem Rep.strI(h:Rep K hd O H v (.str x)):v=.str x:=by cases h;rfl
theorem Rep.nonI(h:Rep K hd O H v .none):v=.non:=by cases h;rfl
theorem Rep.handI(h:Rep K hd O H v HAND):∃a,v=.ref a/\hd=some a:=by
 generalize e:HAND=d at h;cases h with
 | hand h=>exact⟨_,rfl,h⟩
 | dct _ _=>cases e
 | dcK _ _ _ o=>cases e;exact(zgc o).elim
 | dcT _ _ _ o=>cases e;exact(dict_noT o).elim
 | scr _ _=>simp[HAND,SCR]at e
 | scrS _=>simp[HAND,SCR]at e
 | exc _ _=>simp[HAND,EXC]at e
 | _=>cases e
theorem Rep.scrI(h:Rep K hd O H v (SCR ns)):∃a,v=.ref a/\SqL K H a (ns.map V.int):=by
 generalize e:SCR ns=d at h;cases h with
 | hand h=>simp[HAND,SCR]at e
 | dct _ _=>cases e
 | dcK _ _ _ u=>cases e;exact(zgc u).elim
 | dcT _ _ _ u=>cases e;exact(dict_noT u).elim
 | @scr a ms h o =>
  have:ns=ms:=by
   have u:(ns.map cq)=ms.map cq:=by simpa[SCR] using e
   have:=congrArg (List.map fun x=>match x with|cq i=>i|_=>0) u;simpa[cD,gS] using this
  subst this;exact⟨_,rfl,.inl h⟩
 | @scrS a ms h =>
  have:ns=ms:=by
   have u:(ns.map cq)=ms.map cq:=by simpa[SCR] using e
   have:=congrArg (List.map fun x=>match x with|cq i=>i|_=>0) u;simpa[cD,gS] using this
  subst this;exact⟨_,rfl,h H⟩
 | exc _ _=>simp[SCR,EXC]at e
 | _=>cases e
end
mutual
def Qw:ab->Bool
 | .list _=>false
 | .tuple ts=>Qk ts
 | .dict [(.none,.none)]=>true
 | .dict _=>false
 | _=>true
def Qk:List ab->Bool
 | []=>true
 | t::ts=>Qw t&&Qk ts
end
section
variable{K:qF}{hd:Option af}{O O':af->Prop}{H:Hp}
theorem zo_(e:Qw (.dict (Y7 ks))=true):False:=by cases ks <;> exact nomatch e
theorem zo9(e:Qw (.dict (Jv ks))=true):False:=by cases ks <;> exact nomatch e
def MutO(o:Option HO):Prop:=(∃xs,o=some (.lst xs))\/(∃ks,o=some (.dK ks))\/∃u,o=some (.ext u)
theorem Rep.up(C:∀a,O a->MutO (H a))(q:Rep K hd O' H v d):Qw d=true->Rep K hd O H v d:=by
 refine Rep.rec (motive_1:=fun v d _=>Qw d=true->Rep K hd O H v d) (motive_2:=fun v d _=>Qk d=true->Reps K hd O H v d) (motive_3:=fun _ _ _=>True) (motive_4:=fun _ _ _=>True)
  (fun _=>.non) (fun b _=>.bl b) (fun b _=>.int b) (fun b _=>.str b) (fun h _ _ r e=>.tup h (fun z=>by rcases C _ z with⟨xs,q⟩|⟨xs,q⟩|⟨b,q⟩ <;> (rw[h]at q;cases q)) (r e)) (fun h _ r e=>.tupS h (r e))
  (fun _ _ _ _ e=>nomatch e) (fun _ _ e=>nomatch e) (fun _ _ _ x _ e=>by subst x;exact(zo_ e).elim) (fun _ _ _ x _ e=>by subst x;exact(zo9 e).elim) (fun h _=>.hand h) (fun _ _ e=>nomatch e) (fun _ e=>nomatch e) (fun _ _ e=>nomatch e)
  (fun _=>.nil) (fun _ _ h r e=>by rw[Qk,aW]at e;exact .cons (h e.1) (r e.2)) trivial ?_ trivial ?_ q <;> intros <;> trivial
theorem Reps.up(u:∀a,O a->MutO (H a))(q:Reps K hd O' H vs ds):Qk ds=true->Reps K hd O H vs ds :=
 q.ind (P:=fun vs ds=>Qk ds=true->Reps K hd O H vs ds) (fun _=>.nil) fun h _ r e=>by rw[Qk,aW]at e;exact .cons (h.up u e.1) (r e.2)
end
section
variable{X:Cx}{pins:qO}{σ:St}{H:Hp}{s:aj}{hd:Option af}{O:af->Prop}
theorem Rep.reads(I:Inv X pins σ H s){u:ae}(q:Rep X.K hd O H v d):RelV v u->d.hasDict=false->∃G,Reads s.heap u d G:=by
 refine Rep.rec (motive_1:=fun v d _=>∀u,RelV v u->d.hasDict=false->∃G,Reads s.heap u d G) (motive_2:=fun v d _=>∀u,Vals v u->fI d=false->∃G,uT s.heap u d G) (motive_3:=fun _ _ _=>True) (motive_4:=fun _ _ _=>True)
  (fun _ r _=>by cases r;exact⟨_,.none⟩) (fun b _ r _=>by cases r;exact⟨_,.bool b⟩) (fun i _ r _=>by obtain⟨t,rfl⟩:=r;exact⟨_,.int i t⟩) (fun x _ r _=>by obtain⟨t,rfl⟩:=r;exact⟨_,.str x t⟩)
  (fun {_ vs _} h _ _ q _ r e=>?_) (fun {_ vs _} h _ q _ r e=>?_) (fun {_ vs _} h _ _ q _ r e=>?_) (fun _ _ _ _ e=>by simp[b8]at e) (fun _ _ _ _ _ _ _ e=>by simp[b8]at e) (fun _ _ _ _ _ _ _ e=>by simp[b8]at e)
  (fun _ _ _ e=>by simp[HAND,b8]at e) (fun _ _ _ _ e=>by simp[SCR,b8]at e) (fun _ _ _ e=>by simp[SCR,b8]at e) (fun _ _ _ _ e=>by simp[EXC,b8]at e)
  (fun _ r _=>by cases r;exact⟨_,.nil⟩) (fun _ _ h q _ r e=>?_) trivial (by intros;trivial) trivial (by intros;trivial) q u
 cases r;obtain⟨its,L,p,_⟩:=I.tuple (xs:=vs) (.inl (.inl h));obtain⟨o,N,hc,n,C⟩:=p;obtain⟨G,J⟩:=q _ L (by simpa[b8] using e);exact⟨_,.tuple N hc C (by simpa using J)⟩;cases r;obtain⟨its,L,p,_⟩:=I.tuple (xs:=vs) h.sq;obtain⟨o,N,hc,n,C⟩:=p;obtain⟨G,J⟩:=q _ L (by simpa[b8] using e);exact⟨_,.tuple N hc C (by simpa using J)⟩;cases r;obtain⟨its,L,p,_⟩:=I.list (xs:=vs) (.inl (.inl h));obtain⟨o,n,N,hc,_,C⟩:=p;obtain⟨G,J⟩:=q _ L (by simpa[b8] using e);exact⟨_,.list N hc C (by simpa using J)⟩;cases r with
 | cons S R =>rw[fI,lR]at e;obtain⟨G,J⟩:=h _ S e.1;obtain⟨bs,U⟩:=q _ R e.2;exact⟨_,.cons J U⟩
theorem Reps.reads(I:Inv X pins σ H s){us:List ae}(q:Reps X.K hd O H vs ds):Vals vs us->fI ds=false->∃u,uT s.heap us ds u :=
 q.ind (P:=fun vs ds=>∀us,Vals vs us->fI ds=false->∃u,uT s.heap us ds u) (fun _ r _=>by cases r;exact⟨_,.nil⟩) (fun h _ q _ r e=>by
  cases r with
  | cons G C =>rw[fI,lR]at e;obtain⟨u,x⟩:=h.reads I G e.1;obtain⟨bs,v⟩:=q _ C e.2;exact⟨_,.cons x v⟩) us
end
inductive Cell where
 | val (d:ab)
 | own (ds:qD)
 | dct (ks:List (Key×ab))
 | rdo (ks:List (Key×ab))
 | dtt (ks:KT2)
def Cell.mine:Cell->Bool
 | .val _=>false
 | .own _=>true
 | .dct _=>true
 | .rdo _=>false
 | .dtt _=>true
def UD(K:qF)(hd:Option af)(O:af->Prop)(H:Hp)(l:List (Key×V))(ks:List (Key×ab)):Prop:=bQ (fun(p:Key×V) (q:Key×ab)=>p.1=q.1/\Rep K hd O H p.2 q.2) l ks
theorem UD.mono{K:qF}{hd:Option af}{O u:af->Prop}{H H':Hp}(v:∀a o,H a=some o->u a->O a)(x:∀a o,¬O a->H a=some o->H' a=some o){l:List (Key×V)}{ks:List (Key×ab)}(r:UD K hd O H l ks):UD K hd u H' l ks :=
 Paired.mapP r fun _ _ z=>⟨z.1,z.2.mono v x⟩
abbrev En:=List (Option Cell)
structure Ctx where
 hd:Option af
 ext:af->Prop
def OwnS(l:En)(σ:St)(a:af):Prop:=∃(i:Nat) (c:Cell),c.mine=true/\l[i]?=some (some c)/\σ[i]?=some (some (V.ref a))
def Own(C:Ctx)(l:En)(σ:St)(a:af):Prop:=C.ext a\/OwnS l σ a
mutual
def papD:ab->Bool
 | .tuple ts=>decide (ts.length<=1000000)&&zq3 ts
 | .str x=>decide (x.length<=1000000)
 | .int _=>true
 | .none=>true
 | .bool _=>true
 | _=>false
def zq3:List ab->Bool
 | []=>true
 | t::ts=>papD t&&zq3 ts
end
def pap(t:ab):Bool:=papD t&&t.canLay0&&decide (t.depth<=40)
def QI(K:qF)(H:Hp)(a:af)(m:Nat):Prop:=∃(vs:List V) (ts:qD),H a=some (.lst vs)/\vs.length<=m/\Reps K none (fun b=>MutO (H b)) H vs ts/\∀t∈ts,pap t=true
def Hn(K:qF)(hd:Option af)(H:Hp)(n:Nat):Prop:=∀a,hd=some a->(Zj H a n/\n<10000000000000)\/(10000000000000<=n/\QI K H a (n - 10000000000000))
theorem Hn.lst{K:qF}{hd:Option af}{H:Hp}{n:Nat}{a:af}(h:Hn K hd H n)(e:hd=some a):∃vs,H a=some (.lst vs):=by rcases h a e with⟨⟨_,_,_,q,_⟩,_⟩|⟨_,_,_,q,_⟩;exact⟨_,q⟩;exact⟨_,q⟩
theorem QI.to{K:qF}{H H':Hp}{a:af}{w:Nat}(h:QI K H a w)(ha:H' a=H a)(k:∀b o,¬MutO (H b)->H b=some o->H' b=some o)(m:∀b o,H b=some o->MutO (H' b)->MutO (H b)):QI K H' a w:=by obtain⟨vs,ts,q,l,r,p⟩:=h;exact⟨vs,ts,ha.trans q,l,r.mono m k,p⟩
theorem QI.upd{K:qF}{H:Hp}{a p:af}{o:HO}{m:Nat}(h:QI K H a m)(ne:a≠p)(l:MutO (H p)):QI K (upd H p o) a m:=by refine h.to (Jj ne) (fun b u nb e=>?_) fun b u e z=>?_;rw[Jj (show b≠p from fun z=>nb (by rw[z];exact l))];exact e;by_cases y:b=p;rw[y];exact l;rw[Jj y]at z;exact z
theorem QI.same{K:qF}{H H':Hp}{a:af}{m:Nat}(h:QI K H a m)(s:∀b o,H b=some o->H' b=some o):QI K H' a m:=by obtain⟨vs,ts,q,l,r,p⟩:=id h;exact h.to (by rw[q];exact s _ _ q) (fun b o _ e=>s b o e) fun b o e z=>by rw[s b o e]at z;rw[e];exact z
structure Stt(K:qF)(C:Ctx)(ρ:En)(σ:St)(H:Hp)(n:Nat):Prop where
 len:ρ.length=σ.length
 val:∀(i:Nat) (d:ab),ρ[i]?=some (some (Cell.val d))->∃v,σ[i]?=some (some v)/\Rep K C.hd (Own C ρ σ) H v d
 own:∀(i:Nat) (ds:qD),ρ[i]?=some (some (Cell.own ds))->∃a vs,σ[i]?=some (some (V.ref a))/\H a=some (.lst vs)/\Reps K C.hd (Own C ρ σ) H vs ds/\¬C.ext a
 dct:∀(i:Nat) (ks:List (Key×ab)),ρ[i]?=some (some (Cell.dct ks))->∃a kvs,σ[i]?=some (some (V.ref a))/\H a=some (.dK kvs)/\UD K C.hd (Own C ρ σ) H kvs ks/\¬C.ext a
 rdo:∀(i:Nat) (ks:List (Key×ab)),ρ[i]?=some (some (Cell.rdo ks))->∃a kvs,σ[i]?=some (some (V.ref a))/\H a=some (.dK kvs)/\UD K C.hd (Own C ρ σ) H kvs ks/\C.ext a/\C.hd≠some a
 dtt:∀(i:Nat) (ks:KT2),ρ[i]?=some (some (Cell.dtt ks))->∃a zs ep,σ[i]?=some (some (V.ref a))/\H a=some (ZDO a zs ep)/\Jk K C.hd (Own C ρ σ) H zs ks/\¬C.ext a
 dif:∀(i j:Nat) (c e:Cell) (a:af),c.mine=true->e.mine=true->ρ[i]?=some (some c)->ρ[j]?=some (some e)->σ[i]?=some (some (V.ref a))->σ[j]?=some (some (V.ref a))->i=j
 hnd:Hn K C.hd H n
 ext:∀a,C.ext a->MutO (H a)
 hx:∀a,C.hd=some a->C.ext a
def ExtE(hd:Option af)(H H':Hp):Prop:=∀a o,H a=some o->hd≠some a->H' a=some o
theorem ExtE.refl:ExtE hd H H:=fun _ _ h _=>h
theorem ExtE.trans(a:ExtE hd H H1)(b:ExtE hd H1 H2):ExtE hd H H2:=fun c o h n=>b c o (a c o h n) n
theorem ExtE.new(h:H p=none):ExtE hd H (upd H p o):=fun b u e _=>by rw[Jj (Qf e h)];exact e
section
variable{K:qF}{C:Ctx}{ρ:En}{σ:St}{H H':Hp}{n n':Nat}
theorem MutO.ne(h:MutO o):o≠none:=by rcases h with⟨_,rfl⟩|⟨_,rfl⟩|⟨_,rfl⟩ <;> exact fun z=>by cases z
theorem Stt.at(S:Stt K C ρ σ H n){i:Nat}{c:Cell}(m:c.mine=true)(x:ρ[i]?=some (some c)):∃a:af,σ[i]?=some (some (V.ref a))/\MutO (H a)/\¬C.ext a:=by
 cases c with
 | val d=>cases m
 | own ds =>obtain⟨a,vs,o,u,_,v⟩:=S.own i ds x;exact⟨a,o,.inl ⟨_,u⟩,v⟩
 | dct ks =>obtain⟨a,vs,o,u,_,v⟩:=S.dct i ks x;exact⟨a,o,.inr (.inl ⟨_,u⟩),v⟩
 | rdo ks=>cases m
 | dtt ks =>obtain⟨a,vs,ep,o,u,_,v⟩:=S.dtt i ks x;exact⟨a,o,.inr (.inr ⟨_,u⟩),v⟩
theorem Stt.lst(S:Stt K C ρ σ H n){a:af}(h:Own C ρ σ a):MutO (H a):=by rcases h with h|⟨i,c,m,u,o⟩;exact S.ext a h;obtain⟨b,l,v,_⟩:=S.at m u;rw[o]at l;cases l;exact v
theorem Stt.dom(S:Stt K C ρ σ H n)(h:Own C ρ σ a):H a≠none:=(S.lst h).ne
theorem Stt.free(S:Stt K C ρ σ H n)(h:H a=none):¬Own C ρ σ a:=fun z=>S.dom z h
theorem ExtE.rep(e:ExtE C.hd H H')(hx:∀a,C.hd=some a->C.ext a){v d}(r:Rep K C.hd (Own C ρ σ) H v d):Rep K C.hd (Own C ρ σ) H' v d :=
 r.mono (fun _ _ _ z=>z) fun a o no h=>e a o h fun z=>no (.inl (hx a z))
theorem ExtE.reps(e:ExtE C.hd H H')(hx:∀a,C.hd=some a->C.ext a){v d}(r:Reps K C.hd (Own C ρ σ) H v d):Reps K C.hd (Own C ρ σ) H' v d :=
 r.mono (fun _ _ _ z=>z) fun a o no h=>e a o h fun z=>no (.inl (hx a z))
theorem Stt.onX(S:Stt K C ρ σ H n)(k:∀a o,H a=some o->¬C.ext a->H' a=some o)(N:∀a,C.ext a->MutO (H' a))(R:∀a ks,H a=some (.dK ks)->C.ext a->C.hd≠some a->H' a=some (.dK ks))(L:Hn K C.hd H' n'):Stt K C ρ σ H' n' where
 len:=S.len
 val:=fun i d hi=>by obtain⟨v,G,x⟩:=S.val i d hi;exact⟨v,G,x.mono (fun _ _ _ z=>z) fun a o no h=>k a o h fun z=>no (.inl z)⟩
 own:=fun i ds hi=>by obtain⟨a,vs,G,x,I,u⟩:=S.own i ds hi;exact⟨a,vs,G,k a _ x u,I.mono (fun _ _ _ z=>z) (fun a o no h=>k a o h fun z=>no (.inl z)),u⟩
 dct:=fun i ds hi=>by obtain⟨a,vs,G,x,I,u⟩:=S.dct i ds hi;exact⟨a,vs,G,k a _ x u,I.mono (fun _ _ _ z=>z) (fun a o no h=>k a o h fun z=>no (.inl z)),u⟩
 rdo:=fun i ds hi=>by obtain⟨a,vs,G,x,I,u,J⟩:=S.rdo i ds hi;exact⟨a,vs,G,R a _ x u J,I.mono (fun _ _ _ z=>z) (fun a o no h=>k a o h fun z=>no (.inl z)),u,J⟩
 dtt:=fun i ds hi=>by obtain⟨a,vs,ep,G,x,I,u⟩:=S.dtt i ds hi;exact⟨a,vs,ep,G,k a _ x u,I.mono (fun _ _ _ z=>z) (fun a o no h=>k a o h fun z=>no (.inl z)),u⟩
 dif:=S.dif
 hnd:=L
 ext:=N
 hx:=S.hx
theorem Stt.mut(S:Stt K C ρ σ H n){a:af}(ha:C.ext a)(h:Hn K C.hd H' n')(e:∀o,H a=some o->C.hd≠some a->H' a=some o):MutO (H' a):=by by_cases z:C.hd=some a;exact .inl (h.lst z);have q:=S.ext a ha;obtain⟨o,u⟩:=Option.ne_none_iff_exists'.mp q.ne;rw[e o u z,<- u];exact q
theorem Stt.on(S:Stt K C ρ σ H n)(e:ExtE C.hd H H')(h:Hn K C.hd H' n'):Stt K C ρ σ H' n' :=
 S.onX (fun a o ha no=>e a o ha fun z=>no (S.hx a z)) (fun a ha=>S.mut ha h (e a)) (fun a ks ha _ l=>e a _ ha l) h
end
abbrev DTE:=En->Nat->(ab->Nat->Prop)->Prop
abbrev DTT:=En->Nat->(Bool->Nat->Prop)->Prop
abbrev DTA:=En->Nat->(List ab->Nat->Prop)->Prop
def DE(X:Cx)(e:aT)(d:DTE):Prop:=∃u,PE X e u/\∀(C:Ctx) (l:En) (σ:St) (H:Hp) (n:Nat) (Q:VK) (R:qN),Stt X.K C l σ H n->d l n R ->
 (∀t o v H',R t o->ExtE C.hd H H'->Hn X.K C.hd H' o->Rep X.K C.hd (Own C l σ) H' v t->Q v H')->u σ H Q
def RepT(K:qF)(hd:Option af)(O:af->Prop)(H:Hp)(v:V)(t:ab):Prop :=
 Rep K hd O H v t\/(∃a vs ds,v=.ref a/\t=.list ds/\H a=some (.lst vs)/\Reps K hd O H vs ds/\hd≠some a)\/∃a zs ep ks,v=.ref a/\t=.dict (Jv ks)/\H a=some (ZDO a zs ep)/\Jk K hd O H zs ks/\hd≠some a
def DL(X:Cx)(e:aT)(d:DTE):Prop:=∃u,PE X e u/\∀(C:Ctx) (l:En) (σ:St) (H:Hp) (n:Nat) (Q:VK) (R:qN),Stt X.K C l σ H n->d l n R ->
 (∀t o v H',R t o->ExtE C.hd H H'->Hn X.K C.hd H' o->RepT X.K C.hd (Own C l σ) H' v t->Q v H')->u σ H Q
def DN(X:Cx)(e:aT)(d:DTA):Prop:=∃v,PE X e v/\∀(C:Ctx) (o:En) (σ:St) (H:Hp) (n:Nat) (Q:VK) (R:List ab->Nat->Prop),Stt X.K C o σ H n->d o n R ->
 (∀ts u p vs H',R ts u->ExtE C.hd H H'->Hn X.K C.hd H' u->H p=none->H' p=some (.lst vs)->Reps X.K C.hd (fun a=>Own C o σ a\/a=p) H' vs ts->Q (.ref p) H')->v σ H Q
def DT(X:Cx)(e:aT)(d:DTT):Prop:=∃u,PT X e u/\∀(C:Ctx) (o:En) (σ:St) (H:Hp) (n:Nat) (Q:Bool->Hp->Prop) (R:Bool->Nat->Prop),Stt X.K C o σ H n->d o n R ->
 (∀b l H',R b l->ExtE C.hd H H'->Hn X.K C.hd H' l->Q b H')->u σ H Q
def DW(X:Cx)(e:aT)(d:DTT):Prop:=∃u,PW X e u/\∀(C:Ctx) (o:En) (σ:St) (H:Hp) (n:Nat) (Q:Bool->Hp->Prop) (R:Bool->Nat->Prop),Stt X.K C o σ H n->d o n R ->
 (∀b l H',R b l->ExtE C.hd H H'->Hn X.K C.hd H' l->Q b H')->u σ H Q
def DB(X:Cx)(es:List aT)(d:DTA):Prop:=∃u,PB X es u/\∀(C:Ctx) (l:En) (σ:St) (H:Hp) (n:Nat) (Q:List V->Hp->Prop) (R:List ab->Nat->Prop),Stt X.K C l σ H n->d l n R ->
 (∀ts o vs H',R ts o->ExtE C.hd H H'->Hn X.K C.hd H' o->Reps X.K C.hd (Own C l σ) H' vs ts->ts.length=es.length->Q vs H')->u σ H Q
section
variable{X:Cx}{e a b c:aT}{es:List aT}{d da db dc:DTE}{pos:Pos}
theorem dl(h:DE X e d):DL X e d:=by obtain⟨I,p,h⟩:=h;exact⟨I,p,fun C x σ H n Q R S hd o=>h C x σ H n Q R S hd fun t G v H' r e J u=>o t G v H' r e J (.inl u)⟩
def dNew(d:DTA):DTE:=fun u n R=>d u n fun ts o=>R (.list ts) o
theorem JK{d:DTA}(h:DN X e d):DE X e (dNew d):=by obtain⟨J,p,h⟩:=h;refine⟨J,p,fun C x σ H n Q R S hd o=>h C x σ H n Q _ S hd fun ts G p vs H' r e L u I v=>o _ G _ H' r e L (.lst I (S.free u) (v.mono (fun _ _ _ z=>.inl z) fun _ _ _ z=>z))⟩
def dVar(i:Nat):DTE:=fun l n R=>match l[i]? with|some (some (Cell.val d))=>R d n|_=>False
def dOwn(i:Nat):DTE:=fun o n R=>match o[i]? with|some (some (Cell.own d))=>R (.list d) n|_=>False
def dC(t:ab):DTE:=fun _ n R=>R t n
theorem Jo(i:Nat)(I:X.N[i]?=some x:=by rfl)(G:Vis X.env.scope x:=by walk_at "V")(hd:Ndb x:=by rfl)
  (l:Ncd x:=by rfl):DE X (.Name x pos) (dVar i):=by
 refine⟨_,Qo I G hd l,fun C L σ H n Q R S h o=>?_⟩;unfold dVar at h;split at h;rename_i d e;obtain⟨v,J,u⟩:=S.val i d e;exact⟨v,J,o d n v H h ExtE.refl S.hnd u⟩;exact h.elim
theorem QK(i:Nat)(L:X.N[i]?=some x:=by rfl)(I:Vis X.env.scope x:=by walk_at "V")(hd:Ndb x:=by rfl)
  (o:Ncd x:=by rfl):DL X (.Name x pos) (dOwn i):=by
 refine⟨_,Qo L I hd o,fun C Y σ H n Q R S h u=>?_⟩;unfold dOwn at h;split at h;rename_i ds e;obtain⟨p,vs,U,v,J,G⟩:=S.own i ds e;exact⟨.ref p,U,u _ n _ H h ExtE.refl S.hnd (.inr (.inl ⟨p,vs,ds,rfl,rfl,v,J,fun z=>G (S.hx p z)⟩))⟩;exact h.elim
def Z8(i:Nat):DTE:=fun l n R=>match l[i]? with|some (some (Cell.dtt ks))=>R (.dict (Jv ks)) n|_=>False
theorem Q3(i:Nat)(J:X.N[i]?=some x:=by rfl)(G:Vis X.env.scope x:=by walk_at "V")(hd:Ndb x:=by rfl)
  (l:Ncd x:=by rfl):DL X (.Name x pos) (Z8 i):=by
 refine⟨_,Qo J G hd l,fun C U σ H n Q R S h o=>?_⟩;unfold Z8 at h;split at h;rename_i ks e;obtain⟨p,zs,ep,L,u,I,v⟩:=S.dtt i ks e;exact⟨.ref p,L,o _ n _ H h ExtE.refl S.hnd (.inr (.inr ⟨p,zs,ep,ks,rfl,rfl,u,I,fun z=>v (S.hx p z)⟩))⟩;exact h.elim
theorem Ji{i j pos}:DE X (.Constant (.int i) j pos) (dC (.int i)):=⟨_,JD,fun _ _ _ H n _ _ S h l=>l _ n _ H h ExtE.refl S.hnd (.int i)⟩
theorem JW{b j pos}:DE X (.Constant (.bool b) j pos) (dC (.bool b)):=⟨_,zuh,fun _ _ _ H n _ _ S h u=>u _ n _ H h ExtE.refl S.hnd (.bl b)⟩
theorem Yi{j pos}:DE X (.Constant .none j pos) (dC .none):=⟨_,zqX,fun _ _ _ H n _ _ S h l=>l _ n _ H h ExtE.refl S.hnd .non⟩
end
section
variable{K:qF}{hd:Option af}{O:af->Prop}{H H':Hp}{v:V}{t:ab}{n:Nat}
theorem Same.ext(h:Same H H'):ExtE hd H H':=fun a o e _=>h a o e
theorem Hn.same(h:Hn K hd H n)(s:Same H H'):Hn K hd H' n:=fun a e=>by rcases h a e with⟨⟨d,m,t,q,r⟩,l⟩|⟨l,p⟩;exact .inl ⟨⟨d,m,t,s _ _ q,r⟩,l⟩;exact .inr ⟨l,p.same s⟩
theorem Reps.same{vs ts}(s:Same H H')(r:Reps K hd O H vs ts):Reps K hd O H' vs ts:=r.mono (fun _ _ _ z=>z) fun a o _ h=>s a o h
theorem ExtE.repT(e:ExtE C.hd H H')(hx:∀a,C.hd=some a->C.ext a)(r:RepT K C.hd (Own C ρ σ) H v t):RepT K C.hd (Own C ρ σ) H' v t:=by rcases r with r|⟨a,vs,ds,J,x,I,G,u⟩|⟨a,zs,ep,ks,J,x,I,G,u⟩;exact .inl (e.rep hx r);exact .inr (.inl ⟨a,vs,ds,J,x,e _ _ I u,e.reps hx G,u⟩);exact .inr (.inr ⟨a,zs,ep,ks,J,x,e _ _ I u,G.mono (fun _ _ _ z=>z) (fun a o no h=>e a o h fun z=>no (.inl (hx a z))),u⟩)
theorem RepT.lstI{ds}(h:RepT K hd O H v (.list ds)):∃a vs,v=.ref a/\H a=some (.lst vs)/\Reps K hd O H vs ds:=by rcases h with h|⟨a,vs,es,x,o,u,C,_⟩|⟨a,vs,ep,es,x,o,u,C,_⟩;obtain⟨a,vs,x,o,_,u⟩:=h.lstI;exact⟨a,vs,x,o,u⟩;cases o;exact⟨a,vs,x,u,C⟩;cases o
theorem RepT.tupI{ds}(h:RepT K hd O H v (.tuple ds)):∃a vs,v=.ref a/\SqT K H a vs/\Reps K hd O H vs ds:=by rcases h with h|⟨a,vs,es,G,o,x,C,_⟩|⟨a,vs,ep,es,G,o,x,C,_⟩;exact h.tupI;cases o;cases o
theorem RepT.rep(h:RepT K hd O H v t)(nl:∀ds,t≠.list ds)(nd:∀ks,t≠.dict (Jv ks):=by intro ks z;first|cases z|exact dict_noT (cY z)):Rep K hd O H v t:=by rcases h with h|⟨a,vs,es,C,o,u,x,_⟩|⟨a,vs,ep,es,C,o,u,x,_⟩;exact h;exact absurd o (nl es);exact absurd o (nd es)
theorem RepT.intI{i}(h:RepT K hd O H v (.int i)):v=.int i:=(h.rep (by intro _ z;cases z)).intI
theorem RepT.blI{i}(h:RepT K hd O H v (.bool i)):v=.bl i:=(h.rep (by intro _ z;cases z)).blI
theorem RepT.strI{i}(h:RepT K hd O H v (.str i)):v=.str i:=(h.rep (by intro _ z;cases z)).strI
theorem RepT.nonI(h:RepT K hd O H v .none):v=.non:=(h.rep (by intro _ z;cases z)).nonI
theorem Rep.newT{vs ts}(no:¬O p)(h:H p=none)(r:Reps K hd O H vs ts):Rep K hd O (upd H p (.tup vs)) (.ref p) (.tuple ts) :=
 .tup JH no (r.same (fun b u e=>by rw[Jj (Qf e h)];exact e))
end
theorem J9(h:H p=none):Same H (upd H p o):=fun b u e=>by rw[Jj (Qf e h)];exact e
abbrev G2:=ab->ab->(ab->Prop)->Prop
def dOp(g:G2)(o db:DTE):DTE:=fun l n R=>o l n fun x u=>db l u fun y v=>g x y fun z=>R z v
def Gp2(X:Cx)(r:R2)(g:G2):Prop:=∀(hd:Option af) (O:af->Prop) (H:Hp) (x y:V) (t u:ab) (Q:VK) (R:ab->Prop),(∀p,O p->H p≠none)->RepT X.K hd O H x t->RepT X.K hd O H y u->g t u R ->
 (∀z v H',R z->Same H H'->Rep X.K hd O H' v z->Q v H')->r x y H Q
section
variable{X:Cx}{a b c:aT}{da db dc:DTE}{pos:Pos}{r r':R2}{g g':G2}
theorem two{C:Ctx}{l:En}{σ:St}{H:Hp}{n:Nat}{ta Y:TE}(ha:∀(C:Ctx) (l:En) (σ:St) (H:Hp) (n:Nat) (Q:VK) (R:qN),Stt X.K C l σ H n->da l n R ->
  (∀t I v H',R t I->ExtE C.hd H H'->Hn X.K C.hd H' I->RepT X.K C.hd (Own C l σ) H' v t->Q v H')->ta σ H Q)
  (hb:∀(C:Ctx) (l:En) (σ:St) (H:Hp) (n:Nat) (Q:VK) (R:qN),Stt X.K C l σ H n->db l n R ->
  (∀t I v H',R t I->ExtE C.hd H H'->Hn X.K C.hd H' I->RepT X.K C.hd (Own C l σ) H' v t->Q v H')->Y σ H Q)
  {Z:V->V->Hp->Prop} {R2:ab->ab->Nat->Prop} (S:Stt X.K C l σ H n) (h:da l n fun x L=>db l L fun y G=>R2 x y G)
  (hq:∀x y G v w o,R2 x y G->ExtE C.hd H o->Stt X.K C l σ o G->RepT X.K C.hd (Own C l σ) o v x->RepT X.K C.hd (Own C l σ) o w y->Z v w o) :
  ta σ H fun v J=>Y σ J fun w o=>Z v w o:=by
 refine ha C l σ H n _ _ S h fun t L v J r1 U h1 q1=>?_;have S1:=S.on U h1;refine hb C l σ J L _ _ S1 r1 fun u G w o r2 N h2 q2=>?_;exact hq t u G v w o r2 (U.trans N) (S1.on N h2) (N.repT S.hx q1) q2
theorem QQ{op:oX}(Z:OpR X (binaryOp op) r)(L:Gp2 X r g)(ha:DL X a da)(hb:DL X b db):DE X (.BinOp a op b pos) (dOp g da db):=by obtain⟨ta,pa,ha⟩:=ha;obtain⟨tb,pb,hb⟩:=hb;refine⟨_,JE Z pa pb,fun C ρ σ H n Q R S h o=>?_⟩;refine two ha hb S h fun x y N v w Y I e l G U=>?_;exact L C.hd (Own C ρ σ) Y v w x y Q _ (fun p=>l.dom) G U I fun z u H' J sm rp=>o z N u H' J (e.trans sm.ext) (l.hnd.same sm) rp
theorem Qi{op:sP}(ho:OpR X (compareOp op) r)(N:Gp2 X r g)(ha:DL X a da)(hb:DL X b db)(hm:behindInMarks op b=false):DE X (.Compare a [op] [b] pos) (dOp g da db):=by obtain⟨ta,pa,ha⟩:=ha;obtain⟨tb,pb,hb⟩:=hb;refine⟨_,zkJ ho pa pb hm,fun C ρ σ H n Q R S h G=>?_⟩;refine two ha hb S h fun x y U v w Z J e l I Y=>?_;exact N C.hd (Own C ρ σ) Z v w x y Q _ (fun p=>l.dom) I Y J fun z u H' L sm rp=>G z U u H' L (e.trans sm.ext) (l.hnd.same sm) rp
def UF(d:DTE):DTT:=fun v n R=>d v n fun t u=>match t with|.bool k=>R k u|_=>False
theorem Jr{op:sP}(ho:OpR X (compareOp op) r)(N:Gp2 X r g)(ha:DL X a da)(hb:DL X b db)(hm:behindInMarks op b=false):DT X (.Compare a [op] [b] pos) (UF (dOp g da db)):=by
 obtain⟨ta,pa,ha⟩:=ha;obtain⟨tb,pb,hb⟩:=hb;refine⟨_,zhL ho pa pb hm,fun C ρ σ H n Q R S h I=>?_⟩;refine two ha hb S h fun x y U v w Z L e G J Y=>?_;refine N C.hd (Own C ρ σ) Z v w x y _ _ (fun p=>G.dom) J Y L fun z u H' l sm rp=>?_;cases z with
 | bool k =>cases rp;exact⟨k,rfl,I k U H' l (e.trans sm.ext) (G.hnd.same sm)⟩
 | _=>exact l.elim
def Yh(g g':G2)(da db dc:DTE):DTE:=fun u n R=>da u n fun x G=>db u G fun y v=>g x y fun z=>match z with
 | .bool true=>dc u v fun w C=>g' y w fun z=>R z C
 | .bool false=>R (.bool false) v
 | _=>False
def gI(C:Int->Int->Prop)(f:Int->Int->Int):G2
 | .int i,.int j,R=>C i j/\R (.int (f i j))
 | _,_,_=>False
def gB(f:Int->Int->Bool):G2
 | .int i,.int j,R=>R (.bool (f i j))
 | _,_,_=>False
theorem gp_I:Gp2 X (rI C fun i j=>.int (f i j)) (gI C f):=by intro hd O H x y t u Q R dom v l h o;unfold gI at h;split at h;rename_i i j;exact⟨i,j,v.intI,l.intI,h.1,o _ _ H h.2 (Same.refl H) (.int _)⟩;exact h.elim
def gI0(f:Int->Int->Int):G2
 | .int i,.int j,R=>R (.int (f i j))
 | _,_,_=>False
theorem zpH:Gp2 X (rI0 fun i j=>.int (f i j)) (gI0 f):=by intro hd O H x y t u Q R dom v l h o;unfold gI0 at h;split at h;rename_i i j;exact⟨i,j,v.intI,l.intI,o _ _ H h (Same.refl H) (.int _)⟩;exact h.elim
theorem gp_B:Gp2 X (rI0 fun i j=>.bl (f i j)) (gB f):=by intro hd O H x y t u Q R dom C o h v;unfold gB at h;split at h;rename_i i j;exact⟨i,j,C.intI,o.intI,v _ _ H h (Same.refl H) (.bl _)⟩;exact h.elim
end
section
variable{X:Cx}{a b c:aT}{da db dc:DTE}{pos:Pos}
def oSub:=gI0 fun i j=>i - j
def oMod:=gI (fun _ j=>0<j) fun i j=>i % j
def Uc:=gI YZ fun i j=>i / j
def oShl:=gI CPow fun i j=>i*2 ^ j.toNat
def oShr:=gI (fun _ j=>0<=j) fun i j=>i / 2 ^ j.toNat
def oXor:=gI0 cz
def oAnd:=gI0 fL
theorem JY(ha:DL X a da)(hb:DL X b db):DE X (.BinOp a .Sub b pos) (dOp oSub da db):=QQ zq7 zpH ha hb
theorem zof(ha:DL X a da)(hb:DL X b db):DE X (.BinOp a .Mod b pos) (dOp oMod da db):=QQ UO gp_I ha hb
theorem ZH(ha:DL X a da)(hb:DL X b db):DE X (.BinOp a .FloorDiv b pos) (dOp Uc da db):=QQ VI gp_I ha hb
theorem JT(ha:DL X a da)(hb:DL X b db):DE X (.BinOp a .LShift b pos) (dOp oShl da db):=QQ zq9 gp_I ha hb
theorem zsI(ha:DL X a da)(hb:DL X b db):DE X (.BinOp a .RShift b pos) (dOp oShr da db):=QQ zq8 gp_I ha hb
theorem zod(ha:DL X a da)(hb:DL X b db):DE X (.BinOp a .BitXor b pos) (dOp oXor da db):=QQ zq6 zpH ha hb
theorem zsK(ha:DL X a da)(hb:DL X b db):DE X (.BinOp a .BitAnd b pos) (dOp oAnd da db):=QQ zrj zpH ha hb
end
section
variable{X:Cx}{pins:qO}{σ:St}{H:Hp}{s:aj}{hd:Option af}{O:af->Prop}
theorem RepT.reads(I:Inv X pins σ H s)(h:RepT X.K hd O H v d)(r:RelV v u)(e:d.hasDict=false):∃J,Reads s.heap u d J:=by
 rcases h with h|⟨a,vs,ds,rfl,rfl,G,C,_⟩|⟨a,zs,ep,ks,rfl,rfl,G,C,_⟩
 rotate_left 2
 simp[b8]at e;exact h.reads I r e;cases r;obtain⟨its,N,p,_⟩:=I.list (xs:=vs) (.inl (.inl G));obtain⟨o,n,R,hc,_,x⟩:=p;obtain⟨J,L⟩:=Reps.reads I C N (by simpa[b8] using e);exact⟨_,.list R hc x (by simpa using L)⟩
end
def Okd(t:ab):Prop:=t.canLay0=true/\t.depth<=60
section
variable{X:Cx}{a b c:aT}{da db dc:DTE}{pos:Pos}{k:Nat}
def rEqD(K:qF)(neg:Bool):R2:=fun x y H Q=>∃hd O t u,RepT K hd O H x t/\RepT K hd O H y u/\Okd t/\Okd u/\Q (.bl (if neg then !t.eqv u else t.eqv u)) H
theorem zrh(R:Room k X.A):OpR X (compareOp .Eq) (rEqD X.K false):=by intro pins s σ H x y v u Q I L J h;obtain⟨hd,O,t,w,U,G,o,C,q⟩:=h;obtain⟨Y,N⟩:=U.reads I L (eI _ o.1);obtain⟨bs,S⟩:=G.reads I J (eI _ C.1);refine SeqAt.compareEq_reads N S o.1 C.1 ?_ ⟨.bl _,H,I,rfl,q⟩;have:=R.un;have:=o.2;omega
theorem zra(U:Room k X.A):OpR X (compareOp .NotEq) (rEqD X.K true):=by intro pins s σ H x y v u Q I R L h;obtain⟨hd,O,t,w,Z,J,C,G,q⟩:=h;obtain⟨as,S⟩:=Z.reads I R (eI _ C.1);obtain⟨bs,Y⟩:=J.reads I L (eI _ G.1);refine SeqAt.compareNe_reads S Y C.1 G.1 ?_ ⟨.bl _,H,I,rfl,q⟩;have:=U.un;have:=C.2;omega
def oEq:G2
 | .int i,.int j,R=>R (.bool (decide (i=j)))
 | .str i,.str j,R=>R (.bool (decide (i=j)))
 | .bool i,.bool j,R=>R (.bool (decide (i=j)))
 | t,u,R=>Okd t/\Okd u/\R (.bool (t.eqv u))
def oNe:G2
 | .int i,.int j,R=>R (.bool (!decide (i=j)))
 | .str i,.str j,R=>R (.bool (!decide (i=j)))
 | .bool i,.bool j,R=>R (.bool (!decide (i=j)))
 | t,u,R=>Okd t/\Okd u/\R (.bool (!t.eqv u))
def rEqA(K:qF):R2:=fun x y H Q=>rEq x y H Q\/rEqD K false x y H Q
def rNeA(K:qF):R2:=fun x y H Q=>rNe x y H Q\/rEqD K true x y H Q
theorem Yz(l:Room k X.A):OpR X (compareOp .Eq) (rEqA X.K):=OpR.or zuk (zrh l)
theorem Zu(l:Room k X.A):OpR X (compareOp .NotEq) (rNeA X.K):=OpR.or zui (zra l)
theorem U1:Gp2 X (rEqA X.K) oEq:=by
 intro hd O H x y t u Q R dom G C h v;have D:Okd t/\Okd u/\R (.bool (t.eqv u))->rEqA X.K x y H Q:=fun h=>.inr ⟨hd,O,_,_,G,C,h.1,h.2.1,v _ _ H h.2.2 (Same.refl H) (.bl _)⟩;cases t with
 | int i=>cases u with
  | int j =>rw[G.intI,C.intI];refine .inl ⟨rfl,?_⟩;have e:decide (V.int i=V.int j)=decide (i=j):=decide_eq_decide.mpr ⟨fun z=>by cases z;rfl,fun z=>by rw[z]⟩;rw[e];exact v _ _ H h (Same.refl H) (.bl _)
  | _=>exact D h
 | str i=>cases u with
  | str j =>rw[G.strI,C.strI];refine .inl ⟨rfl,?_⟩;have e:decide (V.str i=V.str j)=decide (i=j):=decide_eq_decide.mpr ⟨fun z=>by cases z;rfl,fun z=>by rw[z]⟩;rw[e];exact v _ _ H h (Same.refl H) (.bl _)
  | _=>exact D h
 | bool i=>cases u with
  | bool j =>rw[G.blI,C.blI];refine .inl ⟨rfl,?_⟩;have e:decide (V.bl i=V.bl j)=decide (i=j):=decide_eq_decide.mpr ⟨fun z=>by cases z;rfl,fun z=>by rw[z]⟩;rw[e];exact v _ _ H h (Same.refl H) (.bl _)
  | _=>exact D h
 | _=>exact D h
theorem Y2:Gp2 X (rNeA X.K) oNe:=by
 intro hd O H x y t u Q R dom G C h v;have D:Okd t/\Okd u/\R (.bool (!t.eqv u))->rNeA X.K x y H Q:=fun h=>.inr ⟨hd,O,_,_,G,C,h.1,h.2.1,v _ _ H h.2.2 (Same.refl H) (.bl _)⟩;cases t with
 | int i=>cases u with
  | int j =>rw[G.intI,C.intI];refine .inl ⟨rfl,?_⟩;have e:decide (V.int i=V.int j)=decide (i=j):=decide_eq_decide.mpr ⟨fun z=>by cases z;rfl,fun z=>by rw[z]⟩;rw[e];exact v _ _ H h (Same.refl H) (.bl _)
  | _=>exact D h
 | str i=>cases u with
  | str j =>rw[G.strI,C.strI];refine .inl ⟨rfl,?_⟩;have e:decide (V.str i=V.str j)=decide (i=j):=decide_eq_decide.mpr ⟨fun z=>by cases z;rfl,fun z=>by rw[z]⟩;rw[e];exact v _ _ H h (Same.refl H) (.bl _)
  | _=>exact D h
 | bool i=>cases u with
  | bool j =>rw[G.blI,C.blI];refine .inl ⟨rfl,?_⟩;have e:decide (V.bl i=V.bl j)=decide (i=j):=decide_eq_decide.mpr ⟨fun z=>by cases z;rfl,fun z=>by rw[z]⟩;rw[e];exact v _ _ H h (Same.refl H) (.bl _)
  | _=>exact D h
 | _=>exact D h
def isNone:ab->Bool
 | .none=>true
 | _=>false
def oIs:G2
 | .bool a,.bool b,R=>R (.bool (a == b))
 | t,.none,R=>R (.bool (isNone t))
 | _,_,_=>False
def oIsN:G2
 | .bool a,.bool b,R=>R (.bool (a != b))
 | t,.none,R=>R (.bool (!isNone t))
 | _,_,_=>False
def rIs:R2:=fun x y H Q=>(y=.non/\Q (.bl (decide (x=.non))) H)\/∃a b,x=.bl a/\y=.bl b/\Q (.bl (a == b)) H
def rIsN:R2:=fun x y H Q=>(y=.non/\Q (.bl (!decide (x=.non))) H)\/∃a b,x=.bl a/\y=.bl b/\Q (.bl (a != b)) H
theorem zrg:OpR X (compareOp .Is) rIs:=OpR.or zre zrf
theorem zhO:OpR X (compareOp .IsNot) rIsN:=OpR.or zo1 zkP
theorem RepT.isN{K:qF}{hd:Option af}{O:af->Prop}{H:Hp}{v:V}{t:ab}(h:RepT K hd O H v t):decide (v=.non)=(isNone t):=by rcases h with h|⟨a,vs,ds,rfl,rfl,l,u,_⟩|⟨a,zs,ep,ks,rfl,rfl,l,u,_⟩;cases h <;> simp[HAND,SCR,EXC,isNone];simp[isNone];simp[isNone]
theorem zsm:Gp2 X rIs oIs:=by intro hd O H x y t u Q R dom C o h v;unfold oIs at h;split at h;rename_i i j;exact .inr ⟨i,j,C.blI,o.blI,v _ _ H h (Same.refl H) (.bl _)⟩;refine .inl ⟨o.nonI,?_⟩;rw[C.isN];exact v _ _ H h (Same.refl H) (.bl _);exact h.elim
theorem zic:Gp2 X rIsN oIsN:=by intro hd O H x y t u Q R dom C o h v;unfold oIsN at h;split at h;rename_i i j;exact .inr ⟨i,j,C.blI,o.blI,v _ _ H h (Same.refl H) (.bl _)⟩;refine .inl ⟨o.nonI,?_⟩;rw[C.isN];exact v _ _ H h (Same.refl H) (.bl _);exact h.elim
def oLtA:G2
 | .int i,.int j,R=>R (.bool (decide (i<j)))
 | .str i,.str j,R=>R (.bool (decide (i.cps.toList<j.cps.toList)))
 | .tuple xs,.tuple ys,R=>∃ns v,xs=ns.map cq/\ys=v.map cq/\R (.bool (HT.lexLt ns v))
 | _,_,_=>False
def rLtA(K:qF):R2:=fun x y H Q=>(rI0 fun i j=>.bl (decide (i<j))) x y H Q\/(∃i j,x=.str i/\y=.str j/\Q (.bl (decide (i.cps.toList<j.cps.toList))) H)\/rLtT K x y H Q
theorem Qe(l:Room k X.A):OpR X (compareOp .Lt) (rLtA X.K):=OpR.or zrc (OpR.or zkN (zrb l.units0))
theorem VU{K:qF}{hd:Option af}{O:af->Prop}{H:Hp}:∀{ns:List Int}{vs:List V},Reps K hd O H vs (ns.map cq)->vs=ns.map V.int
 | [],_,h=>by cases h;rfl
 | n::ns,_,h=>by
  cases h with
  | cons h r=>rw[h.intI,VU r];rfl
theorem Qd:Gp2 X (rLtA X.K) oLtA:=by
 intro hd O H x y t u Q R dom C v h o;cases t with
 | int i=>cases u with
  | int j=>exact .inl ⟨_,_,C.intI,v.intI,o _ _ H h (Same.refl H) (.bl _)⟩
  | _=>exact h.elim
 | str i=>cases u with
  | str j=>exact .inr (.inl ⟨_,_,C.strI,v.strI,o _ _ H h (Same.refl H) (.bl _)⟩)
  | _=>exact h.elim
 | tuple i=>cases u with
  | tuple j =>obtain⟨ns,L,rfl,rfl,h⟩:=h;obtain⟨p,vs,G,s1,J⟩:=C.tupI;obtain⟨q,ws,N,s2,I⟩:=v.tupI;rw[VU J]at s1;rw[VU I]at s2;exact .inr (.inr ⟨p,q,ns,L,G,N,s1,s2,o _ _ H h (Same.refl H) (.bl _)⟩)
  | _=>exact h.elim
 | _=>exact h.elim
def oLeA:G2
 | .int i,.int j,R=>R (.bool (decide (i<=j)))
 | .str i,.str j,R=>R (.bool (!decide (j.cps.toList<i.cps.toList)))
 | _,_,_=>False
def rLeA:R2:=fun x y H Q=>(rI0 fun i j=>.bl (decide (i<=j))) x y H Q\/(∃i j,x=.str i/\y=.str j/\Q (.bl (!decide (j.cps.toList<i.cps.toList))) H)
theorem zkO:OpR X (compareOp .LtE) (fun x y H Q=>∃i j,x=.str i/\y=.str j/\Q (.bl (!decide (j.cps.toList<i.cps.toList))) H):=by intro pins s σ H x y v u Q I C o h;obtain⟨i,j,rfl,rfl,q⟩:=h;obtain⟨t,rfl⟩:=C;obtain⟨t',rfl⟩:=o;exact PySem.P.le_str ⟨.bl _,H,I,rfl,q⟩
theorem QB:OpR X (compareOp .LtE) rLeA:=OpR.or zuj zkO
theorem QA:Gp2 X rLeA oLeA:=by
 intro hd O H x y t u Q R dom C o h v;cases t with
 | int i=>cases u with
  | int j=>exact .inl ⟨_,_,C.intI,o.intI,v _ _ H h (Same.refl H) (.bl _)⟩
  | _=>exact h.elim
 | str i=>cases u with
  | str j=>exact .inr ⟨_,_,C.strI,o.strI,v _ _ H h (Same.refl H) (.bl _)⟩
  | _=>exact h.elim
 | _=>exact h.elim
variable{r r':R2}{g g':G2}
theorem zi8(ho:OpR X (compareOp op) r)(hg:Gp2 X r g)(L:OpR X (compareOp op') r')(N:Gp2 X r' g')(ha:DL X a da)(hb:DL X b db)(hc:DL X c dc)
  (hm:lastMarks [op,op'] [b,c]=false:=by with_unfolding_all rfl):DE X (.Compare a [op,op'] [b,c] pos) (Yh g g' da db dc):=by
 obtain⟨ta,pa,ha⟩:=ha;obtain⟨tb,pb,hb⟩:=hb;obtain⟨tc,pc,hc⟩:=hc;refine⟨_,zmP ho L pa pb pc hm,fun C Y σ H n Q R S h hq=>?_⟩;refine two ha hb S h fun x y n2 v w H2 r2 e S2 q1 q2=>?_;refine hg C.hd (Own C Y σ) H2 v w x y _ _ (fun p=>S2.dom) q1 q2 r2 fun z u H' G sm U=>?_;have J:=S2.on sm.ext (S2.hnd.same sm);cases z with
 | bool k =>
  cases U;refine⟨k,rfl,?_⟩;cases k with
  | false=>exact iteF (hq _ n2 _ H' G (e.trans sm.ext) J.hnd (.bl _))
  | true =>refine iteT (hc C Y σ H' n2 _ _ J G fun z2 n3 w2 H4 r4 e4 h4 q4=>?_);have S4:=J.on e4 h4;have Z:=e4.repT S.hx ((Same.ext sm:ExtE C.hd H2 H').repT S.hx q2);exact N C.hd (Own C Y σ) H4 w w2 y z2 Q _ (fun p=>S4.dom) Z q4 r4 fun z u H' G I U=>hq z n3 u H' G (((e.trans sm.ext).trans e4).trans I.ext) (S4.hnd.same I) U
 | _=>exact G.elim
end
section
variable{X:Cx}{a b c e:aT}{es rest:List aT}{d da db dc:DTE}{t u:DTT}{pos p:Pos}{k:Nat}
def truD:ab->(Bool->Prop)->Prop
 | .none,R=>R false
 | .bool b,R=>R b
 | .int i,R=>R (decide (i≠0))
 | .str x,R=>x.length<=16777216/\R (decide (x.length≠0))
 | .list ts,R=>R (!ts.isEmpty)
 | .tuple ts,R=>R (!ts.isEmpty)
 | _,_=>False
def dTru(d:DTE):DTT:=fun o n R=>d o n fun t l=>truD t fun b=>R b l
theorem zql{K:qF}{hd:Option af}{O:af->Prop}{H:Hp}{v:V}{t:ab}{Q:Bool->Hp->Prop}{R:Bool->Prop}(r:RepT K hd O H v t)(h:truD t R)(C:∀b,R b->Q b H):∃k,TruV K v H k/\Q k H:=by
 cases t with
 | none=>exact⟨false,by rw[r.nonI];rfl,C _ h⟩
 | bool b=>exact⟨b,by rw[r.blI];rfl,C _ h⟩
 | int i=>exact⟨decide (i≠0),by rw[r.intI];show _=(i != 0);by_cases z:i=0 <;> simp[z],C _ h⟩
 | str x =>refine⟨decide (x.length≠0),by rw[r.strI];exact⟨h.1,by by_cases z:x.length=0 <;> simp[z]⟩,C _ h.2⟩
 | list ts =>obtain⟨p,vs,e,I,G⟩:=r.lstI;subst e;refine⟨!ts.isEmpty,.inl ⟨vs,.of I,?_⟩,C _ h⟩;cases G <;> rfl
 | tuple ts =>obtain⟨p,vs,e,I,G⟩:=r.tupI;subst e;refine⟨!ts.isEmpty,.inr (.inl ⟨vs,I,?_⟩),C _ h⟩;cases G <;> rfl
 | dict _=>exact h.elim
theorem J8(ha:DL X a da)(he:∀whole,isTrue a X.env whole=(do let v <- whole;standAt a.pos;holding [v] (truthy v)):=by intro _;rfl):DT X a (dTru da):=by obtain⟨L,pa,ha⟩:=ha;refine⟨_,zmJ pa he,fun C G σ H n Q R S h o=>?_⟩;refine ha C G σ H n _ _ S h fun t I v H' r l J q=>?_;exact zql q r fun b x=>o b I H' x l J
def dAnd(t u:DTT):DTT:=fun o n R=>t o n fun b l=>if b=true then u o l R else R false l
def dOr(t u:DTT):DTT:=fun o n R=>t o n fun b l=>if b=true then R true l else u o l R
def dNot(t:DTT):DTT:=fun o n R=>t o n fun b l=>R (!b) l
theorem J7(h:DW X a t):DT X a t:=by obtain⟨l,pa,h⟩:=h;exact⟨_,pa.pt,h⟩
theorem Uk(h:DT X a t):DW X (.BoolOp .And [a] pos) t:=by obtain⟨v,pa,h⟩:=h;exact⟨_,zoD pa,h⟩
theorem UK(h:DT X a t):DW X (.BoolOp .Or [a] pos) t:=by obtain⟨v,pa,h⟩:=h;exact⟨_,zqK pa,h⟩
theorem Ug(h:DT X a t)(h':DW X (.BoolOp .And (b::rest) pos) u):DW X (.BoolOp .And (a::b::rest) pos) (dAnd t u):=by
 obtain⟨ta,pa,h⟩:=h;obtain⟨tb,pb,h'⟩:=h';refine⟨_,zqL pa pb,fun C J σ H n Q R S hd x=>?_⟩;refine h C J σ H n _ _ S hd fun b I G r v L=>?_;cases b with
 | true=>exact iteT (h' C J σ G I Q R (S.on v L) (by simpa using r) fun b U Y r Z N=>x b U Y r (v.trans Z) N)
 | false=>exact iteF (x _ I G (by simpa using r) v L)
theorem UH(h:DT X a t)(h':DW X (.BoolOp .Or (b::rest) pos) u):DW X (.BoolOp .Or (a::b::rest) pos) (dOr t u):=by
 obtain⟨ta,pa,h⟩:=h;obtain⟨tb,pb,h'⟩:=h';refine⟨_,zud pa pb,fun C J σ H n Q R S hd x=>?_⟩;refine h C J σ H n _ _ S hd fun b I G r v L=>?_;cases b with
 | false=>exact iteF (h' C J σ G I Q R (S.on v L) (by simpa using r) fun b U Y r Z N=>x b U Y r (v.trans Z) N)
 | true=>exact iteT (x _ I G (by simpa using r) v L)
theorem QS(h:DT X a t):DT X (.UnaryOp .Not a pos) (dNot t):=by obtain⟨L,pa,h⟩:=h;refine⟨_,zqN pa,fun C I σ H n Q R S hd v=>?_⟩;exact h C I σ H n _ _ S hd fun b G x r l J=>v _ G x r l J
def bolD:ab->(Bool->Prop)->Prop
 | .bool b,R=>R b
 | _,_=>False
def zpY(da db:DTE):DTE:=fun x n R=>da x n fun t v=>bolD t fun b=>if b=true then db x v R else R (.bool false) v
def dOrV(da db:DTE):DTE:=fun x n R=>da x n fun t v=>bolD t fun b=>if b=true then R (.bool true) v else db x v R
def zpX(da:DTE):DTE:=fun x n R=>da x n fun t v=>bolD t fun b=>R (.bool (!b)) v
theorem Ud{op}(h:DE X a d):DE X (.BoolOp op [a] pos) d:=by obtain⟨v,pa,h⟩:=h;exact⟨_,zqV pa,h⟩
theorem UQ(h:DE X a da)(h':DE X (.BoolOp .And (b::rest) pos) db):DE X (.BoolOp .And (a::b::rest) pos) (zpY da db):=by
 obtain⟨ta,pa,h⟩:=h;obtain⟨tb,pb,h'⟩:=h';refine⟨_,zq1 pa pb,fun C L σ H n Q R S hd G=>?_⟩;refine h C L σ H n _ _ S hd fun t J v I r x N Y=>?_;cases t with
 | bool b =>
  cases Y;refine⟨b,rfl,?_⟩;cases b with
  | true=>exact iteT (h' C L σ I J Q R (S.on x N) (by simpa[bolD] using r) fun t Z v H2 r e2 U q2=>G t Z v H2 r (x.trans e2) U q2)
  | false=>exact iteF (G _ J _ I (by simpa[bolD] using r) x N (.bl _))
 | _=>exact r.elim
theorem zoe(h:DE X a da)(h':DE X (.BoolOp .Or (b::rest) pos) db):DE X (.BoolOp .Or (a::b::rest) pos) (dOrV da db):=by
 obtain⟨ta,pa,h⟩:=h;obtain⟨tb,pb,h'⟩:=h';refine⟨_,zug pa pb,fun C L σ H n Q R S hd G=>?_⟩;refine h C L σ H n _ _ S hd fun t J v I r x N Y=>?_;cases t with
 | bool b =>
  cases Y;refine⟨b,rfl,?_⟩;cases b with
  | false=>exact iteF (h' C L σ I J Q R (S.on x N) (by simpa[bolD] using r) fun t Z v H2 r e2 U q2=>G t Z v H2 r (x.trans e2) U q2)
  | true=>exact iteT (G _ J _ I (by simpa[bolD] using r) x N (.bl _))
 | _=>exact r.elim
theorem zlI(h:DE X a da):DE X (.UnaryOp .Not a pos) (zpX da):=by
 obtain⟨ta,pa,h⟩:=h;refine⟨_,zqW pa,fun C Y σ H n Q R S hd G=>?_⟩;refine h C Y σ H n _ _ S hd fun t L v J r x Z I=>?_;cases t with
 | bool b =>cases I;exact⟨b,rfl,G _ L _ J r x Z (.bl _)⟩
 | _=>exact r.elim
def dIfE(t:DTT)(da db:DTE):DTE:=fun l n R=>t l n fun b o=>if b=true then da l o R else db l o R
theorem znw(hc:DT X c t)(h:DE X a da)(h':DE X b db):DE X (.IfExp c a b pos) (dIfE t da db):=by
 obtain⟨tc,pc,hc⟩:=hc;obtain⟨ta,pa,h⟩:=h;obtain⟨tb,pb,h'⟩:=h';refine⟨_,zmO pc pa pb,fun C U σ H n Q R S hd Y=>?_⟩;refine hc C U σ H n _ _ S hd fun b n1 Z r l h1=>?_;cases b with
 | true=>exact iteT (h C U σ Z n1 Q R (S.on l h1) (by simpa using r) fun t G v L r N o J=>Y t G v L r (l.trans N) o J)
 | false=>exact iteF (h' C U σ Z n1 Q R (S.on l h1) (by simpa using r) fun t G v L r N o J=>Y t G v L r (l.trans N) o J)
def dNil:DTA:=fun _ n R=>R [] n
def J6(d:DTE)(ds:DTA):DTA:=fun l n R=>d l n fun t o=>ds l o fun ts v=>R (t::ts) v
theorem Ja:DB X [] dNil:=⟨_,Ui,fun C v σ H n Q R S h o=>o [] n [] H h ExtE.refl S.hnd .nil rfl⟩
theorem zlL(h:DE X e d)(l:DB X es ds)(hs:starEach (e::es) X.env=(false,eval e X.env)::starEach es X.env):DB X (e::es) (J6 d ds):=by obtain⟨ta,pa,h⟩:=h;obtain⟨tb,pb,l⟩:=l;refine⟨_,QP pa pb hs,fun C I σ H n Q R S hd J=>?_⟩;refine h C I σ H n _ _ S hd fun t n1 v Z r x h1 N=>?_;refine l C I σ Z n1 _ _ (S.on x h1) r fun ts Y vs H2 U G L q2 l2=>?_;exact J _ Y _ H2 U (x.trans G) L (.cons (G.rep S.hx N) q2) (by simp[l2])
def Y8(K:qF)(hd:Option af)(O:af->Prop)(H:Hp):List V->List ab->Prop:=bQ (RepT K hd O H)
def DBL(X:Cx)(es:List aT)(d:DTA):Prop:=∃v,PB X es v/\∀(C:Ctx) (l:En) (σ:St) (H:Hp) (n:Nat) (Q:List V->Hp->Prop) (R:List ab->Nat->Prop),Stt X.K C l σ H n->d l n R ->
 (∀ts o vs H',R ts o->ExtE C.hd H H'->Hn X.K C.hd H' o->Y8 X.K C.hd (Own C l σ) H' vs ts->ts.length=es.length->Q vs H')->v σ H Q
theorem Jm:DBL X [] dNil:=⟨_,Ui,fun C v σ H n Q R S h o=>o [] n [] H h ExtE.refl S.hnd .nil rfl⟩
theorem Je(h:DL X e d)(l:DBL X es ds)(hs:starEach (e::es) X.env=(false,eval e X.env)::starEach es X.env):DBL X (e::es) (J6 d ds):=by obtain⟨ta,pa,h⟩:=h;obtain⟨tb,pb,l⟩:=l;refine⟨_,QP pa pb hs,fun C I σ H n Q R S hd J=>?_⟩;refine h C I σ H n _ _ S hd fun t n1 v Z r x h1 N=>?_;refine l C I σ Z n1 _ _ (S.on x h1) r fun ts Y vs H2 U G L q2 l2=>?_;exact J _ Y _ H2 U (x.trans G) L (.cons (G.repT S.hx N) q2) (by simp[l2])
def dTup(ds:DTA):DTE:=fun v n R=>ds v n fun ts o=>R (.tuple ts) o
theorem Jn(h:DB X es ds)(Y:es.length<=sizeLine:=by decide):DE X (.Tuple es x1 pos) (dTup ds):=by obtain⟨ta,pa,h⟩:=h;refine⟨_,zoO pa,fun C N σ H n Q R S hd I=>?_⟩;refine h C N σ H n _ _ S hd fun ts L vs Z r v G x J=>⟨by rw[x.length,J];exact Y,fun p o=>?_⟩;have U:=S.on v G;exact I _ L _ _ r (v.trans (ExtE.new o)) (G.same (J9 o)) (.newT (U.free o) o x)
theorem JV(h:DB X es ds)(Z:es.length<=sizeLine:=by decide):DN X (.List es pos) ds:=by
 obtain⟨ta,pa,h⟩:=h;refine⟨_,zkI pa,fun C Y σ H n Q R S hd J=>?_⟩;refine h C Y σ H n _ _ S hd fun ts U vs H1 r v G I N=>⟨by rw[I.length,N];exact Z,fun p l=>?_⟩;have S1:=S.on v G;have x:H p=none:=by
  cases z:H p with
  | none=>rfl
  | some o =>by_cases y:C.hd=some p;obtain⟨vs,q⟩:=G.lst y;rw[l]at q;cases q;rw[v p o z y]at l;cases l
 refine J ts U p vs _ r (v.trans (ExtE.new l)) (G.same (J9 l)) x JH ?_;refine I.mono (fun b o hb z=>z.elim id fun z=>?_) fun b o _ hb=>J9 l b o hb;subst z;rw[l]at hb;cases hb
end
section
variable{X:Cx}{a b c e:aT}{es rest:List aT}{d da db dc:DTE}{ds:DTA}{pos p:Pos}{k:Nat}{x:Str}
abbrev GC:=List ab->(ab->Prop)->Prop
def Zf(g:GC)(ds:DTA):DTE:=fun o n R=>ds o n fun ts l=>g ts fun z=>R z l
def GpC(X:Cx)(r:List V->Hp->VK->Prop)(g:GC):Prop:=∀(hd:Option af) (O:af->Prop) (H:Hp) (xs:List V) (ts:qD) (Q:VK) (R:ab->Prop),(∀p,O p->H p≠none)->Y8 X.K hd O H xs ts->g ts R ->
 (∀z v H',R z->Same H H'->Rep X.K hd O H' v z->Q v H')->r xs H Q
theorem Ju{id:String}{r:List V->Hp->VK->Prop}{g:GC}(hc:JR X (.builtin id) r)(v:GpC X r g)(hm:X.mg x=none)(hv:bootBuiltins x=some (.builtin id))(h:DBL X (e::es) ds)(Z:Gl X x:=by rfl)(hn:x ≠ "__name__":=by decide) (o:Ndb x:=by rfl) :
  DE X (.Call (.Name x p) (e::es) [] pos) (Zf g ds):=by
 obtain⟨ta,pa,h⟩:=h;refine⟨_,Vh hc hm hv pa Z hn o,fun C I σ H n Q R S hd L=>?_⟩;refine h C I σ H n _ _ S hd fun ts n1 vs H1 r1 G J U _=>?_;have S1:=S.on G J;exact v C.hd (Own C I σ) H1 vs ts Q _ (fun p=>S1.dom) U r1 fun z u H' Y sm rp=>L z n1 u H' Y (G.trans sm.ext) (J.same sm) rp
theorem UG(hc:JR X (.type T) r)(v:GpC X r g)(hm:X.mg x=none)(hv:bootBuiltins x=some (.type T))(h:DBL X (e::es) ds)(Z:Gl X x:=by rfl)(hn:x ≠ "__name__":=by decide) (o:Ndb x:=by rfl) :
  DE X (.Call (.Name x p) (e::es) [] pos) (Zf g ds):=by
 obtain⟨ta,pa,h⟩:=h;refine⟨_,zq0 hc hm hv pa Z hn o,fun C I σ H n Q R S hd L=>?_⟩;refine h C I σ H n _ _ S hd fun ts n1 vs H1 r1 G J U _=>?_;have S1:=S.on G J;exact v C.hd (Own C I σ) H1 vs ts Q _ (fun p=>S1.dom) U r1 fun z u H' Y sm rp=>L z n1 u H' Y (G.trans sm.ext) (J.same sm) rp
theorem Qs{K:qF}{hd:Option af}{O:af->Prop}{H:Hp}{xs:List V}{t:ab}(h:Y8 K hd O H xs [t]):∃v,xs=[v]/\RepT K hd O H v t:=by
 cases h with
 | cons h r=>cases r;exact⟨_,rfl,h⟩
theorem znS{K:qF}{hd:Option af}{O:af->Prop}{H:Hp}{xs:List V}{t u:ab}(h:Y8 K hd O H xs [t,u]):∃v w,xs=[v,w]/\RepT K hd O H v t/\RepT K hd O H w u:=by
 cases h with
 | cons h r=>cases r with|cons l r=>cases r;exact⟨_,_,rfl,h,l⟩
def bLen:GC:=fun l R=>(∃ts,l=[.list ts]/\R (.int ts.length))\/(∃ts,l=[.tuple ts]/\R (.int ts.length))\/(∃x:Str,l=[.str x]/\x.length<=16777216/\R (.int x.length))\/∃ts,l=[.dict [(.none,.list ts)]]/\R (.int ts.length)
def rLen(K:qF):List V->Hp->VK->Prop:=fun xs H Q=>∃x n,xs=[x]/\LenV K x H n/\Q (.int n) H
theorem QM:GpC X (rLen X.K) bLen:=by
 intro hd O H xs ts Q R dom rs h C;rcases h with⟨ts,rfl,h⟩|⟨ts,rfl,h⟩|⟨x,rfl,h⟩|⟨ts,rfl,h⟩;obtain⟨v,rfl,r⟩:=Qs rs;obtain⟨p,vs,rfl,u,G⟩:=r.lstI;exact⟨_,_,rfl,.inl ⟨vs,.of u,rfl⟩,by rw[G.length];exact C _ _ H h (Same.refl H) (.int _)⟩;obtain⟨v,rfl,r⟩:=Qs rs;obtain⟨p,vs,rfl,u,G⟩:=r.tupI;exact⟨_,_,rfl,.inr ⟨vs,u,rfl⟩,by rw[G.length];exact C _ _ H h (Same.refl H) (.int _)⟩;obtain⟨v,rfl,r⟩:=Qs rs;rw[r.strI];exact⟨_,_,rfl,⟨h.1,rfl⟩,C _ _ H h.2 (Same.refl H) (.int _)⟩;obtain⟨v,rfl,r⟩:=Qs rs;have r:=r.rep (by intro _ z;cases z);generalize e:(uU [(oo,PyData.list ts)])=t at r;cases r with
 | scr u o =>simp only[SCR,nv,oE,se,ny,true_and,and_true]at e;subst e;exact⟨_,_,rfl,.inl ⟨_,.inl u,rfl⟩,by simpa using C _ _ H h (Same.refl H) (.int _)⟩
 | scrS u =>simp only[SCR,nv,oE,se,ny,true_and,and_true]at e;subst e;exact⟨_,_,rfl,.inl ⟨_,u H,rfl⟩,by simpa using C _ _ H h (Same.refl H) (.int _)⟩
 | hand _=>simp[HAND]at e
 | exc _ _=>simp[EXC]at e
 | dct _ _=>cases e
 | dcK _ _ _ I=>cases e;exact(zgc I).elim
 | dcT _ _ _ I=>cases e;exact(dict_noT I).elim
 | _=>cases e
def bMin:GC
 | [.int i,.int j],R=>R (.int (if j<i then j else i))
 | _,_=>False
def bMax:GC
 | [.int i,.int j],R=>R (.int (if j > i then j else i))
 | _,_=>False
theorem Uh:GpC X (fun xs H Q=>∃i j,xs=[.int i,.int j]/\Q (.int (if j<i then j else i)) H) bMin:=by
 intro hd O H xs ts Q R dom rs h l;cases ts with
 | nil=>exact h.elim
 | cons t ts=>cases t with
  | int i=>cases ts with
   | nil=>exact h.elim
   | cons u ts=>cases u with
    | int j=>cases ts with
     | nil =>obtain⟨v,w,rfl,C,o⟩:=znS rs;rw[C.intI,o.intI];exact⟨_,_,rfl,l _ _ H h (Same.refl H) (.int _)⟩
     | cons _ _=>exact h.elim
    | _=>exact h.elim
  | _=>exact h.elim
theorem Ym:GpC X (fun xs H Q=>∃i j,xs=[.int i,.int j]/\Q (.int (if j > i then j else i)) H) bMax:=by
 intro hd O H xs ts Q R dom rs h l;cases ts with
 | nil=>exact h.elim
 | cons t ts=>cases t with
  | int i=>cases ts with
   | nil=>exact h.elim
   | cons u ts=>cases u with
    | int j=>cases ts with
     | nil =>obtain⟨v,w,rfl,C,o⟩:=znS rs;rw[C.intI,o.intI];exact⟨_,_,rfl,l _ _ H h (Same.refl H) (.int _)⟩
     | cons _ _=>exact h.elim
    | _=>exact h.elim
  | _=>exact h.elim
def bInt:GC
 | [.int i],R=>R (.int i)
 | [.bool k],R=>R (.int (if k then 1 else 0))
 | _,_=>False
theorem zoa:GpC X (fun xs H Q=>(∃i,xs=[.int i]/\Q (.int i) H)\/∃k,xs=[.bl k]/\Q (.int (if k then 1 else 0)) H) bInt:=by
 intro hd O H xs ts Q R dom rs h u;cases ts with
 | nil=>exact h.elim
 | cons t ts=>cases t with
  | int i=>cases ts with
   | nil =>obtain⟨v,rfl,o⟩:=Qs rs;rw[o.intI];exact .inl ⟨_,rfl,u _ _ H h (Same.refl H) (.int _)⟩
   | cons _ _=>exact h.elim
  | bool i=>cases ts with
   | nil =>obtain⟨v,rfl,o⟩:=Qs rs;rw[o.blI];exact .inr ⟨_,rfl,u _ _ H h (Same.refl H) (.int _)⟩
   | cons _ _=>exact h.elim
  | _=>exact h.elim
def bAll:GC
 | [.list ts],R=>∃bs:List Bool,ts=bs.map eF/\R (.bool (bs.all id))
 | _,_=>False
def bAny:GC
 | [.list ts],R=>∃bs:List Bool,ts=bs.map eF/\R (.bool (bs.any id))
 | _,_=>False
theorem zdo{K:qF}{hd:Option af}{O:af->Prop}{H:Hp}:∀{ns:List Bool}{vs:List V},Reps K hd O H vs (ns.map eF)->vs=ns.map V.bl
 | [],_,h=>by cases h;rfl
 | n::ns,_,h=>by
  cases h with
  | cons h r=>rw[h.blI,zdo r];rfl
theorem Zh:GpC X (fun xs H Q=>∃(a:af) (bs:List Bool),xs=[.ref a]/\SqL X.K H a (bs.map V.bl)/\Q (.bl (bs.all id)) H) bAll:=by intro hd O H xs ts Q R dom rs h C;unfold bAll at h;split at h;obtain⟨bs,rfl,h⟩:=h;obtain⟨v,rfl,I⟩:=Qs rs;obtain⟨p,vs,rfl,u,G⟩:=I.lstI;rw[zdo G]at u;exact⟨p,bs,rfl,.of u,C _ _ H h (Same.refl H) (.bl _)⟩;exact h.elim
theorem zsn:GpC X (fun xs H Q=>∃(a:af) (bs:List Bool),xs=[.ref a]/\SqL X.K H a (bs.map V.bl)/\Q (.bl (bs.any id)) H) bAny:=by intro hd O H xs ts Q R dom rs h C;unfold bAny at h;split at h;obtain⟨bs,rfl,h⟩:=h;obtain⟨v,rfl,I⟩:=Qs rs;obtain⟨p,vs,rfl,u,G⟩:=I.lstI;rw[zdo G]at u;exact⟨p,bs,rfl,.of u,C _ _ H h (Same.refl H) (.bl _)⟩;exact h.elim
def Vn:GC
 | [.list ts],R=>R (.tuple ts)
 | [.tuple ts],R=>R (.tuple ts)
 | _,_=>False
theorem ZK:GpC X (fun xs H Q=>∃p ys,xs=[.ref p]/\((SqL X.K H p ys/\∀l,H l=none->Q (.ref l) (upd H l (.tup ys)))\/(SqT X.K H p ys/\Q (.ref p) H))) Vn:=by
 intro hd O H xs ts Q R dom rs h L;cases ts with
 | nil=>exact h.elim
 | cons t ts=>cases t with
  | list G=>cases ts with
   | nil =>obtain⟨v,rfl,C⟩:=Qs rs;obtain⟨p,vs,rfl,J,N⟩:=C.lstI;refine⟨p,vs,rfl,.inl ⟨.of J,fun l I=>?_⟩⟩;exact L _ _ _ h (J9 I) (.newT (fun z=>dom l z I) I N)
   | cons _ _=>exact h.elim
  | tuple G=>cases ts with
   | nil =>obtain⟨v,rfl,C⟩:=Qs rs;obtain⟨p,vs,rfl,J,N⟩:=C.tupI;exact⟨p,vs,rfl,.inr ⟨J,L _ _ H h (Same.refl H) (C.rep (by intro _ z;cases z))⟩⟩
   | cons _ _=>exact h.elim
  | _=>exact h.elim
def Qn:ab->(List ab->Prop)->Prop
 | .list ts,R=>R ts
 | .tuple ts,R=>R ts
 | _,_=>False
def tyN:ab->Option String
 | .none=>some "NoneType"
 | .bool _=>some "bool"
 | .int _=>some "int"
 | .str _=>some "str"
 | .list _=>some "list"
 | .tuple _=>some "tuple"
 | .dict []=>some "dict"
 | .dict _=>none
def rIsi(K:qF):List V->Hp->VK->Prop:=fun xs H Q=>∃x hd O t T y b,xs=[x,.ty T]/\RepT K hd O H x t/\tyN t=some y/\kitB y T=some b/\Q (.bl b) H
theorem zlZ:JR X (.builtin "isinstance") (rIsi X.K):=by
 intro pins s σ H xs us Q I r h;obtain⟨x,hd,O,t,T,y,b,rfl,J,ty,e,q⟩:=h;cases r with
 | cons G U =>
  cases U with
  | cons S R =>
   cases R;cases(show _=bC T from S);have fin:∀N,tyN t=some N->N=y:=fun N h=>aI (h.symm.trans ty);have go:Ty H x y->wpAny (model X.prog X.w) X.A (call (.builtin "isinstance") [_,bC T]) (EP X pins σ Q) X.xe s:=fun ty=>zln I G ty.of ((Yn X.K y T).trans e) fun v=>⟨.bl b,H,I.tok v,rfl,q⟩;rcases J with J|⟨a,vs,ds,rfl,rfl,L,Z,_⟩|⟨a,zs,ep,ks,rfl,rfl,L,Z,_⟩;cases J with
   | non=>cases ty;exact go .non
   | bl b=>cases ty;exact go (.bl b)
   | int i=>cases ty;exact go (.int i)
   | str i=>cases ty;exact go (.str i)
   | tup h o r=>cases ty;exact go (.tup h)
   | lst h o r=>cases ty;exact go (.lst h)
   | @dct a ep h o =>cases ty;cases(show _=a9 a from G);obtain⟨⟨_,_,_,C,es,g1,g2,_⟩,_⟩:=I.hok a _ h;exact bD eD I.kIn ⟨C,g1,g2.1⟩ ((Yn X.K "dict" T).trans e) (fun z=>nomatch z) fun v=>⟨.bl b,H,I.tok v,rfl,q⟩
   | @dcK a kvs ep ks ps h o r e' =>
    cases ps with
    | nil =>cases ty;cases(show _=a9 a from G);obtain⟨⟨_,_,_,C,es,g1,g2,_⟩,_⟩:=I.hok a _ h;exact bD eD I.kIn ⟨C,g1,g2.1⟩ ((Yn X.K "dict" T).trans e) (fun z=>nomatch z) fun v=>⟨.bl b,H,I.tok v,rfl,q⟩
    | cons _ _=>simp[tyN]at ty
   | @dcT a zs ep ks ps h o r e' =>
    cases ps with
    | nil =>cases ty;cases(show _=a9 a from G);obtain⟨⟨_,_,_,C,es,g1,g2,_⟩,_⟩:=I.hok a _ h;exact bD eD I.kIn ⟨C,g1,g2.1⟩ ((Yn X.K "dict" T).trans e) (fun z=>nomatch z) fun v=>⟨.bl b,H,I.tok v,rfl,q⟩
    | cons _ _=>simp[tyN]at ty
   | hand h=>simp[HAND,tyN]at ty
   | scr h o=>simp[SCR,tyN]at ty
   | scrS h=>simp[SCR,tyN]at ty
   | exc h o=>simp[EXC,tyN]at ty
   | @tupS a vs ds h r =>cases ty;cases(show _=a9 a from G);obtain⟨o,its,n,Y,hc,_⟩:=h;exact bD mO I.kIn ⟨o,I.kIn a o Y,hc⟩ ((Yn X.K "tuple" T).trans e) (fun z=>nomatch z) fun v=>⟨.bl b,H,I.tok v,rfl,q⟩
   cases ty;exact go (.lst L);cases ks with
   | nil =>cases ty;cases(show _=a9 a from G);obtain⟨⟨_,_,_,C,es,g1,g2,_⟩,_⟩:=I.hok a _ L;exact bD eD I.kIn ⟨C,g1,g2.1⟩ ((Yn X.K "dict" T).trans e) (fun z=>nomatch z) fun v=>⟨.bl b,H,I.tok v,rfl,q⟩
   | cons _ _=>simp[tyN,Jv]at ty
end
section
variable{X:Cx}{a b c e:aT}{es rest:List aT}{d da db dc:DTE}{ds:DTA}{pos p:Pos}{k:Nat}{x:Str}
theorem Reps.atI{K:qF}{hd:Option af}{O:af->Prop}{H:Hp}{vs ts}{i:Int}{t}(r:Reps K hd O H vs ts)(h:L2.atI ts i=some t):∃v,L2.atI vs i=some v/\Rep K hd O H v t:=by
 unfold L2.atI at h ⊢;rw[r.length];cases e:ixN ts.length i with
 | none=>rw[e]at h;cases h
 | some j =>rw[e]at h;have h:ts[j]?=some t:=h;exact r.get h
def oIx:G2
 | .list ts,.int i,R=>match atI ts i with|some t=>R t|none=>False
 | .tuple ts,.int i,R=>match atI ts i with|some t=>R t|none=>False
 | .str x,.int i,R=>x.length<=16777216/\match atI x.cps.toList i with|some c=>R (.str ⟨#[c]⟩)|none=>False
 | _,_,_=>False
theorem zuX:Gp2 X (rIx X.K) oIx:=by
 intro hd O H x y t u Q R dom J G h C;cases t with
 | list ts=>cases u with
  | int i =>obtain⟨p,vs,rfl,S,I⟩:=J.lstI;replace h:(match atI ts i with|some t=>R t|none=>False):=h;split at h;rename_i t L;obtain⟨v,ev,N⟩:=I.atI L;exact .inl ⟨p,vs,i,v,rfl,G.intI,.of S,ev,C _ _ H h (Same.refl H) N⟩;exact h.elim
  | _=>exact h.elim
 | tuple ts=>cases u with
  | int i =>obtain⟨p,vs,rfl,S,I⟩:=J.tupI;replace h:(match atI ts i with|some t=>R t|none=>False):=h;split at h;rename_i t L;obtain⟨v,ev,N⟩:=I.atI L;exact .inr (.inl ⟨p,vs,i,v,rfl,G.intI,S,ev,C _ _ H h (Same.refl H) N⟩);exact h.elim
  | _=>exact h.elim
 | str z=>cases u with
  | int i =>obtain⟨h0,h⟩:=h;split at h;rename_i c U;exact .inr (.inr ⟨z,i,c,J.strI,G.intI,h0,U,C _ _ H h (Same.refl H) (.str _)⟩);exact h.elim
  | _=>exact h.elim
 | _=>exact h.elim
theorem Jh(ha:DL X a da)(hb:DL X b db)(Y:zl_ b:=by intro _ _;rfl):DE X (.Subscript a b pos) (dOp oIx da db):=by obtain⟨ta,pa,ha⟩:=ha;obtain⟨tb,pb,hb⟩:=hb;refine⟨_,Q9 zrS pa pb Y,fun C ρ σ H n Q R S h o=>?_⟩;refine two ha hb S h fun x y L v w U I e l G N=>?_;exact zuX C.hd (Own C ρ σ) U v w x y Q _ (fun p=>l.dom) G N I fun z u H' J sm Z=>o z L u H' J (e.trans sm.ext) (l.hnd.same sm) Z
def dNeg(d:DTE):DTE:=fun o n R=>d o n fun t l=>match t with|.int i=>R (.int (-i)) l|_=>False
theorem Vv(h:DE X a da):DE X (.UnaryOp .USub a pos) (dNeg da):=by
 obtain⟨Y,pa,h⟩:=h;refine⟨_,zue zqi pa,fun C L σ H n Q R S hd o=>?_⟩;refine h C L σ H n _ _ S hd fun t J v I r l N G=>?_;cases t with
 | int i=>rw[G.intI];exact⟨i,rfl,o _ J _ I r l N (.int _)⟩
 | _=>exact r.elim
def zqI(K:qF):R2:=fun x y H Q=>∃a b xs ys,x=.ref a/\y=.ref b/\SqT K H a xs/\SqT K H b ys/\xs.length+ys.length<=sizeLine /\
 (xs=[]->Q (.ref b) H)/\(ys=[]->Q (.ref a) H)/\∀p,H p=none->Q (.ref p) (upd H p (.tup (xs++ys)))
theorem zo4:OpR X (binaryOp .Add) (zqI X.K):=by
 intro pins s σ H x y v u Q I N L h;obtain⟨a,b,xs,ys,rfl,rfl,ha,hb,hz,q0,U,q2⟩:=h;by_cases hx:xs=[];cases N;cases L;obtain⟨its,Z,Y,_⟩:=I.tuple ha;obtain⟨o,r2,p2,_⟩:=I.tuple hb;have hv:its=[]:=Z.nil_iff.mpr hx;obtain⟨⟨cls,dd,data,sl⟩,S,hc,n,hd⟩:=id Y;obtain⟨⟨R,G,data2,J⟩,l,C,n2,hd2⟩:=id p2;simp only at hc hd C hd2;subst hc hd C hd2;exact nj ⟨_,S,rfl⟩ ⟨_,l,rfl⟩ kb mI gP gG (gj _ _)
  (tuple_addW0 a b its.toArray o.toArray n n2 dd G sl J (by simp[hv])) ⟨S,l,⟨.ref b,H,I,rfl,q0 hx⟩⟩
 exact zo3 pins s σ H _ _ v u Q I N L ⟨a,b,xs,ys,rfl,rfl,ha,hb,hx,hz,U,fun _=>q2⟩
def oAdd:G2
 | .int i,.int j,R=>R (.int (i+j))
 | .str i,.str j,R=>i.length+j.length<=16777216/\R (.str (i++j))
 | .tuple xs,.tuple ys,R=>xs.length+ys.length<=16777216/\R (.tuple (xs++ys))
 | _,_,_=>False
def zqJ(K:qF):R2:=fun x y H Q=>(rI0 fun i j=>.int (i+j)) x y H Q\/(∃i j,x=.str i/\y=.str j/\i.length+j.length<=sizeLine/\Q (.str (i++j)) H)\/zqI K x y H Q
theorem zo5:OpR X (binaryOp .Add) (zqJ X.K):=OpR.or QT (OpR.or zjq zo4)
theorem zso:Gp2 X (zqJ X.K) oAdd:=by intro hd O H x y t u Q R dom C v h o;unfold oAdd at h;split at h;exact .inl ⟨_,_,C.intI,v.intI,o _ _ H h (Same.refl H) (.int _)⟩;exact .inr (.inl ⟨_,_,C.strI,v.strI,h.1,o _ _ H h.2 (Same.refl H) (.str _)⟩);rename_i xs ys;obtain⟨p,vs,rfl,N,G⟩:=C.tupI;obtain⟨q,ws,rfl,L,I⟩:=v.tupI;refine .inr (.inr ⟨p,q,vs,ws,rfl,rfl,N,L,by rw[G.length,I.length];exact h.1,fun e=>?_,fun e=>?_,fun l J=>?_⟩);subst e;cases G;exact o _ _ H h.2 (Same.refl H) (v.rep (by intro _ z;cases z));subst e;cases I;exact o _ _ H h.2 (Same.refl H) (by rw[bE];exact C.rep (by intro _ z;cases z));exact o _ _ _ h.2 (J9 J) (.newT (fun z=>dom l z J) J (G.append I));exact h.elim
theorem JC(ha:DL X a da)(hb:DL X b db):DE X (.BinOp a .Add b pos) (dOp oAdd da db):=QQ zo5 zso ha hb
def dCat(da db:DTE):DTA:=fun o n R=>da o n fun x u=>db o u fun y v=>match x,y with|.list xs,.list ys=>xs.length+ys.length<=16777216/\R (xs++ys) v|_,_=>False
theorem VD{K:qF}{C:Ctx}{H l:Hp}{G:Nat}{p:af}(v:ExtE C.hd H l)(I:Hn K C.hd l G)(u:l p=none):H p=none:=by
 cases z:H p with
 | none=>rfl
 | some o =>by_cases y:C.hd=some p;obtain⟨vs,q⟩:=I.lst y;rw[u]at q;cases q;rw[v p o z y]at u;cases u
theorem ziF{K:qF}{hd:Option af}{O:af->Prop}{H:Hp}{p:af}{o:HO}{vs ts}(l:H p=none)(r:Reps K hd O H vs ts):Reps K hd (fun a=>O a\/a=p) (upd H p o) vs ts:=by refine r.mono (fun b o hb z=>z.elim id fun z=>?_) fun b o _ hb=>J9 l b o hb;subst z;rw[l]at hb;cases hb
theorem zsE(ha:DL X a da)(hb:DL X b db):DN X (.BinOp a .Add b pos) (dCat da db):=by obtain⟨ta,pa,ha⟩:=ha;obtain⟨tb,pb,hb⟩:=hb;refine⟨_,JE zri pa pb,fun C ρ σ H n Q R S h L=>?_⟩;refine two ha hb S h fun x y U v w H2 o e J N Y=>?_;split at o;obtain⟨p,vs,rfl,h1,G⟩:=N.lstI;obtain⟨q,ws,rfl,Z,I⟩:=Y.lstI;refine⟨p,q,vs,ws,rfl,rfl,h1,Z,by rw[G.length,I.length];exact o.1,fun l u=>?_⟩;exact L _ U l _ _ o.2 (e.trans (ExtE.new u)) (J.hnd.same (J9 u)) (VD e J.hnd u) JH (ziF u (G.append I));exact o.elim
def oMul:=gI CMul fun i j=>i*j
theorem zlJ(ha:DL X a da)(hb:DL X b db):DE X (.BinOp a .Mult b pos) (dOp oMul da db):=QQ QU gp_I ha hb
abbrev GD:=List ab->Nat->(ab->Nat->Prop)->Prop
def spD(K:qF)(m:Nat)(g:GD):Sp:=fun vs H Q _=>∃(hd:Option af) (O:af->Prop) (ts:qD) (n:Nat) (R:qN),Reps K hd O H vs ts/\Hn K hd H n/\(∀a,O a->MutO (H a))/\(∀a,hd=some a->O a)/\ts.length=m/\g ts n R /\
 ∀t l v H',R t l->ExtE hd H H'->Hn K hd H' l->Rep K hd O H' v t->Q v H'
def dFn(g:GD)(ds:DTA):DTE:=fun o n R=>ds o n fun ts l=>g ts l R
theorem zu0{st:dA}{ps:List Str}{f:af}{fd:cA}{g:GD}{m:Nat}(D:Bd.Def X.K X.mg x st ps f fd)(G:FnOk X.prog X.w X.K X.mg X.base CX0 k f fd ps (spD X.K m g))(hr:Room k X.A)(h:DB X (e::es) ds)(hm:(e::es).length=m:=by rfl)(Z:Gl X x:=by rfl)
  (o:Ndb x:=by rfl):DE X (.Call (.Name x p) (e::es) [] pos) (dFn g ds):=by
 obtain⟨ta,pa,h⟩:=h;refine⟨_,Bd.zoP D G hr pa Z o,fun C I σ H n Q R S hd L=>?_⟩;refine h C I σ H n _ _ S hd fun ts n1 vs H1 r1 u J U l1=>?_;have S1:=S.on u J;rw[bE];exact⟨C.hd,Own C I σ,ts,n1,R,U,J,fun a=>S1.lst,fun a z=>.inl (S.hx a z),l1.trans hm,r1,fun t n' v H' rt e2 Y q2=>L t n' v H' rt (u.trans e2) Y q2⟩
def dFnL(g:GD)(ds:DTA):DTE:=fun u n R=>ds u n fun ts l=>g ts l fun t o=>Qw t=true/\R t o
theorem zsJ{st:dA}{ps:List Str}{f:af}{fd:cA}{g:GD}{m:Nat}(D:Bd.Def X.K X.mg x st ps f fd)(G:FnOk X.prog X.w X.K X.mg X.base CX0 k f fd ps (spD X.K m g))(hr:Room k X.A)(h:DBL X (e::es) ds)(hm:(e::es).length=m:=by rfl)(hg:Gl X x:=by rfl)
  (I:Ndb x:=by rfl):DE X (.Call (.Name x p) (e::es) [] pos) (dFnL g ds):=by
 obtain⟨ta,pa,h⟩:=h;refine⟨_,Bd.zoP D G hr pa hg I,fun C ρ σ H n Q R S hd hq=>?_⟩;refine h C ρ σ H n _ _ S hd fun ts n1 vs H1 r1 Y U q1 l1=>?_;have S1:=S.on Y U;rw[bE];have lend:∀{vs ts},Y8 X.K C.hd (Own C ρ σ) H1 vs ts->Reps X.K C.hd (fun a=>C.hd=some a) H1 vs ts:=by
  intro vs ts q;induction q with
  | nil=>exact .nil
  | cons r _ ih =>refine .cons ?_ ih;rcases r with r|⟨a,ws,us,rfl,rfl,L,J,u⟩|⟨a,zs,ep,ks,rfl,rfl,L,J,u⟩;exact r.mono (fun a o _ z=>.inl (S.hx a z)) fun _ _ _ z=>z;exact .lst L u (J.mono (fun a o _ z=>.inl (S.hx a z)) fun _ _ _ z=>z);exact .dcT L u (J.mono (fun a o _ z=>.inl (S.hx a z)) fun _ _ _ z=>z) rfl
 refine⟨C.hd,fun a=>C.hd=some a,ts,n1,_,lend q1,U,fun a z=>?_,fun a z=>z,l1.trans hm,r1,fun t n' v H' rt e2 Z q2=>?_⟩;obtain⟨vs,q⟩:=U.lst z;exact .inl ⟨_,q⟩;exact hq t n' v H' rt.2 (Y.trans e2) Z (q2.up (fun a z=>(S1.on e2 Z).lst z) rt.1)
end
section
variable{X:Cx}{pins:qO}{σ:St}{H H':Hp}{s s':aj}{C e:af}
def Fly1(P:aK)(w:ba)(l:List Env)(H H':Hp)(h:bB)(C e:af)(h':bB):Prop :=
 ∃B a0,Heap.FlyingW B l e (.ref C) a0 h'/\H' e=none/\h.get? e=none/\∀o,B.StaysIn o->h'.UpToSlots o->Un (frs l) [] H H' h o/\HOk P w H' o
inductive FlyX (X:Cx)(C:af)(H':Hp)(e:af)(s':aj):Prop
 | made {Hx:qO} {σ':St} {s h1} (I:Inv X Hx σ' H' s) (m:Heap.MadeExcOf s.heap h1 e (.ref C) []) (hs:s'={ s with heap:=h1 })
 | on {Hx:qO} {σ':St} {H1:Hp} {s} (I:Inv X Hx σ' H1 s) (os:s'.os=s.os) (bare:iA s'.gens) (f:Fly1 X.prog X.w X.stack H1 H' s.heap C e s'.heap)
def XW(X:Cx)(C:af)(H':Hp):Prop:=∀e s',FlyX X C H' e s'->X.xe (.ref e) s'
end
def Keep(C:Ctx)(u:En)(σ:St)(H:Hp)(l:En)(σ':St)(H':Hp):Prop:=∀a o,H a=some o->C.hd≠some a->¬OwnS u σ a->H' a=some o/\¬OwnS l σ' a
structure JM where
 nx:En->Nat->Prop
 rt:ab->Nat->Prop
 bk:En->Nat->Prop:=fun _ _=>False
 ct:En->Nat->Prop:=fun _ _=>False
 xr:Str->Nat->Prop:=fun _ _=>False
abbrev DTS:=JM->En->Nat->Prop
def XN(X:Cx)(c:Str)(H':Hp):Prop:=∀C,X.mg c=some (.ref C)->XW X C H'
structure Good(X:Cx)(C:Ctx)(ρ:En)(σ:St)(H:Hp)(D:Ends)(D':JM):Prop where
 nx:∀ρ' σ' H' n',D'.nx ρ' n'->Stt X.K C ρ' σ' H' n'->Keep C ρ σ H ρ' σ' H'->D.nx σ' H'
 rt:∀t n' v H',D'.rt t n'->Hn X.K C.hd H' n'->(∀a o,H a=some o->C.hd≠some a->¬OwnS ρ σ a->H' a=some o)->Rep X.K C.hd C.ext H' v t->D.rt v H'
 bk:∀ρ' σ' H' n',D'.bk ρ' n'->Stt X.K C ρ' σ' H' n'->Keep C ρ σ H ρ' σ' H'->D.bk σ' H'
 ct:∀ρ' σ' H' n',D'.ct ρ' n'->Stt X.K C ρ' σ' H' n'->Keep C ρ σ H ρ' σ' H'->D.ct σ' H'
 xr:∀c n' H',D'.xr c n'->Hn X.K C.hd H' n'->(∀a o,H a=some o->C.hd≠some a->¬OwnS ρ σ a->H' a=some o)->XN X c H'
def DS(X:Cx)(st:dA)(d:DTS):Prop:=∃ts,PS X st ts/\∀(C:Ctx) (l:En) (σ:St) (H:Hp) (n:Nat) (D:Ends) (o:JM),Stt X.K C l σ H n->d o l n->Good X C l σ H D o->ts D σ H
def DSs(X:Cx)(st:List dA)(d:DTS):Prop:=∃ts,PSs X st ts/\∀(C:Ctx) (l:En) (σ:St) (H:Hp) (n:Nat) (D:Ends) (o:JM),Stt X.K C l σ H n->d o l n->Good X C l σ H D o->ts D σ H
section
variable{K:qF}{C:Ctx}{ρ ρ1 ρ2:En}{σ σ1 σ2:St}{H H1 H2:Hp}{n n1:Nat}{D:Ends}{D':JM}
theorem Keep.refl:Keep C ρ σ H ρ σ H:=fun _ _ h _ no=>⟨h,no⟩
theorem Keep.trans(v:Keep C ρ σ H ρ1 σ1 H1)(x:Keep C ρ1 σ1 H1 ρ2 σ2 H2):Keep C ρ σ H ρ2 σ2 H2:=fun a o h u no=>by obtain⟨G,l⟩:=v a o h u no;exact x a o G u l
theorem ExtE.keep(e:ExtE C.hd H H1):Keep C ρ σ H ρ σ H1:=fun a o h l no=>⟨e a o h l,no⟩
theorem Good.on{X:Cx}(g:Good X C ρ σ H D D')(k:Keep C ρ σ H ρ1 σ1 H1):Good X C ρ1 σ1 H1 D D' where
 nx:=fun l σ' H' u h S x=>g.nx l σ' H' u h S (k.trans x)
 rt:=fun t u v H' h J x r=>g.rt t u v H' h J (fun a o ha I no=>by obtain⟨L,G⟩:=k a o ha I no;exact x a o L I G) r
 bk:=fun l σ' H' u h S x=>g.bk l σ' H' u h S (k.trans x)
 ct:=fun l σ' H' u h S x=>g.ct l σ' H' u h S (k.trans x)
 xr:=fun c u H' h J x=>g.xr c u H' h J fun a o ha I no=>by obtain⟨L,G⟩:=k a o ha I no;exact x a o L I G
theorem Keep.rep(k:Keep C ρ σ H ρ1 σ1 H1)(hx:∀a,C.hd=some a->C.ext a){v t}(r:Rep K C.hd (Own C ρ σ) H v t):Rep K C.hd (Own C ρ1 σ1) H1 v t :=
 Rep.mono (O:=Own C ρ σ) (fun a o h z=>by by_cases q:Own C ρ σ a;exact q;rcases z with z|z;exact .inl z;exact absurd z (k a o h (fun y=>q (.inl (hx a y))) fun y=>q (.inr y)).2) (fun a o no h=>(k a o h (fun y=>no (.inl (hx a y))) fun y=>no (.inr y)).1) r
theorem Keep.reps(k:Keep C ρ σ H ρ1 σ1 H1)(hx:∀a,C.hd=some a->C.ext a){v t}(r:Reps K C.hd (Own C ρ σ) H v t):Reps K C.hd (Own C ρ1 σ1) H1 v t :=
 Reps.mono (O:=Own C ρ σ) (fun a o h z=>by by_cases q:Own C ρ σ a;exact q;rcases z with z|z;exact .inl z;exact absurd z (k a o h (fun y=>q (.inl (hx a y))) fun y=>q (.inr y)).2) (fun a o no h=>(k a o h (fun y=>no (.inl (hx a y))) fun y=>no (.inr y)).1) r
theorem Jw{α:Type}{l:List (Option α)}{i j:Nat}{v w:α}(h:(l.set i (some v))[j]?=some (some w)):(i=j/\v=w)\/(i≠j/\l[j]?=some (some w)):=by by_cases e:i=j;subst e;rw[iW]at h;simp only[↓reduceIte]at h;split at h;simp at h;exact .inl ⟨rfl,h⟩;cases h;rw[dz e]at h;exact .inr ⟨e,h⟩
theorem YB{α:Type}{l:List (Option α)}{i j:Nat}{v w:α}(e:i≠j)(h:l[j]?=some (some w)):(l.set i (some v))[j]?=some (some w):=by rw[dz e];exact h
theorem znN{α:Type}{l:List (Option α)}{i j:Nat}{v:α}{w:Option α}(h:(l.set i (some v))[j]?=some w)(e:i=j):i<l.length:=by subst e;rw[iW]at h;simp only[↓reduceIte]at h;split at h;assumption;cases h
theorem znO{α:Type}{l:List (Option α)}{i:Nat}{v:α}(h:i<l.length):(l.set i (some v))[i]?=some (some v):=by rw[iW];simp[h]
theorem ziL{i:Nat}{t:ab}{v:V}{a:af}(h:OwnS (ρ.set i (some (.val t))) (σ.set i (some v)) a):OwnS ρ σ a:=by obtain⟨j,c,m,u,o⟩:=h;rcases Jw u with⟨_,z⟩|⟨e,u⟩;subst z;cases m;rcases Jw o with⟨z,_⟩|⟨_,o⟩;exact absurd z e;exact⟨j,c,m,u,o⟩
def Qz(K:qF)(hd:Option af)(O:af->Prop)(H:Hp)(a:af):Cell->Prop
 | .val _=>False
 | .rdo _=>False
 | .own ts=>∃vs,H a=some (.lst vs)/\Reps K hd O H vs ts
 | .dct ks=>∃u,H a=some (.dK u)/\UD K hd O H u ks
 | .dtt ks=>∃zs ep,H a=some (ZDO a zs ep)/\Jk K hd O H zs ks
theorem Qz.mono(x:Qz K hd O H a c)(v:∀a o,H a=some o->O' a->O a)(G:∀a o,¬O a->H a=some o->H' a=some o)(ha:∀o,H a=some o->H' a=some o):Qz K hd O' H' a c:=by
 cases c with
 | val _=>exact x.elim
 | rdo _=>exact x.elim
 | own ts=>obtain⟨vs,u,l⟩:=x;exact⟨vs,ha _ u,l.mono v G⟩
 | dct ks=>obtain⟨vs,u,l⟩:=x;exact⟨vs,ha _ u,l.mono v G⟩
 | dtt ks=>obtain⟨vs,ep,u,l⟩:=x;exact⟨vs,ep,ha _ u,l.mono v G⟩
theorem Qz.some(x:Qz K hd O H a c):∃o,H a=some o:=by
 cases c with
 | val _=>exact x.elim
 | rdo _=>exact x.elim
 | own ts=>obtain⟨vs,l,u⟩:=x;exact⟨_,l⟩
 | dct ks=>obtain⟨vs,l,u⟩:=x;exact⟨_,l⟩
 | dtt ks=>obtain⟨vs,ep,l,u⟩:=x;exact⟨_,l⟩
theorem Qz.mine(x:Qz K hd O H a c):c.mine=true:=by
 cases c with
 | val _=>exact x.elim
 | rdo _=>exact x.elim
 | own ts=>rfl
 | dct ks=>rfl
 | dtt ks=>rfl
theorem Stt.cell(S:Stt K C ρ σ H n){i:Nat}{c:Cell}(m:c.mine=true)(h:ρ[i]?=some (some c)):∃a:af,σ[i]?=some (some (V.ref a))/\Qz K C.hd (Own C ρ σ) H a c/\¬C.ext a:=by
 cases c with
 | val _=>cases m
 | rdo _=>cases m
 | own ts=>obtain⟨a,vs,v,l,o,u⟩:=S.own i ts h;exact⟨a,v,⟨vs,l,o⟩,u⟩
 | dct ks=>obtain⟨a,vs,v,l,o,u⟩:=S.dct i ks h;exact⟨a,v,⟨vs,l,o⟩,u⟩
 | dtt ks=>obtain⟨a,vs,ep,v,l,o,u⟩:=S.dtt i ks h;exact⟨a,v,⟨vs,ep,l,o⟩,u⟩
def zp7(K:qF)(C:Ctx)(ρ:En)(σ:St)(H:Hp):Prop:=∀(i:Nat) (ks:List (Key×ab)),ρ[i]?=some (some (Cell.rdo ks))->∃a l,σ[i]?=some (some (V.ref a))/\H a=some (.dK l)/\UD K C.hd (Own C ρ σ) H l ks/\C.ext a/\C.hd≠some a
theorem Stt.mk'(len:ρ.length=σ.length)(val:∀(i:Nat) (d:ab),ρ[i]?=some (some (Cell.val d))->∃v,σ[i]?=some (some v)/\Rep K C.hd (Own C ρ σ) H v d)
  (cell:∀(i:Nat) (c:Cell),c.mine=true->ρ[i]?=some (some c)->∃a:af,σ[i]?=some (some (V.ref a))/\Qz K C.hd (Own C ρ σ) H a c/\¬C.ext a)
  (rdo:zp7 K C ρ σ H) (dif:∀(i j:Nat) (c e:Cell) (a:af),c.mine=true->e.mine=true->ρ[i]?=some (some c)->ρ[j]?=some (some e)->σ[i]?=some (some (V.ref a))->σ[j]?=some (some (V.ref a))->i=j)
  (hnd:Hn K C.hd H n) (ext:∀a,C.ext a->MutO (H a)) (hx:∀a,C.hd=some a->C.ext a):Stt K C ρ σ H n where
 len:=len
 val:=val
 own:=fun i ts h=>by obtain⟨a,x,⟨vs,l,u⟩,o⟩:=cell i _ rfl h;exact⟨a,vs,x,l,u,o⟩
 dct:=fun i ts h=>by obtain⟨a,x,⟨vs,l,u⟩,o⟩:=cell i _ rfl h;exact⟨a,vs,x,l,u,o⟩
 rdo:=rdo
 dtt:=fun i ts h=>by obtain⟨a,x,⟨vs,ep,l,u⟩,o⟩:=cell i _ rfl h;exact⟨a,vs,ep,x,l,u,o⟩
 dif:=dif
 hnd:=hnd
 ext:=ext
 hx:=hx
theorem Stt.put(S:Stt K C ρ σ H n){i:Nat}{t:ab}{v:V}(r:Rep K C.hd (Own C ρ σ) H v t):Stt K C (ρ.set i (some (.val t))) (σ.set i (some v)) H n:=by
 have sub:∀a o,H a=some o->Own C (ρ.set i (some (.val t))) (σ.set i (some v)) a->Own C ρ σ a:=fun a o _ z=>z.elim .inl fun z=>.inr (ziL z);have mono:∀{w u},Rep K C.hd (Own C ρ σ) H w u->Rep K C.hd (Own C (ρ.set i (some (.val t))) (σ.set i (some v))) H w u:=fun q=>q.mono sub fun _ _ _ z=>z;refine .mk' (by simp[S.len]) (fun j d h=>?_) (fun j c m h=>?_) (fun j ks h=>?_) (fun j k c e a m1 m2 G x R h4=>?_) S.hnd S.ext S.hx
 rotate_left 2
 rcases Jw h with⟨_,z⟩|⟨e,h'⟩;cases z;obtain⟨a,I,Z,q2,q3,q4⟩:=S.rdo j ks h';exact⟨a,I,YB e Z,q2,q3.mono sub fun _ _ _ z=>z,q4⟩
 rotate_left 1
 rcases Jw h with⟨e,z⟩|⟨e,h'⟩;cases z;have:=znN h e;subst e;exact⟨v,znO (by rw[<- S.len];exact this),mono r⟩;obtain⟨w,G,x⟩:=S.val j d h';exact⟨w,YB e G,mono x⟩;rcases Jw h with⟨e,z⟩|⟨e,h'⟩;subst z;cases m;obtain⟨a,G,x,R⟩:=S.cell m h';exact⟨a,YB e G,x.mono sub (fun _ _ _ z=>z) fun _ z=>z,R⟩;rcases Jw G with⟨e,z⟩|⟨e,U⟩;subst z;cases m1;rcases Jw x with⟨Y,z⟩|⟨Y,N⟩;subst z;cases m2;rcases Jw R with⟨z,_⟩|⟨_,L⟩;exact absurd z e;rcases Jw h4 with⟨z,_⟩|⟨_,J⟩;exact absurd z Y;exact S.dif j k c _ a m1 m2 U N L J
theorem UX:Keep C ρ σ H (ρ.set i (some (.val t))) (σ.set i (some v)) H:=fun a o h _ no=>⟨h,fun z=>no (ziL z)⟩
theorem ziM{i:Nat}{c:Cell}{p a:af}(h:OwnS (ρ.set i (some c)) (σ.set i (some (.ref p))) a):OwnS ρ σ a\/a=p:=by obtain⟨j,ds,m,u,o⟩:=h;rcases Jw o with⟨e,z⟩|⟨e,o⟩;cases z;exact .inr rfl;rcases Jw u with⟨z,_⟩|⟨_,u⟩;exact absurd z e;exact .inl ⟨j,ds,m,u,o⟩
theorem Stt.putNew(S:Stt K C ρ σ H n){i:Nat}{c:Cell}{p:af}{H':Hp}(e:ExtE C.hd H H')(h:Hn K C.hd H' n1)(hp:H p=none)(r:Qz K C.hd (fun a=>Own C ρ σ a\/a=p) H' p c) :
  Stt K C (ρ.set i (some c)) (σ.set i (some (.ref p))) H' n1:=by
 have S':=S.on e h;have mc:=r.mine;have sub:∀a,Own C (ρ.set i (some c)) (σ.set i (some (.ref p))) a->Own C ρ σ a\/a=p:=fun a z=>z.elim (fun z=>.inl (.inl z)) fun z=>(ziM z).elim (fun z=>.inl (.inr z)) .inr;have npx:¬C.ext p:=fun z=>S.dom (.inl z) hp;have sb:∀a o,H a=some o->Own C (ρ.set i (some c)) (σ.set i (some (.ref p))) a->Own C ρ σ a:=fun a o J z=>(sub a z).elim id fun z=>by subst z;rw[hp]at J;cases J
 have kp:∀a o,¬Own C ρ σ a->H a=some o->H' a=some o:=fun a o no J=>e a o J fun z=>no (.inl (S.hx a z));have IG:∀(j:Nat) (d:Cell),d.mine=true->ρ[j]?=some (some d)->σ[j]?≠some (some (V.ref p)):=fun j d m I u=>by obtain⟨a,e1,Z,_⟩:=S.cell m I;rw[u]at e1;cases e1;obtain⟨o,Z⟩:=Z.some;rw[hp]at Z;cases Z
 refine .mk' (by simp[S.len]) (fun j d L=>?_) (fun j d m L=>?_) (fun j ks L=>?_) (fun j k c1 c2 a m1 m2 I u h3 U=>?_) h S'.ext S.hx
 rotate_left 2
 rcases Jw L with⟨_,z⟩|⟨v,h'⟩;subst z;cases mc;obtain⟨a,kvs,q1,q2,q3,q4,q5⟩:=S.rdo j ks h';exact⟨a,kvs,YB v q1,e a _ q2 q5,q3.mono sb kp,q4,q5⟩
 rotate_left 1
 rcases Jw L with⟨_,z⟩|⟨v,h'⟩;subst z;cases mc;obtain⟨w,I,u⟩:=S.val j d h';exact⟨w,YB v I,u.mono sb kp⟩;rcases Jw L with⟨v,z⟩|⟨v,h'⟩;subst z;have:=znN L v;subst v;exact⟨p,znO (by rw[<- S.len];exact this),r.mono (fun a o _ z=>sub a z) (fun _ _ _ z=>z) fun _ z=>z,npx⟩;obtain⟨a,I,u,U⟩:=S.cell m h';exact⟨a,YB v I,u.mono sb kp (fun o J=>e a o J fun z=>U (S.hx a z)),U⟩;rcases Jw h3 with⟨e3,z3⟩|⟨e3,R⟩;cases z3;rcases Jw U with⟨N,_⟩|⟨N,x⟩;rw[<- e3,<- N];rcases Jw u with⟨z,_⟩|⟨_,G⟩;exact absurd z N;exact absurd x (IG k _ m2 G);rcases Jw I with⟨z,_⟩|⟨_,Y⟩;exact absurd z e3;rcases Jw U with⟨N,z4⟩|⟨N,x⟩;cases z4;exact absurd R (IG j _ m1 Y);rcases Jw u with⟨z,_⟩|⟨_,G⟩;exact absurd z N;exact S.dif j k _ _ a m1 m2 Y G R x
theorem Stt.putOwn(S:Stt K C ρ σ H n)(e:ExtE C.hd H H')(h:Hn K C.hd H' n1)(v:H p=none)(u:H' p=some (.lst vs))(r:Reps K C.hd (fun a=>Own C ρ σ a\/a=p) H' vs ts) :
  Stt K C (ρ.set i (some (.own ts))) (σ.set i (some (.ref p))) H' n1:=S.putNew e h v ⟨vs,u,r⟩
theorem VY(e:ExtE C.hd H H')(v:H p=none):Keep C ρ σ H (ρ.set i (some c)) (σ.set i (some (.ref p))) H':=fun a o h u no =>
 ⟨e a o h u,fun z=>(ziM z).elim no fun z=>by subst z;rw[v]at h;cases h⟩
theorem VZ(e:ExtE C.hd H H')(l:H p=none):Keep C ρ σ H (ρ.set i (some (.own ts))) (σ.set i (some (.ref p))) H':=VY e l
theorem Stt.chgC(S:Stt K C ρ σ H n){i:Nat}{c c':Cell}{p:af}{J:HO}(m:c.mine=true)(m':c'.mine=true)(U:ρ[i]?=some (some c))(L:σ[i]?=some (some (.ref p)))
  (r:∀(O':af->Prop) (H':Hp),(∀a o,H a=some o->O' a->Own C ρ σ a)->(∀a o,¬Own C ρ σ a->H a=some o->H' a=some o)->H' p=some J->Qz K C.hd O' H' p c') :
  Stt K C (ρ.set i (some c')) σ (upd H p J) n/\Keep C ρ σ H (ρ.set i (some c')) σ (upd H p J):=by
 have op:OwnS ρ σ p:=⟨i,c,m,U,L⟩;obtain⟨p',e1,hp,x⟩:=S.cell m U;rw[L]at e1;cases e1;have Iv:∀a,OwnS (ρ.set i (some c')) σ a->OwnS ρ σ a:=fun a ⟨j,d,I,u,v⟩=>by rcases Jw u with⟨e,_⟩|⟨e,u⟩;subst e;rw[L]at v;cases v;exact op;exact⟨j,d,I,u,v⟩
 have sub:∀a o,H a=some o->Own C (ρ.set i (some c')) σ a->Own C ρ σ a:=fun a o _ z=>z.elim .inl fun z=>.inr (Iv a z);have kp:∀a o,¬Own C ρ σ a->H a=some o->upd H p J a=some o:=fun a o no ho=>by rw[Jj (show a≠p from fun z=>no (by rw[z];exact .inr op))];exact ho
 have rd:zp7 K C (ρ.set i (some c')) σ (upd H p J):=fun j ks R=>by rcases Jw R with⟨_,z⟩|⟨N,h'⟩;subst z;cases m';obtain⟨a,Y,u,v,q3,G,q5⟩:=S.rdo j ks h';exact⟨a,Y,u,by rw[Jj (show a≠p from fun z=>x (by rw[<- z];exact G))];exact v,q3.mono sub kp,G,q5⟩
 refine⟨.mk' (by simp[S.len]) (fun j d R=>?_) (fun j d I R=>?_) rd (fun j k c1 c2 a m1 m2 u v q3 G=>?_) (fun a ha=>?_) (fun a ha=>?_) S.hx,fun a o h nh no=>⟨by rw[Jj (show a≠p from fun z=>no (by rw[z];exact op))];exact h,fun z=>no (Iv a z)⟩⟩;rcases Jw R with⟨_,z⟩|⟨N,h'⟩;subst z;cases m';obtain⟨w,u,v⟩:=S.val j d h';exact⟨w,u,v.mono sub kp⟩;rcases Jw R with⟨N,z⟩|⟨N,h'⟩;subst z;subst N;exact⟨p,L,r _ _ sub kp JH,x⟩;obtain⟨a,u,v,G⟩:=S.cell I h';have:a≠p:=fun z=>by subst z;exact N (S.dif i j c d a m I U h' L u)
 exact⟨a,u,v.mono sub kp (fun o ho=>by rw[Jj this];exact ho),G⟩;have get:∀(j:Nat) (d:Cell),d.mine=true->(ρ.set i (some c'))[j]?=some (some d)->∃d':Cell,d'.mine=true/\ρ[j]?=some (some d'):=fun j d I q=>by rcases Jw q with⟨e,_⟩|⟨_,q⟩;subst e;exact⟨_,m,U⟩;exact⟨_,I,q⟩
 obtain⟨d1,md1,g1⟩:=get j c1 m1 u;obtain⟨d2,Z,g2⟩:=get k c2 m2 v;exact S.dif j k d1 d2 a md1 Z g1 g2 q3 G;have ne:a≠p:=fun z=>x (by rw[<- z];exact S.hx a ha);rcases S.hnd a ha with⟨⟨d,m,t,q,rest⟩,l⟩|⟨l,q⟩;exact .inl ⟨⟨d,m,t,by rw[Jj ne];exact q,rest⟩,l⟩;exact .inr ⟨l,q.upd ne (S.lst (.inr op))⟩;by_cases z:a=p;subst z;exact absurd ha x;rw[Jj z];exact S.ext a ha
theorem Stt.chg(S:Stt K C ρ σ H n)(x:ρ[i]?=some (some (.own ts)))(u:σ[i]?=some (some (.ref p)))(r:Reps K C.hd (Own C ρ σ) H ws us) :
  Stt K C (ρ.set i (some (.own us))) σ (upd H p (.lst ws)) n/\Keep C ρ σ H (ρ.set i (some (.own us))) σ (upd H p (.lst ws)):=S.chgC rfl rfl x u fun _ _ a b v=>⟨ws,v,r.mono a b⟩
theorem Stt.freeze(S:Stt K C ρ σ H n){i:Nat}{ts:qD}(Z:ρ[i]?=some (some (.own ts))):Stt K C (ρ.set i (some (.val (.list ts)))) σ H n/\Keep C ρ σ H (ρ.set i (some (.val (.list ts)))) σ H:=by
 obtain⟨p,vs,Y,hp,hr,R⟩:=S.own i ts Z;have U:∀a,OwnS (ρ.set i (some (.val (.list ts)))) σ a->OwnS ρ σ a/\a≠p:=fun a ⟨j,ds,m,u,x⟩=>by rcases Jw u with⟨_,z⟩|⟨e,u⟩;subst z;cases m;exact⟨⟨j,ds,m,u,x⟩,fun z=>by subst z;exact e (S.dif i j (.own ts) ds a rfl m Z u Y x)⟩
 have sub:∀a o,H a=some o->Own C (ρ.set i (some (.val (.list ts)))) σ a->Own C ρ σ a:=fun a o _ z=>z.elim .inl fun z=>.inr (U a z).1;have rd:zp7 K C (ρ.set i (some (.val (.list ts)))) σ H:=fun j ks G=>by rcases Jw G with⟨_,z⟩|⟨L,h'⟩;cases z;obtain⟨a,N,u,x,I,J⟩:=S.rdo j ks h';exact⟨a,N,u,x,I.mono sub fun _ _ _ z=>z,J⟩
 refine⟨.mk' (by simp[S.len]) (fun j d G=>?_) (fun j d m G=>?_) rd (fun j k c1 c2 a m1 m2 u x I J=>?_) S.hnd S.ext S.hx,fun a o h _ no=>⟨h,fun z=>no (U a z).1⟩⟩;rcases Jw G with⟨L,z⟩|⟨L,h'⟩;cases z;subst L;exact⟨.ref p,Y,.lst hp (fun z=>z.elim R fun z=>(U p z).2 rfl) (hr.mono sub fun _ _ _ z=>z)⟩;obtain⟨w,u,x⟩:=S.val j d h';exact⟨w,u,x.mono sub fun _ _ _ z=>z⟩;rcases Jw G with⟨_,z⟩|⟨L,h'⟩;subst z;cases m;obtain⟨a,u,I,J⟩:=S.cell m h';exact⟨a,u,I.mono sub (fun _ _ _ z=>z) fun _ z=>z,J⟩;rcases Jw u with⟨_,z⟩|⟨_,g1⟩;subst z;cases m1;rcases Jw x with⟨_,z⟩|⟨_,g2⟩;subst z;cases m2;exact S.dif j k _ _ a m1 m2 g1 g2 I J
end
section
variable{X:Cx}{a b c e:aT}{es rest:List aT}{d da db dc:DTE}{ds:DTA}{dt:DTT}{t u:DTS}{st:dA}{sts sa sb:List dA}{pos p:Pos}{k:Nat}{x:Str}
def zot:DTS:=fun D l n=>D.nx l n
def sSeq(t u:DTS):DTS:=fun D l n=>t { D with nx:=u D } l n
theorem JF:DSs X [] zot:=⟨_,zhM,fun C l σ H n D o S h g=>g.nx l σ H n h S Keep.refl⟩
theorem Jb(v:DS X st t)(l:DSs X sts u):DSs X (st::sts) (sSeq t u):=by obtain⟨Y,pa,v⟩:=v;obtain⟨U,R,l⟩:=l;refine⟨_,QG pa R,fun C L σ H n D I S h g=>?_⟩;exact v C L σ H n _ _ S h ⟨fun o σ' H' N J G k=>l C o σ' H' N D I G J (g.on k),g.rt,g.bk,g.ct,g.xr⟩
theorem Jc(l:DS X st t):DSs X [st] t:=by obtain⟨o,pa,l⟩:=l;exact⟨_,ZE pa,l⟩
def ZM(i:Nat)(t:DTS):DTS:=fun D C n=>match C[i]? with|some (some (.own ts))=>t D (C.set i (some (.val (.list ts)))) n|_=>False
theorem UA(i:Nat)(l:DSs X sts t):DSs X sts (ZM i t):=by obtain⟨I,pa,l⟩:=l;refine⟨_,pa,fun C J σ H n D G S h g=>?_⟩;unfold ZM at h;split at h;rename_i ts o;obtain⟨v,kp⟩:=S.freeze o;exact l C _ σ H n D G v h (g.on kp);exact h.elim
def sRet(d:DTE):DTS:=fun D o n=>d o n fun t l=>D.rt t l
theorem Jg(h:DE X e d):DS X (.Return (some e) pos) (sRet d):=by obtain⟨Y,pa,h⟩:=h;refine⟨_,Zz pa,fun C J σ H n D U S hd g=>?_⟩;refine h C J σ H n _ _ S hd fun t L v H' r G N q=>?_;exact g.rt t L v H' r N (fun a o ha I _=>G a o ha I) (q.mono (fun _ _ _ z=>.inl z) fun _ _ _ z=>z)
def sIf(c:DTT)(t u:DTS):DTS:=fun D l n=>c l n fun b o=>if b=true then t D l o else u D l o
theorem Jz(hc:DT X c dt)(G:DSs X sa t)(o:DSs X sb u):DS X (.If c sa sb pos) (sIf dt t u):=by
 obtain⟨Y,pc,hc⟩:=hc;obtain⟨ta,pa,G⟩:=G;obtain⟨Z,U,o⟩:=o;refine⟨_,zoH pc pa U,fun C v σ H n D L S hd g=>?_⟩;refine hc C v σ H n _ _ S hd fun b N J r l R=>?_;cases b with
 | true=>exact iteT (G C v σ J N D L (S.on l R) (by simpa using r) (g.on l.keep))
 | false=>exact iteF (o C v σ J N D L (S.on l R) (by simpa using r) (g.on l.keep))
def sSet(i:Nat)(d:DTE):DTS:=fun D o n=>d o n fun t C=>D.nx (o.set i (some (.val t))) C
theorem zsz(J:X.N.Nodup)(hi:X.N[i]?=some x)(hx:Loc X.env.scope x)(h:DE X e d)(o:swapsWith e (some (.Name x pos')) pos.line X.env=pure false:=by rfl)(hf:Fnl X x:=by walk_at "F") :
  DS X (.Assign [.Name x pos'] e pos) (sSet i d):=by
 obtain⟨U,pa,h⟩:=h;refine⟨_,QC J hi hx pa o hf,fun C G σ H n D R S hd g=>?_⟩;refine h C G σ H n _ _ S hd fun t I v H' r l L q=>?_;exact g.nx _ _ H' I r ((S.on l L).put q) (l.keep.trans UX)
def sOwn(i:Nat)(d:DTA):DTS:=fun D l n=>d l n fun ts v=>D.nx (l.set i (some (.own ts))) v
theorem Yj(L:X.N.Nodup)(hi:X.N[i]?=some x)(hx:Loc X.env.scope x)(h:DN X e ds)(G:swapsWith e (some (.Name x pos')) pos.line X.env=pure false:=by rfl)(hf:Fnl X x:=by walk_at "F") :
  DS X (.Assign [.Name x pos'] e pos) (sOwn i ds):=by
 obtain⟨Y,pa,h⟩:=h;refine⟨_,QC L hi hx pa G hf,fun C I σ H n D U S hd g=>?_⟩;refine h C I σ H n _ _ S hd fun ts J p vs H' r o R v l q=>?_;exact g.nx _ _ H' J r (S.putOwn o R v l q) (VZ o v)
def sAug(i:Nat)(f:Int->Int->Int)(d:DTE):DTS:=fun D o n=>match o[i]? with
 | some (some (.val (.int j)))=>d o n fun t C=>match t with|.int k=>D.nx (o.set i (some (.val (.int (f j k))))) C|_=>False
 | _=>False
theorem zsC(U:X.N.Nodup)(hi:X.N[i]?=some x)(hx:Loc X.env.scope x)(h:DE X e d)(I:PIp X op (ipI f))(hf:Fnl X x:=by walk_at "F") :
  DS X (.AugAssign (.Name x pos') op e pos) (sAug i f d):=by
 obtain⟨ta,pa,h⟩:=h;refine⟨_,zqP U hi hx pa I hf,fun C L σ H n D Z S hd g=>?_⟩;unfold sAug at hd;split at hd;rename_i j G;obtain⟨v,Y,o⟩:=S.val i _ G;refine⟨v,Y,h C L σ H n _ _ S hd fun t R w H' r l J q=>?_⟩;cases t with
 | int k=>exact⟨j,k,o.intI,q.intI,g.nx _ _ H' R r ((S.on l J).put (.int _)) (l.keep.trans UX)⟩
 | _=>exact r.elim
 exact hd.elim
abbrev DTG:=ab->En->(En->Prop)->Prop
abbrev DTGs:=List ab->En->(En->Prop)->Prop
def DG(X:Cx)(tg:aT)(is:List Nat)(d:DTG):Prop:=(∀t o R,d t o R->∃l,R l)/\∃g,PG X tg g/\∀(C:Ctx) (o:En) (σ:St) (H:Hp) (n:Nat) (v:V) (t:ab) (Q:St->Hp->Prop) (R:En->Prop),Stt X.K C o σ H n->Rep X.K C.hd (Own C o σ) H v t->d t o R ->
 (∀l σ',R l->Stt X.K C l σ' H n->Keep C o σ H l σ' H->(∀j,j∉is->σ'[j]?=σ[j]?)->σ'.length=σ.length->Q σ' H)->g v σ H Q
def DGs(X:Cx)(v:List aT)(is:List Nat)(d:DTGs):Prop:=(∀ts o R,d ts o R->ts.length=v.length)/\(∀t o R,d t o R->∃l,R l)/\∃g,PGs X v g/\∀(C:Ctx) (o:En) (σ:St) (H:Hp) (n:Nat) (vs:List V) (ts:qD) (Q:St->Hp->Prop) (R:En->Prop),Stt X.K C o σ H n->Reps X.K C.hd (Own C o σ) H vs ts->d ts o R ->
 (∀l σ',R l->Stt X.K C l σ' H n->Keep C o σ H l σ' H->(∀j,j∉is->σ'[j]?=σ[j]?)->σ'.length=σ.length->Q σ' H)->g vs σ H Q
def JX(i:Nat):DTG:=fun t o R=>R (o.set i (some (.val t)))
def Ub:DTGs:=fun ts l R=>match ts with|[]=>R l|_=>False
def Qt(d:DTG)(ds:DTGs):DTGs:=fun ts o R=>match ts with|t::ts=>d t o fun l=>ds ts l R|[]=>False
def Q8(ds:DTGs):DTG:=fun t o R=>match t with|.tuple ts=>ds ts o R|_=>False
theorem zpV(I:X.N.Nodup)(hi:X.N[i]?=some x)(hx:Loc X.env.scope x)(hf:Fnl X x:=by walk_at "F"):DG X (.Name x pos) [i] (JX i):=by refine⟨fun t G R h=>⟨_,h⟩,_,zoN I hi hx hf,fun C G σ H n v t Q R S r hd l=>?_⟩;exact l _ _ hd (S.put r) UX (fun j o=>by rw[dz (fun z=>o (by simp[z]))]) (by simp)
theorem Qg:DGs X [] [] Ub:=by
 refine⟨fun ts l R h=>?_,fun ts l R h=>?_,_,zoM,fun C l σ H n vs ts Q R S r hd o=>?_⟩;cases ts with
 | nil=>rfl
 | cons _ _=>exact h.elim
 cases ts with
 | nil=>exact⟨_,h⟩
 | cons _ _=>exact h.elim
 cases r with
 | nil=>exact⟨rfl,o _ _ hd S Keep.refl (fun _ _=>rfl) rfl⟩
 | cons _ _=>exact hd.elim
theorem Jx(Z:DG X e is g)(I:DGs X es js gs)(hs:(assignEach (e::es) X.env).map (·.2)=assign e X.env::(assignEach es X.env).map (·.2):=by rfl):DGs X (e::es) (is++js) (Qt g gs):=by
 obtain⟨w1,ga,pa,Z⟩:=Z;obtain⟨l2,w2,gb,pb,I⟩:=I;refine⟨fun ts o R h=>?_,fun ts o R h=>?_,_,zmN pa pb hs,fun C o σ H n vs ts Q R S r hd hq=>?_⟩;cases ts with
 | nil=>exact h.elim
 | cons t ts =>obtain⟨l,h'⟩:=w1 t o _ h;simp[l2 ts l R h']
 cases ts with
 | nil=>exact h.elim
 | cons t ts =>obtain⟨l,h'⟩:=w1 t o _ h;exact w2 ts l R h'
 cases r with
 | nil=>exact hd.elim
 | cons r rs =>refine⟨_,_,rfl,Z C o σ H n _ _ _ _ S r hd fun l σ' hr S' kp hj hl=>?_⟩;refine I C l σ' H n _ _ _ _ S' (kp.reps S.hx rs) hr fun U J L S2 N Y G=>?_;exact hq U J L S2 (kp.trans N) (fun j v=>by rw[Y j (fun z=>v (by simp[z])),hj j (fun z=>v (by simp[z]))]) (G.trans hl)
theorem Qj(hc:X.calm=true)(h:DGs X es is gs)(N:(assignEach es X.env).length=es.length:=by rfl)(G:(assignEach es X.env).findIdx? (·.1)=none:=by rfl):DG X (.Tuple es k pos) is (Q8 gs):=by
 obtain⟨l,w,g,pg,h⟩:=h;refine⟨fun t o R h=>?_,_,znU hc pg N G,fun C o σ H n v t Q R S r hd L=>?_⟩;cases t with
 | tuple ts=>exact w ts o R h
 | _=>exact h.elim
 cases t with
 | tuple ts =>obtain⟨p,vs,rfl,U,J⟩:=r.tupI;exact⟨p,vs,rfl,U,by rw[J.length];exact l ts o R hd,h C o σ H n vs ts Q R S J hd L⟩
 | _=>exact hd.elim
def sAsg(d:DTE)(g:DTG):DTS:=fun D o n=>d o n fun t v=>g t o fun l=>D.nx l v
theorem Ue(h:DE X e d)(l:DG X tg is g)(U:swapsWithSole [tg] e pos.line X.env=pure false:=by rfl)(hw:swappedStores [tg] e X.env=pure none:=by rfl)
  (Z:(assignEach [tg] X.env).map (·.2)=[assign tg X.env]:=by rfl):DS X (.Assign [tg] e pos) (sAsg d g):=by
 obtain⟨ta,pa,h⟩:=h;obtain⟨w,gb,Y,l⟩:=l;refine⟨_,Zy pa Y U hw Z,fun C I σ H n D D' S hd gd=>?_⟩;refine h C I σ H n _ _ S hd fun t J v H' r G R q=>?_;exact l C I σ H' J v t _ _ (S.on G R) q r fun o σ' N L kp _ _=>gd.nx o σ' H' J N L (G.keep.trans kp)
def sPar(i j:Nat)(ds:DTA):DTS:=fun D o n=>ds o n fun ts C=>match ts with|[t,u]=>D.nx ((o.set i (some (.val t))).set j (some (.val u))) C|_=>False
theorem zsB{kt k2 pt2}(hc:X.calm=true)(hN:X.N.Nodup)(hi:X.N[i]?=some x)(Y:X.N[j]?=some y)(G:i≠j)
  (hx:X.env.scope.names.lookup x=some .local) (R:X.env.scope.names.lookup y=some .local) (h:DB X [a,b] ds)
  (hw:swappedStores [.Tuple [.Name x px,.Name y py] kt pt] (.Tuple [a,b] k2 pt2) X.env=pure (some [x,y]):=by rfl)
  (hs:swapsWithSole [.Tuple [.Name x px,.Name y py] kt pt] (.Tuple [a,b] k2 pt2) pos.line X.env=pure false:=by rfl) :
  DS X (.Assign [.Tuple [.Name x px,.Name y py] kt pt] (.Tuple [a,b] k2 pt2) pos) (sPar i j ds):=by
 obtain⟨ta,pa,h⟩:=h;refine⟨_,zkA hc hN hi Y G hx R pa.pa hw hs,fun C ρ σ H n D D' S hd g=>?_⟩;refine h C ρ σ H n _ _ S hd fun ts Z vs U r I h1 v _=>?_;cases v with
 | nil=>exact r.elim
 | cons L v =>
  cases v with
  | nil=>exact r.elim
  | cons J v =>
   cases v with
   | cons _ _=>exact r.elim
   | nil =>have S1:=(S.on I h1).put (i:=i) L;exact⟨_,_,rfl,g.nx _ _ U Z r (S1.put (Keep.rep UX S.hx J)) ((I.keep.trans UX).trans UX)⟩
def ZL(i:Nat)(d:DTE):DTS:=fun D l n=>match l[i]? with
 | some (some (.own ts))=>d l n fun t v=>ts.length<16777216/\D.nx (l.set i (some (.own (ts++[t])))) v
 | _=>False
theorem QE(i:Nat){G Z I:Pos}(h:DE X e d)(hN:X.N[i]?=some x:=by rfl)(hv:Vis X.env.scope x:=by walk_at "V")(hd:Ndb x:=by rfl)
  (hcd:Ncd x:=by rfl) (hs:swapsWith (.Call (.Attribute (.Name x G) "append" Z) [e] [] I) none pos.line X.env=pure false:=by rfl)
  (HD:attributeBase (.Name x G) "append" X.env (eval (.Name x G) X.env)=eval (.Name x G) X.env:=by rfl)
  (Im:((backTo I (starEach [e] X.env)).all (fun x=>!x.1)&&(backToKw I (keywordEach [] X.env)).all (fun x=>x.1.isSome)
   && decide ([e].length+([]:List kN).length+(if ([]:List kN).isEmpty then 0 else 1)<30))=true:=by rfl)
  (HE:(Z.endLine == I.line)=true:=by rfl) (L:starEach [e] X.env=[(false,eval e X.env)]:=by rfl):DS X (.Expr (.Call (.Attribute (.Name x G) "append" Z) [e] [] I) pos) (ZL i d):=by
 obtain⟨ta,pa,h⟩:=h;refine⟨_,zhN (zoS eT PySem.F.slot_list_append PySem.F.type_list_append zg7 (Qo hN hv hd hcd) (Qr pa QV L) HD Im HE L rfl) hs,fun C ρ σ H n D D' S hd g=>?_⟩;unfold ZL at hd;split at hd;rename_i ts Y;obtain⟨p,vs,h1,h2,h3,h4⟩:=S.own i ts Y;refine⟨.ref p,h1,.inl ⟨rfl,_,SqL.of h2⟩,?_⟩;refine h C ρ σ H n _ _ S hd fun t n' v H' r e1 hn q=>?_;have S1:=S.on e1 hn;obtain⟨p',U,R,h2',J,h4'⟩:=S1.own i ts Y;rw[h1]at R;cases R;refine⟨p,U,v,rfl,rfl,h2',by rw[J.length];exact r.1,?_⟩;obtain⟨S2,k2⟩:=S1.chg Y h1 (J.append (.cons q .nil));exact g.nx _ _ _ n' r.2 S2 (e1.keep.trans k2);exact hd.elim
def sPut(i:Nat)(v d:DTE):DTS:=fun D l n=>d l n fun t C=>match l[i]? with
 | some (some (.own ts))=>v l C fun j G=>match j with|.int j=>(match ixN ts.length j with|some k=>D.nx (l.set i (some (.own (ts.set k t)))) G|none=>False)|_=>False
 | _=>False
theorem zsA(i:Nat){dj:DTE}{l G:Pos}(hj:DE X b dj)(h:DE X e d)(hN:X.N[i]?=some x:=by rfl)(hv:Vis X.env.scope x:=by walk_at "V")(hd:Ndb x:=by rfl)
  (hcd:Ncd x:=by rfl) (hs:swapsWithSole [.Subscript (.Name x l) b G] e pos.line X.env=pure false:=by rfl) (hw:swappedStores [.Subscript (.Name x l) b G] e X.env=pure none:=by rfl)
  (J:(assignEach [.Subscript (.Name x l) b G] X.env).map (·.2)=[assign (.Subscript (.Name x l) b G) X.env]:=by rfl)
  (IC:PG X (.Subscript (.Name x l) b G)=PG X (.Subscript (.Name x l) b G):=rfl) (pg:∀{to ti:TE} {t:TSet},PE X (.Name x l) to->PE X b ti->PSet X t->PG X (.Subscript (.Name x l) b G) (L2.gSub to ti t):=by intro _ _ _ J h2 h3;exact pg_sub J h2 h3) :
  DS X (.Assign [.Subscript (.Name x l) b G] e pos) (sPut i dj d):=by
 obtain⟨ta,pa,h⟩:=h;obtain⟨tj,pj,hj⟩:=hj;refine⟨_,Zy pa (pg (Qo hN hv hd hcd) pj set_list) hs hw J,fun C ρ σ H n D D' S hd g=>?_⟩;refine h C ρ σ H n _ _ S hd fun t n1 v H1 r e1 hn q=>?_;have S1:=S.on e1 hn;split at r;rename_i ts Z;obtain⟨p,vs,J,h2,h3,h4⟩:=S1.own i ts Z;refine⟨.ref p,J,hj C ρ σ H1 n1 _ _ S1 r fun j n2 w H2 I e2 Y q2=>?_⟩;have S2:=S1.on e2 Y;cases j with
 | int j =>
  have I:(match ixN ts.length j with|some k=>D'.nx (ρ.set i (some (.own (ts.set k t)))) n2|none=>False):=I;cases ek:ixN ts.length j with
  | none=>rw[ek]at I;exact I.elim
  | some m =>rw[ek]at I;obtain⟨p',U,R,h2',L,h4'⟩:=S2.own i ts Z;rw[J]at R;cases R;refine⟨p,U,j,m,rfl,q2.intI,h2',by rw[L.length];exact ek,?_⟩;obtain⟨S3,k3⟩:=S2.chg Z J (L.set (e2.rep S.hx q) m);exact g.nx _ _ _ n2 I S3 ((e1.trans e2).keep.trans k3)
 | _=>exact I.elim
 exact r.elim
def zkp(c:DTT)(I:DTS):DTS:=fun D o n=>∃W:Nat->En->Nat->Prop,(∃m,W m o n)/\∀m o n,W m o n ->
 c o n fun b G=>if b=true then I { D with nx:=fun l C=>∃v,v<m/\W v l C,ct:=fun l C=>∃v,v<m/\W v l C,bk:=D.nx } o G else D.nx o G
theorem VN(hp:nY (model X.prog X.w) X.A X.env X.xe)(hc:DT X c dt)(hb:DSs X sa t):DS X (.While c sa [] pos) (zkp dt t):=by
 obtain⟨tc,pc,hc⟩:=hc;obtain⟨tb,pb,hb⟩:=hb;refine⟨_,zmL hp pc pb,fun C ρ σ H n D D' S hd g=>?_⟩;obtain⟨W,⟨m0,w0⟩,turn⟩:=hd;refine⟨fun m N H1=>∃I n1,W m I n1/\Stt X.K C I N H1 n1/\Keep C ρ σ H I N H1,⟨m0,ρ,n,w0,S,Keep.refl⟩,?_⟩;rintro m N H1 ⟨I,n1,w1,S1,k1⟩;refine hc C I N H1 n1 _ _ S1 (turn m I n1 w1) fun b n2 H2 r e2 hn2=>?_;have S2:=S1.on e2 hn2;have U:=k1.trans e2.keep;cases b with
 | true =>refine iteT ⟨fun σ' H'=>∃L,L<m/\∃G J,W L G J/\Stt X.K C G σ' H' J/\Keep C ρ σ H G σ' H',fun σ' H' ⟨L,hm,z⟩=>⟨L,hm,z⟩,?_⟩;refine hb C I N H2 n2 _ { D' with nx:=fun G J=>∃L,L<m/\W L G J,ct:=fun G J=>∃L,L<m/\W L G J,bk:=D'.nx } S2 (by simpa using r) ⟨?_,fun t J v H' h hn R r=>g.rt t J v H' h hn (fun a o ha Y no=>?_) r,?_,?_,fun c J H' h hn R=>g.xr c J H' h hn fun a o ha Y no=>R a o (U a o ha Y no).1 Y (U a o ha Y no).2⟩;rintro G σ' H' J ⟨L,hm,w'⟩ Z R;exact⟨L,hm,G,J,w',Z,U.trans R⟩;obtain⟨q1,q2⟩:=U a o ha Y no;exact R a o q1 Y q2;intro G σ' H' J h' Z R;exact g.nx G σ' H' J h' Z (U.trans R);rintro G σ' H' J ⟨L,hm,w'⟩ Z R;exact⟨L,hm,G,J,w',Z,U.trans R⟩
 | false=>exact iteF (g.nx I N H2 n2 (by simpa using r) S2 U)
end
def ItOk(K:qF)(hd:Option af)(P O:af->Prop)(H:Hp)(J:It)(ts:qD):Prop:=∀(v:af->Prop) (l:Hp),(∀a o,H a=some o->P a->l a=some o)->(∀a o,H a=some o->¬O a->¬v a)->(∀a,v a->l a≠none) ->
 (∀i t,ts[i]?=some t->J.go i l/\∀x u,J.yld i l x u->Same l u/\Rep K hd v u x t)/\J.stop ts.length l
def DI(X:Cx)(tg iter:aT)(d:DTA):Prop:=∃u,PI X tg iter u/\∀(C:Ctx) (l:En) (σ:St) (H:Hp) (n:Nat) (Q:It->Hp->Prop) (R:List ab->Nat->Prop),Stt X.K C l σ H n->d l n R ->
 (∀ts o J H',R ts o->ExtE C.hd H H'->Hn X.K C.hd H' o->ItOk X.K C.hd (fun a=>¬Own C l σ a) (Own C l σ) H' J ts->Q J H')->u σ H Q
def DIL(X:Cx)(tg iter:aT)(d:DTA):Prop:=∃u,PI X tg iter u/\∀(C:Ctx) (l:En) (σ:St) (H:Hp) (n:Nat) (Q:It->Hp->Prop) (R:List ab->Nat->Prop),Stt X.K C l σ H n->d l n R ->
 (∀ts o J H',R ts o->ExtE C.hd H H'->Hn X.K C.hd H' o->ItOk X.K C.hd (fun a=>C.hd≠some a) (Own C l σ) H' J ts->Q J H')->u σ H Q
section
variable{X:Cx}{a b c e tg iter:aT}{es rest:List aT}{d da db dc:DTE}{ds di:DTA}{dt:DTT}{t u:DTS}{st:dA}{sts sa sb:List dA}{pos p:Pos}{k:Nat}{x:Str}
theorem dil(h:DI X tg iter di):DIL X tg iter di:=by obtain⟨wi,pi,h⟩:=h;refine⟨wi,pi,fun C Y σ H n Q R S hd G=>h C Y σ H n Q R S hd fun ts Z J H' r v U it=>G ts Z J H' r v U ?_⟩;exact fun L N h1 I h3=>it L N (fun a o ha no=>h1 a o ha fun z=>no (.inl (S.hx a z))) I h3
theorem Reps.getP{K:qF}{hd:Option af}{O:af->Prop}{H:Hp}{vs ts}{i:Nat}{t}{x:V}(r:Reps K hd O H vs ts)(h:ts[i]?=some t)(hx:vs[i]?=some x):Rep K hd O H x t:=by obtain⟨v,l,o⟩:=r.get h;rw[hx]at l;cases l;exact o
theorem VE{K:qF}{hd:Option af}{P O:af->Prop}{H:Hp}{q:af}{vs ts}(N:H q=some (.lst vs))(U:P q)(Z:∀a,¬O a->P a)(r:Reps K hd O H vs ts):ItOk K hd P O H (Itl K q) ts:=by intro S Y L R _;have C:=L q _ N U;have I:Reps K hd S Y vs ts:=r.mono (fun a o ha z=>a8 fun no=>R a o ha no z) fun a o no ha=>L a o ha (Z a no);refine⟨fun i t J=>?_,⟨vs,.of C,by rw[r.length];exact av _⟩⟩;obtain⟨v,ev,rv⟩:=I.get J;refine⟨⟨vs,v,.of C,ev⟩,fun x H3 G=>?_⟩;obtain⟨rfl,G⟩:=G;exact⟨Same.refl _,I.getP J (G vs (.of C))⟩
theorem zn4{K:qF}{hd:Option af}{P O:af->Prop}{H:Hp}{v:V}{ts}(U:∀a,¬O a->P a)(r:Rep K hd O H v (.tuple ts)):∃q vs,v=.ref q/\SqT K H q vs/\ItOk K hd P O H (Itt K q) ts:=by
 have key:∀q vs,Reps K hd O H vs ts->(∀(I:af->Prop) (G:Hp),(∀a o,H a=some o->P a->G a=some o)->(∀a o,H a=some o->¬O a->¬I a)->SqT K G q vs)->ItOk K hd P O H (Itt K q) ts:=by intro q vs r Y I G J N _;have C:=Y I G J N;have R:Reps K hd I G vs ts:=r.mono (fun a o ha z=>a8 fun no=>N a o ha no z) fun a o no ha=>J a o ha (U a no);refine⟨fun i t S=>?_,⟨vs,C,by rw[r.length];exact av _⟩⟩;obtain⟨v,ev,rv⟩:=R.get S;refine⟨⟨vs,v,C,ev⟩,fun x Z L=>?_⟩;obtain⟨rfl,L⟩:=L;exact⟨Same.refl _,R.getP S (L vs C)⟩
 cases r with
 | @tup q vs ds h o r=>exact⟨q,vs,rfl,.inl (.inl h),key q vs r fun I G J _=>.inl (.inl (J q _ h (U q o)))⟩
 | @tupS q vs ds h r=>exact⟨q,vs,rfl,h.sq,key q vs r fun I G _ _=>h.sq⟩
def dItL(d:DTE):DTA:=fun v n R=>d v n fun t o=>match t with|.list ts=>R ts o|_=>False
def dItT(d:DTE):DTA:=fun v n R=>d v n fun t o=>match t with|.tuple ts=>R ts o|_=>False
theorem Uj(h:DE X iter d):DI X tg iter (dItL d):=by
 obtain⟨Y,pa,h⟩:=h;refine⟨_,zkG pa,fun C N σ H n Q R S hd I=>?_⟩;refine h C N σ H n _ _ S hd fun t U v H' r G L q=>?_;cases t with
 | list ts =>obtain⟨p,vs,rfl,l,no,J⟩:=q.lstI;exact⟨p,rfl,⟨vs,.of l⟩,I ts U _ H' r G L (VE l no (fun _ z=>z) J)⟩
 | _=>exact r.elim
theorem znv(h:DL X iter d):DIL X tg iter (dItL d):=by
 obtain⟨ta,pa,h⟩:=h;refine⟨_,zkG pa,fun C ρ σ H n Q R S hd N=>?_⟩;refine h C ρ σ H n _ _ S hd fun t Z v H' r L Y q=>?_;cases t with
 | list ts =>
  rcases q with q|⟨p,vs,ds,rfl,J,G,I,U⟩|⟨p,zs,ep,ks,rfl,J,G,I,U⟩
  rotate_left 2
  cases J;obtain⟨p,vs,rfl,G,no,I⟩:=q.lstI;exact⟨p,rfl,⟨vs,.of G⟩,N ts Z _ H' r L Y (VE G (fun z=>no (.inl (S.hx p z))) (fun a no z=>no (.inl (S.hx a z))) I)⟩;cases J;exact⟨p,rfl,⟨vs,.of G⟩,N ts Z _ H' r L Y (VE G U (fun a no z=>no (.inl (S.hx a z))) I)⟩
 | _=>exact r.elim
theorem UJ(h:DE X iter d):DI X tg iter (dItT d):=by
 obtain⟨N,pa,h⟩:=h;refine⟨_,zqR pa,fun C l σ H n Q R S hd G=>?_⟩;refine h C l σ H n _ _ S hd fun t J v H' r o I q=>?_;cases t with
 | tuple ts =>obtain⟨p,vs,rfl,L,it⟩:=zn4 (P:=fun a=>¬Own C l σ a) (fun _ z=>z) q;exact⟨p,rfl,⟨vs,L⟩,G ts J _ H' r o I it⟩
 | _=>exact r.elim
def JZ(lo:Int)(n:Nat):List ab:=(g9 n).map fun(i:Nat)=>cq (lo+(i:Int))
theorem znd{K:qF}{hd:Option af}{P O:af->Prop}{H:Hp}{lo:Int}{m:Nat}:ItOk K hd P O H (Itr lo m) (JZ lo m):=by intro I C _ _ _;refine⟨fun i t o=>?_,by show m<=(JZ lo m).length;simp[JZ]⟩;unfold JZ at o;rw[a6]at o;by_cases hi:i<m;rw[mE hi]at o;cases o;refine⟨hi,fun x G v=>?_⟩;obtain⟨rfl,rfl⟩:=v;exact⟨Same.refl _,.int _⟩;rw[bM (by simp;omega)]at o;cases o
def Y6(d:DTE):DTA:=fun o n R=>d o n fun t l=>match t with|.int j=>(-(2 ^ 62)<=j/\j<2 ^ 62)/\R (JZ 0 j.toNat) l|_=>False
theorem zeA(U:X.mg "range" = none) (h:DE X a d) (J:Gl X "range":=by rfl) (o:starEach [a] X.env=[(false,eval a X.env)]:=by rfl):DI X tg (.Call (.Name "range" p) [a] [] pos) (Y6 d):=by
 obtain⟨ta,pa,h⟩:=h;refine⟨_,zkF J U (Qr pa QV o) o,fun C Y σ H n Q R S hd I=>?_⟩;refine h C Y σ H n _ _ S hd fun t Z v H' r G L q=>?_;cases t with
 | int j =>rw[q.intI];exact⟨j,rfl,r.1.1,r.1.2,I _ Z _ H' r.2 G L znd⟩
 | _=>exact r.elim
def forP(g:DTG)(l:DTS)(D:JM):List ab->En->Nat->Prop
 | [],ρ,n=>D.nx ρ n
 | t::ts,ρ,n=>g t ρ fun o=>l { D with nx:=forP g l D ts,ct:=forP g l D ts,bk:=D.nx } o n
def sFor(di:DTA)(g:DTG)(v:DTS):DTS:=fun D l n=>di l n fun ts o=>forP g v D ts l o
theorem Uf(hp:nY (model X.prog X.w) X.A X.env X.xe)(hc:X.calm=true)(hi:DI X tg iter di)(hg:DG X tg is g)(hb:DSs X sa t)
  (hs:Fsi X iter:=by intro _;rfl):DS X (.For tg iter sa [] pos) (sFor di g t):=by
 obtain⟨wi,pi,hi⟩:=hi;obtain⟨_,gg,pg,hg⟩:=hg;obtain⟨tb,pb,hb⟩:=hb;refine⟨_,zqO hp hc pi pg pb hs,fun C ρ σ H n D D' S hd gd=>?_⟩;refine hi C ρ σ H n _ _ S hd fun ts n1 J H1 r e1 hn it=>?_;have S1:=S.on e1 hn;refine⟨fun i m L H2=>m=ts.length - i/\i<=ts.length/\∃I Y,forP g t D' (ts.drop i) I Y/\Stt X.K C I L H2 Y/\Keep C ρ σ H1 I L H2,⟨ts.length,by simp,bp _,ρ,n1,by simpa using r,S1,Keep.refl⟩,?_⟩;rintro i m L H2 ⟨rfl,hi',I,Y,f2,S2,k2⟩;have itq:=it (Own C I L) H2 (fun a o ha no=>(k2 a o ha (fun z=>no (.inl (S.hx a z))) fun z=>no (.inr z)).1) (fun a o ha no z=>z.elim (fun z=>no (.inl z)) fun z=>(k2 a o ha (fun y=>no (.inl (S.hx a y))) fun y=>no (.inr y)).2 z) (fun a=>S2.dom);by_cases hlt:i<ts.length;have et:ts[i]?=some ts[i]:=ak hlt;obtain⟨go,yl⟩:=itq.1 i _ et;rw[bF hlt]at f2;refine .inr ⟨go,fun σ' H'=>∃G N,forP g t D' (ts.drop (i+1)) G N/\Stt X.K C G σ' H' N/\Keep C ρ σ H1 G σ' H',fun σ' H' z=>⟨ts.length - (i+1),by omega,rfl,hlt,z⟩,fun x H3 hy=>?_⟩;obtain⟨sm,rx⟩:=yl x H3 hy;have S3:=S2.on sm.ext (S2.hnd.same sm);have k3:Keep C ρ σ H1 I L H3:=k2.trans (Same.ext sm:ExtE C.hd H2 H3).keep;refine hg C I L H3 Y x _ _ _ S3 rx f2 fun ρ4 σ4 r4 S4 k4 _ _=>?_;have k5:=k3.trans k4;refine hb C ρ4 σ4 H3 Y _ { D' with nx:=forP g t D' (ts.drop (i+1)),ct:=forP g t D' (ts.drop (i+1)),bk:=D'.nx } S4 r4 ⟨fun G σ' H' N h' S' R=>⟨G,N,h',S',k5.trans R⟩,fun t N v H' h U R rp=>gd.rt t N v H' h U (fun a o ha Z no=>?_) rp,fun G σ' H' N h' S' R=>gd.nx G σ' H' N h' S' (e1.keep.trans (k5.trans R)),fun G σ' H' N h' S' R=>⟨G,N,h',S',k5.trans R⟩,fun c N H' h U R=>gd.xr c N H' h U fun a o ha Z no=>R a o ((e1.keep.trans k5) a o ha Z no).1 Z ((e1.keep.trans k5) a o ha Z no).2⟩;obtain⟨q1,q2⟩:=(e1.keep.trans k5) a o ha Z no;exact R a o q1 Z q2;have e:i=ts.length:=by omega
 subst e;rw[oa]at f2;exact .inl ⟨itq.2,gd.nx I L H2 Y f2 S2 (e1.keep.trans k2)⟩
def JQ(N:List Str)(ts:qD):En:=ts.map (fun t=>some (.val t))++iK (N.length - ts.length) none
theorem zd7{K:qF}{hd:Option af}{O:af->Prop}{H:Hp}{n:Nat}{N:List Str}{vs:List V}{ts:qD}(r:Reps K hd O H vs ts)(I:Hn K hd H n)(dom:∀a,O a->MutO (H a))(hx:∀a,hd=some a->O a) :
  Stt K ⟨hd,O⟩ (JQ N ts) (start N vs) H n/\∀a,¬OwnS (JQ N ts) (start N vs) a:=by
 have get:∀(i:Nat) c,(JQ N ts)[i]?=some (some c)->∃t,c=.val t/\ts[i]?=some t:=fun i c h=>by
  unfold JQ at h;by_cases hi:i<ts.length;rw[bg (by simpa using hi),a6]at h;cases e:ts[i]? with
  | none=>rw[e]at h;cases h
  | some t=>rw[e]at h;cases h;exact⟨t,rfl,rfl⟩
  rw[aU (by simpa using hi),gF]at h;split at h <;> cases h
 have no:∀a,¬OwnS (JQ N ts) (start N vs) a:=fun a ⟨i,ds,m,J,_⟩=>by obtain⟨t,e,_⟩:=get i _ J;subst e;cases m
 refine⟨.mk' (by unfold JQ start;simp[r.length]) (fun i d h=>?_) (fun i ds m h=>?_) (fun i ks h=>by obtain⟨t,e,_⟩:=get i _ h;cases e) (fun i j ds es a m _ h=>?_) I dom hx,no⟩;obtain⟨t,e,C⟩:=get i _ h;cases e;obtain⟨v,ev,G⟩:=r.get C;refine⟨v,?_,G.mono (fun a o _ z=>z.elim id fun z=>absurd z (no a)) fun _ _ _ z=>z⟩;unfold start;have hi:i<vs.length:=by rcases fc i vs.length with z|z;exact z;rw[bM z]at ev;cases ev
 rw[bg (by simpa using hi),a6,ev];rfl;obtain⟨t,e,_⟩:=get i _ h;subst e;cases m;obtain⟨t,e,_⟩:=get i _ h;subst e;cases m
end
end L2
namespace Bd
open PySem L2 PyProof.Rows
theorem Def.okD{P:aK}{w:ba}{K:qF}{mg:qM}{base:bB}{x:Str}{st:dA}{ps N:List Str}{f:af}{fd:cA}{k m:Nat}{g:GD}(D:Def K mg x st ps f fd)(S:Qp N ps (Jt st))(hm:m=ps.length)
  (hb:∀(l:ae) (A:aX) (outer:List Env) (s:aj) (H:Hp) (E:XK),Room k (A.deeper (envOfC x (Jt st) s.heap.objs.size f l))->∃d,DSs (cxOf CX0 P w K mg base N x (Jt st) f l A outer s H E).nox (JU st) d /\
   ∀ts n R,ts.length=m->g ts n R->d { nx:=fun _ u=>R .none u,rt:=R } (JQ N ts) n):FnOk P w K mg base CX0 (k+1) f fd ps (spD K m g):=by
 refine D.F.ok S (fun vs H Q E h=>?_) (fun l A outer s H vs Q E hr h=>?_);obtain⟨hd,O,ts,n,R,r,_,_,_,J,_⟩:=h;rw[r.length,J,hm];obtain⟨hd,O,ts,n,R,r,hn,dom,hx,J,Y,U⟩:=h;obtain⟨d,⟨t,pt,Z⟩,G⟩:=hb l A outer s H E hr;obtain⟨S0,no⟩:=zd7 (N:=N) r hn dom hx;refine⟨t,pt,Z ⟨hd,O⟩ _ _ H n _ _ S0 (G ts n R J Y) ⟨fun ρ' σ' H' u h S' L=>?_,fun t u v H' h I L rp=>?_,fun _ _ _ _ h=>h.elim,fun _ _ _ _ h=>h.elim,fun _ _ _ h=>h.elim⟩⟩;exact U .none u .non H' h (fun a o ha C=>(L a o ha C (no a)).1) S'.hnd .non;exact U t u v H' h (fun a o ha C=>L a o ha C (no a)) I rp
end Bd
namespace L2
open PySem PySem.Spec PyProof.Rows
def DTs(Y:Cx)(ifs:List aT)(d:DTT):Prop:=∃u,PTs Y ifs u/\∀(C:Ctx) (o:En) (σ:St) (H:Hp) (n:Nat) (Q:Bool->Hp->Prop) (R:Bool->Nat->Prop),Stt Y.K C o σ H n->d o n R ->
 (∀b l H',R b l->ExtE C.hd H H'->Hn Y.K C.hd H' l->Q b H')->u σ H Q
def dYes:DTT:=fun _ n R=>R true n
section
variable{Y:Cx}{c:aT}{d:DTT}
theorem ZD:DTs Y [] dYes:=⟨_,zoF,fun C o σ H n Q R S h l=>l true n H h ExtE.refl S.hnd⟩
theorem zpN(h:DT Y c d):DTs Y [c] d:=by obtain⟨l,p,h⟩:=h;exact⟨_,zoE p,h⟩
end
def SpE(K:qF)(u:TE)(d:DTE):Prop:=∀(C:Ctx) (l:En) (σ:St) (H:Hp) (n:Nat) (Q:VK) (R:qN),Stt K C l σ H n->d l n R ->
 (∀t o v H',R t o->ExtE C.hd H H'->Hn K C.hd H' o->Rep K C.hd (Own C l σ) H' v t->Q v H')->u σ H Q
def SpT(K:qF)(u:TT)(d:DTT):Prop:=∀(C:Ctx) (o:En) (σ:St) (H:Hp) (n:Nat) (Q:Bool->Hp->Prop) (R:Bool->Nat->Prop),Stt K C o σ H n->d o n R ->
 (∀b l H',R b l->ExtE C.hd H H'->Hn K C.hd H' l->Q b H')->u σ H Q
def SpG(K:qF)(is:List Nat)(u:TG)(d:DTG):Prop:=∀(C:Ctx) (o:En) (σ:St) (H:Hp) (n:Nat) (v:V) (t:ab) (Q:St->Hp->Prop) (R:En->Prop),Stt K C o σ H n->Rep K C.hd (Own C o σ) H v t->d t o R ->
 (∀l σ',R l->Stt K C l σ' H n->Keep C o σ H l σ' H->(∀j,j∉is->σ'[j]?=σ[j]?)->σ'.length=σ.length->Q σ' H)->u v σ H Q
def SpI(K:qF)(u:TI)(d:DTA):Prop:=∀(C:Ctx) (l:En) (σ:St) (H:Hp) (n:Nat) (Q:It->Hp->Prop) (R:List ab->Nat->Prop),Stt K C l σ H n->d l n R ->
 (∀ts o J H',R ts o->ExtE C.hd H H'->Hn K C.hd H' o->ItOk K C.hd (fun a=>¬Own C l σ a) (Own C l σ) H' J ts->Q J H')->u σ H Q
section
variable{X:Cx}{scope:dF}{own:List Str}{capt:List Nat}{e tg:aT}{es:List aT}{is:List Nat}{d:DTE}{dt:DTT}{dg:DTG}{di:DTA}
theorem DE.fam(h:Fam X scope own capt fun Y=>DE Y e d):∃o:TE,(Fam X scope own capt fun Y=>PE Y e o)/\SpE X.K o d :=
 ⟨fun σ H Q=>∀C s₀ H₀ l,hG (h C s₀ H₀ l) σ H Q,fun C s₀ H₀ l pins s σ H Q I hw=>(bX (h C s₀ H₀ l)).1 pins s σ H Q I (hw C s₀ H₀ l),fun C x σ H n Q R S hd u v s₀ H₀ l=>(bX (h v s₀ H₀ l)).2 C x σ H n Q R S hd u⟩
theorem DTs.fam(h:Fam X scope own capt fun Y=>DTs Y es dt):∃o:TT,(Fam X scope own capt fun Y=>PTs Y es o)/\SpT X.K o dt :=
 ⟨fun σ H Q=>∀C s₀ H₀ l,hG (h C s₀ H₀ l) σ H Q,fun C s₀ H₀ l pins s σ H Q I hw=>(bX (h C s₀ H₀ l)).1 pins s σ H Q I (hw C s₀ H₀ l),fun C x σ H n Q R S hd u v s₀ H₀ l=>(bX (h v s₀ H₀ l)).2 C x σ H n Q R S hd u⟩
theorem DG.fam(h:Fam X scope own capt fun Y=>DG Y tg is dg):∃o:TG,(Fam X scope own capt fun Y=>PG Y tg o)/\SpG X.K is o dg :=
 ⟨fun v σ H Q=>∀C s₀ H₀ l,hG (h C s₀ H₀ l).2 v σ H Q,fun C s₀ H₀ l pins s σ H v u Q I r hw=>(bX (h C s₀ H₀ l).2).1 pins s σ H v u Q I r (hw C s₀ H₀ l),fun C J σ H n v t Q R S r hd x G s₀ H₀ l=>(bX (h G s₀ H₀ l).2).2 C J σ H n v t Q R S r hd x⟩
theorem DI.fam(h:Fam X scope own capt fun Y=>DI Y tg e di):∃o:TI,(Fam X scope own capt fun Y=>PI Y tg e o)/\SpI X.K o di :=
 ⟨fun σ H Q=>∀C s₀ H₀ l,hG (h C s₀ H₀ l) σ H Q,fun C s₀ H₀ l pins s σ H R I hw=>(bX (h C s₀ H₀ l)).1 pins s σ H R I (hw C s₀ H₀ l),fun C x σ H n Q R S hd u v s₀ H₀ l=>(bX (h v s₀ H₀ l)).2 C x σ H n Q R S hd u⟩
end
theorem Wk.of:∀{σ σ':St},σ.length=σ'.length->(∀(i:Nat) v,σ[i]?=some (some v)->σ'[i]?=some (some v))->Wk σ σ'
 | [],[],_,_=>trivial
 | [],_::_,h,_=>by simp at h
 | _::_,[],h,_=>by simp at h
 | none::r,o::r',h,k=>Wk.of (σ:=r) (σ':=r') (by simpa using h) fun i v e=>by simpa using k (i+1) v (by simpa using e)
 | some w::r,o::r',h,k=>⟨by simpa using k 0 w rfl,Wk.of (by simpa using h) fun i v e=>by simpa using k (i+1) v (by simpa using e)⟩
def capV:Option Cell->Option Cell
 | some (.val d)=>some (.val d)
 | some (.dct ks)=>some (.rdo ks)
 | some (.rdo ks)=>some (.rdo ks)
 | _=>none
def JJ(m:Nat)(capt:List Nat)(l:En):En:=iK m none++capt.map fun i=>capV (l.getD i none)
def cGo{α:Type}(g:DTG)(tt:DTT)(u:En->Nat->α->(α->Nat->Prop)->Prop)(ρ0:En):List ab->α->Nat->(α->Nat->Prop)->Prop
 | [],acc,n,R=>R acc n
 | x::xs,acc,n,R=>g x ρ0 fun o=>tt o n fun b v=>if b=true then u o v acc fun l C=>cGo g tt u ρ0 xs l C R else cGo g tt u ρ0 xs acc v R
abbrev tdL(te:DTE)(ρ:En)(n:Nat)(acc:qD)(R:List ab->Nat->Prop):Prop:=te ρ n fun t n3=>acc.length<16777216/\R (acc++[t]) n3
abbrev tdN{α:Type}(di:DTA)(g:DTG)(tt:DTT)(te:En->Nat->α->(α->Nat->Prop)->Prop)(ρ:En)(n:Nat)(acc:α)(R:α->Nat->Prop):Prop:=di ρ n fun ts n3=>cGo g tt te ρ ts acc n3 R
def JP(g:DTG)(tt:DTT)(l:DTE)(ρ0:En)(xs acc:qD)(n:Nat)(R:List ab->Nat->Prop):Prop:=cGo g tt (tdL l) ρ0 xs acc n R
def dComp(m:Nat)(capt:List Nat)(u:DTA)(g:DTG)(tt:DTT)(v:DTE):DTA:=fun l n R=>u l n fun ts o=>JP g tt v (JJ m capt l) ts [] o R
theorem Hn.updR{K:qF}{hd:Option af}{v:Hp}{D:af}{o:HO}{n:Nat}(u:hd≠some D)(x:MutO (v D))(h:Hn K hd v n):Hn K hd (upd v D o) n:=fun a ha=>by have ne:a≠D:=fun z=>u (by rw[<- z];exact ha);rcases h a ha with⟨⟨d,m,t,q,rest⟩,l⟩|⟨l,p⟩;exact .inl ⟨⟨d,m,t,by rw[Jj ne];exact q,rest⟩,l⟩;exact .inr ⟨l,p.upd ne x⟩
section
variable{X:Cx}{scope:dF}{own:List Str}{capt:List Nat}{elt tg iter:aT}{ifs:List aT}{pos:Pos}{di:DTA}{is:List Nat}{g:DTG}{tt:DTT}{te:DTE}
theorem zf8{u:En}{i:Nat}{c:Cell}(h:capV (u.getD i none)=some c):(∃d,c=.val d/\u[i]?=some (some (.val d)))\/∃ks,c=.rdo ks/\(u[i]?=some (some (.dct ks))\/u[i]?=some (some (.rdo ks))):=by
 rw[aZ]at h;cases e:u[i]? with
 | none=>rw[e]at h;cases h
 | some o =>
  rw[e]at h;cases o with
  | none=>cases h
  | some c' =>
   cases c' with
   | val d'=>simp[capV]at h;exact .inl ⟨d',h.symm,rfl⟩
   | own _=>simp[capV]at h
   | dct ks=>simp[capV]at h;exact .inr ⟨ks,h.symm,.inl rfl⟩
   | dtt ks=>simp[capV]at h
   | rdo ks=>simp[capV]at h;exact .inr ⟨ks,h.symm,.inr rfl⟩
theorem zlQ{K:qF}{C:Ctx}{u:En}{σ:St}{H U:Hp}{n n2:Nat}{D:af}(S:Stt K C u σ H n)(e:ExtE C.hd H U)(hn:Hn K C.hd U n2)(hD:H D=none)(hy:MutO (U D)) :
  Stt K ⟨C.hd,fun a=>Own C u σ a\/a=D⟩ (JJ own.length capt u) (Qh own++capS capt σ) U n2/\∀a,¬OwnS (JJ own.length capt u) (Qh own++capS capt σ) a:=by
 have get:∀(i:Nat) c,(JJ own.length capt u)[i]?=some (some c)->∃j,capV (u.getD j none)=some c/\own.length<=i/\capt[i - own.length]?=some j:=fun i c h=>by
  unfold JJ at h;by_cases hi:i<own.length;rw[bg (by simpa using hi),gF]at h;split at h <;> cases h;rw[aU (by simpa using hi),lg,a6]at h;cases ej:capt[i - own.length]? with
  | none=>rw[ej]at h;cases h
  | some j =>rw[ej]at h;exact⟨j,by simpa using h,by omega,rfl⟩
 have slot:∀(i j:Nat) (v:V),own.length<=i->capt[i - own.length]?=some j->σ[j]?=some (some v)->(Qh own++capS capt σ)[i]?=some (some v):=fun i j v hi J x=>by rw[aU (by simpa using hi)];simp only[ao,a6,J,ir];rw[aZ,x];rfl
 have nm:∀(i:Nat) (c:Cell),c.mine=true->(JJ own.length capt u)[i]?=some (some c)->False:=fun i c m h=>by obtain⟨j,L,_⟩:=get i c h;rcases zf8 L with⟨d,rfl,_⟩|⟨ks,rfl,_⟩ <;> cases m
 have no:∀a,¬OwnS (JJ own.length capt u) (Qh own++capS capt σ) a:=fun a ⟨i,c,m,x,_⟩=>nm i c m x;have S2:=S.on e hn;have sub:∀a o,H a=some o->Own ⟨C.hd,fun a=>Own C u σ a\/a=D⟩ (JJ own.length capt u) (Qh own++capS capt σ) a->Own C u σ a:=fun a o ha z=>by rcases z with z|z;rcases z with z|z;exact z;subst z;rw[hD]at ha;cases ha;exact absurd z (no a)
 have kp:∀a o,¬Own C u σ a->H a=some o->U a=some o:=fun a o nO ha=>e a o ha fun z=>nO (.inl (S.hx a z));refine⟨.mk' (by unfold JJ;simp) (fun i d h=>?_) (fun i ds m h=>(nm i _ m h).elim) (fun i ks h=>?_) (fun i j ds es a m _ h=>(nm i _ m h).elim) hn (fun a ha=>?_) (fun a ha=>.inl (.inl (S.hx a ha))),no⟩;obtain⟨j,L,hi,J⟩:=get i _ h;rcases zf8 L with⟨d',z,G⟩|⟨ks,z,_⟩;cases z;obtain⟨v,x,N⟩:=S.val j d G;exact⟨v,slot i j v hi J x,N.mono sub kp⟩;cases z;obtain⟨j,L,hi,J⟩:=get i _ h;rcases zf8 L with⟨d',z,G⟩|⟨ks',z,G⟩;cases z;cases z;rcases G with G|G;obtain⟨a,I,x,N,Z,Y⟩:=S.dct j ks G;have R:C.hd≠some a:=fun z=>Y (S.hx a z);exact⟨a,I,slot i j _ hi J x,e a _ N R,Z.mono sub kp,.inl (.inr ⟨j,.dct ks,rfl,G,x⟩),R⟩;obtain⟨a,I,x,N,Z,Y,R⟩:=S.rdo j ks G;exact⟨a,I,slot i j _ hi J x,e a _ N R,Z.mono sub kp,.inl (.inl Y),R⟩;rcases ha with ha|rfl;exact S2.lst ha;exact hy
def ExtD(hd:Option af)(D:af)(H H':Hp):Prop:=∀a o,H a=some o->hd≠some a->a≠D->H' a=some o
theorem ExtE.transD{hd:Option af}{D:af}{H u l:Hp}(a:ExtE hd H u)(b:ExtD hd D u l):ExtD hd D H l:=fun c o h n m=>b c o (a c o h n) n m
def SpM{α:Type}(K:qF)(C:Ctx)(D:af)(A:Hp->α->Prop)(G:List Nat)(te:TM)(x:En->Nat->α->(α->Nat->Prop)->Prop):Prop:=∀(o:En) (σ:St) (H:Hp) (n:Nat) (acc:α) (N:Hp->Prop) (R:α->Nat->Prop),Stt K C o σ H n->(∀j∈G,∀v,σ[j]?≠some (some v))->A H acc->x o n acc R ->
 (∀l u H',R l u->ExtD C.hd D H H'->Hn K C.hd H' u->A H' l->N H')->te σ H N
def AOk{α:Type}(A:Ctx->af->Hp->α->Prop):Prop:=∀(C:Ctx) (D:af) (H:Hp) (acc:α),(∀a,C.hd=some a->C.ext a)->C.hd≠some D->A C D H acc->MutO (H D)/\(∀ks,H D≠some (.dK ks))/\∀H',ExtE C.hd H H'->A C D H' acc
section
variable{α:Type}{K:qF}{C:Ctx}{D:af}{A:Ctx->af->Hp->α->Prop}{is js:List Nat}{gg:TG}{gt:TT}{tm:TM}{td:En->Nat->α->(α->Nat->Prop)->Prop}{ρ:En}{σ:St}{H1:Hp}{n1:Nat}{acc:α}{R:α->Nat->Prop}
theorem ziT(hD:C.ext D)(Z:C.hd≠some D)(am:AOk A)(sg:SpG K is gg g)(st:SpT K gt tt)(sm:SpM K C D (A C D) js tm td)(S:Stt K C ρ σ H1 n1)(his:∀j∈is,∀v,σ[j]?≠some (some v))(U:∀j∈js,j∉is/\∀v,σ[j]?≠some (some v))(a1:A C D H1 acc){J:It}{ts:qD}{Q:Hp->Prop}
  (it:∀u,ExtD C.hd D H1 u->(∀a,Own C ρ σ a->u a≠none)->(∀(i:Nat) t,ts[i]?=some t->J.go i u/\∀x I,J.yld i u x I->Same u I/\Rep K C.hd (Own C ρ σ) I x t)/\J.stop ts.length u)
  (r:cGo g tt td ρ ts acc n1 R) (hq:∀l n' H',R l n'->ExtD C.hd D H1 H'->Hn K C.hd H' n'->A C D H' l->Q H'):Y0 gg gt tm σ J H1 Q:=by
 refine⟨ts.length,fun i u=>∃acc Y,cGo g tt td ρ (ts.drop i) acc Y R/\A C D u acc/\ExtD C.hd D H1 u/\Hn K C.hd u Y,⟨acc,n1,r,a1,fun _ _ h _ _=>h,S.hnd⟩,?_⟩;rintro i u ⟨G,Y,c2,a2,N,h2⟩;have S2:=S.onX (fun a o ha no=>N a o ha (fun z=>no (S.hx a z)) fun z=>no (z▸hD)) (fun a ha=>by by_cases z:a=D;rw[z];exact(am _ _ _ _ S.hx Z a2).1;exact S.mut ha h2 fun o ho Z=>N a o ho Z z) (fun a ks ha _ nh2=>N a _ ha nh2 fun z=>(am _ _ _ _ S.hx Z a1).2.1 ks (z▸ha)) h2;have itq:=it u N fun a=>S2.dom;refine⟨fun hi=>?_,fun hi=>?_⟩;subst hi;rw[oa]at c2;exact⟨itq.2,hq _ _ _ c2 N h2 a2⟩;rw[bF hi]at c2;obtain⟨go,yl⟩:=itq.1 i _ (ak hi);refine⟨go,fun x I hyd=>?_⟩;obtain⟨L,rx⟩:=yl x I hyd;refine sg C ρ σ I Y x ts[i] _ _ (S2.on (Same.ext L) (h2.same L)) rx c2 fun ρ4 σ4 r4 S4 k4 hj hl=>⟨Wk.of hl.symm fun j v ej=>?_,?_⟩;by_cases z:j∈is;exact absurd ej (his j z v);rw[hj j z];exact ej;refine st C ρ4 σ4 I Y _ _ S4 r4 fun b n5 H5 r5 e5 hn5=>?_;have e25:ExtE C.hd u H5:=(Same.ext L).trans e5;have a5:=(am _ _ _ _ S.hx Z a2).2.2 _ e25;have e15:ExtD C.hd D H1 H5:=fun a o h n m=>e25 a o (N a o h n m) n;cases b with
 | false=>exact iteF ⟨G,n5,by simpa using r5,a5,e15,hn5⟩
 | true=>exact iteT (sm ρ4 σ4 H5 n5 G _ _ (S4.on e5 hn5) (fun j hj' v=>by rw[hj j (U j hj').1];exact(U j hj').2 v) a5 (by simpa using r5) fun l n' H' r' e' h' a'=>⟨l,n',r',a',fun a o h n m=>e' a o (e15 a o h n m) n m,h'⟩)
end
def HM{α:Type}(X:Cx)(scope:dF)(own:List Str)(capt:List Nat)(nx:ae->Env->Sem Fin->Sem Fin)(A:Ctx->af->Hp->α->Prop)(o:List Nat)(l:En->Nat->α->(α->Nat->Prop)->Prop):Prop :=
 ∃te:af->TM,(∀D,Fam X scope own capt fun Y=>PM Y (nx (.ref D) Y.env) (te D))/\∀(C:Ctx) D,C.ext D->C.hd≠some D->SpM X.K C D (A C D) o (te D) l
section
variable{α:Type}{A:Ctx->af->Hp->α->Prop}{a0:α}{js is2:List Nat}{e tg2 it2:aT}{Io:List aT}{Ho:Sem ae}{nx:ae->Env->Sem Fin->Sem Fin}{z:af->HO->Prop}{td:En->Nat->α->(α->Nat->Prop)->Prop}{di2:DTA}{g2:DTG}{tt2:DTT}
theorem zpC(am:AOk A)(hC:IsC e)(hc:X.calm=true)(hcl:(clausesOf e)[1]?=some ⟨tg2,it2,Io,0⟩)(hT:∀acc env,Vm e 1 tg2 it2 Io acc env (nx acc env))(hi2:Fam X scope own capt fun Y=>DI Y tg2 it2 di2)(U:Fam X scope own capt fun Y=>DG Y tg2 is2 g2)(ht2:Fam X scope own capt fun Y=>DTs Y Io tt2)
  (hs2:∀(C:af) (x:ae),foldedSetIterable it2 (compEnvC scope (ownCl X scope C) C X.env) x=pure x) (hm:HM X scope own capt nx A [] td):HM X scope own capt (nxN e 1 it2) A is2 (tdN di2 g2 tt2 td):=by
 obtain⟨wi,pi,hi⟩:=DI.fam hi2;obtain⟨gg,pg,hg⟩:=DG.fam U;obtain⟨gt,pt,ht⟩:=DTs.fam ht2;obtain⟨te,pm,hm⟩:=hm;refine⟨_,fun D C s₀ H₀ v=>zoJ hC rfl hc hcl (hT _ _) (hs2 C) (pi C s₀ H₀ v) (pg C s₀ H₀ v) (pt C s₀ H₀ v) (pm D C s₀ H₀ v),fun C D G L ρ σ H n acc N R S I a r hq=>?_⟩;refine hi C ρ σ H n _ _ S r fun ts n3 J H6 r6 Z hn6 it6=>?_;have S6:=S.on Z hn6;exact ziT G L am hg ht (hm C D G L) S6 I (fun j hj=>absurd hj (by simp)) ((am _ _ _ _ S.hx L a).2.2 _ Z) (fun H2 e dm=>it6 (Own C ρ σ) H2 (fun a o ha no=>e a o ha (fun z=>no (.inl (S.hx a z))) fun z=>no (.inl (z▸G))) (fun _ _ _ z=>z) dm) r6 fun u n' H' r' e' h' a'=>hq u n' H' r' (Z.transD e') h' a'
theorem zgf(am:AOk A)(az:∀C D H ho,z D ho->A C D (upd H D ho) a0)(hc:X.calm=true)(S:JB scope own capt X)(k:Vb e tg iter ifs scope Ho nx)(na:NA X.prog X.w Ho z)(hi:DIL X tg iter di)(hg:Fam X scope own capt fun Y=>DG Y tg is g)(hin:∀i∈is,i<own.length)(ht:Fam X scope own capt fun Y=>DTs Y ifs tt)
  (hm:HM X scope own capt nx A js td) (hjs:∀j∈js,j<own.length/\j∉is) (hs:Fsi X iter) :
  ∃te,PE X e te/\(∀{i:Nat} {x:Str} {I HN:Pos},X.N.Nodup->X.N[i]?=some x->Loc X.env.scope x->swapsWith e (some (.Name x I)) HN.line X.env=pure true->(Fnl X x)->PS X (.Assign [.Name x I] e HN) (tAsg te (Q7 i))) /\
   ∀(C:Ctx) (u:En) (σ:St) (H:Hp) (n:Nat) (Q:VK) (R:α->Nat->Prop),Stt X.K C u σ H n->(di u n fun ts n1=>cGo g tt td (JJ own.length capt u) ts a0 n1 R) ->
    (∀acc n' H' D,R acc n'->ExtE C.hd H H'->Hn X.K C.hd H' n'->H D=none->¬Own C u σ D->A ⟨C.hd,fun a=>Own C u σ a\/a=D⟩ D H' acc->Q (.ref D) H')->te σ H Q:=by
 obtain⟨wi,pi,hi⟩:=hi;obtain⟨gg,pg,hgg⟩:=DG.fam hg;obtain⟨gt,pt,hgt⟩:=DTs.fam ht;obtain⟨te,pm,hte⟩:=hm;refine⟨_,zoQ hc S k na pi pg pt pm hs,fun hN hxi hx hsw hf=>zoI hc S k na pi pg pt pm hs hN hxi hx hsw hf,fun C u σ H n Q R St hd hq=>?_⟩;refine hi C u σ H n _ _ St hd fun ts n1 J H1 r e1 hn it=>fun D ho G hz=>?_;have hD:H D=none:=VD e1 hn G;have nO:¬Own C u σ D:=fun z=>St.dom z hD;have L:C.hd≠some D:=fun z=>nO (.inl (St.hx D z));have a1:=az ⟨C.hd,fun a=>Own C u σ a\/a=D⟩ D H1 ho hz;have hx':∀a,C.hd=some a->Own C u σ a\/a=D:=fun a z=>.inl (.inl (St.hx a z));have up:∀{a o},H1 a=some o->a≠D/\upd H1 D ho a=some o:=fun ha=>⟨Qf ha G,by rw[Jj (Qf ha G)];exact ha⟩;obtain⟨I3,no3⟩:=zlQ (own:=own) (capt:=capt) (D:=D) St (e1.trans (ExtE.new G)) (hn.same (J9 G)) hD (am ⟨C.hd,fun a=>Own C u σ a\/a=D⟩ D _ _ hx' L a1).1;have sn:∀j,j<own.length->∀v,(Qh own++capS capt σ)[j]?≠some (some v):=fun j U v ej=>by
  rw[bg (by simpa using U),a6]at ej;cases z:own[j]? with
  | none=>rw[z]at ej;cases ej
  | some q=>rw[z]at ej;cases ej
 refine ziT (C:=⟨C.hd,fun a=>Own C u σ a\/a=D⟩) (.inr rfl) L am hgg hgt (hte _ D (.inr rfl) L) I3 (fun j U=>sn j (hin j U)) (fun j U=>⟨(hjs j U).2,sn j (hjs j U).1⟩) a1 (fun H2 e dm=>?_) r fun acc' n' H' r' e' h' a'=>hq acc' n' H' D r' (fun a o ha Z=>e' a o (up (e1 a o ha Z)).2 Z (up (e1 a o ha Z)).1) h' hD nO a';have itq:=it (fun a=>Own C u σ a\/a=D) H2 (fun a o ha Z=>e a o (up ha).2 Z (up ha).1) (fun a o ha no z=>z.elim no (up ha).1) fun a z=>dm a (.inl z);refine⟨fun i t ht=>?_,itq.2⟩;obtain⟨go,yl⟩:=itq.1 i t ht;refine⟨go,fun x H3 y=>?_⟩;obtain⟨sm,rx⟩:=yl x H3 y;exact⟨sm,rx.mono (fun a o _ z=>z.elim id fun z=>absurd z (no3 a)) fun _ _ _ z=>z⟩
end
def AL(K:qF)(C:Ctx)(D:af)(H:Hp)(acc:qD):Prop:=∃ys,H D=some (.lst ys)/\Reps K C.hd C.ext H ys acc
theorem Vd{K:qF}:AOk (AL K):=fun _ _ _ _ hx v ⟨ys,u,r⟩ =>
 ⟨.inl ⟨_,u⟩,fun ks z=>(by rw[u]at z;cases z),fun H' e=>⟨ys,e _ _ u v,r.mono (fun _ _ _ z=>z) fun a o no ha=>e a o ha fun z=>no (hx a z)⟩⟩
def nxL(elt:aT)(acc:ae)(env:Env)(k:Sem Fin):Sem Fin:=do
 (do let _ <- call (.builtin "list.append") [acc,<- eval elt env])
 k
theorem zh9{l:List Comprehension}:IsC (.ListComp elt l scope pos):=fun _ _ _ _ _ _ _=>⟨⟨rfl,rfl⟩,⟨rfl,rfl⟩,rfl⟩
theorem znZ{P:aK}{w:ba}:NA P w (newList []) fun _ o=>o=.lst []:=fun A E s Q _ h=>cN (h _ rfl fun h' e=>⟨_,rfl,fun H'=>⟨bp _,[],0,.nil,e⟩⟩)
theorem zok{K:qF}(C:Ctx)(D:af)(H:Hp)(o:HO)(h:o=.lst []):AL K C D (upd H D o) []:=⟨[],by rw[h];exact JH,.nil⟩
theorem zn9(he:Fam X scope own capt fun Y=>DE Y elt te):HM X scope own capt (nxL elt) (AL X.K) [] (tdL te):=by obtain⟨ge,pe,J⟩:=DE.fam he;refine⟨fun D σ H N=>ge σ H fun v L=>∃ys,L D=some (.lst ys)/\ys.length<sizeLine/\N (upd L D (.lst (ys++[v]))),fun D C s₀ H₀ fp pins s σ H N k Q E I h hk=>?_,fun C D hD Z ρ σ H n acc N R S _ a r hq=>?_⟩;refine aa (aa (bN (pe C s₀ H₀ fp pins s σ H _ I h) (fun y s9 h9=>aa ?_) fun _ _ z=>z.elim));obtain⟨v,H9,I9,r9,ys,u,hl,q9⟩:=h9;refine bN (zg7 (X:=QJ X scope own capt C s₀ H₀ fp) _ s9 σ H9 (.ref D) [v] _ [y] (fun _ H'=>H'=upd H9 D (.lst (ys++[v]))) I9 rfl (.cons r9 .nil) ⟨_,ys,v,rfl,rfl,u,hl,rfl⟩) (fun _ s10 x=>?_) fun _ _ z=>z.elim;obtain⟨_,H10,G,_,rfl⟩:=x;exact ag (hk _ _ G q9);refine J C ρ σ H n _ _ S r fun t n6 v L r6 e6 U q6=>?_;obtain⟨ys,u,rs⟩:=(Vd _ _ _ _ S.hx Z a).2.2 _ e6;refine⟨ys,u,by rw[rs.length];exact r6.1,hq _ n6 _ r6.2 (fun b o hb nb ne=>by rw[Jj ne];exact e6 b o hb nb) (Hn.updR Z (.inl ⟨_,u⟩) U) ⟨_,JH,?_⟩⟩;exact(rs.append (.cons (q6.mono (fun _ _ _ z=>.inl z) fun _ _ _ z=>z) .nil)).mono (fun _ _ _ z=>z) fun a o no ha=>by rw[Jj (show a≠D from fun z=>no (z▸hD))];exact ha
def zsS(K:qF)(te:TE)(d:DTA):Prop:=∀(C:Ctx) (o:En) (σ:St) (H:Hp) (n:Nat) (Q:VK) (R:List ab->Nat->Prop),Stt K C o σ H n->d o n R ->
 (∀ts u p vs H',R ts u->ExtE C.hd H H'->Hn K C.hd H' u->H p=none->H' p=some (.lst vs)->Reps K C.hd (fun a=>Own C o σ a\/a=p) H' vs ts->Q (.ref p) H')->te σ H Q
theorem zja(hc:X.calm=true)(S:JB scope own capt X)(hi:DIL X tg iter di)
  (J:Fam X scope own capt fun Y=>DG Y tg is g) (u:∀i∈is,i<own.length) (U:Fam X scope own capt fun Y=>DTs Y ifs tt) (he:Fam X scope own capt fun Y=>DE Y elt te) (hs:Fsi X iter) :
  ∃ge,PE X (.ListComp elt [⟨tg,iter,ifs,0⟩] scope pos) ge/\(∀{i:Nat} {x:Str} {l v:Pos},X.N.Nodup->X.N[i]?=some x->Loc X.env.scope x->swapsWith (.ListComp elt [⟨tg,iter,ifs,0⟩] scope pos) (some (.Name x l)) v.line X.env=pure true->(Fnl X x)->PS X (.Assign [.Name x l] (.ListComp elt [⟨tg,iter,ifs,0⟩] scope pos) v) (tAsg ge (Q7 i)))/\zsS X.K ge (dComp own.length capt di g tt te):=by
 obtain⟨ge,p,q,sp⟩:=zgf (e:=.ListComp elt [⟨tg,iter,ifs,0⟩] scope pos) Vd zok hc S ⟨zh9,⟨_,rfl⟩,fun _ _ _=>rfl,fun _=>⟨_,rfl⟩,fun _ _=>⟨_,rfl⟩⟩ znZ hi J u U (zn9 he) (fun j hj=>absurd hj (by simp)) hs;exact⟨ge,p,q,fun C ρ σ H n Q R St hd G=>sp C ρ σ H n Q R St hd fun acc n' H' D r e h I _ ⟨ys,Z,rs⟩=>G acc n' D ys H' r e h I Z rs⟩
theorem zpT(hc:X.calm=true)(S:JB scope own capt X)(hi:DIL X tg iter di)
  (v:Fam X scope own capt fun Y=>DG Y tg is g) (l:∀i∈is,i<own.length) (x:Fam X scope own capt fun Y=>DTs Y ifs tt) (he:Fam X scope own capt fun Y=>DE Y elt te)
  (G:Fsi X iter:=by intro _;rfl):DN X (.ListComp elt [⟨tg,iter,ifs,0⟩] scope pos) (dComp own.length capt di g tt te):=by
 obtain⟨_,p,_,u⟩:=zja hc S hi v l x he G;exact⟨_,p,u⟩
def DNA(X:Cx)(x:Str)(l:Pos)(e:aT)(pos:Pos)(i:Nat)(d:DTA):Prop:=∃te,PS X (.Assign [.Name x l] e pos) (tAsg te (Q7 i))/\zsS X.K te d
theorem zi5{x:Str}{l I:Pos}{i:Nat}(hN:X.N.Nodup)(v:X.N[i]?=some x)(hx:Loc X.env.scope x)(hc:X.calm=true)(S:JB scope own capt X)(hi:DIL X tg iter di)
  (J:Fam X scope own capt fun Y=>DG Y tg is g) (u:∀i∈is,i<own.length) (R:Fam X scope own capt fun Y=>DTs Y ifs tt) (he:Fam X scope own capt fun Y=>DE Y elt te)
  (U:Fsi X iter:=by intro _;rfl) (G:swapsWith (.ListComp elt [⟨tg,iter,ifs,0⟩] scope pos) (some (.Name x l)) I.line X.env=pure true:=by rfl)
  (hf:Fnl X x:=by walk_at "F") :
  DNA X x l (.ListComp elt [⟨tg,iter,ifs,0⟩] scope pos) I i (dComp own.length capt di g tt te):=by
 obtain⟨_,_,q,Z⟩:=zja hc S hi J u R he U;exact⟨_,q hN v hx G hf,Z⟩
theorem zlz{x:Str}{o G:Pos}{e:aT}{i:Nat}{d:DTA}(h:DNA X x o e G i d):DS X (.Assign [.Name x o] e G) (sSet i (dNew d)):=by obtain⟨ta,pa,h⟩:=h;refine⟨_,pa,fun C L σ H n D Z S hd g=>?_⟩;refine h C L σ H n _ _ S hd fun ts R p vs H' r v Y I U J=>?_;exact g.nx _ _ H' R r ((S.on v Y).put (.lst U (S.free I|> fun z=>z) (J.mono (fun _ _ _ z=>.inl z) fun _ _ _ z=>z))) (v.keep.trans UX)
end
def zkh(K:qF):Sp:=fun vs H Q _=>∃(a:af) (ns:List Int) (k:Int),vs=[.ref a,.int k]/\SqL K H a (ns.map V.int)/\ns.length<=63/\0<=k/\k<=100 /\
 ∀hd H',H hd=none->Zj H' hd 0->Same H H'->Q (.ref hd) H'
def zsR(hd:af)(H H':Hp):Prop:=∀b o,H b=some o->b≠hd->H' b=some o
def znM:Sp:=fun vs H Q _=>∃(hd:af) (many n:Int),vs=[.ref hd,.int many]/\Zj H hd n/\n<=1000000000000/\0<many/\many<2 ^ 128 /\
 ∀(r:Int) H',0<=r->r<many->Zj H' hd (n+1)->zsR hd H H'->Q (.int r) H'
def Yk:GD:=fun ts n R=>match ts with
 | [h,.int many]=>h=HAND/\0<many/\many<2 ^ 128/\n<=1000000000000/\∀r:Int,0<=r->r<many->R (.int r) (n+1)
 | _=>False
theorem zmo{K:qF}(vs:List V)(H:Hp)(Q:VK)(E:XK)(h:spD K 2 Yk vs H Q E):znM vs H Q E:=by
 obtain⟨hd,O,ts,n,R,r,N,dom,hx,Z,g,C⟩:=h;cases ts with
 | nil=>exact g.elim
 | cons v ts=>cases ts with
  | nil=>exact g.elim
  | cons t ts=>cases t with
   | int many=>cases ts with
    | nil =>
     obtain⟨rfl,m0,m1,S,g⟩:=g;cases r with
     | cons J r =>
      cases r with
      | cons I r =>
       cases r;obtain⟨a,rfl,u⟩:=J.handI;rw[I.intI];have L:Zj H a n:=(N a u).elim (·.1) fun z=>by have:=z.1;omega
       refine⟨a,many,n,rfl,L,by omega,m0,m1,fun q H' U G v Y=>?_⟩;refine C _ (n+1) _ H' (g q U G) (fun b o hb nb=>Y b o hb fun z=>nb (by rw[u,z])) (fun b x=>?_) (.int _);rw[u]at x;cases x;exact .inl ⟨v,by omega⟩
    | cons _ _=>exact g.elim
   | _=>exact g.elim
def zoq(K:qF):Sp:=fun vs H Q _=>∃(a:af) (ns:List Int),vs=[.ref a]/\SqL K H a (ns.map V.int)/\ns.length<=63/\∀H',Q (.bl true) H'
def zsp:GD:=fun ts n R=>∃ns:List Int,ts=[SCR ns]/\ns.length<=63/\∀u,R (.bool true) u
theorem zph{K:qF}(vs:List V)(H:Hp)(Q:VK)(E:XK)(h:zoq K vs H Q E):spD K 1 zsp vs H Q E:=by obtain⟨a,ns,rfl,sq,C,q⟩:=h;refine⟨none,fun _=>False,[SCR ns],0,fun t _=>t=.bool true,.cons ?_ .nil,(fun a e=>by cases e),(fun a z=>z.elim),(fun a e=>by cases e),rfl,⟨ns,rfl,C,fun _=>rfl⟩,fun t G v H' u _ _ x=>?_⟩;rcases sq with sq|sq;exact .scr sq (fun z=>z);exact .scrS fun _=>.inr sq;subst u;rw[x.blI];exact q H'
section
variable{env:Env}{es:List aT}{a b:aT}{l1 l2:List aT}{p:Pos}{x:Str}
theorem Jq:starEach (.Name x p::es) env=(false,eval (.Name x p) env)::starEach es env:=rfl
theorem ZB{j}:starEach (.Constant (.int i) j p::es) env=(false,eval (.Constant (.int i) j p) env)::starEach es env:=rfl
theorem YJ{c d}:starEach (.Call a l1 c d::es) env=(false,eval (.Call a l1 c d) env)::starEach es env:=rfl
theorem QW{o}:starEach (.BinOp a o b p::es) env=(false,eval (.BinOp a o b p) env)::starEach es env:=rfl
theorem ztF{o}:starEach (.UnaryOp o a p::es) env=(false,eval (.UnaryOp o a p) env)::starEach es env:=rfl
theorem zqq:starEach (.Subscript a b p::es) env=(false,eval (.Subscript a b p) env)::starEach es env:=rfl
theorem QZ{g s}:starEach (.ListComp a g s p::es) env=(false,eval (.ListComp a g s p) env)::starEach es env:=rfl
end
section
variable{X:Cx}{a b c e:aT}{da db dc:DTE}{pos p:Pos}{r r':R2}{g g':G2}
theorem zns(ho:OpR X (compareOp op) r)(hg:Gp2 X r g)(J:OpR X (compareOp op') r')(L:Gp2 X r' g')(ha:DL X a da)(hb:DL X b db)(hc:DL X c dc)
  (hm:lastMarks [op,op'] [b,c]=false:=by with_unfolding_all rfl):DT X (.Compare a [op,op'] [b,c] pos) (UF (Yh g g' da db dc)):=by
 obtain⟨ta,pa,ha⟩:=ha;obtain⟨tb,pb,hb⟩:=hb;obtain⟨tc,pc,hc⟩:=hc;refine⟨_,zmK ho J pa pb pc hm,fun C U σ H n Q R S h hq=>?_⟩;refine two ha hb S h fun x y n2 v w H2 r2 e Z q1 q2=>?_;refine hg C.hd (Own C U σ) H2 v w x y _ _ (fun p=>Z.dom) q1 q2 r2 fun z u H' l sm N=>?_;have I:=Z.on sm.ext (Z.hnd.same sm);cases z with
 | bool k =>
  cases N;refine⟨k,rfl,?_⟩;cases k with
  | false=>exact iteF ⟨false,rfl,hq _ n2 H' l (e.trans sm.ext) I.hnd⟩
  | true =>
   refine iteT (hc C U σ H' n2 _ _ I l fun z2 n3 w2 H4 r4 e4 h4 q4=>?_);have S4:=I.on e4 h4;have Y:=e4.repT S.hx ((Same.ext sm:ExtE C.hd H2 H').repT S.hx q2);refine L C.hd (Own C U σ) H4 w w2 y z2 _ _ (fun p=>S4.dom) Y q4 r4 fun z u H' l G N=>?_;cases z with
   | bool k=>cases N;exact⟨k,rfl,hq _ n3 H' l (((e.trans sm.ext).trans e4).trans G.ext) (S4.hnd.same G)⟩
   | _=>exact l.elim
 | _=>exact l.elim
end
section
variable{C:Int->Int->Prop}{f:Int->Int->Int}{fb:Int->Int->Bool}{i j k:Int}{R:ab->Prop}{Rb:Bool->Prop}{xs ys:qD}{s t:Str}{a b:Bool}{u v:ab}
theorem l_gI:gI C f (.int i) (.int j) R=(C i j/\R (.int (f i j))):=propext aR
theorem Y4:gI0 f (.int i) (.int j) R=R (.int (f i j)):=propext aR
theorem Yo:oAdd (.int i) (.int j) R=R (.int (i+j)):=propext aR
theorem Yp:oAdd (.tuple xs) (.tuple ys) R=(xs.length+ys.length<=16777216/\R (.tuple (xs++ys))):=propext aR
theorem U5:oEq (.int i) (.int j) R=R (.bool (decide (i=j))):=propext aR
theorem U6:oEq (.tuple xs) (.tuple ys) R=(Okd (.tuple xs)/\Okd (.tuple ys)/\R (.bool (fe (.tuple xs) (.tuple ys)))):=propext aR
theorem Ye:oNe (.int i) (.int j) R=R (.bool (!decide (i=j))):=propext aR
theorem Yg:oNe (.list xs) (.list ys) R=(Okd (.list xs)/\Okd (.list ys)/\R (.bool (!PyData.eqv (.list xs) (.list ys)))):=propext aR
theorem U7:oIs (.bool a) (.bool b) R=R (.bool (a == b)):=propext aR
theorem U8:oIs u .none R=R (.bool (isNone u)):=by cases u <;> exact propext aR
theorem YG:oIsN (.bool a) (.bool b) R=R (.bool (a != b)):=propext aR
theorem YH:oIsN u .none R=R (.bool (!isNone u)):=by cases u <;> exact propext aR
theorem Yb:oLtA (.int i) (.int j) R=R (.bool (decide (i<j))):=propext aR
theorem U9:oLeA (.int i) (.int j) R=R (.bool (decide (i<=j))):=propext aR
theorem Y5(h:atI xs i=some x):oIx (.list xs) (.int i) R=R x:=by show(match atI xs i with|some t=>R t|none=>False)=_;rw[h]
theorem Vi(h:atI xs i=some x):oIx (.tuple xs) (.int i) R=R x:=by show(match atI xs i with|some t=>R t|none=>False)=_;rw[h]
theorem Yt:oIx (.tuple (u::xs)) (.int 0) R=R u:=Vi (by unfold atI ixN;simp)
theorem Yu:oIx (.tuple (u::v::xs)) (.int 1) R=R v:=Vi (by unfold atI ixN;simp;rw[if_pos (by omega)];rfl)
theorem Yr:oIx (.list (u::xs)) (.int 0) R=R u:=Y5 (by unfold atI ixN;simp)
theorem Ys:oIx (.list (u::v::xs)) (.int 1) R=R v:=Y5 (by unfold atI ixN;simp;rw[if_pos (by omega)];rfl)
theorem Yv:truD (.bool a) Rb=Rb a:=propext aR
theorem Yw:truD (.list xs) Rb=Rb (!xs.isEmpty):=propext aR
theorem U4:bolD (.bool a) Rb=Rb a:=propext aR
theorem Yd:bMin [.int i,.int j] R=R (.int (if j<i then j else i)):=propext aR
theorem Yc:bMax [.int i,.int j] R=R (.int (if j > i then j else i)):=propext aR
theorem Yq:bInt [.bool a] R=R (.int (if a then 1 else 0)):=propext aR
theorem YR:Vn [.list xs] R=R (.tuple xs):=propext aR
theorem YI:Qn (.list xs) Rl=Rl xs:=propext aR
theorem zry(y:String)(h:y∈["NoneType","bool","int","str","list","tuple","dict"]):kitB y "int" = some (decide (y = "int")||decide (y = "bool")):=by simp only[ay,bI,or_false]at h;rcases h with rfl|rfl|rfl|rfl|rfl|rfl|rfl <;> decide +kernel
theorem zpi(y:String)(h:y∈["NoneType","bool","int","str","list","tuple","dict"]):kitB y "bool" = some (decide (y = "bool")):=by simp only[ay,bI,or_false]at h;rcases h with rfl|rfl|rfl|rfl|rfl|rfl|rfl <;> decide +kernel
theorem zm_(y:String)(h:y∈["NoneType","bool","int","str","list","tuple","dict"]):kitB y "tuple" = some (decide (y = "tuple")):=by simp only[ay,bI,or_false]at h;rcases h with rfl|rfl|rfl|rfl|rfl|rfl|rfl <;> decide +kernel
def Pln(t:ab):Prop:=tyN t≠none
def isInt:ab->Bool|.int _=>true|.bool _=>true|_=>false
def isBool:ab->Bool|.bool _=>true|_=>false
def isTup:ab->Bool|.tuple _=>true|_=>false
variable{d:DTE}{ρ:En}{n:Nat}{Rn:qN}
theorem zhG(h:tyN u=some y):y∈["NoneType","bool","int","str","list","tuple","dict"]:=by unfold tyN at h;split at h <;> cases h <;> simp
def isiD(f:ab->Bool)(d:DTE):DTE:=fun ρ n R=>d ρ n fun t x=>Pln t/\R (.bool (f t)) x
end
section
variable{X:Cx}{e:aT}{d:DTE}{p p2 pos:Pos}
theorem ZI(Z:∀t y,tyN t=some y->kitB y T=some (f t))(hm:X.mg "isinstance" = none) (u:X.mg y=none) (hT:bootBuiltins y=some (.type T)) (h:DL X e d) (hs:starEach (e::[.Name y p2]) X.env=(false,eval e X.env)::starEach [.Name y p2] X.env) (U:Gl X "isinstance":=by rfl) (o:Gl X y:=by rfl) (hn:y ≠ "__name__":=by decide) (hd:Ndb y:=by rfl) :
  DE X (.Call (.Name "isinstance" p) [e,.Name y p2] [] pos) (isiD f d):=by
 obtain⟨ta,pa,h⟩:=h;refine⟨_,Vh zlZ hm znD (QP pa (zoV (Bd.zuf u hT o hn hd) Ui) hs) U,fun C G σ H n Q R S hd J=>?_⟩;refine h C G σ H n _ _ S hd fun t n1 v Y x I h1 L=>?_;cases et:tyN t with
 | none=>exact absurd et x.1
 | some z=>exact⟨v,C.hd,Own C G σ,t,T,z,f t,rfl,L,et,Z t z et,J _ n1 _ Y x.2 I h1 (.bl _)⟩
theorem zsi:∀t y,tyN t=some y->kitB y "int" = some (isInt t):=fun t y e=>by rw[zry y (zhG e)];unfold tyN at e;split at e <;> cases e <;> rfl
theorem zpD:∀t y,tyN t=some y->kitB y "bool" = some (isBool t):=fun t y e=>by rw[zpi y (zhG e)];unfold tyN at e;split at e <;> cases e <;> rfl
theorem zf7:∀t y,tyN t=some y->kitB y "tuple" = some (isTup t):=fun t y e=>by rw[zm_ y (zhG e)];unfold tyN at e;split at e <;> cases e <;> rfl
theorem QY:Pln (.int i):=by simp[Pln,tyN]
theorem QX:Pln (.bool i):=by simp[Pln,tyN]
theorem Um:Pln (.str i):=by simp[Pln,tyN]
theorem Uw:Pln (.tuple i):=by simp[Pln,tyN]
theorem Uq:Pln (.list i):=by simp[Pln,tyN]
theorem Ur:Pln .none:=by simp[Pln,tyN]
theorem Uz:Pln (.dict []):=by simp[Pln,tyN]
end
abbrev blk(i h:Int):ab:=.tuple [.int i,.int h]
theorem UT:Okd (.tuple [.int i,.int h]):=⟨by simp[fN,cQ],by simp[gT,dN]⟩
theorem znp:fe (.tuple [.int i,.int h]) (.tuple [.int j,.int g])=(decide (i=j)&&decide (h=g)):=by simp only[fe,mJ,mK];rw[lh,lh]
def IsBk(bits i h:Int):Prop:=0<=h/\h<=bits/\∃k:Int,0<=k/\i=k*2 ^ h.toNat/\k<2 ^ (bits - h).toNat
theorem zfL(k:Nat):(0:Int)<2 ^ k:=Bd.Q4 k
theorem ziI:(2:Int) ^ (a+b)=2 ^ a*2 ^ b:=gH 2 a b
theorem IsBk.bounds(u:0<=bits)(H:IsBk bits i h):0<=i/\i+2 ^ h.toNat<=2 ^ bits.toNat:=by
 obtain⟨h0,x,k,l,rfl,v⟩:=H;have p:=zfL h.toNat;refine⟨Int.mul_nonneg l (cf p),?_⟩;have e:bits.toNat=(bits - h).toNat+h.toNat:=by lia
 rw[e,ziI];have:(k+1)*2 ^ h.toNat<=2 ^ (bits - h).toNat*2 ^ h.toNat:=dh (by lia) (cf p);rw[eG,bH]at this;exact this
theorem zkC(h:k<=64):(2:Int) ^ k<=18446744073709551616:=by have:=Bd.zdV h;simpa using this
theorem cpow(h0:0<=j)(l:j<=1000000):CPow 1 j:=⟨h0,l,by decide⟩
section
variable{t u tb:DTS}{D:JM}{ρ ρ0:En}{n i j m:Nat}{d da db dc d1 d2:DTE}{ds di:DTA}{c c' tt:DTT}{g:G2}{g':G2}{gc:GC}{gd:GD}{tg:DTG}{tgs:DTGs}{R:qN}{Rb:Bool->Nat->Prop}{Rl:List ab->Nat->Prop}{Re:En->Prop}{x y:ab}{xs ys acc:qD}{f:Int->Int->Int}{fb:ab->Bool}{k:Bool}{capt:List Nat}{h:Option Cell}
theorem Zq:(sSeq t u D ρ n)=(t { D with nx:=u D } ρ n):=propext aR
theorem Zp:(sRet d D ρ n)=(d ρ n fun t l=>D.rt t l):=propext aR
theorem Zr:(sSet i d D ρ n)=(d ρ n fun t o=>D.nx (ρ.set i (some (.val t))) o):=propext aR
theorem Zo:(sAsg d tg D ρ n)=(d ρ n fun t o=>tg t ρ fun l=>D.nx l o):=propext aR
theorem u_dC:(dC x ρ n R)=(R x n):=propext aR
theorem Zc:(dOp g da db ρ n R)=(da ρ n fun x l=>db ρ l fun y o=>g x y fun z=>R z o):=propext aR
theorem Zk:(dNew ds ρ n R)=(ds ρ n fun ts o=>R (.list ts) o):=propext aR
theorem Zm:(dTup ds ρ n R)=(ds ρ n fun ts o=>R (.tuple ts) o):=propext aR
theorem Zl:(dNil ρ n Rl)=(Rl [] n):=propext aR
theorem ZO:(J6 d ds ρ n Rl)=(d ρ n fun t l=>ds ρ l fun ts o=>Rl (t::ts) o):=propext aR
theorem Zb:(dFn gd ds ρ n R)=(ds ρ n fun ts l=>gd ts l R):=propext aR
theorem Z3:(Zf gc ds ρ n R)=(ds ρ n fun ts l=>gc ts fun z=>R z l):=propext aR
theorem ZY:(JX i x ρ Re)=(Re (ρ.set i (some (.val x)))):=propext aR
theorem ZQ:(Q8 tgs (.tuple xs) ρ Re)=(tgs xs ρ Re):=propext aR
theorem ZP:(Ub [] ρ Re)=(Re ρ):=propext aR
theorem ZW:(Qt tg tgs (x::xs) ρ Re)=(tg x ρ fun l=>tgs xs l Re):=propext aR
def cVal:Option Cell->(ab->Prop)->Prop
 | some (.val d),R=>R d
 | _,_=>False
def cOwn:Option Cell->(List ab->Prop)->Prop
 | some (.own d),R=>R d
 | _,_=>False
theorem ZC:cVal (some (.val x)) Q=Q x:=propext aR
theorem Zn:dVar i ρ n R=cVal (ρ.getD i none) fun d=>R d n:=by
 unfold dVar;rw[aZ];cases e:ρ[i]? with
 | none=>exact propext aR
 | some o=>cases o with
  | none=>exact propext aR
  | some c=>cases c <;> exact propext aR
theorem YL:UF d ρ n Rb=(d ρ n fun t l=>bolD t fun b=>Rb b l):=by unfold UF;congr 1;funext t l;cases t <;> exact propext aR
def lCat:ab->ab->(List ab->Prop)->Prop
 | .list xs,.list ys,R=>xs.length+ys.length<=16777216/\R (xs++ys)
 | _,_,_=>False
theorem YC:dCat da db ρ n Rl=(da ρ n fun x l=>db ρ l fun y o=>lCat x y fun zs=>Rl zs o):=by unfold dCat;congr 1;funext x l;congr 1;funext y o;cases x <;> cases y <;> exact propext aR
def lLst:ab->(List ab->Prop)->Prop
 | .list xs,R=>R xs
 | _,_=>False
def lTup:ab->(List ab->Prop)->Prop
 | .tuple xs,R=>R xs
 | _,_=>False
theorem YD:dItL d ρ n Rl=(d ρ n fun t l=>lLst t fun ts=>Rl ts l):=by unfold dItL;congr 1;funext t l;cases t <;> exact propext aR
theorem YE:dItT d ρ n Rl=(d ρ n fun t l=>lTup t fun ts=>Rl ts l):=by unfold dItT;congr 1;funext t l;cases t <;> exact propext aR
def lInt:ab->(Int->Prop)->Prop
 | .int i,R=>R i
 | _,_=>False
theorem YK:Y6 d ρ n Rl=(d ρ n fun t l=>lInt t fun j=>(-(2 ^ 62)<=j/\j<2 ^ 62)/\Rl (JZ 0 j.toNat) l):=by unfold Y6;congr 1;funext t l;cases t <;> exact propext aR
theorem YF:dNeg d ρ n R=(d ρ n fun t l=>lInt t fun i=>R (.int (-i)) l):=by unfold dNeg;congr 1;funext t l;cases t <;> exact propext aR
def Y3:List ab->(ab->ab->Prop)->Prop
 | [x,y],R=>R x y
 | _,_=>False
theorem YA:sPar i j ds D ρ n=(ds ρ n fun ts o=>Y3 ts fun t u=>D.nx ((ρ.set i (some (.val t))).set j (some (.val u))) o):=by unfold sPar;congr 1;funext ts o;rcases ts with _|⟨a,_|⟨b,_|⟨c,r⟩⟩⟩ <;> exact propext aR
theorem UZ:sAug i f d D ρ n=cVal (ρ.getD i none) fun v=>lInt v fun q=>d ρ n fun t C=>lInt t fun k=>D.nx (ρ.set i (some (.val (.int (f q k))))) C:=by
 unfold sAug;rw[aZ];cases e:ρ[i]? with
 | none=>exact propext aR
 | some o=>cases o with
  | none=>exact propext aR
  | some c=>cases c with
   | own _=>exact propext aR
   | dct _=>exact propext aR
   | dtt _=>exact propext aR
   | rdo _=>exact propext aR
   | val v=>cases v with
    | int q =>show(d ρ n fun t C=>_)=(d ρ n fun t C=>_);congr 1;funext t C;cases t <;> exact propext aR
    | _=>exact propext aR
theorem YS:Yh g g' da db dc ρ n R=(da ρ n fun x C=>db ρ C fun y v=>g x y fun z=>bolD z fun b=>if b=true then dc ρ v fun w G=>g' y w fun z=>R z G else R (.bool false) v):=by
 unfold Yh;congr 1;funext x C;congr 1;funext y v;congr 1;funext z;cases z with
 | bool b=>cases b <;> simp[bolD]
 | _=>exact propext aR
def UI(ρ:En)(i:Nat)(D:JM)(l:DTE)(t:ab)(v:Nat)(ts:qD):Prop:=l ρ v fun j C=>lInt j fun j=>(match ixN ts.length j with|some k=>D.nx (ρ.set i (some (.own (ts.set k t)))) C|none=>False)
theorem U0:sPut i dj d D ρ n=(d ρ n fun t l=>cOwn (ρ.getD i none) fun xs=>UI ρ i D dj t l xs):=by
 unfold sPut;congr 1;funext t l;rw[aZ];cases e:ρ[i]? with
 | none=>exact propext aR
 | some o=>cases o with
  | none=>exact propext aR
  | some c=>cases c with
   | val _=>exact propext aR
   | dct _=>exact propext aR
   | dtt _=>exact propext aR
   | rdo _=>exact propext aR
   | own xs =>show(dj ρ l fun j v=>_)=UI ρ i D dj t l xs;unfold UI;congr 1;funext j v;cases j <;> exact propext aR
end
section
variable{t u tb:DTS}{D:JM}{ρ ρ0:En}{n i j m:Nat}{d da db dc d1 d2:DTE}{ds di:DTA}{c c' tt:DTT}{g:G2}{g':G2}{gc:GC}{gd:GD}{tg:DTG}{tgs:DTGs}{R:qN}{Rb:Bool->Nat->Prop}{Rl:List ab->Nat->Prop}{Re:En->Prop}{x y:ab}{xs ys acc:qD}{f:Int->Int->Int}{fb:ab->Bool}{k:Bool}{capt:List Nat}
theorem zrV(h:t { D with nx:=u D } ρ n):sSeq t u D ρ n:=h
theorem zpu(h:D.nx ρ n):zot D ρ n:=h
theorem zrW(h:d ρ n fun t l=>D.rt t l):sRet d D ρ n:=h
theorem zuM(h:c ρ n fun b l=>if b=true then t D ρ l else u D ρ l):sIf c t u D ρ n:=h
theorem zrZ(h:d ρ n fun t o=>tg t ρ fun l=>D.nx l o):sAsg d tg D ρ n:=h
theorem zrY(h:di ρ n fun ts l=>forP tg tb D ts ρ l):sFor di tg tb D ρ n:=h
theorem i_dC(h:R x n):dC x ρ n R:=h
theorem zuQ(h:da ρ n fun x l=>db ρ l fun y o=>g x y fun z=>R z o):dOp g da db ρ n R:=h
theorem zr9(h:ds ρ n fun ts o=>R (.list ts) o):dNew ds ρ n R:=h
theorem zr5(h:ds ρ n fun ts o=>R (.tuple ts) o):dTup ds ρ n R:=h
theorem zn8(h:Rl [] n):dNil ρ n Rl:=h
theorem zpz(h:d ρ n fun t l=>ds ρ l fun ts o=>Rl (t::ts) o):J6 d ds ρ n Rl:=h
theorem zuR(h:ds ρ n fun ts l=>gd ts l R):dFn gd ds ρ n R:=h
theorem zsd(h:ds ρ n fun ts l=>gd ts l fun t o=>Qw t=true/\R t o):dFnL gd ds ρ n R:=h
theorem znj(h:ds ρ n fun ts l=>gc ts fun z=>R z l):Zf gc ds ρ n R:=h
theorem zsf(h:c ρ n fun b l=>if b=true then c' ρ l Rb else Rb false l):dAnd c c' ρ n Rb:=h
theorem zuP(h:c ρ n fun b l=>if b=true then Rb true l else c' ρ l Rb):dOr c c' ρ n Rb:=h
theorem zr8(h:c ρ n fun b l=>Rb (!b) l):dNot c ρ n Rb:=h
theorem zpB(h:da ρ n fun t v=>bolD t fun b=>if b=true then db ρ v R else R (.bool false) v):zpY da db ρ n R:=h
theorem zr7(h:da ρ n fun t v=>bolD t fun b=>if b=true then R (.bool true) v else db ρ v R):dOrV da db ρ n R:=h
theorem zpy(h:da ρ n fun t v=>bolD t fun b=>R (.bool (!b)) v):zpX da ρ n R:=h
theorem zsc(h:c ρ n fun b l=>if b=true then da ρ l R else db ρ l R):dIfE c da db ρ n R:=h
theorem zr6(h:d ρ n fun t l=>truD t fun b=>Rb b l):dTru d ρ n Rb:=h
theorem zpA(h:di ρ n fun ts l=>JP tg tt d (JJ m capt ρ) ts [] l Rl):dComp m capt di tg tt d ρ n Rl:=h
theorem zr4(h:Rb true n):dYes ρ n Rb:=h
theorem zps(h:tgs xs ρ Re):Q8 tgs (.tuple xs) ρ Re:=h
theorem zpt(h:Re ρ):Ub [] ρ Re:=h
theorem znh(h:tg x ρ fun l=>tgs xs l Re):Qt tg tgs (x::xs) ρ Re:=h
theorem zpv(h:d ρ n fun t l=>bolD t fun b=>Rb b l):UF d ρ n Rb:=YL.symm▸h
theorem zse(h:da ρ n fun x l=>db ρ l fun y o=>lCat x y fun zs=>Rl zs o):dCat da db ρ n Rl:=YC.symm▸h
theorem zsb(h:d ρ n fun t l=>lLst t fun ts=>Rl ts l):dItL d ρ n Rl:=YD.symm▸h
theorem zsa(h:d ρ n fun t l=>lTup t fun ts=>Rl ts l):dItT d ρ n Rl:=YE.symm▸h
theorem zpx(h:d ρ n fun t l=>lInt t fun j=>(-(2 ^ 62)<=j/\j<2 ^ 62)/\Rl (JZ 0 j.toNat) l):Y6 d ρ n Rl:=YK.symm▸h
theorem zr_(h:d ρ n fun t l=>lInt t fun i=>R (.int (-i)) l):dNeg d ρ n R:=YF.symm▸h
theorem zni(h:da ρ n fun x G=>db ρ G fun y v=>g x y fun z=>bolD z fun b=>if b=true then dc ρ v fun w C=>g' y w fun z=>R z C else R (.bool false) v):Yh g g' da db dc ρ n R:=YS.symm▸h
theorem zrX(h:ds ρ n fun ts o=>Y3 ts fun t u=>D.nx ((ρ.set i (some (.val t))).set j (some (.val u))) o):sPar i j ds D ρ n:=YA.symm▸h
def lIsi(fb:ab->Bool)(t:ab)(R:ab->Prop):Prop:=Pln t/\R (.bool (fb t))
theorem zr3(h:d ρ n fun t l=>lIsi fb t fun z=>R z l):isiD fb d ρ n R:=h
theorem zn6(e:ρ[i]?=some (some (.val x)))(h:R x n):dVar i ρ n R:=by unfold dVar;rw[e];exact h
theorem zn7(e:ρ[i]?=some (some (.own xs)))(h:R (.list xs) n):dOwn i ρ n R:=by unfold dOwn;rw[e];exact h
theorem zi0(e:ρ[i]?=some (some (.own xs)))(h:d ρ n fun t l=>xs.length<16777216/\D.nx (ρ.set i (some (.own (xs++[t])))) l):ZL i d D ρ n:=by unfold ZL;rw[e];exact h
theorem ziZ(e:ρ[i]?=some (some (.own xs)))(h:t D (ρ.set i (some (.val (.list xs)))) n):ZM i t D ρ n:=by unfold ZM;rw[e];exact h
theorem zuS(e:ρ[i]?=some (some (.val (.int q))))(h:d ρ n fun t o=>lInt t fun k=>D.nx (ρ.set i (some (.val (.int (f q k))))) o):sAug i f d D ρ n:=by rw[UZ,aZ,e];exact h
theorem zuN(e:ρ[i]?=some (some (.own xs)))(h:d ρ n fun t l=>UI ρ i D dj t l xs):sPut i dj d D ρ n:=by rw[U0,aZ,e];exact h
theorem zr0(h:dj ρ n fun j l=>lInt j fun j=>(match ixN xs.length j with|some k=>D.nx (ρ.set i (some (.own (xs.set k x)))) l|none=>False)):UI ρ i D dj x n xs:=h
theorem zuO{A B:Prop}(o:b=true->A)(l:b=false->B):if b=true then A else B:=by cases b with|true=>exact iteT (o rfl)|false=>exact iteF (l rfl)
theorem zr2{p:Prop}[Decidable p]{A B:Prop}(o:p->A)(l:¬p->B):if decide p=true then A else B:=by by_cases h:p;rw[decide_eq_true h];exact iteT (o h);rw[decide_eq_false h];exact iteF (l h)
theorem zr1{A B:Prop}(h:if b=true then B else A):if (!b)=true then A else B:=by cases b with|true=>exact iteF h|false=>exact iteT h
end
section
variable{C:Int->Int->Prop}{f:Int->Int->Int}{fb:Int->Int->Bool}{i j k:Int}{R:ab->Prop}{Rb:Bool->Prop}{xs ys:qD}{s t:Str}{a b:Bool}{u v x y:ab}{Rn:qN}{n:Nat}
theorem zrP(h:R (.int (i+j))):oAdd (.int i) (.int j) R:=Yo.symm▸h
theorem zrO(h:(xs.length+ys.length<=16777216/\R (.tuple (xs++ys)))):oAdd (.tuple xs) (.tuple ys) R:=Yp.symm▸h
theorem zuH(h:R (.bool (decide (i=j)))):oEq (.int i) (.int j) R:=U5.symm▸h
theorem zuG(h:(Okd (.tuple xs)/\Okd (.tuple ys)/\R (.bool (fe (.tuple xs) (.tuple ys))))):oEq (.tuple xs) (.tuple ys) R:=U6.symm▸h
theorem zuv(h:R (.bool (!decide (i=j)))):oNe (.int i) (.int j) R:=Ye.symm▸h
theorem zuu(h:(Okd (.list xs)/\Okd (.list ys)/\R (.bool (!PyData.eqv (.list xs) (.list ys))))):oNe (.list xs) (.list ys) R:=Yg.symm▸h
theorem zuE(h:R (.bool (a == b))):oIs (.bool a) (.bool b) R:=U7.symm▸h
theorem zuD(h:R (.bool (isNone u))):oIs u .none R:=U8.symm▸h
theorem zpo(h:R (.bool (a != b))):oIsN (.bool a) (.bool b) R:=YG.symm▸h
theorem zpn(h:R (.bool (!isNone u))):oIsN u .none R:=YH.symm▸h
theorem zuA(h:R (.bool (decide (i<j)))):oLtA (.int i) (.int j) R:=Yb.symm▸h
theorem zuC(h:R (.bool (decide (i<=j)))):oLeA (.int i) (.int j) R:=U9.symm▸h
theorem zrH(h:R u):oIx (.tuple (u::xs)) (.int 0) R:=Yt.symm▸h
theorem zrG(h:R v):oIx (.tuple (u::v::xs)) (.int 1) R:=Yu.symm▸h
theorem zrL(h:R u):oIx (.list (u::xs)) (.int 0) R:=Yr.symm▸h
theorem zrK(h:R v):oIx (.list (u::v::xs)) (.int 1) R:=Ys.symm▸h
theorem zrA(h:Rb a):truD (.bool a) Rb:=Yv.symm▸h
theorem zrz(h:Rb (!xs.isEmpty)):truD (.list xs) Rb:=Yw.symm▸h
theorem zuJ(h:Rb a):bolD (.bool a) Rb:=U4.symm▸h
theorem zrF(h:R (.int xs.length)):bLen [.list xs] R:=.inl ⟨xs,rfl,h⟩
theorem zrE(h:R (.int xs.length)):bLen [.tuple xs] R:=.inr (.inl ⟨xs,rfl,h⟩)
theorem znb(h:R (.int ns.length)):bLen [SCR ns] R:=.inr (.inr (.inr ⟨_,rfl,by rw[ao];exact h⟩))
theorem zuy(h:R (.int (if j<i then j else i))):bMin [.int i,.int j] R:=Yd.symm▸h
theorem zuz(h:R (.int (if j > i then j else i))):bMax [.int i,.int j] R:=Yc.symm▸h
theorem zrM(h:R (.int (if a then 1 else 0))):bInt [.bool a] R:=Yq.symm▸h
theorem zna(h:R (.tuple xs)):Vn [.list xs] R:=YR.symm▸h
theorem zpm(h:Rl xs):Qn (.list xs) Rl:=YI.symm▸h
theorem zuI(h:(xs.length+ys.length<=16777216/\Q (xs++ys))):lCat (.list xs) (.list ys) Q:=h
theorem zuB(h:Q xs):lLst (.list xs) Q:=h
theorem zur(h:Q xs):lTup (.tuple xs) Q:=h
theorem zuF(h:Q i):lInt (.int i) Q:=h
theorem zrD(h:Q x y):Y3 [x,y] Q:=h
theorem zuw(c:CMul i j)(h:R (.int (i*j))):oMul (.int i) (.int j) R:=⟨c,h⟩
theorem zux(c:0<j)(h:R (.int (i % j))):oMod (.int i) (.int j) R:=⟨c,h⟩
theorem zrN(c:YZ i j)(h:R (.int (i / j))):Uc (.int i) (.int j) R:=⟨c,h⟩
theorem zut(c:CPow i j)(h:R (.int (i*2 ^ j.toNat))):oShl (.int i) (.int j) R:=⟨c,h⟩
theorem zus(h:R (.int (i - j))):oSub (.int i) (.int j) R:=h
theorem zuq(h:R (.int (cz i j))):oXor (.int i) (.int j) R:=h
theorem zuK(h:R (.int (fL i j))):oAnd (.int i) (.int j) R:=h
theorem j_gB(h:R (.bool (fb i j))):gB fb (.int i) (.int j) R:=h
theorem zh8(h:R (.bool true)):lIsi isInt (.int i) R:=⟨QY,h⟩
theorem zhi(h:R (.bool true)):lIsi isInt (.bool a) R:=⟨QX,h⟩
theorem zh7(h:R (.bool false)):lIsi isInt (.str s) R:=⟨Um,h⟩
theorem zf2(h:R (.bool false)):lIsi isInt (.tuple xs) R:=⟨Uw,h⟩
theorem zhg(h:R (.bool false)):lIsi isInt (.list xs) R:=⟨Uq,h⟩
theorem zhf(h:R (.bool false)):lIsi isInt (.none) R:=⟨Ur,h⟩
theorem zhh(h:R (.bool false)):lIsi isInt (.dict []) R:=⟨Uz,h⟩
theorem zhj(h:R (.bool false)):lIsi isBool (.int i) R:=⟨QY,h⟩
theorem zf3(h:R (.bool true)):lIsi isBool (.bool a) R:=⟨QX,h⟩
theorem zh6(h:R (.bool false)):lIsi isTup (.int i) R:=⟨QY,h⟩
theorem zhe(h:R (.bool false)):lIsi isTup (.bool a) R:=⟨QX,h⟩
theorem zh5(h:R (.bool false)):lIsi isTup (.str s) R:=⟨Um,h⟩
theorem zf1(h:R (.bool true)):lIsi isTup (.tuple xs) R:=⟨Uw,h⟩
theorem zhc(h:R (.bool false)):lIsi isTup (.list xs) R:=⟨Uq,h⟩
theorem zhb(h:R (.bool false)):lIsi isTup (.none) R:=⟨Ur,h⟩
theorem zhd(h:R (.bool false)):lIsi isTup (.dict []) R:=⟨Uz,h⟩
end
theorem Ze{h:Int}(h0:0<h):(2:Int) ^ h.toNat=2*2 ^ (h - 1).toNat:=by
 have e:h.toNat=(h - 1).toNat+1:=by lia
 rw[e,bA,cg]
theorem zqQ{h:Int}(h0:0<=h):(2:Int) ^ (h+1).toNat=2*2 ^ h.toNat:=by have:=Ze (h:=h+1) (by lia);rw[this];simp
theorem IsBk.low{bits i h:Int}(B:IsBk bits i h)(l:0<h):IsBk bits i (h - 1):=by
 obtain⟨h0,x,k,v,rfl,u⟩:=B;refine⟨by lia,by lia,2*k,by lia,?_,?_⟩;rw[Ze l,<- cM,cg k 2];have e:(bits - (h - 1)).toNat=(bits - h).toNat+1:=by lia
 rw[e,bA];lia
theorem IsBk.up{bits i h:Int}(B:IsBk bits i h)(l:0<h):IsBk bits (i+2 ^ h.toNat / 2) (h - 1):=by
 obtain⟨h0,x,k,v,rfl,u⟩:=B;refine⟨by lia,by lia,2*k+1,by lia,?_,?_⟩;rw[Ze l];have:2*(2:Int) ^ (h - 1).toNat / 2=2 ^ (h - 1).toNat:=by lia
 rw[this,eG,bH,<- cM,cg k 2];have e:(bits - (h - 1)).toNat=(bits - h).toNat+1:=by lia
 rw[e,bA];lia
theorem zmW(P:Int)(l:0<P):k*P % (2*P)=(k % 2)*P:=by rw[cg 2 P,cg k P,Int.mul_emod_mul_of_pos _ _ l,cg]
theorem IsBk.abt{bits i h:Int}(B:IsBk bits i h)(u:h<bits):IsBk bits (i - i % (2*2 ^ h.toNat)) (h+1):=by
 obtain⟨h0,x,k,v,rfl,l⟩:=B;refine⟨by lia,by lia,k / 2,by lia,?_,?_⟩;rw[zmW _ (zfL _),zqQ h0,<- uV];have:k - k % 2=k / 2*2:=by lia
 rw[this,cM];have e:(bits - h).toNat=(bits - (h+1)).toNat+1:=by lia
 rw[e,bA]at l;lia
theorem IsBk.oth(B:IsBk bits i h)(x:h<bits):IsBk bits (cz i (2 ^ h.toNat)) h:=by
 obtain⟨h0,l,k,v,rfl,u⟩:=B;rw[ziv _ v];have e:(bits - h).toNat=(bits - (h+1)).toNat+1:=by lia
 split;refine⟨h0,l,k+1,by lia,by rw[eG,bH],?_⟩;rw[e,bA]at u ⊢;lia;refine⟨h0,l,k - 1,by lia,by rw[uV,bH],by lia⟩
theorem IsBk.nxt(B:IsBk bits i h)(l:i+2*2 ^ h.toNat<=2 ^ bits.toNat):IsBk bits (i+2 ^ h.toNat) h:=by
 obtain⟨h0,u,k,x,rfl,v⟩:=B;refine⟨h0,u,k+1,by lia,by rw[eG,bH],?_⟩;have e:bits.toNat=(bits - h).toNat+h.toNat:=by lia
 rw[e,ziI]at l;have p:=zfL h.toNat;have:(k+2)*2 ^ h.toNat<=2 ^ (bits - h).toNat*2 ^ h.toNat:=by rw[eG];exact l
 have:=Int.le_of_mul_le_mul_right this p;lia
theorem zu1:CMul 2 j:=.inl ⟨by decide,by decide⟩
theorem zsM:YZ j 2:=⟨by decide,by decide⟩
theorem Uy(h:Nat):(1:Int)*2 ^ h=2 ^ h:=bH _
def BlkN(bits i:Int)(h:Nat):Prop:=(h:Int)<=bits/\∃k:Int,0<=k/\i=k*2 ^ h/\k<2 ^ (bits.toNat - h)
theorem IsBk.n(B:IsBk bits i h):BlkN bits i h.toNat:=by
 obtain⟨h0,v,k,u,e,l⟩:=B;refine⟨by lia,k,u,e,?_⟩;have:(bits - h).toNat=bits.toNat - h.toNat:=by lia
 rw[<- this];exact l
theorem zl5(b:BlkN bits j g)(l:g<=h):j / 2 ^ h*2 ^ h<=j/\j+2 ^ g<=(j / 2 ^ h+1)*2 ^ h:=by
 obtain⟨_,m,m0,rfl,_⟩:=b;have C:=Bd.Q4 h;have x:=Bd.Q4 g;have v:=Bd.Q4 (h - g);have o:(2:Int) ^ h=2 ^ (h - g)*2 ^ g:=by rw[<- gH];congr 1;lia
 refine⟨Int.ediv_mul_le _ (by lia),?_⟩;have eq:(m*2 ^ g) / 2 ^ h=m / 2 ^ (h - g):=by rw[o];exact Int.mul_ediv_mul_of_pos_left m _ x
 rw[eq,o,<- cM];have u:m*2 ^ g+2 ^ g=(m+1)*2 ^ g:=by rw[eG,bH]
 rw[u];refine dh ?_ (by lia);have:=Int.lt_ediv_add_one_mul_self m v;lia
theorem ziQ{a b A:Int}(p:0<A)(l:a<b):(a+1)*A<=b*A:=dh (by lia) (by lia)
theorem zia(x:BlkN bits i h)(u:BlkN bits j g):(g<=h/\j / 2 ^ h*2 ^ h=i)↔(i<=j/\j+2 ^ g<=i+2 ^ h):=by
 have o:=Bd.Q4 h;have I:=Bd.Q4 g;constructor;rintro⟨l,e⟩;have t:=zl5 u l;rw[e,eG,bH,e]at t;exact t;rintro⟨C,G⟩;have l:g<=h:=by
  by_cases z:g<=h;exact z;exfalso;have:(2:Int) ^ h<2 ^ g:=by
   have e:(2:Int) ^ g=2 ^ (g - h)*2 ^ h:=by rw[<- gH];congr 1;lia
   have v:(2:Int)<=2 ^ (g - h):=by obtain⟨d,hd⟩:∃d,g - h=d+1:=⟨g - h - 1,by lia⟩;rw[hd,bA];have:=Bd.Q4 d;lia
   rw[e];have:=dh v (show(0:Int)<=2 ^ h by lia);lia
  lia
 refine⟨l,?_⟩;obtain⟨_,k,J,rfl,_⟩:=x;have e:j / 2 ^ h=k:=by have a1:k<=j / 2 ^ h:=(Int.le_ediv_iff_mul_le o).mpr C;have a2:j / 2 ^ h<k+1:=(Int.ediv_lt_iff_lt_mul o).mpr (by rw[eG,bH];lia);lia
 rw[e]
theorem zhy{bits i j:Int}{h g:Nat}(v:BlkN bits i h)(u:BlkN bits j g)(l:g<=h):(g<=h/\j / 2 ^ h*2 ^ h=i)\/j+2 ^ g<=i\/i+2 ^ h<=j:=by have o:=Bd.Q4 h;have t:=zl5 u l;obtain⟨_,k,x,rfl,_⟩:=v;rcases iX (j / 2 ^ h) k with z|z|z;have:=ziQ o z;exact .inr (.inl (by lia));exact .inl ⟨l,by rw[z]⟩;have:=ziQ o z;rw[eG,bH]at this;exact .inr (.inr (by lia))
def hldD(i h j g:Int):Bool:=decide (g<=h)&&decide (j / 2 ^ h.toNat*2 ^ h.toNat=i)
theorem zn_(A:IsBk bits i h)(B:IsBk bits j g):hldD i h j g=decide (i<=j/\j+2 ^ g.toNat<=i+2 ^ h.toNat):=by have:=zia A.n B.n;unfold hldD;rw[<- Bool.decide_and];refine decide_eq_decide.mpr ⟨fun z=>this.mp ⟨by have:=A.1;have:=B.1;omega,z.2⟩,fun z=>?_⟩;obtain⟨l,e⟩:=this.mpr z;exact⟨by have:=A.1;have:=B.1;omega,e⟩
theorem zlw(Inv:Nat->En->Nat->Prop):∀(ts:qD) (i:Nat) {o:En}{n:Nat},Inv i o n ->
  (∀(k:Nat) (t:ab) (o:En) (n:Nat) (K:En->Nat->Prop),ts[k]?=some t->Inv (i+k) o n->(∀v x,Inv (i+k+1) v x->K v x)->g t o fun v=>tb { D with nx:=K,ct:=K,bk:=D.nx } v n) ->
  (∀o n,Inv (i+ts.length) o n->D.nx o n)->forP g tb D ts o n
 | [],i,o,n,h0,_,fin=>fin o n (by simpa using h0)
 | t::ts,i,o,n,h0,turn,fin=>by
  refine turn 0 t o n _ rfl (by simpa using h0) fun v x h'=>?_;refine zlw Inv ts (i+1) (by simpa using h') (fun k u o n K e C G=>?_) (fun o n h=>fin o n ?_);refine turn (k+1) u o n K (by simpa using e) ?_ fun v x h'=>G v x ?_;have:i+(k+1)=i+1+k:=by lia
  rw[this];exact C;have:i+1+k+1=i+(k+1)+1:=by lia
  rw[this];exact h';have:i+(t::ts).length=i+1+ts.length:=by simp;lia
  rw[this]at *;exact h
theorem Ux(Inv:Nat->En->Nat->Prop)(h0:Inv 0 o n)
  (turn:∀(k:Nat) (t:ab) (o:En) (n:Nat) (K:En->Nat->Prop),ts[k]?=some t->Inv k o n->(∀l u,Inv (k+1) l u->K l u)->g t o fun l=>tb { D with nx:=K,ct:=K,bk:=D.nx } l n)
  (fin:∀o n,Inv ts.length o n->D.nx o n):forP g tb D ts o n:=by
 refine zlw Inv ts 0 h0 (fun k t o n K e v x=>turn k t o n K e (by simpa using v) fun l u h'=>x l u (by simpa using h')) fun o n h=>fin o n (by simpa using h)
theorem ze8{lo:Int}{m i:Nat}{t:ab}(h:(JZ lo m)[i]?=some t):i<m/\t=.int (lo+(i:Int)):=by unfold JZ at h;rw[a6]at h;by_cases hi:i<m;rw[mE hi]at h;cases h;exact⟨hi,rfl⟩;rw[bM (by simp;lia)]at h;cases h
theorem zjn{lo:Int}{m:Nat}:(JZ lo m).length=m:=by simp[JZ]
theorem zgl(Inv:Nat->En->Nat->Prop)(h0:Inv m o n)
  (turn:∀m o n,Inv m o n->c o n fun b x=>if b=true then tb { D with nx:=fun l v=>∃u,u<m/\Inv u l v,ct:=fun l v=>∃u,u<m/\Inv u l v,bk:=D.nx } o x else D.nx o x):zkp c tb D o n :=
 ⟨Inv,⟨m,h0⟩,turn⟩
theorem IsBk.x1(B:IsBk bits i h)(l:0<h):cz i (2 ^ (h - 1).toNat)=i+2 ^ h.toNat / 2:=by
 obtain⟨h0,x,k,v,rfl,u⟩:=B;have e:k*2 ^ h.toNat=(2*k)*2 ^ (h - 1).toNat:=by rw[Ze l,<- cM,cg k 2]
 rw[e,ziv _ (by lia),if_pos (by lia),Ze l];lia
def rkAt(rk:ae->Int)(xs:Array br)(i:Nat):Int:=((xs[i]?).map fun p=>rk p.1).getD 0
theorem UR(h:xs[i]?=ys[j]?):rkAt rk xs i=rkAt rk ys j:=by unfold rkAt;rw[h]
theorem zqG(o:u<xs.size)(hd:d<=u)(k:Nat) :
  (k=u - d->rkAt rk (bubble xs u d) k=rkAt rk xs u)/\(u - d<k->k<=u->rkAt rk (bubble xs u d) k=rkAt rk xs (k - 1))/\(k<u - d\/u<k->rkAt rk (bubble xs u d) k=rkAt rk xs k):=by
 have e:=getElem?_bubble o d hd k;refine⟨fun h=>?_,fun v l=>?_,fun h=>?_⟩;rw[if_pos h]at e;exact UR e;rw[if_neg (by lia),if_pos ⟨v,l⟩]at e;exact UR e;rw[if_neg (by lia),if_neg (by lia)]at e;exact UR e
theorem Vu(o:j<=xs.size)(k:Nat) :
  (i<=k->k<j->rkAt rk (mirror xs i j ((j - i) / 2)) k=rkAt rk xs (i+j - 1 - k))/\(k<i\/j<=k->rkAt rk (mirror xs i j ((j - i) / 2)) k=rkAt rk xs k):=by
 have e:=getElem?_mirror_all (i:=i) o k;refine⟨fun u l=>?_,fun h=>?_⟩;rw[if_pos ⟨u,l⟩]at e;exact UR e;rw[if_neg (by lia)]at e;exact UR e
structure Sb(kd:dZ)(a0:Array br)(z:aV):Prop where
 pm:(arrOf z).Perm a0
 kn:kindOf z=kd
 fl:failedOf z=none
 pe:pendingOf z=#[]
def Up(rk:ae->Int)(xs:Array br)(m:Nat):Prop:=∀i j,i<j->j<m->rkAt rk xs i<=rkAt rk xs j
section
variable{prog:aK}{w:ba}{A:aX}{E:qV}{s:aj}{kd:dZ}{rk:ae->Int}{a0:Array br}
def Cmp(prog:aK)(w:ba)(A:aX)(s:aj)(kd:dZ)(rk:ae->Int)(a0:Array br):Prop :=
 ∀(p q:br) (E:qV) (Q:Bool->aj->Prop),p∈a0.toList->q∈a0.toList->Q (decide (rk p.1<rk q.1)) s->wpAny (model prog w) A (keyLt' kd p.1 q.1) Q E s
theorem Sb.sz(b:Sb kd a0 z):(arrOf z).size=a0.size:=b.pm.size_eq
end
section
variable{prog:aK}{w:ba}{A:aX}{E:qV}{s:aj}{kd:dZ}{rk:ae->Int}{a0:Array br}
theorem zmX(l:j<=xs.size)(al:∀k,i<=k->k<j->rkAt rk xs k=rkAt rk xs (j - 1))(k:Nat):rkAt rk (mirror xs i j ((j - i) / 2)) k=rkAt rk xs k:=by obtain⟨p,q⟩:=Vu (rk:=rk) (i:=i) l k;by_cases g:i<=k/\k<j;rw[p g.1 g.2,al _ (by omega) (by omega),al k g.1 g.2];exact q (by omega)
end
def zid:Bool->br->Array br->Nat->Nat->Nat->StateT aV Sem (Option Nat):=sortPriv% PySem.Builtin.gallop
section
variable{M:oV}{A:aX}{E:qV}{s:aj}{σ α β ρ:Type}{Q:α->σ->Prop}{z:σ}
theorem Jf{c:Prop}{_:Decidable c}{t e:StateT σ Sem α}(o:c->wpS M A E s t Q z)(l:¬c->wpS M A E s e Q z):wpS M A E s (if c then t else e) Q z:=by by_cases h:c;rw[if_pos h];exact o h;rw[if_neg h];exact l h
inductive Tn (I G:β->σ->Prop)(P:ρ->σ->Prop):ForInStep (Option ρ×β)->σ->Prop
 | go:I b y->Tn I G P (.yield (none,b)) y
 | stop:G b y->Tn I G P (.done (none,b)) y
 | ret:P r y->Tn I G P (.done (some r,b)) y
theorem J5{a n:Nat}{f:Nat->Option ρ×β->StateT σ Sem (ForInStep (Option ρ×β))}{F:Option ρ×β->StateT σ Sem α}{b:β}(an:a<=n)(I:Nat->β->σ->Prop)(G:β->σ->Prop)(P:ρ->σ->Prop)(h:I a b z)
  (turn:∀x,a<=x->x<n->∀b y,I x b y->wpS M A E s (f x (none,b)) (Tn (I (x+1)) G P) y) (last:∀b y,I n b y->G b y)
  (post:∀b y,G b y->wpS M A E s (F (none,b)) Q y) (ret:∀r b y,P r y->wpS M A E s (F (some r,b)) Q y):wpS M A E s (forIn [a:n] (none,b) f >>= F) Q z:=by
 refine bt (wpS_mono (wpS_forRange (I:=fun x c y=>c.1=none/\I x c.2 y) (Q:=fun c y=>(c.1=none/\G c.2 y)\/∃r,c.1=some r/\P r y) ?_ ?_ ⟨rfl,h⟩) ?_);rintro x ⟨_,b⟩ y ha hx ⟨rfl,o⟩;refine wpS_mono (turn x ha hx b y o) ?_;rintro _ _ (h|h|h);exact⟨rfl,h⟩;exact .inl ⟨rfl,h⟩;exact .inr ⟨_,rfl,h⟩;rintro⟨_,b⟩ y ⟨e,h⟩;rw[Nat.max_eq_right an]at h;exact .inl ⟨e,last b y h⟩;rintro⟨_,b⟩ y (⟨rfl,h⟩|⟨r,rfl,h⟩);exact post b y h;exact ret r b y h
end
theorem zpF{l r:Nat}(g:l<r):l<=l+(r - l) / 2/\l+(r - l) / 2<r:=⟨cG _ _,by lia⟩
theorem stp1{l r m n x:Nat}(h:r - l<=n - x)(o:l<=m)(hx:x<n):r - (m+1)<=n - (x+1):=by omega
theorem stp2{l r m n x:Nat}(h:r - l<=n - x)(o:m<r)(hx:x<n):m - l<=n - (x+1):=by omega
theorem stp0{l r n:Nat}(h:r - l<=n - n):r<=l:=g6 (Nat.le_zero.mp (ff n▸h))
theorem dbl{x r:Nat}(h:x<r):x+1<2*r+1:=oe (au h (kO r (by decide)))
theorem dbl0{r:Nat}:r<2*r+1:=Nat.lt_succ_of_le (kO r (by decide))
theorem inn{h r n:Nat}(l:h<n)(g:¬r>=n - h):h+r<n:=by lia
structure Srch(B:Nat->Bool)(n l r:Nat):Prop where
 lr:l<=r
 rn:r<=n
 lo:∀i,i<l->B i=true
 hi:∀i,r<=i->i<n->B i=false
section
variable{B:Nat->Bool}{n l r m h:Nat}
theorem Srch.fin(x:Srch B n l r)(g:r<=l):Srch B n r r:=gv x.lr g▸x
theorem Srch.fin2(x:Srch B n l r)(g:r<=l):Srch B n l l:=by cases gv x.lr g;exact x
def Fal(B:Nat->Bool)(n:Nat):Prop:=∀i j,i<=j->j<n->B j=true->B i=true
theorem Fal.no(f:Fal B n){i j:Nat}(e:B i=false)(u:i<=j)(o:j<n):B j=false:=by
 cases g:B j with
 | false=>rfl
 | true=>exact(f i j u o g).symm.trans e
theorem Srch.up(x:Srch B n l r)(f:Fal B n)(o:m<r)(e:B m=true):Srch B n (m+1) r:=⟨o,x.rn,fun i hi=>f i m (gU hi) (au o x.rn) e,x.hi⟩
theorem Srch.dn(x:Srch B n l r)(f:Fal B n)(u:l<=m)(o:m<r)(e:B m=false):Srch B n l m:=⟨u,aP (bY o) x.rn,x.lo,fun i=>f.no e⟩
theorem Srch.fwd(f:Fal B n)(x:l<r)(o:h+l<n)(e:B (h+l)=true)(g:n - h<=r\/(h+r<n/\B (h+r)=false)):Srch B n (h+l+1) (h+min r (n - h)):=by refine⟨by omega,by omega,fun i hi=>f i _ (by omega) o e,fun i v u=>?_⟩;rcases g with g|⟨_,g⟩;lia;exact f.no g (by lia) u
theorem Srch.bwd(f:Fal B n)(u:h<n)(v:l<r)(o:l<=h)(e:B (h - l)=false)(g:h+1<=r\/(r<=h/\B (h - r)=true)):Srch B n (h+1 - min r (h+1)) (h - l):=by refine⟨by omega,by omega,fun i hi=>?_,fun i=>f.no e⟩;rcases g with g|⟨_,g⟩;omega;exact f i _ (by omega) (by omega) g
end
section
variable{prog:aK}{w:ba}{A:aX}{E:qV}{s:aj}{kd:dZ}{rk:ae->Int}{a0:Array br}{β:Type}{Q:β->aV->Prop}{z:aV}
theorem Vk{Q:Option Bool->aV->Prop}(c:Cmp prog w A s kd rk a0)(k:kindOf z=kd)(o:p∈a0.toList)(l:q∈a0.toList)
  (h:Q (some (decide (rk p.1<rk q.1))) z):wpS (model prog w) A E s (lt' p q) Q z:=by
 rw[lt'_eq];refine bt (iB (bt (kj (gn ?_))));rw[k];exact c p q _ _ o l ⟨rfl,aF h⟩
theorem JN{x:Array br}{i:Nat}{f:br->StateT aV Sem β}(hi:i<x.size)(m:∀p∈x.toList,p∈a0.toList)(h:∀p,x[i]?=some p->p∈a0.toList->rk p.1=rkAt rk x i->wpS (model prog w) A E s (f p) Q z):wpS (model prog w) A E s (elem' x i >>= f) Q z:=by have e:=iQ hi;rw[elem'_eq,e];exact bt (aF (h _ e (m _ (by simp)) (by unfold rkAt;rw[e];rfl)))
def bey(rk:ae->Int)(left:Bool)(key:br)(arr:Array br)(base i:Nat):Bool:=if left then decide (rkAt rk arr (base+i)<rk key.1) else !decide (rk key.1<rkAt rk arr (base+i))
theorem zsN{f:Option Bool->StateT aV Sem β}(c:Cmp prog w A s kd rk a0)(k:kindOf z=kd)(l:key∈a0.toList)(ha:∀p∈arr.toList,p∈a0.toList)(hi:base+i<arr.size)
  (h:wpS (model prog w) A E s (f (some (bey rk left key arr base i))) Q z):wpS (model prog w) A E s ((do
   let x <- elem' arr (base+i)
   if left then lt' x key else return (<- lt' key x).map (!·)) >>= f) Q z:=by
 refine bt (JN (rk:=rk) hi ha fun p _ mp r=>?_);unfold bey at h;rw[<- r]at h;cases left with
 | true=>exact Vk c k mp l h
 | false=>exact bt (Vk c k l mp (aF h))
theorem YY{f:Option Nat->StateT aV Sem β}(c:Cmp prog w A s kd rk a0)(k:kindOf z=kd)(hk:key∈a0.toList)
  (ha:∀p∈arr.toList,p∈a0.toList) (hs:base+n<=arr.size) (L:hint<n) (up:∀i j,i<j->j<n->rkAt rk arr (base+i)<=rkAt rk arr (base+j))
  (h:∀m,Srch (bey rk left key arr base) n m m->wpS (model prog w) A E s (f (some m)) Q z):wpS (model prog w) A E s (zid left key arr base n hint >>= f) Q z:=by
 have mono:Fal (bey rk left key arr base) n:=by intro i j Y R hb;rcases fg Y with rfl|hlt;exact hb;have:=up i j hlt R;unfold bey at *;cases left <;> simp at * <;> lia
 have U:zid=zid:=rfl;conv at U=>rhs;whnf
 rw[U];clear U;dsimp(zeta:=false) only;refine bt ?_
 extract_lets bf _ _ jp m1 m2
 have hb:∀{Z:Type} {i:Nat} {Q:Z->aV->Prop} {f:Option Bool->StateT aV Sem Z} {y:aV},y=z->i<n->wpS (model prog w) A E s (f (some (bey rk left key arr base i))) Q y->wpS (model prog w) A E s (bf i >>= f) Q y:=fun e hi=>zsN c (e▸k) hk ha (au (fZ hi _) hs);clear_value bf;generalize bey rk left key arr base=B at *;have R:∀l r u v y,y=z->Srch B n l r->wpS (model prog w) A E s (jp () u v l r) (fun a y=>wpS (model prog w) A E s (f a) Q y) y:=fun l r u v y ey S=>by refine J5 n.zero_le (fun x b y=>y=z/\Srch B n b.1 b.2/\b.2 - b.1<=n - x) (fun b y=>y=z/\Srch B n b.2 b.2) (fun _ _=>False) ⟨ey,S,aP (hJ _ _) S.rn⟩ (fun x _ hx b y I=>?_) (fun b y I=>⟨I.1,I.2.1.fin (stp0 I.2.2)⟩) (fun b y I=>?_) fun _ _ _ h=>h.elim;dsimp only;refine Jf (fun g=>aF (.stop ⟨I.1,I.2.1.fin g⟩)) fun g=>?_;obtain⟨g1,g2⟩:=zpF (mT.mp g);refine hb I.1 (au g2 I.2.1.rn) ?_;refine Jf (fun e=>?_) fun e=>?_;exact aF (.go ⟨I.1,I.2.1.up mono g2 e,stp1 I.2.2 g1 hx⟩);exact aF (.go ⟨I.1,I.2.1.dn mono g1 g2 (cR.mpr e),stp2 I.2.2 g2 hx⟩);exact aF (I.1▸h _ I.2)
 clear_value jp;refine hb rfl L (Jf (fun e=>?_) fun e=>?_);refine J5 n.zero_le (fun x b y=>y=z/\b.1<b.2/\x<b.2/\hint+b.1<n/\B (hint+b.1)=true) (fun b y=>y=z/\Srch B n (hint+b.1+1) (hint+min b.2 (n - hint))) (fun _ _=>False) ⟨rfl,lS,lS,L,e⟩ (fun x _ hx b y I=>?_)
  (fun b y ⟨I,J,N,G,C⟩=>⟨I,.fwd mono J G C (.inl (aP (hJ _ _) (bY N)))⟩) (fun b y I=>R _ _ _ _ _ I.1 I.2) fun _ _ _ h=>h.elim
 dsimp only;have⟨I,J,N,G,C⟩:=I;refine Jf (fun g=>aF (.stop ⟨I,.fwd mono J G C (.inl g)⟩)) fun g=>?_;have g:=inn L g;refine hb I g (Jf (fun e=>?_) fun e=>?_);exact aF (.stop ⟨I,.fwd mono J G C (.inr ⟨g,by simpa using e⟩)⟩);exact aF (.go ⟨I,dbl0,dbl N,g,by simpa using e⟩);refine J5 n.zero_le (fun x b y=>y=z/\b.1<b.2/\x<b.2/\b.1<=hint/\B (hint - b.1)=false) (fun b y=>y=z/\Srch B n (hint+1 - min b.2 (hint+1)) (hint - b.1)) (fun _ _=>False) ⟨rfl,lS,lS,bp _,cR.mpr e⟩ (fun x _ hx b y I=>?_)
  (fun b y ⟨I,J,N,G,C⟩=>⟨I,.bwd mono L J G C (.inl (aP L (bY N)))⟩) (fun b y I=>R _ _ _ _ _ I.1 I.2) fun _ _ _ h=>h.elim
 dsimp only;have⟨I,J,N,G,C⟩:=I;refine Jf (fun g=>aF (.stop ⟨I,.bwd mono L J G C (.inl g)⟩)) fun g=>?_;have g:=gU (mT.mp g);refine hb I (dY (hJ _ _) L) (Jf (fun e=>?_) fun e=>?_);exact aF (.stop ⟨I,.bwd mono L J G C (.inr ⟨g,e⟩)⟩);exact aF (.go ⟨I,dbl0,dbl N,g,cR.mpr e⟩)
end
end L2
namespace L2
section
variable{α:Type}{r:α->Int}{a b out:List α}{ia ib na nb k:Nat}
theorem m1{x:α}{l m:List α}(h:x∈l):x∈l++m:=ai.mpr (.inl h)
theorem m2{x:α}{l m:List α}(h:x∈m):x∈l++m:=ai.mpr (.inr h)
def Ris(r:α->Int)(l:List α):Prop:=l.Pairwise fun x y=>r x<=r y
structure MLo(r:α->Int)(a b out:List α)(ia ib:Nat):Prop where
 pm:(out++(a.drop ia++b.drop ib)).Perm (a++b)
 so:Ris r out
 le:∀x∈out,∀y∈a.drop ia++b.drop ib,r x<=r y
theorem JO{l m:List α}:Ris r (l++m)↔Ris r l/\Ris r m/\∀x∈l,∀y∈m,r x<=r y:=dD
theorem Ris.drop{l:List α}(h:Ris r l)(k:Nat):Ris r (l.drop k):=ly (nA k l) h
theorem Ris.take{l:List α}(h:Ris r l)(k:Nat):Ris r (l.take k):=ly (ni k l) h
theorem cut2(l:List α)(i k:Nat):l.drop i=(l.drop i).take k++l.drop (i+k):=by rw[<- lU];exact(bu k _).symm
theorem MLo.takeB(h:MLo r a b out ia ib)(hb:Ris r b)(c:∀y∈(b.drop ib).take k,∀x∈a.drop ia,r y<=r x):MLo r a b (out++(b.drop ib).take k) ia (ib+k):=by have e:=cut2 b ib k;obtain⟨v,C,u⟩:=h;have l:=hb.drop ib;rw[e]at v u l;have l:=JO.mp l;refine⟨?_,JO.mpr ⟨C,l.1,fun x hx y o=>u x hx y (m2 (m1 o))⟩,fun x hx y o=>?_⟩;refine iu ?_ v;rw[aA];exact g7 _ (iC _ _ _);rcases ai.mp hx with z|z;refine u x z y ?_;rcases ai.mp o with w|w;exact m1 w;exact m2 (m2 w);rcases ai.mp o with w|w;exact c x z y w;exact l.2.2 x z y w
theorem MLo.takeA(h:MLo r a b out ia ib)(ha:Ris r a)(c:∀x∈(a.drop ia).take k,∀y∈b.drop ib,r x<=r y):MLo r a b (out++(a.drop ia).take k) (ia+k) ib:=by have e:=cut2 a ia k;obtain⟨v,C,u⟩:=h;have l:=ha.drop ia;rw[e]at v u l;have l:=JO.mp l;refine⟨?_,JO.mpr ⟨C,l.1,fun x hx y o=>u x hx y (m1 (m1 o))⟩,fun x hx y o=>?_⟩;refine iu ?_ v;simp only[aA];exact pI _;rcases ai.mp hx with z|z;refine u x z y ?_;rcases ai.mp o with w|w;exact m1 (m2 w);exact m2 w;rcases ai.mp o with w|w;exact l.2.2 x z y w;exact c x z y w
theorem take1{l:List α}{i:Nat}{y:α}(h:l[i]?=some y):(l.drop i).take 1=[y]:=by have hi:=(ah.mp h).1;rw[bF hi];have:=(ah.mp h).2;simp[this]
theorem MLo.pushB{y:α}(h:MLo r a b out ia ib)(hb:Ris r b)(e:b[ib]?=some y)(c:∀x∈a.drop ia,r y<=r x):MLo r a b (out++[y]) ia (ib+1):=by have:=h.takeB (k:=1) hb (by rw[take1 e];intro z hz x hx;cases ax.mp hz;exact c x hx);rwa [take1 e]at this
theorem MLo.pushA{x:α}(h:MLo r a b out ia ib)(ha:Ris r a)(e:a[ia]?=some x)(c:∀y∈b.drop ib,r x<=r y):MLo r a b (out++[x]) (ia+1) ib:=by have:=h.takeA (k:=1) ha (by rw[take1 e];intro z hz y l;cases ax.mp hz;exact c y l);rwa [take1 e]at this
theorem MLo.done(h:MLo r a b out ia ib)(ha:Ris r a)(hb:Ris r b)(c:∀x∈a.drop ia,∀y∈b.drop ib,r x<=r y):(out++a.drop ia++b.drop ib).Perm (a++b)/\Ris r (out++a.drop ia++b.drop ib):=by refine⟨by rw[aA];exact h.pm,?_⟩;rw[aA];exact JO.mpr ⟨h.so,JO.mpr ⟨ha.drop _,hb.drop _,c⟩,h.le⟩
theorem MLo.last(h:MLo r a b out ia ib)(ha:Ris r a)(hb:Ris r b)(c:∀y∈b.drop ib,∀x∈a.drop ia,r y<=r x):(out++b.drop ib++a.drop ia).Perm (a++b)/\Ris r (out++b.drop ib++a.drop ia):=by refine⟨?_,?_⟩;rw[aA];exact(g7 _ g8).trans h.pm;rw[aA];refine JO.mpr ⟨h.so,JO.mpr ⟨hb.drop _,ha.drop _,c⟩,fun x hx y l=>h.le x hx y ?_⟩;rcases ai.mp l with w|w;exact m2 w;exact m1 w
structure MHi(r:α->Int)(a b out:List α)(na nb:Nat):Prop where
 pm:((a.take na++b.take nb)++out).Perm (a++b)
 so:Ris r out
 le:∀x∈a.take na++b.take nb,∀y∈out,r x<=r y
theorem cut3(l:List α){n k:Nat}(h:k<=n):l.take n=l.take k++(l.take n).drop k:=by have:=bu k (l.take n);rw[lV,dO h]at this;exact this.symm
theorem MHi.takeB(h:MHi r a b out na nb)(hb:Ris r b)(G:k<=nb)(c:∀x∈a.take na,∀y∈(b.take nb).drop k,r x<=r y):MHi r a b ((b.take nb).drop k++out) na k:=by have e:=cut3 b G;obtain⟨C,I,u⟩:=h;have l:=hb.take nb;rw[e]at C u l;have l:=JO.mp l;refine⟨?_,JO.mpr ⟨l.2.1,I,fun x hx y v=>u x (m2 (m2 hx)) y v⟩,fun x hx y v=>?_⟩;refine iu ?_ C;simp only[aA];exact pI _;rcases ai.mp v with z|z;rcases ai.mp hx with w|w;exact c x w y z;exact l.2.2 x w y z;refine u x ?_ y z;rcases ai.mp hx with w|w;exact m1 w;exact m2 (m1 w)
theorem MHi.takeA(h:MHi r a b out na nb)(ha:Ris r a)(G:k<=na)(c:∀x∈b.take nb,∀y∈(a.take na).drop k,r x<=r y):MHi r a b ((a.take na).drop k++out) k nb:=by have e:=cut3 a G;obtain⟨C,I,u⟩:=h;have l:=ha.take na;rw[e]at C u l;have l:=JO.mp l;refine⟨?_,JO.mpr ⟨l.2.1,I,fun x hx y v=>u x (m1 (m2 hx)) y v⟩,fun x hx y v=>?_⟩;refine iu ?_ C;simp only[aA];exact g7 _ (iC _ _ _);rcases ai.mp v with z|z;rcases ai.mp hx with w|w;exact l.2.2 x w y z;exact c x w y z;refine u x ?_ y z;rcases ai.mp hx with w|w;exact m1 (m1 w);exact m2 w
theorem Vj{l:List α}{n:Nat}{y:α}(h:l[n]?=some y):(l.take (n+1)).drop n=[y]:=by
 have hi:=(ah.mp h).1;have e:(l.take (n+1))=l.take n++[y]:=by rw[d0,h];rfl
 rw[e,ie (by simp;lia),fj (by simp;lia)];rfl
theorem MHi.pushB{y:α}(h:MHi r a b out na (nb+1))(hb:Ris r b)(e:b[nb]?=some y)(c:∀x∈a.take na,r x<=r y):MHi r a b (y::out) na nb:=by have:=h.takeB (k:=nb) hb (by omega) (by rw[Vj e];intro x hx z hz;cases ax.mp hz;exact c x hx);rwa [Vj e]at this
theorem MHi.pushA{x:α}(h:MHi r a b out (na+1) nb)(ha:Ris r a)(e:a[na]?=some x)(c:∀y∈b.take nb,r y<=r x):MHi r a b (x::out) na nb:=by have:=h.takeA (k:=na) ha (by omega) (by rw[Vj e];intro y l z hz;cases ax.mp hz;exact c y l);rwa [Vj e]at this
theorem MHi.done(h:MHi r a b out na nb)(ha:Ris r a)(hb:Ris r b)(c:∀x∈a.take na,∀y∈b.take nb,r x<=r y):(a.take na++b.take nb++out).Perm (a++b)/\Ris r (a.take na++b.take nb++out) :=
 ⟨h.pm,JO.mpr ⟨JO.mpr ⟨ha.take _,hb.take _,c⟩,h.so,h.le⟩⟩
theorem MHi.first(h:MHi r a b out na nb)(ha:Ris r a)(hb:Ris r b)(c:∀y∈b.take nb,∀x∈a.take na,r y<=r x):(b.take nb++a.take na++out).Perm (a++b)/\Ris r (b.take nb++a.take na++out):=by refine⟨(List.Perm.append_right _ g8).trans h.pm,JO.mpr ⟨JO.mpr ⟨hb.take _,ha.take _,c⟩,h.so,fun x hx y l=>h.le x ?_ y l⟩⟩;rcases ai.mp hx with w|w;exact m2 w;exact m1 w
end
end L2
namespace L2
open PySem PySem.Spec PyProof.Rows
def zmY:Array br->Array br->StateT aV Sem (Array br):=sortPriv% PySem.Builtin.mergeLo
def zfF:Nat->StateT aV Sem Unit:=sortPriv% PySem.Builtin.setMinGallop
section
variable{prog:aK}{w:ba}{A:aX}{E:qV}{s:aj}{kd:dZ}{rk:ae->Int}{a0:Array br}
structure SmS(z z':aV):Prop where
 kn:kindOf z'=kindOf z
 ar:arrOf z'=arrOf z
 pe:pendingOf z'=pendingOf z
 fl:failedOf z'=failedOf z
theorem SmS.refl(z:aV):SmS z z:=⟨rfl,rfl,rfl,rfl⟩
theorem SmS.trans{x y z:aV}(h:SmS x y)(k:SmS y z):SmS x z:=⟨k.kn.trans h.kn,k.ar.trans h.ar,k.pe.trans h.pe,k.fl.trans h.fl⟩
theorem VV{g:Nat}{x z:aV}{l:Type}{f:Unit->StateT aV Sem l}{Q:l->aV->Prop}(S:SmS x z)(h:∀y,SmS x y->wpS (model prog w) A E s (f ()) Q y):wpS (model prog w) A E s (zfF g >>= f) Q z:=by exact bt (kP (h _ (S.trans ⟨rfl,rfl,rfl,rfl⟩)))
theorem zoj{x y:Array br}{i j:Nat}{z:aV}{l:Type}{f:Option Bool->StateT aV Sem l}{Q:l->aV->Prop}(c:Cmp prog w A s kd rk a0)(k:kindOf z=kd)(hi:i<x.size)(C:j<y.size)(u:∀p∈x.toList,p∈a0.toList)(o:∀p∈y.toList,p∈a0.toList)
  (h:wpS (model prog w) A E s (f (some (decide (rkAt rk x i<rkAt rk y j)))) Q z):wpS (model prog w) A E s (elem' x i >>= fun p=>elem' y j >>= fun q=>lt' p q >>= f) Q z :=
 JN (rk:=rk) hi u fun p _ mp G=>JN (rk:=rk) C o fun q _ v I=>bt (Vk c k mp v (G▸I▸h))
abbrev rkP(rk:ae->Int)(p:br):Int:=rk p.1
theorem zlx{x:Array br}{i k:Nat}:(x.extract i k).toList=(x.toList.take k).drop i:=by rw[lW,List.drop_take]
theorem VO{x:Array br}{i:Nat}:(x.extract i x.size).toList=x.toList.drop i:=by rw[lW];exact dQ (by simp)
theorem zi4{x:Array br}{i k:Nat}:(x.extract i (i+k)).toList=(x.toList.drop i).take k:=by simp
theorem Vw{x:Array br}{k:Nat}:(x.extract 0 k).toList=x.toList.take k:=by simp
theorem ZV{x:Array br}{i:Nat}{p:br}(h:x.toList[i]?=some p):rkAt rk x i=rkP rk p:=by unfold rkAt;rw[bq]at h;rw[h];rfl
def UpL(rk:ae->Int)(xs:Array br)(lo m:Nat):Prop:=∀i j,i<j->j<m->rkAt rk xs (lo+i)<=rkAt rk xs (lo+j)
section
variable{x:Array br}{P A S:List br}{n i j k m:Nat}
theorem ZA(e:x.toList=P++(A++S))(l:P.length=n)(h:i<A.length):rkAt rk x (n+i)=rkP rk A[i]:=ZV (by subst l;rw[e,aU (cG _ _),km,bg h,ak h])
theorem Q0(e:x.toList=P++(A++S))(o:P.length=n)(v:A.length=m):UpL rk x n m↔Ris (rkP rk) A:=by subst v;constructor;exact fun u=>aQ.mpr fun i j hi l h=>ZA (rk:=rk) e o hi▸ZA (rk:=rk) e o l▸u i j h l;intro u i j h l;rw[ZA e o l,ZA e o (fS h l)];exact aQ.mp u i j _ l h
theorem Ve(e:x.toList=P++(A++S))(l:P.length=n){q:br}(h:q∈A):∃i,i<A.length/\rkAt rk x (n+i)=rkP rk q:=by obtain⟨i,hi,rfl⟩:=aY h;exact⟨i,hi,ZA e l hi⟩
theorem zsj(e:x.toList=P++(A++S))(l:P.length=n)(h:Ris (rkP rk) A):∀q∈A,rkAt rk x n<=rkP rk q:=fun q o=>by
 obtain⟨i,hi,u⟩:=Ve (rk:=rk) e l o;rw[<- u];cases i with
 | zero=>exact aE _
 | succ i=>exact(Q0 e l rfl).mpr h 0 _ (nB i) hi
theorem zrt(e:x.toList=P++(A++S))(l:P.length=n)(h:Ris (rkP rk) A)(v:n+A.length=j):∀q∈A,rkP rk q<=rkAt rk x (j - 1):=fun q o=>by obtain⟨i,hi,u⟩:=Ve (rk:=rk) e l o;rw[<- u,show j - 1=n+(A.length - 1) by lia];rcases fg (ig hi) with g|g;rw[g];exact aE _;exact(Q0 e l rfl).mpr h _ _ g (by lia)
theorem srch{left:Bool}{p:br}(e:x.toList=P++(A++S))(I:P.length=n)(v:A.length=m)(G:Srch (bey rk left p x n) m k k):(∀q∈A.take k,if left then rkP rk q<rk p.1 else rkP rk q<=rk p.1)/\∀q∈A.drop k,if left then rk p.1<=rkP rk q else rk p.1<rkP rk q:=by
 have C:x.toList=P++(A.take k++(A.drop k++S)):=by rw[e,<- aA (A.take k),bu]
 refine⟨fun q l=>?_,fun q l=>?_⟩;obtain⟨j,o,u⟩:=Ve (rk:=rk) C I l;subst v;have:=G.lo j (by rw[cE]at o;lia);unfold bey at this;rw[u]at this;cases left <;> simpa using this;obtain⟨j,o,u⟩:=Ve (rk:=rk) (P:=P++A.take k) (by rw[C,aA]) (by rw[aH,I,cE,dO (v▸G.rn)]) l;subst v;have:=G.hi (k+j) (cG _ _) (by rw[fT]at o;omega);unfold bey at this;rw[<- sr,u]at this;cases left <;> simpa using this
theorem znI(h:Ris (rkP rk) x.toList)(hi:i<=x.size):UpL rk x i (x.size - i):=(Q0 (P:=x.toList.take i) (S:=[]) (by simp) (by simp;lia) (by simp)).mpr (h.drop i)
theorem zqf(h:Ris (rkP rk) x.toList)(hi:i<=x.size):UpL rk x 0 i:=(Q0 (P:=[]) (S:=x.toList.drop i) (by simp) rfl (by simp;lia)).mpr (h.take i)
theorem Zg(h:Ris (rkP rk) x.toList)(hi:i<x.size):∀y∈x.toList.drop i,rkAt rk x i<=rkP rk y:=zsj (P:=x.toList.take i) (S:=[]) (by simp) (by simp;lia) (h.drop i)
theorem Za(h:Ris (rkP rk) x.toList)(hi:i<=x.size):∀y∈x.toList.take i,rkP rk y<=rkAt rk x (i - 1):=zrt (P:=[]) (S:=x.toList.drop i) (by simp) rfl (h.take i) (by simp;lia)
end
structure Two(rk:ae->Int)(a0 a b:Array br):Prop where
 ha:∀p∈a.toList,p∈a0.toList
 hb:∀p∈b.toList,p∈a0.toList
 sa:Ris (rkP rk) a.toList
 sb:Ris (rkP rk) b.toList
 na:0<a.size
 nb:0<b.size
 f1:∀x∈a.toList,rkAt rk b 0<=rkP rk x
 f2:∀y∈b.toList,rkP rk y<=rkAt rk a (a.size - 1)
structure Mgd(rk:ae->Int)(a b:Array br)(z:aV)(m:Array br)(y:aV):Prop where
 sm:SmS z y
 pm:m.toList.Perm (a.toList++b.toList)
 ri:Ris (rkP rk) m.toList
structure LoM(rk:ae->Int)(a b:Array br)(z:aV)(o:Array br)(i j:Nat)(y:aV):Prop where
 sm:SmS z y
 m:MLo (rkP rk) a.toList b.toList o.toList i j
structure LoJ(rk:ae->Int)(a b:Array br)(z:aV)(n:Nat)(o:Array br)(i j:Nat)(y:aV):Prop extends LoM rk a b z o i j y where
 i1:i+1<a.size
 j1:j<b.size
 nl:n<=i+j
abbrev LoC{γ:Type}(rk:ae->Int)(a b:Array br)(z:aV)(n:Nat)(c:Array br×Nat×Nat×γ)(y:aV):Prop:=LoJ rk a b z n c.1 c.2.1 c.2.2.1 y
section
variable{a b o:Array br}{x y:aV}{i j k n m:Nat}{p:br}
theorem nlB{n i j:Nat}(h:n<=i+j):n+1<=i+1+j:=by lia
theorem noL{A B i j:Nat}(u:i+1<A)(l:j<B)(h:A+B+1<=i+j):False:=by lia
theorem szd{i n:Nat}(h:i+1<n):i+(n - i)<=n/\0<n - i/\i<=n:=by omega
theorem szd0{i n:Nat}(h:i<n):i+(n - i)<=n/\0<n - i/\i<=n:=by omega
theorem szk{i n k:Nat}(h:i<n)(g:k<=n - i):i+k<=n:=by lia
theorem le2{X x:Nat}:X+2<=X+1+x+1:=by lia
theorem nxt(h:i<n)(e:¬(i+1 == n)=true):i+1<n:=fk h fun g=>e (g▸beq_self_eq_true _)
theorem nxt0(h:i<=n)(e:¬(i == n)=true):i<n:=fk h fun g=>e (g▸beq_self_eq_true _)
theorem LoJ.le(h:LoJ rk a b x n o i j y)(l:m<=n):LoJ rk a b x m o i j y:=⟨h.toLoM,h.i1,h.j1,aP l h.nl⟩
theorem LoM.dn(h:LoM rk a b x o i j y)(T:Two rk a0 a b)(e:(i == a.size)=true\/(j == b.size)=true):Mgd rk a b x (o++a.extract i a.size++b.extract j b.size) y:=by
 have g:=h.m.done T.sa T.sb fun x hx y l=>by rcases e with e|e;rw[eq_of_beq e,fj (by simp)]at hx;cases hx;rw[eq_of_beq e,fj (by simp)]at l;cases l
 rw[<- VO,<- VO,<- bG,<- bG]at g;exact⟨h.sm,g.1,g.2⟩
theorem LoM.la(h:LoM rk a b x o i j y)(T:Two rk a0 a b)(e:(i+1 == a.size)=true):Mgd rk a b x (o++b.extract j b.size++a.extract i a.size) y:=by
 have e:=eq_of_beq e;have g:=h.m.last T.sa T.sb fun y l x hx=>by refine bo (T.f2 y (ij l)) ?_;rw[show a.size - 1=i by lia];exact Zg T.sa (by lia) x hx
 rw[<- VO,<- VO,<- bG,<- bG]at g;exact⟨h.sm,g.1,g.2⟩
theorem LoM.pushB(h:LoM rk a b x o i j y)(T:Two rk a0 a b)(e:b[j]?=some p)(c:∀x∈a.toList.drop i,rkAt rk b j<=rkP rk x):LoM rk a b x (o.push p) i (j+1) y:=by have e:=(bq (xs:=b)).trans e;have:=h.m.pushB T.sb e (ZV e▸c);rw[<- iY]at this;exact⟨h.sm,this⟩
theorem LoM.pushA(h:LoM rk a b x o i j y)(T:Two rk a0 a b)(e:a[i]?=some p)(c:∀x∈b.toList.drop j,rkAt rk a i<=rkP rk x):LoM rk a b x (o.push p) (i+1) j y:=by have e:=(bq (xs:=a)).trans e;have:=h.m.pushA T.sa e (ZV e▸c);rw[<- iY]at this;exact⟨h.sm,this⟩
theorem LoJ.galA(h:LoJ rk a b x n o i j y)(T:Two rk a0 a b)(S:Srch (bey rk false p a i) (a.size - i) k k)(e:rk p.1=rkAt rk b j):LoM rk a b x (o++a.extract i (i+k)) (i+k) j y/\∀x∈a.toList.drop (i+k),rkAt rk b j<=rkP rk x:=by have⟨g1,g2⟩:=srch (P:=a.toList.take i) (A:=a.toList.drop i) (S:=[]) (by simp) (by simp;have:=h.i1;lia) (by simp) S;rw[e]at g1 g2;rw[lU]at g2;have:=h.m.takeA (k:=k) T.sa fun x hx y l=>bo (g1 x hx) (Zg T.sb h.j1 y l);rw[<- zi4,<- bG]at this;exact⟨⟨h.sm,this⟩,fun x hx=>cf (g2 x hx)⟩
theorem LoJ.galB(h:LoJ rk a b x n o i j y)(T:Two rk a0 a b)(S:Srch (bey rk true p b j) (b.size - j) k k)(e:rk p.1=rkAt rk a i):LoM rk a b x (o++b.extract j (j+k)) i (j+k) y/\∀x∈b.toList.drop (j+k),rkAt rk a i<=rkP rk x:=by have⟨g1,g2⟩:=srch (P:=b.toList.take j) (A:=b.toList.drop j) (S:=[]) (by simp) (by simp;have:=h.j1;lia) (by simp) S;rw[e]at g1 g2;rw[lU]at g2;have:=h.m.takeB (k:=k) T.sb fun x hx y l=>bo (cf (g1 x hx)) (Zg T.sa (cu h.i1) y l);rw[<- zi4,<- bG]at this;exact⟨⟨h.sm,this⟩,g2⟩
end
theorem zjx{a b:Array br}{z:aV}{Q:Array br->aV->Prop}(I:Cmp prog w A s kd rk a0)(k:kindOf z=kd)(T:Two rk a0 a b)(h:∀m y,Mgd rk a b z m y->Q m y):wpS (model prog w) A E s (zmY a b) Q z:=by
 refine bt (kj (dM ⟨rfl,?_⟩))
 extract_lets n dn lst
 refine JN (rk:=rk) T.nb T.hb fun p ep _ _=>?_;have M:LoM rk a b z #[p] 0 1 z:=(show LoM rk a b z #[] 0 0 z from⟨.refl z,⟨by simp,.nil,fun _ h=>absurd h bI⟩⟩).pushB T ep T.f1;refine Jf (fun e=>aF (h _ _ (M.dn T (.inr e)))) fun N=>Jf (fun e=>aF (h _ _ (M.la T e))) fun U=>bt (iB ?_);refine J5 n.zero_le (fun X=>LoC rk a b z (X+1)) (fun _ _=>False) (Mgd rk a b z) ⟨M,nxt T.na U,nxt T.nb N,av _⟩ (fun X _ Y R y J=>?_) (fun R y J=>noL J.i1 J.j1 J.nl) (fun _ _ h=>h.elim) (fun r _ y g=>aF (h r y g));dsimp(zeta:=false) only
 extract_lets _ out _ ia _ ib mg
 refine J5 n.zero_le (fun x=>LoC rk a b z (X+1+x)) (LoC rk a b z (X+2)) (Mgd rk a b z) J (fun x _ hx c y J=>?_) (fun c y J=>J.le (by lia)) (fun c y J=>?_) fun r _ y g=>aF (.ret g);dsimp only;refine zoj I (J.sm.kn.trans k) J.j1 (cu J.i1) T.hb T.ha (Jf (fun g=>?_) fun g=>?_);refine JN (rk:=rk) J.j1 T.hb fun p ep _ _=>?_;have M:=J.pushB T ep fun x hx=>bo (cf (of_decide_eq_true g)) (Zg T.sa (cu J.i1) x hx);refine Jf (fun e=>aF (.ret (M.dn T (.inr e)))) fun e=>?_;have C:LoJ rk a b z _ _ _ _ _:=⟨M,J.i1,nxt J.j1 e,Nat.succ_le_succ J.nl⟩;exact Jf (fun _=>aF (.stop (C.le le2))) fun _=>aF (.go C);refine JN (rk:=rk) (cu J.i1) T.ha fun p ep _ _=>?_;have M:=J.pushA T ep fun x hx=>bo (gA.mp fun l=>g (decide_eq_true l)) (Zg T.sb J.j1 x hx);refine Jf (fun e=>aF (.ret (M.la T e))) fun e=>?_;have C:LoJ rk a b z (X+1+x+1) _ _ _ _:=⟨M,nxt J.i1 e,J.j1,nlB J.nl⟩;exact Jf (fun _=>aF (.stop (C.le le2))) fun _=>aF (.go C);refine bt (kj (dM ⟨rfl,?_⟩));refine J5 n.zero_le (fun _=>LoC rk a b z (X+2)) (LoC rk a b z (X+2)) (Mgd rk a b z) J (fun x _ hx c y J=>?_) (fun c y J=>J) (fun c y J=>VV J.sm fun Z S=>aF (.go ⟨⟨S,J.m⟩,J.i1,J.j1,J.nl⟩)) fun r _ y g=>aF (.ret g);dsimp(zeta:=false) only
 extract_lets _ out _ ia _ ib _ mg _ ac bc ib1 jp _
 have v:∀mg,wpS (model prog w) A E s (jp () mg) (Tn (LoC rk a b z (X+2)) (LoC rk a b z (X+2)) (Mgd rk a b z)) y:=fun mg=>by
  refine VV J.sm fun y S=>?_;have kz:=S.kn.trans k;have J:LoJ rk a b z (X+2) out ia ib y:=⟨⟨S,J.m⟩,J.i1,J.j1,J.nl⟩;refine JN (rk:=rk) J.j1 T.hb fun p ep mp L=>YY I kz mp T.ha (szd J.i1).1 (szd J.i1).2.1 (znI T.sa (szd J.i1).2.2) fun k G=>?_;dsimp(zeta:=false) only
  extract_lets ac jp2 _ _
  have M:=J.galA T G L;have v:∀o i,LoJ rk a b z (X+2) o i ib y->(∀x∈a.toList.drop i,rkAt rk b ib<=rkP rk x)->wpS (model prog w) A E s (jp2 () o i) (Tn (LoC rk a b z (X+2)) (LoC rk a b z (X+2)) (Mgd rk a b z)) y:=fun o i J g=>by
   refine JN (rk:=rk) J.j1 T.hb fun p ep _ _=>?_;have M:=J.pushB T ep g;refine Jf (fun e=>aF (.ret (M.dn T (.inr e)))) fun e=>?_;have J:LoJ rk a b z (X+2) (o.push p) i ib1 y:=⟨M,J.i1,nxt J.j1 e,iZ J.nl⟩;refine JN (rk:=rk) (cu J.i1) T.ha fun p ep mp L=>YY I kz mp T.hb (szd0 J.j1).1 (szd0 J.j1).2.1 (znI T.sb (szd0 J.j1).2.2) fun k G=>?_;dsimp(zeta:=false) only
   extract_lets bc i1 jp3 _ _
   have M:=J.galB T G L;have v:∀o j,LoJ rk a b z (X+2) o i j y->(∀x∈b.toList.drop j,rkAt rk a i<=rkP rk x)->wpS (model prog w) A E s (jp3 () o j) (Tn (LoC rk a b z (X+2)) (LoC rk a b z (X+2)) (Mgd rk a b z)) y:=fun o j J g=>by refine JN (rk:=rk) (cu J.i1) T.ha fun p ep _ _=>?_;have M:=J.pushA T ep g;refine Jf (fun e=>aF (.ret (M.la T e))) fun e=>?_;have J:LoJ rk a b z (X+2) _ _ _ _:=⟨M,nxt J.i1 e,J.j1,gQ (nlB J.nl)⟩;exact Jf (fun _=>aF (.stop J)) fun _=>aF (.go J)
   clear_value jp3;refine Jf (fun _=>?_) fun e=>v _ _ J fun x hx=>M.2 x (by rwa [fq e]);exact Jf (fun e=>aF (.ret (M.1.dn T (.inr e)))) fun e=>v _ _ ⟨M.1,J.i1,nxt0 (szk J.j1 G.rn) e,aP J.nl (f6 (cG _ _) _)⟩ M.2
  clear_value jp2;refine Jf (fun _=>?_) fun e=>v _ _ J fun x hx=>M.2 x (by rwa [fq e]);exact Jf (fun e=>aF (.ret (M.1.la T e))) fun e=>Jf (fun e=>aF (.ret (M.1.dn T (.inl e)))) fun f=>v _ _ ⟨M.1,nxt (nxt0 (szk (cu J.i1) G.rn) f) e,J.j1,aP J.nl (b9 (cG _ _) _)⟩ M.2
 clear_value jp;exact Jf (fun _=>v _) fun _=>v _
end
def zmZ:Array br->Array br->StateT aV Sem (Array br):=sortPriv% PySem.Builtin.mergeHi
section
variable{prog:aK}{w:ba}{A:aX}{E:qV}{s:aj}{kd:dZ}{rk:ae->Int}{a0:Array br}
structure HiM(rk:ae->Int)(a b:Array br)(z:aV)(i j:Nat)(o:Array br)(y:aV):Prop where
 sm:SmS z y
 m:MHi (rkP rk) a.toList b.toList o.toList.reverse i j
structure HiJ(rk:ae->Int)(a b:Array br)(z:aV)(n:Nat)(i j:Nat)(o:Array br)(y:aV):Prop extends HiM rk a b z i j o y where
 i1:0<i
 j1:1<j
 ia:i<=a.size
 jb:j<=b.size
 nl:i+j+n<=a.size+b.size
abbrev HiC{γ:Type}(rk:ae->Int)(a b:Array br)(z:aV)(n:Nat)(c:Nat×Nat×Array br×γ)(y:aV):Prop:=HiJ rk a b z n c.1 c.2.1 c.2.2.1 y
section
variable{a b o:Array br}{x y:aV}{i j k n m:Nat}{p:br}
theorem nlH{i j n N:Nat}(h:i+j+n<=N)(g:0<i):i - 1+j+(n+1)<=N:=by lia
theorem nlG{i j n N:Nat}(h:i+j+n<=N)(g:1<j):i+(j - 1)+(n+1)<=N:=by lia
theorem noH{A B i j:Nat}(l:0<i)(h:i+j+(A+B+1)<=A+B):False:=by lia
theorem nl0{A B:Nat}(h:0<A):A - 1+B+1<=A+B:=by lia
theorem prv(h:m<i)(e:¬(i - 1 == m)=true):m<i - 1:=fk (ig h) fun g=>e (g▸beq_self_eq_true _)
theorem prv0(e:¬(i == 0)=true):0<i:=Nat.pos_of_ne_zero fun g=>e (g▸beq_self_eq_true _)
theorem HiJ.le(h:HiJ rk a b x n i j o y)(l:m<=n):HiJ rk a b x m i j o y:=⟨h.toHiM,h.i1,h.j1,h.ia,h.jb,aP (f6 l _) h.nl⟩
theorem HiM.dn(h:HiM rk a b x i j o y)(T:Two rk a0 a b)(e:(i == 0)=true\/(j == 0)=true):Mgd rk a b x (a.extract 0 i++b.extract 0 j++o.reverse) y:=by
 have g:=h.m.done T.sa T.sb fun x hx y l=>by rcases e with e|e;rw[eq_of_beq e]at hx;cases hx;rw[eq_of_beq e]at l;cases l
 rw[<- Vw,<- Vw,<- bG,<- lZ,<- bG]at g;exact⟨h.sm,g.1,g.2⟩
theorem HiM.fi(h:HiM rk a b x i j o y)(T:Two rk a0 a b)(e:(j == 1)=true):Mgd rk a b x (b.extract 0 j++a.extract 0 i++o.reverse) y:=by
 have g:=h.m.first T.sa T.sb fun y l x hx=>by rw[eq_of_beq e]at l;exact bo (Za T.sb T.nb y l) (T.f1 x (cH hx))
 rw[<- Vw,<- Vw,<- bG,<- lZ,<- bG]at g;exact⟨h.sm,g.1,g.2⟩
theorem HiM.pushB(h:HiM rk a b x i j o y)(T:Two rk a0 a b)(l:0<j)(e:b[j - 1]?=some p)(c:∀x∈a.toList.take i,rkP rk x<=rkAt rk b (j - 1)):HiM rk a b x i (j - 1) (o.push p) y:=by obtain⟨j,rfl⟩:∃m,j=m+1:=⟨j - 1,by lia⟩;have e:=(bq (xs:=b)).trans e;exact⟨h.sm,by simpa using h.m.pushB T.sb e (ZV e▸c)⟩
theorem HiM.pushA(h:HiM rk a b x i j o y)(T:Two rk a0 a b)(hi:0<i)(e:a[i - 1]?=some p)(c:∀x∈b.toList.take j,rkP rk x<=rkAt rk a (i - 1)):HiM rk a b x (i - 1) j (o.push p) y:=by obtain⟨i,rfl⟩:∃m,i=m+1:=⟨i - 1,by lia⟩;have e:=(bq (xs:=a)).trans e;exact⟨h.sm,by simpa using h.m.pushA T.sa e (ZV e▸c)⟩
theorem HiJ.galA(h:HiJ rk a b x n i j o y)(T:Two rk a0 a b)(S:Srch (bey rk false p a 0) i k k)(e:rk p.1=rkAt rk b (j - 1)):HiM rk a b x k j (o++(a.extract k i).reverse) y/\∀x∈a.toList.take k,rkP rk x<=rkAt rk b (j - 1):=by have⟨g1,g2⟩:=srch (P:=[]) (A:=a.toList.take i) (S:=a.toList.drop i) (by simp) rfl (by simp;have:=h.ia;lia) S;rw[e]at g1 g2;rw[lV,dO S.rn]at g1;have:=h.m.takeA (k:=k) T.sa S.rn fun x hx y l=>bo (Za T.sb h.jb x hx) (cf (g2 y l));rw[<- zlx]at this;exact⟨⟨h.sm,by simpa using this⟩,g1⟩
theorem HiJ.galB(h:HiJ rk a b x n i j o y)(T:Two rk a0 a b)(S:Srch (bey rk true p b 0) j k k)(e:rk p.1=rkAt rk a (i - 1)):HiM rk a b x i k (o++(b.extract k j).reverse) y/\∀x∈b.toList.take k,rkP rk x<=rkAt rk a (i - 1):=by have⟨g1,g2⟩:=srch (P:=[]) (A:=b.toList.take j) (S:=b.toList.drop j) (by simp) rfl (by simp;have:=h.jb;lia) S;rw[e]at g1 g2;rw[lV,dO S.rn]at g1;have:=h.m.takeB (k:=k) T.sb S.rn fun x hx y l=>bo (Za T.sa h.ia x hx) (g2 y l);rw[<- zlx]at this;exact⟨⟨h.sm,by simpa using this⟩,fun x hx=>cf (g1 x hx)⟩
end
theorem zjy{a b:Array br}{z:aV}{Q:Array br->aV->Prop}(L:Cmp prog w A s kd rk a0)(k:kindOf z=kd)(T:Two rk a0 a b)(h:∀m y,Mgd rk a b z m y->Q m y):wpS (model prog w) A E s (zmZ a b) Q z:=by
 refine bt (kj (dM ⟨rfl,?_⟩))
 extract_lets n dn fst na nb
 refine JN (rk:=rk) (bR T.na) T.ha fun p ep _ _=>?_;have M:HiM rk a b z (a.size - 1) b.size #[p] z:=(show HiM rk a b z a.size b.size #[] z from⟨.refl z,⟨by simp[<- bz],.nil,fun _ _ _ h=>absurd h bI⟩⟩).pushA T T.na ep fun x hx=>T.f2 x (cH hx);refine Jf (fun e=>aF (h _ _ (M.dn T (.inl e)))) fun R=>Jf (fun e=>aF (h _ _ (M.fi T e))) fun Y=>bt (iB ?_);refine J5 n.zero_le (fun X=>HiC rk a b z (X+1)) (fun _ _=>False) (Mgd rk a b z) ⟨M,prv T.na R,fk T.nb fun g=>Y (g▸beq_self_eq_true _),hJ _ _,av _,nl0 T.na⟩ (fun X _ Z U y J=>?_) (fun U y J=>noH J.i1 J.nl) (fun _ _ h=>h.elim) (fun r _ y g=>aF (h r y g));dsimp(zeta:=false) only
 extract_lets _ na _ nb _ out mg
 refine J5 n.zero_le (fun x=>HiC rk a b z (X+1+x)) (HiC rk a b z (X+2)) (Mgd rk a b z) J (fun x _ hx c y J=>?_) (fun c y J=>J.le (by lia)) (fun c y J=>?_) fun r _ y g=>aF (.ret g);dsimp only;have la:=au (bR J.i1) J.ia;have C:=au (bR J.j1) J.jb;refine zoj L (J.sm.kn.trans k) C la T.hb T.ha (Jf (fun g=>?_) fun g=>?_);refine JN (rk:=rk) la T.ha fun p ep _ _=>?_;have M:=J.pushA T J.i1 ep fun x hx=>bo (Za T.sb J.jb x hx) (cf (of_decide_eq_true g));refine Jf (fun e=>aF (.ret (M.dn T (.inl e)))) fun e=>?_;have I:HiJ rk a b z (X+1+x+1) _ _ _ _:=⟨M,prv J.i1 e,J.j1,bY la,J.jb,nlH J.nl J.i1⟩;exact Jf (fun _=>aF (.stop (I.le le2))) fun _=>aF (.go I);refine JN (rk:=rk) C T.hb fun p ep _ _=>?_;have M:=J.pushB T (cu J.j1) ep fun x hx=>bo (Za T.sa J.ia x hx) (gA.mp fun l=>g (decide_eq_true l));refine Jf (fun e=>aF (.ret (M.fi T e))) fun e=>?_;have I:HiJ rk a b z (X+1+x+1) _ _ _ _:=⟨M,J.i1,prv J.j1 e,J.ia,bY C,nlG J.nl J.j1⟩;exact Jf (fun _=>aF (.stop (I.le le2))) fun _=>aF (.go I);refine bt (kj (dM ⟨rfl,?_⟩));refine J5 n.zero_le (fun _=>HiC rk a b z (X+2)) (HiC rk a b z (X+2)) (Mgd rk a b z) J (fun x _ hx c y J=>?_) (fun c y J=>J) (fun c y J=>VV J.sm fun y' S=>aF (.go ⟨⟨S,J.m⟩,J.i1,J.j1,J.ia,J.jb,J.nl⟩)) fun r _ y g=>aF (.ret g);dsimp(zeta:=false) only
 extract_lets _ na _ nb _ out _ mg _ ac bc nb1 jp _
 have v:∀mg,wpS (model prog w) A E s (jp () mg) (Tn (HiC rk a b z (X+2)) (HiC rk a b z (X+2)) (Mgd rk a b z)) y:=fun mg=>by
  refine VV J.sm fun y S=>?_;have kz:=S.kn.trans k;have J:HiJ rk a b z (X+2) na nb out y:=⟨⟨S,J.m⟩,J.i1,J.j1,J.ia,J.jb,J.nl⟩;have C:=au (bR J.j1) J.jb;refine JN (rk:=rk) C T.hb fun p ep mp N=>YY L kz mp T.ha ((du _).symm▸J.ia) (bR J.i1) (zqf T.sa J.ia) fun k G=>?_;dsimp(zeta:=false) only
  extract_lets kk ac jp2 _ _
  have M:=J.galA T G N;have v:∀i o,HiJ rk a b z (X+2) i nb o y->(∀x∈a.toList.take i,rkP rk x<=rkAt rk b nb1)->wpS (model prog w) A E s (jp2 () i o) (Tn (HiC rk a b z (X+2)) (HiC rk a b z (X+2)) (Mgd rk a b z)) y:=fun i o J g=>by
   refine JN (rk:=rk) C T.hb fun p ep _ _=>?_;have M:=J.pushB T (cu J.j1) ep g;refine Jf (fun e=>aF (.ret (M.fi T e))) fun e=>?_;have J:HiJ rk a b z (X+2) i nb1 (o.push p) y:=⟨M,J.i1,prv J.j1 e,J.ia,bY C,aP (b9 (f6 (hJ _ _) _) _) J.nl⟩;have la:=au (bR J.i1) J.ia;refine JN (rk:=rk) la T.ha fun p ep mp N=>YY L kz mp T.hb ((du _).symm▸J.jb) (bR J.j1) (zqf T.sb J.jb) fun k G=>?_;dsimp(zeta:=false) only
   extract_lets kk bc i1 jp3 _ _
   have M:=J.galB T G N;have v:∀j o,HiJ rk a b z (X+2) i j o y->(∀x∈b.toList.take j,rkP rk x<=rkAt rk a i1)->wpS (model prog w) A E s (jp3 () j o) (Tn (HiC rk a b z (X+2)) (HiC rk a b z (X+2)) (Mgd rk a b z)) y:=fun j o J g=>by refine JN (rk:=rk) la T.ha fun p ep _ _=>?_;have M:=J.pushA T J.i1 ep g;refine Jf (fun e=>aF (.ret (M.dn T (.inl e)))) fun e=>?_;have J:HiJ rk a b z (X+2) _ _ _ _:=⟨M,prv J.i1 e,J.j1,bY la,J.jb,aP (b9 (b9 (hJ _ _) _) _) J.nl⟩;exact Jf (fun _=>aF (.stop J)) fun _=>aF (.go J)
   clear_value jp3;refine Jf (fun _=>?_) fun e=>v _ _ J fun x hx=>M.2 x (by rwa [show k=nb1 from gv G.rn (g6 (fq e))]);exact Jf (fun e=>aF (.ret (M.1.fi T e))) fun e=>Jf (fun e=>aF (.ret (M.1.dn T (.inr e)))) fun f=>v _ _ ⟨M.1,J.i1,fk (prv0 f) fun g=>e (g▸beq_self_eq_true _),J.ia,aP G.rn J.jb,aP (b9 (f6 G.rn _) _) J.nl⟩ M.2
  clear_value jp2;refine Jf (fun _=>?_) fun e=>v _ _ J fun x hx=>M.2 x (by rwa [show k=na from gv G.rn (g6 (fq e))]);exact Jf (fun e=>aF (.ret (M.1.dn T (.inl e)))) fun e=>v _ _ ⟨M.1,prv0 e,J.j1,aP G.rn J.ia,J.jb,aP (b9 (b9 G.rn _) _) J.nl⟩ M.2
 clear_value jp;exact Jf (fun _=>v _) fun _=>v _
end
theorem zkf{α:Type}{l:List α}{i:Nat}{p:α}(h:i<l.length):(l.set i p).take (i+1)=l.take i++[p]:=by rw[d0,e8 h,List.take_set_of_le (av _)];rfl
theorem zlB{α:Type}{l:List α}{i j:Nat}{p:α}(h:i<j):(l.set i p).drop j=l.drop j:=by rw[List.drop_set];rw[if_pos h]
theorem zky{α:Type}(o:Nat):∀(m:List α) (n:Nat) (x:Array α),o+n+m.length<=x.size ->
  ((m.zipIdx n).foldl (fun a (q:α×Nat)=>a.setIfInBounds (o+q.2) q.1) x).toList=x.toList.take (o+n)++m++x.toList.drop (o+n+m.length)
 | [],n,x,h=>by simp
 | p::ms,n,x,h=>by
  rw[aG]at h;rw[List.zipIdx_cons,eC,zky o ms (n+1) _ (by rw[Array.size_setIfInBounds];omega)];have e:(x.setIfInBounds (o+n) p).toList=x.toList.set (o+n) p:=by simp
  have u:o+n<x.toList.length:=by simp;omega
  dsimp only;rw[e,show o+(n+1)=o+n+1 by lia,zkf u,zlB (by lia),aG,show o+n+1+ms.length=o+n+(ms.length+1) by lia];simp
section
variable{prog:aK}{w:ba}{A:aX}{E:qV}{s:aj}{kd:dZ}{rk:ae->Int}{a0:Array br}
theorem zom{z o:aV}{u:Type}{f:PUnit->StateT aV Sem u}{Q:u->aV->Prop}(h:∀y,SmS o y->wpS (model prog w) A E s (f ⟨⟩) Q y):wpS (model prog w) A E s ((set o:StateT aV Sem PUnit) >>= f) Q z:=by refine bt ?_;unfold wpS;rw[StateT.run_set];exact ag ⟨rfl,h _ (.refl o)⟩
section
variable{x:Array br}{P A B S M:List br}{n i j k m:Nat}
theorem zly(e:x.toList=P++(A++S))(u:P.length=i)(l:i+A.length=j):(x.extract i j).toList=A:=by subst u l;rw[zlx,e,<- aA,oH (by simp),List.drop_left]
theorem znR(h:i+k<j)(g:j<=x.size):rkAt rk (x.extract i j) k=rkAt rk x (i+k):=UR (by rw[Array.getElem?_extract,if_pos (by lia)])
theorem zox{r:br->Int}(ha:Ris r A)(hb:Ris r B)(I:∀p∈A.take k,∀q∈B,r p<=r q)(u:∀p∈A,∀q∈B.drop m,r p<=r q)(PM:M.Perm (A.drop k++B.take m))(G:Ris r M):(A.take k++(M++B.drop m)).Perm (A++B)/\Ris r (A.take k++(M++B.drop m)):=by have C:=bu k A;have v:=bu m B;have⟨a1,_,a3⟩:=JO.mp (C.symm▸ha);have⟨_,b2,b3⟩:=JO.mp (v.symm▸hb);constructor;have:=(PM.append_right (B.drop m)).append_left (A.take k);rwa [aA (A.drop k),v,<- aA (A.take k) (A.drop k),C]at this;refine JO.mpr ⟨a1,JO.mpr ⟨G,b2,fun x hx y o=>?_⟩,fun x hx y o=>?_⟩;rcases ai.mp (PM.mem_iff.mp hx) with h|h;exact u x (ij h) y o;exact b3 x h y o;rcases ai.mp o with h|h;rcases ai.mp (PM.mem_iff.mp h) with h|h;exact a3 x hx y h;exact I x hx y (cH h);exact u x (cH hx) y h
end
theorem zjz{i pw pw2:Nat}{z:aV}{Q:Bool->aV->Prop}{P U V S:List br}(c:Cmp prog w A s kd rk a0)(k:kindOf z=kd)(fl:failedOf z=none)(mz:∀p∈(arrOf z).toList,p∈a0.toList)(e:(arrOf z).toList=P++(U++(V++S)))
  (p1:(pendingOf z)[i]?=some (P.length,U.length,pw)) (p2:(pendingOf z)[i+1]?=some (P.length+U.length,V.length,pw2)) (hU:0<U.length) (hV:0<V.length) (rU:Ris (rkP rk) U) (rV:Ris (rkP rk) V)
  (h:∀y T,kindOf y=kd->failedOf y=none->pendingOf y=((pendingOf z).setIfInBounds i (P.length,U.length+V.length,pw)).eraseIdxIfInBounds (i+1)->(arrOf y).toList=P++(T++S)->T.Perm (U++V)->Ris (rkP rk) T->Q true y) :
  wpS (model prog w) A E s (mergeAt' i) Q z:=by
 have R:(arrOf z).toList=(P++U)++(V++S):=by rw[e,aA]
 have lP:(P++U).length=P.length+U.length:=aH;have lz:(arrOf z).size=P.length+(U.length+(V.length+S.length)):=by rw[<- bz,e];simp
 refine bt (iB (p1.symm▸p2.symm▸zom fun y sm=>?_));have ky:=sm.kn.trans k;have ea:arrOf y=arrOf z:=sm.ar;have fy:failedOf y=none:=sm.fl.trans fl;have all:(∀u∈U,∀v∈V,rkP rk u<=rkP rk v)->Q true y:=fun g=>h y _ ky fy sm.pe (by rw[ea,e,aA]) (.refl _) (JO.mpr ⟨rU,rV,g⟩);refine JN (rk:=rk) (x:=arrOf z) (by lia) mz fun p _ mp rp=>YY c ky mp mz (by lia) hU ((Q0 e rfl rfl).mpr rU) fun k G=>?_;have⟨g1,g2⟩:=srch e rfl rfl G;have b0:=zsj (rk:=rk) R lP rV;rw[<- rp]at b0;have kU:=G.rn;dsimp(zeta:=false) only;refine Jf (fun C=>aF (all fun u J v hv=>bo (g1 u (by rwa [dQ (by have:=eq_of_beq C;lia)])) (b0 v hv))) fun C=>?_;have C:0<U.length - k:=prv0 C;refine JN (rk:=rk) (x:=arrOf z) (by lia) mz fun q _ mq rq=>YY c ky mq mz (by lia) (bR hV) ((Q0 R lP rfl).mpr rV) fun m G2=>?_;have⟨g3,g4⟩:=srch R lP rfl G2;have b1:=zrt (rk:=rk) e rfl rU rfl;rw[show P.length+U.length - 1=P.length+k+(U.length - k) - 1 by lia,<- rq]at b1;have mV:=G2.rn;dsimp(zeta:=false) only;refine Jf (fun R=>aF (all fun u J v hv=>bo (b1 u J) (g4 v (by rwa [eq_of_beq R])))) fun e3=>?_
 extract_lets X Y jp
 have e3:=prv0 e3;have eX:X.toList=U.drop k:=zly (P:=P++U.take k) (S:=V++S) (by rw[e,aA,<- aA (U.take k),bu]) (by simp;lia) (by simp;lia);have Z:Y.toList=V.take m:=zly (S:=V.drop m++S) (by rw[R,<- aA (V.take m),bu]) lP (by simp;lia);have lX:X.size=U.length - k:=by rw[<- bz,eX,fT]
 have lY:Y.size=m:=by rw[<- bz,Z,cE,dO mV]
 have hj:∀M y',Mgd rk X Y y M y'->wpS (model prog w) A E s (jp M) Q y':=fun M y' G=>by
  have r:=zox rU rV (fun u J v hv=>bo (g1 u J) (b0 v hv)) (fun u J v hv=>bo (b1 u J) (g4 v hv)) (eX▸Z▸G.pm) G.ri;have lM:=G.pm.length_eq;rw[eX,Z,aH,fT,cE,dO mV]at lM;refine bt (kP (bt (iB (aF ?_))));have f':failedOf y'=none:=G.sm.fl.trans fy;show Q (failedOf y').isNone _;rw[f'];refine h _ _ (G.sm.kn.trans ky) f' (G.sm.pe.trans sm.pe) ?_ r.1 r.2;refine(zky (P.length+k) M.toList 0 (arrOf y') (by rw[G.sm.ar,ea];lia)).trans ?_;have e5:(arrOf z).toList=(P++U.take k)++((U.drop k++V.take m)++(V.drop m++S)):=by rw[e,aA,aA (U.drop k),<- aA (V.take m),bu,<- aA (U.take k),bu]
  have l5:(P++U.take k).length=P.length+k+0:=by simp;lia
  rw[G.sm.ar,ea,lM,e5,oH l5,<- aA (P++U.take k),List.drop_left' (by rw[aH,l5];simp;lia)];simp only[aA]
 clear_value jp;have mU:∀p∈U++V,p∈a0.toList:=fun p hp=>mz p (by rw[e,<- aA U];exact m2 (m1 hp));have T:Two rk a0 X Y:=by refine⟨eX▸fun p hp=>mU p (m1 (ij hp)),Z▸fun p hp=>mU p (m2 (cH hp)),eX▸rU.drop k,Z▸rV.take m,lX▸C,lY▸e3,?_,?_⟩;rw[eX,znR (by lia) (by lia)];exact fun x hx=>cf (rp▸g2 x hx);rw[Z,lX,znR (by lia) (by lia),<- fJ C,<- rq];exact fun x hx=>cf (g3 x hx)
 exact Jf (fun _=>bt (zjx c ky T hj)) fun _=>bt (zjy c ky T hj)
end
structure Sl(rk:ae->Int)(kd:dZ)(a0:Array br)(z0:aV)(lo:Nat)(z:aV):Prop where
 pm:(arrOf z).Perm a0
 kn:kindOf z=kd
 fl:failedOf z=none
 pe:pendingOf z=pendingOf z0
 lw:∀j,j<lo->rkAt rk (arrOf z) j=rkAt rk (arrOf z0) j
def DnL(rk:ae->Int)(xs:Array br)(lo m:Nat):Prop:=∀i j,i<j->j<m->rkAt rk xs (lo+j)<=rkAt rk xs (lo+i)
section
variable{prog:aK}{w:ba}{A:aX}{E:qV}{s:aj}{kd:dZ}{rk:ae->Int}{a0:Array br}{z0:aV}{lo:Nat}
theorem Sl.sz{z:aV}(b:Sl rk kd a0 z0 lo z):(arrOf z).size=a0.size:=b.pm.size_eq
theorem Sl.arr{z:aV}(b:Sl rk kd a0 z0 lo z){xs:Array br}(h:xs.Perm (arrOf z))(l:∀j,j<lo->rkAt rk xs j=rkAt rk (arrOf z) j):Sl rk kd a0 z0 lo (setArr z xs):=⟨h.trans b.pm,b.kn,b.fl,b.pe,fun j o=>(l j o).trans (b.lw j o)⟩
theorem Sl.mem{z:aV}(b:Sl rk kd a0 z0 lo z):∀p∈(arrOf z).toList,p∈a0.toList:=fun _=>(d4.mp b.pm).mem_iff.mp
section
variable{β:Type}{Q:β->aV->Prop}{y z:aV}{i j m n x:Nat}
theorem askL{f:Option Bool->StateT aV Sem β}(c:Cmp prog w A s kd rk a0)(b:Sl rk kd a0 z0 lo z)(hi:i<a0.size)(l:j<a0.size)
  (h:wpS (model prog w) A E s (f (some (decide (rkAt rk (arrOf z) i<rkAt rk (arrOf z) j)))) Q z):wpS (model prog w) A E s (ltAt' i j >>= f) Q z :=
 bt (bt (iB (JN (rk:=rk) (b.sz▸hi) b.mem fun _ _ mp u=>JN (rk:=rk) (b.sz▸l) b.mem fun _ _ v o=>Vk c b.kn mp v (by rw[u,o];exact h))))
theorem morR{R:Int->Int->Prop}(v:∀{a b c},R a b->R b c->R a c){f:Nat->Int}(u:∀i j,i<j->j<x->R (f (lo+i)) (f (lo+j)))(x1:1<=x)(g:R (f (lo+x - 1)) (f (lo+x))):∀i j,i<j->j<x+1->R (f (lo+i)) (f (lo+j)):=fun i j l o=>by rcases iN (gU o) with h|rfl;exact u i j l h;rw[fJ x1]at g;rcases iN (ig l) with h|rfl;exact v (u i _ h (bR l)) g;exact g
theorem zks{F:Option (Option Nat)×Nat->StateT aV Sem β}(c:Cmp prog w A s kd rk a0)(N:lo+m<=a0.size)(b:Sl rk kd a0 z0 lo z)(x1:1<=x)(C:x<=m)(u:UpL rk (arrOf z) lo x)
  (h:∀n y,Sl rk kd a0 z0 lo y->1<=n->n<=m->UpL rk (arrOf y) lo n->n=m\/n<m/\rkAt rk (arrOf y) (lo+n)<rkAt rk (arrOf y) (lo+n - 1)->wpS (model prog w) A E s (F (none,n)) Q y) :
  wpS (model prog w) A E s (forIn [x:m] (none,x) (fun _ c=>ltAt' (lo+c.2) (lo+c.2 - 1) >>= fun o=>match o with
   | some g=>if g=true then pure (.done (none,c.2)) else pure (.yield (none,c.2+1))
   | _=>pure (.done (some none,c.2))) >>= F) Q z:=by
 refine J5 C (fun x c y=>c=x/\Sl rk kd a0 z0 lo y/\UpL rk (arrOf y) lo x) (fun n y=>Sl rk kd a0 z0 lo y/\1<=n/\n<=m/\UpL rk (arrOf y) lo n/\(n=m\/n<m/\rkAt rk (arrOf y) (lo+n)<rkAt rk (arrOf y) (lo+n - 1))) (fun _ _=>False) ⟨rfl,b,u⟩ (fun L G v c' y I=>?_)
  (fun c' y ⟨e,b,u⟩=>⟨b,e▸aP x1 C,e▸av _,e▸u,.inl e⟩) (fun n y ⟨b,J,nm,u,l⟩=>h n y b J nm u l) fun _ _ _ h=>h.elim
 obtain⟨rfl,b,u⟩:=I;refine askL c b (by lia) (by lia) (Jf (fun g=>aF (.stop ⟨b,aP x1 G,bY v,u,.inr ⟨v,of_decide_eq_true g⟩⟩)) fun g=>aF (.go ⟨rfl,b,?_⟩));exact morR (R:=(·<=·)) bo u (aP x1 G) (gA.mp fun l=>g (decide_eq_true l))
theorem revs{f:PUnit->StateT aV Sem β}(b:Sl rk kd a0 z0 lo z)(l:j<=a0.size)(al:∀k,i<=k->k<j->rkAt rk (arrOf z) k=rkAt rk (arrOf z) (j - 1))(h:∀y,Sl rk kd a0 z0 lo y->(∀k,rkAt rk (arrOf y) k=rkAt rk (arrOf z) k)->wpS (model prog w) A E s (f ⟨⟩) Q y):wpS (model prog w) A E s (reverseSlice' i j >>= f) Q z :=
 have g:=zmX (rk:=rk) (b.sz▸l) al
 bt (wpS_reverse (h _ (b.arr (mirror_perm _ _ _ _) fun k _=>g k) g))
structure Fall(rk:ae->Int)(kd:dZ)(a0:Array br)(z0:aV)(lo x e:Nat)(y:aV):Prop where
 sl:Sl rk kd a0 z0 lo y
 dn:DnL rk (arrOf y) lo x
 ex:e<x
 al:∀i,lo+x - (e+1)<=i->i<lo+x->rkAt rk (arrOf y) i=rkAt rk (arrOf y) (lo+x - 1)
theorem DnL.same{x y:Array br}{n:Nat}(d:DnL rk x lo n)(h:∀k,rkAt rk y k=rkAt rk x k):DnL rk y lo n:=fun i j o l=>by rw[h,h];exact d i j o l
theorem DnL.more{xs:Array br}(d:DnL rk xs lo x)(x1:1<=x)(g:rkAt rk xs (lo+x)<=rkAt rk xs (lo+x - 1)):DnL rk xs lo (x+1):=morR (R:=fun a b=>b<=a) (fun o l=>bo l o) d x1 g
theorem UpL.alike{xs:Array br}(u:UpL rk xs lo n)(g:¬rkAt rk xs lo<rkAt rk xs (lo+n - 1)):∀k,lo<=k->k<lo+n->rkAt rk xs k=rkAt rk xs (lo+n - 1):=fun k l o=>by
 obtain⟨k,rfl⟩:=Nat.exists_eq_add_of_le l;have le:∀i j,i<=j->j<n->rkAt rk xs (lo+i)<=rkAt rk xs (lo+j):=fun i j l o=>by rcases fg l with rfl|h;exact aE _;exact u i j h o
 have p:=le 0 k (bp k) (by lia);have q:=le k (n - 1) (by lia) (by lia);rw[<- fJ (by lia)]at q;exact oI q (bo (gA.mp g) p)
theorem mirx{j:Nat}(h:j<x):lo+(lo+x) - 1 - (lo+j)=lo+(x - 1 - j):=by lia
theorem mirl{i j:Nat}(o:i<j)(l:j<x):x - 1 - j<x - 1 - i/\x - 1 - i<x:=by lia
theorem DnL.turn{xs:Array br}(d:DnL rk xs lo x)(h:lo+x<=xs.size):UpL rk (mirror xs lo (lo+x) ((lo+x - lo) / 2)) lo x:=fun i j o l=>by have g:=fS o l;rw[(Vu (rk:=rk) h (lo+i)).1 (cG _ _) (fZ g lo),(Vu (rk:=rk) h (lo+j)).1 (cG _ _) (fZ l lo),mirx g,mirx l];exact d _ _ (mirl o l).1 (mirl o l).2
theorem zov{Q:Option Nat->aV->Prop}(c:Cmp prog w A s kd rk a0)(Y:lo+m<=a0.size)(m1:1<=m)(b:Sl rk kd a0 z0 lo z)
  (h:∀k y,Sl rk kd a0 z0 lo y->1<=k->k<=m->UpL rk (arrOf y) lo k->Q (some k) y):wpS (model prog w) A E s (countRun' lo m) Q z:=by
 refine zks c Y b (av 1) m1 (fun i j G L=>absurd G (by lia)) fun n y b J nm u l=>?_;dsimp(zeta:=false) only
 extract_lets _ _ _ _ jp
 refine Jf (fun e=>aF (h n y b J nm u)) fun e=>?_;have l:=l.resolve_left fun g=>e (g▸beq_self_eq_true _);have R:∀y,Sl rk kd a0 z0 lo y->DnL rk (arrOf y) lo (n+1)->wpS (model prog w) A E s (jp ⟨⟩) Q y:=fun y b d=>by
  refine bt (kj (dM ⟨rfl,?_⟩));refine J5 l.1 (fun x c y=>c.1=x/\Fall rk kd a0 z0 lo c.1 c.2 y) (fun c y=>c.1<=m/\Fall rk kd a0 z0 lo c.1 c.2 y) (fun _ _=>False) ⟨rfl,b,d,nB n,fun i i1 S=>by rw[show i=lo+(n+1) - 1 by lia]⟩ (fun x _ hx b y ⟨ex,F⟩=>?_) (fun c y I=>⟨kQ I.1,I.2⟩) (fun b y ⟨l,F⟩=>?_) fun _ _ _ h=>h.elim;have Z:=F.ex;have G:lo+b.1<a0.size:=by lia
  have L:lo+b.1 - 1<a0.size:=by lia
  have ex:=congrArg (·+1) ex;dsimp(zeta:=false) only;refine askL c F.sl G L ?_;dsimp(zeta:=false) only
  extract_lets _ jp jp2 _
  refine Jf (fun g=>?_) fun g=>askL c F.sl L G (Jf (fun _=>aF (.stop ⟨by lia,F⟩)) fun g2=>aF (.go ⟨ex,F.sl,F.dn.more (by lia) ?_,oe Z,?_⟩));have N:∀C,Sl rk kd a0 z0 lo C->(∀k,rkAt rk (arrOf C) k=rkAt rk (arrOf y) k)->wpS (model prog w) A E s (jp2 ⟨⟩) (Tn (fun c y=>c.1=x+1/\Fall rk kd a0 z0 lo c.1 c.2 y) (fun c y=>c.1<=m/\Fall rk kd a0 z0 lo c.1 c.2 y) fun _ _=>False) C:=fun C v s=>aF (.go ⟨ex,v,.same (F.dn.more (by lia) (cf (of_decide_eq_true g))) s,nB _,fun i i1 S=>by rw[show i=lo+(b.1+1) - 1 by lia]⟩);exact Jf (fun _=>revs F.sl (by lia) F.al N) fun _=>N y F.sl fun _=>rfl;exact gA.mp fun l=>g2 (decide_eq_true l);intro i i1 S;show _=rkAt rk _ (lo+b.1);rcases iN (gU S) with h|rfl;rw[F.al i (by lia) h];exact oI (gA.mp fun l=>g (decide_eq_true l)) (gA.mp fun l=>g2 (decide_eq_true l));rfl;dsimp(zeta:=false) only
  extract_lets _ _ _ jp
  have N:∀y,Sl rk kd a0 z0 lo y->DnL rk (arrOf y) lo b.1->wpS (model prog w) A E s (jp ⟨⟩) Q y:=fun y v d=>by
   have hz:lo+b.1<=(arrOf y).size:=by rw[v.sz];lia
   exact bt (wpS_reverse (zks c Y (v.arr (mirror_perm _ _ _ _) fun j R=>(Vu (rk:=rk) hz j).2 (.inl R)) (dY (bp _) F.ex) l (d.turn hz) fun n y b J nm u _=>aF (h n y b J nm u)))
  exact Jf (fun _=>revs F.sl (by lia) F.al fun C v s=>N C v (F.dn.same s)) fun _=>N y F.sl F.dn
 clear_value jp;have U:=cf l.2;refine Jf (fun g=>askL c b (by lia) (by lia) (Jf (fun _=>aF (h n y b J nm u)) fun r=>?_)) fun g=>R y b (.more (fun i j G L=>absurd G (by lia)) J U);have al:=u.alike fun g=>r (decide_eq_true g);exact revs b (by lia) al fun C v s=>R C v (.same (.more (fun i j G L=>by rw[al _ (by lia) (by lia),al (lo+i) (by lia) (by lia)];exact aE _) J U) s)
theorem zro{l r:Nat}(g:l<r):l<=(l+r) / 2/\(l+r) / 2<r:=by lia
theorem zp3{Q:Bool->aV->Prop}{ok:Nat}(c:Cmp prog w A s kd rk a0)(hn:lo+n<=a0.size)(Z:1<=n)(hok:ok<=n)(b:Sl rk kd a0 z0 lo z)(up:UpL rk (arrOf z) lo ok)
  (h:∀y,Sl rk kd a0 z0 lo y->UpL rk (arrOf y) lo n->Q true y):wpS (model prog w) A E s (binarySort' lo n ok) Q z:=by
 refine J5 (Nat.max_le.mpr ⟨hok,Z⟩) (fun k _ y=>Sl rk kd a0 z0 lo y/\UpL rk (arrOf y) lo k) (fun _ y=>Sl rk kd a0 z0 lo y/\UpL rk (arrOf y) lo n) (fun _ _=>False) ⟨b,fun i j G J=>up i j G (by lia)⟩ (fun k k1 k2 _ y ⟨b,u⟩=>?_) (fun _ _ I=>I) (fun _ y I=>aF (h y I.1 I.2)) fun _ _ _ h=>h.elim;have f:Fal (fun i=>!decide (rkAt rk (arrOf y) (lo+k)<rkAt rk (arrOf y) (lo+i))) k:=fun i j G J h=>by rcases fg G with rfl|g;exact h;have:=u i j g J;simp at h ⊢;exact bo this h
 refine J5 k.zero_le (fun x c v=>v=y/\Srch (fun i=>!decide (rkAt rk (arrOf y) (lo+k)<rkAt rk (arrOf y) (lo+i))) k c.1 c.2/\c.2 - c.1<=k - x) (fun c v=>v=y/\Srch (fun i=>!decide (rkAt rk (arrOf y) (lo+k)<rkAt rk (arrOf y) (lo+i))) k c.1 c.1) (fun _ _=>False) ⟨rfl,⟨k.zero_le,av k,fun i hi=>by lia,fun i i1 i2=>by lia⟩,av _⟩ (fun x _ hx l v I=>?_) (fun c v I=>⟨I.1,I.2.1.fin2 (stp0 I.2.2)⟩) (fun l v I=>?_) fun _ _ _ h=>h.elim;dsimp only;obtain⟨rfl,S,hd⟩:=I;refine Jf (fun g=>aF (.stop ⟨rfl,S.fin2 g⟩)) fun g=>?_;have⟨g1,g2⟩:=zro (mT.mp g);have rn:=S.rn;refine askL c b (by lia) (by lia) (Jf (fun e=>?_) fun e=>?_);exact aF (.go ⟨rfl,S.dn f g1 g2 (congrArg (!·) e),stp2 hd g2 hx⟩);exact aF (.go ⟨rfl,S.up f g2 (congrArg (!·) (cR.mpr e)),stp1 hd g1 hx⟩);obtain⟨rfl,S⟩:=I;have hl:=S.lr;have hl:=S.rn;have q4:∀i,i<l.1->rkAt rk (arrOf v) (lo+i)<=rkAt rk (arrOf v) (lo+k):=fun i hi=>by simpa using S.lo i hi
 have N:∀i,l.1<=i->i<k->rkAt rk (arrOf v) (lo+k)<rkAt rk (arrOf v) (lo+i):=fun i G J=>by simpa using S.hi i G J
 show wpS (model prog w) A E s (moveDown' (lo+k) (lo+l.1) >>= fun _=>pure (gu (none,()))) _ v;rw[moveDown'_eq];have R:lo+k<(arrOf v).size:=by rw[b.sz];lia
 have C:∀j,_:=fun j=>zqG (rk:=rk) R (show lo+k - (lo+l.1)<=lo+k by omega) j;rw[show lo+k - (lo+k - (lo+l.1))=lo+l.1 by lia]at C;refine bt (kP (aF (.go ⟨b.arr (bubble_perm _ _ _) fun j hj=>(C j).2.2 (by lia),fun i j G J=>?_⟩)));show rkAt rk (bubble (arrOf v) (lo+k) (lo+k - (lo+l.1))) (lo+i)<=rkAt rk (bubble (arrOf v) (lo+k) (lo+k - (lo+l.1))) (lo+j);obtain⟨a1,a2,L⟩:=C (lo+i);obtain⟨U,b2,Y⟩:=C (lo+j);rcases cw j l.1 with jl|jl|jl;rw[L (by lia),Y (by lia)];exact u i j G (by lia);rw[L (by lia),U (by lia)];exact q4 i (by lia);rw[b2 (by lia) (by lia),fJ (dY (bp _) jl)];rcases cw i l.1 with il|il|il;rw[L (by lia)];exact u i (j - 1) (by lia) (by lia);rw[a1 (by lia)];exact cf (N (j - 1) (by lia) (by lia));rw[a2 (by lia) (by lia),fJ (dY (bp _) il)];exact u _ _ (by omega) (by omega)
end
end
abbrev Run3:=Nat×Nat×Nat
def Side:List Run3->Nat->Nat->Prop
 | [],a,b=>a=b
 | q::r,a,b=>q.1=a/\0<q.2.1/\Side r (a+q.2.1) b
theorem Z1:∀{l m:List Run3}{a b:Nat},Side (l++m) a b↔∃c,Side l a c/\Side m c b
 | [],m,a,b=>⟨fun h=>⟨a,rfl,h⟩,fun⟨c,e,h⟩=>by cases e;exact h⟩
 | q::l,m,a,b=>by constructor;rintro⟨x,o,C⟩;obtain⟨c,u,v⟩:=Z1.mp C;exact⟨c,⟨x,o,u⟩,v⟩;rintro⟨c,⟨x,o,u⟩,v⟩;exact⟨x,o,Z1.mpr ⟨c,u,v⟩⟩
theorem ZN:∀{l:List Run3}{a b:Nat},Side l a b->a+l.length<=b/\∀q∈l,a<=q.1/\q.1+q.2.1<=b
 | [],a,b,h=>⟨by cases h;simp,fun q o=>nomatch o⟩
 | p::l,a,b,⟨h1,h2,h3⟩=>by obtain⟨i1,u⟩:=ZN h3;refine⟨by simp only[aG];lia,fun q o=>?_⟩;rcases ay.mp o with rfl|m;lia;have:=u q m;lia
theorem ziz{f:Run3->Run3}(hf:∀q,(f q).1=q.1/\(f q).2.1=q.2.1):∀{l:List Run3}{i a b:Nat},Side l a b->Side (l.modify i f) a b/\∀u∈l.modify i f,∃q∈l,u.1=q.1/\u.2.1=q.2.1
 | [],i,a,b,h=>by simp only[List.modify_nil];exact⟨h,fun q o=>nomatch o⟩
 | p::l,0,a,b,⟨h1,h2,h3⟩=>by rw[List.modify_zero_cons];refine⟨⟨(hf p).1.trans h1,(hf p).2▸h2,(hf p).2▸h3⟩,fun q o=>?_⟩;rcases ay.mp o with rfl|m;exact⟨p,bZ,hf p⟩;exact⟨q,bK _ m,rfl,rfl⟩
 | p::l,i+1,a,b,⟨h1,h2,h3⟩=>by rw[List.modify_succ_cons];obtain⟨i1,x⟩:=ziz hf (i:=i) h3;refine⟨⟨h1,h2,i1⟩,fun q o=>?_⟩;rcases ay.mp o with rfl|m;exact⟨q,bZ,rfl,rfl⟩;obtain⟨u,v,e⟩:=x q m;exact⟨u,bK _ v,e⟩
theorem zgG{α:Type}{x y v:α}:∀(l r:List α),((l++x::y::r).set l.length v).eraseIdx (l.length+1)=l++v::r
 | [],r=>rfl
 | a::l,r=>by have:=zgG (x:=x) (y:=y) (v:=v) l r;simp only[cj,aG,d5,kc,this]
structure Rn(rk:ae->Int)(kd:dZ)(a0:Array br)(lo:Nat)(z:aV):Prop where
 pm:(arrOf z).Perm a0
 kn:kindOf z=kd
 fl:failedOf z=none
 sd:Side (pendingOf z).toList 0 lo
 ls:lo<=a0.size
 up:∀q∈(pendingOf z).toList,UpL rk (arrOf z) q.1 q.2.1
theorem UpL.same{rk:ae->Int}{xs ys:Array br}{lo m:Nat}(u:UpL rk xs lo m)(e:∀j,lo<=j->j<lo+m->rkAt rk ys j=rkAt rk xs j):UpL rk ys lo m:=fun i j o l=>by rw[e (lo+i) (by lia) (by lia),e (lo+j) (by lia) (by lia)];exact u i j o l
section
variable{prog:aK}{w:ba}{A:aX}{E:qV}{s:aj}{kd:dZ}{rk:ae->Int}{a0:Array br}{z0:aV}{lo:Nat}
theorem zn1{i:Nat}{z:aV}{Q:Bool->aV->Prop}(c:Cmp prog w A s kd rk a0)(R:Rn rk kd a0 lo z)(hi:i+1<(pendingOf z).size)
  (h:∀y,Rn rk kd a0 lo y->(pendingOf y).size+1=(pendingOf z).size->(∀j,lo<=j->rkAt rk (arrOf y) j=rkAt rk (arrOf z) j)->Q true y):wpS (model prog w) A E s (mergeAt' i) Q z:=by
 obtain⟨l,⟨sa,na,pw⟩,⟨sb,nb,pw2⟩,r,u,N⟩:∃l x y r,(pendingOf z).toList=l++x::y::r/\l.length=i:=by
  have h1:i<(pendingOf z).toList.length:=by simp;lia
  have h2:i+1<(pendingOf z).toList.length:=by simp;omega
  refine⟨(pendingOf z).toList.take i,(pendingOf z).toList[i],(pendingOf z).toList[i+1],(pendingOf z).toList.drop (i+2),?_,by simp;lia⟩;rw[<- bF h2,<- bF h1,bu]
 have sd:=R.sd;rw[u]at sd;obtain⟨_,s1,rfl,J,rfl,q4,I⟩:=Z1.mp sd;have up:=R.up;rw[u]at up;obtain⟨t1,t2⟩:=ZN I;have t3:=ZN s1;have ls:=R.ls;dsimp only at u J q4 I t1 t2 s1 t3 up;have sz:(arrOf z).size=a0.size:=R.pm.size_eq;obtain⟨P,U,V,S,e,rfl,rfl,rfl⟩:∃P U V S,(arrOf z).toList=P++(U++(V++S))/\P.length=sa/\U.length=na/\V.length=nb :=
  ⟨(arrOf z).toList.take sa,((arrOf z).toList.drop sa).take na,((arrOf z).toList.drop (sa+na)).take nb,(arrOf z).toList.drop (sa+na+nb),by rw[<- cut2,<- cut2,bu],by simp;lia,by simp;lia,by simp;lia⟩
 have e2:(arrOf z).toList=(P++U)++(V++S):=by rw[e,aA]
 have e3:(arrOf z).toList=P++((U++V)++S):=by rw[e,aA]
 refine zjz (pw:=pw) (pw2:=pw2) c R.kn R.fl (fun p=>(d4.mp R.pm).mem_iff.mp) e ?_ ?_ J q4 ((Q0 e rfl rfl).mp (up (P.length,U.length,pw) (by simp))) ((Q0 e2 aH rfl).mp (up (P.length+U.length,V.length,pw2) (by simp))) fun Y T ky fy pe G Z rT=>?_;rw[<- bq,u,<- N,aU (av _),ff];rfl;rw[<- bq,u,<- N,aU (cG _ 1),km];rfl;have C:=Z.length_eq;rw[aH]at C;have out:∀j,j<P.length\/P.length+(U.length+V.length)<=j->rkAt rk (arrOf Y) j=rkAt rk (arrOf z) j:=fun j v=>UR (by rw[<- bq,<- bq,G,e3];rcases v with v|v;rw[bg v,bg v];rw[aU (by lia),aU (by lia),aU (by lia),aU (by simp;lia),aH,C]);have pl:(pendingOf Y).toList=l++(P.length,U.length+V.length,pw)::r:=by rw[pe];subst N;rw[Array.toList_eraseIdxIfInBounds,Array.toList_setIfInBounds,u];exact zgG l r
 refine h Y ⟨?_,ky,fy,?_,ls,?_⟩ ?_ fun j v=>out j (.inr (by lia));refine Array.Perm.trans ?_ R.pm;rw[d4,G,e3];exact(Z.append_right S).append_left P;rw[pl];refine Z1.mpr ⟨_,s1,rfl,Nat.add_pos_left J _,?_⟩;show Side r (P.length+(U.length+V.length)) lo;rw[<- sr];exact I;rw[pl];intro q hq;rcases ai.mp hq with m|m;exact(up q (by simp[m])).same fun j j1 j2=>out j (.inl (by have:=t3.2 q m;lia));rcases ay.mp m with rfl|m;exact C▸(Q0 G rfl rfl).mpr rT;exact(up q (by simp[m])).same fun j j1 j2=>out j (.inr (by have:=t2 q m;lia));rw[<- bz,<- bz,pl,u];simp;lia
theorem ziA{z:aV}{Q:Unit->aV->Prop}(c:Cmp prog w A s kd rk a0)(b:Sb kd a0 z)(s2:2<=a0.size)
  (h:∀y,(arrOf y).Perm a0->failedOf y=none->Up rk (arrOf y) a0.size->Q () y):wpS (model prog w) A E s sortRuns' Q z:=by
 refine bt (iB ?_)
 extract_lets n mr
 have en:n=a0.size:=b.sz;clear_value mr n;subst en;refine J5 (bp _) (fun x lo y=>Rn rk kd a0 lo y/\x<=lo) (fun lo y=>Rn rk kd a0 lo y/\a0.size<=lo) (fun _ _=>False) ⟨⟨b.pm,b.kn,b.fl,by rw[b.pe];rfl,bp _,by rw[b.pe];intro q G;simp at G⟩,bp _⟩ (fun x _ hx lo y ⟨R,hl⟩=>?_) (fun _ _ I=>I) (fun lo y ⟨R,hl⟩=>?_) fun _ _ _ h=>h.elim;dsimp(zeta:=false) only;refine Jf (fun g=>aF (.stop ⟨R,g⟩)) fun g=>?_;have g:lo<a0.size:=mT.mp g;refine bt (zov (z0:=y) (lo:=lo) c (by lia) (by lia) ⟨R.pm,R.kn,R.fl,rfl,fun _ _=>rfl⟩ fun k C S1 k1 k2 u1=>?_);dsimp(zeta:=false) only
 extract_lets k' jp f
 have J:∀n C,1<=n->lo+n<=a0.size->Sl rk kd a0 y lo C->UpL rk (arrOf C) lo n->wpS (model prog w) A E s (jp () n) (Tn (fun lo y=>Rn rk kd a0 lo y/\x+1<=lo) (fun lo y=>Rn rk kd a0 lo y/\a0.size<=lo) fun _ _=>False) C:=fun n C n1 n2 S u=>by
  refine bt (iB ?_)
  extract_lets _ jp2
  have R1:Rn rk kd a0 lo C:=⟨S.pm,S.kn,S.fl,S.pe▸R.sd,R.ls,fun q G=>(R.up q (S.pe▸G)).same fun j j1 j2=>S.lw j (by have:=(ZN R.sd).2 q (S.pe▸G);lia)⟩;have J:∀l,Rn rk kd a0 lo l->UpL rk (arrOf l) lo n->wpS (model prog w) A E s (jp2 ⟨⟩) (Tn (fun lo y=>Rn rk kd a0 lo y/\x+1<=lo) (fun lo y=>Rn rk kd a0 lo y/\a0.size<=lo) fun _ _=>False) l:=fun l R u=>by have e:(pendingOf (setPending l ((pendingOf l).push (lo,n,0)))).toList=(pendingOf l).toList++[(lo,n,0)]:=iY;refine bt (kP (aF (.go ⟨⟨R.pm,R.kn,R.fl,e▸Z1.mpr ⟨lo,R.sd,rfl,n1,rfl⟩,n2,?_⟩,by lia⟩)));intro q G;rcases ai.mp (e▸G:q∈(pendingOf l).toList++[(lo,n,0)]) with m|m;exact R.up q m;cases ax.mp m;exact u
  clear_value jp2;cases hb:(pendingOf C).back? with
  | none=>exact J C R1 u
  | some q =>
   dsimp(zeta:=false) only
   extract_lets pw
   clear_value pw;refine J5 (bp _) (fun _ _ v=>Rn rk kd a0 lo v/\UpL rk (arrOf v) lo n) (fun _ v=>Rn rk kd a0 lo v/\UpL rk (arrOf v) lo n) (fun _ _=>False) ⟨R1,u⟩ (fun _ _ _ _ v I=>?_) (fun _ _ I=>I) (fun _ v ⟨R,u⟩=>?_) fun _ _ _ h=>h.elim;refine bt (iB ?_);dsimp only;cases e:(if (pendingOf v).size > 1 then(pendingOf v)[(pendingOf v).size - 2]? else none) with
   | none=>exact aF (.stop I)
   | some o =>refine Jf (fun _=>aF (.stop I)) fun _=>bt (zn1 c I.1 ?_ fun y' Z _ out=>aF (.go ⟨Z,I.2.same fun j j1 _=>out j j1⟩));by_cases g:(pendingOf v).size > 1;lia;rw[if_neg g]at e;cases e
   have m:=ziz (f:=fun x=>(x.1,x.2.1,pw)) (fun q=>⟨rfl,rfl⟩) (i:=(pendingOf v).size - 1) R.sd;refine bt (kP (J _ ⟨R.pm,R.kn,R.fl,?_,R.ls,?_⟩ u));show Side ((pendingOf v).modify _ _).toList 0 lo;rw[mF];exact m.1;show ∀q∈((pendingOf v).modify _ _).toList,UpL rk (arrOf v) q.1 q.2.1;rw[mF];intro q G;obtain⟨q',m',U,N⟩:=m.2 q G;rw[U,N];exact R.up q' m'
 clear_value jp;refine Jf (fun g=>?_) fun _=>J k C k1 (by lia) S1 u1;exact bt (kj (dM ⟨rfl,bt (zp3 c (n:=f) (by lia) (by lia) (by lia) S1 u1 fun l S2 u2=>J f l (by lia) (by lia) S2 u2)⟩));have el:lo=a0.size:=gv R.ls hl;subst el;dsimp only;have p0:=(ZN R.sd).1;rw[bz,du]at p0;refine J5 (bp _) (fun x _ v=>Rn rk kd a0 a0.size v/\((pendingOf v).size<=1\/(pendingOf v).size+x<=a0.size)) (fun _ v=>Rn rk kd a0 a0.size v/\(pendingOf v).size<=1) (fun _ _=>False) ⟨R,.inr p0⟩ (fun x _ hx _ v ⟨R,sz⟩=>?_) (fun _ v I=>⟨I.1,by lia⟩) (fun _ v ⟨R,sz⟩=>aF (h v R.pm R.fl ?_)) fun _ _ _ h=>h.elim;refine bt (iB ?_);refine Jf (fun g=>aF (.stop ⟨R,g⟩)) fun g=>bt (zn1 c R ?_ fun y' Z e _=>aF (.go ⟨Z,.inr (by lia)⟩));have Y:∀(p:Prop) [Decidable p] (a b n:Nat),a<=n->b<=n->(if p then a else b)<=n:=by intros;split <;> assumption
 exact dY (b9 (Y _ _ _ ((pendingOf v).size - 2) (hJ _ _) (av _)) 1) (by lia);have sd:=R.sd;have up:=R.up;rw[<- bz]at sz;generalize (pendingOf v).toList=L at sd up sz;match L,sd,up,sz with
 | [],sd,_,_ =>have:(0:Nat)=a0.size:=sd;lia
 | [q],sd,up,_ =>obtain⟨U,_,N⟩:=sd;have N:0+q.2.1=a0.size:=N;have u:=up q (by simp);intro i j h1 h2;have:=u i j h1 (by lia);rw[U]at this;simpa using this
 | _::_::_,_,_,sz=>simp at sz
end
def SrtL{α:Type}(f:α->Int)(l:List α):Prop:=l.length<100000
theorem zop{α:Type}{f:α->Int}{l:List α}(h:l.length<100000):SrtL f l:=h
theorem Vp{α:Type}{f:α->Int}{l:List α}(h:SrtL f l):l.length<100000:=h
theorem zmp{α o:Type}{f:α->Int}{g:o->Int}{l:List α}{m:List o}(h:SrtL f l)(e:l.map f=m.map g):SrtL g m:=by
 have u:l.length=m.length:=by simpa using congrArg bL e
 show m.length<_;rw[<- u];exact h
theorem zmx{prog:aK}{w:ba}{A:aX}{E:qV}{s:aj}{o:dZ}{rk:ae->Int}{vs:List ae}{z:aV}{Q:Unit->aV->Prop}(c:Cmp prog w A s o rk (pairsOf vs))(b:Sb o (pairsOf vs) z)(u:arrOf z=pairsOf vs)(s2:2<=(pairsOf vs).size)(l:SrtL rk vs)
  (h:∀y,(arrOf y).Perm (pairsOf vs)->failedOf y=none->Up rk (arrOf y) (pairsOf vs).size->Q () y):wpS (model prog w) A E s sortRuns' Q z:=ziA c b s2 h
def midH(h:bB)(a:af)(vs:List ae):bB:=((h.update a (bw fun _=>#[])).push (seqObj "tuple" vs.toArray 0)).push (seqObj "list" #[] 0)
section
variable{prog:aK}{w:ba}{A:aX}{E:qV}{s:aj}{rk:ae->Int}
def Kinds(prog:aK)(w:ba)(A:aX)(s:aj)(rk:ae->Int)(vs:List ae):Prop:=2<=vs.length->∃l,(∀(E:qV) (Q:dZ->aj->Prop),Q l s->wpAny (model prog w) A (keyKind' vs.toArray) Q E s)/\Cmp prog w A s l rk (pairsOf vs)
theorem zm3{a:af}{vs:List ae}{n:Nat}{P:Fin->aj->Prop}(v:s.heap.get? a=some (seqObj "list" vs.toArray n)) (l:SrtL rk vs) (N:Kinds prog w A { s with heap:=midH s.heap a vs } rk vs)
  (h:∀y:aV,(arrOf y).Perm (pairsOf vs)->Up rk (arrOf y) vs.length->P (.done (.ret .none)) { s with heap:=sortedHeap s.heap a vs ((arrOf y).map (·.2)) }) :
  wpAny (model prog w) A (dG.«list.sort» ⟨[.ref a],[]⟩) P E s:=by
 have hz:vs.length<100000:=Vp l;rw[list_sort_plain];have la:a<s.heap.objs.size:=aD v;refine aa (ft v rfl (aa (fD v rfl ?_)));obtain⟨u,J⟩:∃u,(s.heap.update a (bw fun _=>#[])).get? a=some (seqObj "list" #[] u):=⟨_,gx v (fun _=>#[])⟩;refine aa (l4 J rfl (aa (pK (aa (ic (bW ?_))))));have I:(midH s.heap a vs).get? a=some (seqObj "list" #[] u):=by unfold midH;rw[cS _ _ _ (by rw[fO,dX];exact aJ (au la (fP _))),cS _ _ _ (by rw[dX];exact aJ la)];exact J
 show wpAny (model prog w) A _ P E { s with heap:=midH s.heap a vs };have z:vs.toArray.size=vs.length:=by simp
 have tail:∀(y:aV),(arrOf y).Perm (pairsOf vs)->failedOf y=none->Up rk (arrOf y) vs.length->wpAny (model prog w) A (do
   let touched:=(<- seqEpoch a) != u
   sV (.ref a) fun _=>(arrOf y).map (·.2)
   if let some e:=failedOf y then rule "list.sort.comparison-raised";throw e
   if touched then rule "list.sort.modified";raiseError "ValueError" "list modified during sort"
   ret .none) P E { s with heap:=midH s.heap a vs }:=fun y pm fl up=>by
  refine aa (l4 I rfl (aa (fD I rfl ?_ (hsz2:=?_))));rw[fl];simp only[bne_self_eq_false,aO,if_false];exact ag (h y pm up);rw[pL,pm.size_eq,nC];show vs.length<=sizeLine+1;have:=Vp l;have:100000<=sizeLine:=by decide
  omega
 by_cases two:vs.length<2;simp only[z,two,if_true];refine aa (ag ?_);rw[oJ];refine aa (ag ?_);exact tail (mW general' (vs.toArray.zip vs.toArray) #[] 7 none) (iw _) rfl fun i j Y L=>absurd L (by omega);simp only[z,two,if_false];obtain⟨U,R,S⟩:=N (by omega);refine aa (R _ _ ?_);refine aa (bN (zmx (Q:=fun _ y=>(arrOf y).Perm (pairsOf vs)/\failedOf y=none/\Up rk (arrOf y) vs.length) (z:=mW U (vs.toArray.zip vs.toArray) #[] 7 none) S ⟨iw _,rfl,rfl,rfl⟩ rfl (by rw[nC];omega) l
  fun y x G C=>⟨x,G,by rwa [nC]at C⟩) ?_ fun _ _ e=>e)
 rintro⟨⟨⟩,y⟩ s' ⟨rfl,x,G,C⟩;exact tail y x G C
theorem zeG{l:af}{vs:List ae}{o:Obj}{T:String}{n:Nat}{Q:List ae->aj->Prop}(G:s.heap.get? l=some o)(hc:o.cls=.type T)(J:T = "list" \/ T = "tuple") (hd:o.data=.seq vs.toArray n) (hz:vs.length<=sizeLine)
  (h:Q vs { s with heap:=(s.heap.push (seqObj "list" #[] 0)).update s.heap.objs.size (bw (·++vs.toArray)) }):wpAny (model prog w) A (collect (.ref l)) Q E s:=by
 unfold collect;refine aa (wpAny_runValue (gy entry_proto_collect' ?_));show wpAny (model prog w) _ (newList [] >>= fun x=>again (.builtin "list.__iadd__" ⟨[x,.ref l],[]⟩)) _ _ s;refine aa (ic (ag ⟨gC _ (by decide +kernel),gy entry_list_iadd' ?_⟩));show wpAny (model prog w) _ (dR (.ref s.heap.objs.size) (.ref l) (.ref s.heap.objs.size)) _ _ { s with heap:=s.heap.push (seqObj "list" #[] 0) };unfold dR;have v:(s.heap.push (seqObj "list" #[] 0)).get? l=some o:=aq _ G;refine aa (iD (T:=T) ⟨o,v,hc⟩ ?_);have cond:∀b:Bool,(b||bC T == bC "list" ||bC T == bC "tuple")=true:=by intro b;have I:(bC "list" == bC "list")=true:=rfl;have C:(bC "tuple" == bC "tuple")=true:=rfl;rcases J with rfl|rfl;rw[I];simp;rw[C];simp
 rw[if_pos (cond _)];refine aa (ft v hd (aa (ft (xs:=#[]) (n:=0) (aB _ rfl) rfl ?_)));rw[if_neg (by simp)];refine aa (fD (xs:=#[]) (n:=0) (aB _ rfl) rfl (ag ?_) (bp _) (by simp only[nD,aw,bT];omega));refine aa (m:=load s.heap.objs.size) (oZ (gx (aB _ rfl) _) ?_);show wpAny (model prog w) A (pure ((#[]:Array ae)++vs.toArray).toList) Q E _;have e:((#[]:Array ae)++vs.toArray).toList=vs:=by simp
 rw[e];exact ag h
end
section
variable{prog:aK}{w:ba}{A:aX}{E:qV}{s:aj}
theorem zlj(b:Bool)(x y:ae):keyLt' (tuples' b) x y=(do
  let xs <- fu x;let ys <- fu y
  for ((p,q),i) in (xs.toList.zip ys.toList).zipIdx do
   if !(<- eqBool p q) then return <- oneLt' (b&&i == 0) p q
  return decide (xs.size<ys.size)):=rfl
def LtAt(prog:aK)(w:ba)(A:aX)(s:aj)(one:Bool)(p q:ae)(l:Bool):Prop:=∀(E:qV) (Q:Bool->aj->Prop),Q l s->wpAny (model prog w) A (oneLt' one p q) Q E s
theorem zli{b:Bool}{x y:af}{S U:Obj}{v l C u:ae}{n m:Nat}{G J N R:Bool}{Q:Bool->aj->Prop}(hx:s.heap.get? x=some S)(dx:S.data=.seq #[v,l] n)(hy:s.heap.get? y=some U)(dy:U.data=.seq #[C,u] m)
  (e0:o8 A s v C G) (Y:o8 A s l u J) (t0:G=false->LtAt prog w A s b v C N) (t1:J=false->LtAt prog w A s false l u R) (h:Q (if G=true then(if J=true then false else R) else N) s) :
  wpAny (model prog w) A (keyLt' (tuples' b) (.ref x) (.ref y)) Q E s:=by
 rw[zlj];refine aa (ft hx dx (aa (ft hy dy ?_)));have Z:((#[v,l]:Array ae).toList.zip (#[C,u]:Array ae).toList).zipIdx=[((v,C),0),((l,u),1)]:=rfl;simp only[Z,oB,lQ];refine aa (aa ?_);refine aa (e0 prog w E _ ?_);cases G with
 | false =>
  simp only[d6,if_true];have z0:(b&&(0:Nat) == 0)=b:=by simp
  rw[z0];refine aa (t0 rfl E _ ?_);exact ag (ag (ag (by simpa using h)))
 | true =>
  simp only[fE,aO,if_false];refine ag (aa (aa (Y prog w E _ ?_)));cases J with
  | false =>
   simp only[d6,if_true];have z1:(b&&(1:Nat) == 0)=false:=by simp
   rw[z1];refine aa (t1 rfl E _ ?_);exact ag (ag (ag (by simpa using h)))
  | true =>simp only[fE,aO,if_false];exact ag (ag (ag (by simpa using h)))
theorem zk5(a b:Int)(t u:Tok):LtAt prog w A s true (.int a t) (.int b u) (decide (a<b)):=fun _ _ q=>oneLt_int q
theorem zm2(a b:Int)(t u:Tok):LtAt prog w A s false (.int a t) (.int b u) (decide (a<b)):=fun E Q q=>by rw[oneLt'_eq];simp only[aO,if_false];refine aa (show wpAny (model prog w) A (compareOp .Lt (.int a t) (.int b u)) _ E s from lt_int ?_);exact bO q
def PrIn(h:bB)(u:ae)(b k:Int):Prop:=∃(a:af) (o:Obj) (t t':Tok) (n:Nat),u=.ref a/\h.get? a=some o/\o.cls=.type "tuple" /\ o.data=.seq #[.int b t,.int k t'] n
def two?:List ae->Int
 | [.int b _,.int k _]=>b*1000+k
 | _=>0
def rkC(h:bB)(u:ae):Int:=match u with
 | .ref a=>match h.get? a with
  | some o=>match o.data with
   | .seq xs _=>two? xs.toList
   | _=>0
  | none=>0
 | _=>0
theorem PrIn.rk{h:bB}{u:ae}{b k:Int}(p:PrIn h u b k):rkC h u=b*1000+k:=by obtain⟨a,o,t,t',n,rfl,l,_,v⟩:=p;unfold rkC;dsimp only;rw[l];dsimp only;rw[v];rfl
theorem PrIn.kept{h h':bB}{u:ae}{b k:Int}(p:PrIn h u b k)(kp:∀b o,h.get? b=some o->h'.get? b=some o):PrIn h' u b k:=by obtain⟨a,o,t,t',n,v,l,C,x⟩:=p;exact⟨a,o,t,t',n,v,kp _ _ l,C,x⟩
theorem zfY{α u:Type}{f:α->Sem u}{P:α->u->Prop}{M:oV}:∀(l:List α) {Q:List u->aj->Prop},(∀v∈l,∀(G:u->aj->Prop),(∀r,P v r->G r s)->wpAny M A (f v) G E s)->(∀rs,bQ P l rs->Q rs s)->wpAny M A (l.mapM f) Q E s
 | [],_,_,h=>by rw[List.mapM_nil];exact ag (h _ .nil)
 | x::l,Q,hf,h=>by rw[List.mapM_cons];exact aa (hf x (.head _) _ fun r I=>aa (zfY l (fun v J=>hf v (.tail _ J)) fun rs C=>ag (h _ (.cons I C))))
theorem znn(v:ae):firstOfTuple' v=(do
  if (<- typeOf v) != .type "tuple" then return none
  return (<- fu v)[0]?):=rfl
theorem zjQ{vs:List ae}{Q:dZ->aj->Prop}(Y:1<=vs.length)(N:∀v∈vs,∃b k,PrIn s.heap v b k)(h:Q (tuples' true) s):wpAny (model prog w) A (keyKind' vs.toArray) Q E s:=by
 rw[keyKind'_eq,nE,map_eq_pure_bind];refine aa (aa (zfY (P:=fun _ r=>∃(b:Int) (t:Tok),r=some (.int b t)) vs (fun v hv Q' Z=>?_) fun rs J=>ag ?_));obtain⟨b,k,a,o,t,t',n,rfl,R,e2,e3⟩:=N v hv;rw[znn];refine aa (iD (T:="tuple") ⟨o,R,e2⟩ ?_);rw[if_neg (by decide)];exact aa (ft R e3 (ag (Z _ ⟨b,t,rfl⟩)));have al:∀r∈rs,∃(b:Int) (t:Tok),r=some (.int b t):=by
  clear h N Y;induction J with
  | nil=>intro r u;cases u
  | cons x y G =>intro r u;rcases ay.mp u with rfl|u;exact x;exact G r u
 have ln:rs.length=vs.length:=by
  clear h N Y al;induction J with
  | nil=>rfl
  | cons x y G=>simp[G]
 have Iy:(rs.toArray.all fun x=>x.isSome)=true:=by simp only[og,df];intro x hx;obtain⟨b,t,rfl⟩:=al x hx;rfl
 rw[if_pos Iy];refine aa (dM ?_);rw[oneTypeOnly'_eq];have L:rs.toArray.filterMap id=(rs.filterMap id).toArray:=by simp
 rw[L,nE,map_eq_pure_bind];refine aa (aa (aa (zfY (P:=fun _ r=>r=bC "int") _ (fun v hv Q' Z=>?_) fun ts C=>ag ?_)));obtain⟨x,hx,e⟩:=iH.mp hv;obtain⟨b,t,rfl⟩:=al x hx;cases e;exact ag (Z _ rfl);have I:∀r∈ts,r=bC "int":=by
  clear h N Y;generalize rs.filterMap id=l at C;induction C with
  | nil=>intro r u;cases u
  | cons x y G =>intro r u;rcases ay.mp u with rfl|u;exact x;exact G r u
 have ln2:ts.length=rs.length:=by
  have:ts.length=(rs.filterMap id).length:=by
   clear h N Y I;generalize rs.filterMap id=l at C;induction C with
   | nil=>rfl
   | cons x y G=>simp[G]
  rw[this];clear this C L Iy;clear ln J;induction rs with
  | nil=>rfl
  | cons x l G =>obtain⟨b,t,rfl⟩:=al x (.head _);simp only[cU,id,aG];rw[G fun r u=>al r (.tail _ u)]
 obtain⟨S,U,rfl⟩:∃S U,ts=S::U:=by
  cases ts with
  | nil=>simp at ln2;omega
  | cons a b=>exact⟨a,b,rfl⟩
 have R:S=bC "int":=I S (.head _);subst R;have IH:(((bC "int")::U).toArray.all fun x=>x == bC "int")=true:=by simp only[og,df];intro x hx;rw[I x hx];rfl
 have h0:((bC "int")::U).toArray[0]?=some (bC "int"):=by simp
 rw[h0];simp only[IH,if_true];refine ag (ag ?_);exact h
theorem zh4{vs:List ae}{h0:bB}(C:∀v∈vs,∃b k,PrIn s.heap v b k/\rkC h0 v=b*1000+k/\0<=k/\k<1000):Kinds prog w A s (rkC h0) vs:=fun h2=>by
 refine⟨tuples' true,fun E Q q=>zjQ (by omega) (fun v Y=>?_) q,fun p q E Q mp R h=>?_⟩;obtain⟨b,k,h,_⟩:=C v Y;exact⟨b,k,h⟩;have mem:∀z∈(pairsOf vs).toList,z.1∈vs:=fun z hz=>by
  have:z∈vs.zip vs:=by simpa[pairsOf] using hz
  exact(fz this).1
 obtain⟨b,k,⟨a,o,t,t',n,S,I,e2,U⟩,N,k0,k1⟩:=C _ (mem p mp);obtain⟨l,x,⟨a',o',u,G,n',f0,f1,f2,Z⟩,J,k0',k1'⟩:=C _ (mem q R);rw[N,J]at h;rw[S,f0];refine zli I U f1 Z (iM b t l u) (iM k t' x G) (fun _=>zk5 b l t u) (fun _=>zm2 k x t' G) ?_;have:(if (b == l)=true then(if (k == x)=true then false else decide (k<x)) else decide (b<l))=decide (b*1000+k<l*1000+x):=by simp only[beq_iff_eq];split;split;symm;rw[decide_eq_false_iff_not];omega;rw[decide_eq_decide];omega;rw[decide_eq_decide];omega
 rw[this];exact h
end
theorem VJ{α u:Type}{l:List (α×u)}{m:List u}(h:m.Perm (l.map (·.2))):∃o:List (α×u),o.Perm l/\o.map (·.2)=m:=by
 induction m generalizing l with
 | nil =>
  have:l.map (·.2)=[]:=h.symm.eq_nil;cases l with
  | nil=>exact⟨[],.refl _,rfl⟩
  | cons a b=>simp at this
 | cons x m v =>
  have hx:x∈l.map (·.2):=h.mem_iff.mp (.head _);obtain⟨z,hz,rfl⟩:=a7.mp hx;obtain⟨G,I,rfl⟩:=List.append_of_mem hz;have C:(z.2::m).Perm (z.2::(G++I).map (·.2)):=by refine h.trans ?_;simp only[bJ,aC];exact kq
  obtain⟨o,p,e⟩:=v (List.perm_cons _|>.mp C);exact⟨z::o,(p.cons z).trans kq.symm,by simp[e]⟩
theorem zej{α l:Type}{F:α->l->Prop}{l₁:List α}{l₂:List l}(r:bQ F l₁ l₂){b:l}(h:b∈l₂):∃a∈l₁,F a b:=by
 induction r with
 | nil=>cases h
 | cons f t o =>rcases ay.mp h with rfl|h;exact⟨_,bZ,f⟩;obtain⟨b,hb,g⟩:=o h;exact⟨b,bK _ hb,g⟩
theorem zmA{α:Type}{P:α->ae->Prop}{rk:ae->Int}{f:α->Int}{vs:List ae}{I:List α}{y:aV}(hv:bQ P I vs)(hr:∀a v,P a v->rk v=f a)(pm:(arrOf y).Perm (pairsOf vs))(up:Up rk (arrOf y) vs.length) :
  ∃bs:List α,bs.Perm I/\bs.Pairwise (fun a b=>f a<=f b)/\bQ P bs ((arrOf y).map (·.2)).toList:=by
 have u:(arrOf y).toList.Perm (vs.zip vs):=by have:=d4.mp pm;simpa[pairsOf] using this
 have hl:I.length=vs.length:=cK hv;have each:∀x∈I.zip vs,P x.1 x.2:=by
  clear pm up u hl;induction hv with
  | nil=>intro x hx;simp at hx
  | cons h t N =>intro x hx;rcases ay.mp (by simpa using hx) with rfl|hx;exact h;exact N x hx
 have G:((arrOf y).toList.map (·.2)).Perm ((I.zip vs).map (·.2)):=by refine(u.map _).trans ?_;rw[fU (av _),fU (by lia)]
 obtain⟨ws,R,J⟩:=VJ G;have S:∀x∈ws,P x.1 x.2:=fun x hx=>each x (R.mem_iff.mp hx);have Iz:∀z∈(arrOf y).toList,z.1=z.2:=fun z hz=>by have:z∈vs.zip vs:=u.mem_iff.mp hz;obtain⟨i,hi,rfl⟩:=aY this;simp
 have Y:(arrOf y).size=vs.length:=by have:=u.length_eq;simpa using this
 refine⟨ws.map (·.1),?_,?_,?_⟩;have:=R.map (·.1);rwa [oh (by lia)]at this;rw[cx,aQ];intro i j hi hj U;have lw:ws.length=vs.length:=by have:=congrArg bL J;simpa[Y] using this
 have gw:∀k (Z:k<ws.length),rkAt rk (arrOf y) k=f ws[k].1:=fun k Z=>by
  have C:k<(arrOf y).size:=by lia
  have e1:(arrOf y).toList[k]'(by simpa using C)=(arrOf y)[k]:=by simp
  have e2:ws[k].2=(arrOf y)[k].2:=by
   have:(ws.map (·.2))[k]'(by simpa using Z)=((arrOf y).toList.map (·.2))[k]'(by simpa using C):=by simp only[J]
   simpa using this
  have e3:(arrOf y)[k].1=(arrOf y)[k].2:=Iz _ (by rw[<- e1];exact eU _);unfold rkAt;rw[iQ C];simp only[ir,eR];rw[e3,<- e2];exact hr _ _ (S _ (eU _))
 have:=up i j U (by lia);rwa [gw i hi,gw j hj]at this;rw[Array.toList_map,<- J];clear R J G pm up;induction ws with
 | nil=>exact .nil
 | cons a l N=>exact .cons (S a (.head _)) (N fun x hx=>S x (.tail _ hx))
section
variable{prog:aK}{w:ba}{A:aX}{E:qV}{s:aj}{rk:ae->Int}
theorem zh1{h:bB}{vs:List ae}{b:af}{o:Obj}(hb:h.get? b=some o):(midH (h.push (seqObj "list" vs.toArray 0)) h.objs.size vs).get? b=some o:=by have l:b<h.objs.size:=aD hb;unfold midH;rw[cS _ _ _ (by rw[fO,dX,fO];lia),cS _ _ _ (by rw[dX,fO];lia),iz _ _ _ _ (aJ l),cS _ _ _ (aJ l)];exact hb
theorem zki{vs:List ae}{P:qV}(l:SrtL rk vs)(x:Kinds prog w A { s with heap:=midH (s.heap.push (seqObj "list" vs.toArray 0)) s.heap.objs.size vs } rk vs)
  (h:∀h' (y:aV) (e:Nat),(∀b o,s.heap.get? b=some o->h'.get? b=some o)->(arrOf y).Perm (pairsOf vs)->Up rk (arrOf y) vs.length->h'.get? s.heap.objs.size=some (seqObj "list" ((arrOf y).map (·.2)) e)->P .none { s with heap:=h' }) :
  wpAny (model prog w) A (dG.«list.sort» ⟨[.ref s.heap.objs.size],[]⟩) (fun f s'=>∃v,f=.done (.ret v)/\P v s') E { s with heap:=s.heap.push (seqObj "list" vs.toArray 0) }:=by
 have u:(s.heap.push (seqObj "list" vs.toArray 0)).get? s.heap.objs.size=some (seqObj "list" vs.toArray 0):=aB _ rfl;refine zm3 (s:={ s with heap:=s.heap.push (seqObj "list" vs.toArray 0) }) u l x fun y C G=>⟨_,rfl,?_⟩;obtain⟨e,he⟩:=sortedHeap_at (out:=(arrOf y).map (·.2)) u;refine h _ y e (fun b o hb=>?_) C G he;have lt:=aD hb;rw[sortedHeap_old (aJ lt) (by rw[fO];exact nF lt),cS _ _ _ (aJ lt)];exact hb
end
section
variable{prog:aK}{w:ba}{A:aX}{E:qV}{s:aj}{rk:bB->ae->Int}
theorem zhJ{x:ae}{C:bB->Nat->List ae->Prop}{Q:qV}(J:∀(I:aX) (S:qV) (R:List ae->aj->Prop),I.handled=A.handled->(∀h' v d vs,C h' v vs->R vs { s with heap:=h',toks:=v,drawn:=d })->wpAny (model prog w) I (collect x) R S s)
  (N:∀h' v vs,C h' v vs->SrtL (rk h') vs)
  (Y:∀h' v d vs (I:aX),C h' v vs->I.units<=A.units+16->Kinds prog w I { s with heap:=midH (h'.push (seqObj "list" vs.toArray 0)) h'.objs.size vs,toks:=v,drawn:=d } (rk h') vs)
  (h:∀h' v d vs G (y:aV) (e:Nat),C h' v vs->(∀b o,h'.get? b=some o->G.get? b=some o)->(arrOf y).Perm (pairsOf vs)->Up (rk h') (arrOf y) vs.length->G.get? h'.objs.size=some (seqObj "list" ((arrOf y).map (·.2)) e)->Q (.ref h'.objs.size) { s with heap:=G,toks:=v,drawn:=d }) :
  wpAny (model prog w) A (call (.builtin "sorted") [x]) Q E s:=by
 have hs:100000<=sizeLine:=by decide
 refine iR kind_sorted plain_sorted entry_sorted (args_sorted1 _) ?_;unfold dG.«sorted»;refine aa (m:=checkCount "sorted" 1 1 _) (ag (aa (J _ _ _ rfl fun h' v d vs c=>?_)));have L:=N h' v vs c;have lt:=Vp L;refine aa (ic (hsz:=by show vs.toArray.size<=_;rw[aw];lia) ?_);have o3:(h'.push (seqObj "list" vs.toArray 0)).get? h'.objs.size=some (seqObj "list" vs.toArray 0):=aB _ rfl;refine aa (bW (cI pM ⟨_,o3,rfl⟩ oK ?_ (args_list_sort _)));refine zki (s:={ s with heap:=h',toks:=v,drawn:=d }) L (Y h' v d vs _ c (by show A.units+1+1<=_;lia)) fun G y e kp U Z he=>?_;exact ag ⟨_,rfl,h h' v d vs G y e c kp U Z he⟩
end
section
variable{X:Cx}
theorem ztG{pins:qO}{σ:St}{H:Hp}{s:aj}{q:af}{b k:Int}(I:Inv X pins σ H s)(h:SqT X.K H q [.int b,.int k]):PrIn s.heap (.ref q) b k:=by
 obtain⟨is,rs,⟨o,f1,f2,n,v⟩,_⟩:=I.tuple h;cases rs with
 | cons a1 a2 =>
  cases a2 with
  | cons u l =>cases l;obtain⟨t,rfl⟩:=a1;obtain⟨t',rfl⟩:=u;exact⟨q,o,t,t',n,rfl,f1,f2,v⟩
theorem Rep.bkI{K:qF}{hd:Option af}{O:af->Prop}{H:Hp}{v:V}{a b:Int}(h:Rep K hd O H v (.tuple [.int a,.int b])):∃q,v=.ref q/\SqT K H q [.int a,.int b]:=by
 obtain⟨q,vs,rfl,sq,C⟩:=h.tupI;cases C with
 | cons x1 G =>
  cases G with
  | cons o x =>cases x;rw[x1.intI,o.intI]at sq;exact⟨q,rfl,sq⟩
theorem Inv.drw{X:Cx}{pins:qO}{σ:St}{H:Hp}{s:aj}(I:Inv X pins σ H s)(d:_):Inv X pins σ H { s with drawn:=d }:=⟨I.ok,I.os,I.bare,I.base,I.loc,I.cell,I.free,I.freeC,I.pin,I.hok,I.len⟩
def SrtW(X:Cx)(ts:qD)(R:List ab->Prop):Prop:=∃(α:Type) (D:α->ab) (P:bB->ae->α->Prop) (f:α->Int) (rk:bB->ae->Int) (x:List α),ts=x.map D/\SrtL f x /\
 (∀{pins σ H s hd O v u a},a∈x->Inv X pins σ H s->Rep X.K hd O H v (D a)->RelV v u->P s.heap u a)/\(∀{h h' u a},P h u a->(∀b o,h.get? b=some o->h'.get? b=some o)->P h' u a/\rk h u=f a) /\
 (∀{A s h0 vs},A.units<cLine->(∀u∈vs,∃a∈x,P s.heap u a/\rk h0 u=f a)->Kinds X.prog X.w A s (rk h0) vs) /\
 ∀l:List α,l.Perm x->l.Pairwise (fun a b=>f a<=f b)->R (l.map D)
theorem zhw(hu:X.A.units+64<cLine):JR X (.builtin "sorted") (fun xs H Q=>∃(p:af) (vs:List V) (ts:qD) (hd:Option af) (O:af->Prop),xs=[.ref p]/\(SqL X.K H p vs\/SqT X.K H p vs)/\Reps X.K hd O H vs ts /\
  SrtW X ts fun ts'=>∀J l,Reps X.K hd O H J ts'->H l=none->Q (.ref l) (upd H l (.lst J))):=by
 intro pins s σ H xs us Q I r h;obtain⟨p,vs,ts,hd,O,rfl,G,rp,α,D,P,f,rk,R,rfl,S,tell,kept,kin,q⟩:=h;obtain⟨u,rfl,rx⟩:=vals1 r;cases rx;have hs:100000<=sizeLine:=by decide
 have lt:=Vp S;have lv:vs.length=R.length:=by simpa using rp.length
 have key:∀(its:List ae) (o:Obj) (T:String) (n:Nat),Vals vs its->s.heap.get? p=some o->o.cls=.type T->(T = "list" \/ T = "tuple")->o.data=.seq its.toArray n ->
   wpAny (model X.prog X.w) X.A (call (.builtin "sorted") [.ref p]) (EP X pins σ Q) X.xe s:=fun its o T n rv N hc hT hd'=>by
  have li:=rv.length;have go:∀h':bB,(∀b o,s.heap.get? b=some o->h'.get? b=some o)->bQ (fun(z:V×α) (u:ae)=>RelV z.1 u/\Rep X.K hd O H z.1 (D z.2)/\P h' u z.2) (vs.zip R) its/\R.map f=its.map (rk h'):=fun h' kp=>by
   have go:∀(bs:List α) (vs:List V) (its:List ae),(∀b∈bs,b∈R)->Reps X.K hd O H vs (bs.map D)->Vals vs its->bQ (fun(z:V×α) (u:ae)=>RelV z.1 u/\Rep X.K hd O H z.1 (D z.2)/\P h' u z.2) (vs.zip bs) its/\bs.map f=its.map (rk h'):=by
    intro bs;induction bs with
    | nil=>intro vs its _ r v;cases r;cases v;exact⟨.nil,rfl⟩
    | cons b bs Y =>
     intro vs its hb r v;cases r with
     | cons r1 r2 =>
      cases v with
      | cons v1 v2 =>obtain⟨i1,i2⟩:=Y _ _ (fun c hc=>hb c (.tail _ hc)) r2 v2;have p:=(kept (tell (hb b (.head _)) I r1 v1) kp).1;exact⟨.cons ⟨v1,r1,p⟩ i1,by rw[aC,aC,i2,(kept p fun _ _ e=>e).2]⟩
   exact go R vs its (fun _ h=>h) rp rv
  refine zhJ (A:=X.A) (x:=.ref p) (rk:=rk) (C:=fun h' U ws=>ws=its/\(∀b o,s.heap.get? b=some o->h'.get? b=some o)/\s.heap.objs.size<=h'.objs.size) ?_ ?_ ?_ ?_;intro A' E' Q' hA G;refine zeG N hc hT hd' (by lia) ?_;have hq':=G ((s.heap.push (seqObj "list" #[] 0)).update s.heap.objs.size (bw (·++its.toArray))) s.toks s.drawn its ⟨rfl,fun b ob hb=>?_,?_⟩;exact hq';rw[iz _ _ _ _ (aJ (aD hb))];exact aq _ hb;rw[dX,fO];exact fP _;rintro h' U ws ⟨rfl,kp,_⟩;exact zmp S (go h' kp).2;rintro h' U d ws A' ⟨rfl,kp,_⟩ hA';refine kin (by lia) fun u hu=>?_;obtain⟨x,mx,_,_,p⟩:=zej (go h' kp).1 hu;exact⟨x.2,(fz mx).2,(kept p fun b o e=>zh1 e).1,(kept p fun _ _ e=>e).2⟩;rintro h' U d ws h2 y e ⟨rfl,kp,sz⟩ kp2 pm up he;obtain⟨zs,p1,p2,p3⟩:=zmA (f:=fun x=>f x.2) (go h' kp).1 (fun x u hx=>(kept hx.2.2 fun _ _ e=>e).2) pm up;obtain⟨Z,rp'⟩:Vals (zs.map (·.1)) ((arrOf y).map (·.2)).toList/\Reps X.K hd O H (zs.map (·.1)) ((zs.map (·.2)).map D):=by
   clear p1 p2 he;generalize ((arrOf y).map (·.2)).toList=out at p3;induction p3 with
   | nil=>exact⟨.nil,.nil⟩
   | cons h _ Y=>exact⟨.cons h.1 Y.1,.cons h.2.1 Y.2⟩
  refine⟨.ref h'.objs.size,_,((I.laid (a:=h'.objs.size) (o:=.lst (zs.map (·.1))) (t':=U) (fun b o hb=>kp2 b o (kp b o hb)) sz ⟨?_,_,e,Z,by rw[he]⟩).drw d),rfl,q (zs.map (·.2)) ?_ (by rw[cx];exact p2) _ _ rp' (I.hok.fresh sz)⟩;have:=p1.length_eq;rw[ao];simp at this;lia;have:=p1.map (·.2);rwa [fU (by lia)]at this
 rcases G with G|G;obtain⟨its,r',pl,hz⟩:=I.list G;obtain⟨o,N,hc,n,hd⟩:=pl.isList;exact key its o "list" n r' N hc (.inl rfl) hd;obtain⟨its,r',pl,hz⟩:=I.tuple G;obtain⟨o,N,hc,n,hd⟩:=pl;exact key its o "tuple" n r' N hc (.inr rfl) hd
theorem zjX{e:aT}{d:DTE}{pos p:Pos}{k:Nat}{L:ab->(List ab->Prop)->Prop}(hL:∀t R,L t R->Qn t fun ts=>SrtW X ts R)(hr:Room k X.A)(hm:X.mg "sorted" = none) (h:DL X e d) (hs:starEach [e] X.env=[(false,eval e X.env)]) (hg:Gl X "sorted") :
  DN X (.Call (.Name "sorted" p) [e] [] pos) (fun I n R=>d I n fun t U=>L t fun ts=>R ts U):=by
 obtain⟨ta,pa,h⟩:=h;refine⟨_,Vh (zhw (by have:=hr.un;lia)) hm boot_sorted (QP pa Ui hs) hg,fun C I σ H n Q R S hd hq=>?_⟩;refine h C I σ H n _ _ S hd fun t U v x r1 e1 h1 q1=>?_;have Z:=hL t _ r1;have go:∀(p:af) vs ts,(SqL X.K x p vs\/SqT X.K x p vs)->Reps X.K C.hd (Own C I σ) x vs ts->(SrtW X ts fun ts=>R ts U)->∃(p':af) (vs:List V) (ts:qD) (hd:Option af) (O:af->Prop),[V.ref p]=[V.ref p']/\(SqL X.K x p' vs\/SqT X.K x p' vs)/\Reps X.K hd O x vs ts /\
   SrtW X ts fun ts'=>∀u l,Reps X.K hd O x u ts'->x l=none->Q (.ref l) (upd x l (.lst u)):=fun p vs ts hq' rp h=>by
  obtain⟨α,D,P,f,rk,as,e,h64,tell,kept,kin,q⟩:=h;exact⟨p,vs,ts,C.hd,Own C I σ,rfl,hq',rp,α,D,P,f,rk,as,e,h64,tell,kept,kin,fun as' pm pw u l rp' J=>hq _ U l u _ (q as' pm pw) (e1.trans (ExtE.new J)) (h1.same (J9 J)) (VD e1 h1 J) JH
   (rp'.mono (fun b o hb z=>z.elim id fun z=>by subst z;rw[J]at hb;cases hb) fun b o _ hb=>J9 J b o hb)⟩
 cases t with
 | list ts =>obtain⟨p,vs,rfl,G,Y⟩:=q1.lstI;exact go p vs ts (.inl (.of G)) Y Z
 | tuple ts =>obtain⟨p,vs,rfl,G,Y⟩:=q1.tupI;exact go p vs ts (.inr G) Y Z
 | _=>exact Z.elim
end
def rkD:ab->Int
 | .tuple [.int b,.int k]=>b*1000+k
 | _=>0
def IsPr(t:ab):Prop:=∃b k:Int,t=.tuple [.int b,.int k]/\0<=k/\k<1000
def U3(t:ab)(R:List ab->Prop):Prop:=Qn t fun ts=>SrtL rkD ts/\(∀x∈ts,IsPr x)/\∀l:List ab,l.Perm ts->l.Pairwise (fun a b=>rkD a<=rkD b)->R l
def zpW(d:DTE):DTA:=fun o n R=>d o n fun t l=>U3 t fun ts=>R ts l
theorem zh2{t:ab}{R l:List ab->Prop}(h:∀ts,R ts->l ts)(x:Qn t R):Qn t l:=by
 cases t with
 | list ts=>exact h _ x
 | tuple ts=>exact h _ x
 | _=>exact x
theorem zhs{X:Cx}{e:aT}{d:DTE}{pos p:Pos}{k:Nat}(U:Room k X.A)(hm:X.mg "sorted" = none) (h:DL X e d) (Y:starEach [e] X.env=[(false,eval e X.env)]) (G:Gl X "sorted":=by rfl):DN X (.Call (.Name "sorted" p) [e] [] pos) (zpW d) :=
 zjX (L:=U3) (fun t R=>zh2 fun ts ⟨x,ok,q⟩=>⟨ab,id,fun h u t=>∃b k,t=.tuple [.int b,.int k]/\PrIn h u b k,rkD,rkC,ts,(gJ ts).symm,x,fun {_ _ _ _ _ _ v u a} ha I r rv=>by
  obtain⟨b,k,rfl,_⟩:=ok a ha;obtain⟨q,rfl,sq⟩:=Rep.bkI r;cases(show u=a9 q from rv);exact⟨b,k,rfl,ztG I sq⟩,fun⟨b,k,e,p⟩ kp=>⟨⟨b,k,e,p.kept kp⟩,by rw[p.rk,e];rfl⟩,fun _ Z=>zh4 fun v hv=>by
  obtain⟨a,ma,⟨b,k,rfl,p⟩,e⟩:=Z v hv;obtain⟨_,_,J,k0,S⟩:=ok _ ma;cases J;exact⟨b,k,p,e,k0,S⟩,fun o pm pw=>by rw[gJ];exact q o pm pw⟩) U hm h Y G
abbrev prD(b:Int×Int):ab:=.tuple [.int b.1,.int b.2]
def pD(bs:qB):List ab:=bs.map prD
theorem Jy{bs:qB}:(pD bs).length=bs.length:=by simp[pD]
theorem zq4{bs cs:qB}:pD bs++pD cs=pD (bs++cs):=by simp[pD]
theorem Zw{i h:Int}{bs:qB}:pD bs++[.tuple [.int i,.int h]]=pD (bs++[(i,h)]):=by simp[pD]
theorem Zv{bs:qB}{k:Nat}{t:ab}(h:(pD bs)[k]?=some t):∃i g:Int,bs[k]?=some (i,g)/\t=.tuple [.int i,.int g]:=by
 unfold pD at h;rw[a6]at h;cases e:bs[k]? with
 | none=>rw[e]at h;cases h
 | some b=>rw[e]at h;cases h;exact⟨b.1,b.2,rfl,rfl⟩
def eB(b:Int×Int):Int:=b.1+2 ^ b.2.toNat
def Bks(bits:Int)(bs:qB):Prop:=∀b∈bs,IsBk bits b.1 b.2
def Ptc(bits:Int)(bs:qB):Prop:=Bks bits bs/\bs.Pairwise fun a b=>eB a<=b.1
theorem JL(b:Int×Int):b.1<eB b:=by have:=Bd.Q4 b.2.toNat;unfold eB;lia
theorem Ptc.ends{bits:Int}{bs:qB}(P:Ptc bits bs):bs.Pairwise fun a b=>eB a<=eB b:=P.2.imp fun {a b} h=>by have:=JL b;lia
theorem zkR{bs:qB}:Okd (.list (pD bs)):=by
 have:∀bs:List (Int×Int),cQ (pD bs)=true/\dN (pD bs)<=1:=by
  intro bs;induction bs with
  | nil=>exact⟨by simp[pD,cQ],by simp[pD,dN]⟩
  | cons b l o =>refine⟨?_,?_⟩;have:=o.1;simp only[pD,aC,cQ,fN,mK,eH]at this ⊢;exact this;have:=o.2;simp only[pD,aC,dN,gT]at this ⊢;lia
 exact⟨by simp only[fN];exact(this bs).1,by simp only[gT];have:=(this bs).2;lia⟩
theorem zo6:Okd (.list []):=⟨by simp[fN,cQ],by simp[gT,dN]⟩
theorem zpw{d:DTE}{l:En}{n:Nat}{Rl:List ab->Nat->Prop}(h:d l n fun t o=>U3 t fun ts=>Rl ts o):zpW d l n Rl:=h
theorem zrB{bits:Int}{bs:qB}{Rl:List ab->Prop}(hb:bits<=64)(B:Bks bits bs)(G:bs.Pairwise fun a b=>eB a<=b.1\/eB b<=a.1)(J:bs.length<100000)
  (h:∀cs,Ptc bits cs->cs.Perm bs->Rl (pD cs)):U3 (.list (pD bs)) Rl:=by
 refine⟨zop (by rw[Jy];exact J),fun x hx=>?_,fun v pm pw=>?_⟩;obtain⟨b,I,rfl⟩:=a7.mp hx;have:=B b I;exact⟨b.1,b.2,rfl,this.1,by have:=this.2.1;lia⟩;have C:v.Perm ((bs.map fun b=>(b,prD b)).map (·.2)):=by
  have:(bs.map fun b=>(b,prD b)).map (·.2)=pD bs:=by simp[pD]
  rw[this];exact pm
 obtain⟨zs,N,S⟩:=VJ C;have R:∀z∈zs,z.2=prD z.1:=fun z hz=>by obtain⟨b,_,rfl⟩:=a7.mp (N.mem_iff.mp hz);rfl
 have e:v=pD (zs.map (·.1)):=by rw[<- S];unfold pD;rw[cD];exact cn fun z hz=>R z hz
 have pc:(zs.map (·.1)).Perm bs:=by
  have:=N.map (·.1);rw[cD]at this;have U:bs.map ((fun x:(Int×Int)×ab=>x.1)∘fun b=>(b,prD b))=bs:=by show bs.map id=bs;exact gJ _
  rwa [U]at this
 rw[e];have o:(zs.map (·.1)).Pairwise fun a b=>eB a<=b.1\/eB b<=a.1:=(pc.pairwise_iff (fun {a b} h=>h.symm)).mpr G;have u:Bks bits (zs.map (·.1)):=fun b hb=>B b (pc.mem_iff.mp hb);rw[e]at pw;unfold pD at pw;rw[cx]at pw;refine h _ ⟨u,?_⟩ pc;have both:=xn o pw;refine gp ?_ both;rintro a b ha hb ⟨h1,L⟩;have L:a.1*1000+a.2<=b.1*1000+b.2:=L;have a0:=(u a ha).1;have a1:=(u a ha).2.1;have Z:=(u b hb).1;have Y:=(u b hb).2.1;have:=JL a;have:=JL b;lia
theorem zsL{tg:DTG}{tt:DTT}{d:DTE}{ρ0:En}{Rl:List ab->Nat->Prop}(Inv:Nat->List ab->Nat->Prop):∀(xs:qD) (i:Nat) {acc:qD}{n:Nat},Inv i acc n ->
  (∀(k:Nat) (x:ab) (acc:qD) (n:Nat) (K:List ab->Nat->Prop),xs[k]?=some x->Inv (i+k) acc n->(∀o v,Inv (i+k+1) o v->K o v) ->
   tg x ρ0 fun C=>tt C n fun b G=>if b=true then d C G fun t J=>acc.length<16777216/\K (acc++[t]) J else K acc G) ->
  (∀acc n,Inv (i+xs.length) acc n->Rl acc n)->JP tg tt d ρ0 xs acc n Rl
 | [],i,acc,n,h0,_,fin=>fin acc n (by simpa using h0)
 | x::xs,i,acc,n,h0,turn,fin=>by
  refine turn 0 x acc n (fun acc n=>JP tg tt d ρ0 xs acc n Rl) rfl (by simpa using h0) fun o v h'=>?_;refine zsL Inv xs (i+1) (by simpa using h') (fun k u acc n K e I L=>?_) (fun acc n h=>fin acc n ?_);refine turn (k+1) u acc n K (by simpa using e) ?_ fun o v h'=>L o v ?_;have:i+(k+1)=i+1+k:=by lia
  rw[this];exact I;have:i+1+k+1=i+(k+1)+1:=by lia
  rw[this];exact h';have:i+(x::xs).length=i+1+xs.length:=by simp;lia
  rw[this]at *;exact h
theorem zlT{tg:DTG}{tt:DTT}{d:DTE}{ρ0:En}{Rl:List ab->Nat->Prop}{xs:qD}{n:Nat}(Inv:Nat->List ab->Nat->Prop)(h0:Inv 0 [] n)
  (turn:∀(k:Nat) (x:ab) (acc:qD) (n:Nat) (K:List ab->Nat->Prop),xs[k]?=some x->Inv k acc n->(∀l v,Inv (k+1) l v->K l v) ->
   tg x ρ0 fun o=>tt o n fun b u=>if b=true then d o u fun t G=>acc.length<16777216/\K (acc++[t]) G else K acc u)
  (fin:∀acc n,Inv xs.length acc n->Rl acc n):JP tg tt d ρ0 xs [] n Rl :=
 zsL Inv xs 0 h0 (fun k x acc n K e C I=>turn k x acc n K e (by simpa using C) fun a m h=>I a m (by simpa using h)) fun acc n h=>fin acc n (by simpa using h)
theorem Uv{α:Type}{cs:List α}{D:α->ab}{tg:DTG}{tt:DTT}{d:DTE}{ρ0:En}{n:Nat}{Rl:List ab->Nat->Prop}(F:α->ab)(G:cs.length<=16777216)
  (step:∀b∈cs,∀(K:qN) (X:Nat->Prop),K (F b) n->tg (D b) ρ0 fun o=>tt o n fun c u=>if c=true then d o u K else X u) (fin:Rl (cs.map F) n):JP tg tt d ρ0 (cs.map D) [] n Rl:=by
 refine zlT (fun j acc m=>m=n/\acc=(cs.take j).map F) ⟨rfl,rfl⟩ ?_ ?_;rintro j x acc m K l ⟨rfl,rfl⟩ hK;rw[a6]at l;cases eb:cs[j]? with
 | none=>rw[eb]at l;cases l
 | some b =>rw[eb]at l;cases l;obtain⟨v,C⟩:=ah.mp eb;refine step b (aM eb) _ _ ⟨?_,hK _ _ ⟨rfl,?_⟩⟩;simp;lia;rw[d0,eb];simp
 rintro acc m ⟨rfl,rfl⟩;rw[ao,dr];exact fin
theorem zuT{bs:List Bool}{R:ab->Prop}(h:R (.bool (bs.all id))):bAll [.list (bs.map eF)] R:=⟨bs,rfl,h⟩
theorem Zi{α:Type}{cs:List α}{f:α->Bool}{R:ab->Prop}(h:R (.bool (cs.all f))):bAll [.list (cs.map fun b=>eF (f b))] R:=by
 have e:(cs.map fun b=>eF (f b))=(cs.map f).map eF:=by simp
 rw[e];refine zuT ?_;have u:(cs.map f).all id=cs.all f:=by simp[List.all_map,gS]
 rw[u];exact h
theorem zrI{xs:qD}{k:Nat}{x:ab}{R:ab->Prop}(e:xs[k]?=some x)(h:R x):oIx (.tuple xs) (.int (k:Int)) R:=by
 have o:k<xs.length:=by rcases fc k xs.length with z|z;exact z;rw[bM z]at e;cases e
 rw[Vi (x:=x)];exact h;unfold atI ixN;have:((0:Int)<=(k:Int)):=by lia
 have:((k:Int)<(xs.length:Int)):=by lia
 have v:xs[k]=x:=by rw[ak o]at e;exact aI e
 simp[o,v]
theorem zpl{xs:qD}{i:Int}{k:Nat}{x:ab}{R:ab->Prop}(hi:i=(k:Int))(e:xs[k]?=some x)(h:R x):oIx (.tuple xs) (.int i) R:=by subst hi;exact zrI e h
theorem zoY{bs:qB}{k:Nat}{b:Int×Int}(h:bs[k]?=some b):(pD bs)[k]?=some (.tuple [.int b.1,.int b.2]):=by unfold pD;rw[a6,h];rfl
theorem zig{bs:qB}:fe (.list (pD bs)) (.list [])=bs.isEmpty:=by
 cases bs with
 | nil=>simp[pD,fe,mJ]
 | cons b l=>simp[pD,fe,mJ]
theorem Qb{many:Int}{n:Nat}{R:qN}(h0:0<many)(o:many<2 ^ 128)(l:n<=1000000000000)(h:∀r:Int,0<=r->r<many->R (.int r) (n+1)):Yk [HAND,.int many] n R:=⟨rfl,h0,o,l,h⟩
theorem zju{i h:Int}:Qw (.tuple [.int i,.int h])=true:=by simp[Qw,Qk]
theorem Bks.app{bits i h:Int}{bs:qB}(B:Bks bits bs)(C:IsBk bits i h):Bks bits (bs++[(i,h)]):=fun b hb=>by rcases ai.mp hb with z|z;exact B b z;cases ax.mp z;exact C
abbrev DTO:=En->Nat->(Option Int->Nat->Prop)->Prop
section
variable{X:Cx}
theorem zlX(hc:X.calm=true):JR X (.builtin "sum") (fun xs H Q=>∃(a:af) (ns:List Int),xs=[.ref a]/\SqL X.K H a (ns.map V.int)/\Q (.int ns.sum) H):=by
 intro pins s σ H xs us Q I r h;obtain⟨a,ns,rfl,x,q⟩:=h;obtain⟨u,rfl,C⟩:=vals1 r;cases C;obtain⟨its,J,p,hz⟩:=I.list x;have hi:=intsAre_of J;have v:s.heap.IsList a its.toArray:=p.isList;obtain⟨xs,hx⟩:=hi.allInts.items;have o:numsOf its.toArray.toList=ns:=by rw[show its.toArray.toList=its from rfl,hi.numsOf]
 rw[hx]at v o;rw[nums_intItems]at o;refine sum_intListG (I.ok.hd hc) v fun h' L t' G=>?_;rw[preSum_eq,dQ (by simp),o];exact⟨.int ns.sum,H,I.kept G,⟨_,rfl⟩,q⟩
def bSum:GC
 | [.list ts],R=>∃ns:List Int,ts=ns.map cq/\R (.int ns.sum)
 | _,_=>False
theorem zsk:GpC X (fun xs H Q=>∃(a:af) (ns:List Int),xs=[.ref a]/\SqL X.K H a (ns.map V.int)/\Q (.int ns.sum) H) bSum:=by intro hd O H xs ts Q R dom rs h u;unfold bSum at h;split at h;obtain⟨ns,rfl,h⟩:=h;obtain⟨v,rfl,C⟩:=Qs rs;obtain⟨p,vs,rfl,l,x⟩:=C.lstI;rw[VU x]at l;exact⟨p,ns,rfl,.of l,u _ _ H h (Same.refl H) (.int _)⟩;exact h.elim
end
theorem zsg{α:Type}{cs:List α}{f:α->Bool}{R:ab->Prop}(h:R (.bool (cs.any f))):bAny [.list (cs.map fun b=>eF (f b))] R:=by
 have e:(cs.map fun b=>eF (f b))=(cs.map f).map eF:=by simp
 rw[e];refine⟨cs.map f,rfl,?_⟩;have u:(cs.map f).any id=cs.any f:=by simp[iE,gS]
 rw[u];exact h
theorem zuL{α:Type}{cs:List α}{f:α->Int}{R:ab->Prop}(h:R (.int (cs.map f).sum)):bSum [.list (cs.map fun b=>cq (f b))] R:=by
 have e:(cs.map fun b=>cq (f b))=(cs.map f).map cq:=by simp
 rw[e];exact⟨cs.map f,rfl,h⟩
theorem zfx{cs:qD}{tg:DTG}{tt:DTT}{d:DTE}{ρ0:En}{n:Nat}{Rl:List ab->Nat->Prop}(F:ab->ab)(u:cs.length<=16777216)
  (step:∀b∈cs,∀(K:qN) (X:Nat->Prop),K (F b) n->tg b ρ0 fun l=>tt l n fun c o=>if c=true then d l o K else X o) (fin:Rl (cs.map F) n):JP tg tt d ρ0 cs [] n Rl:=by
 have:=Uv (cs:=cs) (D:=fun t=>t) (tg:=tg) (tt:=tt) (d:=d) (ρ0:=ρ0) (n:=n) (Rl:=Rl) F u step fin;simpa using this
class Stp (P:Prop)(Q:outParam Prop):Prop where
 go:Q->P
section
variable{t u tb:DTS}{D:JM}{ρ ρ0:En}{n i j m:Nat}{d da db dc d1 d2:DTE}{ds di:DTA}{c c' tt:DTT}{g:G2}{g':G2}{gc:GC}{gd:GD}{tg:DTG}{tgs:DTGs}{R:qN}{Rb:Bool->Nat->Prop}{Rl:List ab->Nat->Prop}{Re:En->Prop}{x y:ab}{xs ys acc:qD}{f:Int->Int->Int}{fb:ab->Bool}{k:Bool}{capt:List Nat}
instance zta :Stp (sSeq t u D ρ n) ((t { D with nx:=u D } ρ n)):=⟨fun h=>zrV h⟩
instance zqv :Stp (zot D ρ n) ((D.nx ρ n)):=⟨fun h=>zpu h⟩
instance ztb :Stp (sRet d D ρ n) ((d ρ n fun t n'=>D.rt t n')):=⟨fun h=>zrW h⟩
instance zt2 :Stp (sIf c t u D ρ n) ((c ρ n fun b n1=>if b=true then t D ρ n1 else u D ρ n1)):=⟨fun h=>zuM h⟩
instance ztd :Stp (sAsg d tg D ρ n) ((d ρ n fun t n'=>tg t ρ fun ρ'=>D.nx ρ' n')):=⟨fun h=>zrZ h⟩
instance ztc :Stp (sFor di tg tb D ρ n) ((di ρ n fun ts n1=>forP tg tb D ts ρ n1)):=⟨fun h=>zrY h⟩
instance zvf :Stp (dC x ρ n R) ((R x n)):=⟨fun h=>i_dC h⟩
instance zt4 :Stp (dOp g da db ρ n R) ((da ρ n fun x n1=>db ρ n1 fun y n2=>g x y fun z=>R z n2)):=⟨fun h=>zuQ h⟩
instance ztm :Stp (dNew ds ρ n R) ((ds ρ n fun ts n'=>R (.list ts) n')):=⟨fun h=>zr9 h⟩
instance zth :Stp (dTup ds ρ n R) ((ds ρ n fun ts n1=>R (.tuple ts) n1)):=⟨fun h=>zr5 h⟩
instance ztl :Stp (dNil ρ n Rl) ((Rl [] n)):=⟨fun h=>zn8 h⟩
instance zqA :Stp (J6 d ds ρ n Rl) ((d ρ n fun t n1=>ds ρ n1 fun ts n2=>Rl (t::ts) n2)):=⟨fun h=>zpz h⟩
instance zt5 :Stp (dFn gd ds ρ n R) ((ds ρ n fun ts n1=>gd ts n1 R)):=⟨fun h=>zuR h⟩
instance ztr :Stp (dFnL gd ds ρ n R) ((ds ρ n fun ts n1=>gd ts n1 fun t n2=>Qw t=true/\R t n2)):=⟨fun h=>zsd h⟩
instance zqd :Stp (Zf gc ds ρ n R) ((ds ρ n fun ts n1=>gc ts fun z=>R z n1)):=⟨fun h=>znj h⟩
instance ztf :Stp (isiD fb d ρ n R) ((d ρ n fun t n1=>lIsi fb t fun z=>R z n1)):=⟨fun h=>zr3 h⟩
instance ztt :Stp (dAnd c c' ρ n Rb) ((c ρ n fun b n1=>if b=true then c' ρ n1 Rb else Rb false n1)):=⟨fun h=>zsf h⟩
instance zt3 :Stp (dOr c c' ρ n Rb) ((c ρ n fun b n1=>if b=true then Rb true n1 else c' ρ n1 Rb)):=⟨fun h=>zuP h⟩
instance ztk :Stp (dNot c ρ n Rb) ((c ρ n fun b n1=>Rb (!b) n1)):=⟨fun h=>zr8 h⟩
instance zqB :Stp (zpY da db ρ n R) ((da ρ n fun t n1=>bolD t fun b=>if b=true then db ρ n1 R else R (.bool false) n1)):=⟨fun h=>zpB h⟩
instance ztj :Stp (dOrV da db ρ n R) ((da ρ n fun t n1=>bolD t fun b=>if b=true then R (.bool true) n1 else db ρ n1 R)):=⟨fun h=>zr7 h⟩
instance zqz :Stp (zpX da ρ n R) ((da ρ n fun t n1=>bolD t fun b=>R (.bool (!b)) n1)):=⟨fun h=>zpy h⟩
instance ztq :Stp (dIfE c da db ρ n R) ((c ρ n fun b n1=>if b=true then da ρ n1 R else db ρ n1 R)):=⟨fun h=>zsc h⟩
instance zti :Stp (dTru d ρ n Rb) ((d ρ n fun t n'=>truD t fun b=>Rb b n')):=⟨fun h=>zr6 h⟩
instance ztg :Stp (dYes ρ n Rb) ((Rb true n)):=⟨fun h=>zr4 h⟩
instance zqt :Stp (Q8 tgs (.tuple xs) ρ Re) ((tgs xs ρ Re)):=⟨fun h=>zps h⟩
instance zqu :Stp (Ub [] ρ Re) ((Re ρ)):=⟨fun h=>zpt h⟩
instance zqb :Stp (Qt tg tgs (x::xs) ρ Re) ((tg x ρ fun ρ'=>tgs xs ρ' Re)):=⟨fun h=>znh h⟩
instance zqw :Stp (UF d ρ n Rb) ((d ρ n fun t n'=>bolD t fun b=>Rb b n')):=⟨fun h=>zpv h⟩
instance zts :Stp (dCat da db ρ n Rl) ((da ρ n fun x n1=>db ρ n1 fun y n2=>lCat x y fun zs=>Rl zs n2)):=⟨fun h=>zse h⟩
instance ztp :Stp (dItL d ρ n Rl) ((d ρ n fun t n'=>lLst t fun ts=>Rl ts n')):=⟨fun h=>zsb h⟩
instance zto :Stp (dItT d ρ n Rl) ((d ρ n fun t n'=>lTup t fun ts=>Rl ts n')):=⟨fun h=>zsa h⟩
instance zqy :Stp (Y6 d ρ n Rl) ((d ρ n fun t n'=>lInt t fun j=>(-(2 ^ 62)<=j/\j<2 ^ 62)/\Rl (JZ 0 j.toNat) n')):=⟨fun h=>zpx h⟩
instance ztn :Stp (dNeg d ρ n R) ((d ρ n fun t n'=>lInt t fun i=>R (.int (-i)) n')):=⟨fun h=>zr_ h⟩
instance zqc :Stp (Yh g g' da db dc ρ n R) ((da ρ n fun x n1=>db ρ n1 fun y n2=>g x y fun z=>bolD z fun b=>if b=true then dc ρ n2 fun w n3=>g' y w fun z=>R z n3 else R (.bool false) n2)):=⟨fun h=>zni h⟩
instance zte {b:Bool}{A B:Prop}:Stp (if (!b)=true then A else B) ((if b=true then B else A)):=⟨fun h=>zr1 h⟩
end
section
variable{C:Int->Int->Prop}{f:Int->Int->Int}{fb:Int->Int->Bool}{i j k:Int}{R:ab->Prop}{Rb:Bool->Prop}{xs ys:qD}{s t:Str}{a b:Bool}{u v x y:ab}{Rn:qN}{n:Nat}
instance zs8 :Stp (oAdd (.int i) (.int j) R) ((R (.int (i+j)))):=⟨fun h=>zrP h⟩
instance zs7 :Stp (oAdd (.tuple xs) (.tuple ys) R) (((xs.length+ys.length<=16777216/\R (.tuple (xs++ys))))):=⟨fun h=>zrO h⟩
instance ztY :Stp (oEq (.int i) (.int j) R) ((R (.bool (decide (i=j))))):=⟨fun h=>zuH h⟩
instance ztX :Stp (oEq (.tuple xs) (.tuple ys) R) (((Okd (.tuple xs)/\Okd (.tuple ys)/\R (.bool (fe (.tuple xs) (.tuple ys)))))):=⟨fun h=>zuG h⟩
instance ztN :Stp (oNe (.int i) (.int j) R) ((R (.bool (!decide (i=j))))):=⟨fun h=>zuv h⟩
instance ztM :Stp (oNe (.list xs) (.list ys) R) (((Okd (.list xs)/\Okd (.list ys)/\R (.bool (!PyData.eqv (.list xs) (.list ys)))))):=⟨fun h=>zuu h⟩
instance ztV :Stp (oIs u .none R) ((R (.bool (isNone u)))):=⟨fun h=>zuD h⟩
instance zqs :Stp (oIsN u .none R) ((R (.bool (!isNone u)))):=⟨fun h=>zpn h⟩
instance ztS :Stp (oLtA (.int i) (.int j) R) ((R (.bool (decide (i<j))))):=⟨fun h=>zuA h⟩
instance ztU :Stp (oLeA (.int i) (.int j) R) ((R (.bool (decide (i<=j))))):=⟨fun h=>zuC h⟩
instance zs2 :Stp (oIx (.tuple (u::xs)) (.int 0) R) ((R u)):=⟨fun h=>zrH h⟩
instance zs1 :Stp (oIx (.tuple (u::v::xs)) (.int 1) R) ((R v)):=⟨fun h=>zrG h⟩
instance zs4 :Stp (oIx (.list (u::xs)) (.int 0) R) ((R u)):=⟨fun h=>zrL h⟩
instance zs3 :Stp (oIx (.list (u::v::xs)) (.int 1) R) ((R v)):=⟨fun h=>zrK h⟩
instance zsX :Stp (truD (.bool a) Rb) ((Rb a)):=⟨fun h=>zrA h⟩
instance zsW :Stp (truD (.list xs) Rb) ((Rb (!xs.isEmpty))):=⟨fun h=>zrz h⟩
instance zt0 :Stp (bolD (.bool a) Rb) ((Rb a)):=⟨fun h=>zuJ h⟩
instance zs0 :Stp (bLen [.list xs] R) ((R (.int xs.length))):=⟨fun h=>zrF h⟩
instance zsZ :Stp (bLen [.tuple xs] R) ((R (.int xs.length))):=⟨fun h=>zrE h⟩
instance zqa {ns:List Int}:Stp (bLen [SCR ns] R) ((R (.int ns.length))):=⟨fun h=>znb h⟩
instance ztQ :Stp (bMin [.int i,.int j] R) ((R (.int (if j<i then j else i)))):=⟨fun h=>zuy h⟩
instance ztR :Stp (bMax [.int i,.int j] R) ((R (.int (if j > i then j else i)))):=⟨fun h=>zuz h⟩
instance zs5 :Stp (bInt [.bool a] R) ((R (.int (if a then 1 else 0)))):=⟨fun h=>zrM h⟩
instance zp_ :Stp (Vn [.list xs] R) ((R (.tuple xs))):=⟨fun h=>zna h⟩
instance zqr {Rl:List ab->Prop}:Stp (Qn (.list xs) Rl) ((Rl xs)):=⟨fun h=>zpm h⟩
instance ztZ {Q:List ab->Prop}:Stp (lCat (.list xs) (.list ys) Q) (((xs.length+ys.length<=16777216/\Q (xs++ys)))):=⟨fun h=>zuI h⟩
instance ztT {Q:List ab->Prop}:Stp (lLst (.list xs) Q) ((Q xs)):=⟨fun h=>zuB h⟩
instance ztJ {Q:List ab->Prop}:Stp (lTup (.tuple xs) Q) ((Q xs)):=⟨fun h=>zur h⟩
instance ztW {i:Int}{Q:Int->Prop}:Stp (lInt (.int i) Q) ((Q i)):=⟨fun h=>zuF h⟩
instance zsY {Q:ab->ab->Prop}:Stp (Y3 [x,y] Q) ((Q x y)):=⟨fun h=>zrD h⟩
instance ztO :Stp (oMul (.int i) (.int j) R) ((CMul i j)/\(R (.int (i*j)))):=⟨fun h=>zuw h.1 h.2⟩
instance ztP :Stp (oMod (.int i) (.int j) R) ((0<j)/\(R (.int (i % j)))):=⟨fun h=>zux h.1 h.2⟩
instance zs6 :Stp (Uc (.int i) (.int j) R) ((YZ i j)/\(R (.int (i / j)))):=⟨fun h=>zrN h.1 h.2⟩
instance ztL :Stp (oShl (.int i) (.int j) R) ((CPow i j)/\(R (.int (i*2 ^ j.toNat)))):=⟨fun h=>zut h.1 h.2⟩
instance ztK :Stp (oSub (.int i) (.int j) R) ((R (.int (i - j)))):=⟨fun h=>zus h⟩
instance ztI :Stp (oXor (.int i) (.int j) R) ((R (.int (cz i j)))):=⟨fun h=>zuq h⟩
instance zt1 :Stp (oAnd (.int i) (.int j) R) ((R (.int (fL i j)))):=⟨fun h=>zuK h⟩
instance zvb :Stp (gB fb (.int i) (.int j) R) ((R (.bool (fb i j)))):=⟨fun h=>j_gB h⟩
instance zmv :Stp (lIsi isInt (.int i) R) ((R (.bool true))):=⟨fun h=>zh8 h⟩
instance zmj :Stp (lIsi isInt (.bool a) R) ((R (.bool true))):=⟨fun h=>zhi h⟩
instance zmu :Stp (lIsi isInt (.str s) R) ((R (.bool false))):=⟨fun h=>zh7 h⟩
instance zkn :Stp (lIsi isInt (.tuple xs) R) ((R (.bool false))):=⟨fun h=>zf2 h⟩
instance zmh :Stp (lIsi isInt (.list xs) R) ((R (.bool false))):=⟨fun h=>zhg h⟩
instance zmg :Stp (lIsi isInt (.none) R) ((R (.bool false))):=⟨fun h=>zhf h⟩
instance zmi :Stp (lIsi isInt (.dict []) R) ((R (.bool false))):=⟨fun h=>zhh h⟩
instance zmk :Stp (lIsi isBool (.int i) R) ((R (.bool false))):=⟨fun h=>zhj h⟩
instance zko :Stp (lIsi isBool (.bool a) R) ((R (.bool true))):=⟨fun h=>zf3 h⟩
instance zmt :Stp (lIsi isTup (.int i) R) ((R (.bool false))):=⟨fun h=>zh6 h⟩
instance zmf :Stp (lIsi isTup (.bool a) R) ((R (.bool false))):=⟨fun h=>zhe h⟩
instance zms :Stp (lIsi isTup (.str s) R) ((R (.bool false))):=⟨fun h=>zh5 h⟩
instance zkm :Stp (lIsi isTup (.tuple xs) R) ((R (.bool true))):=⟨fun h=>zf1 h⟩
instance zmd :Stp (lIsi isTup (.list xs) R) ((R (.bool false))):=⟨fun h=>zhc h⟩
instance zmc :Stp (lIsi isTup (.none) R) ((R (.bool false))):=⟨fun h=>zhb h⟩
instance zme :Stp (lIsi isTup (.dict []) R) ((R (.bool false))):=⟨fun h=>zhd h⟩
end
section
instance zqx {d:DTE}{ρ:En}{n:Nat}{Rl:List ab->Nat->Prop}:Stp (zpW d ρ n Rl) ((d ρ n fun t n1=>U3 t fun ts=>Rl ts n1)):=⟨fun h=>zpw h⟩
end
section
variable{R:ab->Prop}{b:Bool}{A B:Prop}
instance zvc:Stp (if true=true then A else B) A:=⟨fun h=>iteT h⟩
instance zvd:Stp (if false=true then A else B) B:=⟨fun h=>iteF h⟩
instance zve:Stp (oIs (.bool true) (.bool true) R) (R (.bool true)):=⟨fun h=>zuE h⟩
instance zs9:Stp (oIsN (.bool false) (.bool false) R) (R (.bool false)):=⟨fun h=>zpo h⟩
end
class GetN (ρ:En)(i:Nat)(c:outParam (Option Cell)):Prop where
 e:ρ[i]?=some c
class SetN (ρ:En)(i:Nat)(c:Option Cell)(ρ':outParam En):Prop where
 e:ρ.set i c=ρ'
instance{a0:Option Cell}{as:En}:GetN (a0::as) 0 a0:=⟨rfl⟩
instance{a0 c:Option Cell}{as:En}:SetN (a0::as) 0 c (c::as):=⟨rfl⟩
instance{a0 a1:Option Cell}{as:En}:GetN (a0::a1::as) 1 a1:=⟨rfl⟩
instance{a0 a1 c:Option Cell}{as:En}:SetN (a0::a1::as) 1 c (a0::c::as):=⟨rfl⟩
instance{a0 a1 a2:Option Cell}{as:En}:GetN (a0::a1::a2::as) 2 a2:=⟨rfl⟩
instance{a0 a1 a2 c:Option Cell}{as:En}:SetN (a0::a1::a2::as) 2 c (a0::a1::c::as):=⟨rfl⟩
instance{a0 a1 a2 a3:Option Cell}{as:En}:GetN (a0::a1::a2::a3::as) 3 a3:=⟨rfl⟩
instance{a0 a1 a2 a3 c:Option Cell}{as:En}:SetN (a0::a1::a2::a3::as) 3 c (a0::a1::a2::c::as):=⟨rfl⟩
instance{a0 a1 a2 a3 c:Option Cell}{as:En}{i:Nat}[h:GetN as i c]:GetN (a0::a1::a2::a3::as) (i+4) c:=⟨h.e⟩
instance{a0 a1 a2 a3 c:Option Cell}{as bs:En}{i:Nat}[h:SetN as i c bs]:SetN (a0::a1::a2::a3::as) (i+4) c (a0::a1::a2::a3::bs):=⟨by rw[<- h.e];rfl⟩
class NormE (ρ:En)(ρ':outParam En):Prop where
 e:ρ=ρ'
instance{a:Option Cell}{as:En}:NormE (a::as) (a::as):=⟨rfl⟩
instance{ρ ρ1 ρ2:En}{i:Nat}{c:Option Cell}[h:NormE ρ ρ1][k:SetN ρ1 i c ρ2]:NormE (ρ.set i c) ρ2:=⟨by rw[h.e];exact k.e⟩
class NoneN (as:En)(nn:outParam En):Prop where
 e:iK as.length none=nn
instance:NoneN [] []:=⟨rfl⟩
instance{a:Option Cell}{as nn:En}[h:NoneN as nn]:NoneN (a::as) (none::nn):=⟨by rw[aG,cV,h.e]⟩
class StartN (N:List Str)(ts:qD)(ρ:outParam En):Prop where
 e:JQ N ts=ρ
instance:StartN [] [] []:=⟨rfl⟩
instance{x:Str}{N:List Str}{ρ:En}[h:StartN N [] ρ]:StartN (x::N) [] (none::ρ):=⟨by have:=h.e;simp only[JQ,cC,cZ,bT,Nat.sub_zero]at this ⊢;rw[aG,cV,this]⟩
instance{x:Str}{N:List Str}{t:ab}{ts:qD}{ρ:En}[h:StartN N ts ρ]:StartN (x::N) (t::ts) (some (.val t)::ρ):=⟨by have:=h.e;simp only[JQ]at this ⊢;rw[aC,aG,aG,cj,Nat.add_sub_add_right,this]⟩
theorem zjk{d:DTS}{D:JM}{n:Nat}{N:List Str}{ts:qD}{l:En}[e:StartN N ts l](h:d D l n):d D (JQ N ts) n:=e.e.symm▸h
class CapN (is:List Nat)(ρ:En)(out:outParam En):Prop where
 e:(is.map fun i=>capV (ρ.getD i none))=out
class CapC (c:Option Cell)(c':outParam (Option Cell)):Prop where
 e:capV c=c'
instance{d:ab}:CapC (some (.val d)) (some (.val d)):=⟨rfl⟩
instance{d:qD}:CapC (some (.own d)) none:=⟨rfl⟩
instance:CapC none none:=⟨rfl⟩
instance{ρ:En}:CapN [] ρ []:=⟨rfl⟩
instance{i:Nat}{is:List Nat}{ρ out:En}{c c':Option Cell}[g:GetN ρ i c][k:CapC c c'][h:CapN is ρ out]:CapN (i::is) ρ (c'::out):=⟨by have ge:=g.e;rw[aC,h.e,aZ,ge,eR,k.e]⟩
class CompN (m:Nat)(capt:List Nat)(ρ:En)(ρ':outParam En):Prop where
 e:JJ m capt ρ=ρ'
instance{x:Str}{capt:List Nat}{ρ out:En}[h:CapN capt ρ out]:CompN (bL [x]) capt ρ (none::out):=⟨by unfold JJ;rw[h.e];rfl⟩
instance{x y:Str}{capt:List Nat}{ρ out:En}[h:CapN capt ρ out]:CompN (bL [x,y]) capt ρ (none::none::out):=⟨by unfold JJ;rw[h.e];rfl⟩
instance{x y z:Str}{capt:List Nat}{ρ out:En}[h:CapN capt ρ out]:CompN (bL [x,y,z]) capt ρ (none::none::none::out):=⟨by unfold JJ;rw[h.e];rfl⟩
instance{x y z u:Str}{capt:List Nat}{ρ out:En}[h:CapN capt ρ out]:CompN (bL [x,y,z,u]) capt ρ (none::none::none::none::out):=⟨by unfold JJ;rw[h.e];rfl⟩
def SetK(i:Nat)(c:Option Cell)(K:En->Nat->Prop)(l:En)(n:Nat):Prop:=K (l.set i c) n
section
variable{t u:DTS}{D:JM}{ρ ρ0 ρ':En}{n i j m:Nat}{d dj:DTE}{ds di:DTA}{tt:DTT}{tg:DTG}{R:qN}{Rl:List ab->Nat->Prop}{Re:En->Prop}{x:ab}{xs:qD}{f:Int->Int->Int}{capt:List Nat}{c:Option Cell}{K:En->Nat->Prop}{q:Int}
instance zvj [h:SetN ρ i c ρ']:Stp (SetK i c K ρ n) (K ρ' n):=⟨fun k=>by unfold SetK;rw[h.e];exact k⟩
instance zu6:Stp (sSet i d D ρ n) (d ρ n fun t n'=>SetK i (some (.val t)) D.nx ρ n'):=⟨fun h=>h⟩
instance zu7:Stp (sOwn i ds D ρ n) (ds ρ n fun t n'=>SetK i (some (.own t)) D.nx ρ n'):=⟨fun h=>h⟩
instance zsV [h:SetN ρ i (some (.val x)) ρ']:Stp (JX i x ρ Re) (Re ρ'):=⟨fun k=>by unfold JX;rw[h.e];exact k⟩
instance zvg [h:GetN ρ i (some (.val x))]:Stp (dVar i ρ n R) (R x n):=⟨fun k=>zn6 h.e k⟩
instance zvh [h:GetN ρ i (some (.own xs))]:Stp (dOwn i ρ n R) (R (.list xs) n):=⟨fun k=>zn7 h.e k⟩
instance ztw [h:GetN ρ i (some (.own xs))]:Stp (ZL i d D ρ n) (d ρ n fun t n'=>xs.length<16777216/\SetK i (some (.own (xs++[t]))) D.nx ρ n'):=⟨fun k=>zi0 h.e k⟩
instance ztu [h:GetN ρ i (some (.own xs))][h':SetN ρ i (some (.val (.list xs))) ρ']:Stp (ZM i t D ρ n) (t D ρ' n):=⟨fun k=>ziZ h.e (by rw[h'.e];exact k)⟩
instance zvr [h:GetN ρ i (some (.val (.int q)))]:Stp (sAug i f d D ρ n) (d ρ n fun t n'=>lInt t fun k=>SetK i (some (.val (.int (f q k)))) D.nx ρ n'):=⟨fun k=>zuS h.e k⟩
instance zvl:Stp (sPar i j ds D ρ n) (ds ρ n fun ts n'=>Y3 ts fun t u=>SetK i (some (.val t)) (fun ρ1 n1=>SetK j (some (.val u)) D.nx ρ1 n1) ρ n'):=⟨fun h=>zrX h⟩
instance zvi [h:CompN m capt ρ ρ0]:Stp (dComp m capt di tg tt d ρ n Rl) (di ρ n fun ts n1=>JP tg tt d ρ0 ts [] n1 Rl):=⟨fun k=>zpA (by rw[h.e];exact k)⟩
theorem zqM{D:JM}{ρ:En}{i:Nat}{xs:qD}{x:ab}{n:Nat}{j:Int}{k:Nat}(e:ixN xs.length j=some k)(h:SetK i (some (.own (xs.set k x))) D.nx ρ n) :
  (match ixN xs.length j with|some k=>D.nx (ρ.set i (some (.own (xs.set k x)))) n|none=>False):=by rw[e];exact h
instance zvk [h:GetN ρ i (some (.own xs))]:Stp (sPut i dj d D ρ n) (d ρ n fun t n1=>UI ρ i D dj t n1 xs):=⟨fun k=>zuN h.e k⟩
instance zu8:Stp (UI ρ i D dj x n xs) (dj ρ n fun j n2=>lInt j fun j=>(match ixN xs.length j with|some k=>D.nx (ρ.set i (some (.own (xs.set k x)))) n2|none=>False)):=⟨fun h=>zr0 h⟩
end
theorem Us{l:En}{i:Nat}:l.set i (l.getD i none)=l:=by apply List.ext_getElem?;intro j;by_cases h:i=j;subst h;by_cases hl:i<l.length;rw[e8 hl,aZ,ak hl];rfl;rw[bM (by simp;omega),bM (by omega)];rw[dz h]
section
variable{g:DTG}{tb:DTS}{D:JM}{ts:qD}{ρ:En}{n:Nat}
theorem zsu(x:Nat)(Inv:Nat->Option Cell->Nat->Prop){o:Option Cell->En}[N:∀a0,NormE (ρ.set x a0) (o a0)](h0:Inv 0 (ρ.getD x none) n)
  (turn:∀(k:Nat) (t:ab) (a0:Option Cell) (m:Nat) (K:En->Nat->Prop) (G:qN) (I:En->Nat->Prop),ts[k]?=some t->Inv k a0 m->(∀u C,Inv (k+1) u C->K (o u) C)->(∀t m,D.rt t m->G t m)->(∀ρ m,D.nx ρ m->I ρ m)->g t (o a0) fun l=>tb { nx:=K,rt:=G,bk:=I,ct:=K,xr:=D.xr } l m)
  (fin:∀a0 m,Inv ts.length a0 m->D.nx (o a0) m):forP g tb D ts ρ n:=by
 refine Ux (fun k l m=>∃a0,l=(ρ.set x a0)/\Inv k a0 m) ⟨_,?_,h0⟩ ?_ ?_;rw[Us];rintro k t l m K e ⟨a0,rfl,v⟩ hK;rw[(N a0).e];exact turn k t a0 m K D.rt D.nx e v (fun u C h=>(N u).e▸hK _ _ ⟨u,rfl,h⟩) (fun _ _ h=>h) (fun _ _ h=>h);rintro l m ⟨a0,rfl,v⟩;rw[(N a0).e];exact fin a0 m v
theorem zst(G i1 I:Nat)(Inv:Nat->Option Cell->Option Cell->Option Cell->Nat->Prop){o:Option Cell->Option Cell->Option Cell->En}[N:∀a0 a1 a2,NormE (((ρ.set G a0).set i1 a1).set I a2) (o a0 a1 a2)](h0:Inv 0 (ρ.getD G none) (ρ.getD i1 none) (ρ.getD I none) n)
  (turn:∀(k:Nat) (t:ab) (a0 a1 a2:Option Cell) (m:Nat) (K:En->Nat->Prop) (L:qN) (R:En->Nat->Prop),ts[k]?=some t->Inv k a0 a1 a2 m->(∀v u x J,Inv (k+1) v u x J->K (o v u x) J)->(∀t m,D.rt t m->L t m)->(∀ρ m,D.nx ρ m->R ρ m)->g t (o a0 a1 a2) fun l=>tb { nx:=K,rt:=L,bk:=R,ct:=K,xr:=D.xr } l m)
  (fin:∀a0 a1 a2 m,Inv ts.length a0 a1 a2 m->D.nx (o a0 a1 a2) m):forP g tb D ts ρ n:=by
 refine Ux (fun k l m=>∃a0 a1 a2,l=(((ρ.set G a0).set i1 a1).set I a2)/\Inv k a0 a1 a2 m) ⟨_,_,_,?_,h0⟩ ?_ ?_;rw[Us,Us,Us];rintro k t l m K e ⟨a0,a1,a2,rfl,C⟩ hK;rw[(N a0 a1 a2).e];exact turn k t a0 a1 a2 m K D.rt D.nx e C (fun v u x J h=>(N v u x).e▸hK _ _ ⟨v,u,x,rfl,h⟩) (fun _ _ h=>h) (fun _ _ h=>h);rintro l m ⟨a0,a1,a2,rfl,C⟩;rw[(N a0 a1 a2).e];exact fin a0 a1 a2 m C
theorem zss(L i1 R I:Nat)(Inv:Nat->Option Cell->Option Cell->Option Cell->Option Cell->Nat->Prop){u:Option Cell->Option Cell->Option Cell->Option Cell->En}[N:∀a0 a1 a2 l,NormE ((((ρ.set L a0).set i1 a1).set R a2).set I l) (u a0 a1 a2 l)](h0:Inv 0 (ρ.getD L none) (ρ.getD i1 none) (ρ.getD R none) (ρ.getD I none) n)
  (turn:∀(k:Nat) (t:ab) (a0 a1 a2 l:Option Cell) (m:Nat) (K:En->Nat->Prop) (U:qN) (Y:En->Nat->Prop),ts[k]?=some t->Inv k a0 a1 a2 l m->(∀x v G C S,Inv (k+1) x v G C S->K (u x v G C) S)->(∀t m,D.rt t m->U t m)->(∀ρ m,D.nx ρ m->Y ρ m)->g t (u a0 a1 a2 l) fun o=>tb { nx:=K,rt:=U,bk:=Y,ct:=K,xr:=D.xr } o m)
  (fin:∀a0 a1 a2 l m,Inv ts.length a0 a1 a2 l m->D.nx (u a0 a1 a2 l) m):forP g tb D ts ρ n:=by
 refine Ux (fun k o m=>∃a0 a1 a2 l,o=((((ρ.set L a0).set i1 a1).set R a2).set I l)/\Inv k a0 a1 a2 l m) ⟨_,_,_,_,?_,h0⟩ ?_ ?_;rw[Us,Us,Us,Us];rintro k t o m K e ⟨a0,a1,a2,l,rfl,J⟩ hK;rw[(N a0 a1 a2 l).e];exact turn k t a0 a1 a2 l m K D.rt D.nx e J (fun x v G C S h=>(N x v G C).e▸hK _ _ ⟨x,v,G,C,rfl,h⟩) (fun _ _ h=>h) (fun _ _ h=>h);rintro o m ⟨a0,a1,a2,l,rfl,J⟩;rw[(N a0 a1 a2 l).e];exact fin a0 a1 a2 l m J
theorem zhE{c:DTT}{tb:DTS}{D:JM}{ρ:En}{n:Nat}(Inv:Nat->En->Nat->Prop){m:Nat}(h0:Inv m ρ n)
  (turn:∀m ρ n (K:En->Nat->Prop) (x:qN) (v:En->Nat->Prop),Inv m ρ n->(∀o l u,o<m->Inv o l u->K l u)->(∀t m,D.rt t m->x t m)->(∀ρ m,D.nx ρ m->v ρ m) ->
   c ρ n fun b C=>if b=true then tb { nx:=K,rt:=x,bk:=v,ct:=K,xr:=D.xr } ρ C else v ρ C):zkp c tb D ρ n :=
 zgl Inv h0 fun m ρ n h=>turn m ρ n (fun l u=>∃o,o<m/\Inv o l u) D.rt D.nx h (fun o _ _ a b=>⟨o,a,b⟩) (fun _ _ h=>h) (fun _ _ h=>h)
end
mutual
def plnD:ab->Bool
 | .dict []=>true
 | .dict _=>false
 | .tuple ts=>decide (ts.length<=1000000)&&UY ts
 | .list ts=>decide (ts.length<=1000000)&&UY ts
 | .str x=>decide (x.length<=1000000)
 | _=>true
def UY:List ab->Bool
 | []=>true
 | t::ts=>plnD t&&UY ts
end
def PlnD(d:ab):Prop:=plnD d=true
theorem zei:∀{ts:qD},UY ts=true↔∀t∈ts,PlnD t
 | []=>by simp[UY]
 | t::ts=>by rw[UY,aW,zei (ts:=ts)];constructor;rintro⟨a,b⟩ u l;rcases ay.mp l with rfl|l;exact a;exact b u l;intro h;exact⟨h t (by simp),fun u l=>h u (by simp[l])⟩
theorem PlnD.tup{ts:qD}(h:PlnD (.tuple ts)):ts.length<=1000000/\∀t∈ts,PlnD t:=by unfold PlnD plnD at h;rw[aW,decide_eq_true_iff,zei]at h;exact h
theorem zfM{ts:qD}(l:ts.length<=1000000)(h:∀t∈ts,PlnD t):PlnD (.tuple ts):=by unfold PlnD plnD;rw[aW,decide_eq_true_iff,zei];exact⟨l,h⟩
theorem VL{i:Int}:PlnD (.int i):=by unfold PlnD plnD;rfl
theorem ziJ:∀t∈([]:qD),PlnD t:=fun t h=>nomatch h
theorem ZU{x:ab}{xs:qD}(h:PlnD x)(h':∀t∈xs,PlnD t):∀t∈x::xs,PlnD t:=fun t l=>by rcases ay.mp l with rfl|l;exact h;exact h' t l
theorem PlnD.pln{d:ab}(h:PlnD d):Pln d:=by
 cases d with
 | dict ks =>
  cases ks with
  | nil=>exact Uz
  | cons a b=>cases a with|mk x y=>simp[PlnD,plnD]at h
 | none=>exact Ur
 | bool=>exact QX
 | int=>exact QY
 | str=>exact Um
 | list=>exact Uq
 | tuple=>exact Uw
theorem zim{α:Type}{cs:List α}{D:α->ab}{tg:DTG}{tt:DTT}{d:DTE}{ρ0:En}{n:Nat}{Rl:List ab->Nat->Prop}(p:α->Bool)(F:α->ab)(L:cs.length<=16777216)
  (step:∀b∈cs,∀(K:qN) (X:Nat->Prop),(p b=true->K (F b) n)->(p b=false->X n)->tg (D b) ρ0 fun u=>tt u n fun c C=>if c=true then d u C K else X C) (fin:Rl ((cs.filter p).map F) n):JP tg tt d ρ0 (cs.map D) [] n Rl:=by
 refine zlT (fun j acc m=>m=n/\acc=((cs.take j).filter p).map F) ⟨rfl,rfl⟩ ?_ ?_;rintro j x acc m K o ⟨rfl,rfl⟩ hK;rw[a6]at o;cases eb:cs[j]? with
 | none=>rw[eb]at o;cases o
 | some b =>
  rw[eb]at o;cases o;obtain⟨I,J⟩:=ah.mp eb;have G:cs.take (j+1)=cs.take j++[b]:=by rw[d0,eb];rfl
  refine step b (aM eb) _ _ (fun v=>⟨?_,hK _ _ ⟨rfl,?_⟩⟩) (fun v=>hK _ _ ⟨rfl,?_⟩);have:=lA p (cs.take j);simp at this ⊢;lia;rw[G,mX,bJ];simp[v];rw[G,mX,bJ];simp[v]
 rintro acc m ⟨rfl,rfl⟩;rw[ao,dr];exact fin
def ZG(g:DTG)(tt:DTT)(o:DTA)(g2:DTG)(l:DTT)(u:DTE)(ρ0:En)(xs acc:qD)(n:Nat)(R:List ab->Nat->Prop):Prop:=cGo g tt (tdN o g2 l (tdL u)) ρ0 xs acc n R
def zlO(m:Nat)(capt:List Nat)(x:DTA)(g:DTG)(tt:DTT)(o:DTA)(g2:DTG)(l:DTT)(C:DTE):DTA:=fun u n R=>x u n fun ts v=>ZG g tt o g2 l C (JJ m capt u) ts [] v R
section
variable{X:Cx}{scope:dF}{own:List Str}{capt:List Nat}{elt tg iter tg2 it2:aT}{ifs Io:List aT}{pos:Pos}{di di2:DTA}{is is2:List Nat}{g g2:DTG}{tt tt2:DTT}{te:DTE}
theorem znu(hc:X.calm=true)(S:JB scope own capt X)(hi:DIL X tg iter di)
  (Z:Fam X scope own capt fun Y=>DG Y tg is g) (u:∀i∈is,i<own.length) (ht:Fam X scope own capt fun Y=>DTs Y ifs tt) (J:Fam X scope own capt fun Y=>DI Y tg2 it2 di2) (v:Fam X scope own capt fun Y=>DG Y tg2 is2 g2) (l:∀i∈is2,i<own.length/\i∉is) (I:Fam X scope own capt fun Y=>DTs Y Io tt2)
  (he:Fam X scope own capt fun Y=>DE Y elt te)
  (hs:Fsi X iter:=by intro _;rfl) (G:∀(C:af) (x:ae),foldedSetIterable it2 (compEnvC scope (ownCl X scope C) C X.env) x=pure x:=by intro _ _;rfl) :
  DN X (.ListComp elt [⟨tg,iter,ifs,0⟩,⟨tg2,it2,Io,0⟩] scope pos) (zlO own.length capt di g tt di2 g2 tt2 te):=by
 obtain⟨ge,p,_,sp⟩:=zgf (e:=.ListComp elt [⟨tg,iter,ifs,0⟩,⟨tg2,it2,Io,0⟩] scope pos) Vd zok hc S ⟨zh9,⟨_,rfl⟩,fun _ _ _=>rfl,fun _=>⟨_,rfl⟩,fun _ _=>⟨_,rfl⟩⟩ znZ hi Z u ht (zpC Vd zh9 hc rfl (fun _ _ _=>rfl) J v I G (zn9 he)) l hs;exact⟨ge,p,fun C ρ σ H n Q R St hd N=>sp C ρ σ H n Q R St hd fun acc n' H' D r e h U _ ⟨ys,hy,rs⟩=>N acc n' D ys H' r e h U hy rs⟩
end
section
variable{ρ ρ0:En}{n m:Nat}{di di2:DTA}{g g2:DTG}{tt tt2:DTT}{te:DTE}{capt:List Nat}{Rl:List ab->Nat->Prop}
instance zt8 [h:CompN m capt ρ ρ0]:Stp (zlO m capt di g tt di2 g2 tt2 te ρ n Rl) (di ρ n fun ts n1=>ZG g tt di2 g2 tt2 te ρ0 ts [] n1 Rl):=⟨fun k=>by unfold zlO;rw[h.e];exact k⟩
end
abbrev Run:=Int×Int
def NR(rs:List Run):Prop:=(∀r∈rs,r.1<r.2)/\rs.Pairwise fun a b=>a.2<b.1
def mR(x:Int)(rs:List Run):Prop:=∃r∈rs,r.1<=x/\x<r.2
def mB(x:Int)(bs:qB):Prop:=∃b∈bs,b.1<=x/\x<eB b
theorem J1{x:Int}{r:Run}{rs:List Run}:mR x (r::rs)↔(r.1<=x/\x<r.2)\/mR x rs:=by unfold mR;constructor;rintro⟨s,o,h⟩;rcases ay.mp o with rfl|o;exact .inl h;exact .inr ⟨s,o,h⟩;rintro(h|⟨s,o,h⟩);exact⟨r,by simp,h⟩;exact⟨s,by simp[o],h⟩
theorem Yy{x:Int}:¬mR x []:=fun⟨_,h,_⟩=>nomatch h
theorem zk2{x:Int}{rs ss:List Run}:mR x (rs++ss)↔mR x rs\/mR x ss:=by unfold mR;constructor;rintro⟨s,o,h⟩;rcases ai.mp o with o|o;exact .inl ⟨s,o,h⟩;exact .inr ⟨s,o,h⟩;rintro(⟨s,o,h⟩|⟨s,o,h⟩);exact⟨s,by simp[o],h⟩;exact⟨s,by simp[o],h⟩
theorem zk3{x:Int}{b:Int×Int}{bs:qB}:mB x (b::bs)↔(b.1<=x/\x<eB b)\/mB x bs:=by unfold mB;constructor;rintro⟨s,o,h⟩;rcases ay.mp o with rfl|o;exact .inl h;exact .inr ⟨s,o,h⟩;rintro(h|⟨s,o,h⟩);exact⟨b,by simp,h⟩;exact⟨s,by simp[o],h⟩
theorem Vt{x:Int}:¬mB x []:=fun⟨_,h,_⟩=>nomatch h
theorem zn3{x:Int}{bs cs:qB}:mB x (bs++cs)↔mB x bs\/mB x cs:=by unfold mB;constructor;rintro⟨s,o,h⟩;rcases ai.mp o with o|o;exact .inl ⟨s,o,h⟩;exact .inr ⟨s,o,h⟩;rintro(⟨s,o,h⟩|⟨s,o,h⟩);exact⟨s,by simp[o],h⟩;exact⟨s,by simp[o],h⟩
theorem zpf{x:Int}{bs cs:qB}(h:bs.Perm cs):mB x bs↔mB x cs:=by unfold mB;constructor;rintro⟨s,l,q⟩;exact⟨s,h.mem_iff.mp l,q⟩;rintro⟨s,l,q⟩;exact⟨s,h.mem_iff.mpr l,q⟩
theorem NR.tail{r:Run}{rs:List Run}(h:NR (r::rs)):NR rs:=⟨fun s l=>h.1 s (by simp[l]),(d7.mp h.2).2⟩
theorem NR.ahead{r:Run}{rs:List Run}(h:NR (r::rs)){x:Int}(hx:mR x rs):r.2<x:=by obtain⟨s,l,u,o⟩:=hx;have:=(d7.mp h.2).1 s l;lia
theorem NR.uniq:∀{rs ss:List Run},NR rs->NR ss->(∀x,mR x rs↔mR x ss)->rs=ss
 | [],[],_,_,_=>rfl
 | [],s::ss,_,h,e=>by exfalso;have:=h.1 s (by simp);exact Yy ((e s.1).mpr (J1.mpr (.inl ⟨aE _,this⟩)))
 | r::rs,[],h,_,e=>by exfalso;have:=h.1 r (by simp);exact Yy ((e r.1).mp (J1.mpr (.inl ⟨aE _,this⟩)))
 | r::rs,s::ss,hr,hs,e=>by
  have C:=hr.1 r (by simp);have s1:=hs.1 s (by simp);have a:∀x,mR x (r::rs)->r.1<=x:=fun x hx=>by rcases J1.mp hx with z|z;exact z.1;have:=hr.ahead z;lia
  have b:∀x,mR x (s::ss)->s.1<=x:=fun x hx=>by rcases J1.mp hx with z|z;exact z.1;have:=hs.ahead z;lia
  have u:r.1=s.1:=by have:=b r.1 ((e r.1).mp (J1.mpr (.inl ⟨aE _,C⟩)));have:=a s.1 ((e s.1).mpr (J1.mpr (.inl ⟨aE _,s1⟩)));lia
  have v:¬mR r.2 (r::rs):=fun z=>by rcases J1.mp z with y|y;lia;have:=hr.ahead y;lia
  have ns:¬mR s.2 (s::ss):=fun z=>by rcases J1.mp z with y|y;lia;have:=hs.ahead y;lia
  have G:r.2=s.2:=by rcases iX r.2 s.2 with z|z|z;exact absurd ((e r.2).mpr (J1.mpr (.inl ⟨by lia,z⟩))) v;exact z;exact absurd ((e s.2).mp (J1.mpr (.inl ⟨by lia,z⟩))) ns
  have o:r=s:=fA u G;subst o;rw[NR.uniq hr.tail hs.tail fun x=>?_];have ex:=e x;rw[J1,J1]at ex;constructor;intro z;have:=hr.ahead z;rcases ex.mp (wD z) with y|y;lia;exact y;intro z;have:=hs.ahead z;rcases ex.mpr (wD z) with y|y;lia;exact y
def QH(lo hi:Int)(h:Nat):Prop:=lo % 2 ^ h=0/\(2:Int) ^ h<=hi - lo/\¬(lo % 2 ^ (h+1)=0/\(2:Int) ^ (h+1)<=hi - lo)
theorem zdt{a b:Nat}(h:a<=b):((2:Int) ^ a)∣2 ^ b:=⟨2 ^ (b - a),by rw[<- gH];congr 1;lia⟩
theorem Q6{a b:Nat}(h:a<=b):(2:Int) ^ a<=2 ^ b:=by
 obtain⟨c,e⟩:=zdt h;have pa:=Bd.Q4 a;have l:=Bd.Q4 b;have pc:0<c:=by rcases iX c 0 with z|z|z;have:=fY pa z;lia;subst z;lia;exact z
 rw[e];have:=eZ (show(1:Int)<=c by lia) (show(0:Int)<=2 ^ a by lia);lia
theorem US{lo:Int}{a b:Nat}(h:a<=b)(e:lo % 2 ^ b=0):lo % 2 ^ a=0:=by have d:((2:Int) ^ b)∣lo:=bh e;exact cJ (Int.dvd_trans (zdt h) d)
theorem QH.uniq{lo hi:Int}{h g:Nat}(a:QH lo hi h)(b:QH lo hi g):h=g:=by rcases cw h g with z|z|z;exfalso;exact a.2.2 ⟨US (show h+1<=g by lia) b.1,bo (Q6 (show h+1<=g by lia)) b.2.1⟩;exact z;exfalso;exact b.2.2 ⟨US (show g+1<=h by lia) a.1,bo (Q6 (show g+1<=h by lia)) a.2.1⟩
def Jp:Int->Int->List (Int×Int)->Prop
 | lo,hi,[]=>lo=hi
 | lo,hi,b::r=>lo<hi/\b.1=lo/\0<=b.2/\QH lo hi b.2.toNat/\Jp (lo+2 ^ b.2.toNat) hi r
theorem Jp.le:∀{bs:qB}{lo hi:Int},Jp lo hi bs->lo<=hi
 | [],_,_,h=>by have:_=_:=h;lia
 | b::r,lo,hi,h=>by have:=h.1;lia
theorem Jp.uniq:∀{bs cs:qB}{lo hi:Int},Jp lo hi bs->Jp lo hi cs->bs=cs
 | [],[],_,_,_,_=>rfl
 | [],c::cs,lo,hi,h,k=>by have:lo=hi:=h;have:=k.1;lia
 | b::bs,[],lo,hi,h,k=>by have:lo=hi:=k;have:=h.1;lia
 | b::bs,c::cs,lo,hi,h,k=>by
  obtain⟨R,I,J,o,u⟩:=h;obtain⟨L,N,G,v,l⟩:=k;have e:=o.uniq v;have x:b.2=c.2:=by lia
  have C:b=c:=fA (by lia) x;subst C;rw[Jp.uniq u l]
theorem Jp.mem:∀{bs:qB}{lo hi:Int},Jp lo hi bs->∀x,mB x bs↔lo<=x/\x<hi
 | [],lo,hi,h,x=>by have:lo=hi:=h;exact⟨fun z=>absurd z Vt,fun z=>by omega⟩
 | b::r,lo,hi,h,x=>by obtain⟨G,u,v,C,o⟩:=h;have:=Jp.mem o x;have l:=Jp.le o;have p:=Bd.Q4 b.2.toNat;rw[zk3,this];unfold eB;rw[u];omega
theorem Jp.blk{bits:Int}(I:0<=bits):∀{bs:qB}{lo hi:Int},Jp lo hi bs->0<=lo->hi<=2 ^ bits.toNat->Bks bits bs
 | [],_,_,_,_,_=>fun b hb=>nomatch hb
 | b::r,lo,hi,h,l0,l1=>by
  obtain⟨S,G,L,v,u⟩:=h;have p:=Bd.Q4 b.2.toNat;have l:=Jp.le u;have C:=Jp.blk I u (by lia) l1;intro c hc;rcases ay.mp hc with rfl|hc;have hb:c.2.toNat<=bits.toNat:=by rcases fc bits.toNat c.2.toNat with z|z;exfalso;have:=Q6 (show bits.toNat+1<=c.2.toNat by lia);have R:=Bd.Q4 bits.toNat;rw[bA]at this;have:=v.2.1;lia;exact z
  obtain⟨k,x⟩:=bh v.1;have J:0<=k:=by rcases fV k 0 with z|z;have:=fY p z;lia;exact z
  refine⟨L,by lia,k,J,by rw[G,x,cg],?_⟩;have e:(2:Int) ^ bits.toNat=2 ^ (bits - c.2).toNat*2 ^ c.2.toNat:=by rw[<- gH];congr 1;lia
  have up:k*2 ^ c.2.toNat<2 ^ (bits - c.2).toNat*2 ^ c.2.toNat:=by rw[<- e,cg,<- x];lia
  exact iO up (by lia);exact C c hc
theorem Jp.in:∀{bs:qB}{lo hi:Int},Jp lo hi bs->∀b∈bs,lo<=b.1/\eB b<=hi
 | [],_,_,_=>fun b hb=>nomatch hb
 | b::r,lo,hi,h=>by obtain⟨G,v,x,C,o⟩:=h;have p:=Bd.Q4 b.2.toNat;have u:=Jp.in o;have l:=Jp.le o;intro c hc;rcases ay.mp hc with rfl|hc;unfold eB;rw[v];lia;have:=u c hc;lia
theorem Jp.pw:∀{bs:qB}{lo hi:Int},Jp lo hi bs->bs.Pairwise fun a b=>eB a<=b.1
 | [],_,_,_=>.nil
 | b::r,lo,hi,h=>by obtain⟨G,v,x,C,u⟩:=h;refine .cons (fun c hc=>?_) (Jp.pw u);have:=Jp.in u c hc;unfold eB;rw[v];lia
theorem zgF:∀{bs:qB}{lo hi:Int}{k:Nat},Jp lo hi bs->lo % 2 ^ k=0->hi - lo<2 ^ k->bs.length<=k
 | [],_,_,_,_,_,_=>bp _
 | b::r,lo,hi,k,h,d,l=>by
  obtain⟨G,x,C,o,u⟩:=h;have v:b.2.toNat<k:=by rcases fc b.2.toNat k with z|z;exact z;have:=Q6 z;have:=o.2.1;lia
  have up:¬(2:Int) ^ (b.2.toNat+1)<=hi - lo:=fun z=>o.2.2 ⟨US (show b.2.toNat+1<=k by lia) d,z⟩;rw[bA]at up;have:=zgF (k:=b.2.toNat) u (by rw[nG,o.1];simp) (by lia);rw[aG];lia
theorem zgE{K:Nat}:∀{bs:qB}{lo hi:Int}{k:Nat},Jp lo hi bs->lo % 2 ^ k=0->hi - lo<2 ^ K->k<=K->bs.length<=(K - k)+K
 | [],_,_,_,_,_,_,_=>bp _
 | b::r,lo,hi,k,h,d,l,hkK=>by
  obtain⟨L,C,J,o,u⟩:=h;have p:=Bd.Q4 b.2.toNat;have I:b.2.toNat<K:=by rcases fc b.2.toNat K with z|z;exact z;have:=Q6 z;have:=o.2.1;lia
  rw[aG];by_cases up:(2:Int) ^ (b.2.toNat+1)<=hi - lo;have nd:¬lo % 2 ^ (b.2.toNat+1)=0:=fun z=>o.2.2 ⟨z,up⟩;have G:k<=b.2.toNat:=by rcases fc b.2.toNat k with z|z;exact absurd (US (show b.2.toNat+1<=k by lia) d) nd;exact z
  have d':(lo+2 ^ b.2.toNat) % 2 ^ (b.2.toNat+1)=0:=by
   obtain⟨q,eq⟩:=bh o.1;have x:(2:Int) ^ (b.2.toNat+1)=2 ^ b.2.toNat*2:=bA _ _;rw[x]at nd ⊢;have odd:q % 2=1:=by rcases oM q with z|z;exfalso;obtain⟨t,v⟩:=bh z;apply nd;apply cJ;exact⟨t,by rw[eq,v,cM]⟩;exact z
   apply cJ;refine⟨(q+1) / 2,?_⟩;have:q+1=2*((q+1) / 2):=by lia
   rw[eq,cM,<- this,oq,iV]
  have:=zgE (K:=K) (k:=b.2.toNat+1) u d' (by lia) (by lia);lia;rw[bA]at up;have:=zgF (k:=b.2.toNat) u (by rw[nG,o.1];simp) (by lia);lia
theorem Jp.len{bs:qB}{lo hi:Int}(h:Jp lo hi bs)(l:0<=lo)(o:hi<=2 ^ 64):bs.length<=130:=by have:=zgE (K:=65) (k:=0) h (by simp) (by have e:(2:Int) ^ 65=2*2 ^ 64:=(by decide);omega) (by decide);omega
theorem zi2{lo hi:Int}(h:lo<hi):∃g,QH lo hi g:=by
 have key:∀(d k:Nat),lo % 2 ^ k=0->(2:Int) ^ k<=hi - lo->(hi - lo).toNat<2 ^ (k+d)->∃g,QH lo hi g:=by
  intro d;induction d with
  | zero =>
   intro k _ b c;exfalso;have:((2 ^ k:Nat):Int)=(2:Int) ^ k:=by rw[fB];rfl
   rw[Nat.add_zero]at c;lia
  | succ d l =>intro k a b c;by_cases z:lo % 2 ^ (k+1)=0/\(2:Int) ^ (k+1)<=hi - lo;exact l (k+1) z.1 z.2 (by rw[show k+1+d=k+(d+1) by lia];exact c);exact⟨k,a,b,z⟩
 refine key (hi - lo).toNat 0 (by simp) (by simp;lia) ?_;rw[du];exact Nat.lt_two_pow_self
theorem zkg:∀(n:Nat) (lo hi:Int),(hi - lo).toNat<=n->lo<=hi->∃bs,Jp lo hi bs:=by
 intro n;induction n with
 | zero =>intro lo hi h l;exact⟨[],by show lo=hi;lia⟩
 | succ n u =>intro lo hi h l;by_cases z:lo<hi;obtain⟨g,G⟩:=zi2 z;have p:=Bd.Q4 g;have:=G.2.1;obtain⟨bs,B⟩:=u (lo+2 ^ g) hi (by lia) (by lia);exact⟨(lo,(g:Int))::bs,z,rfl,by show(0:Int)<=(g:Int);lia,by simpa using G,by simpa using B⟩;exact⟨[],by show lo=hi;lia⟩
def PatS:List Run->List (Int×Int)->Prop
 | [],ps=>ps=[]
 | r::rs,ps=>∃a b,ps=a++b/\Jp r.1 r.2 a/\PatS rs b
theorem PatS.uniq:∀{rs:List Run}{ps qs:qB},PatS rs ps->PatS rs qs->ps=qs
 | [],_,_,h,k=>by rw[show _=[] from h,show _=[] from k]
 | r::rs,_,_,h,k=>by obtain⟨a,b,rfl,v,l⟩:=h;obtain⟨c,d,rfl,o,u⟩:=k;rw[v.uniq o,PatS.uniq l u]
theorem PatS.mem:∀{rs:List Run}{ps:qB},PatS rs ps->∀x,mB x ps↔mR x rs
 | [],_,h,x=>by cases(show _=[] from h);exact⟨fun z=>absurd z Vt,fun z=>absurd z Yy⟩
 | r::rs,_,h,x=>by obtain⟨a,b,rfl,o,l⟩:=h;rw[zn3,J1,o.mem x,PatS.mem l x]
theorem PatS.blk{bits:Int}(l:0<=bits):∀{rs:List Run}{ps:qB},PatS rs ps->(∀r∈rs,0<=r.1/\r.2<=2 ^ bits.toNat)->Bks bits ps
 | [],_,h,_=>by cases(show _=[] from h);exact fun b hb=>nomatch hb
 | r::rs,_,h,w=>by obtain⟨a,b,rfl,x,u⟩:=h;have o:=w r (by simp);intro c hc;rcases ai.mp hc with hc|hc;exact x.blk l o.1 o.2 c hc;exact PatS.blk l u (fun s v=>w s (by simp[v])) c hc
theorem PatS.in:∀{rs:List Run}{ps:qB},PatS rs ps->∀b∈ps,∃r∈rs,r.1<=b.1/\eB b<=r.2
 | [],_,h=>by cases(show _=[] from h);exact fun b hb=>nomatch hb
 | r::rs,_,h=>by obtain⟨a,b,rfl,u,l⟩:=h;intro c hc;rcases ai.mp hc with hc|hc;exact⟨r,by simp,u.in c hc⟩;obtain⟨s,o,q⟩:=PatS.in l c hc;exact⟨s,by simp[o],q⟩
theorem PatS.pw:∀{rs:List Run}{ps:qB},PatS rs ps->NR rs->ps.Pairwise fun a b=>eB a<=b.1
 | [],_,h,_=>by cases(show _=[] from h);exact .nil
 | r::rs,_,h,nr=>by obtain⟨a,b,rfl,u,o⟩:=h;rw[dD];refine⟨u.pw,PatS.pw o nr.tail,fun x hx y v=>?_⟩;have:=u.in x hx;obtain⟨s,C,q⟩:=PatS.in o y v;have:=(d7.mp nr.2).1 s C;lia
def CanP(S:Int->Prop)(ps:qB):Prop:=∃rs,NR rs/\(∀x,mR x rs↔S x)/\PatS rs ps
theorem CanP.uniq{S T:Int->Prop}{ps qs:qB}(h:CanP S ps)(k:CanP T qs)(e:∀x,S x↔T x):ps=qs:=by
 obtain⟨rs,v,o,u⟩:=h;obtain⟨ss,C,G,l⟩:=k;have:rs=ss:=v.uniq C fun x=>by rw[o,G,e]
 subst this;exact u.uniq l
theorem CanP.mem{S:Int->Prop}{ps:qB}(h:CanP S ps)(x:Int):mB x ps↔S x:=by obtain⟨rs,u,l,o⟩:=h;rw[o.mem,l]
theorem CanP.ptc{S:Int->Prop}{ps:qB}{bits:Int}(C:0<=bits)(h:CanP S ps)(w:∀x,S x->0<=x/\x<2 ^ bits.toNat):Ptc bits ps:=by obtain⟨rs,v,o,u⟩:=h;refine⟨u.blk C fun r l=>?_,u.pw v⟩;have lt:=v.1 r l;have a:=w r.1 ((o _).mp ⟨r,l,aE _,lt⟩);have b:=w (r.2 - 1) ((o _).mp ⟨r,l,by lia,by lia⟩);lia
section
variable{X:Cx}{a:aT}{da:DTE}{ρ:En}{n:Nat}{R:qN}
theorem zkZ:MtR X "int.bit_length" (fun x xs H Q=>∃i,x=.int i/\xs=[]/\Q (.int (eM i)) H):=by intro pins s σ H x xs v us Q I l rs h;obtain⟨i,rfl,rfl,q⟩:=h;obtain⟨t,rfl⟩:=l;cases rs;exact call_int_bit_length ⟨.int _,H,I.tok _,⟨_,rfl⟩,q⟩
def zlP(d:DTE):DTE:=fun ρ n R=>d ρ n fun t l=>lInt t fun i=>R (.int (eM i)) l
theorem zht{x o:Pos}(h:DL X a da)(N:attributeBase a "bit_length" X.env (eval a X.env)=eval a X.env:=by rfl) (U:(x.endLine == o.line)=true:=by rfl):DE X (.Call (.Attribute a "bit_length" x) [] [] o) (zlP da):=by
 obtain⟨ta,pa,h⟩:=h;refine⟨_,znV PySem.F.plainAttrs_int slot_int_bit_length type_int_bit_length zkZ pa N U,fun C ρ σ H n Q R S hd I=>?_⟩;refine h C ρ σ H n _ _ S hd fun t Y v L r G Z J=>?_;cases t with
 | int i =>rw[J.intI];exact⟨rfl,i,rfl,rfl,I _ Y _ L r G Z (.int _)⟩
 | _=>exact r.elim
instance ztv:Stp (zlP da ρ n R) (da ρ n fun t n1=>lInt t fun i=>R (.int (eM i)) n1):=⟨fun h=>h⟩
end
theorem zep{i:Int}(h:0<i):(eM i:Int) - 1=(i.toNat.log2:Int):=by
 unfold eM;have:(i == 0)=false:=by simp;lia
 rw[this];have e:i.natAbs=i.toNat:=by lia
 rw[e];simp
theorem zk8{i:Int}(h:0<i):(2:Int) ^ i.toNat.log2<=i:=by
 have:=Nat.log2_self_le (n:=i.toNat) (by lia);have e:((2 ^ i.toNat.log2:Nat):Int)=(2:Int) ^ i.toNat.log2:=by rw[fB];rfl
 lia
theorem zk4{i:Int}(h:0<i):i<(2:Int) ^ (i.toNat.log2+1):=by
 have:=Nat.lt_log2_self (n:=i.toNat);have e:((2 ^ (i.toNat.log2+1):Nat):Int)=(2:Int) ^ (i.toNat.log2+1):=by rw[fB];rfl
 lia
theorem zlb(t:Nat):∀x:Nat,x % 2 ^ t=0->¬x % 2 ^ (t+1)=0->x - (x &&& (x - 1))=2 ^ t:=by
 induction t with
 | zero =>
  intro x _ h;have G:x % 2=1:=by
   have:¬x % 2=0:=by simpa using h
   lia
  have e:x &&& (x - 1)=x - 1:=by
   apply l7;intro i;rw[k6];cases i with
   | zero =>
    have:(x - 1).testBit 0=false:=by rw[ku];simp;lia
    rw[this,l8]
   | succ i =>
    have:x / 2=(x - 1) / 2:=by lia
    rw[fW,fW,this,Bool.and_self]
  rw[e];simp;omega
 | succ t u =>
  intro x o v;have ev:x % 2=0:=by have:2∣2 ^ (t+1):=⟨2 ^ t,by rw[gV,nH]⟩;exact gW (Nat.dvd_trans this (gX o))
  have hx:x=2*(x / 2):=by lia
  have C:(x / 2) % 2 ^ t=0:=by
   obtain⟨q,e⟩:=gX o;apply gW;refine⟨q,?_⟩;rw[gV]at e;have:x=2*(2 ^ t*q):=by rw[e];rw[nH (2 ^ t) 2,sv]
   lia
  have l:¬(x / 2) % 2 ^ (t+1)=0:=fun z=>by obtain⟨q,e⟩:=gX z;apply v;apply gW;refine⟨q,?_⟩;rw[gV,nH (2 ^ (t+1)) 2,sv,<- e];exact hx
  have:=u (x / 2) C l;have e:x &&& (x - 1)=2*(x / 2 &&& (x / 2 - 1)):=by
   apply l7;intro i;rw[k6];cases i with
   | zero =>
    have a:x.testBit 0=false:=by rw[ku];simp;omega
    rw[a,eQ,ku];simp
   | succ i =>
    have I:0<x / 2:=by rcases Nat.eq_zero_or_pos (x / 2) with z|z;rw[z]at l;simp at l;exact z
    have b:(x - 1) / 2=x / 2 - 1:=by lia
    rw[fW,fW,fW,b,Nat.mul_div_cancel_left _ (by decide:0<2),k6]
  rw[e,gV];have le:(x / 2 &&& (x / 2 - 1))<=x / 2:=oN;lia
theorem zp6{b:Int}(h:0<b){t:Nat}(v:b % 2 ^ t=0)(l:¬b % 2 ^ (t+1)=0):fL b (-b)=2 ^ t:=by
 have e:fL b (-b)=b - ((b.toNat &&& (b.toNat - 1):Nat):Int):=by
  have h0:decide (0<=b)=true:=decide_eq_true (by lia);have u:decide (0<=-b)=false:=decide_eq_false (by lia);show(match decide (0<=b),decide (0<=-b) with
   | true,true=>((b.toNat &&& (-b).toNat:Nat):Int)
   | true,false=>b - ((b.toNat &&& (eV (-b)).toNat:Nat):Int)
   | false,true=>(-b) - (((-b).toNat &&& (eV b).toNat:Nat):Int)
   | false,false=>eV (((eV b).toNat|||(eV (-b)).toNat:Nat):Int))=_
  rw[h0,u];have:(eV (-b)).toNat=b.toNat - 1:=by
   have:eV (-b)=b - 1:=by show -(-b) - 1=b - 1;lia
   rw[this];lia
  rw[this]
 have cast:∀k:Nat,b % (2:Int) ^ k=((b.toNat % 2 ^ k:Nat):Int):=fun k=>by rw[Int.natCast_emod,fB,mG (by lia)];rfl
 rw[cast]at v l;have:=zlb t b.toNat (by lia) (by lia);have le:(b.toNat &&& (b.toNat - 1))<=b.toNat:=oN;rw[e];have x:((2 ^ t:Nat):Int)=(2:Int) ^ t:=by rw[fB];rfl
 omega
theorem zty{b:Int}(h:0<b):∃t:Nat,b % 2 ^ t=0/\¬b % 2 ^ (t+1)=0:=by obtain⟨g,G⟩:=zi2 (lo:=b) (hi:=b+b+1) (by lia);refine⟨g,G.1,fun z=>?_⟩;have d:=bh z;have:=Int.le_of_dvd h d;exact G.2.2 ⟨z,by lia⟩
theorem ziX{xs:qD}{x:ab}:ixN (xs++[x]).length (-1)=some xs.length:=by unfold ixN;simp;lia
theorem znc{xs:qD}{x:ab}{Q:ab->Prop}(h:Q x):oIx (.list (xs++[x])) (.int (-1)) Q:=by
 have e:atI (xs++[x]) (-1)=some x:=by unfold atI;rw[ziX];simp
 rw[Y5 e];exact h
end L2
namespace Bd
open PySem L2
abbrev Deal:=Int×List ((Int×Int)×Str)×List ((Int×Int)×Str)
end Bd
namespace L2
open PySem PySem.Spec PyProof.Rows
section
variable{X:Cx}{tg iter:aT}{d:DTE}
def iSeq(K:qF)(o:TE):TI:=fun σ H R=>o σ H fun x l=>∃a,x=.ref a/\(((∃xs,SqL K l a xs)/\R (Itl K a) l)\/((∃xs,SqT K l a xs)/\R (Itt K a) l))
theorem zqS{l:aT}{N:TE}(Y:PE X l N):PI X tg l (iSeq X.K N):=by
 intro pins s σ H R I h;refine thn (Y pins s σ H _ I h) fun v s1 C=>?_;obtain⟨x,L,u,S,J⟩:=C;obtain⟨a,e,J⟩:=J;subst e;cases S;rcases J with⟨⟨xs,G⟩,q⟩|⟨⟨xs,G⟩,q⟩;obtain⟨its,U,p,hz⟩:=u.list G;refine fG p.isList ?_;refine⟨s1.heap.objs.size,[s1.heap.objs.size],_,_,L,rfl,u.kept (t':=s1.toks) fun b o e=>aq _ e,zgy a _,⟨_,aB _ rfl,rfl,rfl⟩,fun b hb=>?_,q⟩;have e:b=s1.heap.objs.size:=by simpa using hb
 subst e;exact u.fpOk (av _) (u.hok.fresh (av _));obtain⟨its,U,p,hz⟩:=u.tuple G;refine mN (show s1.heap.IsTuple a its.toArray from p) ?_;refine⟨s1.heap.objs.size,[s1.heap.objs.size],_,_,L,rfl,u.kept (t':=s1.toks) fun b o e=>aq _ e,ze4 a _,⟨_,aB _ rfl,rfl,rfl⟩,fun b hb=>?_,q⟩;have e:b=s1.heap.objs.size:=by simpa using hb
 subst e;exact u.fpOk (av _) (u.hok.fresh (av _))
def dItA(d:DTE):DTA:=fun o n R=>d o n fun t l=>Qn t fun ts=>R ts l
theorem zsF(h:DE X iter d):DI X tg iter (dItA d):=by
 obtain⟨N,pa,h⟩:=h;refine⟨_,zqS pa,fun C I σ H n Q R S hd x=>?_⟩;refine h C I σ H n _ _ S hd fun t J v H' r u G q=>?_;cases t with
 | tuple ts =>obtain⟨p,vs,rfl,o,it⟩:=zn4 (P:=fun a=>¬Own C I σ a) (fun _ z=>z) q;exact⟨p,rfl,.inr ⟨⟨vs,o⟩,x ts J _ H' r u G it⟩⟩
 | list ts =>obtain⟨p,vs,rfl,o,no,L⟩:=q.lstI;exact⟨p,rfl,.inl ⟨⟨vs,SqL.of o⟩,x ts J _ H' r u G (VE o no (fun _ z=>z) L)⟩⟩
 | _=>exact r.elim
end
section
variable{ρ:En}{n:Nat}{d:DTE}{Rl:List ab->Nat->Prop}
instance zvo:Stp (dItA d ρ n Rl) (d ρ n fun t n'=>Qn t fun ts=>Rl ts n'):=⟨fun h=>h⟩
end
theorem YN{bits:Int}{p q:Int×Int}(P:IsBk bits p.1 p.2)(Q:IsBk bits q.1 q.2){x:Int}(u:p.1<=x/\x<eB p)(o:q.1<=x/\x<eB q):(p.1<=q.1/\eB q<=eB p/\q.2<=p.2)\/(q.1<=p.1/\eB p<=eB q/\p.2<=q.2):=by unfold eB at *;rcases tT q.2.toNat p.2.toNat with l|l;rcases zhy P.n Q.n l with z|z|z;left;have:=(zia P.n Q.n).mp z;have:=P.1;have:=Q.1;omega;omega;omega;rcases zhy Q.n P.n l with z|z|z;right;have:=(zia Q.n P.n).mp z;have:=P.1;have:=Q.1;omega;omega;omega
theorem zl6{bits i h:Int}(B:IsBk bits i h):i % 2 ^ h.toNat=0:=by obtain⟨_,_,k,_,rfl,_⟩:=B;exact nI _ _
theorem Jp.great:∀{bs:qB}{lo hi:Int},Jp lo hi bs->∀b∈bs,QH b.1 hi b.2.toNat/\lo<=b.1
 | [],_,_,_=>fun b hb=>nomatch hb
 | b::r,lo,hi,h=>by obtain⟨x,l,v,o,u⟩:=h;have p:=Bd.Q4 b.2.toNat;intro c hc;rcases ay.mp hc with rfl|hc;rw[l];exact⟨o,aE _⟩;have:=Jp.great u c hc;exact⟨this.1,by lia⟩
theorem Jp.max{bits:Int}(b0:0<=bits){bs:qB}{lo hi:Int}(S:Jp lo hi bs)(l0:0<=lo)(l1:hi<=2 ^ bits.toNat){p q:Int×Int}(J:p∈bs)(Q:IsBk bits q.1 q.2)(w:lo<=q.1/\eB q<=hi)(i:q.1<=p.1/\eB p<=eB q):q=p:=by
 have B:=S.blk b0 l0 l1;have P:=B p J;have pp:=Bd.Q4 p.2.toNat;have pq:=Bd.Q4 q.2.toNat;have nest:=YN P Q (x:=p.1) ⟨aE _,by unfold eB;lia⟩ ⟨i.1,by unfold eB at *;lia⟩;have hle:p.2<=q.2:=by
  rcases nest with⟨a,b,c⟩|⟨a,b,c⟩;have u:p.1=q.1:=by lia
  have I:eB p=eB q:=by lia
  unfold eB at I;rcases fV q.2 p.2 with z|z;have p0:=P.1;have q0:=Q.1;have:=Q6 (show q.2.toNat+1<=p.2.toNat by lia);rw[bA]at this;lia;exact z;exact c
 have p0:=P.1;have q0:=Q.1;by_cases e:p.2=q.2;have u:(2:Int) ^ p.2.toNat=2 ^ q.2.toNat:=by rw[e]
 have:q.1=p.1:=by unfold eB at *;lia
 exact fA this e.symm;exfalso;have v:p.2.toNat+1<=q.2.toNat:=by lia
 have dq:=zl6 Q;have R:=US v dq;have G:=(S.great p J).1;by_cases ev:p.1 % 2 ^ (p.2.toNat+1)=0;apply G.2.2;refine⟨ev,?_⟩;obtain⟨a,l⟩:=bh ev;have de:eB q % 2 ^ (p.2.toNat+1)=0:=by unfold eB;rw[nG,R,cJ (zdt v)];simp
 obtain⟨c,L⟩:=bh de;have lt:p.1<eB q:=by have:=i.2;unfold eB at *;lia
 rw[l,L]at lt;have pos:=Bd.Q4 (p.2.toNat+1);have ac:a<c:=iS lt (by lia);have:=eZ (show a+1<=c by lia) (show(0:Int)<=2 ^ (p.2.toNat+1) by lia);rw[oq,iV,<- l,<- L]at this;lia;have U:(p.1 - 2 ^ p.2.toNat) % 2 ^ (p.2.toNat+1)=0:=by
  obtain⟨k,ek⟩:=bh (zl6 P);have I:(2:Int) ^ (p.2.toNat+1)=2 ^ p.2.toNat*2:=bA _ _;rw[I]at ev ⊢;have odd:k % 2=1:=by rcases oM k with z|z;exfalso;obtain⟨t,et⟩:=bh z;apply ev;apply cJ;exact⟨t,by rw[ek,et,cM]⟩;exact z
  apply cJ;refine⟨(k - 1) / 2,?_⟩;have:k - 1=2*((k - 1) / 2):=by lia
  rw[ek,cM,<- this,Int.mul_sub,iV]
 have lowq:q.1<=p.1 - 2 ^ p.2.toNat:=by
  obtain⟨a,l⟩:=bh U;obtain⟨c,L⟩:=bh R;have pos:=Bd.Q4 (p.2.toNat+1);have I:(2:Int) ^ (p.2.toNat+1)=2 ^ p.2.toNat*2:=bA _ _;have lt:q.1<p.1 - 2 ^ p.2.toNat+2 ^ (p.2.toNat+1):=by lia
  rw[l,L]at lt;have:(2:Int) ^ (p.2.toNat+1)*c<2 ^ (p.2.toNat+1)*(a+1):=by rw[oq,iV];exact lt
  have ca:=iS this (by lia);have:=eZ (show c<=a by lia) (show(0:Int)<=2 ^ (p.2.toNat+1) by lia);rw[<- l,<- L]at this;exact this
 obtain⟨c,hc,c1,c2⟩:=(S.mem (p.1 - 2 ^ p.2.toNat)).mpr ⟨by lia,by have:=S.in p J;unfold eB at this;lia⟩;have C:=B c hc;have pc:=Bd.Q4 c.2.toNat;have cp:eB c<=p.1:=by obtain⟨i1,h1,rfl⟩:=aY hc;obtain⟨i2,h2,rfl⟩:=aY J;rcases cw i1 i2 with z|z|z;exact aQ.mp S.pw i1 i2 h1 h2 z;subst z;lia;have:=aQ.mp S.pw i2 i1 h2 h1 z;unfold eB at this;lia
 have LB:IsBk bits (p.1 - 2 ^ p.2.toNat) (p.2+1):=by
  have hq1:=Q.2.1;obtain⟨a,l⟩:=bh U;have u:(p.2+1).toNat=p.2.toNat+1:=by lia
  have pos:=Bd.Q4 (p.2.toNat+1);have a0:0<=a:=by rcases fV a 0 with z|z;have:=fY pos z;have:=(Q.bounds b0).1;lia;exact z
  refine⟨by lia,by lia,a,a0,by rw[u,l,cg],?_⟩;have e:(2:Int) ^ bits.toNat=2 ^ (bits - (p.2+1)).toNat*2 ^ (p.2.toNat+1):=by rw[<- gH];congr 1;lia
  have up:a*2 ^ (p.2.toNat+1)<2 ^ (bits - (p.2+1)).toNat*2 ^ (p.2.toNat+1):=by rw[<- e,cg,<- l];have:=(P.bounds b0).2;lia
  exact iO up (by lia)
 have u:(p.2+1).toNat=p.2.toNat+1:=by lia
 have n3:=YN (p:=c) (q:=(p.1 - 2 ^ p.2.toNat,p.2+1)) C LB (x:=p.1 - 2 ^ p.2.toNat) ⟨c1,c2⟩ ⟨aE _,by show _<_+2 ^ (p.2+1).toNat;have:=Bd.Q4 (p.2+1).toNat;lia⟩;have eL:eB (p.1 - 2 ^ p.2.toNat,p.2+1)=p.1+2 ^ p.2.toNat:=by show p.1 - 2 ^ p.2.toNat+2 ^ (p.2+1).toNat=_;rw[u,bA];lia
 rcases n3 with⟨Z,z2,Y⟩|⟨Z,z2,Y⟩;lia;have Z:p.1 - 2 ^ p.2.toNat<=c.1:=Z;have Y:c.2<=p.2+1:=Y;have cb:c.1=p.1 - 2 ^ p.2.toNat:=by lia
 have c0:=C.1;have ch:c.2<=p.2:=by
  rcases fV p.2 c.2 with z|z;have:c.2=p.2+1:=by lia
  unfold eB at cp;rw[this,u,bA]at cp;lia;exact z
 have Gc:=(S.great c hc).1;apply Gc.2.2;refine⟨?_,?_⟩;rw[cb];exact US (show c.2.toNat+1<=p.2.toNat+1 by lia) U;have:=Q6 (show c.2.toNat+1<=p.2.toNat+1 by lia);have I:(2:Int) ^ (p.2.toNat+1)=2 ^ p.2.toNat*2:=bA _ _;have:=S.in p J;unfold eB at this;lia
theorem NR.one{rs:List Run}(l:NR rs){a b:Int}(h:a<b)(w:∀x,a<=x->x<b->mR x rs):∃r∈rs,r.1<=a/\b<=r.2:=by obtain⟨r,o,C,G⟩:=w a (aE _) h;refine⟨r,o,C,?_⟩;rcases fV r.2 b with z|z;exfalso;obtain⟨s,v,L,N⟩:=w r.2 (by lia) z;obtain⟨i,hi,rfl⟩:=aY o;obtain⟨j,u,rfl⟩:=aY v;have J:=l.1 _ o;have I:=l.1 _ v;rcases cw i j with y|y|y;have:=aQ.mp l.2 i j hi u y;lia;subst y;lia;have:=aQ.mp l.2 j i u hi y;lia;exact z
theorem PatS.from:∀{rs:List Run}{ps:qB},PatS rs ps->∀p∈ps,∃r∈rs,∃bs,Jp r.1 r.2 bs/\p∈bs
 | [],_,h=>by cases(show _=[] from h);exact fun b hb=>nomatch hb
 | s::rs,_,h=>by obtain⟨a,b,rfl,v,o⟩:=h;intro p l;rcases ai.mp l with l|l;exact⟨s,by simp,a,v,l⟩;obtain⟨r,u,bs,B,hb⟩:=PatS.from o p l;exact⟨r,by simp[u],bs,B,hb⟩
theorem CanP.max{bits:Int}(L:0<=bits){S:Int->Prop}{ps:qB}(h:CanP S ps)(w:∀x,S x->0<=x/\x<2 ^ bits.toNat){p q:Int×Int}(R:p∈ps)(Q:IsBk bits q.1 q.2)(U:∀x,q.1<=x->x<eB q->S x)(i:q.1<=p.1/\eB p<=eB q):q=p:=by
 obtain⟨rs,o,G,P⟩:=h;obtain⟨r,u,bs,B,hb⟩:=P.from p R;have lt:=o.1 r u;have J:=w r.1 ((G _).mp ⟨r,u,aE _,lt⟩);have Y:=w (r.2 - 1) ((G _).mp ⟨r,u,by lia,by lia⟩);have pin:=B.in p hb;have pp:=JL p;obtain⟨s,N,s1,s2⟩:=o.one (a:=q.1) (b:=eB q) (JL q) fun x v l=>(G x).mpr (U x v l);have I:r=s:=by obtain⟨i1,v,rfl⟩:=aY u;obtain⟨C,l,rfl⟩:=aY N;rcases cw i1 C with y|y|y;have:=aQ.mp o.2 i1 C v l y;lia;subst y;rfl;have:=aQ.mp o.2 C i1 l v y;lia
 subst I;exact B.max L J.1 (by lia) hb Q ⟨s1,s2⟩ i
theorem zg8:∀{ps bs:qB},(ps.Pairwise fun a b=>eB a<=b.1)->(∀p∈ps,∃b∈bs,p.1<=b.1/\b.1<eB p)->ps.length<=bs.length
 | [],_,_,_=>bp _
 | p::ps,bs,pw,h=>by
  obtain⟨b,hb,C,x⟩:=h p (by simp);have l:=d7.mp pw;have:=zg8 (ps:=ps) (bs:=bs.erase b) l.2 fun q o=>by obtain⟨c,hc,u,v⟩:=h q (by simp[o]);refine⟨c,(l9 ?_).mpr hc,u,v⟩;rintro rfl;have:=l.1 q o;lia
  have e:=i7 hb;have:=kR hb;rw[aG];lia
theorem CanP.le{bits:Int}(l:0<=bits){bs ps:qB}(B:Bks bits bs)(h:CanP (fun x=>mB x bs) ps):ps.length<=bs.length:=by
 have w:∀x,mB x bs->0<=x/\x<2 ^ bits.toNat:=fun x ⟨b,hb,G,v⟩=>by have:=(B b hb).bounds l;unfold eB at v;omega
 have P:=h.ptc l w;refine zg8 P.2 fun p C=>?_;have pp:=JL p;obtain⟨b,hb,G,v⟩:=(h.mem p.1).mp ⟨p,C,aE _,pp⟩;rcases YN (P.1 p C) (B b hb) (x:=p.1) ⟨aE _,pp⟩ ⟨G,v⟩ with z|z;exact⟨b,hb,z.1,by have:=JL b;omega⟩;have:=h.max l w C (B b hb) (fun x J I=>⟨b,hb,J,I⟩) ⟨z.1,z.2.1⟩;subst this;exact⟨b,hb,aE _,pp⟩
end L2
namespace L2
open PySem Bd
theorem CanP.hold{bits:Int}(o:0<=bits){S:Int->Prop}{ps:qB}(h:CanP S ps)(w:∀x,S x->0<=x/\x<2 ^ bits.toNat){b:Int×Int}(B:IsBk bits b.1 b.2)(u:∀x,b.1<=x->x<eB b->S x):∃p∈ps,p.1<=b.1/\eB b<=eB p:=by have P:=h.ptc o w;have lt:=JL b;obtain⟨p,l,v,C⟩:=(h.mem b.1).mpr (u b.1 (aE _) lt);rcases YN (P.1 p l) B (x:=b.1) ⟨v,C⟩ ⟨aE _,lt⟩ with z|z;exact⟨p,l,z.1,z.2.1⟩;have e:=h.max o w l B u ⟨z.1,z.2.1⟩;exact⟨p,l,by rw[e];exact aE _,by rw[e];exact aE _⟩
variable{as bs cs:List Run}{a b:Nat}
end L2
namespace L2
open PySem PySem.Spec PyProof.Rows
theorem zup{P:aK}{w:ba}{k:Key}{u:ae}(r:RelV (kV k) u):(JA P w).is k u=true:=by
 cases k with
 | inl i=>obtain⟨t,e⟩:=(show ∃t,u=i9 i t from r);subst e;exact zh0 P w i t
 | inr x=>obtain⟨t,e⟩:=(show ∃t,u=nV x t from r);subst e;exact zhZ P w x t
theorem zhk{P:aK}{w:ba}:∀{ks:List Key}{us:List ae},Vals (ks.map kV) us->ItemsAre (JA P w) ks us
 | [],_,r=>by rw[cC]at r;cases r;exact .nil
 | k::ks,_,r=>by
  rw[aC]at r;cases r with
  | cons h t=>exact .cons (zup h) (zhk t)
abbrev KT(H:Hp):List (List Key×V)->List (List Key×af×ae)->Prop:=bQ fun p q=>p.1=q.1/\H q.2.1=some (.tup (p.1.map kV))/\RelV p.2 q.2.2
section
variable{X:Cx}{pins:qO}{σ:St}{H:Hp}{s:aj}{a:af}{y v:V}{u r:ae}{o:Option V}{A:aX}{E:qV}
theorem Inv.big(I:Inv X pins σ H s):sysModules<s.heap.objs.size:=by have h:mainGlobals<s.heap.objs.size:=(I.mod.glob.keeps I.bk).lt;exact fS (by decide) h
theorem zlM{h':bB}{t':Nat}{C:HO}(I:Inv X pins σ H s)(G:Mut (H a))(J:fQ a s.heap h')(he:∃q,h'.get? a=some q)(new:JG X.prog X.w (upd H a C) h' a C) :
  Inv X pins σ (upd H a C) { s with heap:=h',toks:=t' } :=
 I.write (x:=a) (e:=a) G (.inl rfl) (fun b q hb z=>(J.2 b hb).trans z) he new
end
def NoSl(i:aT):Prop:=∀o l,subscripted i false o l=operate [o,l] (getItem o l)
theorem zoo{prog:aK}{w:ba}{A:aX}{E:qV}{s:aj}{env:Env}{value slice:aT}{pos:Pos}{T id:String}{Q:qV}
  (U:typeLookup (.type T) "__getitem__" = pure (some (.builtin id))) (R:NoSl slice)
  (h:wpAny (model prog w) A (eval value env) (fun o I=>wpAny (model prog w) A (eval slice env) (fun i v=>v.TypeIs o T/\wpAny (model prog w) A (getItem o i) Q E v) E I) E s) :
  wpAny (model prog w) A (eval (.Subscript value slice pos) env) Q E s:=by
 refine Subscript_ (bN h (fun o I L=>bN L (fun i v C=>?_) fun _ _ x=>x) fun _ _ x=>x);obtain⟨N,C⟩:=C;unfold subscriptTail;refine aa ?_;rw[getitemInPython_of_ne N.not_modules];refine aa (wpAny_specialOf N U ?_);have fin:wpAny (model prog w) A (subscripted slice false o i) (fun r G=>wpAny (model prog w) A (letTemporaryGo value o r >>= fun _=>pure r) Q E G) E v:=by rw[R o i];exact wpAny_operating (bN C (fun r G J=>aa (wpAny_letTemporaryGo (ag J))) fun _ _ x=>x)
 first
  | exact ag (aa fin)
  | exact aa (ag (aa fin))
  | exact aa fin
end L2
namespace L2
open PySem PySem.Spec PyProof PyProof.Rows
abbrev KD:=List (Key×ab)
section
variable{D:JM}{ρ ρ':En}{n i j:Nat}{d dk dv:DTE}{R:qN}{ks:KD}
instance{ks:KD}:CapC (some (.dct ks)) (some (.rdo ks)):=⟨rfl⟩
instance{ks:KD}:CapC (some (.rdo ks)) (some (.rdo ks)):=⟨rfl⟩
end
theorem zcM:entryFor table "dict.update.loop" = some dG.«dict.update.loop»:=by kernel_rfl
theorem zlg:typeLookup (.type "list") "keys" = pure none:=by rw[ix,fF];kernel_rfl
theorem zpI:typeLookup (.type "list") "__getattr__" = pure none:=by rw[ix,fF];kernel_rfl
section
variable{prog:aK}{w:ba}{A:aX}{E:qV}{s:aj}
theorem zf9{a:af}{o:Obj}{u:Tok}{P:Fin->aj->Prop}(C:s.heap.get? a=some o)(hc:o.cls=.type "list") (l:∃its n,o.data=.seq its n) (hd:o.dict=none) (x:A.handled=none)
  (h:∀h' v e,k7 s.heap h' e (.ref a) "keys" -> E (.ref e) { s with heap:=h',toks:=v }):wpAny (model prog w) A (dG.«object.__getattribute__» ⟨[.ref a,.str "keys" u],[]⟩) P E s:=by
 obtain⟨G,g,d,v,os⟩:=s;have J:∀(t:Nat),Shared.TypeIs ⟨G,g,d,t,os⟩ (.ref a) "list":=fun _=>⟨o,C,hc⟩;have I:=zlg;unfold dG.«object.__getattribute__»
 repeat (any_goals (first|assumption|wp_step))
 rw[hc,I]
 repeat (any_goals (first|assumption|wp_step))
 obtain⟨its,n,l⟩:=l;rw[l];dsimp only;unfold instanceDict
 repeat (any_goals (first|assumption|wp_step))
 rw[hd]
 repeat (any_goals (first|assumption|wp_step))
 simp only[hc,d6,Bool.true_or,if_true]
 repeat (any_goals (first|assumption|wp_step))
 rw[hc];dsimp only
 repeat (any_goals (first|assumption|wp_step))
 exact wpAny_raiseAttrError x h (attrMsg_fits (by decide +kernel) (by size_fits))
theorem zeT{a:af}{o:Obj}{u:Tok}{R:tF->aj->Prop}(v:s.heap.get? a=some o)(hc:o.cls=.type "list") (x:∃its n,o.data=.seq its n) (hd:o.dict=none) (G:A.handled=none)
  (h:∀h' C e,k7 s.heap h' e (.ref a) "keys" -> R (.error (.ref e)) { s with heap:=h',toks:=C }):codeAny (model prog w) A (.call (.builtin "list.__getattribute__") ⟨[.ref a,.str "keys" u],[]⟩) R s :=
 ik eJ.plain F.entry_list_ga (eJ.check _ _ _ _ _ _ _ _ (show s.TypeIs (.ref a) "list" from⟨_,v,hc⟩) (F.args_list_getattribute_2 _ _) (zf9 v hc x hd G h))
theorem zha{a:af}{o:Obj}{u:Tok}{Q:qV}(v:s.heap.get? a=some o)(hc:o.cls=.type "list") (x:∃its n,o.data=.seq its n) (hd:o.dict=none) (G:A.handled=none)
  (h:∀h' l e,k7 s.heap h' e (.ref a) "keys" -> E (.ref e) { s with heap:=h',toks:=l }):wpAny (model prog w) A (getAttrBy (.ref a) (.str "keys" u) false) Q E s:=by
 obtain⟨J,g,d,l,os⟩:=s;have S:(⟨J,g,d,l,os⟩:aj).TypeIs (.ref a) "list":=⟨o,v,hc⟩;have f2:=eJ.lookup;have R:=eJ.bind (.ref a);have f1:=mY;have N:=zpI
 repeat (any_goals (first|assumption|wp_step))
 refine zeT v hc x hd G fun h' C e hx=>?_;obtain⟨t',L,he⟩:=hx.there
 repeat (any_goals (first|assumption|wp_step))
 exact h _ _ _ hx
theorem zeU{a:af}{o:Obj}{Q:Option ae->aj->Prop}(G:s.heap.get? a=some o)(hc:o.cls=.type "list") (v:∃its n,o.data=.seq its n) (hd:o.dict=none) (C:A.handled=none)
  (h:∀h' l,(∀b u,s.heap.get? b=some u->h'.get? b=some u)->Q none { s with heap:=h',toks:=l }):wpAny (model prog w) A (getAttr? (.ref a) "keys") Q E s:=by
 unfold getAttr? getAttrBy?;obtain⟨J,g,d,l,os⟩:=s;have f1:=mY
 repeat (any_goals (first|assumption|(with_reducible refine zha G hc v hd C fun h' x e hx=>?_)|wp_step))
 obtain⟨t',I,he⟩:=hx.there
 repeat (any_goals (first|assumption|wp_step))
 exact h _ _ hx.keeps
end
section
variable{prog:aK}{w:ba}{A:aX}{E:qV}{Ky:Type}[DecidableEq Ky]{knd:rD prog w Ky}
def KpH(d it:af)(h h':bB):Prop:=∀b o,b≠d->b≠it->h.get? b=some o->h'.get? b=some o
end
theorem JI{k:Nat}{A:aX}(r:Room k A):A.units+1<cLine:=by have:=r.un;lia
theorem znf{bits x:Int}(l:0<=bits)(h:0<=x/\x<2 ^ bits.toNat):IsBk bits x 0:=⟨aE _,l,x,h.1,by simp,by simpa using h.2⟩
theorem UP{bits:Int}(l:0<=bits){bs:qB}(B:Bks bits bs){x:Int}(h:mB x bs):0<=x/\x<2 ^ bits.toNat:=by obtain⟨b,hb,C,v⟩:=h;have:=(B b hb).bounds l;unfold eB at v;lia
theorem zul{bits:Int}(u:0<=bits)(v:bits<=64){S:Int->Prop}{rs:qB}(o:NR rs)(e:∀x,mR x rs↔S x)(w:∀x,S x->0<=x/\x<2 ^ bits.toNat):∀r∈rs,0<=r.1/\r.1<=r.2/\r.2<=2 ^ 64:=fun r l=>by have lt:=o.1 r l;have a:=w r.1 ((e _).mp ⟨r,l,aE _,lt⟩);have b:=w (r.2 - 1) ((e _).mp ⟨r,l,by lia,by lia⟩);have:=Bd.zdV (k:=bits.toNat) (by lia);lia
section
variable{prog:aK}{w:ba}{A:aX}{E:qV}
def PrT(prog:aK)(w:ba)(h:bB)(x:ae)(z:List Key×af×ae):Prop:=∃p:af,x=.ref p/\oU h p #[.ref z.2.1,z.2.2]/\iP (JA prog w) h z.1 z.2.1
theorem Vg{h:bB}{k:List Key}{a b:af}{T:String}(r:iP (JA prog w) h k a)(hb:∃o,h.get? b=some o/\o.cls=.type T)(u:T ≠ "tuple"):a≠b:=by
 rintro rfl;obtain⟨o,_,_,e,c,_⟩:=r;obtain⟨v,l,c'⟩:=hb;rw[e]at l;cases l;rw[c]at c';injection c' with c'
 exact u c'.symm
theorem VB{h h':bB}{k:List Key}{a:af}(r:iP (JA prog w) h k a)(kp:∀o,h.get? a=some o->h'.get? a=some o):iP (JA prog w) h' k a:=by obtain⟨o,its,n,e,c⟩:=r;exact⟨o,its,n,kp o e,c⟩
theorem tup_ne{h:bB}{a b:af}{xs:Array ae}{T:String}(r:oU h a xs)(hb:∃o,h.get? b=some o/\o.cls=.type T)(u:T ≠ "tuple"):a≠b:=by
 rintro rfl;obtain⟨o,e,c,_⟩:=r;obtain⟨v,l,c'⟩:=hb;rw[e]at l;cases l;rw[c]at c';injection c' with c'
 exact u c'.symm
theorem zlE{h:bB}{d:af}{xs:List (List Key×af×ae)}(hd:h.DictOfH (tupleKind (JA prog w)) d xs):∃o,h.get? d=some o/\o.cls=.type "dict":=by obtain⟨o,es,ep,l,hc,_⟩:=hd;exact⟨o,l,hc.1⟩
theorem zj_{A:aX}{xs:List ae}{kw:List (Str×ae)}:(A.under (.builtin "dict.update.loop" ⟨xs,kw⟩)).units=A.units+1:=by first|rfl|simp[Around.under,Code.cUnits,Code.frames,Code.isFrame]
end
section
variable{X:Cx}
theorem UM{pins:qO}{σ:St}{H:Hp}{s:aj}{b:af}{k:List Key}(I:Inv X pins σ H s)(h:SqT X.K H b (k.map kV)):iP (JA X.prog X.w) s.heap k b:=by obtain⟨its,r,⟨o,e,c,n,d⟩,_⟩:=I.tuple h;exact⟨o,its.toArray,n,e,c,d,by simpa using zhk r⟩
end
end L2
namespace Bd
open PySem L2
theorem zpL{d:ab}(h:Okd d):fe d d=true:=u7 d h.1
end Bd
namespace L2
open PySem PySem.Spec PyProof PyProof.Rows PySem.W
section
variable{X:Cx}{e:aT}{x:Str}{pos:Pos}{d:DTE}
def zmH(K:qF):V->List V->Hp->VK->Prop:=fun x vs H Q=>∃l b xs zs,x=.ref l/\vs=[.ref b]/\H l=some (.lst xs)/\SqT K H b zs/\xs.length+zs.length<=sizeLine/\Q .non (upd H l (.lst (xs++zs)))
theorem zjw:MtM X "list.extend" (zmH X.K):=by
 intro pins s σ H x vs v us Q I U rv h;obtain⟨l,b,xs,zs,rfl,rfl,N,Z,hz,q⟩:=h;cases U;obtain⟨u,rfl,S⟩:=rv.one;cases S;obtain⟨z,its,n,r,hl,e⟩:=I.lstM N;obtain⟨C,L,⟨o,R,hc,n2,hd⟩,z2⟩:=I.tuple Z;have lr:=r.length;have lr2:=L.length;have hsz:its.toArray.size+C.toArray.size<=sizeLine:=by rw[aw,aw];lia
 have Y:¬(!its.toArray.isEmpty&&gm (its.toArray.size+C.toArray.size))=true:=by rw[zmV hsz,l8];exact aS
 refine cI F.slot_list_extend ⟨_,e,rfl⟩ F.entry_list_extend ?_ (F.args_list_extend_2 _ _);show wpAny _ _ (dR (.ref l) (.ref b) .none) _ _ s;unfold dR;refine aa (iD (T:="tuple") ⟨o,R,hc⟩ ?_);have h1:(sy (.ref l) (.ref b)||bC "tuple" == bC "list" ||bC "tuple" == bC "tuple")=true:=by simp
 simp only[h1,if_true];refine aa ?_;unfold fu;refine aa (mf R hd (ag ?_));refine aa ?_;refine aa (mf e rfl (ag ?_));rw[if_neg Y];show wpAny _ _ (updateSeq l (·++C.toArray) >>= fun _=>ret .none) _ _ s;have J:its.toArray.size<=sizeLine:=by rw[aw];lia
 have G:(its.toArray++C.toArray).size<=sizeLine+1:=by rw[nD];lia
 refine aa (wpAny_updateSeq e rfl (hz:=J) (_hz':=G) ?_);refine ag ⟨_,rfl,?_⟩;refine⟨.non,_,I.lset (its':=its++C) N e (by simp) (r.append L) ?_,rfl,q⟩;rw[aH];lia
def VM(i:Nat)(d:DTE):DTS:=fun D l n=>match l[i]? with
 | some (some (.own ts))=>d l n fun t u=>lTup t fun us=>ts.length+us.length<=16777216/\D.nx (l.set i (some (.own (ts++us)))) u
 | _=>False
theorem zjW(i:Nat){o Y G:Pos}(h:DE X e d)(hN:X.N[i]?=some x:=by rfl)(hv:Vis X.env.scope x:=by walk_at "V")(hd:Ndb x:=by rfl)
  (Z:Ncd x:=by rfl) (hs:swapsWith (.Call (.Attribute (.Name x o) "extend" Y) [e] [] G) none pos.line X.env=pure false:=by rfl)
  (HD:attributeBase (.Name x o) "extend" X.env (eval (.Name x o) X.env)=eval (.Name x o) X.env:=by rfl)
  (Im:((backTo G (starEach [e] X.env)).all (fun x=>!x.1)&&(backToKw G (keywordEach [] X.env)).all (fun x=>x.1.isSome)
   && decide ([e].length+([]:List kN).length+(if ([]:List kN).isEmpty then 0 else 1)<30))=true:=by rfl)
  (HE:(Y.endLine == G.line)=true:=by rfl) (J:starEach [e] X.env=[(false,eval e X.env)]:=by rfl):DS X (.Expr (.Call (.Attribute (.Name x o) "extend" Y) [e] [] G) pos) (VM i d):=by
 obtain⟨ta,pa,h⟩:=h;refine⟨_,zhN (zoS eT PySem.F.slot_list_extend PySem.F.type_list_extend zjw (Qo hN hv hd Z) (Qr pa QV J) HD Im HE J rfl) hs,fun C ρ σ H n D D' S hd g=>?_⟩;unfold VM at hd;split at hd;rename_i ts U;obtain⟨p,vs,h1,h2,h3,h4⟩:=S.own i ts U;refine⟨.ref p,h1,.inl ⟨rfl,_,SqL.of h2⟩,?_⟩;refine h C ρ σ H n _ _ S hd fun t n' v H' r e1 hn q=>?_;cases t with
 | tuple us =>have S1:=S.on e1 hn;obtain⟨p',R,L,h2',I,h4'⟩:=S1.own i ts U;rw[h1]at L;cases L;obtain⟨b,ws,rfl,hb,q⟩:=q.tupI;refine⟨p,b,R,ws,rfl,rfl,h2',hb,by rw[I.length,q.length];exact r.1,?_⟩;obtain⟨S2,k2⟩:=S1.chg U h1 (I.append q);exact g.nx _ _ _ n' r.2 S2 (e1.keep.trans k2)
 | _=>exact r.elim
 exact hd.elim
instance zqC {i:Nat}{ρ:En}{n:Nat}{D:JM}{xs:qD}[h:GetN ρ i (some (.own xs))]:Stp (VM i d D ρ n) (d ρ n fun t n'=>lTup t fun us=>xs.length+us.length<=16777216/\SetK i (some (.own (xs++us))) D.nx ρ n'):=⟨fun k=>by unfold VM;rw[h.e];exact k⟩
end
end L2
namespace Bd
open PySem L2
def Dq(K:qF)(mg:qM)(x:Str)(st:dA)(ps:List Str):Prop:=∃f fd,Def K mg x st ps f fd
def Fq(P:aK)(w:ba)(K:qF)(mg:qM)(base:bB)(x:Str)(st:dA)(ps:List Str)(k:Nat)(l:Sp):Prop:=∃f fd,Def K mg x st ps f fd/\FnOk P w K mg base CX0 k f fd ps l
end Bd
namespace L2
open PySem PySem.Spec PyProof.Rows
section
variable{X:Cx}{x:Str}{st:dA}{ps:List Str}{k n m:Nat}{g:GD}{e:aT}{es:List aT}{ds:DTA}{p pos:Pos}
theorem Jd(F:Bd.Fq X.prog X.w X.K X.mg X.base x st ps k (spD X.K m g))(I:Room n X.A)(h:DB X (e::es) ds)(u:k<=n:=by decide)(J:(e::es).length=m:=by rfl)(v:Gl X x:=by rfl)
  (o:Ndb x:=by rfl):DE X (.Call (.Name x p) (e::es) [] pos) (dFn g ds):=by
 obtain⟨f,fd,D,G⟩:=F;exact zu0 D G (I.mono u) h J v o
theorem zoh(F:Bd.Fq X.prog X.w X.K X.mg X.base x st ps k (spD X.K m g))(I:Room n X.A)(h:DBL X (e::es) ds)(u:k<=n:=by decide)(J:(e::es).length=m:=by rfl)(v:Gl X x:=by rfl)
  (o:Ndb x:=by rfl):DE X (.Call (.Name x p) (e::es) [] pos) (dFnL g ds):=by
 obtain⟨f,fd,D,G⟩:=F;exact zsJ D G (I.mono u) h J v o
end
end L2
namespace Bd
open PySem L2
section
variable{K:qF}{h:bB}{mg:qM}{x:Str}{st:dA}{ps:List Str}
abbrev BndA(x:Str)(st:dA)(ps:List Str):Prop:=∀(kV doc pm:ae) (an:Option af) (cdv ct:ae) (us:List ae),us.length=ps.length->bindArgs (cO x x (Qq st) (JU st) (Jt st) .none kV doc pm an cdv ct) ⟨us,[]⟩=pure (ps.zip us)
theorem lenS{us:List ae}{n:Nat}(h:us.length=n+1):∃a t,us=a::t/\t.length=n:=by
 cases us with
 | nil=>cases h
 | cons a t=>exact⟨a,t,rfl,tU h⟩
theorem len1{us:List ae}(h:us.length=1):∃a,us=[a]:=by obtain⟨a,t,rfl,e⟩:=lenS h;exact⟨a,by rw[List.eq_nil_of_length_eq_zero e]⟩
theorem len2{us:List ae}(h:us.length=2):∃a b,us=[a,b]:=by obtain⟨a,t,rfl,e⟩:=lenS h;obtain⟨b,rfl⟩:=len1 e;exact⟨a,b,rfl⟩
theorem len3{us:List ae}(h:us.length=3):∃a b c,us=[a,b,c]:=by obtain⟨a,t,rfl,e⟩:=lenS h;obtain⟨b,c,rfl⟩:=len2 e;exact⟨a,b,c,rfl⟩
theorem len4{us:List ae}(h:us.length=4):∃a b c d,us=[a,b,c,d]:=by obtain⟨a,t,rfl,e⟩:=lenS h;obtain⟨b,c,d,rfl⟩:=len3 e;exact⟨a,b,c,d,rfl⟩
end
end Bd
namespace L2
open PySem PySem.Spec PyProof PyProof.Rows
def Vc(h:bB)(d:af)(es:Array eS)(ep:Nat):Prop:=∃o,h.get? d=some o/\o.ExactDict/\o.data=.dict es ep
def zput(zs:ZT)(k:Int×Int)(b:af)(v:V):ZT:=if (zs.any fun z=>decide (z.1=k))=true then zs.map (fun z=>if z.1=k then(z.1,z.2.1,v) else z) else zs++[(k,b,v)]
def putT(ks:KT2)(k:Int×Int)(t:ab):KT2:=if (ks.any fun z=>decide (z.1=k))=true then ks.map (fun z=>if z.1=k then(z.1,t) else z) else ks++[(k,t)]
def valT(ks:KT2)(k:Int×Int):Option ab:=(ks.find? fun z=>decide (z.1=k)).map (·.2)
def kL(k:Int×Int):List Key:=[.inl k.1,.inl k.2]
theorem Vs{k l:Int×Int}:kL k=kL l↔k=l:=by constructor;intro h;unfold kL at h;injection h with h1 h2;injection h2 with h2 _;injection h1 with h1;injection h2 with h2;exact fA h1 h2;rintro rfl;rfl
def ZX(z:(Int×Int)×af×V)(x:List Key×af×ae):Prop:=x.1=kL z.1/\x.2.1=z.2.1/\RelV z.2.2 x.2.2
theorem zj5{zs:ZT}{xs:List (List Key×af×ae)}(r:bQ ZX zs xs)(k:Int×Int):(atKey xs (kL k)).isSome=zs.any fun z=>decide (z.1=k):=by
 induction r with
 | nil=>rfl
 | @cons z x zs xs h t ih =>
  by_cases e:z.1=k;have:x.1=kL k:=by rw[h.1,e]
  simp[atKey,bU,this,e];have:¬x.1=kL k:=fun l=>e (Vs.mp (h.1.symm.trans l));have u:atKey (x::xs) (kL k)=atKey xs (kL k):=by simp[atKey,bU,this]
  rw[u,ih,sD,decide_eq_false e,Bool.false_or]
theorem zj3{zs:ZT}{xs:List (List Key×af×ae)}(r:bQ ZX zs xs)(k:Int×Int){b:af}{v:V}{u:ae}(C:RelV v u):bQ ZX (zput zs k b v) (storedH xs (kL k) b u):=by
 unfold zput storedH;rw[zj5 r k];by_cases e:(zs.any fun z=>decide (z.1=k))=true;rw[if_pos e,if_pos e];clear e;induction r with
 | nil=>exact .nil
 | @cons z x zs xs h t ih =>refine .cons ?_ ih;unfold putAt;dsimp only;by_cases e:z.1=k;rw[if_pos e,if_pos (by rw[h.1,e])];exact⟨h.1,h.2.1,C⟩;rw[if_neg e,if_neg (fun G=>e (Vs.mp (h.1.symm.trans G)))];exact h
 rw[if_neg e,if_neg e];exact Paired.snoc r ⟨rfl,rfl,C⟩
theorem zj4{zs:ZT}{xs:List (List Key×af×ae)}(r:bQ ZX zs xs):xs.map (·.1)=(zs.map (·.1)).map kL:=by
 induction r with
 | nil=>rfl
 | cons h t l=>rw[aC,aC,aC,l,h.1]
theorem ziO{l:qB}:(l.map kL).Nodup↔l.Nodup:=by
 induction l with
 | nil=>simp
 | cons a l v =>
  rw[aC,cB,cB,v];have:kL a∈l.map kL↔a∈l:=by constructor;intro h;obtain⟨b,hb,e⟩:=a7.mp h;rwa [<- Vs.mp e];exact f7
  rw[this]
theorem zfB(zs:ZT)(k:Int×Int)(b:af)(v:V):(zput zs k b v).length<=zs.length+1:=by unfold zput;split;rw[ao];exact fP _;simp
section
variable{P:aK}{w:ba}
theorem zuZ{z:(Int×Int)×af×V}{x:List Key×af×ae}(h:ZX z x):entZ z (entryOfKey (tupleKind (JA P w)) x):=by obtain⟨u,l,o⟩:=h;refine⟨?_,?_,o⟩;show tupleKeyHash (JA P w) x.1=_;rw[u];rfl;show a9 x.2.1=_;rw[l]
theorem zml{zs:ZT}{es:List eS}(r:bQ entZ zs es):∃xs:List (List Key×af×ae),bQ ZX zs xs/\es=xs.map (entryOfKey (tupleKind (JA P w))):=by
 induction r with
 | nil=>exact⟨[],.nil,rfl⟩
 | @cons z e zs es h t ih =>obtain⟨xs,x1,C⟩:=ih;obtain⟨v,u,x⟩:=h;refine⟨(kL z.1,z.2.1,e.val)::xs,.cons ⟨rfl,rfl,x⟩ x1,?_⟩;rw[aC,<- C];congr 1;cases e;dsimp only at v u;rw[v,u];rfl
theorem zsy{zs:ZT}{xs:List (List Key×af×ae)}(r:bQ ZX zs xs):bQ entZ zs (xs.map (entryOfKey (tupleKind (JA P w)))):=by
 induction r with
 | nil=>exact .nil
 | cons h t u=>exact .cons (zuZ h) u
end
section
variable{X:Cx}{pins:qO}{σ:St}{H:Hp}{s:aj}{a:af}{zs:ZT}{ep:Nat}{A:aX}{E:qV}
theorem Zs(I:Inv X pins σ H s)(h:H a=some (ZDO a zs ep))(u:∀z∈zs,SqT X.K H z.2.1 [.int z.1.1,.int z.1.2]):(a == sysModules)=false/\zs.length<=sizeLine/\∃xs,bQ ZX zs xs/\s.heap.DictOfH (tupleKind (JA X.prog X.w)) a xs:=by obtain⟨⟨J,v,nd,o,es,g1,g2,g3,pr⟩,_⟩:=I.hok a _ h;obtain⟨xs,x1,C⟩:=zml (P:=X.prog) (w:=X.w) pr;refine⟨J,v,xs,x1,o,es,ep,g1,g2,g3,C,fun x hx=>?_,?_⟩;obtain⟨z,hz,l,G,_⟩:=zej x1 hx;have:=UM (k:=kL z.1) I (u z hz);rw[l,G];exact this;rw[zj4 x1];exact ziO.mpr nd
theorem Zt{H':Hp}{h':bB}{xs:List (List Key×af×ae)}(G:(a == sysModules)=false)(x:zs.length<=sizeLine)(r:bQ ZX zs xs)(L:h'.DictOfH (tupleKind (JA X.prog X.w)) a xs):∃ep,JG X.prog X.w H' h' a (ZDO a zs ep):=by obtain⟨o,es,ep,g1,g2,g3,u,_,l⟩:=L;refine⟨ep,⟨G,x,?_,o,es,g1,g2,g3,?_⟩,⟨o,g1⟩,?_⟩;rw[zj4 r]at l;exact ziO.mp l;rw[u];exact zsy r;rintro R N ⟨x1,C,v,o,es,I,J⟩ k;exact⟨x1,C,v,o,es,k o I,J⟩
theorem zj7{k:Int×Int}{b:af}{v:V}{r:ae}{Q:Unit->aj->Prop}(S:A.units+1<cLine)(I:Inv X pins σ H s)(h:H a=some (ZDO a zs ep))(L:∀z∈zs,SqT X.K H z.2.1 [.int z.1.1,.int z.1.2])(hb:SqT X.K H b [.int k.1,.int k.2])(hl:zs.length<sizeLine)(R:RelV v r)
  (J:∀s' o,Inv X pins σ (upd H a (ZDO a (zput zs k b v) o)) s'->Q () s'):wpAny (model X.prog X.w) A (setItem (.ref a) (.ref b) r) Q E s:=by
 obtain⟨Y,N,xs,x1,Z⟩:=Zs I h L;have U:xs.length<=sizeLine:=by rw[<- cK x1];exact N
 refine wpAny_setItem_heap (hsz:=U) (gD S) (UM (k:=kL k) I hb) Z fun h' u x=>?_;have he:∃q,h'.get? a=some q:=let ⟨q,_,_,e,_⟩:=u;⟨q,e⟩;have C:(zput zs k b v).length<=sizeLine:=by have:=zfB zs k b v;lia
 have ok:∀H':Hp,∃o,JG X.prog X.w H' h' a (ZDO a (zput zs k b v) o):=fun H'=>Zt Y C (zj3 x1 k R) u;obtain⟨o,G⟩:=ok H;exact J _ o (zlM I (by rw[h];exact hE) x he G)
end
section
variable{K:qF}{hd:Option af}{O:af->Prop}{H:Hp}{zs:ZT}{ks:KT2}
theorem Jk.sq(r:Jk K hd O H zs ks):∀z∈zs,SqT K H z.2.1 [.int z.1.1,.int z.1.2]:=by
 intro z hz;induction zs generalizing ks with
 | nil=>cases hz
 | cons y zs o =>
  cases r with
  | cons v G r =>
   rcases ay.mp hz with rfl|hz;obtain⟨a,vs,e,sq,x⟩:=v.tupI;cases e;cases x with
   | cons x1 C =>
    cases C with
    | cons l u =>cases u;rw[x1.intI,l.intI]at sq;exact sq
   exact o r hz
theorem Jk.length(r:Jk K hd O H zs ks):zs.length=ks.length:=by
 induction zs generalizing ks with
 | nil=>cases r;rfl
 | cons y zs l =>
  cases r with
  | cons u o r=>rw[aG,aG,l r]
theorem Jk.keys(r:Jk K hd O H zs ks):zs.map (·.1)=ks.map (·.1):=by
 induction zs generalizing ks with
 | nil=>cases r;rfl
 | cons y zs l =>
  cases r with
  | cons u o r=>rw[aC,aC,l r]
theorem Jk.snoc{k:Int×Int}{q:af}{v:V}{d:ab}(h:Rep K hd O H (.ref q) (.tuple [.int k.1,.int k.2]))(x:Rep K hd O H v d){zs:ZT}{ks:KT2}(r:Jk K hd O H zs ks):Jk K hd O H (zs++[(k,q,v)]) (ks++[(k,d)]) :=
 r.ind (P:=fun zs ks=>Jk K hd O H (zs++[(k,q,v)]) (ks++[(k,d)])) (.cons h x .nil) fun a b _ r=>.cons a b r
theorem Jk.put(r:Jk K hd O H zs ks)(k:Int×Int){b:af}{v:V}{t:ab}(J:Rep K hd O H (.ref b) (.tuple [.int k.1,.int k.2]))(C:Rep K hd O H v t):Jk K hd O H (zput zs k b v) (putT ks k t):=by
 have G:(zs.any fun z=>decide (z.1=k))=ks.any fun z=>decide (z.1=k):=by
  have I:(zs.any fun z=>decide (z.1=k))=(zs.map (·.1)).any fun z=>decide (z=k):=by rw[iE];rfl
  have L:(ks.any fun z=>decide (z.1=k))=(ks.map (·.1)).any fun z=>decide (z=k):=by rw[iE];rfl
  rw[I,L,r.keys]
 unfold zput putT;rw[G];split;clear G;rename_i e;clear e;induction zs generalizing ks with
 | nil=>cases r;exact .nil
 | cons y zs x =>
  cases r with
  | @cons k' q v' d zs ks h1 h2 r =>rw[aC,aC];dsimp only;by_cases e:k'=k;rw[if_pos e,if_pos e];exact .cons h1 C (x r);rw[if_neg e,if_neg e];exact .cons h1 h2 (x r)
 exact Jk.snoc J C r
end
section
variable{X:Cx}{e e1 e2:aT}{x:Str}{pos:Pos}{d d1 d2:DTE}
def ztA:TE:=fun _ H Q=>∀p,H p=none->∀ep,Q (.ref p) (upd H p (ZDO p [] ep))
theorem zkH:PE X (.Dict [] [] pos) ztA:=fun pins s σ H Q I h=>by have hb:(s.heap.objs.size == sysModules)=false:=beq_eq_false_iff_ne.mpr (gL (aJ I.big));obtain⟨ep,ok⟩:=Zt (X:=X) (H':=H) (zs:=[]) hb (bp _) .nil (kB s.heap);exact wpAny_Dict_empty ⟨.ref s.heap.objs.size,_,I.laid (a:=s.heap.objs.size) (o:=ZDO s.heap.objs.size [] ep) (t':=s.toks) (fun _ _ q=>aq _ q) (av _) ok,rfl,h _ (I.hok.fresh (av _)) ep⟩
def zqD(i:Nat):DTS:=fun D l n=>D.nx (l.set i (some (.dtt []))) n
theorem zpO{i:Nat}{o dp:Pos}(I:X.N.Nodup)(hi:X.N[i]?=some x)(hx:Loc X.env.scope x)(G:swapsWith (.Dict [] [] dp) (some (.Name x o)) pos.line X.env=pure false:=by rfl)(hf:Fnl X x:=by walk_at "F") :
  DS X (.Assign [.Name x o] (.Dict [] [] dp) pos) (zqD i):=by
 refine⟨_,QC I hi hx zkH G hf,fun C L σ H n D J S hd g=>?_⟩;intro p u ep;have e1:ExtE C.hd H (upd H p (ZDO p [] ep)):=ExtE.new u;have v:Hn X.K C.hd (upd H p (ZDO p [] ep)) n:=S.hnd.same (J9 u);exact g.nx _ _ _ n hd (S.putNew e1 v u ⟨[],ep,JH,.nil⟩) (VY e1 u)
def zt9(K:qF)(G ty I:TE):TS:=fun D σ H=>I σ H fun v u=>G σ u fun x C=>ty σ C fun y l=>∃a zs ep k b,x=.ref a/\y=.ref b/\l a=some (ZDO a zs ep)/\(∀z∈zs,SqT K l z.2.1 [.int z.1.1,.int z.1.2])/\SqT K l b [.int k.1,.int k.2]/\zs.length<sizeLine/\∀o,D.nx σ (upd l a (ZDO a (zput zs k b v) o))
theorem zoG{o i value:aT}{G ty J:TE}{l:Pos}(hu:X.A.units+1<cLine)(ho:PE X o G)(hi:PE X i ty)(hv:PE X value J)(hs:swapsWith value (some (.Subscript o i l)) pos.line X.env=pure false) :
  PS X (.Assign [.Subscript o i l] value pos) (zt9 X.K G ty J):=by
 intro pins s σ H D I h;refine wpAny_Assign_Subscript (thn (hv pins s σ H _ I h) fun r s1 h1=>?_) hs;obtain⟨v,H1,L,rv,U⟩:=h1;refine thn (ho pins s1 σ H1 _ L U) fun u s2 R=>?_;obtain⟨x,H2,N,Z,q2⟩:=R;refine thn (hi pins s2 σ H2 _ N q2) fun iv s3 h3=>?_;obtain⟨y,H3,I3,Y,a,zs,ep,k,b,rfl,rfl,g,hk,hb,hl,q3⟩:=h3;cases Z;cases Y;exact zj7 hu I3 g hk hb hl rv fun s4 C I4=>⟨σ,_,I4,q3 C⟩
def lBlk(y:ab)(R:Int×Int->Prop):Prop:=∃k:Int×Int,y=.tuple [.int k.1,.int k.2]/\R k
def zos(i:Nat)(v C:DTE):DTS:=fun D l n=>C l n fun t o=>match l[i]? with
 | some (some (.dtt ks))=>v l o fun y u=>lBlk y fun k=>ks.length<16777216/\D.nx (l.set i (some (.dtt (putT ks k t)))) u
 | _=>False
theorem zii(i:Nat){p1 l:Pos}(hr:X.A.units+1<cLine)(h1:DE X e1 d1)(G:DE X e2 d2)(hN:X.N[i]?=some x:=by rfl)(hv:Vis X.env.scope x:=by walk_at "V")(hd:Ndb x:=by rfl)
  (hcd:Ncd x:=by rfl) (hs:swapsWith e2 (some (.Subscript (.Name x p1) e1 l)) pos.line X.env=pure false:=by rfl) :
  DS X (.Assign [.Subscript (.Name x p1) e1 l] e2 pos) (zos i d1 d2):=by
 obtain⟨t1,pa1,h1⟩:=h1;obtain⟨t2,pa2,G⟩:=G;refine⟨_,zoG hr (Qo hN hv hd hcd) pa1 pa2 hs,fun C ρ σ H n D D' S hd g=>?_⟩;refine G C ρ σ H n _ _ S hd fun t n1 v H1 r e1 U q=>?_;have S1:=S.on e1 U;split at r;rename_i ks Y;obtain⟨p,zs,ep,s1,s2,s3,s4⟩:=S1.dtt i ks Y;refine⟨.ref p,s1,?_⟩;refine h1 C ρ σ H1 n1 _ _ S1 r fun y n2 w H2 J e2 R q2=>?_;have S2:=S1.on e2 R;obtain⟨p',L,Z,u1,u2,I,u4⟩:=S2.dtt i ks Y;rw[s1]at u1;cases u1;obtain⟨k,rfl,hl,J⟩:=J;obtain⟨b,rfl,sb⟩:=q2.bkI;have q':=e2.rep S.hx q;refine⟨p,L,Z,k,b,rfl,rfl,u2,I.sq,sb,by rw[I.length];exact hl,fun e3=>?_⟩;obtain⟨S3,k3⟩:=S2.chgC (c':=.dtt (putT ks k t)) rfl rfl Y s1 fun O' H' a b hp=>⟨_,_,hp,(I.put k q2 q').mono a b⟩;exact g.nx _ _ _ n2 J S3 ((e1.keep.trans e2.keep).trans k3);exact r.elim
end
section
variable{D:JM}{ρ ρ':En}{n i j:Nat}{d dk dv:DTE}{R:qN}{ks:KT2}
instance zu4:Stp (zqD i D ρ n) (SetK i (some (.dtt [])) D.nx ρ n):=⟨fun h=>h⟩
instance zu3 [h:GetN ρ i (some (.dtt ks))]:Stp (zos i dk dv D ρ n) (dv ρ n fun t n1=>dk ρ n1 fun y n2=>lBlk y fun k=>ks.length<16777216/\SetK i (some (.dtt (putT ks k t))) D.nx ρ n2):=⟨fun k=>by unfold zos;rw[h.e];exact k⟩
instance zvq {a b:Int}{Q:Int×Int->Prop}:Stp (lBlk (.tuple [.int a,.int b]) Q) (Q (a,b)):=⟨fun h=>⟨(a,b),rfl,h⟩⟩
end
section
variable{prog:aK}{w:ba}{A:aX}{E:qV}
theorem PrT.keepL{h h':bB}{x:ae}{z:List Key×af×ae}(d it:af)(hd:∃o,h.get? d=some o/\o.cls=.type "dict") (hi:∃o,h.get? it=some o/\o.cls=.type "list_iterator") (r:PrT prog w h x z) (kp:KpH d it h h'):PrT prog w h' x z:=by obtain⟨p,e,u,l⟩:=r;refine⟨p,e,?_,VB l fun o=>kp _ o (Vg l hd (by decide)) (Vg l hi (by decide))⟩;have C:=tup_ne u hd (by decide);have v:=tup_ne u hi (by decide);obtain⟨o,g,c⟩:=u;exact⟨o,kp p o C v g,c⟩
theorem zi6{h h':bB}{d it:af}{xs:List (List Key×af×ae)}(hd:h.DictOfH (tupleKind (JA prog w)) d xs)(hi:∃o,h.get? it=some o/\o.cls=.type "list_iterator") (kp:∀b o,b≠it->h.get? b=some o->h'.get? b=some o) (u:d≠it):h'.DictOfH (tupleKind (JA prog w)) d xs:=by obtain⟨o,es,ep,v,hc,hd,he,l,C⟩:=hd;exact⟨o,es,ep,kp d o u v,hc,hd,he,fun x hx=>VB (l x hx) fun o e=>kp _ o (Vg (l x hx) hi (by decide)) e,C⟩
def mkX(xs ps:List (List Key×af×ae)):List (List Key×af×ae):=ps.foldl (fun acc z=>storedH acc z.1 z.2.1 z.2.2) xs
theorem zhH(xs:List (List Key×af×ae))(k:List Key)(a:af)(v:ae):(storedH xs k a v).length<=xs.length+1:=by unfold storedH;split;rw[ao];exact fP _;simp
theorem zgo{d it l:af}{items:Array ae}{res:ae}(hA:A.handled=none)(hu:A.units+1<cLine)(C:d≠it)(nl:l≠d)(Y:l≠it):∀(ps:List (List Key×af×ae)) (i:Nat) (xs:List (List Key×af×ae)) (s:aj) (t:Tok) {R:tF->aj->Prop},
  s.heap.IsList l items->s.heap.IsListIter it l i->s.heap.DictOfH (tupleKind (JA prog w)) d xs->xs.length+ps.length<=sizeLine->bQ (PrT prog w s.heap) (items.toList.drop i) ps ->
  (∀h' tk,KpH d it s.heap h'->h'.DictOfH (tupleKind (JA prog w)) d (mkX xs ps)->R (.ok (.ret res)) { s with heap:=h',toks:=tk }) ->
  codeAny (model prog w) A (.builtin "dict.update.loop" ⟨[.ref d,.ref it,.int i t,res],[]⟩) R s
 | [],i,xs,s,t,R,hl,hi,hd,hz,hp,h=>by
  have e:items[i]?=none:=by generalize hq:items.toList.drop i=q at hp;cases hp;have:=List.drop_eq_nil_iff.mp hq;exact kT (by simpa using this)
  refine gy zcM ?_;show wpAny _ _ (pyNext (.ref it) >>= _) _ _ s;refine aa (k9 hA hi hl e fun h' hx=>?_);show wpAny _ _ (i8 d [] >>= fun _=>ret res) _ _ _;unfold i8;rw[lQ];obtain⟨S,gi,ci,_⟩:=id hi;exact aa (ag (ag (h h' s.toks (fun b o _ n ho=>hx b o n ho) (zi6 hd ⟨S,gi,ci⟩ (fun b o n e=>hx b o n e) C))))
 | (k,a,v)::ps,i,xs,s,t,R,hl,hi,hd,hz,hp,h=>by
  generalize hq:items.toList.drop i=q at hp;cases hp with
  | cons r rs =>
   rename_i x xs';have G:∃o,s.heap.get? it=some o/\o.cls=.type "list_iterator":=by obtain⟨S,gi,ci,_⟩:=id hi;exact⟨S,gi,ci⟩
   obtain⟨p,rfl,tp,ki⟩:=r;have np:=tup_ne tp (zlE hd) (by decide);have npi:=tup_ne tp G (by decide);obtain⟨o,ho,oc,n,od⟩:=id tp;have Z:i<items.toList.length:=by by_cases z:i<items.toList.length;exact z;rw[fj (by lia)]at hq;cases hq
   rw[bF Z]at hq;obtain⟨e1,e2⟩:=gq hq;have e:items[i]?=some (.ref p):=by rw[<- e1,<- bq];exact ak Z
   refine gy zcM ?_;show wpAny _ _ (pyNext (.ref it) >>= _) _ _ s;refine aa (kI hi hl e fun N hi1 L=>?_);refine aa (bW ?_);have ho1:N.get? p=some o:=(L.2 p npi).trans ho;have hT:(⟨N,s.gens,s.drawn,s.toks,s.os⟩:aj).TypeIs (.ref p) "tuple":=⟨o,ho1,oc⟩;refine aa (wpAny_tryCatch ?_);unfold tW;refine aa (iD hT ?_);rw[if_pos (by rfl)];refine aa (mf ho1 od (ag ?_));show wpAny _ _ (holding [.ref a,v] (dictSet d (.ref a) v)) _ _ _;have kp1:KpH d it s.heap N:=fun b J _ n hb=>(L.2 b n).trans hb;have hd1:=zi6 hd G (fun b J n hb=>(L.2 b n).trans hb) C;have ki1:iP (JA prog w) N k a:=VB ki fun J hb=>(L.2 a (Vg ki G (by decide))).trans hb;rw[aG]at hz;refine bW (mZ (s:=⟨N,s.gens,s.drawn,s.toks,s.os⟩) (knd:=tupleKind (JA prog w)) (by show Around.units _<cLine;rw[zj_];exact hu) ki1 hd1 (fun h2 hd2 hs2=>?_) (by lia));have kp2:KpH d it N h2:=fun b J n _ hb=>(hs2.2 b n).trans hb;refine ag ⟨gC _ (by decide +kernel),?_⟩;have kp:KpH d it s.heap h2:=fun b J n1 U hb=>kp2 b J n1 U (kp1 b J n1 U hb);refine zgo (items:=items) hA hu C nl Y ps (i+1) (storedH xs k a v) _ 0 ?_ ?_ hd2 ?_ ?_ fun h' tk kp' hd'=>?_;obtain⟨ol,hol,r⟩:=hl;exact⟨ol,kp l ol nl Y hol,r⟩;obtain⟨S,hoi,r⟩:=hi1;exact⟨S,(hs2.2 it (gL C)).trans hoi,r⟩;have:=zhH xs k a v;lia;rw[e2];exact Paired.mapP rs fun _ _ r=>r.keepL d it (zlE hd) G kp;exact h h' tk (fun b J n1 U hb=>kp' b J n1 U (kp b J n1 U hb)) hd'
theorem zeJ{s:aj}{l:af}{o:Obj}{its:Array ae}{n:Nat}{ps:List (List Key×af×ae)}{Q:qV}(ho:s.heap.get? l=some o)(hc:o.cls=.type "list") (L:o.data=.seq its n) (hd:o.dict=none) (hA:A.handled=none) (hu:A.units+64<cLine)
  (hp:bQ (PrT prog w s.heap) its.toList ps) (hz:ps.length<=sizeLine)
  (h:∀h' I,(∀b u,s.heap.get? b=some u->h'.get? b=some u)->h'.DictOfH (tupleKind (JA prog w)) s.heap.objs.size (mkX [] ps)->Q (.ref s.heap.objs.size) { s with heap:=h',toks:=I }) :
  wpAny (model prog w) A (call (.type "dict") [.ref l]) Q E s:=by
 refine callType_codes (Q₁:=fun obj v=>obj=.ref s.heap.objs.size/\v={ s with heap:=s.heap.push { cls:=.type "dict",data:=.dict #[] } }) F.kt_called_dict (F.kt_typeCall_dict_1 _) F.entry_dict_init (kt_code_dict_new _ ⟨rfl,rfl⟩) ?_;rintro obj v ⟨rfl,rfl⟩;have IJ:(s.heap.push { cls:=.type "dict",data:=.dict #[] }).DictOfH (tupleKind (JA prog w)) s.heap.objs.size []:=kB s.heap;have G:(s.heap.push { cls:=.type "dict",data:=.dict #[] }).get? l=some o:=aq _ ho;have J:=IJ.typeIs (s:={ s with heap:=s.heap.push { cls:=.type "dict",data:=.dict #[] } });refine⟨J,F.args_dict_init_2 _ _,?_⟩;unfold dG.«dict.__init__»;refine aa ?_;unfold sE;refine aa (lB J ?_);show wpAny _ _ (pure (s.heap.objs.size,[a9 l])) _ _ _;refine ag ?_;show wpAny _ _ (kC "dict.__init__" s.heap.objs.size (.ref l) [] .none) _ _ _;unfold kC;refine aa (iD (T:="list") ⟨o,G,hc⟩ ?_);rw[if_pos (by rfl)];refine aa (zeU G hc ⟨its,n,L⟩ hd hA fun h1 tk1 S=>?_);rw[if_pos (show(none:Option ae).isNone=true from rfl)];refine aa (dM ?_);have C:=S l o G;have hl1:h1.IsList l its:=⟨o,C,hc,n,L⟩;refine aa (fG hl1 ?_);refine ag ⟨gC _ (by decide +kernel),?_⟩;obtain⟨od,es,ep,U,Z⟩:=IJ;have IK:=S _ od U;have l1:=aD IK;have l2:=aD ho;have l3:=aD C;have Y:∀b u,s.heap.get? b=some u->(h1.push { cls:=.type "list_iterator",data:=.fields #[.ref l,.int 0 0] }).get? b=some u:=fun b u hb=>aq _ (S b u (aq _ hb));refine zgo (A:=A.in1) (items:=its) (xs:=[]) (i:=0) (ps:=ps) (show A.in1.handled=none from hA) (show A.units+1+1<cLine by lia) (aJ l1) (aJ l2) (aJ l3) _ 0 ?_ ?_ ?_ (by simpa using hz) ?_ fun h' I kp R=>?_;exact⟨o,aq _ C,hc,n,L⟩;exact⟨_,aB _ rfl,rfl,rfl⟩;exact⟨od,es,ep,aq _ IK,Z.1,Z.2.1,Z.2.2.1,by simp,by simp⟩;rw[List.drop_zero];refine Paired.mapP hp fun x z ⟨p,e,tp,I⟩=>⟨p,e,?_,VB I fun u=>Y _ u⟩;obtain⟨u,hob,r⟩:=tp;exact⟨u,Y p u hob,r⟩;exact⟨rfl,h h' I (fun b u hb=>kp b u (aJ (aD hb)) (aJ (fS (aD hb) l1)) (Y b u hb)) R⟩
theorem zoA{s:aj}{d:af}{es:Array eS}{ep:Nat}{Q:qV}(x:(d == sysModules)=false)(C:Vc s.heap d es ep)(hz:es.size<=sizeLine)(h:∀t v,Q (.int es.size t) { s with toks:=v }):wpAny (model prog w) A (call (.builtin "len") [.ref d]) Q E s:=by obtain⟨o,g1,g2,g3⟩:=C;have ty:s.TypeIs (.ref d) "dict":=⟨o,g1,g2.1⟩;have G:sizeLine=16777216:=dU;refine iR kind_len plain_len entry_len (args_len1 _) ?_;unfold dG.«len»;refine aa (m:=oneArg "len" _) (ag (aa (m:=callSpecial? (.ref d) (aN "__len__")) ?_));refine dH (name:=aN "__len__") ty lC ?_;refine cI lC ty PySem.F.entry_dict_len ?_ (PySem.F.args_dict_len_1 _);show wpAny _ _ (dictSize d >>= _) _ _ s;unfold dictSize;refine aa (aa (gY g1 g3 (ag ?_)));show wpAny _ _ (rj d >>= _) _ _ s;refine aa (wpAny_pendingCount_other x (wpAny_ret_mkInt ?_));rw[show((es.size:Int)+((0:Nat):Int))=(es.size:Int) from by simp];refine aa (bW (ag (aa (wpAny_letGo ?_))));show wpAny _ _ (if ((es.size:Nat):Int)<0 then _ else _) _ _ _;rw[if_neg (by lia)];show wpAny _ _ (if ((es.size:Nat):Int)>=2 ^ 63 then _ else _) _ _ _;rw[if_neg (by lia)];exact aa (wpAny_mkInt (ag ⟨_,rfl,h _ _⟩))
end
def mkZ(zs:ZT):ZT:=zs.foldl (fun acc z=>zput acc z.1 z.2.1 z.2.2) []
def mkT(ks:KT2):KT2:=ks.foldl (fun acc z=>putT acc z.1 z.2) []
def KZp(K:qF)(H:Hp)(x:V)(z:(Int×Int)×af×V):Prop:=∃a,x=.ref a/\SqT K H a [.ref z.2.1,z.2.2]/\SqT K H z.2.1 [.int z.1.1,.int z.1.2]
section
variable{X:Cx}
theorem zol{zs l:ZT}{ps xs:List (List Key×af×ae)}(r:bQ ZX zs ps)(a:bQ ZX l xs):bQ ZX (zs.foldl (fun acc z=>zput acc z.1 z.2.1 z.2.2) l) (mkX xs ps):=by
 induction r generalizing l xs with
 | nil=>exact a
 | @cons z x zs ps h t ih =>
  unfold mkX;rw[eC,eC];have:bQ ZX (zput l z.1 z.2.1 z.2.2) (storedH xs x.1 x.2.1 x.2.2):=by rw[h.1,h.2.1];exact zj3 a z.1 h.2.2
  exact ih this
theorem zpd(zs:ZT):(mkZ zs).length<=zs.length:=by
 have key:∀(zs acc:ZT),(zs.foldl (fun acc z=>zput acc z.1 z.2.1 z.2.2) acc).length<=acc.length+zs.length:=by
  intro zs;induction zs with
  | nil=>intro acc;simp
  | cons z zs o =>intro acc;have:=o (zput acc z.1 z.2.1 z.2.2);have:=zfB acc z.1 z.2.1 z.2.2;rw[eC,aG];lia
 simpa[mkZ] using key zs []
theorem zoX{pins:qO}{σ:St}{H:Hp}{s:aj}(I:Inv X pins σ H s){vs:List V}{its:List ae}{zs:ZT}(r:Vals vs its)(h:bQ (KZp X.K H) vs zs) :
  ∃ps:List (List Key×af×ae),bQ ZX zs ps/\bQ (PrT X.prog X.w s.heap) its ps:=by
 induction vs generalizing its zs with
 | nil=>cases r;cases h;exact⟨[],.nil,.nil⟩
 | cons v vs C =>
  cases r with
  | cons L J =>
   cases h with
   | @cons _ z _ zs h1 h2 =>
    obtain⟨a,rfl,sq,sk⟩:=h1;obtain⟨ps,S,U⟩:=C J h2;obtain⟨x,R,it,_⟩:=I.tuple sq;cases R with
    | cons G N =>
     cases N with
     | cons Y Z =>cases Z;rename_i u w;cases(show _=a9 a from L);cases(show _=a9 z.2.1 from G);exact⟨(kL z.1,z.2.1,w)::ps,.cons ⟨rfl,rfl,Y⟩ S,.cons ⟨a,rfl,it,UM (k:=kL z.1) I sk⟩ U⟩
theorem zjZ(hc:X.calm=true)(C:X.A.units+64<cLine):JR X (.type "dict") (fun xs H Q=>∃(p:af) (vs:List V) (zs:ZT),xs=[.ref p]/\H p=some (.lst vs)/\bQ (KZp X.K H) vs zs/\∀l ep,H l=none->Q (.ref l) (upd H l (ZDO l (mkZ zs) ep))):=by
 intro pins s σ H xs us Q I r h;obtain⟨p,vs,zs,rfl,N,pr,q⟩:=h;obtain⟨u,rfl,x⟩:=r.one;cases(show u=a9 p from x);obtain⟨U,its,n,rel,g⟩:=I.hok p _ N;obtain⟨ps,v,G⟩:=zoX I rel pr;have S:zs.length=vs.length:=(cK pr).symm;have Y:ps.length=zs.length:=(cK v).symm;refine zeJ (A:=X.A) (its:=its.toArray) (ps:=ps) g rfl rfl rfl (I.ok.hd hc) C (by simpa using G) (by lia) fun h' J kp R=>?_;have hb:(s.heap.objs.size == sysModules)=false:=beq_eq_false_iff_ne.mpr (gL (aJ I.big));have L:(mkZ zs).length<=sizeLine:=by have:=zpd zs;lia
 obtain⟨ep,ok⟩:=Zt (X:=X) (H':=H) hb L (zol v .nil) R;exact⟨.ref s.heap.objs.size,_,I.laid (a:=s.heap.objs.size) (o:=ZDO s.heap.objs.size (mkZ zs) ep) (t':=J) kp (av _) ok,rfl,q _ ep (I.hok.fresh (av _))⟩
theorem zlY:JR X (.builtin "len") (fun xs H Q=>∃a zs ep,xs=[.ref a]/\H a=some (ZDO a zs ep)/\Q (.int zs.length) H):=by
 intro pins s σ H xs us Q I r h;obtain⟨a,zs,ep,rfl,ha,q⟩:=h;obtain⟨u,rfl,v⟩:=vals1 r;cases v;obtain⟨⟨C,J,nd,o,es,g1,g2,g3,pr⟩,_⟩:=I.hok a _ ha;have G:es.size=zs.length:=by have:=cK pr;simpa using this.symm
 refine zoA (es:=es) (ep:=ep) C ⟨o,g1,g2,g3⟩ (by lia) fun t x=>⟨.int zs.length,H,I.tok x,⟨t,by rw[G]⟩,q⟩
end
def prT(q:(Int×Int)×ab):ab:=.tuple [.tuple [.int q.1.1,.int q.1.2],q.2]
theorem zmD{K:qF}{hd:Option af}{O:af->Prop}{H:Hp}{vs:List V}{ks:KT2}(r:Reps K hd O H vs (ks.map prT)):∃zs:ZT,bQ (KZp K H) vs zs/\Jk K hd O H zs ks:=by
 induction ks generalizing vs with
 | nil=>cases r;exact⟨[],.nil,.nil⟩
 | cons a ks v =>
  cases r with
  | cons h r =>
   obtain⟨zs,x,J⟩:=v r;obtain⟨b,ws,rfl,sq,L⟩:=h.tupI;cases L with
   | cons x1 I =>
    cases I with
    | cons C G =>cases G;obtain⟨q,rfl,u⟩:=x1.bkI;exact⟨(a.1,q,_)::zs,.cons ⟨b,rfl,sq,u⟩ x,.cons x1 C J⟩
theorem zjl{K:qF}{hd:Option af}{O:af->Prop}{H:Hp}{zs:ZT}{ks:KT2}{l:ZT}{o:KT2}(r:Jk K hd O H zs ks):Jk K hd O H l o->Jk K hd O H (zs.foldl (fun acc z=>zput acc z.1 z.2.1 z.2.2) l) (ks.foldl (fun acc z=>putT acc z.1 z.2) o) :=
 r.ind (P:=fun(zs:ZT) (ks:KT2)=>∀(l:ZT) (o:KT2),Jk K hd O H l o->Jk K hd O H (zs.foldl (fun acc (z:(Int×Int)×af×V)=>zput acc z.1 z.2.1 z.2.2) l) (ks.foldl (fun acc (z:(Int×Int)×ab)=>putT acc z.1 z.2) o)) (fun _ _ a=>a) (fun v u _ r _ _ a=>r _ _ (a.put _ v u)) _ _
end L2
namespace L2
open PySem
abbrev RL:=List ((Int×Int)×Int)
end L2
namespace Bd
open PySem PySem.W PySem.Calls L2 PyProof.Rows
structure ZZ where
 P:aK
 w:ba
 K:qF
 mg:Str->Option ae
 base:bB
def FQ(Z:ZZ)(x:Str)(st:dA)(ps:List Str)(k:Nat)(l:Sp):Prop:=Fq Z.P Z.w Z.K Z.mg Z.base x st ps k l
theorem okQ{Z:ZZ}{x:Str}{st:dA}{ps N:List Str}{k m:Nat}{g:GD}(D:Dq Z.K Z.mg x st ps)(S:Qp N ps (Jt st))(v:m=ps.length)
  (hb:∀(f:af) (l:ae) (A:aX) (outer:List Env) (s:aj) (H:Hp) (E:XK),Room k (A.deeper (envOfC x (Jt st) s.heap.objs.size f l))->∃d,DSs (cxOf CX0 Z.P Z.w Z.K Z.mg Z.base N x (Jt st) f l A outer s H E).nox (JU st) d /\
   ∀ts n R,ts.length=m->g ts n R->d { nx:=fun _ C=>R .none C,rt:=R } (JQ N ts) n):FQ Z x st ps (k+1) (spD Z.K m g):=by
 obtain⟨f,fd,D⟩:=D;exact⟨f,fd,D,D.okD S v fun l A outer s H E u=>hb f l A outer s H E u⟩
theorem bnd1{x:Str}{st:dA}{a:Str}(h:∀(kV doc pm:ae) (an:Option af) (l ct u:ae),bindArgs (cO x x (Qq st) (JU st) (Jt st) .none kV doc pm an l ct) ⟨[u],[]⟩=pure [(a,u)]):BndA x st [a]:=fun _ _ _ _ _ _ us v=>by obtain⟨_,rfl⟩:=len1 v;exact h ..
theorem bnd2{x:Str}{st:dA}{a b:Str}(h:∀(kV doc pm:ae) (an:Option af) (l ct u v:ae),bindArgs (cO x x (Qq st) (JU st) (Jt st) .none kV doc pm an l ct) ⟨[u,v],[]⟩=pure [(a,u),(b,v)]):BndA x st [a,b]:=fun _ _ _ _ _ _ us C=>by obtain⟨_,_,rfl⟩:=len2 C;exact h ..
theorem bnd3{x:Str}{st:dA}{a b c:Str}(h:∀(kV doc pm:ae) (an:Option af) (l ct u v y:ae),bindArgs (cO x x (Qq st) (JU st) (Jt st) .none kV doc pm an l ct) ⟨[u,v,y],[]⟩=pure [(a,u),(b,v),(c,y)]):BndA x st [a,b,c]:=fun _ _ _ _ _ _ us C=>by obtain⟨_,_,_,rfl⟩:=len3 C;exact h ..
theorem bnd4{x:Str}{st:dA}{a b c d:Str}(h:∀(kV doc pm:ae) (an:Option af) (l ct u v y z:ae),bindArgs (cO x x (Qq st) (JU st) (Jt st) .none kV doc pm an l ct) ⟨[u,v,y,z],[]⟩=pure [(a,u),(b,v),(c,y),(d,z)]):BndA x st [a,b,c,d]:=fun _ _ _ _ _ _ us C=>by obtain⟨_,_,_,_,rfl⟩:=len4 C;exact h ..
def JS(h:bB):qF:=(g9 h.objs.size).filterMap fun a=>(h.get? a).map fun o=>(a,o)
theorem zk6{h:bB}:∀{x:List af}{a:af},a∈x->(x.filterMap fun a=>(h.get? a).map fun o=>(a,o)).lookup a=h.get? a\/h.get? a=none
 | [],_,m=>nomatch m
 | b::x,a,m=>by
  by_cases e:a=b;subst e;cases g:h.get? a with
  | none=>exact .inr rfl
  | some o=>exact .inl (by rw[cU];simp[g,cF])
  have C:a∈x:=(ay.mp m).resolve_left e;rcases zk6 (h:=h) C with z|z;refine .inl ?_;rw[cU];cases g:h.get? b with
  | none=>exact z
  | some o =>
   have:(a == b)=false:=by simpa using e
   simp only[ir];rw[cF,this];exact z
  exact .inr z
theorem Z7{h:bB}{a:af}{o:Obj}(e:h.get? a=some o):(JS h).lookup a=some o:=by have m:a∈g9 h.objs.size:=lK.mpr (aD e);rcases zk6 (h:=h) m with z|z;exact z.trans e;rw[e]at z;cases z
theorem zgk{h:bB}:(JS h).In h:=fun a o e=>by
 have key:∀(v:List af),(v.filterMap fun a=>(h.get? a).map fun o=>(a,o)).lookup a=some o->h.get? a=some o:=by
  intro v;induction v with
  | nil=>intro z;cases z
  | cons b v x =>
   intro z;rw[cU]at z;cases g:h.get? b with
   | none=>rw[g]at z;exact x z
   | some C =>
    rw[g]at z;simp only[ir,cF]at z;cases q:a == b with
    | true=>rw[q]at z;cases z;rw[eq_of_beq q];exact g
    | false=>rw[q]at z;exact x z
 exact key _ e
def Vq:dA->Bool
 | .FunctionDef ..=>true
 | _=>false
def defName:dA->Str
 | .FunctionDef n _ _ _ _ _ _ _ _ _=>n
 | _=>aN ""
def zsH:dA->Pos
 | .FunctionDef _ _ _ _ _ _ _ _ _ p=>p
 | _=>⟨0,0,0,0⟩
def recD(st:dA):DefRec:=⟨defName st,Qq st,JU st,Jt st,zsH st⟩
theorem getD_mem{l:List dA}{i:Nat}(h:Vq (l.getD i (.Pass ⟨0,0,0,0⟩))=true):l.getD i (.Pass ⟨0,0,0,0⟩)∈l:=by
 rw[aZ]at h ⊢;cases e:l[i]? with
 | none=>rw[e]at h;cases h
 | some s=>exact aM e
section
variable{q:aK}{loose:List Str}{Ic:nJ->Option ae}{mg mb:qM}{h:bB}{x:Str}{st:dA}{ps:List Str}
theorem zlU{cd:ae}{n:Str}(c:h.CodeRec cd n):gO (JS h) cd n=true:=by
 obtain⟨a,o,vs,t,rfl,g,d,e⟩:=c;unfold gO;dsimp only;rw[Z7 g];obtain⟨C,v,u,sl⟩:=o;cases(show u=_ from d);have l:vs.toList[1]?=some (.str n t):=by simpa using e
 dsimp only;match hv:vs.toList,l with
 | [],l=>simp at l
 | [_],l=>simp at l
 | a::b::r,l =>
  have:b=.str n t:=by simpa using l
  subst this;simp
end
end Bd
namespace L2
open PySem PySem.Spec PyProof PyProof.Rows
theorem zj6{a:af}{ep:Nat}:ZDO a [] ep=KDO a [] ep:=by unfold ZDO KDO;congr 1;funext h;have e:∀l:List eS,bQ entZ [] l↔bQ entI [] l:=fun l=>⟨fun h=>by cases h;exact .nil,fun h=>by cases h;exact .nil⟩;simp only[e,cC,bT,List.nodup_nil]
theorem zpU{ks:KT2}{ls:List (Int×ab)}(e:Jv ks=Y7 ls):ks=[]/\ls=[]:=by
 cases ks with
 | nil=>cases ls with
  | nil=>exact⟨rfl,rfl⟩
  | cons _ _=>cases e
 | cons a ks=>cases ls with
  | nil=>cases e
  | cons b ls =>have h:=(mh (gq (show(blkT a.1,a.2)::Jv ks=(cq b.1,b.2)::Y7 ls from e)).1).1;cases h
theorem ziN{α:Type}[DecidableEq α]:∀{xs ys:List α},xs.Nodup->(∀x∈xs,x∈ys)->xs.length<=ys.length
 | [],_,_,_=>bp _
 | x::xs,ys,nd,h=>by have l:=cB.mp nd;have:=ziN (xs:=xs) (ys:=ys.erase x) l.2 fun y o=>(l9 (by rintro rfl;exact l.1 o)).mpr (h y (by simp[o]));have hx:=h x (by simp);have e:=i7 hx;have:=kR hx;rw[aG];lia
abbrev BL:=List (Int×Int)
theorem zrJ{xs:qD}{k:Nat}{x:ab}{R:ab->Prop}(e:xs[k]?=some x)(h:R x):oIx (.list xs) (.int (k:Int)) R:=by
 have o:k<xs.length:=by rcases fc k xs.length with z|z;exact z;rw[bM z]at e;cases e
 rw[Y5 (x:=x)];exact h;unfold atI ixN;have:((0:Int)<=(k:Int)):=by lia
 have:((k:Int)<(xs.length:Int)):=by lia
 have u:xs[k]=x:=by rw[ak o]at e;exact aI e
 simp[o,u]
section
variable{prog:aK}{w:ba}{A:aX}{E:qV}{s:aj}
theorem zkv{d:af}{es:Array eS}{ep:Nat}{Q:qV}(G:(d == sysModules)=false)(I:Vc s.heap d es ep)
  (C:Q (.ref s.heap.objs.size) { s with heap:=s.heap.push { cls:=.type "dict_keyiterator",data:=.fields #[.ref d,.int 0 0,.int es.size 0,.int ep 0] } }):wpAny (model prog w) A (pyIter (.ref d)) Q E s:=by
 obtain⟨x,o,v,u⟩:=I;have ty:s.TypeIs (.ref d) "dict":=⟨x,o,v.1⟩;refine nK ty kW (cI kW ty PySem.F.entry_dict_iter ?_ (PySem.F.args_dict_iter_1 _));unfold dG.«dict.__iter__»;refine aa ?_;unfold rm;refine aa (lB ty ?_);show wpAny _ _ (pure (a9 d)) _ _ s;refine ag ?_;show wpAny _ _ (lD d >>= _) _ _ s;unfold lD;have ns:¬((d == sysModules)=true):=by rw[G];exact aS
 rw[if_neg ns];refine aa (ag (aa (gY o u (aa (k8 o u ?_)))));exact aa (cN (ag ⟨_,rfl,"dict_keyiterator",_,⟨_,aB _ rfl,rfl⟩,bS.lookup,by simpa[rawInt] using C⟩))
theorem zkw{it d:af}{i ep:Nat}{es:Array eS}{e:eS}{Q:Option ae->aj->Prop}(hi:s.heap.IsKeyIter it d i es.size ep)(N:Vc s.heap d es ep)(hx:es[i]?=some e)
  (G:∀h',h'.IsKeyIter it d (i+1) es.size ep->fQ it s.heap h'->Q (some e.key) { s with heap:=h' }):wpAny (model prog w) A (pyNext (.ref it)) Q E s:=by
 obtain⟨o,C,hc,hd⟩:=id hi;obtain⟨R,v,J,x⟩:=N;have ty:=hi.typeIs;have lt:i<es.size:=(Array.getElem?_eq_some_iff.mp hx).1;unfold pyNext;refine aa (gn ?_);refine dH (name:=aN "__next__") ty bS ?_;refine cI bS ty gr ?_ (f9 _);refine aa (ag (aa (aa ?_)));refine aa (dE ty (ag (aa (pP C hd ?_))));have L:iy "dict_keyiterator" = false:=by decide
 simp only[L,aO,if_false];show wpAny _ _ (if (a9 d == fK)=true then _ else _) _ _ s;have nd:¬((a9 d == fK)=true):=aS;rw[if_neg nd];refine aa (ag (aa (gY v x ?_)));rw[if_neg (by simp)];refine aa (ag (aa (k8 v x ?_)));rw[if_neg (by simp)];refine ag ?_;simp only[show ¬((i:Int)<0) from by lia,if_false,cP,hx];refine aa (aa (dE ty (ag (aa (lE ty ?_)))));show wpAny _ _ (setField (.ref it) 1 (rawInt ((i:Int)+1)) >>= _) _ _ s;refine aa (mi C hd (by simp) ?_);have l:(s.heap.update it (mL (·.setIfInBounds 1 (rawInt ((i:Int)+1))))).IsKeyIter it d (i+1) es.size ep :=
  ⟨_,gZ _ C (lF (gE hd _)),(nL ..).trans hc,by rw[gE hd];simp[rawInt]⟩
 refine aa (bW (aa (lE (s:={ s with heap:=s.heap.update it (mL (·.setIfInBounds 1 (rawInt ((i:Int)+1)))) }) l.typeIs ?_)));show wpAny _ _ (pure e.key) _ _ _;exact ag (ag ⟨_,rfl,ag (G _ l (cW ..))⟩)
theorem zmF{it d:af}{i ep:Nat}{es:Array eS}{Q:Option ae->aj->Prop}(L:A.handled=none)(hi:s.heap.IsKeyIter it d i es.size ep)(R:Vc s.heap d es ep)(hx:es.size<=i)
  (I:∀h',ou it s.heap h'->Q none { s with heap:=h' }):wpAny (model prog w) A (pyNext (.ref it)) Q E s:=by
 obtain⟨o,G,hc,hd⟩:=id hi;obtain⟨S,l,J,v⟩:=R;have ty:=hi.typeIs;unfold pyNext;refine aa (gn ?_);refine dH (name:=aN "__next__") ty bS ?_;refine cI bS ty gr ?_ (f9 _);refine aa (ag (aa (aa ?_)));refine aa (dE ty (ag (aa (pP G hd ?_))));have N:iy "dict_keyiterator" = false:=by decide
 simp only[N,aO,if_false];show wpAny _ _ (if (a9 d == fK)=true then _ else _) _ _ s;have nd:¬((a9 d == fK)=true):=aS;rw[if_neg nd];refine aa (ag (aa (gY l v ?_)));rw[if_neg (by simp)];refine aa (ag (aa (k8 l v ?_)));rw[if_neg (by simp)];refine ag ?_;simp only[show ¬((i:Int)<0) from by lia,if_false,cP,kT hx];refine aa (aa (dE ty (ag ?_)));show wpAny _ _ (setField (.ref it) 0 .none >>= _) _ _ s;refine aa (mi G hd (by simp) ?_);show wpAny _ _ (newExc (.type "StopIteration") [] >>= _) _ _ _;refine aa ?_;simp only[newExc,newTuple];refine aa (cN ?_ (by size_fits));refine aa (m:=firstArgMember _ _) (lO (a:=fK) (by first|rfl|(simp only[firstArgMember];rfl)) ?_);refine cN ?_ (by size_fits);simp only[raiseNew];refine aa (wpAny_handled ?_);have C:A.in1.handled=none:=L;rw[C];refine aa (ag (wpAny_throw ?_));refine aa (kD (T:="StopIteration") (b:=true) ⟨_,aB _ rfl,rfl⟩ pQ (ag (I _ ?_)));exact(((cW ..).extBut.push _).push _)
end
theorem zey:∀{ks ls:KT2},Jv ks=Jv ls->ks=ls
 | [],[],_=>rfl
 | [],_::_,e=>by cases e
 | _::_,[],e=>by cases e
 | (a,b)::ks,(c,d)::ls,e=>by have h:=gq (show(blkT a,b)::Jv ks=(blkT c,d)::Jv ls from e);have o:=mh h.1;have l:=eW o.1;have u:=pR (gq l).1;have v:=pR (gq (gq l).2).1;rw[o.2,zey h.2,fA u v]
section
variable{K:qF}{hd:Option af}{O:af->Prop}{H:Hp}
theorem Rep.dtI{v:V}{ks:KT2}(h:Rep K hd O H v (.dict (Jv ks))):∃a zs ep,v=.ref a/\H a=some (ZDO a zs ep)/\¬O a/\Jk K hd O H zs ks:=by
 generalize e:uU (Jv ks)=t at h;cases h with
 | @dct a ep h o =>
  have e:=cY e;cases ks with
  | nil=>exact⟨a,[],ep,rfl,by rw[zj6];exact h,o,.nil⟩
  | cons _ _=>cases e
 | @dcK a kvs ep ks' ps h o r e' =>have e:=cY e;rw[e']at e;obtain⟨rfl,rfl⟩:=zpU e;cases r;exact⟨a,[],ep,rfl,by rw[zj6];exact h,o,.nil⟩
 | @dcT a zs ep ks' ps h o r e' =>have e:=cY e;rw[e']at e;rw[zey e];exact⟨a,zs,ep,rfl,h,o,r⟩
 | hand _=>exact(dict_noT (cY e).symm).elim
 | scr _ _=>exact(dict_noT (cY e).symm).elim
 | scrS _=>exact(dict_noT (cY e).symm).elim
 | exc _ _=>exact(dict_noT (cY e).symm).elim
 | _=>cases e
theorem RepT.dtI{v:V}{ks:KT2}(h:RepT K hd O H v (.dict (Jv ks))):∃a zs ep,v=.ref a/\H a=some (ZDO a zs ep)/\Jk K hd O H zs ks:=by rcases h with h|⟨p,vs,ds,rfl,u,o,l,x⟩|⟨p,zs,ep,C,rfl,u,o,l,x⟩;obtain⟨a,zs,ep,e,o,_,l⟩:=h.dtI;exact⟨a,zs,ep,e,o,l⟩;cases u;rw[zey (cY u)];exact⟨p,zs,ep,rfl,o,l⟩
def valZ(zs:ZT)(k:Int×Int):Option V:=(zs.find? fun z=>decide (z.1=k)).map (·.2.2)
theorem Jk.val{zs:ZT}{ks:KT2}(r:Jk K hd O H zs ks){k:Int×Int}{d:ab}(h:valT ks k=some d):∃v,valZ zs k=some v/\Rep K hd O H v d:=by
 induction zs generalizing ks with
 | nil=>cases r;simp[valT]at h
 | cons y zs l =>
  cases r with
  | @cons k' q v' d' zs ks h1 h2 r =>unfold valT at h;unfold valZ;rw[bU]at h ⊢;dsimp only at h ⊢;by_cases e:k'=k;rw[decide_eq_true e]at h ⊢;cases h;exact⟨v',rfl,h2⟩;rw[decide_eq_false e]at h ⊢;exact l r h
theorem zno{ks:KT2}{k:Int×Int}:(ks.any ((fun z=>decide (z=k))∘fun x=>x.1))=(ks.find? fun z=>decide (z.1=k)).isSome:=by
 induction ks with
 | nil=>rfl
 | cons y ks l =>rw[sD,bU];show(decide (y.1=k)||_)=_;cases decide (y.1=k);exact l;rfl
theorem Jk.anyK{zs:ZT}{ks:KT2}(r:Jk K hd O H zs ks)(k:Int×Int):(zs.any fun z=>decide (z.1=k))=(valT ks k).isSome:=by
 have l:(zs.any fun z=>decide (z.1=k))=(zs.map (·.1)).any fun z=>decide (z=k):=by rw[iE];rfl
 rw[l,r.keys,iE];unfold valT;rw[nM];exact zno
end
theorem zqe{zs:ZT}{xs:List (List Key×af×ae)}(r:bQ ZX zs xs){k:Int×Int}{v:V}(h:valZ zs k=some v):∃p,atKey xs (kL k)=some p/\RelV v p.2:=by
 induction r with
 | nil=>simp[valZ]at h
 | @cons z x zs xs h1 t ih =>
  unfold valZ at h;rw[bU]at h;by_cases e:z.1=k;rw[decide_eq_true e]at h;cases h;have:x.1=kL k:=by rw[h1.1,e]
  exact⟨x.2,by simp[atKey,bU,this],h1.2.2⟩;rw[decide_eq_false e]at h;have:¬x.1=kL k:=fun u=>e (Vs.mp (h1.1.symm.trans u));obtain⟨p,l,o⟩:=ih h;refine⟨p,?_,o⟩;rw[<- l];simp[atKey,bU,this]
section
variable{X:Cx}{a b iter tg:aT}{da db dd:DTE}{pos p:Pos}{k:Nat}
def zsT(K:qF)(H:Hp)(y:V)(k:Int×Int):Prop:=∃b,y=.ref b/\SqT K H b [.int k.1,.int k.2]
def zsU(K:qF)(H:Hp)(x:V)(zs:ZT):Prop:=∃a ep,x=.ref a/\H a=some (ZDO a zs ep)/\∀z∈zs,SqT K H z.2.1 [.int z.1.1,.int z.1.2]
def rInT(K:qF)(neg:Bool):R2:=fun x y H Q=>∃k zs,zsT K H x k/\zsU K H y zs/\Q (.bl (if neg then !(zs.any fun z=>decide (z.1=k)) else zs.any fun z=>decide (z.1=k))) H
theorem znY(J:X.A.units+1<cLine):OpR X (compareOp .In) (rInT X.K false):=by intro pins s σ H x y v u Q I C o h;obtain⟨k,zs,⟨b,rfl,sq⟩,⟨a,ep,rfl,ha,G⟩,q⟩:=h;cases(show v=a9 b from C);cases(show u=a9 a from o);obtain⟨L,N,xs,x1,dd⟩:=Zs I ha G;refine wpAny_in_heap (gD J) (UM (k:=kL k) I sq) L dd ?_;rw[zj5 x1];exact⟨.bl _,H,I.tok _,rfl,q⟩
theorem Vy(L:X.A.units+1<cLine):OpR X (compareOp .NotIn) (rInT X.K true):=by intro pins s σ H x y v u Q I G C h;obtain⟨k,zs,⟨b,rfl,sq⟩,⟨a,ep,rfl,ha,J⟩,q⟩:=h;cases(show v=a9 b from G);cases(show u=a9 a from C);obtain⟨R,S,xs,x1,dd⟩:=Zs I ha J;refine wpAny_notIn_heap (gD L) (UM (k:=kL k) I sq) R dd ?_;rw[zj5 x1];exact⟨.bl _,H,I.tok _,rfl,q⟩
def oInT(neg:Bool):G2:=fun x y R=>∃(k:Int×Int) (ks:KT2),x=.tuple [.int k.1,.int k.2]/\y=.dict (Jv ks)/\R (.bool (if neg then !(valT ks k).isSome else(valT ks k).isSome))
theorem RepT.bkI{K:qF}{hd:Option af}{O:af->Prop}{H:Hp}{v:V}{a b:Int}(h:RepT K hd O H v (.tuple [.int a,.int b])):∃q,v=.ref q/\SqT K H q [.int a,.int b]:=by rcases h with h|⟨p,vs,ds,rfl,o,I,x,C⟩|⟨p,zs,ep,G,rfl,o,I,x,C⟩;exact h.bkI;cases o;cases o
theorem Yl{neg:Bool}:Gp2 X (rInT X.K neg) (oInT neg):=by intro hd O H x y t u Q R dom C v h o;obtain⟨k,ks,rfl,rfl,r⟩:=h;obtain⟨a,zs,ep,rfl,ha,rk⟩:=v.dtI;refine⟨k,zs,C.bkI,⟨a,ep,rfl,ha,rk.sq⟩,?_⟩;rw[rk.anyK k];exact o _ _ H r (Same.refl H) (.bl _)
theorem Qv{k:Int×Int}{ks:KT2}{neg:Bool}{R:ab->Prop}(h:R (.bool (if neg then !(valT ks k).isSome else(valT ks k).isSome))):oInT neg (.tuple [.int k.1,.int k.2]) (.dict (Jv ks)) R:=⟨k,ks,rfl,rfl,h⟩
def rIxZ(K:qF):R2:=fun x y H Q=>∃k zs v,zsT K H y k/\zsU K H x zs/\valZ zs k=some v/\Q v H
theorem zrd(N:X.A.units+1<cLine){pins:qO}{s:aj}{σ:St}{H:Hp}{x y:V}{v u:ae}{Q:VK}{E:qV}(I:Inv X pins σ H s)(G:RelV x v)(l:RelV y u)(h:rIxZ X.K x y H Q):(∃a,v=.ref a/\s.TypeIs (.ref a) "dict")/\wpAny (model X.prog X.w) X.A (getItem v u) (EP X pins σ Q) E s:=by obtain⟨k,zs,w,⟨b,rfl,sq⟩,⟨a,ep,rfl,ha,J⟩,R,q⟩:=h;cases(show v=a9 a from G);cases(show u=a9 b from l);obtain⟨U,S,xs,x1,dd⟩:=Zs I ha J;obtain⟨p,C,L⟩:=zqe x1 R;refine⟨⟨a,rfl,?_⟩,wpAny_getItem_heap (gD N) (UM (k:=kL k) I sq) dd C ⟨w,H,I.tok _,L,q⟩⟩;obtain⟨o,g,c⟩:=zlE dd;exact⟨o,g,c⟩
def zsO:GC:=fun ts R=>∃ks:KT2,ts=[.dict (Jv ks)]/\R (.int ks.length)
theorem zpG:GpC X (fun xs H Q=>∃a zs ep,xs=[.ref a]/\H a=some (ZDO a zs ep)/\Q (.int zs.length) H) zsO:=by intro hd O H xs ts Q R dom rs h l;obtain⟨ks,rfl,r⟩:=h;obtain⟨v,rfl,o⟩:=Qs rs;obtain⟨a,zs,ep,rfl,ha,rk⟩:=o.dtI;exact⟨a,zs,ep,rfl,ha,by rw[rk.length];exact l _ _ H r (Same.refl H) (.int _)⟩
theorem zlq{ks:KT2}{R:ab->Prop}(h:R (.int ks.length)):zsO [.dict (Jv ks)] R:=⟨ks,rfl,h⟩
def ItZ(a:af)(zs:ZT)(ep:Nat):It :=
 ⟨fun i H=>H a=some (ZDO a zs ep)/\i<zs.length,fun i H x H'=>H'=H/\∃z,zs[i]?=some z/\x=.ref z.2.1,fun i H=>H a=some (ZDO a zs ep)/\zs.length<=i⟩
theorem zpM{zs:ZT}{es:List eS}(r:bQ entZ zs es){i:Nat}{z:(Int×Int)×af×V}(h:zs[i]?=some z):∃e,es[i]?=some e/\e.key=.ref z.2.1:=by
 induction r generalizing i with
 | nil=>simp at h
 | @cons y e zs es h1 t ih =>
  cases i with
  | zero=>simp at h;subst h;exact⟨e,by simp,h1.2.1⟩
  | succ i=>simpa using ih (by simpa using h)
theorem zkc{P:aK}{w:ba}{K:qF}{tg:aT}(a it:af)(zs:ZT)(ep:Nat):Turn P w K tg (ItZ a zs ep) [it] it (fun i h=>h.IsKeyIter it a i zs.length ep) where
 mem:=by simp
 obj:=fun i h st b hb=>by
  have e:b=it:=by simpa using hb
  subst e;obtain⟨o,e,c,d⟩:=st;exact⟨o,e,fun v z=>by rw[d]at z;cases z⟩
 keep:=fun i h h' st k=>by obtain⟨o,e,r⟩:=st;exact⟨o,k it (by simp) o e,r⟩
 item:=by
  intro X C hw G hc i pins s σ H E I hf st x;subst C hw G;obtain⟨ha,hi⟩:=x;obtain⟨⟨Y,U,nd,o,es,g1,g2,g3,pr⟩,_⟩:=I.hok a _ ha;have hx:zs[i]?=some zs[i]:=ak hi;obtain⟨e,he,S⟩:=zpM pr hx;have u:es.size=zs.length:=by have:=cK pr;simpa using this.symm
  obtain⟨f0,f1,f2,L,f4,J⟩:=hf it (by simp);refine zkw (es:=es) (by rw[u];exact st) ⟨o,g1,g2,g3⟩ (by rw[<- bq];exact he) fun h' l sb=>?_;rw[u]at l;have N:Inv X pins σ H { s with heap:=h' }:=I.turned (t':=s.toks) (fun b o hb e=>(sb.2 b hb).trans e) f0 f1 L f4 J;obtain⟨o',R,c,d⟩:=id l;rw[S];exact⟨_,rfl,Y1 (s:={ s with heap:=h' }) R c d (by decide) ⟨.ref zs[i].2.1,H,N,rfl,⟨rfl,zs[i],hx,rfl⟩,l,fun b hb=>(hf b hb).1⟩⟩
 done:=by
  intro X C hw G hc i pins s σ H E I hf st x;subst C hw G;obtain⟨ha,hi⟩:=x;obtain⟨⟨Y,U,nd,o,es,g1,g2,g3,pr⟩,_⟩:=I.hok a _ ha;have u:es.size=zs.length:=by have:=cK pr;simpa using this.symm
  obtain⟨f0,f1,f2,L,f4,J⟩:=hf it (by simp);exact zmF (es:=es) (I.ok.hd hc) (by rw[u];exact st) ⟨o,g1,g2,g3⟩ (by lia) fun h' Z=>⟨rfl,I.turned (t':=s.toks) (fun b o hb e=>Z b o hb e) f0 f1 L f4 J⟩
 self:=fun _ _ _ _ _ st h=>wpAny_pyIter_keyiter st h
def zuW(o:TE):TI:=fun σ H R=>o σ H fun x l=>∃a zs ep,x=.ref a/\l a=some (ZDO a zs ep)/\R (ItZ a zs ep) l
theorem zoL{l:aT}{G:TE}(U:PE X l G):PI X tg l (zuW G):=by
 intro pins s σ H R I h;refine thn (U pins s σ H _ I h) fun v s1 C=>?_;obtain⟨x,N,u,L,J⟩:=C;obtain⟨a,zs,ep,e,ha,q⟩:=J;subst e;cases L;obtain⟨⟨S,Z,nd,o,es,g1,g2,g3,pr⟩,_⟩:=u.hok a _ ha;have Y:es.size=zs.length:=by have:=cK pr;simpa using this.symm
 refine zkv (es:=es) S ⟨o,g1,g2,g3⟩ ?_;rw[Y];refine⟨s1.heap.objs.size,[s1.heap.objs.size],_,_,N,rfl,u.kept (t':=s1.toks) fun b o e=>aq _ e,zkc a _ zs ep,⟨_,aB _ rfl,rfl,rfl⟩,fun b hb=>?_,q⟩;have e:b=s1.heap.objs.size:=by simpa using hb
 subst e;exact u.fpOk (av _) (u.hok.fresh (av _))
def dItZ(d:DTE):DTA:=fun o n R=>d o n fun t l=>∃ks:KT2,t=.dict (Jv ks)/\R (ks.map fun q=>blkT q.1) l
theorem Jk.getK{K:qF}{hd:Option af}{O:af->Prop}{H:Hp}{zs:ZT}{ks:KT2}(r:Jk K hd O H zs ks){i:Nat}{z:(Int×Int)×af×V}{q:(Int×Int)×ab}(hz:zs[i]?=some z)(l:ks[i]?=some q):Rep K hd O H (.ref z.2.1) (blkT q.1):=by
 induction zs generalizing ks i with
 | nil=>simp at hz
 | cons y zs o =>
  cases r with
  | @cons k' q' v' d' zs ks h1 h2 r =>
   cases i with
   | zero=>simp at hz l;subst hz l;exact h1
   | succ i=>exact o r (by simpa using hz) (by simpa using l)
theorem zlD(h:DE X iter dd):DI X tg iter (dItZ dd):=by
 obtain⟨ta,pa,h⟩:=h;refine⟨_,zoL pa,fun C ρ σ H n Q R S hd L=>?_⟩;refine h C ρ σ H n _ _ S hd fun t n' v H' ⟨ks,G,r⟩ J hn q=>?_;subst G;obtain⟨a,zs,ep,rfl,ha,no,rk⟩:=q.dtI;refine⟨a,zs,ep,rfl,ha,L _ n' _ H' r J hn ?_⟩;intro Z H2 I N _;have l:=I a _ ha no;have U:Jk X.K C.hd Z H2 zs ks:=rk.mono (fun a o ha z=>a8 fun no=>N a o ha no z) fun a o no ha=>I a o ha no;refine⟨fun i t G=>?_,⟨l,by rw[ao,rk.length];exact av _⟩⟩;rw[a6]at G;obtain⟨q,u,eq⟩:=fv.mp G;have hi:i<zs.length:=by rw[rk.length];exact(ah.mp u).1
 refine⟨⟨l,hi⟩,fun x H3 Y=>?_⟩;obtain⟨rfl,z,hz,rfl⟩:=Y;rw[<- eq];exact⟨Same.refl _,U.getK hz u⟩
instance zvm {d:DTE}{ρ:En}{n:Nat}{R:List ab->Nat->Prop}:Stp (dItZ d ρ n R) (d ρ n fun t n'=>∃ks:KT2,t=.dict (Jv ks)/\R (ks.map fun q=>blkT q.1) n'):=⟨fun h=>h⟩
end
section
variable{X:Cx}{a b e:aT}{da db d:DTE}{pos p:Pos}{k:Nat}{x:Str}{ta tb:TE}
theorem zqZ(U:X.A.units+1<cLine)(Y:PE X a ta)(hi:PE X b tb)(Z:NoSl b):PE X (.Subscript a b pos) (tOp (rIxZ X.K) ta tb):=by intro pins s σ H Q I h;refine zoo PySem.F.slot_dict_getitem.lookup Z (thn (Y pins s σ H _ I h) fun u s1 ⟨x,L,o,J,C⟩=>thn (hi pins s1 σ L _ o C) fun iv s2 l=>?_);obtain⟨y,H2,v,G,R⟩:=l;obtain⟨⟨a,N,ty⟩,w⟩:=zrd (E:=X.xe) U v J G R;subst N;exact⟨ty,w⟩
def oIxZ:G2:=fun x y R=>∃(k:Int×Int) (ks:KT2) (d:ab),x=.dict (Jv ks)/\y=.tuple [.int k.1,.int k.2]/\valT ks k=some d/\R d
theorem zsl:Gp2 X (rIxZ X.K) oIxZ:=by intro hd O H x y t u Q R dom C o h l;obtain⟨k,ks,d,rfl,rfl,J,r⟩:=h;obtain⟨a,zs,ep,rfl,ha,rk⟩:=C.dtI;obtain⟨v,I,G⟩:=rk.val J;exact⟨k,zs,v,o.bkI,⟨a,ep,rfl,ha,rk.sq⟩,I,l _ _ H r (Same.refl H) G⟩
theorem Qc(U:X.A.units+1<cLine)(ha:DL X a da)(hb:DL X b db)(Z:NoSl b:=by intro _ _;rfl):DE X (.Subscript a b pos) (dOp oIxZ da db):=by obtain⟨ta,pa,ha⟩:=ha;obtain⟨tb,pb,hb⟩:=hb;refine⟨_,zqZ U pa pb Z,fun C ρ σ H n Q R S h o=>?_⟩;refine two ha hb S h fun x y L v w Y I e l G N=>?_;exact zsl C.hd (Own C ρ σ) Y v w x y Q _ (fun p=>l.dom) G N I fun z u H' J sm rp=>o z L u H' J (e.trans sm.ext) (l.hnd.same sm) rp
theorem QR{k:Int×Int}{ks:KT2}{d:ab}{R:ab->Prop}(o:valT ks k=some d)(h:R d):oIxZ (.dict (Jv ks)) (.tuple [.int k.1,.int k.2]) R:=⟨k,ks,d,rfl,rfl,o,h⟩
def dDtt(i:Nat):DTE:=fun l n R=>match l[i]? with|some (some (.dtt ks))=>R (.dict (Jv ks)) n|_=>False
theorem zpP(i:Nat){J:Pos}(Y:X.N[i]?=some x:=by rfl)(L:Vis X.env.scope x:=by walk_at "V")(hd:Ndb x:=by rfl)
  (v:Ncd x:=by rfl):DS X (.Return (some (.Name x J)) pos) (sRet (dDtt i)):=by
 refine⟨_,Zz (Qo Y L hd v),fun C ρ σ H n D D' S h g=>?_⟩;unfold sRet dDtt at h;split at h;rename_i ks e;obtain⟨p,zs,ep,Z,G,U,I⟩:=S.dtt i ks e;exact⟨.ref p,Z,g.rt _ n _ H h S.hnd (fun a o ha _ _=>ha) (.dcT G I (U.mono (fun _ _ _ z=>.inl z) fun _ _ _ z=>z) rfl)⟩;exact h.elim
instance zvp {i:Nat}{ks:KT2}{ρ:En}{n:Nat}{R:qN}[h:GetN ρ i (some (.dtt ks))]:Stp (dDtt i ρ n R) (R (.dict (Jv ks)) n):=⟨fun k=>by unfold dDtt;rw[h.e];exact k⟩
end
abbrev PR:=List ((Int×Int)×(Int×Int))
def twoD(q:Int×Int):ab:=.tuple [.int q.1,.int q.2]
def prK(qs:PR):KT2:=qs.map fun q=>(q.1,twoD q.2)
def valP(qs:PR)(k:Int×Int):Option (Int×Int):=(qs.find? fun q=>decide (q.1=k)).map (·.2)
theorem Q1{qs:PR}{k:Int×Int}:valT (prK qs) k=(valP qs k).map twoD:=by
 unfold valT valP prK;induction qs with
 | nil=>rfl
 | cons q qs l =>rw[aC,bU,bU];dsimp only;cases decide (q.1=k);exact l;rfl
abbrev upH(b:Int×Int):Int×Int:=(cz b.1 (2 ^ (b.2 - 1).toNat),b.2 - 1)
abbrev loH(b:Int×Int):Int×Int:=(b.1,b.2 - 1)
def bpD(no al:Bool)(qs:PR)(b:Int×Int):Option (Int×Int) :=
 if no then some (0,1) else if al then some (1,0) else match valP qs (loH b),valP qs (upH b) with
  | some x,some y=>some (if x.2+y.2+1<x.1+y.1 then x.2+y.2+1 else x.1+y.1,if x.1+y.1+1<x.2+y.2 then x.1+y.1+1 else x.2+y.2)
  | _,_=>none
def optD:Option (Int×Int)->ab|some q=>twoD q|none=>.none
def HasN(ps:qB)(b:Int×Int):Prop:=∀p∈ps,eB p<=b.1\/eB b<=p.1
def HasA(ps:qB)(b:Int×Int):Prop:=∃p∈ps,p.1<=b.1/\eB b<=eB p
def rgtD(o:Option (Int×Int))(q:Int×Int):Bool:=match o with|some m=>decide (q.1<=m.1)&&decide (q.2<=m.2)|none=>false
theorem zfZ{ps:qB}{b:Int×Int}(h:b.2=0):HasN ps b\/HasA ps b:=by
 have e:eB b=b.1+1:=by unfold eB;rw[h];rfl
 by_cases q:∃p∈ps,p.1<=b.1/\b.1<eB p;obtain⟨p,o,u,v⟩:=q;exact .inr ⟨p,o,u,by lia⟩;refine .inl fun p o=>?_;by_cases z:eB p<=b.1;exact .inl z;refine .inr ?_;by_cases y:p.1<=b.1;exact absurd ⟨p,o,y,by lia⟩ q;lia
section
variable{bits:Int}{ps bs:BL}{b c:Int×Int}
theorem up_eq(B:IsBk bits b.1 b.2)(h:1<=b.2):upH b=(b.1+2 ^ (b.2 - 1).toNat,b.2 - 1):=by
 have e:=B.x1 (by lia);have p:(2:Int) ^ b.2.toNat=2*2 ^ (b.2 - 1).toNat:=by
  have:b.2.toNat=(b.2 - 1).toNat+1:=by lia
  rw[this,bA];lia
 unfold upH;rw[e,p];congr 1;lia
theorem YQ(h:1<=b.2):(2:Int) ^ b.2.toNat=2*2 ^ (b.2 - 1).toNat:=by
 have:b.2.toNat=(b.2 - 1).toNat+1:=by lia
 rw[this,bA];lia
theorem zrp(B:IsBk bits b.1 b.2)(h:1<=b.2):IsBk bits (loH b).1 (loH b).2:=by
 obtain⟨h0,v,k,u,e,l⟩:=B;refine⟨by show 0<=b.2 - 1;lia,by show b.2 - 1<=bits;lia,2*k,by lia,?_,?_⟩;show b.1=2*k*2 ^ (b.2 - 1).toNat;rw[e,YQ h,cg 2 k,cM];show 2*k<2 ^ (bits - (b.2 - 1)).toNat;have:(bits - (b.2 - 1)).toNat=(bits - b.2).toNat+1:=by lia
 rw[this,bA];lia
theorem zqh(B:IsBk bits b.1 b.2)(h:1<=b.2):IsBk bits (upH b).1 (upH b).2:=by
 rw[up_eq B h];obtain⟨h0,v,k,u,e,l⟩:=B;refine⟨by show 0<=b.2 - 1;lia,by show b.2 - 1<=bits;lia,2*k+1,by lia,?_,?_⟩;show b.1+2 ^ (b.2 - 1).toNat=(2*k+1)*2 ^ (b.2 - 1).toNat;rw[e,YQ h,eG,bH,cg 2 k,cM];show 2*k+1<2 ^ (bits - (b.2 - 1)).toNat;have:(bits - (b.2 - 1)).toNat=(bits - b.2).toNat+1:=by lia
 rw[this,bA];lia
theorem zkl(B:IsBk bits b.1 b.2)(C:IsBk bits c.1 c.2)(h:b.2=c.2){x:Int}(x1:b.1<=x/\x<eB b)(l:c.1<=x/\x<eB c):b=c:=by
 have e:eB b - b.1=eB c - c.1:=by unfold eB;rw[h];lia
 rcases YN B C x1 l with z|z;exact fA (by lia) h;exact fA (by lia) h
theorem zi1(B:IsBk bits b.1 b.2)(C:IsBk bits c.1 c.2)(hb:1<=b.2)(hc:1<=c.2){d:Int×Int}(u:d=loH b\/d=upH b)(l:d=loH c\/d=upH c):b=c:=by
 have L:=YQ (b:=b) hb;have pc:=YQ (b:=c) hc;have I:=Bd.Q4 (b.2 - 1).toNat;have G:=Bd.Q4 (c.2 - 1).toNat;rw[up_eq B hb]at u;rw[up_eq C hc]at l;have x:d.2=b.2 - 1:=by rcases u with rfl|rfl <;> rfl
 have J:d.2=c.2 - 1:=by rcases l with rfl|rfl <;> rfl
 have i1:b.1<=d.1/\d.1<eB b:=by unfold eB;rcases u with rfl|rfl <;> constructor <;> dsimp only <;> lia
 have v:c.1<=d.1/\d.1<eB c:=by unfold eB;rcases l with rfl|rfl <;> constructor <;> dsimp only <;> lia
 exact zkl B C (by lia) i1 v
def Prt(ps:BL)(b:Int×Int):Prop:=¬HasN ps b/\¬HasA ps b
theorem Prt.pos(h:Prt ps b)(B:IsBk bits b.1 b.2):1<=b.2:=by have h0:=B.1;by_cases z:b.2=0;rcases zfZ (ps:=ps) z with q|q;exact absurd q h.1;exact absurd q h.2;lia
theorem Prt.inn(h:Prt ps b)(B:IsBk bits b.1 b.2)(P:Bks bits ps):∃p∈ps,b.1<=p.1/\p.1<eB b:=by
 refine a8 fun no=>h.1 fun p l=>?_;refine a8 fun z=>?_;have pp:=JL p;have u:=JL b;have x1:b.1<eB p:=by lia
 have o:p.1<eB b:=by lia
 by_cases q:b.1<=p.1;exact no ⟨p,l,q,o⟩;rcases YN B (P p l) (x:=b.1) ⟨aE _,u⟩ ⟨by lia,x1⟩ with z|z;lia;exact h.2 ⟨p,l,z.1,z.2.1⟩
structure PInv(bits:Int)(ps bs:BL)(k:Nat):Prop where
 bk:Bks bits bs
 nd:bs.Nodup
 root:bs[0]?=some (0,bits)
 par:∀c∈bs,c=(0,bits)\/∃(j:Nat) (b:Int×Int),j<k/\bs[j]?=some b/\Prt ps b/\(c=loH b\/c=upH b)
 kid:∀(j:Nat) (b:Int×Int),j<k->bs[j]?=some b->Prt ps b->(∃i,j<i/\bs[i]?=some (loH b))/\∃i,j<i/\bs[i]?=some (upH b)
 cnt:∃ds:BL,ds.Nodup/\(∀d∈ds,Prt ps d/\∃j,j<k/\bs[j]?=some d)/\bs.length=1+2*ds.length
theorem PInv.start(o:0<=bits):PInv bits ps [(0,bits)] 0 where
 bk:=fun b hb=>by cases ax.mp hb;exact⟨o,aE _,0,aE _,by simp,Bd.Q4 _⟩
 nd:=by simp
 root:=rfl
 par:=fun c hc=>.inl (ax.mp hc)
 kid:=fun j b u=>by lia
 cnt:=⟨[],.nil,(fun d h=>nomatch h),rfl⟩
theorem PInv.no{k:Nat}(I:PInv bits ps bs k)(hb:bs[k]?=some b)(h:¬Prt ps b):PInv bits ps bs (k+1) where
 bk:=I.bk
 nd:=I.nd
 root:=I.root
 par:=fun c hc=>by rcases I.par c hc with z|⟨j,b,j1,r⟩;exact .inl z;exact .inr ⟨j,b,by lia,r⟩
 kid:=fun j c G hc o=>by by_cases e:j=k;subst e;rw[hb]at hc;cases hc;exact absurd o h;exact I.kid j c (by lia) hc o
 cnt:=by obtain⟨ds,x,u,v⟩:=I.cnt;exact⟨ds,x,fun d hd=>by obtain⟨a,j,j1,C⟩:=u d hd;exact⟨a,j,by lia,C⟩,v⟩
theorem PInv.yes{k:Nat}(b0:0<=bits)(I:PInv bits ps bs k)(hb:bs[k]?=some b)(h:Prt ps b):PInv bits ps (bs++[loH b,upH b]) (k+1):=by
 have G:=(ah.mp hb).1;have B:=I.bk b (aM hb);have v:=h.pos B;have pb:=YQ (b:=b) v;have qb:=Bd.Q4 (b.2 - 1).toNat;have old:∀{j:Nat} {c:Int×Int},bs[j]?=some c->(bs++[loH b,upH b])[j]?=some c:=fun {j c} J=>by rw[bg (ah.mp J).1];exact J
 have fresh:∀d,(d=loH b\/d=upH b)->d∉bs:=by
  intro d hd hm;rcases I.par d hm with z|⟨j,c,j1,u,j3,j4⟩;have:d.2=b.2 - 1:=by rcases hd with rfl|rfl <;> rfl
  have e2:=B.2.1;rw[z]at this;have this:bits=b.2 - 1:=this;lia;have R:=I.bk c (aM u);have:=zi1 B R v (j3.pos R) hd j4;subst this;have:=(i4 (fS j1 G) I.nd).mp (u.trans hb.symm);lia
 have ne:loH b≠upH b:=by rw[up_eq B v];intro e;have:=congrArg vf e;dsimp only at this;lia
 have U:(bs++[loH b,upH b])[bs.length]?=some (loH b):=by simp
 have l1:(bs++[loH b,upH b])[bs.length+1]?=some (upH b):=by simp
 refine⟨?_,?_,?_,?_,?_,?_⟩;intro c hc;rcases ai.mp hc with hc|hc;exact I.bk c hc;simp only[ay,bI,or_false]at hc;rcases hc with rfl|rfl;exact zrp B v;exact zqh B v;rw[cT];refine⟨I.nd,by simp[ne],fun x hx y C e=>?_⟩;subst e;simp only[ay,bI,or_false]at C;exact fresh x C hx;exact old I.root;intro c hc;rcases ai.mp hc with hc|hc;rcases I.par c hc with z|⟨j,d,j1,u,r⟩;exact .inl z;exact .inr ⟨j,d,by lia,old u,r⟩;simp only[ay,bI,or_false]at hc;exact .inr ⟨k,b,by lia,old hb,h,hc⟩;intro j c J hc hp;by_cases e:j=k;subst e;have:c=b:=by have:=old hb;rw[hc]at this;exact aI this
 subst this;exact⟨⟨bs.length,G,U⟩,bs.length+1,by lia,l1⟩;have S:j<bs.length:=by lia
 rw[bg S]at hc;obtain⟨⟨i1,a1,a2⟩,i2,c1,Y⟩:=I.kid j c (by lia) hc hp;exact⟨⟨i1,a1,old a2⟩,i2,c1,old Y⟩;obtain⟨ds,d1,L,Z⟩:=I.cnt;refine⟨ds++[b],?_,?_,by simp[Z];lia⟩;rw[cT];refine⟨d1,by simp,fun x hx y C e=>?_⟩;subst e;cases ax.mp C;obtain⟨_,j,j1,u⟩:=L _ hx;have:=(i4 (fS j1 G) I.nd).mp (u.trans hb.symm);lia;intro d hd;rcases ai.mp hd with hd|hd;obtain⟨a,j,j1,u⟩:=L d hd;exact⟨a,j,by lia,old u⟩;cases ax.mp hd;exact⟨h,k,by lia,old hb⟩
end
theorem ziU{α o:Type}(ps:List o):∀xs:List α,(xs.flatMap fun h=>ps.map fun p=>(h,p)).length=xs.length*ps.length
 | []=>by simp
 | x::xs=>by rw[List.flatMap_cons,aH,ziU ps xs,ao,aG,Nat.succ_mul,tY]
section
variable{bits:Int}{ps bs:BL}{b c:Int×Int}
theorem zgQ(L:bits<=64)(P:Bks bits ps){ds:BL}(nd:ds.Nodup)(h:∀d∈ds,Prt ps d/\IsBk bits d.1 d.2):ds.length<=65*ps.length:=by
 classical
 let g:Int×Int->Int×Int:=fun d=>if h:∃p∈ps,d.1<=p.1/\p.1<eB d then h.choose else(0,0)
 have C:∀d∈ds,g d∈ps/\d.1<=(g d).1/\(g d).1<eB d:=fun d hd=>by obtain⟨p,B⟩:=h d hd;have ex:=p.inn B P;have e:g d=ex.choose:=dif_pos ex;rw[e];exact ex.choose_spec
 have v:(ds.map fun d=>(d.2,g d)).Nodup:=by refine cx.mpr (gp ?_ nd);intro a c ha hc n e;have G:=congrArg vf e;have J:=congrArg Prod.snd e;dsimp only at G J;have ga:=C a ha;have I:=C c hc;rw[<- J]at I;exact n (zkl (h a ha).2 (h c hc).2 G ga.2 I.2)
 have:=ziN (ys:=((g9 65).map fun i:Nat=>(i:Int)).flatMap fun h=>ps.map fun p=>(h,p)) v fun x hx=>by obtain⟨d,hd,rfl⟩:=a7.mp hx;rw[List.mem_flatMap];have B:=(h d hd).2;have h0:=B.1;have R:=B.2.1;exact⟨d.2,a7.mpr ⟨d.2.toNat,lK.mpr (by lia),by lia⟩,a7.mpr ⟨g d,(C d hd).1,rfl⟩⟩
 rw[ziU,ao,ao,List.length_range]at this;exact this
theorem PInv.len{k:Nat}(v:bits<=64)(P:Bks bits ps)(I:PInv bits ps bs k):bs.length<=1+130*ps.length:=by
 obtain⟨ds,u,l,x⟩:=I.cnt;have:=zgQ v P u fun d hd=>by obtain⟨a,j,_,o⟩:=l d hd;exact⟨a,I.bk d (aM o)⟩
 lia
def msz(bs:BL):Nat:=(bs.map fun b=>2 ^ (b.2.toNat+1) - 1).sum
theorem Vx(xs ys:BL):msz (xs++ys)=msz xs+msz ys:=by simp[msz]
theorem zn0{k:Nat}(hb:bs[k]?=some b):msz (bs.drop (k+1))<msz (bs.drop k):=by
 have l:=(ah.mp hb).1;have e:bs.drop k=b::bs.drop (k+1):=by rw[bF l];rw[ak l]at hb;rw[aI hb]
 rw[e];have:1<2 ^ (b.2.toNat+1):=m4 (by lia);simp only[msz,aC,dW];lia
theorem zpa{k:Nat}(hb:bs[k]?=some b)(h:1<=b.2):msz ((bs++[loH b,upH b]).drop (k+1))<msz (bs.drop k):=by
 have l:=(ah.mp hb).1;have e:bs.drop k=b::bs.drop (k+1):=by rw[bF l];rw[ak l]at hb;rw[aI hb]
 rw[ie (by lia),Vx,e];have p:2 ^ (b.2.toNat+1)=2*2 ^ b.2.toNat:=by rw[gV];lia
 have q:(b.2 - 1).toNat+1=b.2.toNat:=by lia
 have pos:1<=2 ^ b.2.toNat:=m5;simp only[msz,aC,dW,cC,nN,q];lia
end
section
variable{prog:aK}{w:ba}{A:aX}{E:qV}{s:aj}
theorem zeW{T newId T':String}{G:dG}{args:List ae}{Q:qV}
  (h1:(bC T == bC "type")=false)
  (h2:((pS T).bind (·.mro.findSome? fun t=>(pS t).bind fun b=>if b.noNew then some true else if b.attrs.any (·.1 == "__new__") then some false else none)).getD false=false)
  (N:∃c C,mroOf (.type T)=pure (c::C)) (v:Bind.madeBy (.type T)=pure (some newId)) (plain:plainId newId=true) (J:isSubtype (.type T') (.type T)=pure false)
  (U:checkTypeCall T ⟨args,[]⟩=pure ()) (u:checkBuiltinCall newId ⟨.type T::args,[]⟩=pure ()) (L:entryFor table newId=some G)
  (h:wpAny (model prog w) A.in1.in1 (G ⟨.type T::args,[]⟩) (fun fin l=>∃obj,fin=Fin.done (Flow.ret obj)/\l.TypeIs obj T'/\Q obj l) E s) :
  wpAny (model prog w) A (call (.type T) args) Q E s:=by
 obtain⟨c,C,I⟩:=N;refine o7 (oC ?_);show wpAny _ _ (callAny (.type T) _) _ _ _;refine ag ⟨gC _ (by decide +kernel),gy F.entry_type_call ?_⟩;rw[Around.under_plain (weight_type_call_type T args []) (units_type_call_type T args [])]
 repeat (any_goals (first|assumption|wp_step))
 refine fR (R:=wants (fun obj l=>l.TypeIs obj T'/\Q obj l) E) (ik plain L (lO u ?_)) fun r l x=>?_;exact bN h (fun fin s1 ⟨obj,e,q⟩=>by subst e;exact q) (fun _ _ z=>z)
 ·cases r with
  | error e=>exact x
  | ok fl =>
   cases fl with
   | ret obj =>
    obtain⟨Y,Z⟩:=x;show wpAny _ _ (isInstance obj (.type T) >>= _) _ _ l;refine aa (kD Y J ?_)
    repeat (any_goals (first|assumption|wp_step))
   | _=>exact x.elim
theorem zgK{l:af}{its:Array ae}{n:Nat}{Q:qV}(x:s.heap.get? l=some { cls:=.type "list",dict:=none,data:=.seq its n,slots:=#[] }) (h:Q (.ref s.heap.objs.size) { s with heap:=s.heap.push { cls:=.type "list_reverseiterator",data:=.fields #[.ref l,.int (its.size - 1) 0] } }) :
  wpAny (model prog w) A (dG.«reversed.__new__» ⟨[.type "reversed",.ref l],[]⟩) (fun fin o=>∃obj,fin=Fin.done (Flow.ret obj)/\Q obj o) E s:=by
 have G:isSubtype (.type "reversed") (.type "reversed")=pure true:=by kernel_rfl
 have C:s.TypeIs (.ref l) "list":=⟨_,x,rfl⟩;have I:=d8.lookup;have hb:=d8.bind (.ref l);unfold dG.«reversed.__new__»
 repeat (any_goals (first|assumption|wp_step))
 refine fR (R:=wants Q E) (ik d8.plain PySem.F.entry_list_reversed (d8.check _ _ _ _ _ _ _ _ C (PySem.F.args_list_reversed_1 _) (lG l its n prog w A (wants Q E) s ⟨x,by simpa[rawInt,wants] using h⟩))) fun r s1 u=>?_;cases r with
 | error e=>exact u
 | ok fl =>
  cases fl with
  | ret v=>exact ag ⟨_,rfl,u⟩
  | _=>exact u.elim
theorem zgg{l:af}{its:Array ae}{n:Nat}{Q:qV}(o:s.heap.get? l=some { cls:=.type "list",dict:=none,data:=.seq its n,slots:=#[] }) (h:Q (.ref s.heap.objs.size) { s with heap:=s.heap.push { cls:=.type "list_reverseiterator",data:=.fields #[.ref l,.int (its.size - 1) 0] } }) :
  wpAny (model prog w) A (call (.type "reversed") [.ref l]) Q E s:=by
 refine zeW (T:="reversed") (newId:="reversed.__new__") (T':="list_reverseiterator") (by decide) (by decide +kernel) ⟨.type "reversed",[.type "object"],by rw[mroOf_type];kernel_rfl⟩ (by kernel_rfl) (by decide +kernel) (by kernel_rfl) ?_ ?_ (by kernel_rfl) (zgK o ⟨⟨_,aB _ rfl,rfl⟩,h⟩);kernel_rfl;kernel_rfl
end
theorem Z6:Slot "list_reverseiterator" "__next__" "list_reverseiterator.__next__" :=
 .of (owner:="list_reverseiterator") (n:="__next__") (by rw[ix,fF];kernel_rfl) (by decide +kernel) (by decide +kernel) (by decide +kernel) (by decide +kernel) (by kernel_rfl)
theorem zc3:Slot "list_reverseiterator" "__iter__" "list_reverseiterator.__iter__" :=
 .of (owner:="list_reverseiterator") (n:="__iter__") (by rw[ix,fF];kernel_rfl) (by decide +kernel) (by decide +kernel) (by decide +kernel) (by decide +kernel) (by kernel_rfl)
theorem zcN:entryFor table "list_reverseiterator.__next__" = some dG.«list_reverseiterator.__next__»:=entryFor_of_tree (by kernel_rfl)
theorem zdj(a:ae):argsOk "list_reverseiterator.__next__" ⟨[a],[]⟩:=by unfold argsOk;kernel_rfl
def IsRevIter(h:bB)(it l:af)(j:Int):Prop:=∃o,h.get? it=some o/\o.cls=.type "list_reverseiterator" /\ o.data=.fields #[.ref l,.int j 0]
section
variable{prog:aK}{w:ba}{A:aX}{E:qV}{s:aj}
theorem zkj{a:af}{o:Obj}{its:Array ae}{n:Nat}{Q:Option (Array ae)->aj->Prop}(l:s.heap.get? a=some o)(hd:o.data=.seq its n)(h:Q (some its) s):wpAny (model prog w) A (seqItems? (.ref a)) Q E s:=by show wpAny _ _ (load a >>= _) _ _ s;refine aa (oZ l ?_);rw[hd];exact ag h
theorem zmC{it l:af}{its:Array ae}{j:Nat}{x:ae}{Q:Option ae->aj->Prop}(hi:IsRevIter s.heap it l (j:Int))(J:s.heap.IsList l its)(hx:its[j]?=some x)
  (G:∀h',IsRevIter h' it l ((j:Int) - 1)->fQ it s.heap h'->Q (some x) { s with heap:=h' }):wpAny (model prog w) A (pyNext (.ref it)) Q E s:=by
 obtain⟨o,v,hc,hd⟩:=id hi;obtain⟨L,gl,cl,n,dl⟩:=id J;have ty:s.TypeIs (.ref it) "list_reverseiterator":=⟨o,v,hc⟩;unfold pyNext;refine aa (gn ?_);refine dH (name:=aN "__next__") ty Z6 ?_;refine cI Z6 ty zcN ?_ (zdj _);unfold dG.«list_reverseiterator.__next__»;refine aa (ag ?_);refine aa (oz v hd (x:=.int (j:Int) 0) rfl ?_);have nn:¬((j:Int)<0):=by lia
 show wpAny _ _ (if (j:Int)<0 then _ else _) _ _ _;rw[if_neg nn];refine aa (oz v hd (x:=.ref l) rfl ?_);refine aa (zkj gl dl ?_);show wpAny _ _ (match its[(j:Int).toNat]? with|some x=>_|_=>_) _ _ _;rw[cP,hx];refine aa (mi v hd (by simp) ?_);have C:IsRevIter (s.heap.update it (mL (·.setIfInBounds 1 (rawInt ((j:Int) - 1))))) it l ((j:Int) - 1) :=
  ⟨_,gZ _ v (lF (gE hd _)),(nL ..).trans hc,by rw[gE hd];simp[rawInt]⟩
 exact ag ⟨_,rfl,ag (G _ C (cW ..))⟩
theorem zoy{it l:af}{Q:Option ae->aj->Prop}(I:A.handled=none)(hi:IsRevIter s.heap it l (-1))(C:∀h',ou it s.heap h'->Q none { s with heap:=h' }):wpAny (model prog w) A (pyNext (.ref it)) Q E s:=by obtain⟨o,v,hc,hd⟩:=id hi;have ty:s.TypeIs (.ref it) "list_reverseiterator":=⟨o,v,hc⟩;unfold pyNext;refine aa (gn ?_);refine dH (name:=aN "__next__") ty Z6 ?_;refine cI Z6 ty zcN ?_ (zdj _);unfold dG.«list_reverseiterator.__next__»;refine aa (ag ?_);refine aa (oz v hd (x:=.int (-1) 0) rfl ?_);show wpAny _ _ (if (-1:Int)<0 then _ else _) _ _ _;rw[if_pos (by decide)];refine aa (dM ?_);refine aa ?_;unfold nQ;show wpAny _ _ (newExc (.type "StopIteration") [] >>= _) _ _ _;refine aa ?_;simp only[newExc,newTuple];refine aa (cN ?_ (by size_fits));refine aa (m:=firstArgMember _ _) (lO (a:=fK) (by first|rfl|(simp only[firstArgMember];rfl)) ?_);refine cN ?_ (by size_fits);simp only[raiseNew];refine aa (wpAny_handled ?_);have u:A.in1.handled=none:=I;rw[u];refine aa (ag (wpAny_throw ?_));refine aa (kD (T:="StopIteration") (b:=true) ⟨_,aB _ rfl,rfl⟩ pQ (ag (C _ ?_)));have G:ou it s.heap s.heap:=fun b o _ e=>e;exact oj (oj G _) _
end
section
variable{X:Cx}{iter tg:aT}{dd:DTE}
theorem zeV:entryFor table "list_reverseiterator.__iter__" = some dG.«dict_keyiterator.__iter__»:=entryFor_alias (id':="dict_keyiterator.__iter__") (by kernel_rfl) rfl (by decide +kernel) (by kernel_rfl)
theorem zgh(a:ae):argsOk "list_reverseiterator.__iter__" ⟨[a],[]⟩:=by unfold argsOk;kernel_rfl
theorem ziE{it l:af}{j:Int}{prog:aK}{w:ba}{A:aX}{E:qV}{s:aj}{Q:qV}(hi:IsRevIter s.heap it l j)(h:Q (.ref it) s):wpAny (model prog w) A (pyIter (.ref it)) Q E s:=by obtain⟨o,u,hc,hd⟩:=hi;have ty:s.TypeIs (.ref it) "list_reverseiterator":=⟨o,u,hc⟩;refine nK ty zc3 (cI zc3 ty zeV ?_ (zgh _));show wpAny _ _ (ret (.ref it)) _ _ s;exact ag ⟨_,rfl,"list_reverseiterator",_,ty,Z6.lookup,h⟩
def ItV(a:af)(vs:List V):It :=
 ⟨fun i H=>H a=some (.lst vs)/\i<vs.length,fun i H x H'=>H'=H/\vs.reverse[i]?=some x,fun i H=>H a=some (.lst vs)/\vs.length<=i⟩
theorem zmm{P:aK}{w:ba}{K:qF}{tg:aT}(a it:af)(vs:List V):Turn P w K tg (ItV a vs) [it] it (fun i h=>i<=vs.length/\IsRevIter h it a ((vs.length:Int) - 1 - (i:Int))) where
 mem:=by simp
 obj:=fun i h st b hb=>by
  have e:b=it:=by simpa using hb
  subst e;obtain⟨_,o,e,c,d⟩:=st;exact⟨o,e,fun v z=>by rw[d]at z;cases z⟩
 keep:=fun i h h' st k=>by obtain⟨l,o,e,r⟩:=st;exact⟨l,o,k it (by simp) o e,r⟩
 item:=by
  intro X N hw R hc i pins s σ H E I hf st L;subst N hw R;obtain⟨ha,hi⟩:=L;obtain⟨its,Y,p,hz⟩:=I.list (.of ha);have hl:=Y.length;have hx:vs.reverse[i]?=some (vs.reverse[i]'(by simpa using hi)):=ak (by simpa using hi);generalize vs.reverse[i]'(by simpa using hi)=x at hx;have J:vs[vs.length - 1 - i]?=some x:=by rw[<- hx,ed hi]
  obtain⟨u,hu,Z⟩:=Y.get J;obtain⟨f0,f1,f2,U,f4,S⟩:=hf it (by simp);have G:(vs.length:Int) - 1 - (i:Int)=((vs.length - 1 - i:Nat):Int):=by lia
  obtain⟨_,st⟩:=st;rw[G]at st;refine zmC st p.isList (x:=u) (by simpa using hu) fun h' C sb=>?_;have I1:Inv X pins σ H { s with heap:=h' }:=I.turned (t':=s.toks) (fun b o hb e=>(sb.2 b hb).trans e) f0 f1 U f4 S;obtain⟨o,e,c,d⟩:=id C;exact⟨u,rfl,Y1 (s:={ s with heap:=h' }) e c d (by decide) ⟨x,H,I1,Z,⟨rfl,hx⟩,⟨hi,by
   have e2:(vs.length:Int) - 1 - ((i+1:Nat):Int)=((vs.length - 1 - i:Nat):Int) - 1:=by lia
   rw[e2];exact C⟩,fun b hb=>(hf b hb).1⟩⟩
 done:=by
  intro X N hw R hc i pins s σ H E I hf st L;subst N hw R;obtain⟨ha,hi⟩:=L;obtain⟨f0,f1,f2,U,f4,S⟩:=hf it (by simp);obtain⟨l,st⟩:=st;have G:(vs.length:Int) - 1 - (i:Int)=-1:=by lia
  rw[G]at st;exact zoy (I.ok.hd hc) st fun h' eb=>⟨rfl,I.turned (t':=s.toks) (fun b o hb e=>eb b o hb e) f0 f1 U f4 S⟩
 self:=fun _ _ _ _ _ st h=>ziE st.2 h
end
theorem boot_reversed:bootBuiltins "reversed" = some (.type "reversed"):=by first|rfl|kernel_rfl
section
variable{X:Cx}{a tg:aT}{d:DTE}{p pos:Pos}
def iRev(u:TA):TI:=fun σ H R=>u σ H fun vs o=>∃l xs,vs=[.ref l]/\o l=some (.lst xs)/\R (ItV l xs) o
theorem zqT{v:TA}(J:Gl X "reversed") (Y:X.mg "reversed" = none) (ha:PA X [a] v) (U:starEach [a] X.env=[(false,eval a X.env)]:=by rfl):PI X tg (.Call (.Name "reversed" p) [a] [] pos) (iRev v):=by
 intro pins s σ H R I h;refine Call_ (Yx I J Y boot_reversed (fH (thn (ha pos pins s σ H _ I h) fun us s1 ⟨vs,S,u,L,G⟩=>?_) U rfl));obtain⟨l,xs,e,Z,q⟩:=G;subst e;cases L with
 | cons r rr =>
  cases rr;cases(show _=a9 l from r);obtain⟨z,its,n,rel,g⟩:=u.hok l _ Z;have el:=rel.length;refine zgg (its:=its.toArray) (n:=n) g ?_;have x:=u.kept (t':=s1.toks) (h':=s1.heap.push { cls:=.type "list_reverseiterator",data:=.fields #[.ref l,.int (its.toArray.size - 1) 0] }) fun b o e=>aq _ e;have ri:IsRevIter (s1.heap.push { cls:=.type "list_reverseiterator",data:=.fields #[.ref l,.int (its.toArray.size - 1) 0] }) s1.heap.objs.size l ((xs.length:Int) - 1 - ((0:Nat):Int)):=by refine⟨_,aB _ rfl,rfl,?_⟩;simp[el]
  refine ziE ri ?_;refine⟨s1.heap.objs.size,[s1.heap.objs.size],_,_,S,rfl,x,zmm l _ xs,⟨bp _,ri⟩,fun b hb=>?_,q⟩;have e:b=s1.heap.objs.size:=by simpa using hb
  subst e;exact u.fpOk (av _) (u.hok.fresh (av _))
def dItR(d:DTE):DTA:=fun o n R=>d o n fun t l=>lLst t fun ts=>R ts.reverse l
theorem zsG(hm:X.mg "reversed" = none) (h:DE X a d) (hg:Gl X "reversed":=by rfl) (L:starEach [a] X.env=[(false,eval a X.env)]:=by rfl):DI X tg (.Call (.Name "reversed" p) [a] [] pos) (dItR d):=by
 obtain⟨ta,pa,h⟩:=h;refine⟨_,zqT hg hm (Qr pa QV L) L,fun C ρ σ H n Q R S hd hq=>?_⟩;refine h C ρ σ H n _ _ S hd fun t n' v H' r Z hn q=>?_;cases t with
 | list ts =>
  obtain⟨l,vs,rfl,Y,no,J⟩:=q.lstI;refine⟨l,vs,rfl,Y,hq _ n' _ H' r Z hn ?_⟩;intro O2 H2 g1 g2 _;have u:=g1 l _ Y no;have r2:Reps X.K C.hd O2 H2 vs ts:=J.mono (fun a o ha z=>a8 fun no=>g2 a o ha no z) fun a o no ha=>g1 a o ha no;have U:=J.length;refine⟨fun i t I=>?_,⟨u,by rw[cX,U];exact av _⟩⟩;have hi:i<ts.length:=by simpa using(ah.mp I).1
  refine⟨⟨u,by lia⟩,fun x H3 G=>?_⟩;obtain⟨rfl,G⟩:=G;refine⟨Same.refl _,?_⟩;rw[ed hi]at I;rw[ed (by lia),U]at G;exact r2.getP I G
 | _=>exact r.elim
instance zvn {d:DTE}{ρ:En}{n:Nat}{R:List ab->Nat->Prop}:Stp (dItR d ρ n R) (d ρ n fun t n'=>lLst t fun ts=>R ts.reverse n'):=⟨fun h=>h⟩
end
theorem YT{qs more:PR}{k v:Int×Int}(h:valP qs k=some v):valP (qs++more) k=some v:=by
 unfold valP at *;rw[List.find?_append];cases e:qs.find? fun q=>decide (q.1=k) with
 | none=>rw[e]at h;cases h
 | some q=>rw[e]at h;exact h
theorem UU{qs:PR}{k:Int×Int}(h:k∈qs.map (·.1)):∃v,valP qs k=some v:=by
 unfold valP;cases e:qs.find? fun q=>decide (q.1=k) with
 | none =>obtain⟨q,l,rfl⟩:=a7.mp h;have:=List.find?_eq_none.mp e q l;simp at this
 | some q=>exact⟨q.2,rfl⟩
theorem zl1{no al:Bool}{qs more:PR}{b v:Int×Int}(h:bpD no al qs b=some v):bpD no al (qs++more) b=some v:=by
 unfold bpD at *;cases no;cases al;simp only[aO,if_false]at h ⊢;cases e1:valP qs (loH b) with
 | none=>rw[e1]at h;cases h
 | some x =>
  cases e2:valP qs (upH b) with
  | none=>rw[e1,e2]at h;cases h
  | some y =>rw[e1,e2]at h;rw[YT e1,YT e2];exact h
 exact h;exact h
theorem znC{no al:Bool}{qs:PR}{b:Int×Int}(h:no=false->al=false->loH b∈qs.map (·.1)/\upH b∈qs.map (·.1)):∃v,bpD no al qs b=some v:=by unfold bpD;cases no;cases al;obtain⟨u,o⟩:=h rfl rfl;obtain⟨x,l⟩:=UU u;obtain⟨y,C⟩:=UU o;rw[l,C];exact⟨_,rfl⟩;exact⟨_,rfl⟩;exact⟨_,rfl⟩
theorem zkz{qs:PR}{b v:Int×Int}(h:b∉qs.map (·.1)):putT (prK qs) b (twoD v)=prK (qs++[(b,v)]):=by
 have e:((prK qs).any fun z=>decide (z.1=b))=false:=by rw[gN];intro z hz e;obtain⟨q,l,rfl⟩:=a7.mp hz;exact h (a7.mpr ⟨q,l,of_decide_eq_true e⟩)
 unfold putT;rw[e];simp[prK]
section
variable{X:Cx}{pins:qO}{σ:St}{H:Hp}{s:aj}{a:af}{zs:ZT}{ep:Nat}{A:aX}{E:qV}
theorem zj8{k:Int×Int}{b:af}{v:V}{r:ae}{Q:Unit->aj->Prop}(Z:A.units+1<cLine)(I:Inv X pins σ H s)(h:H a=some (ZDO a zs ep))(L:∀z∈zs,SqT X.K H z.2.1 [.int z.1.1,.int z.1.2])(hb:SqT X.K H b [.int k.1,.int k.2])(hl:zs.length<sizeLine)(R:RelV v r)
  (J:∀s' o,Inv X pins σ (upd H a (ZDO a (zput zs k b v) o)) s'->Q () s'):wpAny (model X.prog X.w) A (dictSet a (.ref b) r) Q E s:=by
 obtain⟨U,N,xs,x1,Y⟩:=Zs I h L;have S:xs.length<=sizeLine:=by rw[<- cK x1];exact N
 refine mZ (hsz:=S) (show A.units<cLine by lia) (UM (k:=kL k) I hb) Y fun h' u x=>?_;have he:∃q,h'.get? a=some q:=let ⟨q,_,_,e,_⟩:=u;⟨q,e⟩;have C:(zput zs k b v).length<=sizeLine:=by have:=zfB zs k b v;lia
 have ok:∀H':Hp,∃o,JG X.prog X.w H' h' a (ZDO a (zput zs k b v) o):=fun H'=>Zt U C (zj3 x1 k R) u;obtain⟨o,G⟩:=ok H;exact J _ o (zlM I (by rw[h];exact hE) x he G)
end
abbrev tdD(tk tv:DTE)(ρ:En)(n:Nat)(acc:KT2)(R:KT2->Nat->Prop):Prop:=tk ρ n fun y n3=>tv ρ n3 fun t n4=>lBlk y fun k=>acc.length<16777216/\R (putT acc k t) n4
def YM(g:DTG)(tt:DTT)(o l:DTE)(ρ0:En)(xs:qD)(acc:KT2)(n:Nat)(R:KT2->Nat->Prop):Prop:=cGo g tt (tdD o l) ρ0 xs acc n R
def dCompT(m:Nat)(capt:List Nat)(x:DTA)(g:DTG)(tt:DTT)(C u:DTE):DTE:=fun l n R=>x l n fun ts v=>YM g tt C u (JJ m capt l) ts [] v fun ks o=>R (.dict (Jv ks)) o
def AD(K:qF)(C:Ctx)(D:af)(H:Hp)(acc:KT2):Prop:=∃zs ep,H D=some (ZDO D zs ep)/\Jk K C.hd C.ext H zs acc
theorem zsQ{K:qF}:AOk (AD K):=fun _ _ _ _ hx u ⟨zs,ep,l,r⟩ =>
 ⟨.inr (.inr ⟨_,l⟩),fun ks z=>(by rw[l]at z;cases z),fun H' e=>⟨zs,ep,e _ _ l u,r.mono (fun _ _ _ z=>z) fun a o no ha=>e a o ha fun z=>no (hx a z)⟩⟩
def nxD(o l:aT)(acc:ae)(env:Env)(k:Sem Fin):Sem Fin:=do
 (do
  let kv <- eval o env;let vv <- holding [kv] (eval l env);match acc with
  | .ref d=>do
   standAt { o.pos with endLine:=l.pos.endLine,endCol:=l.pos.endCol }
   holding [kv,vv] (dictSet d kv vv)
  | _=>unsupported "internal:dictcomp")
 k
section
variable{X:Cx}{scope:dF}{own:List Str}{capt:List Nat}{kx vx tg iter:aT}{ifs:List aT}{gs:List Comprehension}{pos:Pos}{di:DTA}{is:List Nat}{g:DTG}{tt:DTT}{tk tv:DTE}
theorem zpp:IsC (.DictComp kx vx gs scope pos):=fun _ _ _ _ _ _ _=>⟨⟨rfl,rfl⟩,⟨rfl,rfl⟩,rfl⟩
theorem zrm:NA X.prog X.w newDict fun D u=>∃ep,u=ZDO D [] ep:=fun A E s Q big h=>cN (h _ rfl fun h' e=>by have v:(s.heap.push { cls:=.type "dict",dict:=none,data:=.dict #[] }).DictOfH (tupleKind (JA X.prog X.w)) s.heap.objs.size []:=kB s.heap;obtain⟨o,es,ep,g1,g2⟩:=v;rw[aB _ rfl]at g1;cases g1;obtain⟨ep,ok⟩:=Zt (X:=X) (H':=fun _=>none) (zs:=[]) (beq_eq_false_iff_ne.mpr (gL (aJ big))) (bp _) .nil ⟨_,es,ep,e,g2.1,g2.2.1,g2.2.2.1,fun x hx=>absurd hx (by simp),g2.2.2.2.2⟩;exact⟨_,⟨ep,rfl⟩,fun H'=>ok⟩)
theorem zsh(hu:X.A.units+1<cLine)(hk:Fam X scope own capt fun Y=>DE Y kx tk)(he:Fam X scope own capt fun Y=>DE Y vx tv):HM X scope own capt (nxD kx vx) (AD X.K) [] (tdD tk tv):=by obtain⟨gk,pk,hgk⟩:=DE.fam hk;obtain⟨ge,pe,Z⟩:=DE.fam he;refine⟨fun D σ H N=>gk σ H fun kv H6=>ge σ H6 fun v J=>∃zs ep k b,kv=.ref b/\J D=some (ZDO D zs ep)/\(∀z∈zs,SqT X.K J z.2.1 [.int z.1.1,.int z.1.2])/\SqT X.K J b [.int k.1,.int k.2]/\zs.length<sizeLine/\∀u,N (upd J D (ZDO D (zput zs k b v) u)),fun D C s₀ H₀ fp pins s σ H N k Q E I h hk=>?_,fun C D hD nh ρ σ H n acc N R S _ a r hq=>?_⟩;refine aa (aa (bN (pk C s₀ H₀ fp pins s σ H _ I h) (fun y s9 ⟨kv,H9,I9,r9,q9⟩=>aa (bW (bN (pe C s₀ H₀ fp pins s9 σ H9 _ I9 q9) (fun y2 s10 ⟨v,H10,U,r10,zs,ep,k,b,ev,L,hsq,hb,hl,q10⟩=>aa (dS (bW ?_))) fun _ _ z=>z.elim))) fun _ _ z=>z.elim));subst ev;cases(show y=a9 b from r9);exact zj8 (X:=QJ X scope own capt C s₀ H₀ fp) hu U L hsq hb hl r10 fun s11 u I11=>hk _ _ I11 (q10 u);refine hgk C ρ σ H n _ _ S r fun y n6 kv H6 r6 e6 hn6 q6=>?_;have S6:=S.on e6 hn6;refine Z C ρ σ H6 n6 _ _ S6 r6 fun t n7 v J r7 e7 hn7 q7=>?_;obtain⟨k,rfl,hl,c7⟩:=r7;have x:=e7.rep S6.hx q6;obtain⟨b,rfl,sb⟩:=x.bkI;have G:=e6.trans e7;obtain⟨zs,ep,L,z6⟩:=(zsQ _ _ _ _ S.hx nh a).2.2 _ G;refine⟨zs,ep,k,b,rfl,L,z6.sq,sb,by rw[z6.length];exact hl,fun u=>hq _ n7 _ c7 (fun c o hc nc ne=>by rw[Jj ne];exact G c o hc nc) (Hn.updR nh (.inr (.inr ⟨_,L⟩)) hn7) ⟨_,u,JH,?_⟩⟩;exact(z6.put k (x.mono (fun _ _ _ z=>.inl z) fun _ _ _ z=>z) (q7.mono (fun _ _ _ z=>.inl z) fun _ _ _ z=>z)).mono (fun _ _ _ z=>z) fun a o no ha=>by rw[Jj (show a≠D from fun z=>no (z▸hD))];exact ha
theorem znB(hu:X.A.units+1<cLine)(hc:X.calm=true)(S:JB scope own capt X)(hi:DIL X tg iter di)
  (J:Fam X scope own capt fun Y=>DG Y tg is g) (v:∀i∈is,i<own.length) (L:Fam X scope own capt fun Y=>DTs Y ifs tt) (Z:Fam X scope own capt fun Y=>DE Y kx tk) (he:Fam X scope own capt fun Y=>DE Y vx tv) (hs:Fsi X iter) :
  ∃ge,PE X (.DictComp kx vx [⟨tg,iter,ifs,0⟩] scope pos) ge/\(∀{i:Nat} {x:Str} {u G:Pos},X.N.Nodup->X.N[i]?=some x->Loc X.env.scope x->swapsWith (.DictComp kx vx [⟨tg,iter,ifs,0⟩] scope pos) (some (.Name x u)) G.line X.env=pure true->(Fnl X x)->PS X (.Assign [.Name x u] (.DictComp kx vx [⟨tg,iter,ifs,0⟩] scope pos) G) (tAsg ge (Q7 i)))/\SpE X.K ge (dCompT own.length capt di g tt tk tv):=by
 obtain⟨ge,p,q,sp⟩:=zgf (e:=.DictComp kx vx [⟨tg,iter,ifs,0⟩] scope pos) (a0:=[]) zsQ (fun _ _ _ ho ⟨ep,h⟩=>⟨[],ep,by rw[h];exact JH,.nil⟩) hc S ⟨zpp,⟨_,rfl⟩,fun _ _ _=>rfl,fun _=>⟨_,rfl⟩,fun _ _=>⟨_,rfl⟩⟩ zrm hi J v L (zsh hu Z he) (fun j hj=>absurd hj (by simp)) hs;exact⟨ge,p,q,fun C ρ σ H n Q R St hd I=>sp C ρ σ H n Q _ St hd fun acc n' H' D r e h hD nO ⟨zs,ep,U,rs⟩=>I _ n' _ H' r e h (.dcT U nO (rs.mono (fun _ _ _ z=>.inl z) fun _ _ _ z=>z) rfl)⟩
theorem znx(x:X.A.units+1<cLine)(hc:X.calm=true)(S:JB scope own capt X)(hi:DIL X tg iter di)
  (v:Fam X scope own capt fun Y=>DG Y tg is g) (l:∀i∈is,i<own.length) (G:Fam X scope own capt fun Y=>DTs Y ifs tt) (u:Fam X scope own capt fun Y=>DE Y kx tk) (he:Fam X scope own capt fun Y=>DE Y vx tv)
  (I:Fsi X iter:=by intro _;rfl):DE X (.DictComp kx vx [⟨tg,iter,ifs,0⟩] scope pos) (dCompT own.length capt di g tt tk tv) :=
 let ⟨_,p,_,sp⟩:=znB x hc S hi v l G u he I
 ⟨_,p,sp⟩
end
section
variable{m:Nat}{capt:List Nat}{di:DTA}{tg:DTG}{tt:DTT}{tk tv:DTE}{ρ ρ0:En}{n:Nat}{R:qN}{Rt:KT2->Nat->Prop}
instance zt7 [h:CompN m capt ρ ρ0]:Stp (dCompT m capt di tg tt tk tv ρ n R) (di ρ n fun ts n1=>YM tg tt tk tv ρ0 ts [] n1 fun ks n'=>R (.dict (Jv ks)) n'):=⟨fun k=>by unfold dCompT;rw[h.e];exact k⟩
theorem zjY{α:Type}{cs:List α}{D:α->ab}(F:α->(Int×Int))(G:α->ab)(v:cs.length<16777216)
  (step:∀b∈cs,∀(K:ab->Nat->ab->Nat->Prop) (X:Nat->Prop),K (blkT (F b)) n (G b) n->tg (D b) ρ0 fun o=>tt o n fun c u=>if c=true then tk o u fun y I=>tv o I fun t C=>K y I t C else X u)
  (fin:Rt (cs.foldl (fun acc b=>putT acc (F b) (G b)) []) n):YM tg tt tk tv ρ0 (cs.map D) [] n Rt:=by
 have len:∀(acc:KT2) k t,(putT acc k t).length<=acc.length+1:=fun acc k t=>by unfold putT;split;rw[ao];exact fP _;simp
 have key:∀(xs:List α) (acc:KT2),(∀x∈xs,x∈cs)->acc.length+xs.length<16777216->Rt (xs.foldl (fun acc b=>putT acc (F b) (G b)) acc) n->YM tg tt tk tv ρ0 (xs.map D) acc n Rt:=by
  intro xs;induction xs with
  | nil=>intro acc _ _ h;exact h
  | cons x xs J =>
   intro acc hx v h;have N:acc.length+(xs.length+1)<16777216:=v;exact step x (hx x (.head _)) (fun y _ t C=>lBlk y fun k=>acc.length<16777216/\YM tg tt tk tv ρ0 (xs.map D) (putT acc k t) C Rt) (fun u=>YM tg tt tk tv ρ0 (xs.map D) acc u Rt)
    ⟨F x,rfl,by lia,J _ (fun y L=>hx y (.tail _ L)) (by have:=len acc (F x) (G x);lia) h⟩
 exact key cs [] (fun _ h=>h) (by simpa using v) fin
end
noncomputable def zbm (ps:BL):Nat->Int×Int->Int×Int
 | 0,b=>open Classical in if HasN ps b then(0,1) else(1,0)
 | h+1,b=>open Classical in if HasN ps b then(0,1) else if HasA ps b then(1,0) else
  ((if (zbm ps h (loH b)).2+(zbm ps h (upH b)).2+1<(zbm ps h (loH b)).1+(zbm ps h (upH b)).1 then(zbm ps h (loH b)).2+(zbm ps h (upH b)).2+1 else(zbm ps h (loH b)).1+(zbm ps h (upH b)).1),
   if (zbm ps h (loH b)).1+(zbm ps h (upH b)).1+1<(zbm ps h (loH b)).2+(zbm ps h (upH b)).2 then(zbm ps h (loH b)).1+(zbm ps h (upH b)).1+1 else(zbm ps h (loH b)).2+(zbm ps h (upH b)).2)
structure PrsI(bits:Int)(ps bs:BL)(k:Nat)(qs:PR):Prop where
 keys:qs.map (·.1)=bs.reverse.take k
 pos:∀q∈qs,0<=q.2.1/\0<=q.2.2
 rgt:∀q∈qs,∀no al:Bool,(no=true↔HasN ps q.1)->(al=true↔HasA ps q.1)->bpD no al qs q.1=some q.2
theorem Ql{qs:PR}{k v:Int×Int}(h:valP qs k=some v):(k,v)∈qs:=by unfold valP at h;obtain⟨q,l,o⟩:=fv.mp h;have e:=List.find?_some l;have m:=List.mem_of_find?_eq_some l;have u:q.1=k:=of_decide_eq_true e;rw[<- u,<- o];exact m
theorem zhF{qs:PR}(nd:(qs.map (·.1)).Nodup){q:(Int×Int)×(Int×Int)}(h:q∈qs):valP qs q.1=some q.2:=by
 induction qs with
 | nil=>cases h
 | cons x xs l =>rw[aC,cB]at nd;unfold valP;rw[bU];by_cases e:x.1=q.1;rw[decide_eq_true e];rcases ay.mp h with rfl|h;rfl;exact absurd (f7 (f:=(·.1)) h) (e▸nd.1);rw[decide_eq_false e];rcases ay.mp h with rfl|h;exact absurd rfl e;exact l nd.2 h
theorem zg6{α:Type}{l:List α}(h:l.Nodup):l.reverse.Nodup:=List.pairwise_reverse.mpr (xw (fun h=>gL h) h)
section
variable{bits:Int}{ps bs:BL}{b:Int×Int}{qs:PR}{k:Nat}
theorem zqH{α:Type}{l:List α}{k:Nat}{x:α}(h:l.reverse[k]?=some x):k<l.length/\l[l.length - 1 - k]?=some x:=by
 have o:k<l.length:=by simpa using(ah.mp h).1
 rw[ed o]at h;exact⟨o,h⟩
theorem ziD{α:Type}{l:List α}{i k:Nat}{x:α}(h:l[i]?=some x)(o:l.length - 1 - k<i):x∈l.reverse.take k:=by
 have hi:=(ah.mp h).1;have e:l.reverse[l.length - 1 - i]?=some x:=by rw[ed (by omega)];rw[<- h];congr 1;omega
 refine aM (i:=l.length - 1 - i) ?_;rw[gh (by omega)];exact e
theorem PrsI.start:PrsI bits ps bs 0 []:=⟨rfl,(fun q h=>nomatch h),(fun q h=>nomatch h)⟩
theorem PrsI.step(I:PInv bits ps bs bs.length)(J:PrsI bits ps bs k qs)(hb:bs.reverse[k]?=some b){no al:Bool}(U:no=true↔HasN ps b)(ha:al=true↔HasA ps b):∃v,bpD no al qs b=some v/\b∉qs.map (·.1)/\PrsI bits ps bs (k+1) (qs++[(b,v)]):=by
 obtain⟨hk,S⟩:=zqH hb;have kids:no=false->al=false->loH b∈qs.map (·.1)/\upH b∈qs.map (·.1):=fun u C=>by have pr:Prt ps b:=⟨(fun z=>by rw[U.mpr z]at u;cases u),(fun z=>by rw[ha.mpr z]at C;cases C)⟩;obtain⟨⟨i1,a1,a2⟩,i2,c1,Y⟩:=I.kid _ b (by omega) S pr;rw[J.keys];exact⟨ziD a2 (by omega),ziD Y (by omega)⟩
 obtain⟨v,l⟩:=znC kids;have nd:bs.reverse.Nodup:=zg6 I.nd;have fresh:b∉qs.map (·.1):=by
  rw[J.keys];intro m;obtain⟨i,hi⟩:=lH.mp m;have Z:i<k:=by have:=(ah.mp hi).1;rw[cE]at this;omega
  rw[gh Z]at hi;have:=(i4 (by rw[cX];omega) nd).mp (hi.trans hb.symm);omega
 have pv:0<=v.1/\0<=v.2:=by
  unfold bpD at l;cases no;cases al;simp only[aO,if_false]at l;cases u:valP qs (loH b) with
  | none=>rw[u]at l;cases l
  | some x =>
   cases C:valP qs (upH b) with
   | none=>rw[u,C]at l;cases l
   | some y =>rw[u,C]at l;have px:=J.pos _ (Ql u);have py:=J.pos _ (Ql C);dsimp only at px py;cases l;dsimp only;constructor <;> split <;> omega
  cases l;decide;cases l;decide
 refine⟨v,l,fresh,?_,?_,?_⟩;rw[bJ,J.keys,d0,hb];rfl;intro q o;rcases ai.mp o with o|o;exact J.pos q o;cases ax.mp o;exact pv;intro q o N G L R;rcases ai.mp o with o|o;exact zl1 (J.rgt q o N G L R);cases ax.mp o;have u:N=no:=by rw[cc,L,U]
 have C:G=al:=by rw[cc,R,ha]
 rw[u,C];exact zl1 l
def PrOk(bits:Int)(ps:BL)(qs:PR):Prop:=∃bs:BL,PInv bits ps bs bs.length/\PrsI bits ps bs bs.length qs
theorem PrOk.bk(h:PrOk bits ps qs):∀q∈qs,IsBk bits q.1.1 q.1.2:=fun q l=>by obtain⟨bs,I,J⟩:=h;have:=f7 (f:=(·.1)) l;rw[J.keys]at this;exact I.bk _ (kE.mp (cH this))
theorem PrOk.nd(h:PrOk bits ps qs):(qs.map (·.1)).Nodup:=by obtain⟨bs,I,J⟩:=h;rw[J.keys,<- cX,dr];exact zg6 I.nd
theorem PrOk.root(h:PrOk bits ps qs):∃v,valP qs (0,bits)=some v:=by obtain⟨bs,I,J⟩:=h;refine UU ?_;rw[J.keys,<- cX,dr];exact kE.mpr (aM I.root)
theorem PrOk.pos(h:PrOk bits ps qs):∀q∈qs,0<=q.2.1/\0<=q.2.2:=by obtain⟨bs,I,J⟩:=h;exact J.pos
theorem PrOk.len(h:PrOk bits ps qs)(l:bits<=64)(P:Bks bits ps):1<=qs.length/\qs.length<=1+130*ps.length:=by
 obtain⟨bs,I,J⟩:=h;have e:qs.length=bs.length:=by have:=congrArg bL J.keys;simpa using this
 have:=(ah.mp I.root).1;have:=I.len l P;lia
theorem PrOk.rgt(h:PrOk bits ps qs):∀q∈qs,∀no al:Bool,(no=true↔HasN ps q.1)->(al=true↔HasA ps q.1)->bpD no al qs q.1=some q.2:=by obtain⟨bs,I,J⟩:=h;exact J.rgt
theorem PrOk.val(h:PrOk bits ps qs):∀(n:Nat),∀q∈qs,q.1.2.toNat=n->q.2=zbm ps n q.1:=by
 classical
 intro n;induction n with
 | zero =>
  intro q l e;have:=h.rgt q l (decide (HasN ps q.1)) (decide (HasA ps q.1)) (by rw[decide_eq_true_eq]) (by rw[decide_eq_true_eq]);unfold bpD at this;unfold zbm;by_cases hn:HasN ps q.1;rw[decide_eq_true hn]at this;rw[if_pos hn];exact(aI this).symm;have ha:HasA ps q.1:=by have h0:=(h.bk q l).1;rcases zfZ (ps:=ps) (b:=q.1) (by omega) with z|z;exact absurd z hn;exact z
  rw[decide_eq_false hn,decide_eq_true ha]at this;rw[if_neg hn];exact(aI this).symm
 | succ n u =>
  intro q l e;have:=h.rgt q l (decide (HasN ps q.1)) (decide (HasA ps q.1)) (by rw[decide_eq_true_eq]) (by rw[decide_eq_true_eq]);unfold bpD at this;unfold zbm;by_cases hn:HasN ps q.1;rw[decide_eq_true hn]at this;rw[if_pos hn];exact(aI this).symm;rw[if_neg hn];rw[decide_eq_false hn]at this;by_cases ha:HasA ps q.1;rw[decide_eq_true ha]at this;rw[if_pos ha];exact(aI this).symm;rw[decide_eq_false ha]at this;rw[if_neg ha];simp only[aO,if_false]at this;cases e1:valP qs (loH q.1) with
  | none=>rw[e1]at this;cases this
  | some x =>
   cases e2:valP qs (upH q.1) with
   | none=>rw[e1,e2]at this;cases this
   | some y =>rw[e1,e2]at this;have i1:=u _ (Ql e1) (show(q.1.2 - 1).toNat=n by omega);have v:=u _ (Ql e2) (show(q.1.2 - 1).toNat=n by omega);dsimp only at i1 v;rw[<- i1,<- v];exact(aI this).symm
noncomputable def zjB (bits:Int) (ps:BL):Int:=(zbm ps bits.toNat (0,bits)).1
theorem PrOk.many(h:PrOk bits ps qs){v:Int×Int}(l:valP qs (0,bits)=some v):v.1=zjB bits ps:=by unfold zjB;rw[<- h.val _ _ (Ql l) rfl]
end
instance zva {i:Nat}{ks:KT2}{ρ:En}{n:Nat}{R:qN}[h:GetN ρ i (some (.dtt ks))]:Stp (Z8 i ρ n R) (R (.dict (Jv ks)) n):=⟨fun k=>by unfold Z8;rw[h.e];exact k⟩
def Qm(qs:PR)(acc:KT2):KT2:=qs.foldl (fun a q=>putT a q.1 (twoD q.2)) acc
theorem zif:∀{qs acc:PR},((acc++qs).map (·.1)).Nodup->Qm qs (prK acc)=prK (acc++qs)
 | [],acc,_=>by simp[Qm]
 | q::qs,acc,nd=>by
  have fr:q.1∉acc.map (·.1):=by intro m;rw[bJ,cT]at nd;exact nd.2.2 q.1 m q.1 (by simp) rfl
  have:=zif (qs:=qs) (acc:=acc++[(q.1,q.2)]) (by simpa using nd);unfold Qm at this ⊢;rw[eC,zkz fr,this];simp
theorem VG{acc:KT2}{k:Int×Int}{t:ab}:((putT acc k t).map (·.1)=acc.map (·.1)/\k∈acc.map (·.1))\/((putT acc k t).map (·.1)=acc.map (·.1)++[k]/\k∉acc.map (·.1)):=by unfold putT;by_cases e:(acc.any fun z=>decide (z.1=k))=true;rw[if_pos e];refine .inl ⟨?_,?_⟩;rw[cD];refine cn fun z _=>?_;show(if z.1=k then(z.1,t) else z).1=z.1;split <;> rfl;obtain⟨z,hz,e⟩:=kF.mp e;exact a7.mpr ⟨z,hz,of_decide_eq_true e⟩;rw[if_neg e];refine .inr ⟨by simp,fun m=>?_⟩;obtain⟨z,hz,o⟩:=a7.mp m;exact e (kF.mpr ⟨z,hz,decide_eq_true o⟩)
theorem zgb:∀{qs:PR}{acc:KT2},(acc.map (·.1)).Nodup->(Qm qs acc).length<=acc.length+qs.length/\((Qm qs acc).length=acc.length+qs.length->(acc.map (·.1)++qs.map (·.1)).Nodup)
 | [],acc,nd=>by simp[Qm,nd]
 | q::qs,acc,nd=>by
  rcases VG (acc:=acc) (k:=q.1) (t:=twoD q.2) with⟨e,m⟩|⟨e,m⟩;have x:=congrArg bL e;rw[ao,ao]at x;have v:=zgb (qs:=qs) (acc:=putT acc q.1 (twoD q.2)) (by rw[e];exact nd);have C:Qm (q::qs) acc=Qm qs (putT acc q.1 (twoD q.2)):=rfl;rw[C,aG];exact⟨by have:=v.1;lia,fun z=>by have:=v.1;lia⟩;have x:=congrArg bL e;rw[ao,aH,ao]at x;have x:(putT acc q.1 (twoD q.2)).length=acc.length+1:=x;have G:((putT acc q.1 (twoD q.2)).map (·.1)).Nodup:=by rw[e,cT];exact⟨nd,by simp,fun a ha b hb z=>by subst z;cases ax.mp hb;exact m ha⟩
  have v:=zgb (qs:=qs) (acc:=putT acc q.1 (twoD q.2)) G;have C:Qm (q::qs) acc=Qm qs (putT acc q.1 (twoD q.2)):=rfl;rw[C,aG];refine⟨by have:=v.1;lia,fun z=>?_⟩;have:=v.2 (by lia);rw[e]at this;simpa using this
theorem znm{qs:PR}:(Qm qs []).length=qs.length↔(qs.map (·.1)).Nodup:=by constructor;intro h;have:=(zgb (qs:=qs) (acc:=[]) (by simp)).2 (by simpa using h);simpa using this;intro h;have e:=zif (qs:=qs) (acc:=[]) (by simpa using h);have v:Qm qs []=prK qs:=e;rw[v,prK,ao]
def scr2(ts:qD)(P:List Int->Int->Prop):Prop:=∃ns k,ts=[SCR ns,.int k]/\P ns k
def zoi(g:GD)(ds:DTA):DTE:=fun v n R=>ds v n fun ts u=>scr2 ts fun ns k=>ns.length<=63/\0<=k/\k<=100/\g [HAND] 0 fun t _=>∃b,t=.bool b/\R t u
instance zt6 {g:GD}{ds:DTA}{ρ:En}{n:Nat}{R:qN}:Stp (zoi g ds ρ n R) (ds ρ n fun ts n1=>scr2 ts fun ns k=>ns.length<=63/\0<=k/\k<=100/\g [HAND] 0 fun t _=>∃b,t=.bool b/\R t n1):=⟨fun h=>h⟩
instance zu5 {ns:List Int}{k:Int}{P:List Int->Int->Prop}:Stp (scr2 [SCR ns,.int k] P) (P ns k):=⟨fun h=>⟨ns,k,rfl,h⟩⟩
def ovL(lo hi:Int)(p:Int×Int):Int:=max 0 (min hi (eB p) - max lo p.1)
def ovD(b p:Int×Int):Int:=ovL b.1 (eB b) p
theorem zoZ{lo hi:Int}:∀{ps:BL},0<=(ps.map (ovL lo hi)).sum
 | []=>by simp
 | p::ps=>by have:=zoZ (lo:=lo) (hi:=hi) (ps:=ps);rw[aC,dW];unfold ovL at *;omega
theorem znX:∀{ps:BL}{lo hi:Int},ps.Pairwise (fun a b=>eB a<=b.1)->lo<=hi->(ps.map (ovL lo hi)).sum<=hi - lo/\((ps.map (ovL lo hi)).sum=hi - lo↔∀x,lo<=x->x<hi->mB x ps)
 | [],lo,hi,_,h=>by refine⟨by simp;omega,?_⟩;constructor;intro e x x0 x1;have:(0:Int)=hi - lo:=e;omega;intro z;by_cases q:lo=hi;simp[q];obtain⟨b,hb,_⟩:=z lo (aE _) (by omega);cases hb
 | p::ps,lo,hi,pw,h=>by
  rw[d7]at pw;obtain⟨v,pw⟩:=pw;let mid:=max lo (min hi (eB p));have J:mid=max lo (min hi (eB p)):=rfl;have pp:=JL p;have e:ps.map (ovL lo hi)=ps.map (ovL mid hi):=cn fun q I=>by have:=v q I;unfold ovL;omega
  obtain⟨i1,o⟩:=znX (ps:=ps) (lo:=mid) (hi:=hi) pw (by omega);rw[aC,dW,e];generalize (ps.map (ovL mid hi)).sum=s at i1 o;have L:ovL lo hi p<=mid - lo:=by unfold ovL;omega
  refine⟨by omega,?_⟩;constructor;intro z x x0 x1;have C:ovL lo hi p=mid - lo:=by omega
  have G:s=hi - mid:=by omega
  by_cases q:x<mid;refine⟨p,.head _,?_,by omega⟩;unfold ovL at C;omega;obtain⟨b,hb,hx⟩:=o.mp G x (by omega) x1;exact⟨b,.tail _ hb,hx⟩;intro z;have G:s=hi - mid:=o.mpr fun x x0 x1=>by obtain⟨b,hb,hx⟩:=z x (by omega) x1;rcases ay.mp hb with rfl|hb;omega;exact⟨b,hb,hx⟩
  have C:ovL lo hi p=mid - lo:=by by_cases q:lo<mid;obtain⟨b,hb,hx⟩:=z lo (aE _) (by omega);rcases ay.mp hb with rfl|hb;unfold ovL;omega;have:=v b hb;omega;unfold ovL;omega
  omega
theorem UW{l:BL}{b:Int×Int}:HasN l b↔∀x,b.1<=x->x<eB b->¬mB x l:=by constructor;rintro h x x0 x1 ⟨p,o,hx⟩;rcases h p o with z|z <;> omega;intro h p o;have pp:=JL p;have u:=JL b;refine a8 fun z=>?_;exact h (max b.1 p.1) (by omega) (by omega) ⟨p,o,by omega,by omega⟩
theorem zkM{b:Int×Int}:∀{ps:BL},(ps.map (ovD b)).sum=0↔HasN ps b
 | []=>by simp[HasN]
 | p::ps=>by
  have i:=zkM (b:=b) (ps:=ps);have n:=zoZ (lo:=b.1) (hi:=eB b) (ps:=ps);have pp:=JL p;have l:=JL b;have n:0<=(ps.map (ovD b)).sum:=n;rw[aC,dW];have e:HasN (p::ps) b↔(eB p<=b.1\/eB b<=p.1)/\HasN ps b:=by unfold HasN;simp
  rw[e,<- i];generalize (ps.map (ovD b)).sum=s at n;unfold ovD ovL;omega
section
variable{bits:Int}{bs ps:BL}{b:Int×Int}
theorem zpE(C:CanP (fun x=>mB x bs) ps):(bs.map (ovD b)).sum=0↔HasN ps b:=by rw[zkM,UW,UW];exact⟨fun h x a c z=>h x a c ((C.mem x).mp z),fun h x a c z=>h x a c ((C.mem x).mpr z)⟩
theorem znl(o:0<=bits)(P:Ptc bits bs)(C:CanP (fun x=>mB x bs) ps)(B:IsBk bits b.1 b.2):(bs.map (ovD b)).sum<=eB b - b.1/\((bs.map (ovD b)).sum=eB b - b.1↔HasA ps b):=by have I:=JL b;obtain⟨G,v⟩:=znX (ps:=bs) (lo:=b.1) (hi:=eB b) P.2 (by omega);refine⟨G,v.trans ?_⟩;constructor;intro z;obtain⟨p,l,a,c⟩:=C.hold o (fun x hx=>UP o P.1 hx) B z;exact⟨p,l,a,c⟩;rintro⟨p,l,a,c⟩ x x0 x1;exact(C.mem x).mp ⟨p,l,by omega,by omega⟩
end
abbrev NP:=(Int×Int)×Str
theorem ziw{ks:KT2}{k:Int×Int}:(valT ks k).isSome=true↔k∈ks.map (·.1):=by unfold valT;rw[nM,List.find?_isSome];constructor;rintro⟨z,hz,e⟩;exact a7.mpr ⟨z,hz,of_decide_eq_true e⟩;intro h;obtain⟨z,hz,e⟩:=a7.mp h;exact⟨z,hz,decide_eq_true e⟩
theorem zhq{α:Type}{F:α->Int×Int}{G:α->ab}{k:Int×Int}:∀{cs:List α}{acc:KT2},k∈(cs.foldl (fun acc b=>putT acc (F b) (G b)) acc).map (·.1)↔k∈acc.map (·.1)\/k∈cs.map F
 | [],acc=>by simp
 | c::cs,acc=>by rw[eC,zhq (cs:=cs),aC,ay];rcases VG (acc:=acc) (k:=F c) (t:=G c) with⟨e,h⟩|⟨e,h⟩;rw[e];constructor;rintro(z|z);exact .inl z;exact .inr (.inr z);rintro(z|rfl|z);exact .inl z;exact .inl h;exact .inr z;rw[e,ai,ax,or_assoc]
end L2
namespace L2
open PySem PySem.Spec PyProof.Rows
def ndup:List Str->Bool
 | []=>true
 | x::l=>!l.any (fun y=>decide (x=y))&&ndup l
theorem ndB{l:List Str}(h:ndup l=true):l.Nodup:=by
 induction l with
 | nil=>exact .nil
 | cons x l o =>simp only[ndup,aW,gR,gN,decide_eq_true_eq]at h;exact cB.mpr ⟨fun m=>h.1 x m rfl,o h.2⟩
def fnB(N P:List Str)(sc:dF):Bool:=(match sc.kind with|.function=>true|_=>false)&&!sc.isCoroutine&&!sc.isGenerator&&ndup N&&decide (N.take P.length=P)&&P.all (fun x=>decide (sc.names.lookup x=some .local\/sc.names.lookup x=some .cell))&&sc.names.all fun y=>decide (y.2≠.free)
theorem fnS{N P:List Str}{sc:dF}(h:fnB N P sc=true):Qp N P sc:=by simp only[fnB,aW,gR,decide_eq_true_eq,df]at h;obtain⟨⟨⟨⟨⟨⟨a,b⟩,c⟩,d⟩,e⟩,f⟩,g⟩:=h;exact⟨(by cases q:sc.kind <;> rw[q]at a <;> first|rfl|(exact nomatch a)),b,c,ndB d,e,f,g⟩
section
variable{X:Cx}{x:Str}{e:aT}{es:List aT}{d:DTE}{ds:DTA}{pos pos':Pos}
theorem dlv(i:Nat)(o:X.N[i]?=some x:=by rfl)(u:Vis X.env.scope x:=by walk_at "V")(hd:Ndb x:=by rfl)
  (l:Ncd x:=by rfl):DL X (.Name x pos) (dVar i):=dl (Jo i o u hd l)
theorem dli{i j}:DL X (.Constant (.int i) j pos) (dC (.int i)):=dl Ji
theorem dbc(h:DE X e d)(o:DB X es ds)(l:starEach (e::es) X.env=(false,eval e X.env)::starEach es X.env:=by rfl):DB X (e::es) (J6 d ds):=zlL h o l
theorem dbv(i:Nat)(u:DB X es ds)(o:X.N[i]?=some x:=by rfl)(v:Vis X.env.scope x:=by walk_at "V")(hd:Ndb x:=by rfl)
  (l:Ncd x:=by rfl):DB X (.Name x pos::es) (J6 (dVar i) ds):=zlL (Jo i o v hd l) u rfl
theorem dsv(i:Nat)(o:X.N.Nodup)(h:DE X e d)(hi:X.N[i]?=some x:=by rfl)(hx:Loc X.env.scope x:=by first|exact fw rfl|exact wD rfl)(l:swapsWith e (some (.Name x pos')) pos.line X.env=pure false:=by rfl)
  (hf:Fnl X x:=by walk_at "F"):DS X (.Assign [.Name x pos'] e pos) (sSet i d):=zsz o hi hx h l hf
theorem dgv(i:Nat)(l:X.N.Nodup)(hi:X.N[i]?=some x:=by rfl)(hx:Loc X.env.scope x:=by first|exact fw rfl|exact wD rfl)(hf:Fnl X x:=by walk_at "F"):DG X (.Name x pos) [i] (JX i):=zpV l hi hx hf
end
section
variable{X:Cx}{scope:dF}{iter elt:aT}{ifs:List aT}{tg:aT}{pos:Pos}{is:List Nat}{di:DTA}{g:DTG}{tt:DTT}{te:DTE}
theorem dnc(own:List Str)(capt:List Nat)(hi:DIL X tg iter di)(u:Fam X scope own capt fun Y=>DG Y tg is g)(he:Fam X scope own capt fun Y=>DE Y elt te)
  (hc:X.calm=true:=by rfl) (h:zeE scope X.env.scope X.N capt=true:=by rfl) (l:∀i∈is,i<own.length:=by decide) (v:Fsi X iter:=by intro _;rfl):DN X (.ListComp elt [⟨tg,iter,[],0⟩] scope pos) (dComp own.length capt di g dYes te) :=
 zpT hc (JB.of h) hi u l (fun _ _ _ _=>ZD) he v
end
end L2
namespace Bd
open PySem PySem.W PySem.Calls L2 PyProof.Rows
theorem okN{Z:ZZ}{x:Str}{st:dA}{ps:List Str}{k m:Nat}{g:GD}(N:List Str)(D:Dq Z.K Z.mg x st ps)
  (hb:∀{f:af} {l:ae} {A:aX} {outer:List Env} {s:aj} {H:Hp} {E:XK},Room k (A.deeper (envOfC x (Jt st) s.heap.objs.size f l))->∃d,DSs (cxOf CX0 Z.P Z.w Z.K Z.mg Z.base N x (Jt st) f l A outer s H E).nox (JU st) d /\
   ∀ts n R,ts.length=m->g ts n R->d { nx:=fun _ C=>R .none C,rt:=R } (JQ N ts) n) (S:fnB N ps (Jt st)=true:=by decide +kernel) (v:m=ps.length:=by rfl):FQ Z x st ps (k+1) (spD Z.K m g):=okQ D (fnS S) v fun _ _ _ _ _ _ _ u=>hb u
end Bd
namespace Bd
open PySem PySem.W PySem.Calls L2 PyProof.Rows
abbrev PLs:=List (Str×List (Str×List Str))
abbrev FLs:=List (Str×List Str)
end Bd
namespace Bd
open PySem PySem.W PySem.Calls L2 PyProof.Rows
def Uo(o:String->Option dG)(p:aK)(w:ba)(l:Nat)(ann:Option ae):Nat->tZ->Thread->Option tZ
 | 0,_,_=>none
 | n+1,s,t=>match through t with
  | true=>some s
  | false=>match stepOk l ann t with
   | false=>none
   | true=>match stepT (denote o) p w s t with
    | some (s',t')=>Uo o p w l ann n s' t'
    | none=>none
theorem ze5{o:String->Option dG}{p:aK}{w:ba}{l:Nat}{ann:Option ae}:∀{n:Nat}{s s':tZ}{t:Thread},Uo o p w l ann n s t=some s'->topRun o p w l ann n s.abs t=some s'.abs
 | 0,_,_,_,h=>by cases h
 | n+1,s,s',t,h=>by
  unfold Uo at h;unfold topRun;cases he:through t with
  | true=>rw[he]at h;cases h;rfl
  | false =>
   rw[he]at h;cases hk:stepOk l ann t with
   | false=>rw[hk]at h;cases h
   | true =>
    rw[hk]at h;cases hs:stepT (denote o) p w s t with
    | none=>rw[hs]at h;cases h
    | some r=>obtain⟨v,u⟩:=r;rw[hs]at h;dsimp only at h ⊢;rw[stepT_spec hs];exact ze5 h
def zn5:List Obj->Nat->BT->BT
 | [],_,t=>t
 | o::r,i,t=>zn5 r (i+1) (t.ins i o)
noncomputable def zp2 (P:pd):BT:=zn5 (cy P).objs.toList 0 .nil
noncomputable def zj1 (w:ba) (os:nR):tZ:=⟨zp2 w.params,11,(cy w.params).life,#[],kX,mw,os⟩
theorem boot_abs(P:pd):absHeap (zp2 P) 11 (cy P).life=cy P:=by kernel_rfl
theorem zl3(P:pd):(cy P).objs.size=11:=by kernel_rfl
theorem zp1(P:pd):(cy P).isNs mainGlobals=true:=by kernel_rfl
def Z9(p:aK)(h₀:bB)(l:aj):Bool:=staticsOk (importedModules p.main.body) h₀ l.heap&&namesBound p l.heap&&gensDone l&&laidKept h₀ l.heap
theorem zk9{p q:aK}{loose:List Str}{v:aj->Bool}{α:Type}{u:aj->α}{C:ba->α}{N:Nat}(e:opening p=plainProg p.main.scope.names)(Y:Nat.ble 600 N=true)(J:∀s,fenceModules? p s=some s)
  (run:∀(w:ba) (os:nR),(Uo treeTable p w 11 ((cy w.params).nsMap mainGlobals "__annotations__") N (zj1 w os) (topStub p)).map (fun s=>(Z9 p (cy w.params) s.abs,openSeen q loose (importedModules p.main.body) v true s.abs,u s.abs))=some (true,openGood q loose,C w)) :
  LeftO p q loose v u C N true:=fun w=>by
 obtain⟨⟨h,S,d,k,os⟩,G,R⟩:=fv.mp (boot_open e Y J w);obtain⟨rfl,rfl,rfl,rfl⟩:h=cy w.params/\S=#[]/\d=kX/\k=mw:=by simpa using R
 obtain⟨x,r,l⟩:=fv.mp (run w os);have I:(zj1 w os).abs=⟨cy w.params,#[],kX,mw,os⟩:=by show(⟨absHeap (zp2 w.params) 11 (cy w.params).life,#[],kX,mw,os⟩:aj)=_;rw[boot_abs]
 have r:=ze5 r;rw[I]at r;obtain⟨L,o⟩:=mh l;obtain⟨o,U⟩:=mh o;have t:topFrom treeTable p w N ⟨cy w.params,#[],kX,mw,os⟩=some x.abs:=by unfold topFrom;dsimp only;rw[zp1,zl3,r];show(match Z9 p (cy w.params) x.abs with|true=>_|false=>_)=_;rw[L]
 unfold openEnds;rw[G];show(topFrom treeTable p w N _).map _=_;rw[t];exact congrArg some (fA o U)
theorem map3{α v C u l:Type}{o:Option α}{f:α->v×C}{g:α->u×l}{a:v}{y:C}{b:u×l}(h:o.map f=some (a,y))(L:o.map (fun s=>(g s).1)=some b.1)(I:o.map (fun s=>(g s).2)=some b.2):o.map (fun s=>((f s).1,g s,(f s).2))=some (a,b,y):=by
 cases o with
 | none=>cases h
 | some x =>have e:=aI h;have G:(g x).1=b.1:=aI L;have J:(g x).2=b.2:=aI I;show some ((f x).1,g x,(f x).2)=_;rw[e,show g x=b from fA G J]
end Bd
namespace L2
open PySem PySem.Spec PyProof.Rows
abbrev GX:=List ab->Nat->(ab->Nat->Prop)->(Str->Nat->Prop)->Prop
theorem isiF{f:ab->Bool}{b:Bool}{t:ab}{R:ab->Prop}(p:Pln t)(e:f t=b)(h:R (.bool b)):lIsi f t R:=⟨p,e▸h⟩
theorem zne{d:ab}(h:isTup d=true):∃ts,d=.tuple ts:=by
 cases d with
 | tuple ts=>exact⟨ts,rfl⟩
 | _=>cases h
theorem zum{us:qD}(h:us.length=2):∃a b,us=[a,b]:=by
 cases us with
 | nil=>cases h
 | cons a t =>obtain⟨b,e⟩:=List.length_eq_one_iff.mp (tU h);exact⟨a,b,e▸rfl⟩
end L2
namespace L2
open PySem PySem.Spec PySem.W PyProof.Rows
theorem zj2{pos o:Pos}{c v:ae}(l:List ae)(h:sL l)(e:codeAmong o (l++[rawInt pos.line,rawInt pos.col,c])=some v):codeAmong o l=some v\/v=c:=by
 fun_induction sL l with
 | case1 =>simp only[cZ,codeAmong,rawInt]at e;split at e;exact .inr (aI e).symm;cases e
 | case2 a t b u x rest C =>simp only[cj,codeAmong]at e ⊢;split at e;rename_i hc;rw[if_pos hc];exact .inl e;rename_i hc;rw[if_neg hc];exact C h e
 | case3 l I G=>exact h.elim
structure zp8(mg:qM)(base:bB)(c P:af):Prop where
 code:CodeHd base c P
 bm:∃bm ob,mg "__builtins__" = some (.ref bm)/\bm≠builtinsNs/\base.get? bm=some ob/\ob.cls=.type "module" /\ ob.dict=some builtinsNs/\ob.data=.plain
def Va(H:Hp)(v:ae)(q:Str):Prop:=∃(c:af) (o:Obj) (u:HO) (vs:Array ae) (t:Tok),v=.ref c/\H c=some (.frz o u)/\o.data=.fields vs/\vs[1]?=some (.str q t)
theorem Va.rec{P:aK}{w:ba}{H:Hp}{h:bB}{l:ae}{q:Str}(x:Va H l q)(ok:HOk P w H h):h.CodeRec l q:=by obtain⟨c,o,u,vs,t,e,hc,hd,v⟩:=x;exact⟨c,o,vs,t,e,(ok c _ hc).1,hd,v⟩
abbrev lamO(q:Str)(params:ka)(body:aT)(scope:dF)(pm cv ctv:ae):Obj:={ cls:=.type "function",data:=.func (kla_fn "<lambda>" q params body scope [] pm cv ctv) }
theorem zsx{X:Cx}{pins:qO}{σ:St}{H:Hp}{s:aj}{M:oV}{A:aX}{E:qV}{c P:af}{q:Str}{params:ka}{body:aT}{scope:dF}{pos:Pos}{Q:qV}(I:Inv X pins σ H s)
  (L:zp8 X.mg X.base c P) (hP:X.H₀ P=some (.tbl q)) (Ir:X.env.code=.ref c) (hcl:closureFor scope X.env=pure []) (IE:defaultsOf params X.env=([],[])) (hq:X.env.qual ++ "<lambda>" = q)
  (h:∀f cv C pm H' s',Inv X pins σ H' s'->(∀b o,H b=some o->H' b=some o)->s.heap.objs.size<=f->s'.heap.get? f=some (lamO q params body scope pm cv C)->H' f=none->Va H' cv q->Q (.ref f) s') :
  wpAny M A (eval (.Lambda params body scope pos) X.env) Q E s:=by
 have hH:H P=some (.tbl q):=I.base.tbls P q hP;obtain⟨ps,hps,ht,R⟩:=I.hok P _ hH;have U:=I.bk;have hgs:s.heap.Ns mainGlobals X.mg:=I.ok.mod.glob.keeps U;obtain⟨bm,ob,b1,b2,b3,b4,b5,b6⟩:=L.bm;have nP:∀b o,X.base.get? b=some o->b≠P:=fun b o e z=>by have:=(I.bs b o e).2;rw[z,hH]at this;cases this
 have hgP:mainGlobals≠P:=by obtain⟨o,es,ep,e,_⟩:=I.ok.mod.glob;exact nP _ _ e
 have hbG:bm≠mainGlobals:=fun z=>by obtain⟨o,es,ep,e,hd,_⟩:=I.ok.mod.glob;rw[z,e]at b3;cases b3;rw[hd]at b6;cases b6
 have hb:s.heap.BuiltinsAt X.mg P:=⟨bm,ob,b1,b2,hbG,nP _ _ b3,U _ _ b3,b4,b5,b6⟩;refine kla_eval IE ?_;rw[hq];cases hf:codeAmong pos ps.toList with
 | some cv =>obtain⟨c',o,u,vs,t,rfl,hc',N,hv'⟩:=R pos cv hf;refine kla_makeFunctionHit hcl I.ok.glob hgs Ir (L.code.keeps U) hps ht hf hb fun C h' tk hk hsz=>?_;have G:∀b o,s.heap.get? b=some o->(h'.push (lamO q params body scope ((X.mg "__name__").getD .none) (.ref c') C)).get? b=some o:=fun b o e=>aq _ (hk b o e);have J:=I.un (h':=h'.push (lamO q params body scope ((X.mg "__name__").getD .none) (.ref c') C)) (t':=tk) (Un.kept G) (I.hok.kept G);refine h h'.objs.size (.ref c') C _ H _ J (fun _ _ e=>e) hsz (aB _ rfl) (I.hok.fresh hsz) ?_;exact⟨c',o,u,vs,t,rfl,hc',N,hv'⟩
 | none =>
  refine kla_makeFunction hcl I.ok.glob hgs Ir (L.code.keeps U) hps ht hf hgP hb fun c' C h' tk hx S Y hrec htb=>?_;obtain⟨c2,oc,vs,t,e2,hoc,hd,hv⟩:=hrec;cases e2;have hcn:H c'=none:=I.hok.fresh S;have G:∀b o,b≠P->s.heap.get? b=some o->(h'.push (kla_obj "<lambda>" q params body scope [] ((X.mg "__name__").getD .none) c' C)).get? b=some o:=fun b o n e=>aq _ (hx b o n e);have hne:∀b,H b=none->b≠P:=fun b n z=>by rw[z,hH]at n;cases n
  have up:∀b o,H b=some o->upd H c' (.frz oc (.own c')) b=some o:=fun b o e=>by rw[Jj (Qf e hcn)];exact e
  have J:Inv X pins σ (upd H c' (.frz oc (.own c'))) { s with heap:=h'.push (kla_obj "<lambda>" q params body scope [] ((X.mg "__name__").getD .none) c' C),toks:=tk }:=by refine I.un ⟨fun b o e n _ _=>G b o (hne b n) e,fun b o e n _ _=>⟨o.slots,G b o (hne b n) e⟩,fun b o e n _=>?_,fun b o e _=>?_,fun b xs e=>up b _ e,fun b o xs e=>up b _ e,fun b x e=>up b _ e⟩ ?_;rw[Jj (aJ (au (aD e) S))];exact n;by_cases hb:b=P;subst hb;exact⟨_,aq _ htb⟩;exact⟨o,G b o hb e⟩;intro b o e;by_cases hbc:b=c';subst hbc;rw[JH]at e;cases e;exact⟨aq _ hoc,_,aq _ hoc⟩;rw[Jj hbc]at e;by_cases hbP:b=P;subst hbP;rw[hH]at e;cases e;refine⟨_,aq _ htb,?_,fun pos' cv ec=>?_⟩;rw[bG];exact TriplesOk_snoc _ _ _ _ ht;rw[bG]at ec;rcases zj2 _ ht ec with z|rfl;obtain⟨c3,o3,u3,vs3,t3,z1,z2,z3⟩:=R pos' cv z;exact⟨c3,o3,u3,vs3,t3,z1,up _ _ z2,z3⟩;exact⟨c',oc,.own c',vs,t,rfl,JH,hd,hv⟩;refine(I.hok b o e).stay (fun d v N Z=>G d v ?_ Z) (fun d Z=>up d _ Z) (fun d xs Z=>up d _ Z) fun d ob xs Z=>up d _ Z;rcases N with rfl|N;exact hbP;rintro rfl;rw[hH]at N;cases N
  refine h h'.objs.size (.ref c') C _ _ _ J up (aP S (bY Y)) (aB _ rfl) ?_ ⟨c',oc,.own c',vs,t,rfl,JH,hd,hv⟩;rw[Jj (gM Y)];exact I.hok.fresh (aP S (bY Y))
end L2
namespace L2
open PySem PySem.Spec PySem.W PySem.Calls PyProof.Rows
theorem zm7{P:aK}{w:ba}{K:qF}{mg:qM}{base:bB}{A:aX}{outer:List Env}{s:aj}{H:Hp}{f:af}{q x:Str}{params:ka}{body:aT}{scope:dF}{pm G C u:ae}{v:V}{k:Nat}{Y:TE}{Q:VK}
  (S:Qp [x] [x] scope) (U:Room (k+1) A) (L:Env0 P w K mg base A outer s H) (ho:s.heap.get? f=some (lamO q params body scope pm G C)) (R:s.heap.CodeRec G q)
  (hb:bindArgs (kla_fn "<lambda>" q params body scope [] pm G C) ⟨[u],[]⟩=pure [(x,u)]) (r:RelV v u)
  (Ik:PE (cxOf CX0 P w K mg base [x] q scope f G A outer s H E0).nox body Y) (ht:Y (start [x] [v]) H Q) :
  codeAny (model P w) A (.call (.ref f) ⟨[u],[]⟩) (CR CX0 outer P w H s Q E0) s:=by
 have lim:s.heap.NoLimit:=L.mod.nolimit.keeps fun b o e=>(L.bs b o e).1;have Ih:∀y∈[x].zip [u],scope.names.lookup y.1=some .local\/(scope.names.lookup y.1=some .cell/\((cellsFrom (s.heap.objs.size+1) scope.names []).lookup y.1).isSome=true):=fun⟨n,v⟩ hy=>by rcases S.par n (fz hy).1 with q|q;exact .inl q;exact .inr ⟨q,dP _ _ _ (.inl q)⟩
 refine kla_callFunE U.depth ho rfl S.co S.gen rfl R ?_;rw[hb];refine ag (iL (binds:=[x].zip [u]) S.kind Ih fun env he s1 y=>?_);subst he;refine⟨lim.keeps y.toInCall.keep,kla_codeExpr ?_⟩;have I:Inv (cxOf CX0 P w K mg base [x] q scope f G A outer s H E0) [] (start [x] [v]) H s1:=zhm S U.hd L rfl (.cons r .nil) y;refine bN (Ik [] s1 (start [x] [v]) H Q (I.wish _) ht) (fun u' s' N=>?_) fun e s' N=>N.elim;obtain⟨v',H',J,rv,Z⟩:=N;have J:=J.unwish;exact⟨v',H',J.os,J.bare,J.base,J.hok,rv,Z⟩
end L2
namespace L2
open PySem PySem.Spec PySem.W PySem.Calls PyProof.Rows Att
section
variable{X:Cx}{pins:qO}{σ:St}{H:Hp}{s:aj}{A:aX}{E:qV}{f a kS:af}{fo:Obj}{e1:Nat}{vs:List ae}{kz:List Int}{G:Hp->Prop}
theorem zin{u:Array ae}{e:Nat}(I:Inv X pins σ H s)(h:s.heap.get? kS=some (seqObj "list" u e)):∀x c,X.env.cells.lookup x=some c->c≠kS:=fun x c hc z=>by obtain⟨v,o,l,hd⟩:=I.cell x c hc;rw[z,h]at l;cases l;cases hd
def preH(h:bB)(vs:List ae):bB:=((h.push (seqObj "list" #[] 0)).update h.objs.size (bw (·++vs.toArray))).push (seqObj "list" vs.toArray 0)
end
end L2
namespace L2
open PySem PySem.Spec PySem.W PySem.Calls PyProof.Rows
theorem zlf{xs:List V}{ts:qD}{vs out:List ae}{key:ab->Int}(r:Vals xs vs)(ln:xs.length=ts.length)(S:t5 false (ts.map key) vs out) :
  ∃zs:List (V×ab),zs.Perm (xs.zip ts)/\Vals (zs.map (·.1)) out/\zs.Pairwise (fun a b=>key a.2<=key b.2):=by
 obtain⟨ps,pm,rfl,pw⟩:=S;have lv:=r.length;have v:ps.Perm (((xs.zip ts).zip ((ts.map key).zip vs)).map (·.2)):=by rw[fU (by simp;lia)];exact pm
 obtain⟨ws,G,I⟩:=VJ v;have each:∀w∈(xs.zip ts).zip ((ts.map key).zip vs),RelV w.1.1 w.2.2/\w.2.1=key w.1.2:=fun w hw=>by
  obtain⟨i,hi,rfl⟩:=aY hw;have hx:i<xs.length:=by simp at hi;lia
  obtain⟨u,J,L⟩:=r.get (ak hx);have R:i<vs.length:=by lia
  rw[ak R]at J;cases J;simpa using L
 have C:=fun w hw=>each w (G.mem_iff.mp hw);refine⟨ws.map (·.1),?_,?_,?_⟩;have:=G.map (·.1);rwa [oh (by simp;lia)]at this;rw[<- I];have:∀ws:List ((V×ab)×(Int×ae)),(∀x∈ws,RelV x.1.1 x.2.2)->Vals ((ws.map (·.1)).map (·.1)) ((ws.map (·.2)).map Prod.snd):=by
  intro ws;induction ws with
  | nil=>intro _;exact .nil
  | cons a l N=>intro h;exact .cons (h a (.head _)) (N fun x hx=>h x (.tail _ hx))
 exact this ws fun x hx=>(C x hx).1;rw[<- I,cx]at pw;rw[cx];refine pw.imp_of_mem fun {a b} ha hb h=>?_;rw[<- (C a ha).2,<- (C b hb).2];exact h
end L2
namespace L2
open PySem PySem.Spec PySem.W PySem.Calls PyProof.Rows Att
def spT(P:af)(q:Str)(o:Sp):Sp:=fun vs H Q E=>H P=some (.tbl q)/\o vs H Q E
section
variable{X:Cx}{CX:CXT}{k:Nat}{f P:af}{fd:cA}{ps:List Str}{sp:Sp}{dvs:List V}{ds:List ae}{E:XK}{x q:Str}{p pos:Pos}{e:aT}{es:List aT}{t:TA}
theorem ziK(F:FnOk X.prog X.w X.K X.mg X.base CX k f fd ps (spT P q sp))(J:X.H₀ P=some (.tbl q))(R:Room k X.A)(G:Gl X x)(U:X.mg x=some (.ref f))(L:fM X.K (.ref f)=true)(hb:Binds X.K fd ps ds)(hd:Vals dvs ds)(hx:Vl CX X E)
  (ha:PA X (e::es) t) (u:Ndb x:=by decide) (he:starEach (e::es) X.env=(false,eval e X.env)::starEach es X.env:=by rfl) (v:(backTo pos (starEach es X.env)).any (·.1)=false:=by rfl) :
  PE X (.Call (.Name x p) (e::es) [] pos) (zon sp dvs E t):=by
 intro pins s σ H Q I h;refine e9 (zk_ I G U ?_ u);refine mQ (h₀:=X.base) I.ok.mod.kin L (thn (ha pos pins s σ H _ I h) fun us s1 S=>?_) he v;obtain⟨vs,Y,o,r,z⟩:=S;exact⟨o.kIn,znQ F R hb hd hx o r ⟨o.base.tbls P q J,z⟩⟩
end
end L2
namespace Bd
open PySem PySem.Spec PySem.W PySem.Calls PyProof.Rows L2
def FQT(Z:ZZ)(P:af)(q x:Str)(st:dA)(ps:List Str)(k m:Nat)(g:GD):Prop:=∃f fd,Def Z.K Z.mg x st ps f fd/\FnOk Z.P Z.w Z.K Z.mg Z.base CX0 k f fd ps (spT P q (spD Z.K m g))
def LamZ(Z:ZZ)(x:Str)(c P:af):Prop:=(∀st ps f fd,Def Z.K Z.mg x st ps f fd->fd.code=.ref c)/\zp8 Z.mg Z.base c P
theorem Def.okT{P:aK}{w:ba}{K:qF}{mg:qM}{base:bB}{x q:Str}{st:dA}{ps N:List Str}{f Pt:af}{fd:cA}{k m:Nat}{g:GD}(D:Def K mg x st ps f fd)(S:Qp N ps (Jt st))(hm:m=ps.length)
  (hb:∀(u:ae) (A:aX) (outer:List Env) (s:aj) (H:Hp) (E:XK),fd.code=u->Room k (A.deeper (envOfC x (Jt st) s.heap.objs.size f u))->H Pt=some (.tbl q)->∃d,DSs (cxOf CX0 P w K mg base N x (Jt st) f u A outer s H E).nox (JU st) d /\
   ∀ts n R,ts.length=m->g ts n R->d { nx:=fun _ C=>R .none C,rt:=R } (JQ N ts) n):FnOk P w K mg base CX0 (k+1) f fd ps (spT Pt q (spD K m g)):=by
 obtain⟨oc,od,kV,doc,pm,an,u,ct,osl,rfl,lk,L⟩:=D.F.ex;refine zsv lk L S (fun vs H Q E h=>?_) fun A outer s H vs Q E hr h=>?_;obtain⟨_,hd,O,ts,n,R,r,_,_,_,U,_⟩:=h;rw[r.length,U,hm];obtain⟨hP,hd,O,ts,n,R,r,hn,dom,hx,U,hg,Z⟩:=h;obtain⟨d,⟨t,pt,ht⟩,I⟩:=hb u A outer s H E rfl hr hP;obtain⟨S0,no⟩:=zd7 (N:=N) r hn dom hx;refine⟨t,pt.nox,ht ⟨hd,O⟩ _ _ H n _ _ S0 (I ts n R U hg) ⟨fun ρ' σ' H' C h S' Y=>?_,fun t C v H' h J Y rp=>?_,fun _ _ _ _ h=>h.elim,fun _ _ _ _ h=>h.elim,fun _ _ _ h=>h.elim⟩⟩;exact Z .none C .non H' h (fun a o ha G=>(Y a o ha G (no a)).1) S'.hnd .non;exact Z t C v H' h (fun a o ha G=>Y a o ha G (no a)) J rp
theorem okQT{Z:ZZ}{c P:af}{x q:Str}{st:dA}{ps N:List Str}{k m:Nat}{g:GD}(v:LamZ Z x c P)(D:Dq Z.K Z.mg x st ps)(S:Qp N ps (Jt st))(I:m=ps.length)
  (hb:∀(f:af) (A:aX) (outer:List Env) (s:aj) (H:Hp) (E:XK),Room k (A.deeper (envOfC x (Jt st) s.heap.objs.size f (.ref c)))->H P=some (.tbl q)->∃d,DSs (cxOf CX0 Z.P Z.w Z.K Z.mg Z.base N x (Jt st) f (.ref c) A outer s H E).nox (JU st) d /\
   ∀ts n R,ts.length=m->g ts n R->d { nx:=fun _ J=>R .none J,rt:=R } (JQ N ts) n):FQT Z P q x st ps (k+1) m g:=by
 obtain⟨f,fd,D⟩:=D;refine⟨f,fd,D,D.okT S I fun u A outer s H E hc G C=>?_⟩;obtain rfl:u=.ref c:=hc.symm.trans (v.1 _ _ _ _ D);exact hb f A outer s H E G C
section
variable{X:Cx}{x q:Str}{st:dA}{ps:List Str}{k n m:Nat}{g:GD}{p pos:Pos}{e:aT}{es:List aT}{ds:DTA}{P:af}
theorem zog(F:FQT ⟨X.prog,X.w,X.K,X.mg,X.base⟩ P q x st ps k m g)(hP:X.H₀ P=some (.tbl q))(hr:Room n X.A)(h:DB X (e::es) ds)(hk:k<=n:=by decide)(hm:(e::es).length=m:=by rfl)(Z:Gl X x:=by rfl)
  (o:Ndb x:=by rfl):DE X (.Call (.Name x p) (e::es) [] pos) (dFn g ds):=by
 obtain⟨f,fd,D,G⟩:=F;obtain⟨ta,pa,h⟩:=h;refine⟨_,ziK G hP (hr.mono hk) Z D.m D.F.kp D.b .nil zoW pa.pa o pa.hd.1 (pa.hd.2 pos),fun C I σ H n Q R S hd L=>?_⟩;refine h C I σ H n _ _ S hd fun ts n1 vs H1 r1 u J Y l1=>?_;have S1:=S.on u J;rw[bE];exact⟨C.hd,Own C I σ,ts,n1,R,Y,J,fun a=>S1.lst,fun a z=>.inl (S.hx a z),l1.trans hm,r1,fun t n' v H' rt e2 U q2=>L t n' v H' rt (u.trans e2) U q2⟩
end
end Bd
namespace L2
open PySem PySem.Spec PySem.W PySem.Calls PyProof.Rows Att
theorem zla{P:aK}{w:ba}{K:qF}{mg mb:qM}{CX:CXT}{k:Nat}{fa a G:af}{fd:cA}{x q:Str}{sp:Sp}{C:aj}{vs:List ae}{ns:List Int}
  (KX:K.In C.heap) (hT:C.heap.get? G=some (tabObj #[])) (hct:isCodeTable C.heap G) (hKP:K.lookup G=none) (U:C.heap.Ns mainGlobals mg) (hb:C.heap.Ns builtinsNs mb) (hbb:∀x:Str,x ≠ "__name__" -> mb x=bootBuiltins x) (R:C.heap.NoLimit) (hg:C.gens=#[])
  (ha:C.heap.get? a=some { cls:=.type "list",data:=.seq vs.toArray }) (hi:eE vs ns) (hl:ns.length<=sizeLine) (hr:Room k callerA)
  (F:∀base:bB,K.In base->base.Ns mainGlobals mg->FnOk P w K mg base CX k fa fd [x] (spT G q sp)) (IL:∀(s:aj) (u:ae),oR s fd ⟨[u],[]⟩ [(x,u)])
  (hsp:∀H:Hp,SqL K H a (ns.map V.int)->sp [.ref a] H (fun v _=>v=.bl true) fun _ _ _=>False)
  (hCX:∀H e s',CX [] H C (fun _ _ _=>False) e s'->False) :
  codeAny (model P w) callerA (.call (.ref fa) ⟨[.ref a],[]⟩) (fun r s'=>r=.ok (.ret (.bool true))/\OldK C.heap s'.heap/\s'.os=C.os/\iA s'.gens) C:=by
 have rv:=zj9 hi;have lenV:=hi.length;have S:a≠G:=fun z=>by rw[z,hT]at ha;cases ha
 have core:∀H:Hp,H G=some (.tbl q)->(∀b u,H b=some u->b≠G->b=a/\u=.frz { cls:=.type "list",data:=.seq vs.toArray } (.lst (ns.map V.int)))->SqL K H a (ns.map V.int)->(H a≠none->K.lookup a=none) ->
   codeAny (model P w) callerA (.call (.ref fa) ⟨[.ref a],[]⟩) (fun r s'=>r=.ok (.ret (.bool true))/\OldK C.heap s'.heap/\s'.os=C.os/\iA s'.gens) C:=by
  intro H hP hA hS hK;have hok:HOk P w H C.heap:=fun b u e=>by by_cases hb:b=G;subst hb;rw[hP]at e;cases e;exact⟨#[],hT,trivial,fun pos cv z=>by cases z⟩;obtain⟨rfl,rfl⟩:=hA b u e hb;exact⟨ha,by rw[ao];exact hl,vs,_,rv,ha⟩
  have Iu:∀{b:af} {o:Obj},C.heap.get? b=some o->H b=none->(hidT C.heap H).get? b=some o:=fun e n=>znk e n;have noA:∀{b:af} {o:Obj} {es:Array eS} {ep:Nat},C.heap.get? b=some o->o.data=.dict es ep->H b=none:=fun {b o es ep} e d=>by
   cases z:H b with
   | none=>rfl
   | some u =>by_cases hb:b=G;subst hb;rw[hT]at e;cases e;cases d;obtain⟨rfl,_⟩:=hA b u z hb;rw[ha]at e;cases e;cases d
  have I:∀{b:af} {m:qM},C.heap.Ns b m->(hidT C.heap H).Ns b m:=fun {b m} ⟨o,es,ep,e,d,r⟩=>⟨o,es,ep,Iu e (noA e d),d,r⟩;have hKb:K.In (hidT C.heap H):=fun b o e=>Iu (KX b o e) (by
   cases z:H b with
   | none=>rfl
   | some u =>by_cases hb:b=G;subst hb;rw[hKP]at e;cases e;obtain⟨rfl,_⟩:=hA b u z hb;rw[hK (by rw[z];simp)]at e;cases e)
  have hM:Mod K mg (hidT C.heap H):=⟨hKb,I U,⟨mb,I hb,hbb⟩,let ⟨mc,h1,h2⟩:=R;⟨mc,I h1,h2⟩⟩;have e0:Env0 P w K mg (hidT C.heap H) callerA [] C H:=⟨rfl,hM,fun b o e=>zo8 e,kQ (zlr _ _),trivial,fun b hb=>absurd (show b∈([]:List af) from hb) (by simp),hok,.of_eq hg⟩;refine fR ((F _ hKb (I U)).run callerA [] C H ⟨[.ref a],[]⟩ [.ref a] [.ref a] _ _ hr e0 (IL C (.ref a)) (.cons rfl .nil) ⟨hP,hsp H hS⟩) fun r s' h=>?_;cases r with
  | error e=>exact(hCX H e s' h).elim
  | ok fl =>
   cases fl with
   | next=>exact cm h
   | brk=>exact cm h
   | cont=>exact cm h
   | ret u =>
    obtain⟨v,H',os,bare,un,J,r',z⟩:=h;have L:v=.bl true:=z;subst L;obtain rfl:u=kH true:=r';have kp:∀b o,b≠G->C.heap.get? b=some o->s'.heap.get? b=some o:=fun b o hb e=>by
     cases z:H b with
     | none=>exact un.keep b o e z (by intro z;exact absurd (show b∈([]:List af) from z) (by simp)) (by simp)
     | some u =>obtain⟨rfl,rfl⟩:=hA b u z hb;have Y:=un.frzs _ _ _ z;obtain⟨e1,_⟩:=hok _ _ z;obtain⟨e2,_⟩:=J _ _ Y;rw[e]at e1;cases e1;exact e2
    obtain⟨ps,Z,_⟩:=J G _ (un.tbls G q hP);refine⟨rfl,⟨fun b o e=>?_,fun b o e=>?_⟩,os,bare⟩;by_cases hb:b=G;subst hb;rw[hT]at e;cases e;exact .inr (.inl ⟨hct,rfl,#[],ps,rfl,by rw[Array.empty_append];exact Z⟩);exact .inl (kp b o hb e);by_cases hb:b=G;subst hb;exact⟨_,Z⟩;exact⟨o,kp b o hb e⟩
 cases hk:K.lookup a with
 | some o =>have e:=KX a o hk;rw[ha]at e;cases e;refine core (fun b=>if b=G then some (.tbl q) else none) (if_pos rfl) (fun b u e hb=>?_) (.inr ⟨_,vs.toArray,_,hk,rfl,rfl,rfl,by rw[aw,lenV];exact hl,by simpa using rv⟩) fun z=>absurd (if_neg S) z;have L:=(if_neg hb).symm.trans e;cases L
 | none =>refine core (fun b=>if b=G then some (.tbl q) else if b=a then some (.frz { cls:=.type "list",data:=.seq vs.toArray } (.lst (ns.map V.int))) else none) (if_pos rfl) (fun b u e hb=>?_) (.inl (.inr ⟨{ cls:=.type "list",data:=.seq vs.toArray },(if_neg S).trans (if_pos rfl)⟩)) fun _=>hk;have L:=(if_neg hb).symm.trans e;by_cases hba:b=a;subst hba;have Y:=(if_pos rfl).symm.trans L;exact⟨rfl,(aI Y).symm⟩;have Y:=(if_neg hba).symm.trans L;cases Y
end L2
namespace Bd
open PySem PySem.W PySem.Calls L2 PyProof.Rows
section
variable{q:aK}{loose:List Str}{Ic:nJ->Option ae}{mg mb:qM}{h:bB}{x:Str}{st:dA}{ps:List Str}{c P:af}
abbrev gho(h:bB)(c P:af):bB:=ghostOf h [(c,P)]
theorem zsD(U:pU [(c,P)] h)(T:Top q loose Ic mg mb h)(hd:recD st∈recsOf q)(N:defName st=x)(hb:BndA x st ps):Dq (JS (gho h c P)) mg x st ps:=by
 obtain⟨a,o,pm,cd,doc,I,J,G,v⟩:=T.fn _ hd;have I:mg (defName st)=some (.ref a):=I;have v:h.CodeRec cd (defName st):=v;rw[N]at I v;have v:(gho h c P).CodeRec cd x:=by obtain⟨c',o',vs,t,Y,e2,L,S⟩:=v;exact⟨c',o',vs,t,Y,sZ U e2 (fun z=>by rw[z]at L;cases L;cases S),L,S⟩
 have J:(gho h c P).get? a=some o:=sZ U J fun z=>by rw[z]at G;cases G
 obtain⟨Z,od,dd,sl⟩:=o;have G:dd=.func (docDef (defName st) (Qq st) (JU st) (Jt st) pm cd doc):=G;rw[N]at G;have l:(JS (gho h c P)).lookup a=some ⟨Z,od,.func (cO x x (Qq st) (JU st) (Jt st) .none .none doc pm none cd .none),sl⟩:=by rw[Z7 J,G];rfl
 have kp:fM (JS (gho h c P)) (.ref a)=true:=by unfold fM;dsimp only;rw[l]
 exact⟨a,_,zob l (zlU v) kp,(zob l (zlU v) kp).binds hb,I⟩
theorem ztz(T:Top q loose Ic mg mb h)(hd:recD st∈recsOf q)(hn:defName st=x):∃c P,pU [(c,P)] h/\isCodeTable h P/\∀base w L,(JS (gho h c P)).In base->LamZ ⟨L,w,JS (gho h c P),mg,base⟩ x c P:=by
 obtain⟨a,o,fd,c,P,v,N,l,Y,R,C⟩:=T.tab _ hd;have v:mg (defName st)=some (.ref a):=v;rw[hn]at v;have u:pU [(c,P)] h:=fun z hz=>by cases ax.mp hz;exact⟨CodeHd.of R C,C.2⟩
 refine⟨c,P,u,C.isCodeTable,fun base w L J=>⟨fun U S f fd' D=>?_,?_,?_⟩⟩;have e:a9 f=a9 a:=aI (D.m.symm.trans v);cases e;obtain⟨oc,od,kV,doc,pm,an,Z,ct,osl,rfl,lk,hcd⟩:=D.F.ex;have g2:(gho h c P).get? a=some o:=sZ u N fun z=>by rw[z]at l;cases l
 have G:=(Z7 g2).symm.trans lk;cases G;have l:yp _=yp fd:=l;cases l;exact Y;exact((ghost_code u).1).keeps fun b o e=>J b o (Z7 e);obtain⟨bm,ob,a1,a2,a3,a4,r⟩:=(ghost_top u T).bmain;exact⟨bm,ob,a1,a2,J _ _ (Z7 a3),a4,r⟩
theorem ztx{lw:PySem.W.OpenLaw}{q:aK}{loose:List Str}{XP:(Str->Option ae)->bB->Prop}{YP:ba->bB->Prop}{d:DefRec}{k:Nat}(hk:k<=60)(hn:lw.most=some 63)(R:d.params.defaults=[])
  (F:∀(w:ba) (s₀:aj) (mg mb:qM) (N:af) (h:bB),Ground q loose [] XP w s₀ mg mb h->mg d.name=some (.ref N) ->
   ∃(c P:af) (qn:Str) (fd:cA),pU [(c,P)] h/\isCodeTable h P/\(∀(s:aj) (u:ae),oR s fd ⟨[u],[]⟩ [("_law_script",u)])/\∀base:bB,(JS (gho h c P)).In base->base.Ns mainGlobals mg->FnOk lw.prog w (JS (gho h c P)) mg base CX0 k N fd ["_law_script"] (spT P qn (zoq (JS (gho h c P))))) :
  PySem.W.WalkO q loose XP YP lw.row.toRowW d [] (fun f vs=>wt f vs):=by
 refine Att.attach_call hn R fun w s₀ v mg mb N o pm cd doc a vs ns G Y ho hd hcd S L J C hg=>?_;obtain⟨c,P,qn,fd,hT,U,hb,hF⟩:=F w s₀ mg mb N _ G S;have KX:(JS (gho v.heap c P)).In v.heap:=fun b o e=>of_hideAll _ (zgk b o e);have Z:(JS (gho v.heap c P)).lookup P=none:=by
  cases e:(JS (gho v.heap c P)).lookup P with
  | none=>rfl
  | some o =>have e1:=zgk _ _ e;have e2:(gho v.heap c P).get? P=none:=hideAll_none _ (.head _);rw[e2]at e1;cases e1
 exact zla KX (hT _ (.head _)).2 U Z G.T.g G.T.b G.T.builtins G.T.nolimit hg L J (aP C (by decide)) ((show Room 60 callerA from⟨rfl,by decide,by decide,rfl⟩).mono hk) hF hb (fun H hS=>⟨a,ns,rfl,hS,C,fun _=>rfl⟩) fun H e s' z=>z
end
end Bd
namespace L2
open PySem PySem.Spec PyProof PyProof.Rows
section
variable{prog:aK}{w:ba}{A:aX}{E:qV}{s:aj}
abbrev FB:=Int×(Int×Int)
end
def jn(l u:Int×Int):Int×Int:=(if l.2+u.2+1<l.1+u.1 then l.2+u.2+1 else l.1+u.1,if l.1+u.1+1<l.2+u.2 then l.1+u.1+1 else l.2+u.2)
open Classical in
noncomputable def kst (Z:Int->Prop):Nat->Int->Int×Int
 | 0,i=>if Z i then(1,0) else(0,1)
 | n+1,i=>jn (kst Z n i) (kst Z n (i+2 ^ n))
theorem znK(n:Nat):(2:Int) ^ (n+1)=2 ^ n+2 ^ n:=by rw[bA];lia
section
variable{Z Z':Int->Prop}
theorem VH:∀(n:Nat) (i:Int),(∀x,i<=x->x<i+2 ^ n->¬Z x)->kst Z n i=(0,1)
 | 0,i,h=>by unfold kst;rw[if_neg (h i (aE _) (by rw[t6];lia))]
 | n+1,i,h=>by have u:=znK n;have pp:(0:Int)<2 ^ n:=Bd.Q4 n;unfold kst;rw[VH n i fun x l o=>h x l (by lia),VH n (i+2 ^ n) fun x l o=>h x (by lia) (by lia)];rfl
theorem kst_all:∀(n:Nat) (i:Int),(∀x,i<=x->x<i+2 ^ n->Z x)->kst Z n i=(1,0)
 | 0,i,h=>by unfold kst;rw[if_pos (h i (aE _) (by rw[t6];lia))]
 | n+1,i,h=>by have u:=znK n;have pp:(0:Int)<2 ^ n:=Bd.Q4 n;unfold kst;rw[kst_all n i fun x l o=>h x l (by lia),kst_all n (i+2 ^ n) fun x l o=>h x (by lia) (by lia)];rfl
end
section
variable{bits:Int}{ps:BL}{Z:Int->Prop}
theorem zqg{b:Int×Int}(B:IsBk bits b.1 b.2){n:Nat}(h:b.2=((n+1:Nat):Int)):upH b=(b.1+2 ^ n,(n:Int)):=by
 have l:(b.2 - 1).toNat=n:=by lia
 have:=B.x1 (by lia);rw[l,h]at this;unfold upH;rw[l,this];have u:(2:Int) ^ ((n+1:Nat):Int).toNat / 2=2 ^ n:=by rw[cP,bA];lia
 rw[u];exact fA rfl (by show b.2 - 1=n;lia)
theorem zib{b:Int×Int}(h:HasA ps b):∀x,b.1<=x->x<eB b->mB x ps:=fun x C o=>by obtain⟨p,l,u,v⟩:=h;exact⟨p,l,by lia,by lia⟩
theorem zeD(o:0<=bits)(C:CanP Z ps)(w:∀x,Z x->0<=x/\x<2 ^ bits.toNat):∀(n:Nat) (b:Int×Int),IsBk bits b.1 b.2->b.2=(n:Int)->zbm ps n b=kst Z n b.1
 | 0,b,B,e=>by
  have v:eB b=b.1+1:=by rw[eB,e];rfl
  unfold zbm kst;by_cases hn:HasN ps b;rw[if_pos hn,if_neg (fun z=>(UW.mp hn) b.1 (aE _) (by lia) ((C.mem _).mpr z))];rw[if_neg hn,if_pos (a8 fun z=>hn (UW.mpr fun x l u m=>z (by
   have:x=b.1:=by lia
   rw[<- this];exact(C.mem x).mp m)))]
 | n+1,b,B,e=>by
  have v:eB b=b.1+2 ^ (n+1):=by rw[eB,e];rfl
  unfold zbm;by_cases hn:HasN ps b;rw[if_pos hn,VH (n+1) b.1 fun x l u z=>(UW.mp hn) x l (by lia) ((C.mem x).mpr z)];rw[if_neg hn];by_cases ha:HasA ps b;rw[if_pos ha,kst_all (n+1) b.1 fun x l u=>(C.mem x).mp (zib ha x l (by lia))];rw[if_neg ha];have J:=zqg B e;have N:loH b=(b.1,(n:Int)):=fA rfl (by show b.2 - 1=n;lia);have L:IsBk bits (loH b).1 (loH b).2:=B.low (by lia);have G:IsBk bits (upH b).1 (upH b).2:=by have:=B.up (by lia);have I:b.1+2 ^ b.2.toNat / 2=(upH b).1:=(B.x1 (by lia)).symm;rw[I]at this;exact this
  rw[zeD o C w n (loH b) L (by show b.2 - 1=n;lia),zeD o C w n (upH b) G (by show b.2 - 1=n;lia),J];rfl
theorem zow(l:0<=bits):IsBk bits 0 bits:=⟨l,aE _,0,aE _,by simp,Bd.Q4 _⟩
theorem zm0(l:0<=bits)(C:CanP Z ps)(w:∀x,Z x->0<=x/\x<2 ^ bits.toNat):zjB bits ps=(kst Z bits.toNat 0).1:=by unfold zjB;rw[zeD l C w bits.toNat (0,bits) (zow l) (by show bits=_;lia)]
end
end L2
namespace L2
open PySem PySem.Spec PySem.W PyProof.Rows
section
variable{X:Cx}{es:List aT}{gs:DTGs}{is:List Nat}{pos p1 p2 p3 pt:Pos}{x:Str}
def Vf(l:Nat)(gs:DTGs):DTS:=fun D C n=>match C[l]? with
 | some (some (.own ts))=>∃init us,ts=init++[.tuple us]/\gs us (C.set l (some (.own init))) fun v=>D.nx v n
 | _=>False
theorem zpQ(l:Nat){kt:_}(hc:X.calm=true)(J:DGs X es is gs)(hn:(assignEach es X.env).length=es.length:=by rfl)(hst:(assignEach es X.env).findIdx? (·.1)=none:=by rfl)(hl:X.N[l]?=some x:=by rfl)(hv:Vis X.env.scope x:=by walk_at "V")(hd:Ndb x:=by rfl)
  (Y:Ncd x:=by rfl)
  (HD:attributeBase (.Name x p1) "pop" X.env (eval (.Name x p1) X.env)=eval (.Name x p1) X.env:=by rfl) (HE:(p2.endLine == p3.line)=true:=by rfl)
  (hs:swapsWithSole [.Tuple es kt pt] (.Call (.Attribute (.Name x p1) "pop" p2) [] [] p3) pos.line X.env=pure false:=by rfl) (hw:swappedStores [.Tuple es kt pt] (.Call (.Attribute (.Name x p1) "pop" p2) [] [] p3) X.env=pure none:=by rfl)
  (G:(assignEach [.Tuple es kt pt] X.env).map (·.2)=[assign (.Tuple es kt pt) X.env]:=by rfl) :
  DS X (.Assign [.Tuple es kt pt] (.Call (.Attribute (.Name x p1) "pop" p2) [] [] p3) pos) (Vf l gs):=by
 obtain⟨ln,w,g,pg,J⟩:=J;refine⟨_,Zy (znV eT PySem.F.slot_list_pop PySem.F.type_list_pop zrn (Qo hl hv hd Y) HD HE) (znU hc pg hn hst) hs hw G,fun C ρ σ H n D D' S hd gd=>?_⟩;unfold Vf at hd;split at hd;rename_i ts et;obtain⟨init,us,rfl,hd⟩:=hd;obtain⟨p,vs,G,v,Z,h4⟩:=S.own l _ et;have lv:vs.length=init.length+1:=by rw[Z.length];simp
 obtain⟨vl,evl,rl⟩:=Z.get (i:=init.length) (d:=.tuple us) (by simp);have U:Reps X.K C.hd (Own C ρ σ) H vs.dropLast init:=by have:=Z.take init.length;rw[List.take_left]at this;rw[List.dropLast_eq_take,lv];exact this
 obtain⟨q,ws,rfl,o,rq⟩:=rl.tupI;obtain⟨S2,R⟩:=S.chg et G U;have L:SqT X.K (upd H p (.lst vs.dropLast)) q ws:=by rcases o with o|o;rcases o with o|⟨u,o⟩;exact .inl (.inl (by rw[Jj (fun z=>by rw[z,v]at o;cases o)];exact o));exact .inl (.inr ⟨u,by rw[Jj (fun z=>by rw[z,v]at o;cases o)];exact o⟩);exact .inr o
 refine⟨.ref p,G,.inl ⟨rfl,_,SqL.of v⟩,p,vs,.ref q,rfl,rfl,v,by rw[lv];exact evl,?_⟩;exact⟨q,ws,rfl,L,(R.reps S.hx rq).length.trans (ln us _ _ hd),J C _ σ _ n ws us _ _ S2 (R.reps S.hx rq) hd fun ρ' σ' hr S' kp _ _=>gd.nx ρ' σ' _ n hr S' (R.trans kp)⟩;exact hd.elim
variable{ρ:En}{n l:Nat}{D:JM}{init us:qD}
theorem zrC[h1:GetN ρ l (some (.own (init++[.tuple us])))](h:SetK l (some (.own init)) (fun v G=>gs us v fun C=>D.nx C G) ρ n):Vf l gs D ρ n:=by unfold Vf;rw[h1.e];exact⟨init,us,rfl,h⟩
end
end L2
namespace L2
open PySem PySem.Spec PyProof.Rows
def insA{α:Type}(xs:List α)(k:Int)(y:α):List α:=xs.take k.toNat++y::xs.drop k.toNat
theorem zng{α:Type}{xs:List α}{k:Int}{y:α}:(insA xs k y).length=xs.length+1:=by unfold insA;rw[aH,aG,cE,fT];lia
theorem zlp{α:Type}{xs:List α}{k:Int}{y:α}:(insA xs k y).Perm (y::xs):=by have:=kq (a:=y) (l₁:=xs.take k.toNat) (l₂:=xs.drop k.toNat);rwa [bu]at this
section
variable{X:Cx}
def zoB:V->List V->Hp->VK->Prop:=fun x vs H Q=>∃l xs k y,x=.ref l/\vs=[.int k,y]/\H l=some (.lst xs)/\0<=k/\k<=xs.length/\xs.length<16777216/\Q .non (upd H l (.lst (insA xs k y)))
theorem zkY:MtM X "list.insert" zoB:=by
 intro pins s σ H x vs v us Q I R C h;obtain⟨l,xs,k,y,rfl,rfl,J,h0,h1,hz,q⟩:=h;cases R;obtain⟨z,its,n,r,Z,e⟩:=I.lstM J;cases C with
 | cons Y C =>
  cases C with
  | cons S C =>
   cases C;obtain⟨t,rfl⟩:=Y;rename_i G;refine o9 F.slot_list_insert ⟨_,e,rfl⟩ F.entry_list_insert (F.args_list_insert_3 _ _ _)
    (AutoSeq1.list_insert_list_int_val_1 l its.toArray n k t G (by rw[fitsIndex_both (by lia) (by lia)];simp) (by rw[aw];exact aP (bY (Z▸hz)) (by decide))) ⟨e,?_⟩
   refine⟨.non,_,I.lset (its':=insA its k G) J e ?_ ((r.take k.toNat).append (.cons S (r.drop k.toNat))) ?_,rfl,q⟩;have U:¬k<0:=by lia
   show(let L:=if k<0 then(k+(its.toArray.size:Int)).toNat else min k.toNat its.toArray.size;(its.toArray.extract 0 L).push G++its.toArray.extract L)=(insA its k G).toArray;dsimp only;rw[if_neg U,aw,dO (by lia)];apply Array.ext';unfold insA;simp;exact dQ (by rw[fT];exact av _);show(insA xs k y).length<=_;rw[zng];exact aP hz (by decide)
def VA(i:Nat)(u d:DTE):DTS:=fun D l n=>match l[i]? with
 | some (some (.own ts))=>u l n fun j v=>d l v fun t x=>lInt j fun k=>0<=k/\k<=ts.length/\ts.length<16777216/\D.nx (l.set i (some (.own (insA ts k t)))) x
 | _=>False
variable{x:Str}{b e:aT}{d dj:DTE}{pos:Pos}
theorem zlA(i:Nat){I p2 J:Pos}(hj:DE X b dj)(h:DE X e d)(hN:X.N[i]?=some x:=by rfl)(hv:Vis X.env.scope x:=by walk_at "V")(hd:Ndb x:=by rfl)
  (hcd:Ncd x:=by rfl) (hs:swapsWith (.Call (.Attribute (.Name x I) "insert" p2) [b,e] [] J) none pos.line X.env=pure false:=by rfl)
  (HD:attributeBase (.Name x I) "insert" X.env (eval (.Name x I) X.env)=eval (.Name x I) X.env:=by rfl)
  (Im:((backTo J (starEach [b,e] X.env)).all (fun x=>!x.1)&&(backToKw J (keywordEach [] X.env)).all (fun x=>x.1.isSome)
   && decide ([b,e].length+([]:List kN).length+(if ([]:List kN).isEmpty then 0 else 1)<30))=true:=by rfl)
  (HE:(p2.endLine == J.line)=true:=by rfl) (L:starEach [b,e] X.env=[(false,eval b X.env),(false,eval e X.env)]:=by rfl) (Y:starEach [e] X.env=[(false,eval e X.env)]:=by rfl):DS X (.Expr (.Call (.Attribute (.Name x I) "insert" p2) [b,e] [] J) pos) (VA i dj d):=by
 obtain⟨tj,pj,hj⟩:=hj;obtain⟨ta,pa,h⟩:=h;refine⟨_,zhN (zoS eT PySem.F.slot_list_insert PySem.F.type_list_insert zkY (Qo hN hv hd hcd) (Qr pj (Qr pa QV Y) (by rw[L,Y])) HD Im HE (by rw[L,Y]) (by rw[Y];rfl)) hs,fun C ρ σ H n D D' S hd g=>?_⟩;unfold VA at hd;split at hd;rename_i ts et;obtain⟨p,vs,h1,h2,h3,h4⟩:=S.own i ts et;refine⟨.ref p,h1,.inl ⟨rfl,_,SqL.of h2⟩,?_⟩;refine hj C ρ σ H n _ _ S hd fun j n1 vj H1 r1 e1 hn1 q1=>?_;have S1:=S.on e1 hn1;refine h C ρ σ H1 n1 _ _ S1 r1 fun t n2 v H2 U e2 hn2 q2=>?_;have S2:=S1.on e2 hn2;cases j with
 | int k =>obtain⟨k0,k1,kz,U⟩:0<=k/\k<=ts.length/\ts.length<16777216/\_:=U;obtain⟨p',Z,R,h2',G,h4'⟩:=S2.own i ts et;rw[h1]at R;cases R;refine⟨p,Z,k,v,rfl,by rw[q1.intI],h2',k0,by rw[G.length];exact k1,by rw[G.length];exact kz,?_⟩;obtain⟨S3,k3⟩:=S2.chg et h1 ((G.take k.toNat).append (.cons q2 (G.drop k.toNat)));exact g.nx _ _ _ n2 U S3 ((e1.trans e2).keep.trans k3)
 | _=>exact U.elim
 exact hd.elim
variable{ρ:En}{n:Nat}{D:JM}{xs:qD}
instance zs_ [h:GetN ρ i (some (.own xs))]:Stp (VA i dj d D ρ n) (dj ρ n fun j n1=>d ρ n1 fun t n2=>lInt j fun k=>0<=k/\k<=xs.length/\xs.length<16777216/\SetK i (some (.own (insA xs k t))) D.nx ρ n2):=⟨fun k=>by unfold VA;rw[h.e];exact k⟩
end
section
variable{X:Cx}{a b:aT}{ds es:DTA}{pos:Pos}{x y:Str}
def zqF(i j:Nat)(ds es:DTA):DTS:=fun D l n=>ds l n fun ts u=>es l u fun us v=>Qk us=true/\D.nx ((l.set i (some (.own ts))).set j (some (.own us))) v
theorem zpS{i j:Nat}{Y py pt:Pos}{kt k2 pt2}(hc:X.calm=true)(hN:X.N.Nodup)(hi:X.N[i]?=some x)(hj:X.N[j]?=some y)(J:i≠j)
  (hx:X.env.scope.names.lookup x=some .local) (hy:X.env.scope.names.lookup y=some .local) (h:DN X a ds) (h':DN X b es)
  (U:starEach [a,b] X.env=(false,eval a X.env)::starEach [b] X.env:=by rfl) (L:starEach [b] X.env=[(false,eval b X.env)]:=by rfl)
  (hw:swappedStores [.Tuple [.Name x Y,.Name y py] kt pt] (.Tuple [a,b] k2 pt2) X.env=pure (some [x,y]):=by rfl)
  (hs:swapsWithSole [.Tuple [.Name x Y,.Name y py] kt pt] (.Tuple [a,b] k2 pt2) pos.line X.env=pure false:=by rfl) :
  DS X (.Assign [.Tuple [.Name x Y,.Name y py] kt pt] (.Tuple [a,b] k2 pt2) pos) (zqF i j ds es):=by
 obtain⟨ta,pa,h⟩:=h;obtain⟨tb,pb,h'⟩:=h';refine⟨_,zkA hc hN hi hj J hx hy (Qr pa (Qr pb QV L) U) hw hs,fun C ρ σ H n D D' S hd g=>?_⟩;refine h C ρ σ H n _ _ S hd fun ts n1 p vs H1 r1 G h1 hp I q1=>?_;have S1:=S.on G h1;refine h' C ρ σ H1 n1 _ _ S1 r1 fun us n2 q ws H2 r2 R Z hq v q2=>?_;refine⟨_,_,rfl,?_⟩;have T1:=S.putOwn (i:=i) G h1 hp I q1;have T2:=T1.on R Z;have SO:=T1.putOwn (i:=j) R Z hq v (q2.up (fun a ha=>ha.elim (fun z=>T2.lst z) fun z=>by subst z;rw[v];exact .inl ⟨_,rfl⟩) r2.1);exact g.nx _ _ H2 n2 r2.2 SO ((VZ G hp).trans (VZ R hq))
def zqE(i j:Nat)(es:DTA):DTS:=fun D l n=>es l n fun us u=>Qk us=true/\D.nx ((l.set i (some (.dtt []))).set j (some (.own us))) u
theorem zpR{i j:Nat}{Y py pt dp:Pos}{kt k2 pt2}(hc:X.calm=true)(hN:X.N.Nodup)(hi:X.N[i]?=some x)(hj:X.N[j]?=some y)(J:i≠j)
  (hx:X.env.scope.names.lookup x=some .local) (hy:X.env.scope.names.lookup y=some .local) (h':DN X b es)
  (U:starEach [.Dict [] [] dp,b] X.env=(false,eval (.Dict [] [] dp) X.env)::starEach [b] X.env:=by rfl) (L:starEach [b] X.env=[(false,eval b X.env)]:=by rfl)
  (hw:swappedStores [.Tuple [.Name x Y,.Name y py] kt pt] (.Tuple [.Dict [] [] dp,b] k2 pt2) X.env=pure (some [x,y]):=by rfl)
  (hs:swapsWithSole [.Tuple [.Name x Y,.Name y py] kt pt] (.Tuple [.Dict [] [] dp,b] k2 pt2) pos.line X.env=pure false:=by rfl) :
  DS X (.Assign [.Tuple [.Name x Y,.Name y py] kt pt] (.Tuple [.Dict [] [] dp,b] k2 pt2) pos) (zqE i j es):=by
 obtain⟨tb,pb,h'⟩:=h';refine⟨_,zkA hc hN hi hj J hx hy (Qr zkH (Qr pb QV L) U) hw hs,fun C ρ σ H n D D' S hd g=>?_⟩;intro p G ep;have I:ExtE C.hd H (upd H p (ZDO p [] ep)):=ExtE.new G;have hn:Hn X.K C.hd (upd H p (ZDO p [] ep)) n:=S.hnd.same (J9 G);refine h' C ρ σ _ n _ _ (S.on I hn) hd fun us n2 q ws H2 r2 R Z hq v q2=>?_;refine⟨_,_,rfl,?_⟩;have T1:=S.putNew (i:=i) (c:=.dtt []) I hn G ⟨[],ep,JH,.nil⟩;have T2:=T1.on R Z;have SO:=T1.putOwn (i:=j) R Z hq v (q2.up (fun a ha=>ha.elim (fun z=>T2.lst z) fun z=>by subst z;rw[v];exact .inl ⟨_,rfl⟩) r2.1);exact g.nx _ _ H2 n2 r2.2 SO ((VY I G).trans (VZ R hq))
variable{ρ:En}{n i j:Nat}{D:JM}
instance zu9:Stp (zqE i j es D ρ n) (es ρ n fun us n2=>Qk us=true/\SetK i (some (.dtt [])) (fun ρ1 n1=>SetK j (some (.own us)) D.nx ρ1 n1) ρ n2):=⟨fun h=>h⟩
instance zu_:Stp (zqF i j ds es D ρ n) (ds ρ n fun ts n1=>es ρ n1 fun us n2=>Qk us=true/\SetK i (some (.own ts)) (fun ρ1 n1=>SetK j (some (.own us)) D.nx ρ1 n1) ρ n2):=⟨fun h=>h⟩
end
end L2
namespace L2
open PySem PySem.Spec PyProof PyProof.Rows
def metB(b p:Int×Int):Bool:=decide (p.1<eB b)&&decide (b.1<eB p)
theorem zo0{b p:Int×Int}(h:metB b p=true):ovD b p=(if eB p<eB b then eB p else eB b) - (if p.1 > b.1 then p.1 else b.1):=by have:=JL p;have:=JL b;unfold metB at h;rw[aW,decide_eq_true_eq,decide_eq_true_eq]at h;unfold ovD ovL;lia
theorem zk0{b:Int×Int}:∀{bs:BL},((bs.filter (metB b)).map (ovD b)).sum=(bs.map (ovD b)).sum
 | []=>rfl
 | p::bs=>by
  rw[List.filter_cons,aC,dW,<- zk0 (bs:=bs)];by_cases h:metB b p=true;rw[if_pos h,aC,dW];have z:ovD b p=0:=by unfold metB at h;simp only[aW,decide_eq_true_eq]at h;unfold ovD ovL;lia
  rw[if_neg h,z,Int.zero_add]
section
variable{bits:Int}{ps bs fs ws:BL}{b c:Int×Int}
theorem zq5(l:0<=bits)(P:Ptc bits bs)(C:CanP (fun x=>mB x bs) ps)(B:IsBk bits b.1 b.2):(0<(bs.map (ovD b)).sum/\(bs.map (ovD b)).sum<eB b - b.1)↔Prt ps b:=by have h0:=zpE (b:=b) C;obtain⟨G,o⟩:=znl l P C B;have v:0<=(bs.map (ovD b)).sum:=zoZ;unfold Prt;rw[<- h0,<- o];lia
structure WInv(bits:Int)(ps fs ws:BL):Prop where
 bk:Bks bits (fs++ws)
 nd:(fs++ws).Nodup
 root:(0,bits)∈fs++ws
 par:∀c∈fs++ws,c=(0,bits)\/∃b∈fs,Prt ps b/\(c=loH b\/c=upH b)
 kid:∀b∈fs,Prt ps b->loH b∈fs++ws/\upH b∈fs++ws
 cnt:∃ds:BL,ds.Nodup/\(∀d∈ds,Prt ps d/\d∈fs)/\(fs++ws).length=1+2*ds.length
theorem WInv.start(o:0<=bits):WInv bits ps [] [(0,bits)] where
 bk:=fun b hb=>by cases ax.mp hb;exact⟨o,aE _,0,aE _,by simp,Bd.Q4 _⟩
 nd:=by simp
 root:=.head _
 par:=fun c hc=>.inl (ax.mp hc)
 kid:=fun b hb=>nomatch hb
 cnt:=⟨[],.nil,(fun d h=>nomatch h),rfl⟩
theorem QD:((fs++[b])++ws).Perm (fs++(ws++[b])):=by rw[aA];exact g8.append_left fs
theorem WInv.no(I:WInv bits ps fs (ws++[b]))(h:¬Prt ps b):WInv bits ps (fs++[b]) ws where
 bk:=fun c hc=>I.bk c (QD.mem_iff.mp hc)
 nd:=QD.symm.nodup I.nd
 root:=QD.mem_iff.mpr I.root
 par:=fun c hc=>(I.par c (QD.mem_iff.mp hc)).imp id fun⟨d,hd,r⟩=>⟨d,m1 hd,r⟩
 kid:=fun c hc o=>by rcases ai.mp hc with z|z;have:=I.kid c z o;exact⟨QD.mem_iff.mpr this.1,QD.mem_iff.mpr this.2⟩;cases ax.mp z;exact absurd o h
 cnt:=by obtain⟨ds,v,l,u⟩:=I.cnt;exact⟨ds,v,fun d hd=>⟨(l d hd).1,m1 (l d hd).2⟩,QD.length_eq.trans u⟩
theorem WInv.fresh(I:WInv bits ps fs ws)(B:IsBk bits b.1 b.2)(x:1<=b.2)(n:b∉fs\/¬Prt ps b):∀d,(d=loH b\/d=upH b)->d∉fs++ws:=by
 intro d hd v;rcases I.par d v with z|⟨c,hc,o,u⟩;have:d.2=b.2 - 1:=by rcases hd with rfl|rfl <;> rfl
 have C:=B.2.1;rw[z]at this;have this:bits=b.2 - 1:=this;lia;have l:=I.bk c (m1 hc);have:=zi1 B l x (o.pos l) hd u;subst this;exact n.elim (fun z=>z hc) fun z=>z o
theorem zm5(B:IsBk bits b.1 b.2)(l:1<=b.2):loH b≠upH b:=by have u:=Bd.Q4 (b.2 - 1).toNat;rw[up_eq B l];intro e;have:=congrArg vf e;have this:b.1=b.1+2 ^ (b.2 - 1).toNat:=this;lia
theorem WInv.yes(I:WInv bits ps fs (ws++[b]))(h:Prt ps b):WInv bits ps (fs++[b]) (ws++[loH b,upH b]):=by
 have hb:b∈fs++(ws++[b]):=m2 (m2 (.head _));have B:=I.bk b hb;have o:=h.pos B;have nb:b∉fs:=fun z=>by have:=(cT.mp I.nd).2.2 b z b (m2 (.head _));exact this rfl
 have fr:=I.fresh B o (.inl nb);have mem:∀c,c∈(fs++[b])++(ws++[loH b,upH b])↔c∈fs++(ws++[b])\/c=loH b\/c=upH b:=fun c=>by rw[<- aA,ai,QD.mem_iff];simp
 refine⟨fun c hc=>?_,?_,(mem _).mpr (.inl I.root),fun c hc=>?_,fun c hc C=>?_,?_⟩;rcases(mem c).mp hc with z|rfl|rfl;exact I.bk c z;exact zrp B o;exact zqh B o;rw[<- aA];refine cT.mpr ⟨QD.symm.nodup I.nd,by simp[zm5 B o],fun c hc d hd e=>?_⟩;subst e;exact fr c (by simpa using hd) (QD.mem_iff.mp hc);rcases(mem c).mp hc with z|z;exact(I.par c z).imp id fun⟨d,hd,r⟩=>⟨d,m1 hd,r⟩;exact .inr ⟨b,m2 (.head _),h,z⟩;rcases ai.mp hc with z|z;have:=I.kid c z C;exact⟨(mem _).mpr (.inl this.1),(mem _).mpr (.inl this.2)⟩;cases ax.mp z;exact⟨(mem _).mpr (.inr (.inl rfl)),(mem _).mpr (.inr (.inr rfl))⟩;obtain⟨ds,x,u,v⟩:=I.cnt;refine⟨b::ds,cB.mpr ⟨fun z=>nb (u b z).2,x⟩,fun d hd=>?_,?_⟩;rcases ay.mp hd with rfl|z;exact⟨h,m2 (.head _)⟩;exact⟨(u d z).1,m1 (u d z).2⟩;have:=(QD (fs:=fs) (ws:=ws) (b:=b)).length_eq;rw[<- aA,aH,this,v];simp;lia
theorem WInv.len(v:bits<=64)(P:Bks bits ps)(I:WInv bits ps fs ws):(fs++ws).length<=1+130*ps.length:=by obtain⟨ds,u,o,x⟩:=I.cnt;have:=zgQ v P u fun d hd=>⟨(o d hd).1,I.bk d (m1 (o d hd).2)⟩;lia
theorem zpc:msz ws<msz (ws++[b]):=by have:1<2 ^ (b.2.toNat+1):=m4 (by lia);rw[Vx];simp only[msz,aC,dW,cC,nN];lia
theorem zpb(h:1<=b.2):msz (ws++[loH b,upH b])<msz (ws++[b]):=by
 have p:2 ^ (b.2.toNat+1)=2*2 ^ b.2.toNat:=by rw[gV];lia
 have q:(b.2 - 1).toNat+1=b.2.toNat:=by lia
 have pos:1<=2 ^ b.2.toNat:=m5;rw[Vx,Vx];simp only[msz,aC,dW,cC,nN];show _+(2 ^ ((b.2 - 1).toNat+1) - 1+(2 ^ ((b.2 - 1).toNat+1) - 1+0))<_;rw[q];lia
theorem Vz{p:Int×Int}{l:BL}:pD l++[dw [.int p.1,.int p.2]]=pD (l++[p]):=by simp[pD,prD]
theorem zls(h:1<=b.2):(1*2 ^ b.2.toNat) / 2=(2:Int) ^ (b.2 - 1).toNat:=by rw[YQ h,bH];lia
end
end L2
namespace L2
open PySem PySem.Spec PySem.W PySem.Calls PyProof.Rows Att
section
variable{prog:aK}{w:ba}{A:aX}{E:qV}{s:aj}{vs:List ae}{kz:List Int}{keys:Array ae}{kS a:af}{e e1:Nat}{P:yr->aj->Prop}
theorem zgp{xs:Array br}(u:Up numOf xs xs.size):SortedTo xs xs.size:=fun i j o l=>by
 have e:∀i,K xs i=rkAt numOf xs i:=fun i=>by unfold K rkAt;cases xs[i]? <;> rfl
 rw[e,e];rcases fg o with rfl|h;exact aE _;exact u i j h l
theorem zg_{st:aV}(R:s.heap.get? kS=some (seqObj "list" keys e)) (na:s.heap.get? a=some (seqObj "list" #[] e1)) (v:kS≠a) (I:eE keys.toList kz) (J:kz.length=vs.length) (hz:vs.length<100000) (L:(arrOf st).Perm (keys.zip vs.toArray)) (Y:SortedTo (arrOf st) (arrOf st).size) (x:failedOf st=none)
  (h:∀h' S out c,(∀b,b≠kS->b≠a->h'.get? b=s.heap.get? b)->h'.get? a=some (seqObj "list" out c)->t5 false kz vs out.toList->P (.done (.ret .none)) { s with heap:=h',toks:=S }) :
  wpAny (model prog w) A (ksk_tail a false e1 (.ref kS) st) P E s:=by
 have hsz:keys.size=vs.length:=by have Z:=I.length;rw[bz]at Z;lia
 have hsz2:((arrOf st).map (·.2)).size=vs.length:=by rw[pL,L.size_eq,pV,hsz,aw,t7]
 have s1:=cW s.heap kS (bw fun _=>(#[]:Array ae));have l:(s.heap.update kS (bw fun _=>(#[]:Array ae))).get? a=some (seqObj "list" #[] e1):=(s1.2 a v.symm).trans na;have s2:=cW (s.heap.update kS (bw fun _=>(#[]:Array ae))) a (bw fun _=>(arrOf st).map (·.2));obtain⟨C,G⟩:∃C,((s.heap.update kS (bw fun _=>(#[]:Array ae))).update a (bw fun _=>(arrOf st).map (·.2))).get? a=some (seqObj "list" ((arrOf st).map (·.2)) C):=⟨_,gx l fun _=>(arrOf st).map (·.2)⟩;have big:100000<=sizeLine:=by decide
 unfold ksk_tail;refine aa (fD R rfl ?_ (by rw[hsz];lia) (bp _));refine aa (wpAny_letGo ?_);refine aa (l4 l rfl ?_);refine aa (fD l rfl ?_ (bp _) (aP (kQ hsz2) (by lia)));rw[x];simp only[bne_self_eq_false,aO,if_false];exact ag (h _ _ _ C (fun b U N=>(s2.2 b N).trans (s1.2 b U)) G (ksk_out (b:=false) I L Y))
theorem zm9(N:s.heap.get? kS=some (seqObj "list" keys e)) (na:s.heap.get? a=some (seqObj "list" #[] e1)) (x:kS≠a) (v:eE keys.toList kz) (l:kz.length=vs.length) (hz:vs.length<100000)
  (h:∀h' S out c,(∀b,b≠kS->b≠a->h'.get? b=s.heap.get? b)->h'.get? a=some (seqObj "list" out c)->t5 false kz vs out.toList->P (.done (.ret .none)) { s with heap:=h',toks:=S }) :
  wpAny (model prog w) A (ksk_end a false vs.toArray e1 (.ref kS) keys) P E s:=by
 have hsz:keys.size=vs.length:=by have Y:=v.length;rw[bz]at Y;lia
 have C:(keys.zip vs.toArray).size=vs.length:=by rw[pV,hsz,aw,t7]
 unfold ksk_end;dsimp only;rw[if_neg (by simp)];by_cases h2:vs.toArray.size<2;rw[if_pos h2,if_pos h2];refine aa (ag ?_);rw[oJ];refine aa (ag ?_);refine zg_ (st:=mW general' (keys.zip vs.toArray) #[] 7 none) N na x v l hz (iw _) (zgp fun i j Z L=>?_) rfl h;have L:j<(keys.zip vs.toArray).size:=L;rw[C]at L;rw[aw]at h2;lia;rw[if_neg h2,if_neg h2];rw[aw]at h2;rw[ksk_kind v (by rw[hsz];lia)];refine aa (ag ?_);have c:Cmp prog w A s oneType' numOf (keys.zip vs.toArray):=fun p q E Q mp R h=>by obtain⟨i,t,e1⟩:=ksk_intKeys (vs:=vs) v p mp;obtain⟨j,u,U⟩:=ksk_intKeys (vs:=vs) v q R;rw[e1,U]at h ⊢;rw[keyLt'_oneType];exact oneLt_int h
 refine aa (bN (ziA (Q:=fun _ y=>(arrOf y).Perm (keys.zip vs.toArray)/\failedOf y=none/\Up numOf (arrOf y) (keys.zip vs.toArray).size) (z:=mW oneType' (keys.zip vs.toArray) #[] 7 none) c ⟨iw _,rfl,rfl,rfl⟩ (by rw[C];lia) fun y G J I=>⟨G,J,I⟩) ?_ fun _ _ e=>e);rintro⟨⟨⟩,y⟩ s' ⟨rfl,G,J,I⟩;exact zg_ N na x v l hz G (zgp (by rw[G.size_eq];exact I)) J h
end
section
variable{X:Cx}{pins:qO}{σ:St}{H:Hp}{s:aj}{A:aX}{E:qV}{f a kS:af}{fo:Obj}{e1:Nat}{vs:List ae}{kz:List Int}{G:Hp->Prop}
theorem zlh{P:yr->aj->Prop}(I:Inv X ((kS,seqObj "list" #[] 0)::(a,seqObj "list" #[] e1)::(f,fo)::pins) σ H s) (g:G H)
  (hk:∀p∈X.pn++((a,seqObj "list" #[] e1)::(f,fo)::pins),p.1≠kS) (hka:∀p∈X.pn++pins,p.1≠a) (h0k:X.s₀.heap.objs.size<=kS) (h0a:X.s₀.heap.objs.size<=a) (hlen:kz.length=vs.length) (hz0:vs.length<100000)
  (turn:∀(i:Nat) (u:ae) (k:Int),vs[i]?=some u->kz[i]?=some k->∀(Hx:qO) (H':Hp) (s':aj),(f,fo)∈Hx->Inv X Hx σ H' s'->G H' ->
   wpAny (model X.prog X.w) A (call (.ref f) [u]) (fun u' C=>∃t U,u'=.int k t/\Inv X Hx σ U C/\G U) (fun _ _=>False) s')
  (h:∀H' s' out,G H'->H' a=none->t5 false kz vs out->(∀ys,Vals ys out->ys.length<=sizeLine->Inv X pins σ (upd H' a (.lst ys)) s')->P (.done (.ret .none)) s') :
  wpAny (model X.prog X.w) A (vk a (.ref f) false vs.toArray e1 (.ref kS)) P E s:=by
 have hak:a≠kS:=hk (a,seqObj "list" #[] e1) (aL _ (.head _));unfold vk;refine aa (dM ?_);rw[List.forIn_toArray];refine aa (ksk_fold (fun i s'=>∃H' Y e,Inv X ((kS,seqObj "list" Y e)::(a,seqObj "list" #[] e1)::(f,fo)::pins) σ H' s'/\G H'/\eE Y.toList (kz.take i)) vs 0 s
  ⟨H,#[],0,I,g,by simpa using IntsAre.nil⟩ ?step ?done)
 case step =>
  rintro j x s' hx ⟨H',Y,e,J,g',S⟩;simp only[du]at S ⊢;have hj:j<vs.length:=(ah.mp hx).1;obtain⟨k,hkj⟩:∃k,kz[j]?=some k:=⟨_,ak (by lia)⟩;have hz:Y.size<=vs.length:=by have h1:=S.length;rw[bz,cE]at h1;lia
  refine aa (gn (bN (turn j x k hx hkj _ H' s' (.tail _ (.tail _ (.head _))) J g') (fun v C he=>?_) fun _ _ hF=>hF.elim));obtain⟨t,U,rfl,J2,g2⟩:=he;dsimp only;have N:=J2.pin (kS,seqObj "list" Y e) (aL _ (.head _));have s1:=cW C.heap kS (bw (·.push (.int k t)));obtain⟨c2,hc2⟩:∃c2,(C.heap.update kS (bw (·.push (.int k t)))).get? kS=some (seqObj "list" (Y.push (.int k t)) c2):=⟨_,gx N.1 (·.push (.int k t))⟩;have ek:kz.take (j+1)=kz.take j++[k]:=by rw[List.take_add_one,hkj];simp
  have ea:(Y.push (i9 k t)).toList=Y.toList++[i9 k t]:=by simp
  refine aa (fD N.1 rfl ?_ (by rw[dU];lia) (aP (kQ (Array.size_push ..)) (by rw[dU];lia)));have J3:Inv X ((a,seqObj "list" #[] e1)::(f,fo)::pins) σ U C:=J2.pins_of fun p Z=>J2.pin p (aL _ (.tail _ Z));have J4:Inv X ((a,seqObj "list" #[] e1)::(f,fo)::pins) σ U { C with heap:=C.heap.update kS (bw (·.push (.int k t))),toks:=C.toks } :=
   J3.turned (fun b o hb e=>(s1.2 b hb).trans e) N.2.1 N.2.2.1 (.inr h0k) (zin J2 N.1) hk
  refine ag ⟨rfl,U,Y.push (.int k t),c2,J4.pins_of fun p Z=>?_,g2,by rw[ea,ek];exact ksk_snoc S⟩;rcases ay.mp Z with rfl|Z;exact⟨hc2,N.2.1,N.2.2.1,N.2.2.2.1,fun v z=>by cases z⟩;exact J4.pin p (aL _ Z)
 case done =>
  rintro s' ⟨H',Y,e,J,g',S⟩;have hk':eE Y.toList kz:=by have e3:kz.take (0+vs.length)=kz:=dQ (by lia);rw[e3]at S;exact S
  have N:=J.pin (kS,seqObj "list" Y e) (aL _ (.head _));have na:=J.pin (a,seqObj "list" #[] e1) (aL _ (.tail _ (.head _)));refine aa (ft N.1 rfl ?_);refine zm9 N.1 na.1 hak.symm hk' hlen hz0 fun h' tk out c kp0 hq ko=>?_;have kp:∀b o,b≠kS->b≠a->s'.heap.get? b=some o->h'.get? b=some o:=fun b o n2 n3 e=>(kp0 b n2 n3).trans e;refine h H' _ out.toList g' na.2.1 ko fun ys r hz=>?_;have J0:Inv X pins σ H' s':=J.pins_of fun p Z=>J.pin p (aL _ (.tail _ (.tail _ (.tail _ Z))));have R:∀{b:af},b∉[kS,a]->b≠kS/\b≠a:=fun {b} z=>⟨fun y=>z (by simp[y]),fun y=>z (by simp[y])⟩;have up:∀b o,H' b=some o->upd H' a (.lst ys) b=some o:=fun b o e=>by rw[Jj (Qf e na.2.1)];exact e
  refine J0.step (g':=s'.gens) (d':=s'.drawn) (ch:=[kS,a]) (fun b hb=>?_) (fun b o _ _ hc e _=>kp b o (R hc).1 (R hc).2 e) (fun b o _ _ hc e _=>⟨o.slots,kp b o (R hc).1 (R hc).2 e⟩) (fun b o hc _ n=>by rw[Jj (R hc).2];exact n)
   (fun b o hc e=>⟨o,kp b o (R hc).1 (R hc).2 e⟩) (fun b xs e=>up b _ e) (fun b o xs e=>up b _ e) (fun b x e=>up b _ e) (fun m ⟨o,es,ep,ho,r⟩=>⟨o,es,ep,kp _ o N.2.2.1.symm na.2.2.1.symm ho,r⟩) (fun b u e=>?_) J0.bare
  rcases ay.mp hb with rfl|hb;exact⟨.inr h0k,N.2.2.1,zin J N.1,fun p Z=>hk p ((ai.mp Z).elim (fun z=>b7 _ z) fun z=>aL _ (.tail _ (.tail _ z)))⟩;cases ax.mp hb;exact⟨.inr h0a,na.2.2.1,zin J na.1,hka⟩;by_cases hb:b=a;subst hb;rw[JH]at e;cases e;exact⟨hz,out.toList,c,r,by rw[Array.toArray_toList];exact hq⟩;rw[Jj hb]at e;have ne:∀d v,H' d=some v->d≠kS/\d≠a:=fun d v z=>⟨fun y=>(by rw[y,N.2.1]at z;cases z),fun y=>(by rw[y,na.2.1]at z;cases z)⟩;refine(J.hok b u e).stay (fun d v hd z=>?_) (fun d z=>up d _ z) (fun d xs z=>up d _ z) fun d o xs z=>up d _ z;have:=hd.elim (fun y=>ne d u (y▸e)) fun y=>ne d _ y;exact kp d v this.1 this.2 z
theorem zhI{Q:qV}{l:af}{o:Obj}{T:String}{n:Nat}(I:Inv X ((f,fo)::pins) σ H s)(g:G H)(ho:s.heap.get? l=some o)(hc:o.cls=.type T)(hT:T = "list" \/ T = "tuple") (hd:o.data=.seq vs.toArray n) (U:kz.length=vs.length) (h64:vs.length<100000)
  (turn:∀(i:Nat) (u:ae) (k:Int),vs[i]?=some u->kz[i]?=some k->∀(Z:qO) (H':Hp) (s':aj),(f,fo)∈Z->Inv X Z σ H' s'->G H' ->
   wpAny (model X.prog X.w) A.in1.in1 (call (.ref f) [u]) (fun u' s''=>∃t Y,u'=.int k t/\Inv X Z σ Y s''/\G Y) (fun _ _=>False) s')
  (h:∀H' s' out a,G H'->H a=none->H' a=none->t5 false kz vs out->(∀ys,Vals ys out->ys.length<=sizeLine->Inv X pins σ (upd H' a (.lst ys)) s')->Q (.ref a) s') :
  wpAny (model X.prog X.w) A (call (.builtin "sorted") [.ref l] [(aN "key",.ref f)]) Q E s:=by
 refine call_function_entry_kw kind_sorted plain_sorted entry_sorted (ksk_s1 _ _) ?_;unfold dG.«sorted»;refine aa (m:=checkCount "sorted" 1 1 _) (ag ?_);refine aa (zeG ho hc hT hd (by rw[dU];lia) (aa (ic ?_ (by rw[dU];lia))));have z:((s.heap.push (seqObj "list" #[] 0)).update s.heap.objs.size (bw (·++vs.toArray))).objs.size=s.heap.objs.size+1:=by rw[dX,fO]
 have L:(preH s.heap vs).get? (s.heap.objs.size+1)=some (seqObj "list" vs.toArray 0):=by unfold preH;rw[<- z];exact aB _ rfl
 have keep:∀b o,s.heap.get? b=some o->(preH s.heap vs).get? b=some o:=fun b o q=>by have C:b<s.heap.objs.size:=aD q;unfold preH;rw[cS _ _ _ (by rw[z];exact aJ (nF C)),iz _ _ _ _ (aJ C),cS _ _ _ (aJ C)];exact q
 have zp:(preH s.heap vs).objs.size=s.heap.objs.size+2:=by unfold preH;rw[fO,z]
 show wpAny (model X.prog X.w) _ _ _ _ { s with heap:=preH s.heap vs };rw[z];generalize preH s.heap vs=h1 at L keep zp ⊢;generalize ha:s.heap.objs.size+1=a at L ⊢;refine aa (bW (wpAny_call_entry_kw pM ⟨_,L,rfl⟩ oK ?body (ksk_l1 _ _)));show wpAny (model X.prog X.w) A.in1.in1 (dG.«list.sort» ⟨[.ref a],[(aN "key",.ref f)]⟩) _ _ _;rw[ksk_t1];unfold ksk_tree;obtain⟨e1,R⟩:∃e1,(h1.update a (bw fun _=>(#[]:Array ae))).get? a=some (seqObj "list" #[] e1):=⟨_,gx L fun _=>#[]⟩;refine aa (ft L rfl ?_);refine aa (fD L rfl ?_ (by rw[aw,dU];lia) (bp _));refine aa (l4 R rfl ?_);refine aa (pK ?_ (by show vs.length<=_;rw[dU];lia));refine aa (ic ?_ (bp _));refine bW ?_;have s1:=cW h1 a (bw fun _=>(#[]:Array ae));have IM:∀b o,s.heap.get? b=some o->(((h1.update a (bw fun _=>(#[]:Array ae))).push (seqObj "tuple" vs.toArray 0)).push (seqObj "list" #[] 0)).get? b=some o:=fun b o q =>
  aq _ (aq _ ((s1.2 b (aJ (au (aD q) (ha▸fP _)))).trans (keep b o q)))
 have S:((h1.update a (bw fun _=>(#[]:Array ae))).push (seqObj "tuple" vs.toArray 0)).objs.size=s.heap.objs.size+3:=by rw[fO,dX,zp]
 have hkN:(((h1.update a (bw fun _=>(#[]:Array ae))).push (seqObj "tuple" vs.toArray 0)).push (seqObj "list" #[] 0)).get? (s.heap.objs.size+3)=some (seqObj "list" #[] 0):=by rw[<- S];exact aB _ rfl
 have haN:(((h1.update a (bw fun _=>(#[]:Array ae))).push (seqObj "tuple" vs.toArray 0)).push (seqObj "list" #[] 0)).get? a=some (seqObj "list" #[] e1):=aq _ (aq _ R);show wpAny (model X.prog X.w) _ (vk a (.ref f) false vs.toArray e1 (.ref ((h1.update a (bw fun _=>(#[]:Array ae))).push (seqObj "tuple" vs.toArray 0)).objs.size)) _ _ { s with heap:=((h1.update a (bw fun _=>(#[]:Array ae))).push (seqObj "tuple" vs.toArray 0)).push (seqObj "list" #[] 0) };rw[S];have low:∀p∈X.pn++((f,fo)::pins),p.1<s.heap.objs.size:=fun p x=>aD (I.pin p x).1;have J:=I.kept (t':=s.toks) IM;have la:s.heap.objs.size<=a:=ha▸fP _;have N:s.heap.objs.size<=s.heap.objs.size+3:=cG _ _;have na:H a=none:=I.hok.fresh la;refine zlh (G:=G) (kS:=s.heap.objs.size+3) (J.pins_of fun p x=>?_) g (fun p x=>?_) (fun p x=>?_) (aP I.sz N) (aP I.sz la) U h64 turn fun H' s' out g' hn' ko hi=>⟨_,rfl,ag ⟨_,rfl,h H' s' out a g' na hn' ko hi⟩⟩;rcases ay.mp x with rfl|x;exact⟨hkN,I.hok.fresh N,gM (au I.lt N),I.nofs N,fun v z=>by cases z⟩;rcases ay.mp x with rfl|x;exact⟨haN,na,gM (au I.lt la),I.nofs la,fun v z=>by cases z⟩;exact J.pin p (aL _ x);rcases ai.mp x with x|x;exact aJ (au (low p (b7 _ x)) N);rcases ay.mp x with rfl|x;exact aJ (show a<_ by rw[<- ha];exact fZ (by decide) _);exact aJ (au (low p (aL _ x)) N);exact aJ (au (low p (ai.mp x|>.elim (fun z=>b7 _ z) fun z=>aL _ (.tail _ z))) la)
end
def zhu(d G:DTE):DTA:=fun C n R=>d C n fun t u=>Qn t fun ts=>ts.length<100000/\∃key:ab->Int,(∀t∈ts,∀x:ab->Nat->Prop,x (.int (key t)) u->G [some (.val t)] u x) /\
 ∀o:List ab,o.Perm ts->o.Pairwise (fun a b=>key a<=key b)->R o u
section
variable{X:Cx}{e:aT}{d dk:DTE}{pos p kp lp:Pos}{k':Nat}{q x:Str}{params:ka}{body:aT}{scope:dF}{c P:af}
theorem zij(hr:Room (k'+3) X.A)(hm:X.mg "sorted" = none) (h:DL X e d) (hs:starEach [e] X.env=[(false,eval e X.env)]) (L:zp8 X.mg X.base c P) (hP:X.H₀ P=some (.tbl q)) (Ir:X.env.code=.ref c) (hq:X.env.qual ++ "<lambda>" = q)
  (S:Qp [x] [x] scope) (hcl:closureFor scope X.env=pure []) (IE:defaultsOf params X.env=([],[])) (hb:∀pm cv ctv u,bindArgs (kla_fn "<lambda>" q params body scope [] pm cv ctv) ⟨[u],[]⟩=pure [(x,u)])
  (hk:∀(f:af) (cv:ae) (A:aX) (s:aj) (H:Hp),DE (cxOf CX0 X.prog X.w X.K X.mg X.base [x] q scope f cv A X.stack s H E0).nox body dk)
  (hg:Gl X "sorted":=by rfl) :
  DN X (.Call (.Name "sorted" p) [e] [⟨some "key",.Lambda params body scope lp,kp⟩] pos) (zhu d dk):=by
 obtain⟨ta,pa,h⟩:=h;refine⟨fun σ H Q=>∀pins s,Inv X pins σ H s->wpAny (model X.prog X.w) X.A (eval (.Call (.Name "sorted" p) [e] [⟨some "key",.Lambda params body scope lp,kp⟩] pos) X.env) (EP X pins σ Q) X.xe s,fun pins s σ H Q I h=>h pins s I,fun C ρ σ H n Q R S0 hd hQ pins s I=>?_⟩;refine e9 (Yx I hg hm boot_sorted ?_);have hsb:backTo pos (starEach [e] X.env)=[(false,eval e X.env)]:=by rw[hs];rfl
 refine callWith_kw ?_ (by rw[hsb];rfl) (by rw[hsb];rfl);rw[hsb];refine mP (thn (pa pins s σ H (fun v H1=>∃t U,(Qn t fun ts=>ts.length<100000/\∃key:ab->Int,(∀t∈ts,∀R':ab->Nat->Prop,R' (.int (key t)) U->dk [some (.val t)] U R') /\
  ∀Y:List ab,Y.Perm ts->Y.Pairwise (fun a b=>key a<=key b)->R Y U)/\ExtE C.hd H H1/\Hn X.K C.hd H1 U/\RepT X.K C.hd (Own C ρ σ) H1 v t) I (h C ρ σ H n _ _ S0 hd fun t U v H1 r1 e1 h1 q1=>⟨t,U,r1,e1,h1,q1⟩)) fun u s1 hu=>ng ?_)
 obtain⟨v,H1,I1,rv,t,U,r1,e1,h1,q1⟩:=hu;have S1:=S0.on e1 h1;show wpAny (model X.prog X.w) X.A (evalAll [do let v <- eval (.Lambda params body scope lp) X.env;standAt pos;pure v]) _ _ s1;refine wpAny_evalAll_cons (aa (zsx I1 L hP Ir hcl IE hq fun f cv ctv pm H2 s2 I2 up hf0 hfo hfn hcr=>aa (dS (ag ?_))));refine wpAny_evalAll_nil ?_;show wpAny (model X.prog X.w) X.A (call (.builtin "sorted") [u] [(aN "key",.ref f)]) _ _ s2;have e2:ExtE C.hd H1 H2:=fun a o ha _=>up a o ha;have h2:Hn X.K C.hd H2 U:=h1.same up;have I2f:Inv X ((f,lamO q params body scope pm cv ctv)::pins) σ H2 s2:=I2.pins_of fun p hp=>by rcases ay.mp hp with rfl|hp;exact⟨hfo,hfn,gM (au I1.lt hf0),I1.nofs hf0,fun v z=>by cases z⟩;exact I2.pin p (aL _ hp)
 have go:∀(l:af) (xs:List V) (ts:qD) (its:List ae) (o:Obj) (T:String) (m:Nat),Reps X.K C.hd (Own C ρ σ) H1 xs ts->Vals xs its->s2.heap.get? l=some o->o.cls=.type T->(T = "list" \/ T = "tuple")->o.data=.seq its.toArray m ->
   (ts.length<100000/\∃key:ab->Int,(∀t∈ts,∀R':ab->Nat->Prop,R' (.int (key t)) U->dk [some (.val t)] U R')/\∀Y:List ab,Y.Perm ts->Y.Pairwise (fun a b=>key a<=key b)->R Y U) ->
   wpAny (model X.prog X.w) X.A (call (.builtin "sorted") [.ref l] [(aN "key",.ref f)]) (EP X pins σ Q) X.xe s2:=fun l xs ts its o T m rp rx ho hc hT Z hh=>by
  obtain⟨l64,key,hkey,hR⟩:=hh;have ln:=rp.length;have lx:=rx.length;refine zhI (G:=fun H'=>ExtE C.hd H2 H'/\Hn X.K C.hd H' U) (kz:=ts.map key) I2f ⟨.refl,h2⟩ ho hc hT Z (by rw[ao];lia) (by lia) (fun i u k hu hki Hx H' s' hm J g=>?_) fun H' s' out a g na na' ko hinv=>?_
  ·have hi:i<ts.length:=by
    have:=(ah.mp hki).1;simpa using this
   have ek:k=key ts[i]:=by rw[a6,ak hi]at hki;exact(aI hki).symm
   obtain⟨v,hv,rv⟩:=rp.get (ak hi);obtain⟨u',hu',ru⟩:=rx.get hv;rw[hu]at hu';cases hu';have S':=(S1.on e2 h2).on g.1 g.2;have rv':=g.1.rep S'.hx (e2.rep S'.hx rv);obtain⟨te,pe,hte⟩:=hk f cv X.A.in1.in1 s' H';have hcr':Va H' cv q:=by obtain⟨c',o',u',vs',t',z1,z2,z3⟩:=hcr;refine⟨c',o',u',vs',t',z1,g.1 c' _ z2 fun z=>?_,z3⟩;obtain⟨_,y⟩:=h2.lst z;rw[z2]at y;cases y
   obtain⟨S0',no⟩:=zd7 (N:=[x]) (.cons rv' .nil) g.2 (fun a=>S'.lst) fun a z=>.inl (S'.hx a z);refine o7 (fR (zm7 (k:=k') S (hr.in1).in1 J.env0.in1.in1 (J.pin _ (aL _ hm)).1 (hcr'.rec J.hok) (hb _ _ _ _) ru pe (hte ⟨C.hd,Own C ρ σ⟩ _ _ H' U (fun v H''=>v=.int k/\ExtE C.hd H2 H''/\Hn X.K C.hd H'' U) (fun t n'=>t=.int k/\n'=U) S0' (hkey _ (eU hi) _ ⟨by rw[ek],rfl⟩)
    fun t n' v H'' hr e h q=>?_)) fun r s' hq=>?_)
   obtain⟨rfl,rfl⟩:=hr;exact⟨q.intI,g.1.trans e,h⟩
   ·cases r with
    | error e=>exact hq.elim
    | ok fl =>
     cases fl with
     | ret u =>obtain⟨v',H'',J',rv,rfl,g'⟩:=J.after hq;obtain⟨t,rfl⟩:=rv;exact⟨t,H'',rfl,J',g'⟩
     | next=>exact cm hq
     | brk=>exact cm hq
     | cont=>exact cm hq
  obtain⟨zs,zp,zv,zw⟩:=zlf rx ln ko;have S':=(S1.on e2 h2).on g.1 g.2;have rel:∀z∈zs,Rep X.K C.hd (Own C ρ σ) H' z.1 z.2:=fun z hz=>by
   obtain⟨i,hi,rfl⟩:=aY (zp.mem_iff.mp hz);have hi2:i<ts.length:=by simp at hi;lia
   obtain⟨v,h1,h2⟩:=rp.get (ak hi2);have hi1:i<xs.length:=by lia
   rw[ak hi1]at h1;cases h1;have:=g.1.rep S'.hx (e2.rep S'.hx h2);simpa using this
  have rp':Reps X.K C.hd (Own C ρ σ) H' (zs.map (·.1)) (zs.map (·.2)):=by
   have:∀zs:List (V×ab),(∀z∈zs,Rep X.K C.hd (Own C ρ σ) H' z.1 z.2)->Reps X.K C.hd (Own C ρ σ) H' (zs.map (·.1)) (zs.map (·.2)):=by
    intro zs;induction zs with
    | nil=>intro _;exact .nil
    | cons a l ih=>intro h;exact .cons (h a (.head _)) (ih fun x hx=>h x (.tail _ hx))
   exact this zs rel
  have lz:zs.length<=sizeLine:=by have:=zp.length_eq;simp at this;rw[dU];lia
  have ee:ExtE C.hd H H':=e1.trans (e2.trans g.1);refine⟨.ref a,_,hinv _ zv (by rw[ao];exact lz),rfl,hQ (zs.map (·.2)) U a _ _ (hR _ ?_ ?_) (ee.trans (ExtE.new na')) (g.2.same (J9 na')) (VD ee g.2 na') JH (ziF na' rp')⟩;have:=zp.map (·.2);rwa [fU (by lia)]at this;rw[cx];exact zw
 have q2:=q1;cases t with
 | list ts =>obtain⟨l,xs,rfl,h1',hrp⟩:=q1.lstI;cases rv;obtain⟨its,r',pl,hz⟩:=I2.list (.of (up _ _ h1'));obtain⟨o,ho,hc,m,Z⟩:=pl.isList;exact go l xs ts its o "list" m hrp r' ho hc (.inl rfl) Z r1
 | tuple ts =>obtain⟨l,xs,rfl,h1',hrp⟩:=q1.tupI;cases rv;obtain⟨its,r',pl,hz⟩:=I2.tuple (h1'.imp (fun r=>r.imp (up _ _) fun⟨o,z⟩=>⟨o,up _ _ z⟩) id);obtain⟨o,ho,hc,m,Z⟩:=pl;exact go l xs ts its o "tuple" m hrp r' ho hc (.inr rfl) Z r1
 | _=>exact r1.elim
variable{ρ:En}{n:Nat}{Rl:List ab->Nat->Prop}
instance zp9:Stp (zhu d dk ρ n Rl) (d ρ n fun t n1=>Qn t fun ts=>ts.length<100000/\∃key:ab->Int,(∀t∈ts,∀R':ab->Nat->Prop,R' (.int (key t)) n1->dk [some (.val t)] n1 R')/\∀ts':List ab,ts'.Perm ts->ts'.Pairwise (fun a b=>key a<=key b)->Rl ts' n1):=⟨fun h=>h⟩
end
end L2
namespace L2
open PySem PySem.Spec PyProof PyProof.Rows
def lsD(q:Int×Int):ab:=.list [.int q.1,.int q.2]
def prL(qs:PR):KT2:=qs.map fun q=>(q.1,lsD q.2)
theorem VC{qs:PR}{k:Int×Int}:valT (prL qs) k=(valP qs k).map lsD:=by
 unfold valT valP prL;induction qs with
 | nil=>rfl
 | cons q qs l =>rw[aC,bU,bU];dsimp only;cases decide (q.1=k);exact l;rfl
theorem zmI{qs:PR}{b v:Int×Int}(h:b∉qs.map (·.1)):putT (prL qs) b (lsD v)=prL (qs++[(b,v)]):=by
 unfold putT prL;have e:((qs.map fun q=>(q.1,lsD q.2)).any fun q=>decide (q.1=b))=false:=by rw[gN];intro x hx;obtain⟨q,l,rfl⟩:=a7.mp hx;rw[decide_eq_true_eq];exact fun z=>h (a7.mpr ⟨q,l,z⟩)
 rw[e];simp
theorem zgn{qs:PR}{k:Int×Int}(h:k∉qs.map (·.1)):valP qs k=none:=by
 cases e:valP qs k with
 | none=>rfl
 | some v=>exact absurd (a7.mpr ⟨_,Ql e,rfl⟩) h
theorem zgm{qs rs:PR}(nd:(qs.map (·.1)).Nodup)(p:rs.Perm qs)(k:Int×Int):valP rs k=valP qs k:=by
 have x:(rs.map (·.1)).Nodup:=(p.map (·.1)).symm.nodup nd;cases e:valP qs k with
 | none =>refine zgn fun z=>?_;obtain⟨v,l⟩:=UU ((p.map (·.1)).mem_iff.mp z);rw[e]at l;cases l
 | some v=>exact zhF x (q:=(k,v)) (p.mem_iff.mpr (Ql e))
section
variable{bits:Int}{ps bs:BL}{qs rs:PR}{b q l u:Int×Int}
def RgP(ps:BL)(qs:PR)(b q:Int×Int):Prop:=∀no al:Bool,(no=true↔HasN ps b)->(al=true↔HasA ps b)->rgtD (bpD no al qs b) q=true
theorem RgP.cong(h:RgP ps qs b q)(e:∀k v,valP qs k=some v->valP rs k=some v):RgP ps rs b q:=fun no al o ha=>by
 have h:=h no al o ha;cases no with
 | true=>exact h
 | false =>
  cases al with
  | true=>exact h
  | false =>
   unfold bpD at h ⊢;simp only[aO,if_false]at h ⊢;cases e1:valP qs (loH b) with
   | none=>rw[e1]at h;cases h
   | some x =>
    cases e2:valP qs (upH b) with
    | none=>rw[e1,e2]at h;cases h
    | some y =>rw[e1,e2]at h;rw[e _ _ e1,e _ _ e2];exact h
theorem zfH(h:(HasN ps b/\q.1<=0/\q.2<=1)\/(¬HasN ps b/\HasA ps b/\q.1<=1/\q.2<=0)):RgP ps qs b q:=fun no al x ha=>by rcases h with⟨h,v,o⟩|⟨h,h',v,o⟩;rw[x.mpr h];simp[bpD,rgtD,v,o];have e:no=false:=cR.mpr fun z=>h (x.mp z);rw[e,ha.mpr h'];simp[bpD,rgtD,v,o]
theorem ziC(h:Prt ps b)(o:valP qs (loH b)=some l)(C:valP qs (upH b)=some u)(J:q.1<=(jn l u).1)(v:q.2<=(jn l u).2):RgP ps qs b q:=fun no al x ha=>by have G:no=false:=cR.mpr fun z=>h.1 (x.mp z);have I:al=false:=cR.mpr fun z=>h.2 (ha.mp z);subst G I;unfold bpD;simp only[aO,if_false];rw[o,C];show(decide (q.1<=(jn l u).1)&&decide (q.2<=(jn l u).2))=true;rw[decide_eq_true J,decide_eq_true v];rfl
theorem zmB(h:Prt ps b->(∃l,valP qs (loH b)=some l/\0<=l.1/\0<=l.2)/\∃u,valP qs (upH b)=some u/\0<=u.1/\0<=u.2):RgP ps qs b (0,0):=by by_cases p:Prt ps b;obtain⟨⟨l,o,C,I⟩,u,v,G,x⟩:=h p;refine ziC p o v ?_ ?_;show(0:Int)<=(jn l u).1;unfold jn;dsimp only;split <;> lia;show(0:Int)<=(jn l u).2;unfold jn;dsimp only;split <;> lia;refine zfH ?_;by_cases n:HasN ps b;exact .inl ⟨n,by decide,by decide⟩;exact .inr ⟨n,a8 fun a=>p ⟨n,a⟩,by decide,by decide⟩
theorem Vr{l u:Int×Int}(C:0<=l.1)(o:0<=l.2)(v:0<=u.1)(x:0<=u.2):0<=(jn l u).1/\0<=(jn l u).2:=by unfold jn;dsimp only;constructor <;> split <;> lia
theorem zpj{l u o v:Int×Int}(I:l.1<=o.1)(x:l.2<=o.2)(C:u.1<=v.1)(G:u.2<=v.2):(jn l u).1<=(jn o v).1/\(jn l u).2<=(jn o v).2:=by unfold jn;dsimp only;constructor <;> (repeat' split) <;> lia
theorem RgP.get(h:RgP ps qs b q):(HasN ps b/\q.1<=0/\q.2<=1)\/(HasA ps b/\q.1<=1/\q.2<=0)\/(Prt ps b/\∃l u,valP qs (loH b)=some l/\valP qs (upH b)=some u/\q.1<=(jn l u).1/\q.2<=(jn l u).2):=by
 classical
 have h:=h (decide (HasN ps b)) (decide (HasA ps b)) (by rw[decide_eq_true_eq]) (by rw[decide_eq_true_eq]);by_cases hn:HasN ps b;rw[decide_eq_true hn]at h;exact .inl ⟨hn,by simpa[bpD,rgtD] using h⟩;rw[decide_eq_false hn]at h;by_cases ha:HasA ps b;rw[decide_eq_true ha]at h;exact .inr (.inl ⟨ha,by simpa[bpD,rgtD] using h⟩);rw[decide_eq_false ha]at h;unfold bpD at h;simp only[aO,if_false]at h;cases e1:valP qs (loH b) with
 | none=>rw[e1]at h;cases h
 | some x =>
  cases e2:valP qs (upH b) with
  | none=>rw[e1,e2]at h;cases h
  | some y =>rw[e1,e2]at h;have h:(decide (q.1<=(jn x y).1)&&decide (q.2<=(jn x y).2))=true:=h;rw[aW,decide_eq_true_eq,decide_eq_true_eq]at h;exact .inr (.inr ⟨⟨hn,ha⟩,x,y,rfl,rfl,h.1,h.2⟩)
theorem zhK{Z:Int->Prop}(C:∀x,Z x↔mB x ps)(bk:∀q∈qs,IsBk bits q.1.1 q.1.2)(ok:∀q∈qs,RgP ps qs q.1 q.2):∀(n:Nat) (q:(Int×Int)×(Int×Int)),q∈qs->q.1.2=(n:Int)->q.2.1<=(kst Z n q.1.1).1/\q.2.2<=(kst Z n q.1.1).2
 | n,q,hq,e=>by
  have B:=bk q hq;have J:eB q.1=q.1.1+2 ^ n:=by unfold eB;rw[e,cP]
  rcases(ok q hq).get with⟨N,h⟩|⟨ha,h⟩|⟨pr,l,u,L,R,v,o⟩;rw[VH n q.1.1 fun x v o=>(not_congr (C x)).mpr (UW.mp N x v (by rw[J];exact o))];exact h;rw[kst_all n q.1.1 fun x v o=>(C x).mpr (zib ha x v (by rw[J];exact o))];exact h;have G:=pr.pos B;match n,e with
  | 0,e=>rw[e]at G;exact absurd G (by decide)
  | n+1,e =>
   have g:q.1.2 - 1=(n:Int):=by lia
   have i1:=zhK C bk ok n _ (Ql L) g;have I:=zhK C bk ok n _ (Ql R) g;rw[up_eq B G,g,cP]at I;have:=zpj i1.1 i1.2 I.1 I.2;show q.2.1<=(jn (kst Z n q.1.1) (kst Z n (q.1.1+2 ^ n))).1/\q.2.2<=(jn (kst Z n q.1.1) (kst Z n (q.1.1+2 ^ n))).2;exact⟨bo v this.1,bo o this.2⟩
theorem zmq(o:0<=bits)(P:Ptc bits bs)(C:CanP (fun x=>mB x bs) ps)(bk:∀q∈qs,IsBk bits q.1.1 q.1.2)(ok:∀q∈qs,RgP ps qs q.1 q.2){v:Int×Int}(e:valP qs (0,bits)=some v):v.1<=zjB bits ps:=by rw[zm0 o C fun x hx=>UP o P.1 hx];exact(zhK (fun x=>(C.mem x).symm) bk ok bits.toNat _ (Ql e) (mG o).symm).1
structure OwnP(bits:Int)(ps:BL)(qs:PR):Prop where
 nd:(qs.map (·.1)).Nodup
 bk:∀q∈qs,IsBk bits q.1.1 q.1.2
 ok:∀q∈qs,0<=q.2.1/\0<=q.2.2/\RgP ps qs q.1 q.2
theorem OwnP.perm(h:OwnP bits ps qs)(p:rs.Perm qs):OwnP bits ps rs :=
 ⟨(p.map (·.1)).symm.nodup h.nd,fun q x=>h.bk q (p.mem_iff.mp x),fun q x=>by have:=h.ok q (p.mem_iff.mp x);exact⟨this.1,this.2.1,this.2.2.cong fun k v e=>(zgm h.nd p k).trans e⟩⟩
theorem OwnP.app{b q:Int×Int}(h:OwnP bits ps qs)(B:IsBk bits b.1 b.2)(n:b∉qs.map (·.1))(G:0<=q.1)(C:0<=q.2)(r:RgP ps qs b q):OwnP bits ps (qs++[(b,q)]):=by
 refine⟨?_,fun x hx=>?_,fun x hx=>?_⟩;rw[bJ];refine cT.mpr ⟨h.nd,by simp,fun c hc d hd e=>?_⟩;have:d=b:=by simpa using hd
 subst this e;exact n hc;rcases ai.mp hx with z|z;exact h.bk x z;cases ax.mp z;exact B;rcases ai.mp hx with z|z;exact⟨(h.ok x z).1,(h.ok x z).2.1,(h.ok x z).2.2.cong fun k v e=>YT e⟩;cases ax.mp z;exact⟨G,C,r.cong fun k v e=>YT e⟩
theorem before{us:BL}{k:Nat}{c:Int×Int}(so:us.Pairwise fun a b=>a.2<=b.2)(x:us[k]?=some b)(hc:c∈us)(lt:c.2<b.2):c∈us.take k:=by obtain⟨i,hi,e⟩:=aY hc;obtain⟨o,v⟩:=ah.mp x;rcases cw i k with h|h|h;exact iT.mpr ⟨i,by lia,e⟩;subst h;rw[v]at e;rw[e]at lt;exact absurd lt (Int.lt_irrefl _);have:=aQ.mp so k i o hi h;rw[v,e]at this;exact absurd lt (gA.mpr this)
theorem zmS{fs us:BL}{k:Nat}(W:WInv bits ps fs [])(pm:us.Perm fs)(so:us.Pairwise fun a b=>a.2<=b.2)(O:OwnP bits ps qs)(keys:qs.map (·.1)=us.take k)(o:us[k]?=some b) :
  IsBk bits b.1 b.2/\b∉qs.map (·.1)/\(Prt ps b->∃l u,valP qs (loH b)=some l/\valP qs (upH b)=some u/\0<=l.1/\0<=l.2/\0<=u.1/\0<=u.2)/\(¬Prt ps b->valP qs (loH b)=none):=by
 have mem:∀c,c∈fs++[]↔c∈us:=fun c=>by rw[bE];exact pm.mem_iff.symm
 have hb:=aM o;have B:=W.bk b ((mem b).mpr hb);have L:us.Nodup:=pm.symm.nodup (by have:=W.nd;rwa [bE]at this);have get:∀c,c∈us->c.2<b.2->∃v,valP qs c=some v/\0<=v.1/\0<=v.2:=fun c hc lt=>by obtain⟨v,e⟩:=UU (qs:=qs) (k:=c) (by rw[keys];exact before so o hc lt);have:=O.ok _ (Ql e);exact⟨v,e,this.1,this.2.1⟩
 refine⟨B,fun z=>?_,fun pr=>?_,fun np=>zgn fun z=>?_⟩;rw[keys]at z;obtain⟨j,Z,e⟩:=iT.mp z;obtain⟨G,J⟩:=ah.mp o;have:=(nW L).mp (e.trans J.symm);lia;have Y:=pr.pos B;have x:=W.kid b (pm.mem_iff.mp hb) pr;obtain⟨l,C,N,U⟩:=get _ ((mem _).mp x.1) (show b.2 - 1<b.2 by lia);obtain⟨u,S,R,I⟩:=get _ ((mem _).mp x.2) (show b.2 - 1<b.2 by lia);exact⟨l,u,C,S,N,U,R,I⟩;rw[keys]at z;have z:=(mem _).mpr (cH z);rcases fV b.2 1 with h|h;have:0<=b.2 - 1:=(W.bk _ z).1;lia;exact W.fresh B h (.inr np) _ (.inl rfl) z
end
def unP:ab->Int×Int
 | .tuple [.int a,.int b]=>(a,b)
 | _=>(0,0)
theorem zoU{us:qD}{fs:BL}(pm:us.Perm (pD fs)):us=pD (us.map unP)/\(us.map unP).Perm fs:=by
 have e:∀l:BL,(pD l).map unP=l:=fun l=>by unfold pD;rw[cD];exact(cn fun p _=>rfl).trans (gJ l)
 refine⟨?_,e fs▸pm.map unP⟩;unfold pD;rw[cD];refine((cn fun t o=>?_).trans (gJ us)).symm;obtain⟨p,_,rfl⟩:=a7.mp (pm.mem_iff.mp o);rfl
theorem zge{tg:DTG}{tt:DTT}{d:DTE}{ρ0:En}{Rl:List ab->Nat->Prop}{A B:Int}{m:Nat}(a0:0<=A)(I:0<=B)
  (turn:∀(y:Int) (u:Nat) (K:qN) (X:Nat->Prop),0<=y->u<=m+1->(∀z l,0<=z->z<=y->l<=u+1->K (.int z) l)->tg (.int y) ρ0 fun v=>tt v u fun b o=>if b=true then d v o K else X o)
  (fin:∀x y C,0<=x->x<=A->0<=y->y<=B->C<=m+2->Rl [.int x,.int y] C):JP tg tt d ρ0 [.int A,.int B] [] m Rl :=
 turn A m _ (fun o=>JP tg tt d ρ0 [.int B] [] o Rl) a0 (fP m) fun x u x0 x1 L=>⟨by decide,turn B u _ (fun o=>JP tg tt d ρ0 [] [.int x] o Rl) I L fun y l G J N=>⟨by simp,fin x y l x0 x1 G J (by lia)⟩⟩
section
variable{X:Cx}{e:aT}{d:DTA}{pos p2 cp:Pos}{x:Str}
def znP(i:Nat)(d:DTA):DTS:=fun D l n=>d l n fun ts o=>∃ks:KT2,ts=ks.map prT/\D.nx (l.set i (some (.dtt (mkT ks)))) o
theorem znt{i:Nat}{u:Pos}(hc:X.calm=true)(hu:X.A.units+64<cLine)(J:X.mg "dict" = none) (hN:X.N.Nodup) (hi:X.N[i]?=some x) (hx:Loc X.env.scope x) (h:DN X e d) (I:starEach [e] X.env=[(false,eval e X.env)]:=by rfl) (L:Gl X "dict":=by rfl)
  (hs:swapsWith (.Call (.Name "dict" p2) [e] [] cp) (some (.Name x u)) pos.line X.env=pure false:=by rfl) (hf:Fnl X x:=by walk_at "F") :
  DS X (.Assign [.Name x u] (.Call (.Name "dict" p2) [e] [] cp) pos) (znP i d):=by
 obtain⟨ta,pa,h⟩:=h;refine⟨_,QC hN hi hx (zgT (zjZ hc hu) L J rfl (Qr pa QV I) (he:=I)) hs hf,fun C Y σ H n D D' S hd g=>?_⟩;refine h C Y σ H n _ _ S hd fun ts n1 p vs H1 ⟨ks,R,r⟩ U G Z hp rp=>?_;subst R;obtain⟨zs,z1,z2⟩:=zmD rp;refine⟨p,vs,zs,rfl,hp,z1,fun l ep v=>?_⟩;have S1:=S.on U G;have rk:Jk X.K C.hd (fun a=>Own C Y σ a\/a=p) H1 (mkZ zs) (mkT ks):=zjl z2 .nil;exact g.nx _ _ _ n1 r (S1.putNew (i:=i) (c:=.dtt (mkT ks)) (ExtE.new v) (G.same (J9 v)) v ⟨mkZ zs,ep,JH,rk.mono (fun a o ha z=>z.elim .inl fun y=>by subst y;rw[v]at ha;cases ha) fun b o _ hb=>J9 v b o hb⟩) (U.keep.trans (VY (ExtE.new v) v))
instance ztH {ρ:En}{n i:Nat}{D:JM}:Stp (znP i d D ρ n) (d ρ n fun ts n1=>∃ks:KT2,ts=ks.map prT/\SetK i (some (.dtt (mkT ks))) D.nx ρ n1):=⟨fun h=>h⟩
end
theorem zpe{ks:KT2}{c:Int×Int}:c∈(mkT ks).map (·.1)↔c∈ks.map (·.1) :=
 (zhq (F:=fun z:(Int×Int)×ab=>z.1) (G:=fun z=>z.2)).trans (or_iff_right (fun h=>nomatch h))
theorem zn2:∀{ks acc:KT2},(ks.foldl (fun acc z=>putT acc z.1 z.2) acc).length<=acc.length+ks.length
 | [],acc=>av _
 | z::ks,acc=>by
  have h:=zn2 (ks:=ks) (acc:=putT acc z.1 z.2);have:(putT acc z.1 z.2).length<=acc.length+1:=by have e:∀{l:KT2},(l.map (·.1)).length=l.length:=ao ..;rcases VG (acc:=acc) (k:=z.1) (t:=z.2) with⟨h,_⟩|⟨h,_⟩ <;> have h:=congrArg bL h <;> simp at h <;> lia
  rw[eC,aG];lia
theorem znz{o:Type}{G:o->ab}{P:o->Prop}{tg:DTG}{tt:DTT}{d:DTE}{ρ0:En}{n:Nat}{xs:qD}{Rl:List ab->Nat->Prop}(U:xs.length<=16777216)
  (step:∀x∈xs,∀(m:Nat) (K:qN) (X:Nat->Prop),m<=n+xs.length->(∀b u,P b->u<=m+1->K (G b) u)->tg x ρ0 fun l=>tt l m fun c I=>if c=true then d l I K else X I)
  (fin:∀(bs:List o) m,bs.length=xs.length->(∀b∈bs,P b)->m<=n+xs.length->Rl (bs.map G) m):JP tg tt d ρ0 xs [] n Rl:=by
 refine zlT (fun j acc m=>j<=xs.length/\m<=n+j/\∃bs:List o,acc=bs.map G/\bs.length=j/\∀b∈bs,P b) ⟨bp _,av _,[],rfl,rfl,(fun b h=>nomatch h)⟩ ?_ ?_;rintro j x acc m K J ⟨S,L,bs,rfl,v,hb⟩ hK;have C:=(ah.mp J).1;refine step x (aM J) m _ _ (by lia) fun b u R N=>⟨by rw[ao];lia,hK _ _ ⟨C,by lia,bs++[b],by rw[bJ];rfl,by rw[aH,v];rfl,fun c hc=>?_⟩⟩;rcases ai.mp hc with h|h;exact hb c h;cases ax.mp h;exact R;rintro acc m ⟨_,L,bs,rfl,v,hb⟩;exact fin bs m v hb L
structure Qx(bits:Int)(rs:PR)(cs:BL)(k:Nat)(qs:PR)(ts:KT2):Prop where
 zs:∃zs:BL,(∀c∈zs,c∈cs)/\qs=rs++zs.map fun c=>(c,(0,0))
 nd:(qs.map (·.1)).Nodup
 bk:∀q∈qs,IsBk bits q.1.1 q.1.2
 has:∀c∈cs.take k,c∈qs.map (·.1)
 kn:∀c,c∈ts.map (·.1)↔c∈qs.map (·.1)
 lt:ts.length<=rs.length+k
 lq:qs.length<=rs.length+k
section
variable{bits:Int}{ps:BL}{rs qs:PR}{cs fs:BL}{k:Nat}{ts:KT2}{b:Int×Int}{t:ab}
theorem Qx.start(O:OwnP bits ps rs)(e:ts.map (·.1)=rs.map (·.1)):Qx bits rs cs 0 rs (mkT ts) where
 zs:=⟨[],(fun c h=>nomatch h),by simp⟩
 nd:=O.nd
 bk:=O.bk
 has:=fun c h=>by simp at h
 kn:=fun c=>by rw[zpe,e]
 lt:=by have h:=zn2 (ks:=ts) (acc:=[]);have e:=congrArg bL e;rw[ao,ao]at e;rw[e]at h;show(ts.foldl (fun acc z=>putT acc z.1 z.2) []).length<=_;simpa using h
 lq:=av _
theorem zix{l:BL}(o:cs[k]?=some b)(h:∀c∈cs.take k,c∈l)(hb:b∈l):∀c∈cs.take (k+1),c∈l:=fun c hc=>by rw[d0,o]at hc;rcases ai.mp hc with z|z;exact h c z;cases ax.mp z;exact hb
theorem Qx.old(I:Qx bits rs cs k qs ts)(l:cs[k]?=some b)(h:(valT ts b).isSome=true):Qx bits rs cs (k+1) qs ts where
 zs:=I.zs
 nd:=I.nd
 bk:=I.bk
 has:=zix l I.has ((I.kn b).mp (ziw.mp h))
 kn:=I.kn
 lt:=iZ I.lt
 lq:=iZ I.lq
theorem Qx.new(I:Qx bits rs cs k qs ts)(u:cs[k]?=some b)(h:(valT ts b).isSome=false)(B:IsBk bits b.1 b.2):Qx bits rs cs (k+1) (qs++[(b,(0,0))]) (putT ts b t):=by
 have nb:b∉ts.map (·.1):=fun z=>by rw[ziw.mpr z]at h;cases h
 have e:(putT ts b t).map (·.1)=ts.map (·.1)++[b]:=by rcases VG (acc:=ts) (k:=b) (t:=t) with⟨_,z⟩|⟨z,_⟩;exact absurd z nb;exact z
 have l:=congrArg bL e;rw[aH,ao,ao,d9]at l;obtain⟨zs,hz,C⟩:=I.zs;refine⟨⟨zs++[b],(fun c hc=>(ai.mp hc).elim (hz c) fun z=>by cases ax.mp z;exact aM u),by rw[C,bJ,aA];rfl⟩,?_,fun q v=>?_,zix u (fun c hc=>?_) (by simp),fun c=>?_,?_,?_⟩;rw[bJ];refine cT.mpr ⟨I.nd,by simp,fun c hc d hd x=>?_⟩;have:d=b:=by simpa using hd
 rw[x,this]at hc;exact nb ((I.kn b).mpr hc);rcases ai.mp v with z|z;exact I.bk q z;cases ax.mp z;exact B;rw[bJ];exact b7 _ (I.has c hc);rw[e,bJ,ai,ai,I.kn c];rfl;have:=I.lt;lia;have:=I.lq;rw[aH,d9];lia
theorem Qx.own(O:OwnP bits ps rs)(W:WInv bits ps fs [])(z:∀c∈cs,c∈fs\/c.2=0)(sub:∀c∈fs,c∈cs)(I:Qx bits rs cs cs.length qs ts):OwnP bits ps qs:=by
 obtain⟨zs,hz,rfl⟩:=I.zs;have l:∀q∈rs++zs.map (fun c=>(c,((0:Int),(0:Int)))),0<=q.2.1/\0<=q.2.2:=fun q u=>by rcases ai.mp u with h|h;exact⟨(O.ok q h).1,(O.ok q h).2.1⟩;obtain⟨c,_,rfl⟩:=a7.mp h;exact⟨aE _,aE _⟩
 have get:∀c∈fs,∃v,valP (rs++zs.map fun c=>(c,(0,0))) c=some v/\0<=v.1/\0<=v.2:=fun c hc=>by obtain⟨v,e⟩:=UU (I.has c (by rw[dr];exact sub c hc));exact⟨v,e,l _ (Ql e)⟩
 refine⟨I.nd,I.bk,fun q u=>⟨(l q u).1,(l q u).2,?_⟩⟩;rcases ai.mp u with h|h;exact(O.ok q h).2.2.cong fun k v e=>YT e;obtain⟨c,hc,rfl⟩:=a7.mp h;refine zmB fun p=>?_;rcases z c (hz c hc) with h|h;have x:=W.kid c h p;rw[bE]at x;exact⟨get _ x.1,get _ x.2⟩;have:=p.pos (I.bk _ u);rw[h]at this;exact absurd this (by decide)
end
section
variable{bits:Int}{ps:BL}{qs rs:PR}{b:Int×Int}{k:Nat}
open Classical in
noncomputable def runP (bits:Int) (ps:BL):Nat->BL
 | 0=>[(0,bits)]
 | k+1=>match (runP bits ps k)[k]? with
  | none=>runP bits ps k
  | some b=>if Prt ps b then runP bits ps k++[loH b,upH b] else runP bits ps k
theorem zkq(h:(runP bits ps k)[k]?=some b)(n:¬Prt ps b):runP bits ps (k+1)=runP bits ps k:=by rw[runP,h];exact if_neg n
theorem zmy(h:(runP bits ps k)[k]?=some b)(y:Prt ps b):runP bits ps (k+1)=runP bits ps k++[loH b,upH b]:=by rw[runP,h];exact if_pos y
theorem zgI(h:(runP bits ps k).length<=k):∀m,runP bits ps (k+m)=runP bits ps k
 | 0=>rfl
 | m+1=>by have o:=zgI h m;show runP bits ps (k+m+1)=_;rw[runP,o,bM (by lia)]
def POrd(bits:Int)(ps:BL)(qs:PR):Prop:=(qs.map (·.1)).reverse=runP bits ps qs.length
theorem PrOk.same(Q:PrOk bits ps qs)(x:PrOk bits ps rs)(O:POrd bits ps qs)(u:POrd bits ps rs):rs=qs:=by
 have st:∀{l:PR},POrd bits ps l->∀m,runP bits ps (l.length+m)=(l.map (·.1)).reverse:=fun {l} h m=>by
  have e:(runP bits ps l.length).length<=l.length:=by rw[<- h];simp
  exact(zgI e m).trans h.symm
 have v:∀{l:PR},PrOk bits ps l->l=(l.map (·.1)).map fun b=>(b,zbm ps b.2.toNat b):=fun {l} h=>by rw[cD];exact((cn fun q o=>by show(q.1,zbm ps q.1.2.toNat q.1)=q;rw[<- h.val _ q o rfl]).trans (gJ l)).symm
 have e:=st O rs.length;rw[tY,st u qs.length]at e;rw[v Q,v x,List.reverse_inj.mp e]
theorem PrOk.own(Q:PrOk bits ps qs):OwnP bits ps qs:=⟨Q.nd,Q.bk,fun q l=>⟨(Q.pos q l).1,(Q.pos q l).2,fun no al o ha=>by rw[Q.rgt q l no al o ha];simp[rgtD]⟩⟩
end
end L2
namespace L2
open PySem PySem.Spec PySem.W PySem.Calls PyProof PyProof.Rows Att
section
variable{X:Cx}{x hx:Str}{st sh:dA}{ps ph:List Str}{k kh n:Nat}{g:GD}{e1 e2:aT}{ds:DTA}{p p2 p3 pos:Pos}
theorem zlK{P:af}{q:Str}(F:Bd.FQT ⟨X.prog,X.w,X.K,X.mg,X.base⟩ P q x st ps k 1 g)(hP:X.H₀ P=some (.tbl q))(Fh:Bd.Fq X.prog X.w X.K X.mg X.base hx sh ph kh (zkh X.K))(hr:Room n X.A)(h:DB X [e1,e2] ds)(hk:k<=n:=by decide)(L:kh<=n:=by decide)(hg:Gl X x:=by rfl)(hgh:Gl X hx:=by rfl)
  (J:Ndb x:=by rfl) (U:Ndb hx:=by rfl) (hs:starEach [.Call (.Name hx p2) [e1,e2] [] p3] X.env=[(false,eval (.Call (.Name hx p2) [e1,e2] [] p3) X.env)]:=by rfl):DE X (.Call (.Name x p) [.Call (.Name hx p2) [e1,e2] [] p3] [] pos) (zoi g ds):=by
 obtain⟨f,fd,D,G⟩:=F;obtain⟨fh,fdh,Dh,Gh⟩:=Fh;obtain⟨ta,pa,h⟩:=h;have Z:=QP (Bd.zoP Dh Gh (hr.mono L) pa hgh U) Ui hs;refine⟨_,ziK G hP (hr.mono hk) hg D.m D.F.kp D.b .nil zoW Z.pa J Z.hd.1 (Z.hd.2 pos),fun C ρ σ H n Q R S hd hq=>?_⟩;refine h C ρ σ H n _ _ S hd fun ts n1 vs H1 I x1 h1 q1 l1=>?_;have S1:=S.on x1 h1;obtain⟨ns,kk,rfl,hl,k0,k1,I⟩:=I;cases q1 with
 | cons y1 y2 =>
  cases y2 with
  | cons y3 y4 =>
   cases y4;obtain⟨a0,rfl,Y⟩:=y1.scrI;rw[y3.intI];refine⟨a0,ns,kk,rfl,Y,hl,k0,k1,fun b H2 hb hok sm=>?_⟩;refine⟨some b,fun a=>Own C ρ σ a\/a=b,[HAND],0,_,.cons (.hand rfl) .nil,(fun a u=>by cases u;exact .inl ⟨hok,by decide⟩),(fun a z=>?_),(fun a u=>.inr (by cases u;rfl)),rfl,I,?_⟩;rcases z with z|rfl;rcases S1.lst z with⟨xs,q⟩|⟨xs,q⟩|⟨b,q⟩;exact .inl ⟨xs,sm _ _ q⟩;exact .inr (.inl ⟨xs,sm _ _ q⟩);exact .inr (.inr ⟨b,sm _ _ q⟩);obtain⟨_,_,_,q,_⟩:=hok;exact .inl ⟨_,q⟩;rintro t n' v H3 ⟨bb,rfl,rt⟩ e3 h3 q3;rw[q3.blI];have ne:∀a o,H1 a=some o->some b≠some a:=fun a o ha z=>by cases z;rw[hb]at ha;cases ha
   refine hq _ n1 _ H3 rt (fun a o ha na=>?_) (fun a u=>?_) (.bl bb);have:=x1 a o ha na;exact e3 a o (sm a o this) (ne a o this);rcases h1 a u with⟨⟨d,m,t,q,rest⟩,l⟩|⟨l,q⟩;exact .inl ⟨⟨d,m,t,e3 a _ (sm a _ q) (ne a _ q),rest⟩,l⟩;exact .inr ⟨l,q.same fun b o e=>e3 b o (sm b o e) (ne b o e)⟩
end
end L2
namespace Bd
open PySem L2
def top(i:Nat):dA:=PySem.Challenge.pw_blockdeal_k17_papers_of_rules.main.body.getD i (.Pass ⟨0,0,0,0⟩)
abbrev DQ(Z:ZZ)(x:Str)(i:Nat)(ps:List Str):Prop:=Dq Z.K Z.mg x (top i) ps
abbrev QF(Z:ZZ)(x:Str)(i:Nat)(ps:List Str)(k m:Nat)(g:GD):Prop:=FQ Z x (top i) ps k (spD Z.K m g)
set_option maxHeartbeats 4000000
local macro_rules | `(tactic| walk_at "S") => `(tactic| first | with_reducible refine zjk ?_ | with_reducible refine Stp.go ?_ | with_reducible refine j_all (by with_unfolding_all rfl) ?_ | with_reducible refine j_any (by with_unfolding_all rfl) ?_ | with_reducible refine zn6 (by with_unfolding_all rfl) ?_ | with_reducible refine zn7 (by with_unfolding_all rfl) ?_ | with_reducible refine zi0 (by with_unfolding_all rfl) ?_ | with_reducible refine ziZ (by with_unfolding_all rfl) ?_)
set_option hygiene false in
local macro_rules | `(tactic| walk_at "K") => `(tactic| first | walk_at "S" | with_reducible refine zr2 (fun hc => ?_) (fun hc => ?_) | with_reducible refine zuO (fun hc => ?_) (fun hc => ?_) | with_reducible refine And.intro ?_ ?_)
set_option hygiene false in
local macro_rules | `(tactic| wp_walk using $ts:term,*) => `(tactic| repeat' (first $[| with_reducible refine $ts:term]* | walk_at "K"))
local macro_rules | `(tactic| wp_walk) => `(tactic| repeat' walk_at "K")
structure Txt(mg:qM):Prop where
 isi:mg "isinstance" = none
 int:mg "int" = none
 boo:mg "bool" = none
 tup:mg "tuple" = none
 len:mg "len" = none
 min:mg "min" = none
 max:mg "max" = none
 str:mg "str" = none
 rep:mg "repr" = none
 all:mg "all" = none
 any:mg "any" = none
 ran:mg "range" = none
 sum:mg "sum" = none
 srt:mg "sorted" = none
 lst:mg "list" = none
 abs:mg "abs" = none
 zip:mg "zip" = none
 dct:mg "dict" = none
 rev:mg "reversed" = none
 enu:mg "enumerate" = none
 vae:mg "ValueError" = none
section
open PySem.W PyProof.Rows
def pw:aK:=PySem.Challenge.pw_blockdeal_k17_papers_of_rules
def zuo:dA->Bool
 | .FunctionDef ..=>true
 | .ClassDef ..=>true
 | .Assign [.Name x _] _ _=>!(x == aN "__name__")
 | _=>false
def qv:aK:={ pw with main:={ pw.main with body:=pw.main.body.filter zuo } }
theorem zoz:recsOf qv=(pw.main.body.filter Vq).map recD:=by kernel_rfl
theorem zk1{i:Nat}(h:Vq (top i)=true):recD (top i)∈recsOf qv:=by rw[zoz];exact f7 (ip.mpr ⟨getD_mem h,h⟩)
theorem dqG{i:Nat}{x:Str}{ps:List Str}{u:nJ->Option ae}{mg o:qM}{h:bB}{c P:af}(v:pU [(c,P)] h)(T:hW qv (looseW qv []) u mg o h)(hb:BndA x (top i) ps:=by first|exact bnd1 fun _ _ _ _ _ _ _=>rfl|exact bnd2 fun _ _ _ _ _ _ _ _=>rfl|exact bnd3 fun _ _ _ _ _ _ _ _ _=>rfl|exact bnd4 fun _ _ _ _ _ _ _ _ _ _=>rfl)(C:Vq (top i)=true:=by kernel_rfl)(l:defName (top i)=x:=by kernel_rfl):Dq (JS (gho h c P)) mg x (top i) ps:=zsD v T (zk1 C) l hb
def zsq:List Str:=[aN "isinstance",aN "int",aN "bool",aN "tuple",aN "len",aN "min",aN "max",aN "str",aN "repr",aN "all",aN "any",aN "range",aN "sum",aN "sorted",aN "list",aN "abs",aN "zip",aN "dict",aN "reversed",aN "enumerate",aN "ValueError"]
def zsr(x:Str):Bool:=!startupNames.contains x&&!(looseW qv []).contains x&&!((recsOf qv).map (·.name)).contains x&&!((litsOf qv).map (·.1)).contains x&&!((clssOf qv (looseW qv [])).map (·.name)).contains x
theorem zpJ:zsq.all zsr=true:=by kernel_rfl
theorem zpK{l:nJ->Option ae}{mg o:qM}{h:bB}(T:hW qv (looseW qv []) l mg o h){x:Str}(m:x∈zsq):mg x=none:=by have e:=df.mp zpJ x m;unfold zsr at e;simp only[aW,gR,List.contains_eq_mem,decide_eq_false_iff_not]at e;obtain⟨⟨⟨⟨a,b⟩,c⟩,d⟩,f⟩:=e;exact T.free x a b c d f
theorem zqj{l:nJ->Option ae}{mg o:qM}{h:bB}(T:hW qv (looseW qv []) l mg o h):Txt mg:=by constructor <;> exact zpK T (List.contains_iff_mem.mp (by kernel_rfl))
theorem zor:PySem.Challenge.rw_blockdeal_k17_papers_of_rules.wellSaid=true:=by kernel_rfl
theorem zrs(w:ba)(os:nR):(Uo treeTable pw w 11 ((cy (w).params).nsMap mainGlobals "__annotations__") 20000 (zj1 w os) (topStub pw)).map (fun s=>(Z9 pw (cy (w).params) s.abs,(vo hY) s.abs))=some (true,(vp hY) w):=by kernel_rfl
theorem zrr(w:ba)(os:nR):(Uo treeTable pw w 11 ((cy (w).params).nsMap mainGlobals "__annotations__") 20000 (zj1 w os) (topStub pw)).map (fun s=>(openSeen qv [] (importedModules pw.main.body) (fun s=>xlAt qv [] s&&recOk (kY PySem.Challenge.rw_blockdeal_k17_papers_of_rules.row.toRowW) s) true s.abs).1)=some (openGood qv []).1:=by kernel_rfl
theorem zrq(w:ba)(os:nR):(Uo treeTable pw w 11 ((cy (w).params).nsMap mainGlobals "__annotations__") 20000 (zj1 w os) (topStub pw)).map (fun s=>(openSeen qv [] (importedModules pw.main.body) (fun s=>xlAt qv [] s&&recOk (kY PySem.Challenge.rw_blockdeal_k17_papers_of_rules.row.toRowW) s) true s.abs).2)=some (openGood qv []).2:=by kernel_rfl
theorem zun(w:ba)(os:nR):(Uo treeTable pw w 11 ((cy (w).params).nsMap mainGlobals "__annotations__") 20000 (zj1 w os) (topStub pw)).map (fun s=>(Z9 pw (cy (w).params) s.abs,openSeen qv [] (importedModules pw.main.body) (fun s=>xlAt qv [] s&&recOk (kY PySem.Challenge.rw_blockdeal_k17_papers_of_rules.row.toRowW) s) true s.abs,(vo hY) s.abs))=some (true,openGood qv [],(vp hY) w):=map3 (zrs w os) (zrr w os) (zrq w os)
theorem zpg:LeftO pw qv [] (fun s=>xlAt qv [] s&&recOk (kY PySem.Challenge.rw_blockdeal_k17_papers_of_rules.row.toRowW) s) (vo hY) (vp hY) 20000:=zk9 (by kernel_rfl) (by decide) (fun _=>rfl) (zun)
end
section
variable{P:aK}{w:ba}{K:qF}{mg:qM}{base:bB}{Z:ZZ}
def zpq:ab->Bool|.int _=>true|_=>false
def zdC:GD:=fun ts n R=>match ts with
 | [d]=>Pln d/\R (.bool (zpq d)) n
 | _=>False
theorem UC{d:ab}{b:Bool}{n:Nat}{R:qN}(e:zpq d=b)(h:Pln d)(h':R (.bool b) n):zdC [d] n R:=⟨h,e▸h'⟩
def zdq(Z:ZZ):Prop:=QF Z "is_whole" 1 ["thing"] 1 1 zdC
theorem zhT(D:DQ Z "is_whole" 1 ["thing"]) (T:Txt Z.mg):zdq Z:=by
 refine' okN ["thing"] D fun o=>⟨_,(Jc (Jg (UQ (ZI zsi T.isi T.int boot_int (dlv 0) Jq) (Ud (zlI (ZI zpD T.isi T.boo zj0 (dlv 0) Jq)))))),?_⟩;intro ts n R l h;unfold zdC at h;split at h
 ·rename_i d;obtain⟨p,h⟩:=h;cases d with
  | dict ks =>
   cases ks with
   | nil =>wp_walk;exact h
   | cons a b=>exact absurd rfl p
  | _ =>wp_walk;exact h
 exact h.elim
def QN(bits:Int):ab->Bool
 | .tuple [.int b,.int h]=>decide (0<=h/\h<=bits/\0<=b/\b<2 ^ bits.toNat/\b % 2 ^ h.toNat=0)
 | _=>false
theorem zh_{bits b h:Int}:QN bits (.tuple [.int b,.int h])=decide (0<=h/\h<=bits/\0<=b/\b<2 ^ bits.toNat/\b % 2 ^ h.toNat=0):=rfl
theorem zhl{bits b h:Int}(x:0<=bits):QN bits (.tuple [.int b,.int h])=true↔IsBk bits b h:=by unfold QN;rw[decide_eq_true_iff];constructor;rintro⟨h0,v,G,g1,g2⟩;have p:=Q4 h.toNat;have e:=Int.emod_add_mul_ediv b (2 ^ h.toNat);refine⟨h0,v,b / 2 ^ h.toNat,oP G (by lia),?_,?_⟩;rw[cg];lia;apply Int.ediv_lt_of_lt_mul p;rw[<- gH,show(bits - h).toNat+h.toNat=bits.toNat by lia];exact g1;intro B;have C:=B.bounds x;obtain⟨h0,v,k,J,rfl,I⟩:=B;refine⟨h0,v,C.1,?_,nI _ _⟩;have:=Q4 h.toNat;lia
def Pl2(d:ab):Prop:=Pln d/\∀ts,d=.tuple ts->∀t∈ts,Pln t
inductive zdE:List ab->Nat->(ab->Nat->Prop)->Prop
 | c {bits:Int} {d:ab} {n:Nat} {R:qN} (b0:0<=bits) (b1:bits<=64) (h:Pl2 d) (h':R (.bool (QN bits d)) n):zdE [.int bits,d] n R
theorem zlo{bits:Int}{d:ab}(h:∀b g,d≠.tuple [.int b,.int g]):QN bits d=false:=by unfold QN;split;exact absurd rfl (h _ _);rfl
theorem zsw{b c:Bool}{n:Nat}{R:qN}(e:b=c)(h:R (.bool c) n):R (.bool b) n:=e▸h
def zfc(Z:ZZ):Prop:=QF Z "is_block" 2 ["bits","thing"] 2 2 zdE
theorem zhW(D:DQ Z "is_block" 2 ["bits","thing"]) (J:zdq Z) (T:Txt Z.mg):zfc Z:=by
 refine' okN ["bits","thing","begin","height"] D fun v=>⟨_,(Jb (Jz (J7 (UH (QS (J8 (dl (ZI zf7 T.isi T.tup UB (dlv 1) Jq)))) (UK (Jr (Zu v) Y2 (dl (Ju QO QM T.len Qu (Je (dlv 1) Jm Jq))) dli (Jl _))))) (Jc (Jg JW)) JF) (Jb (Ue (Jo 1) (Qj rfl (Jx (dgv 2 (ndB rfl)) (Jx (dgv 3 (ndB rfl)) Qg)))) (Jb (Jz (J7 (UH (QS (J8 (dl (Jd J v (dbv 2 Ja))))) (UK (QS (J8 (dl (Jd J v (dbv 3 Ja)))))))) (Jc (Jg JW)) JF) (Jb (Jz (J7 (UH (Jr (Qe v) Qd (dlv 3) dli (Jl _)) (UK (Jr Zd gp_B (dlv 3) (dlv 0) (Jl _))))) (Jc (Jg JW)) JF) (Jc (Jg (UQ (zi8 QB QA (Qe v) Qd dli (dlv 2) (dl (JT dli (dlv 0)))) (Ud (Qi (Yz v) U1 (dl (zof (dlv 2) (dl (JT dli (dlv 3))))) dli (Jl _)))))))))),?_⟩;intro ts n R L h;obtain @⟨bits,d,n,R,b0,b1,⟨p,C⟩,h⟩:=h;have no:(∀b g,d≠.tuple [.int b,.int g])->R (.bool false) n:=fun z=>by rw[zlo z]at h;exact h
 cases hf:isTup d with
 | false =>wp_walk using isiF p hf ?_;exact no fun b g e=>by rw[e]at hf;cases hf
 | true =>
  obtain⟨ts,rfl⟩:=zne hf;have C:=C ts rfl;by_cases l2:ts.length=2
  ·obtain⟨x,y,rfl⟩:=zum l2;have G:=C x (by simp);have py:=C y (by simp);have I:∀t,(∃b,t=.int b)\/zpq t=false:=fun t=>by
    cases t with
    | int b=>exact .inl ⟨b,rfl⟩
    | _=>exact .inr rfl
   rcases I x with⟨b,rfl⟩|wx
   ·rcases I y with⟨g,rfl⟩|wy
    ·wp_walk using UC (b:=true) rfl G ?_,UC (b:=true) rfl py ?_;all_goals first
      | exact cpow (by lia) (by lia)
      | (rw[Uy];exact Q4 _)
      | skip
     all_goals
      refine zsw ?_ h;try simp only[Uy]at *
      rw[zh_];generalize (2:Int) ^ bits.toNat=X at *;generalize b % (2:Int) ^ g.toNat=Y at *;first
       | (symm;rw[decide_eq_false_iff_not];lia)
       | (rw[decide_eq_decide];lia)
       | (exfalso;simp at hc;done)
    ·wp_walk using UC (b:=true) rfl G ?_,UC wy py ?_;all_goals first|exact no fun _ _ e=>by cases e;cases wy|(exfalso;simp at hc;done)
   ·wp_walk using UC wx G ?_;all_goals first|exact no fun _ _ e=>by cases e;cases wx|(exfalso;simp at hc;done)
  ·wp_walk;all_goals first|exact no fun _ _ e=>l2 (by cases e;rfl)|(exfalso;lia)
inductive zes:List ab->Nat->(ab->Nat->Prop)->Prop
 | c {i h:Int} {n:Nat} {R:qN} (g0:0<=h) (g1:h<=1000) (h':R (.int (2 ^ h.toNat)) n):zes [.tuple [.int i,.int h]] n R
def zgM(Z:ZZ):Prop:=QF Z "size_of" 3 ["block"] 1 1 zes
theorem zjr(D:DQ Z "size_of" 3 ["block"]) (T:Txt Z.mg):zgM Z:=by refine' okN ["block"] D fun l=>⟨_,(Jc (Jg (JT dli (dl (Jh (dlv 0) dli))))),?_⟩;rintro ts n R hl @⟨i,h,n,R,g0,g1,hh⟩;wp_walk;exact cpow (by lia) (by lia);rw[Uy];exact hh
inductive zga:List ab->Nat->(ab->Nat->Prop)->Prop
 | c {i h g:Int} {n:Nat} {R:qN} (g0:0<=g) (g1:g<=1000) (i0:0<=i) (i1:i<2 ^ 64) (h':R (.tuple [.int (i / 2 ^ g.toNat*2 ^ g.toNat),.int g]) n):zga [.tuple [.int i,.int h],.int g] n R
def ziH(Z:ZZ):Prop:=QF Z "around" 6 ["block","height"] 1 2 zga
theorem zkW(D:DQ Z "around" 6 ["block","height"]) (T:Txt Z.mg):ziH Z:=by refine' okN ["block","height"] D fun l=>⟨_,(Jc (Jg (Jn (dbc (JT (dl (zsI (dl (Jh (dlv 0) dli)) (dlv 1))) (dlv 1)) (dbv 1 Ja))))),?_⟩;rintro ts n R hl @⟨i,h,g,n,R,g0,g1,i0,i1,hh⟩;simp only[Zq,Zp,Zr,Zo,u_dC,Zc,Zk,Zm,Zl,ZO,Zb,Z3,ZY,ZQ,ZP,ZW,Zn,ZC,YL,YC,YD,YE,YK,YF,YA,YS,UZ,U0,oSub,oMul,oMod,Uc,oShl,oShr,oXor,oAnd,isNone,isInt,isBool,isTup,l_gI,Y4,Yo,Yp,U5,U6,Ye,Yg,U7,U8,YG,YH,Yb,U9,Yt,Yu,Yr,Ys,Yv,Yw,U4,Yd,Yc,Yq,YR,YI,QY,QX,Um,Uw,Uq,Ur,Uz,UT,JQ,JJ,capV,aC,cC,aG,bT,cV,eN,cj,cZ,bE,dI,dJ,d5,fx,eO,eP,du,Nat.reduceAdd,Nat.reduceSub,ff,true_and,and_true,aO,if_true,if_false,ite_true,ite_false,fE,d6,fX];refine⟨g0,⟨g0,by lia,?_⟩,hh⟩;have:i / 2 ^ g.toNat<=i:=Int.ediv_le_self _ i0;have:0<=i / 2 ^ g.toNat:=oP i0 (cf (Q4 _));lia
inductive zie:List ab->Nat->(ab->Nat->Prop)->Prop
 | c {i h j g:Int} {n:Nat} {R:qN} (h0:0<=h) (h1:h<=1000) (j0:0<=j) (j1:j<2 ^ 64) (h':R (.bool (hldD i h j g)) n):zie [.tuple [.int i,.int h],.tuple [.int j,.int g]] n R
def zkx(Z:ZZ):Prop:=QF Z "holds" 4 ["one","other"] 2 2 zie
theorem zmU(D:DQ Z "holds" 4 ["one","other"]) (o:ziH Z) (T:Txt Z.mg):zkx Z:=by refine' okN ["one","other"] D fun l=>⟨_,(Jc (Jg (UQ (Qi zo2 gp_B (dl (Jh (dlv 0) dli)) (dl (Jh (dlv 1) dli)) (Jl _)) (Ud (Qi (Yz l) U1 (dl (Jd o l (dbv 1 (dbc (Jh (dlv 0) dli) Ja)))) (dlv 0) (Jl _)))))),?_⟩;rintro ts n R hl @⟨i,h,j,g,n,R,g0,g1,j0,j1,hh⟩;unfold hldD at hh;wp_walk using zga.c g0 g1 j0 j1 ?_;exact UT;exact UT;rw[decide_eq_true hc,eH]at hh;rw[znp];simpa using hh;rw[decide_eq_false hc,eQ]at hh;exact hh
inductive zcp:List ab->Nat->(ab->Nat->Prop)->Prop
 | c {i h:Int} {n:Nat} {R:qN} (g0:0<=h) (g1:h<=1000) (h':R (.tuple [.int (cz i (2 ^ h.toNat)),.int h]) n):zcp [.tuple [.int i,.int h]] n R
def zdI(Z:ZZ):Prop:=QF Z "other_half" 7 ["block"] 1 1 zcp
theorem zfS(D:DQ Z "other_half" 7 ["block"]) (T:Txt Z.mg):zdI Z:=by refine' okN ["block","begin","height"] D fun l=>⟨_,(Jb (Ue (Jo 0) (Qj rfl (Jx (dgv 1 (ndB rfl)) (Jx (dgv 2 (ndB rfl)) Qg)))) (Jc (Jg (Jn (dbc (zod (dlv 1) (dl (JT dli (dlv 2)))) (dbv 2 Ja)))))),?_⟩;rintro ts n R hl @⟨i,h,n,R,g0,g1,hh⟩;simp only[Zq,Zp,Zr,Zo,u_dC,Zc,Zk,Zm,Zl,ZO,Zb,Z3,ZY,ZQ,ZP,ZW,Zn,ZC,YL,YC,YD,YE,YK,YF,YA,YS,UZ,U0,oSub,oMul,oMod,Uc,oShl,oShr,oXor,oAnd,isNone,isInt,isBool,isTup,l_gI,Y4,Yo,Yp,U5,U6,Ye,Yg,U7,U8,YG,YH,Yb,U9,Yt,Yu,Yr,Ys,Yv,Yw,U4,Yd,Yc,Yq,YR,YI,QY,QX,Um,Uw,Uq,Ur,Uz,UT,JQ,JJ,capV,aC,cC,aG,bT,cV,eN,cj,cZ,bE,dI,dJ,d5,fx,eO,eP,du,Nat.reduceAdd,Nat.reduceSub,ff,true_and,and_true,aO,if_true,if_false,ite_true,ite_false,fE,d6,fX];refine⟨cpow g0 (by lia),?_⟩;rw[bH];exact hh
inductive YO:List ab->Nat->(ab->Nat->Prop)->Prop
 | c {i h:Int} {n:Nat} {R:qN} (g0:1<=h) (g1:h<=1000) (h':R (.tuple [.tuple [.int i,.int (h - 1)],.tuple [.int (cz i (2 ^ (h - 1).toNat)),.int (h - 1)]]) n):YO [.tuple [.int i,.int h]] n R
def zfJ(Z:ZZ):Prop:=QF Z "halves" 5 ["block"] 2 1 YO
theorem zkT(D:DQ Z "halves" 5 ["block"]) (l:zdI Z) (T:Txt Z.mg):zfJ Z:=by refine' okN ["block","begin","height","lower"] D fun o=>⟨_,(Jb (Ue (Jo 0) (Qj rfl (Jx (dgv 1 (ndB rfl)) (Jx (dgv 2 (ndB rfl)) Qg)))) (Jb (dsv 3 (ndB rfl) (Jn (dbv 1 (dbc (JY (dlv 2) dli) Ja)))) (Jc (Jg (Jn (dbv 3 (dbc (Jd l o (dbv 3 Ja)) Ja))))))),?_⟩;rintro ts n R hl @⟨i,h,n,R,g0,g1,hh⟩;wp_walk using zcp.c ?_ ?_ ?_;lia;lia;exact hh
inductive UV:List ab->Nat->(ab->Nat->Prop)->Prop
 | c {i h:Int} {n:Nat} {R:qN} (g0:0<=h) (g1:h<=1000) (h':R (.int (i+2 ^ h.toNat)) n):UV [.tuple [.int i,.int h]] n R
def Z0(Z:ZZ):Prop:=QF Z "end_of" 16 ["block"] 2 1 UV
theorem zkV(D:DQ Z "end_of" 16 ["block"]) (l:zgM Z) (T:Txt Z.mg):Z0 Z:=by refine' okN ["block"] D fun o=>⟨_,(Jc (Jg (JC (dl (Jh (dlv 0) dli)) (dl (Jd l o (dbv 0 Ja)))))),?_⟩;rintro ts n R hl @⟨i,h,n,R,g0,g1,hh⟩;wp_walk using zes.c ?_ ?_ ?_;lia;lia;exact hh
theorem zjT{hi:Int}(h:0<hi):QH 0 hi hi.toNat.log2:=⟨by simp,by have:=zk8 h;lia,fun z=>by have:=zk4 h;have:=z.2;lia⟩
theorem zlt{lo hi:Int}{t:Nat}(h:lo<hi)(u:lo % 2 ^ t=0)(v:¬lo % 2 ^ (t+1)=0):QH lo hi (min (hi - lo).toNat.log2 t):=by have a:=zk8 (i:=hi - lo) (by lia);have b:=zk4 (i:=hi - lo) (by lia);rcases tT (hi - lo).toNat.log2 t with z|z;rw[dO z];exact⟨US z u,a,fun y=>by have:=y.2;lia⟩;rw[Nat.min_eq_right z];exact⟨u,bo (Q6 z) a,fun y=>v y.1⟩
theorem zm4(t:Nat):((2:Int) ^ t).toNat.log2=t:=by
 have e:((2:Int) ^ t).toNat=2 ^ t:=by
  have:((2 ^ t:Nat):Int)=(2:Int) ^ t:=by rw[fB];rfl
  rw[<- this];rfl
 rw[e,Nat.log2_two_pow]
inductive zbd:List ab->Nat->(ab->Nat->Prop)->Prop
 | c {lo hi:Int} {n:Nat} {R:qN} (l0:0<=lo) (l1:lo<hi) (h:∀g:Nat,QH lo hi g->R (.int g) n):zbd [.int lo,.int hi] n R
def zbJ(Z:ZZ):Prop:=QF Z "greatest_height" 17 ["begin","high"] 1 2 zbd
theorem zde(D:DQ Z "greatest_height" 17 ["begin","high"]) (T:Txt Z.mg):zbJ Z:=by
 refine' okN ["begin","high","room"] D fun x=>⟨_,(Jb (dsv 2 (ndB rfl) (JY (dl (zht (dl (JY (dlv 1) (dlv 0))))) dli)) (Jb (Jz (Jr (Yz x) U1 (dlv 0) dli (Jl _)) (Jc (Jg (Jo 2))) JF) (Jc (Jg (Ju (Uu rfl) Uh T.min Ut (Je (dlv 2) (Je (dl (JY (dl (zht (dl (zsK (dlv 0) (dl (Vv (Jo 0))))))) dli)) Jm QW) Jq)))))),?_⟩;intro ts n R C h;obtain @⟨lo,hi,n,R,l0,l1,h⟩:=h;have room:=zep (i:=hi - lo) (by lia);wp_walk;rw[room];subst hc;have:=h _ (zjT l1);rw[Int.sub_zero];exact this;obtain⟨t,t1,u⟩:=zty (b:=lo) (by lia);have an:=zp6 (b:=lo) (by lia) t1 u;have v:=zep (i:=(2:Int) ^ t) (Q4 t);rw[zm4]at v;rw[an,room,v];have:=h _ (zlt l1 t1 u);have e:(if (t:Int)<((hi - lo).toNat.log2:Int) then(t:Int) else((hi - lo).toNat.log2:Int))=((min (hi - lo).toNat.log2 t:Nat):Int):=by split <;> lia
 rw[e];exact this
inductive UL:List ab->Nat->(ab->Nat->Prop)->Prop
 | c {lo hi:Int} {n:Nat} {R:qN} (l0:0<=lo) (l1:lo<=hi) (l2:hi<=2 ^ 64) (h:∀bs,Jp lo hi bs->R (.tuple (pD bs)) n):UL [.int lo,.int hi] n R
def znT(Z:ZZ):Prop:=QF Z "span" 10 ["low","high"] 3 2 UL
theorem zo7(D:DQ Z "span" 10 ["low","high"]) (Hj:Z0 Z) (Y:zbJ Z) (T:Txt Z.mg):znT Z:=by
 refine' okN ["low","high","blocks","begin","block"] D fun I=>⟨_,(Jb (Yj (i:=2) (ndB rfl) rfl (fw rfl) (JV Ja)) (Jb (dsv 3 (ndB rfl) (Jo 0)) (Jb (VN bV (Jr (Qe I) Qd (dlv 3) (dlv 1) (Jl _)) (Jb (dsv 4 (ndB rfl) (Jn (dbv 3 (dbc (Jd Y I (dbv 3 (dbv 1 Ja))) Ja)))) (Jb (QE 2 (Jo 4)) (Jc (dsv 3 (ndB rfl) (Jd Hj I (dbv 4 Ja))))))) (UA 2 (Jc (Jg (UG Z5 ZK T.tup UB (Je (dlv 2) Jm Jq)))))))),?_⟩;intro ts n R hl h;obtain @⟨lo,hi,n,R,l0,l1,l2,h⟩:=h;obtain⟨all,A⟩:=zkg _ lo hi (av _) l1;have al:=A.len l0 l2;wp_walk;refine zhE (fun m L U=>U=n/\∃(bs rest:qB) (C:Int) (J:Option Cell),L=[some (.val (.int lo)),some (.val (.int hi)),some (.own (pD bs)),some (.val (.int C)),J]/\all=bs++rest/\Jp C hi rest/\lo<=C/\m=rest.length) (m:=all.length) ⟨rfl,[],all,lo,_,rfl,rfl,A,aE _,rfl⟩ ?_;rintro m L U NX RT BK ⟨rfl,bs,rest,C,J,rfl,x,S,lb,rfl⟩ hN hR hB;wp_walk
 ·cases rest with
  | nil=>have:C=hi:=S;lia
  | cons b r =>
   obtain⟨s1,s2,s3,s4,s5⟩:=S;refine zbd.c (by lia) hc fun g G=>?_;have eg:b.2.toNat=g:=s4.uniq G;have eb:b=(C,(g:Int)):=fA s2 (by show b.2=(g:Int);lia);have gl:g<=64:=by
    rcases fc 64 g with z|z;have:=Q6 (show 65<=g by lia);have:=G.2.1;have e:(2:Int) ^ 65=2*2 ^ 64:=by decide
    lia;exact z
   wp_walk using UV.c (by lia) (by lia) ?_;rw[Jy];have:=congrArg bL x;rw[aH]at this;lia;refine hN r.length _ _ (by simp) ⟨rfl,bs++[b],r,C+2 ^ (g:Int).toNat,some (.val (.tuple [.int C,.int (g:Int)])),by rw[eb,<- Zw],by rw[x];simp,?_,?_,rfl⟩;rw[eg]at s5;simpa using s5;have:=Q4 (g:Int).toNat;lia
 ·have e:C=hi:=by have:=S.le;lia
  cases rest with
  | cons b r=>have:=S.1;lia
  | nil =>refine hB _ _ ?_;wp_walk;rw[bE]at x;rw[<- x];exact h _ A
inductive zdA:List ab->Nat->(ab->Nat->Prop)->Prop
 | c {rs:qB} {n:Nat} {R:qN} (w:∀r∈rs,0<=r.1/\r.1<=r.2/\r.2<=2 ^ 64) (l:rs.length<=100000) (h:∀ps,PatS rs ps->R (.tuple (pD ps)) n):zdA [.list (pD rs)] n R
theorem zkK:∀{rs:qB},(∀r∈rs,r.1<=r.2)->∃ps,PatS rs ps
 | [],_=>⟨[],rfl⟩
 | r::rs,h=>by obtain⟨a,A⟩:=zkg _ r.1 r.2 (av _) (h r (by simp));obtain⟨b,B⟩:=zkK (rs:=rs) fun s l=>h s (by simp[l]);exact⟨a++b,a,b,rfl,A,B⟩
theorem zi_{g:DTG}{d:DTE}{o:En}{n:Nat}{Rl:List ab->Nat->Prop}:∀(xs acc:qD),(∀x∈xs,∀K:ab->Nat->Prop,K x n->g x o fun l=>d l n K)->acc.length+xs.length<=16777216->Rl (acc++xs) n->JP g dYes d o xs acc n Rl
 | [],acc,_,_,h=>(by simpa using h:Rl acc n)
 | x::xs,acc,hg,hl,h=>by
  have e:(fun l=>dYes l n fun b u=>if b=true then d l u fun t v=>acc.length<16777216/\JP g dYes d o xs (acc++[t]) v Rl else JP g dYes d o xs acc u Rl)=fun l=>d l n fun t v=>acc.length<16777216/\JP g dYes d o xs (acc++[t]) v Rl:=by funext l;exact propext ⟨fun z=>by simpa[dYes] using z,fun z=>by simpa[dYes] using z⟩
  show g x o fun l=>dYes l n fun b u=>if b=true then d l u fun t v=>acc.length<16777216/\JP g dYes d o xs (acc++[t]) v Rl else JP g dYes d o xs acc u Rl
  rw[e];refine hg x (by simp) _ ⟨by simp at hl;lia,zi_ xs (acc++[x]) (fun y C=>hg y (by simp[C])) (by simp at hl ⊢;lia) (by simpa using h)⟩
def ze9(Z:ZZ):Prop:=QF Z "patch_of" 18 ["runs"] 4 1 zdA
theorem zhQ(D:DQ Z "patch_of" 18 ["runs"]) (Y:znT Z) (T:Txt Z.mg):ze9 Z:=by
 refine' okN ["runs"] D fun I=>⟨_,(Jc (Jg (UG Z5 ZK T.tup UB (Je (dl (JK (znu (own:=["low","high","block"]) (capt:=[]) rfl (JB.of rfl) (dil (zsF (Jo 0))) (fun _ _ _ _=>(Qj rfl (Jx (dgv 0 (ndB rfl)) (Jx (dgv 1 (ndB rfl)) Qg)))) (by decide) (fun _ _ _ _=>ZD) (fun _ _ _ _=>(UJ (Jd Y I (dbv 0 (dbv 1 Ja))))) (fun _ _ _ _=>(dgv 2 (ndB rfl))) (by decide) (fun _ _ _ _=>ZD) (fun _ _ _ _=>(Jo 2))))) Jm QZ)))),?_⟩;intro ts n R hl h;obtain @⟨rs,n,R,w,l,h⟩:=h;wp_walk;have key:∀(rs:qB) (acc ps:qB),(∀r∈rs,0<=r.1/\r.1<=r.2/\r.2<=2 ^ 64)->acc.length+130*rs.length<=16777216->PatS rs ps->∀K:List ab->Nat->Prop,K (pD (acc++ps)) n ->
   ZG (Q8 (Qt (JX 0) (Qt (JX 1) Ub))) dYes (dItT (dFn UL (J6 (dVar 0) (J6 (dVar 1) dNil)))) (JX 2) dYes (dVar 2) [none,none,none] (pD rs) (pD acc) n K:=by
  intro rs;induction rs with
  | nil =>intro acc ps _ _ P K G;cases(show ps=[] from P);rw[bE]at G;exact G
  | cons r rs S =>
   intro acc ps w la P K G;obtain⟨a,b,rfl,N,Pb⟩:=P;have v:=w r (by simp);have ll:=N.len v.1 v.2.2;show Q8 (Qt (JX 0) (Qt (JX 1) Ub)) (.tuple [.int r.1,.int r.2]) [none,none,none] fun o=>dYes o n fun b L=>if b=true then dItT (dFn UL (J6 (dVar 0) (J6 (dVar 1) dNil))) o L fun ts U=>JP (JX 2) dYes (dVar 2) o ts (pD acc) U fun C n4=>ZG (Q8 (Qt (JX 0) (Qt (JX 1) Ub))) dYes (dItT (dFn UL (J6 (dVar 0) (J6 (dVar 1) dNil)))) (JX 2) dYes (dVar 2) [none,none,none] (pD rs) C n4 K else ZG (Q8 (Qt (JX 0) (Qt (JX 1) Ub))) dYes (dItT (dFn UL (J6 (dVar 0) (J6 (dVar 1) dNil)))) (JX 2) dYes (dVar 2) [none,none,none] (pD rs) (pD acc) L K
   rw[aG]at la;wp_walk using UL.c v.1 v.2.1 v.2.2 (fun bs B=>?_);rw[B.uniq N];refine zi_ _ _ (fun x hx K2 J=>?_) (by rw[Jy,Jy];lia) ?_
   ·wp_walk;exact J
   rw[zq4];exact S (acc++a) b (fun s hs=>w s (by simp[hs])) (by rw[aH];lia) Pb K (by rw[aA];exact G)
 obtain⟨ps,P⟩:=zkK (rs:=rs) fun r I=>(w r I).2.1;refine key rs [] ps w (by simp;lia) P _ ?_;wp_walk;exact h ps P
theorem zpk{bits:Int}{bs:qB}{t:ab}{Rl:List ab->Prop}(R:t=.list (pD bs)\/t=.tuple (pD bs))(hb:bits<=64)(B:Bks bits bs)(I:bs.length<100000)
  (h:∀cs:List (Int×Int),cs.Perm bs->cs.Pairwise (fun a b=>a.1<=b.1)->Rl (pD cs)):U3 t Rl:=by
 have key:(pD bs).length<100000/\(∀x∈pD bs,IsPr x)/\∀o:List ab,o.Perm (pD bs)->o.Pairwise (fun a b=>rkD a<=rkD b)->Rl o:=by
  refine⟨by rw[Jy];exact I,fun x hx=>?_,fun o pm pw=>?_⟩;obtain⟨b,G,rfl⟩:=a7.mp hx;have:=B b G;exact⟨b.1,b.2,rfl,this.1,by have:=this.2.1;lia⟩;have C:o.Perm ((bs.map fun b=>(b,prD b)).map (·.2)):=by
   have:(bs.map fun b=>(b,prD b)).map (·.2)=pD bs:=by simp[pD]
   rw[this];exact pm
  obtain⟨zs,L,S⟩:=VJ C;have N:∀z∈zs,z.2=prD z.1:=fun z hz=>by obtain⟨b,_,rfl⟩:=a7.mp (L.mem_iff.mp hz);rfl
  have e:o=pD (zs.map (·.1)):=by rw[<- S];unfold pD;rw[cD];exact cn fun z hz=>N z hz
  have pc:(zs.map (·.1)).Perm bs:=by
   have:=L.map (·.1);rw[cD]at this;have U:bs.map ((fun x:(Int×Int)×ab=>x.1)∘fun b=>(b,prD b))=bs:=by show bs.map id=bs;exact gJ _
   rwa [U]at this
  rw[e];have v:Bks bits (zs.map (·.1)):=fun b hb=>B b (pc.mem_iff.mp hb);rw[e]at pw;unfold pD at pw;rw[cx]at pw;refine h _ pc (gp ?_ pw);intro a b ha hb J;have J:a.1*1000+a.2<=b.1*1000+b.2:=J;have a0:=(v a ha).1;have a1:=(v a ha).2.1;have b0:=(v b hb).1;have Y:=(v b hb).2.1;lia
 rcases R with rfl|rfl <;> exact key
inductive zet:List ab->Nat->(ab->Nat->Prop)->Prop
 | c {bits:Int} {bs:qB} {t:ab} {n:Nat} {R:qN} (ht:t=.list (pD bs)\/t=.tuple (pD bs)) (b0:0<=bits) (b1:bits<=64) (B:Bks bits bs) (l:bs.length<100000) (h:∀rs,NR rs->(∀x,mR x rs↔mB x bs)->rs.length<=bs.length->R (.list (pD rs)) n):zet [t] n R
def zgN(Z:ZZ):Prop:=QF Z "runs_of" 19 ["blocks"] 3 1 zet
theorem zjs(D:DQ Z "runs_of" 19 ["blocks"]) (Hj:Z0 Z) (T:Txt Z.mg):zgN Z:=by
 refine' okN ["blocks","runs","block","low","high"] D fun C=>⟨_,(Jb (Yj (i:=1) (ndB rfl) rfl (fw rfl) (JV Ja)) (Jb (Uf bV rfl (Uj (JK (zhs C T.srt (dlv 0) Jq))) (dgv 2 (ndB rfl)) (Jc (Jz (J7 (Ug (J8 (QK 1)) (Uk (Jr QB QA (dl (Jh (dlv 2) dli)) (dl (Jh (dl (Jh (QK 1) (dl (Vv Ji)))) dli)) (Jl _))))) (Jb (Ue (Jh (QK 1) (dl (Vv Ji))) (Qj rfl (Jx (dgv 3 (ndB rfl)) (Jx (dgv 4 (ndB rfl)) Qg)))) (Jc (zsA 1 (Vv Ji) (Jn (dbv 3 (dbc (Ju (YX rfl) Ym T.max YW (Je (dlv 4) (Je (dl (Jd Hj C (dbv 2 Ja))) Jm YJ) Jq)) Ja)))))) (Jc (QE 1 (Jn (dbc (Jh (dlv 2) dli) (dbc (Jd Hj C (dbv 2 Ja)) Ja)))))))) (UA 1 (Jc (Jg (Jo 1)))))),?_⟩;intro ts n R hl h;obtain @⟨bits,bs,t,n,R,ht,b0,b1,B,l,h⟩:=h;wp_walk;refine zpk ht b1 B l fun cs pm pw=>?_;have Bc:Bks bits cs:=fun b hb=>B b (pm.mem_iff.mp hb);have lc:=pm.length_eq;refine zss 1 2 3 4 (fun k a1 _ _ _ m=>m=n/\∃rs:List (Int×Int),a1=some (.own (pD rs))/\NR rs/\(∀x,mR x rs↔mB x (cs.take k))/\rs.length<=k/\∀r∈rs,∀b∈cs.drop k,r.1<=b.1) ⟨rfl,[],rfl,⟨(fun r C=>nomatch C),.nil⟩,(fun x=>⟨fun z=>absurd z Yy,fun z=>absurd z Vt⟩),av _,fun r C=>nomatch C⟩ ?_ ?_
 ·rintro k t' a1 a2 a3 a4 m K RT BK et ⟨rfl,rs,rfl,I,L,lr,lo⟩ hK hRT hBK;obtain⟨i,g,Y,rfl⟩:=Zv et;have kl:=(ah.mp Y).1;have Bb:=Bc _ (aM Y);have g0:0<=g:=Bb.1;have g1:g<=bits:=Bb.2.1;have pg:=Q4 g.toNat;have tk:cs.take (k+1)=cs.take k++[(i,g)]:=by rw[d0,Y];rfl
  have U:cs.drop k=(i,g)::cs.drop (k+1):=by rw[bF kl];congr 1;have:=ak kl;rw[Y]at this;exact(aI this).symm
  have after:∀b∈cs.drop (k+1),i<=b.1:=fun b hb=>by have:cs.Pairwise fun a b=>a.1<=b.1:=pw;have:=(this.sublist (nA k cs));rw[U]at this;exact(d7.mp this).1 b hb
  have m1:∀x,mB x (cs.take (k+1))↔mB x (cs.take k)\/(i<=x/\x<i+2 ^ g.toNat):=fun x=>by rw[tk,zn3,zk3];constructor;rintro(z|z|z);exact .inl z;exact .inr z;exact absurd z Vt;rintro(z|z);exact .inl z;exact .inr (.inl z)
  have new:(∀r∈rs,r.2<i)->∀c2 c3 c4,K [some (.val t),some (.own (pD rs++[.tuple [.int i,.int (i+2 ^ g.toNat)]])),c2,c3,c4] m:=fun hlt c2 c3 c4 =>
   hK _ _ _ _ _ ⟨rfl,rs++[(i,i+2 ^ g.toNat)],by rw[<- Zw],⟨fun r C=>by
    rcases ai.mp C with z|z;exact I.1 r z;cases ax.mp z;show i<i+2 ^ g.toNat;lia,by
    rw[dD];exact⟨I.2,gK _ _,fun a ha b hb=>by cases ax.mp hb;exact hlt a ha⟩⟩,(fun x=>by
    rw[zk2,L,m1,J1];constructor;rintro(z|z|z);exact .inl z;exact .inr z;exact absurd z Yy;rintro(z|z);exact .inl z;exact .inr (.inl z)),by simp;lia,fun r C b hb=>by
    rcases ai.mp C with z|z;exact lo r z b (by rw[U];simp[hb]);cases ax.mp z;exact after b hb⟩
  rcases lI rs with rfl|⟨G,r,rfl⟩
  ·wp_walk using UV.c g0 (by lia) ?_;show 0<16777216;decide;exact new (fun r C=>nomatch C) _ _ _;exact absurd hc (by simp[pD])
  ·rw[lJ]at *;have sn:pD (G++[r])=pD G++[.tuple [.int r.1,.int r.2]]:=by simp[pD]
   have lr':G.length+1<=k:=by simpa using lr
   have r12:=I.1 r (by simp);have rlo:r.1<=i:=lo r (by simp) (i,g) (by rw[U];simp);have J:=dD.mp I.2;rw[sn]at new ⊢;wp_walk using znc ?_,UV.c g0 (by lia) ?_;all_goals first
    | (exfalso;simp at hc;done)
    | (exfalso;rename_i y;simp at y;done)
    | (simp[Jy];lia)
    | skip
   ·refine zqM ziX ?_;wp_walk;rw[List.set_append_right _ _ (av _),ff];have mx:(if i+2 ^ g.toNat > r.2 then i+2 ^ g.toNat else r.2)=max r.2 (i+2 ^ g.toNat):=by split <;> lia
    refine hK _ _ _ _ _ ⟨rfl,G++[(r.1,max r.2 (i+2 ^ g.toNat))],?_,⟨fun s N=>?_,?_⟩,fun x=>?_,by simp;lia,fun s N b hb=>?_⟩;rw[mx];simp[pD];rcases ai.mp N with z|z;exact I.1 s (by simp[z]);cases ax.mp z;show r.1<max r.2 _;lia;rw[dD];exact⟨J.1,gK _ _,fun a ha b hb=>by cases ax.mp hb;exact J.2.2 a ha r (by simp)⟩;have S:=L x;rw[zk2,J1]at S;rw[zk2,J1,m1,<- S];have nn:=Yy (x:=x);show _\/(r.1<=x/\x<max r.2 (i+2 ^ g.toNat))\/_↔_;constructor;rintro(z|z|z);exact .inl (.inl z);by_cases w:x<r.2;exact .inl (.inr (.inl ⟨z.1,w⟩));exact .inr (by lia);exact absurd z nn;rintro((z|z|z)|z);exact .inl z;exact .inr (.inl (by lia));exact absurd z nn;exact .inr (.inl (by lia));rcases ai.mp N with z|z;exact lo s (by simp[z]) b (by rw[U];simp[hb]);cases ax.mp z;exact lo r (by simp) b (by rw[U];simp[hb])
   refine new (fun s N=>?_) _ _ _;rcases ai.mp N with z|z;have:=J.2.2 s z r (by simp);have:=I.1 r (by simp);lia;cases ax.mp z;lia
 ·rintro a1 a2 a3 a4 m ⟨rfl,rs,rfl,I,L,lr,lo⟩;rw[Jy]at L lr;rw[dr]at L;wp_walk;exact h rs I (fun x=>by rw[L x,zpf pm]) (by lia)
inductive VP:List ab->Nat->(ab->Nat->Prop)->Prop
 | c {bits:Int} {bs:qB} {t:ab} {n:Nat} {R:qN} (ht:t=.list (pD bs)\/t=.tuple (pD bs)) (b0:0<=bits) (b1:bits<=64) (B:Bks bits bs) (l:bs.length<100000) (h:∀ps,CanP (fun x=>mB x bs) ps->ps.length<=bs.length->R (.tuple (pD ps)) n):VP [t] n R
def zfK(Z:ZZ):Prop:=QF Z "fewest" 9 ["blocks"] 5 1 VP
theorem zkU(D:DQ Z "fewest" 9 ["blocks"]) (G:ze9 Z) (I:zgN Z) (T:Txt Z.mg):zfK Z:=by refine' okN ["blocks"] D fun u=>⟨_,(Jc (Jg (Jd G u (dbc (Jd I u (dbv 0 Ja)) Ja)))),?_⟩;intro ts n R J h;obtain @⟨bits,bs,t,n,R,ht,b0,b1,B,l,h⟩:=h;wp_walk using zet.c ht b0 b1 B l (fun rs o v lr=>?_);have w:=zul b0 b1 o v fun x hx=>UP b0 B hx;wp_walk using zdA.c w ?_ (fun ps P=>?_);lia;have C:CanP (fun x=>mB x bs) ps:=⟨rs,o,v,P⟩;exact h ps C (C.le b0 B)
inductive VQ:List ab->Nat->(ab->Nat->Prop)->Prop
 | c {bits a:Int} {bs:qB} {n:Nat} {R:qN} (b1:bits<=64) (P:Ptc bits bs) (hl:bs.length<1000000) (h:∀k:Nat,k<=bs.length->(∀(j:Nat) (b:Int×Int),j<k->bs[j]?=some b->eB b<=a)->(∀(j:Nat) (b:Int×Int),k<=j->bs[j]?=some b->a<eB b)->R (.int (k:Int)) n):VQ [.tuple (pD bs),.int a] n R
def zds(Z:ZZ):Prop:=QF Z "ended_by" 15 ["patch","address"] 3 2 VQ
theorem zhY(D:DQ Z "ended_by" 15 ["patch","address"]) (Hj:Z0 Z) (T:Txt Z.mg):zds Z:=by
 refine' okN ["patch","address","low","high","middle"] D fun N=>⟨_,(Jb (dsv 2 (ndB rfl) Ji) (Jb (dsv 3 (ndB rfl) (Ju QO QM T.len Qu (Je (dlv 0) Jm Jq))) (Jb (VN bV (Jr (Qe N) Qd (dlv 2) (dlv 3) (Jl _)) (Jb (dsv 4 (ndB rfl) (ZH (dl (JC (dlv 2) (dlv 3))) dli)) (Jc (Jz (Jr QB QA (dl (Jd Hj N (dbc (Jh (dlv 0) (dlv 4)) Ja))) (dlv 1) (Jl _)) (Jc (dsv 2 (ndB rfl) (JC (dlv 4) dli))) (Jc (dsv 3 (ndB rfl) (Jo 4))))))) (Jc (Jg (Jo 2)))))),?_⟩;rintro ts n R hl @⟨bits,a,bs,n,R,b1,P,hl6,hh⟩;have srt:=P.ends;wp_walk;rw[Jy];refine zgl (m:=bs.length) (fun m U Y=>Y=n/\∃lo hi:Nat,∃c,U=[some (.val (.tuple (pD bs))),some (.val (.int a)),some (.val (.int (lo:Int))),some (.val (.int (hi:Int))),c]/\lo<=hi/\hi<=bs.length/\m=hi - lo/\(∀(j:Nat) (b:Int×Int),j<lo->bs[j]?=some b->eB b<=a)/\(∀(j:Nat) (b:Int×Int),hi<=j->bs[j]?=some b->a<eB b)) ?_ ?_;refine⟨rfl,0,bs.length,none,rfl,bp _,av _,rfl,fun j b C=>absurd C (Nat.not_lt_zero _),fun j b C e=>?_⟩;rw[bM C]at e;cases e
 ·rintro m U Y ⟨rfl,lo,hi,c,rfl,h1,J,rfl,h3,L⟩;wp_walk;exact zsM
  ·have hm:(lo+hi) / 2<bs.length:=by lia
   obtain⟨b,G⟩:∃b,bs[(lo+hi) / 2]?=some b:=⟨_,ak hm⟩;have hb:=P.1 b (aM G);refine zpl (k:=(lo+hi) / 2) (by lia) (zoY G) ?_;have sx:∀(i j:Nat) (x y:Int×Int),bs[i]?=some x->bs[j]?=some y->i<=j->eB x<=eB y:=fun i j x y S I hij=>by by_cases z:i=j;subst z;rw[S]at I;cases I;exact aE _;obtain⟨l1,rfl⟩:=ah.mp S;obtain⟨l2,rfl⟩:=ah.mp I;exact aQ.mp srt i j l1 l2 (by lia)
   wp_walk using UV.c ?_ ?_ ?_;exact hb.1;have:=hb.2.1;lia
   ·have hc:eB b<=a:=hc;refine⟨_,?_,rfl,(lo+hi) / 2+1,hi,some (.val (.int (((lo+hi) / 2:Nat):Int))),?_,by lia,J,rfl,fun j x C e=>?_,L⟩;lia
    ·have o:((lo:Int)+hi) / 2=(((lo+hi) / 2:Nat):Int):=by lia
     first|(rw[o];done)|(rw[o];rfl)
    exact bo (sx _ _ _ _ e G (by lia)) hc
   ·have hc:¬eB b<=a:=hc;refine⟨_,?_,rfl,lo,(lo+hi) / 2,some (.val (.int (((lo+hi) / 2:Nat):Int))),?_,by lia,by lia,rfl,h3,fun j x C e=>?_⟩;lia
    ·have o:((lo:Int)+hi) / 2=(((lo+hi) / 2:Nat):Int):=by lia
     first|(rw[o];done)|(rw[o];rfl)
    have:=sx _ _ _ _ G e (by lia);lia
  have e:lo=hi:=by lia
  subst e;exact hh lo J h3 L
inductive zcr:List ab->Nat->(ab->Nat->Prop)->Prop
 | c {bits a:Int} {bs:qB} {n:Nat} {R:qN} (b1:bits<=64) (P:Ptc bits bs) (hl:bs.length<1000000) (h:∀b∈bs,b.1<=a->a<eB b->R (.tuple [.int b.1,.int b.2]) n) (h':(∀b∈bs,¬(b.1<=a/\a<eB b))->R .none n):zcr [.tuple (pD bs),.int a] n R
def zdK(Z:ZZ):Prop:=QF Z "block_with" 11 ["patch","address"] 4 2 zcr
theorem zfU(D:DQ Z "block_with" 11 ["patch","address"]) (N:zds Z) (T:Txt Z.mg):zdK Z:=by
 refine' okN ["patch","address","at"] D fun G=>⟨_,(Jb (dsv 2 (ndB rfl) (Jd N G (dbv 0 (dbv 1 Ja)))) (Jb (Jz (J7 (Ug (Jr (Qe G) Qd (dlv 2) (dl (Ju QO QM T.len Qu (Je (dlv 0) Jm Jq))) (Jl _)) (Uk (Jr QB QA (dl (Jh (dl (Jh (dlv 0) (dlv 2))) dli)) (dlv 1) (Jl _))))) (Jc (Jg (Jh (dlv 0) (dlv 2)))) JF) (Jc (Jg Yi)))),?_⟩;rintro ts n R hl @⟨bits,a,bs,n,R,b1,P,hl6,hh,hn⟩;wp_walk using VQ.c b1 P hl6 (fun k S C J=>?_)
 ·rw[Jy]at hc;have L:k<bs.length:=by lia
  obtain⟨b,o⟩:∃b,bs[k]?=some b:=⟨_,ak L⟩;refine zpl (k:=k) rfl (zoY o) ?_;wp_walk;refine zpl (k:=k) rfl (zoY o) ?_;exact hh b (aM o) (by assumption) (J k b (av _) o);have hx:¬b.1<=a:=hc;refine hn fun x l ⟨x0,x1⟩=>?_;obtain⟨j,v,rfl⟩:=aY l;have u:=ak v;by_cases z:j<k;have:=C j _ z u;lia;by_cases y:j=k;subst y;rw[u]at o;cases o;exact hx x0;obtain⟨I,rfl⟩:=ah.mp o;have:=aQ.mp P.2 k j I v (by lia);have:=JL bs[k];exact hx (by lia)
 rw[Jy]at hc;refine hn fun x l ⟨x0,x1⟩=>?_;obtain⟨j,v,rfl⟩:=aY l;have:=C j _ (by lia) (ak v);lia
theorem zrk{bits:Int}{bs:qB}(P:Ptc bits bs){p q:Int×Int}{x:Int}(u:p∈bs)(o:q∈bs)(G:p.1<=x)(C:x<eB p)(I:q.1<=x)(v:x<eB q):p=q:=by obtain⟨i,hi,rfl⟩:=aY u;obtain⟨j,l,rfl⟩:=aY o;rcases cw i j with z|z|z;have:=aQ.mp P.2 i j hi l z;lia;subst z;rfl;have:=aQ.mp P.2 j i l hi z;lia
inductive zb3:List ab->Nat->(ab->Nat->Prop)->Prop
 | c {bits:Int} {bs:qB} {b:Int×Int} {n:Nat} {R:qN} (b0:0<=bits) (b1:bits<=64) (P:Ptc bits bs) (hl:bs.length<1000000) (B:IsBk bits b.1 b.2) (h:∀p∈bs,p.1<=b.1->eB b<=eB p->R (.tuple [.int p.1,.int p.2]) n) (h':(∀p∈bs,¬(p.1<=b.1/\eB b<=eB p))->R .none n):zb3 [.tuple (pD bs),.tuple [.int b.1,.int b.2]] n R
def zc9(Z:ZZ):Prop:=QF Z "block_about" 12 ["patch","block"] 5 2 zb3
theorem zeO(D:DQ Z "block_about" 12 ["patch","block"]) (C:zdK Z) (L:zkx Z) (T:Txt Z.mg):zc9 Z:=by
 refine' okN ["patch","block","found"] D fun v=>⟨_,(Jb (dsv 2 (ndB rfl) (Jd C v (dbv 0 (dbc (Jh (dlv 1) dli) Ja)))) (Jb (Jz (J7 (Ug (Jr zhO zic (dlv 2) (dl Yi) (Jl _)) (Uk (J8 (dl (Jd L v (dbv 2 (dbv 1 Ja)))))))) (Jc (Jg (Jo 2))) JF) (Jc (Jg Yi)))),?_⟩;rintro ts n R hl @⟨bits,bs,b,n,R,b0,b1,P,hl2,B,h,h'⟩;have bd:=B.bounds b0;have pe:=JL b;have I:(2:Int) ^ bits.toNat<=2 ^ 64:=Bd.zdV (by lia);have N:=Bd.Q4 b.2.toNat;have j1:b.1<2 ^ 64:=by lia
 have u:∀p∈bs,p.2<=1000:=fun p l=>by have:=(P.1 p l).2.1;lia
 have o:∀p∈bs,0<=p.2:=fun p l=>(P.1 p l).1;wp_walk using zcr.c b1 P hl2 (fun p l i1 J=>?_) (fun no=>?_),zie.c (o _ l) (u _ l) bd.1 j1 ?_;exact absurd hc (by simp[isNone]);rw[zn_ (P.1 p l) B]at hc;have hd:=of_decide_eq_true hc;exact h p l hd.1 hd.2;rw[zn_ (P.1 p l) B]at hc;have hd:=of_decide_eq_false hc;refine h' fun q x z=>?_;have G:q=p:=zrk P x l z.1 (by lia) i1 J;subst G;exact hd z;exact h' fun p l z=>no p l ⟨z.1,by lia⟩;exact absurd hc (by simp[isNone])
inductive VF:List ab->Nat->(ab->Nat->Prop)->Prop
 | c {bits:Int} {bs:qB} {b:Int×Int} {n:Nat} {R:qN} (b0:0<=bits) (b1:bits<=64) (P:Ptc bits bs) (hl:bs.length<1000000) (B:IsBk bits b.1 b.2) (h:∀k:Bool,(k=true↔∃p∈bs,p.1<=b.1/\eB b<=eB p)->R (.bool k) n):VF [.tuple (pD bs),.tuple [.int b.1,.int b.2]] n R
def zeb(Z:ZZ):Prop:=QF Z "has_all" 13 ["patch","block"] 6 2 VF
theorem zjt(D:DQ Z "has_all" 13 ["patch","block"]) (o:zc9 Z) (T:Txt Z.mg):zeb Z:=by refine' okN ["patch","block"] D fun u=>⟨_,(Jc (Jg (Qi zhO zic (dl (Jd o u (dbv 0 (dbv 1 Ja)))) (dl Yi) (Jl _)))),?_⟩;rintro ts n R hl @⟨bits,bs,b,n,R,b0,b1,P,hl2,B,h⟩;wp_walk using zb3.c b0 b1 P hl2 B (fun p l i1 v=>?_) (fun no=>?_);exact h _ ⟨fun _=>⟨p,l,i1,v⟩,fun _=>rfl⟩;exact h _ ⟨fun z=>(nomatch z),fun⟨p,l,z⟩=>absurd z (no p l)⟩
inductive VR:List ab->Nat->(ab->Nat->Prop)->Prop
 | c {bits:Int} {bs:qB} {b:Int×Int} {n:Nat} {R:qN} (b0:0<=bits) (b1:bits<=64) (P:Ptc bits bs) (hl:bs.length<1000000) (B:IsBk bits b.1 b.2) (h:∀k:Bool,(k=true↔∀p∈bs,eB p<=b.1\/eB b<=p.1)->R (.bool k) n):VR [.tuple (pD bs),.tuple [.int b.1,.int b.2]] n R
def zdr(Z:ZZ):Prop:=QF Z "has_none" 14 ["patch","block"] 4 2 VR
theorem zhX(D:DQ Z "has_none" 14 ["patch","block"]) (J:zds Z) (I:Z0 Z) (T:Txt Z.mg):zdr Z:=by
 refine' okN ["patch","block","at"] D fun x=>⟨_,(Jb (dsv 2 (ndB rfl) (Jd J x (dbv 0 (dbc (Jh (dlv 1) dli) Ja)))) (Jc (Jg (zoe (Qi (Yz x) U1 (dlv 2) (dl (Ju QO QM T.len Qu (Je (dlv 0) Jm Jq))) (Jl _)) (Ud (Qi QB QA (dl (Jd I x (dbv 1 Ja))) (dl (Jh (dl (Jh (dlv 0) (dlv 2))) dli)) (Jl _))))))),?_⟩;rintro ts n R hl @⟨bits,bs,b,n,R,b0,b1,P,hl2,B,h⟩;have h0:=B.1;have L:b.2<=1000:=by have:=B.2.1;lia
 wp_walk using VQ.c b1 P hl2 (fun k N lo up=>?_),UV.c h0 L ?_;rw[Jy]at hc;refine h true ⟨fun _ p C=>?_,fun _=>rfl⟩;obtain⟨j,v,e⟩:=aY C;exact .inl (lo j p (by lia) (by rw[ak v,e]))
 ·rw[Jy]at hc;have o:k<bs.length:=by lia
  have G:(pD bs)[k]?=some (.tuple [.int bs[k].1,.int bs[k].2]):=by rw[pD,a6,ak o];rfl
  refine zrI G ?_;wp_walk;refine h _ ?_;rw[decide_eq_true_eq];constructor;intro z p C;obtain⟨j,v,rfl⟩:=aY C;rcases cw j k with q|q|q;exact .inl (lo j _ q (ak v));subst q;exact .inr z;have:=aQ.mp P.2 k j o v q;have:=JL bs[k];exact .inr (by unfold eB at *;lia);intro z;have:=up k bs[k] (av _) (ak o);rcases z bs[k] (eU o) with q|q;lia;exact q
inductive zdB:List ab->Nat->(ab->Nat->Prop)->Prop
 | c {bits:Int} {ps:qB} {n:Nat} {R:qN} (b0:0<=bits) (b1:bits<=64) (P:Ptc bits ps) (l:ps.length<=10000) (h:∀bs:BL,PInv bits ps bs bs.length->bs=runP bits ps bs.length->bs.length<=1+130*ps.length->R (.list (pD bs)) n):zdB [.int bits,.tuple (pD ps)] n R
def ze_(Z:ZZ):Prop:=QF Z "parts_of" 23 ["bits","patch"] 7 2 zdB
theorem zhR(D:DQ Z "parts_of" 23 ["bits","patch"]) (Hz:zeb Z) (Hu:zdr Z) (HF:zfJ Z) (T:Txt Z.mg):ze_ Z:=by
 refine' okN ["bits","patch","parts","at","block"] D fun J=>⟨_,(Jb (Yj (i:=2) (ndB rfl) rfl (fw rfl) (JV (dbc (Jn (dbc Ji (dbv 0 Ja))) Ja))) (Jb (dsv 3 (ndB rfl) Ji) (Jb (VN bV (Jr (Qe J) Qd (dlv 3) (dl (Ju QO QM T.len Qu (Je (QK 2) Jm Jq))) (Jl _)) (Jb (dsv 4 (ndB rfl) (Jh (QK 2) (dlv 3))) (Jb (Jz (J7 (Ug (QS (J8 (dl (Jd Hz J (dbv 1 (dbv 4 Ja)))))) (Uk (QS (J8 (dl (Jd Hu J (dbv 1 (dbv 4 Ja))))))))) (Jc (zjW 2 (Jd HF J (dbv 4 Ja)))) JF) (Jc (zsC (i:=3) (ndB rfl) rfl (fw rfl) Ji zrU))))) (UA 2 (Jc (Jg (Jo 2))))))),?_⟩;rintro ts n R hl @⟨bits,ps,n,R,b0,b1,P,l,h⟩;wp_walk;refine zhE (m:=msz ([(0,bits)]:BL)) (fun m Y n'=>n'=n/\∃(bs:BL) (k:Nat) (c:Option Cell),Y=[some (.val (.int bits)),some (.val (.tuple (pD ps))),some (.own (pD bs)),some (.val (.int (k:Int))),c]/\PInv bits ps bs k/\bs=runP bits ps k/\k<=bs.length/\msz (bs.drop k)<=m) ⟨rfl,[(0,bits)],0,_,rfl,PInv.start b0,rfl,by simp,av _⟩ ?_;rintro m Y n' K RT BK ⟨rfl,bs,k,c,rfl,I,x,kl,hm⟩ hK hRT hBK;have ln:=I.len b1 P.1;wp_walk
 ·rw[Jy]at hc;have L:k<bs.length:=by lia
  have hb:bs[k]?=some bs[k]:=ak L;generalize bs[k]=b at hb;have gb:(pD bs)[k]?=some (.tuple [.int b.1,.int b.2]):=by rw[pD,a6,hb];rfl
  have B:=I.bk b (aM hb);have S:b.2<=1000:=by have:=B.2.1;lia
  have U:ps.length<1000000:=by lia
  refine zrJ gb ?_;wp_walk using VF.c b0 b1 P U B (fun al C=>?_);subst hc;refine hK _ _ _ ?_ ⟨rfl,bs,k+1,_,by rw[kG],I.no hb (fun z=>z.2 (C.mp rfl)),x.trans (zkq (x▸hb) fun z=>z.2 (C.mp rfl)).symm,L,av _⟩;have:=zn0 hb;lia
  ·subst hc;wp_walk using VR.c b0 b1 P U B (fun no G=>?_);subst hc;refine hK _ _ _ ?_ ⟨rfl,bs,k+1,_,by rw[kG],I.no hb (fun z=>z.1 (G.mp rfl)),x.trans (zkq (x▸hb) fun z=>z.1 (G.mp rfl)).symm,L,av _⟩;have:=zn0 hb;lia
   ·subst hc;have pr:Prt ps b:=⟨fun z=>absurd (G.mpr z) (by decide),fun z=>absurd (C.mpr z) (by decide)⟩;have g0:=pr.pos B;wp_walk using YO.c g0 S ?_;rw[Jy];show bs.length+2<=_;lia;have ep:pD bs++[dw [.int b.1,.int (b.2 - 1)],.tuple [.int (cz b.1 (2 ^ (b.2 - 1).toNat)),.int (b.2 - 1)]]=pD (bs++[loH b,upH b]):=by simp[pD,prD]
    refine hK _ _ _ ?_ ⟨rfl,bs++[loH b,upH b],k+1,_,by rw[kG,ep],I.yes b0 hb pr,(congrArg (·++[loH b,upH b]) x).trans (zmy (x▸hb) pr).symm,by rw[aH];lia,av _⟩;have:=zpa hb g0;lia
 ·rw[Jy]at hc;have e:k=bs.length:=by lia
  rw[e]at I x;refine hBK _ _ ?_;wp_walk;exact h bs I x ln
inductive V2:List ab->Nat->(ab->Nat->Prop)->Prop
 | c {bits:Int} {ps:qB} {qs:PR} {b:Int×Int} {n:Nat} {R:qN} (b0:0<=bits) (b1:bits<=64) (P:Ptc bits ps) (hl:ps.length<1000000) (B:IsBk bits b.1 b.2) (h:∀no al:Bool,(no=true↔HasN ps b)->(al=true↔HasA ps b)->R (optD (bpD no al qs b)) n):V2 [.tuple (pD ps),.dict (Jv (prK qs)),.tuple [.int b.1,.int b.2]] n R
def zcR(Z:ZZ):Prop:=QF Z "best_pair" 24 ["patch","pairs","block"] 7 3 V2
theorem zgX(D:DQ Z "best_pair" 24 ["patch","pairs","block"]) (S:zdr Z) (U:zeb Z) (Y:zfJ Z) (T:Txt Z.mg):zcR Z:=by
 refine' okN ["patch","pairs","block","lower","upper","zeros","ones"] D fun o=>⟨_,(Jb (Jz (J8 (dl (Jd S o (dbv 0 (dbv 2 Ja))))) (Jc (Jg (Jn (dbc Ji (dbc Ji Ja))))) JF) (Jb (Jz (J8 (dl (Jd U o (dbv 0 (dbv 2 Ja))))) (Jc (Jg (Jn (dbc Ji (dbc Ji Ja))))) JF) (Jb (Ue (Jd Y o (dbv 2 Ja)) (Qj rfl (Jx (dgv 3 (ndB rfl)) (Jx (dgv 4 (ndB rfl)) Qg)))) (Jb (Jz (J7 (UH (Jr (Vy (JI o)) Yl (dlv 3) (dlv 1) rfl) (UK (Jr (Vy (JI o)) Yl (dlv 4) (dlv 1) rfl)))) (Jc (Jg Yi)) JF) (Jb (dsv 5 (ndB rfl) (JC (dl (Jh (dl (Qc (JI o) (dlv 1) (dlv 3))) dli)) (dl (Jh (dl (Qc (JI o) (dlv 1) (dlv 4))) dli)))) (Jb (dsv 6 (ndB rfl) (JC (dl (Jh (dl (Qc (JI o) (dlv 1) (dlv 3))) dli)) (dl (Jh (dl (Qc (JI o) (dlv 1) (dlv 4))) dli)))) (Jc (Jg (Jn (dbc (Ju (Uu rfl) Uh T.min Ut (Je (dlv 5) (Je (dl (JC (dlv 6) dli)) Jm QW) Jq)) (dbc (Ju (Uu rfl) Uh T.min Ut (Je (dlv 6) (Je (dl (JC (dlv 5) dli)) Jm QW) Jq)) Ja))))))))))),?_⟩;rintro ts n R hl @⟨bits,ps,qs,b,n,R,b0,b1,P,hl2,B,h⟩;have N:b.2<=1000:=by have:=B.2.1;lia
 wp_walk using VR.c b0 b1 P hl2 B (fun no v=>?_);subst hc
 classical
 exact h true (decide (HasA ps b)) v (by rw[decide_eq_true_eq])
 ·subst hc;wp_walk using VF.c b0 b1 P hl2 B (fun al C=>?_);subst hc;exact h false true v C
  ·subst hc;have L:1<=b.2:=by
    have h0:=B.1;rcases fV 0 b.2 with z|z;lia;rcases zfZ (ps:=ps) (b:=b) (by lia) with q|q;exact absurd (v.mpr q) (by decide);exact absurd (C.mpr q) (by decide)
   have key:=h false false v C;cases e1:valP qs (loH b) with
   | none =>
    have J:valT (prK qs) (loH b)=none:=by rw[Q1,e1];rfl
    have G:bpD false false qs b=none:=by simp[bpD,e1]
    rw[G]at key;wp_walk using YO.c L N ?_,Qv (k:=loH b) ?_;exact key;rw[J]at hc;cases hc
   | some x =>
    have J:valT (prK qs) (loH b)=some (.tuple [.int x.1,.int x.2]):=by rw[Q1,e1];rfl
    cases e2:valP qs (upH b) with
    | none =>
     have I:valT (prK qs) (upH b)=none:=by rw[Q1,e2];rfl
     have G:bpD false false qs b=none:=by simp[bpD,e1,e2]
     rw[G]at key;wp_walk using YO.c L N ?_,Qv (k:=loH b) ?_,Qv (k:=upH b) ?_;exact key;exact key;rw[I]at hc;cases hc
    | some y =>
     have I:valT (prK qs) (upH b)=some (.tuple [.int y.1,.int y.2]):=by rw[Q1,e2];rfl
     have G:bpD false false qs b=some (if x.2+y.2+1<x.1+y.1 then x.2+y.2+1 else x.1+y.1,if x.1+y.1+1<x.2+y.2 then x.1+y.1+1 else x.2+y.2):=by simp only[bpD,e1,e2];rfl
     rw[G]at key;wp_walk using YO.c L N ?_,Qv (k:=loH b) ?_,Qv (k:=upH b) ?_,QR J ?_,QR I ?_;rw[J]at hc;cases hc;rw[I]at hc;cases hc;exact key
inductive VT:List ab->Nat->(ab->Nat->Prop)->Prop
 | c {bits:Int} {bs:BL} {n:Nat} {R:qN} (b0:0<=bits) (b1:bits<=64) (B:Bks bits bs) (l:bs.length<100000) (l2:bs.length<=10000) (h:∀(ps:BL) (qs:PR),CanP (fun x=>mB x bs) ps->PrOk bits ps qs->POrd bits ps qs->R (.dict (Jv (prK qs))) n):VT [.int bits,.tuple (pD bs)] n R
def zdp(Z:ZZ):Prop:=QF Z "pairs_of" 22 ["bits","patch"] 8 2 VT
theorem zhS(D:DQ Z "pairs_of" 22 ["bits","patch"]) (HG:zfK Z) (HW:ze_ Z) (Hr:zcR Z) (T:Txt Z.mg):zdp Z:=by
 refine' okN ["bits","patch","wanted","pairs","block"] D fun o=>⟨_,(Jb (dsv 2 (ndB rfl) (Jd HG o (dbv 1 Ja))) (Jb (zpO (i:=3) (ndB rfl) rfl (fw rfl)) (Jb (Uf bV rfl (zsG T.rev (Jd HW o (dbv 0 (dbv 2 Ja)))) (dgv 4 (ndB rfl)) (Jc (zii 3 (JI o) (Jo 4) (zoh Hr o (Je (dlv 2) (Je (Q3 3) (Je (dlv 4) Jm Jq) Jq) Jq))))) (Jc (zpP 3))))),?_⟩;rintro ts n R hl @⟨bits,bs,n,R,b0,b1,B,l,l2,h⟩;wp_walk using VP.c (.inr rfl) b0 b1 B l (fun ps C lp=>?_);have P:Ptc bits ps:=C.ptc b0 fun x hx=>UP b0 B hx;have l3:ps.length<=10000:=by lia
 wp_walk using zdB.c b0 b1 P l3 (fun ws I eo lw=>?_);have er:(pD ws).reverse=pD ws.reverse:=by simp[pD]
 rw[er];refine Ux (fun k S N=>N=n/\∃qs:PR,∃L,S=[some (.val (.int bits)),some (.val (.tuple (pD bs))),some (.val (.tuple (pD ps))),some (.dtt (prK qs)),L]/\PrsI bits ps ws k qs) ⟨rfl,[],_,rfl,PrsI.start⟩ ?_ ?_
 ·rintro k t S N K et ⟨rfl,qs,L,rfl,J⟩ hK;obtain⟨i,h,Y,rfl⟩:=Zv et;have Bb:=I.bk _ (kE.mp (aM Y));have U:ps.length<1000000:=by lia
  have lq:qs.length<=ws.length:=by have:=congrArg bL J.keys;simp at this;lia
  wp_walk using V2.c (b:=(i,h)) b0 b1 P U Bb (fun no al hn ha=>?_);obtain⟨v,e,fr,J2⟩:=J.step I Y hn ha;rw[e];rfl;rw[prK,ao];lia;obtain⟨v,e,fr,J2⟩:=J.step I Y hn ha;rw[e,show optD (some v)=twoD v from rfl,zkz fr];exact hK _ _ ⟨rfl,_,_,rfl,J2⟩
 ·rintro S N ⟨rfl,qs,L,rfl,J⟩;rw[Jy,cX]at J;wp_walk;have G:=J.keys;rw[<- cX,dr]at G;exact h ps qs C ⟨ws,I,J⟩ (by have e:=congrArg bL G;rw[ao,cX]at e;unfold POrd;rw[e,G,List.reverse_reverse];exact eo)
inductive zcq:List ab->Nat->(ab->Nat->Prop)->Prop
 | c {bits:Int} {bs:BL} {n:Nat} {R:qN} (b0:0<=bits) (b1:bits<=64) (B:Bks bits bs) (l:bs.length<100000) (l2:bs.length<=10000) (h:∀ps:BL,CanP (fun x=>mB x bs) ps->R (.int (zjB bits ps)) n):zcq [.int bits,.tuple (pD bs)] n R
def zdJ(Z:ZZ):Prop:=QF Z "many_rules" 21 ["bits","patch"] 9 2 zcq
theorem zfT(D:DQ Z "many_rules" 21 ["bits","patch"]) (x:zdp Z) (T:Txt Z.mg):zdJ Z:=by
 refine' okN ["bits","patch"] D fun o=>⟨_,(Jc (Jg (Jh (dl (Qc (JI o) (dl (Jd x o (dbv 0 (dbv 1 Ja)))) (dl (Jn (dbc Ji (dbv 0 Ja)))))) dli))),?_⟩;rintro ts n R hl @⟨bits,bs,n,R,b0,b1,B,l,l2,h⟩;wp_walk using VT.c b0 b1 B l l2 (fun ps qs C Q _=>?_);obtain⟨v,ev⟩:=Q.root;have G:valT (prK qs) (0,bits)=some (.tuple [.int v.1,.int v.2]):=by rw[Q1,ev];rfl
 refine QR (k:=(0,bits)) G ?_;wp_walk;rw[Q.many ev];exact h ps C
def rwD(q:(Int×Int)×(Int×Int)):ab:=.tuple [.tuple [.int q.1.1,.int q.1.2],.int q.2.1,.int q.2.2]
inductive VX:List ab->Nat->(ab->Nat->Prop)->Prop
 | c {bits:Int} {bs:BL} {n:Nat} {R:qN} (b0:0<=bits) (b1:bits<=64) (B:Bks bits bs) (l:bs.length<100000) (l2:bs.length<=10000) (h:∀(ps:BL) (qs:PR),CanP (fun x=>mB x bs) ps->ps.length<=bs.length->PrOk bits ps qs->POrd bits ps qs->qs.length<=1+130*bs.length->R (.tuple (qs.map rwD)) n):VX [.int bits,.tuple (pD bs)] n R
def zc7(Z:ZZ):Prop:=QF Z "rules_paper" 26 ["bits","patch"] 9 2 VX
theorem zeN(D:DQ Z "rules_paper" 26 ["bits","patch"]) (L:zdp Z) (T:Txt Z.mg):zc7 Z:=by
 refine' okN ["bits","patch","pairs"] D fun o=>⟨_,(Jb (dsv 2 (ndB rfl) (Jd L o (dbv 0 (dbv 1 Ja)))) (Jc (Jg (UG Z5 ZK T.tup UB (Je (dl (JK (dnc ["block"] [2] (dil (zlD (Jo 2))) (fun _ _ _ _=>(dgv 0 (ndB rfl))) (fun _ _ _ _=>(Jn (dbv 0 (dbc (Jh (dl (Qc (JI o) (dlv 1) (dlv 0))) dli) (dbc (Jh (dl (Qc (JI o) (dlv 1) (dlv 0))) dli) Ja)))))))) Jm QZ))))),?_⟩;rintro ts n R hl @⟨bits,bs,n,R,b0,b1,B,l,l2,h⟩;wp_walk using VT.c b0 b1 B l l2 (fun ps qs C Q N=>?_);have J:=C.le b0 B;have P:Ptc bits ps:=C.ptc b0 fun x hx=>UP b0 B hx;have lq:=(Q.len b1 P.1).2;refine⟨prK qs,rfl,?_⟩;have e:(prK qs).map (fun q=>L2.blkT q.1)=qs.map fun q=>L2.blkT q.1:=by simp[prK]
 rw[e];refine Uv (cs:=qs) rwD (by lia) ?_ ?_
 ·intro q G S U v;have ev:=zhF Q.nd G;have I:valT (prK qs) q.1=some (.tuple [.int q.2.1,.int q.2.2]):=by rw[Q1,ev];rfl
  rw[L2.blkT];wp_walk using QR I ?_;exact v
 ·wp_walk;exact h ps qs C J Q N (by lia)
inductive zdD:List ab->Nat->(ab->Nat->Prop)->Prop
 | c {bits:Int} {ps:qB} {qs:PR} {b q:Int×Int} {n:Nat} {R:qN} (b0:0<=bits) (b1:bits<=64) (P:Ptc bits ps) (hl:ps.length<1000000) (B:IsBk bits b.1 b.2) (hq:valP qs b=some q) (h:∀no al:Bool,(no=true↔HasN ps b)->(al=true↔HasA ps b)->R (.bool (rgtD (bpD no al qs b) q)) n):zdD [.tuple (pD ps),.dict (Jv (prK qs)),.tuple [.int b.1,.int b.2]] n R
def zfa(Z:ZZ):Prop:=QF Z "is_right" 30 ["patch","pairs","block"] 8 3 zdD
theorem zhU(D:DQ Z "is_right" 30 ["patch","pairs","block"]) (G:zcR Z) (T:Txt Z.mg):zfa Z:=by
 refine' okN ["patch","pairs","block","most","a","b"] D fun C=>⟨_,(Jb (dsv 3 (ndB rfl) (Jd G C (dbv 0 (dbv 1 (dbv 2 Ja))))) (Jb (Jz (Jr zrg zsm (dlv 3) (dl Yi) (Jl _)) (Jc (Jg JW)) JF) (Jb (Ue (Qc (JI C) (dlv 1) (dlv 2)) (Qj rfl (Jx (dgv 4 (ndB rfl)) (Jx (dgv 5 (ndB rfl)) Qg)))) (Jc (Jg (UQ (Qi QB QA (dlv 4) (dl (Jh (dlv 3) dli)) (Jl _)) (Ud (Qi QB QA (dlv 5) (dl (Jh (dlv 3) dli)) (Jl _))))))))),?_⟩;rintro ts n R hl @⟨bits,ps,qs,b,q,n,R,b0,b1,P,hl2,B,hq,h⟩;have v:valT (prK qs) b=some (.tuple [.int q.1,.int q.2]):=by rw[Q1,hq];rfl
 wp_walk using V2.c b0 b1 P hl2 B (fun no al x ha=>?_);have key:=h no al x ha;cases e:bpD no al qs b with
 | none=>rw[e]at key;exact key
 | some m=>rw[e]at hc;exact absurd hc (by simp[optD,twoD,isNone])
 ·have key:=h no al x ha;cases e:bpD no al qs b with
  | none=>rw[e]at hc;exact absurd hc (by simp[optD,isNone])
  | some m =>rw[e]at key;have key:R (.bool (decide (q.1<=m.1)&&decide (q.2<=m.2))) n:=key;have I:optD (some m)=.tuple [.int m.1,.int m.2]:=rfl;rw[I];wp_walk using QR v ?_;rw[decide_eq_true hc,eH]at key;exact key;rw[decide_eq_false hc,eQ]at key;exact key
def cntD:ab->Bool|.int i=>decide (0<=i)|_=>false
inductive VS:List ab->Nat->(ab->Nat->Prop)->Prop
 | c {d:ab} {n:Nat} {R:qN} (p:PlnD d) (h:R (.bool (cntD d)) n):VS [d] n R
def zfb(Z:ZZ):Prop:=QF Z "is_count" 29 ["thing"] 2 1 VS
theorem zhV(D:DQ Z "is_count" 29 ["thing"]) (u:zdq Z) (T:Txt Z.mg):zfb Z:=by
 refine' okN ["thing"] D fun v=>⟨_,(Jc (Jg (UQ (Jd u v (dbv 0 Ja)) (Ud (Qi zo2 gp_B (dlv 0) dli (Jl _)))))),?_⟩;intro ts n R x h;obtain @⟨d,n,R,p,h⟩:=h;cases d with
 | int i =>have h:R (.bool (decide (0<=i))) n:=h;wp_walk using UC (b:=true) rfl p.pln ?_;all_goals first|exact h|exact absurd rfl hc
 | dict ks =>
  cases ks with
  | nil =>wp_walk using UC (b:=false) rfl p.pln ?_;all_goals first|exact h|exact absurd rfl hc
  | cons a b=>exact absurd rfl p.pln
 | _ =>wp_walk using UC (b:=false) rfl p.pln ?_;all_goals first|exact h|exact absurd rfl hc
def Qa(bits:Int):ab->Bool
 | .tuple [b,x,y]=>QN bits b&&(cntD x&&cntD y)
 | _=>false
inductive zf_:List ab->Nat->(ab->Nat->Prop)->Prop
 | c {bits:Int} {d:ab} {n:Nat} {R:qN} (b0:0<=bits) (b1:bits<=64) (p:PlnD d) (h:R (.bool (Qa bits d)) n):zf_ [.int bits,d] n R
theorem zoK{d:ab}(h:PlnD d):Pl2 d:=⟨h.pln,fun ts e t o=>by subst e;exact(h.tup.2 t o).pln⟩
def ziG(Z:ZZ):Prop:=QF Z "is_row" 28 ["bits","thing"] 3 2 zf_
theorem zkS(D:DQ Z "is_row" 28 ["bits","thing"]) (L:zfc Z) (G:zfb Z) (T:Txt Z.mg):ziG Z:=by
 refine' okN ["bits","thing","block","a","b"] D fun C=>⟨_,(Jb (Jz (J7 (UH (QS (J8 (dl (ZI zf7 T.isi T.tup UB (dlv 1) Jq)))) (UK (Jr (Zu C) Y2 (dl (Ju QO QM T.len Qu (Je (dlv 1) Jm Jq))) dli (Jl _))))) (Jc (Jg JW)) JF) (Jb (Ue (Jo 1) (Qj rfl (Jx (dgv 2 (ndB rfl)) (Jx (dgv 3 (ndB rfl)) (Jx (dgv 4 (ndB rfl)) Qg))))) (Jc (Jg (UQ (Jd L C (dbv 0 (dbv 2 Ja))) (UQ (Jd G C (dbv 3 Ja)) (Ud (Jd G C (dbv 4 Ja))))))))),?_⟩;intro ts n R Y h;obtain @⟨bits,d,n,R,b0,b1,p,h⟩:=h;cases d with
 | dict ks =>
  cases ks with
  | nil =>wp_walk;exact h
  | cons a b=>exact absurd rfl p.pln
 | tuple ts =>
  obtain⟨U,v⟩:=p.tup;match ts,v,h with
  | [],_,h =>wp_walk;all_goals first|exact h|(exfalso;simp at hc;done)
  | [x],_,h =>
   have e:Qa bits (.tuple [x])=false:=by unfold Qa;split <;> simp_all
   rw[e]at h;wp_walk;all_goals first|exact h|(exfalso;simp at hc;done)
  | [x,y],_,h =>
   have e:Qa bits (.tuple [x,y])=false:=by unfold Qa;split <;> simp_all
   rw[e]at h;wp_walk;all_goals first|exact h|(exfalso;simp at hc;done)
  | x::y::z::w::r,_,h =>
   have e:Qa bits (.tuple (x::y::z::w::r))=false:=by unfold Qa;split <;> simp_all
   rw[e]at h;wp_walk;all_goals first|exact h|(exfalso;simp at hc;lia)
  | [x,y,z],v,h =>have S:=v x (by simp);have py:=v y (by simp);have N:=v z (by simp);have h:R (.bool (QN bits x&&(cntD y&&cntD z))) n:=h;wp_walk using zdE.c b0 b1 (zoK S) ?_,VS.c py ?_,VS.c N ?_;rename_i J I;rw[I,hc,eH,eH]at h;exact h;rename_i J I;rw[hc,eQ,l8]at h;exact h;rw[hc,eQ]at h;exact h;exact absurd rfl hc
 | _ =>wp_walk;exact h
def RwOk(bits:Int)(q:(Int×Int)×(Int×Int)):Prop:=IsBk bits q.1.1 q.1.2/\0<=q.2.1/\0<=q.2.2
theorem zua{bits:Int}(o:0<=bits){q:(Int×Int)×(Int×Int)}(h:RwOk bits q):Qa bits (rwD q)=true:=by show(QN bits (.tuple [.int q.1.1,.int q.1.2])&&(decide (0<=q.2.1)&&decide (0<=q.2.2)))=true;rw[(zhl o).mpr h.1,decide_eq_true h.2.1,decide_eq_true h.2.2];rfl
theorem zt_{bits:Int}(I:0<=bits){t:ab}(h:Qa bits t=true):∃q,t=rwD q/\RwOk bits q:=by unfold Qa at h;split at h;rename_i b x y;rw[aW,aW]at h;obtain⟨C,l,o⟩:=h;have G:=C;unfold QN at C;split at C;rename_i i g;unfold cntD at l o;split at l;rename_i u;split at o;rename_i v;exact⟨((i,g),(u,v)),rfl,(zhl I).mp G,of_decide_eq_true l,of_decide_eq_true o⟩;cases o;cases l;cases C;cases h
theorem zkr{bits:Int}(l:0<=bits):∀{ts:qD},ts.all (Qa bits)=true->∃qs:PR,ts=qs.map rwD/\∀q∈qs,RwOk bits q
 | [],_=>⟨[],rfl,(fun q h=>nomatch h)⟩
 | t::ts,h=>by rw[List.all_cons,aW]at h;obtain⟨q,rfl,o⟩:=zt_ l h.1;obtain⟨qs,rfl,u⟩:=zkr l h.2;exact⟨q::qs,rfl,fun x hx=>by rcases ay.mp hx with rfl|hx;exact o;exact u x hx⟩
theorem ZF{qs ls:PR}(h:qs.map rwD=ls.map rwD):qs=ls:=by
 induction qs generalizing ls with
 | nil=>cases ls with
  | nil=>rfl
  | cons _ _=>cases h
 | cons q qs o =>
  cases ls with
  | nil=>cases h
  | cons l ls =>obtain⟨⟨a,b⟩,⟨c,d⟩⟩:=q;obtain⟨⟨v,u⟩,⟨c',d'⟩⟩:=l;rw[aC,aC]at h;injection h with h1 h2;rw[o h2];simp[rwD]at h1;obtain⟨⟨rfl,rfl⟩,rfl,rfl⟩:=h1;rfl
def zl7(bits:Int)(ps:BL)(many:Int)(d:ab):Prop:=∃qs:PR,d=.tuple (qs.map rwD)/\(∀q∈qs,RwOk bits q)/\(qs.map (·.1)).Nodup/\(∃v,valP qs (0,bits)=some v/\many<=v.1)/\∀q∈qs,∀no al:Bool,(no=true↔HasN ps q.1)->(al=true↔HasA ps q.1)->rgtD (bpD no al qs q.1) q.2=true
theorem zmM{x y:ab}(h:PlnD x)(h':PlnD y):PlnD (.tuple [x,y]):=zfM (by simp) (ZU h (ZU h' ziJ))
theorem zjp{x y z:ab}(h:PlnD x)(h':PlnD y)(o:PlnD z):PlnD (.tuple [x,y,z]):=zfM (by simp) (ZU h (ZU h' (ZU o ziJ)))
theorem zou{qs:PR}:∀t∈qs.map rwD,PlnD t:=fun t l=>by obtain⟨q,_,rfl⟩:=a7.mp l;exact zjp (zmM VL VL) VL VL
inductive V0:List ab->Nat->(ab->Nat->Prop)->Prop
 | c {bits:Int} {bs ps:BL} {many:Int} {d:ab} {n:Nat} {R:qN} (b0:0<=bits) (b1:bits<=64) (B:Bks bits bs) (l:bs.length<100000) (l2:bs.length<=10000) (C:CanP (fun x=>mB x bs) ps) (p:PlnD d) (h:∀b:Bool,(b=true↔zl7 bits ps many d)->R (.bool b) n):V0 [.int bits,.tuple (pD bs),.int many,d] n R
def zdH(Z:ZZ):Prop:=QF Z "shows_many" 27 ["bits","patch","many","paper"] 9 4 V0
theorem zfR(D:DQ Z "shows_many" 27 ["bits","patch","many","paper"]) (HG:zfK Z) (HY:zfa Z) (Ig:ziG Z) (T:Txt Z.mg):zdH Z:=by
 refine' okN ["bits","patch","many","paper","pairs","wanted"] D fun L=>⟨_,(Jb (Jz (J7 (UH (QS (J8 (dl (ZI zf7 T.isi T.tup UB (dlv 3) Jq)))) (UK (QS (J8 (dl (Ju (ZS rfl) Zh T.all ZR (Je (dl (JK (dnc ["row"] [0] (dil (UJ (Jo 3))) (fun _ _ _ _=>(dgv 0 (ndB rfl))) (fun _ _ _ _=>(Jd Ig L (dbv 1 (dbv 0 Ja))))))) Jm QZ)))))))) (Jc (Jg JW)) JF) (Jb (dsv 4 (ndB rfl) (znx (own:=["block","a","b"]) (capt:=[]) (JI L) rfl (JB.of rfl) (dil (UJ (Jo 3))) (fun _ _ _ _=>(Qj rfl (Jx (dgv 0 (ndB rfl)) (Jx (dgv 1 (ndB rfl)) (Jx (dgv 2 (ndB rfl)) Qg))))) (by decide) (fun _ _ _ _=>ZD) (fun _ _ _ _=>(Jo 0)) (fun _ _ _ _=>(Jn (dbv 1 (dbv 2 Ja)))))) (Jb (Jz (J7 (UH (Jr (Zu L) Y2 (dl (Ju zlY zpG T.len Qu (Je (dlv 4) Jm Jq))) (dl (Ju QO QM T.len Qu (Je (dlv 3) Jm Jq))) (Jl _)) (UK (Jr (Vy (JI L)) Yl (dl (Jn (dbc Ji (dbv 0 Ja)))) (dlv 4) rfl)))) (Jc (Jg JW)) JF) (Jb (Jz (Jr (Qe L) Qd (dl (Jh (dl (Qc (JI L) (dlv 4) (dl (Jn (dbc Ji (dbv 0 Ja)))))) dli)) (dlv 2) (Jl _)) (Jc (Jg JW)) JF) (Jb (dsv 5 (ndB rfl) (Jd HG L (dbv 1 Ja))) (Jc (Jg (Ju (ZS rfl) Zh T.all ZR (Je (dl (JK (dnc ["block"] [5,4] (dil (zlD (Jo 4))) (fun _ _ _ _=>(dgv 0 (ndB rfl))) (fun _ _ _ _=>(Jd HY L (dbv 1 (dbv 2 (dbv 0 Ja)))))))) Jm QZ))))))))),?_⟩;rintro ts n R hl @⟨bits,bs,ps,many,d,n,R,b0,b1,B,l,l2,C,p,h⟩;have no:(¬zl7 bits ps many d)->R (.bool false) n:=fun z=>h false ⟨(fun y=>by cases y),fun y=>absurd y z⟩;cases d with
 | dict ks =>
  cases ks with
  | nil =>
   have key:=no fun⟨qs,e,_⟩=>by cases e
   wp_walk;exact key
  | cons a b=>exact absurd rfl p.pln
 | tuple us =>
  obtain⟨l6,p3⟩:=p.tup;wp_walk;refine zfx (fun t=>.bool (Qa bits t)) (by lia) ?_ ?_
  ·intro t mt K2 X2 I;wp_walk using zf_.c b0 b1 (p3 t mt) ?_;exact I
  ·wp_walk using Zi (f:=Qa bits) ?_
   ·obtain⟨qs,rfl,ok⟩:=zkr b0 hc;rw[ao]at l6;refine zjY (cs:=qs) (D:=rwD) (fun q=>q.1) (fun q=>twoD q.2) (by lia) ?_ ?_
    ·intro q J K2 X2 I;rw[rwD];wp_walk;exact I
    ·by_cases nd:(qs.map (·.1)).Nodup
     ·have U:qs.foldl (fun acc b=>putT acc b.1 (twoD b.2)) []=prK qs:=zif (qs:=qs) (acc:=[]) (by simpa using nd);rw[U];cases ev:valP qs (0,bits) with
      | none =>
       have Y:valT (prK qs) (0,bits)=none:=by rw[Q1,ev];rfl
       have key:=no fun⟨ls,e,_,_,⟨v,hv,_⟩,_⟩=>by rw[ZF (eW e),hv]at ev;cases ev
       wp_walk using zlq ?_,Qv (k:=(0,bits)) ?_;exact key;rw[Y]at hc;cases hc;exact key
      | some v =>
       have Y:valT (prK qs) (0,bits)=some (.tuple [.int v.1,.int v.2]):=by rw[Q1,ev];rfl
       wp_walk using zlq ?_,Qv (k:=(0,bits)) ?_,QR (k:=(0,bits)) Y ?_,VP.c (.inr rfl) b0 b1 B l (fun G C' lp=>?_);rw[Y]at hc;cases hc;exact no fun⟨ls,e,_,_,⟨v',hv,hm⟩,_⟩=>by rw[<- ZF (eW e),ev]at hv;cases hv;lia
       ·have ep:=C'.uniq C fun x=>aR;subst ep;have P:Ptc bits G:=C'.ptc b0 fun x hx=>UP b0 B hx;have lp2:G.length<1000000:=by lia
        refine⟨prK qs,rfl,?_⟩;have e:(prK qs).map (fun q=>L2.blkT q.1)=qs.map fun q=>L2.blkT q.1:=by simp[prK]
        rw[e]
        classical
        let f:(Int×Int)×(Int×Int)->Bool:=fun q=>rgtD (bpD (decide (HasN G q.1)) (decide (HasA G q.1)) qs q.1) q.2;refine Uv (cs:=qs) (fun q=>.bool (f q)) (by lia) ?_ ?_
        ·intro q J K2 X2 I;have Bq:=(ok q J).1;have vq:=zhF nd J;rw[L2.blkT];wp_walk using zdD.c (b:=q.1) (q:=q.2) b0 b1 P lp2 Bq vq (fun no al hn ha=>?_);have e1:no=decide (HasN G q.1):=by rw[cc,hn,decide_eq_true_eq]
         have e2:al=decide (HasA G q.1):=by rw[cc,ha,decide_eq_true_eq]
         rw[e1,e2];exact I
        ·wp_walk using Zi (f:=f) ?_;refine h _ ?_;rw[df];constructor;intro z;refine⟨qs,rfl,ok,nd,⟨v,ev,by lia⟩,fun q J no al hn ha=>?_⟩;have e1:no=decide (HasN G q.1):=by rw[cc,hn,decide_eq_true_eq]
         have e2:al=decide (HasA G q.1):=by rw[cc,ha,decide_eq_true_eq]
         rw[e1,e2];exact z q J;rintro⟨ls,e,_,_,_,r⟩ q J;have el:=ZF (eW e);subst el;exact r q J _ _ (by rw[decide_eq_true_eq]) (by rw[decide_eq_true_eq])
       exact absurd (by rw[prK,ao,ao]) hc
     ·have key:=no fun⟨ls,e,_,S,_⟩=>by
       rw[<- ZF (eW e)]at S;exact nd S
      have U:(qs.foldl (fun acc b=>putT acc b.1 (twoD b.2)) []).length≠qs.length:=fun z=>nd (znm.mp z);generalize qs.foldl (fun acc b=>putT acc b.1 (twoD b.2)) []=ks at U ⊢;wp_walk using zlq ?_;rw[ao]at hc;exact absurd (Int.ofNat.inj hc) U;exact key
   have key:=no fun⟨ls,e,ok,_⟩=>by
    have:us.all (Qa bits)=true:=by rw[eW e,df];intro x hx;obtain⟨q,J,rfl⟩:=a7.mp hx;exact zua b0 (ok q J)
    rw[this]at hc;cases hc
   exact key
 | _ =>
  have key:=no fun⟨qs,e,_⟩=>by cases e
  wp_walk;exact key
theorem scH:Qp ["_law_script","_law_k","_law_cell"] ["_law_script","_law_k"] (Jt (top 32)):=⟨rfl,rfl,rfl,by decide +kernel,rfl,by decide +kernel,by decide +kernel⟩
theorem zg2{f:af}{fd:cA}(D:Def K mg "_law_hand" (top 32) ["_law_script","_law_k"] f fd) (T:Txt mg):FnOk P w K mg base CX0 1 f fd ["_law_script","_law_k"] (zkh K):=by
 refine D.F.ok scH (fun vs H Q E h=>?_) (fun C A outer s H vs Q E J h=>?_);obtain⟨a,ns,k,rfl,_⟩:=h;rfl;obtain⟨a,ns,k,rfl,u,L,G,I,q⟩:=h;refine⟨_,QG (QC (i:=2) scH.nd rfl (fw rfl) JD)
  (QG (zoH (zhL zrc (pv 1) (Vh zhx T.len Qu (pb_v 0 Ui)) (Jl _)) (ZE (QC (i:=2) scH.nd rfl (fw rfl) (Q9 Ul (pv 0) (pv 1) (fun _ _=>rfl)))) zhM)
  (ZE (Zz (zkI (znW (JE QU (pv 2) (zq0 zeI T.int boot_int (zq2 (zkJ zo2 (pv 2) (JE zq_ JD JD) (Jl _)) Ui)))
   (znW (JE QT (JE QT (JE UO (pv 2) JD) (JE QU JD (pv 1))) JD) (pb_i Ui))))))),?_⟩
 refine⟨_,rfl,_,rfl,a,_,rfl,.inl u,_,_,rfl,rfl,_,rfl,?_⟩;have fin:∀c:Int,tRet (tLst (Qy (tOp (rI CMul fun i j=>V.int (i*j)) (tVar 2) (tCB (fun xs H Q=>(∃i,xs=[.int i]/\Q (.int i) H)\/∃k,xs=[.bl k]/\Q (.int (if k then 1 else 0)) H) (Qy (tOp (rI0 fun i j=>.bl (decide (j<=i))) (tVar 2) (tOp (rI CPow fun i j=>.int (i ^ j.toNat)) (tC (.int 10)) (tC (.int 18)))) tNil)))
   (Qy (tOp (rI0 fun i j=>.int (i+j)) (tOp (rI0 fun i j=>.int (i+j)) (tOp (rI (fun _ j=>0<j) fun i j=>.int (i % j)) (tVar 2) (tC (.int 2305843009213693951))) (tOp (rI CMul fun i j=>V.int (i*j)) (tC (.int 7919)) (tVar 1))) (tC (.int 3))) (Qy (tC (.int 0)) tNil))))
   { nx:=fun _ H'=>Q .non H',rt:=Q } [some (.ref a),some (.int k),some (.int c)] H:=by
  intro c;refine⟨_,rfl,_,rfl,_,_,rfl,rfl,⟨by decide,by decide,by decide⟩,_,_,rfl,rfl,.inr ⟨_,rfl,_,_,rfl,rfl,.inr ?_,?_⟩⟩;split <;> decide;refine⟨_,rfl,_,_,rfl,rfl,(by show(0:Int)<2305843009213693951;decide),_,rfl,_,_,rfl,rfl,.inl ⟨by decide,by decide⟩,_,_,rfl,rfl,_,_,rfl,rfl,(by show 3<=sizeLine;decide),fun l v=>?_⟩;refine q l _ v ⟨_,_,_,JH,?_,?_,aE _,aE _⟩ (zmr v);lia;lia
 refine zrT (fun c=>?_) (fun c=>?_);have x:k.toNat<ns.length:=by rw[ao]at c;lia
 refine⟨_,rfl,_,rfl,a,_,_,V.int (ns[k.toNat]),rfl,rfl,u,?_,?_⟩;exact zir G (by rw[a6,ak x];rfl);exact fin _;exact fin 0
def zee(Z:ZZ):Prop:=FQ Z "_law_hand" (top 32) ["_law_script","_law_k"] 1 (zkh Z.K)
theorem zfQ(D:Dq Z.K Z.mg "_law_hand" (top 32) ["_law_script","_law_k"]) (T:Txt Z.mg):zee Z:=by obtain⟨f,fd,D⟩:=D;exact⟨f,fd,D,zg2 D T⟩
theorem zgH{H:Hp}{hd:af}{o:HO}:zsR hd H (upd H hd o):=fun b u e n=>by rw[Jj n];exact e
theorem scT:Qp ["_law_hand_here","_law_many","_law_digit","_law_turn","_law_mixed","_law_odd"] ["_law_hand_here","_law_many"] (Jt (top 33)):=⟨rfl,rfl,rfl,by decide +kernel,rfl,by decide +kernel,by decide +kernel⟩
theorem zmT{f:af}{fd:cA}(D:Def K mg "_law_take" (top 33) ["_law_hand_here","_law_many"] f fd) (T:Txt mg):FnOk P w K mg base CX0 1 f fd ["_law_hand_here","_law_many"] znM:=by
 refine D.F.ok scT (fun vs H Q E h=>?_) (fun x A outer s H vs Q E G h=>?_);obtain⟨hd,many,n,rfl,_⟩:=h;rfl;obtain⟨hd,many,n,rfl,⟨d,m,t,u,m0,m1,t0,t1⟩,I,v,C,q⟩:=h;refine⟨_,QG (zoH (zhL Zd (Q9 Ul (pv 0) JD (fun _ _=>rfl)) JD (Jl _))
   (QG (QC (i:=2) scT.nd rfl (fw rfl) (JE UO (Q9 Ul (pv 0) JD (fun _ _=>rfl)) (pv 1)))
   (QG (Zy (JE VI (Q9 Ul (pv 0) JD (fun _ _=>rfl)) (pv 1)) (pg_sub (pv 0) JD set_list))
   (ZE (Zz (pv 2))))) zhM)
  (QG (Zy (JE QT (Q9 Ul (pv 0) JD (fun _ _=>rfl)) JD) (pg_sub (pv 0) JD set_list))
  (QG (QC (i:=3) scT.nd rfl (fw rfl) (Q9 Ul (pv 0) JD (fun _ _=>rfl)))
  (QG (QC (i:=4) scT.nd rfl (fw rfl) (JE UO (JE QU (Q9 Ul (pv 0) JD (fun _ _=>rfl)) (JE QT (JE QT JD (JE QU (JE QU JD (pv 3)) (pv 3))) (JE QU JD (pv 3)))) JD))
  (QG (QC (i:=5) scT.nd rfl (fw rfl) (JE QT (JE QT (JE UO (pv 4) JD) (JE QU (pv 3) JD)) JD))
  (QG (QC (i:=4) scT.nd rfl (fw rfl) (JE UO (JE QU (pv 4) (pv 5)) JD))
  (ZE (Zz (JE UO (JE QT (JE VI (pv 4) JD) (JE VI (pv 4) JD)) (pv 1))))))))),?_⟩
 refine⟨_,rfl,hd,_,_,_,rfl,rfl,.of u,rfl,_,_,rfl,rfl,_,rfl,?_⟩;refine zrT (fun c=>?_) (fun c=>?_);refine⟨_,rfl,hd,_,_,_,rfl,rfl,.of u,rfl,_,rfl,_,_,rfl,rfl,v,?_⟩;refine⟨_,rfl,hd,_,_,_,rfl,rfl,.of u,rfl,_,rfl,_,_,rfl,rfl,⟨v,C⟩,?_⟩;refine⟨_,rfl,hd,_,_,0,rfl,rfl,u,rfl,?_⟩;refine⟨_,rfl,?_⟩;exact q _ _ (oQ _ (by lia)) (m6 _ v) ⟨_,_,_,JH,m0,m1,t0,by lia⟩ zgH;refine⟨_,rfl,hd,_,_,_,rfl,rfl,.of u,rfl,_,_,rfl,rfl,?_⟩;refine⟨_,rfl,hd,_,_,2,rfl,rfl,u,rfl,?_⟩;refine⟨_,rfl,hd,_,_,_,rfl,rfl,.of JH,rfl,?_⟩;refine⟨_,rfl,hd,_,_,_,rfl,rfl,.of JH,rfl,_,rfl,_,_,rfl,rfl,.inl ⟨by decide,by decide⟩,_,rfl,_,_,rfl,rfl,.inr ⟨by lia,by lia⟩,_,_,rfl,rfl,_,rfl,_,_,rfl,rfl,.inl ⟨by decide,by decide⟩,_,_,rfl,rfl,_,_,rfl,rfl,.inl ⟨by lia,by lia⟩,_,_,rfl,rfl,(by show(0:Int)<2305843009213693921;decide),?_⟩;refine⟨_,rfl,_,_,rfl,rfl,(by show(0:Int)<1000003;decide),_,rfl,_,_,rfl,rfl,.inr ⟨by decide,by decide⟩,_,_,rfl,rfl,_,_,rfl,rfl,?_⟩;refine⟨_,rfl,_,rfl,_,_,rfl,rfl,.inl ⟨by lia,by lia⟩,_,_,rfl,rfl,(by show(0:Int)<2305843009213693907;decide),?_⟩;refine⟨_,rfl,_,_,rfl,rfl,⟨by decide,by decide⟩,_,rfl,_,_,rfl,rfl,⟨by decide,by decide⟩,_,_,rfl,rfl,_,rfl,_,_,rfl,rfl,v,?_⟩;exact q _ _ (oQ _ (by lia)) (m6 _ v) ⟨_,_,_,JH,m0,m1,by lia,by lia⟩ zgH
theorem zgY{f:af}{fd:cA}(D:Def K mg "_law_take" (top 33) ["_law_hand_here","_law_many"] f fd) (T:Txt mg):FnOk P w K mg base CX0 1 f fd ["_law_hand_here","_law_many"] (spD K 2 Yk) :=
 (zmT D T).imp zmo
def YV(Z:ZZ):Prop:=QF Z "_law_take" 33 ["_law_hand_here","_law_many"] 1 2 Yk
theorem zfP(D:Dq Z.K Z.mg "_law_take" (top 33) ["_law_hand_here","_law_many"]) (T:Txt Z.mg):YV Z:=by obtain⟨f,fd,D⟩:=D;exact⟨f,fd,D,zgY D T⟩
def Z4:GD:=fun ts n R=>match ts with
 | [h,.list xs]=>h=HAND/\xs≠[]/\xs.length<=1000000/\n<=1000000000000/\∀x∈xs,R x (n+1)
 | [h,.tuple xs]=>h=HAND/\xs≠[]/\xs.length<=1000000/\n<=1000000000000/\∀x∈xs,R x (n+1)
 | _=>False
theorem zcX{xs:qD}{n:Nat}{R:qN}(h0:xs≠[])(u:xs.length<=1000000)(o:n<=1000000000000)(h:∀x∈xs,R x (n+1)):Z4 [HAND,.list xs] n R:=⟨rfl,h0,u,o,h⟩
def YU(Z:ZZ):Prop:=QF Z "_law_pick" 34 ["_law_hand_here","_law_some"] 2 2 Z4
theorem zgZ(D:DQ Z "_law_pick" 34 ["_law_hand_here","_law_some"]) (x:YV Z) (T:Txt Z.mg):YU Z:=by
 refine' okN ["_law_hand_here","_law_some"] D fun C=>⟨_,(Jc (Jg (Jh (dlv 1) (dl (Jd x C (dbv 0 (dbc (Ju QO QM T.len Qu (Je (dlv 1) Jm Jq)) Ja))))))),?_⟩;intro ts n R J h;cases ts with
 | nil=>exact h.elim
 | cons hd ts=>cases ts with
  | nil=>exact h.elim
  | cons t ts=>cases ts with
   | cons _ _=>cases t <;> exact h.elim
   | nil=>cases t with
    | list xs =>
     obtain⟨rfl,h0,I,o,h⟩:=h;have G:0<xs.length:=mH.mpr h0;wp_walk using Qb (by lia) (by lia) o (fun r u v=>?_);have l:r.toNat<xs.length:=by lia
     rw[Y5 (zir u (ak l))];exact h _ (eU l)
    | tuple xs =>
     obtain⟨rfl,h0,I,o,h⟩:=h;have G:0<xs.length:=mH.mpr h0;wp_walk using Qb (by lia) (by lia) o (fun r u v=>?_);have l:r.toNat<xs.length:=by lia
     rw[Vi (zir u (ak l))];exact h _ (eU l)
    | _=>exact h.elim
def zcT:GD:=fun ts n R=>match ts with
 | [h]=>h=HAND/\n<=1000000000000/\∀b:Int,1<=b->b<=64->R (.int b) (n+1)
 | _=>False
theorem ziq{n:Nat}{R:qN}(l:n<=1000000000000)(h:∀b:Int,1<=b->b<=64->R (.int b) (n+1)):zcT [HAND] n R:=⟨rfl,l,h⟩
def zeg(Z:ZZ):Prop:=QF Z "_law_bits" 35 ["_law_hand_here"] 3 1 zcT
theorem zg4(D:DQ Z "_law_bits" 35 ["_law_hand_here"]) (l:YU Z) (T:Txt Z.mg):zeg Z:=by refine' okN ["_law_hand_here"] D fun u=>⟨_,(Jc (Jg (Jd l u (dbv 0 (dbc (JK (JV (dbc Ji (dbc Ji (dbc Ji (dbc Ji (dbc Ji (dbc Ji (dbc Ji (dbc Ji (dbc Ji (dbc Ji Ja)))))))))))) Ja))))),?_⟩;intro ts n R v h;unfold zcT at h;split at h;obtain⟨rfl,o,h⟩:=h;simp only[Zq,Zp,Zr,Zo,u_dC,Zc,Zk,Zm,Zl,ZO,Zb,Z3,ZY,ZQ,ZP,ZW,Zn,ZC,YL,YC,YD,YE,YK,YF,YA,YS,UZ,U0,oSub,oMul,oMod,Uc,oShl,oShr,oXor,oAnd,isNone,isInt,isBool,isTup,l_gI,Y4,Yo,Yp,U5,U6,Ye,Yg,U7,U8,YG,YH,Yb,U9,Yt,Yu,Yr,Ys,Yv,Yw,U4,Yd,Yc,Yq,YR,YI,QY,QX,Um,Uw,Uq,Ur,Uz,UT,JQ,JJ,capV,aC,cC,aG,bT,cV,eN,cj,cZ,bE,dI,dJ,d5,fx,eO,eP,du,Nat.reduceAdd,Nat.reduceSub,ff,true_and,and_true,aO,if_true,if_false,ite_true,ite_false,fE,d6,fX,Z4];refine⟨by simp,by decide,o,fun x hx=>?_⟩;simp only[ay,bI,or_false]at hx;rcases hx with rfl|rfl|rfl|rfl|rfl|rfl|rfl|rfl|rfl|rfl <;> exact h _ (by decide) (by decide);exact h.elim
def zct:GD:=fun ts n R=>match ts with
 | [h,.int bits]=>h=HAND/\1<=bits/\bits<=64/\n<=1000000000000 - 10/\∀i h:Int,IsBk bits i h->R (.tuple [.int i,.int h]) (n+3)
 | _=>False
theorem zdS{bits:Int}{n:Nat}{R:qN}(o:1<=bits)(x:bits<=64)(v:n<=1000000000000 - 10)(h:∀i h:Int,IsBk bits i h->R (.tuple [.int i,.int h]) (n+3)):zct [HAND,.int bits] n R:=⟨rfl,o,x,v,h⟩
def zci(Z:ZZ):Prop:=QF Z "_law_block" 36 ["_law_hand_here","_law_bits_here"] 3 2 zct
theorem zfW(D:DQ Z "_law_block" 36 ["_law_hand_here","_law_bits_here"]) (U:YU Z) (C:YV Z) (T:Txt Z.mg):zci Z:=by
 refine' okN ["_law_hand_here","_law_bits_here","_law_height"] D fun v=>⟨_,(Jb (dsv 2 (ndB rfl) (Ju (Uu rfl) Uh T.min Ut (Je (dlv 1) (Je (dl (Jd U v (dbv 0 (dbc (JK (JV (dbc Ji (dbc Ji (dbc Ji (dbc Ji (dbc Ji (dbc Ji (dbc (Jd C v (dbv 0 (dbc (JC (dlv 1) dli) Ja))) (dbv 1 Ja)))))))))) Ja)))) Jm YJ) Jq))) (Jc (Jg (Jn (dbc (zlJ (dl (Jd C v (dbv 0 (dbc (JT dli (dl (JY (dlv 1) (dlv 2)))) Ja)))) (dl (JT dli (dlv 2)))) (dbv 2 Ja)))))),?_⟩;intro ts n R hl h;unfold zct at h;split at h;rename_i hd bits;obtain⟨rfl,b0,b1,hn,h⟩:=h;simp only[Zq,Zp,Zr,Zo,u_dC,Zc,Zk,Zm,Zl,ZO,Zb,Z3,ZY,ZQ,ZP,ZW,Zn,ZC,YL,YC,YD,YE,YK,YF,YA,YS,UZ,U0,oSub,oMul,oMod,Uc,oShl,oShr,oXor,oAnd,isNone,isInt,isBool,isTup,l_gI,Y4,Yo,Yp,U5,U6,Ye,Yg,U7,U8,YG,YH,Yb,U9,Yt,Yu,Yr,Ys,Yv,Yw,U4,Yd,Yc,Yq,YR,YI,QY,QX,Um,Uw,Uq,Ur,Uz,UT,JQ,JJ,capV,aC,cC,aG,bT,cV,eN,cj,cZ,bE,dI,dJ,d5,fx,eO,eP,du,Nat.reduceAdd,Nat.reduceSub,ff,true_and,and_true,aO,if_true,if_false,ite_true,ite_false,fE,d6,fX,Z4,Yk];refine⟨by lia,by lia,by lia,fun r r0 Y=>⟨by simp,by decide,by lia,fun x hx=>?_⟩⟩;have L:∃b:Int,x=.int b/\0<=b:=by simp only[ay,bI,or_false]at hx;rcases hx with h|h|h|h|h|h|h|h <;> first|exact⟨_,h,by decide⟩|exact⟨_,h,by lia⟩
 obtain⟨b,rfl,bb⟩:=L;simp only[Zq,Zp,Zr,Zo,u_dC,Zc,Zk,Zm,Zl,ZO,Zb,Z3,ZY,ZQ,ZP,ZW,Zn,ZC,YL,YC,YD,YE,YK,YF,YA,YS,UZ,U0,oSub,oMul,oMod,Uc,oShl,oShr,oXor,oAnd,isNone,isInt,isBool,isTup,l_gI,Y4,Yo,Yp,U5,U6,Ye,Yg,U7,U8,YG,YH,Yb,U9,Yt,Yu,Yr,Ys,Yv,Yw,U4,Yd,Yc,Yq,YR,YI,QY,QX,Um,Uw,Uq,Ur,Uz,UT,JQ,JJ,capV,aC,cC,aG,bT,cV,eN,cj,cZ,bE,dI,dJ,d5,fx,eO,eP,du,Nat.reduceAdd,Nat.reduceSub,ff,true_and,and_true,aO,if_true,if_false,ite_true,ite_false,fE,d6,fX,Yk];have key:∀m:Int,0<=m->m<=bits->(CPow 1 (bits - m)/\(0:Int)<1*2 ^ (bits - m).toNat/\1*2 ^ (bits - m).toNat<(2:Int) ^ 128/\n+1+1<=1000000000000/\∀r:Int,0<=r->r<1*2 ^ (bits - m).toNat->CPow 1 m/\CMul r (1*2 ^ m.toNat)/\R (.tuple [.int (r*(1*2 ^ m.toNat)),.int m]) (n+1+1+1)):=by intro m m0 m1;have G:(1:Int)*2 ^ (bits - m).toNat=2 ^ (bits - m).toNat:=bH _;have J:(1:Int)*2 ^ m.toNat=2 ^ m.toNat:=bH _;rw[G,J];refine⟨cpow (by lia) (by lia),Q4 _,zkD (by lia),by lia,fun k S I=>⟨cpow m0 (by lia),.inl ⟨by lia,?_⟩,?_⟩⟩;have:=zdV (k:=(bits - m).toNat) (by lia);lia;exact h _ m ⟨m0,m1,k,S,rfl,I⟩
 exact key (if b<bits then b else bits) (by split <;> lia) (by split <;> lia);exact h.elim
inductive V1:List ab->Nat->(ab->Nat->Prop)->Prop
 | c {bits i h:Int} {n:Nat} {R:qN} (b0:1<=bits) (b1:bits<=64) (hn:n<=1000000000000 - 100) (B:IsBk bits i h) (h':∀j g:Int,IsBk bits j g->R (.tuple [.int j,.int g]) (n+7)):V1 [HAND,.int bits,.tuple [.int i,.int h]] n R
def zec(Z:ZZ):Prop:=QF Z "_law_near" 37 ["_law_hand_here","_law_bits_here","_law_block_here"] 4 3 V1
theorem zg0(D:DQ Z "_law_near" 37 ["_law_hand_here","_law_bits_here","_law_block_here"]) (G:YU Z) (C:zci Z) (T:Txt Z.mg):zec Z:=by
 refine' okN ["_law_hand_here","_law_bits_here","_law_block_here","_law_begin","_law_height","_law_size","_law_some"] D fun v=>⟨_,(Jb (Ue (Jo 2) (Qj rfl (Jx (dgv 3 (ndB rfl)) (Jx (dgv 4 (ndB rfl)) Qg)))) (Jb (dsv 5 (ndB rfl) (JT dli (dlv 4))) (Jb (Yj (i:=6) (ndB rfl) rfl (fw rfl) (JV (dbv 2 (dbc (Jn (dbv 3 (dbc (Ju (YX rfl) Ym T.max YW (Je dli (Je (dl (JY (dlv 4) dli)) Jm QW) ZB)) Ja))) (dbc (Jd C v (dbv 0 (dbv 1 Ja))) (dbc (Jd C v (dbv 0 (dbv 1 Ja))) Ja)))))) (Jb (Jz (Jr Zd gp_B (dlv 4) dli (Jl _)) (Jc (QE 6 (Jn (dbc (JC (dlv 3) (dl (ZH (dlv 5) dli))) (dbc (JY (dlv 4) dli) Ja))))) JF) (Jb (Jz (Jr (Qe v) Qd (dlv 4) (dlv 1) (Jl _)) (Jb (QE 6 (Jn (dbc (JY (dlv 3) (dl (zof (dlv 3) (dl (zlJ dli (dlv 5)))))) (dbc (JC (dlv 4) dli) Ja)))) (Jc (QE 6 (Jn (dbc (zod (dlv 3) (dlv 5)) (dbv 4 Ja)))))) JF) (Jb (Jz (Jr QB QA (dl (JC (dlv 3) (dl (zlJ dli (dlv 5))))) (dl (JT dli (dlv 1))) (Jl _)) (Jc (QE 6 (Jn (dbc (JC (dlv 3) (dlv 5)) (dbv 4 Ja))))) JF) (UA 6 (Jc (Jg (Jd G v (dbv 0 (dbv 6 Ja)))))))))))),?_⟩;rintro ts n R hl @⟨bits,i,h,n,R,b0,b1,hn,B,hh⟩;have h0:=B.1;have J:=B.2.1;have o:∀j g:Int,IsBk bits j g->∀m,m=n+7->R (.tuple [.int j,.int g]) m:=fun j g b m e=>e▸hh j g b;have I:IsBk bits i (if h - 1 > 0 then h - 1 else 0):=by
  split;exact B.low (by lia);by_cases z:h=0;subst z;exact B;have:h=1:=by lia
  subst this;exact B.low (by decide)
 wp_walk using zdS ?_ ?_ ?_ (fun _ _ _=>?_),zcX ?_ ?_ ?_ ?_;all_goals first
  | lia
  | exact cpow (by lia) (by lia)
  | exact zu1
  | exact zsM
  | (rw[Uy];exact Int.mul_pos (by decide) (Q4 _))
  | (intro z;simp at z;done)
  | (simp only[cj,cZ,aG,bT];decide)
  | skip
 all_goals
  simp only[cj,cZ,List.forall_mem_cons,Uy]at *;repeat' (with_reducible refine mv ?_ ?_)
 all_goals first
  | exact o _ _ B _ rfl
  | exact o _ _ I _ rfl
  | exact o _ _ (by assumption) _ rfl
  | exact o _ _ (B.up (by lia)) _ rfl
  | exact o _ _ (B.abt (by lia)) _ rfl
  | exact o _ _ (B.oth (by lia)) _ rfl
  | exact o _ _ (B.nxt (by assumption)) _ rfl
  | (intro x hx;simp at hx)
inductive zb6:List ab->Nat->(ab->Nat->Prop)->Prop
 | c {bits most:Int} {n:Nat} {R:qN} (b0:1<=bits) (b1:bits<=64) (m0:0<=most) (m1:most<=1000) (hn:n<=1000000000000 - 100000) (h:∀(bs:qB) (m:Nat),Bks bits bs->bs.length<=most.toNat->m<=n+1+12*most.toNat->R (.list (pD bs)) m):zb6 [HAND,.int bits,.int most] n R
def zc_(Z:ZZ):Prop:=QF Z "_law_blocks" 38 ["_law_hand_here","_law_bits_here","_law_most"] 5 3 zb6
theorem zeQ(D:DQ Z "_law_blocks" 38 ["_law_hand_here","_law_bits_here","_law_most"]) (Hh:YV Z) (Hk:zci Z) (HP:zec Z) (Hi:YU Z) (T:Txt Z.mg):zc_ Z:=by
 refine' okN ["_law_hand_here","_law_bits_here","_law_most","_law_found","_law_k","_law_block_here"] D fun G=>⟨_,(Jb (Yj (i:=3) (ndB rfl) rfl (fw rfl) (JV Ja)) (Jb (Uf bV rfl (zeA T.ran (Jd Hh G (dbv 0 (dbc (JC (dlv 2) dli) Ja)))) (dgv 4 (ndB rfl)) (Jb (dsv 5 (ndB rfl) (Jd Hk G (dbv 0 (dbv 1 Ja)))) (Jb (Jz (J7 (Ug (Jr (Zu G) Y2 (QK 3) (dl (JK (JV Ja))) (Jl _)) (Uk (Jr Zd gp_B (dl (Jd Hh G (dbv 0 (dbc Ji Ja)))) dli (Jl _))))) (Jc (dsv 5 (ndB rfl) (Jd HP G (dbv 0 (dbv 1 (dbc (zoh Hi G (Je (dlv 0) (Je (QK 3) Jm Jq) Jq)) Ja)))))) JF) (Jc (QE 3 (Jo 5)))))) (UA 3 (Jc (Jg (Jo 3)))))),?_⟩;rintro ts n R hl @⟨bits,most,n,R,b0,b1,m0,m1,hn,hh⟩;wp_walk using Qb ?_ ?_ ?_ (fun r r0 r1=>?_);lia;lia;lia;lia;lia;refine Ux (fun k S m=>∃bs:List (Int×Int),∃J N,S=[some (.val HAND),some (.val (.int bits)),some (.val (.int most)),some (.own (pD bs)),J,N]/\Bks bits bs/\bs.length=k/\m<=n+1+12*k) ⟨[],_,_,rfl,(fun b hb=>nomatch hb),rfl,by lia⟩ ?_ ?_
 ·rintro k t S m K et ⟨bs,J,N,rfl,B,I,hm⟩ hK;obtain⟨hk2,rfl⟩:=ze8 et;have hk3:k<1000:=by lia
  have fin:∀(i h:Int) (Y U:Option Cell) (L:Nat),IsBk bits i h->L<=m+12->K [some (.val HAND),some (.val (.int bits)),some (.val (.int most)),some (.own (pD bs++[.tuple [.int i,.int h]])),Y,U] L:=fun i h Y U L C hm' =>
   hK _ _ ⟨bs++[(i,h)],_,_,by rw[<- Zw],B.app C,by simp[I],by lia⟩
  wp_walk using zdS ?_ ?_ ?_ (fun i h C=>?_),Qb ?_ ?_ ?_ (fun q q0 q1=>?_),zcX ?_ ?_ ?_ ?_,V1.c ?_ ?_ ?_ ?_ (fun j g C'=>?_);all_goals first
   | lia
   | exact zkR
   | exact zo6
   | (rw[Jy];lia)
   | decide
   | (intro z
      have y:fe (.list (pD bs)) (.list [])=false:=by assumption
      rw[zig]at y;have y2:bs=[]:=by have:=congrArg bL z;rw[Jy]at this;exact List.length_eq_zero_iff.mp this
      rw[y2]at y;cases y)
   | exact fin _ _ _ _ _ (by assumption) (by lia)
   | skip
  all_goals
   intro x hx;obtain⟨b,hb,rfl⟩:=a7.mp hx;refine⟨zju,?_⟩;have C0:=B b hb;wp_walk using V1.c ?_ ?_ ?_ ?_ (fun j g C'=>?_);all_goals first
    | lia
    | exact C0
    | (rw[Jy];lia)
    | exact fin _ _ _ _ _ (by assumption) (by lia)
 ·rintro S m ⟨bs,J,N,rfl,B,I,hm⟩;have el:bs.length<=most.toNat:=by
   rw[I];unfold JZ;simp;lia
  wp_walk;exact hh bs m B el (by lia)
inductive zcs:List ab->Nat->(ab->Nat->Prop)->Prop
 | c {bits most:Int} {n:Nat} {R:qN} (b0:1<=bits) (b1:bits<=64) (m0:0<=most) (m1:most<64) (hn:n<=1000000000000 - 100000) (h:∀(bs:qB) (m:Nat),Ptc bits bs->bs.length<=most.toNat->m<=n+1+12*most.toNat->R (.tuple (pD bs)) m):zcs [HAND,.int bits,.int most] n R
def zdL(Z:ZZ):Prop:=QF Z "_law_patch" 39 ["_law_hand_here","_law_bits_here","_law_most"] 6 3 zcs
theorem zfV(D:DQ Z "_law_patch" 39 ["_law_hand_here","_law_bits_here","_law_most"]) (HC:zc_ Z) (T:Txt Z.mg):zdL Z:=by
 refine' okN ["_law_hand_here","_law_bits_here","_law_most","_law_found","_law_begin","_law_height"] D fun U=>⟨_,(Jb (Yj (i:=3) (ndB rfl) rfl (fw rfl) (JV Ja)) (Jb (Uf bV rfl (Uj (Jd HC U (dbv 0 (dbv 1 (dbv 2 Ja))))) (Qj rfl (Jx (dgv 4 (ndB rfl)) (Jx (dgv 5 (ndB rfl)) Qg))) (Jc (Jz (J8 (dl (Ju (ZS rfl) Zh T.all ZR (Je (dl (JK (dnc ["_law_one"] [4,5] (znv (QK 3)) (fun _ _ _ _=>(dgv 0 (ndB rfl))) (fun _ _ _ _=>(zoe (Qi QB QA (dl (JC (dlv 1) (dl (JT dli (dlv 2))))) (dl (Jh (dlv 0) dli)) (Jl _)) (Ud (Qi QB QA (dl (JC (dl (Jh (dlv 0) dli)) (dl (JT dli (dl (Jh (dlv 0) dli)))))) (dlv 1) (Jl _)))))))) Jm QZ)))) (Jc (QE 3 (Jn (dbv 4 (dbv 5 Ja))))) JF))) (UA 3 (Jc (Jg (UG Z5 ZK T.tup UB (Je (dl (JK (zhs U T.srt (dlv 3) Jq))) Jm YJ))))))),?_⟩;rintro ts n R hl @⟨bits,most,n,R,b0,b1,m0,m1,hn,hh⟩;wp_walk using zb6.c ?_ ?_ ?_ ?_ ?_ (fun bs m B hlen hm=>?_);lia;lia;lia;lia;lia;refine Ux (fun k N J=>J=m/\∃cs:List (Int×Int),∃I L,N=[some (.val HAND),some (.val (.int bits)),some (.val (.int most)),some (.own (pD cs)),I,L]/\Bks bits cs/\(cs.Pairwise fun a b=>eB a<=b.1\/eB b<=a.1)/\cs.length<=k) ⟨rfl,[],_,_,rfl,(fun b hb=>nomatch hb),.nil,av _⟩ ?_ ?_
 ·rintro k t N J K et ⟨rfl,cs,I,L,rfl,C,u,S⟩ hK;obtain⟨i,h,eb,rfl⟩:=Zv et;have hb:=B _ (aM eb);have h0:0<=h:=hb.1;have h1:h<=bits:=hb.2.1;have hk3:k<64:=by
   have:=(ah.mp eb).1;lia
  wp_walk;refine Uv (D:=prD) (fun b=>.bool (decide (i+2 ^ h.toNat<=b.1)||decide (eB b<=i))) (by lia) ?_ ?_
  ·rintro⟨Y,h'⟩ x K2 X2 hK2;have G:=C _ x;have h0':0<=h':=G.1;have h1':h'<=bits:=G.2.1;wp_walk;exact cpow (by lia) (by lia);have hc:i+2 ^ h.toNat<=Y:=by rw[Uy]at hc;exact hc
   rw[decide_eq_true hc]at hK2;exact hK2;exact cpow (by lia) (by lia);have hc:¬i+2 ^ h.toNat<=Y:=by rw[Uy]at hc;exact hc
   rw[decide_eq_false hc]at hK2;rw[Uy];exact hK2
  ·wp_walk using Zi ?_;rw[Jy];lia;have al:∀b∈cs,i+2 ^ h.toNat<=b.1\/eB b<=i:=fun b hb=>by
    have:=df.mp hc b hb;simpa using this
   refine hK _ _ ⟨rfl,cs++[(i,h)],_,_,by rw[<- Zw],C.app hb,?_,by simp;lia⟩;rw[dD];refine⟨u,gK _ _,fun a ha b x=>?_⟩;cases ax.mp x;rcases al a ha with z|z;exact .inr z;exact .inl z;exact hK _ _ ⟨rfl,cs,_,_,rfl,C,u,by lia⟩
 ·rintro N J ⟨rfl,cs,I,L,rfl,C,u,S⟩;rw[Jy]at S;wp_walk;refine zrB b1 C u (by lia) fun es P pm=>?_;wp_walk;exact hh es _ P (by have:=pm.length_eq;lia) (by lia)
inductive VW:List ab->Nat->(ab->Nat->Prop)->Prop
 | c {bits:Int} {bs ps:BL} {n:Nat} {R:qN} (b0:0<=bits) (b1:bits<=64) (P:Ptc bits bs) (l:bs.length<=60) (C:CanP (fun x=>mB x bs) ps) (h:∀fs:BL,WInv bits ps fs []->fs.length<=8000->R (.list (pD fs)) n):VW [.int bits,.tuple (pD bs)] n R
def zbV(Z:ZZ):Prop:=QF Z "_law_within" 40 ["_law_bits_here","_law_patch_here"] 1 2 VW
theorem zeP(D:DQ Z "_law_within" 40 ["_law_bits_here","_law_patch_here"]) (T:Txt Z.mg):zbV Z:=by
 refine' okN ["_law_bits_here","_law_patch_here","_law_found","_law_waiting","_law_begin","_law_height","_law_end","_law_met","_law_held"] D fun L=>⟨_,(Jb (zpS (i:=2) (j:=3) rfl (ndB rfl) rfl rfl (by decide) rfl rfl (JV Ja) (JV (dbc (Jn (dbc Ji (dbv 0 Ja))) Ja))) (Jb (VN bV (Jr (Zu L) Y2 (QK 3) (dl (JK (JV Ja))) (Jl _)) (Jb (zpQ 3 rfl (Jx (dgv 4 (ndB rfl)) (Jx (dgv 5 (ndB rfl)) Qg))) (Jb (QE 2 (Jn (dbv 4 (dbv 5 Ja)))) (Jb (dsv 6 (ndB rfl) (JC (dlv 4) (dl (JT dli (dlv 5))))) (Jb (zlz (zi5 (i:=7) (ndB rfl) rfl (fw rfl) (own:=["_law_one"]) (capt:=[6,4]) rfl (JB.of rfl) (dil (UJ (Jo 1))) (fun _ _ _ _=>(dgv 0 (ndB rfl))) (by decide) (fun _ _ _ _=>(zpN (J7 (Ug (Jr (Qe L) Qd (dl (Jh (dlv 0) dli)) (dlv 1) (Jl _)) (Uk (Jr (Qe L) Qd (dlv 2) (dl (JC (dl (Jh (dlv 0) dli)) (dl (JT dli (dl (Jh (dlv 0) dli)))))) (Jl _))))))) (fun _ _ _ _=>(Jo 0)))) (Jb (dsv 8 (ndB rfl) (Ju (zlX rfl) zsk T.sum zl2 (Je (dl (JK (dnc ["_law_one"] [6,4] (dil (Uj (Jo 7))) (fun _ _ _ _=>(dgv 0 (ndB rfl))) (fun _ _ _ _=>(JY (dl (Ju (Uu rfl) Uh T.min Ut (Je (dlv 1) (Je (dl (JC (dl (Jh (dlv 0) dli)) (dl (JT dli (dl (Jh (dlv 0) dli)))))) Jm QW) Jq))) (dl (Ju (YX rfl) Ym T.max YW (Je (dlv 2) (Je (dl (Jh (dlv 0) dli)) Jm zqq) Jq)))))))) Jm QZ))) (Jc (Jz (zns (Qe L) Qd (Qe L) Qd dli (dlv 8) (dl (JY (dlv 6) (dlv 4)))) (Jb (QE 3 (Jn (dbv 4 (dbc (JY (dlv 5) dli) Ja)))) (Jc (QE 3 (Jn (dbc (JC (dlv 4) (dl (ZH (dl (JT dli (dlv 5))) dli))) (dbc (JY (dlv 5) dli) Ja)))))) JF)))))))) (UA 2 (Jc (Jg (Jo 2)))))),?_⟩;rintro ts n R hl @⟨bits,bs,ps,n,R,b0,b1,P,l,C,h⟩;wp_walk;simp[Qk,Qw];have lp:ps.length<=60:=aP (C.le b0 P.1) l;have PP:Ptc bits ps:=C.ptc b0 fun x hx=>UP b0 P.1 hx;refine zhE (m:=msz ([(0,bits)]:BL)) (fun m ρ Y=>Y=n/\∃(fs ws:BL) (c4 c5 c6 c7 c8:Option Cell),ρ=[some (.val (.int bits)),some (.val (.tuple (pD bs))),some (.own (pD fs)),some (.own (pD ws)),c4,c5,c6,c7,c8]/\WInv bits ps fs ws/\msz ws<=m) ⟨rfl,[],[(0,bits)],_,_,_,_,_,rfl,WInv.start b0,av _⟩ ?_;rintro m ρ Y K RT BK ⟨rfl,fs,ws,c4,c5,c6,c7,c8,rfl,I,S⟩ hK hRT hBK;have ln:=I.len b1 PP.1;rw[aH]at ln;wp_walk;exact zkR;exact zkR (bs:=[])
 ·rw[zig,List.isEmpty_iff]at hc;subst hc;refine hBK _ _ ?_;wp_walk;exact h fs I (by simp at ln;lia)
 ·rw[zig]at hc;rcases lI ws with rfl|⟨G,⟨i,g⟩,rfl⟩;cases hc;rw[lJ]at *;have B:IsBk bits i g:=I.bk (i,g) (m2 (m2 (.head _)));have g0:0<=g:=B.1;have g1:g<=64:=bo B.2.1 b1;rw[<- Zw];refine zrC ?_;wp_walk;rw[Jy];rw[aH]at ln;lia;exact cpow g0 (by lia);refine zim (cs:=bs) (D:=prD) (metB (i,g)) prD (by lia) ?_ ?_
  ·rintro⟨j,k⟩ J K X hK hX;have k0:=P.1 _ J;have U:0<=k:=k0.1;have k2:k<=bits:=k0.2.1;have em:∀{c:Bool},(decide (j<i+1*2 ^ g.toNat)&&decide (i<j+1*2 ^ k.toNat))=c->metB (i,g) (j,k)=c:=fun h=>by rw[<- h];unfold metB eB;rw[bH,bH]
   wp_walk;all_goals dsimp only at *
   exact cpow U (by lia);refine hK (em ?_);simp only[aW,decide_eq_true_eq];lia;all_goals
    refine hX (em ?_);rw[cR];simp only[ne_eq,aW,decide_eq_true_eq];lia
  wp_walk;have lf:=lA (metB (i,g)) bs;refine Uv (cs:=bs.filter (metB (i,g))) (D:=prD) (fun p=>.int (ovD (i,g) p)) (by lia) ?_ ?_
  ·rintro⟨j,k⟩ J K X hK;obtain⟨J,S⟩:=ip.mp J;have U:0<=k:=(P.1 _ J).1;have k2:k<=bits:=(P.1 _ J).2.1;rw[zo0 S]at hK;wp_walk;exact cpow U (by dsimp only;lia);rw[bH,bH];exact hK
  have sm:(0<(bs.map (ovD (i,g))).sum/\(bs.map (ovD (i,g))).sum<i+2 ^ g.toNat - i)↔Prt ps (i,g):=zq5 b0 P C B;rw[<- zk0]at sm;rw[aH,d9]at ln;have no:¬Prt ps (i,g)->K [some (.val (.int bits)),some (.val (.tuple (pD bs))),some (.own (pD fs++[.tuple [.int i,.int g]])),some (.own (pD G)),some (.val (.int i)),some (.val (.int g)),some (.val (.int (i+1*2 ^ g.toNat))),some (.val (.list ((bs.filter (metB (i,g))).map prD))),some (.val (.int ((bs.filter (metB (i,g))).map (ovD (i,g))).sum))] Y:=fun z =>
   hK _ _ _ (au zpc S) ⟨rfl,fs++[(i,g)],G,_,_,_,_,_,by rw[<- Vz],I.no z,av _⟩
  wp_walk using zuL (f:=ovD (i,g)) ?_;rw[Jy];lia;exact cpow g0 (by lia);exact⟨by decide,by decide⟩;rw[aH,Jy,d9];lia;have pr:=sm.mp ⟨by lia,by lia⟩;have h1:=pr.pos B;have e:pD G++[dw [.int i,.int (g - 1)]]++[dw [.int (i+1*2 ^ g.toNat / 2),.int (g - 1)]]=pD (G++[loH (i,g),upH (i,g)]):=by rw[up_eq B h1,zls (b:=(i,g)) h1,Vz (p:=loH (i,g)),show pD (G++[loH (i,g)])++[dw [.int (i+2 ^ (g - 1).toNat),.int (g - 1)]]=pD (G++[loH (i,g)]++[(i+2 ^ (g - 1).toNat,g - 1)]) from Vz (p:=(i+2 ^ (g - 1).toNat,g - 1)),aA];rfl
  exact hK _ _ _ (au (zpb h1) S) ⟨rfl,fs++[(i,g)],G++[loH (i,g),upH (i,g)],_,_,_,_,_,by rw[<- Vz,<- e],I.yes pr,av _⟩;exact no fun z=>by have:=sm.mpr z;lia
  exact no fun z=>by have:=sm.mpr z;lia
def zcd:GD:=fun ts n R=>∃(bits:Int) (bs ps:BL) (lower:Bool),ts=[HAND,.int bits,.tuple (pD bs),.bool lower]/\0<=bits/\bits<=64/\Ptc bits bs/\bs.length<=60/\CanP (fun x=>mB x bs) ps/\n<=1000000000000 - 100000/\∀(rs:PR) (v:Int×Int) (m:Nat),OwnP bits ps rs->valP rs (0,bits)=some v->rs.length<=8000->m<=n+40000->R (.tuple [.tuple (rs.map rwD),.int v.1]) m
theorem zce{bits:Int}{bs ps:BL}{lower:Bool}{n:Nat}{R:qN}(G:0<=bits)(J:bits<=64)(P:Ptc bits bs)(l:bs.length<=60)(C:CanP (fun x=>mB x bs) ps)(I:n<=1000000000000 - 100000)(h:∀(rs:PR) (v:Int×Int) (m:Nat),OwnP bits ps rs->valP rs (0,bits)=some v->rs.length<=8000->m<=n+40000->R (.tuple [.tuple (rs.map rwD),.int v.1]) m):zcd [HAND,.int bits,.tuple (pD bs),.bool lower] n R:=⟨bits,bs,ps,lower,rfl,G,J,P,l,C,I,h⟩
def QL:Str:=aN "_law_own_paper.<locals>.<lambda>"
theorem zu2:(aN "_law_own_paper" ++ aN ".<locals>.")++aN "<lambda>" = QL:=by decide +kernel
def zca(Z:ZZ)(l:af):Prop:=FQT Z l QL "_law_own_paper" (top 41) ["_law_hand_here","_law_bits_here","_law_patch_here","_law_lower"] 4 4 zcd
theorem zdu  {cL PL:af}(LZ:LamZ Z "_law_own_paper" cL PL) (D:DQ Z "_law_own_paper" 41 ["_law_hand_here","_law_bits_here","_law_patch_here","_law_lower"]) (Hl:zbV Z) (Hh:YV Z) (T:Txt Z.mg):zca Z PL:=by
 refine' okQT LZ D (fnS (N:=["_law_hand_here","_law_bits_here","_law_patch_here","_law_lower","_law_blocks_here","_law_known","_law_rows","_law_begin","_law_height","_law_low","_law_high","_law_keep","_law_turn","_law_few","_law_full"]) (by decide +kernel)) rfl fun f A outer s H E G hP=>⟨_,(Jb (dsv 4 (ndB rfl) (JK (zij (x:="_law_block_here") G T.srt (dl (Jd Hl G (dbv 1 (dbv 2 Ja)))) YJ LZ.2 hP rfl zu2 (fnS (by decide +kernel)) rfl rfl (fun _ _ _ _=>rfl) (fun _ _ _ _ _=>(Jh (dlv 0) dli))))) (Jb (zpR (i:=5) (j:=6) rfl (ndB rfl) rfl rfl (by decide) rfl rfl (JV Ja)) (Jb (Uf bV rfl (Uj (Jo 4)) (Qj rfl (Jx (dgv 7 (ndB rfl)) (Jx (dgv 8 (ndB rfl)) Qg))) (Jb (zsB (i:=9) (j:=10) rfl (ndB rfl) rfl rfl (by decide) rfl rfl (dbc (Jn (dbv 7 (dbc (JY (dlv 8) dli) Ja))) (dbc (Jn (dbc (JC (dlv 7) (dl (ZH (dl (JT dli (dlv 8))) dli))) (dbc (JY (dlv 8) dli) Ja))) Ja))) (Jb (Jz (J7 (Ug (Jr (znY (JI G)) Yl (dlv 9) (Q3 5) rfl) (Uk (Jr (znY (JI G)) Yl (dlv 10) (Q3 5) rfl)))) (Jb (dsv 11 (ndB rfl) (JC (dl (Jh (dl (Qc (JI G) (Q3 5) (dlv 9))) dli)) (dl (Jh (dl (Qc (JI G) (Q3 5) (dlv 10))) dli)))) (Jb (dsv 12 (ndB rfl) (JC (dl (Jh (dl (Qc (JI G) (Q3 5) (dlv 9))) dli)) (dl (Jh (dl (Qc (JI G) (Q3 5) (dlv 10))) dli)))) (Jc (dsv 13 (ndB rfl) (JK (JV (dbc (Ju (Uu rfl) Uh T.min Ut (Je (dlv 11) (Je (dl (JC (dlv 12) dli)) Jm QW) Jq)) (dbc (Ju (Uu rfl) Uh T.min Ut (Je (dlv 12) (Je (dl (JC (dlv 11) dli)) Jm QW) Jq)) Ja)))))))) (Jb (dsv 14 (ndB rfl) (Ju (zl0 rfl) zsn T.any zl4 (Je (dl (JK (dnc ["_law_one"] [7] (dil (UJ (Jo 2))) (fun _ _ _ _=>(dgv 0 (ndB rfl))) (fun _ _ _ _=>(zi8 QB QA (Qe G) Qd (dl (Jh (dlv 0) dli)) (dlv 1) (dl (JC (dl (Jh (dlv 0) dli)) (dl (JT dli (dl (Jh (dlv 0) dli))))))))))) Jm QZ))) (Jc (dsv 13 (ndB rfl) (JK (JV (dbc (UG zeI zoa T.int boot_int (Je (dlv 14) Jm Jq)) (dbc (UG zeI zoa T.int boot_int (Je (dl (zlI (Jo 14))) Jm ztF)) Ja)))))))) (Jb (Jz (J7 (Ug (J8 (dlv 3)) (Uk (Jr (Yz G) U1 (dl (Jd Hh G (dbv 0 (dbc Ji Ja)))) dli (Jl _))))) (Jc (zlz (zi5 (i:=13) (ndB rfl) rfl (fw rfl) (own:=["_law_one"]) (capt:=[0]) rfl (JB.of rfl) (dil (Uj (Jo 13))) (fun _ _ _ _=>(dgv 0 (ndB rfl))) (by decide) (fun _ _ _ _=>ZD) (fun _ _ _ _=>(Ju (YX rfl) Ym T.max YW (Je dli (Je (dl (JY (dlv 0) (dl (Jd Hh G (dbv 1 (dbc Ji Ja)))))) Jm QW) ZB)))))) JF) (Jb (zii 5 (JI G) (Jn (dbv 7 (dbv 8 Ja))) (Jo 13)) (Jc (zlA 6 (Jd Hh G (dbv 0 (dbc (JC (dl (Ju QO QM T.len Qu (Je (QK 6) Jm Jq))) dli) Ja))) (Jn (dbc (Jn (dbv 7 (dbv 8 Ja))) (dbc (Jh (dlv 13) dli) (dbc (Jh (dlv 13) dli) Ja))))))))))) (UA 6 (Jc (Jg (Jn (dbc (UG Z5 ZK T.tup UB (Je (dlv 6) Jm Jq)) (dbc (Jh (dl (Qc (JI G) (Q3 5) (dl (Jn (dbc Ji (dbv 1 Ja)))))) dli) Ja))))))))),?_⟩;intro ts n R hl hh;obtain⟨bits,bs,ps,lower,rfl,b0,b1,P,l,C,Y,h⟩:=hh;wp_walk using VW.c b0 b1 P l C (fun fs W lf=>?_);rw[Jy];lia;refine⟨fun t=>(unP t).2,fun t ht R' hR=>?_,fun us' pm so=>?_⟩
 ·obtain⟨p,_,rfl⟩:=a7.mp ht;wp_walk;exact hR
 obtain⟨eu,pu⟩:=zoU pm;have sp:(us'.map unP).Pairwise fun a b=>a.2<=b.2:=cx.mpr so;generalize us'.map unP=us at eu pu sp;subst eu;have lu:=pu.length_eq;wp_walk;rfl;refine Ux (fun k ρ m=>∃(qs rs:PR) (c7 c8 c9 S J L c13 I:Option Cell),ρ=[some (.val HAND),some (.val (.int bits)),some (.val (.tuple (pD bs))),some (.val (.bool lower)),some (.val (.list (pD us))),some (.dtt (prL qs)),some (.own (rs.map rwD)),c7,c8,c9,S,J,L,c13,I]/\rs.Perm qs/\OwnP bits ps qs/\qs.map (·.1)=us.take k/\m<=n+4*k)
  ⟨[],[],_,_,_,_,_,_,_,_,rfl,.refl _,⟨.nil,(fun q hq=>nomatch hq),(fun q hq=>nomatch hq)⟩,rfl,by lia⟩ ?_ ?_
 ·rintro k t ρ m K et ⟨qs,rs,c7,c8,c9,S,J,L,c13,I,rfl,pr,O,keys,hm⟩ hK;obtain⟨i,g,eb,rfl⟩:=Zv et;have hk:=(ah.mp eb).1;obtain⟨B,fr,yes,no⟩:=zmS W pu sp O keys eb;have g0:0<=g:=B.1;have g1:g<=bits:=B.2.1;have lq:qs.length=k:=by
   have:=congrArg bL keys;rw[ao,cE]at this;lia
  have lr:=pr.length_eq;have fin:∀(q:Int×Int) (c9 S J L I:Option Cell) (U:Int) (m':Nat),0<=q.1->0<=q.2->RgP ps qs (i,g) q->m'<=m+4->K [some (.val HAND),some (.val (.int bits)),some (.val (.tuple (pD bs))),some (.val (.bool lower)),some (.val (.list (pD us))),some (.dtt (putT (prL qs) (i,g) (lsD q))),some (.own (insA (rs.map rwD) U (rwD ((i,g),q)))),some (.val (.int i)),some (.val (.int g)),c9,S,J,L,some (.val (lsD q)),I] m':=fun q c9 S J L I U m' q1 q2 r hm'=>by
   have e2:insA (rs.map rwD) U (rwD ((i,g),q))=(insA rs U ((i,g),q)).map rwD:=by unfold insA;rw[bJ,aC,List.map_take,List.map_drop]
   refine hK _ _ ⟨qs++[((i,g),q)],insA rs U ((i,g),q),_,_,_,_,_,_,_,_,by rw[zmI fr,e2],zlp.trans ((pr.cons _).trans (List.perm_append_singleton _ _).symm),O.app B fr q1 q2 r,?_,by lia⟩;rw[bJ,keys,d0,eb];rfl
  by_cases pt:Prt ps (i,g)
  ·obtain⟨u,w,e1,e2,u1,u2,w1,w2⟩:=yes pt;have p1:=pt.pos B;have v1:valT (prL qs) (i,g - 1)=some (.list [.int u.1,.int u.2]):=by rw[VC,e1];rfl
   have v2:valT (prL qs) (i+1*2 ^ g.toNat / 2,g - 1)=some (.list [.int w.1,.int w.2]):=by rw[zls (b:=(i,g)) p1,VC];rw[up_eq B p1]at e2;rw[e2];rfl
   have F:∀q:Int×Int,q.1<=(jn u w).1->q.2<=(jn u w).2->RgP ps qs (i,g) q:=fun q=>ziC pt e1 e2;wp_walk using Qv (k:=(i,g - 1)) ?_,Qv (k:=(i+1*2 ^ g.toNat / 2,g - 1)) ?_,QR v1 ?_,QR v2 ?_,Qb ?_ ?_ ?_ (fun r r0 r1=>?_);all_goals first
    | exact cpow g0 (by lia)
    | exact⟨by decide,by decide⟩
    | decide
    | lia
    | (rw[prL,ao];lia)
    | (rw[ao];lia)
    | exact fin (jn u w) _ _ _ _ _ _ _ (Vr u1 u2 w1 w2).1 (Vr u1 u2 w1 w2).2 (F _ (aE _) (aE _)) (by lia)
    | (exfalso;rw[v1]at hc;simp at hc;done)
    | (exfalso;rw[v2]at hc;simp at hc;done)
    | skip
   ·refine zge (A:=(jn u w).1) (B:=(jn u w).2) (Vr u1 u2 w1 w2).1 (Vr u1 u2 w1 w2).2 (fun y n' K X y0 hn' hK=>?_) fun x y m' x0 x1 y0 y1 hm'=>?_
    ·wp_walk using Qb ?_ ?_ ?_ (fun r r0 r1=>?_);all_goals first
      | decide
      | lia
      | exact hK _ _ (by split <;> lia) (by split <;> lia) (av _)
    ·have r':=F (x,y) x1 y1;wp_walk using Qb ?_ ?_ ?_ (fun r r0 r1=>?_);all_goals first
      | decide
      | lia
      | (rw[prL,ao];lia)
      | (rw[ao];lia)
      | exact fin (x,y) _ _ _ _ _ _ _ x0 y0 r' (by lia)
  ·have v1:valT (prL qs) (i,g - 1)=none:=by rw[VC,no pt];rfl
   wp_walk using Qv (k:=(i,g - 1)) ?_;all_goals first
    | exact cpow g0 (by lia)
    | exact⟨by decide,by decide⟩
    | (exfalso;rw[v1]at hc;simp at hc;done)
    | skip
   have fl:(bs.any fun p=>decide (p.1<=i)&&decide (i<eB p))=true↔¬HasN ps (i,g):=by rw[kF];constructor;rintro⟨p,hp,h⟩ Y;rw[aW,decide_eq_true_eq,decide_eq_true_eq]at h;exact UW.mp Y i (aE _) (JL (i,g)) ((C.mem i).mpr ⟨p,hp,h⟩);intro Y;have ha:HasA ps (i,g):=a8 fun z=>pt ⟨Y,z⟩;obtain⟨p,hp,h⟩:=(C.mem i).mp (zib ha i (aE _) (JL (i,g)));exact⟨p,hp,by rw[decide_eq_true h.1,decide_eq_true h.2];rfl⟩
   refine Uv (cs:=bs) (D:=prD) (fun p=>.bool (decide (p.1<=i)&&decide (i<eB p))) (by lia) ?_ ?_
   ·rintro⟨j,k'⟩ hp K' X hK';have k1:0<=k':=(P.1 _ hp).1;have k2:k'<=bits:=(P.1 _ hp).2.1;unfold eB at hK';dsimp only at hK';wp_walk;all_goals first
     | exact cpow k1 (by dsimp only;lia)
     | (rw[decide_eq_true hc,eH]at hK';rw[bH];exact hK')
     | (rw[decide_eq_false hc,eQ]at hK';exact hK')
   refine zn8 ?_;refine zsg (cs:=bs) (f:=fun p=>decide (p.1<=i)&&decide (i<eB p)) ?_;generalize (bs.any fun p=>decide (p.1<=i)&&decide (i<eB p))=fb at fl ⊢;cases fb with
   | true =>
    have Y:=fl.mp rfl;have F:∀q:Int×Int,q.1<=1->q.2<=0->RgP ps qs (i,g) q:=fun q h1 h2=>zfH (.inr ⟨Y,a8 fun z=>pt ⟨Y,z⟩,h1,h2⟩);wp_walk using Qb ?_ ?_ ?_ (fun r r0 r1=>?_);all_goals first
     | decide
     | lia
     | (rw[prL,ao];lia)
     | (rw[ao];lia)
     | exact fin (1,0) _ _ _ _ _ _ _ (by decide) (by decide) (F _ (aE _) (aE _)) (by lia)
     | skip
    refine zge (A:=1) (B:=0) (by decide) (by decide) (fun y n' K X y0 hn' hK=>?_) fun x y m' x0 x1 y0 y1 hm'=>?_
    ·wp_walk using Qb ?_ ?_ ?_ (fun r r0 r1=>?_);all_goals first
      | decide
      | lia
      | exact hK _ _ (by split <;> lia) (by split <;> lia) (av _)
    ·have r':=F (x,y) x1 y1;wp_walk using Qb ?_ ?_ ?_ (fun r r0 r1=>?_);all_goals first
      | decide
      | lia
      | (rw[prL,ao];lia)
      | (rw[ao];lia)
      | exact fin (x,y) _ _ _ _ _ _ _ x0 y0 r' (by lia)
   | false =>
    have Y:HasN ps (i,g):=a8 fun z=>by cases fl.mpr z
    have F:∀q:Int×Int,q.1<=0->q.2<=1->RgP ps qs (i,g) q:=fun q h1 h2=>zfH (.inl ⟨Y,h1,h2⟩);wp_walk using Qb ?_ ?_ ?_ (fun r r0 r1=>?_);all_goals first
     | decide
     | lia
     | (rw[prL,ao];lia)
     | (rw[ao];lia)
     | exact fin (0,1) _ _ _ _ _ _ _ (by decide) (by decide) (F _ (aE _) (aE _)) (by lia)
     | skip
    refine zge (A:=0) (B:=1) (by decide) (by decide) (fun y n' K X y0 hn' hK=>?_) fun x y m' x0 x1 y0 y1 hm'=>?_
    ·wp_walk using Qb ?_ ?_ ?_ (fun r r0 r1=>?_);all_goals first
      | decide
      | lia
      | exact hK _ _ (by split <;> lia) (by split <;> lia) (av _)
    ·have r':=F (x,y) x1 y1;wp_walk using Qb ?_ ?_ ?_ (fun r r0 r1=>?_);all_goals first
      | decide
      | lia
      | (rw[prL,ao];lia)
      | (rw[ao];lia)
      | exact fin (x,y) _ _ _ _ _ _ _ x0 y0 r' (by lia)
 ·rintro ρ m ⟨qs,rs,c7,c8,c9,S,J,L,c13,I,rfl,pr,O,keys,hm⟩;rw[Jy,dr]at keys;rw[Jy]at hm;have hr0:(0,bits)∈qs.map (·.1):=by
   rw[keys];have:=W.root;rw[bE]at this;exact pu.mem_iff.mpr this
  obtain⟨v,ev⟩:=UU hr0;have v1:valT (prL qs) (0,bits)=some (.list [.int v.1,.int v.2]):=by rw[VC,ev];rfl
  have lq:=pr.length_eq;have lk:=congrArg bL keys;rw[ao]at lk;wp_walk using QR (k:=(0,bits)) v1 ?_;exact h rs v m (O.perm pr) ((zgm O.nd pr _).trans ev) (by lia) (by lia)
inductive zcS:List ab->Nat->(ab->Nat->Prop)->Prop
 | c {bits:Int} {bs ps:BL} {rs:PR} {n:Nat} {R:qN} (b0:0<=bits) (b1:bits<=64) (P:Ptc bits bs) (l:bs.length<=60) (C:CanP (fun x=>mB x bs) ps) (O:OwnP bits ps rs) (lr:rs.length<=8000) (hn:n<=1000000000000 - 100) (h:∀(qs:PR) (m:Nat),OwnP bits ps qs->(∀k v,valP rs k=some v->valP qs k=some v)->qs.length<=16100->m<=n+3->R (.tuple (qs.map rwD)) m):zcS [HAND,.int bits,.tuple (pD bs),.tuple (rs.map rwD)] n R
def zed(Z:ZZ):Prop:=QF Z "_law_more" 42 ["_law_hand_here","_law_bits_here","_law_patch_here","_law_paper"] 2 4 zcS
theorem zg1(D:DQ Z "_law_more" 42 ["_law_hand_here","_law_bits_here","_law_patch_here","_law_paper"]) (Hl:zbV Z) (Hh:YV Z) (T:Txt Z.mg):zed Z:=by
 refine' okN ["_law_hand_here","_law_bits_here","_law_patch_here","_law_paper","_law_known","_law_block_here"] D fun S=>⟨_,(Jb (znt (i:=4) rfl S.units T.dct (ndB rfl) rfl (fw rfl) (dnc ["_law_row"] [] (dil (UJ (Jo 3))) (fun _ _ _ _=>(dgv 0 (ndB rfl))) (fun _ _ _ _=>(Jn (dbc (Jh (dlv 0) dli) (dbc JW Ja)))))) (Jb (Uf bV rfl (Uj (JK (zsE (dl (Jd Hl S (dbv 1 (dbv 2 Ja)))) (dl (JK (dnc ["_law_turn"] [0,1] (dil (zeA T.ran Ji)) (fun _ _ _ _=>(dgv 0 (ndB rfl))) (fun _ _ _ _=>(Jn (dbc (Jd Hh S (dbv 1 (dbc (JT dli (dlv 2)) Ja))) (dbc Ji Ja)))))))))) (dgv 5 (ndB rfl)) (Jc (Jz (Jr (Vy (JI S)) Yl (dlv 5) (Q3 4) rfl) (Jb (dsv 3 (ndB rfl) (JC (dlv 3) (dl (Jn (dbc (Jn (dbv 5 (dbc Ji (dbc Ji Ja)))) Ja))))) (Jc (zii 4 (JI S) (Jo 5) JW))) JF))) (Jc (Jg (Jo 3))))),?_⟩;rintro ts n R hl @⟨bits,bs,ps,rs,n,R,b0,b1,P,l,C,O,lr,hn,h⟩;wp_walk;refine Uv (cs:=rs) (D:=rwD) (fun r=>prT (r.1,.bool true)) (by lia) ?_ ?_
 ·rintro⟨⟨i,g⟩,q⟩ hp K X L;wp_walk;exact L
 refine⟨rs.map fun r=>(r.1,.bool true),by rw[cD];rfl,?_⟩;wp_walk using VW.c b0 b1 P l C (fun fs W lf=>?_);decide;decide;refine znz (P:=fun x:Int=>0<=x/\x<2 ^ bits.toNat) (G:=fun x=>.tuple [.int x,.int 0]) (by decide) (fun x hx m K X hm L=>?_) fun J m lb hb hm=>?_
 ·wp_walk using Qb ?_ ?_ ?_ (fun r r0 r1=>?_);exact cpow b0 (by lia);rw[bH];exact Bd.Q4 _;have:=zkC (k:=bits.toNat) (by lia);lia;have e3:(JZ 0 (3:Int).toNat).length=3:=rfl;lia;rw[bH]at r1;exact L r _ ⟨r0,r1⟩ (av _)
 ·have e3:(JZ 0 (3:Int).toNat).length=3:=rfl;rw[e3]at lb hm;wp_walk;rw[Jy,ao];lia;have ec:pD fs++J.map (fun x=>dw [.int x,.int 0])=pD (fs++J.map fun x=>(x,(0:Int))):=by
   unfold pD;rw[bJ,cD];rfl
  rw[ec];have z:∀c∈fs++J.map (fun x=>(x,(0:Int))),c∈fs\/c.2=0:=fun c hc=>(ai.mp hc).imp_right fun z=>by obtain⟨x,_,rfl⟩:=a7.mp z;rfl
  have bk:∀c∈fs++J.map (fun x=>(x,(0:Int))),IsBk bits c.1 c.2:=fun c hc=>(ai.mp hc).elim (fun z=>W.bk c (b7 _ z)) fun z=>by obtain⟨x,hx,rfl⟩:=a7.mp z;exact znf b0 (hb x hx)
  have sub:∀c∈fs,c∈fs++J.map (fun x=>(x,(0:Int))):=fun c hc=>b7 _ hc;have lc:(fs++J.map (fun x=>(x,(0:Int)))).length<=8003:=by rw[aH,ao];lia
  generalize fs++J.map (fun x=>(x,(0:Int)))=cs at z bk sub lc ⊢;refine Ux (fun k ρ Y=>Y=m/\∃(qs:PR) (ts:KT2) (c:Option Cell),ρ=[some (.val HAND),some (.val (.int bits)),some (.val (.tuple (pD bs))),some (.val (.tuple (qs.map rwD))),some (.dtt ts),c]/\Qx bits rs cs k qs ts) ⟨rfl,rs,_,_,rfl,.start O (by rw[cD];rfl)⟩ ?_ ?_
  ·rintro k t ρ Y K et ⟨rfl,qs,ts,c,rfl,I⟩ L;obtain⟨i,g,U,rfl⟩:=Zv et;have hk:=(ah.mp U).1;have lt:=I.lt;have lq:=I.lq;wp_walk using Qv (k:=(i,g)) ?_;rw[ao];show qs.length+1<=_;lia;lia;refine L _ _ ⟨rfl,qs++[((i,g),(0,0))],_,_,by rw[bJ];rfl,I.new U ?_ (bk _ (aM U))⟩;simpa using hc;refine L _ _ ⟨rfl,qs,ts,_,rfl,I.old U ?_⟩;simpa using hc
  ·rintro ρ Y ⟨rfl,qs,ts,c,rfl,I⟩;rw[Jy]at I;wp_walk;exact h qs _ (I.own O W z sub) (fun k v e=>by obtain⟨zs,_,rfl⟩:=I.zs;exact YT e) (by have:=I.lq;lia) hm
theorem zhP{qs:PR}:Okd (.tuple (qs.map rwD)):=by
 have:∀qs:PR,cQ (qs.map rwD)=true/\dN (qs.map rwD)<=2:=by
  intro qs;induction qs with
  | nil=>exact⟨by simp[cQ],by simp[dN]⟩
  | cons b l o =>refine⟨?_,?_⟩;have:=o.1;simp only[rwD,aC,cQ,fN,mK,eH]at this ⊢;exact this;have:=o.2;simp only[rwD,aC,dN,gT]at this ⊢;lia
 exact⟨by simp only[fN];exact(this qs).1,by have:=(this qs).2;simp only[gT];lia⟩
theorem zkL{bits:Int}{ps:BL}{qs:PR}{v:Int×Int}(O:OwnP bits ps qs)(e:valP qs (0,bits)=some v)(y:Int):zl7 bits ps y (.tuple (qs.map rwD))↔y<=v.1:=by
 constructor;rintro⟨ls,x,_,_,⟨w,C,hw⟩,_⟩;injection x with x;rw[<- ZF x,e]at C;cases C;exact hw
 intro h;exact⟨qs,rfl,fun q o=>⟨O.bk q o,(O.ok q o).1,(O.ok q o).2.1⟩,O.nd,⟨v,e,h⟩,fun q o no al G ha=>(O.ok q o).2.2 no al G ha⟩
def zeu:GD:=fun ts n R=>ts=[HAND]/\n<=1000/\∀m,R (.bool true) m
theorem zio{n:Nat}{R:qN}(u:n<=1000)(h:∀m,R (.bool true) m):zeu [HAND] n R:=⟨rfl,u,h⟩
def zef(Z:ZZ)(l:af):Prop:=FQT Z l QL "_law_case" (top 43) ["_law_hand_here"] 10 1 zeu
theorem zg3  {PL:af}(D:DQ Z "_law_case" 43 ["_law_hand_here"]) (HQ:zeg Z) (Hi:YU Z) (HK:zdL Z) (HL:zdJ Z) (Hw:zc7 Z) (Hm:zca Z PL) (HR:zed Z) (Hy:zdH Z) (T:Txt Z.mg):zef Z PL:=by
 obtain⟨f,fd,D⟩:=D;refine⟨f,fd,D,D.okT (fnS (N:=["_law_hand_here","_law_bits_here","_law_most","_law_patch_here","_law_many","_law_told","_law_some","_law_paper","_law_wide"]) (by decide +kernel)) rfl fun cdv A outer s H E _ I hP=>?_⟩;refine'⟨_,(Jb (dsv 1 (ndB rfl) (Jd HQ I (dbv 0 Ja))) (Jb (dsv 2 (ndB rfl) (Jd Hi I (dbv 0 (dbc (JK (JV (dbc Ji (dbc Ji (dbc Ji (dbc Ji (dbc Ji (dbc Ji (dbc Ji (dbc Ji Ja)))))))))) Ja)))) (Jb (dsv 3 (ndB rfl) (Jd HK I (dbv 0 (dbv 1 (dbc (znw (Jr (Qe I) Qd (dlv 1) dli (Jl _)) (Jo 2) Ji) Ja))))) (Jb (dsv 4 (ndB rfl) (Jd HL I (dbv 1 (dbv 3 Ja)))) (Jb (dsv 5 (ndB rfl) (Jd Hw I (dbv 1 (dbv 3 Ja)))) (Jb (dsv 6 (ndB rfl) (JK (JV (dbc (Jn (dbv 5 (dbv 4 Ja))) (dbc (zog Hm hP I (dbv 0 (dbv 1 (dbv 3 (dbc JW Ja))))) (dbc (zog Hm hP I (dbv 0 (dbv 1 (dbv 3 (dbc JW Ja))))) Ja)))))) (Jb (Uf bV rfl (Uj (Jo 6)) (Qj rfl (Jx (dgv 7 (ndB rfl)) (Jx (dgv 2 (ndB rfl)) Qg))) (Jb (Uf bV rfl (UJ (Jn (dbv 7 (dbc (Jd HR I (dbv 0 (dbv 1 (dbv 3 (dbv 7 Ja))))) Ja)))) (dgv 8 (ndB rfl)) (Jb (Jz (Jr zhO zic (dl (Jd Hy I (dbv 1 (dbv 3 (dbc (JC (dlv 2) dli) (dbv 8 Ja)))))) (dl JW) (Jl _)) (Jc (Jg JW)) JF) (Jc (Jz (QS (J8 (dl (Ju (ZS rfl) Zh T.all ZR (Je (dl (JK (dnc ["_law_one"] [1,3,8] (dil (Uj (JK (JV (dbc Ji (dbc (ZH (dlv 2) dli) (dbc (Ju (YX rfl) Ym T.max YW (Je dli (Je (dl (JY (dlv 2) dli)) Jm QW) ZB)) (dbv 2 Ja)))))))) (fun _ _ _ _=>(dgv 0 (ndB rfl))) (fun _ _ _ _=>(Qi zrg zsm (dl (Jd Hy I (dbv 1 (dbv 2 (dbv 0 (dbv 3 Ja)))))) (dl JW) (Jl _)))))) Jm QZ))))) (Jc (Jg JW)) JF)))) (Jc (Jz (Jr Zd gp_B (dlv 2) (dlv 4) (Jl _)) (Jc (Jg JW)) JF)))) (Jc (Jg (Qi (Yz I) U1 (dl (Jd Hw I (dbv 1 (dbv 3 Ja)))) (dlv 5) (Jl _))))))))))),?_⟩;intro ts n R hl h;obtain⟨rfl,hn,h⟩:=h;have pk:∀{n:Nat} {R:qN},n<=1000000000000->(∀most:Int,0<=most->most<=16->R (.int most) (n+1))->Z4 [HAND,.list [.int 8,.int 8,.int 8,.int 8,.int 8,.int 8,.int 8,.int 16]] n R:=fun h1 h2=>zcX (by simp) (by simp) h1 fun x hx=>by simp only[ay,bI,or_false]at hx;rcases hx with rfl|rfl|rfl|rfl|rfl|rfl|rfl|rfl <;> exact h2 _ (by decide) (by decide)
 wp_walk using ziq ?_ (fun bits b0 S=>?_);lia;refine pk (by lia) fun most m0 m1=>?_;have ifm:∀{n0:Nat} {R:qN},(∀mo:Int,0<=mo->mo<=16->R (.int mo) n0)->dIfE (UF (dOp oLtA (dVar 1) (dC (cq 17)))) (dVar 2) (dC (cq 6)) [some (.val HAND),some (.val (.int bits)),some (.val (.int most)),none,none,none,none,none,none] n0 R:=by intro n0 R h;wp_walk;exact h _ (by lia) (by lia);exact h _ (by lia) (by lia)
 wp_walk using ifm (fun mo mo0 mo1=>?_);refine zcs.c b0 S mo0 (by lia) (by lia) (fun bs m P lb hm=>?_);have G:0<=bits:=by lia
 have PB:=P.1;have l1:bs.length<100000:=by lia
 have l2:bs.length<=10000:=by lia
 have l6:bs.length<=60:=by lia
 clear pk ifm;wp_walk using zcq.c G S PB l1 l2 (fun ps C=>?_),VX.c G S PB l1 l2 (fun J qs Y lp Q Oq lq=>?_);have ep:=Y.uniq C fun x=>aR;subst ep;refine zce G S P l6 Y (by lia) fun rs v m1 O1 ev1 lr1 hm1=>?_;wp_walk;refine zce G S P l6 Y (by lia) fun ls w m2 O2 ev2 lr2 hm2=>?_;wp_walk;obtain⟨u,eu⟩:=Q.root;rw[<- Q.many eu];have top:∀{l:PR} {v:Int×Int},OwnP bits J l->valP l (0,bits)=some v->v.1<=u.1:=fun {l v} O e=>by rw[Q.many eu];exact zmq G P Y O.bk (fun q hq=>(O.ok q hq).2.2) e
 have good:∀t∈[dw [.tuple (qs.map rwD),.int u.1],.tuple [.tuple (rs.map rwD),.int v.1],.tuple [.tuple (ls.map rwD),.int w.1]],∃(l:PR) (v:Int×Int),t=.tuple [.tuple (l.map rwD),.int v.1]/\OwnP bits J l/\valP l (0,bits)=some v/\l.length<=8000:=fun t ht=>by simp only[ay,bI,or_false]at ht;rcases ht with rfl|rfl|rfl;exact⟨qs,u,rfl,Q.own,eu,by lia⟩;exact⟨rs,v,rfl,O1,ev1,lr1⟩;exact⟨ls,w,rfl,O2,ev2,lr2⟩
 have len3:[dw [.tuple (qs.map rwD),.int u.1],.tuple [.tuple (rs.map rwD),.int v.1],.tuple [.tuple (ls.map rwD),.int w.1]].length=3:=rfl;generalize [dw [.tuple (qs.map rwD),.int u.1],.tuple [.tuple (rs.map rwD),.int v.1],.tuple [.tuple (ls.map rwD),.int w.1]]=L at good len3 ⊢;refine zst 2 7 8 (fun k _ _ _ U=>U<=m2+3*k) (by lia) ?_ ?_
 ·rintro k t _ _ _ U K RT BK et hm' hK hRT hBK;have k3:=(ah.mp et).1;obtain⟨l,y,rfl,O,ey,lq'⟩:=good t (aM et);have sh:∀{l:PR} {b:Bool} {z:Int} {n:Nat} {R:qN},OwnP bits J l->valP l (0,bits)=some y->l.length<=16100->decide (z<=y.1)=b->R (.bool b) n->V0 [.int bits,.tuple (pD bs),.int z,.tuple (l.map rwD)] n R:=fun {l b z n R} O e hl eb h=>V0.c G S PB l1 l2 Y (zfM (by rw[ao];lia) zou) fun c hc=>by
   rw[zkL O e z,<- decide_eq_true_eq (p:=z<=y.1),eb,<- cc]at hc;rw[hc];exact h
  wp_walk using zcS.c G S P l6 Y O lq' ?_ (fun ws m3 O3 ev3 lw hm3=>?_);lia;have good2:∀t∈[dw (l.map rwD),.tuple (ws.map rwD)],∃l':PR,t=.tuple (l'.map rwD)/\OwnP bits J l'/\valP l' (0,bits)=some y/\l'.length<=16100:=fun t ht=>by simp only[ay,bI,or_false]at ht;rcases ht with rfl|rfl;exact⟨l,rfl,O,ey,by lia⟩;exact⟨ws,rfl,O3,ev3 _ _ ey,lw⟩
  generalize [dw (l.map rwD),.tuple (ws.map rwD)]=L2 at good2;refine zsu 8 (fun _ _ U=>U=m3) rfl ?_ ?_
  ·rintro k2 t2 _ U K2 RT2 BK2 et2 rfl hK2 hRT2 hBK2;obtain⟨l',rfl,O',ey',ll'⟩:=good2 t2 (aM et2);wp_walk using sh (b:=false) O' ey' ll' (decide_eq_false (by lia)) ?_;all_goals first|(exfalso;exact absurd hc (by decide))|skip
   exact⟨by decide,by decide⟩;have y0:0<=y.1:=(O.ok _ (Ql ey)).1;refine Uv (cs:=[0,y.1 / 2,if y.1 - 1 > 0 then y.1 - 1 else 0,y.1]) (D:=.int) (fun _=>.bool true) (show 4<=16777216 by decide) (fun z hz K3 X3 hK3=>?_) ?_
   ·have hz:z<=y.1:=by
     simp only[ay,bI,or_false]at hz;rcases hz with rfl|rfl|rfl|rfl;exact y0;lia;split <;> lia;exact aE _
    wp_walk using sh (b:=true) O' ey' ll' (decide_eq_true hz) ?_;exact hK3
   wp_walk using Zi ?_;exact hK2 _ _ rfl;exact absurd hc (by simp)
  ·rintro _ U rfl;have ty:=top O ey;wp_walk;exact absurd hc (by lia);exact hK _ _ _ _ (by lia)
 ·rintro _ _ _ U hm';wp_walk using VX.c G S PB l1 l2 (fun ps2 rs2 C2 lp2 Q2 Oq2 lq2=>?_);exact zhP;exact zhP;have e2:=C2.uniq Y fun x=>aR;subst e2;rw[Q.same Q2 Oq Oq2,zpL zhP];exact h _
theorem zrl{f:af}{fd:cA}{x:af}(D:Def Z.K Z.mg "law" (top 44) ["_law_script"] f fd) (G:zef Z x) (S:zee Z) (T:Txt Z.mg):FnOk Z.P Z.w Z.K Z.mg Z.base CX0 11 f fd ["_law_script"] (spT x QL (spD Z.K 1 zsp)):=by
 refine D.okT (fnS (N:=["_law_script"]) (by decide +kernel)) rfl fun J A outer s H E _ L C=>?_;refine'⟨_,(Jc (Jg (Ju (ZS rfl) Zh T.all ZR (Je (dl (JK (dnc ["_law_k"] [0] (dil (zeA T.ran (Ju (YX rfl) Ym T.max YW (Je dli (Je (dl (Ju (Uu rfl) Uh T.min Ut (Je (dl (Ju QO QM T.len Qu (Je (dlv 0) Jm Jq))) (Je dli Jm ZB) YJ))) Jm YJ) ZB)))) (fun _ _ _ _=>(dgv 0 (ndB rfl))) (fun _ _ _ _=>(zlK G (zqm C) S L (dbv 1 (dbv 0 Ja))))))) Jm QZ)))),?_⟩;intro ts n R U u;obtain⟨ns,rfl,v,u⟩:=u;wp_walk;split <;> (try split) <;> lia;split <;> (try split) <;> lia;generalize hz:Int.toNat _=z;have Y:z<=5:=by rw[<- hz];split <;> (try split) <;> lia
 generalize hts:JZ 0 z=us;refine zfx (fun _=>.bool true) (by rw[<- hts,zjn];lia) ?_ ?_
 ·intro b hb K X I;rw[<- hts]at hb;obtain⟨i,hi⟩:=lH.mp hb;obtain⟨i1,rfl⟩:=ze8 hi;wp_walk using zio ?_ (fun m=>?_);lia;lia;lia;lia;exact⟨true,rfl,I⟩
 ·wp_walk using Zi (f:=fun _=>true) ?_;rw[show us.all (fun _=>true)=true by simp];exact u _
end
section
open PySem.W PyProof.Rows
theorem zsP{Ic:nJ->Option ae}{mg mb:qM}{h:bB}{w:ba}{J:af}(T0:hW qv (looseW qv []) Ic mg mb h)(N:mg (defName (top 44))=some (.ref J)) :
  ∃(c P:af) (qn:Str) (fd:cA),pU [(c,P)] h/\isCodeTable h P/\(∀(s:aj) (v:ae),oR s fd ⟨[v],[]⟩ [("_law_script",v)])/\∀base:bB,(JS (gho h c P)).In base->base.Ns mainGlobals mg->FnOk PySem.Challenge.rw_blockdeal_k17_papers_of_rules.prog w (JS (gho h c P)) mg base CX0 11 J fd ["_law_script"] (spT P qn (zoq (JS (gho h c P)))):=by
 have T:=zqj T0;obtain⟨c,P,l,L,hL⟩:=ztz (x:="_law_own_paper") T0 (zk1 (i:=41) (by kernel_rfl)) (by kernel_rfl);obtain⟨f,fd,DL⟩:=zsD (x:="law") (ps:=["_law_script"]) l T0 (zk1 (i:=44) (by kernel_rfl)) (by kernel_rfl) fun _ _ _ _ _ _ us hl=>by obtain⟨_,rfl⟩:=len1 hl;rfl
 have e0:a9 f=a9 J:=aI (DL.m.symm.trans N);cases e0;refine⟨c,P,QL,fd,l,L,fun s v=>?_,fun base hB _=>?_⟩;obtain⟨oc,od,kV,doc,pm,an,cdv,ct,osl,rfl,_,_⟩:=DL.F.ex;exact .of_eq rfl;let Z:ZZ:=⟨PySem.Challenge.rw_blockdeal_k17_papers_of_rules.prog,w,JS (gho h c P),mg,base⟩;have LZ:=hL base w PySem.Challenge.rw_blockdeal_k17_papers_of_rules.prog hB;have Hq:=zhT (Z:=Z) (dqG l T0)  T;have HX:=zhW (Z:=Z) (dqG l T0) Hq T;have HZ:=zjr (Z:=Z) (dqG l T0)  T;have Ie:=zkW (Z:=Z) (dqG l T0)  T;have Ij:=zmU (Z:=Z) (dqG l T0) Ie T;have HH:=zfS (Z:=Z) (dqG l T0)  T;have HF:=zkT (Z:=Z) (dqG l T0) HH T;have G:=zkV (Z:=Z) (dqG l T0) HZ T;have Hs:=zde (Z:=Z) (dqG l T0)  T;have Iq:=zo7 (Z:=Z) (dqG l T0) G Hs T;have HV:=zhQ (Z:=Z) (dqG l T0) Iq T;have H0:=zjs (Z:=Z) (dqG l T0) G T;have HG:=zkU (Z:=Z) (dqG l T0) HV H0 T;have Ht:=zhY (Z:=Z) (dqG l T0) G T;have HI:=zfU (Z:=Z) (dqG l T0) Ht T;have HB:=zeO (Z:=Z) (dqG l T0) HI Ij T;have U:=zjt (Z:=Z) (dqG l T0) HB T;have R:=zhX (Z:=Z) (dqG l T0) Ht G T;have HW:=zhR (Z:=Z) (dqG l T0) U R HF T;have Hr:=zgX (Z:=Z) (dqG l T0) R U HF T;have S:=zhS (Z:=Z) (dqG l T0) HG HW Hr T;have HL:=zfT (Z:=Z) (dqG l T0) S T;have Hw:=zeN (Z:=Z) (dqG l T0) S T;have HY:=zhU (Z:=Z) (dqG l T0) Hr T;have HJ:=zhV (Z:=Z) (dqG l T0) Hq T;have Ig:=zkS (Z:=Z) (dqG l T0) HX HJ T;have Hy:=zfR (Z:=Z) (dqG l T0) HG HY Ig T;have HU:=zfQ (Z:=Z) (dqG l T0)  T;have C:=zfP (Z:=Z) (dqG l T0)  T;have u:=zgZ (Z:=Z) (dqG l T0) C T;have HQ:=zg4 (Z:=Z) (dqG l T0) u T;have Hk:=zfW (Z:=Z) (dqG l T0) u C T;have HP:=zg0 (Z:=Z) (dqG l T0) u Hk T;have HC:=zeQ (Z:=Z) (dqG l T0) C Hk HP u T;have HK:=zfV (Z:=Z) (dqG l T0) HC T;have Y:=zeP (Z:=Z) (dqG l T0)  T;have Hm:=zdu (Z:=Z) LZ (dqG l T0) Y C T;have HR:=zg1 (Z:=Z) (dqG l T0) Y C T;have HS:=zg3 (Z:=Z) (dqG l T0) HQ u HK HL Hw Hm HR Hy T;exact(zrl (Z:=Z) DL HS HU T).imp fun vs H Q E z=>⟨z.1,zph vs H Q E z.2⟩
end
end Bd
open PySem PySem.W PyProof.Rows
set_option maxRecDepth 100000 in
set_option maxHeartbeats 0 in
theorem PySem.Challenge.cw_blockdeal_k17_papers_of_rules_holds : PySem.Challenge.rw_blockdeal_k17_papers_of_rules.Holds := by
 w_on
 refine holds_law Bd.zor fun l=>?_;refine holds_open (r:=PySem.Challenge.rw_blockdeal_k17_papers_of_rules.row) (d:=Bd.recD (Bd.top 44)) (kwd:=[]) Bd.zpg (Hook.of hY) (Hook.keeps hY) (fun s e=>xl_of s (mj.mp e).1) XL.keeps (by kernel_rfl) (by kernel_rfl) (by kernel_rfl) (fun s e=>recFacts_of (mj.mp e).2) (by kernel_rfl) l (by kernel_rfl) ⟨rfl,rfl,rfl,rfl,rfl,by decide +kernel⟩ ?hw ?hc
 case hw=>w_witness2
 case hc=>exact Bd.ztx (lw:=PySem.Challenge.rw_blockdeal_k17_papers_of_rules) (k:=11) (by decide) rfl rfl fun w s₀ mg v u h G o=>Bd.zsP G.T o