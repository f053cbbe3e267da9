import PyProof.Rows.All
import Wide.All
import OpenK.AllK
import Wide.FinOn
import Lean
import PyProof.EqAt
import PyProof.EqKinds
import PyProof.TupleCall
import PySem.Challenge.RW_blockdeal_k20_whole_no_fewer_rules
open PySem renaming wpAny_bind->aa,wpAny_pure->ae,PyData->af,Value->ag,Addr->aj,Shared->aq,Program->aL,wpAny_newObj_type->aX,Expr->aY,World->aZ,wpAny_call_entry->a7,Heap->a9,Around->bg,wpAny_callSpecial?_slot->bo,Paired->bL,wpAny_holding->bM,wpAny_field->bW,wpAny_setField_rec->bY,Builtin->cc,wpAny_mono->cz,wpAny_rule->cK,wpAny_setField->cP,codeAny_builtin->cT,wpAny_truthy_bool->cZ,wpAny_seqItems->dA,wpAny_typeOf->dG,FuncData->dM,DictEntry->eD,builtinLookup_eq_fast->eG,SetTable->eI,wpAny_typeNameOfWhole_itemiter->eN,wpAny_standAt->eO,wpAny_attempt->eR,NameKind->eT,wpAny_typeNameOfWhole_keyiter->eU,wpAny_dictEntries->eY,Stmt->fc,Scope->fo,wpAny_askSetting->fv,wpAny_isInstance->fw,wpAny_passesOwn->fF,wpAny_setState_of->fI,mem_of_lookup->fO,typeLookup_type->gG,wpAny_updateSeq->gH,wpAny_dictEpoch->gJ,wpAny_ite_split->gK,wpAny_pyIter_slot->gS,wpAny_pyIter_tuple->iH,tupleKind_room_in1->iM,wpAny_of_eq->iO,wpAny_pyIter_list->iR,codeAny_mono->iS,Keyword->iW,isSubtype_stop->i5,wpAny_fieldsOf->kb,wpAny_isOneOf_itemiter->kc,fits_of_scanBound->kh,wpAny_notOrdered_dict->ku,IsTupleKey->kD,wpAny_newList->kJ,wpAny_handled->kK,plainId_quiet->kM,sizeLine_eq->kO,wpAny_updateSeq_pair->kU,codeAny_call_builtin->kX,wpAny_execs_nil->k6,wpAny_load->lL,wpAny_Call_Name_kw->lO,wpAny_throw->mJ,wpAny_letGo->mK,IsPart->mN,wpAny_comprehension_free->mO,wpAny_onRaise->mP,wpAny_pyNext_tuple_item->mW,noFill_tuple_add->mX,wpAny_Call_method0_late->mZ,wpAny_pyNext_tuple_end->nA,wpAny_Call_method_late->nC,IsPair->nF,wpAny_loadPart'->nN,wpAny_isOneOf_keyiter->nX,wpAny_loadName_local->og,wpAny_newTuple->oA,wpAny_runValue->oB,wpAny_pyIter_keyiter->oF,entryFor_alias->oG,isSubtype_type->oJ,wpAny_loadName_cell->oQ,evalArgs_none->oT,wpAny_setEntries_of->oX,KeyKind->o4,seq_tuple_add->o5,Comprehension->o6,sub_AttributeError->pL,wpAny_dictSet_heap->pM,wpAny_assign_Name->pT,concat_meets->pX,wpAny_sequenceKey->pY,seqIndex_neg->pZ,slot_list_getitem->p4,OsState->rB,wpAny_storeSet_of->rG,wpAny_execs_cons->rN,PassesOwn->rO,Result->rQ,wpAny_pyIter_zip->rZ,entryFor_of_tree->si,seqIndex_of->sA,wpAny_alloc->sC,IsZip->sG,codeAny_of_tree->sO,pushCells_keeps->sP,wpAny_specialOf->tf,BindsTo->tD,CellsOk->tE,ExcName->tG,wpAny_Name->tI,Operator->tJ,wpAny_bindName->tK,typeIs_str->tR,sliceRange_one->tS,call_meets->tT,Params->tU,PyData->vT,Within->vU,Value->xq,Model->xx,CmpOp->xC,pick_run->xH,ReadsAll->xO,Slot->y8,call->Ac
open PySem.Heap renaming get?_push_of_some->ah,get?_push_size->aw,lt_size->ax,get?_update_self->br,get?_update_other->bR,SameBut->cH,size_push->cM,get?_push_ne->eW,size_update->g8,ExtBut->mI,NewAttrErr->nQ,get?_update_ne->oW
open Nat renaming le_refl->ar,ne_of_lt->aD,lt_of_lt_of_le->aM,lt_or_ge->bG,le_trans->b7,zero_le->cO,lt_trichotomy->c9,ne_of_gt->dU,zero_add->eP,le_of_lt->fh,lt_irrefl->fK,lt_of_le_of_lt->gm,lt_trans->gn,lt_or_eq_of_le->gA,le_add_right->g9,testBit_succ->hG,eq_zero_or_pos->iL,mod_eq_zero_of_dvd->i7,dvd_of_mod_eq_zero->i8,sub_self->kj,le_succ->kS,sub_zero->lC,pow_succ->lF,add_sub_cancel->lW,le_of_succ_le->mE,shiftLeft_eq->m5,testBit_zero->m9,testBit_and->nP,eq_of_testBit_eq->oD,mul_le_mul_left->oY,mul_comm->rh,le_of_lt_succ->rJ,le_of_not_lt->rS,lt_succ_self->rT,and_le_left->sZ,not_lt->ua,mul_assoc->vh,min_self->wm,le_total->wz,one_mul->xN,not_le->Al,mod_lt->As
open List renaming getElem?_eq_getElem->au,getElem?_eq_some_iff->av,mem_cons->ay,mem_of_getElem?->aA,size_toArray->aB,mem_singleton->aC,length_map->aG,length_cons->aH,map_cons->aN,pairwise_iff_getElem->aP,getElem?_map->aT,mem_append->aW,not_mem_nil->a8,length_append->ba,mem_map->bc,getD_eq_getElem?_getD->bf,getElem_of_mem->bp,pairwise_cons->bK,getElem?_eq_none->bO,length_nil->bU,getElem?_append_left->bV,drop_eq_getElem_cons->bZ,all_eq_true->b5,append_nil->cg,nodup_cons->cj,getElem?_append_right->cm,mem_cons_of_mem->cw,find?_cons->cD,mem_append_right->cF,map_map->cI,pairwise_map->cJ,pairwise_append->cQ,filterMap_cons->cV,mem_map_of_mem->cY,length->c8,of_mem_zip->dF,mem_cons_self->dI,getElem?_set_ne->dJ,lookup_cons->dN,getElem?_cons_succ->dO,take_length->dQ,map_nil->dY,nodup_append->eh,replicate_succ->eE,map_append->eF,getElem_mem->eK,cons_append->eM,getElem?_replicate->eV,append_assoc->eX,getElem?_cons_zero->eZ,pairwise_singleton->e8,nil_append->e9,map_congr_left->fe,length_reverse->ff,mem_flatten->fy,getElem?_reverse->fC,replicate_zero->fQ,getD_cons_succ->fR,getD_cons_zero->fS,replicate->fT,length_take->fU,take_succ->fV,length_eq_zero_iff->fW,range->fZ,mem_filterMap->f9,find?_eq_none->gy,set_cons_succ->gC,set_cons_zero->gD,mem_filter->gE,mem_iff_getElem?->gN,getElem?_inj->gT,forIn_nil->gW,any_eq_true->hV,mem_reverse->hW,getElem?_take_of_lt->ig,length_erase_of_mem->iy,forIn_cons->iD,length_zip->iG,lookup_append->iK,getElem?_set_self->iQ,mapM_toArray->i4,length_range->i6,length_pos_of_mem->i9,length_singleton->km,length_filter_le->ko,length_drop->kA,all_toArray->kC,mem_erase_of_ne->kW,any_map->lG,length_eraseIdx_of_lt->lY,getElem?_zip_eq_some->l8,mem_of_find?_eq_some->mj,getElem?_eq_none_iff->mn,any_eq_false->mD,getElem?_set->mG,ext_getElem?->mH,drop_sublist->mM,perm_middle->m7,map_snd_zip->m8,take_of_length_le->nE,foldl_cons->nR,length_replicate->nU,mem_range->n8,mem_append_left->n9,map_id->oC,getElem?_range->oV,length_pos_iff->oZ,zip_cons_cons->pG,filter_append->pK,map_filterMap->pO,take_sublist->pW,flatMap_cons->rn,find?_append->rA,getElem_drop->rE,drop_length->rV,map_fst_zip->rW,zipIdx_cons->rX,mem_flatMap->sf,countP_cons->sy,zipIdx_nil->sX,find?_some->tx,nodup_nil->t4,drop_zero->t5,take_nil->u9,drop_nil->vc,any_cons->vk,sum_cons->vp,map_tail->vG,zip_map->wK,lookup->xJ
open Option.some renaming inj->aE
open Bool renaming false_eq_true->aI,false_ne_true->aQ,and_eq_true->bq,eq_iff_iff->dE,true_and->dS,false_and->dW,not_true->fq,not_false->fA,and_false->gV,not_eq_true'->iX,beq_eq_decide_eq->nV,or_eq_false_iff->oq,and_eq_true_iff->oK,false_or->pf,and_true->vg
open PySem.Value renaming ref->aJ,type->aV,none->b8,bool->ky,isInt->kN,int->mV,isInt_shape->pR,str->rM,isStrOf->uK,float->xt
open PySem.Challenge renaming rw_blockdeal_k20_whole_no_fewer_rules->aK,pw_blockdeal_k20_whole_no_fewer_rules->fg
open Int renaming le_refl->aO,toNat_natCast->bt,dvd_of_emod_eq_zero->bE,pow_succ->bH,mul_le_mul_of_nonneg_right->bP,one_mul->cx,mul_comm->cA,mul_assoc->cS,add_mul->dP,emod_eq_zero_of_dvd->dR,le_of_lt->eQ,lt_or_le->fj,mul_le_mul_of_nonneg_left->fY,natCast_pow->gF,pow_add->gX,natCast_zero->hX,mul_neg_of_pos_of_neg->hZ,lt_trichotomy->iZ,pow_zero->lI,natCast_nonneg->lM,fdiv_eq_ediv_of_nonneg->lN,lt_of_mul_lt_mul_right->lX,emod_lt_of_pos->lZ,lt_of_mul_lt_mul_left->mf,mul_one->mC,eq_ofNat_of_zero_le->m4,natCast_succ->ny,le_trans->nG,emod_nonneg->nT,emod_add_mul_ediv->nZ,add_emod->rg,mul_emod_left->rm,mul_add->sI,emod_two_eq->sY,ediv_nonneg->tB,le_of_eq->wJ,sub_mul->xQ
open PySem.Str renaming ofString->aR,empty->oN,length->y3
open Iff renaming rfl->aU
open PySem.SetTable renaming below->bh,grown->eC,orStandIn->pN,insertAt->rC,Probe->ub
open Classical renaming byContradiction->bu,choose_spec->cG,choose->kB
open Array renaming getElem?_eq_getElem->bw,length_toList->cW,getElem?_toList->dh,getD->gz,getElem?_eq_some_iff->gY,getElem?_eq_none->ka,toArray_toList->kY,getElem_toList->kZ,perm_iff_toList_perm->lT,toList_push->mL,size_append->p9,toList->vV
open PyProof.Rows renaming wpS_bind->bz,slot_tuple_getitem->b9,wpS_pure->cC,callWith_type1->fi,wpS_forRange->gr,IntsAre->gO,listItems_at->g7,Top->kF,SortKind->kQ,entry_proto_collect'->kT,AllBare->ly,wpS_get->lB,pairsOf_size->lD,assignInOrder_cons->lK,SortSt->lR,size_push'->lU,entry_list_iadd'->m6,subscriptTail_builtinR->nB,wpS_modify->nD,wpS_mono->ot,wpS_reverse->ou,mirror_perm->oz,entry_tuple_getitem->oS,Keyed->o8,listUpdate_at->o9,args_tuple_getitem->pH,IsTup->pS,assignInOrder_nil->pU,callWith_builtin1->rR,boot_sorted->sE,get?_update_seq->sU,oneTypeOnly'_eq->sW,slicePart_none->tP,Subscript_->tQ,wpS_lift->tY,lt_int->yr
open PySem.Builtin.SmallTypes renaming nextOf->bN,ownedTupleIsFree->dB,ownedTupleHandOut->h8,stopIteration->rq
open PySem.Obj renaming data_mapFields->bQ,isFreed_of_fields->df,mapSeq->dZ,cls_mapFields->fH,mapFields->gL,putSet->uc
open PySem.PyData renaming int->bS,hasDict->cN,tuple->fJ,hasDict_of_canLay->fN,eqv->gq,hasDictAll->gQ,canLayAll0->gR,depthAll->iF,canLay0->iY,bool->kP,depth->lA,none->oo,eqvAll->o7,dict->sD,list->xP
open PySem.W renaming kia_one->bT,boot_heap->dw,fnOf->dX,kitx_dict->fG,cellsFrom_some->gf,keepIn->iT,codeIn->iU,methodObj->my,boot_drawn->nK,instObj->nM,lookIn->oh,boot_toks->oP,kitx_tuple->pE,kitx_list->pV,plainGet->rP,findIn->tM,kitOne->tN,SharedT->wG
open PySem.Builtin.List renaming listExtendWith->bX,listSameRef->eS,listTooLong->fM,listItems->gx,listLengthHint->lH,listUpdate->vL
open PySem.PassesOwn renaming never->b6
open PySem.NameKind renaming free->cn,cell->kI
open PySem.F renaming slot_dict_itemiterator_next->cq,plain_extend_loop->cy,slot_dict_keyiterator_next->cB,slot_list_reversed->fB,slot_tuple_getattribute->fE,args_dict_itemiterator_next_1->hU,entry_dict_itemiterator_next->h9,args_dict_keyiterator_next_1->ia,args_tuple_add_2->ik,entry_dict_keyiterator_next->iB,entry_tuple_add->iN,plainAttrs_list->iP,slot_tuple_add->iV,args_tuple_iterator_next_1->k7,slot_zip_next->k8,slot_dict_items_iter->k9,entry_tuple_iterator_next->lE,slot_tuple_iterator_next->lV,entry_extend_loop->mh,slot_list_extend->mQ,type_list_extend->mS,slot_tuple_index->mU,plain_list_iadd->nj,slot_dict_items->nk,slot_dict_iter->nJ,slot_dict_len->nW,args_list_extend_2->om,entry_list_extend->oU,slot_list_extend->pI,args_zip_next_1->rf,entry_zip_next->rY,slot_set_iter->tz
open PySem.Paired renaming length->cE
open PySem.Builtin renaming bitXor->cL,bitNot->fX,bitAnd->gU
open PySem.PyData.dict renaming inj->cR,injEq->p7
open Option renaming map_eq_some_iff->cU,getD_some->g6,isSome_iff_exists->ic,map_some->iE,getD_none->mY,map_eq_none_iff->nH,isSome_some->pJ
open PySem.Heap.SameBut renaming update->cX,refl->mF
open Prod renaming ext->dz,fst->nt,snd->x6
open Ne renaming symm->dD
open PySem.Builtin.Dict_items renaming ownsTuple->dH,ownedTupleIsFree->ft,ownedTupleFields->iA,pairFromOwner->kf,newIterator->se,dictOf->uC
open False renaming elim->eJ
open Or renaming inl->fk,inr->Ah
open PySem.PyData.tuple renaming inj->fx
open PySem.Code renaming quiet_builtin->fz
open PySem.Builtin.Slice renaming slicePlaces->fD,sliceAdjust->hY,sliceApplied->lP,slicePartIndex->sN,sliceFields->uw
open PySem.Builtin.Tuple renaming tupleExact->fL,tupleItemsOf->lQ,tupleCompareSizes->rK,tupleIsExact->tZ,tupleHashOf->uA
open PySem.Builtin.Int renaming intBits->fP
open PySem.Calls renaming callWith_builtin->gh,Name_function_global->lJ,call_function_entry->l5,evalArgs_plain->oj,call_len_list->oR
open PySem.Builtin.Dict renaming showsAll->gM,addKeywords->mT,updateFrom->ni,pendingCount->uE,dictSlotNone->uF,selfAndRest->vi,pairItems->wB,noArgs->yA
open Function renaming comp_def->gP,comp->ph
open PySem.Around renaming under_plainId->gZ
open List.Pairwise renaming imp_of_mem->iw,filterMap->nu,nil->p6,and->AV,imp->A2,map->A9
open List.cons renaming inj->iz,injEq->sQ
open ForInStep renaming yield->iC
open True renaming intro->iI
open PySem.SeqAt.EqAt renaming int_int->iJ
open PySem.SetTable.below renaming go->kg
open PySem.Heap.DictOfH renaming new->kE
open PySem.W.Hook renaming none->kG,obs->yi,val->yj
open Sum renaming inl->kH,inr->oM
open PySem.W.RowW renaming records->nL
open PySem.AutoListH renaming list___reversed___list_0->nY
open Prod.mk renaming inj->oE,injEq->vd
open Std.Legacy.Range renaming forIn_eq_forIn_range'->oH,size->w9
open PySem.MeetsSeq.EqGives renaming int->oI
open And renaming intro->oO
open PySem.Shared renaming TypeIs->pd,heap->xT
open PySem.SeqAt renaming EqAt->pF,eqv_refl->xZ
open PySem.Setting renaming mk->pP
open PySem.PyData.list renaming injEq->p8
open PySem.SetTable.probe renaming go->rF
open PySem.pickOrder renaming go->rH
open PySem.Txt renaming slice->r8
open PySem.Heap.ExtBut renaming push->su
open List.forIn' renaming loop->sv
open Array.Perm renaming refl->sV
open PySem.PyData.int renaming inj->t7
open PySem.Manifest renaming find?->t8
open PySem.Builtin.Frozenset renaming oneOther->ud,addrOf->vC,sizeOf->vE
open PySem.EqNone renaming eq_none_none->uf,eq_none_bool->ug,eq_bool_none->uh,ne_none_none->uo,ne_none_bool->uq,ne_bool_none->ur,eq_none_int->uN,eq_none_str->uO,eq_int_none->uP,eq_str_none->uR,ne_none_int->uT,ne_none_str->uU,ne_int_none->uV,ne_str_none->uX
open PySem.EqMixed renaming eq_bool_str->uj,eq_str_bool->um,ne_bool_str->uu,ne_str_bool->uv,eq_int_str->uQ,eq_str_int->uS,ne_int_str->uW,ne_str_int->uY
open PySem.Builtin.Range renaming rangeSize->vI
open Nat.succ renaming inj->wC
open PySem.Fin renaming done->x8
open PySem.Flow renaming ret->x9,next->Bm
open PySem.Heap.IsSliceOf renaming new->yY
open PySem.W.WShape renaming has->Ab
open PyProof.Rows.SortSt renaming mk'->Ae
open PySem.Heap.IsTuple renaming push->AW
open PySem.W.WData renaming int->BF
open PySem.Heap.IsList renaming push->BJ
local macro_rules | `(tactic| walk_at "V") => `(tactic| first | exact Or.inl rfl | exact Or.inr (Or.inl rfl) | exact Or.inr (Or.inr rfl))
local macro_rules | `(tactic| walk_at "F") => `(tactic| first | exact .inl rfl | exact .inr rfl | assumption)
abbrev qF:=PySem.W.Frag
abbrev qB:=List (Int×Int)
abbrev qN:=vT->Nat->Prop
abbrev qM:=PySem.Str->Option xq
abbrev qV:=xq->PySem.Shared->Prop
abbrev qD:=List vT
abbrev qO:=List (PySem.Addr×PySem.Obj)
set_option Elab.async false
set_option linter.all false
set_option maxRecDepth 100000
set_option maxHeartbeats 4000000
namespace L2
open PySem PySem.Spec PyProof.Rows
abbrev Key:=Sum Int Str
def U6:Key->ag->Bool
 | .inl k,v=>kN k v
 | .inr x,v=>uK x v
def keyH(w:aZ):Key->Int
 | .inl k=>hashInt k
 | .inr x=>hashStr w x
theorem Ud:∀{k:Key}{v:ag},U6 k v=true->(∃i t,k=kH i/\v=mV i t)\/(∃x t,k=oM x/\v=rM x t)
 | .inl i,v,h=>by obtain⟨t,e⟩:=pR (k:=i) (v:=v) h;exact .inl ⟨i,t,rfl,e⟩
 | .inr x,v,h=>by obtain⟨t,e⟩:=Value.isStrOf_shape (x:=x) (v:=v) h;exact .inr ⟨x,t,rfl,e⟩
theorem zfh(i:Int)(t:Tok):U6 (.inl i) (.int i t)=true:=by simp[U6,kN]
theorem zm7(x:Str)(t:Tok):U6 (.inr x) (.str x t)=true:=by simp[U6,uK]
theorem zt3(a b:Int):decide ((kH a:Key)=kH b)=(a == b):=by by_cases e:a=b;subst e;simp;have h:¬(kH a:Key)=kH b:=fun q=>e (Sum.inl.inj q);rw[decide_eq_false h];exact(beq_eq_false_iff_ne.mpr e).symm
theorem zt0(a b:Str):decide ((oM a:Key)=oM b)=decide (a=b):=by by_cases e:a=b;subst e;simp;have h:¬(oM a:Key)=oM b:=fun q=>e (Sum.inr.inj q);rw[decide_eq_false h,decide_eq_false e]
theorem zt2(a:Int)(b:Str):decide ((kH a:Key)=oM b)=false:=decide_eq_false (fun q=>nomatch q)
theorem zt1(a:Str)(b:Int):decide ((oM a:Key)=kH b)=false:=decide_eq_false (fun q=>nomatch q)
def Jy(prog:aL)(w:aZ):o4 prog w Key where
 is:=U6
 hash:=keyH w
 inj:=fun v a b G o=>by rcases Ud G with⟨i,t,rfl,rfl⟩|⟨x,t,rfl,rfl⟩;rcases Ud o with⟨j,u,rfl,e⟩|⟨y,u,rfl,e⟩;injection e with e1 _;rw[e1];exact nomatch e;rcases Ud o with⟨j,u,rfl,e⟩|⟨y,u,rfl,e⟩;exact nomatch e;injection e with e1 _;rw[e1]
 byValue:=fun k v h=>by rcases Ud h with⟨i,t,rfl,rfl⟩|⟨x,t,rfl,rfl⟩ <;> rfl
 pyHash:=fun l h=>by rcases Ud l with⟨i,t,rfl,rfl⟩|⟨x,t,rfl,rfl⟩;exact wpAny_pyHash_int h;exact wpAny_pyHash_str h
 eqBool:=fun C l h=>by rcases Ud C with⟨i,t,rfl,rfl⟩|⟨x,t,rfl,rfl⟩;rcases Ud l with⟨j,u,rfl,rfl⟩|⟨y,u,rfl,rfl⟩;rw[zt3]at h;exact wpAny_eqBool_int h;rw[zt2]at h;exact SeqAt.EqAt.int_str i t y u _ _ _ _ h;rcases Ud l with⟨j,u,rfl,rfl⟩|⟨y,u,rfl,rfl⟩;rw[zt1]at h;exact SeqAt.EqAt.str_int x t j u _ _ _ _ h;rw[zt0]at h;exact wpAny_eqBool_str h
 «strs»:=fun k x t v h=>by rcases Ud h with⟨i,u,rfl,e⟩|⟨y,u,rfl,e⟩;exact nomatch e;injection e with e1 _;subst e1;cases v <;> rfl
theorem zi9(prog:aL)(w:aZ)(i:Int)(t:Tok):(Jy prog w).is (.inl i) (.int i t)=true:=zfh i t
theorem zi8(prog:aL)(w:aZ)(x:Str)(t:Tok):(Jy prog w).is (.inr x) (.str x t)=true:=zm7 x t
inductive V where
 | non|bl (b:Bool)|int (i:Int)|str (x:Str)|byt (b:Array UInt8)|flt (b:UInt64)|ref (a:aj)|ty (n:String)
 deriving DecidableEq
def RelV:V->ag->Prop
 | .non,u=>u=b8
 | .bl b,u=>u=ky b
 | .int i,u=>∃t,u=mV i t
 | .str x,u=>∃t,u=rM x t
 | .byt b,u=>∃t,u=Value.bytes b t
 | .flt b,u=>∃t,u=xt b t
 | .ref a,u=>u=aJ a
 | .ty n,u=>u=aV n
abbrev Vals:List V->List ag->Prop:=bL RelV
theorem Vals.length{xs:List V}{l:List ag}(r:Vals xs l):xs.length=l.length:=cE r
theorem Vals.get:∀{xs:List V}{v:List ag}{i:Nat}{x:V},Vals xs v->xs[i]?=some x->∃u,v[i]?=some u/\RelV x u
 | _,_,_,_,.nil,e=>by simp at e
 | _,_,0,_,.cons r _,e=>by simp at e;subst e;exact⟨_,rfl,r⟩
 | _,_,i+1,x,.cons _ t,e=>by obtain⟨u,h1,y⟩:=Vals.get (i:=i) (x:=x) t (by simpa using e);exact⟨u,by simpa using h1,y⟩
theorem Vals.set{x:V}{u:ag}(r:RelV x u):∀{xs:List V}{v:List ag} (i:Nat),Vals xs v->Vals (xs.set i x) (v.set i u)
 | _,_,_,.nil=>.nil
 | _,_,0,.cons _ t=>.cons r t
 | _,_,i+1,.cons q t=>.cons q (Vals.set r i t)
theorem Vals.append{xs ys:List V}{l u:List ag}(h:Vals xs l)(s:Vals ys u):Vals (xs++ys) (l++u):=by
 induction h with
 | nil=>exact s
 | cons r _ v=>exact .cons r v
theorem Vals.take:∀{xs:List V}{u:List ag} (n:Nat),Vals xs u->Vals (xs.take n) (u.take n)
 | _,_,0,_=>.nil
 | _,_,_+1,.nil=>.nil
 | _,_,n+1,.cons r t=>.cons r (Vals.take n t)
theorem Vals.drop:∀{xs:List V}{u:List ag} (n:Nat),Vals xs u->Vals (xs.drop n) (u.drop n)
 | _,_,0,r=>r
 | _,_,_+1,.nil=>.nil
 | _,_,n+1,.cons _ t=>Vals.drop n t
def RelO:Option V->Option ag->Prop
 | some v,some u=>RelV v u
 | none,none=>True
 | _,_=>False
def KV{l:Type}:List (l×V)->List (l×ag)->Prop:=bL fun(p:l×V) (q:l×ag)=>p.1=q.1/\RelV p.2 q.2
def kV:Key->V
 | .inl i=>.int i
 | .inr x=>.str x
inductive HO where
 | lst (xs:List V)
 | tup (xs:List V)
 | dK (kvs:List (Key×V))|dT (kvs:List (List Key×V))
 | set (S:Int->Bool) (n:Nat)
 | ins (C dx:aj) (fs:List (Str×V))
 | own (x:aj)
 | xd (fs:List (Str×V))
 | met (f x:aj)
 | rng (lo hi:Int)
 | frz (o:Obj) (u:HO)
 | tbl (q:Str)
 | ext (φ:a9->Prop)
abbrev Hp:=aj->Option HO
def upd(H:Hp)(a:aj)(o:HO):Hp:=fun b=>if b=a then some o else H b
theorem JE{H:Hp}{a:aj}{o:HO}:upd H a o a=some o:=by unfold upd;rw[if_pos rfl]
theorem Jh{H:Hp}{a b:aj}{o:HO}(h:b≠a):upd H a o b=H b:=by unfold upd;rw[if_neg h]
theorem Qp{H:Hp}{a b:aj}{o:HO}(h:H a=some o)(h':H b=none):a≠b:=by intro e;subst e;rw[h]at h';cases h'
def IsTD(h:a9)(a:aj)(items:Array ag):Prop:=∃o,h.get? a=some o/\o.cls=.type "tuple" /\ (∃n,o.data=.seq items n)/\o.dict=none
theorem IsTD.tup{h:a9}{a:aj}{items:Array ag}(x:IsTD h a items):pS h a items:=by obtain⟨o,e,c,d,_⟩:=x;exact⟨o,e,c,d⟩
theorem IsTD.lt{h:a9}{a:aj}{items:Array ag}(x:IsTD h a items):a<h.objs.size:=x.tup.lt
theorem IsTD.new(h:a9)(items:Array ag):IsTD (h.push { cls:=.type "tuple",data:=.seq items }) h.objs.size items:=⟨_,aw _ rfl,rfl,⟨_,rfl⟩,rfl⟩
def TabOk(H:Hp)(q:Str)(ps:Array ag):Prop:=TriplesOk ps.toList/\∀(pos:Pos) (v:ag),codeAmong pos ps.toList=some v->∃(c:aj) (o:Obj) (u:HO) (vs:Array ag) (t:Tok),v=.ref c/\H c=some (.frz o u)/\o.data=.fields vs/\vs[1]?=some (.str q t)
section
variable(P:aL)(w:aZ)
def JC(H:Hp)(h:a9)(a:aj):HO->Prop
 | .lst xs=>xs.length<=sizeLine/\∃(its:List ag) (n:Nat),Vals xs its/\h.get? a=some { cls:=.type "list",data:=.seq its.toArray n }
 | .tup xs=>xs.length<=sizeLine/\∃its:List ag,Vals xs its/\IsTD h a its.toArray
 | .dK G=>G.length<=sizeLine/\(a == sysModules)=false/\∃vs,KV G vs/\h.DictOf (Jy P w) a vs
 | .dT G=>G.length<=sizeLine/\(a == sysModules)=false/\∃xs:List (List Key×aj×ag),
   bL (fun(p:List Key×V) (q:List Key×aj×ag)=>p.1=q.1/\H q.2.1=some (.tup (p.1.map kV))/\RelV p.2 q.2.2) G xs /\
   ∃o es ep,h.get? a=some o/\o.ExactDict/\o.data=.dict es ep/\es.toList=xs.map (entryOfKey (tupleKind (Jy P w)))/\(xs.map (·.1)).Nodup
 | .set S n=>h.SetOf (intKind P w) a S n
 | .ins C J fs=>H J=some (.own a)/\fs.length<=1000/\J≠a/\h.get? a=some (nM C J) /\
   ∃I,h.Ns1 J I/\(∀f,RelO (fs.lookup f) (I f))/\vU I (fs.map (·.1))
 | .own _=>∃o,h.get? a=some o
 | .xd fs=>∃I,h.Ns1 a I/\∀f,RelO (fs.lookup f) (I f)
 | .rng lo hi=>∃t u v,h.get? a=some { cls:=.type "range",data:=.fields #[.int lo t,.int hi u,.int 1 v] }
 | .frz o u=>h.get? a=some o/\JC H h a u
 | .tbl q=>∃ps:Array ag,h.get? a=some { cls:=.none,data:=.fields ps }/\TabOk H q ps
 | .met f x=>h.get? a=some (my (.ref f) (.ref x))
 | .ext L=>L h/\(∃o,h.get? a=some o)/\∀h1 R:a9,L h1->(∀o,h1.get? a=some o->R.get? a=some o)->L R
def HOk(H:Hp)(h:a9):Prop:=∀a o,H a=some o->JC P w H h a o
end
section
variable{P:aL}{w:aZ}{H H':Hp}{h h':a9}{a:aj}{o:HO}
theorem JC.lt(x:JC P w H h a o):a<h.objs.size:=by
 cases o with
 | lst xs=>obtain⟨_,_,_,_,e⟩:=x;exact ax e
 | tup xs=>obtain⟨_,_,_,p⟩:=x;exact p.lt
 | dK l=>obtain⟨_,_,_,_,o,_,_,e,_⟩:=x;exact ax e
 | dT l=>obtain⟨_,_,_,_,o,_,_,e,_⟩:=x;exact ax e
 | set S n=>obtain⟨o,_,_,_,e,_⟩:=x;exact ax e
 | ins C I fs=>obtain⟨_,_,_,e,_⟩:=x;exact ax e
 | own y=>obtain⟨_,e⟩:=x;exact ax e
 | xd fs=>obtain⟨_,⟨_,_,_,e,_⟩,_⟩:=x;exact ax e
 | rng lo hi=>obtain⟨_,_,_,e⟩:=x;exact ax e
 | frz G u=>obtain⟨e,_⟩:=x;exact ax e
 | tbl q=>obtain⟨_,e,_⟩:=x;exact ax e
 | met f y=>exact ax (show h.get? a=some _ from x)
 | ext v=>obtain⟨_,⟨_,e⟩,_⟩:=x;exact ax e
theorem Paired.mapP{α x:Type}{F G:α->x->Prop}{v:List α}{u:List x}(h:bL F v u)(f:∀a b,F a b->G a b):bL G v u:=by
 induction h with
 | nil=>exact .nil
 | cons r _ y=>exact .cons (f _ _ r) y
theorem JC.stay(x:JC P w H h a o)(k:∀b u,(b=a\/H b=some (.own a))->h.get? b=some u->h'.get? b=some u)
  (U:∀b,H b=some (.own a)->H' b=some (.own a)) (ht:∀b xs,H b=some (.tup xs)->H' b=some (.tup xs)) (hf:∀b G u,H b=some (.frz G u)->H' b=some (.frz G u)):JC P w H' h' a o:=by
 induction o with
 | lst xs=>obtain⟨z,its,n,r,e⟩:=x;exact⟨z,its,n,r,k _ _ (.inl rfl) e⟩
 | tup xs=>obtain⟨z,its,r,G,e,c⟩:=x;exact⟨z,its,r,G,k _ _ (.inl rfl) e,c⟩
 | dK I=>obtain⟨z,y,vs,r,G,es,ep,e,c⟩:=x;exact⟨z,y,vs,r,G,es,ep,k _ _ (.inl rfl) e,c⟩
 | dT I =>obtain⟨z,y,xs,r,G,es,ep,e,c⟩:=x;exact⟨z,y,xs,Paired.mapP r fun p q z=>⟨z.1,ht _ _ z.2.1,z.2.2⟩,G,es,ep,k _ _ (.inl rfl) e,c⟩
 | set S n=>obtain⟨G,es,ep,t,e,c⟩:=x;exact⟨G,es,ep,t,k _ _ (.inl rfl) e,c⟩
 | ins C dx fs =>obtain⟨d,z,ne,e,J,⟨N,es,ep,L,c⟩,r⟩:=x;exact⟨U _ d,z,ne,k _ _ (.inl rfl) e,J,⟨N,es,ep,k _ _ (.inr d) L,c⟩,r⟩
 | own y=>obtain⟨G,e⟩:=x;exact⟨G,k _ _ (.inl rfl) e⟩
 | xd fs=>obtain⟨J,⟨N,es,ep,e,c⟩,r⟩:=x;exact⟨J,⟨N,es,ep,k _ _ (.inl rfl) e,c⟩,r⟩
 | rng lo hi=>obtain⟨t,u,v,e⟩:=x;exact⟨t,u,v,k _ _ (.inl rfl) e⟩
 | frz G u Y=>obtain⟨e,q⟩:=x;exact⟨k _ _ (.inl rfl) e,Y q⟩
 | tbl q =>obtain⟨ps,e,z,r⟩:=x;refine⟨ps,k a _ (.inl rfl) e,z,fun pos cv m=>?_⟩;obtain⟨c,o,u,vs,t,R,L,Z⟩:=r pos cv m;exact⟨c,o,u,vs,t,R,hf _ _ _ L,Z⟩
 | met f y =>have e:h.get? a=some (my (.ref f) (.ref y)):=x;show h'.get? a=some (my (.ref f) (.ref y));exact k a _ (.inl rfl) e
 | ext φ=>obtain⟨p,⟨o,e⟩,st⟩:=x;exact⟨st _ _ p fun o q=>k _ _ (.inl rfl) q,⟨o,k _ _ (.inl rfl) e⟩,st⟩
theorem HOk.lt(x:HOk P w H h)(e:H a=some o):a<h.objs.size:=(x a o e).lt
theorem HOk.fresh(x:HOk P w H h)(e:h.objs.size<=a):H a=none:=by
 cases q:H a with
 | none=>rfl
 | some u=>exact absurd (aM (x.lt q) e) (fK _)
theorem HOk.kept(x:HOk P w H h)(k:∀b u,h.get? b=some u->h'.get? b=some u):HOk P w H h':=fun a o e =>
 (x a o e).stay (fun b u _ q=>k b u q) (fun _ q=>q) (fun _ _ q=>q) fun _ _ _ q=>q
theorem HOk.laid(x:HOk P w H h)(k:∀b u,h.get? b=some u->h'.get? b=some u)(C:h.objs.size<=a)(new:JC P w (upd H a o) h' a o):HOk P w (upd H a o) h':=fun b u e=>by have l:=x.fresh C;by_cases hb:b=a;subst hb;rw[JE]at e;cases e;exact new;rw[Jh hb]at e;exact(x b u e).stay (fun c v _ q=>k c v q) (fun c q=>by rw[Jh (Qp q l)];exact q) (fun c xs q=>by rw[Jh (Qp q l)];exact q) fun c G xs q=>by rw[Jh (Qp q l)];exact q
end
def Rd(H:Hp)(a:aj)(u:HO):Prop:=H a=some u\/∃o,H a=some (.frz o u)
theorem Rd.ok{P:aL}{w:aZ}{H:Hp}{h:a9}{a:aj}{u:HO}(r:Rd H a u)(x:HOk P w H h):JC P w H h a u:=by rcases r with r|⟨o,r⟩;exact x a u r;obtain⟨_,q⟩:=x a _ r;exact q
def Mut:Option HO->Prop
 | some (.lst _)=>True
 | some (.dK _)=>True
 | some (.dT _)=>True
 | some (.set _ _)=>True
 | some (.ins _ _ _)=>True
 | some (.ext _)=>True
 | _=>False
section
variable{P:aL}{w:aZ}{H:Hp}{h h':a9}{x e:aj}{o':HO}
theorem HOk.write(ok:HOk P w H h)(l:Mut (H x))(he:e=x\/H e=some (.own x))(k:∀b u,b≠e->h.get? b=some u->h'.get? b=some u)(J:∃u,h'.get? e=some u)
  (new:JC P w (upd H x o') h' x o'):HOk P w (upd H x o') h':=fun b u q=>by
 have L:∀c y,H c=some (.own y)->c≠x:=fun c y r z=>by subst z;rw[r]at l;exact l
 have G:∀c xs,H c=some (.tup xs)->c≠x:=fun c xs r z=>by subst z;rw[r]at l;exact l
 have C:∀c I xs,H c=some (.frz I xs)->c≠x:=fun c I xs r z=>by subst z;rw[r]at l;exact l
 by_cases hb:b=x;subst hb;rw[JE]at q;cases q;exact new;rw[Jh hb]at q;by_cases hbe:b=e;have N:H b=some (.own x):=by rcases he with z|z;exact absurd (hbe.trans z) hb;rw[hbe];exact z
 rw[q]at N;cases N;obtain⟨v,R⟩:=J;exact⟨v,by rw[hbe];exact R⟩;refine(ok b u q).stay (fun c v hc r=>k c v ?_ r) (fun c r=>by rw[Jh (L c b r)];exact r) (fun c xs r=>by rw[Jh (G c xs r)];exact r) fun c I xs r=>by rw[Jh (C c I xs r)];exact r
 rcases hc with rfl|hc;exact hbe;rintro rfl;rcases he with z|z;exact L c b hc z;rw[hc]at z;cases z;exact hb rfl
end
structure Un(fs ex:List aj)(H H':Hp)(h h':a9):Prop where
 keep:∀b o,h.get? b=some o->H b=none->b∉fs->b∉ex->h'.get? b=some o
 slot:∀b o,h.get? b=some o->H b=none->b∈fs->b∉ex->∃sl,h'.get? b=some { o with slots:=sl }
 free:∀b o,h.get? b=some o->H b=none->b∉ex->H' b=none
 there:∀b o,h.get? b=some o->b∉ex->∃o',h'.get? b=some o'
 tups:∀b xs,H b=some (.tup xs)->H' b=some (.tup xs)
 frzs:∀b o u,H b=some (.frz o u)->H' b=some (.frz o u)
 tbls:∀b q,H b=some (.tbl q)->H' b=some (.tbl q)
section
variable{fs fs' ex ex':List aj}{H H1 H2:Hp}{h h1 h2 h':a9}{a x e:aj}{o:HO}
theorem Un.any(u:Un fs ex H H1 h h1){b:aj}{l:Obj}(q:h.get? b=some l)(n:H b=none)(hx:b∉ex):∃v,h1.get? b=some { l with slots:=v }:=by by_cases hb:b∈fs;exact u.slot b l q n hb hx;exact⟨l.slots,u.keep b l q n hb hx⟩
theorem Un.kept(k:∀b u,h.get? b=some u->h'.get? b=some u):Un fs ex H H h h' :=
 ⟨fun b l q _ _ _=>k b l q,fun b l q _ _ _=>⟨l.slots,k b l q⟩,fun _ _ _ n _=>n,fun b l q _=>⟨l,k b l q⟩,fun _ _ q=>q,fun _ _ _ q=>q,fun _ _ q=>q⟩
theorem Un.refl:Un fs ex H H h h:=Un.kept fun _ _ q=>q
theorem Un.laid(k:∀b u,h.get? b=some u->h'.get? b=some u)(v:h.objs.size<=a)(l:H a=none):Un fs ex H (upd H a o) h h' where
 keep:=fun b u q _ _ _=>k b u q
 slot:=fun b u q _ _ _=>⟨u.slots,k b u q⟩
 free:=fun b u q n _=>by rw[Jh (aD (aM (ax q) v))];exact n
 there:=fun b u q _=>⟨u,k b u q⟩
 tups:=fun b xs q=>by rw[Jh (Qp q l)];exact q
 frzs:=fun b u xs q=>by rw[Jh (Qp q l)];exact q
 tbls:=fun b ps q=>by rw[Jh (Qp q l)];exact q
theorem Un.write(l:Mut (H x))(he:e=x\/H e=some (.own x))(k:∀b u,b≠e->h.get? b=some u->h'.get? b=some u)(y:∃u,h'.get? e=some u):Un fs ex H (upd H x o) h h':=by
 have hx:∀b,H b=none->b≠x:=fun b n z=>by subst z;rw[n]at l;exact l
 have C:∀b,H b=none->b≠e:=fun b n z=>by subst z;rcases he with r|r;exact hx b n r;rw[n]at r;cases r
 have v:∀b u,H b=some u->¬Mut (some u)->b≠x:=fun b u q nm z=>by subst z;rw[q]at l;exact nm l
 refine⟨fun b u q n _ _=>k b u (C b n) q,fun b u q n _ _=>⟨u.slots,k b u (C b n) q⟩,fun b u q n _=>by rw[Jh (hx b n)];exact n,fun b u q _=>?_,
  fun b xs q=>by rw[Jh (v b _ q fun z=>z)];exact q,fun b u xs q=>by rw[Jh (v b _ q fun z=>z)];exact q,fun b ps q=>by rw[Jh (v b _ q fun z=>z)];exact q⟩
 by_cases hbe:b=e;subst hbe;exact y;exact⟨u,k b u hbe q⟩
end
def trk(h:a9)(H:Hp):List aj:=(fZ h.objs.size).filter fun a=>(H a).isSome
def hidT(h:a9)(H:Hp):a9:=PySem.W.hideAll h (trk h H)
theorem zng(h:a9)(H:Hp):(hidT h H).objs.size=h.objs.size:=PySem.W.hideAll_size _ _
theorem zpk{h:a9}{H:Hp}{b:aj}{o:Obj}(e:h.get? b=some o)(n:H b=none):(hidT h H).get? b=some o :=
 PySem.W.hideAll_get _ e fun l=>by have q:(H b).isSome=true:=(gE.mp l).2;rw[n]at q;simp at q
theorem zrk{h:a9}{H:Hp}{b:aj}{o:Obj}(e:(hidT h H).get? b=some o):h.get? b=some o/\H b=none:=by
 have l:h.get? b=some o:=PySem.W.of_hideAll (trk h H) e;refine⟨l,?_⟩;cases q:H b with
 | none=>rfl
 | some x =>have u:b∈trk h H:=gE.mpr ⟨n8.mpr (ax l),by simp[q]⟩;have z:(hidT h H).get? b=none:=PySem.W.hideAll_none (trk h H) u;rw[z]at e;cases e
structure Mod(K:qF)(mg:qM)(base:a9):Prop where
 kin:K.In base
 glob:base.Ns mainGlobals mg
 blt:∃mb,base.Ns builtinsNs mb/\∀x:Str,x ≠ "__name__" -> mb x=bootBuiltins x
 nolimit:base.NoLimit
structure Cx where
 prog:aL
 w:aZ
 K:qF
 mg:Str->Option ag
 base:a9
 A:bg
 N:List Str
 s₀:aq
 H₀:Hp
 env:Env
 outer:List Env
 stack:List Env
 ex:List aj
 fn:Str->Bool
 calm:Bool
 pn:List (aj×Obj)
 xe:ag->aq->Prop
def frs(l:List Env):List aj:=l.filterMap (·.frame)
abbrev Cx.fs(X:Cx):List aj:=frs X.outer
def Vis(sc:fo)(x:Str):Prop:=sc.names.lookup x=some .local\/sc.names.lookup x=some .cell\/sc.names.lookup x=some .free
def Loc(sc:fo)(x:Str):Prop:=sc.names.lookup x=some .local\/sc.names.lookup x=some .cell
def Look(env:Env)(h:a9)(m:qM)(x:Str)(u:ag):Prop :=
 (env.kindOf x=some .local/\m x=some u)\/((env.kindOf x=some .cell\/env.kindOf x=some .free)/\∃c,env.cells.lookup x=some c/\h.IsCell c (some u))
structure Cx.Ok(X:Cx):Prop where
 mod:Mod X.K X.mg X.base
 kind:X.env.scope.kind=.function
 glob:X.env.globals=mainGlobals
 blt:X.env.builtins=builtinsNs
 above:X.s₀.heap.objs.size<=X.env.locals
 inj:∀x y c,X.env.cells.lookup x=some c->X.env.cells.lookup y=some c->x=y
 has:∀x,(X.env.kindOf x=some .cell\/X.env.kindOf x=some .free)->∃c,X.env.cells.lookup x=some c
 cab:∀x c,X.fn x=true->X.env.cells.lookup x=some c->X.s₀.heap.objs.size<=c
 hd:X.calm=true->X.A.handled=none
 frames:X.A.frames=some X.stack
 stk:X.stack=X.outer\/(X.stack=X.env::X.outer/\X.env.frame=some X.env.locals)
 exf:∀b∈X.ex,b≠X.env.locals/\∀x c,X.env.cells.lookup x=some c->c≠b
 bs:∀b o,X.base.get? b=some o->X.s₀.heap.get? b=some o/\X.H₀ b=none
 bsz:X.base.objs.size<=X.s₀.heap.objs.size
 noex:∀b o,X.base.get? b=some o->b∉X.ex
 exfs:∀b∈X.ex,b∉X.fs
 funs:X.s₀.heap.FunFrames X.base X.outer
 frf:∀b∈X.fs,X.H₀ b=none
structure Inv(X:Cx)(pins:qO)(σ:List (Option V))(H:Hp)(s:aq):Prop where
 ok:X.Ok
 os:s.os=X.s₀.os
 bare:ly s.gens
 base:Un X.fs X.ex X.H₀ H X.s₀.heap s.heap
 loc:∃m,s.heap.Ns X.env.locals m/\∀(i:Nat) (x:Str) (v:V),X.N[i]?=some x->σ[i]?=some (some v)->Vis X.env.scope x->∃u,RelV v u/\Look X.env s.heap m x u
 cell:∀x c,X.env.cells.lookup x=some c->∃v,s.heap.IsCell c v
 free:H X.env.locals=none
 freeC:∀x c,X.env.cells.lookup x=some c->H c=none
 pin:∀p∈X.pn++pins,s.heap.get? p.1=some p.2/\H p.1=none/\p.1≠X.env.locals/\p.1∉X.fs/\∀v,p.2.data≠.cell v
 hok:HOk X.prog X.w H s.heap
 len:σ.length=X.N.length
section
variable{X:Cx}{pins:qO}{σ:List (Option V)}{H H':Hp}{s:aq}{h':a9}
theorem Cx.Ok.nofr(ok:X.Ok){b:aj}{o:Obj}(e:X.base.get? b=some o):b∉X.fs:=fun l=>by have:=(ok.funs.mem l).1;rw[e]at this;cases this
theorem Inv.bs(I:Inv X pins σ H s):∀b o,X.base.get? b=some o->s.heap.get? b=some o/\H b=none:=fun b o e =>
 ⟨I.base.keep b o (I.ok.bs b o e).1 (I.ok.bs b o e).2 (I.ok.nofr e) (I.ok.noex b o e),I.base.free b o (I.ok.bs b o e).1 (I.ok.bs b o e).2 (I.ok.noex b o e)⟩
theorem Inv.bk(I:Inv X pins σ H s):∀b o,X.base.get? b=some o->s.heap.get? b=some o:=fun b o e=>(I.bs b o e).1
theorem Inv.mod(I:Inv X pins σ H s):Mod X.K X.mg X.base:=I.ok.mod
theorem Inv.kIn(I:Inv X pins σ H s):X.K.In s.heap:=I.ok.mod.kin.keeps I.bk
theorem Inv.lt(I:Inv X pins σ H s):X.env.locals<s.heap.objs.size:=let ⟨_,hn,_⟩:=I.loc;hn.lt
theorem Inv.sz(I:Inv X pins σ H s):X.s₀.heap.objs.size<=s.heap.objs.size:=b7 I.ok.above (fh I.lt)
theorem Inv.nofs(I:Inv X pins σ H s){a:aj}(h:s.heap.objs.size<=a):a∉X.fs:=fun l=>by obtain⟨_,o,u,_⟩:=I.ok.funs.mem l;exact absurd (aM (ax u) (b7 I.sz h)) (fK _)
theorem Inv.cne(I:Inv X pins σ H s):∀x c,X.env.cells.lookup x=some c->c≠X.env.locals:=fun x c e z=>by obtain⟨v,o,y,hd⟩:=I.cell x c e;obtain⟨m,⟨C,es,ep,l,u,_⟩,_⟩:=I.loc;rw[z,l]at y;cases y;rw[u]at hd;cases hd
theorem Inv.funs(I:Inv X pins σ H s):s.heap.FunFrames X.base X.outer:=by
 have all:∀(l:List Env),(∀b∈frs l,b∈X.fs)->X.s₀.heap.FunFrames X.base l->s.heap.FunFrames X.base l:=by
  intro l;induction l with
  | nil=>intro _ _;trivial
  | cons env r N =>intro x R;obtain⟨G,⟨L,o,hf,C,y,hd⟩,J⟩:=R;have v:L∈X.fs:=x L (by unfold frs;rw[cV,hf];exact dI);obtain⟨S,e⟩:=I.base.slot L o y (I.ok.frf L v) v fun z=>I.ok.exfs L z v;exact⟨G,⟨L,_,hf,C,e,hd⟩,N (fun b u=>x b (by unfold frs;rw[cV,hf];exact cw _ u)) J⟩
 exact all X.outer (fun _ u=>u) I.ok.funs
theorem Inv.stack(I:Inv X pins σ H s):s.heap.FunFrames X.base X.stack:=by rcases I.ok.stk with e|⟨e,hf⟩;rw[e];exact I.funs;rw[e];obtain⟨m,l,_⟩:=I.loc;refine .cons (by rw[I.ok.kind];decide) hf l ?_ I.funs;exact Heap.get?_none_of_le (b7 I.ok.bsz I.ok.above)
theorem Inv.stkSub(I:Inv X pins σ H s):∀b∈frs X.stack,b∈X.env.locals::X.fs:=fun b l=>by rcases I.ok.stk with e|⟨e,hf⟩;rw[e]at l;exact cw _ l;rw[e]at l;unfold frs at l;rw[cV,hf]at l;exact l
theorem Inv.stkFree(I:Inv X pins σ H s):∀b∈frs X.stack,H b=none:=fun b l=>by rcases ay.mp (I.stkSub b l) with e|l;rw[e];exact I.free;obtain⟨_,o,u,_⟩:=I.ok.funs.mem l;exact I.base.free b o u (I.ok.frf b l) fun z=>I.ok.exfs b z l
theorem Inv.step{g':Array GenState}{t':Nat}{d':Drawn}{ch:List aj}(I:Inv X pins σ H s)
  (C:∀b∈ch,(b∈X.ex\/X.s₀.heap.objs.size<=b)/\b≠X.env.locals/\(∀x c,X.env.cells.lookup x=some c->c≠b)/\∀p∈X.pn++pins,p.1≠b)
  (keep:∀b o,b≠X.env.locals->b∉X.fs->b∉ch->s.heap.get? b=some o->H b=none->h'.get? b=some o)
  (slot:∀b o,b≠X.env.locals->b∈X.fs->b∉ch->s.heap.get? b=some o->H b=none->∃Y,h'.get? b=some { o with slots:=Y }) (free:∀b o,b∉ch->s.heap.get? b=some o->H b=none->H' b=none)
  (there:∀b o,b∉ch->s.heap.get? b=some o->∃S,h'.get? b=some S)
  (tups:∀b xs,H b=some (.tup xs)->H' b=some (.tup xs)) (frzs:∀b o u,H b=some (.frz o u)->H' b=some (.frz o u)) (tbls:∀b q,H b=some (.tbl q)->H' b=some (.tbl q))
  (ns:∀m,s.heap.Ns X.env.locals m->h'.Ns X.env.locals m) (hok:HOk X.prog X.w H' h') (hg:ly g') :
  Inv X pins σ H' { s with heap:=h',gens:=g',drawn:=d',toks:=t' }:=by
 have R:∀b o,X.s₀.heap.get? b=some o->b≠X.env.locals:=fun b o e=>aD (aM (ax e) I.ok.above);have G:∀b o,X.s₀.heap.get? b=some o->b∉X.ex->b∉ch:=fun b o e hx L=>by rcases(C b L).1 with z|z;exact hx z;exact absurd (aM (ax e) z) (fK _)
 have cellK:∀x c,X.env.cells.lookup x=some c->∀v,s.heap.IsCell c v->h'.IsCell c v:=fun x c e v ⟨o,N,hd⟩=>by have y:c∉ch:=fun z=>(C c z).2.2.1 x c e rfl;by_cases hc:c∈X.fs;obtain⟨Y,q⟩:=slot c o (I.cne x c e) hc y N (I.freeC x c e);exact⟨_,q,hd⟩;exact⟨o,keep c o (I.cne x c e) hc y N (I.freeC x c e),hd⟩
 refine⟨I.ok,I.os,hg,⟨fun b o e n L hx=>?_,fun b o e n L hx=>?_,fun b o e n hx=>?_,fun b o e hx=>?_,fun b xs e=>tups b xs (I.base.tups b xs e),fun b o xs e=>frzs b o xs (I.base.frzs b o xs e),fun b ps e=>?_⟩,?_,fun x c e=>?_,?_,fun x c e=>?_,fun p hp=>?_,hok,I.len⟩;exact keep b o (R b o e) L (G b o e hx) (I.base.keep b o e n L hx) (I.base.free b o e n hx);obtain⟨Y,J⟩:=I.base.slot b o e n L hx;obtain⟨Z,U⟩:=slot b _ (R b o e) L (G b o e hx) J (I.base.free b o e n hx);exact⟨Z,U⟩;obtain⟨S,J⟩:=I.base.there b o e hx;exact free b S (G b o e hx) J (I.base.free b o e n hx);obtain⟨S,J⟩:=I.base.there b o e hx;exact there b S (G b o e hx) J;exact tbls b ps (I.base.tbls b ps e);obtain⟨m,hn,hl⟩:=I.loc;refine⟨m,ns m hn,fun i x v J U e3=>?_⟩;obtain⟨u,r,l⟩:=hl i x v J U e3;refine⟨u,r,?_⟩;rcases l with l|⟨k,c,e,z⟩;exact .inl l;exact .inr ⟨k,c,e,cellK x c e _ z⟩;obtain⟨v,z⟩:=I.cell x c e;exact⟨v,cellK x c e v z⟩;obtain⟨m,⟨o,_,_,N,_⟩,_⟩:=I.loc;exact free _ o (fun z=>(C _ z).2.1 rfl) N I.free;obtain⟨v,o,N,hd⟩:=I.cell x c e;exact free c o (fun z=>(C c z).2.2.1 x c e rfl) N (I.freeC x c e);obtain⟨e,n,ne,nf,d⟩:=I.pin p hp;have y:p.1∉ch:=fun z=>(C p.1 z).2.2.2 p hp rfl;exact⟨keep p.1 p.2 ne nf y e n,free p.1 p.2 y e n,ne,nf,d⟩
theorem Inv.un{t':Nat}(I:Inv X pins σ H s)(u:Un X.fs [] H H' s.heap h')(hok:HOk X.prog X.w H' h'):Inv X pins σ H' { s with heap:=h',toks:=t' }:=by obtain⟨m,⟨o,es,ep,C,r⟩,_⟩:=id I.loc;obtain⟨S,G⟩:=u.any C I.free (by simp);exact I.step (g':=s.gens) (d':=s.drawn) (ch:=[]) (fun _ z=>nomatch z) (fun b o _ v _ e n=>u.keep b o e n v (by simp)) (fun b o _ v _ e n=>u.slot b o e n v (by simp)) (fun b o _ e n=>u.free b o e n (by simp)) (fun b o _ e=>u.there b o e (by simp)) u.tups u.frzs u.tbls (fun N L=>by obtain⟨R,y,x,l,J⟩:=L;rw[C]at l;cases l;exact⟨_,y,x,G,J⟩) hok I.bare
theorem Inv.call{g':Array GenState}{t':Nat}{d':Drawn}{ch:List aj}(I:Inv X pins σ H s)(u:Un (frs X.stack) ch H H' s.heap h')(hok:HOk X.prog X.w H' h')(S:ly g')
  (y:∀b∈ch,(b∈X.ex\/X.s₀.heap.objs.size<=b)/\b≠X.env.locals/\(∀x c,X.env.cells.lookup x=some c->c≠b)/\∀p∈X.pn++pins,p.1≠b) :
  Inv X pins σ H' { s with heap:=h',gens:=g',drawn:=d',toks:=t' }:=by
 obtain⟨m,⟨o,es,ep,L,r⟩,_⟩:=id I.loc;obtain⟨sl,C⟩:=u.any L I.free fun z=>(y _ z).2.1 rfl;exact I.step (ch:=ch) y (fun b o C N hc e n=>u.keep b o e n (fun z=>(ay.mp (I.stkSub b z)).elim C N) hc) (fun b o _ _ hc e n=>u.any e n hc) (fun b o hc e n=>u.free b o e n hc) (fun b o hc e=>u.there b o e hc) u.tups u.frzs u.tbls (fun Y U=>by obtain⟨Z,J,G,v,R⟩:=U;rw[L]at v;cases v;exact⟨_,J,G,C,R⟩) hok S
theorem Inv.turned{t':Nat}{it:aj}(I:Inv X pins σ H s)(k:∀b o,b≠it->s.heap.get? b=some o->h'.get? b=some o)(L:H it=none)(C:it≠X.env.locals)
  (h1:it∈X.ex\/X.s₀.heap.objs.size<=it) (N:∀x c,X.env.cells.lookup x=some c->c≠it) (S:∀p∈X.pn++pins,p.1≠it):Inv X pins σ H { s with heap:=h',toks:=t' }:=by
 have l:∀b u,H b=some u->b≠it:=fun b u e z=>by rw[z,L]at e;cases e
 refine I.step (g':=s.gens) (d':=s.drawn) (ch:=[it]) (fun b G=>?_) (fun b o _ _ hc e _=>k b o (fun z=>hc (by simp[z])) e) (fun b o _ _ hc e _=>⟨o.slots,k b o (fun z=>hc (by simp[z])) e⟩) (fun _ _ _ _ n=>n)
  (fun b o hc e=>⟨o,k b o (fun z=>hc (by simp[z])) e⟩) (fun _ _ e=>e) (fun _ _ _ e=>e) (fun _ _ e=>e) (fun m R=>?_) (fun b u e=>?_) I.bare
 have e:b=it:=by simpa using G
 subst e;exact⟨h1,C,N,S⟩;obtain⟨o,es,ep,J,r⟩:=R;exact⟨o,es,ep,k _ o (dD C) J,r⟩;refine(I.hok b u e).stay (fun c v hc q=>k c v ?_ q) (fun _ q=>q) (fun _ _ q=>q) fun _ _ _ q=>q;rcases hc with z|z;rw[z];exact l b u e;exact l c _ z
theorem Inv.tok(I:Inv X pins σ H s)(t:Nat):Inv X pins σ H { s with toks:=t }:=I.un (h':=s.heap) (t':=t) Un.refl I.hok
theorem Inv.kept{t':Nat}(I:Inv X pins σ H s)(k:∀b u,s.heap.get? b=some u->h'.get? b=some u):Inv X pins σ H { s with heap:=h',toks:=t' }:=I.un (Un.kept k) (I.hok.kept k)
theorem Inv.laid{a:aj}{o:HO}{t':Nat}(I:Inv X pins σ H s)(k:∀b u,s.heap.get? b=some u->h'.get? b=some u)(l:s.heap.objs.size<=a)(new:JC X.prog X.w (upd H a o) h' a o) :
  Inv X pins σ (upd H a o) { s with heap:=h',toks:=t' }:=I.un (Un.laid k l (I.hok.fresh l)) (I.hok.laid k l new)
theorem Inv.write{x e:aj}{o:HO}{t':Nat}(I:Inv X pins σ H s)(v:Mut (H x))(he:e=x\/H e=some (.own x))(k:∀b u,b≠e->s.heap.get? b=some u->h'.get? b=some u)(l:∃u,h'.get? e=some u)
  (new:JC X.prog X.w (upd H x o) h' x o):Inv X pins σ (upd H x o) { s with heap:=h',toks:=t' }:=I.un (Un.write v he k l) (I.hok.write v he k l new)
theorem Inv.weak{σ':List (Option V)}(I:Inv X pins σ H s)(u:σ'.length=σ.length)(w:∀(i:Nat) v,σ'[i]?=some (some v)->σ[i]?=some (some v)):Inv X pins σ' H s :=
 ⟨I.ok,I.os,I.bare,I.base,let ⟨m,hn,hl'⟩:=I.loc;⟨m,hn,fun i x v l y o=>hl' i x v l (w i v y) o⟩,I.cell,I.free,I.freeC,I.pin,I.hok,u.trans I.len⟩
theorem Inv.pins_of{o:qO}(I:Inv X pins σ H s)(h:∀p∈o,s.heap.get? p.1=some p.2/\H p.1=none/\p.1≠X.env.locals/\p.1∉X.fs/\∀v,p.2.data≠.cell v):Inv X o σ H s :=
 ⟨I.ok,I.os,I.bare,I.base,I.loc,I.cell,I.free,I.freeC,fun p u=>(aW.mp u).elim (fun z=>I.pin p (n9 _ z)) (h p),I.hok,I.len⟩
theorem zj4{N:List Str}(u:N.Nodup){i j:Nat}{x:Str}(a:N[i]?=some x)(b:N[j]?=some x):i=j:=by obtain⟨h1,l⟩:=av.mp a;obtain⟨v,o⟩:=av.mp b;exact(List.getElem_inj u).mp (l.trans o.symm)
theorem zhu{M:xx}{A:bg}{E:qV}{i:Nat}{x:Str}{v:V}{u:ag}{Q:Unit->aq->Prop}(I:Inv X pins σ H s)(hN:X.N.Nodup)(hi:X.N[i]?=some x)(hx:Loc X.env.scope x)(r:RelV v u)
  (h:∀s',Inv X pins (σ.set i (some v)) H s'->(∃a,cH a s.heap s'.heap/\(a=X.env.locals\/X.env.cells.lookup x=some a))->Q () s') (hf:X.fn x=true\/X.env.scope.names.lookup x=some .local:=by walk_at "F"):wpAny M A (storeName X.env x u) Q E s:=by
 obtain⟨m,hn,hl⟩:=id I.loc;have Z:(X.env.scope.kind == .class||(X.env.scope.kind == .module&&X.env.locals != X.env.globals))=false:=by rw[I.ok.kind];rfl
 have L:i<σ.length:=by rw[I.len];exact(av.mp hi).1
 have cne:=I.cne;have tracked:∀{a:aj} {h':a9},(∃o,s.heap.get? a=some o/\H a=none)->cH a s.heap h'->HOk X.prog X.w H h':=fun {a h'} ha C b ob e=>by obtain⟨_,_,Mg⟩:=ha;refine(I.hok b ob e).stay (fun c w' hc q=>(C.2 c ?_).trans q) (fun _ q=>q) (fun _ _ q=>q) fun _ _ _ q=>q;rintro rfl;rcases hc with rfl|hc;rw[Mg]at e;cases e;rw[Mg]at hc;cases hc
 rcases hx with hk|hk;refine wpAny_storeName_local hk hn (fun h' hn' C=>?_) Z;obtain⟨oL,_,_,hoL,_⟩:=id hn;refine h _ ⟨I.ok,I.os,I.bare,⟨fun b o e n R hx=>?_,fun b o e n R hx=>?_,I.base.free,fun b o e hx=>?_,I.base.tups,I.base.frzs,I.base.tbls⟩,⟨_,hn',fun j y v' G J e3=>?_⟩,fun y c e=>?_,I.free,I.freeC,fun p hp=>?_,tracked ⟨oL,hoL,I.free⟩ C,by simpa using I.len⟩ ⟨_,C,.inl rfl⟩;exact(C.2 b (aD (aM (ax e) I.ok.above))).trans (I.base.keep b o e n R hx);obtain⟨sl,G⟩:=I.base.slot b o e n R hx;exact⟨sl,(C.2 b (aD (aM (ax e) I.ok.above))).trans G⟩;obtain⟨o',G⟩:=I.base.there b o e hx;exact⟨o',(C.2 b (aD (aM (ax e) I.ok.above))).trans G⟩;by_cases hj:j=i;subst hj;rw[hi]at G;cases G;rw[iQ L]at J;cases J;exact⟨u,r,.inl ⟨hk,by simp⟩⟩;rw[dJ (dD hj)]at J;obtain⟨u',r',q⟩:=hl j y v' G J e3;refine⟨u',r',?_⟩;rcases q with⟨k,e⟩|⟨k,c,e,z⟩;refine .inl ⟨k,?_⟩;have:y≠x:=fun e=>hj (zj4 hN G (e▸hi));simp[this,e];exact .inr ⟨k,c,e,z.sameBut C (cne y c e)⟩;obtain⟨w',z⟩:=I.cell y c e;exact⟨w',z.sameBut C (cne y c e)⟩;obtain⟨e,n,ne,nf,d⟩:=I.pin p hp;exact⟨(C.2 p.1 ne).trans e,n,ne,nf,d⟩;have N:X.fn x=true:=by rcases hf with z|z;exact z;rw[z]at hk;cases hk
 obtain⟨c,hc⟩:=I.ok.has x (.inl hk);obtain⟨w',z⟩:=I.cell x c hc;refine wpAny_storeName_cell I.ok.kind hk hc z (fun h' U C=>?_);obtain⟨oc,S,Y⟩:=id z;refine h { s with heap:=h' } ⟨I.ok,I.os,I.bare,⟨fun b o e n R hx=>?_,fun b o e n R hx=>?_,I.base.free,fun b o e hx=>?_,I.base.tups,I.base.frzs,I.base.tbls⟩,⟨m,hn.sameBut C (dD (cne x c hc)),fun j y v' G J e3=>?_⟩,fun y c' e=>?_,I.free,I.freeC,fun p hp=>?_,tracked ⟨oc,S,I.freeC x c hc⟩ C,by simpa using I.len⟩ ⟨c,C,.inr hc⟩;exact(C.2 b (aD (aM (ax e) (I.ok.cab x c N hc)))).trans (I.base.keep b o e n R hx);obtain⟨sl,G⟩:=I.base.slot b o e n R hx;exact⟨sl,(C.2 b (aD (aM (ax e) (I.ok.cab x c N hc)))).trans G⟩;obtain⟨o',G⟩:=I.base.there b o e hx;exact⟨o',(C.2 b (aD (aM (ax e) (I.ok.cab x c N hc)))).trans G⟩;by_cases hj:j=i;subst hj;rw[hi]at G;cases G;rw[iQ L]at J;cases J;exact⟨u,r,.inr ⟨.inl hk,c,hc,U⟩⟩;rw[dJ (dD hj)]at J;obtain⟨u',r',q⟩:=hl j y v' G J e3;refine⟨u',r',?_⟩;rcases q with q|⟨k,c',e,z'⟩;exact .inl q;refine .inr ⟨k,c',e,z'.sameBut C ?_⟩;rintro rfl;exact hj (zj4 hN G (I.ok.inj _ _ _ e hc▸hi));by_cases hcc:c'=c;subst hcc;exact⟨_,U⟩;obtain⟨w2,z2⟩:=I.cell y c' e;exact⟨w2,z2.sameBut C hcc⟩;obtain⟨e,n,ne,nf,d⟩:=I.pin p hp;refine⟨(C.2 p.1 ?_).trans e,n,ne,nf,d⟩;intro q;rw[q,S]at e;have q':oc=p.2:=aE e;exact d w' (by rw[<- q'];exact Y)
theorem Z0{M:xx}{A:bg}{E:qV}{i:Nat}{x:Str}{v:V}{u:ag}{Q:Unit->aq->Prop}(I:Inv X pins σ H s)(C:X.N.Nodup)(hi:X.N[i]?=some x)(hx:Loc X.env.scope x)(r:RelV v u)
  (h:∀s',Inv X pins (σ.set i (some v)) H s'->Q () s') (hf:X.fn x=true\/X.env.scope.names.lookup x=some .local:=by walk_at "F"):wpAny M A (storeName X.env x u) Q E s :=
 zhu I C hi hx r (fun s' y _=>h s' y) hf
theorem Inv.call'{s':aq}{ch:List aj}(I:Inv X pins σ H s)(y:s'.os=s.os)(u:Un (frs X.stack) ch H H' s.heap s'.heap)(hok:HOk X.prog X.w H' s'.heap)(o:ly s'.gens)
  (l:∀b∈ch,(b∈X.ex\/X.s₀.heap.objs.size<=b)/\b≠X.env.locals/\(∀x c,X.env.cells.lookup x=some c->c≠b)/\∀p∈X.pn++pins,p.1≠b):Inv X pins σ H' s':=by
 obtain⟨h',g',d',t',v⟩:=s';have e:v=s.os:=y;subst e;exact I.call (g':=g') (t':=t') (d':=d') u hok o l
end
abbrev XK:=ag->Option aj->Hp->Prop
abbrev St:=List (Option V)
abbrev VK:=V->Hp->Prop
abbrev TE:=St->Hp->VK->Prop
abbrev TT:=St->Hp->(Bool->Hp->Prop)->Prop
abbrev TA:=St->Hp->(List V->Hp->Prop)->Prop
structure Ends where
 nx:St->Hp->Prop
 rt:VK
 bk:St->Hp->Prop:=fun _ _=>False
 ct:St->Hp->Prop:=fun _ _=>False
abbrev TS:=Ends->St->Hp->Prop
def EP(X:Cx)(pins:qO)(σ:St)(Q:VK)(u:ag)(s':aq):Prop:=∃v H',Inv X pins σ H' s'/\RelV v u/\Q v H'
def TP(X:Cx)(pins:qO)(σ:St)(Q:Bool->Hp->Prop)(b:Bool)(s':aq):Prop:=∃H',Inv X pins σ H' s'/\Q b H'
def AP(X:Cx)(pins:qO)(σ:St)(Q:List V->Hp->Prop)(l:List ag)(s':aq):Prop:=∃vs H',Inv X pins σ H' s'/\Vals vs l/\Q vs H'
def SP(X:Cx)(pins:qO)(D:Ends)(f:Flow)(s':aq):Prop :=
 match f with
 | .next=>∃σ' H',Inv X pins σ' H' s'/\D.nx σ' H'
 | .brk=>∃σ' H',Inv X pins σ' H' s'/\D.bk σ' H'
 | .cont=>∃σ' H',Inv X pins σ' H' s'/\D.ct σ' H'
 | .ret u=>∃v σ' H',Inv X pins σ' H' s'/\RelV v u/\D.rt v H'
def PE(X:Cx)(e:aY)(t:TE):Prop :=
 ∀(pins:qO) (s:aq) (σ:St) (H:Hp) (Q:VK),Inv X pins σ H s->t σ H Q->wpAny (model X.prog X.w) X.A (eval e X.env) (EP X pins σ Q) X.xe s
def PT(X:Cx)(e:aY)(t:TT):Prop :=
 ∀(pins:qO) (s:aq) (σ:St) (H:Hp) (Q:Bool->Hp->Prop),Inv X pins σ H s->t σ H Q->wpAny (model X.prog X.w) X.A (isTrue e X.env (eval e X.env)) (TP X pins σ Q) X.xe s
def PW(X:Cx)(e:aY)(t:TT):Prop :=
 ∀(whole:Sem ag) (pins:qO) (s:aq) (σ:St) (H:Hp) (Q:Bool->Hp->Prop),Inv X pins σ H s->t σ H Q->wpAny (model X.prog X.w) X.A (isTrue e X.env whole) (TP X pins σ Q) X.xe s
theorem PW.pt{X:Cx}{e:aY}{t:TT}(h:PW X e t):PT X e t:=h _
def PA(X:Cx)(es:List aY)(t:TA):Prop :=
 ∀(pos:Pos) (pins:qO) (s:aq) (σ:St) (H:Hp) (Q:List V->Hp->Prop),Inv X pins σ H s->t σ H Q->wpAny (model X.prog X.w) X.A (spliced (backTo pos (starEach es X.env))) (AP X pins σ Q) X.xe s
def PS(X:Cx)(st:fc)(t:TS):Prop :=
 ∀(pins:qO) (s:aq) (σ:St) (H:Hp) (D:Ends),Inv X pins σ H s->t D σ H->wpAny (model X.prog X.w) X.A (exec st X.env) (SP X pins D) X.xe s
def PSs(X:Cx)(st:List fc)(t:TS):Prop :=
 ∀(pins:qO) (s:aq) (σ:St) (H:Hp) (D:Ends),Inv X pins σ H s->t D σ H->wpAny (model X.prog X.w) X.A (execs st X.env) (SP X pins D) X.xe s
theorem thn{α:Type}{t:Sem α}{Q l:α->aq->Prop}{M:xx}{A:bg}{E:qV}{s:aq}(h:wpAny M A t Q E s)(o:∀a s,Q a s->l a s):wpAny M A t l E s:=cz h o fun _ _ x=>x
section
variable{X:Cx}
def tVar(i:Nat):TE:=fun σ H Q=>∃v,σ[i]?=some (some v)/\Q v H
def tC(v:V):TE:=fun _ H Q=>Q v H
theorem Qb{i:Nat}{x:Str}{pos:Pos}(L:X.N[i]?=some x)(G:Vis X.env.scope x)(hd:(x == ("__debug__":Str))=false:=by decide) (C:(x == ("__classdict__":Str))=false:=by decide):PE X (.Name x pos) (tVar i):=by intro pins s σ H Q I h;obtain⟨v,e,h⟩:=h;obtain⟨m,J,S⟩:=I.loc;obtain⟨u,r,l⟩:=S i x v L e G;have fin:EP X pins σ Q u s:=⟨v,H,I,r,h⟩;rcases l with⟨y,R⟩|⟨y,c,hc,o⟩;exact tI (og I.ok.kind y J R fin) hd;rcases y with y|y;exact tI (oQ I.ok.kind y hc o fin) hd;exact tI (wpAny_loadName_free I.ok.kind y hc o fin C) hd
theorem JB{i j pos}:PE X (.Constant (.int i) j pos) (tC (.int i)):=fun _ _ _ H _ I h=>wpAny_Constant_int ⟨.int i,H,I.tok _,⟨_,rfl⟩,h⟩
theorem zwU{b j pos}:PE X (.Constant (.bool b) j pos) (tC (.bl b)):=fun _ _ _ H _ I h=>Constant_bool ⟨.bl b,H,I,rfl,h⟩
theorem ztw{j pos}:PE X (.Constant .none j pos) (tC .non):=fun _ _ _ H _ I h=>Constant_none ⟨.non,H,I,rfl,h⟩
def Gl(X:Cx)(x:Str):Prop:=X.env.kindOf x=some .globalImplicit
theorem zrv{E:qV}{pins:qO}{s:aq}{σ:St}{H:Hp}{x:Str}{u:ag}{pos:Pos}{Q:qV}(I:Inv X pins σ H s)(l:Gl X x)(o:X.mg x=some u)(h:Q u s)
  (hd:(x == ("__debug__":Str))=false:=by decide):wpAny (model X.prog X.w) X.A (eval (.Name x pos) X.env) Q E s :=
 lJ I.ok.kind l (Calls.loadGlobal_global (by rw[I.ok.glob];exact I.mod.glob.keeps I.bk) o h) hd
theorem YJ{E:qV}{pins:qO}{s:aq}{σ:St}{H:Hp}{x:Str}{u:ag}{pos:Pos}{Q:qV}(I:Inv X pins σ H s)(y:Gl X x)(C:X.mg x=none)(l:bootBuiltins x=some u)(h:Q u s)
  (o:x ≠ "__name__":=by decide) (hd:(x == ("__debug__":Str))=false:=by decide):wpAny (model X.prog X.w) X.A (eval (.Name x pos) X.env) Q E s:=by
 obtain⟨G,h1,v⟩:=I.mod.blt;exact lJ I.ok.kind y (Calls.loadGlobal_builtin (by rw[I.ok.glob];exact I.mod.glob.keeps I.bk) C (by rw[I.ok.blt];exact h1.keeps I.bk) ((v x o).trans l) h) hd
theorem zra{x:Str}{v:V}{u:ag}{pos:Pos}(l:Gl X x)(o:X.mg x=none)(y:bootBuiltins x=some u)(r:RelV v u)(C:x ≠ "__name__":=by decide) (hd:(x == ("__debug__":Str))=false:=by decide):PE X (.Name x pos) (tC v) :=
 fun _ _ _ H _ I h=>YJ I l o y ⟨v,H,I,r,h⟩ C hd
variable{a b:aY}{ta tb:TE}{pos:Pos}
variable{tA tB':TT}{rest:List aY}
def tAnd(t u:TT):TT:=fun σ H Q=>t σ H fun c l=>if c=true then u σ l Q else Q false l
def tOr(t u:TT):TT:=fun σ H Q=>t σ H fun c l=>if c=true then Q true l else u σ l Q
def tNot(t:TT):TT:=fun σ H Q=>t σ H fun c l=>Q (!c) l
theorem zqP(u:PT X a tA):PW X (.BoolOp .And [a] pos) tA:=by
 intro v pins s σ H Q I h;refine isTrue_and (thn (u pins s σ H Q I h) fun c s1 e=>?_);cases c with
 | true=>exact isTrue_and_nil e
 | false=>exact e
theorem ztg(u:PT X a tA):PW X (.BoolOp .Or [a] pos) tA:=by
 intro v pins s σ H Q I h;refine isTrue_or (thn (u pins s σ H Q I h) fun c s1 e=>?_);cases c with
 | false=>exact isTrue_or_nil e
 | true=>exact e
theorem zth(G:PT X a tA)(y:PW X (.BoolOp .And (b::rest) pos) tB'):PW X (.BoolOp .And (a::b::rest) pos) (tAnd tA tB'):=by
 intro C pins s σ H Q I h;refine isTrue_and (thn (G pins s σ H _ I h) fun c s1 ⟨x,v,u⟩=>?_);cases c with
 | true=>exact y C pins s1 σ x Q v u
 | false=>exact⟨x,v,u⟩
theorem zwQ(G:PT X a tA)(y:PW X (.BoolOp .Or (b::rest) pos) tB'):PW X (.BoolOp .Or (a::b::rest) pos) (tOr tA tB'):=by
 intro C pins s σ H Q I h;refine isTrue_or (thn (G pins s σ H _ I h) fun c s1 ⟨x,v,u⟩=>?_);cases c with
 | true=>exact⟨x,v,u⟩
 | false=>exact y C pins s1 σ x Q v u
theorem ztj(l:PT X a tA):PT X (.UnaryOp .Not a pos) (tNot tA):=by intro pins s σ H Q I h;exact isTrue_not (l pins s σ H (fun c u=>Q (!c) u) I h)
def zwe(ta tb:TE):TE:=fun σ H Q=>ta σ H fun x o=>∃c,x=.bl c/\if c=true then tb σ o Q else Q (.bl false) o
def tOrV(ta tb:TE):TE:=fun σ H Q=>ta σ H fun x o=>∃c,x=.bl c/\if c=true then Q (.bl true) o else tb σ o Q
def zwb(ta:TE):TE:=fun σ H Q=>ta σ H fun x o=>∃c,x=.bl c/\Q (.bl (!c)) o
theorem ztu{op}{t:TE}(h:PE X a t):PE X (.BoolOp op [a] pos) t:=fun pins s σ H Q I hw=>BoolOp_one (h pins s σ H Q I hw)
theorem ztB(L:PE X a ta)(J:PE X (.BoolOp .And (b::rest) pos) tb):PE X (.BoolOp .And (a::b::rest) pos) (zwe ta tb):=by
 intro pins s σ H Q I h;refine BoolOp_and (thn (L pins s σ H _ I h) fun v s1 ⟨x,C,y,G,u⟩=>?_);obtain⟨c,rfl,u⟩:=u;cases G;refine cZ ?_;cases c with
 | true=>exact J pins s1 σ C Q y u
 | false=>exact⟨.bl false,C,y,rfl,u⟩
theorem zwT(L:PE X a ta)(J:PE X (.BoolOp .Or (b::rest) pos) tb):PE X (.BoolOp .Or (a::b::rest) pos) (tOrV ta tb):=by
 intro pins s σ H Q I h;refine BoolOp_or (thn (L pins s σ H _ I h) fun v s1 ⟨x,C,y,G,u⟩=>?_);obtain⟨c,rfl,u⟩:=u;cases G;refine cZ ?_;cases c with
 | false=>exact J pins s1 σ C Q y u
 | true=>exact⟨.bl true,C,y,rfl,u⟩
theorem ztv(G:PE X a ta):PE X (.UnaryOp .Not a pos) (zwb ta):=by intro pins s σ H Q I h;refine UnaryOp_ (thn (G pins s σ H _ I h) fun v s1 ⟨x,L,J,C,u⟩=>?_);obtain⟨c,rfl,u⟩:=u;cases C;exact not_of (cZ ⟨.bl (!c),L,J,rfl,u⟩)
def tIf(t:TT)(ta tb:TE):TE:=fun σ H Q=>t σ H fun c l=>if c=true then ta σ l Q else tb σ l Q
theorem zoU{c:aY}(hc:PT X c tA)(y:PE X a ta)(v:PE X b tb):PE X (.IfExp c a b pos) (tIf tA ta tb):=by
 intro pins s σ H Q I h;refine wpAny_IfExp (thn (hc pins s σ H _ I h) fun d s1 ⟨u,o,l⟩=>?_);cases d with
 | true=>exact y pins s1 σ u Q o l
 | false=>exact v pins s1 σ u Q o l
end
def SqL(K:qF)(H:Hp)(a:aj)(xs:List V):Prop :=
 Rd H a (.lst xs) \/
  ∃(o:Obj) (its:Array ag) (n:Nat),K.lookup a=some o/\o.cls=.type "list" /\ o.dict=none/\o.data=.seq its n/\its.size<=sizeLine/\Vals xs its.toList
def SqT(K:qF)(H:Hp)(a:aj)(xs:List V):Prop :=
 Rd H a (.tup xs) \/
  ∃(o:Obj) (its:Array ag) (n:Nat),K.lookup a=some o/\o.cls=.type "tuple" /\ o.data=.seq its n/\its.size<=sizeLine/\Vals xs its.toList
def absV:ag->Option V
 | .none=>some .non
 | .bool b=>some (.bl b)
 | .int i _=>some (.int i)
 | .str x _=>some (.str x)
 | .bytes b _=>some (.byt b)
 | .float b _=>some (.flt b)
 | .ref a=>some (.ref a)
 | .type n=>some (.ty n)
 | _=>none
theorem RelV.abs{x:V}{u:ag}(r:RelV x u):absV u=some x:=by
 cases x with
 | non=>cases r;rfl
 | bl _=>cases r;rfl
 | int _=>obtain⟨t,rfl⟩:=r;rfl
 | str _=>obtain⟨t,rfl⟩:=r;rfl
 | byt _=>obtain⟨t,rfl⟩:=r;rfl
 | flt _=>obtain⟨t,rfl⟩:=r;rfl
 | ref _=>cases r;rfl
 | ty _=>cases r;rfl
theorem RelV.inj{x y:V}{u:ag}(r:RelV x u)(q:RelV y u):x=y:=aE (r.abs.symm.trans q.abs)
theorem Vals.inj{xs ys:List V}{l:List ag}(h:Vals xs l)(k:Vals ys l):xs=ys:=by
 induction h generalizing ys with
 | nil=>cases k;rfl
 | cons r t u =>
  cases k with
  | cons o t'=>rw[r.inj o,u t']
section
variable{X:Cx}{pins:qO}{σ:St}{H:Hp}{s:aq}{a:aj}{xs ys:List V}
theorem SqL.of{K:qF}(h:H a=some (.lst xs)):SqL K H a xs:=.inl (.inl h)
theorem Inv.list(I:Inv X pins σ H s)(h:SqL X.K H a xs):∃its:List ag,Vals xs its/\PlainL s.heap a its.toArray/\xs.length<=sizeLine:=by rcases h with h|⟨o,its,n,l,hc,hd,u,hz,r⟩;obtain⟨z,its,n,r,e⟩:=h.ok I.hok;exact⟨its,r,⟨_,n,e,rfl,rfl,rfl⟩,z⟩;refine⟨its.toList,r,⟨o,n,I.kIn a o l,hc,hd,by simpa using u⟩,?_⟩;have e:=r.length;simp only[cW]at e;lia
theorem Inv.tuple(I:Inv X pins σ H s)(h:SqT X.K H a xs):∃its:List ag,Vals xs its/\pS s.heap a its.toArray/\xs.length<=sizeLine:=by rcases h with h|⟨o,its,n,l,hc,u,hz,r⟩;obtain⟨z,its,r,p⟩:=h.ok I.hok;exact⟨its,r,p.tup,z⟩;refine⟨its.toList,r,⟨o,I.kIn a o l,hc,n,by simpa using u⟩,?_⟩;have e:=r.length;simp only[cW]at e;lia
theorem Inv.list_inj(I:Inv X pins σ H s)(h:SqL X.K H a xs)(h':SqL X.K H a ys):xs=ys:=by
 obtain⟨its,r,⟨o,n,e,_,_,d⟩,_⟩:=I.list h;obtain⟨its',u,⟨v,x,l,_,_,d'⟩,_⟩:=I.list h';rw[e]at l;cases l;rw[d]at d';injection d' with d1 _
 have:its=its':=by simpa using congrArg vV d1
 subst this;exact r.inj u
theorem Inv.tuple_inj(I:Inv X pins σ H s)(h:SqT X.K H a xs)(h':SqT X.K H a ys):xs=ys:=by
 obtain⟨its,r,⟨o,e,_,n,d⟩,_⟩:=I.tuple h;obtain⟨its',u,⟨v,l,_,x,d'⟩,_⟩:=I.tuple h';rw[e]at l;cases l;rw[d]at d';injection d' with d1 _
 have:its=its':=by simpa using congrArg vV d1
 subst this;exact r.inj u
end
abbrev Cx.wish(X:Cx)(E:qV):Cx:={ X with xe:=E }
abbrev Cx.nox(X:Cx):Cx:=X.wish fun _ _=>False
theorem Cx.Ok.wish{X:Cx}(ok:X.Ok)(E:qV):(X.wish E).Ok :=
 ⟨ok.mod,ok.kind,ok.glob,ok.blt,ok.above,ok.inj,ok.has,ok.cab,ok.hd,ok.frames,ok.stk,ok.exf,ok.bs,ok.bsz,ok.noex,ok.exfs,ok.funs,ok.frf⟩
theorem Cx.Ok.unwish{X:Cx}{E:qV}(ok:(X.wish E).Ok):X.Ok :=
 ⟨ok.mod,ok.kind,ok.glob,ok.blt,ok.above,ok.inj,ok.has,ok.cab,ok.hd,ok.frames,ok.stk,ok.exf,ok.bs,ok.bsz,ok.noex,ok.exfs,ok.funs,ok.frf⟩
section
variable{X:Cx}{pins:qO}{σ:St}{H:Hp}{s:aq}{E:qV}
theorem Inv.wish(I:Inv X pins σ H s)(E:qV):Inv (X.wish E) pins σ H s:=⟨I.ok.wish E,I.os,I.bare,I.base,I.loc,I.cell,I.free,I.freeC,I.pin,I.hok,I.len⟩
theorem Inv.unwish(I:Inv (X.wish E) pins σ H s):Inv X pins σ H s:=⟨I.ok.unwish,I.os,I.bare,I.base,I.loc,I.cell,I.free,I.freeC,I.pin,I.hok,I.len⟩
theorem SP.unwish{D:Ends}{f:Flow}{s':aq}(h:SP (X.wish E) pins D f s'):SP X pins D f s':=by
 cases f with
 | next=>obtain⟨σ',H',I,q⟩:=h;exact⟨σ',H',I.unwish,q⟩
 | brk=>obtain⟨σ',H',I,q⟩:=h;exact⟨σ',H',I.unwish,q⟩
 | cont=>obtain⟨σ',H',I,q⟩:=h;exact⟨σ',H',I.unwish,q⟩
 | ret u=>obtain⟨v,σ',H',I,r,q⟩:=h;exact⟨v,σ',H',I.unwish,r,q⟩
theorem PSs.nox{st:List fc}{t:TS}(h:PSs X.nox st t):PSs X st t:=fun pins s σ H D I hw =>
 cz (h pins s σ H D (I.wish _) hw) (fun _ _ q=>q.unwish) fun _ _ z=>eJ z
end
section
variable{X:Cx}{st:fc}{rest:List fc}{t u:TS}{e:aY}{te:TE}{pos:Pos}
def zwc:TS:=fun D σ H=>D.nx σ H
def tSeq(t u:TS):TS:=fun D σ H=>t { D with nx:=u D } σ H
theorem ziS:PSs X [] zwc:=fun _ _ σ H _ I h=>k6 ⟨σ,H,I,h⟩
theorem QB(h1:PS X st t)(l:PSs X rest u):PSs X (st::rest) (tSeq t u):=by
 intro pins s σ H D I h;refine rN (thn (h1 pins s σ H { D with nx:=u D } I h) fun f s1 q=>?_);cases f with
 | next =>obtain⟨σ',H',o,q⟩:=q;exact l pins s1 σ' H' D o q
 | ret v=>exact q
 | brk=>exact q
 | cont=>exact q
theorem ZL(h1:PS X st t):PSs X [st] t:=by
 intro pins s σ H D I h;refine rN (thn (h1 pins s σ H D I h) fun f s1 q=>?_);cases f with
 | next=>exact k6 q
 | ret v=>exact q
 | brk=>exact q
 | cont=>exact q
theorem Inv.quiet{pins:qO}{σ:St}{H:Hp}{s:aq}(I:Inv X pins σ H s):interactive X.env=false:=by simp[interactive,I.ok.kind]
def zwd(te:TE):TS:=fun D σ H=>te σ H fun _ l=>D.nx σ l
theorem ziT(he:PE X e te)(o:swapsWith e none pos.line X.env=pure false:=by rfl):PS X (.Expr e pos) (zwd te):=by intro pins s σ H D I h;exact wpAny_Expr_any (thn (he pins s σ H _ I h) fun v s1 ⟨x,C,y,G,l⟩=>⟨σ,C,y,l⟩) I.quiet o
def tRet(te:TE):TS:=fun D σ H=>te σ H D.rt
theorem ZE(he:PE X e te):PS X (.Return (some e) pos) (tRet te):=by intro pins s σ H D I h;exact wpAny_Return_some (thn (he pins s σ H _ I h) fun v s1 ⟨x,C,y,l,o⟩=>⟨x,σ,C,y,l,o⟩)
def tIfS(c:TT)(t u:TS):TS:=fun D σ H=>c σ H fun b l=>if b=true then t D σ l else u D σ l
theorem zqV{c:aY}{a b:List fc}{o:TT}(hc:PT X c o)(C:PSs X a t)(y:PSs X b u):PS X (.If c a b pos) (tIfS o t u):=by
 intro pins s σ H D I h;refine wpAny_If (thn (hc pins s σ H _ I h) fun d s1 ⟨x,v,l⟩=>?_);cases d with
 | true=>exact C pins s1 σ x D v l
 | false=>exact y pins s1 σ x D v l
end
abbrev TG:=V->St->Hp->(St->Hp->Prop)->Prop
abbrev TGs:=List V->St->Hp->(St->Hp->Prop)->Prop
def PG(X:Cx)(target:aY)(t:TG):Prop :=
 ∀(pins:qO) (s:aq) (σ:St) (H:Hp) (v:V) (u:ag) (Q:St->Hp->Prop),Inv X pins σ H s->RelV v u->t v σ H Q ->
  wpAny (model X.prog X.w) X.A (assign target X.env u) (fun _ s'=>∃σ' H',Inv X pins σ' H' s'/\Q σ' H') X.xe s
def PGs(X:Cx)(ts:List aY)(t:TGs):Prop :=
 ∀(pins:qO) (s:aq) (σ:St) (H:Hp) (vs:List V) (l:List ag) (Q:St->Hp->Prop),Inv X pins σ H s->Vals vs l->t vs σ H Q ->
  wpAny (model X.prog X.w) X.A (assignInOrder ((assignEach ts X.env).map (·.2)) l) (fun _ s'=>∃σ' H',Inv X pins σ' H' s'/\Q σ' H') X.xe s
abbrev TSet:=V->V->V->Hp->(Hp->Prop)->Prop
def PSet(X:Cx)(t:TSet):Prop :=
 ∀(pins:qO) (s:aq) (σ:St) (H:Hp) (o i v:V) (l x u:ag) (Q:Hp->Prop),Inv X pins σ H s->RelV o l->RelV i x->RelV v u->t o i v H Q ->
  wpAny (model X.prog X.w) X.A (setItem l x u) (fun _ s'=>∃H',Inv X pins σ H' s'/\Q H') X.xe s
abbrev TIp:=V->V->Hp->VK->Prop
def PIp(X:Cx)(op:tJ)(t:TIp):Prop :=
 ∀(pins:qO) (s:aq) (σ:St) (H:Hp) (x y:V) (v u:ag) (Q:VK),Inv X pins σ H s->RelV x v->RelV y u->t x y H Q ->
  wpAny (model X.prog X.w) X.A (inplaceOp op v u) (EP X pins σ Q) X.xe s
section
variable{X:Cx}{pos:Pos}
def Uf(i:Nat):TG:=fun v σ H Q=>Q (σ.set i (some v)) H
theorem zq3{i:Nat}{x:Str}(y:X.N.Nodup)(hi:X.N[i]?=some x)(hx:Loc X.env.scope x)(hf:X.fn x=true\/X.env.scope.names.lookup x=some .local:=by walk_at "F"):PG X (.Name x pos) (Uf i):=by intro pins s σ H v u Q I r h;exact pT (Z0 I y hi hx r (fun s' C=>⟨_,H,C,h⟩) hf)
def gNil:TGs:=fun vs σ H Q=>vs=[]/\Q σ H
def zxC(t:TG)(u:TGs):TGs:=fun vs σ H Q=>∃v r,vs=v::r/\t v σ H fun σ' H'=>u r σ' H' Q
theorem zq2:PGs X [] gNil:=by intro pins s σ H vs l Q I r h;obtain⟨e,h⟩:=h;subst e;cases r;exact pU ⟨σ,H,I,h⟩
theorem zoR{e:aY}{es:List aY}{t:TG}{u:TGs}(h1:PG X e t)(C:PGs X es u)
  (y:(assignEach (e::es) X.env).map (·.2)=assign e X.env::(assignEach es X.env).map (·.2):=by rfl):PGs X (e::es) (zxC t u):=by
 intro pins s σ H vs R Q I r h;obtain⟨v,N,o,h⟩:=h;subst o;cases r with
 | cons r G =>rw[y];refine lK (thn (h1 pins s σ H _ _ _ I r h) fun _ s1 ⟨l,L,J,x⟩=>?_);exact C pins s1 l L _ _ Q J G x
def gTup(K:qF)(n:Nat)(t:TGs):TG:=fun v σ H Q=>∃a xs,v=.ref a/\SqT K H a xs/\xs.length=n/\t xs σ H Q
theorem zts{es:List aY}{k:Nat}{t:TGs}{n:Nat}(hc:X.calm=true)(h:PGs X es t)
  (L:(assignEach es X.env).length=n:=by rfl) (y:(assignEach es X.env).findIdx? (·.1)=none:=by rfl):PG X (.Tuple es k pos) (gTup X.K n t):=by
 intro pins s σ H v u Q I r hw;obtain⟨a,xs,G,J,R,hw⟩:=hw;subst G;cases r;obtain⟨its,C,S,hz⟩:=I.tuple J;refine assign_Tuple_tuple (I.ok.hd hc) S (by simp[L,<- R,C.length]) y fun h' hx=>?_;have N:Inv X pins σ H { s with heap:=h' }:=I.kept (t':=s.toks) fun b o e=>hx b o (aD (ax e)) e;exact h pins _ σ H xs _ Q N (by simpa using C) hw
def gSub(to ti:TE)(t:TSet):TG:=fun v σ H Q=>to σ H fun o u=>ti σ u fun i x=>t o i v x fun l=>Q σ l
theorem pg_sub{o i:aY}{to ti:TE}{t:TSet}(L:PE X o to)(hi:PE X i ti)(N:PSet X t)
  (ha:∀v,assign (.Subscript o i pos) X.env v=(do
   let l <- holding [v] (eval o X.env);let C <- holding [v,l] (eval i X.env)
   standAt pos
   holding [v,l,C] (setItem l C v)
   release [v,l,C] []):=by intro _;rfl):PG X (.Subscript o i pos) (gSub to ti t):=by
 intro pins s σ H v u Q I r h;rw[ha];refine aa (bM (thn (L pins s σ H _ I h) fun l s1 ⟨x,H1,I1,G,J⟩=>?_));refine aa (bM (thn (hi pins s1 σ H1 _ I1 J) fun C s2 ⟨y,H2,R,r2,U⟩=>?_));refine aa (eO (aa (bM (thn (N pins s2 σ H2 x y v l C u _ R G r2 r U) fun _ s3 ⟨Y,Z,q3⟩=>?_))));exact wpAny_release ⟨σ,Y,Z,q3⟩
def tAsg(l:TE)(g:TG):TS:=fun D σ H=>l σ H fun x o=>g x σ o D.nx
theorem VF{tg e:aY}{l:TE}{g:TG}(he:PE X e l)(J:PG X tg g)(y:swapsWithSole [tg] e pos.line X.env=pure false:=by rfl)(hw:swappedStores [tg] e X.env=pure none:=by rfl)
  (h1:(assignEach [tg] X.env).map (·.2)=[assign tg X.env]:=by rfl):PS X (.Assign [tg] e pos) (tAsg l g):=by
 intro pins s σ H D I h;refine wpAny_Assign_stores (thn (he pins s σ H _ I h) fun v s1 ⟨x,G,C,o,u⟩=>?_) y hw;rw[h1];exact thn (J pins s1 σ G x v _ C o u) fun _ s2 q=>q
theorem Qx{i:Nat}{x:Str}{e:aY}{C:TE}{u:Pos}(R:X.N.Nodup)(hi:X.N[i]?=some x)(hx:Loc X.env.scope x)(he:PE X e C)(L:swapsWith e (some (.Name x u)) pos.line X.env=pure false:=by rfl)(hf:X.fn x=true\/X.env.scope.names.lookup x=some .local:=by walk_at "F") :
  PS X (.Assign [.Name x u] e pos) (tAsg C (Uf i)):=by
 intro pins s σ H D I h;refine wpAny_Assign_Name (thn (he pins s σ H _ I h) fun v s1 ⟨y,Y,U,G,J⟩=>?_) L;exact Z0 U R hi hx G (fun s2 S=>⟨_,Y,S,J⟩) hf
def tPar(i j:Nat)(l:TA):TS:=fun D σ H=>l σ H fun vs o=>∃v w,vs=[v,w]/\D.nx ((σ.set i (some v)).set j (some w)) o
theorem ztk{i j:Nat}{x y:Str}{a b:aY}{ta:TA}{R py pt:Pos}{kt k2 pt2}(hc:X.calm=true)(Z:X.N.Nodup)(hi:X.N[i]?=some x)(hj:X.N[j]?=some y)(S:i≠j)
  (hx:X.env.scope.names.lookup x=some .local) (hy:X.env.scope.names.lookup y=some .local) (ha:PA X [a,b] ta)
  (hw:swappedStores [.Tuple [.Name x R,.Name y py] kt pt] (.Tuple [a,b] k2 pt2) X.env=pure (some [x,y]))
  (hs:swapsWithSole [.Tuple [.Name x R,.Name y py] kt pt] (.Tuple [a,b] k2 pt2) pos.line X.env=pure false:=by rfl) :
  PS X (.Assign [.Tuple [.Name x R,.Name y py] kt pt] (.Tuple [a,b] k2 pt2) pos) (tPar i j ta):=by
 intro pins s σ H D I h;rw[exec_Assign_arm];refine aa (eO ?_);rw[hs];refine aa (ae ?_);rw[if_neg (by decide)];refine aa (Tuple_ (thn (ha _ pins s σ H _ I h) fun us s1 ⟨vs,H1,I1,r1,L⟩=>?_));obtain⟨v,w,e1,L⟩:=L;subst e1;obtain⟨C,G,rfl,rv,J⟩:∃C G,us=[C,G]/\RelV v C/\RelV w G:=by
  cases r1 with
  | cons p q =>
   cases q with
   | cons p' q' =>cases q';exact⟨_,_,rfl,p,p'⟩
 refine aX ?_ (by show 2<=sizeLine;decide);have I2:Inv X pins σ H1 { s1 with heap:=s1.heap.push { cls:=.type "tuple",data:=.seq [C,G].toArray } }:=I1.kept (t':=s1.toks) fun b o e=>ah _ e;rw[hw];refine aa (ae ?_);show wpAny (model X.prog X.w) X.A (do rule "assign.swapped-stores";let items <- unpackItems (.ref s1.heap.objs.size) 2 none;assignInOrder [fun v=>bindName X.env y v,fun v=>bindName X.env x v] items.reverse;pure Bm) _ _ _;refine aa (cK (aa (unpackItems_tuple (items:=#[C,G]) (I.ok.hd hc) (IsTup.new s1.heap _) fun h' U=>?_)));have I3:=I2.kept (h':=h') (t':=s1.toks) fun b o e=>U b o (aD (ax e)) e;show wpAny _ _ (assignInOrder [fun v=>bindName X.env y v,fun v=>bindName X.env x v] [G,C] >>= fun _=>pure Bm) _ _ _;refine aa (lK (tK (Z0 I3 Z hj (.inl hy) J (fun s2 I4=>?_) (.inr hy))));refine lK (tK (Z0 I4 Z hi (.inl hx) rv (fun s3 Y=>pU (ae ?_)) (.inr hx)));rw[List.set_comm _ _ (dD S)]at Y;exact⟨_,H1,Y,L⟩
def tAug(i:Nat)(l:TE)(ti:TIp):TS:=fun D σ H=>∃x,σ[i]?=some (some x)/\l σ H fun y o=>ti x y o fun z u=>D.nx (σ.set i (some z)) u
theorem ztm{i:Nat}{x:Str}{e:aY}{U:TE}{op:tJ}{ti:TIp}{J:Pos}(hN:X.N.Nodup)(hi:X.N[i]?=some x)(hx:Loc X.env.scope x)(he:PE X e U)(ho:PIp X op ti)(hf:X.fn x=true\/X.env.scope.names.lookup x=some .local:=by walk_at "F") :
  PS X (.AugAssign (.Name x J) op e pos) (tAug i U ti):=by
 intro pins s σ H D I h;obtain⟨v,Z,h⟩:=h;obtain⟨m,hn,hl⟩:=I.loc;have S:Vis X.env.scope x:=by rcases hx with k|k;exact .inl k;exact .inr (.inl k)
 obtain⟨u,r,l⟩:=hl i x v hi Z S;refine wpAny_AugAssign_Name ?_;have go:wpAny (model X.prog X.w) X.A (eval e X.env) (fun w L=>wpAny (model X.prog X.w) X.A (inplaceOp op u w) (fun r R=>wpAny (model X.prog X.w) X.A (storeName X.env x r) (fun _=>SP X pins D .next) X.xe R) X.xe L) X.xe s:=by refine thn (he pins s σ H _ I h) fun w s1 ⟨y,H1,I1,Y,q1⟩=>?_;refine thn (ho pins s1 σ H1 v y u w _ I1 r Y q1) fun z s2 ⟨zv,H2,I2,r2,q2⟩=>?_;exact Z0 I2 hN hi hx r2 (fun s3 I3=>⟨_,H2,I3,q2⟩) hf
 rcases l with⟨C,hm⟩|⟨C,c,hc,G⟩;exact og I.ok.kind C hn hm go;rcases C with C|C;exact oQ I.ok.kind C hc G go;rcases hx with k|k;have:X.env.scope.names.lookup x=some .free:=C;rw[k]at this;cases this;have:X.env.scope.names.lookup x=some .free:=C;rw[k]at this;cases this
def ipI(f:Int->Int->Int):TIp:=fun x y H Q=>∃i j,x=.int i/\y=.int j/\Q (.int (f i j)) H
theorem zup:PIp X .Add (ipI fun i j=>i+j):=by intro pins s σ H x y v u Q I l G h;obtain⟨i,j,o,C,q⟩:=h;subst o;subst C;obtain⟨t,rfl⟩:=l;obtain⟨t',rfl⟩:=G;exact iadd_int ⟨.int _,H,I.tok _,⟨_,rfl⟩,q⟩
end
section
variable{X:Cx}{pos:Pos}
def zsG(c:TT)(u:TS):TS:=fun D σ H=>∃W:Nat->St->Hp->Prop,(∃m,W m σ H)/\∀m σ H,W m σ H ->
 c σ H fun b o=>if b=true then ∃N:St->Hp->Prop,(∀σ' H',N σ' H'->∃l,l<m/\W l σ' H')/\u { D with nx:=N,ct:=N,bk:=D.nx } σ o else D.nx σ o
theorem zoO{c:aY}{body:List fc}{Z:TT}{tb:TS}(hp:rO (model X.prog X.w) X.A X.env X.xe)(hc:PT X c Z)(hb:PSs X body tb):PS X (.While c body [] pos) (zsG Z tb):=by
 intro pins s σ H D I h;obtain⟨W,⟨m0,w0⟩,turn⟩:=h;refine wpAny_While (codeAny_whileLoop (fun n s'=>∃σ' H',Inv X pins σ' H' s'/\W n σ' H') ?_ m0 ⟨σ,H,I,w0⟩);rintro n s1 ⟨u,H1,I1,w1⟩;refine fF hp (thn (hc pins s1 u H1 _ I1 (turn n u H1 w1)) fun b s2 ⟨H2,Y,y⟩=>?_);cases b with
 | true =>
  obtain⟨N,U,y⟩:=y;rw[if_pos rfl];refine fF hp (thn (hb pins s2 u H2 _ Y y) fun f s3 C=>?_);cases f with
  | next =>obtain⟨o,x,L,J⟩:=C;obtain⟨G,S,R⟩:=U o x J;exact⟨G,S,o,x,L,R⟩
  | cont =>obtain⟨o,x,L,J⟩:=C;obtain⟨G,S,R⟩:=U o x J;exact⟨G,S,o,x,L,R⟩
  | brk=>exact C
  | ret v=>exact C
 | false =>rw[if_neg aQ];exact k6 ⟨u,H2,Y,y⟩
end
structure It where
 go:Nat->Hp->Prop
 yld:Nat->Hp->V->Hp->Prop
 stop:Nat->Hp->Prop
def FpOk(X:Cx)(pins:qO)(H:Hp)(b:aj):Prop :=
 H b=none/\b≠X.env.locals/\b∉X.fs/\(b∈X.ex\/X.s₀.heap.objs.size<=b)/\(∀x c,X.env.cells.lookup x=some c->c≠b)/\∀p∈X.pn++pins,p.1≠b
theorem Inv.fpOk{X:Cx}{pins:qO}{σ:St}{H H':Hp}{s:aq}{b:aj}(I:Inv X pins σ H s)(l:s.heap.objs.size<=b)(o:H' b=none):FpOk X pins H' b:=by refine⟨o,dU (aM I.lt l),I.nofs l,.inr (b7 I.sz l),fun x c e z=>?_,fun p u z=>?_⟩;obtain⟨v,q⟩:=I.cell x c e;exact absurd (aM q.lt (by rw[z];exact l)) (fK _);exact absurd (aM (ax (I.pin p u).1) (by rw[z];exact l)) (fK _)
structure Turn(P:aL)(w:aZ)(K:qF)(tg:aY)(J:It)(fp:List aj)(it:aj)(tn:Nat->a9->Prop):Prop where
 mem:it∈fp
 obj:∀i h,tn i h->∀b∈fp,∃o,h.get? b=some o/\∀v,o.data≠.cell v
 keep:∀i h h',tn i h->(∀b∈fp,∀o,h.get? b=some o->h'.get? b=some o)->tn i h'
 item:∀(X:Cx),X.prog=P->X.w=w->X.K=K->X.calm=true->∀(i:Nat) (pins:qO) (s:aq) (σ:St) (H:Hp) (E:qV),Inv X pins σ H s->(∀b∈fp,FpOk X pins H b)->tn i s.heap->J.go i H ->
  wpAny (model P w) X.A (pyNext (.ref it)) (fun r s1=>∃u,r=some u /\
   wpAny (model P w) X.A (letOwnedTupleGo tg (.ref it) u) (fun _ s2=>∃x H',Inv X pins σ H' s2/\RelV x u/\J.yld i H x H'/\tn (i+1) s2.heap/\∀b∈fp,H' b=none) E s1) E s
 done:∀(X:Cx),X.prog=P->X.w=w->X.K=K->X.calm=true->∀(i:Nat) (pins:qO) (s:aq) (σ:St) (H:Hp) (E:qV),Inv X pins σ H s->(∀b∈fp,FpOk X pins H b)->tn i s.heap->J.stop i H ->
  wpAny (model P w) X.A (pyNext (.ref it)) (fun r s1=>r=none/\Inv X pins σ H s1) E s
 self:∀(A:bg) (i:Nat) (s:aq) (Q:qV) (E:qV),tn i s.heap->Q (.ref it) s->wpAny (model P w) A (pyIter (.ref it)) Q E s
abbrev TI:=St->Hp->(It->Hp->Prop)->Prop
def PIE(X:Cx)(pins:qO)(σ:St)(tg:aY)(R:It->Hp->Prop)(l:ag)(s2:aq):Prop :=
 ∃(it:aj) (u:List aj) (o:Nat->a9->Prop) (J:It) (H':Hp),l=.ref it/\Inv X pins σ H' s2/\Turn X.prog X.w X.K tg J u it o/\o 0 s2.heap/\(∀b∈u,FpOk X pins H' b)/\R J H'
def PI(X:Cx)(tg iter:aY)(wi:TI):Prop :=
 ∀(pins:qO) (s:aq) (σ:St) (H:Hp) (R:It->Hp->Prop),Inv X pins σ H s->wi σ H R ->
  wpAny (model X.prog X.w) X.A (eval iter X.env) (fun v s1=>wpAny (model X.prog X.w) X.A (pyIter v) (PIE X pins σ tg R) X.xe s1) X.xe s
theorem Y9{M:xx}{A:bg}{E:qV}{s:aq}{tg:aY}{it:aj}{u:ag}{o:Obj}{n:String}{vs:Array ag}{Q:Unit->aq->Prop}(x:s.heap.get? it=some o)(hc:o.cls=.type n)(hd:o.data=.fields vs)
  (C:["enumerate","zip","dict_itemiterator","dict_reverseitemiterator","odict_iterator","itertools.zip_longest","itertools.pairwise"].contains n=false) (v:Q () s):wpAny M A (letOwnedTupleGo tg (.ref it) u) Q E s:=by
 unfold letOwnedTupleGo;cases tg <;> first
  | exact ae v
  | (cases u <;> first
    | exact ae v
    | (refine aa (lL x ?_)
       rw[hc,hd];show wpAny M A (if (["enumerate","zip","dict_itemiterator","dict_reverseitemiterator","odict_iterator","itertools.zip_longest","itertools.pairwise"].contains n&&vs[0]? == some (rawInt _))=true then _ else _) Q E s;rw[if_neg (by intro h;rw[C,dW]at h;cases h)];exact ae v))
def Itl(K:qF)(a:aj):It :=
 ⟨fun i H=>∃xs x,SqL K H a xs/\xs[i]?=some x,fun i H x H'=>H'=H/\∀xs,SqL K H a xs->xs[i]?=some x,fun i H=>∃xs,SqL K H a xs/\xs.length<=i⟩
def Itt(K:qF)(a:aj):It :=
 ⟨fun i H=>∃xs x,SqT K H a xs/\xs[i]?=some x,fun i H x H'=>H'=H/\∀xs,SqT K H a xs->xs[i]?=some x,fun i H=>∃xs,SqT K H a xs/\xs.length<=i⟩
def Itr(lo:Int)(n:Nat):It:=⟨fun i _=>i<n,fun i H x H'=>H'=H/\x=.int (lo+i),fun i _=>n<=i⟩
theorem zhp{P:aL}{w:aZ}{K:qF}{tg:aY}(a it:aj):Turn P w K tg (Itl K a) [it] it (fun i h=>h.IsListIter it a i) where
 mem:=by simp
 obj:=fun i h st b l=>by
  have e:b=it:=by simpa using l
  subst e;obtain⟨o,e,c,d⟩:=st;exact⟨o,e,fun v z=>by rw[d]at z;cases z⟩
 keep:=fun i h h' st k=>st.at fun o e=>k it (by simp) o e
 item:=by intro X L hw G hc i pins s σ H E I hf st S;subst L hw G;obtain⟨xs,x,C,hx⟩:=S;obtain⟨its,R,p,hz⟩:=I.list C;obtain⟨u,U,Y⟩:=R.get hx;obtain⟨f0,f1,f2,J,f4,N⟩:=hf it (by simp);refine wpAny_pyNext_list_item st p.isList (x:=u) (by simpa using U) fun h' y sb=>?_;have Z:Inv X pins σ H { s with heap:=h' }:=I.turned (t':=s.toks) (fun b o l e=>(sb.2 b l).trans e) f0 f1 J f4 N;obtain⟨o,e,c,d⟩:=id y;exact⟨u,rfl,Y9 (s:={ s with heap:=h' }) e c d (by decide) ⟨x,H,Z,Y,⟨rfl,fun ys hy=>by rw[I.list_inj hy C];exact hx⟩,y,fun b l=>(hf b l).1⟩⟩
 done:=by intro X L hw G hc i pins s σ H E I hf st S;subst L hw G;obtain⟨xs,C,hx⟩:=S;obtain⟨its,R,p,hz⟩:=I.list C;obtain⟨f0,f1,f2,J,f4,N⟩:=hf it (by simp);have hl:=R.length;exact wpAny_pyNext_list_end (I.ok.hd hc) st p.isList (by simp;lia) fun h' eb=>⟨rfl,I.turned (t':=s.toks) (fun b o l e=>eb b o l e) f0 f1 J f4 N⟩
 self:=fun _ _ _ _ _ st h=>wpAny_pyIter_listiter st h
theorem zfU{P:aL}{w:aZ}{K:qF}{tg:aY}(a it:aj):Turn P w K tg (Itt K a) [it] it (fun i h=>h.IsTupleIter it a i) where
 mem:=by simp
 obj:=fun i h st b l=>by
  have e:b=it:=by simpa using l
  subst e;obtain⟨o,e,c,d⟩:=st;exact⟨o,e,fun v z=>by rw[d]at z;cases z⟩
 keep:=fun i h h' st k=>st.at fun o e=>k it (by simp) o e
 item:=by intro X L hw G hc i pins s σ H E I hf st S;subst L hw G;obtain⟨xs,x,C,hx⟩:=S;obtain⟨its,R,p,hz⟩:=I.tuple C;obtain⟨u,U,Y⟩:=R.get hx;obtain⟨f0,f1,f2,J,f4,N⟩:=hf it (by simp);refine mW st (show s.heap.IsTuple a its.toArray from p) (x:=u) (by simpa using U) fun h' y sb=>?_;have Z:Inv X pins σ H { s with heap:=h' }:=I.turned (t':=s.toks) (fun b o l e=>(sb.2 b l).trans e) f0 f1 J f4 N;obtain⟨o,e,c,d⟩:=id y;exact⟨u,rfl,Y9 (s:={ s with heap:=h' }) e c d (by decide) ⟨x,H,Z,Y,⟨rfl,fun ys hy=>by rw[I.tuple_inj hy C];exact hx⟩,y,fun b l=>(hf b l).1⟩⟩
 done:=by intro X L hw G hc i pins s σ H E I hf st S;subst L hw G;obtain⟨xs,C,hx⟩:=S;obtain⟨its,R,p,hz⟩:=I.tuple C;obtain⟨f0,f1,f2,J,f4,N⟩:=hf it (by simp);have hl:=R.length;exact nA (I.ok.hd hc) st (show s.heap.IsTuple a its.toArray from p) (by simp;lia) fun h' eb=>⟨rfl,I.turned (t':=s.toks) (fun b o l e=>eb b o l e) f0 f1 J f4 N⟩
 self:=fun _ _ _ _ _ st h=>wpAny_pyIter_tupleiter st h
theorem zkD{P:aL}{w:aZ}{K:qF}{tg:aY}(it:aj)(lo:Int)(n:Nat):Turn P w K tg (Itr lo n) [it] it (fun i h=>IsRangeIter h it (lo+(i:Nat)*1) ((n:Int) - (i:Nat)) 1) where
 mem:=by simp
 obj:=fun i h st b l=>by
  have e:b=it:=by simpa using l
  subst e;exact⟨_,st,fun v z=>by have U:Data.fields _=Data.cell v:=z;cases U⟩
 keep:=fun i h h' st k=>k it (by simp) _ st
 item:=by intro X C hw x hc i pins s σ H E I hf st J;subst C hw x;obtain⟨f0,f1,f2,y,f4,G⟩:=hf it (by simp);have W:=Walks.range (prog:=X.prog) (w:=X.w) (I.ok.hd hc) it lo 1 n;refine W.item i s _ _ J st fun v h' tk L u N=>?_;obtain⟨t,rfl⟩:=L;have R:Inv X pins σ H { s with heap:=h',toks:=tk }:=I.turned (fun b o l e=>N b o (by simpa using l) e) f0 f1 y f4 G;refine⟨_,rfl,Y9 (s:={ s with heap:=h',toks:=tk }) (n:="range_iterator") u rfl rfl (by decide) ⟨.int (lo+i),H,R,⟨t,?_⟩,⟨rfl,rfl⟩,u,fun b l=>(hf b l).1⟩⟩;rw[mC]
 done:=by intro X C hw x hc i pins s σ H E I hf st J;subst C hw x;obtain⟨f0,f1,f2,y,f4,G⟩:=hf it (by simp);exact wpAny_pyNext_range_end (I.ok.hd hc) st (by have:n<=i:=J;lia) fun h' S=>⟨rfl,I.turned (t':=s.toks) (fun b o l e=>S b o l e) f0 f1 y f4 G⟩
 self:=fun _ _ _ _ _ st h=>wpAny_pyIter_rangeiter st h
section
variable{X:Cx}{tg:aY}
def zxz(K:qF)(o:TE):TI:=fun σ H R=>o σ H fun x l=>∃a,x=.ref a/\(∃xs,SqL K l a xs)/\R (Itl K a) l
def iTup(K:qF)(o:TE):TI:=fun σ H R=>o σ H fun x l=>∃a,x=.ref a/\(∃xs,SqT K l a xs)/\R (Itt K a) l
theorem zmx{l:aY}{y:TE}(S:PE X l y):PI X tg l (zxz X.K y):=by
 intro pins s σ H R I h;refine thn (S pins s σ H _ I h) fun v s1 ⟨x,N,u,C,G⟩=>?_;obtain⟨a,e,⟨xs,L⟩,q⟩:=G;subst e;cases C;obtain⟨its,U,p,hz⟩:=u.list L;refine iR p.isList ?_;refine⟨s1.heap.objs.size,[s1.heap.objs.size],_,_,N,rfl,u.kept (t':=s1.toks) fun b o e=>ah _ e,zhp a _,⟨_,aw _ rfl,rfl,rfl⟩,fun b J=>?_,q⟩;have e:b=s1.heap.objs.size:=by simpa using J
 subst e;exact u.fpOk (ar _) (u.hok.fresh (ar _))
theorem ztp{l:aY}{y:TE}(S:PE X l y):PI X tg l (iTup X.K y):=by
 intro pins s σ H R I h;refine thn (S pins s σ H _ I h) fun v s1 ⟨x,N,u,C,G⟩=>?_;obtain⟨a,e,⟨xs,L⟩,q⟩:=G;subst e;cases C;obtain⟨its,U,p,hz⟩:=u.tuple L;refine iH (show s1.heap.IsTuple a its.toArray from p) ?_;refine⟨s1.heap.objs.size,[s1.heap.objs.size],_,_,N,rfl,u.kept (t':=s1.toks) fun b o e=>ah _ e,zfU a _,⟨_,aw _ rfl,rfl,rfl⟩,fun b J=>?_,q⟩;have e:b=s1.heap.objs.size:=by simpa using J
 subst e;exact u.fpOk (ar _) (u.hok.fresh (ar _))
theorem zoK{pins:qO}{σ:St}{H:Hp}{s:aq}{R:It->Hp->Prop}{E:qV}{lo hi:Int}{t u v:Tok}{tk:Nat}(I:Inv X pins σ H s)(h1:-(2 ^ 62)<=lo)(L:lo<2 ^ 62)(U:-(2 ^ 62)<=hi)(S:hi<2 ^ 62)
  (q:R (Itr lo (hi - lo).toNat) H):wpAny (model X.prog X.w) X.A (pyIter (.ref s.heap.objs.size)) (PIE X pins σ tg R) E { s with heap:=s.heap.push { cls:=.type "range",data:=.fields #[.int lo t,.int hi u,.int 1 v] },toks:=tk }:=by
 refine wpAny_pyIter_range (IsRange.new ..) (small_one h1 L U S) ?_;have x:Inv X pins σ H { s with heap:=s.heap.push { cls:=.type "range",data:=.fields #[.int lo t,.int hi u,.int 1 v] },toks:=tk }:=I.kept fun b o e=>ah _ e;refine⟨(s.heap.push { cls:=.type "range",data:=.fields #[.int lo t,.int hi u,.int 1 v] }).objs.size,[(s.heap.push { cls:=.type "range",data:=.fields #[.int lo t,.int hi u,.int 1 v] }).objs.size],_,_,H,rfl,
  x.kept (t':=tk) fun b o e=>ah _ e,zkD _ lo (hi - lo).toNat,?_,fun b G=>?_,q⟩
 have C:lo+((0:Nat):Int)*1=lo:=by simp
 have J:(((hi - lo).toNat:Nat):Int) - ((0:Nat):Int)=vI lo hi 1:=by rw[rangeSize_one];split <;> lia
 show IsRangeIter _ _ (lo+((0:Nat):Int)*1) ((((hi - lo).toNat:Nat):Int) - ((0:Nat):Int)) 1;rw[C,J];exact aw _ rfl;have e:b=(s.heap.push { cls:=.type "range",data:=.fields #[.int lo t,.int hi u,.int 1 v] }).objs.size:=by simpa using G
 subst e;exact x.fpOk (ar _) (x.hok.fresh (ar _))
def zxy(l:TA):TI:=fun σ H R=>l σ H fun vs o=>∃j:Int,vs=[.int j]/\-(2 ^ 62)<=j/\j<2 ^ 62/\R (Itr 0 j.toNat) o
theorem zmw{a:aY}{u:TA}{p pos:Pos}(S:Gl X "range") (U:X.mg "range" = none) (J:PA X [a] u) (x:starEach [a] X.env=[(false,eval a X.env)]:=by rfl):PI X tg (.Call (.Name "range" p) [a] [] pos) (zxy u):=by
 intro pins s σ H R I h;refine Call_ (YJ I S U boot_range (fi (thn (J pos pins s σ H _ I h) fun Y s1 ⟨vs,Z,L,v,o⟩=>?_) x rfl));obtain⟨j,e,o,G,q⟩:=o;subst e;cases v with
 | cons r y =>cases y;obtain⟨t,rfl⟩:=r;exact call_range_1 (zoK L (by lia) (by lia) o G (by simpa using q))
def tFor(wi:TI)(g:TG)(y:TS):TS:=fun D σ H=>wi σ H fun J u=>∃W:Nat->Nat->St->Hp->Prop,(∃m,W 0 m σ u)/\∀i m σ H,W i m σ H ->
 (J.stop i H/\D.nx σ H)\/(J.go i H/\∃N:St->Hp->Prop,(∀σ' H',N σ' H'->∃o,o<m/\W (i+1) o σ' H')/\∀x H',J.yld i H x H'->g x σ H' fun l v=>y { D with nx:=N,ct:=N,bk:=D.nx } l v)
def ZD(l:List aj)(h:a9):List (aj×Obj):=l.filterMap fun b=>(h.get? b).map fun o=>(b,o)
theorem zd1{l:List aj}{h:a9}{b:aj}{o:Obj}(u:b∈l)(e:h.get? b=some o):(b,o)∈ZD l h:=f9.mpr ⟨b,u,by rw[e];rfl⟩
theorem zmM{l:List aj}{h:a9}{p:aj×Obj}(x:p∈ZD l h):p.1∈l/\h.get? p.1=some p.2:=by
 obtain⟨b,v,e⟩:=f9.mp x;cases q:h.get? b with
 | none=>rw[q]at e;cases e
 | some o =>rw[q]at e;have u:(b,o)=p:=aE e;subst u;exact⟨v,q⟩
theorem Inv.pinned{pins:qO}{σ:St}{H:Hp}{s:aq}{u:List aj}(I:Inv X pins σ H s)(hf:∀b∈u,FpOk X pins H b)(C:∀b∈u,∃o,s.heap.get? b=some o/\∀v,o.data≠.cell v):Inv X (pins++ZD u s.heap) σ H s :=
 I.pins_of fun p G=>(aW.mp G).elim (fun z=>I.pin p (cF _ z)) fun z=>by obtain⟨x,e⟩:=zmM z;obtain⟨f0,f1,f2,_⟩:=hf p.1 x;obtain⟨o,y,d⟩:=C p.1 x;rw[e]at y;cases y;exact⟨e,f0,f1,f2,d⟩
theorem Inv.unpinned{pins pl:qO}{σ:St}{H:Hp}{s:aq}(I:Inv X (pins++pl) σ H s):Inv X pins σ H s:=I.pins_of fun p l=>I.pin p (cF _ (n9 _ l))
theorem ztl{iter:aY}{body:List fc}{wi:TI}{g:TG}{tb:TS}{pos:Pos}(hp:rO (model X.prog X.w) X.A X.env X.xe)(hc:X.calm=true)(hi:PI X tg iter wi)(hg:PG X tg g)(y:PSs X body tb)
  (hs:∀x,foldedSetIterable iter X.env x=pure x:=by intro _;rfl):PS X (.For tg iter body [] pos) (tFor wi g tb):=by
 intro pins s σ H D I h;refine wpAny_For (thn (hi pins s σ H _ I h) fun v s1 h1=>thn h1 fun itv s2 h2=>?_) hs;obtain⟨it,U,tn,J,H2,e,I2,T,st2,f2,W,⟨m0,w0⟩,turn⟩:=h2;subst e;have Ml:∀{H':Hp},(∀b∈U,H' b=none)->∀b∈U,FpOk X pins H' b:=fun hn b y=>⟨hn b y,(f2 b y).2⟩;refine codeAny_forLoop_any (fun n s'=>∃i σ' H',Inv X pins σ' H' s'/\tn i s'.heap/\(∀b∈U,H' b=none)/\W i n σ' H') ?_ m0 ⟨0,σ,H2,I2,st2,fun b y=>(f2 b y).1,w0⟩;rintro n s3 ⟨i,G,H3,I3,Y,Z,w3⟩;rcases turn i n G H3 w3 with⟨stop,qn⟩|⟨go,N,hN,step⟩
 ·refine fF hp (thn (T.done X rfl rfl rfl hc i pins s3 G H3 X.xe I3 (Ml Z) Y stop) fun r s4 ⟨hr,I4⟩=>?_);subst hr;exact k6 ⟨G,H3,I4,qn⟩
 ·refine fF hp (thn (T.item X rfl rfl rfl hc i pins s3 G H3 X.xe I3 (Ml Z) Y go) fun r s4 ⟨u,hr,h4⟩=>?_);subst hr;refine fF hp (thn h4 fun _ s5 ⟨x,H5,I5,r5,y5,S,fr5⟩=>?_);have I5':=I5.pinned (Ml fr5) (T.obj _ _ S);refine fF hp (thn (hg _ s5 G H5 x u _ I5' r5 (step x H5 y5)) fun _ s6 ⟨σ6,H6,I6,q6⟩=>?_);refine fF hp (thn (y _ s6 σ6 H6 _ I6 q6) fun f s7 R=>?_);have again:∀{l:St} {L:Hp},Inv X (pins++ZD U s5.heap) l L s7->N l L->∃m,m<n/\∃i σ' H',Inv X pins σ' H' s7/\tn i s7.heap/\(∀b∈U,H' b=none)/\W i m σ' H':=fun {l L} C n7=>by
   obtain⟨m',hm,w7⟩:=hN l L n7;refine⟨m',hm,i+1,l,L,C.unpinned,T.keep _ _ _ S fun b y o e=>(C.pin (b,o) (cF _ (cF _ (zd1 y e)))).1,fun b y=>?_,w7⟩;obtain⟨o,e,d⟩:=T.obj _ _ S b y;exact(C.pin (b,o) (cF _ (cF _ (zd1 y e)))).2.1
  cases f with
  | next=>obtain⟨l,L,C,n7⟩:=R;exact again C n7
  | cont=>obtain⟨l,L,C,n7⟩:=R;exact again C n7
  | brk=>obtain⟨l,L,C,R⟩:=R;exact⟨l,L,C.unpinned,R⟩
  | ret v=>obtain⟨x7,l,L,C,r7,R⟩:=R;exact⟨x7,l,L,C.unpinned,r7,R⟩
end
abbrev R2:=V->V->Hp->VK->Prop
def OpR(X:Cx)(f:ag->ag->Sem ag)(r:R2):Prop :=
 ∀(pins:qO) (s:aq) (σ:St) (H:Hp) (x y:V) (v u:ag) (Q:VK),Inv X pins σ H s->RelV x v->RelV y u->r x y H Q ->
  wpAny (model X.prog X.w) X.A (f v u) (EP X pins σ Q) X.xe s
def UnR(X:Cx)(f:ag->Sem ag)(r:V->Hp->VK->Prop):Prop :=
 ∀(pins:qO) (s:aq) (σ:St) (H:Hp) (x:V) (v:ag) (Q:VK),Inv X pins σ H s->RelV x v->r x H Q ->
  wpAny (model X.prog X.w) X.A (f v) (EP X pins σ Q) X.xe s
def JK(X:Cx)(f:ag)(r:List V->Hp->VK->Prop):Prop :=
 ∀(pins:qO) (s:aq) (σ:St) (H:Hp) (xs:List V) (l:List ag) (Q:VK),Inv X pins σ H s->Vals xs l->r xs H Q ->
  wpAny (model X.prog X.w) X.A (call f l) (EP X pins σ Q) X.xe s
def TruR(X:Cx)(r:V->Hp->(Bool->Hp->Prop)->Prop):Prop :=
 ∀(pins:qO) (s:aq) (σ:St) (H:Hp) (x:V) (v:ag) (Q:Bool->Hp->Prop),Inv X pins σ H s->RelV x v->r x H Q ->
  wpAny (model X.prog X.w) X.A (truthy v) (TP X pins σ Q) X.xe s
def tOp(r:R2)(l v:TE):TE:=fun σ H Q=>l σ H fun x o=>v σ o fun y u=>r x y u Q
def tUn(r:V->Hp->VK->Prop)(l:TE):TE:=fun σ H Q=>l σ H fun x o=>r x o Q
def rI(C:Int->Int->Prop)(g:Int->Int->V):R2:=fun x y H Q=>∃i j,x=.int i/\y=.int j/\C i j/\Q (g i j) H
def rI0(g:Int->Int->V):R2:=fun x y H Q=>∃i j,x=.int i/\y=.int j/\Q (g i j) H
def rU(g:Int->V):V->Hp->VK->Prop:=fun x H Q=>∃i,x=.int i/\Q (g i) H
section
variable{X:Cx}{a b c:aY}{ta tb tc:TE}{pos:Pos}
theorem binT(Y:PE X a ta)(N:PE X b tb){pins:qO}{s:aq}{σ:St}{H:Hp}{R:V->V->Hp->Prop}(I:Inv X pins σ H s)
  (h:ta σ H fun x G=>tb σ G fun y l=>R x y l) {Q:qV} {f:ag->ag->Sem ag}
  (hf:∀v u s2 x y l,Inv X pins σ l s2->RelV x v->RelV y u->R x y l->wpAny (model X.prog X.w) X.A (f v u) Q X.xe s2) :
  wpAny (model X.prog X.w) X.A (eval a X.env) (fun v o=>wpAny (model X.prog X.w) X.A (eval b X.env) (fun u C=>wpAny (model X.prog X.w) X.A (f v u) Q X.xe C) X.xe o) X.xe s:=by
 refine thn (Y pins s σ H _ I h) fun v s1 ⟨x,G,Z,J,L⟩=>?_;refine thn (N pins s1 σ G _ Z L) fun u s2 ⟨y,l,S,r2,U⟩=>?_;exact hf v u s2 x y l S J r2 U
theorem JD{op:tJ}{r:R2}(o:OpR X (binaryOp op) r)(G:PE X a ta)(l:PE X b tb):PE X (.BinOp a op b pos) (tOp r ta tb):=by intro pins s σ H Q I h;exact wpAny_BinOp (binT G l I h fun v u s2 x y N C L J q=>o pins s2 σ N x y v u Q C L J q)
theorem zwR{op:UnaryOp}{r:V->Hp->VK->Prop}(C:UnR X (unaryOp op) r)(u:PE X a ta):PE X (.UnaryOp op a pos) (tUn r ta):=by intro pins s σ H Q I h;exact UnaryOp_ (thn (u pins s σ H _ I h) fun v s1 ⟨x,J,G,l,o⟩=>C pins s1 σ J x v Q G l o)
theorem opI{f:ag->ag->Sem ag}{C:Int->Int->Prop}{g:Int->Int->Int}
  (rule:∀(i j:Int) (t u:Tok) (s:aq) (Q:qV) (E:qV),C i j->Q (.int (g i j) s.toks) { s with toks:=s.toks+1 }->wpAny (model X.prog X.w) X.A (f (.int i t) (.int j u)) Q E s) :
  OpR X f (rI C fun i j=>.int (g i j)):=by
 intro pins s σ H x y v u Q I o l h;obtain⟨i,j,rfl,rfl,hc,q⟩:=h;obtain⟨t,rfl⟩:=o;obtain⟨t',rfl⟩:=l;exact rule i j t t' s _ _ hc ⟨.int (g i j),H,I.tok _,⟨_,rfl⟩,q⟩
theorem opI0{f:ag->ag->Sem ag}{g:Int->Int->Int}
  (rule:∀(i j:Int) (t u:Tok) (s:aq) (Q:qV) (E:qV),Q (.int (g i j) s.toks) { s with toks:=s.toks+1 }->wpAny (model X.prog X.w) X.A (f (.int i t) (.int j u)) Q E s) :
  OpR X f (rI0 fun i j=>.int (g i j)):=by
 intro pins s σ H x y v u Q I o l h;obtain⟨i,j,rfl,rfl,q⟩:=h;obtain⟨t,rfl⟩:=o;obtain⟨t',rfl⟩:=l;exact rule i j t t' s _ _ ⟨.int (g i j),H,I.tok _,⟨_,rfl⟩,q⟩
theorem opB0{f:ag->ag->Sem ag}{g:Int->Int->Bool}
  (rule:∀(i j:Int) (t u:Tok) (s:aq) (Q:qV) (E:qV),Q (.bool (g i j)) s->wpAny (model X.prog X.w) X.A (f (.int i t) (.int j u)) Q E s) :
  OpR X f (rI0 fun i j=>.bl (g i j)):=by
 intro pins s σ H x y v u Q I G C h;obtain⟨i,j,rfl,rfl,q⟩:=h;obtain⟨t,rfl⟩:=G;obtain⟨t',rfl⟩:=C;exact rule i j t t' s _ _ ⟨.bl (g i j),H,I,rfl,q⟩
def CPow(i j:Int):Prop:=0<=j/\j<=1000000/\i.natAbs<2 ^ 64
def CMul(i j:Int):Prop:=(-(2 ^ 64)<i/\i<2 ^ 64)\/(-(2 ^ 64)<j/\j<2 ^ 64)
theorem CMul.ok{i j:Int}(h:CMul i j):IntMulOk i j:=by rcases h with⟨h1,u⟩|⟨h1,u⟩;exact .of_left (intBits_le_64 h1 u);exact .of_right (intBits_le_64 h1 u)
theorem zkC(k:Nat):(0:Int)<=2 ^ k:=by rw[two_pow_cast];exact lM _
theorem Q5:OpR X (binaryOp .Add) (rI0 fun i j=>.int (i+j)):=opI0 fun _ _ _ _ _ _ _ q=>add_int q
theorem ztG:OpR X (binaryOp .Sub) (rI0 fun i j=>.int (i - j)):=opI0 fun _ _ _ _ _ _ _ q=>sub_int q
theorem Q6:OpR X (binaryOp .Mult) (rI CMul fun i j=>.int (i*j)):=opI fun _ _ _ _ _ _ _ hc q=>mul_int q hc.ok
theorem UO:OpR X (binaryOp .Mod) (rI (fun _ j=>0<j) fun i j=>.int (i % j)):=opI fun i j _ _ _ _ _ hc q=>by have h1:(0:Int)<j:=hc;exact mod_int' (by lia) (by rw[Int.fmod_eq_emod_of_nonneg i (by lia)];exact q)
theorem ztJ:OpR X (binaryOp .Pow) (rI CPow fun i j=>.int (i ^ j.toNat)):=opI fun _ _ _ _ _ _ _ hc q=>pow_int_small hc.1 hc.2.1 hc.2.2 q
theorem ztI:OpR X (binaryOp .LShift) (rI CPow fun i j=>.int (i*2 ^ j.toNat)):=opI fun _ _ _ _ _ _ _ hc q=>lshift_int_small hc.1 hc.2.1 hc.2.2 q
theorem ztH:OpR X (binaryOp .RShift) (rI (fun _ j=>0<=j) fun i j=>.int (i / 2 ^ j.toNat)):=opI fun i j _ _ _ _ _ hc q =>
 rshift_int hc (by rw[lN i (zkC _)];exact q)
theorem ztR:OpR X (binaryOp .BitAnd) (rI0 fun i j=>.int (gU i j)):=opI0 fun _ _ _ _ _ _ _ q=>and_int q
theorem ztF:OpR X (binaryOp .BitXor) (rI0 fun i j=>.int (cL i j)):=opI0 fun _ _ _ _ _ _ _ q=>xor_int q
theorem unI{f:ag->Sem ag}{g:Int->Int}
  (rule:∀(i:Int) (t:Tok) (s:aq) (Q:qV) (E:qV),Q (.int (g i) s.toks) { s with toks:=s.toks+1 }->wpAny (model X.prog X.w) X.A (f (.int i t)) Q E s) :
  UnR X f (rU fun i=>.int (g i)):=by
 intro pins s σ H x v Q I l h;obtain⟨i,rfl,q⟩:=h;obtain⟨t,rfl⟩:=l;exact rule i t s _ _ ⟨.int (g i),H,I.tok _,⟨_,rfl⟩,q⟩
theorem zsB:UnR X (unaryOp .USub) (rU fun i=>.int (-i)):=unI fun _ _ _ _ _ q=>neg_int q
end
def scal:V->V->Bool
 | .non,.non=>true|.non,.int _=>true|.int _,.non=>true|.non,.bl _=>true|.bl _,.non=>true|.non,.str _=>true|.str _,.non=>true
 | .int _,.int _=>true|.bl _,.bl _=>true|.str _,.str _=>true|.byt _,.byt _=>true
 | .int _,.str _=>true|.str _,.int _=>true|.bl _,.str _=>true|.str _,.bl _=>true
 | _,_=>false
def rEq:R2:=fun x y H Q=>scal x y=true/\Q (.bl (decide (x=y))) H
def rNe:R2:=fun x y H Q=>scal x y=true/\Q (.bl (!decide (x=y))) H
theorem znz{i j:Int}:decide (V.int i=V.int j)=(i == j):=by rw[dE];simp
theorem zqg{i j:Bool}:decide (V.bl i=V.bl j)=(i == j):=by rw[dE];simp
theorem zny{i j:Str}:decide (V.str i=V.str j)=(i == j):=by rw[dE];simp
theorem znA{i j:Array UInt8}:decide (V.byt i=V.byt j)=(i.toList == j.toList):=by rw[dE];cases i;cases j;simp
section
variable{X:Cx}{a b c:aY}{ta tb tc:TE}{pos:Pos}
theorem Jv{pins:qO}{σ:St}{H:Hp}{s:aq}{Q:VK}{k u:Bool}(I:Inv X pins σ H s)(q:Q (.bl k) H)(e:k=u):EP X pins σ Q (.bool u) s:=by subst e;exact⟨.bl k,H,I,rfl,q⟩
theorem zwY:OpR X (compareOp .Eq) rEq:=by
 intro pins s σ H x y v u Q I C l h;obtain⟨o,q⟩:=h;cases x with
 | non =>
  cases C;cases y with
  | non=>cases l;exact uf (Jv I q (by simp))
  | bl j=>cases l;exact ug (Jv I q (by simp))
  | int j=>obtain⟨t',rfl⟩:=l;exact uN (Jv I q (by simp))
  | str j=>obtain⟨t',rfl⟩:=l;exact uO (Jv I q (by simp))
  | _=>exact absurd (show false=true from o) aQ
 | bl i =>
  cases C;cases y with
  | non=>cases l;exact uh (Jv I q (by simp))
  | bl j=>cases l;exact eq_bool (Jv I q zqg)
  | str j=>obtain⟨t',rfl⟩:=l;exact uj (Jv I q (by simp))
  | _=>exact absurd (show false=true from o) aQ
 | int i =>
  obtain⟨t,rfl⟩:=C;cases y with
  | non=>cases l;exact uP (Jv I q (by simp))
  | int j=>obtain⟨t',rfl⟩:=l;exact eq_int (Jv I q znz)
  | str j=>obtain⟨t',rfl⟩:=l;exact uQ (Jv I q (by simp))
  | _=>exact absurd (show false=true from o) aQ
 | str i =>
  obtain⟨t,rfl⟩:=C;cases y with
  | non=>cases l;exact uR (Jv I q (by simp))
  | bl j=>cases l;exact um (Jv I q (by simp))
  | int j=>obtain⟨t',rfl⟩:=l;exact uS (Jv I q (by simp))
  | str j=>obtain⟨t',rfl⟩:=l;exact eq_str (Jv I q zny)
  | _=>exact absurd (show false=true from o) aQ
 | byt i =>
  obtain⟨t,rfl⟩:=C;cases y with
  | byt j=>obtain⟨t',rfl⟩:=l;exact PySem.W.eq_bytes (Jv I q znA)
  | _=>exact absurd (show false=true from o) aQ
 | _=>cases y <;> exact absurd (show false=true from o) aQ
theorem zwW:OpR X (compareOp .NotEq) rNe:=by
 intro pins s σ H x y v u Q I G l h;obtain⟨C,q⟩:=h;cases x with
 | non =>
  cases G;cases y with
  | non=>cases l;exact uo (Jv I q (by simp))
  | bl j=>cases l;exact uq (Jv I q (by simp))
  | int j=>obtain⟨t',rfl⟩:=l;exact uT (Jv I q (by simp))
  | str j=>obtain⟨t',rfl⟩:=l;exact uU (Jv I q (by simp))
  | _=>exact absurd (show false=true from C) aQ
 | bl i =>
  cases G;cases y with
  | non=>cases l;exact ur (Jv I q (by simp))
  | bl j=>cases l;exact ne_bool (Jv I q (congrArg not zqg))
  | str j=>obtain⟨t',rfl⟩:=l;exact uu (Jv I q (by simp))
  | _=>exact absurd (show false=true from C) aQ
 | int i =>
  obtain⟨t,rfl⟩:=G;cases y with
  | non=>cases l;exact uV (Jv I q (by simp))
  | int j=>obtain⟨t',rfl⟩:=l;exact ne_int (Jv I q (congrArg not znz))
  | str j=>obtain⟨t',rfl⟩:=l;exact uW (Jv I q (by simp))
  | _=>exact absurd (show false=true from C) aQ
 | str i =>
  obtain⟨t,rfl⟩:=G;cases y with
  | non=>cases l;exact uX (Jv I q (by simp))
  | bl j=>cases l;exact uv (Jv I q (by simp))
  | int j=>obtain⟨t',rfl⟩:=l;exact uY (Jv I q (by simp))
  | str j=>obtain⟨t',rfl⟩:=l;exact ne_str (Jv I q (congrArg not zny))
  | _=>exact absurd (show false=true from C) aQ
 | byt i =>
  obtain⟨t,rfl⟩:=G;cases y with
  | byt j=>obtain⟨t',rfl⟩:=l;exact PySem.W.ne_bytes (Jv I q (congrArg not znA))
  | _=>exact absurd (show false=true from C) aQ
 | _=>cases y <;> exact absurd (show false=true from C) aQ
theorem ztM:OpR X (compareOp .Lt) (rI0 fun i j=>.bl (decide (i<j))):=opB0 fun _ _ _ _ _ _ _ q=>lt_int q
theorem zwX:OpR X (compareOp .LtE) (rI0 fun i j=>.bl (decide (i<=j))):=opB0 fun _ _ _ _ _ _ _ q=>le_int q
theorem Uk:OpR X (compareOp .Gt) (rI0 fun i j=>.bl (decide (j<i))):=opB0 fun _ _ _ _ _ _ _ q=>gt_int q
theorem zre:OpR X (compareOp .GtE) (rI0 fun i j=>.bl (decide (j<=i))):=opB0 fun _ _ _ _ _ _ _ q=>ge_int q
theorem zmE:OpR X (compareOp .Lt) (fun x y H Q=>∃i j,x=.str i/\y=.str j/\Q (.bl (decide (i.cps.toList<j.cps.toList))) H):=by intro pins s σ H x y v u Q I C o h;obtain⟨i,j,rfl,rfl,q⟩:=h;obtain⟨t,rfl⟩:=C;obtain⟨t',rfl⟩:=o;exact lt_str (Jv I q rfl)
theorem ztO:OpR X (compareOp .Is) (fun x y H Q=>y=.non/\Q (.bl (decide (x=.non))) H):=by
 intro pins s σ H x y v u Q I C G h;obtain⟨rfl,q⟩:=h;cases G;refine is_none_gen (Jv I q ?_);cases x <;> first
  | (cases C;rfl)
  | (obtain⟨t,rfl⟩:=C;rfl)
theorem zrd:OpR X (compareOp .IsNot) (fun x y H Q=>y=.non/\Q (.bl (!decide (x=.non))) H):=by
 intro pins s σ H x y v u Q I C G h;obtain⟨rfl,q⟩:=h;cases G;refine isnot_none_gen (Jv I q ?_);cases x <;> first
  | (cases C;rfl)
  | (obtain⟨t,rfl⟩:=C;rfl)
theorem OpR.or{f:ag->ag->Sem ag}{r C:R2}(h:OpR X f r)(h':OpR X f C):OpR X f (fun x y H Q=>r x y H Q\/C x y H Q):=by intro pins s σ H x y v u Q I l o q;rcases q with q|q;exact h pins s σ H x y v u Q I l o q;exact h' pins s σ H x y v u Q I l o q
theorem Jf(b:aY){op:xC}(h:op≠.In:=by decide)(v:op≠.NotIn:=by decide):behindInMarks op b=false:=by
 have l:(op == CmpOp.In)=false:=by cases op <;> first|rfl|exact absurd rfl h
 have u:(op == CmpOp.NotIn)=false:=by cases op <;> first|rfl|exact absurd rfl v
 cases b <;> simp[behindInMarks,l,u]
theorem zmz{op:xC}{r:R2}(G:OpR X (compareOp op) r)(L:PE X a ta)(l:PE X b tb)(R:behindInMarks op b=false):PE X (.Compare a [op] [b] pos) (tOp r ta tb):=by intro pins s σ H Q I h;exact wpAny_Compare1 (binT L l I h fun v u s2 x y U J S N q=>G pins s2 σ U x y v u Q J S N q) R
def zv_(t:TE):TT:=fun σ H Q=>t σ H fun x H'=>∃k,x=.bl k/\Q k H'
theorem ziR{op:xC}{r:R2}(L:OpR X (compareOp op) r)(Z:PE X a ta)(J:PE X b tb)(hm:behindInMarks op b=false):PT X (.Compare a [op] [b] pos) (zv_ (tOp r ta tb)):=by
 intro pins s σ H Q I h;refine wpAny_isTrue_Compare1 (thn (Z pins s σ H _ I h) fun v s1 ⟨x,H1,I1,l,G⟩=>thn (J pins s1 σ H1 _ I1 G) fun u s2 ⟨y,H2,N,r2,R⟩ =>
  thn (L pins s2 σ H2 x y v u _ N l r2 R) fun c s3 ⟨z,S,U,r3,k,e,Y⟩=>?_) hm
 subst e;cases r3;exact cZ ⟨S,U,Y⟩
def zsJ(r I:R2)(ta tb tc:TE):TE:=fun σ H Q=>ta σ H fun x C=>tb σ C fun y v=>r x y v fun z o=>∃k,z=.bl k /\
 (if k=true then tc σ o fun u G=>I y u G Q else Q (.bl false) o)
theorem zoV{op G:xC}{r L:R2}(ho:OpR X (compareOp op) r)(J:OpR X (compareOp G) L)(ha:PE X a ta)(hb:PE X b tb)(hc:PE X c tc)
  (hm:lastMarks [op,G] [b,c]=false:=by with_unfolding_all rfl):PE X (.Compare a [op,G] [b,c] pos) (zsJ r L ta tb tc):=by
 intro pins s σ H Q I h;refine Compare_chain (thn (ha pins s σ H _ I h) fun v s1 ⟨x,H1,I1,Y,q1⟩=>chain_link (thn (hb pins s1 σ H1 _ I1 q1) fun u s2 ⟨y,H2,I2,U,q2⟩ =>
  thn (ho pins s2 σ H2 x y v u _ I2 Y U q2) fun d s3 ⟨z,N,R,r3,k,e,S⟩=>?_)) hm
 subst e;cases r3;refine cZ ?_;cases k with
 | false=>exact ite_ff ⟨.bl false,N,R,rfl,S⟩
 | true=>exact ite_tt (chain_last (thn (hc pins s3 σ N _ R S) fun w' s4 ⟨z',H4,I4,Z,q4⟩=>J pins s4 σ H4 y z' u w' Q I4 U Z q4))
def TruV(K:qF)(x:V)(H:Hp)(k:Bool):Prop :=
 match x with
 | .non=>k=false
 | .bl b=>k=b
 | .int i=>k=(i != 0)
 | .str y=>y.length<=sizeLine/\k=((y.length:Int) != 0)
 | .byt y=>y.size<=sizeLine/\k=((y.size:Int) != 0)
 | .ref p=>(∃xs,SqL K H p xs/\k=!xs.isEmpty)\/(∃xs,SqT K H p xs/\k=!xs.isEmpty)\/∃u,H p=some (.dK u)/\k=!u.isEmpty
 | _=>False
theorem zlk{o:Type}{l:List (o×V)}{vs:List (o×ag)}(r:KV l vs):(!vs.isEmpty)=!l.isEmpty:=by cases r <;> rfl
theorem zgh{xs:List V}{its:List ag}(r:Vals xs its):(!its.toArray.isEmpty)=!xs.isEmpty:=by cases r <;> simp
theorem UL:(sizeLine:Nat)<2 ^ 63:=by rw[kO];decide
theorem zsD:TruR X (fun x H Q=>∃k,TruV X.K x H k/\Q k H):=by
 intro pins s σ H x v Q I G h;obtain⟨k,e,q⟩:=h;have R:=UL;have N:sizeLine=16777216:=kO;cases x with
 | non =>cases G;have o:k=false:=e;subst o;exact truthy_none ⟨H,I,q⟩
 | bl b =>cases G;have o:k=b:=e;subst o;exact cZ ⟨H,I,q⟩
 | int i =>obtain⟨t,rfl⟩:=G;have o:k=(i != 0):=e;subst o;exact PySem.P.truthy_int ⟨H,I,q⟩
 | str y =>obtain⟨t,rfl⟩:=G;obtain⟨L,o⟩:y.length<=sizeLine/\k=((y.length:Int) != 0):=e;subst o;exact PySem.P.truthy_str (by lia) ⟨H,I.tok _,q⟩
 | byt y =>obtain⟨t,rfl⟩:=G;obtain⟨L,o⟩:y.size<=sizeLine/\k=((y.size:Int) != 0):=e;subst o;exact PySem.W.truthy_bytes (by lia) ⟨H,I.tok _,q⟩
 | ref p =>cases G;have o:(∃xs,SqL X.K H p xs/\k=!xs.isEmpty)\/(∃xs,SqT X.K H p xs/\k=!xs.isEmpty)\/∃u,H p=some (.dK u)/\k=!u.isEmpty:=e;rcases o with⟨xs,hx,o⟩|⟨xs,hx,o⟩|⟨u,hx,o⟩;subst o;obtain⟨its,r,pl,hz⟩:=I.list hx;have C:=r.length;exact wpAny_truthy_list pl.isList (by simp only[aB];lia) ⟨H,I.tok _,by rw[zgh r];exact q⟩;subst o;obtain⟨its,r,pl,hz⟩:=I.tuple hx;have C:=r.length;exact truthy_tuple pl (by simp only[aB];lia) ⟨H,I.tok _,by rw[zgh r];exact q⟩;subst o;obtain⟨hz,J,vs,r,m⟩:u.length<=sizeLine/\(p == sysModules)=false/\∃vs,KV u vs/\s.heap.DictOf (Jy X.prog X.w) p vs:=I.hok p _ hx;have C:u.length=vs.length:=cE r;exact wpAny_truthy_dict J m (by lia) ⟨H,I.tok _,by rw[zlk r];exact q⟩
 | _=>exact(show False from e).elim
theorem zoN(u:PE X a ta)(he:∀whole,isTrue a X.env whole=(do let v <- whole;standAt a.pos;holding [v] (truthy v))) :
  PT X a (fun σ H Q=>ta σ H fun x H'=>∃k,TruV X.K x H' k/\Q k H'):=by
 intro pins s σ H Q I h;exact isTrue_plain (thn (u pins s σ H _ I h) fun v s1 ⟨x,C,y,l,o⟩=>zsD pins s1 σ C x v Q y l o) (he _)
theorem zkR:OpR X (binaryOp .Add) (fun x y H Q=>∃i j,x=.str i/\y=.str j/\i.length+j.length<=sizeLine/\Q (.str (i++j)) H):=by intro pins s σ H x y v u Q I o l h;obtain⟨i,j,rfl,rfl,hz,q⟩:=h;obtain⟨t,rfl⟩:=o;obtain⟨t',rfl⟩:=l;exact add_str (fun t' tk=>⟨.str (i++j),H,I.tok _,⟨_,rfl⟩,q⟩) hz
theorem vals1{x:V}{l:List ag}(r:Vals [x] l):∃u,l=[u]/\RelV x u:=by
 cases r with
 | cons o v=>cases v;exact⟨_,rfl,o⟩
theorem vals2{x y:V}{l:List ag}(r:Vals [x,y] l):∃u o,l=[u,o]/\RelV x u/\RelV y o:=by
 cases r with
 | cons v G =>
  cases G with
  | cons I C=>cases C;exact⟨_,_,rfl,v,I⟩
theorem zpG:JK X (.builtin "abs") (fun xs H Q=>∃i,xs=[.int i]/\Q (.int (if i<0 then -i else i)) H):=by intro pins s σ H xs o Q I r h;obtain⟨i,rfl,q⟩:=h;obtain⟨u,rfl,t,rfl⟩:=vals1 r;exact call_abs_int fun u tk=>⟨.int (if i<0 then -i else i),H,I.tok _,⟨_,rfl⟩,q⟩
theorem zfy(hc:X.calm=true):JK X (.builtin "max") (fun xs H Q=>∃i j,xs=[.int i,.int j]/\Q (.int (if j > i then j else i)) H):=by intro pins s σ H xs o Q I r h;obtain⟨i,j,rfl,q⟩:=h;obtain⟨u,v,rfl,⟨t,rfl⟩,⟨t',rfl⟩⟩:=vals2 r;refine max_two_ints (I.ok.hd hc) fun h' tk k=>⟨_,H,I.kept k,?_,q⟩;by_cases hj:j > i;rw[if_pos hj,if_pos hj];exact⟨_,rfl⟩;rw[if_neg hj,if_neg hj];exact⟨_,rfl⟩
theorem Vg(hc:X.calm=true):JK X (.builtin "min") (fun xs H Q=>∃i j,xs=[.int i,.int j]/\Q (.int (if j<i then j else i)) H):=by intro pins s σ H xs o Q I r h;obtain⟨i,j,rfl,q⟩:=h;obtain⟨u,v,rfl,⟨t,rfl⟩,⟨t',rfl⟩⟩:=vals2 r;refine min_two_ints (I.ok.hd hc) fun h' tk k=>⟨_,H,I.kept k,?_,q⟩;by_cases hj:j<i;rw[if_pos hj,if_pos hj];exact⟨_,rfl⟩;rw[if_neg hj,if_neg hj];exact⟨_,rfl⟩
theorem znX:JK X (.type "int") (fun xs H Q=>(∃i,xs=[.int i]/\Q (.int i) H)\/∃k,xs=[.bl k]/\Q (.int (if k then 1 else 0)) H):=by intro pins s σ H xs v Q I r h;rcases h with⟨i,rfl,q⟩|⟨k,rfl,q⟩;obtain⟨u,rfl,t,rfl⟩:=vals1 r;exact call_int_int ⟨.int i,H,I,⟨_,rfl⟩,q⟩;obtain⟨u,rfl,o⟩:=vals1 r;cases o;exact call_int_bool ⟨.int (if k then 1 else 0),H,I.tok _,⟨_,rfl⟩,q⟩
def LenV(K:qF)(x:V)(H:Hp)(n:Nat):Prop :=
 match x with
 | .str y=>y.length<=sizeLine/\n=y.length
 | .byt y=>y.size<=sizeLine/\n=y.size
 | .ref p=>(∃xs,SqL K H p xs/\n=xs.length)\/∃xs,SqT K H p xs/\n=xs.length
 | _=>False
theorem Qq:JK X (.builtin "len") (fun xs H Q=>∃x n,xs=[x]/\LenV X.K x H n/\Q (.int n) H):=by
 intro pins s σ H xs N Q I r h;obtain⟨x,n,rfl,e,q⟩:=h;obtain⟨u,rfl,G⟩:=vals1 r;have R:=UL;have L:sizeLine=16777216:=kO;cases x with
 | str y =>obtain⟨t,rfl⟩:=G;obtain⟨J,v⟩:y.length<=sizeLine/\n=y.length:=e;subst v;exact len_str (by lia) ⟨.int _,H,I.tok _,⟨_,rfl⟩,q⟩
 | byt y =>obtain⟨t,rfl⟩:=G;obtain⟨J,v⟩:y.size<=sizeLine/\n=y.size:=e;subst v;exact PySem.W.len_bytes (by lia) ⟨.int _,H,I.tok _,⟨_,rfl⟩,q⟩
 | ref p =>cases G;have v:(∃xs,SqL X.K H p xs/\n=xs.length)\/∃xs,SqT X.K H p xs/\n=xs.length:=e;rcases v with⟨xs,hx,v⟩|⟨xs,hx,v⟩;subst v;obtain⟨its,C,pl,hz⟩:=I.list hx;have o:=C.length;exact oR pl.isList (by simp only[aB];lia) ⟨.int xs.length,H,I.tok _,⟨_,by simp only[aB];rw[o]⟩,q⟩;subst v;obtain⟨its,C,pl,hz⟩:=I.tuple hx;have o:=C.length;exact len_tuple pl (by simp only[aB];lia) ⟨.int xs.length,H,I.tok _,⟨_,by simp only[aB];rw[o]⟩,q⟩
 | _=>exact(show False from e).elim
end
structure ObjM(h:a9)(x dx C:aj)(mA:qM):Prop where
 obj:h.get? x=some (nM C dx)
 ns:h.Ns1 dx mA
 ne:dx≠x
theorem zmX{h:a9}{v:aj}{u:qM}(n:h.Ns1 v u):∃x,h.get? v=some x/\∀name,oh name x=some (u name):=by
 obtain⟨o,es,ep,G,hd,I,_,L⟩:=n;refine⟨o,G,fun name=>?_⟩;have e:=L name;unfold nsFind findBy at e;rw[<- Array.find?_toList]at e;unfold oh;rw[hd];dsimp only;split;rename_i y q;rw[q]at e;exact congrArg some e;rename_i q;rw[q]at e;have a:es.toList.any (·.refKey)=false:=by rw[mD];intro y J;obtain⟨z,t,l⟩:=I y (Array.mem_toList_iff.mp J);simp[DictEntry.refKey,l]
 have C:¬es.toList.any (·.refKey)=true:=by rw[a];exact aQ
 rw[if_neg C];exact congrArg some e
theorem ObjM.look{h:a9}{x o C:aj}{u:qM}(I:ObjM h x o C u):∃l,PySem.W.InstAt h x (nM C o) C (some l)/\∀name,oh name l=some (u name) :=
 let ⟨l,ho,hl⟩:=zmX I.ns
 ⟨l,⟨I.obj,rfl,rfl,ho⟩,hl⟩
section
variable{P:aL}{w:aZ}{H H':Hp}{h h':a9}{a C dx:aj}{fs fs':List (Str×V)}
theorem zrG(hok:HOk P w H h)(e:H a=some (.ins C dx fs)):∃l,ObjM h a dx C l/\(∀f,RelO (fs.lookup f) (l f))/\vU l (fs.map (·.1))/\fs.length<=1000/\H dx=some (.own a):=by obtain⟨d,z,ne,u,l,n,r,q⟩:=(show JC P w H h a (.ins C dx fs) from hok a _ e);exact⟨l,⟨u,n,ne⟩,r,q,z,d⟩
end
structure Cls(K:qF)(C:aj):Prop where
 pg:rP K C oN=true
 hd:PySem.W.hasDictIn K C=true
 po:PySem.W.plainOver K C=true
 sa:tM K (.ref C) "__setattr__" = some (some (.builtin "object.__setattr__"))
theorem Cls.get{K:qF}{C:aj}(c:Cls K C)(f:Str):rP K C f=true:=c.pg
section
variable{X:Cx}{pins:qO}{σ:St}{H:Hp}{s:aq}{A:bg}{E:qV}{Q:qV}{c:ag}{b:Bool}
inductive TyOf (K:qF)(H:Hp):V->ag->Prop where
 | non:TyOf K H .non (.type "NoneType")
 | bl (x:Bool):TyOf K H (.bl x) (.type "bool")
 | int (i:Int):TyOf K H (.int i) (.type "int")
 | str (x:Str):TyOf K H (.str x) (.type "str")
 | flt (x:UInt64):TyOf K H (.flt x) (.type "float")
 | lst {a:aj} {xs:List V} (e:H a=some (.lst xs)):TyOf K H (.ref a) (.type "list")
 | frz {a:aj} {o:Obj} {xs:List V} (e:H a=some (.frz o (.lst xs))):TyOf K H (.ref a) (.type "list")
 | tup {a:aj} {xs:List V} (e:H a=some (.tup xs)):TyOf K H (.ref a) (.type "tuple")
 | dK {a:aj} {kvs:List (Key×V)} (e:H a=some (.dK kvs)):TyOf K H (.ref a) (.type "dict")
 | dT {a:aj} {kvs:List (List Key×V)} (e:H a=some (.dT kvs)):TyOf K H (.ref a) (.type "dict")
 | ins {a C dx:aj} {fs:List (Str×V)} (e:H a=some (.ins C dx fs)) (cl:Cls K C) (ha:tM K (.ref C) "__class__" = some (some (.builtin "object.__class__")))
   (hn:PySem.W.specialIn K (.builtin "object.__class__") "__get__" = some (some (.builtin "getset_descriptor.__get__"))) (htk:PySem.W.takesIn K (.builtin "object.__class__")=some true)
   (hm:PySem.W.mroIn K C (.type "object")=some true):TyOf K H (.ref a) (.ref C)
theorem zm_{x:V}{u t:ag}(I:Inv X pins σ H s)(v:RelV x u)(ty:TyOf X.K H x t)(e:tN X.K t c=some b)(h:∀tk,Q (.bool b) { s with toks:=tk }) :
  wpAny (model X.prog X.w) A (call (.builtin "isinstance") [u,c]) Q E s:=by
 cases ty with
 | non=>cases(show u=b8 from v);exact bT PySem.W.kitx_none I.kIn iI e (fun z=>nomatch z) h
 | bl y=>cases(show u=ky y from v);exact bT PySem.W.kitx_bool I.kIn iI e (fun z=>nomatch z) h
 | int i=>obtain⟨t,q⟩:=(show ∃t,u=mV i t from v);cases q;exact bT PySem.W.kitx_int I.kIn iI e (fun z=>nomatch z) h
 | str y=>obtain⟨t,q⟩:=(show ∃t,u=rM y t from v);cases q;exact bT PySem.W.kitx_str I.kIn iI e (fun z=>nomatch z) h
 | flt y=>obtain⟨t,q⟩:=(show ∃t,u=xt y t from v);cases q;exact bT PySem.W.kitx_float I.kIn iI e (fun z=>nomatch z) h
 | @lst a xs ea =>cases(show u=aJ a from v);obtain⟨_,_,n,_,h1⟩:=(show JC X.prog X.w H s.heap a (.lst xs) from I.hok a _ ea);exact bT pV I.kIn ⟨_,h1,rfl⟩ e (fun z=>nomatch z) h
 | @frz a ob xs ea =>cases(show u=aJ a from v);obtain⟨_,_,_,n,_,h1⟩:=(show JC X.prog X.w H s.heap a (.frz ob (.lst xs)) from I.hok a _ ea);exact bT pV I.kIn ⟨_,h1,rfl⟩ e (fun z=>nomatch z) h
 | @tup a xs ea =>cases(show u=aJ a from v);obtain⟨_,_,_,p⟩:=(show JC X.prog X.w H s.heap a (.tup xs) from I.hok a _ ea);obtain⟨o,h1,G,_⟩:=p;exact bT pE I.kIn ⟨o,h1,G⟩ e (fun z=>nomatch z) h
 | @dK a kvs ea =>cases(show u=aJ a from v);obtain⟨_,_,vs,_,p⟩:=(show JC X.prog X.w H s.heap a (.dK kvs) from I.hok a _ ea);obtain⟨o,es,ep,h1,G,_⟩:=p;exact bT fG I.kIn ⟨o,h1,G.1⟩ e (fun z=>nomatch z) h
 | @dT a kvs ea =>cases(show u=aJ a from v);obtain⟨_,_,xs,_,o,es,ep,h1,G,_⟩:=(show JC X.prog X.w H s.heap a (.dT kvs) from I.hok a _ ea);exact bT fG I.kIn ⟨o,h1,G.1⟩ e (fun z=>nomatch z) h
 | @ins a C dx fs ea cl ha hn htk hm =>cases(show u=aJ a from v);obtain⟨L,O,_⟩:=zrG I.hok ea;obtain⟨N,J,_⟩:=O.look;exact bT (PySem.W.kitx_own (cl.get _) cl.hd ha hn htk hm) I.kIn J e (fun z=>nomatch z) h
end
structure Room(k:Nat)(A:bg):Prop where
 hd:A.handled=none
 dp:A.depth+3*k+5<recursionLimit
 un:A.units+16*k+200<cLine
 gd:A.guards=some []
theorem Room.mono{j k:Nat}{A:bg}(r:Room k A)(h:j<=k):Room j A:=⟨r.hd,by have:=r.dp;lia,by have:=r.un;lia,r.gd⟩
theorem Room.deeper{k:Nat}{A:bg}(r:Room (k+1) A)(env:Env):Room k (A.deeper env) :=
 ⟨r.hd,by have:=r.dp;show A.depth+1+3*k+5<_;lia,by have:=r.un;show A.units+3+16*k+200<_;lia,r.gd⟩
theorem Room.depth{k:Nat}{A:bg}(r:Room k A):A.depth<recursionLimit:=by have:=r.dp;lia
theorem Room.units{k:Nat}{A:bg}(r:Room k A):A.units+64<cLine:=by have:=r.un;lia
theorem Room.units0{k:Nat}{A:bg}(r:Room k A):A.units<cLine:=by have:=r.un;lia
def tNil:TA:=fun _ H Q=>Q [] H
def QE(l:TE)(v:TA):TA:=fun σ H Q=>l σ H fun x o=>v σ o fun xs u=>Q (x::xs) u
section
variable{X:Cx}{e:aY}{es:List aY}{te:TE}{t:TA}{pos:Pos}
theorem QY:PA X [] tNil:=fun _ _ _ _ H Q I h=>Calls.spliced_nil ⟨[],H,I,.nil,h⟩
theorem QT(L:PE X e te)(J:PA X es t)(y:starEach (e::es) X.env=(false,eval e X.env)::starEach es X.env:=by rfl):PA X (e::es) (QE te t):=by intro pos pins s σ H Q I h;rw[y];show wpAny _ _ (spliced ((false,eval e X.env)::backTo pos (starEach es X.env))) _ _ s;refine Calls.spliced_cons (thn (L pins s σ H _ I h) fun u s1 ⟨x,R,N,l,v⟩=>?_);exact thn (J pos pins s1 σ R _ N v) fun Y s2 ⟨xs,U,C,S,G⟩=>⟨x::xs,U,C,.cons l S,G⟩
def tTup(t:TA):TE:=fun σ H Q=>t σ H fun xs l=>xs.length<=sizeLine/\∀p,l p=none->Q (.ref p) (upd l p (.tup xs))
def tLst(t:TA):TE:=fun σ H Q=>t σ H fun xs o=>xs.length<=sizeLine/\∀p,o p=none->Q (.ref p) (upd o p (.lst xs))
theorem ztt{x1}(h:PA X es t):PE X (.Tuple es x1 pos) (tTup t):=by intro pins s σ H Q I x;refine wpAny_Tuple_spliced (thn (h pos pins s σ H _ I x) fun y s1 ⟨xs,v,o,r,z,q⟩=>⟨by rw[<- r.length];exact z,?_⟩);have hf:v s1.heap.objs.size=none:=o.hok.fresh (ar _);refine⟨.ref s1.heap.objs.size,upd v s1.heap.objs.size (.tup xs),o.laid (t':=s1.toks) (fun b u e=>ah _ e) (ar _) ?_,rfl,q _ hf⟩;exact⟨z,y,r,⟨_,aw _ rfl,rfl,⟨_,rfl⟩,rfl⟩⟩
theorem ztx(h:PA X es t):PE X (.List es pos) (tLst t):=by intro pins s σ H Q I x;refine wpAny_List_spliced (thn (h pos pins s σ H _ I x) fun y s1 ⟨xs,v,o,r,z,q⟩=>⟨by rw[<- r.length];exact z,?_⟩);have hf:v s1.heap.objs.size=none:=o.hok.fresh (ar _);refine⟨.ref s1.heap.objs.size,upd v s1.heap.objs.size (.lst xs),o.laid (t':=s1.toks) (fun b u e=>ah _ e) (ar _) ?_,rfl,q _ hf⟩;exact⟨z,y,0,r,aw _ rfl⟩
end
abbrev Sp:=List V->Hp->VK->XK->Prop
abbrev CXT:=List Env->Hp->aq->XK->ag->aq->Prop
structure Env0(P:aL)(w:aZ)(K:qF)(mg:qM)(base:a9)(A:bg)(outer:List Env)(s:aq)(H:Hp):Prop where
 frames:A.frames=some outer
 mod:Mod K mg base
 bs:∀b o,base.get? b=some o->s.heap.get? b=some o/\H b=none
 bsz:base.objs.size<=s.heap.objs.size
 funs:s.heap.FunFrames base outer
 frf:∀b∈frs outer,H b=none
 hok:HOk P w H s.heap
 bare:ly s.gens
def CE(outer:List Env)(P:aL)(w:aZ)(H:Hp)(s:aq)(Q:VK)(u:ag)(s':aq):Prop :=
 ∃v H',s'.os=s.os/\ly s'.gens/\Un (frs outer) [] H H' s.heap s'.heap/\HOk P w H' s'.heap/\RelV v u/\Q v H'
def CR(l:CXT)(outer:List Env)(P:aL)(w:aZ)(H:Hp)(s:aq)(Q:VK)(E:XK)(r:rQ)(s':aq):Prop :=
 match r with
 | .ok (.ret u)=>CE outer P w H s Q u s'
 | .ok _=>False
 | .error e=>l outer H s E e s'
structure FnOk(P:aL)(w:aZ)(K:qF)(mg:qM)(base:a9)(CX:CXT)(k:Nat)(f:aj)(fd:dM)(ps:List Str)(sp:Sp):Prop where
 len:∀vs H Q E,sp vs H Q E->vs.length=ps.length
 run:∀(A:bg) (outer:List Env) (s:aq) (H:Hp) (args:Args) (us:List ag) (vs:List V) (Q:VK) (E:XK),Room k A->Env0 P w K mg base A outer s H->tD s fd args (ps.zip us)->Vals vs us->sp vs H Q E ->
  codeAny (model P w) A (.call (.ref f) args) (CR CX outer P w H s Q E) s
theorem FnOk.imp{P:aL}{w:aZ}{K:qF}{mg:qM}{base:a9}{u:CXT}{k:Nat}{f:aj}{fd:dM}{ps:List Str}{o l:Sp}(F:FnOk P w K mg base u k f fd ps o)
  (h:∀vs H Q E,l vs H Q E->o vs H Q E):FnOk P w K mg base u k f fd ps l :=
 ⟨fun vs H Q E q=>F.len vs H Q E (h _ _ _ _ q),fun A outer s H args G vs Q E C he v y x=>F.run A outer s H args G vs Q E C he v y (h _ _ _ _ x)⟩
section
variable{X:Cx}{pins:qO}{σ:St}{H:Hp}{s s':aq}
theorem Inv.env0(I:Inv X pins σ H s):Env0 X.prog X.w X.K X.mg X.base X.A X.stack s H :=
 ⟨I.ok.frames,I.ok.mod,I.bs,b7 I.ok.bsz I.sz,I.stack,I.stkFree,I.hok,I.bare⟩
theorem Inv.after{Q:VK}{u:ag}(I:Inv X pins σ H s)(h:CE X.stack X.prog X.w H s Q u s'):EP X pins σ Q u s':=by obtain⟨v,H',os,bare,un,hok,r,q⟩:=h;obtain⟨o,g,d,t,l⟩:=s';obtain rfl:l=s.os:=os;exact⟨v,H',I.call (h':=o) (g':=g) (d':=d) (t':=t) (ch:=[]) un hok bare (fun b z=>absurd z (by simp)),r,q⟩
end
def zsK(o:Sp)(l:List V)(E:XK)(t:TA):TE:=fun σ H Q=>t σ H fun vs u=>o (vs++l) u Q E
def Binds(K:qF)(fd:dM)(ps:List Str)(ds:List ag):Prop :=
 ∀(s:aq) (o:List ag),K.In s.heap->(o++ds).length=ps.length->tD s fd ⟨o,[]⟩ (ps.zip (o++ds))
theorem Binds.all{K:qF}{fd:dM}{ps:List Str}(h:∀l:List ag,l.length=ps.length->bindArgs fd ⟨l,[]⟩=pure (ps.zip l)):Binds K fd ps []:=fun s l _ u=>by rw[cg]at u ⊢;exact .of_eq (h l u)
def zoa(l:CXT)(X:Cx)(E:XK):Prop:=∀(pins:qO) (σ:St) (H:Hp) (s:aq) (e:ag) (s':aq),Inv X pins σ H s->l X.stack H s E e s'->X.xe e s'
section
variable{X:Cx}{CX:CXT}{k:Nat}{f C:aj}{fd:dM}{ps:List Str}{sp:Sp}{dvs:List V}{ds:List ag}{E:XK}{x m:Str}{p pos apos:Pos}{e o:aY}{es:List aY}{ta:TE}{t:TA}
theorem zs9{pins:qO}{σ:St}{H:Hp}{s:aq}{Q:VK}{v:List ag}{vs:List V}(F:FnOk X.prog X.w X.K X.mg X.base CX k f fd ps sp)(L:Room k X.A)(J:Binds X.K fd ps ds)(hd:Vals dvs ds)(hx:zoa CX X E)
  (I:Inv X pins σ H s) (r:Vals vs v) (h:sp (vs++dvs) H Q E):wpAny (model X.prog X.w) X.A (call (.ref f) v) (EP X pins σ Q) X.xe s:=by
 have G:Vals (vs++dvs) (v++ds):=r.append hd;have N:(v++ds).length=ps.length:=by rw[<- G.length];exact F.len _ _ _ _ h
 refine wpAny_call (iS (F.run X.A X.stack s H ⟨v,[]⟩ (v++ds) (vs++dvs) Q E L I.env0 (J s v I.kIn N) G h) fun r s' y=>?_);cases r with
 | error e=>exact hx pins σ H s e s' I y
 | ok fl =>
  cases fl with
  | ret u=>exact I.after y
  | next=>exact eJ y
  | brk=>exact eJ y
  | cont=>exact eJ y
theorem zq8(F:FnOk X.prog X.w X.K X.mg X.base CX k f fd ps sp)(R:Room k X.A)(U:Gl X x)(Y:X.mg x=some (.ref f))(L:iT X.K (.ref f)=true)(J:Binds X.K fd ps ds)(hd:Vals dvs ds)(hx:zoa CX X E)
  (S:PA X (e::es) t) (u:(x == ("__debug__":Str))=false:=by decide) (he:starEach (e::es) X.env=(false,eval e X.env)::starEach es X.env:=by rfl) (v:(backTo pos (starEach es X.env)).any (·.1)=false:=by rfl) :
  PE X (.Call (.Name x p) (e::es) [] pos) (zsK sp dvs E t):=by
 intro pins s σ H Q I h;refine lO (zrv I U Y ?_ u);refine PySem.W.callWith_K (h₀:=X.base) I.ok.mod.kin L (thn (S pos pins s σ H _ I h) fun Z s1 ⟨vs,H1,G,r,q⟩=>⟨G.kIn,?_⟩) he v;exact zs9 F R J hd hx G r q
end
structure Uv(N P:List Str)(sc:fo):Prop where
 kind:sc.kind=.function
 co:sc.isCoroutine=false
 gen:sc.isGenerator=false
 nd:N.Nodup
 pre:N.take P.length=P
 par:∀x∈P,sc.names.lookup x=some .local\/sc.names.lookup x=some .cell
 nofree:∀y∈sc.names,y.2≠.free
theorem ziC{kindOf:Str->Option eT}{x:Str}:∀{binds:List (Str×ag)}{m:qM},(∀v,(x,v)∉binds)->bindL kindOf binds m x=m x
 | [],_,_=>rfl
 | (n,v)::r,m,h=>by
  unfold bindL;rw[ziC fun w hw=>h w (cw _ hw)];split;have:x≠n:=by rintro rfl;exact h v dI
  simp[this];rfl
theorem ziE{kindOf:Str->Option eT}{x:Str}:∀{binds:List (Str×ag)}{m:qM},(∀v,(x,v)∉binds)->bindC kindOf binds m x=m x
 | [],_,_=>rfl
 | (n,v)::r,m,h=>by
  unfold bindC;rw[ziE fun w hw=>h w (cw _ hw)];split;rfl;have:x≠n:=by rintro rfl;exact h v dI
  simp[this]
theorem ziD{kindOf:Str->Option eT}{x:Str}{v:ag}:∀{P:List Str}{vs:List ag}{i:Nat}{m:qM},P.Nodup->P[i]?=some x->vs[i]?=some v->kindOf x=some .local ->
  bindL kindOf (P.zip vs) m x=some v
 | [],_,_,_,_,h,_,_=>by simp at h
 | _::_,[],_,_,_,_,h,_=>by simp at h
 | p::P,w::vs,0,m,nd,h1,h2,hk=>by simp at h1 h2;subst h1;subst h2;show bindL kindOf ((p,w)::P.zip vs) m p=_;unfold bindL;rw[ziC fun v u=>(cj.mp nd).1 (dF u).1,if_pos hk];simp
 | p::P,w::vs,i+1,m,nd,h1,h2,hk=>by show bindL kindOf ((p,w)::P.zip vs) m x=_;unfold bindL;exact ziD (i:=i) (cj.mp nd).2 (by simpa using h1) (by simpa using h2) hk
theorem ziF{kindOf:Str->Option eT}{x:Str}{v:ag}:∀{P:List Str}{vs:List ag}{i:Nat}{m:qM},P.Nodup->P[i]?=some x->vs[i]?=some v->kindOf x≠some .local ->
  bindC kindOf (P.zip vs) m x=some v
 | [],_,_,_,_,h,_,_=>by simp at h
 | _::_,[],_,_,_,_,h,_=>by simp at h
 | p::P,w::vs,0,m,nd,h1,h2,hk=>by simp at h1 h2;subst h1;subst h2;show bindC kindOf ((p,w)::P.zip vs) m p=_;unfold bindC;rw[ziE fun v u=>(cj.mp nd).1 (dF u).1,if_neg hk];simp
 | p::P,w::vs,i+1,m,nd,h1,h2,hk=>by show bindC kindOf ((p,w)::P.zip vs) m x=_;unfold bindC;exact ziF (i:=i) (cj.mp nd).2 (by simpa using h1) (by simpa using h2) hk
def start(N:List Str)(vs:List V):St:=vs.map some++fT (N.length - vs.length) none
def cxOf(o:CXT)(P:aL)(w:aZ)(K:qF)(mg:qM)(base:a9)(N:List Str)(qual:Str)(scope:fo)(f:aj)(cd:ag)(A:bg)(outer:List Env)(s:aq)(H:Hp)(E:XK):Cx where
 prog:=P
 w:=w
 K:=K
 mg:=mg
 base:=base
 A:=A.deeper (envOfC qual scope s.heap.objs.size f cd)
 N:=N
 s₀:=s
 H₀:=H
 env:=envOfC qual scope s.heap.objs.size f cd
 outer:=outer
 stack:=envOfC qual scope s.heap.objs.size f cd::outer
 ex:=[]
 calm:=true
 fn:=fun _=>true
 pn:=[]
 xe:=fun e s'=>wpAny (model P w) (A.deeper (envOfC qual scope s.heap.objs.size f cd)) (leaving (envOfC qual scope s.heap.objs.size f cd) e) (fun _ l=>o outer H s E e l) (fun u l=>o outer H s E u l) s'
theorem zkv{sc:fo}{n:Nat}{x:Str}(h:sc.names.lookup x=some .cell):∃c,(cellsFrom n sc.names []).lookup x=some c:=by have q:=gf sc.names n [] (.inl h);exact ic.mp q
theorem znc{Z:CXT}{P:aL}{w:aZ}{K:qF}{mg:qM}{base:a9}{N ps:List Str}{qual:Str}{scope:fo}{f:aj}{cd:ag}{A:bg}{outer:List Env}{s s1:aq}{H:Hp}{E:XK}{R:List ag}{vs:List V}
  (S:Uv N ps scope) (hd:A.handled=none) (C:Env0 P w K mg base A outer s H) (hl:vs.length=ps.length) (r:Vals vs R)
  (x:InCallC s s.heap.objs.size (bindL (envOfC qual scope s.heap.objs.size f cd).kindOf (ps.zip R) fun _=>none) (cellsFrom (s.heap.objs.size+1) scope.names []) (bindC (envOfC qual scope s.heap.objs.size f cd).kindOf (ps.zip R) fun _=>none) s1) :
  Inv (cxOf Z P w K mg base N qual scope f cd A outer s H E) [] (start N vs) H s1:=by
 have hpl:ps.length<=N.length:=by have:=congrArg c8 S.pre;rw[fU]at this;lia
 obtain⟨h1,tk,rfl,U⟩:=x.done;have I:∀b:aj,b∉(cxOf Z P w K mg base N qual scope f cd A outer s H E).ex:=fun b z=>absurd (show b∈([]:List aj) from z) (by simp);refine⟨⟨C.mod,S.kind,rfl,rfl,ar _,fun y z c h1 o=>?_,fun y G=>?_,fun y c _ h=>?_,fun _=>hd,Around.frames_deeper C.frames,.inr ⟨rfl,rfl⟩,fun b z=>absurd z (I b),C.bs,C.bsz,fun b _ _=>I b,fun b z=>absurd z (I b),C.funs,C.frf⟩,
  rfl,C.bare,Un.kept U,⟨_,x.toInCall.ns,fun i y v h1 o h3=>?_⟩,fun y c h=>⟨_,x.cell y c h⟩,C.hok.fresh (ar _),fun y c h=>?_,fun p L=>absurd (show p∈([]:qO) from L) (by simp),C.hok.kept U,?_⟩
 exact name_of_addr x.apart (fO h1) (fO o);have G:scope.names.lookup y=some .cell\/scope.names.lookup y=some .free:=G;rcases G with G|G;exact zkv G;exact absurd rfl (S.nofree _ (fO G));exact fh (x.above y c (fO h));have hi:i<vs.length:=by unfold start at o;by_cases hi:i<vs.length;exact hi;rw[cm (by simpa using hi)]at o;rw[eV]at o;split at o <;> cases o
 have ha:vs[i]?=some v:=by
  unfold start at o;rw[bV (by simpa using hi),aT]at o;cases e:vs[i]? with
  | none=>rw[e]at o;cases o
  | some a=>rw[e]at o;cases o;rfl
 obtain⟨u,Y,rv⟩:=r.get ha;have L:ps[i]?=some y:=by rw[<- S.pre,ig (by lia)];exact h1
 have J:ps.Nodup:=by rw[<- S.pre];exact S.nd.sublist (pW _ _)
 refine⟨u,rv,?_⟩;rcases S.par y (aA L) with k|k;exact .inl ⟨k,ziD J L Y k⟩;obtain⟨c,e⟩:=zkv (n:=s.heap.objs.size+1) k;refine .inr ⟨.inl k,c,e,?_⟩;have q:=x.cell y c e;rw[ziF J L Y (by show scope.names.lookup y≠_;rw[k];decide)]at q;exact q;exact C.hok.fresh (fh (x.above y c (fO h)));unfold start;show _=N.length;rw[ba,aG,nU];lia
theorem zxD{U:CXT}{P:aL}{w:aZ}{K:qF}{mg:qM}{base:a9}{k:Nat}{f:aj}{name qual:Str}{params:Arguments}{body:List fc}{scope:fo}{dV kV doc pm C ct oc:ag}{an od:Option aj}
  {osl:Array (Option ag)} {N ps:List Str} {Z:Sp} (lk:K.lookup f=some ⟨oc,od,.func (dX name qual params body scope dV kV doc pm an C ct),osl⟩) (hcd:iU K C qual=true) (S:Uv N ps scope)
  (len:∀vs H Q E,Z vs H Q E->vs.length=ps.length)
  (Mt:∀(A:bg) (outer:List Env) (s:aq) (H:Hp) (vs:List V) (Q:VK) (E:XK),Room k (A.deeper (envOfC qual scope s.heap.objs.size f C))->Z vs H Q E ->
   ∃t,PSs (cxOf U P w K mg base N qual scope f C A outer s H E) body t/\t { nx:=fun _ H'=>Q .non H',rt:=Q } (start N vs) H) :
  FnOk P w K mg base U (k+1) f (dX name qual params body scope dV kV doc pm an C ct) ps Z:=by
 refine⟨len,fun A outer s H args us vs Q E Y L hb r R=>?_⟩;have hl:=len _ _ _ _ R;have KX:K.In s.heap:=L.mod.kin.keeps fun b o e=>(L.bs b o e).1;have lim:s.heap.NoLimit:=L.mod.nolimit.keeps fun b o e=>(L.bs b o e).1;have Mo:∀y∈ps.zip us,scope.names.lookup y.1=some .local\/(scope.names.lookup y.1=some .cell/\((cellsFrom (s.heap.objs.size+1) scope.names []).lookup y.1).isSome=true):=fun⟨n,v⟩ hy=>by rcases S.par n (dF hy).1 with q|q;exact .inl q;exact .inr ⟨q,gf _ _ _ (.inl q)⟩
 refine codeAny_call_function Y.depth (KX _ _ lk) rfl S.co S.gen rfl (PySem.W.codeRec_of KX hcd) (hb _ _ _ _ ?_);refine wpAny_newFunctionEnv_cells S.kind Mo fun env he s1 x=>?_;subst he;refine⟨lim.keeps x.toInCall.keep,codeAny_func ?_⟩;obtain⟨t,ht,hq⟩:=Mt A outer s H vs Q E (Y.deeper _) R;have I:Inv (cxOf U P w K mg base N qual scope f C A outer s H E) [] (start N vs) H s1:=znc S Y.hd L hl r x;refine cz (ht [] s1 (start N vs) H _ I hq) (fun fl s' G=>?_) fun e s' G=>G;have fin:∀{σ':St} {H':Hp} {v:V} {u:ag},Inv (cxOf U P w K mg base N qual scope f C A outer s H E) [] σ' H' s'->RelV v u->Q v H'->CE outer P w H s Q u s' :=
  fun {σ' H' v u} J rv q=>⟨v,H',J.os,J.bare,J.base,J.hok,rv,q⟩
 cases fl with
 | ret u =>obtain⟨v,σ',H',J,rv,q⟩:=G;exact fin J rv q
 | next =>obtain⟨σ',H',J,q⟩:=G;exact fin (v:=V.non) (u:=b8) J rfl q
 | brk =>obtain⟨_,_,_,q⟩:=G;exact eJ q
 | cont =>obtain⟨_,_,_,q⟩:=G;exact eJ q
section
variable{X:Cx}{x:Str}{p pos:Pos}{e:aY}{es:List aY}{t:TA}{id T:String}{r:List V->Hp->VK->Prop}
def tCB(r:List V->Hp->VK->Prop)(t:TA):TE:=fun σ H Q=>t σ H fun vs l=>r vs l Q
theorem zoW(hc:JK X (.builtin id) r)(hg:Gl X x)(hm:X.mg x=none)(L:bootBuiltins x=some (.builtin id))(U:PA X (e::es) t)(R:x ≠ "__name__":=by decide) (o:(x == ("__debug__":Str))=false:=by decide)
  (he:starEach (e::es) X.env=(false,eval e X.env)::starEach es X.env:=by rfl) (v:(backTo pos (starEach es X.env)).any (·.1)=false:=by rfl):PE X (.Call (.Name x p) (e::es) [] pos) (tCB r t):=by
 intro pins s σ H Q I h;refine lO (YJ I hg hm L ?_ R o);exact rR (thn (U pos pins s σ H _ I h) fun S s1 ⟨vs,Z,Y,G,J⟩=>hc pins s1 σ Z vs S Q Y G J) he v
theorem zhN(hc:JK X (.type T) r)(Z:Gl X x)(hm:X.mg x=none)(J:bootBuiltins x=some (.type T))(S:PA X (e::es) t)(L:x ≠ "__name__":=by decide) (o:(x == ("__debug__":Str))=false:=by decide)
  (he:starEach (e::es) X.env=(false,eval e X.env)::starEach es X.env:=by rfl) (u:(backTo pos (starEach es X.env)).any (·.1)=false:=by rfl):PE X (.Call (.Name x p) (e::es) [] pos) (tCB r t):=by
 intro pins s σ H Q I h;refine lO (YJ I Z hm J ?_ L o);exact fi (thn (S pos pins s σ H _ I h) fun R s1 ⟨vs,Y,U,v,G⟩=>hc pins s1 σ Y vs R Q U v G) he u
end
end L2
namespace HT
open PySem PyProof.Rows
def lexLt:List Int->List Int->Bool
 | [],[]=>false
 | [],_::_=>true
 | _::_,[]=>false
 | x::xs,y::ys=>if x=y then lexLt xs ys else decide (x<y)
theorem zk2(x y:Int)(xs ys:List Int):lexLt (x::xs) (y::ys)=if x=y then lexLt xs ys else decide (x<y):=rfl
theorem zgQ:lexLt [] []=false:=rfl
theorem zfE(y:Int)(ys:List Int):lexLt [] (y::ys)=true:=rfl
theorem zfF(x:Int)(xs:List Int):lexLt (x::xs) []=false:=rfl
theorem zpr(A:bg)(s:aq)(a:Int)(t:Tok)(c:Int)(u:Tok):∃e,pF A s (.int a t) (.int c u) e/\(e=true↔a=c) :=
 ⟨(a == c),iJ a t c u,by simp⟩
theorem zoG(A:bg)(s:aq)(a:Int)(t:Tok)(c:Int)(u:Tok)(prog:aL)(w:aZ)(E:qV)(Q:qV)(h:Q (.bool (decide (a<c))) s) :
  wpAny (model prog w) A (richCompare .Lt (.int a t) (.int c u)) Q E s :=
 (yr h:wpAny (model prog w) A (compareOp .Lt (.int a t) (.int c u)) Q E s)
section
open PySem.SeqAt
open PySem.AutoSeq1 (wpAny_loadPart')
open PySem.MeetsSeq PySem.MeetsSeq2 PySem.MeetsSeq3
theorem zgs(l b:aj)(items U:Array ag)(n n2:Nat)(dd dd2:Option aj)(sl sl2:Array (Option ag))(ns ms:List Int)(hi:gO items.toList ns)(hj:gO U.toList ms) :
  Meets (cc.«tuple.__lt__» ⟨[.ref l,.ref b],[]⟩)
   (fun _ R s=>s.heap.get? l=some { cls:=.type "tuple",dict:=dd,data:=.seq items n,slots:=sl }/\s.heap.get? b=some { cls:=.type "tuple",dict:=dd2,data:=.seq U n2,slots:=sl2 } /\
    R (.ok (.ret (.bool (lexLt ns ms)))) s) :=
 .of_wp fun prog w A R s h=>by
  obtain⟨hp,g,d,tk,os⟩:=s;obtain⟨hl,hb,h⟩:=h;have f2:=AutoSeq1.sub_tuple_tuple;have z1:items.size=ns.length:=by rw[<- hi.length];simp
  have z2:U.size=ms.length:=by rw[<- hj.length];simp
  wp_walk using nN hl,nN hb,wpAny_forIn_list _ (fun rest b s'=>b.1=none/\s'=⟨hp,g,d,tk,os⟩/\∃(vs ws:List ag) (G C:List Int),rest=vs.zip ws /\
   gO vs G/\gO ws C/\G.length+U.size=C.length+items.size/\R (.ok (.ret (.bool (lexLt G C)))) ⟨hp,g,d,tk,os⟩) _
  case turn =>
   rintro⟨y,x⟩ rest b s' ⟨N,rfl,vs,ws,G,C,hz,S,I,v,L⟩;cases S with
   | nil=>rw[List.zip_nil_left]at hz;cases hz
   | cons a t Y =>
    cases I with
    | nil=>rw[List.zip_nil_right]at hz;cases hz
    | cons c u Z =>
     rw[pG]at hz;injection hz with hyx hrest;injection hyx with hy hx;subst hy hx;rw[zk2]at L;simp only[aH]at v;obtain⟨e,he,J⟩:=zpr A.in1 ⟨hp,g,d,tk,os⟩ a t c u;refine aa (he prog w _ _ ?_);cases e with
     | true =>rw[if_pos (J.mp rfl)]at L;wp_walk;exact⟨rfl,rfl,_,_,_,_,hrest,Y,Z,by lia,L⟩
     | false =>rw[if_neg (fun q=>absurd (J.mpr q) aQ)]at L;have hri:=zoG A.in1 ⟨hp,g,d,tk,os⟩ a t c u prog w;wp_walk using hri;exact⟨_,rfl,by simpa using L⟩
  case fin =>
   rintro⟨b1,b2⟩ s' ⟨N,rfl,vs,ws,G,C,hz,S,I,v,L⟩;simp only at N;subst N;have hv:lexLt G C=decide (items.size<U.size):=by
    cases S with
    | nil =>
     cases I with
     | nil =>simp only[bU]at v;rw[zgQ];exact(decide_eq_false (by lia)).symm
     | cons c u hw =>simp only[bU,aH]at v;rw[zfE];exact(decide_eq_true (by lia)).symm
    | cons a t hv =>
     cases I with
     | nil =>simp only[bU,aH]at v;rw[zfF];exact(decide_eq_false (by lia)).symm
     | cons c u hw =>rw[pG]at hz;cases hz
   rw[hv]at L;wp_walk;exact⟨_,rfl,by simpa[rK] using L⟩
  case h =>exact⟨rfl,rfl,items.toList,U.toList,ns,ms,rfl,hi,hj,by lia,h⟩
end
section
variable{prog:aL}{w:aZ}{A:bg}{E:qV}{s:aq}
theorem zf6{l b:aj}{items y:Array ag}{ns ms:List Int}{Q:qV}(hl:pS s.heap l items)(N:pS s.heap b y)(hi:gO items.toList ns)(S:gO y.toList ms)
  (U:A.units<cLine) (h:Q (.bool (lexLt ns ms)) s):wpAny (model prog w) A (compareOp .Lt (.ref l) (.ref b)) Q E s:=by
 obtain⟨⟨cls,Y,data,R⟩,I,hc,n,hd⟩:=id hl;obtain⟨⟨J,C,data2,G⟩,u,v,Z,hd2⟩:=id N;simp only at hc hd v hd2;subst hc hd v hd2;exact richCompare_meets_room (op:=.Lt) ⟨_,I,rfl⟩ ⟨_,u,rfl⟩ PySem.F.slot_tuple_lt PySem.F.entry_tuple_lt (PySem.F.args_tuple_lt_2 _ _) (zgs l b items y n Z Y C R G ns ms hi S)
  ⟨I,u,show ky (lexLt ns ms)≠Value.notImplemented/\Q (.bool (lexLt ns ms)) s from⟨(fun x=>nomatch x),h⟩⟩ U
theorem zsf{t b:aj}{vs l:List ag}{Q:qV}(Y:pS s.heap t vs.toArray)(S:pS s.heap b l.toArray)(I:vs≠[])
  (h1:l=[]->Q (.ref t) s) (U:l≠[]->Q (.ref s.heap.objs.size) { s with heap:=s.heap.push { cls:=.type "tuple",data:=.seq (vs++l).toArray } })
  (hsz:vs.length+l.length<=sizeLine):wpAny (model prog w) A (binaryOp .Add (.ref t) (.ref b)) Q E s:=by
 obtain⟨⟨cls,L,data,J⟩,G,hc,n,hd⟩:=id Y;obtain⟨⟨R,x,data2,C⟩,u,v,N,hd2⟩:=id S;simp only at hc hd v hd2;subst hc hd v hd2;have e:vs.toArray++l.toArray=(vs++l).toArray:=by simp
 by_cases hw:l=[];exact pX ⟨_,G,rfl⟩ ⟨_,u,rfl⟩ mX o5 iV iN (ik _ _)
  (tuple_addW1 t b vs.toArray l.toArray n N L x J C (by simpa using I) (by simp[hw])) ⟨G,u,h1 hw⟩
 refine pX ⟨_,G,rfl⟩ ⟨_,u,rfl⟩ mX o5 iV iN (ik _ _)
  (tuple_addW2 t b vs.toArray l.toArray n N L x J C (by simpa using I) (by simpa using hw) (by rw[aB,aB];exact hsz)) ⟨G,u,?_⟩
 rw[e];exact U hw
def sIx(n d:Nat):Option Int->Nat
 | none=>d
 | some v=>if v<0 then(v+(n:Int)).toNat else min v.toNat n
theorem zoC(n d:Nat):sIx n d none=d:=rfl
theorem zqC(n d k:Nat):sIx n d (some (k:Int))=min k n:=by show(if (k:Int)<0 then((k:Int)+(n:Int)).toNat else min (k:Int).toNat n)=min k n;rw[if_neg (by lia),bt]
theorem zs5(n d:Nat)(hd:d<=n)(o:Option Int):sIx n d o<=n:=by
 cases o with
 | none=>exact hd
 | some v =>show(if v<0 then(v+(n:Int)).toNat else min v.toNat n)<=n;by_cases hv:v<0;rw[if_pos hv];lia;rw[if_neg hv];exact Nat.min_le_right _ _
theorem znR(v:Int)(n d:Nat):(if v<0 then max (v+(n:Int)) 0 else min v (n:Int))=((sIx n d (some v):Nat):Int):=by show(if v<0 then max (v+(n:Int)) 0 else min v (n:Int))=(((if v<0 then(v+(n:Int)).toNat else min v.toNat n):Nat):Int);by_cases hv:v<0;simp only[if_pos hv];lia;simp only[if_neg hv];lia
theorem zly(lo hi:Option Int)(n:Nat):hY lo hi 1 (n:Int)=(((sIx n 0 lo:Nat):Int),((sIx n n hi:Nat):Int)):=by
 have h1:¬((1:Int)<0):=by lia
 unfold hY;simp only[h1,if_false];refine dz ?_ ?_;cases lo with
 | none=>rfl
 | some v=>exact znR v n 0
 cases hi with
 | none=>rfl
 | some v=>exact znR v n n
theorem zkO(i j:Nat):fD (i:Int) (j:Int) 1=j - i:=by
 unfold fD;have h1:(1:Int) > 0:=by lia
 simp only[h1,if_true,Int.ediv_one];split <;> lia
theorem zfW{v:ag}{o:Option Int}{Q:Option Int->aq->Prop}(p:mN v o)(h:Q o s):wpAny (model prog w) A (sN v) Q E s:=by
 cases p with
 | none=>exact tP h
 | int i t=>exact slicePart_int h
theorem zce{C:aj}{v y:ag}{lo hi:Option Int}{n:Nat}{Q:Int×Int×Nat->aq->Prop}(G:s.heap.IsSliceOf C v y .none)(pl:mN v lo)(I:mN y hi)
  (h:Q (((sIx n 0 lo:Nat):Int),1,sIx n n hi - sIx n 0 lo) s):wpAny (model prog w) A (lP (.ref C) (pure (n:Int))) Q E s:=by
 obtain⟨os,u,J,l⟩:=id G;unfold lP uw;refine aa (aa (bW u l (x:=v) rfl (aa (bW u l (x:=y) rfl (aa (bW u l (x:=.none) rfl (ae ?_)))))));refine aa (tP ?_);show wpAny _ _ (if ((1:Int) == 0)=true then _ else _) _ _ s;rw[if_neg (by decide)];refine aa (zfW pl (aa (zfW I (aa (ae ?_)))));show wpAny _ _ (match hY lo hi 1 (n:Int) with|(lo,hi)=>pure (lo,(1:Int),fD lo hi 1)) _ _ s;rw[zly lo hi n];show wpAny _ _ (pure (((sIx n 0 lo:Nat):Int),(1:Int),fD ((sIx n 0 lo:Nat):Int) ((sIx n n hi:Nat):Int) 1)) _ _ s;rw[zkO];exact ae h
theorem zoQ(xs:Array ag)(i k:Nat):((fZ k).filterMap fun(m:Nat)=>xs[((i:Int)+(m:Int)*1).toNat]?).toArray=((xs.toList.drop i).take k).toArray:=by
 have e:(fun(m:Nat)=>xs[((i:Int)+(m:Int)*1).toNat]?)=fun m=>xs[i+m]?:=by
  funext m;have:((i:Int)+(m:Int)*1).toNat=i+m:=by lia
  rw[this]
 rw[e];have:=xH xs i k;rw[List.filterMap_map]at this;have u:((fun x=>xs[x]?)∘fun x=>i+x)=fun m=>xs[i+m]?:=rfl;rw[u]at this;rw[this]
theorem zd7{t x:aj}{items:Array ag}{L N:ag}{lo hi:Option Int}{Q:qV}(u:pS s.heap t items)(J:s.heap.IsSliceOf x L N .none)(pl:mN L lo)(S:mN N hi)
  (hw:¬(sIx items.size 0 lo=0/\sIx items.size items.size hi=items.size))
  (h:Q (.ref s.heap.objs.size) { s with heap:=s.heap.push { cls:=.type "tuple",data:=.seq ((items.toList.drop (sIx items.size 0 lo)).take (sIx items.size items.size hi - sIx items.size 0 lo)).toArray } })
  (hsz:items.size<=sizeLine):wpAny (model prog w) A (getItem (.ref t) (.ref x)) Q E s:=by
 have l:sizeOk (.seq ((items.toList.drop (sIx items.size 0 lo)).take (sIx items.size items.size hi - sIx items.size 0 lo)).toArray):=by show((items.toList.drop (sIx items.size 0 lo)).take (sIx items.size items.size hi - sIx items.size 0 lo)).toArray.size<=sizeLine;rw[aB,fU,kA,cW];lia
 have Z:sIx items.size items.size hi<=items.size:=zs5 _ _ (ar _) hi;obtain⟨os,C,I,R⟩:=id J;have G:s.TypeIs (.ref x) "slice":=⟨os,C,I⟩;unfold getItem;try with_reducible refine bM ?_
 first|refine aa (ae ?_)|skip
 refine aa (pY u.typeIs (by decide) ?_);refine aa (bo (name:=aR "__getitem__") u.typeIs b9
  (a7 b9 u.typeIs oS ?_ (pH _ _)))
 show wpAny _ _ (lQ (.ref t) >>= _) _ _ s;refine aa (tupleItemsOf_ u ?_);refine aa (dG G ?_);rw[if_pos (by decide)];refine aa (zce J pl S ?_);have v:¬((((sIx items.size 0 lo:Nat):Int) == 0&&(1:Int) == 1&&(sIx items.size items.size hi - sIx items.size 0 lo) == items.size)=true):=by intro q;rw[bq,bq]at q;have U:((sIx items.size 0 lo:Nat):Int)=0:=eq_of_beq q.1.1;have Y:sIx items.size items.size hi - sIx items.size 0 lo=items.size:=eq_of_beq q.2;exact hw ⟨by lia,by lia⟩
 show wpAny _ _ (if (((sIx items.size 0 lo:Nat):Int) == 0&&(1:Int) == 1&&(sIx items.size items.size hi - sIx items.size 0 lo) == items.size)=true then _ else _) _ _ s;rw[if_neg v,zoQ];first
  | exact aa (m:=fL _) (aX (ae ⟨_,rfl,ae h⟩) l)
  | exact aa (m:=fL _) (aX (aa (ae (ae ⟨_,rfl,ae h⟩))) l)
  | exact aa (aa (m:=fL _) (aX (ae (ae ⟨_,rfl,ae h⟩)) l))
  | exact aa (aa (m:=fL _) (aX (ae ⟨_,rfl,ae h⟩) l))
end
end HT
namespace L2
open PySem PySem.Spec PyProof.Rows
abbrev TO:=St->Hp->(Option Int->Hp->Prop)->Prop
def PO(X:Cx)(e:Option aY)(t:TO):Prop :=
 ∀(pins:qO) (s:aq) (σ:St) (H:Hp) (Q:Option Int->Hp->Prop),Inv X pins σ H s->t σ H Q ->
  wpAny (model X.prog X.w) X.A (evalPart e X.env) (fun u s'=>∃o H',Inv X pins σ H' s'/\mN u o/\Q o H') X.xe s
def zqt:TO:=fun _ H Q=>Q none H
def zwa(t:TE):TO:=fun σ H Q=>t σ H fun x l=>∃i,x=.int i/\Q (some i) l
theorem intsAre_of{ns:List Int}:∀{u:List ag},Vals (ns.map V.int) u->gO u ns:=by
 induction ns with
 | nil=>intro u r;rw[dY]at r;cases r;exact .nil
 | cons n ns y =>
  intro u r;rw[aN]at r;cases r with
  | cons v x =>obtain⟨t,e⟩:=v;subst e;exact .cons n t (y x)
section
variable{X:Cx}{e:aY}{te:TE}{lo hi:Option aY}{tl th:TO}{pos p2:Pos}
theorem zqY:PO X none zqt:=by intro pins s σ H Q I h;rw[evalPart_none];exact ae ⟨none,H,I,.none,h⟩
theorem zqX(h:PE X e te):PO X (some e) (zwa te):=by intro pins s σ H Q I hw;rw[evalPart_some];refine thn (h pins s σ H _ I hw) fun u s1 ⟨x,y,v,l,o⟩=>?_;obtain⟨i,rfl,q⟩:=o;obtain⟨t,rfl⟩:=l;exact⟨some i,y,v,.int i t,q⟩
def SlR(X:Cx)(r:V->Option Int->Option Int->Hp->VK->Prop):Prop :=
 ∀(pins:qO) (s:aq) (σ:St) (H:Hp) (x:V) (v C G:ag) (lo hi:Option Int) (I:aj) (Q:VK),Inv X pins σ H s->RelV x v->s.heap.IsSliceOf I C G .none->mN C lo->mN G hi->r x lo hi H Q ->
  ∃T id,typeLookup (.type T) "__getitem__" = pure (some (.builtin id))/\s.TypeIs v T/\wpAny (model X.prog X.w) X.A (getItem v (.ref I)) (EP X pins σ Q) X.xe s
theorem SlR.or{r o:V->Option Int->Option Int->Hp->VK->Prop}(h:SlR X r)(h':SlR X o):SlR X (fun x lo hi H Q=>r x lo hi H Q\/o x lo hi H Q):=by intro pins s σ H x v C J lo hi u Q I G l pl y q;rcases q with q|q;exact h pins s σ H x v C J lo hi u Q I G l pl y q;exact h' pins s σ H x v C J lo hi u Q I G l pl y q
def tSl(r:V->Option Int->Option Int->Hp->VK->Prop)(te:TE)(tl th:TO):TE:=fun σ H Q=>te σ H fun x v=>tl σ v fun l y=>th σ y fun u o=>r x l u o Q
theorem zjZ{r:V->Option Int->Option Int->Hp->VK->Prop}(hr:SlR X r)(he:PE X e te)(hl:PO X lo tl)(hu:PO X hi th):PE X (.Subscript e (.Slice lo hi none p2) pos) (tSl r te tl th):=by intro pins s σ H Q I h;refine tQ (thn (he pins s σ H _ I h) fun v s1 ⟨x,H1,I1,L,N⟩=>?_);refine wpAny_Slice (thn (hl pins s1 σ H1 _ I1 N) fun C s2 ⟨l,H2,U,pl,Y⟩=>thn (hu pins s2 σ H2 _ U Y) fun G s3 ⟨u,J,Z,pu,q3⟩=>?_);rw[evalPart_none];refine ae ?_;have I4:Inv X pins σ J { s3 with heap:=s3.heap.push { cls:=.type "slice",data:=.fields #[C,G,.none] } }:=Z.kept (t':=s3.toks) fun b ob q=>ah _ q;obtain⟨T,id,R,ht,hg⟩:=hr pins { s3 with heap:=s3.heap.push { cls:=.type "slice",data:=.fields #[C,G,.none] } } σ J x v C G l u s3.heap.objs.size Q I4 L (yY ..) pl pu q3;show wpAny (model X.prog X.w) X.A (subscriptTail e (.Slice lo hi none p2) v (.ref s3.heap.objs.size)) (EP X pins σ Q) X.xe { s3 with heap:=s3.heap.push { cls:=.type "slice",data:=.fields #[C,G,.none] } };exact tail_any (ops:=[.ref s3.heap.objs.size,v]) ht R hg (by with_unfolding_all rfl)
def cutV(xs:List V)(lo hi:Option Int):List V:=(xs.drop (HT.sIx xs.length 0 lo)).take (HT.sIx xs.length xs.length hi - HT.sIx xs.length 0 lo)
theorem zfv(xs:List V)(lo hi:Option Int):(cutV xs lo hi).length<=xs.length:=by unfold cutV;rw[fU,kA];lia
def rSlT(K:qF):V->Option Int->Option Int->Hp->VK->Prop:=fun x lo hi H Q=>∃a xs,x=.ref a/\SqT K H a xs /\
 ¬(HT.sIx xs.length 0 lo=0/\HT.sIx xs.length xs.length hi=xs.length)/\∀p,H p=none->Q (.ref p) (upd H p (.tup (cutV xs lo hi)))
theorem zsM:SlR X (rSlT X.K):=by
 intro pins s σ H x v R S lo hi N Q I J C pl G h;obtain⟨a,xs,rfl,hx,hw,q⟩:=h;cases J;obtain⟨its,r,y,hz⟩:=I.tuple hx;have l:its.toArray.size=xs.length:=by rw[aB];exact r.length.symm
 refine⟨"tuple",_,b9.lookup,y.typeIs,?_⟩;refine HT.zd7 y C pl G (by rw[l];exact hw) ?_ (by rw[l];exact hz);rw[l];refine⟨.ref s.heap.objs.size,_,I.laid (t':=s.toks) (o:=.tup (cutV xs lo hi)) (fun b L q=>ah _ q) (ar _) ?_,rfl,q _ (I.hok.fresh (ar _))⟩;exact⟨b7 (zfv xs lo hi) hz,_,(r.drop (HT.sIx xs.length 0 lo)).take (HT.sIx xs.length xs.length hi - HT.sIx xs.length 0 lo),IsTD.new _ _⟩
def rLtT(K:qF):R2:=fun x y H Q=>∃a b ns ms,x=.ref a/\y=.ref b/\SqT K H a (ns.map V.int)/\SqT K H b (ms.map V.int)/\Q (.bl (HT.lexLt ns ms)) H
theorem ztL(R:X.A.units<cLine):OpR X (compareOp .Lt) (rLtT X.K):=by intro pins s σ H x y v u Q I Z U h;obtain⟨a,b,ns,ms,rfl,rfl,S,G,q⟩:=h;cases Z;cases U;obtain⟨its,C,p1,_⟩:=I.tuple S;obtain⟨o,Y,p2,_⟩:=I.tuple G;have N:gO its.toArray.toList ns:=intsAre_of C;have J:gO o.toArray.toList ms:=intsAre_of Y;exact HT.zf6 p1 p2 N J R ⟨.bl (HT.lexLt ns ms),H,I,rfl,q⟩
def zwP(K:qF):R2:=fun x y H Q=>∃a b xs ys,x=.ref a/\y=.ref b/\SqT K H a xs/\SqT K H b ys/\xs≠[]/\xs.length+ys.length<=sizeLine /\
 (ys=[]->Q (.ref a) H)/\(ys≠[]->∀p,H p=none->Q (.ref p) (upd H p (.tup (xs++ys))))
theorem Vals.nil_iff{xs:List V}{l:List ag}(r:Vals xs l):l=[]↔xs=[]:=by
 cases r with
 | nil=>simp
 | cons _ _=>simp
theorem zrf:OpR X (binaryOp .Add) (zwP X.K):=by intro pins s σ H x y v u Q I U S h;obtain⟨a,b,xs,ys,rfl,rfl,R,L,hx,hz,J,N⟩:=h;cases U;cases S;obtain⟨its,C,p1,_⟩:=I.tuple R;obtain⟨G,l,p2,_⟩:=I.tuple L;refine HT.zsf p1 p2 (fun z=>hx (C.nil_iff.mp z)) (fun z=>⟨.ref a,H,I,rfl,J (l.nil_iff.mp z)⟩) (fun z=>?_) (by rw[<- C.length,<- l.length];exact hz);refine⟨.ref s.heap.objs.size,_,I.laid (t':=s.toks) (o:=.tup (xs++ys)) (fun b Y q=>ah _ q) (ar _) ?_,rfl,N (fun w=>z (l.nil_iff.mpr w)) _ (I.hok.fresh (ar _))⟩;exact⟨by rw[ba];exact hz,_,C.append l,IsTD.new _ _⟩
end
def ixN(n:Nat)(i:Int):Option Nat:=if 0<=i then(if i<n then some i.toNat else none) else if -(n:Int)<=i then some (i+n).toNat else none
def atI{α:Type}(xs:List α)(i:Int):Option α:=(ixN xs.length i).bind fun j=>xs[j]?
theorem zm9{n:Nat}{i:Int}{j:Nat}(h:ixN n i=some j):seqIndex? i n=some j/\j<n/\-(n:Int)<=i/\i<n:=by unfold ixN at h;by_cases h0:0<=i;rw[if_pos h0]at h;by_cases h1:i<n;rw[if_pos h1]at h;have e:i.toNat=j:=aE h;exact⟨by rw[sA h0 h1,e],by lia,by lia,h1⟩;rw[if_neg h1]at h;cases h;rw[if_neg h0]at h;by_cases h1:-(n:Int)<=i;rw[if_pos h1]at h;have e:(i+n).toNat=j:=aE h;exact⟨by rw[pZ (by lia) h1,e],by lia,h1,by lia⟩;rw[if_neg h1]at h;cases h
theorem zjA{α:Type}{xs:List α}{i:Int}{v:α}(h:atI xs i=some v):∃j,seqIndex? i xs.length=some j/\xs[j]?=some v/\j<xs.length/\-(xs.length:Int)<=i/\i<xs.length:=by
 unfold atI at h;cases e:ixN xs.length i with
 | none=>rw[e]at h;cases h
 | some j =>rw[e]at h;obtain⟨h1,u,l,o⟩:=zm9 e;exact⟨j,h1,h,u,l,o⟩
theorem zsk{α:Type}{xs:List α}{j:Nat}{v:α}(h:xs[j]?=some v):atI xs (j:Int)=some v:=by
 have l:j<xs.length:=(av.mp h).1;have e:ixN xs.length (j:Int)=some j:=by unfold ixN;rw[if_pos (by lia),if_pos (by lia)];simp
 unfold atI;rw[e];exact h
def zn_(b:aY):Prop:=∀o i,subscripted b false o i=operate [o,i] (getItem o i)
def IxR(X:Cx)(r:R2):Prop :=
 ∀(value slice:aY) (pins:qO) (s:aq) (σ:St) (H:Hp) (x y:V) (v u:ag) (Q:VK),Inv X pins σ H s->RelV x v->RelV y u->r x y H Q ->
  subscripted slice false v u=operate [v,u] (getItem v u)->wpAny (model X.prog X.w) X.A (subscriptTail value slice v u) (EP X pins σ Q) X.xe s
def MtR(X:Cx)(id:String)(r:V->List V->Hp->VK->Prop):Prop :=
 ∀(pins:qO) (s:aq) (σ:St) (H:Hp) (x:V) (xs:List V) (v:ag) (o:List ag) (Q:VK),Inv X pins σ H s->RelV x v->Vals xs o->r x xs H Q ->
  wpAny (model X.prog X.w) X.A (call (.builtin id) (v::o)) (EP X pins σ Q) X.xe s
section
variable{X:Cx}{a b:aY}{ta tb:TE}{pos:Pos}
theorem IxR.or{r o:R2}(h:IxR X r)(h':IxR X o):IxR X (fun x y H Q=>r x y H Q\/o x y H Q):=by intro value slice pins s σ H x y v u Q I G C q l;rcases q with q|q;exact h value slice pins s σ H x y v u Q I G C q l;exact h' value slice pins s σ H x y v u Q I G C q l
theorem Ul{r:R2}(G:IxR X r)(J:PE X a ta)(l:PE X b tb)(o:zn_ b):PE X (.Subscript a b pos) (tOp r ta tb):=by intro pins s σ H Q I h;exact tQ (binT J l I h fun v u s2 x y R C N L q=>G a b pins s2 σ R x y v u Q C N L q (o _ _))
def rIxL(K:qF):R2:=fun x y H Q=>∃p xs i v,x=.ref p/\y=.int i/\SqL K H p xs/\atI xs i=some v/\Q v H
def rIxT(K:qF):R2:=fun x y H Q=>∃p xs i v,x=.ref p/\y=.int i/\SqT K H p xs/\atI xs i=some v/\Q v H
def rIxS:R2:=fun x y H Q=>∃z i c,x=.str z/\y=.int i/\z.length<=sizeLine/\atI z.cps.toList i=some c/\Q (.str ⟨#[c]⟩) H
theorem Ur:IxR X (rIxL X.K):=by
 intro value slice pins s σ H x y v u Q I Z U h G;obtain⟨p,xs,i,z,rfl,rfl,R,he,q⟩:=h;cases Z;obtain⟨t,rfl⟩:=U;obtain⟨its,r,pl,hz⟩:=I.list R;obtain⟨j,h1,S,h3,Y,L⟩:=zjA he;obtain⟨w,J,l⟩:=r.get S;have hl:=r.length;have hn:=UL;have fin:EP X pins σ Q w s:=⟨z,H,I,l,q⟩;by_cases h0:0<=i;have C:i.toNat=j:=by rw[sA h0 L]at h1;exact aE h1
 exact item_listR pl.isList h0 (by lia) (by rw[C];simpa using J) fin G;have C:(i+(its.toArray.size:Int)).toNat=j:=by rw[pZ (by lia) Y]at h1;rw[aB,<- hl];exact aE h1
 exact nB (x:=w) pl.isList.typeIs p4.lookup
  (wpAny_getItem_list_neg (Q:=fun r s'=>r=w/\EP X pins σ Q r s') pl.isList (by lia) (by rw[aB] <;> lia) (by lia) (by rw[C];simpa using J) ⟨rfl,fin⟩) G
theorem zuk:IxR X (rIxT X.K):=by
 intro value slice pins s σ H x y v u Q I N L h o;obtain⟨p,xs,i,z,rfl,rfl,C,he,q⟩:=h;cases N;obtain⟨t,rfl⟩:=L;obtain⟨its,r,pl,hz⟩:=I.tuple C;obtain⟨j,h1,G,Z,Y,S⟩:=zjA he;obtain⟨w,J,l⟩:=r.get G;have R:=r.length;have U:=UL;have fin:EP X pins σ Q w s:=⟨z,H,I,l,q⟩;exact nB (x:=w) pl.typeIs slot_tuple_getitem.lookup
  (getItem_tuple (j:=j) (Q:=fun r s'=>r=w/\EP X pins σ Q r s') pl (by lia) (by lia) (by rw[aB,<- R];exact h1) (by simpa using J) ⟨rfl,fin⟩) o
theorem zul:IxR X rIxS:=by
 intro value slice pins s σ H x y v u Q I R L h C;obtain⟨z,i,c,rfl,rfl,hz,he,q⟩:=h;obtain⟨t,rfl⟩:=R;obtain⟨t',rfl⟩:=L;obtain⟨j,h1,J,Y,N,o⟩:=zjA he;have S:z.cps.toList.length=z.length:=by simp[y3]
 rw[S]at h1 N o;have U:=UL;exact tail_any (tR s z t) slot_str_getitem.lookup (getItem_str (c:=c) (by have l:decide (i < -(2 ^ 63:Int))=false:=decide_eq_false (by lia);have G:decide (i>=2 ^ 63)=false:=decide_eq_false (by lia);rw[l,G,Bool.or_false]) (by rw[h1];simpa using J) ⟨.str ⟨#[c]⟩,H,I.tok _,⟨_,rfl⟩,q⟩) C
def rIx(K:qF):R2:=fun x y H Q=>rIxL K x y H Q\/rIxT K x y H Q\/rIxS x y H Q
theorem zum:IxR X (rIx X.K):=Ur.or (zuk.or zul)
theorem zk1(its:List ag)(n j:Nat)(u:ag):dZ (·.setIfInBounds j u) { cls:=.type "list",data:=.seq its.toArray n }={ cls:=.type "list",data:=.seq (its.set j u).toArray n }:=by simp[dZ]
theorem Inv.lst{pins:qO}{σ:St}{H:Hp}{s:aq}{p:aj}{xs:List V}(I:Inv X pins σ H s)(h:H p=some (.lst xs)) :
  ∃(its:List ag) (n:Nat),Vals xs its/\s.heap.get? p=some { cls:=.type "list",data:=.seq its.toArray n }/\xs.length<=sizeLine:=by
 obtain⟨z,its,n,r,e⟩:=I.hok p _ h;exact⟨its,n,r,e,z⟩
theorem Inv.lstUpd{pins:qO}{σ:St}{H:Hp}{s:aq}{p:aj}{xs ys:List V}{its its':List ag}{n o:Nat}{f:Obj->Obj}(I:Inv X pins σ H s)(h:H p=some (.lst xs))
  (C:s.heap.get? p=some { cls:=.type "list",data:=.seq its.toArray n }) (hf:f { cls:=.type "list",data:=.seq its.toArray n }={ cls:=.type "list",data:=.seq its'.toArray o }) (r:Vals ys its') (hz:ys.length<=sizeLine) (t:Nat) :
  Inv X pins σ (upd H p (.lst ys)) { s with heap:=s.heap.update p f,toks:=t }:=by
 have e:(s.heap.update p f).get? p=some { cls:=.type "list",data:=.seq its'.toArray o }:=by rw[br f C (by rw[hf] <;> rfl),hf]
 refine I.write (x:=p) (e:=p) (by rw[h];trivial) (.inl rfl) (fun b u v q=>(bR _ _ (dD v)).trans q) ⟨_,e⟩ ?_;exact⟨hz,its',o,r,e⟩
def zwO:V->V->V->Hp->(Hp->Prop)->Prop:=fun o i v H Q=>∃p xs k j,o=.ref p/\i=.int k/\H p=some (.lst xs)/\ixN xs.length k=some j/\Q (upd H p (.lst (xs.set j v)))
theorem set_list:PSet X zwO:=by
 intro pins s σ H o i v ov iv u Q I U Y Z h;obtain⟨p,xs,k,j,rfl,rfl,G,S,q⟩:=h;cases U;obtain⟨t,rfl⟩:=Y;obtain⟨its,n,r,x,hz⟩:=I.lst G;obtain⟨h1,h2,L,J⟩:=zm9 S;have C:=r.length;have hn:=UL;have R:Inv X pins σ (upd H p (.lst (xs.set j v))) { s with heap:=s.heap.update p (dZ (·.setIfInBounds j u)) } :=
  I.lstUpd G x (zk1 its n j u) (r.set Z j) (by rw[List.length_set];exact hz) s.toks
 by_cases h0:0<=k;have y:k.toNat=j:=by rw[sA h0 J]at h1;exact aE h1
 exact PySem.W.ki_setAt x h0 (by lia) (by rw[aB,<- C];exact J) (by rw[y];exact⟨_,R,q⟩);have y:(k+(its.toArray.size:Int)).toNat=j:=by rw[pZ (by lia) L]at h1;rw[aB,<- C];exact aE h1
 exact PySem.W.ki_setBack x (by lia) (by rw[aB,<- C];exact L) (by lia) (by rw[y];exact⟨_,R,q⟩)
theorem zhz(lo hi:Option Int)(n:Nat):(sliceBounds lo hi none n).1=((HT.sIx n 0 lo:Nat):Int)/\(sliceBounds lo hi none n).2.1=((HT.sIx n n hi:Nat):Int)/\(sliceBounds lo hi none n).2.2=1:=by
 refine⟨?_,?_,rfl⟩;cases lo with
 | none=>simp[sliceBounds,HT.sIx]
 | some i =>simp only[sliceBounds,HT.sIx,mY,show(1:Int) > 0 by decide,if_true];by_cases h:i<0;simp only[h,if_true] <;> lia;simp only[h,if_false] <;> lia
 cases hi with
 | none=>simp[sliceBounds,HT.sIx]
 | some i =>simp only[sliceBounds,HT.sIx,mY,show(1:Int) > 0 by decide,if_true];by_cases h:i<0;simp only[h,if_true] <;> lia;simp only[h,if_false] <;> lia
theorem zgu(its:List ag)(lo hi:Option Int):slicePick its.toArray lo hi none=((its.drop (HT.sIx its.length 0 lo)).take (HT.sIx its.length its.length hi - HT.sIx its.length 0 lo)).toArray:=by obtain⟨h1,u,l⟩:=zhz lo hi its.toArray.size;unfold slicePick;rw[h1,u,l];simp only[tS,xH,aB] <;> rfl
def rSlL(K:qF):V->Option Int->Option Int->Hp->VK->Prop:=fun x lo hi H Q=>∃a xs,x=.ref a/\SqL K H a xs/\∀p,H p=none->Q (.ref p) (upd H p (.lst (cutV xs lo hi)))
theorem zqy:SlR X (rSlL X.K):=by intro pins s σ H x v R S lo hi N Q I J C pl G h;obtain⟨a,xs,rfl,hx,q⟩:=h;cases J;obtain⟨its,r,y,hz⟩:=I.list hx;have u:=r.length;refine⟨"list",_,p4.lookup,y.isList.typeIs,?_⟩;refine wpAny_getItem_list_slice y.isList C pl G .none (by simp) ?_ (by rw[aB] <;> lia);rw[zgu,<- u];refine⟨.ref s.heap.objs.size,_,I.laid (t':=s.toks) (o:=.lst (cutV xs lo hi)) (fun b L q=>ah _ q) (ar _) ?_,rfl,q _ (I.hok.fresh (ar _))⟩;exact⟨b7 (zfv xs lo hi) hz,_,0,(r.drop (HT.sIx xs.length 0 lo)).take (HT.sIx xs.length xs.length hi - HT.sIx xs.length 0 lo),aw _ rfl⟩
theorem ziy:JK X (.builtin "len") (fun xs H Q=>∃p ys,xs=[.ref p]/\(SqL X.K H p ys\/SqT X.K H p ys)/\Q (.int ys.length) H):=by intro pins s σ H xs G Q I r h;obtain⟨p,ys,rfl,v,q⟩:=h;obtain⟨u,rfl,y⟩:=vals1 r;cases y;have C:=UL;rcases v with v|v;obtain⟨its,x,pl,hz⟩:=I.list v;have o:=x.length;exact oR pl.isList (by simp only[aB] <;> lia) ⟨.int ys.length,H,I.tok _,⟨s.toks+1,by rw[aB,o]⟩,q⟩;obtain⟨its,x,pl,hz⟩:=I.tuple v;have o:=x.length;exact len_tuple pl (by simp only[aB] <;> lia) ⟨.int ys.length,H,I.tok _,⟨s.toks+1,by rw[aB,o]⟩,q⟩
theorem U3:JK X (.type "tuple") (fun xs H Q=>∃p ys,xs=[.ref p]/\((SqL X.K H p ys/\∀l,H l=none->Q (.ref l) (upd H l (.tup ys)))\/(SqT X.K H p ys/\Q (.ref p) H))):=by
 intro pins s σ H xs N Q I r h;obtain⟨p,ys,rfl,h⟩:=h;obtain⟨u,rfl,L⟩:=vals1 r;cases L;rcases h with⟨v,q⟩|⟨v,q⟩;obtain⟨its,x,pl,hz⟩:=I.list v;have G:=x.length;refine call_tuple_list pl.isList (fun h' kp=>?_) (by simp only[aB] <;> lia);have C:Inv X pins σ H { s with heap:=h' }:=I.kept (t':=s.toks) kp;have J:Inv X pins σ (upd H h'.objs.size (.tup ys)) { s with heap:=h'.push { cls:=.type "tuple",data:=.seq its.toArray } } :=
  C.laid (t':=s.toks) (fun b o e=>ah _ e) (ar _) (show JC X.prog X.w _ _ _ (.tup ys) from⟨hz,its,x,IsTD.new _ _⟩)
 exact⟨.ref h'.objs.size,_,J,rfl,q _ (C.hok.fresh (ar _))⟩;obtain⟨its,x,pl,hz⟩:=I.tuple v;exact call_tuple_same pl ⟨.ref p,H,I,rfl,q⟩
def tyV(K:qF)(T:String)(x:V)(H:Hp):Prop:=match x with
 | .str _=>T = "str"
 | .int _=>T = "int"
 | .ref p=>(T = "list" /\ ∃xs,SqL K H p xs)\/(T = "tuple" /\ ∃o,K.lookup p=some o/\o.cls=.type "tuple" /\ o.dict=none) \/
   (T = "dict" /\ ((∃l,H p=some (.dK l))\/∃l,H p=some (.dT l)))\/(T = "set" /\ ∃S n,H p=some (.set S n))
 | _=>False
theorem zpQ{pins:qO}{σ:St}{H:Hp}{s:aq}{T:String}{x:V}{v:ag}(I:Inv X pins σ H s)(r:RelV x v)(ty:tyV X.K T x H) :
  s.TypeIs v T/\∀a,v=.ref a->∃C,s.heap.get? a=some C/\C.dict=none:=by
 cases x with
 | str z =>obtain⟨t,rfl⟩:=r;cases(show T = "str" from ty);exact⟨tR s z t,fun _ e=>nomatch e⟩
 | int i =>obtain⟨t,rfl⟩:=r;cases(show T = "int" from ty);exact⟨typeIs_int s i t,fun _ e=>nomatch e⟩
 | ref p =>
  cases r;rcases ty with⟨rfl,xs,G⟩|⟨rfl,o,l,hc,hd⟩|⟨rfl,l⟩|⟨rfl,S,n,l⟩;obtain⟨its,_,pl,_⟩:=I.list G;refine⟨pl.isList.typeIs,fun a e=>?_⟩;cases e;obtain⟨o,n,e,c,hd,_⟩:=pl;exact⟨o,e,hd⟩;refine⟨⟨o,I.kIn p o l,hc⟩,fun a e=>?_⟩;cases e;exact⟨o,I.kIn _ o l,hd⟩;have z:∃o,s.heap.get? p=some o/\o.ExactDict:=by rcases l with⟨u,l⟩|⟨u,l⟩;obtain⟨_,_,_,_,o,_,_,e,ex,_⟩:=I.hok p _ l;exact⟨o,e,ex⟩;obtain⟨_,_,_,_,o,_,_,e,ex,_⟩:=I.hok p _ l;exact⟨o,e,ex⟩
  obtain⟨o,e,ex⟩:=z;refine⟨⟨o,e,ex.1⟩,fun a y=>?_⟩;cases y;exact⟨o,e,ex.2.1⟩;obtain⟨o,_,_,_,e,ex,_⟩:=I.hok p _ l;refine⟨⟨o,e,ex.1⟩,fun a y=>?_⟩;cases y;exact⟨o,e,ex.2.1⟩
 | _=>exact eJ ty
def tBM0(K:qF)(T:String)(r:V->List V->Hp->VK->Prop)(to:TE):TE:=fun σ H Q=>to σ H fun x l=>tyV K T x l/\r x [] l Q
def tBM(K:qF)(T:String)(r:V->List V->Hp->VK->Prop)(to:TE)(t:TA):TE:=fun σ H Q=>to σ H fun x l=>tyV K T x l/\t σ l fun xs o=>r x xs o Q
variable{o e:aY}{es:List aY}{to:TE}{t:TA}{name:Str}{apos LY:Pos}{T id:String}{r:V->List V->Hp->VK->Prop}
theorem ztA(pa:PlainAttrs T)(slot:y8 T name id)(G:typeOf (.builtin id)=pure (.type "method_descriptor")) (Z:MtR X id r) (R:PE X o to)
  (U:attributeBase o name X.env (eval o X.env)=eval o X.env:=by rfl) (Lx:(apos.endLine == LY.line)=true:=by rfl):PE X (.Call (.Attribute o name apos) [] [] LY) (tBM0 X.K T r to):=by
 intro pins s σ H Q I h;refine mZ U Lx (thn (R pins s σ H _ I h) fun v s1 ⟨x,Y,L,J,ty,N⟩=>?_);obtain⟨h1,S⟩:=zpQ L J ty;exact⟨T,id,pa,slot,G,h1,S,gh rfl (oT (Z pins s1 σ Y x [] v [] Q L J .nil N))⟩
theorem zq_(pa:PlainAttrs T)(slot:y8 T name id)(G:typeOf (.builtin id)=pure (.type "method_descriptor")) (hm:MtR X id r) (S:PE X o to) (ha:PA X (e::es) t)
  (Lw:attributeBase o name X.env (eval o X.env)=eval o X.env:=by rfl)
  (Mh:((backTo LY (starEach (e::es) X.env)).all (fun x=>!x.1)&&(backToKw LY (keywordEach [] X.env)).all (fun x=>x.1.isSome)
   && decide ((e::es).length+([]:List iW).length+(if ([]:List iW).isEmpty then 0 else 1)<30))=true:=by rfl)
  (Lx:(apos.endLine == LY.line)=true:=by rfl) (U:starEach (e::es) X.env=(false,eval e X.env)::starEach es X.env:=by rfl) (Mm:(backTo LY (starEach es X.env)).any (·.1)=false:=by rfl) :
  PE X (.Call (.Attribute o name apos) (e::es) [] LY) (tBM X.K T r to t):=by
 intro pins s σ H Q I h;refine nC Lw Mh Lx rfl (thn (S pins s σ H _ I h) fun v s1 ⟨x,H1,L,J,ty,R⟩=>?_);obtain⟨h1,Y⟩:=zpQ L J ty;refine⟨T,id,pa,slot,G,h1,Y,?_⟩;have N:=ha LY pins s1 σ H1 _ L R;rw[U]at N ⊢;refine gh (by show(false||(backTo LY (starEach es X.env)).any (·.1))=false;rw[Mm] <;> rfl) (oj ?_);exact thn N fun us s2 ⟨vs,H2,Z,r2,q2⟩=>hm pins s2 σ H2 x vs v us Q Z J r2 q2
end
def MtM(X:Cx)(id:String)(r:V->List V->Hp->VK->Prop):Prop :=
 ∀(pins:qO) (s:aq) (σ:St) (H:Hp) (x:V) (xs:List V) (v:ag) (o:List ag) (Q:VK),Inv X pins σ H s->RelV x v->Vals xs o->r x xs H Q ->
  wpAny (model X.prog X.w) X.A (call (.builtin id) (v::o)) (EP X pins σ Q) X.xe s
theorem Vals.one{x:V}{l:List ag}(h:Vals [x] l):∃u,l=[u]/\RelV x u:=by
 cases h with
 | cons r t=>cases t;exact⟨_,rfl,r⟩
section
variable{X:Cx}{pins:qO}{σ:St}{H:Hp}{s:aq}{l b:aj}{xs ys zs:List V}
theorem Inv.lset{its its':List ag}{n:Nat}{f:Array ag->Array ag}{t':Nat}(I:Inv X pins σ H s)(C:H l=some (.lst xs))
  (e:s.heap.get? l=some { cls:=.type "list",data:=.seq its.toArray n }) (hf:f its.toArray=its'.toArray) (G:Vals ys its') (hz:ys.length<=sizeLine) :
  Inv X pins σ (upd H l (.lst ys)) { s with heap:=s.heap.update l (dZ f),toks:=t' }:=by
 have q:=PySem.IsL.update e f;rw[hf]at q;refine I.write (x:=l) (e:=l) (by rw[C];exact trivial) (.inl rfl) (fun J u v o=>(bR s.heap (dZ f) (dD v)).trans o) ⟨_,q⟩ ?_;exact⟨hz,its',_,G,q⟩
theorem Inv.lstM(I:Inv X pins σ H s)(o:H l=some (.lst xs)):xs.length<=sizeLine/\∃(its:List ag) (n:Nat),Vals xs its/\xs.length=its.length/\s.heap.get? l=some { cls:=.type "list",data:=.seq its.toArray n }:=by obtain⟨z,its,n,r,e⟩:=I.hok l _ o;exact⟨z,its,n,r,r.length,e⟩
theorem zj1{n:Nat}(h:n<=sizeLine):fM n=false:=by unfold fM;exact decide_eq_false (by lia)
end
section
variable{X:Cx}
def zqO:V->List V->Hp->VK->Prop:=fun x vs H Q=>∃l xs y,x=.ref l/\vs=[y]/\H l=some (.lst xs)/\xs.length<sizeLine/\Q .non (upd H l (.lst (xs++[y])))
theorem zh2:MtM X "list.append" zqO:=by intro pins s σ H x vs v N Q I L J h;obtain⟨l,xs,y,rfl,rfl,C,hz,q⟩:=h;cases L;obtain⟨u,rfl,G⟩:=J.one;obtain⟨z,its,n,r,R,e⟩:=I.lstM C;refine tT F.slot_list_append ⟨_,e,rfl⟩ F.entry_list_append (F.args_list_append_2 _ _) (PySem.list_append l its.toArray n u (by rw[aB];lia)) ⟨e,?_⟩;refine⟨.non,_,I.lset (its':=its++[u]) C e (by simp) (r.append (.cons G .nil)) ?_,rfl,q⟩;rw[ba,km];lia
def zqM:V->List V->Hp->VK->Prop:=fun x vs H Q=>∃l b xs zs,x=.ref l/\vs=[.ref b]/\H l=some (.lst xs)/\H b=some (.lst zs)/\xs.length+zs.length<=sizeLine/\Q .non (upd H l (.lst (xs++zs)))
theorem zmO:MtM X "list.extend" zqM:=by
 intro pins s σ H x vs v us Q I Z S h;obtain⟨l,b,xs,zs,rfl,rfl,C,L,hz,q⟩:=h;cases Z;obtain⟨u,rfl,R⟩:=S.one;cases R;obtain⟨z,its,n,r,hl,e⟩:=I.lstM C;obtain⟨z2,y,Y,U,J,G⟩:=I.lstM L;have hsz:its.toArray.size+y.toArray.size<=sizeLine:=by rw[aB,aB];lia
 have N:¬(!its.toArray.isEmpty&&fM (its.toArray.size+y.toArray.size))=true:=by rw[zj1 hsz,gV];exact aQ
 refine tT pI ⟨_,e,rfl⟩ oU (om _ _)
  (AutoSeq1.list_extend_list_list_0 l its.toArray n b y.toArray Y N (by rw[aB];lia) (by lia)) ⟨e,G,?_⟩
 refine⟨.non,_,I.lset (its':=its++y) C e (by simp) (r.append U) ?_,rfl,q⟩;rw[ba];lia
end
end L2
namespace Att
open PySem PySem.W PySem.Calls PyProof.Rows
theorem zfj{P:tU}{h:a9}:∀(ns:List Int) (vs:List ag),WellAll P h vs (ns.map BF)->gO vs ns:=by
 intro ns;induction ns with
 | nil =>intro vs w;rw[dY]at w;cases w;exact .nil
 | cons n ns u =>
  intro vs w;rw[aN]at w;cases w with
  | cons a b =>cases a;exact .cons _ _ (u _ b)
theorem zl5{l:OpenLaw}{n:Nat}(N:l.most=some n){P:tU}{h:a9}{args:List WData}{vals:List ag}
  (I:l.row.toRowW.claim.pre args=true) (G:WellAll P h vals args) :
  ∃a vs ns,vals=[aJ a]/\args=[WData.list (ns.map BF)]/\h.get? a=some { cls:=.type "list",data:=.seq vs.toArray }/\gO vs ns/\ns.length<=n:=by
 have C:WShape.hasAll [] args [.list .int]=true:=(pre_splitW I).1;have hc:l.pre.holds [] { args:=args }=true:=(pre_splitW I).2;obtain⟨d,r,rfl,h1,S⟩:=hasAllW_cons C;obtain rfl:=hasAllW_nil S;obtain⟨xs,rfl,Z⟩:=hasW_list h1;obtain⟨ns,rfl⟩:=items_int Z;have u:ns.length<=n:=by
  unfold OpenLaw.pre at hc;have x:(WTm.not (.lt (.lit (.int (n:Int))) (.len (.arg 0)))).holds [] { args:=[.list (ns.map .int)] }=true:=by have x:=(holds_andW hc).1;rw[N]at x;exact x
  have v:=condW_of x (w_not (w_lt w_lit (w_len_list (w_arg rfl))));rw[aG]at v;refine rS fun q=>?_;have R:(n:Int)<((ns.length:Nat):Int):=by lia
  first
   | (rw[decide_eq_true R]at v;exact absurd v (by decide))
   | (simp at v;lia)
 cases G with
 | cons Y U =>
  cases U;cases Y with
  | list J L=>exact⟨_,_,ns,rfl,rfl,J,zfj ns _ L,u⟩
theorem zmt(l:OpenLaw)(args:List WData):l.row.toRowW.claim.post args (.bool true) args=true :=
 postW_of (r:=l.row.toRowW) (X:=(true == true))
  (show Ab [] (.bool true) .bool=true by first|rfl|decide|simp[Ab,WShape.arms,WShape.armsAll])
  (show(WTm.eq .res (.lit (.bool true))).value [] { args:=args,res:=some (.bool true),after:=args }=some (.bool (true == true)) from w_eq_bool (w_res rfl) w_lit) rfl
theorem attach_call{l:OpenLaw}{n:Nat}{q:aL}{loose:List Str}{XP:(Str->Option ag)->a9->Prop}{YP:aZ->a9->Prop}{d:DefRec}
  (hn:l.most=some n) (L:d.params.defaults=[])
  (call:∀(w:aZ) (s₀ v:aq) (mg R:qM) (C:aj) (o:Obj) (pm cd doc:ag) (a:aj) (vs:List ag) (ns:List Int),
   Ground q loose [] XP w s₀ mg R v.heap->YP w v.heap ->
   v.heap.get? C=some o->o.data=.func (docDef d.name d.params d.body d.scope pm cd doc)->v.heap.CodeRec cd d.name->mg d.name=some (.ref C) ->
   v.heap.get? a=some { cls:=.type "list",data:=.seq vs.toArray }->gO vs ns->ns.length<=n->v.gens=#[] ->
   codeAny (model l.prog w) callerA (.call (.ref C) ⟨[.ref a],[]⟩) (fun r s'=>r=.ok (.ret (.bool true))/\OldK v.heap s'.heap/\s'.os=v.os/\ly s'.gens) v) :
  WalkO q loose XP YP l.row.toRowW d [] (fun f vs=>Ac f vs):=by
 intro w s₀ v mg R G Y C o pm cd doc dV kV ho hd N hD S hg args vals as Mx Z hrd U hlo;obtain rfl:dV=.none:=Dflts.none hD L;obtain rfl:kV=.none:=Dflts.noKw hD;obtain⟨a,vs,ns,rfl,rfl,J,x,I⟩:=zl5 hn Mx U;refine enter_call (iS (call w s₀ v mg R C o pm cd doc a vs ns G Y ho (fd_plain hd) N S J x I hg) fun r s' hq=>?_);obtain⟨rfl,h2,h3,h4⟩:=hq;exact⟨.inl ⟨.bool true,.bool true,[],rfl,fun _=>rfl,.bool true,zmt l _,fun _=>⟨p6,fun _ hm=>(nomatch hm)⟩⟩,h2,h3,h4⟩
end Att
namespace L2
open PySem PySem.Spec PyProof.Rows
theorem zhf:∀{vs:List ag}{ns:List Int},gO vs ns->Vals (ns.map V.int) vs
 | _,_,.nil=>.nil
 | _,_,.cons n t h=>.cons ⟨t,rfl⟩ (zhf h)
def Only(H:Hp):Prop:=∀b,H b=none\/∃o xs,H b=some (.frz o (.lst xs))
theorem zo7{P:aL}{w:aZ}{K:qF}{mg mb:qM}{CX:CXT}{k:Nat}{fa a:aj}{fd:dM}{x:Str}{sp:Sp}{C:aq}{vs:List ag}{ns:List Int}
  (KX:K.In C.heap) (R:C.heap.Ns mainGlobals mg) (G:C.heap.Ns builtinsNs mb) (hbb:∀x:Str,x ≠ "__name__" -> mb x=bootBuiltins x) (J:C.heap.NoLimit) (hg:C.gens=#[])
  (Z:C.heap.get? a=some { cls:=.type "list",data:=.seq vs.toArray }) (hi:gO vs ns) (hl:ns.length<=sizeLine) (hr:Room k callerA)
  (F:∀base:a9,K.In base->base.Ns mainGlobals mg->FnOk P w K mg base CX k fa fd [x] sp) (MG:∀(s:aq) (u:ag),tD s fd ⟨[u],[]⟩ [(x,u)])
  (hsp:∀H:Hp,Only H->SqL K H a (ns.map V.int)->sp [.ref a] H (fun v _=>v=.bl true) fun _ _ _=>False)
  (hCX:∀H e s',CX [] H C (fun _ _ _=>False) e s'->False) :
  codeAny (model P w) callerA (.call (.ref fa) ⟨[.ref a],[]⟩) (fun r s'=>r=.ok (.ret (.bool true))/\OldK C.heap s'.heap/\s'.os=C.os/\ly s'.gens) C:=by
 have rv:=zhf hi;have L:=hi.length;have core:∀H:Hp,Only H->SqL K H a (ns.map V.int)->HOk P w H C.heap->(∀b,H b≠none->b=a)->(H a≠none->K.lookup a=none) ->
   codeAny (model P w) callerA (.call (.ref fa) ⟨[.ref a],[]⟩) (fun r s'=>r=.ok (.ret (.bool true))/\OldK C.heap s'.heap/\s'.os=C.os/\ly s'.gens) C:=by
  intro H hO hS hok hA hK;have Mq:∀{b:aj} {o:Obj},C.heap.get? b=some o->H b=none->(hidT C.heap H).get? b=some o:=fun e n=>zpk e n;have noA:∀{b:aj} {o:Obj} {es:Array eD} {ep:Nat},C.heap.get? b=some o->o.data=.dict es ep->H b=none:=fun {b o es ep} e d=>by
   cases q:H b with
   | none=>rfl
   | some u =>have e':b=a:=hA b (by rw[q];simp);subst e';rw[Z]at e;cases e;have d':Data.seq vs.toArray _=Data.dict es ep:=d;cases d'
  have I:∀{b:aj} {m:qM},C.heap.Ns b m->(hidT C.heap H).Ns b m:=fun {b m} ⟨o,es,ep,e,d,r⟩=>⟨o,es,ep,Mq e (noA e d),d,r⟩;have U:K.In (hidT C.heap H):=fun b o e=>Mq (KX b o e) (by
   cases q:H b with
   | none=>rfl
   | some u =>have e':b=a:=hA b (by rw[q];simp);subst e';rw[hK (by rw[q];simp)]at e;cases e)
  have hM:Mod K mg (hidT C.heap H):=⟨U,I R,⟨mb,I G,hbb⟩,let ⟨mc,h1,h2⟩:=J;⟨mc,I h1,h2⟩⟩;have e0:Env0 P w K mg (hidT C.heap H) callerA [] C H:=⟨rfl,hM,fun b o e=>zrk e,Nat.le_of_eq (zng _ _),trivial,fun b G=>absurd (show b∈([]:List aj) from G) (by simp),hok,.of_eq hg⟩;refine iS ((F _ U (I R)).run callerA [] C H ⟨[.ref a],[]⟩ [.ref a] [.ref a] _ _ hr e0 (MG C (.ref a)) (.cons rfl .nil) (hsp H hO hS)) fun r s' h=>?_;cases r with
  | error e=>exact(hCX H e s' h).elim
  | ok fl =>
   cases fl with
   | next=>exact eJ h
   | brk=>exact eJ h
   | cont=>exact eJ h
   | ret u =>
    obtain⟨v,H',os,bare,un,S,r',q⟩:=h;have q':v=.bl true:=q;subst q';obtain rfl:u=ky true:=r';refine⟨rfl,OldK.of_keep fun b o e=>?_,os,bare⟩;cases q:H b with
    | none=>exact un.keep b o e q (by intro z;exact absurd (show b∈([]:List aj) from z) (by simp)) (by simp)
    | some u =>rcases hO b with z|⟨ob,xs,z⟩;rw[q]at z;cases z;have z2:=un.frzs b ob _ z;obtain⟨e1,_⟩:=hok b _ z;obtain⟨e2,_⟩:=S b _ z2;rw[e]at e1;cases e1;exact e2
 cases hk:K.lookup a with
 | some o =>have e:=KX a o hk;rw[Z]at e;cases e;refine core (fun _=>none) (fun _=>.inl rfl) (.inr ⟨_,vs.toArray,_,hk,rfl,rfl,rfl,by rw[aB,L];exact hl,by simpa using rv⟩) (fun b u z=>by have Y:(none:Option HO)=some u:=z;cases Y) (fun b z=>absurd rfl z) fun z=>absurd rfl z
 | none =>refine core (fun b=>if b=a then some (.frz { cls:=.type "list",data:=.seq vs.toArray } (.lst (ns.map V.int))) else none) (fun b=>?_) (.inl (.inr ⟨{ cls:=.type "list",data:=.seq vs.toArray },if_pos rfl⟩)) (fun b u z=>?_) (fun b z=>?_) fun _=>hk;by_cases G:b=a;exact .inr ⟨_,_,if_pos G⟩;exact .inl (if_neg G);by_cases G:b=a;have Y:=(if_pos G).symm.trans z;cases Y;subst G;exact⟨Z,by rw[aG];exact hl,vs,_,rv,Z⟩;have Y:=(if_neg G).symm.trans z;cases Y;by_cases G:b=a;exact G;exact absurd (if_neg G) z
def Qz(s:fc):Arguments:=match s with
 | .FunctionDef _ a _ _ _ _ _ _ _ _=>a
 | _=>{ posonlyargs:=[],args:=[],vararg:=none,kwonlyargs:=[],kw_defaults:=[],kwarg:=none,defaults:=[] }
def J4(s:fc):List fc:=match s with
 | .FunctionDef _ _ b _ _ _ _ _ _ _=>b
 | _=>[]
def JJ(s:fc):fo:=match s with
 | .FunctionDef _ _ _ _ _ _ sc _ _ _=>sc
 | _=>{ kind:=.function,names:=[],isGenerator:=false,isCoroutine:=false }
abbrev CX0:CXT:=fun _ _ _ _ _ _=>False
abbrev E0:XK:=fun _ _ _=>False
theorem zwV{X:Cx}:zoa CX0 X E0:=fun _ _ _ _ _ _ _ h=>h.elim
structure Fun(K:qF)(x qual:Str)(st:fc)(f:aj)(fd:dM):Prop where
 ex:∃(oc:ag) (od:Option aj) (kV doc pm:ag) (an:Option aj) (cdv ct:ag) (osl:Array (Option ag)),
  fd=dX x qual (Qz st) (J4 st) (JJ st) .none kV doc pm an cdv ct/\K.lookup f=some ⟨oc,od,.func fd,osl⟩/\iU K cdv qual=true
 kp:iT K (.ref f)=true
section
variable{P:aL}{w:aZ}{K:qF}{mg:qM}{base:a9}
theorem Fun.ok{x qual:Str}{st:fc}{f:aj}{fd:dM}{N ps:List Str}{k:Nat}{v:Sp}(F:Fun K x qual st f fd)(S:Uv N ps (JJ st))(len:∀vs H Q E,v vs H Q E->vs.length=ps.length)
  (C:∀(l:ag) (A:bg) (outer:List Env) (s:aq) (H:Hp) (vs:List V) (Q:VK) (E:XK),Room k (A.deeper (envOfC qual (JJ st) s.heap.objs.size f l))->v vs H Q E ->
   ∃t,PSs (cxOf CX0 P w K mg base N qual (JJ st) f l A outer s H E).nox (J4 st) t/\t { nx:=fun _ H'=>Q .non H',rt:=Q } (start N vs) H):FnOk P w K mg base CX0 (k+1) f fd ps v:=by
 obtain⟨L,R,kV,doc,pm,an,l,ct,J,rfl,G,y⟩:=F.ex;refine zxD G y S len fun A outer s H vs Q E I u=>?_;obtain⟨t,h,q⟩:=C l A outer s H vs Q E I u;exact⟨t,h.nox,q⟩
theorem Fun.binds{x qual:Str}{st:fc}{f:aj}{fd:dM}{ps:List Str}(F:Fun K x qual st f fd)
  (h:∀(kV doc pm:ag) (an:Option aj) (u ct:ag) (v:List ag),v.length=ps.length->bindArgs (dX x qual (Qz st) (J4 st) (JJ st) .none kV doc pm an u ct) ⟨v,[]⟩=pure (ps.zip v)):Binds K fd ps []:=by
 obtain⟨I,J,kV,doc,pm,an,u,ct,y,rfl,G,C⟩:=F.ex;exact .all (h kV doc pm an u ct)
theorem zqa{x qual:Str}{st:fc}{f:aj}{G:ag}{C an:Option aj}{y:Array (Option ag)}{kV doc pm v ct:ag}(l:K.lookup f=some ⟨G,C,.func (dX x qual (Qz st) (J4 st) (JJ st) .none kV doc pm an v ct),y⟩)
  (c:iU K v qual=true) (k:iT K (.ref f)=true):Fun K x qual st f (dX x qual (Qz st) (J4 st) (JJ st) .none kV doc pm an v ct):=⟨⟨G,C,kV,doc,pm,an,v,ct,y,rfl,l,c⟩,k⟩
end
section
variable{X:Cx}
theorem pv(i:Nat){x:Str}{pos:Pos}(u:X.N[i]?=some x:=by rfl)(o:Vis X.env.scope x:=by walk_at "V")(hd:(x == ("__debug__":Str))=false:=by decide)
  (l:(x == ("__classdict__":Str))=false:=by decide):PE X (.Name x pos) (tVar i):=Qb u o hd l
end
theorem iteF{A B:Prop}(h:B):if false=true then A else B:=by rw[if_neg aQ];exact h
theorem iteT{A B:Prop}(h:A):if true=true then A else B:=by rw[if_pos rfl];exact h
def Same(H H':Hp):Prop:=∀b o,H b=some o->H' b=some o
theorem Same.refl(H:Hp):Same H H:=fun _ _ h=>h
theorem Same.trans{H l u:Hp}(a:Same H l)(b:Same l u):Same H u:=fun c o h=>b c o (a c o h)
end L2
namespace L2
open PySem PySem.Spec PyProof PyProof.Rows
def closed(env:Env):List (Str×eT)->List (Str×aj)->List (Str×aj)
 | [],acc=>acc
 | (n,k)::r,acc=>closed env r (if (k == .free)=true then(n,(env.cells.lookup n).getD 0)::acc else acc)
theorem zfx{env:Env}:∀(l:List (Str×eT)) (acc:List (Str×aj)),(∀x∈l,x.2=.free->∃c,env.cells.lookup x.1=some c) ->
  (forIn l acc fun x __s=>if (x.snd == cn)=true then do
    let c <- cellOf env x.fst
    pure (iC ((x.fst,c)::__s))
   else pure (iC __s):Sem (List (Str×aj)))=pure (closed env l acc)
 | [],acc,_=>rfl
 | (n,k)::r,acc,h=>by
  have v:=fun a=>zfx (env:=env) r a fun x hx=>h x (cw _ hx);rw[iD];by_cases e:(k == cn)=true;obtain⟨c,hc⟩:=h (n,k) dI (by simpa using e);have o:xJ n env.cells=some c:=hc;have y:cellOf env n=pure c:=by unfold cellOf;rw[o]
  simp only[e,if_true,y,pure_bind];rw[v];conv=>rhs;unfold closed
  simp only[e,if_true,o,g6];have u:(k == cn)=false:=by simpa using e
  simp only[u,aI,if_false,pure_bind];rw[v];conv=>rhs;unfold closed
  simp only[u,aI,if_false]
theorem zbU{scope:fo}{env:Env}(h:∀x∈scope.names,x.2=.free->∃c,env.cells.lookup x.1=some c):closureFor scope env=pure (closed env scope.names []):=by simp only[closureFor];rw[zfx scope.names [] h];rfl
theorem zgn{env:Env}:∀(l:List (Str×eT)) (acc:List (Str×aj)),(∀x∈l,x.2=.free->∃c,env.cells.lookup x.1=some c) ->
  (∀x c,acc.lookup x=some c->env.cells.lookup x=some c)->∀x c,(closed env l acc).lookup x=some c->env.cells.lookup x=some c
 | [],acc,_,ha=>ha
 | (n,k)::r,acc,h,ha=>by
  unfold closed;refine zgn r _ (fun x hx=>h x (cw _ hx)) fun x c=>?_;by_cases e:(k == cn)=true;obtain⟨d,hd⟩:=h (n,k) dI (by simpa using e);have v:xJ n env.cells=some d:=hd;simp only[e,if_true,v,g6];intro q;rw[dN]at q;by_cases ex:(x == n)=true;simp only[ex]at q;have y:x=n:=by simpa using ex
  cases q;rw[y];exact v;have C:(x == n)=false:=by simpa using ex
  simp only[C]at q;exact ha x c q;have G:(k == cn)=false:=by simpa using e
  simp only[G,aI,if_false];exact ha x c
theorem zgp{env:Env}:∀(l:List (Str×eT)) (acc:List (Str×aj)) (x:Str),(∃c,acc.lookup x=some c)->∃c,(closed env l acc).lookup x=some c
 | [],_,_,h=>h
 | (n,k)::r,acc,x,h=>by
  unfold closed;refine zgp r _ x ?_;by_cases e:(k == cn)=true;simp only[e,if_true];rw[dN];cases(x == n) with
  | true=>exact⟨_,rfl⟩
  | false=>exact h
  have v:(k == cn)=false:=by simpa using e
  simp only[v,aI,if_false];exact h
theorem zgo{env:Env}:∀(l:List (Str×eT)) (acc:List (Str×aj)) (x:Str),(x,cn)∈l->∃c,(closed env l acc).lookup x=some c
 | [],_,_,h=>nomatch h
 | (n,k)::r,acc,x,h=>by unfold closed;rcases ay.mp h with e|h;cases e;refine zgp r _ _ ?_;have v:(cn == cn)=true:=rfl;simp only[v,if_true];rw[dN];simp;exact zgo r _ x h
theorem lookup_mem{α:Type}{l:List (Str×α)}{x:Str}{v:α}(h:l.lookup x=some v):(x,v)∈l:=by
 induction l with
 | nil=>simp at h
 | cons p r y =>
  obtain⟨n,w⟩:=p;rw[dN]at h;by_cases e:(x == n)=true;simp only[e]at h;cases h;have o:x=n:=by simpa using e
  rw[o];exact dI;have u:(x == n)=false:=by simpa using e
  simp only[u]at h;exact cw _ (y h)
def Um(env:Env)(p:Str×eT):Str×eT:=if (p.2 == cn&&env.scope.kind == .function&&env.kindOf p.1 == some .cell)=true then(p.1,.cell) else p
theorem zmi(env:Env)(p:Str×eT):(Um env p).1=p.1:=by unfold Um;by_cases c:(p.2 == cn&&env.scope.kind == .function&&env.kindOf p.1 == some .cell)=true;rw[if_pos c];rw[if_neg c]
def kin(env:Env)(x:Str):Option eT->Option eT
 | some .free=>if (env.scope.kind == .function&&env.kindOf x == some .cell)=true then some .cell else some .free
 | o=>o
theorem zmh(env:Env)(x:Str)(k:eT):some (Um env (x,k)).2=kin env x (some k):=by
 unfold Um;by_cases c:(k == cn&&env.scope.kind == .function&&env.kindOf x == some .cell)=true;rw[if_pos c];rw[bq,bq]at c;have y:k=.free:=by simpa using c.1.1
 subst y;unfold kin;rw[if_pos (by rw[bq];exact⟨c.1.2,c.2⟩)];rw[if_neg c];cases k with
 | free =>have:¬(env.scope.kind == .function&&env.kindOf x == some .cell)=true:=fun z=>c (by have v:(cn == cn)=true:=rfl;rw[v,dS];exact z);unfold kin;rw[if_neg this]
 | _=>rfl
theorem zgz(scope:fo)(env:Env):(relabel scope env).names=scope.names.map (Um env):=by show scope.names.map _=_;refine fe fun p _=>?_;obtain⟨n,k⟩:=p;rfl
theorem zfZ(env:Env):∀(l:List (Str×eT)) (x:Str),(l.map (Um env)).lookup x=kin env x (l.lookup x)
 | [],_=>rfl
 | (n,k)::r,x=>by
  have G:=zfZ env r x;have y:Um env (n,k)=(n,(Um env (n,k)).2):=dz (zmi env (n,k)) rfl;rw[aN,y,dN,dN];by_cases e:(x == n)=true;have v:x=n:=by simpa using e
  subst v;simp only[beq_self_eq_true];exact zmh env x k;have C:(x == n)=false:=by simpa using e
  simp only[C];exact G
theorem zed(scope:fo)(env:Env)(x:Str):(relabel scope env).names.lookup x=kin env x (scope.names.lookup x):=by rw[zgz];exact zfZ env _ x
def tbH(A B:Hp):Hp:=fun b=>match A b with
 | some (.tbl q)=>some (.tbl q)
 | _=>B b
theorem zlP{A B:Hp}(h:∀b q,A b=some (.tbl q)->B b=some (.tbl q)):tbH A B=B:=funext fun b=>by unfold tbH;split;rename_i q e;exact(h b q e).symm;rfl
abbrev capN(X:Cx)(capt:List Nat):List Str:=capt.map fun i=>X.N.getD i oN
abbrev capS(capt:List Nat)(σ:St):St:=capt.map fun i=>σ.getD i none
abbrev Qh(own:List Str):St:=own.map fun _=>none
def celO(scope:fo)(C:aj):List (Str×aj):=cellsFrom (C+1) scope.names []
def ownCl(X:Cx)(scope:fo)(C:aj):List (Str×aj):=celO scope C++closed X.env scope.names []
abbrev QN(X:Cx)(scope:fo)(own:List Str)(capt:List Nat)(C:aj)(s₀:aq)(H₀:Hp)(fp:List aj):Cx :=
 { X with N:=own++capN X capt,s₀:=s₀,H₀:=tbH X.H₀ H₀,env:=compEnvC scope (ownCl X scope C) C X.env,outer:=X.stack,stack:=X.stack,ex:=fp,fn:=fun y=>scope.names.lookup y == some .cell,pn:=[],xe:=fun _ _=>False }
abbrev Fam(X:Cx)(scope:fo)(own:List Str)(capt:List Nat)(P:Cx->Prop):Prop:=∀C s₀ H₀ fp,P (QN X scope own capt C s₀ H₀ fp)
theorem znT{cl:List (Str×aj)}(names:List (Str×eT)):∀(n:Nat) (acc:List (Str×aj)),cellsFrom n names (acc++cl)=cellsFrom n names acc++cl:=by
 induction names with
 | nil=>exact fun _ _=>rfl
 | cons a r l =>obtain⟨x,k⟩:=a;intro n acc;unfold cellsFrom;by_cases z:(k == kI)=true;rw[if_pos z,if_pos z];exact l (n+1) ((x,n)::acc);rw[if_neg z,if_neg z];exact l n acc
theorem znS{x:Str}{c:aj}(names:List (Str×eT)):∀(n:Nat) (acc:List (Str×aj)),(x,c)∈cellsFrom n names acc->(x,kI)∈names\/(x,c)∈acc:=by
 induction names with
 | nil=>exact fun _ _ h=>.inr h
 | cons a r o =>obtain⟨y,k⟩:=a;intro n acc h;unfold cellsFrom at h;by_cases z:(k == kI)=true;rw[if_pos z]at h;rcases o _ _ h with h|h;exact .inl (.tail _ h);rcases ay.mp h with e|h;cases e;rw[eq_of_beq z];exact .inl (.head _);exact .inr h;rw[if_neg z]at h;exact(o _ _ h).imp (.tail _) id
theorem VC{scope:fo}{h':a9}{C n b c:Nat}{x:Str}(l:tE h' (C+1) (celO scope C))(u:n<=C)(z:(x,c)∈celO scope C)(o:b<n):c≠b:=fun e=>by subst e;exact fK _ (aM (aM o u) (mE (l.empty _ _ z).2))
structure Jx(scope:fo)(own:List Str)(capt:List Nat)(X:Cx):Prop where
 kind:scope.kind=.function
 nov:∀y∈scope.names,y.2=.free->(y.1,kI)∉scope.names
 names:∀y∈scope.names,y.2=.local->scope.names.lookup y.1=some .local
 frees:∀y∈scope.names,y.2=.free->X.env.kindOf y.1=some .cell\/X.env.kindOf y.1=some .free
 caps:∀k∈capt,scope.names.lookup (X.N.getD k oN)=some .free
theorem getD_some{α:Type}{l:List (Option α)}{k:Nat}{v:α}(h:l.getD k none=some v):l[k]?=some (some v):=by
 rw[bf]at h;cases e:l[k]? with
 | none=>rw[e]at h;cases h
 | some o=>rw[e]at h;simp at h;rw[h]
section
variable{X:Cx}{scope:fo}{own:List Str}{capt:List Nat}
theorem Jx.cells(S:Jx scope own capt X)(ok:X.Ok):∀x∈scope.names,x.2=.free->∃c,X.env.cells.lookup x.1=some c:=fun x hx hf=>ok.has x.1 (S.frees x hx hf)
theorem Jx.sub(S:Jx scope own capt X)(ok:X.Ok):∀x c,(closed X.env scope.names []).lookup x=some c->X.env.cells.lookup x=some c :=
 zgn scope.names [] (S.cells ok) (fun x c h=>nomatch (show(none:Option aj)=some c from h))
theorem Jx.cell(S:Jx scope own capt X)(ok:X.Ok){C:aj}{x:Str}{c:aj}(h:(ownCl X scope C).lookup x=some c):(x,c)∈celO scope C\/X.env.cells.lookup x=some c:=by
 rw[ownCl,iK]at h;cases e:(celO scope C).lookup x with
 | some d =>rw[e]at h;cases h;exact .inl (mem_of_lookup e)
 | none =>rw[e]at h;exact .inr (S.sub ok x c h)
theorem Jx.free(S:Jx scope own capt X){C:aj}{x:Str}(h:scope.names.lookup x=some .free):∃d,(closed X.env scope.names []).lookup x=some d/\(ownCl X scope C).lookup x=some d:=by
 obtain⟨d,hd⟩:=zgo (env:=X.env) scope.names [] x (lookup_mem h);refine⟨d,hd,?_⟩;rw[ownCl,iK];cases e:(celO scope C).lookup x with
 | none=>exact hd
 | some q =>rcases znS _ _ _ (mem_of_lookup e) with z|z;exact absurd z (S.nov _ (lookup_mem h) rfl);cases z
theorem zkJ{x:Str}(h:(relabel scope X.env).names.lookup x=some .cell\/(relabel scope X.env).names.lookup x=some .free):scope.names.lookup x=some .cell\/scope.names.lookup x=some .free:=by
 rw[zed]at h;cases q:scope.names.lookup x with
 | none=>rw[q]at h;rcases h with z|z <;> cases z
 | some k =>
  rw[q]at h;cases k with
  | free=>exact .inr rfl
  | cell=>exact .inl rfl
  | _=>rcases h with z|z <;> cases z
theorem zse{pins:qO}{σ:St}{H₀:Hp}{s₀:aq}{C:aj}{L:List aj}{h':a9}(S:Jx scope own capt X)(I:Inv X pins σ H₀ s₀)(hf:∀b∈L,FpOk X pins H₀ b)(R:∀b∈L,b<s₀.heap.objs.size)(G:s₀.heap.objs.size<=C)(J:tE h' (C+1) (celO scope C)) :
  (QN X scope own capt C s₀ H₀ L).Ok:=by
 have old:∀{x y c},(x,c)∈celO scope C->X.env.cells.lookup y=some c->False:=fun h hz=>by obtain⟨w,q⟩:=I.cell _ _ hz;exact VC J G h q.lt rfl
 unfold QN;rw[zlP I.base.tbls];refine⟨I.ok.mod,S.kind,I.ok.glob,I.ok.blt,G,fun x y c h1 Z=>?_,fun x hk=>?_,fun x c z h=>?_,I.ok.hd,I.ok.frames,.inl rfl,fun b v=>?_,I.bs,b7 I.ok.bsz I.sz,fun b o e v=>?_,fun b v z=>?_,I.stack,I.stkFree⟩;rcases S.cell I.ok h1 with a|a <;> rcases S.cell I.ok Z with b|b;exact name_of_addr J.apart a b;exact(old a b).elim;exact(old b a).elim;exact I.ok.inj x y c a b;rcases zkJ hk with q|q;have:=gf scope.names (C+1) [] (.inl q);show ∃c,(ownCl X scope C).lookup x=some c;rw[ownCl,iK];obtain⟨d,hd⟩:=ic.mp this;exact⟨d,by rw[celO,hd];rfl⟩;exact let ⟨d,_,e⟩:=S.free q;⟨d,e⟩;have q:=gf scope.names (C+1) [] (.inl (eq_of_beq z));obtain⟨d,hd⟩:=ic.mp q;have h:(ownCl X scope C).lookup x=some c:=h;rw[ownCl,iK,celO,hd]at h;cases h;have:=(J.empty _ _ (mem_of_lookup hd)).2;exact b7 G (mE this);obtain⟨f0,f1,f2,N,f4,U⟩:=hf b v;have Y:=R b v;refine⟨aD (aM Y G),fun x c e=>?_⟩;rcases S.cell I.ok e with z|z;exact VC J G z Y;exact f4 x c z;obtain⟨f0,f1,f2,N,f4,U⟩:=hf b v;rcases N with z|z;exact I.ok.noex b o e z;exact absurd (aM (ax (I.ok.bs b o e).1) z) (fK _);obtain⟨f0,f1,f2,N,f4,U⟩:=hf b v;rcases ay.mp (I.stkSub b z) with q|q;exact f1 q;exact f2 q
theorem znM{J:HO}{pins:qO}{σ:St}{H₀:Hp}{s₀:aq}{fp:List aj}{h':a9}{D C:aj}(S:Jx scope own capt X)(I:Inv X pins σ H₀ s₀)(hf:∀b∈fp,FpOk X pins H₀ b)(hfp:∀b∈fp,b<s₀.heap.objs.size)
  (Z:s₀.heap.objs.size<=D) (U:D<C) (old:∀b o,s₀.heap.get? b=some o->h'.get? b=some o) (hns:h'.Ns C (fun _=>none)) (ck:tE h' (C+1) (celO scope C)) (R:JC X.prog X.w (upd H₀ D J) h' D J) :
  Inv (QN X scope own capt C s₀ H₀ fp) [] (Qh own++capS capt σ) (upd H₀ D J) { s₀ with heap:=h' }:=by
 have hC:s₀.heap.objs.size<=C:=fh (gm Z U);have ok:=zse (own:=own) (capt:=capt) S I hf hfp hC ck;have hn:H₀ D=none:=I.hok.fresh Z;unfold QN at ok ⊢;rw[zlP I.base.tbls]at ok ⊢;refine⟨ok,rfl,I.bare,Un.laid old Z hn,⟨_,hns,fun i x v e1 L e3=>?_⟩,fun x c e=>?_,?_,fun x c e=>?_,fun p hp=>absurd (show p∈([]:qO) from hp) (by simp),I.hok.laid (o:=J) old Z R,(by show(Qh own++capS capt σ).length=(own++capN X capt).length;simp[Qh,capS,capN])⟩;have N:(Qh own).length=own.length:=aG ..;by_cases hi:i<own.length;rw[bV (by rw[N];exact hi)]at L;unfold Qh at L;rw[aT]at L;cases q:own[i]? with
 | none=>rw[q]at L;cases L
 | some z=>rw[q]at L;cases L
 have hi':own.length<=i:=rS hi;have G:(own++capN X capt)[i]?=some x:=e1;rw[cm hi']at G;rw[cm (by rw[N];exact hi'),N]at L;unfold capN at G;unfold capS at L;rw[aT]at G L;cases q:capt[i - own.length]? with
 | none=>rw[q]at G;cases G
 | some k =>
  rw[q]at G L;have ex:X.N.getD k oN=x:=aE G;have ev:σ.getD k none=some v:=aE L;have hv:=getD_some ev;have Y:k<X.N.length:=by rw[<- I.len];exact(av.mp hv).1
  have hx:X.N[k]?=some x:=by rw[bf,au Y]at ex;rw[au Y];exact congrArg some ex
  have Mg:=S.caps k (aA q);rw[ex]at Mg;have Mo:=S.frees _ (lookup_mem Mg) rfl;obtain⟨m,hm,hl⟩:=I.loc;obtain⟨u,r,l⟩:=hl k x v hx hv (Mo.elim (fun z=>.inr (.inl z)) fun z=>.inr (.inr z));refine⟨u,r,.inr ⟨?_,?_⟩⟩;have e:=zed scope X.env x;rw[Mg]at e;show(relabel scope X.env).names.lookup x=some .cell\/(relabel scope X.env).names.lookup x=some .free;rw[e];unfold kin;by_cases c:(X.env.scope.kind == .function&&X.env.kindOf x == some .cell)=true;rw[if_pos c];exact .inl rfl;rw[if_neg c];exact .inr rfl;rcases l with⟨z,_⟩|⟨_,c,hc,o,R,hod⟩;rcases Mo with y|y <;> (have y':X.env.kindOf x=_:=y;rw[z]at y';cases y');obtain⟨d,hd,hd2⟩:=S.free (C:=C) Mg;have:=S.sub I.ok x d hd;rw[hc]at this;cases this;exact⟨c,hd2,o,old _ _ R,hod⟩
 rcases S.cell I.ok e with z|z;exact⟨none,(ck.empty _ _ z).1⟩;obtain⟨v,o,R,hd⟩:=I.cell x c z;exact⟨v,o,old _ _ R,hd⟩;show upd H₀ D J C=none;rw[Jh (dU U)];exact I.hok.fresh hC;show upd H₀ D J c=none;rcases S.cell I.ok e with z|z;rw[Jh (VC ck (ar _) z U)];exact I.hok.fresh (b7 hC (mE (ck.empty _ _ z).2));obtain⟨v,o,R,hd⟩:=I.cell x c z;rw[Jh (aD (aM (ax R) Z))];exact I.freeC x c z
theorem zpE{pins Z:qO}{σ σ':St}{H₀ H':Hp}{s₀ s':aq}{N:List aj}{l:a9}{C:aj}(I:Inv X pins σ H₀ s₀)(hf:∀b∈N,FpOk X pins H₀ b)(hC:s₀.heap.objs.size<=C)
  (J:Inv (QN X scope own capt C s₀ H₀ N) Z σ' H' s') (R:cH C s'.heap l):Inv X pins σ H' { s' with heap:=l }:=by
 have L:H' C=none:=J.free;have x:∀b o,s₀.heap.get? b=some o->b≠C:=fun b o e=>aD (aM (ax e) hC);have u:Un (frs X.stack) N (tbH X.H₀ H₀) H' s₀.heap s'.heap:=J.base;rw[zlP I.base.tbls]at u;have u2:Un (frs X.stack) N H₀ H' s₀.heap l:=by refine⟨fun b o q n h1 G=>(R.2 b (x b o q)).trans (u.keep b o q n h1 G),fun b o q n h1 G=>?_,u.free,fun b o q G=>?_,u.tups,u.frzs,u.tbls⟩;obtain⟨sl,e⟩:=u.slot b o q n h1 G;exact⟨sl,(R.2 b (x b o q)).trans e⟩;obtain⟨Y,e⟩:=u.there b o q G;exact⟨Y,(R.2 b (x b o q)).trans e⟩
 have hok:HOk X.prog X.w H' l:=fun b S e=>by refine(J.hok b S e).stay (fun c v hc q=>(R.2 c ?_).trans q) (fun _ q=>q) (fun _ _ q=>q) fun _ _ _ q=>q;rintro rfl;rcases hc with z|z;subst z;rw[L]at e;cases e;rw[L]at z;cases z
 refine I.call' (s':={ s' with heap:=l }) J.os u2 hok J.bare fun b U=>?_;obtain⟨f0,f1,f2,f3,f4,f5⟩:=hf b U;exact⟨f3,f1,f4,f5⟩
end
def PTs(Y:Cx)(ifs:List aY)(t:TT):Prop :=
 ∀(pins:qO) (s:aq) (σ:St) (H:Hp) (Q:Bool->Hp->Prop),Inv Y pins σ H s->t σ H Q ->
  wpAny (model Y.prog Y.w) Y.A (forIn ifs true fun c r=>if r=true then do let ok <- isTrue c Y.env (eval c Y.env);pure (iC ok) else pure (iC r)) (TP Y pins σ Q) Y.xe s
def tYes:TT:=fun _ H Q=>Q true H
theorem zqS{Y:Cx}:PTs Y [] tYes:=fun _ _ _ H _ I h=>wpAny_tests_nil ⟨H,I,h⟩
theorem zqR{Y:Cx}{c:aY}{t:TT}(h:PT Y c t):PTs Y [c] t:=fun pins s σ H Q I q=>wpAny_tests_one (h pins s σ H Q I q)
abbrev NoX:ag->aq->Prop:=fun _ _=>False
def Wk:St->St->Prop
 | [],[]=>True
 | none::r,_::r'=>Wk r r'
 | some v::r,o::r'=>o=some v/\Wk r r'
 | _,_=>False
theorem Wk.weak:∀{σ σ':St},Wk σ σ'->σ.length=σ'.length/\∀(i:Nat) v,σ[i]?=some (some v)->σ'[i]?=some (some v)
 | [],[],_=>⟨rfl,fun _ _ h=>by simp at h⟩
 | none::r,o::r',h=>by
  obtain⟨a,b⟩:=Wk.weak (σ:=r) (σ':=r') h;refine⟨by simp[a],fun i v e=>?_⟩;cases i with
  | zero=>simp at e
  | succ i=>simpa using b i v (by simpa using e)
 | some w::r,o::r',h=>by
  obtain⟨h0,h1⟩:o=some w/\Wk r r':=h;obtain⟨a,b⟩:=Wk.weak h1;refine⟨by simp[a],fun i v e=>?_⟩;cases i with
  | zero=>rw[h0];simpa using e
  | succ i=>simpa using b i v (by simpa using e)
 | none::_,[],h=>eJ h
 | some _::_,[],h=>eJ h
 | [],_::_,h=>eJ h
abbrev TM:=St->Hp->(Hp->Prop)->Prop
def VA(e:aY)(d:Nat)(tg iter:aY)(ifs:List aY)(acc:ag)(env:Env)(nx:Sem Fin->Sem Fin):Prop:=∀it,compTurn e d it acc env=(do
 standAt iter.pos
 match <- pyNext it with
 | none=>pure (.done .next)
 | some v =>
  letOwnedTupleGo tg it v
  assign tg env v
  let mut ok:=true
  for c in ifs do
   if ok then ok <- isTrue c env (eval c env)
  if ok then nx (again (.compLoop e d it acc env)) else again (.compLoop e d it acc env))
def IsC(e:aY):Prop:=∀(A:bg) (P:aL) (w:aZ) (d:Nat) (it acc:ag) (env:Env),(A.under (.compLoop e d it acc env)=A/\(model P w).den (.compLoop e d it acc env)=(compTurn e d it acc env).onRaise fun x=>do noteFrame x env;theTreesLotGoes x) /\
 (A.under (.compStart e d it acc env)=A/\(model P w).den (.compStart e d it acc env)=(compStart e d it acc env).onRaise fun x=>do noteFrame x env;standAt theWindowsPlace)/\(Code.compLoop e d it acc env).quiet=true
def PM(Y:Cx)(nx:Sem Fin->Sem Fin)(l:TM):Prop:=∀(pins:qO) (s:aq) (σ:St) (H:Hp) (N:Hp->Prop) (k:Sem Fin) (Q:Fin->aq->Prop) (E:qV),Inv Y pins σ H s->l σ H N ->
 (∀s' H',Inv Y pins σ H' s'->N H'->wpAny (model Y.prog Y.w) Y.A k Q E s')->wpAny (model Y.prog Y.w) Y.A (nx k) Q E s
def Y7(g:TG)(tt:TT)(y:TM)(σ:St)(J:It)(C:Hp)(Q:Hp->Prop):Prop:=∃(n:Nat) (W:Nat->Hp->Prop),W 0 C/\∀i o,W i o ->
 (i=n->J.stop i o/\Q o)/\(i<n->J.go i o/\∀x v,J.yld i o x v->g x σ v fun l G=>Wk σ l/\tt l G fun b u=>if b=true then y l u (W (i+1)) else W (i+1) u)
section
variable{Y:Cx}{e:aY}{d:Nat}{tg iter:aY}{ifs:List aY}{acc:ag}{nx:Sem Fin->Sem Fin}{g:TG}{tt:TT}{te:TM}{pins:qO}{σ:St}{s:aq}{H1:Hp}{Q:Hp->Prop}{R:rQ->aq->Prop}
theorem zj9(hC:IsC e)(U:Y.xe=NoX)(hc:Y.calm=true)(hT:VA e d tg iter ifs acc Y.env nx)(hg:PG Y tg g)(ht:PTs Y ifs tt)(hm:PM Y nx te){it:aj}{l:List aj}{tn:Nat->a9->Prop}{J:It}(T:Turn Y.prog Y.w Y.K tg J l it tn)
  (Ml:∀{H':Hp},(∀b∈l,H' b=none)->∀b∈l,FpOk Y pins H' b) (I:Inv Y pins σ H1 s) (st:tn 0 s.heap) (fr:∀b∈l,H1 b=none) (h:Y7 g tt te σ J H1 Q) (hR:∀s' H',Inv Y pins σ H' s'->Q H'->R (.ok .next) s') :
  codeAny (model Y.prog Y.w) Y.A (.compLoop e d (.ref it) acc Y.env) R s:=by
 obtain⟨n,W,w0,turn⟩:=h;refine codeAny_loop (hC Y.A Y.prog Y.w _ _ _ _).2.2 (fun m s'=>∃i H',i+m=n/\Inv Y pins σ H' s'/\tn i s'.heap/\(∀b∈l,H' b=none)/\W i H') ?_ n ⟨0,H1,eP _,I,st,fr,w0⟩;rintro m s4 ⟨i,H4,him,I4,Z,S,w4⟩;rw[(hC Y.A Y.prog Y.w _ _ _ _).1.1,(hC Y.A Y.prog Y.w _ _ _ _).1.2];refine wpAny_noted (cz (E:=NoX) ?_ (fun _ _ q=>q) fun _ _ z=>eJ z);rw[hT];refine aa (eO (aa ?_));obtain⟨t1,t2⟩:=turn i H4 w4;by_cases hi:i=n
 ·obtain⟨stop,qn⟩:=t1 hi;refine thn (T.done Y rfl rfl rfl hc i pins s4 _ H4 NoX I4 (Ml S) Z stop) fun r s5 ⟨hr,I5⟩=>?_;subst hr;exact ae (hR _ _ I5 qn)
 obtain⟨go,step⟩:=t2 (by omega);refine thn (T.item Y rfl rfl rfl hc i pins s4 _ H4 NoX I4 (Ml S) Z go) fun r s5 ⟨u,hr,h5⟩=>?_;subst hr;refine aa (thn h5 fun _ s6 ⟨x,H6,I6,r6,y6,v,fr6⟩=>aa ?_);have a1:=hg _ s6 _ H6 x u _ (I6.pinned (Ml fr6) (T.obj _ _ v)) r6 (step x H6 y6);rw[U]at a1;refine thn a1 fun _ s7 ⟨y,H7,I7,wk,q7⟩=>aa ?_;obtain⟨wl,wv⟩:=wk.weak;have again:∀{C:aq} {N:Hp},Inv Y (pins++ZD l s6.heap) y N C->W (i+1) N->∃m',m'<m/\∃i H',i+m'=n/\Inv Y pins σ H' C/\tn i C.heap/\(∀b∈l,H' b=none)/\W i H':=fun {C N} I8 w8=>by have pn:∀{b o},b∈l->s6.heap.get? b=some o->_:=fun {b o} G e=>I8.pin (b,o) (cF _ (cF _ (zd1 G e)));refine⟨m - 1,by omega,i+1,N,by omega,(I8.unpinned).weak wl wv,T.keep _ _ _ v fun b G o e=>(pn G e).1,fun b G=>?_,w8⟩;obtain⟨o,e,d⟩:=T.obj _ _ v b G;exact(pn G e).2.1
 have a2:=ht _ s7 y H7 _ I7 q7;rw[U]at a2;refine thn a2 fun ok C ⟨N,I8,q8⟩=>?_;cases ok with
 | false=>exact ae ⟨rfl,again I8 (by simpa using q8)⟩
 | true=>exact hm _ C y N _ _ _ _ I8 (by simpa using q8) fun s' H' I' w'=>ae ⟨rfl,again I' w'⟩
theorem zhv{prog:aL}{w:aZ}{A:bg}{it:ag}{env:Env}(u:IsC e)(v:(clausesOf e)[d]?=some ⟨tg,iter,ifs,0⟩)
  (h0:codeAny (model prog w) A (.compLoop e d it acc env) R s)
  (h:wpAny (model prog w) A (pyIter it) (fun l s'=>codeAny (model prog w) A (.compLoop e d l acc env) R s') (notedBy (model prog w) A env fun x s'=>R (.error x) s') s) :
  codeAny (model prog w) A (.compStart e d it acc env) R s:=by
 refine sO ?_;rw[(u A prog w _ _ _ _).2.1.1,(u A prog w _ _ _ _).2.1.2];refine wpAny_notedAt ?_;unfold compStart;rw[v];show wpAny _ _ (PySem.ask >>= _) _ _ s;refine aa (fv (wpAny_ite ?_));split;first
  | exact aa (ae (ae (oO (u A prog w _ _ _ _).2.2 h0)))
  | exact ae (oO (u A prog w _ _ _ _).2.2 h0)
 first
  | exact aa (cK (aa (eO (aa (cz h (fun l s' h'=>ae (oO (u A prog w _ _ _ _).2.2 h')) fun _ _ x=>x)))))
  | (refine aa (cK ?_);show wpAny _ _ (standAt iter.pos >>= _) _ _ s;exact aa (eO (aa (cz h (fun l s' h'=>ae (oO (u A prog w _ _ _ _).2.2 h')) fun _ _ x=>x))))
def nxN(e:aY)(d:Nat)(it2:aY)(acc:ag)(env:Env)(k:Sem Fin):Sem Fin:=do
 let x <- eval it2 env
 standAt it2.pos
 let x <- foldedSetIterable it2 env x;let _ <- runOwn (.compStart e d (<- holding [x] (pyIter x)) acc env) env
 k
theorem zqZ{wi:TI}(G:IsC e)(l:Y.xe=NoX)(hc:Y.calm=true)(C:(clausesOf e)[d]?=some ⟨tg,iter,ifs,0⟩)(hT:VA e d tg iter ifs acc Y.env nx)(S:∀x,foldedSetIterable iter Y.env x=pure x)(hi:PI Y tg iter wi)(hg:PG Y tg g)(ht:PTs Y ifs tt)(hm:PM Y nx te) :
  PM Y (nxN e d iter acc Y.env) (fun σ H N=>wi σ H fun J H1=>Y7 g tt te σ J H1 N):=by
 intro pins s σ H N k Q E I h hk;have a:=hi pins s σ H _ I h;rw[l]at a;unfold nxN;refine aa (cz a (fun x s1 h1=>aa (eO (aa (iO (S x) (aa (bM (cz h1 (fun itv s2 Z=>?_) fun _ _ z=>z.elim))))))) fun _ _ z=>z.elim);obtain⟨it,fp,tn,J,H2,rfl,I2,T,u,f2,lw⟩:=Z;have loop:codeAny (model Y.prog Y.w) Y.A (.compLoop e d (.ref it) acc Y.env) (fun r s'=>r=.ok .next/\wpAny (model Y.prog Y.w) Y.A k Q E s') s2 :=
  zj9 G l hc hT hg ht hm T (fun U b v=>⟨U b v,(f2 b v).2⟩) I2 u (fun b v=>(f2 b v).1) lw fun s' H' I' q=>⟨rfl,hk s' H' I' q⟩
 refine aa (wpAny_runOwn (iS (zhv G C loop (T.self Y.A 0 _ _ _ u loop)) fun r s7 y=>?_));obtain⟨rfl,y⟩:=y;exact y
end
def NA(P:aL)(w:aZ)(u:Sem ag)(z:aj->HO->Prop):Prop:=∀(A:bg) (E:qV) (s:aq) (Q:qV),sysModules<s.heap.objs.size ->
 (∀l:Obj,l.isFreed=false->(∀h':a9,h'.get? s.heap.objs.size=some l->∃o,z s.heap.objs.size o/\∀H',JC P w H' h' s.heap.objs.size o)->Q (.ref s.heap.objs.size) { s with heap:=s.heap.push l })->wpAny (model P w) A u Q E s
structure Vr(e tg iter:aY)(ifs:List aY)(scope:fo)(Lu:Sem ag)(nx:ag->Env->Sem Fin->Sem Fin):Prop where
 nof:IsC e
 cl:∃gs,clausesOf e=⟨tg,iter,ifs,0⟩::gs
 turn:∀acc env,VA e 0 tg iter ifs acc env (nx acc env)
 ev:∀env,∃p,eval e env=comprehension e scope env p Lu false (eval iter env) none
 ev2:∀env u,∃p,evalThenUse e env u=do let _ <- comprehension e scope env p Lu false (eval iter env) (some u)
section
theorem zkZ{M:xx}{A:bg}{E:qV}{s:aq}{scope:fo}{globals:aj}{cl:List (Str×aj)}{qual:Str}{outer:Env}{Q:Env->aq->Prop}
  (l:∀h',h'.Ns s.heap.objs.size (fun _=>none)->(∀b o,s.heap.get? b=some o->h'.get? b=some o)->tE h' (s.heap.objs.size+1) (celO scope s.heap.objs.size) ->
   Q { scope,locals:=s.heap.objs.size,globals,cells:=celO scope s.heap.objs.size++cl,qual,func:=none,code:=outer.code,frame:=outer.frame,builtins:=outer.builtins } { s with heap:=h' }) :
  wpAny M A (newFunctionEnv scope globals cl [] qual none .none (some outer)) Q E s:=by
 simp only[newFunctionEnv,pJ,if_true];refine aa (sC (aa (wpAny_layCells _ (fun name kind cells=>by cases hkc:kind == kI <;> simp[hkc]) _ _ _ _ ?_)));have sz:(s.heap.push { cls:=.type "dict",data:=.dict #[] }).objs.size=s.heap.objs.size+1:=cM ..;have ok:=cellsFrom_ok scope.names (s.heap.push { cls:=.type "dict",data:=.dict #[] }) (s.heap.objs.size+1) [] ⟨fun _ _ u=>(nomatch u),p6⟩ (by rw[sz];exact ar _);dsimp only;rw[show cellsFrom (s.heap.push { cls:=.type "dict",data:=.dict #[] }).objs.size scope.names cl=celO scope s.heap.objs.size++cl by rw[sz];exact znT (cl:=cl) scope.names _ []];rw[sz]at ok;rw[gW];refine aa (ae (ae (l _ ?_ (fun b o e=>sP _ _ b o (ah _ e)) ok)));exact(Heap.Ns.new s.heap (.type "dict")).keeps (sP _ _)
variable{X:Cx}{e tg iter:aY}{ifs:List aY}{scope:fo}{Lu:Sem ag}{nx:ag->Env->Sem Fin->Sem Fin}{z:aj->HO->Prop}{own:List Str}{capt:List Nat}{wi:TI}{g:TG}{tt:TT}{te:aj->TM}
theorem znL(S:Jx scope own capt X){pins:qO}{σ:St}{y:Hp}{s2:aq}{o:List aj}{C:aj}{h':a9}(G:Inv X pins σ y s2)(f2:∀b∈o,FpOk X pins y b)(v:∀b∈o,b<s2.heap.objs.size)(I:s2.heap.objs.size<=C)(U:tE h' (C+1) (celO scope C)){H':Hp}(L:∀b∈o,H' b=none):∀b∈o,FpOk (QN X scope own capt C s2 y o) [] H' b:=fun b u=>by obtain⟨Z,g1,g2,g3,R,Y⟩:=f2 b u;have J:=v b u;refine⟨L b u,aD (aM J I),fun z=>?_,.inl u,fun x c e=>?_,fun p N=>absurd (show p∈([]:qO) from N) (by simp)⟩;rcases ay.mp (G.stkSub b z) with q|q;exact g1 q;exact g2 q;rcases S.cell G.ok e with z|z;exact VC U I z J;exact R x c z
def zsI(z:aj->HO->Prop)(own:List Str)(capt:List Nat)(wi:TI)(g:TG)(tt:TT)(te:aj->TM):TE:=fun σ H Q=>wi σ H fun J o=>∀D l,o D=none->z D l->Y7 g tt (te D) (Qh own++capS capt σ) J (upd o D l) (Q (.ref D))
theorem zks(hc:X.calm=true)(S:Jx scope own capt X)(k:Vr e tg iter ifs scope Lu nx)(na:NA X.prog X.w Lu z)(hg:Fam X scope own capt fun Y=>PG Y tg g)(ht:Fam X scope own capt fun Y=>PTs Y ifs tt)(hm:∀D,Fam X scope own capt fun Y=>PM Y (nx (.ref D) Y.env) (te D))
  {pins:qO} {σ:St} {Q:VK} {itv:ag} {s2:aq} {E:qV} {RR:ag->aj->rQ->aq->Prop}
  (h2:PIE X pins σ tg (fun J H1=>∀D ho,H1 D=none->z D ho->Y7 g tt (te D) (Qh own++capS capt σ) J (upd H1 D ho) (Q (.ref D))) itv s2)
  (hR:∀D C s' H',(∃m,s'.heap.Ns C m)->(∀y,cH C s'.heap y->Inv X pins σ H' { s' with heap:=y })->H' C=none->FpOk X pins H' C->Q (.ref D) H'->RR (.ref D) C (.ok .next) s') :
  wpAny (model X.prog X.w) X.A Lu (fun acc s₃=>wpAny (model X.prog X.w) X.A (newFunctionEnv scope X.env.globals (closed X.env scope.names []) [] X.env.qual none .none (some X.env)) (fun v s₄ =>
   codeAny (model X.prog X.w) X.A (.compStart e 0 itv acc { v with scope:=relabel scope X.env }) (RR acc v.locals) s₄) E s₃) E s2:=by
 obtain⟨it,fp,tn,J,H2,rfl,I,T,st2,f2,rd⟩:=h2;have R:∀b∈fp,b<s2.heap.objs.size:=fun b U=>by obtain⟨o,e,_⟩:=T.obj 0 _ st2 b U;exact ax e
 refine na _ _ _ _ (gn (by decide) (I.mod.glob.keeps I.bk).lt) fun ob lv hob=>zkZ fun u N hk ck=>?_;have g0:(s2.heap.push ob).get? s2.heap.objs.size=some ob:=aw _ lv;have hC:(s2.heap.push ob).objs.size=s2.heap.objs.size+1:=cM ..;have old:∀b o,s2.heap.get? b=some o->u.get? b=some o:=fun b o e=>hk b o (ah _ e);obtain⟨ho,hz,hok⟩:=hob u (hk _ _ g0);dsimp only at N ck ⊢;generalize hCe:(s2.heap.push ob).objs.size=C at N hC ck ⊢;have G:s2.heap.objs.size<=C:=by omega
 have Z:=T.keep _ _ _ st2 fun b U o e=>old b o e;have loop:codeAny (model X.prog X.w) X.A (.compLoop e 0 (.ref it) (.ref s2.heap.objs.size) (compEnvC scope (ownCl X scope C) C X.env)) (RR (.ref s2.heap.objs.size) C) { s2 with heap:=u } :=
  zj9 (Y:=QN X scope own capt C s2 H2 fp) k.nof rfl hc (k.turn _ _) (hg _ _ _ _) (ht _ _ _ _) (hm _ _ _ _ _) T (znL S I f2 R G ck) (znM (D:=s2.heap.objs.size) S I f2 R (ar _) (by rw[hC];exact rT _) old N ck (hok _)) Z (fun b U=>by rw[Jh (aD (R b U))];exact(f2 b U).1)
   (rd _ ho (I.hok.fresh (ar _)) hz) fun s5 H4 I5 q=>by obtain⟨m,hn,_⟩:=I5.loc;exact hR _ _ s5 H4 ⟨m,hn⟩ (fun y sb=>zpE I f2 G I5 sb) I5.free (I.fpOk G I5.free) q
 obtain⟨gs,hcl⟩:=k.cl;exact zhv k.nof (by rw[hcl];rfl) loop (T.self X.A 0 _ _ _ Z loop)
theorem zq7(hc:X.calm=true)(S:Jx scope own capt X)(k:Vr e tg iter ifs scope Lu nx)(na:NA X.prog X.w Lu z)(hi:PI X tg iter wi)(L:Fam X scope own capt fun Y=>PG Y tg g)(U:Fam X scope own capt fun Y=>PTs Y ifs tt)(N:∀D,Fam X scope own capt fun Y=>PM Y (nx (.ref D) Y.env) (te D))
  (y:∀x,foldedSetIterable iter X.env x=pure x):PE X e (zsI z own capt wi g tt te):=by
 intro pins s σ H Q I h;obtain⟨gs,u⟩:=k.cl;obtain⟨p,ev⟩:=k.ev X.env;rw[ev];refine mO (use:=none) u y (zbU (S.cells I.ok)) S.kind S.names (thn (hi pins s σ H _ I h) fun v s1 h1=>thn h1 fun R s2 G=>?_);refine zks (RR:=fun acc C=>compPost (model X.prog X.w) X.A X.xe none (EP X pins σ Q) acc C) hc S k na L U N G fun D C s' H' o J _ _ q=>?_;obtain⟨m,o⟩:=o;exact⟨m,o,fun l Z=>⟨.ref D,H',J l Z,rfl,q⟩⟩
theorem zqW(hc:X.calm=true)(S:Jx scope own capt X)(k:Vr e tg iter ifs scope Lu nx)(na:NA X.prog X.w Lu z)(hi:PI X tg iter wi)(hg:Fam X scope own capt fun Y=>PG Y tg g)(ht:Fam X scope own capt fun Y=>PTs Y ifs tt)(hm:∀D,Fam X scope own capt fun Y=>PM Y (nx (.ref D) Y.env) (te D))
  (hs:∀x,foldedSetIterable iter X.env x=pure x) {i:Nat} {x:Str} {u LZ:Pos} (hN:X.N.Nodup) (U:X.N[i]?=some x) (hx:Loc X.env.scope x) (y:swapsWith e (some (.Name x u)) LZ.line X.env=pure true)
  (hf:X.fn x=true\/X.env.scope.names.lookup x=some .local):PS X (.Assign [.Name x u] e LZ) (tAsg (zsI z own capt wi g tt te) (Uf i)):=by
 intro pins s σ H D I h;obtain⟨gs,Z⟩:=k.cl;obtain⟨p,ev⟩:=k.ev2 X.env (assign (.Name x u) X.env);rw[exec_Assign_Name_used _ _ _ _ y];refine aa (eO (aa ?_));rw[ev];refine aa (cz (mO (use:=some (assign (.Name x u) X.env)) (Q:=fun _ s'=>SP X pins D .next s') Z hs (zbU (S.cells I.ok)) S.kind S.names (thn (hi pins s σ H _ I h) fun v s1 h1=>thn h1 fun itv s2 h2=>?_)) (fun _ s' hq=>ae (ae hq)) fun _ _ e=>e);refine zks (RR:=fun acc C=>compPost (model X.prog X.w) X.A X.xe (some (assign (.Name x u) X.env)) (fun _ s'=>SP X pins D .next s') acc C) (Q:=fun v H'=>Uf i v σ H' D.nx) hc S k na hg ht hm h2 fun D' C s' H' G J hCn fp q=>?_;obtain⟨m,G⟩:=G;obtain⟨f0,f1,f2,f3,f4,f5⟩:=fp;have Is:Inv X pins σ H' s':=J s'.heap (mF _ _);refine pT (zhu Is hN U hx (show RelV (.ref D') (.ref D') from rfl) (fun L I'' sb=>?_) hf);obtain⟨a,sb,ha⟩:=sb;have R:C≠a:=by rcases ha with rfl|ha;exact f1;exact fun z=>f4 x a ha z.symm
 exact⟨m,G.sameBut sb R,fun h' sb'=>⟨_,H',I''.turned (t':=L.toks) (fun b o hb e=>(sb'.2 b hb).trans e) f0 f1 f3 f4 f5,q⟩⟩
end
def zfw(scope outer:fo)(N:List Str)(capt:List Nat):Bool :=
 scope.kind == .function&&scope.names.all (fun y=>!(y.2 == .free)||!scope.names.contains (y.1,.cell))&&scope.names.all (fun y=>!(y.2 == .local)||scope.names.lookup y.1 == some .local) &&
 scope.names.all (fun y=>!(y.2 == .free)||(outer.names.lookup y.1 == some .cell||outer.names.lookup y.1 == some .free))&&capt.all (fun k=>scope.names.lookup (N.getD k oN) == some .free)
theorem Jx.of{X:Cx}{scope:fo}{own:List Str}{capt:List Nat}(h:zfw scope X.env.scope X.N capt=true):Jx scope own capt X:=by simp only[zfw,bq,b5,Bool.or_eq_true,iX,beq_iff_eq,beq_eq_false_iff_ne]at h;obtain⟨⟨⟨⟨h1,I⟩,C⟩,G⟩,x⟩:=h;refine⟨h1,fun y u e=>?_,fun y u e=>(C y u).resolve_left fun z=>z e,fun y u e=>(G y u).resolve_left fun z=>z e,x⟩;have:=(I y u).resolve_left fun z=>z e;simpa using this
end L2
namespace L2
open PySem PySem.Spec PyProof.Rows
section
variable{X:Cx}
theorem ztP:OpR X (compareOp .Is) (fun x y H Q=>∃a b,x=.bl a/\y=.bl b/\Q (.bl (a == b)) H):=by intro pins s σ H x y v u Q I o C h;obtain⟨a,b,rfl,rfl,q⟩:=h;cases o;cases C;exact is_bool ⟨.bl (a == b),H,I,rfl,q⟩
theorem zmG:OpR X (compareOp .IsNot) (fun x y H Q=>∃a b,x=.bl a/\y=.bl b/\Q (.bl (a != b)) H):=by intro pins s σ H x y v u Q I C G h;obtain⟨a,b,rfl,rfl,q⟩:=h;cases C;cases G;exact isnot_bool ⟨.bl (a != b),H,I,rfl,q⟩
def kitB(t T:String):Option Bool:=if (aV t == aV T)=true then some true else if PySem.W.kitMeta T=true then(fastBuiltinMro t).map (·.contains (.type T)) else none
theorem Yu(K:qF)(t T:String):tN K (.type t) (.type T)=kitB t T:=rfl
inductive Ty (H:Hp):V->String->Prop where
 | non:Ty H .non "NoneType"
 | bl (x:Bool):Ty H (.bl x) "bool"
 | int (i:Int):Ty H (.int i) "int"
 | str (x:Str):Ty H (.str x) "str"
 | lst {a:aj} {xs:List V} (e:H a=some (.lst xs)):Ty H (.ref a) "list"
 | tup {a:aj} {xs:List V} (e:H a=some (.tup xs)):Ty H (.ref a) "tuple"
 | dK {a:aj} {kvs:List (Key×V)} (e:H a=some (.dK kvs)):Ty H (.ref a) "dict"
theorem Ty.of{K:qF}{H:Hp}{v:V}{t:String}(h:Ty H v t):TyOf K H v (.type t):=by
 cases h with
 | non=>exact .non
 | bl x=>exact .bl x
 | int i=>exact .int i
 | str x=>exact .str x
 | lst e=>exact .lst e
 | tup e=>exact .tup e
 | dK e=>exact .dK e
theorem zpI:bootBuiltins "isinstance" = some (.builtin "isinstance"):=by decide +kernel
theorem boot_int:bootBuiltins "int" = some (.type "int"):=by decide +kernel
theorem zlu:bootBuiltins "bool" = some (.type "bool"):=by decide +kernel
theorem QA:bootBuiltins "tuple" = some (.type "tuple"):=by decide +kernel
theorem Vd:bootBuiltins "all" = some (.builtin "all"):=by decide +kernel
theorem Ve:bootBuiltins "min" = some (.builtin "min"):=by decide +kernel
theorem zfz:bootBuiltins "max" = some (.builtin "max"):=by decide +kernel
theorem J5:bootBuiltins "len" = some (.builtin "len"):=by decide +kernel
theorem znZ:bootBuiltins "sum" = some (.builtin "sum"):=by decide +kernel
theorem ziA:∀{bs:List Bool}{u:List ag},Vals (bs.map V.bl) u->LSm.BoolsAre u bs
 | [],_,h=>by cases h;exact .nil
 | b::bs,_,h=>by
  cases h with
  | cons r t =>cases(show _=ky b from r);exact .cons b (ziA t)
theorem Vf(hc:X.calm=true):JK X (.builtin "all") (fun xs H Q=>∃(a:aj) (bs:List Bool),xs=[.ref a]/\SqL X.K H a (bs.map V.bl)/\Q (.bl (bs.all id)) H):=by
 intro pins s σ H xs Z Q I r h;obtain⟨a,bs,rfl,J,q⟩:=h;cases r with
 | cons G S =>
  cases S;cases(show _=aJ a from G);obtain⟨its,R,p,hz⟩:=I.list J;have y:=ziA R;have x:s.heap.IsList a its.toArray:=p.isList;have o:a<s.heap.objs.size:=by obtain⟨_,e,_⟩:=x;exact ax e
  refine call_all_walk (iR x ?_);refine⟨s.heap.objs.size,[s.heap.objs.size,a],[s.heap.objs.size],its.toArray.size,_,_,fun i=>(bs[i]?).getD true,rfl,Walks.list (A:=X.A.in1) (I.ok.hd hc) _ a (aD o) its.toArray,
   ⟨⟨_,aw _ rfl,rfl,rfl⟩,x.push _⟩,fun i v s' Y U N C=>?_,fun h' tk L=>?_⟩
  obtain⟨b,e,rfl⟩:=y.get i v (by simpa using N);simp only[e,g6]at C;exact cZ C;have e:((fZ its.toArray.size).all fun i=>(bs[i]?).getD true)=bs.all id:=by rw[aB,y.length];exact LSm.range_all bs
  rw[e];exact⟨.bl _,H,I.kept (LSm.kept_iter L),rfl,q⟩
mutual
inductive UH (H:Hp):V->af->Prop
 | non:UH H .non .none
 | bl (b:Bool):UH H (.bl b) (.bool b)
 | int (i:Int):UH H (.int i) (.int i)
 | str (x:Str):UH H (.str x) (.str x)
 | lst {a:aj} {xs:List V} {ds:qD}:H a=some (.lst xs)->Z4 H xs ds->UH H (.ref a) (.list ds)
 | tup {a:aj} {xs:List V} {ds:qD}:H a=some (.tup xs)->Z4 H xs ds->UH H (.ref a) (.tuple ds)
inductive Z4 (H:Hp):List V->List af->Prop
 | nil:Z4 H [] []
 | cons {v:V} {vs:List V} {d:af} {ds:qD}:UH H v d->Z4 H vs ds->Z4 H (v::vs) (d::ds)
end
def Y6(i j:Int):Prop:=0<j/\j<2 ^ 128
theorem VP:OpR X (binaryOp .FloorDiv) (rI Y6 fun i j=>.int (i / j)):=opI fun i j _ _ _ _ _ hc q=>by
 have h1:(0:Int)<j:=hc.1;have y:j<2 ^ 128:=hc.2;refine floordiv_int (by omega) (by rw[lN i (by omega)];exact q) (.inl (PyProof.noPylong_of_log2 ?_));have u:j.natAbs<2 ^ 128:=by omega
 have x:j.natAbs.log2<128:=(Nat.log2_lt (by omega)).mpr u;omega
end
def Pl(X:Cx)(es:List aY):Prop:=∀pos,(backTo pos (starEach es X.env)).any (·.1)=false
def Hd(X:Cx):List aY->Prop
 | []=>True
 | e::r=>starEach (e::r) X.env=(false,eval e X.env)::starEach r X.env/\Pl X r
structure PB(X:Cx)(es:List aY)(t:TA):Prop where
 pa:PA X es t
 pl:Pl X es
 hd:Hd X es
section
variable{X:Cx}{es:List aY}{t:TA}{te:TE}
theorem QF:PB X [] tNil:=⟨QY,fun _=>rfl,trivial⟩
theorem Qd(h:PE X e te)(o:PB X es t)(l:starEach (e::es) X.env=(false,eval e X.env)::starEach es X.env):PB X (e::es) (QE te t) :=
 ⟨QT h o.pa l,fun pos=>by rw[l];have:(backTo pos ((false,eval e X.env)::starEach es X.env)).any (·.1)=(false||(backTo pos (starEach es X.env)).any (·.1)):=rfl;rw[this,o.pl pos];rfl,l,o.pl⟩
theorem pb_i{j pos}(l:PB X es t):PB X (.Constant (.int i) j pos::es) (QE (tC (.int i)) t):=Qd JB l rfl
theorem pb_v(i:Nat){x:Str}{pos:Pos}(u:PB X es t)(v:X.N[i]?=some x:=by rfl)(o:Vis X.env.scope x:=by walk_at "V")(hd:(x == ("__debug__":Str))=false:=by rfl)
  (l:(x == ("__classdict__":Str))=false:=by rfl):PB X (.Name x pos::es) (QE (tVar i) t):=Qd (Qb v o hd l) u rfl
theorem zrb(h:PE X (.Name x pos) te)(l:PB X es t):PB X (.Name x pos::es) (QE te t):=Qd h l rfl
theorem zpY{a b c d}(h:PE X (.BinOp a b c d) te)(l:PB X es t):PB X (.BinOp a b c d::es) (QE te t):=Qd h l rfl
theorem ztC{a b c d}(h:PE X (.Compare a b c d) te)(l:PB X es t):PB X (.Compare a b c d::es) (QE te t):=Qd h l rfl
variable{e:aY}{x:Str}{p pos:Pos}
theorem zq5{x1}(h:PB X es t):PE X (.Tuple es x1 pos) (tTup t):=ztt h.pa
theorem zmy(h:PB X es t):PE X (.List es pos) (tLst t):=ztx h.pa
theorem Ye{id:String}{r:List V->Hp->VK->Prop}(hc:JK X (.builtin id) r)(y:X.mg x=none)(G:bootBuiltins x=some (.builtin id))(h:PB X (e::es) t)(v:Gl X x:=by rfl)(I:x ≠ "__name__":=by decide) (o:(x == ("__debug__":Str))=false:=by rfl) :
  PE X (.Call (.Name x p) (e::es) [] pos) (tCB r t):=zoW hc v y G h.pa I o h.hd.1 (h.hd.2 pos)
theorem zq9(hc:JK X (.type T) r)(v:X.mg x=none)(G:bootBuiltins x=some (.type T))(h:PB X (e::es) t)(u:Gl X x:=by rfl)(I:x ≠ "__name__":=by decide) (o:(x == ("__debug__":Str))=false:=by rfl) :
  PE X (.Call (.Name x p) (e::es) [] pos) (tCB r t):=zhN hc u v G h.pa I o h.hd.1 (h.hd.2 pos)
end
end L2
namespace Bd
open PySem L2
structure Def(K:qF)(mg:qM)(x:Str)(st:fc)(ps:List Str)(f:aj)(fd:dM):Prop where
 F:Fun K x x st f fd
 b:Binds K fd ps []
 m:mg x=some (.ref f)
section
variable{X:Cx}{k:Nat}{f:aj}{fd:dM}{ps:List Str}{sp:Sp}{x:Str}{p pos:Pos}{e:aY}{es:List aY}{t:TA}{st:fc}
theorem zq6(D:Def X.K X.mg x st ps f fd)(G:FnOk X.prog X.w X.K X.mg X.base CX0 k f fd ps sp)(v:Room k X.A)(h:PB X (e::es) t)(u:Gl X x:=by rfl)
  (o:(x == ("__debug__":Str))=false:=by rfl):PE X (.Call (.Name x p) (e::es) [] pos) (zsK sp [] E0 t):=zq8 G v u D.m D.F.kp D.b .nil zwV h.pa o h.hd.1 (h.hd.2 pos)
theorem zwS(o:X.mg x=none)(u:bootBuiltins x=some (.type T))(l:Gl X x:=by rfl)(v:x ≠ "__name__":=by decide) (hd:(x == ("__debug__":Str))=false:=by rfl):PE X (.Name x p) (tC (.ty T)) :=
 zra l o u rfl v hd
end
theorem iteP{c A B:Prop}[Decidable c](hc:c)(h:A):if decide c=true then A else B:=by rw[decide_eq_true hc];exact iteT h
theorem iteN{c A B:Prop}[Decidable c](hc:¬c)(h:B):if decide c=true then A else B:=by rw[decide_eq_false hc];exact iteF h
theorem zuo{c A B:Prop}[Decidable c](h1:c->A)(l:¬c->B):if decide c=true then A else B:=by by_cases h:c;exact iteP h (h1 h);exact iteN h (l h)
theorem zjz{α:Type}{xs:List α}{k:Int}{v:α}(h0:0<=k)(h:xs[k.toNat]?=some v):atI xs k=some v:=by obtain⟨n,rfl⟩:=m4 h0;exact zsk h
theorem Qc(k:Nat):(0:Int)<2 ^ k:=by
 have:(0:Nat)<2 ^ k:=Nat.two_pow_pos k;have e:((2 ^ k:Nat):Int)=(2:Int) ^ k:=by simp
 omega
theorem zms(h:k<=64):(2:Int) ^ k<2 ^ 128:=by
 have:(2:Nat) ^ k<2 ^ 128:=Nat.pow_lt_pow_right (by decide) (by omega);have e:((2 ^ k:Nat):Int)=(2:Int) ^ k:=by simp
 omega
theorem zgB(h:k<=64):(2:Int) ^ k<=2 ^ 64:=by
 have:(2:Nat) ^ k<=2 ^ 64:=Nat.pow_le_pow_right (by decide) (by omega);have e:((2 ^ k:Nat):Int)=(2:Int) ^ k:=by simp
 omega
theorem zow(h:H p=none):Same H (upd H p o):=fun b u e=>by rw[Jh (Qp e h)];exact e
end Bd
namespace L2
open PySem PySem.Spec PyProof.Rows
theorem zsl(k h:Nat):(k*2 ^ h) &&& (2 ^ h)=(k % 2)*2 ^ h:=by
 have l:k*2 ^ h=k <<< h:=(m5 k h).symm;have u:(2:Nat) ^ h=1 <<< h:=by rw[m5,xN]
 have o:(k &&& 1) <<< h=k <<< h &&& 1 <<< h:=Nat.shiftLeft_and_distrib;rw[l];conv=>lhs;rw[u]
 rw[<- o,Nat.and_one_is_mod,m5]
theorem zjE(h:Nat)(v:0<=k):cL (k*2 ^ h) (2 ^ h)=if k % 2=0 then k*2 ^ h+2 ^ h else k*2 ^ h - 2 ^ h:=by
 obtain⟨n,rfl⟩:=m4 v;have l:((2 ^ h:Nat):Int)=(2:Int) ^ h:=by simp
 have u:((n:Int)*2 ^ h)=((n*2 ^ h:Nat):Int):=by rw[Int.natCast_mul,l]
 rw[bitXor_and,u,<- l,bitAnd_pp (lM _) (lM _)];have x:((n*2 ^ h:Nat):Int).toNat &&& ((2 ^ h:Nat):Int).toNat=(n % 2)*2 ^ h:=by rw[bt,bt];exact zsl n h
 rw[x];rcases Nat.mod_two_eq_zero_or_one n with z|z;have:((n:Int)) % 2=0:=by lia
 rw[if_pos this,z];simp;have:¬((n:Int)) % 2=0:=by lia
 rw[if_neg this,z,xN];lia
def HAND:af:=.dict [(.none,.none)]
def SCR(ns:List Int):af:=.dict [(.none,.list (ns.map .int))]
def Zq(H:Hp)(hd:aj)(n:Int):Prop:=∃d m t:Int,H hd=some (.lst [.int d,.int m,.int t])/\0<=m/\m<2 ^ 62/\0<=t/\t<=n
def StT(K:qF)(a:aj)(xs:List V):Prop :=
 ∃(o:Obj) (its:Array ag) (n:Nat),K.lookup a=some o/\o.cls=.type "tuple" /\ o.data=.seq its n/\its.size<=sizeLine/\Vals xs its.toList/\o.dict=none
theorem StT.sq{K:qF}{H:Hp}{a:aj}{xs:List V}(h:StT K a xs):SqT K H a xs:=by obtain⟨o,its,n,h1,x,u,v,l,_⟩:=h;exact .inr ⟨o,its,n,h1,x,u,v,l⟩
def hsT(k:Int×Int):Int:=reduceHash (uA [hashInt k.1,hashInt k.2])
def entZ(z:(Int×Int)×aj×V)(e:eD):Prop:=e.hash=hsT z.1/\e.key=.ref z.2.1/\RelV z.2.2 e.val
abbrev ZT:=List ((Int×Int)×aj×V)
def ZDO(a:aj)(zs:ZT)(ep:Nat):HO:=.ext fun h=>(a == sysModules)=false/\zs.length<=sizeLine/\(zs.map (·.1)).Nodup/\∃o es,h.get? a=some o/\o.ExactDict/\o.data=.dict es ep/\bL entZ zs es.toList
abbrev KT2:=List ((Int×Int)×af)
def entI(z:Int×V)(e:eD):Prop:=e.hash=hashInt z.1/\(∃t,e.key=.int z.1 t)/\RelV z.2 e.val
def KDO(a:aj)(zs:List (Int×V))(ep:Nat):HO:=.ext fun h=>(a == sysModules)=false/\zs.length<=sizeLine/\(zs.map (·.1)).Nodup/\∃o es,h.get? a=some o/\o.ExactDict/\o.data=.dict es ep/\bL entI zs es.toList
def blkT(k:Int×Int):af:=.tuple [.int k.1,.int k.2]
def Y8(ks:List (Int×af)):List (af×af):=ks.map fun q=>(.int q.1,q.2)
def Jm(ks:KT2):List (af×af):=ks.map fun q=>(blkT q.1,q.2)
def EXC(C:aj):af:=.dict [(.none,.int (C:Int))]
def EXO(a C:aj):HO:=.ext fun h=>∃o,h.get? a=some o/\o.cls=.ref C/\∃vs,o.data=.fields vs
mutual
inductive Rep (K:qF)(hd:Option aj)(O:aj->Prop)(H:Hp):V->af->Prop
 | non:Rep K hd O H .non .none
 | bl (b:Bool):Rep K hd O H (.bl b) (.bool b)
 | int (i:Int):Rep K hd O H (.int i) (.int i)
 | str (x:Str):Rep K hd O H (.str x) (.str x)
 | tup {a vs ds} (h:H a=some (.tup vs)) (o:¬O a) (r:Reps K hd O H vs ds):Rep K hd O H (.ref a) (.tuple ds)
 | tupS {a vs ds} (h:StT K a vs) (r:Reps K hd O H vs ds):Rep K hd O H (.ref a) (.tuple ds)
 | lst {a vs ds} (h:H a=some (.lst vs)) (o:¬O a) (r:Reps K hd O H vs ds):Rep K hd O H (.ref a) (.list ds)
 | dct {a ep} (h:H a=some (KDO a [] ep)) (o:¬O a):Rep K hd O H (.ref a) (.dict [])
 | dcK {a kvs ep ks ps} (h:H a=some (KDO a kvs ep)) (o:¬O a) (r:Zc K hd O H kvs ks) (e:ps=Y8 ks):Rep K hd O H (.ref a) (.dict ps)
 | dcT {a zs ep ks ps} (h:H a=some (ZDO a zs ep)) (o:¬O a) (r:Jl K hd O H zs ks) (e:ps=Jm ks):Rep K hd O H (.ref a) (.dict ps)
 | hand {a} (h:hd=some a):Rep K hd O H (.ref a) HAND
 | scr {a ns} (h:Rd H a (.lst (ns.map V.int))) (o:¬O a):Rep K hd O H (.ref a) (SCR ns)
 | scrS {a} {ns:List Int} (h:∀H':Hp,SqL K H' a (ns.map V.int)):Rep K hd O H (.ref a) (SCR ns)
 | exc {a C} (h:H a=some (EXO a C)) (o:¬O a):Rep K hd O H (.ref a) (EXC C)
inductive Reps (K:qF)(hd:Option aj)(O:aj->Prop)(H:Hp):List V->List af->Prop
 | nil:Reps K hd O H [] []
 | cons {v d vs ds} (h:Rep K hd O H v d) (r:Reps K hd O H vs ds):Reps K hd O H (v::vs) (d::ds)
inductive Zc (K:qF)(hd:Option aj)(O:aj->Prop)(H:Hp):List (Int×V)->List (Int×af)->Prop
 | nil:Zc K hd O H [] []
 | cons {k v d kvs ks} (h:Rep K hd O H v d) (r:Zc K hd O H kvs ks):Zc K hd O H ((k,v)::kvs) ((k,d)::ks)
inductive Jl (K:qF)(hd:Option aj)(O:aj->Prop)(H:Hp):ZT->KT2->Prop
 | nil:Jl K hd O H [] []
 | cons {k q v d zs ks} (h:Rep K hd O H (.ref q) (.tuple [.int k.1,.int k.2])) (h2:Rep K hd O H v d) (r:Jl K hd O H zs ks):Jl K hd O H ((k,q,v)::zs) ((k,d)::ks)
end
section
variable{K:qF}{hd:Option aj}{O O':aj->Prop}{H H':Hp}
theorem Rep.mono(C:∀a o,H a=some o->O' a->O a)(y:∀a o,¬O a->H a=some o->H' a=some o)(q:Rep K hd O H v d):Rep K hd O' H' v d :=
 Rep.rec (motive_1:=fun v d _=>Rep K hd O' H' v d) (motive_2:=fun v d _=>Reps K hd O' H' v d) (motive_3:=fun v d _=>Zc K hd O' H' v d) (motive_4:=fun v d _=>Jl K hd O' H' v d)
  .non .bl .int .str (fun h o _ r=>.tup (y _ _ o h) (fun z=>o (C _ _ h z)) r) (fun h _ r=>.tupS h r) (fun h o _ r=>.lst (y _ _ o h) (fun z=>o (C _ _ h z)) r) (fun h o=>.dct (y _ _ o h) (fun z=>o (C _ _ h z))) (fun h o _ e r=>.dcK (y _ _ o h) (fun z=>o (C _ _ h z)) r e) (fun h o _ e r=>.dcT (y _ _ o h) (fun z=>o (C _ _ h z)) r e) .hand
  (fun h o=>h.elim (fun h=>.scr (.inl (y _ _ o h)) fun z=>o (C _ _ h z)) fun h=>h.elim fun u h=>.scr (.inr ⟨u,y _ _ o h⟩) fun z=>o (C _ _ h z)) .scrS (fun h o=>.exc (y _ _ o h) (fun z=>o (C _ _ h z)))
  .nil (fun _ _ h r=>.cons h r) .nil (fun _ _ h r=>.cons h r) .nil (fun _ _ _ h k r=>.cons h k r) q
theorem Reps.ind{P:List V->List af->Prop}(n:P [] [])(c:∀{v d vs ds},Rep K hd O H v d->Reps K hd O H vs ds->P vs ds->P (v::vs) (d::ds))(q:Reps K hd O H vs ds):P vs ds:=by refine Reps.rec (motive_1:=fun _ _ _=>True) (motive_2:=fun v d _=>P v d) (motive_3:=fun _ _ _=>True) (motive_4:=fun _ _ _=>True) ?_ ?_ ?_ ?_ ?_ ?_ ?_ ?_ ?_ ?_ ?_ ?_ ?_ ?_ n (fun h r _ i=>c h r i) ?_ ?_ ?_ ?_ q <;> intros <;> trivial
theorem Jl.ind{P:ZT->KT2->Prop}(n:P [] [])(c:∀{k q v d vs ds},Rep K hd O H (.ref q) (.tuple [.int k.1,.int k.2])->Rep K hd O H v d->Jl K hd O H vs ds->P vs ds->P ((k,q,v)::vs) ((k,d)::ds))(q:Jl K hd O H vs ds):P vs ds:=by refine Jl.rec (motive_1:=fun _ _ _=>True) (motive_4:=fun v d _=>P v d) (motive_2:=fun _ _ _=>True) (motive_3:=fun _ _ _=>True) ?_ ?_ ?_ ?_ ?_ ?_ ?_ ?_ ?_ ?_ ?_ ?_ ?_ ?_ ?_ ?_ ?_ ?_ n (fun h k r _ _ i=>c h k r i) q <;> intros <;> trivial
theorem Reps.mono(v:∀a o,H a=some o->O' a->O a)(u:∀a o,¬O a->H a=some o->H' a=some o)(q:Reps K hd O H vs ds):Reps K hd O' H' vs ds:=q.ind .nil fun h _ r=>.cons (h.mono v u) r
theorem Jl.mono(v:∀a o,H a=some o->O' a->O a)(u:∀a o,¬O a->H a=some o->H' a=some o)(q:Jl K hd O H vs ds):Jl K hd O' H' vs ds:=q.ind .nil fun h k _ r=>.cons (h.mono v u) (k.mono v u) r
theorem dict_noK(e:(oo,v)::r=Y8 ks):False:=by
 cases ks with
 | nil=>cases e
 | cons q ks=>cases e
theorem dict_noT(e:(oo,v)::r=Jm ks):False:=by
 cases ks with
 | nil=>cases e
 | cons q ks=>cases e
theorem Reps.length(q:Reps K hd O H vs ds):vs.length=ds.length:=q.ind (P:=fun a b=>a.length=b.length) rfl fun _ _ e=>congrArg (·+1) e
theorem Reps.get{i:Nat}(q:Reps K hd O H vs ds):ds[i]?=some d->∃v,vs[i]?=some v/\Rep K hd O H v d :=
 q.ind (P:=fun vs ds=>∀(i:Nat),ds[i]?=some d->∃v,vs[i]?=some v/\Rep K hd O H v d) (fun _ e=>nomatch e) (fun {v _ _ _} h _ r i=>i.casesOn (fun e=>⟨v,rfl,aE e▸h⟩) fun i e=>r i e) i
theorem Reps.append(q:Reps K hd O H vs ds)(s:Reps K hd O H ws es):Reps K hd O H (vs++ws) (ds++es):=q.ind (P:=fun a b=>Reps K hd O H (a++ws) (b++es)) s fun h _ r=>.cons h r
theorem Reps.take(n:Nat)(q:Reps K hd O H vs ds):Reps K hd O H (vs.take n) (ds.take n) :=
 q.ind (P:=fun vs ds=>∀n:Nat,Reps K hd O H (vs.take n) (ds.take n)) (fun n=>by rw[u9,u9];exact .nil) (fun h _ r n=>n.casesOn .nil fun n=>.cons h (r n)) n
theorem Reps.drop(n:Nat)(q:Reps K hd O H vs ds):Reps K hd O H (vs.drop n) (ds.drop n) :=
 q.ind (P:=fun vs ds=>∀n:Nat,Reps K hd O H (vs.drop n) (ds.drop n)) (fun n=>by rw[vc,vc];exact .nil) (fun h k r n=>n.casesOn (.cons h k) fun n=>r n) n
theorem Reps.set{v d}(h:Rep K hd O H v d)(n:Nat)(q:Reps K hd O H vs ds):Reps K hd O H (vs.set n v) (ds.set n d) :=
 q.ind (P:=fun vs ds=>∀n:Nat,Reps K hd O H (vs.set n v) (ds.set n d)) (fun n=>.nil) (fun k s r n=>n.casesOn (.cons h s) fun n=>.cons k (r n)) n
theorem Rep.tupI(h:Rep K hd O H v (.tuple ds)):∃a vs,v=.ref a/\SqT K H a vs/\Reps K hd O H vs ds:=by
 cases h with
 | tup h o r=>exact⟨_,_,rfl,.inl (.inl h),r⟩
 | tupS h r=>exact⟨_,_,rfl,h.sq,r⟩
theorem Rep.lstI(h:Rep K hd O H v (.list ds)):∃a vs,v=.ref a/\H a=some (.lst vs)/\¬O a/\Reps K hd O H vs ds:=by
 cases h with
 | lst h o r=>exact⟨_,_,rfl,h,o,r⟩
theorem Rep.intI(h:Rep K hd O H v (.int i)):v=.int i:=by cases h;rfl
theorem Rep.blI(h:Rep K hd O H v (.bool b)):v=.bl b:=by cases h;rfl
theorem Rep.strI(h:Rep K hd O H v (.str x)):v=.str x:=by cases h;rfl
theorem Rep.nonI(h:Rep K hd O H v .none):v=.non:=by cases h;rfl
theorem Rep.handI(h:Rep K hd O H v HAND):∃a,v=.ref a/\hd=some a:=by
 generalize e:HAND=d at h;cases h with
 | hand h=>exact⟨_,rfl,h⟩
 | dct _ _=>cases e
 | dcK _ _ _ o=>cases e;exact(dict_noK o).elim
 | dcT _ _ _ o=>cases e;exact(dict_noT o).elim
 | scr _ _=>simp[HAND,SCR]at e
 | scrS _=>simp[HAND,SCR]at e
 | exc _ _=>simp[HAND,EXC]at e
 | _=>cases e
theorem Rep.scrI(h:Rep K hd O H v (SCR ns)):∃a,v=.ref a/\SqL K H a (ns.map V.int):=by
 generalize e:SCR ns=d at h;cases h with
 | hand h=>simp[HAND,SCR]at e
 | dct _ _=>cases e
 | dcK _ _ _ u=>cases e;exact(dict_noK u).elim
 | dcT _ _ _ u=>cases e;exact(dict_noT u).elim
 | @scr a ms h o =>
  have:ns=ms:=by
   have u:(ns.map bS)=ms.map bS:=by simpa[SCR] using e
   have:=congrArg (List.map fun x=>match x with|bS i=>i|_=>0) u;simpa[cI,gP] using this
  subst this;exact⟨_,rfl,.inl h⟩
 | @scrS a ms h =>
  have:ns=ms:=by
   have u:(ns.map bS)=ms.map bS:=by simpa[SCR] using e
   have:=congrArg (List.map fun x=>match x with|bS i=>i|_=>0) u;simpa[cI,gP] using this
  subst this;exact⟨_,rfl,h H⟩
 | exc _ _=>simp[SCR,EXC]at e
 | _=>cases e
end
mutual
def JP:af->Bool
 | .list _=>false
 | .tuple ts=>ZI ts
 | .dict [(.none,.none)]=>true
 | .dict _=>false
 | _=>true
def ZI:List af->Bool
 | []=>true
 | t::ts=>JP t&&ZI ts
end
section
variable{K:qF}{hd:Option aj}{O O':aj->Prop}{H:Hp}
theorem zro(e:JP (.dict (Y8 ks))=true):False:=by unfold JP at e;split at e;rename_i h;cases h;rename_i h;cases h;rename_i h;exact dict_noK (cR h).symm;cases e;rename_i h;exact h _ rfl
theorem zrn(e:JP (.dict (Jm ks))=true):False:=by unfold JP at e;split at e;rename_i h;cases h;rename_i h;cases h;rename_i h;exact dict_noT (cR h).symm;cases e;rename_i h;exact h _ rfl
def MutO(o:Option HO):Prop:=(∃xs,o=some (.lst xs))\/(∃ks,o=some (.dK ks))\/∃u,o=some (.ext u)
theorem Rep.up(y:∀a,O a->MutO (H a))(q:Rep K hd O' H v d):JP d=true->Rep K hd O H v d:=by
 refine Rep.rec (motive_1:=fun v d _=>JP d=true->Rep K hd O H v d) (motive_2:=fun v d _=>ZI d=true->Reps K hd O H v d) (motive_3:=fun _ _ _=>True) (motive_4:=fun _ _ _=>True)
  (fun _=>.non) (fun b _=>.bl b) (fun b _=>.int b) (fun b _=>.str b) (fun h _ _ r e=>.tup h (fun z=>by rcases y _ z with⟨xs,q⟩|⟨xs,q⟩|⟨b,q⟩ <;> (rw[h]at q;cases q)) (r (by simpa[JP] using e))) (fun h _ r e=>.tupS h (r (by simpa[JP] using e)))
  (fun _ _ _ _ e=>by simp[JP]at e) (fun _ _ e=>by simp[JP]at e) (fun _ _ _ x _ e=>by subst x;exact(zro e).elim) (fun _ _ _ x _ e=>by subst x;exact(zrn e).elim) (fun h _=>.hand h) (fun _ _ e=>by simp[SCR,JP]at e) (fun _ e=>by simp[SCR,JP]at e) (fun _ _ e=>by simp[EXC,JP]at e)
  (fun _=>.nil) (fun _ _ h r e=>by rw[ZI,bq]at e;exact .cons (h e.1) (r e.2)) trivial ?_ trivial ?_ q <;> intros <;> trivial
end
section
variable{X:Cx}{pins:qO}{σ:St}{H:Hp}{s:aq}{hd:Option aj}{O:aj->Prop}
theorem Rep.reads(I:Inv X pins σ H s){u:ag}(q:Rep X.K hd O H v d):RelV v u->d.hasDict=false->∃as,Reads s.heap u d as:=by
 refine Rep.rec (motive_1:=fun v d _=>∀u,RelV v u->d.hasDict=false->∃as,Reads s.heap u d as) (motive_2:=fun v d _=>∀u,Vals v u->gQ d=false->∃as,xO s.heap u d as) (motive_3:=fun _ _ _=>True) (motive_4:=fun _ _ _=>True)
  (fun _ r _=>by cases r;exact⟨_,.none⟩) (fun b _ r _=>by cases r;exact⟨_,.bool b⟩) (fun i _ r _=>by obtain⟨t,rfl⟩:=r;exact⟨_,.int i t⟩) (fun x _ r _=>by obtain⟨t,rfl⟩:=r;exact⟨_,.str x t⟩)
  (fun {_ vs _} h _ _ q _ r e=>?_) (fun {_ vs _} h _ q _ r e=>?_) (fun {_ vs _} h _ _ q _ r e=>?_) (fun _ _ _ _ e=>by simp[cN]at e) (fun _ _ _ _ _ _ _ e=>by simp[cN]at e) (fun _ _ _ _ _ _ _ e=>by simp[cN]at e)
  (fun _ _ _ e=>by simp[HAND,cN]at e) (fun _ _ _ _ e=>by simp[SCR,cN]at e) (fun _ _ _ e=>by simp[SCR,cN]at e) (fun _ _ _ _ e=>by simp[EXC,cN]at e)
  (fun _ r _=>by cases r;exact⟨_,.nil⟩) (fun _ _ h q _ r e=>?_) trivial (by intros;trivial) trivial (by intros;trivial) q u
 cases r;obtain⟨its,J,p,_⟩:=I.tuple (xs:=vs) (.inl (.inl h));obtain⟨o,G,hc,n,y⟩:=p;obtain⟨as,C⟩:=q _ J (by simpa[cN] using e);exact⟨_,.tuple G hc y (by simpa using C)⟩;cases r;obtain⟨its,J,p,_⟩:=I.tuple (xs:=vs) h.sq;obtain⟨o,G,hc,n,y⟩:=p;obtain⟨as,C⟩:=q _ J (by simpa[cN] using e);exact⟨_,.tuple G hc y (by simpa using C)⟩;cases r;obtain⟨its,J,p,_⟩:=I.list (xs:=vs) (.inl (.inl h));obtain⟨o,n,G,hc,_,y⟩:=p;obtain⟨as,C⟩:=q _ J (by simpa[cN] using e);exact⟨_,.list G hc y (by simpa using C)⟩;cases r with
 | cons L R =>rw[gQ,oq]at e;obtain⟨as,C⟩:=h _ L e.1;obtain⟨bs,N⟩:=q _ R e.2;exact⟨_,.cons C N⟩
theorem Reps.reads(I:Inv X pins σ H s){u:List ag}(q:Reps X.K hd O H vs ds):Vals vs u->gQ ds=false->∃as,xO s.heap u ds as :=
 q.ind (P:=fun vs ds=>∀u,Vals vs u->gQ ds=false->∃as,xO s.heap u ds as) (fun _ r _=>by cases r;exact⟨_,.nil⟩) (fun h _ q _ r e=>by
  cases r with
  | cons v C =>rw[gQ,oq]at e;obtain⟨as,x⟩:=h.reads I v e.1;obtain⟨bs,y⟩:=q _ C e.2;exact⟨_,.cons x y⟩) u
end
inductive Cell where
 | val (d:af)
 | own (ds:qD)
 | dct (ks:List (Key×af))
 | rdo (ks:List (Key×af))
 | dtt (ks:KT2)
def Cell.mine:Cell->Bool
 | .val _=>false
 | .own _=>true
 | .dct _=>true
 | .rdo _=>false
 | .dtt _=>true
def UG(K:qF)(hd:Option aj)(O:aj->Prop)(H:Hp)(l:List (Key×V))(ks:List (Key×af)):Prop:=bL (fun(p:Key×V) (q:Key×af)=>p.1=q.1/\Rep K hd O H p.2 q.2) l ks
theorem UG.mono{K:qF}{hd:Option aj}{O u:aj->Prop}{H H':Hp}(x:∀a o,H a=some o->u a->O a)(v:∀a o,¬O a->H a=some o->H' a=some o){l:List (Key×V)}{ks:List (Key×af)}(r:UG K hd O H l ks):UG K hd u H' l ks :=
 Paired.mapP r fun _ _ z=>⟨z.1,z.2.mono x v⟩
abbrev En:=List (Option Cell)
structure Ctx where
 hd:Option aj
 ext:aj->Prop
def OwnS(l:En)(σ:St)(a:aj):Prop:=∃(i:Nat) (c:Cell),c.mine=true/\l[i]?=some (some c)/\σ[i]?=some (some (V.ref a))
def Own(C:Ctx)(l:En)(σ:St)(a:aj):Prop:=C.ext a\/OwnS l σ a
mutual
def papD:af->Bool
 | .tuple ts=>decide (ts.length<=1000000)&&ztD ts
 | .str x=>decide (x.length<=1000000)
 | .int _=>true
 | .none=>true
 | .bool _=>true
 | _=>false
def ztD:List af->Bool
 | []=>true
 | t::ts=>papD t&&ztD ts
end
def pap(t:af):Bool:=papD t&&t.canLay0&&decide (t.depth<=40)
def QM(K:qF)(H:Hp)(a:aj)(m:Nat):Prop:=∃(vs:List V) (ts:qD),H a=some (.lst vs)/\vs.length<=m/\Reps K none (fun b=>MutO (H b)) H vs ts/\∀t∈ts,pap t=true
def Hn(K:qF)(hd:Option aj)(H:Hp)(n:Nat):Prop:=∀a,hd=some a->(Zq H a n/\n<10000000000000)\/(10000000000000<=n/\QM K H a (n - 10000000000000))
theorem Hn.lst{K:qF}{hd:Option aj}{H:Hp}{n:Nat}{a:aj}(h:Hn K hd H n)(e:hd=some a):∃vs,H a=some (.lst vs):=by rcases h a e with⟨⟨_,_,_,q,_⟩,_⟩|⟨_,_,_,q,_⟩;exact⟨_,q⟩;exact⟨_,q⟩
theorem QM.to{K:qF}{H H':Hp}{a:aj}{w:Nat}(h:QM K H a w)(u:H' a=H a)(k:∀b o,¬MutO (H b)->H b=some o->H' b=some o)(m:∀b o,H b=some o->MutO (H' b)->MutO (H b)):QM K H' a w:=by obtain⟨vs,ts,q,l,r,p⟩:=h;exact⟨vs,ts,u.trans q,l,r.mono m k,p⟩
theorem QM.upd{K:qF}{H:Hp}{a p:aj}{o:HO}{m:Nat}(h:QM K H a m)(ne:a≠p)(l:MutO (H p)):QM K (upd H p o) a m:=by refine h.to (Jh ne) (fun b u nb e=>?_) fun b u e z=>?_;rw[Jh (show b≠p from fun z=>nb (by rw[z];exact l))];exact e;by_cases y:b=p;rw[y];exact l;rw[Jh y]at z;exact z
theorem QM.same{K:qF}{H H':Hp}{a:aj}{m:Nat}(h:QM K H a m)(s:∀b o,H b=some o->H' b=some o):QM K H' a m:=by obtain⟨vs,ts,q,l,r,p⟩:=id h;exact h.to (by rw[q];exact s _ _ q) (fun b o _ e=>s b o e) fun b o e z=>by rw[s b o e]at z;rw[e];exact z
structure Stt(K:qF)(C:Ctx)(ρ:En)(σ:St)(H:Hp)(n:Nat):Prop where
 len:ρ.length=σ.length
 val:∀(i:Nat) (d:af),ρ[i]?=some (some (Cell.val d))->∃v,σ[i]?=some (some v)/\Rep K C.hd (Own C ρ σ) H v d
 own:∀(i:Nat) (ds:qD),ρ[i]?=some (some (Cell.own ds))->∃a vs,σ[i]?=some (some (V.ref a))/\H a=some (.lst vs)/\Reps K C.hd (Own C ρ σ) H vs ds/\¬C.ext a
 dct:∀(i:Nat) (ks:List (Key×af)),ρ[i]?=some (some (Cell.dct ks))->∃a kvs,σ[i]?=some (some (V.ref a))/\H a=some (.dK kvs)/\UG K C.hd (Own C ρ σ) H kvs ks/\¬C.ext a
 rdo:∀(i:Nat) (ks:List (Key×af)),ρ[i]?=some (some (Cell.rdo ks))->∃a kvs,σ[i]?=some (some (V.ref a))/\H a=some (.dK kvs)/\UG K C.hd (Own C ρ σ) H kvs ks/\C.ext a/\C.hd≠some a
 dtt:∀(i:Nat) (ks:KT2),ρ[i]?=some (some (Cell.dtt ks))->∃a zs ep,σ[i]?=some (some (V.ref a))/\H a=some (ZDO a zs ep)/\Jl K C.hd (Own C ρ σ) H zs ks/\¬C.ext a
 dif:∀(i j:Nat) (c e:Cell) (a:aj),c.mine=true->e.mine=true->ρ[i]?=some (some c)->ρ[j]?=some (some e)->σ[i]?=some (some (V.ref a))->σ[j]?=some (some (V.ref a))->i=j
 hnd:Hn K C.hd H n
 ext:∀a,C.ext a->MutO (H a)
 hx:∀a,C.hd=some a->C.ext a
def ExtE(hd:Option aj)(H H':Hp):Prop:=∀a o,H a=some o->hd≠some a->H' a=some o
theorem ExtE.refl:ExtE hd H H:=fun _ _ h _=>h
theorem ExtE.trans(a:ExtE hd H H1)(b:ExtE hd H1 H2):ExtE hd H H2:=fun c o h n=>b c o (a c o h n) n
theorem ExtE.new(h:H p=none):ExtE hd H (upd H p o):=fun b u e _=>by rw[Jh (Qp e h)];exact e
section
variable{K:qF}{C:Ctx}{ρ:En}{σ:St}{H H':Hp}{n n':Nat}
theorem MutO.ne(h:MutO o):o≠none:=by rcases h with⟨_,rfl⟩|⟨_,rfl⟩|⟨_,rfl⟩ <;> exact fun z=>by cases z
theorem Stt.at(S:Stt K C ρ σ H n){i:Nat}{c:Cell}(m:c.mine=true)(h1:ρ[i]?=some (some c)):∃a:aj,σ[i]?=some (some (V.ref a))/\MutO (H a)/\¬C.ext a:=by
 cases c with
 | val d=>cases m
 | own ds =>obtain⟨a,vs,o,v,_,u⟩:=S.own i ds h1;exact⟨a,o,.inl ⟨_,v⟩,u⟩
 | dct ks =>obtain⟨a,vs,o,v,_,u⟩:=S.dct i ks h1;exact⟨a,o,.inr (.inl ⟨_,v⟩),u⟩
 | rdo ks=>cases m
 | dtt ks =>obtain⟨a,vs,ep,o,v,_,u⟩:=S.dtt i ks h1;exact⟨a,o,.inr (.inr ⟨_,v⟩),u⟩
theorem Stt.lst(S:Stt K C ρ σ H n){a:aj}(h:Own C ρ σ a):MutO (H a):=by rcases h with h|⟨i,c,m,h1,u⟩;exact S.ext a h;obtain⟨b,l,o,_⟩:=S.at m h1;rw[u]at l;cases l;exact o
theorem Stt.dom(S:Stt K C ρ σ H n)(h:Own C ρ σ a):H a≠none:=(S.lst h).ne
theorem Stt.free(S:Stt K C ρ σ H n)(h:H a=none):¬Own C ρ σ a:=fun z=>S.dom z h
theorem ExtE.rep(e:ExtE C.hd H H')(hx:∀a,C.hd=some a->C.ext a){v d}(r:Rep K C.hd (Own C ρ σ) H v d):Rep K C.hd (Own C ρ σ) H' v d :=
 r.mono (fun _ _ _ z=>z) fun a o no h=>e a o h fun z=>no (.inl (hx a z))
theorem ExtE.reps(e:ExtE C.hd H H')(hx:∀a,C.hd=some a->C.ext a){v d}(r:Reps K C.hd (Own C ρ σ) H v d):Reps K C.hd (Own C ρ σ) H' v d :=
 r.mono (fun _ _ _ z=>z) fun a o no h=>e a o h fun z=>no (.inl (hx a z))
theorem Stt.onX(S:Stt K C ρ σ H n)(k:∀a o,H a=some o->¬C.ext a->H' a=some o)(L:∀a,C.ext a->MutO (H' a))(I:∀a ks,H a=some (.dK ks)->C.ext a->C.hd≠some a->H' a=some (.dK ks))(J:Hn K C.hd H' n'):Stt K C ρ σ H' n' where
 len:=S.len
 val:=fun i d hi=>by obtain⟨v,h1,x⟩:=S.val i d hi;exact⟨v,h1,x.mono (fun _ _ _ z=>z) fun a o no h=>k a o h fun z=>no (.inl z)⟩
 own:=fun i ds hi=>by obtain⟨a,vs,h1,x,y,u⟩:=S.own i ds hi;exact⟨a,vs,h1,k a _ x u,y.mono (fun _ _ _ z=>z) (fun a o no h=>k a o h fun z=>no (.inl z)),u⟩
 dct:=fun i ds hi=>by obtain⟨a,vs,h1,x,y,u⟩:=S.dct i ds hi;exact⟨a,vs,h1,k a _ x u,y.mono (fun _ _ _ z=>z) (fun a o no h=>k a o h fun z=>no (.inl z)),u⟩
 rdo:=fun i ds hi=>by obtain⟨a,vs,h1,x,y,u,G⟩:=S.rdo i ds hi;exact⟨a,vs,h1,I a _ x u G,y.mono (fun _ _ _ z=>z) (fun a o no h=>k a o h fun z=>no (.inl z)),u,G⟩
 dtt:=fun i ds hi=>by obtain⟨a,vs,ep,h1,x,y,u⟩:=S.dtt i ds hi;exact⟨a,vs,ep,h1,k a _ x u,y.mono (fun _ _ _ z=>z) (fun a o no h=>k a o h fun z=>no (.inl z)),u⟩
 dif:=S.dif
 hnd:=J
 ext:=L
 hx:=S.hx
theorem Stt.mut(S:Stt K C ρ σ H n){a:aj}(v:C.ext a)(h:Hn K C.hd H' n')(e:∀o,H a=some o->C.hd≠some a->H' a=some o):MutO (H' a):=by by_cases z:C.hd=some a;exact .inl (h.lst z);have q:=S.ext a v;obtain⟨o,u⟩:=Option.ne_none_iff_exists'.mp q.ne;rw[e o u z,<- u];exact q
theorem Stt.on(S:Stt K C ρ σ H n)(e:ExtE C.hd H H')(h:Hn K C.hd H' n'):Stt K C ρ σ H' n' :=
 S.onX (fun a o l no=>e a o l fun z=>no (S.hx a z)) (fun a l=>S.mut l h (e a)) (fun a ks l _ u=>e a _ l u) h
end
abbrev DTE:=En->Nat->(af->Nat->Prop)->Prop
abbrev DTT:=En->Nat->(Bool->Nat->Prop)->Prop
abbrev DTA:=En->Nat->(List af->Nat->Prop)->Prop
def DE(X:Cx)(e:aY)(d:DTE):Prop:=∃o,PE X e o/\∀(C:Ctx) (l:En) (σ:St) (H:Hp) (n:Nat) (Q:VK) (R:qN),Stt X.K C l σ H n->d l n R ->
 (∀t u v H',R t u->ExtE C.hd H H'->Hn X.K C.hd H' u->Rep X.K C.hd (Own C l σ) H' v t->Q v H')->o σ H Q
def RepT(K:qF)(hd:Option aj)(O:aj->Prop)(H:Hp)(v:V)(t:af):Prop :=
 Rep K hd O H v t\/(∃a vs ds,v=.ref a/\t=.list ds/\H a=some (.lst vs)/\Reps K hd O H vs ds/\hd≠some a)\/∃a zs ep ks,v=.ref a/\t=.dict (Jm ks)/\H a=some (ZDO a zs ep)/\Jl K hd O H zs ks/\hd≠some a
def DL(X:Cx)(e:aY)(d:DTE):Prop:=∃o,PE X e o/\∀(C:Ctx) (l:En) (σ:St) (H:Hp) (n:Nat) (Q:VK) (R:qN),Stt X.K C l σ H n->d l n R ->
 (∀t u v H',R t u->ExtE C.hd H H'->Hn X.K C.hd H' u->RepT X.K C.hd (Own C l σ) H' v t->Q v H')->o σ H Q
def DN(X:Cx)(e:aY)(d:DTA):Prop:=∃u,PE X e u/\∀(C:Ctx) (o:En) (σ:St) (H:Hp) (n:Nat) (Q:VK) (R:List af->Nat->Prop),Stt X.K C o σ H n->d o n R ->
 (∀ts v p vs H',R ts v->ExtE C.hd H H'->Hn X.K C.hd H' v->H p=none->H' p=some (.lst vs)->Reps X.K C.hd (fun a=>Own C o σ a\/a=p) H' vs ts->Q (.ref p) H')->u σ H Q
def DT(X:Cx)(e:aY)(d:DTT):Prop:=∃l,PT X e l/\∀(C:Ctx) (o:En) (σ:St) (H:Hp) (n:Nat) (Q:Bool->Hp->Prop) (R:Bool->Nat->Prop),Stt X.K C o σ H n->d o n R ->
 (∀b u H',R b u->ExtE C.hd H H'->Hn X.K C.hd H' u->Q b H')->l σ H Q
def DW(X:Cx)(e:aY)(d:DTT):Prop:=∃l,PW X e l/\∀(C:Ctx) (o:En) (σ:St) (H:Hp) (n:Nat) (Q:Bool->Hp->Prop) (R:Bool->Nat->Prop),Stt X.K C o σ H n->d o n R ->
 (∀b u H',R b u->ExtE C.hd H H'->Hn X.K C.hd H' u->Q b H')->l σ H Q
def DB(X:Cx)(es:List aY)(d:DTA):Prop:=∃o,PB X es o/\∀(C:Ctx) (l:En) (σ:St) (H:Hp) (n:Nat) (Q:List V->Hp->Prop) (R:List af->Nat->Prop),Stt X.K C l σ H n->d l n R ->
 (∀ts u vs H',R ts u->ExtE C.hd H H'->Hn X.K C.hd H' u->Reps X.K C.hd (Own C l σ) H' vs ts->ts.length=es.length->Q vs H')->o σ H Q
section
variable{X:Cx}{e a b c:aY}{es:List aY}{d da db dc:DTE}{pos:Pos}
theorem dl(h:DE X e d):DL X e d:=by obtain⟨y,p,h⟩:=h;exact⟨y,p,fun C x σ H n Q R S hd o=>h C x σ H n Q R S hd fun t G v H' r e h1 u=>o t G v H' r e h1 (.inl u)⟩
def dNew(d:DTA):DTE:=fun o n R=>d o n fun ts u=>R (.list ts) u
theorem JL{d:DTA}(h:DN X e d):DE X e (dNew d):=by obtain⟨y,p,h⟩:=h;refine⟨y,p,fun C v σ H n Q R S hd o=>h C v σ H n Q _ S hd fun ts G p vs H' r e h1 u I x=>o _ G _ H' r e h1 (.lst I (S.free u) (x.mono (fun _ _ _ z=>.inl z) fun _ _ _ z=>z))⟩
def dVar(i:Nat):DTE:=fun l n R=>match l[i]? with|some (some (Cell.val d))=>R d n|_=>False
def dOwn(i:Nat):DTE:=fun o n R=>match o[i]? with|some (some (Cell.own d))=>R (.list d) n|_=>False
def dC(t:af):DTE:=fun _ n R=>R t n
theorem Jk(i:Nat)(G:X.N[i]?=some x:=by rfl)(o:Vis X.env.scope x:=by walk_at "V")(hd:(x == ("__debug__":Str))=false:=by rfl)
  (l:(x == ("__classdict__":Str))=false:=by rfl):DE X (.Name x pos) (dVar i):=by
 refine⟨_,Qb G o hd l,fun C I σ H n Q R S h u=>?_⟩;unfold dVar at h;split at h;rename_i d e;obtain⟨v,h1,y⟩:=S.val i d e;exact⟨v,h1,u d n v H h ExtE.refl S.hnd y⟩;exact h.elim
theorem Uo(i:Nat)(G:X.N[i]?=some x:=by rfl)(u:Vis X.env.scope x:=by walk_at "V")(hd:(x == ("__debug__":Str))=false:=by rfl)
  (o:(x == ("__classdict__":Str))=false:=by rfl):DL X (.Name x pos) (dOwn i):=by
 refine⟨_,Qb G u hd o,fun C L σ H n Q R S h v=>?_⟩;unfold dOwn at h;split at h;rename_i ds e;obtain⟨p,vs,h1,y,J,I⟩:=S.own i ds e;exact⟨.ref p,h1,v _ n _ H h ExtE.refl S.hnd (.inr (.inl ⟨p,vs,ds,rfl,rfl,y,J,fun z=>I (S.hx p z)⟩))⟩;exact h.elim
def Vt(i:Nat):DTE:=fun l n R=>match l[i]? with|some (some (Cell.dtt ks))=>R (.dict (Jm ks)) n|_=>False
theorem zjp(i:Nat)(y:X.N[i]?=some x:=by rfl)(o:Vis X.env.scope x:=by walk_at "V")(hd:(x == ("__debug__":Str))=false:=by rfl)
  (l:(x == ("__classdict__":Str))=false:=by rfl):DL X (.Name x pos) (Vt i):=by
 refine⟨_,Qb y o hd l,fun C J σ H n Q R S h u=>?_⟩;unfold Vt at h;split at h;rename_i ks e;obtain⟨p,zs,ep,h1,v,I,G⟩:=S.dtt i ks e;exact⟨.ref p,h1,u _ n _ H h ExtE.refl S.hnd (.inr (.inr ⟨p,zs,ep,ks,rfl,rfl,v,I,fun z=>G (S.hx p z)⟩))⟩;exact h.elim
theorem Jg{i j pos}:DE X (.Constant (.int i) j pos) (dC (.int i)):=⟨_,JB,fun _ _ _ H n _ _ S h l=>l _ n _ H h ExtE.refl S.hnd (.int i)⟩
theorem JV{b j pos}:DE X (.Constant (.bool b) j pos) (dC (.bool b)):=⟨_,zwU,fun _ _ _ H n _ _ S h u=>u _ n _ H h ExtE.refl S.hnd (.bl b)⟩
theorem QH{j pos}:DE X (.Constant .none j pos) (dC .none):=⟨_,ztw,fun _ _ _ H n _ _ S h l=>l _ n _ H h ExtE.refl S.hnd .non⟩
end
section
variable{K:qF}{hd:Option aj}{O:aj->Prop}{H H':Hp}{v:V}{t:af}{n:Nat}
theorem Same.ext(h:Same H H'):ExtE hd H H':=fun a o e _=>h a o e
theorem Hn.same(h:Hn K hd H n)(s:Same H H'):Hn K hd H' n:=fun a e=>by rcases h a e with⟨⟨d,m,t,q,r⟩,l⟩|⟨l,p⟩;exact .inl ⟨⟨d,m,t,s _ _ q,r⟩,l⟩;exact .inr ⟨l,p.same s⟩
theorem Rep.same(s:Same H H')(r:Rep K hd O H v t):Rep K hd O H' v t:=r.mono (fun _ _ _ z=>z) fun a o _ h=>s a o h
theorem Reps.same{vs ts}(s:Same H H')(r:Reps K hd O H vs ts):Reps K hd O H' vs ts:=r.mono (fun _ _ _ z=>z) fun a o _ h=>s a o h
theorem ExtE.repT(e:ExtE C.hd H H')(hx:∀a,C.hd=some a->C.ext a)(r:RepT K C.hd (Own C ρ σ) H v t):RepT K C.hd (Own C ρ σ) H' v t:=by rcases r with r|⟨a,vs,ds,h1,x,G,y,u⟩|⟨a,zs,ep,ks,h1,x,G,y,u⟩;exact .inl (e.rep hx r);exact .inr (.inl ⟨a,vs,ds,h1,x,e _ _ G u,e.reps hx y,u⟩);exact .inr (.inr ⟨a,zs,ep,ks,h1,x,e _ _ G u,y.mono (fun _ _ _ z=>z) (fun a o no h=>e a o h fun z=>no (.inl (hx a z))),u⟩)
theorem RepT.lstI{ds}(h:RepT K hd O H v (.list ds)):∃a vs,v=.ref a/\H a=some (.lst vs)/\Reps K hd O H vs ds:=by rcases h with h|⟨a,vs,es,h1,o,u,x,_⟩|⟨a,vs,ep,es,h1,o,u,x,_⟩;obtain⟨a,vs,h1,o,_,u⟩:=h.lstI;exact⟨a,vs,h1,o,u⟩;cases o;exact⟨a,vs,h1,u,x⟩;cases o
theorem RepT.tupI{ds}(h:RepT K hd O H v (.tuple ds)):∃a vs,v=.ref a/\SqT K H a vs/\Reps K hd O H vs ds:=by rcases h with h|⟨a,vs,es,h1,o,x,y,_⟩|⟨a,vs,ep,es,h1,o,x,y,_⟩;exact h.tupI;cases o;cases o
theorem RepT.rep(h:RepT K hd O H v t)(nl:∀ds,t≠.list ds)(nd:∀ks,t≠.dict (Jm ks):=by intro ks z;first|cases z|exact dict_noT (cR z)):Rep K hd O H v t:=by rcases h with h|⟨a,vs,es,h1,o,u,x,_⟩|⟨a,vs,ep,es,h1,o,u,x,_⟩;exact h;exact absurd o (nl es);exact absurd o (nd es)
theorem RepT.intI{i}(h:RepT K hd O H v (.int i)):v=.int i:=(h.rep (by intro _ z;cases z)).intI
theorem RepT.blI{i}(h:RepT K hd O H v (.bool i)):v=.bl i:=(h.rep (by intro _ z;cases z)).blI
theorem RepT.strI{i}(h:RepT K hd O H v (.str i)):v=.str i:=(h.rep (by intro _ z;cases z)).strI
theorem RepT.nonI(h:RepT K hd O H v .none):v=.non:=(h.rep (by intro _ z;cases z)).nonI
theorem Rep.newT{vs ts}(no:¬O p)(h:H p=none)(r:Reps K hd O H vs ts):Rep K hd O (upd H p (.tup vs)) (.ref p) (.tuple ts) :=
 .tup JE no (r.same (fun b u e=>by rw[Jh (Qp e h)];exact e))
end
theorem JM(h:H p=none):Same H (upd H p o):=fun b u e=>by rw[Jh (Qp e h)];exact e
abbrev G2:=af->af->(af->Prop)->Prop
def dOp(g:G2)(v db:DTE):DTE:=fun l n R=>v l n fun x u=>db l u fun y o=>g x y fun z=>R z o
def Gp2(X:Cx)(r:R2)(g:G2):Prop:=∀(hd:Option aj) (O:aj->Prop) (H:Hp) (x y:V) (t u:af) (Q:VK) (R:af->Prop),(∀p,O p->H p≠none)->RepT X.K hd O H x t->RepT X.K hd O H y u->g t u R ->
 (∀z v H',R z->Same H H'->Rep X.K hd O H' v z->Q v H')->r x y H Q
section
variable{X:Cx}{a b c:aY}{da db dc:DTE}{pos:Pos}{r r':R2}{g g':G2}
theorem two{C:Ctx}{l:En}{σ:St}{H:Hp}{n:Nat}{ta Z:TE}(ha:∀(C:Ctx) (l:En) (σ:St) (H:Hp) (n:Nat) (Q:VK) (R:qN),Stt X.K C l σ H n->da l n R ->
  (∀t I v H',R t I->ExtE C.hd H H'->Hn X.K C.hd H' I->RepT X.K C.hd (Own C l σ) H' v t->Q v H')->ta σ H Q)
  (hb:∀(C:Ctx) (l:En) (σ:St) (H:Hp) (n:Nat) (Q:VK) (R:qN),Stt X.K C l σ H n->db l n R ->
  (∀t I v H',R t I->ExtE C.hd H H'->Hn X.K C.hd H' I->RepT X.K C.hd (Own C l σ) H' v t->Q v H')->Z σ H Q)
  {Y:V->V->Hp->Prop} {R2:af->af->Nat->Prop} (S:Stt X.K C l σ H n) (h:da l n fun x N=>db l N fun y G=>R2 x y G)
  (hq:∀x y G v w o,R2 x y G->ExtE C.hd H o->Stt X.K C l σ o G->RepT X.K C.hd (Own C l σ) o v x->RepT X.K C.hd (Own C l σ) o w y->Y v w o) :
  ta σ H fun v L=>Z σ L fun w o=>Y v w o:=by
 refine ha C l σ H n _ _ S h fun t N v L r1 U h1 q1=>?_;have S1:=S.on U h1;refine hb C l σ L N _ _ S1 r1 fun u G w o r2 J h2 q2=>?_;exact hq t u G v w o r2 (U.trans J) (S1.on J h2) (J.repT S.hx q1) q2
theorem QW{op:tJ}(N:OpR X (binaryOp op) r)(hg:Gp2 X r g)(o:DL X a da)(l:DL X b db):DE X (.BinOp a op b pos) (dOp g da db):=by obtain⟨ta,pa,o⟩:=o;obtain⟨tb,pb,l⟩:=l;refine⟨_,JD N pa pb,fun C Z σ H n Q R S h U=>?_⟩;refine two o l S h fun x y n2 v w H2 r2 e I L Y=>?_;exact hg C.hd (Own C Z σ) H2 v w x y Q _ (fun p=>I.dom) L Y r2 fun z u H' rz G J=>U z n2 u H' rz (e.trans G.ext) (I.hnd.same G) J
theorem Qs{op:xC}(U:OpR X (compareOp op) r)(hg:Gp2 X r g)(G:DL X a da)(l:DL X b db)(hm:behindInMarks op b=false):DE X (.Compare a [op] [b] pos) (dOp g da db):=by obtain⟨ta,pa,G⟩:=G;obtain⟨tb,pb,l⟩:=l;refine⟨_,zmz U pa pb hm,fun C ρ σ H n Q R S h Y=>?_⟩;refine two G l S h fun x y n2 v w H2 r2 e J N Z=>?_;exact hg C.hd (Own C ρ σ) H2 v w x y Q _ (fun p=>J.dom) N Z r2 fun z u H' rz I L=>Y z n2 u H' rz (e.trans I.ext) (J.hnd.same I) L
def U5(d:DTE):DTT:=fun u n R=>d u n fun t v=>match t with|.bool k=>R k v|_=>False
theorem Jj{op:xC}(Y:OpR X (compareOp op) r)(hg:Gp2 X r g)(G:DL X a da)(l:DL X b db)(hm:behindInMarks op b=false):DT X (.Compare a [op] [b] pos) (U5 (dOp g da db)):=by
 obtain⟨ta,pa,G⟩:=G;obtain⟨tb,pb,l⟩:=l;refine⟨_,ziR Y pa pb hm,fun C ρ σ H n Q R S h Z=>?_⟩;refine two G l S h fun x y n2 v w H2 r2 e L U q2=>?_;refine hg C.hd (Own C ρ σ) H2 v w x y _ _ (fun p=>L.dom) U q2 r2 fun z u H' I J N=>?_;cases z with
 | bool k =>cases N;exact⟨k,rfl,Z k n2 H' I (e.trans J.ext) (L.hnd.same J)⟩
 | _=>exact I.elim
def Zl(g g':G2)(da db dc:DTE):DTE:=fun u n R=>da u n fun x C=>db u C fun y v=>g x y fun z=>match z with
 | .bool true=>dc u v fun w G=>g' y w fun z=>R z G
 | .bool false=>R (.bool false) v
 | _=>False
def gI(C:Int->Int->Prop)(f:Int->Int->Int):G2
 | .int i,.int j,R=>C i j/\R (.int (f i j))
 | _,_,_=>False
def gB(f:Int->Int->Bool):G2
 | .int i,.int j,R=>R (.bool (f i j))
 | _,_,_=>False
theorem gp_I:Gp2 X (rI C fun i j=>.int (f i j)) (gI C f):=by intro hd O H x y t u Q R dom l o h v;unfold gI at h;split at h;rename_i i j;exact⟨i,j,l.intI,o.intI,h.1,v _ _ H h.2 (Same.refl H) (.int _)⟩;exact h.elim
def gI0(f:Int->Int->Int):G2
 | .int i,.int j,R=>R (.int (f i j))
 | _,_,_=>False
theorem zrV:Gp2 X (rI0 fun i j=>.int (f i j)) (gI0 f):=by intro hd O H x y t u Q R dom l o h v;unfold gI0 at h;split at h;rename_i i j;exact⟨i,j,l.intI,o.intI,v _ _ H h (Same.refl H) (.int _)⟩;exact h.elim
theorem gp_B:Gp2 X (rI0 fun i j=>.bl (f i j)) (gB f):=by intro hd O H x y t u Q R dom o v h C;unfold gB at h;split at h;rename_i i j;exact⟨i,j,o.intI,v.intI,C _ _ H h (Same.refl H) (.bl _)⟩;exact h.elim
end
section
variable{X:Cx}{a b c:aY}{da db dc:DTE}{pos:Pos}
def oSub:=gI0 fun i j=>i - j
def oMod:=gI (fun _ j=>0<j) fun i j=>i % j
def Uj:=gI Y6 fun i j=>i / j
def oShl:=gI CPow fun i j=>i*2 ^ j.toNat
def oShr:=gI (fun _ j=>0<=j) fun i j=>i / 2 ^ j.toNat
def oXor:=gI0 cL
def oAnd:=gI0 gU
theorem Qj(o:DL X a da)(l:DL X b db):DE X (.BinOp a .Sub b pos) (dOp oSub da db):=QW ztG zrV o l
theorem zqj(u:DL X a da)(l:DL X b db):DE X (.BinOp a .Mod b pos) (dOp oMod da db):=QW UO gp_I u l
theorem zjq(x:DL X a da)(u:DL X b db):DE X (.BinOp a .FloorDiv b pos) (dOp Uj da db):=QW VP gp_I x u
theorem Qi(o:DL X a da)(l:DL X b db):DE X (.BinOp a .LShift b pos) (dOp oShl da db):=QW ztI gp_I o l
theorem zva(o:DL X a da)(l:DL X b db):DE X (.BinOp a .RShift b pos) (dOp oShr da db):=QW ztH gp_I o l
theorem zqh(u:DL X a da)(l:DL X b db):DE X (.BinOp a .BitXor b pos) (dOp oXor da db):=QW ztF zrV u l
theorem zvc(o:DL X a da)(l:DL X b db):DE X (.BinOp a .BitAnd b pos) (dOp oAnd da db):=QW ztR zrV o l
end
section
variable{X:Cx}{pins:qO}{σ:St}{H:Hp}{s:aq}{hd:Option aj}{O:aj->Prop}
theorem RepT.reads(I:Inv X pins σ H s)(h:RepT X.K hd O H v d)(r:RelV v u)(e:d.hasDict=false):∃as,Reads s.heap u d as:=by
 rcases h with h|⟨a,vs,ds,rfl,rfl,C,y,_⟩|⟨a,zs,ep,ks,rfl,rfl,C,y,_⟩
 rotate_left 2
 simp[cN]at e;exact h.reads I r e;cases r;obtain⟨its,L,p,_⟩:=I.list (xs:=vs) (.inl (.inl C));obtain⟨o,n,J,hc,_,x⟩:=p;obtain⟨as,G⟩:=Reps.reads I y L (by simpa[cN] using e);exact⟨_,.list J hc x (by simpa using G)⟩
end
def Okd(t:af):Prop:=t.canLay0=true/\t.depth<=60
section
variable{X:Cx}{a b c:aY}{da db dc:DTE}{pos:Pos}{k:Nat}
def rEqD(K:qF)(neg:Bool):R2:=fun x y H Q=>∃hd O t u,RepT K hd O H x t/\RepT K hd O H y u/\Okd t/\Okd u/\Q (.bl (if neg then !t.eqv u else t.eqv u)) H
theorem ztQ(N:Room k X.A):OpR X (compareOp .Eq) (rEqD X.K false):=by intro pins s σ H x y v u Q I S R h;obtain⟨hd,O,t,w,h1,J,o,C,q⟩:=h;obtain⟨as,G⟩:=h1.reads I S (fN _ o.1);obtain⟨bs,L⟩:=J.reads I R (fN _ C.1);refine SeqAt.compareEq_reads G L o.1 C.1 ?_ ⟨.bl _,H,I,rfl,q⟩;have:=N.un;have:=o.2;omega
theorem ztK(S:Room k X.A):OpR X (compareOp .NotEq) (rEqD X.K true):=by intro pins s σ H x y v u Q I Y U h;obtain⟨hd,O,t,w,h1,L,C,G,q⟩:=h;obtain⟨as,J⟩:=h1.reads I Y (fN _ C.1);obtain⟨bs,R⟩:=L.reads I U (fN _ G.1);refine SeqAt.compareNe_reads J R C.1 G.1 ?_ ⟨.bl _,H,I,rfl,q⟩;have:=S.un;have:=C.2;omega
def oEq:G2
 | .int i,.int j,R=>R (.bool (decide (i=j)))
 | .str i,.str j,R=>R (.bool (decide (i=j)))
 | .bool i,.bool j,R=>R (.bool (decide (i=j)))
 | t,u,R=>Okd t/\Okd u/\R (.bool (t.eqv u))
def oNe:G2
 | .int i,.int j,R=>R (.bool (!decide (i=j)))
 | .str i,.str j,R=>R (.bool (!decide (i=j)))
 | .bool i,.bool j,R=>R (.bool (!decide (i=j)))
 | t,u,R=>Okd t/\Okd u/\R (.bool (!t.eqv u))
def rEqA(K:qF):R2:=fun x y H Q=>rEq x y H Q\/rEqD K false x y H Q
def rNeA(K:qF):R2:=fun x y H Q=>rNe x y H Q\/rEqD K true x y H Q
theorem UN(l:Room k X.A):OpR X (compareOp .Eq) (rEqA X.K):=OpR.or zwY (ztQ l)
theorem QX(l:Room k X.A):OpR X (compareOp .NotEq) (rNeA X.K):=OpR.or zwW (ztK l)
theorem UF:Gp2 X (rEqA X.K) oEq:=by intro hd O H x y t u Q R dom o v h C;unfold oEq at h;split at h;rename_i i j;rw[o.intI,v.intI];refine .inl ⟨rfl,?_⟩;have e:decide (V.int i=V.int j)=decide (i=j):=decide_eq_decide.mpr ⟨fun z=>by cases z;rfl,fun z=>by rw[z]⟩;rw[e];exact C _ _ H h (Same.refl H) (.bl _);rename_i i j;rw[o.strI,v.strI];refine .inl ⟨rfl,?_⟩;have e:decide (V.str i=V.str j)=decide (i=j):=decide_eq_decide.mpr ⟨fun z=>by cases z;rfl,fun z=>by rw[z]⟩;rw[e];exact C _ _ H h (Same.refl H) (.bl _);rename_i i j;rw[o.blI,v.blI];refine .inl ⟨rfl,?_⟩;have e:decide (V.bl i=V.bl j)=decide (i=j):=decide_eq_decide.mpr ⟨fun z=>by cases z;rfl,fun z=>by rw[z]⟩;rw[e];exact C _ _ H h (Same.refl H) (.bl _);exact .inr ⟨hd,O,_,_,o,v,h.1,h.2.1,C _ _ H h.2.2 (Same.refl H) (.bl _)⟩
theorem QV:Gp2 X (rNeA X.K) oNe:=by intro hd O H x y t u Q R dom o v h C;unfold oNe at h;split at h;rename_i i j;rw[o.intI,v.intI];refine .inl ⟨rfl,?_⟩;have e:decide (V.int i=V.int j)=decide (i=j):=decide_eq_decide.mpr ⟨fun z=>by cases z;rfl,fun z=>by rw[z]⟩;rw[e];exact C _ _ H h (Same.refl H) (.bl _);rename_i i j;rw[o.strI,v.strI];refine .inl ⟨rfl,?_⟩;have e:decide (V.str i=V.str j)=decide (i=j):=decide_eq_decide.mpr ⟨fun z=>by cases z;rfl,fun z=>by rw[z]⟩;rw[e];exact C _ _ H h (Same.refl H) (.bl _);rename_i i j;rw[o.blI,v.blI];refine .inl ⟨rfl,?_⟩;have e:decide (V.bl i=V.bl j)=decide (i=j):=decide_eq_decide.mpr ⟨fun z=>by cases z;rfl,fun z=>by rw[z]⟩;rw[e];exact C _ _ H h (Same.refl H) (.bl _);exact .inr ⟨hd,O,_,_,o,v,h.1,h.2.1,C _ _ H h.2.2 (Same.refl H) (.bl _)⟩
def isNone:af->Bool
 | .none=>true
 | _=>false
def oIs:G2
 | .bool a,.bool b,R=>R (.bool (a == b))
 | t,.none,R=>R (.bool (isNone t))
 | _,_,_=>False
def oIsN:G2
 | .bool a,.bool b,R=>R (.bool (a != b))
 | t,.none,R=>R (.bool (!isNone t))
 | _,_,_=>False
def rIs:R2:=fun x y H Q=>(y=.non/\Q (.bl (decide (x=.non))) H)\/∃a b,x=.bl a/\y=.bl b/\Q (.bl (a == b)) H
def rIsN:R2:=fun x y H Q=>(y=.non/\Q (.bl (!decide (x=.non))) H)\/∃a b,x=.bl a/\y=.bl b/\Q (.bl (a != b)) H
theorem Vw:OpR X (compareOp .Is) rIs:=OpR.or ztO ztP
theorem ZV:OpR X (compareOp .IsNot) rIsN:=OpR.or zrd zmG
theorem RepT.isN{K:qF}{hd:Option aj}{O:aj->Prop}{H:Hp}{v:V}{t:af}(h:RepT K hd O H v t):decide (v=.non)=(isNone t):=by rcases h with h|⟨a,vs,ds,rfl,rfl,l,u,_⟩|⟨a,zs,ep,ks,rfl,rfl,l,u,_⟩;cases h <;> simp[HAND,SCR,EXC,isNone];simp[isNone];simp[isNone]
theorem Vq:Gp2 X rIs oIs:=by intro hd O H x y t u Q R dom o v h C;unfold oIs at h;split at h;rename_i i j;exact .inr ⟨i,j,o.blI,v.blI,C _ _ H h (Same.refl H) (.bl _)⟩;refine .inl ⟨v.nonI,?_⟩;rw[o.isN];exact C _ _ H h (Same.refl H) (.bl _);exact h.elim
theorem ZJ:Gp2 X rIsN oIsN:=by intro hd O H x y t u Q R dom o v h C;unfold oIsN at h;split at h;rename_i i j;exact .inr ⟨i,j,o.blI,v.blI,C _ _ H h (Same.refl H) (.bl _)⟩;refine .inl ⟨v.nonI,?_⟩;rw[o.isN];exact C _ _ H h (Same.refl H) (.bl _);exact h.elim
def oLtA:G2
 | .int i,.int j,R=>R (.bool (decide (i<j)))
 | .str i,.str j,R=>R (.bool (decide (i.cps.toList<j.cps.toList)))
 | .tuple xs,.tuple ys,R=>∃ns ms,xs=ns.map bS/\ys=ms.map bS/\R (.bool (HT.lexLt ns ms))
 | _,_,_=>False
def rLtA(K:qF):R2:=fun x y H Q=>(rI0 fun i j=>.bl (decide (i<j))) x y H Q\/(∃i j,x=.str i/\y=.str j/\Q (.bl (decide (i.cps.toList<j.cps.toList))) H)\/rLtT K x y H Q
theorem Qw(l:Room k X.A):OpR X (compareOp .Lt) (rLtA X.K):=OpR.or ztM (OpR.or zmE (ztL l.units0))
theorem VY{K:qF}{hd:Option aj}{O:aj->Prop}{H:Hp}:∀{ns:List Int}{vs:List V},Reps K hd O H vs (ns.map bS)->vs=ns.map V.int
 | [],_,h=>by cases h;rfl
 | n::ns,_,h=>by
  cases h with
  | cons h r=>rw[h.intI,VY r];rfl
theorem Qv:Gp2 X (rLtA X.K) oLtA:=by intro hd O H x y t u Q R dom C v h o;unfold oLtA at h;split at h;exact .inl ⟨_,_,C.intI,v.intI,o _ _ H h (Same.refl H) (.bl _)⟩;exact .inr (.inl ⟨_,_,C.strI,v.strI,o _ _ H h (Same.refl H) (.bl _)⟩);obtain⟨ns,ms,rfl,rfl,h⟩:=h;obtain⟨p,vs,I,s1,G⟩:=C.tupI;obtain⟨q,N,J,s2,L⟩:=v.tupI;rw[VY G]at s1;rw[VY L]at s2;exact .inr (.inr ⟨p,q,ns,ms,I,J,s1,s2,o _ _ H h (Same.refl H) (.bl _)⟩);exact h.elim
def oLeA:G2
 | .int i,.int j,R=>R (.bool (decide (i<=j)))
 | .str i,.str j,R=>R (.bool (!decide (j.cps.toList<i.cps.toList)))
 | _,_,_=>False
def rLeA:R2:=fun x y H Q=>(rI0 fun i j=>.bl (decide (i<=j))) x y H Q\/(∃i j,x=.str i/\y=.str j/\Q (.bl (!decide (j.cps.toList<i.cps.toList))) H)
theorem zmF:OpR X (compareOp .LtE) (fun x y H Q=>∃i j,x=.str i/\y=.str j/\Q (.bl (!decide (j.cps.toList<i.cps.toList))) H):=by intro pins s σ H x y v u Q I C o h;obtain⟨i,j,rfl,rfl,q⟩:=h;obtain⟨t,rfl⟩:=C;obtain⟨t',rfl⟩:=o;exact PySem.P.le_str ⟨.bl _,H,I,rfl,q⟩
theorem Qn:OpR X (compareOp .LtE) rLeA:=OpR.or zwX zmF
theorem Qk:Gp2 X rLeA oLeA:=by intro hd O H x y t u Q R dom o v h C;unfold oLeA at h;split at h;exact .inl ⟨_,_,o.intI,v.intI,C _ _ H h (Same.refl H) (.bl _)⟩;exact .inr ⟨_,_,o.strI,v.strI,C _ _ H h (Same.refl H) (.bl _)⟩;exact h.elim
variable{r r':R2}{g g':G2}
theorem zkp(ho:OpR X (compareOp op) r)(hg:Gp2 X r g)(Y:OpR X (compareOp op') r')(hg':Gp2 X r' g')(ha:DL X a da)(N:DL X b db)(hc:DL X c dc)
  (hm:lastMarks [op,op'] [b,c]=false:=by with_unfolding_all rfl):DE X (.Compare a [op,op'] [b,c] pos) (Zl g g' da db dc):=by
 obtain⟨ta,pa,ha⟩:=ha;obtain⟨tb,pb,N⟩:=N;obtain⟨tc,pc,hc⟩:=hc;refine⟨_,zoV ho Y pa pb pc hm,fun C Z σ H n Q R S h hq=>?_⟩;refine two ha N S h fun x y n2 v w H2 r2 e S2 q1 q2=>?_;refine hg C.hd (Own C Z σ) H2 v w x y _ _ (fun p=>S2.dom) q1 q2 r2 fun z u H' G J L=>?_;have S3:=S2.on J.ext (S2.hnd.same J);cases z with
 | bool k =>
  cases L;refine⟨k,rfl,?_⟩;cases k with
  | false=>exact iteF (hq _ n2 _ H' G (e.trans J.ext) S3.hnd (.bl _))
  | true =>refine iteT (hc C Z σ H' n2 _ _ S3 G fun z2 n3 w2 H4 r4 e4 h4 q4=>?_);have S4:=S3.on e4 h4;have U:=e4.repT S.hx ((Same.ext J:ExtE C.hd H2 H').repT S.hx q2);exact hg' C.hd (Own C Z σ) H4 w w2 y z2 Q _ (fun p=>S4.dom) U q4 r4 fun z u H' G I L=>hq z n3 u H' G (((e.trans J.ext).trans e4).trans I.ext) (S4.hnd.same I) L
 | _=>exact G.elim
end
section
variable{X:Cx}{a b c e:aY}{es rest:List aY}{d da db dc:DTE}{t u:DTT}{pos p:Pos}{k:Nat}
def truD:af->(Bool->Prop)->Prop
 | .none,R=>R false
 | .bool b,R=>R b
 | .int i,R=>R (decide (i≠0))
 | .str x,R=>x.length<=16777216/\R (decide (x.length≠0))
 | .list ts,R=>R (!ts.isEmpty)
 | .tuple ts,R=>R (!ts.isEmpty)
 | _,_=>False
def dTru(d:DTE):DTT:=fun l n R=>d l n fun t o=>truD t fun b=>R b o
theorem zsE{K:qF}{hd:Option aj}{O:aj->Prop}{H:Hp}{v:V}{t:af}{Q:Bool->Hp->Prop}{R:Bool->Prop}(r:RepT K hd O H v t)(h:truD t R)(y:∀b,R b->Q b H):∃k,TruV K v H k/\Q k H:=by
 cases t with
 | none=>exact⟨false,by rw[r.nonI];rfl,y _ h⟩
 | bool b=>exact⟨b,by rw[r.blI];rfl,y _ h⟩
 | int i=>exact⟨decide (i≠0),by rw[r.intI];show _=(i != 0);by_cases z:i=0 <;> simp[z],y _ h⟩
 | str x =>refine⟨decide (x.length≠0),by rw[r.strI];exact⟨h.1,by by_cases z:x.length=0 <;> simp[z]⟩,y _ h.2⟩
 | list ts =>obtain⟨p,vs,e,h1,C⟩:=r.lstI;subst e;refine⟨!ts.isEmpty,.inl ⟨vs,.of h1,?_⟩,y _ h⟩;cases C <;> rfl
 | tuple ts =>obtain⟨p,vs,e,h1,C⟩:=r.tupI;subst e;refine⟨!ts.isEmpty,.inr (.inl ⟨vs,h1,?_⟩),y _ h⟩;cases C <;> rfl
 | dict _=>exact h.elim
theorem JY(l:DL X a da)(he:∀whole,isTrue a X.env whole=(do let v <- whole;standAt a.pos;holding [v] (truthy v)):=by intro _;rfl):DT X a (dTru da):=by obtain⟨J,pa,l⟩:=l;refine⟨_,zoN pa he,fun C G σ H n Q R S h x=>?_⟩;refine l C G σ H n _ _ S h fun t I v H' r o h1 q=>?_;exact zsE q r fun b y=>x b I H' y o h1
def dAnd(t u:DTT):DTT:=fun l n R=>t l n fun b o=>if b=true then u l o R else R false o
def dOr(t u:DTT):DTT:=fun l n R=>t l n fun b o=>if b=true then R true o else u l o R
def dNot(t:DTT):DTT:=fun l n R=>t l n fun b o=>R (!b) o
theorem JW(h:DW X a t):DT X a t:=by obtain⟨l,pa,h⟩:=h;exact⟨_,pa.pt,h⟩
theorem YO(h:DT X a t):DW X (.BoolOp .And [a] pos) t:=by obtain⟨v,pa,h⟩:=h;exact⟨_,zqP pa,h⟩
theorem Qu(h:DT X a t):DW X (.BoolOp .Or [a] pos) t:=by obtain⟨v,pa,h⟩:=h;exact⟨_,ztg pa,h⟩
theorem Yt(h:DT X a t)(h':DW X (.BoolOp .And (b::rest) pos) u):DW X (.BoolOp .And (a::b::rest) pos) (dAnd t u):=by
 obtain⟨ta,pa,h⟩:=h;obtain⟨Z,U,h'⟩:=h';refine⟨_,zth pa U,fun C y σ H n Q R S hd x=>?_⟩;refine h C y σ H n _ _ S hd fun b I G r v h1=>?_;cases b with
 | true=>exact iteT (h' C y σ G I Q R (S.on v h1) (by simpa using r) fun b N Y r J L=>x b N Y r (v.trans J) L)
 | false=>exact iteF (x _ I G (by simpa using r) v h1)
theorem J3(h:DT X a t)(h':DW X (.BoolOp .Or (b::rest) pos) u):DW X (.BoolOp .Or (a::b::rest) pos) (dOr t u):=by
 obtain⟨ta,pa,h⟩:=h;obtain⟨Z,U,h'⟩:=h';refine⟨_,zwQ pa U,fun C y σ H n Q R S hd x=>?_⟩;refine h C y σ H n _ _ S hd fun b I G r v h1=>?_;cases b with
 | false=>exact iteF (h' C y σ G I Q R (S.on v h1) (by simpa using r) fun b N Y r J L=>x b N Y r (v.trans J) L)
 | true=>exact iteT (x _ I G (by simpa using r) v h1)
theorem Qt(h:DT X a t):DT X (.UnaryOp .Not a pos) (dNot t):=by obtain⟨J,pa,h⟩:=h;refine⟨_,ztj pa,fun C x σ H n Q R S hd v=>?_⟩;exact h C x σ H n _ _ S hd fun b I G r l h1=>v _ I G r l h1
def bolD:af->(Bool->Prop)->Prop
 | .bool b,R=>R b
 | _,_=>False
def zsd(da db:DTE):DTE:=fun v n R=>da v n fun t x=>bolD t fun b=>if b=true then db v x R else R (.bool false) x
def dOrV(da db:DTE):DTE:=fun v n R=>da v n fun t x=>bolD t fun b=>if b=true then R (.bool true) x else db v x R
def zsc(da:DTE):DTE:=fun v n R=>da v n fun t x=>bolD t fun b=>R (.bool (!b)) x
theorem Q1{op}(h:DE X a d):DE X (.BoolOp op [a] pos) d:=by obtain⟨v,pa,h⟩:=h;exact⟨_,ztu pa,h⟩
theorem Q7(h:DE X a da)(h':DE X (.BoolOp .And (b::rest) pos) db):DE X (.BoolOp .And (a::b::rest) pos) (zsd da db):=by
 obtain⟨ta,pa,h⟩:=h;obtain⟨tb,pb,h'⟩:=h';refine⟨_,ztB pa pb,fun C G σ H n Q R S hd y=>?_⟩;refine h C G σ H n _ _ S hd fun t J v I r x h1 L=>?_;cases t with
 | bool b =>
  cases L;refine⟨b,rfl,?_⟩;cases b with
  | true=>exact iteT (h' C G σ I J Q R (S.on x h1) (by simpa[bolD] using r) fun t Z v H2 r N U Y=>y t Z v H2 r (x.trans N) U Y)
  | false=>exact iteF (y _ J _ I (by simpa[bolD] using r) x h1 (.bl _))
 | _=>exact r.elim
theorem zqi(h:DE X a da)(h':DE X (.BoolOp .Or (b::rest) pos) db):DE X (.BoolOp .Or (a::b::rest) pos) (dOrV da db):=by
 obtain⟨ta,pa,h⟩:=h;obtain⟨tb,pb,h'⟩:=h';refine⟨_,zwT pa pb,fun C G σ H n Q R S hd y=>?_⟩;refine h C G σ H n _ _ S hd fun t J v I r x h1 L=>?_;cases t with
 | bool b =>
  cases L;refine⟨b,rfl,?_⟩;cases b with
  | false=>exact iteF (h' C G σ I J Q R (S.on x h1) (by simpa[bolD] using r) fun t Z v H2 r N U Y=>y t Z v H2 r (x.trans N) U Y)
  | true=>exact iteT (y _ J _ I (by simpa[bolD] using r) x h1 (.bl _))
 | _=>exact r.elim
theorem zr9(h:DE X a da):DE X (.UnaryOp .Not a pos) (zsc da):=by
 obtain⟨Z,pa,h⟩:=h;refine⟨_,ztv pa,fun C J σ H n Q R S hd I=>?_⟩;refine h C J σ H n _ _ S hd fun t Y v L r x h1 G=>?_;cases t with
 | bool b =>cases G;exact⟨b,rfl,I _ Y _ L r x h1 (.bl _)⟩
 | _=>exact r.elim
def dIfE(t:DTT)(da db:DTE):DTE:=fun l n R=>t l n fun b o=>if b=true then da l o R else db l o R
theorem zg5(hc:DT X c t)(h:DE X a da)(h':DE X b db):DE X (.IfExp c a b pos) (dIfE t da db):=by
 obtain⟨tc,pc,hc⟩:=hc;obtain⟨ta,pa,h⟩:=h;obtain⟨tb,pb,h'⟩:=h';refine⟨_,zoU pc pa pb,fun C J σ H n Q R S hd U=>?_⟩;refine hc C J σ H n _ _ S hd fun b Z Y r l h1=>?_;cases b with
 | true=>exact iteT (h C J σ Y Z Q R (S.on l h1) (by simpa using r) fun t L v N r o y G=>U t L v N r (l.trans o) y G)
 | false=>exact iteF (h' C J σ Y Z Q R (S.on l h1) (by simpa using r) fun t L v N r o y G=>U t L v N r (l.trans o) y G)
def dNil:DTA:=fun _ n R=>R [] n
def J1(d:DTE)(ds:DTA):DTA:=fun l n R=>d l n fun t v=>ds l v fun ts o=>R (t::ts) o
theorem Ja:DB X [] dNil:=⟨_,QF,fun C v σ H n Q R S h o=>o [] n [] H h ExtE.refl S.hnd .nil rfl⟩
theorem znF(h:DE X e d)(l:DB X es ds)(J:starEach (e::es) X.env=(false,eval e X.env)::starEach es X.env):DB X (e::es) (J1 d ds):=by obtain⟨ta,pa,h⟩:=h;obtain⟨tb,pb,l⟩:=l;refine⟨_,Qd pa pb J,fun C G σ H n Q R S hd L=>?_⟩;refine h C G σ H n _ _ S hd fun t n1 v Y r x h1 I=>?_;refine l C G σ Y n1 _ _ (S.on x h1) r fun ts n2 vs H2 Z y N U l2=>?_;exact L _ n2 _ H2 Z (x.trans y) N (.cons (y.rep S.hx I) U) (by simp[l2])
def Zb(K:qF)(hd:Option aj)(O:aj->Prop)(H:Hp):List V->List af->Prop:=bL (RepT K hd O H)
def DBL(X:Cx)(es:List aY)(d:DTA):Prop:=∃o,PB X es o/\∀(C:Ctx) (l:En) (σ:St) (H:Hp) (n:Nat) (Q:List V->Hp->Prop) (R:List af->Nat->Prop),Stt X.K C l σ H n->d l n R ->
 (∀ts v vs H',R ts v->ExtE C.hd H H'->Hn X.K C.hd H' v->Zb X.K C.hd (Own C l σ) H' vs ts->ts.length=es.length->Q vs H')->o σ H Q
theorem Jq:DBL X [] dNil:=⟨_,QF,fun C v σ H n Q R S h o=>o [] n [] H h ExtE.refl S.hnd .nil rfl⟩
theorem Ji(h:DL X e d)(l:DBL X es ds)(J:starEach (e::es) X.env=(false,eval e X.env)::starEach es X.env):DBL X (e::es) (J1 d ds):=by obtain⟨ta,pa,h⟩:=h;obtain⟨tb,pb,l⟩:=l;refine⟨_,Qd pa pb J,fun C G σ H n Q R S hd L=>?_⟩;refine h C G σ H n _ _ S hd fun t n1 v Y r x h1 I=>?_;refine l C G σ Y n1 _ _ (S.on x h1) r fun ts n2 vs H2 Z y N U l2=>?_;exact L _ n2 _ H2 Z (x.trans y) N (.cons (y.repT S.hx I) U) (by simp[l2])
def dTup(ds:DTA):DTE:=fun o n R=>ds o n fun ts v=>R (.tuple ts) v
theorem Jr(h:DB X es ds)(L:es.length<=sizeLine:=by decide):DE X (.Tuple es x1 pos) (dTup ds):=by obtain⟨Y,pa,h⟩:=h;refine⟨_,zq5 pa,fun C G σ H n Q R S hd y=>?_⟩;refine h C G σ H n _ _ S hd fun ts J vs U r v h1 x I=>⟨by rw[x.length,I];exact L,fun p o=>?_⟩;have N:=S.on v h1;exact y _ J _ _ r (v.trans (ExtE.new o)) (h1.same (JM o)) (.newT (N.free o) o x)
theorem J9(h:DB X es ds)(Z:es.length<=sizeLine:=by decide):DN X (.List es pos) ds:=by
 obtain⟨ta,pa,h⟩:=h;refine⟨_,zmy pa,fun C N σ H n Q R S hd J=>?_⟩;refine h C N σ H n _ _ S hd fun ts Y vs H1 r x h1 I U=>⟨by rw[I.length,U];exact Z,fun p l=>?_⟩;have S1:=S.on x h1;have G:H p=none:=by
  cases z:H p with
  | none=>rfl
  | some o =>by_cases y:C.hd=some p;obtain⟨vs,q⟩:=h1.lst y;rw[l]at q;cases q;rw[x p o z y]at l;cases l
 refine J ts Y p vs _ r (x.trans (ExtE.new l)) (h1.same (JM l)) G JE ?_;refine I.mono (fun b o v z=>z.elim id fun z=>?_) fun b o _ v=>JM l b o v;subst z;rw[l]at v;cases v
end
section
variable{X:Cx}{a b c e:aY}{es rest:List aY}{d da db dc:DTE}{ds:DTA}{pos p:Pos}{k:Nat}{x:Str}
abbrev GC:=List af->(af->Prop)->Prop
def Zk(g:GC)(ds:DTA):DTE:=fun l n R=>ds l n fun ts o=>g ts fun z=>R z o
def GpC(X:Cx)(r:List V->Hp->VK->Prop)(g:GC):Prop:=∀(hd:Option aj) (O:aj->Prop) (H:Hp) (xs:List V) (ts:qD) (Q:VK) (R:af->Prop),(∀p,O p->H p≠none)->Zb X.K hd O H xs ts->g ts R ->
 (∀z v H',R z->Same H H'->Rep X.K hd O H' v z->Q v H')->r xs H Q
theorem JA{id:String}{r:List V->Hp->VK->Prop}{g:GC}(hc:JK X (.builtin id) r)(o:GpC X r g)(hm:X.mg x=none)(Y:bootBuiltins x=some (.builtin id))(h:DBL X (e::es) ds)(hg:Gl X x:=by rfl)(hn:x ≠ "__name__":=by decide) (v:(x == ("__debug__":Str))=false:=by rfl) :
  DE X (.Call (.Name x p) (e::es) [] pos) (Zk g ds):=by
 obtain⟨ta,pa,h⟩:=h;refine⟨_,Ye hc hm Y pa hg hn v,fun C G σ H n Q R S hd Z=>?_⟩;refine h C G σ H n _ _ S hd fun ts n1 vs H1 J y h1 U _=>?_;have S1:=S.on y h1;exact o C.hd (Own C G σ) H1 vs ts Q _ (fun p=>S1.dom) U J fun z u H' rz I L=>Z z n1 u H' rz (y.trans I.ext) (h1.same I) L
theorem UE(hc:JK X (.type T) r)(o:GpC X r g)(hm:X.mg x=none)(Z:bootBuiltins x=some (.type T))(h:DBL X (e::es) ds)(hg:Gl X x:=by rfl)(hn:x ≠ "__name__":=by decide) (v:(x == ("__debug__":Str))=false:=by rfl) :
  DE X (.Call (.Name x p) (e::es) [] pos) (Zk g ds):=by
 obtain⟨ta,pa,h⟩:=h;refine⟨_,zq9 hc hm Z pa hg hn v,fun C I σ H n Q R S hd hq=>?_⟩;refine h C I σ H n _ _ S hd fun ts n1 vs H1 L G h1 Y _=>?_;have S1:=S.on G h1;exact o C.hd (Own C I σ) H1 vs ts Q _ (fun p=>S1.dom) Y L fun z u H' rz J U=>hq z n1 u H' rz (G.trans J.ext) (h1.same J) U
theorem QQ{K:qF}{hd:Option aj}{O:aj->Prop}{H:Hp}{xs:List V}{t:af}(h:Zb K hd O H xs [t]):∃v,xs=[v]/\RepT K hd O H v t:=by
 cases h with
 | cons h r=>cases r;exact⟨_,rfl,h⟩
theorem zpX{K:qF}{hd:Option aj}{O:aj->Prop}{H:Hp}{xs:List V}{t u:af}(h:Zb K hd O H xs [t,u]):∃v w,xs=[v,w]/\RepT K hd O H v t/\RepT K hd O H w u:=by
 cases h with
 | cons h r=>cases r with|cons l r=>cases r;exact⟨_,_,rfl,h,l⟩
def bLen:GC:=fun l R=>(∃ts,l=[.list ts]/\R (.int ts.length))\/(∃ts,l=[.tuple ts]/\R (.int ts.length))\/(∃x:Str,l=[.str x]/\x.length<=16777216/\R (.int x.length))\/∃ts,l=[.dict [(.none,.list ts)]]/\R (.int ts.length)
def rLen(K:qF):List V->Hp->VK->Prop:=fun xs H Q=>∃x n,xs=[x]/\LenV K x H n/\Q (.int n) H
theorem Qm:GpC X (rLen X.K) bLen:=by
 intro hd O H xs ts Q R dom rs h u;rcases h with⟨ts,rfl,h⟩|⟨ts,rfl,h⟩|⟨x,rfl,h⟩|⟨ts,rfl,h⟩;obtain⟨v,rfl,r⟩:=QQ rs;obtain⟨p,vs,rfl,h1,y⟩:=r.lstI;exact⟨_,_,rfl,.inl ⟨vs,.of h1,rfl⟩,by rw[y.length];exact u _ _ H h (Same.refl H) (.int _)⟩;obtain⟨v,rfl,r⟩:=QQ rs;obtain⟨p,vs,rfl,h1,y⟩:=r.tupI;exact⟨_,_,rfl,.inr ⟨vs,h1,rfl⟩,by rw[y.length];exact u _ _ H h (Same.refl H) (.int _)⟩;obtain⟨v,rfl,r⟩:=QQ rs;rw[r.strI];exact⟨_,_,rfl,⟨h.1,rfl⟩,u _ _ H h.2 (Same.refl H) (.int _)⟩;obtain⟨v,rfl,r⟩:=QQ rs;have r:=r.rep (by intro _ z;cases z);generalize e:(sD [(oo,xP ts)])=t at r;cases r with
 | scr h1 o =>simp only[SCR,p7,sQ,vd,p8,true_and,and_true]at e;subst e;exact⟨_,_,rfl,.inl ⟨_,.inl h1,rfl⟩,by simpa using u _ _ H h (Same.refl H) (.int _)⟩
 | scrS h1 =>simp only[SCR,p7,sQ,vd,p8,true_and,and_true]at e;subst e;exact⟨_,_,rfl,.inl ⟨_,h1 H,rfl⟩,by simpa using u _ _ H h (Same.refl H) (.int _)⟩
 | hand _=>simp[HAND]at e
 | exc _ _=>simp[EXC]at e
 | dct _ _=>cases e
 | dcK _ _ _ C=>cases e;exact(dict_noK C).elim
 | dcT _ _ _ C=>cases e;exact(dict_noT C).elim
 | _=>cases e
def bMin:GC
 | [.int i,.int j],R=>R (.int (if j<i then j else i))
 | _,_=>False
def bMax:GC
 | [.int i,.int j],R=>R (.int (if j > i then j else i))
 | _,_=>False
theorem Zo:GpC X (fun xs H Q=>∃i j,xs=[.int i,.int j]/\Q (.int (if j<i then j else i)) H) bMin:=by intro hd O H xs ts Q R dom rs h u;unfold bMin at h;split at h;obtain⟨v,w,rfl,l,o⟩:=zpX rs;rw[l.intI,o.intI];exact⟨_,_,rfl,u _ _ H h (Same.refl H) (.int _)⟩;exact h.elim
theorem znj:GpC X (fun xs H Q=>∃i j,xs=[.int i,.int j]/\Q (.int (if j > i then j else i)) H) bMax:=by intro hd O H xs ts Q R dom rs h u;unfold bMax at h;split at h;obtain⟨v,w,rfl,l,o⟩:=zpX rs;rw[l.intI,o.intI];exact⟨_,_,rfl,u _ _ H h (Same.refl H) (.int _)⟩;exact h.elim
def bAbs:GC
 | [.int i],R=>R (.int (if i<0 then -i else i))
 | _,_=>False
theorem zuU:GpC X (fun xs H Q=>∃i,xs=[.int i]/\Q (.int (if i<0 then -i else i)) H) bAbs:=by intro hd O H xs ts Q R dom rs h o;unfold bAbs at h;split at h;obtain⟨v,rfl,l⟩:=QQ rs;rw[l.intI];exact⟨_,rfl,o _ _ H h (Same.refl H) (.int _)⟩;exact h.elim
def bAll:GC
 | [.list ts],R=>∃bs:List Bool,ts=bs.map kP/\R (.bool (bs.all id))
 | _,_=>False
theorem zfY{K:qF}{hd:Option aj}{O:aj->Prop}{H:Hp}:∀{ns:List Bool}{vs:List V},Reps K hd O H vs (ns.map kP)->vs=ns.map V.bl
 | [],_,h=>by cases h;rfl
 | n::ns,_,h=>by
  cases h with
  | cons h r=>rw[h.blI,zfY r];rfl
theorem Zm:GpC X (fun xs H Q=>∃(a:aj) (bs:List Bool),xs=[.ref a]/\SqL X.K H a (bs.map V.bl)/\Q (.bl (bs.all id)) H) bAll:=by intro hd O H xs ts Q R dom rs h y;unfold bAll at h;split at h;obtain⟨bs,rfl,h⟩:=h;obtain⟨v,rfl,u⟩:=QQ rs;obtain⟨p,vs,rfl,h1,C⟩:=u.lstI;rw[zfY C]at h1;exact⟨p,bs,rfl,.of h1,y _ _ H h (Same.refl H) (.bl _)⟩;exact h.elim
def Zs:GC
 | [.list ts],R=>R (.tuple ts)
 | [.tuple ts],R=>R (.tuple ts)
 | _,_=>False
theorem U0:GpC X (fun xs H Q=>∃p ys,xs=[.ref p]/\((SqL X.K H p ys/\∀l,H l=none->Q (.ref l) (upd H l (.tup ys)))\/(SqT X.K H p ys/\Q (.ref p) H))) Zs:=by intro hd O H xs ts Q R dom rs h G;unfold Zs at h;split at h;obtain⟨v,rfl,y⟩:=QQ rs;obtain⟨p,vs,rfl,h1,I⟩:=y.lstI;refine⟨p,vs,rfl,.inl ⟨.of h1,fun l C=>?_⟩⟩;exact G _ _ _ h (JM C) (.newT (fun z=>dom l z C) C I);obtain⟨v,rfl,y⟩:=QQ rs;obtain⟨p,vs,rfl,h1,I⟩:=y.tupI;exact⟨p,vs,rfl,.inr ⟨h1,G _ _ H h (Same.refl H) (y.rep (by intro _ z;cases z))⟩⟩;exact h.elim
def JN:af->(List af->Prop)->Prop
 | .list ts,R=>R ts
 | .tuple ts,R=>R ts
 | _,_=>False
def tyN:af->Option String
 | .none=>some "NoneType"
 | .bool _=>some "bool"
 | .int _=>some "int"
 | .str _=>some "str"
 | .list _=>some "list"
 | .tuple _=>some "tuple"
 | .dict []=>some "dict"
 | .dict _=>none
def rIsi(K:qF):List V->Hp->VK->Prop:=fun xs H Q=>∃x hd O t T y b,xs=[x,.ty T]/\RepT K hd O H x t/\tyN t=some y/\kitB y T=some b/\Q (.bl b) H
theorem znW:JK X (.builtin "isinstance") (rIsi X.K):=by
 intro pins s σ H xs Z Q I r h;obtain⟨x,hd,O,t,T,y,b,rfl,G,ty,e,q⟩:=h;cases r with
 | cons C U =>
  cases U with
  | cons Y N =>
   cases N;cases(show _=aV T from Y);have fin:∀J,tyN t=some J->J=y:=fun J h=>aE (h.symm.trans ty);have go:Ty H x y->wpAny (model X.prog X.w) X.A (call (.builtin "isinstance") [_,aV T]) (EP X pins σ Q) X.xe s:=fun ty=>zm_ I C ty.of ((Yu X.K y T).trans e) fun tk=>⟨.bl b,H,I.tok tk,rfl,q⟩;rcases G with G|⟨a,vs,ds,rfl,rfl,L,S,_⟩|⟨a,zs,ep,ks,rfl,rfl,L,S,_⟩;cases G with
   | non=>cases ty;exact go .non
   | bl b=>cases ty;exact go (.bl b)
   | int i=>cases ty;exact go (.int i)
   | str i=>cases ty;exact go (.str i)
   | tup h o r=>cases ty;exact go (.tup h)
   | lst h o r=>cases ty;exact go (.lst h)
   | @dct a ep h o =>cases ty;cases(show _=aJ a from C);obtain⟨⟨_,_,_,v,es,g1,g2,_⟩,_⟩:=I.hok a _ h;exact bT fG I.kIn ⟨v,g1,g2.1⟩ ((Yu X.K "dict" T).trans e) (fun z=>nomatch z) fun tk=>⟨.bl b,H,I.tok tk,rfl,q⟩
   | @dcK a kvs ep ks ps h o r e' =>
    cases ps with
    | nil =>cases ty;cases(show _=aJ a from C);obtain⟨⟨_,_,_,v,es,g1,g2,_⟩,_⟩:=I.hok a _ h;exact bT fG I.kIn ⟨v,g1,g2.1⟩ ((Yu X.K "dict" T).trans e) (fun z=>nomatch z) fun tk=>⟨.bl b,H,I.tok tk,rfl,q⟩
    | cons _ _=>simp[tyN]at ty
   | @dcT a zs ep ks ps h o r e' =>
    cases ps with
    | nil =>cases ty;cases(show _=aJ a from C);obtain⟨⟨_,_,_,v,es,g1,g2,_⟩,_⟩:=I.hok a _ h;exact bT fG I.kIn ⟨v,g1,g2.1⟩ ((Yu X.K "dict" T).trans e) (fun z=>nomatch z) fun tk=>⟨.bl b,H,I.tok tk,rfl,q⟩
    | cons _ _=>simp[tyN]at ty
   | hand h=>simp[HAND,tyN]at ty
   | scr h o=>simp[SCR,tyN]at ty
   | scrS h=>simp[SCR,tyN]at ty
   | exc h o=>simp[EXC,tyN]at ty
   | @tupS a vs ds h r =>cases ty;cases(show _=aJ a from C);obtain⟨o,its,n,R,hc,_⟩:=h;exact bT pE I.kIn ⟨o,I.kIn a o R,hc⟩ ((Yu X.K "tuple" T).trans e) (fun z=>nomatch z) fun tk=>⟨.bl b,H,I.tok tk,rfl,q⟩
   cases ty;exact go (.lst L);cases ks with
   | nil =>cases ty;cases(show _=aJ a from C);obtain⟨⟨_,_,_,v,es,g1,g2,_⟩,_⟩:=I.hok a _ L;exact bT fG I.kIn ⟨v,g1,g2.1⟩ ((Yu X.K "dict" T).trans e) (fun z=>nomatch z) fun tk=>⟨.bl b,H,I.tok tk,rfl,q⟩
   | cons _ _=>simp[tyN,Jm]at ty
end
section
variable{X:Cx}{a b c e:aY}{es rest:List aY}{d da db dc:DTE}{ds:DTA}{pos p:Pos}{k:Nat}{x:Str}
theorem Reps.atI{K:qF}{hd:Option aj}{O:aj->Prop}{H:Hp}{vs ts}{i:Int}{t}(r:Reps K hd O H vs ts)(h:L2.atI ts i=some t):∃v,L2.atI vs i=some v/\Rep K hd O H v t:=by
 unfold L2.atI at h ⊢;rw[r.length];cases e:ixN ts.length i with
 | none=>rw[e]at h;cases h
 | some j =>rw[e]at h;have h:ts[j]?=some t:=h;exact r.get h
def oIx:G2
 | .list ts,.int i,R=>match atI ts i with|some t=>R t|none=>False
 | .tuple ts,.int i,R=>match atI ts i with|some t=>R t|none=>False
 | .str x,.int i,R=>x.length<=16777216/\match atI x.cps.toList i with|some c=>R (.str ⟨#[c]⟩)|none=>False
 | _,_,_=>False
theorem zxB:Gp2 X (rIx X.K) oIx:=by intro hd O H x y t u Q R dom N J h G;unfold oIx at h;split at h;rename_i ts i;obtain⟨p,vs,rfl,h1,I⟩:=N.lstI;split at h;rename_i t C;obtain⟨v,ev,L⟩:=I.atI C;exact .inl ⟨p,vs,i,v,rfl,J.intI,.of h1,ev,G _ _ H h (Same.refl H) L⟩;exact h.elim;rename_i ts i;obtain⟨p,vs,rfl,h1,I⟩:=N.tupI;split at h;rename_i t C;obtain⟨v,ev,L⟩:=I.atI C;exact .inr (.inl ⟨p,vs,i,v,rfl,J.intI,h1,ev,G _ _ H h (Same.refl H) L⟩);exact h.elim;rename_i z i;obtain⟨h0,h⟩:=h;split at h;rename_i c S;exact .inr (.inr ⟨z,i,c,N.strI,J.intI,h0,S,G _ _ H h (Same.refl H) (.str _)⟩);exact h.elim;exact h.elim
theorem Jn(o:DL X a da)(l:DL X b db)(N:zn_ b:=by intro _ _;rfl):DE X (.Subscript a b pos) (dOp oIx da db):=by obtain⟨ta,pa,o⟩:=o;obtain⟨tb,pb,l⟩:=l;refine⟨_,Ul zum pa pb N,fun C Z σ H n Q R S h U=>?_⟩;refine two o l S h fun x y n2 v w H2 r2 e I L Y=>?_;exact zxB C.hd (Own C Z σ) H2 v w x y Q _ (fun p=>I.dom) L Y r2 fun z u H' rz G J=>U z n2 u H' rz (e.trans G.ext) (I.hnd.same G) J
def dNeg(d:DTE):DTE:=fun l n R=>d l n fun t o=>match t with|.int i=>R (.int (-i)) o|_=>False
theorem VD(h:DE X a da):DE X (.UnaryOp .USub a pos) (dNeg da):=by
 obtain⟨N,pa,h⟩:=h;refine⟨_,zwR zsB pa,fun C I σ H n Q R S hd G=>?_⟩;refine h C I σ H n _ _ S hd fun t L v J r l h1 o=>?_;cases t with
 | int i=>rw[o.intI];exact⟨i,rfl,G _ L _ J r l h1 (.int _)⟩
 | _=>exact r.elim
def zte(K:qF):R2:=fun x y H Q=>∃a b xs ys,x=.ref a/\y=.ref b/\SqT K H a xs/\SqT K H b ys/\xs.length+ys.length<=sizeLine /\
 (xs=[]->Q (.ref b) H)/\(ys=[]->Q (.ref a) H)/\∀p,H p=none->Q (.ref p) (upd H p (.tup (xs++ys)))
theorem zrg:OpR X (binaryOp .Add) (zte X.K):=by
 intro pins s σ H x y v u Q I U S h;obtain⟨a,b,xs,ys,rfl,rfl,R,L,hz,q0,q1,q2⟩:=h;by_cases hx:xs=[];cases U;cases S;obtain⟨its,Z,p1,_⟩:=I.tuple R;obtain⟨C,r2,p2,_⟩:=I.tuple L;have hv:its=[]:=Z.nil_iff.mpr hx;obtain⟨⟨cls,dd,data,sl⟩,N,hc,n,hd⟩:=id p1;obtain⟨⟨Y,J,data2,G⟩,l,o,n2,hd2⟩:=id p2;simp only at hc hd o hd2;subst hc hd o hd2;exact pX ⟨_,N,rfl⟩ ⟨_,l,rfl⟩ mX o5 iV iN (ik _ _)
  (tuple_addW0 a b its.toArray C.toArray n n2 dd J sl G (by simp[hv])) ⟨N,l,⟨.ref b,H,I,rfl,q0 hx⟩⟩
 exact zrf pins s σ H _ _ v u Q I U S ⟨a,b,xs,ys,rfl,rfl,R,L,hx,hz,q1,fun _=>q2⟩
def oAdd:G2
 | .int i,.int j,R=>R (.int (i+j))
 | .str i,.str j,R=>i.length+j.length<=16777216/\R (.str (i++j))
 | .tuple xs,.tuple ys,R=>xs.length+ys.length<=16777216/\R (.tuple (xs++ys))
 | _,_,_=>False
def ztf(K:qF):R2:=fun x y H Q=>(rI0 fun i j=>.int (i+j)) x y H Q\/(∃i j,x=.str i/\y=.str j/\i.length+j.length<=sizeLine/\Q (.str (i++j)) H)\/zte K x y H Q
theorem zrh:OpR X (binaryOp .Add) (ztf X.K):=OpR.or Q5 (OpR.or zkR zrg)
theorem zuT:Gp2 X (ztf X.K) oAdd:=by intro hd O H x y t u Q R dom C v h o;unfold oAdd at h;split at h;exact .inl ⟨_,_,C.intI,v.intI,o _ _ H h (Same.refl H) (.int _)⟩;exact .inr (.inl ⟨_,_,C.strI,v.strI,h.1,o _ _ H h.2 (Same.refl H) (.str _)⟩);rename_i xs ys;obtain⟨p,vs,rfl,h1,G⟩:=C.tupI;obtain⟨q,L,rfl,N,I⟩:=v.tupI;refine .inr (.inr ⟨p,q,vs,L,rfl,rfl,h1,N,by rw[G.length,I.length];exact h.1,fun e=>?_,fun e=>?_,fun l J=>?_⟩);subst e;cases G;exact o _ _ H h.2 (Same.refl H) (v.rep (by intro _ z;cases z));subst e;cases I;exact o _ _ H h.2 (Same.refl H) (by rw[cg];exact C.rep (by intro _ z;cases z));exact o _ _ _ h.2 (JM J) (.newT (fun z=>dom l z J) J (G.append I));exact h.elim
theorem JS(o:DL X a da)(l:DL X b db):DE X (.BinOp a .Add b pos) (dOp oAdd da db):=QW zrh zuT o l
theorem ZK{K:qF}{C:Ctx}{H l:Hp}{G:Nat}{p:aj}(v:ExtE C.hd H l)(h1:Hn K C.hd l G)(u:l p=none):H p=none:=by
 cases z:H p with
 | none=>rfl
 | some o =>by_cases y:C.hd=some p;obtain⟨vs,q⟩:=h1.lst y;rw[u]at q;cases q;rw[v p o z y]at u;cases u
def oMul:=gI CMul fun i j=>i*j
theorem znC(v:DL X a da)(o:DL X b db):DE X (.BinOp a .Mult b pos) (dOp oMul da db):=QW Q6 gp_I v o
abbrev GD:=List af->Nat->(af->Nat->Prop)->Prop
def spD(K:qF)(m:Nat)(g:GD):Sp:=fun vs H Q _=>∃(hd:Option aj) (O:aj->Prop) (ts:qD) (n:Nat) (R:qN),Reps K hd O H vs ts/\Hn K hd H n/\(∀a,O a->MutO (H a))/\(∀a,hd=some a->O a)/\ts.length=m/\g ts n R /\
 ∀t l v H',R t l->ExtE hd H H'->Hn K hd H' l->Rep K hd O H' v t->Q v H'
def dFn(g:GD)(ds:DTA):DTE:=fun l n R=>ds l n fun ts o=>g ts o R
theorem zxF{st:fc}{ps:List Str}{f:aj}{fd:dM}{g:GD}{m:Nat}(D:Bd.Def X.K X.mg x st ps f fd)(G:FnOk X.prog X.w X.K X.mg X.base CX0 k f fd ps (spD X.K m g))(hr:Room k X.A)(h:DB X (e::es) ds)(hm:(e::es).length=m:=by rfl)(hg:Gl X x:=by rfl)
  (o:(x == ("__debug__":Str))=false:=by rfl):DE X (.Call (.Name x p) (e::es) [] pos) (dFn g ds):=by
 obtain⟨ta,pa,h⟩:=h;refine⟨_,Bd.zq6 D G hr pa hg o,fun C y σ H n Q R S hd L=>?_⟩;refine h C y σ H n _ _ S hd fun ts n1 vs H1 I u h1 J l1=>?_;have S1:=S.on u h1;rw[cg];exact⟨C.hd,Own C y σ,ts,n1,R,J,h1,fun a=>S1.lst,fun a z=>.inl (S.hx a z),l1.trans hm,I,fun t n' v H' rt U Y Z=>L t n' v H' rt (u.trans U) Y Z⟩
def dFnL(g:GD)(ds:DTA):DTE:=fun o n R=>ds o n fun ts u=>g ts u fun t l=>JP t=true/\R t l
theorem zvb{st:fc}{ps:List Str}{f:aj}{fd:dM}{g:GD}{m:Nat}(D:Bd.Def X.K X.mg x st ps f fd)(G:FnOk X.prog X.w X.K X.mg X.base CX0 k f fd ps (spD X.K m g))(hr:Room k X.A)(h:DBL X (e::es) ds)(hm:(e::es).length=m:=by rfl)(hg:Gl X x:=by rfl)
  (y:(x == ("__debug__":Str))=false:=by rfl):DE X (.Call (.Name x p) (e::es) [] pos) (dFnL g ds):=by
 obtain⟨ta,pa,h⟩:=h;refine⟨_,Bd.zq6 D G hr pa hg y,fun C Z σ H n Q R S hd hq=>?_⟩;refine h C Z σ H n _ _ S hd fun ts n1 vs H1 r1 L h1 q1 l1=>?_;have S1:=S.on L h1;rw[cg];have lend:∀{vs ts},Zb X.K C.hd (Own C Z σ) H1 vs ts->Reps X.K C.hd (fun a=>C.hd=some a) H1 vs ts:=by
  intro vs ts q;induction q with
  | nil=>exact .nil
  | cons r _ ih =>refine .cons ?_ ih;rcases r with r|⟨a,ws,us,rfl,rfl,J,I,u⟩|⟨a,zs,ep,ks,rfl,rfl,J,I,u⟩;exact r.mono (fun a o _ z=>.inl (S.hx a z)) fun _ _ _ z=>z;exact .lst J u (I.mono (fun a o _ z=>.inl (S.hx a z)) fun _ _ _ z=>z);exact .dcT J u (I.mono (fun a o _ z=>.inl (S.hx a z)) fun _ _ _ z=>z) rfl
 refine⟨C.hd,fun a=>C.hd=some a,ts,n1,_,lend q1,h1,fun a z=>?_,fun a z=>z,l1.trans hm,r1,fun t n' v H' rt U Y q2=>?_⟩;obtain⟨vs,q⟩:=h1.lst z;exact .inl ⟨_,q⟩;exact hq t n' v H' rt.2 (L.trans U) Y (q2.up (fun a z=>(S1.on U Y).lst z) rt.1)
end
section
variable{X:Cx}{pins:qO}{σ:St}{H H':Hp}{s s':aq}{C e:aj}
def Fly1(P:aL)(w:aZ)(l:List Env)(H H':Hp)(h:a9)(C e:aj)(h':a9):Prop :=
 ∃B a0,Heap.FlyingW B l e (.ref C) a0 h'/\H' e=none/\h.get? e=none/\∀o,B.StaysIn o->h'.UpToSlots o->Un (frs l) [] H H' h o/\HOk P w H' o
inductive FlyX (X:Cx)(C:aj)(H':Hp)(e:aj)(s':aq):Prop
 | made {Mf:qO} {σ':St} {s h1} (I:Inv X Mf σ' H' s) (m:Heap.MadeExcOf s.heap h1 e (.ref C) []) (hs:s'={ s with heap:=h1 })
 | on {Mf:qO} {σ':St} {H1:Hp} {s} (I:Inv X Mf σ' H1 s) (os:s'.os=s.os) (bare:ly s'.gens) (f:Fly1 X.prog X.w X.stack H1 H' s.heap C e s'.heap)
def XW(X:Cx)(C:aj)(H':Hp):Prop:=∀e s',FlyX X C H' e s'->X.xe (.ref e) s'
end
def Keep(C:Ctx)(u:En)(σ:St)(H:Hp)(l:En)(σ':St)(H':Hp):Prop:=∀a o,H a=some o->C.hd≠some a->¬OwnS u σ a->H' a=some o/\¬OwnS l σ' a
structure JF where
 nx:En->Nat->Prop
 rt:af->Nat->Prop
 bk:En->Nat->Prop:=fun _ _=>False
 ct:En->Nat->Prop:=fun _ _=>False
 xr:Str->Nat->Prop:=fun _ _=>False
abbrev DTS:=JF->En->Nat->Prop
def XN(X:Cx)(c:Str)(H':Hp):Prop:=∀C,X.mg c=some (.ref C)->XW X C H'
structure Good(X:Cx)(C:Ctx)(ρ:En)(σ:St)(H:Hp)(D:Ends)(D':JF):Prop where
 nx:∀ρ' σ' H' n',D'.nx ρ' n'->Stt X.K C ρ' σ' H' n'->Keep C ρ σ H ρ' σ' H'->D.nx σ' H'
 rt:∀t n' v H',D'.rt t n'->Hn X.K C.hd H' n'->(∀a o,H a=some o->C.hd≠some a->¬OwnS ρ σ a->H' a=some o)->Rep X.K C.hd C.ext H' v t->D.rt v H'
 bk:∀ρ' σ' H' n',D'.bk ρ' n'->Stt X.K C ρ' σ' H' n'->Keep C ρ σ H ρ' σ' H'->D.bk σ' H'
 ct:∀ρ' σ' H' n',D'.ct ρ' n'->Stt X.K C ρ' σ' H' n'->Keep C ρ σ H ρ' σ' H'->D.ct σ' H'
 xr:∀c n' H',D'.xr c n'->Hn X.K C.hd H' n'->(∀a o,H a=some o->C.hd≠some a->¬OwnS ρ σ a->H' a=some o)->XN X c H'
def DS(X:Cx)(st:fc)(d:DTS):Prop:=∃ts,PS X st ts/\∀(C:Ctx) (l:En) (σ:St) (H:Hp) (n:Nat) (D:Ends) (o:JF),Stt X.K C l σ H n->d o l n->Good X C l σ H D o->ts D σ H
def DSs(X:Cx)(st:List fc)(d:DTS):Prop:=∃ts,PSs X st ts/\∀(C:Ctx) (l:En) (σ:St) (H:Hp) (n:Nat) (D:Ends) (o:JF),Stt X.K C l σ H n->d o l n->Good X C l σ H D o->ts D σ H
section
variable{K:qF}{C:Ctx}{ρ ρ1 ρ2:En}{σ σ1 σ2:St}{H H1 H2:Hp}{n n1:Nat}{D:Ends}{D':JF}
theorem Keep.refl:Keep C ρ σ H ρ σ H:=fun _ _ h _ no=>⟨h,no⟩
theorem Keep.trans(v:Keep C ρ σ H ρ1 σ1 H1)(x:Keep C ρ1 σ1 H1 ρ2 σ2 H2):Keep C ρ σ H ρ2 σ2 H2:=fun a o h u no=>by obtain⟨h1,l⟩:=v a o h u no;exact x a o h1 u l
theorem ExtE.keep(e:ExtE C.hd H H1):Keep C ρ σ H ρ σ H1:=fun a o h l no=>⟨e a o h l,no⟩
theorem Good.on{X:Cx}(g:Good X C ρ σ H D D')(k:Keep C ρ σ H ρ1 σ1 H1):Good X C ρ1 σ1 H1 D D' where
 nx:=fun l σ' H' x h S u=>g.nx l σ' H' x h S (k.trans u)
 rt:=fun t x v H' h I u r=>g.rt t x v H' h I (fun a o J G no=>by obtain⟨h1,y⟩:=k a o J G no;exact u a o h1 G y) r
 bk:=fun l σ' H' x h S u=>g.bk l σ' H' x h S (k.trans u)
 ct:=fun l σ' H' x h S u=>g.ct l σ' H' x h S (k.trans u)
 xr:=fun c x H' h I u=>g.xr c x H' h I fun a o J G no=>by obtain⟨h1,y⟩:=k a o J G no;exact u a o h1 G y
theorem Keep.rep(k:Keep C ρ σ H ρ1 σ1 H1)(hx:∀a,C.hd=some a->C.ext a){v t}(r:Rep K C.hd (Own C ρ σ) H v t):Rep K C.hd (Own C ρ1 σ1) H1 v t :=
 Rep.mono (O:=Own C ρ σ) (fun a o h z=>by by_cases q:Own C ρ σ a;exact q;rcases z with z|z;exact .inl z;exact absurd z (k a o h (fun y=>q (.inl (hx a y))) fun y=>q (.inr y)).2) (fun a o no h=>(k a o h (fun y=>no (.inl (hx a y))) fun y=>no (.inr y)).1) r
theorem Keep.reps(k:Keep C ρ σ H ρ1 σ1 H1)(hx:∀a,C.hd=some a->C.ext a){v t}(r:Reps K C.hd (Own C ρ σ) H v t):Reps K C.hd (Own C ρ1 σ1) H1 v t :=
 Reps.mono (O:=Own C ρ σ) (fun a o h z=>by by_cases q:Own C ρ σ a;exact q;rcases z with z|z;exact .inl z;exact absurd z (k a o h (fun y=>q (.inl (hx a y))) fun y=>q (.inr y)).2) (fun a o no h=>(k a o h (fun y=>no (.inl (hx a y))) fun y=>no (.inr y)).1) r
theorem Jw{α:Type}{l:List (Option α)}{i j:Nat}{v w:α}(h:(l.set i (some v))[j]?=some (some w)):(i=j/\v=w)\/(i≠j/\l[j]?=some (some w)):=by by_cases e:i=j;subst e;rw[mG]at h;simp only[↓reduceIte]at h;split at h;simp at h;exact .inl ⟨rfl,h⟩;cases h;rw[dJ e]at h;exact .inr ⟨e,h⟩
theorem YB{α:Type}{l:List (Option α)}{i j:Nat}{v w:α}(e:i≠j)(h:l[j]?=some (some w)):(l.set i (some v))[j]?=some (some w):=by rw[dJ e];exact h
theorem zpU{α:Type}{l:List (Option α)}{i j:Nat}{v:α}{w:Option α}(h:(l.set i (some v))[j]?=some w)(e:i=j):i<l.length:=by subst e;rw[mG]at h;simp only[↓reduceIte]at h;split at h;assumption;cases h
theorem zl1{α:Type}{l:List (Option α)}{i:Nat}{v:α}(h:i<l.length):(l.set i (some v))[i]?=some (some v):=by rw[mG];simp[h]
theorem VQ{i:Nat}{t:af}{v:V}{a:aj}(h:OwnS (ρ.set i (some (.val t))) (σ.set i (some v)) a):OwnS ρ σ a:=by obtain⟨j,c,m,h1,o⟩:=h;rcases Jw h1 with⟨_,z⟩|⟨e,h1⟩;subst z;cases m;rcases Jw o with⟨z,_⟩|⟨_,o⟩;exact absurd z e;exact⟨j,c,m,h1,o⟩
def QG(K:qF)(hd:Option aj)(O:aj->Prop)(H:Hp)(a:aj):Cell->Prop
 | .val _=>False
 | .rdo _=>False
 | .own ts=>∃vs,H a=some (.lst vs)/\Reps K hd O H vs ts
 | .dct ks=>∃u,H a=some (.dK u)/\UG K hd O H u ks
 | .dtt ks=>∃zs ep,H a=some (ZDO a zs ep)/\Jl K hd O H zs ks
theorem QG.mono(x:QG K hd O H a c)(v:∀a o,H a=some o->O' a->O a)(u:∀a o,¬O a->H a=some o->H' a=some o)(y:∀o,H a=some o->H' a=some o):QG K hd O' H' a c:=by
 cases c with
 | val _=>exact x.elim
 | rdo _=>exact x.elim
 | own ts=>obtain⟨vs,h1,l⟩:=x;exact⟨vs,y _ h1,l.mono v u⟩
 | dct ks=>obtain⟨vs,h1,l⟩:=x;exact⟨vs,y _ h1,l.mono v u⟩
 | dtt ks=>obtain⟨vs,ep,h1,l⟩:=x;exact⟨vs,ep,y _ h1,l.mono v u⟩
theorem QG.some(x:QG K hd O H a c):∃o,H a=some o:=by
 cases c with
 | val _=>exact x.elim
 | rdo _=>exact x.elim
 | own ts=>obtain⟨vs,h1,l⟩:=x;exact⟨_,h1⟩
 | dct ks=>obtain⟨vs,h1,l⟩:=x;exact⟨_,h1⟩
 | dtt ks=>obtain⟨vs,ep,h1,l⟩:=x;exact⟨_,h1⟩
theorem QG.mine(x:QG K hd O H a c):c.mine=true:=by
 cases c with
 | val _=>exact x.elim
 | rdo _=>exact x.elim
 | own ts=>rfl
 | dct ks=>rfl
 | dtt ks=>rfl
theorem Stt.cell(S:Stt K C ρ σ H n){i:Nat}{c:Cell}(m:c.mine=true)(h:ρ[i]?=some (some c)):∃a:aj,σ[i]?=some (some (V.ref a))/\QG K C.hd (Own C ρ σ) H a c/\¬C.ext a:=by
 cases c with
 | val _=>cases m
 | rdo _=>cases m
 | own ts=>obtain⟨a,vs,h1,u,o,l⟩:=S.own i ts h;exact⟨a,h1,⟨vs,u,o⟩,l⟩
 | dct ks=>obtain⟨a,vs,h1,u,o,l⟩:=S.dct i ks h;exact⟨a,h1,⟨vs,u,o⟩,l⟩
 | dtt ks=>obtain⟨a,vs,ep,h1,u,o,l⟩:=S.dtt i ks h;exact⟨a,h1,⟨vs,ep,u,o⟩,l⟩
def zsq(K:qF)(C:Ctx)(ρ:En)(σ:St)(H:Hp):Prop:=∀(i:Nat) (ks:List (Key×af)),ρ[i]?=some (some (Cell.rdo ks))->∃a l,σ[i]?=some (some (V.ref a))/\H a=some (.dK l)/\UG K C.hd (Own C ρ σ) H l ks/\C.ext a/\C.hd≠some a
theorem Stt.mk'(len:ρ.length=σ.length)(val:∀(i:Nat) (d:af),ρ[i]?=some (some (Cell.val d))->∃v,σ[i]?=some (some v)/\Rep K C.hd (Own C ρ σ) H v d)
  (cell:∀(i:Nat) (c:Cell),c.mine=true->ρ[i]?=some (some c)->∃a:aj,σ[i]?=some (some (V.ref a))/\QG K C.hd (Own C ρ σ) H a c/\¬C.ext a)
  (rdo:zsq K C ρ σ H) (dif:∀(i j:Nat) (c e:Cell) (a:aj),c.mine=true->e.mine=true->ρ[i]?=some (some c)->ρ[j]?=some (some e)->σ[i]?=some (some (V.ref a))->σ[j]?=some (some (V.ref a))->i=j)
  (hnd:Hn K C.hd H n) (ext:∀a,C.ext a->MutO (H a)) (hx:∀a,C.hd=some a->C.ext a):Stt K C ρ σ H n where
 len:=len
 val:=val
 own:=fun i ts h=>by obtain⟨a,h1,⟨vs,l,u⟩,o⟩:=cell i _ rfl h;exact⟨a,vs,h1,l,u,o⟩
 dct:=fun i ts h=>by obtain⟨a,h1,⟨vs,l,u⟩,o⟩:=cell i _ rfl h;exact⟨a,vs,h1,l,u,o⟩
 rdo:=rdo
 dtt:=fun i ts h=>by obtain⟨a,h1,⟨vs,ep,l,u⟩,o⟩:=cell i _ rfl h;exact⟨a,vs,ep,h1,l,u,o⟩
 dif:=dif
 hnd:=hnd
 ext:=ext
 hx:=hx
theorem Stt.put(S:Stt K C ρ σ H n){i:Nat}{t:af}{v:V}(r:Rep K C.hd (Own C ρ σ) H v t):Stt K C (ρ.set i (some (.val t))) (σ.set i (some v)) H n:=by
 have sub:∀a o,H a=some o->Own C (ρ.set i (some (.val t))) (σ.set i (some v)) a->Own C ρ σ a:=fun a o _ z=>z.elim .inl fun z=>.inr (VQ z);have mono:∀{w u},Rep K C.hd (Own C ρ σ) H w u->Rep K C.hd (Own C (ρ.set i (some (.val t))) (σ.set i (some v))) H w u:=fun q=>q.mono sub fun _ _ _ z=>z;refine .mk' (by simp[S.len]) (fun j d h=>?_) (fun j c m h=>?_) (fun j ks h=>?_) (fun j k c e a Y U h1 x N h4=>?_) S.hnd S.ext S.hx
 rotate_left 2
 rcases Jw h with⟨_,z⟩|⟨e,h'⟩;cases z;obtain⟨a,y,Z,q2,q3,q4⟩:=S.rdo j ks h';exact⟨a,y,YB e Z,q2,q3.mono sub fun _ _ _ z=>z,q4⟩
 rotate_left 1
 rcases Jw h with⟨e,z⟩|⟨e,h'⟩;cases z;have:=zpU h e;subst e;exact⟨v,zl1 (by rw[<- S.len];exact this),mono r⟩;obtain⟨w,h1,x⟩:=S.val j d h';exact⟨w,YB e h1,mono x⟩;rcases Jw h with⟨e,z⟩|⟨e,h'⟩;subst z;cases m;obtain⟨a,h1,x,N⟩:=S.cell m h';exact⟨a,YB e h1,x.mono sub (fun _ _ _ z=>z) fun _ z=>z,N⟩;rcases Jw h1 with⟨e,z⟩|⟨e,L⟩;subst z;cases Y;rcases Jw x with⟨R,z⟩|⟨R,J⟩;subst z;cases U;rcases Jw N with⟨z,_⟩|⟨_,G⟩;exact absurd z e;rcases Jw h4 with⟨z,_⟩|⟨_,I⟩;exact absurd z R;exact S.dif j k c _ a Y U L J G I
theorem U1:Keep C ρ σ H (ρ.set i (some (.val t))) (σ.set i (some v)) H:=fun a o h _ no=>⟨h,fun z=>no (VQ z)⟩
theorem zj0{i:Nat}{c:Cell}{p a:aj}(h:OwnS (ρ.set i (some c)) (σ.set i (some (.ref p))) a):OwnS ρ σ a\/a=p:=by obtain⟨j,ds,m,h1,o⟩:=h;rcases Jw o with⟨e,z⟩|⟨e,o⟩;cases z;exact .inr rfl;rcases Jw h1 with⟨z,_⟩|⟨_,h1⟩;exact absurd z e;exact .inl ⟨j,ds,m,h1,o⟩
theorem Stt.putNew(S:Stt K C ρ σ H n){i:Nat}{c:Cell}{p:aj}{H':Hp}(e:ExtE C.hd H H')(h:Hn K C.hd H' n1)(Z:H p=none)(r:QG K C.hd (fun a=>Own C ρ σ a\/a=p) H' p c) :
  Stt K C (ρ.set i (some c)) (σ.set i (some (.ref p))) H' n1:=by
 have S':=S.on e h;have mc:=r.mine;have sub:∀a,Own C (ρ.set i (some c)) (σ.set i (some (.ref p))) a->Own C ρ σ a\/a=p:=fun a z=>z.elim (fun z=>.inl (.inl z)) fun z=>(zj0 z).elim (fun z=>.inl (.inr z)) .inr;have npx:¬C.ext p:=fun z=>S.dom (.inl z) Z;have sb:∀a o,H a=some o->Own C (ρ.set i (some c)) (σ.set i (some (.ref p))) a->Own C ρ σ a:=fun a o G z=>(sub a z).elim id fun z=>by subst z;rw[Z]at G;cases G
 have kp:∀a o,¬Own C ρ σ a->H a=some o->H' a=some o:=fun a o no G=>e a o G fun z=>no (.inl (S.hx a z));have MH:∀(j:Nat) (d:Cell),d.mine=true->ρ[j]?=some (some d)->σ[j]?≠some (some (V.ref p)):=fun j d m h1 u=>by obtain⟨a,e1,U,_⟩:=S.cell m h1;rw[u]at e1;cases e1;obtain⟨o,U⟩:=U.some;rw[Z]at U;cases U
 refine .mk' (by simp[S.len]) (fun j d I=>?_) (fun j d m I=>?_) (fun j ks I=>?_) (fun j k c1 c2 a m1 m2 h1 u h3 N=>?_) h S'.ext S.hx
 rotate_left 2
 rcases Jw I with⟨_,z⟩|⟨v,h'⟩;subst z;cases mc;obtain⟨a,Y,q1,q2,q3,q4,q5⟩:=S.rdo j ks h';exact⟨a,Y,YB v q1,e a _ q2 q5,q3.mono sb kp,q4,q5⟩
 rotate_left 1
 rcases Jw I with⟨_,z⟩|⟨v,h'⟩;subst z;cases mc;obtain⟨w,h1,u⟩:=S.val j d h';exact⟨w,YB v h1,u.mono sb kp⟩;rcases Jw I with⟨v,z⟩|⟨v,h'⟩;subst z;have:=zpU I v;subst v;exact⟨p,zl1 (by rw[<- S.len];exact this),r.mono (fun a o _ z=>sub a z) (fun _ _ _ z=>z) fun _ z=>z,npx⟩;obtain⟨a,h1,u,N⟩:=S.cell m h';exact⟨a,YB v h1,u.mono sb kp (fun o G=>e a o G fun z=>N (S.hx a z)),N⟩;rcases Jw h3 with⟨e3,z3⟩|⟨e3,L⟩;cases z3;rcases Jw N with⟨J,_⟩|⟨J,x⟩;rw[<- e3,<- J];rcases Jw u with⟨z,_⟩|⟨_,y⟩;exact absurd z J;exact absurd x (MH k _ m2 y);rcases Jw h1 with⟨z,_⟩|⟨_,R⟩;exact absurd z e3;rcases Jw N with⟨J,z4⟩|⟨J,x⟩;cases z4;exact absurd L (MH j _ m1 R);rcases Jw u with⟨z,_⟩|⟨_,y⟩;exact absurd z J;exact S.dif j k _ _ a m1 m2 R y L x
theorem Stt.putOwn(S:Stt K C ρ σ H n)(e:ExtE C.hd H H')(h:Hn K C.hd H' n1)(v:H p=none)(u:H' p=some (.lst vs))(r:Reps K C.hd (fun a=>Own C ρ σ a\/a=p) H' vs ts) :
  Stt K C (ρ.set i (some (.own ts))) (σ.set i (some (.ref p))) H' n1:=S.putNew e h v ⟨vs,u,r⟩
theorem zdc(e:ExtE C.hd H H')(v:H p=none):Keep C ρ σ H (ρ.set i (some c)) (σ.set i (some (.ref p))) H':=fun a o h u no =>
 ⟨e a o h u,fun z=>(zj0 z).elim no fun z=>by subst z;rw[v]at h;cases h⟩
theorem zjd(e:ExtE C.hd H H')(l:H p=none):Keep C ρ σ H (ρ.set i (some (.own ts))) (σ.set i (some (.ref p))) H':=zdc e l
theorem Stt.chgC(S:Stt K C ρ σ H n){i:Nat}{c c':Cell}{p:aj}{J:HO}(m:c.mine=true)(m':c'.mine=true)(h1:ρ[i]?=some (some c))(I:σ[i]?=some (some (.ref p)))
  (r:∀(O':aj->Prop) (H':Hp),(∀a o,H a=some o->O' a->Own C ρ σ a)->(∀a o,¬Own C ρ σ a->H a=some o->H' a=some o)->H' p=some J->QG K C.hd O' H' p c') :
  Stt K C (ρ.set i (some c')) σ (upd H p J) n/\Keep C ρ σ H (ρ.set i (some c')) σ (upd H p J):=by
 have op:OwnS ρ σ p:=⟨i,c,m,h1,I⟩;obtain⟨p',e1,hp,x⟩:=S.cell m h1;rw[I]at e1;cases e1;have Ms:∀a,OwnS (ρ.set i (some c')) σ a->OwnS ρ σ a:=fun a ⟨j,d,y,u,v⟩=>by rcases Jw u with⟨e,_⟩|⟨e,u⟩;subst e;rw[I]at v;cases v;exact op;exact⟨j,d,y,u,v⟩
 have sub:∀a o,H a=some o->Own C (ρ.set i (some c')) σ a->Own C ρ σ a:=fun a o _ z=>z.elim .inl fun z=>.inr (Ms a z);have kp:∀a o,¬Own C ρ σ a->H a=some o->upd H p J a=some o:=fun a o no Y=>by rw[Jh (show a≠p from fun z=>no (by rw[z];exact .inr op))];exact Y
 have rd:zsq K C (ρ.set i (some c')) σ (upd H p J):=fun j ks N=>by rcases Jw N with⟨_,z⟩|⟨L,h'⟩;subst z;cases m';obtain⟨a,Z,u,v,q3,G,q5⟩:=S.rdo j ks h';exact⟨a,Z,u,by rw[Jh (show a≠p from fun z=>x (by rw[<- z];exact G))];exact v,q3.mono sub kp,G,q5⟩
 refine⟨.mk' (by simp[S.len]) (fun j d N=>?_) (fun j d y N=>?_) rd (fun j k c1 c2 a m1 m2 u v q3 G=>?_) (fun a R=>?_) (fun a R=>?_) S.hx,fun a o h nh no=>⟨by rw[Jh (show a≠p from fun z=>no (by rw[z];exact op))];exact h,fun z=>no (Ms a z)⟩⟩;rcases Jw N with⟨_,z⟩|⟨L,h'⟩;subst z;cases m';obtain⟨w,u,v⟩:=S.val j d h';exact⟨w,u,v.mono sub kp⟩;rcases Jw N with⟨L,z⟩|⟨L,h'⟩;subst z;subst L;exact⟨p,I,r _ _ sub kp JE,x⟩;obtain⟨a,u,v,G⟩:=S.cell y h';have:a≠p:=fun z=>by subst z;exact L (S.dif i j c d a m y h1 h' I u)
 exact⟨a,u,v.mono sub kp (fun o Y=>by rw[Jh this];exact Y),G⟩;have get:∀(j:Nat) (d:Cell),d.mine=true->(ρ.set i (some c'))[j]?=some (some d)->∃d':Cell,d'.mine=true/\ρ[j]?=some (some d'):=fun j d y q=>by rcases Jw q with⟨e,_⟩|⟨_,q⟩;subst e;exact⟨_,m,h1⟩;exact⟨_,y,q⟩
 obtain⟨d1,md1,g1⟩:=get j c1 m1 u;obtain⟨d2,U,g2⟩:=get k c2 m2 v;exact S.dif j k d1 d2 a md1 U g1 g2 q3 G;have ne:a≠p:=fun z=>x (by rw[<- z];exact S.hx a R);rcases S.hnd a R with⟨⟨d,m,t,q,rest⟩,l⟩|⟨l,q⟩;exact .inl ⟨⟨d,m,t,by rw[Jh ne];exact q,rest⟩,l⟩;exact .inr ⟨l,q.upd ne (S.lst (.inr op))⟩;by_cases z:a=p;subst z;exact absurd R x;rw[Jh z];exact S.ext a R
theorem Stt.chg(S:Stt K C ρ σ H n)(h1:ρ[i]?=some (some (.own ts)))(v:σ[i]?=some (some (.ref p)))(r:Reps K C.hd (Own C ρ σ) H ws us) :
  Stt K C (ρ.set i (some (.own us))) σ (upd H p (.lst ws)) n/\Keep C ρ σ H (ρ.set i (some (.own us))) σ (upd H p (.lst ws)):=S.chgC rfl rfl h1 v fun _ _ a b u=>⟨ws,u,r.mono a b⟩
theorem Stt.freeze(S:Stt K C ρ σ H n){i:Nat}{ts:qD}(h1:ρ[i]?=some (some (.own ts))):Stt K C (ρ.set i (some (.val (.list ts)))) σ H n/\Keep C ρ σ H (ρ.set i (some (.val (.list ts)))) σ H:=by
 obtain⟨p,vs,U,hp,hr,R⟩:=S.own i ts h1;have L:∀a,OwnS (ρ.set i (some (.val (.list ts)))) σ a->OwnS ρ σ a/\a≠p:=fun a ⟨j,ds,m,u,x⟩=>by rcases Jw u with⟨_,z⟩|⟨e,u⟩;subst z;cases m;exact⟨⟨j,ds,m,u,x⟩,fun z=>by subst z;exact e (S.dif i j (.own ts) ds a rfl m h1 u U x)⟩
 have sub:∀a o,H a=some o->Own C (ρ.set i (some (.val (.list ts)))) σ a->Own C ρ σ a:=fun a o _ z=>z.elim .inl fun z=>.inr (L a z).1;have rd:zsq K C (ρ.set i (some (.val (.list ts)))) σ H:=fun j ks y=>by rcases Jw y with⟨_,z⟩|⟨J,h'⟩;cases z;obtain⟨a,N,u,x,G,I⟩:=S.rdo j ks h';exact⟨a,N,u,x,G.mono sub fun _ _ _ z=>z,I⟩
 refine⟨.mk' (by simp[S.len]) (fun j d y=>?_) (fun j d m y=>?_) rd (fun j k c1 c2 a Z Y u x G I=>?_) S.hnd S.ext S.hx,fun a o h _ no=>⟨h,fun z=>no (L a z).1⟩⟩;rcases Jw y with⟨J,z⟩|⟨J,h'⟩;cases z;subst J;exact⟨.ref p,U,.lst hp (fun z=>z.elim R fun z=>(L p z).2 rfl) (hr.mono sub fun _ _ _ z=>z)⟩;obtain⟨w,u,x⟩:=S.val j d h';exact⟨w,u,x.mono sub fun _ _ _ z=>z⟩;rcases Jw y with⟨_,z⟩|⟨J,h'⟩;subst z;cases m;obtain⟨a,u,G,I⟩:=S.cell m h';exact⟨a,u,G.mono sub (fun _ _ _ z=>z) fun _ z=>z,I⟩;rcases Jw u with⟨_,z⟩|⟨_,g1⟩;subst z;cases Z;rcases Jw x with⟨_,z⟩|⟨_,g2⟩;subst z;cases Y;exact S.dif j k _ _ a Z Y g1 g2 G I
end
section
variable{X:Cx}{a b c e:aY}{es rest:List aY}{d da db dc:DTE}{ds:DTA}{dt:DTT}{t u:DTS}{st:fc}{sts sa sb:List fc}{pos p:Pos}{k:Nat}{x:Str}
def zqB:DTS:=fun D l n=>D.nx l n
def sSeq(t u:DTS):DTS:=fun D l n=>t { D with nx:=u D } l n
theorem Ju:DSs X [] zqB:=⟨_,ziS,fun C l σ H n D o S h g=>g.nx l σ H n h S Keep.refl⟩
theorem Jb(h1:DS X st t)(l:DSs X sts u):DSs X (st::sts) (sSeq t u):=by obtain⟨R,pa,h1⟩:=h1;obtain⟨N,J,l⟩:=l;refine⟨_,QB pa J,fun C y σ H n D L S h g=>?_⟩;exact h1 C y σ H n _ _ S h ⟨fun o σ' H' I v G k=>l C o σ' H' I D L G v (g.on k),g.rt,g.bk,g.ct,g.xr⟩
theorem Jc(h1:DS X st t):DSs X [st] t:=by obtain⟨l,pa,h1⟩:=h1;exact⟨_,ZL pa,h1⟩
def ZP(i:Nat)(t:DTS):DTS:=fun D y n=>match y[i]? with|some (some (.own ts))=>t D (y.set i (some (.val (.list ts)))) n|_=>False
theorem Uc(i:Nat)(h1:DSs X sts t):DSs X sts (ZP i t):=by obtain⟨G,pa,h1⟩:=h1;refine⟨_,pa,fun C y σ H n D o S h g=>?_⟩;unfold ZP at h;split at h;rename_i ts l;obtain⟨v,kp⟩:=S.freeze l;exact h1 C _ σ H n D o v h (g.on kp);exact h.elim
def sRet(d:DTE):DTS:=fun D l n=>d l n fun t o=>D.rt t o
theorem Je(h:DE X e d):DS X (.Return (some e) pos) (sRet d):=by obtain⟨U,pa,h⟩:=h;refine⟨_,ZE pa,fun C I σ H n D N S hd g=>?_⟩;refine h C I σ H n _ _ S hd fun t L v H' r G h1 q=>?_;exact g.rt t L v H' r h1 (fun a o J y _=>G a o J y) (q.mono (fun _ _ _ z=>.inl z) fun _ _ _ z=>z)
def sIf(c:DTT)(t u:DTS):DTS:=fun D l n=>c l n fun b o=>if b=true then t D l o else u D l o
theorem Js(hc:DT X c dt)(h1:DSs X sa t)(o:DSs X sb u):DS X (.If c sa sb pos) (sIf dt t u):=by
 obtain⟨R,pc,hc⟩:=hc;obtain⟨Y,pa,h1⟩:=h1;obtain⟨U,N,o⟩:=o;refine⟨_,zqV pc pa N,fun C v σ H n D L S hd g=>?_⟩;refine hc C v σ H n _ _ S hd fun b J G r l y=>?_;cases b with
 | true=>exact iteT (h1 C v σ G J D L (S.on l y) (by simpa using r) (g.on l.keep))
 | false=>exact iteF (o C v σ G J D L (S.on l y) (by simpa using r) (g.on l.keep))
def sSet(i:Nat)(d:DTE):DTS:=fun D o n=>d o n fun t y=>D.nx (o.set i (some (.val t))) y
theorem zu7(I:X.N.Nodup)(hi:X.N[i]?=some x)(hx:Loc X.env.scope x)(h:DE X e d)(G:swapsWith e (some (.Name x pos')) pos.line X.env=pure false:=by rfl)(hf:X.fn x=true\/X.env.scope.names.lookup x=some .local:=by walk_at "F") :
  DS X (.Assign [.Name x pos'] e pos) (sSet i d):=by
 obtain⟨U,pa,h⟩:=h;refine⟨_,Qx I hi hx pa G hf,fun C J σ H n D R S hd g=>?_⟩;refine h C J σ H n _ _ S hd fun t L v H' r y h1 q=>?_;exact g.nx _ _ H' L r ((S.on y h1).put q) (y.keep.trans U1)
def sOwn(i:Nat)(d:DTA):DTS:=fun D l n=>d l n fun ts v=>D.nx (l.set i (some (.own ts))) v
theorem Q4(J:X.N.Nodup)(hi:X.N[i]?=some x)(hx:Loc X.env.scope x)(h:DN X e ds)(I:swapsWith e (some (.Name x pos')) pos.line X.env=pure false:=by rfl)(hf:X.fn x=true\/X.env.scope.names.lookup x=some .local:=by walk_at "F") :
  DS X (.Assign [.Name x pos'] e pos) (sOwn i ds):=by
 obtain⟨Y,pa,h⟩:=h;refine⟨_,Qx J hi hx pa I hf,fun C L σ H n D U S hd g=>?_⟩;refine h C L σ H n _ _ S hd fun ts R p vs H' r y h1 G v q=>?_;exact g.nx _ _ H' R r (S.putOwn y h1 G v q) (zjd y G)
def sAug(i:Nat)(f:Int->Int->Int)(d:DTE):DTS:=fun D o n=>match o[i]? with
 | some (some (.val (.int j)))=>d o n fun t y=>match t with|.int k=>D.nx (o.set i (some (.val (.int (f j k))))) y|_=>False
 | _=>False
theorem zu9(L:X.N.Nodup)(hi:X.N[i]?=some x)(hx:Loc X.env.scope x)(h:DE X e d)(G:PIp X op (ipI f))(hf:X.fn x=true\/X.env.scope.names.lookup x=some .local:=by walk_at "F") :
  DS X (.AugAssign (.Name x pos') op e pos) (sAug i f d):=by
 obtain⟨ta,pa,h⟩:=h;refine⟨_,ztm L hi hx pa G hf,fun C R σ H n D Z S hd g=>?_⟩;unfold sAug at hd;split at hd;rename_i j U;obtain⟨v,h1,J⟩:=S.val i _ U;refine⟨v,h1,h C R σ H n _ _ S hd fun t Y w H' r y I q=>?_⟩;cases t with
 | int k=>exact⟨j,k,J.intI,q.intI,g.nx _ _ H' Y r ((S.on y I).put (.int _)) (y.keep.trans U1)⟩
 | _=>exact r.elim
 exact hd.elim
abbrev DTG:=af->En->(En->Prop)->Prop
abbrev DTGs:=List af->En->(En->Prop)->Prop
def DG(X:Cx)(tg:aY)(is:List Nat)(d:DTG):Prop:=(∀t o R,d t o R->∃l,R l)/\∃g,PG X tg g/\∀(C:Ctx) (o:En) (σ:St) (H:Hp) (n:Nat) (v:V) (t:af) (Q:St->Hp->Prop) (R:En->Prop),Stt X.K C o σ H n->Rep X.K C.hd (Own C o σ) H v t->d t o R ->
 (∀l σ',R l->Stt X.K C l σ' H n->Keep C o σ H l σ' H->(∀j,j∉is->σ'[j]?=σ[j]?)->σ'.length=σ.length->Q σ' H)->g v σ H Q
def DGs(X:Cx)(v:List aY)(is:List Nat)(d:DTGs):Prop:=(∀ts o R,d ts o R->ts.length=v.length)/\(∀t o R,d t o R->∃l,R l)/\∃g,PGs X v g/\∀(C:Ctx) (o:En) (σ:St) (H:Hp) (n:Nat) (vs:List V) (ts:qD) (Q:St->Hp->Prop) (R:En->Prop),Stt X.K C o σ H n->Reps X.K C.hd (Own C o σ) H vs ts->d ts o R ->
 (∀l σ',R l->Stt X.K C l σ' H n->Keep C o σ H l σ' H->(∀j,j∉is->σ'[j]?=σ[j]?)->σ'.length=σ.length->Q σ' H)->g vs σ H Q
def JX(i:Nat):DTG:=fun t o R=>R (o.set i (some (.val t)))
def Uh:DTGs:=fun ts l R=>match ts with|[]=>R l|_=>False
def Qy(d:DTG)(ds:DTGs):DTGs:=fun ts o R=>match ts with|t::ts=>d t o fun l=>ds ts l R|[]=>False
def Ui(ds:DTGs):DTG:=fun t o R=>match t with|.tuple ts=>ds ts o R|_=>False
theorem zr7(G:X.N.Nodup)(hi:X.N[i]?=some x)(hx:Loc X.env.scope x)(hf:X.fn x=true\/X.env.scope.names.lookup x=some .local:=by walk_at "F"):DG X (.Name x pos) [i] (JX i):=by refine⟨fun t I R h=>⟨_,h⟩,_,zq3 G hi hx hf,fun C I σ H n v t Q R S r hd y=>?_⟩;exact y _ _ hd (S.put r) U1 (fun j J=>by rw[dJ (fun z=>J (by simp[z]))]) (by simp)
theorem JQ:DGs X [] [] Uh:=by
 refine⟨fun ts l R h=>?_,fun ts l R h=>?_,_,zq2,fun C l σ H n vs ts Q R S r hd o=>?_⟩;cases ts with
 | nil=>rfl
 | cons _ _=>exact h.elim
 cases ts with
 | nil=>exact⟨_,h⟩
 | cons _ _=>exact h.elim
 cases r with
 | nil=>exact⟨rfl,o _ _ hd S Keep.refl (fun _ _=>rfl) rfl⟩
 | cons _ _=>exact hd.elim
theorem Jo(h1:DG X e is g)(G:DGs X es js gs)(Z:(assignEach (e::es) X.env).map (·.2)=assign e X.env::(assignEach es X.env).map (·.2):=by rfl):DGs X (e::es) (is++js) (Qy g gs):=by
 obtain⟨Y,ga,pa,h1⟩:=h1;obtain⟨l2,w2,gb,pb,G⟩:=G;refine⟨fun ts v R h=>?_,fun ts v R h=>?_,_,zoR pa pb Z,fun C v σ H n vs ts Q R S r hd hq=>?_⟩;cases ts with
 | nil=>exact h.elim
 | cons t ts =>obtain⟨l,h'⟩:=Y t v _ h;simp[l2 ts l R h']
 cases ts with
 | nil=>exact h.elim
 | cons t ts =>obtain⟨l,h'⟩:=Y t v _ h;exact w2 ts l R h'
 cases r with
 | nil=>exact hd.elim
 | cons r rs =>refine⟨_,_,rfl,h1 C v σ H n _ _ _ _ S r hd fun l σ' hr S' kp hj hl=>?_⟩;refine G C l σ' H n _ _ _ _ S' (kp.reps S.hx rs) hr fun L J U S2 N y I=>?_;exact hq L J U S2 (kp.trans N) (fun j o=>by rw[y j (fun z=>o (by simp[z])),hj j (fun z=>o (by simp[z]))]) (I.trans hl)
theorem JT(hc:X.calm=true)(h:DGs X es is gs)(L:(assignEach es X.env).length=es.length:=by rfl)(y:(assignEach es X.env).findIdx? (·.1)=none:=by rfl):DG X (.Tuple es k pos) is (Ui gs):=by
 obtain⟨l,w,g,pg,h⟩:=h;refine⟨fun t o R h=>?_,_,zts hc pg L y,fun C o σ H n v t Q R S r hd J=>?_⟩;cases t with
 | tuple ts=>exact w ts o R h
 | _=>exact h.elim
 cases t with
 | tuple ts =>obtain⟨p,vs,rfl,h1,G⟩:=r.tupI;exact⟨p,vs,rfl,h1,by rw[G.length];exact l ts o R hd,h C o σ H n vs ts Q R S G hd J⟩
 | _=>exact hd.elim
def sAsg(d:DTE)(g:DTG):DTS:=fun D o n=>d o n fun t v=>g t o fun l=>D.nx l v
theorem QO(h:DE X e d)(o:DG X tg is g)(J:swapsWithSole [tg] e pos.line X.env=pure false:=by rfl)(hw:swappedStores [tg] e X.env=pure none:=by rfl)
  (h1:(assignEach [tg] X.env).map (·.2)=[assign tg X.env]:=by rfl):DS X (.Assign [tg] e pos) (sAsg d g):=by
 obtain⟨ta,pa,h⟩:=h;obtain⟨w,Y,U,o⟩:=o;refine⟨_,VF pa U J hw h1,fun C G σ H n D Z S hd gd=>?_⟩;refine h C G σ H n _ _ S hd fun t I v H' r y L q=>?_;exact o C G σ H' I v t _ _ (S.on y L) q r fun l σ' N R kp _ _=>gd.nx l σ' H' I N R (y.keep.trans kp)
def sPar(i j:Nat)(ds:DTA):DTS:=fun D o n=>ds o n fun ts y=>match ts with|[t,u]=>D.nx ((o.set i (some (.val t))).set j (some (.val u))) y|_=>False
theorem zqc{kt k2 pt2}(hc:X.calm=true)(R:X.N.Nodup)(hi:X.N[i]?=some x)(Y:X.N[j]?=some y)(G:i≠j)
  (hx:X.env.scope.names.lookup x=some .local) (hy:X.env.scope.names.lookup y=some .local) (h:DB X [a,b] ds)
  (hw:swappedStores [.Tuple [.Name x px,.Name y py] kt pt] (.Tuple [a,b] k2 pt2) X.env=pure (some [x,y]):=by rfl)
  (L:swapsWithSole [.Tuple [.Name x px,.Name y py] kt pt] (.Tuple [a,b] k2 pt2) pos.line X.env=pure false:=by rfl) :
  DS X (.Assign [.Tuple [.Name x px,.Name y py] kt pt] (.Tuple [a,b] k2 pt2) pos) (sPar i j ds):=by
 obtain⟨ta,pa,h⟩:=h;refine⟨_,ztk hc R hi Y G hx hy pa.pa hw L,fun C U σ H n D D' S hd g=>?_⟩;refine h C U σ H n _ _ S hd fun ts n1 vs Z r I h1 v _=>?_;cases v with
 | nil=>exact r.elim
 | cons J v =>
  cases v with
  | nil=>exact r.elim
  | cons r2 v =>
   cases v with
   | cons _ _=>exact r.elim
   | nil =>have S1:=(S.on I h1).put (i:=i) J;exact⟨_,_,rfl,g.nx _ _ Z n1 r (S1.put (Keep.rep U1 S.hx r2)) ((I.keep.trans U1).trans U1)⟩
def ZO(i:Nat)(d:DTE):DTS:=fun D l n=>match l[i]? with
 | some (some (.own ts))=>d l n fun t v=>ts.length<16777216/\D.nx (l.set i (some (.own (ts++[t])))) v
 | _=>False
theorem QC(i:Nat){p1 p2 p3:Pos}(h:DE X e d)(hN:X.N[i]?=some x:=by rfl)(hv:Vis X.env.scope x:=by walk_at "V")(hd:(x == ("__debug__":Str))=false:=by rfl)
  (U:(x == ("__classdict__":Str))=false:=by rfl) (hs:swapsWith (.Call (.Attribute (.Name x p1) "append" p2) [e] [] p3) none pos.line X.env=pure false:=by rfl)
  (Lw:attributeBase (.Name x p1) "append" X.env (eval (.Name x p1) X.env)=eval (.Name x p1) X.env:=by rfl)
  (Mh:((backTo p3 (starEach [e] X.env)).all (fun x=>!x.1)&&(backToKw p3 (keywordEach [] X.env)).all (fun x=>x.1.isSome)
   && decide ([e].length+([]:List iW).length+(if ([]:List iW).isEmpty then 0 else 1)<30))=true:=by rfl)
  (Lx:(p2.endLine == p3.line)=true:=by rfl) (I:starEach [e] X.env=[(false,eval e X.env)]:=by rfl):DS X (.Expr (.Call (.Attribute (.Name x p1) "append" p2) [e] [] p3) pos) (ZO i d):=by
 obtain⟨ta,pa,h⟩:=h;refine⟨_,ziT (zq_ iP PySem.F.slot_list_append PySem.F.type_list_append zh2 (Qb hN hv hd U) (QT pa QY I) Lw Mh Lx I rfl) hs,fun C ρ σ H n D D' S hd g=>?_⟩;unfold ZO at hd;split at hd;rename_i ts L;obtain⟨p,vs,h1,h2,h3,h4⟩:=S.own i ts L;refine⟨.ref p,h1,.inl ⟨rfl,_,SqL.of h2⟩,?_⟩;refine h C ρ σ H n _ _ S hd fun t n' v H' r Z hn q=>?_;have S1:=S.on Z hn;obtain⟨p',R,J,Y,G,h4'⟩:=S1.own i ts L;rw[h1]at J;cases J;refine⟨p,R,v,rfl,rfl,Y,by rw[G.length];exact r.1,?_⟩;obtain⟨S2,k2⟩:=S1.chg L h1 (G.append (.cons q .nil));exact g.nx _ _ _ n' r.2 S2 (Z.keep.trans k2);exact hd.elim
def sPut(i:Nat)(C d:DTE):DTS:=fun D l n=>d l n fun t y=>match l[i]? with
 | some (some (.own ts))=>C l y fun j v=>match j with|.int j=>(match ixN ts.length j with|some k=>D.nx (l.set i (some (.own (ts.set k t)))) v|none=>False)|_=>False
 | _=>False
theorem zu8(i:Nat){dj:DTE}{p1 p2:Pos}(Y:DE X b dj)(h:DE X e d)(hN:X.N[i]?=some x:=by rfl)(hv:Vis X.env.scope x:=by walk_at "V")(hd:(x == ("__debug__":Str))=false:=by rfl)
  (Z:(x == ("__classdict__":Str))=false:=by rfl) (hs:swapsWithSole [.Subscript (.Name x p1) b p2] e pos.line X.env=pure false:=by rfl) (hw:swappedStores [.Subscript (.Name x p1) b p2] e X.env=pure none:=by rfl)
  (h1:(assignEach [.Subscript (.Name x p1) b p2] X.env).map (·.2)=[assign (.Subscript (.Name x p1) b p2) X.env]:=by rfl)
  (My:PG X (.Subscript (.Name x p1) b p2)=PG X (.Subscript (.Name x p1) b p2):=rfl) (pg:∀{to ti:TE} {t:TSet},PE X (.Name x p1) to->PE X b ti->PSet X t->PG X (.Subscript (.Name x p1) b p2) (L2.gSub to ti t):=by intro _ _ _ h1 h2 h3;exact pg_sub h1 h2 h3) :
  DS X (.Assign [.Subscript (.Name x p1) b p2] e pos) (sPut i dj d):=by
 obtain⟨ta,pa,h⟩:=h;obtain⟨tj,pj,Y⟩:=Y;refine⟨_,VF pa (pg (Qb hN hv hd Z) pj set_list) hs hw h1,fun C R σ H n D D' S hd g=>?_⟩;refine h C R σ H n _ _ S hd fun t n1 v H1 r e1 hn q=>?_;have S1:=S.on e1 hn;split at r;rename_i ts I;obtain⟨p,vs,h1,h2,h3,h4⟩:=S1.own i ts I;refine⟨.ref p,h1,Y C R σ H1 n1 _ _ S1 r fun j n2 w H2 l L J q2=>?_⟩;have S2:=S1.on L J;cases j with
 | int j =>
  have l:(match ixN ts.length j with|some k=>D'.nx (R.set i (some (.own (ts.set k t)))) n2|none=>False):=l;cases ek:ixN ts.length j with
  | none=>rw[ek]at l;exact l.elim
  | some m =>rw[ek]at l;obtain⟨p',U,G,h2',y,h4'⟩:=S2.own i ts I;rw[h1]at G;cases G;refine⟨p,U,j,m,rfl,q2.intI,h2',by rw[y.length];exact ek,?_⟩;obtain⟨S3,k3⟩:=S2.chg I h1 (y.set (L.rep S.hx q) m);exact g.nx _ _ _ n2 l S3 ((e1.trans L).keep.trans k3)
 | _=>exact l.elim
 exact r.elim
def zma(c:DTT)(G:DTS):DTS:=fun D o n=>∃W:Nat->En->Nat->Prop,(∃m,W m o n)/\∀m o n,W m o n ->
 c o n fun b C=>if b=true then G { D with nx:=fun l y=>∃v,v<m/\W v l y,ct:=fun l y=>∃v,v<m/\W v l y,bk:=D.nx } o C else D.nx o C
theorem zg1(hp:rO (model X.prog X.w) X.A X.env X.xe)(hc:DT X c dt)(hb:DSs X sa t):DS X (.While c sa [] pos) (zma dt t):=by
 obtain⟨tc,pc,hc⟩:=hc;obtain⟨tb,pb,hb⟩:=hb;refine⟨_,zoO hp pc pb,fun C ρ σ H n D D' S hd g=>?_⟩;obtain⟨W,⟨m0,w0⟩,turn⟩:=hd;refine⟨fun m L H1=>∃G n1,W m G n1/\Stt X.K C G L H1 n1/\Keep C ρ σ H G L H1,⟨m0,ρ,n,w0,S,Keep.refl⟩,?_⟩;rintro m L H1 ⟨G,n1,w1,S1,k1⟩;refine hc C G L H1 n1 _ _ S1 (turn m G n1 w1) fun b n2 H2 r e2 hn2=>?_;have S2:=S1.on e2 hn2;have R:=k1.trans e2.keep;cases b with
 | true =>refine iteT ⟨fun σ' H'=>∃J,J<m/\∃y I,W J y I/\Stt X.K C y σ' H' I/\Keep C ρ σ H y σ' H',fun σ' H' ⟨J,Z,z⟩=>⟨J,Z,z⟩,?_⟩;refine hb C G L H2 n2 _ { D' with nx:=fun y I=>∃J,J<m/\W J y I,ct:=fun y I=>∃J,J<m/\W J y I,bk:=D'.nx } S2 (by simpa using r) ⟨?_,fun t I v H' h hn N r=>g.rt t I v H' h hn (fun a o ha U no=>?_) r,?_,?_,fun c I H' h hn N=>g.xr c I H' h hn fun a o ha U no=>N a o (R a o ha U no).1 U (R a o ha U no).2⟩;rintro y σ' H' I ⟨J,Z,w'⟩ Y N;exact⟨J,Z,y,I,w',Y,R.trans N⟩;obtain⟨q1,q2⟩:=R a o ha U no;exact N a o q1 U q2;intro y σ' H' I h' Y N;exact g.nx y σ' H' I h' Y (R.trans N);rintro y σ' H' I ⟨J,Z,w'⟩ Y N;exact⟨J,Z,y,I,w',Y,R.trans N⟩
 | false=>exact iteF (g.nx G L H2 n2 (by simpa using r) S2 R)
end
def ItOk(K:qF)(hd:Option aj)(P O:aj->Prop)(H:Hp)(J:It)(ts:qD):Prop:=∀(u:aj->Prop) (l:Hp),(∀a o,H a=some o->P a->l a=some o)->(∀a o,H a=some o->¬O a->¬u a)->(∀a,u a->l a≠none) ->
 (∀i t,ts[i]?=some t->J.go i l/\∀x v,J.yld i l x v->Same l v/\Rep K hd u v x t)/\J.stop ts.length l
def DI(X:Cx)(tg iter:aY)(d:DTA):Prop:=∃wi,PI X tg iter wi/\∀(C:Ctx) (l:En) (σ:St) (H:Hp) (n:Nat) (Q:It->Hp->Prop) (R:List af->Nat->Prop),Stt X.K C l σ H n->d l n R ->
 (∀ts o J H',R ts o->ExtE C.hd H H'->Hn X.K C.hd H' o->ItOk X.K C.hd (fun a=>¬Own C l σ a) (Own C l σ) H' J ts->Q J H')->wi σ H Q
def DIL(X:Cx)(tg iter:aY)(d:DTA):Prop:=∃wi,PI X tg iter wi/\∀(C:Ctx) (l:En) (σ:St) (H:Hp) (n:Nat) (Q:It->Hp->Prop) (R:List af->Nat->Prop),Stt X.K C l σ H n->d l n R ->
 (∀ts o J H',R ts o->ExtE C.hd H H'->Hn X.K C.hd H' o->ItOk X.K C.hd (fun a=>C.hd≠some a) (Own C l σ) H' J ts->Q J H')->wi σ H Q
section
variable{X:Cx}{a b c e tg iter:aY}{es rest:List aY}{d da db dc:DTE}{ds di:DTA}{dt:DTT}{t u:DTS}{st:fc}{sts sa sb:List fc}{pos p:Pos}{k:Nat}{x:Str}
theorem dil(h:DI X tg iter di):DIL X tg iter di:=by obtain⟨wi,pi,h⟩:=h;refine⟨wi,pi,fun C L σ H n Q R S hd y=>h C L σ H n Q R S hd fun ts Y J H' r v G it=>y ts Y J H' r v G ?_⟩;exact fun U H2 h1 I Z=>it U H2 (fun a o N no=>h1 a o N fun z=>no (.inl (S.hx a z))) I Z
theorem Reps.getP{K:qF}{hd:Option aj}{O:aj->Prop}{H:Hp}{vs ts}{i:Nat}{t}{x:V}(r:Reps K hd O H vs ts)(h:ts[i]?=some t)(hx:vs[i]?=some x):Rep K hd O H x t:=by obtain⟨v,h1,l⟩:=r.get h;rw[hx]at h1;cases h1;exact l
theorem VM{K:qF}{hd:Option aj}{P O:aj->Prop}{H:Hp}{q:aj}{vs ts}(N:H q=some (.lst vs))(S:P q)(L:∀a,¬O a->P a)(r:Reps K hd O H vs ts):ItOk K hd P O H (Itl K q) ts:=by intro U Y h1 R _;have y:=h1 q _ N S;have J:Reps K hd U Y vs ts:=r.mono (fun a o C z=>bu fun no=>R a o C no z) fun a o no C=>h1 a o C (L a no);refine⟨fun i t I=>?_,⟨vs,.of y,by rw[r.length];exact ar _⟩⟩;obtain⟨v,ev,rv⟩:=J.get I;refine⟨⟨vs,v,.of y,ev⟩,fun x Z G=>?_⟩;obtain⟨rfl,G⟩:=G;exact⟨Same.refl _,J.getP I (G vs (.of y))⟩
theorem zp5{K:qF}{hd:Option aj}{P O:aj->Prop}{H:Hp}{v:V}{ts}(N:∀a,¬O a->P a)(r:Rep K hd O H v (.tuple ts)):∃q vs,v=.ref q/\SqT K H q vs/\ItOk K hd P O H (Itt K q) ts:=by
 have key:∀q vs,Reps K hd O H vs ts->(∀(G:aj->Prop) (C:Hp),(∀a o,H a=some o->P a->C a=some o)->(∀a o,H a=some o->¬O a->¬G a)->SqT K C q vs)->ItOk K hd P O H (Itt K q) ts:=by intro q vs r U G C h1 R _;have y:=U G C h1 R;have S:Reps K hd G C vs ts:=r.mono (fun a o I z=>bu fun no=>R a o I no z) fun a o no I=>h1 a o I (N a no);refine⟨fun i t L=>?_,⟨vs,y,by rw[r.length];exact ar _⟩⟩;obtain⟨v,ev,Z⟩:=S.get L;refine⟨⟨vs,v,y,ev⟩,fun x Y J=>?_⟩;obtain⟨rfl,J⟩:=J;exact⟨Same.refl _,S.getP L (J vs y)⟩
 cases r with
 | @tup q vs ds h o r=>exact⟨q,vs,rfl,.inl (.inl h),key q vs r fun G C h1 _=>.inl (.inl (h1 q _ h (N q o)))⟩
 | @tupS q vs ds h r=>exact⟨q,vs,rfl,h.sq,key q vs r fun G C _ _=>h.sq⟩
def dItL(d:DTE):DTA:=fun o n R=>d o n fun t v=>match t with|.list ts=>R ts v|_=>False
def dItT(d:DTE):DTA:=fun o n R=>d o n fun t v=>match t with|.tuple ts=>R ts v|_=>False
theorem VN(h:DE X iter d):DI X tg iter (dItL d):=by
 obtain⟨N,pa,h⟩:=h;refine⟨_,zmx pa,fun C J σ H n Q R S hd y=>?_⟩;refine h C J σ H n _ _ S hd fun t L v H' r l G q=>?_;cases t with
 | list ts =>obtain⟨p,vs,rfl,h1,no,I⟩:=q.lstI;exact⟨p,rfl,⟨vs,.of h1⟩,y ts L _ H' r l G (VM h1 no (fun _ z=>z) I)⟩
 | _=>exact r.elim
theorem zpy(h:DL X iter d):DIL X tg iter (dItL d):=by
 obtain⟨Z,pa,h⟩:=h;refine⟨_,zmx pa,fun C Y σ H n Q R S hd L=>?_⟩;refine h C Y σ H n _ _ S hd fun t U v H' r I N q=>?_;cases t with
 | list ts =>
  rcases q with q|⟨p,vs,ds,rfl,G,h1,y,J⟩|⟨p,zs,ep,ks,rfl,G,h1,y,J⟩
  rotate_left 2
  cases G;obtain⟨p,vs,rfl,h1,no,y⟩:=q.lstI;exact⟨p,rfl,⟨vs,.of h1⟩,L ts U _ H' r I N (VM h1 (fun z=>no (.inl (S.hx p z))) (fun a no z=>no (.inl (S.hx a z))) y)⟩;cases G;exact⟨p,rfl,⟨vs,.of h1⟩,L ts U _ H' r I N (VM h1 J (fun a no z=>no (.inl (S.hx a z))) y)⟩
 | _=>exact r.elim
theorem QI(h:DE X iter d):DI X tg iter (dItT d):=by
 obtain⟨J,pa,h⟩:=h;refine⟨_,ztp pa,fun C l σ H n Q R S hd y=>?_⟩;refine h C l σ H n _ _ S hd fun t I v H' r o G q=>?_;cases t with
 | tuple ts =>obtain⟨p,vs,rfl,h1,it⟩:=zp5 (P:=fun a=>¬Own C l σ a) (fun _ z=>z) q;exact⟨p,rfl,⟨vs,h1⟩,y ts I _ H' r o G it⟩
 | _=>exact r.elim
def Qo(lo:Int)(n:Nat):List af:=(fZ n).map fun(i:Nat)=>bS (lo+(i:Int))
theorem zpe{K:qF}{hd:Option aj}{P O:aj->Prop}{H:Hp}{lo:Int}{m:Nat}:ItOk K hd P O H (Itr lo m) (Qo lo m):=by intro C G _ _ _;refine⟨fun i t o=>?_,by show m<=(Qo lo m).length;simp[Qo]⟩;unfold Qo at o;rw[aT]at o;by_cases hi:i<m;rw[oV hi]at o;cases o;refine⟨hi,fun x y v=>?_⟩;obtain⟨rfl,rfl⟩:=v;exact⟨Same.refl _,.int _⟩;rw[bO (by simp;omega)]at o;cases o
def Za(d:DTE):DTA:=fun l n R=>d l n fun t o=>match t with|.int j=>(-(2 ^ 62)<=j/\j<2 ^ 62)/\R (Qo 0 j.toNat) o|_=>False
theorem zfu(U:X.mg "range" = none) (h:DE X a d) (L:Gl X "range":=by rfl) (o:starEach [a] X.env=[(false,eval a X.env)]:=by rfl):DI X tg (.Call (.Name "range" p) [a] [] pos) (Za d):=by
 obtain⟨Z,pa,h⟩:=h;refine⟨_,zmw L U (QT pa QY o) o,fun C J σ H n Q R S hd G=>?_⟩;refine h C J σ H n _ _ S hd fun t Y v H' r y I q=>?_;cases t with
 | int j =>rw[q.intI];exact⟨j,rfl,r.1.1,r.1.2,G _ Y _ H' r.2 y I zpe⟩
 | _=>exact r.elim
def forP(g:DTG)(l:DTS)(D:JF):List af->En->Nat->Prop
 | [],ρ,n=>D.nx ρ n
 | t::ts,ρ,n=>g t ρ fun o=>l { D with nx:=forP g l D ts,ct:=forP g l D ts,bk:=D.nx } o n
def sFor(di:DTA)(g:DTG)(v:DTS):DTS:=fun D l n=>di l n fun ts o=>forP g v D ts l o
theorem QJ(hp:rO (model X.prog X.w) X.A X.env X.xe)(hc:X.calm=true)(hi:DI X tg iter di)(hg:DG X tg is g)(hb:DSs X sa t)
  (hs:∀x,foldedSetIterable iter X.env x=pure x:=by intro _;rfl):DS X (.For tg iter sa [] pos) (sFor di g t):=by
 obtain⟨wi,pi,hi⟩:=hi;obtain⟨_,gg,pg,hg⟩:=hg;obtain⟨tb,pb,hb⟩:=hb;refine⟨_,ztl hp hc pi pg pb hs,fun C ρ σ H n D D' S hd gd=>?_⟩;refine hi C ρ σ H n _ _ S hd fun ts n1 J H1 r e1 hn it=>?_;have S1:=S.on e1 hn;refine⟨fun i m L Z=>m=ts.length - i/\i<=ts.length/\∃I n2,forP g t D' (ts.drop i) I n2/\Stt X.K C I L Z n2/\Keep C ρ σ H1 I L Z,⟨ts.length,by simp,cO _,ρ,n1,by simpa using r,S1,Keep.refl⟩,?_⟩;rintro i m L Z ⟨rfl,hi',I,n2,f2,S2,k2⟩;have itq:=it (Own C I L) Z (fun a o U no=>(k2 a o U (fun z=>no (.inl (S.hx a z))) fun z=>no (.inr z)).1) (fun a o U no z=>z.elim (fun z=>no (.inl z)) fun z=>(k2 a o U (fun y=>no (.inl (S.hx a y))) fun y=>no (.inr y)).2 z) (fun a=>S2.dom);by_cases hlt:i<ts.length;have et:ts[i]?=some ts[i]:=au hlt;obtain⟨go,yl⟩:=itq.1 i _ et;rw[bZ hlt]at f2;refine .inr ⟨go,fun σ' H'=>∃G N,forP g t D' (ts.drop (i+1)) G N/\Stt X.K C G σ' H' N/\Keep C ρ σ H1 G σ' H',fun σ' H' z=>⟨ts.length - (i+1),by omega,rfl,hlt,z⟩,fun x H3 hy=>?_⟩;obtain⟨sm,rx⟩:=yl x H3 hy;have S3:=S2.on sm.ext (S2.hnd.same sm);have k3:Keep C ρ σ H1 I L H3:=k2.trans (Same.ext sm:ExtE C.hd Z H3).keep;refine hg C I L H3 n2 x _ _ _ S3 rx f2 fun ρ4 σ4 r4 S4 k4 _ _=>?_;have k5:=k3.trans k4;refine hb C ρ4 σ4 H3 n2 _ { D' with nx:=forP g t D' (ts.drop (i+1)),ct:=forP g t D' (ts.drop (i+1)),bk:=D'.nx } S4 r4 ⟨fun G σ' H' N h' S' R=>⟨G,N,h',S',k5.trans R⟩,fun t N v H' h Y R rp=>gd.rt t N v H' h Y (fun a o U nh no=>?_) rp,fun G σ' H' N h' S' R=>gd.nx G σ' H' N h' S' (e1.keep.trans (k5.trans R)),fun G σ' H' N h' S' R=>⟨G,N,h',S',k5.trans R⟩,fun c N H' h Y R=>gd.xr c N H' h Y fun a o U nh no=>R a o ((e1.keep.trans k5) a o U nh no).1 nh ((e1.keep.trans k5) a o U nh no).2⟩;obtain⟨q1,q2⟩:=(e1.keep.trans k5) a o U nh no;exact R a o q1 nh q2;have e:i=ts.length:=by omega
 subst e;rw[rV]at f2;exact .inl ⟨itq.2,gd.nx I L Z n2 f2 S2 (e1.keep.trans k2)⟩
def JZ(N:List Str)(ts:qD):En:=ts.map (fun t=>some (.val t))++fT (N.length - ts.length) none
theorem zlR{K:qF}{hd:Option aj}{O:aj->Prop}{H:Hp}{n:Nat}{N:List Str}{vs:List V}{ts:qD}(r:Reps K hd O H vs ts)(C:Hn K hd H n)(dom:∀a,O a->MutO (H a))(hx:∀a,hd=some a->O a) :
  Stt K ⟨hd,O⟩ (JZ N ts) (start N vs) H n/\∀a,¬OwnS (JZ N ts) (start N vs) a:=by
 have get:∀(i:Nat) c,(JZ N ts)[i]?=some (some c)->∃t,c=.val t/\ts[i]?=some t:=fun i c h=>by
  unfold JZ at h;by_cases hi:i<ts.length;rw[bV (by simpa using hi),aT]at h;cases e:ts[i]? with
  | none=>rw[e]at h;cases h
  | some t=>rw[e]at h;cases h;exact⟨t,rfl,rfl⟩
  rw[cm (by simpa using hi),eV]at h;split at h <;> cases h
 have no:∀a,¬OwnS (JZ N ts) (start N vs) a:=fun a ⟨i,ds,m,h1,_⟩=>by obtain⟨t,e,_⟩:=get i _ h1;subst e;cases m
 refine⟨.mk' (by unfold JZ start;simp[r.length]) (fun i d h=>?_) (fun i ds m h=>?_) (fun i ks h=>by obtain⟨t,e,_⟩:=get i _ h;cases e) (fun i j ds es a m _ h=>?_) C dom hx,no⟩;obtain⟨t,e,y⟩:=get i _ h;cases e;obtain⟨v,ev,G⟩:=r.get y;refine⟨v,?_,G.mono (fun a o _ z=>z.elim id fun z=>absurd z (no a)) fun _ _ _ z=>z⟩;unfold start;have hi:i<vs.length:=by rcases bG i vs.length with z|z;exact z;rw[bO z]at ev;cases ev
 rw[bV (by simpa using hi),aT,ev];rfl;obtain⟨t,e,_⟩:=get i _ h;subst e;cases m;obtain⟨t,e,_⟩:=get i _ h;subst e;cases m
end
end L2
namespace Bd
open PySem L2 PyProof.Rows
theorem Def.okD{P:aL}{w:aZ}{K:qF}{mg:qM}{base:a9}{x:Str}{st:fc}{ps N:List Str}{f:aj}{fd:dM}{k m:Nat}{g:GD}(D:Def K mg x st ps f fd)(S:Uv N ps (JJ st))(hm:m=ps.length)
  (Z:∀(l:ag) (A:bg) (outer:List Env) (s:aq) (H:Hp) (E:XK),Room k (A.deeper (envOfC x (JJ st) s.heap.objs.size f l))->∃d,DSs (cxOf CX0 P w K mg base N x (JJ st) f l A outer s H E).nox (J4 st) d /\
   ∀ts n R,ts.length=m->g ts n R->d { nx:=fun _ u=>R .none u,rt:=R } (JZ N ts) n):FnOk P w K mg base CX0 (k+1) f fd ps (spD K m g):=by
 refine D.F.ok S (fun vs H Q E h=>?_) (fun l A outer s H vs Q E hr h=>?_);obtain⟨hd,O,ts,n,R,r,_,_,_,J,_⟩:=h;rw[r.length,J,hm];obtain⟨hd,O,ts,n,R,r,hn,dom,hx,J,hg,U⟩:=h;obtain⟨d,⟨t,pt,ht⟩,L⟩:=Z l A outer s H E hr;obtain⟨S0,no⟩:=zlR (N:=N) r hn dom hx;refine⟨t,pt,ht ⟨hd,O⟩ _ _ H n _ _ S0 (L ts n R J hg) ⟨fun ρ' σ' H' u h S' G=>?_,fun t u v H' h C G Y=>?_,fun _ _ _ _ h=>h.elim,fun _ _ _ _ h=>h.elim,fun _ _ _ h=>h.elim⟩⟩;exact U .none u .non H' h (fun a o I y=>(G a o I y (no a)).1) S'.hnd .non;exact U t u v H' h (fun a o I y=>G a o I y (no a)) C Y
end Bd
namespace L2
open PySem PySem.Spec PyProof.Rows
def DTs(Y:Cx)(ifs:List aY)(d:DTT):Prop:=∃l,PTs Y ifs l/\∀(C:Ctx) (o:En) (σ:St) (H:Hp) (n:Nat) (Q:Bool->Hp->Prop) (R:Bool->Nat->Prop),Stt Y.K C o σ H n->d o n R ->
 (∀b u H',R b u->ExtE C.hd H H'->Hn Y.K C.hd H' u->Q b H')->l σ H Q
def dYes:DTT:=fun _ n R=>R true n
section
variable{Y:Cx}{c:aY}{d:DTT}
theorem Q8:DTs Y [] dYes:=⟨_,zqS,fun C o σ H n Q R S h l=>l true n H h ExtE.refl S.hnd⟩
theorem zr3(h:DT Y c d):DTs Y [c] d:=by obtain⟨l,p,h⟩:=h;exact⟨_,zqR p,h⟩
end
def SpE(K:qF)(u:TE)(d:DTE):Prop:=∀(C:Ctx) (l:En) (σ:St) (H:Hp) (n:Nat) (Q:VK) (R:qN),Stt K C l σ H n->d l n R ->
 (∀t o v H',R t o->ExtE C.hd H H'->Hn K C.hd H' o->Rep K C.hd (Own C l σ) H' v t->Q v H')->u σ H Q
def SpT(K:qF)(u:TT)(d:DTT):Prop:=∀(C:Ctx) (l:En) (σ:St) (H:Hp) (n:Nat) (Q:Bool->Hp->Prop) (R:Bool->Nat->Prop),Stt K C l σ H n->d l n R ->
 (∀b o H',R b o->ExtE C.hd H H'->Hn K C.hd H' o->Q b H')->u σ H Q
def SpG(K:qF)(is:List Nat)(u:TG)(d:DTG):Prop:=∀(C:Ctx) (o:En) (σ:St) (H:Hp) (n:Nat) (v:V) (t:af) (Q:St->Hp->Prop) (R:En->Prop),Stt K C o σ H n->Rep K C.hd (Own C o σ) H v t->d t o R ->
 (∀l σ',R l->Stt K C l σ' H n->Keep C o σ H l σ' H->(∀j,j∉is->σ'[j]?=σ[j]?)->σ'.length=σ.length->Q σ' H)->u v σ H Q
def SpI(K:qF)(wi:TI)(d:DTA):Prop:=∀(C:Ctx) (l:En) (σ:St) (H:Hp) (n:Nat) (Q:It->Hp->Prop) (R:List af->Nat->Prop),Stt K C l σ H n->d l n R ->
 (∀ts o J H',R ts o->ExtE C.hd H H'->Hn K C.hd H' o->ItOk K C.hd (fun a=>¬Own C l σ a) (Own C l σ) H' J ts->Q J H')->wi σ H Q
section
variable{X:Cx}{scope:fo}{own:List Str}{capt:List Nat}{e tg:aY}{es:List aY}{is:List Nat}{d:DTE}{dt:DTT}{dg:DTG}{di:DTA}
theorem DE.fam(h:Fam X scope own capt fun Y=>DE Y e d):∃o:TE,(Fam X scope own capt fun Y=>PE Y e o)/\SpE X.K o d :=
 ⟨fun σ H Q=>∀C s₀ H₀ l,kB (h C s₀ H₀ l) σ H Q,fun C s₀ H₀ l pins s σ H Q I hw=>(cG (h C s₀ H₀ l)).1 pins s σ H Q I (hw C s₀ H₀ l),fun C v σ H n Q R S hd u x s₀ H₀ l=>(cG (h x s₀ H₀ l)).2 C v σ H n Q R S hd u⟩
theorem DTs.fam(h:Fam X scope own capt fun Y=>DTs Y es dt):∃o:TT,(Fam X scope own capt fun Y=>PTs Y es o)/\SpT X.K o dt :=
 ⟨fun σ H Q=>∀C s₀ H₀ l,kB (h C s₀ H₀ l) σ H Q,fun C s₀ H₀ l pins s σ H Q I hw=>(cG (h C s₀ H₀ l)).1 pins s σ H Q I (hw C s₀ H₀ l),fun C v σ H n Q R S hd u x s₀ H₀ l=>(cG (h x s₀ H₀ l)).2 C v σ H n Q R S hd u⟩
theorem DG.fam(h:Fam X scope own capt fun Y=>DG Y tg is dg):∃o:TG,(Fam X scope own capt fun Y=>PG Y tg o)/\SpG X.K is o dg :=
 ⟨fun v σ H Q=>∀C s₀ H₀ l,kB (h C s₀ H₀ l).2 v σ H Q,fun C s₀ H₀ l pins s σ H v u Q I r hw=>(cG (h C s₀ H₀ l).2).1 pins s σ H v u Q I r (hw C s₀ H₀ l),fun C y σ H n v t Q R S r hd x G s₀ H₀ l=>(cG (h G s₀ H₀ l).2).2 C y σ H n v t Q R S r hd x⟩
theorem DI.fam(h:Fam X scope own capt fun Y=>DI Y tg e di):∃wi:TI,(Fam X scope own capt fun Y=>PI Y tg e wi)/\SpI X.K wi di :=
 ⟨fun σ H Q=>∀C s₀ H₀ l,kB (h C s₀ H₀ l) σ H Q,fun C s₀ H₀ l pins s σ H R I hw=>(cG (h C s₀ H₀ l)).1 pins s σ H R I (hw C s₀ H₀ l),fun C u σ H n Q R S hd o v s₀ H₀ l=>(cG (h v s₀ H₀ l)).2 C u σ H n Q R S hd o⟩
end
theorem Wk.of:∀{σ σ':St},σ.length=σ'.length->(∀(i:Nat) v,σ[i]?=some (some v)->σ'[i]?=some (some v))->Wk σ σ'
 | [],[],_,_=>trivial
 | [],_::_,h,_=>by simp at h
 | _::_,[],h,_=>by simp at h
 | none::r,o::r',h,k=>Wk.of (σ:=r) (σ':=r') (by simpa using h) fun i v e=>by simpa using k (i+1) v (by simpa using e)
 | some w::r,o::r',h,k=>⟨by simpa using k 0 w rfl,Wk.of (by simpa using h) fun i v e=>by simpa using k (i+1) v (by simpa using e)⟩
def capV:Option Cell->Option Cell
 | some (.val d)=>some (.val d)
 | some (.dct ks)=>some (.rdo ks)
 | some (.rdo ks)=>some (.rdo ks)
 | _=>none
def JG(m:Nat)(capt:List Nat)(l:En):En:=fT m none++capt.map fun i=>capV (l.getD i none)
def cGo{α:Type}(g:DTG)(tt:DTT)(u:En->Nat->α->(α->Nat->Prop)->Prop)(ρ0:En):List af->α->Nat->(α->Nat->Prop)->Prop
 | [],acc,n,R=>R acc n
 | x::xs,acc,n,R=>g x ρ0 fun o=>tt o n fun b v=>if b=true then u o v acc fun l y=>cGo g tt u ρ0 xs l y R else cGo g tt u ρ0 xs acc v R
abbrev tdL(te:DTE)(ρ:En)(n:Nat)(acc:qD)(R:List af->Nat->Prop):Prop:=te ρ n fun t n3=>acc.length<16777216/\R (acc++[t]) n3
abbrev tdN{α:Type}(di:DTA)(g:DTG)(tt:DTT)(te:En->Nat->α->(α->Nat->Prop)->Prop)(ρ:En)(n:Nat)(acc:α)(R:α->Nat->Prop):Prop:=di ρ n fun ts n3=>cGo g tt te ρ ts acc n3 R
def JO(g:DTG)(tt:DTT)(l:DTE)(ρ0:En)(xs acc:qD)(n:Nat)(R:List af->Nat->Prop):Prop:=cGo g tt (tdL l) ρ0 xs acc n R
def dComp(m:Nat)(capt:List Nat)(v:DTA)(g:DTG)(tt:DTT)(o:DTE):DTA:=fun l n R=>v l n fun ts u=>JO g tt o (JG m capt l) ts [] u R
theorem ExtE.updR{hd:Option aj}{l x:Hp}{D:aj}{o:HO}(C:l D=none)(e:ExtE hd l x):ExtE hd l (upd x D o):=fun a u v y=>by rw[Jh (Qp v C)];exact e a u v y
theorem Hn.updR{K:qF}{hd:Option aj}{u:Hp}{D:aj}{o:HO}{n:Nat}(v:hd≠some D)(y:MutO (u D))(h:Hn K hd u n):Hn K hd (upd u D o) n:=fun a x=>by have ne:a≠D:=fun z=>v (by rw[<- z];exact x);rcases h a x with⟨⟨d,m,t,q,rest⟩,l⟩|⟨l,p⟩;exact .inl ⟨⟨d,m,t,by rw[Jh ne];exact q,rest⟩,l⟩;exact .inr ⟨l,p.upd ne y⟩
section
variable{X:Cx}{scope:fo}{own:List Str}{capt:List Nat}{elt tg iter:aY}{ifs:List aY}{pos:Pos}{di:DTA}{is:List Nat}{g:DTG}{tt:DTT}{te:DTE}
theorem zgY{u:En}{i:Nat}{c:Cell}(h:capV (u.getD i none)=some c):(∃d,c=.val d/\u[i]?=some (some (.val d)))\/∃ks,c=.rdo ks/\(u[i]?=some (some (.dct ks))\/u[i]?=some (some (.rdo ks))):=by
 rw[bf]at h;cases e:u[i]? with
 | none=>rw[e]at h;cases h
 | some o =>
  rw[e]at h;cases o with
  | none=>cases h
  | some c' =>
   cases c' with
   | val d'=>simp[capV]at h;exact .inl ⟨d',h.symm,rfl⟩
   | own _=>simp[capV]at h
   | dct ks=>simp[capV]at h;exact .inr ⟨ks,h.symm,.inl rfl⟩
   | dtt ks=>simp[capV]at h
   | rdo ks=>simp[capV]at h;exact .inr ⟨ks,h.symm,.inr rfl⟩
theorem znK{K:qF}{C:Ctx}{u:En}{σ:St}{H R:Hp}{n n2:Nat}{D:aj}(S:Stt K C u σ H n)(e:ExtE C.hd H R)(Z:Hn K C.hd R n2)(hD:H D=none)(hy:MutO (R D)) :
  Stt K ⟨C.hd,fun a=>Own C u σ a\/a=D⟩ (JG own.length capt u) (Qh own++capS capt σ) R n2/\∀a,¬OwnS (JG own.length capt u) (Qh own++capS capt σ) a:=by
 have get:∀(i:Nat) c,(JG own.length capt u)[i]?=some (some c)->∃j,capV (u.getD j none)=some c/\own.length<=i/\capt[i - own.length]?=some j:=fun i c h=>by
  unfold JG at h;by_cases hi:i<own.length;rw[bV (by simpa using hi),eV]at h;split at h <;> cases h;rw[cm (by simpa using hi),nU,aT]at h;cases ej:capt[i - own.length]? with
  | none=>rw[ej]at h;cases h
  | some j =>rw[ej]at h;exact⟨j,by simpa using h,by omega,rfl⟩
 have slot:∀(i j:Nat) (v:V),own.length<=i->capt[i - own.length]?=some j->σ[j]?=some (some v)->(Qh own++capS capt σ)[i]?=some (some v):=fun i j v hi I h1=>by rw[cm (by simpa using hi)];simp only[aG,aT,I,iE];rw[bf,h1];rfl
 have nm:∀(i:Nat) (c:Cell),c.mine=true->(JG own.length capt u)[i]?=some (some c)->False:=fun i c m h=>by obtain⟨j,L,_⟩:=get i c h;rcases zgY L with⟨d,rfl,_⟩|⟨ks,rfl,_⟩ <;> cases m
 have no:∀a,¬OwnS (JG own.length capt u) (Qh own++capS capt σ) a:=fun a ⟨i,c,m,h1,_⟩=>nm i c m h1;have S2:=S.on e Z;have sub:∀a o,H a=some o->Own ⟨C.hd,fun a=>Own C u σ a\/a=D⟩ (JG own.length capt u) (Qh own++capS capt σ) a->Own C u σ a:=fun a o x z=>by rcases z with z|z;rcases z with z|z;exact z;subst z;rw[hD]at x;cases x;exact absurd z (no a)
 have kp:∀a o,¬Own C u σ a->H a=some o->R a=some o:=fun a o nO x=>e a o x fun z=>nO (.inl (S.hx a z));refine⟨.mk' (by unfold JG;simp) (fun i d h=>?_) (fun i ds m h=>(nm i _ m h).elim) (fun i ks h=>?_) (fun i j ds es a m _ h=>(nm i _ m h).elim) Z (fun a x=>?_) (fun a x=>.inl (.inl (S.hx a x))),no⟩;obtain⟨j,L,hi,I⟩:=get i _ h;rcases zgY L with⟨d',z,y⟩|⟨ks,z,_⟩;cases z;obtain⟨v,h1,N⟩:=S.val j d y;exact⟨v,slot i j v hi I h1,N.mono sub kp⟩;cases z;obtain⟨j,L,hi,I⟩:=get i _ h;rcases zgY L with⟨d',z,y⟩|⟨ks',z,y⟩;cases z;cases z;rcases y with y|y;obtain⟨a,G,h1,N,Y,U⟩:=S.dct j ks y;have J:C.hd≠some a:=fun z=>U (S.hx a z);exact⟨a,G,slot i j _ hi I h1,e a _ N J,Y.mono sub kp,.inl (.inr ⟨j,.dct ks,rfl,y,h1⟩),J⟩;obtain⟨a,G,h1,N,Y,U,J⟩:=S.rdo j ks y;exact⟨a,G,slot i j _ hi I h1,e a _ N J,Y.mono sub kp,.inl (.inl U),J⟩;rcases x with x|rfl;exact S2.lst x;exact hy
def ExtD(hd:Option aj)(D:aj)(H H':Hp):Prop:=∀a o,H a=some o->hd≠some a->a≠D->H' a=some o
theorem ExtE.transD{hd:Option aj}{D:aj}{H l u:Hp}(a:ExtE hd H l)(b:ExtD hd D l u):ExtD hd D H u:=fun c o h n m=>b c o (a c o h n) n m
def SpM{α:Type}(K:qF)(C:Ctx)(D:aj)(A:Hp->α->Prop)(x:List Nat)(te:TM)(y:En->Nat->α->(α->Nat->Prop)->Prop):Prop:=∀(o:En) (σ:St) (H:Hp) (n:Nat) (acc:α) (N:Hp->Prop) (R:α->Nat->Prop),Stt K C o σ H n->(∀j∈x,∀v,σ[j]?≠some (some v))->A H acc->y o n acc R ->
 (∀l u H',R l u->ExtD C.hd D H H'->Hn K C.hd H' u->A H' l->N H')->te σ H N
def AOk{α:Type}(A:Ctx->aj->Hp->α->Prop):Prop:=∀(C:Ctx) (D:aj) (H:Hp) (acc:α),(∀a,C.hd=some a->C.ext a)->C.hd≠some D->A C D H acc->MutO (H D)/\(∀ks,H D≠some (.dK ks))/\∀H',ExtE C.hd H H'->A C D H' acc
section
variable{α:Type}{K:qF}{C:Ctx}{D:aj}{A:Ctx->aj->Hp->α->Prop}{is js:List Nat}{gg:TG}{gt:TT}{tm:TM}{td:En->Nat->α->(α->Nat->Prop)->Prop}{ρ:En}{σ:St}{H1:Hp}{n1:Nat}{acc:α}{R:α->Nat->Prop}
theorem zj_(hD:C.ext D)(U:C.hd≠some D)(am:AOk A)(sg:SpG K is gg g)(st:SpT K gt tt)(sm:SpM K C D (A C D) js tm td)(S:Stt K C ρ σ H1 n1)(his:∀j∈is,∀v,σ[j]?≠some (some v))(Y:∀j∈js,j∉is/\∀v,σ[j]?≠some (some v))(a1:A C D H1 acc){J:It}{ts:qD}{Q:Hp->Prop}
  (it:∀u,ExtD C.hd D H1 u->(∀a,Own C ρ σ a->u a≠none)->(∀(i:Nat) t,ts[i]?=some t->J.go i u/\∀x I,J.yld i u x I->Same u I/\Rep K C.hd (Own C ρ σ) I x t)/\J.stop ts.length u)
  (r:cGo g tt td ρ ts acc n1 R) (hq:∀l n' H',R l n'->ExtD C.hd D H1 H'->Hn K C.hd H' n'->A C D H' l->Q H'):Y7 gg gt tm σ J H1 Q:=by
 refine⟨ts.length,fun i u=>∃acc n2,cGo g tt td ρ (ts.drop i) acc n2 R/\A C D u acc/\ExtD C.hd D H1 u/\Hn K C.hd u n2,⟨acc,n1,r,a1,fun _ _ h _ _=>h,S.hnd⟩,?_⟩;rintro i u ⟨y,n2,c2,a2,L,h2⟩;have S2:=S.onX (fun a o N no=>L a o N (fun z=>no (S.hx a z)) fun z=>no (z▸hD)) (fun a N=>by by_cases z:a=D;rw[z];exact(am _ _ _ _ S.hx U a2).1;exact S.mut N h2 fun o ho U=>L a o ho U z) (fun a ks N _ nh2=>L a _ N nh2 fun z=>(am _ _ _ _ S.hx U a1).2.1 ks (z▸N)) h2;have itq:=it u L fun a=>S2.dom;refine⟨fun hi=>?_,fun hi=>?_⟩;subst hi;rw[rV]at c2;exact⟨itq.2,hq _ _ _ c2 L h2 a2⟩;rw[bZ hi]at c2;obtain⟨go,yl⟩:=itq.1 i _ (au hi);refine⟨go,fun x I hyd=>?_⟩;obtain⟨G,rx⟩:=yl x I hyd;refine sg C ρ σ I n2 x ts[i] _ _ (S2.on (Same.ext G) (h2.same G)) rx c2 fun ρ4 σ4 r4 S4 k4 hj hl=>⟨Wk.of hl.symm fun j v ej=>?_,?_⟩;by_cases z:j∈is;exact absurd ej (his j z v);rw[hj j z];exact ej;refine st C ρ4 σ4 I n2 _ _ S4 r4 fun b n5 H5 r5 e5 Z=>?_;have e25:ExtE C.hd u H5:=(Same.ext G).trans e5;have a5:=(am _ _ _ _ S.hx U a2).2.2 _ e25;have e15:ExtD C.hd D H1 H5:=fun a o h n m=>e25 a o (L a o h n m) n;cases b with
 | false=>exact iteF ⟨y,n5,by simpa using r5,a5,e15,Z⟩
 | true=>exact iteT (sm ρ4 σ4 H5 n5 y _ _ (S4.on e5 Z) (fun j hj' v=>by rw[hj j (Y j hj').1];exact(Y j hj').2 v) a5 (by simpa using r5) fun l n' H' r' e' h' a'=>⟨l,n',r',a',fun a o h n m=>e' a o (e15 a o h n m) n m,h'⟩)
end
def HM{α:Type}(X:Cx)(scope:fo)(own:List Str)(capt:List Nat)(nx:ag->Env->Sem Fin->Sem Fin)(A:Ctx->aj->Hp->α->Prop)(o:List Nat)(l:En->Nat->α->(α->Nat->Prop)->Prop):Prop :=
 ∃te:aj->TM,(∀D,Fam X scope own capt fun Y=>PM Y (nx (.ref D) Y.env) (te D))/\∀(C:Ctx) D,C.ext D->C.hd≠some D->SpM X.K C D (A C D) o (te D) l
section
variable{α:Type}{A:Ctx->aj->Hp->α->Prop}{a0:α}{js is2:List Nat}{e tg2 it2:aY}{L9:List aY}{Lu:Sem ag}{nx:ag->Env->Sem Fin->Sem Fin}{z:aj->HO->Prop}{td:En->Nat->α->(α->Nat->Prop)->Prop}{di2:DTA}{g2:DTG}{tt2:DTT}
theorem znf(am:AOk A)(hC:IsC e)(hc:X.calm=true)(hcl:(clausesOf e)[1]?=some ⟨tg2,it2,L9,0⟩)(hT:∀acc env,VA e 1 tg2 it2 L9 acc env (nx acc env))(hi2:Fam X scope own capt fun Y=>DI Y tg2 it2 di2)(hg2:Fam X scope own capt fun Y=>DG Y tg2 is2 g2)(I:Fam X scope own capt fun Y=>DTs Y L9 tt2)
  (U:∀(C:aj) (x:ag),foldedSetIterable it2 (compEnvC scope (ownCl X scope C) C X.env) x=pure x) (hm:HM X scope own capt nx A [] td):HM X scope own capt (nxN e 1 it2) A is2 (tdN di2 g2 tt2 td):=by
 obtain⟨wi,pi,hi⟩:=DI.fam hi2;obtain⟨gg,pg,hg⟩:=DG.fam hg2;obtain⟨gt,pt,ht⟩:=DTs.fam I;obtain⟨te,pm,hm⟩:=hm;refine⟨_,fun D C s₀ H₀ v=>zqZ hC rfl hc hcl (hT _ _) (U C) (pi C s₀ H₀ v) (pg C s₀ H₀ v) (pt C s₀ H₀ v) (pm D C s₀ H₀ v),fun C D Z y ρ σ H n acc N R S G a r hq=>?_⟩;refine hi C ρ σ H n _ _ S r fun ts n3 J H6 r6 e6 L it6=>?_;have S6:=S.on e6 L;exact zj_ Z y am hg ht (hm C D Z y) S6 G (fun j hj=>absurd hj (by simp)) ((am _ _ _ _ S.hx y a).2.2 _ e6) (fun H2 e dm=>it6 (Own C ρ σ) H2 (fun a o ha no=>e a o ha (fun z=>no (.inl (S.hx a z))) fun z=>no (.inl (z▸Z))) (fun _ _ _ z=>z) dm) r6 fun u n' H' r' e' h' a'=>hq u n' H' r' (e6.transD e') h' a'
theorem VV(am:AOk A)(az:∀C D H ho,z D ho->A C D (upd H D ho) a0)(hc:X.calm=true)(S:Jx scope own capt X)(k:Vr e tg iter ifs scope Lu nx)(na:NA X.prog X.w Lu z)(hi:DIL X tg iter di)(hg:Fam X scope own capt fun Y=>DG Y tg is g)(hin:∀i∈is,i<own.length)(ht:Fam X scope own capt fun Y=>DTs Y ifs tt)
  (hm:HM X scope own capt nx A js td) (hjs:∀j∈js,j<own.length/\j∉is) (hs:∀x,foldedSetIterable iter X.env x=pure x) :
  ∃te,PE X e te/\(∀{i:Nat} {x:Str} {L LZ:Pos},X.N.Nodup->X.N[i]?=some x->Loc X.env.scope x->swapsWith e (some (.Name x L)) LZ.line X.env=pure true->(X.fn x=true\/X.env.scope.names.lookup x=some .local)->PS X (.Assign [.Name x L] e LZ) (tAsg te (Uf i))) /\
   ∀(C:Ctx) (u:En) (σ:St) (H:Hp) (n:Nat) (Q:VK) (R:α->Nat->Prop),Stt X.K C u σ H n->(di u n fun ts n1=>cGo g tt td (JG own.length capt u) ts a0 n1 R) ->
    (∀acc n' H' D,R acc n'->ExtE C.hd H H'->Hn X.K C.hd H' n'->H D=none->¬Own C u σ D->A ⟨C.hd,fun a=>Own C u σ a\/a=D⟩ D H' acc->Q (.ref D) H')->te σ H Q:=by
 obtain⟨wi,pi,hi⟩:=hi;obtain⟨gg,pg,hgg⟩:=DG.fam hg;obtain⟨gt,pt,hgt⟩:=DTs.fam ht;obtain⟨te,pm,hte⟩:=hm;refine⟨_,zq7 hc S k na pi pg pt pm hs,fun hN hxi hx hsw hf=>zqW hc S k na pi pg pt pm hs hN hxi hx hsw hf,fun C u σ H n Q R St hd hq=>?_⟩;refine hi C u σ H n _ _ St hd fun ts n1 J H1 r e1 hn it=>fun D ho G hz=>?_;have hD:H D=none:=ZK e1 hn G;have nO:¬Own C u σ D:=fun z=>St.dom z hD;have U:C.hd≠some D:=fun z=>nO (.inl (St.hx D z));have a1:=az ⟨C.hd,fun a=>Own C u σ a\/a=D⟩ D H1 ho hz;have hx':∀a,C.hd=some a->Own C u σ a\/a=D:=fun a z=>.inl (.inl (St.hx a z));have up:∀{a o},H1 a=some o->a≠D/\upd H1 D ho a=some o:=fun I=>⟨Qp I G,by rw[Jh (Qp I G)];exact I⟩;obtain⟨I3,no3⟩:=znK (own:=own) (capt:=capt) (D:=D) St (e1.trans (ExtE.new G)) (hn.same (JM G)) hD (am ⟨C.hd,fun a=>Own C u σ a\/a=D⟩ D _ _ hx' U a1).1;have sn:∀j,j<own.length->∀v,(Qh own++capS capt σ)[j]?≠some (some v):=fun j Z v ej=>by
  rw[bV (by simpa using Z),aT]at ej;cases z:own[j]? with
  | none=>rw[z]at ej;cases ej
  | some q=>rw[z]at ej;cases ej
 refine zj_ (C:=⟨C.hd,fun a=>Own C u σ a\/a=D⟩) (.inr rfl) U am hgg hgt (hte _ D (.inr rfl) U) I3 (fun j Z=>sn j (hin j Z)) (fun j Z=>⟨(hjs j Z).2,sn j (hjs j Z).1⟩) a1 (fun H2 e dm=>?_) r fun acc' n' H' r' e' h' a'=>hq acc' n' H' D r' (fun a o I nh=>e' a o (up (e1 a o I nh)).2 nh (up (e1 a o I nh)).1) h' hD nO a';have itq:=it (fun a=>Own C u σ a\/a=D) H2 (fun a o I nh=>e a o (up I).2 nh (up I).1) (fun a o I no z=>z.elim no (up I).1) fun a z=>dm a (.inl z);refine⟨fun i t ht=>?_,itq.2⟩;obtain⟨go,yl⟩:=itq.1 i t ht;refine⟨go,fun x H3 y=>?_⟩;obtain⟨sm,rx⟩:=yl x H3 y;exact⟨sm,rx.mono (fun a o _ z=>z.elim id fun z=>absurd z (no3 a)) fun _ _ _ z=>z⟩
end
def AL(K:qF)(C:Ctx)(D:aj)(H:Hp)(acc:qD):Prop:=∃ys,H D=some (.lst ys)/\Reps K C.hd C.ext H ys acc
theorem Vs{K:qF}:AOk (AL K):=fun _ _ _ _ hx v ⟨ys,u,r⟩ =>
 ⟨.inl ⟨_,u⟩,fun ks z=>(by rw[u]at z;cases z),fun H' e=>⟨ys,e _ _ u v,r.mono (fun _ _ _ z=>z) fun a o no x=>e a o x fun z=>no (hx a z)⟩⟩
def nxL(elt:aY)(acc:ag)(env:Env)(k:Sem Fin):Sem Fin:=do
 (do let _ <- call (.builtin "list.append") [acc,<- eval elt env])
 k
theorem zji{l:List o6}:IsC (.ListComp elt l scope pos):=fun _ _ _ _ _ _ _=>⟨⟨rfl,rfl⟩,⟨rfl,rfl⟩,rfl⟩
theorem zp2{P:aL}{w:aZ}:NA P w (newList []) fun _ o=>o=.lst []:=fun A E s Q _ h=>aX (h _ rfl fun h' e=>⟨_,rfl,fun H'=>⟨cO _,[],0,.nil,e⟩⟩)
theorem zqq{K:qF}(C:Ctx)(D:aj)(H:Hp)(o:HO)(h:o=.lst []):AL K C D (upd H D o) []:=⟨[],by rw[h];exact JE,.nil⟩
theorem zp9(he:Fam X scope own capt fun Y=>DE Y elt te):HM X scope own capt (nxL elt) (AL X.K) [] (tdL te):=by obtain⟨ge,pe,G⟩:=DE.fam he;refine⟨fun D σ H N=>ge σ H fun v J=>∃ys,J D=some (.lst ys)/\ys.length<sizeLine/\N (upd J D (.lst (ys++[v]))),fun D C s₀ H₀ fp pins s σ H N k Q E I h hk=>?_,fun C D hD Z ρ σ H n acc N R S _ a r hq=>?_⟩;refine aa (aa (cz (pe C s₀ H₀ fp pins s σ H _ I h) (fun y s9 ⟨v,H9,I9,r9,ys,u,hl,q9⟩=>aa ?_) fun _ _ z=>z.elim));refine cz (zh2 (X:=QN X scope own capt C s₀ H₀ fp) _ s9 σ H9 (.ref D) [v] _ [y] (fun _ H'=>H'=upd H9 D (.lst (ys++[v]))) I9 rfl (.cons r9 .nil) ⟨_,ys,v,rfl,rfl,u,hl,rfl⟩) (fun _ s10 ⟨_,H10,L,_,U⟩=>?_) fun _ _ z=>z.elim;subst U;exact ae (hk _ _ L q9);refine G C ρ σ H n _ _ S r fun t n6 v J r6 e6 x q6=>?_;obtain⟨ys,u,rs⟩:=(Vs _ _ _ _ S.hx Z a).2.2 _ e6;refine⟨ys,u,by rw[rs.length];exact r6.1,hq _ n6 _ r6.2 (fun b o hb nb ne=>by rw[Jh ne];exact e6 b o hb nb) (Hn.updR Z (.inl ⟨_,u⟩) x) ⟨_,JE,?_⟩⟩;exact(rs.append (.cons (q6.mono (fun _ _ _ z=>.inl z) fun _ _ _ z=>z) .nil)).mono (fun _ _ _ z=>z) fun a o no ha=>by rw[Jh (show a≠D from fun z=>no (z▸hD))];exact ha
def zvn(K:qF)(te:TE)(d:DTA):Prop:=∀(C:Ctx) (o:En) (σ:St) (H:Hp) (n:Nat) (Q:VK) (R:List af->Nat->Prop),Stt K C o σ H n->d o n R ->
 (∀ts u p vs H',R ts u->ExtE C.hd H H'->Hn K C.hd H' u->H p=none->H' p=some (.lst vs)->Reps K C.hd (fun a=>Own C o σ a\/a=p) H' vs ts->Q (.ref p) H')->te σ H Q
theorem zku(hc:X.calm=true)(S:Jx scope own capt X)(hi:DIL X tg iter di)
  (hg:Fam X scope own capt fun Y=>DG Y tg is g) (v:∀i∈is,i<own.length) (ht:Fam X scope own capt fun Y=>DTs Y ifs tt) (he:Fam X scope own capt fun Y=>DE Y elt te) (G:∀x,foldedSetIterable iter X.env x=pure x) :
  ∃ge,PE X (.ListComp elt [⟨tg,iter,ifs,0⟩] scope pos) ge/\(∀{i:Nat} {x:Str} {u y:Pos},X.N.Nodup->X.N[i]?=some x->Loc X.env.scope x->swapsWith (.ListComp elt [⟨tg,iter,ifs,0⟩] scope pos) (some (.Name x u)) y.line X.env=pure true->(X.fn x=true\/X.env.scope.names.lookup x=some .local)->PS X (.Assign [.Name x u] (.ListComp elt [⟨tg,iter,ifs,0⟩] scope pos) y) (tAsg ge (Uf i)))/\zvn X.K ge (dComp own.length capt di g tt te):=by
 obtain⟨ge,p,q,Z⟩:=VV (e:=.ListComp elt [⟨tg,iter,ifs,0⟩] scope pos) Vs zqq hc S ⟨zji,⟨_,rfl⟩,fun _ _ _=>rfl,fun _=>⟨_,rfl⟩,fun _ _=>⟨_,rfl⟩⟩ zp2 hi hg v ht (zp9 he) (fun j hj=>absurd hj (by simp)) G;exact⟨ge,p,q,fun C J σ H n Q R St hd I=>Z C J σ H n Q R St hd fun acc n' H' D r e h U _ ⟨ys,hy,rs⟩=>I acc n' D ys H' r e h U hy rs⟩
theorem zr5(hc:X.calm=true)(S:Jx scope own capt X)(hi:DIL X tg iter di)
  (u:Fam X scope own capt fun Y=>DG Y tg is g) (l:∀i∈is,i<own.length) (y:Fam X scope own capt fun Y=>DTs Y ifs tt) (he:Fam X scope own capt fun Y=>DE Y elt te)
  (v:∀x,foldedSetIterable iter X.env x=pure x:=by intro _;rfl):DN X (.ListComp elt [⟨tg,iter,ifs,0⟩] scope pos) (dComp own.length capt di g tt te) :=
 let ⟨_,p,_,sp⟩:=zku hc S hi u l y he v
 ⟨_,p,sp⟩
def DNA(X:Cx)(x:Str)(l:Pos)(e:aY)(pos:Pos)(i:Nat)(d:DTA):Prop:=∃te,PS X (.Assign [.Name x l] e pos) (tAsg te (Uf i))/\zvn X.K te d
theorem zkl{x:Str}{u I:Pos}{i:Nat}(R:X.N.Nodup)(y:X.N[i]?=some x)(hx:Loc X.env.scope x)(hc:X.calm=true)(S:Jx scope own capt X)(hi:DIL X tg iter di)
  (U:Fam X scope own capt fun Y=>DG Y tg is g) (G:∀i∈is,i<own.length) (Z:Fam X scope own capt fun Y=>DTs Y ifs tt) (he:Fam X scope own capt fun Y=>DE Y elt te)
  (J:∀x,foldedSetIterable iter X.env x=pure x:=by intro _;rfl) (v:swapsWith (.ListComp elt [⟨tg,iter,ifs,0⟩] scope pos) (some (.Name x u)) I.line X.env=pure true:=by rfl)
  (hf:X.fn x=true\/X.env.scope.names.lookup x=some .local:=by walk_at "F") :
  DNA X x u (.ListComp elt [⟨tg,iter,ifs,0⟩] scope pos) I i (dComp own.length capt di g tt te) :=
 let ⟨_,_,q,sp⟩:=zku hc S hi U G Z he J
 ⟨_,q R y hx v hf,sp⟩
theorem znp{x:Str}{o y:Pos}{e:aY}{i:Nat}{d:DTA}(h:DNA X x o e y i d):DS X (.Assign [.Name x o] e y) (sSet i (dNew d)):=by obtain⟨Y,pa,h⟩:=h;refine⟨_,pa,fun C I σ H n D U S hd g=>?_⟩;refine h C I σ H n _ _ S hd fun ts L p vs H' r v h1 G R J=>?_;exact g.nx _ _ H' L r ((S.on v h1).put (.lst R (S.free G|> fun z=>z) (J.mono (fun _ _ _ z=>.inl z) fun _ _ _ z=>z))) (v.keep.trans U1)
end
def VG(K:qF):Sp:=fun vs H Q _=>∃(a:aj) (ns:List Int) (k:Int),vs=[.ref a,.int k]/\SqL K H a (ns.map V.int)/\ns.length<=63/\0<=k/\k<=100 /\
 ∀hd H',H hd=none->Zq H' hd 0->Same H H'->Q (.ref hd) H'
def zvm(hd:aj)(H H':Hp):Prop:=∀b o,H b=some o->b≠hd->H' b=some o
def zpT:Sp:=fun vs H Q _=>∃(hd:aj) (many n:Int),vs=[.ref hd,.int many]/\Zq H hd n/\n<=1000000000000/\0<many/\many<2 ^ 128 /\
 ∀(r:Int) H',0<=r->r<many->Zq H' hd (n+1)->zvm hd H H'->Q (.int r) H'
def UJ:GD:=fun ts n R=>match ts with
 | [h,.int many]=>h=HAND/\0<many/\many<2 ^ 128/\n<=1000000000000/\∀r:Int,0<=r->r<many->R (.int r) (n+1)
 | _=>False
theorem zoq{K:qF}(vs:List V)(H:Hp)(Q:VK)(E:XK)(h:spD K 2 UJ vs H Q E):zpT vs H Q E:=by
 obtain⟨hd,O,ts,n,R,r,J,dom,hx,hl,g,I⟩:=h;unfold UJ at g;split at g;rename_i x many;obtain⟨rfl,m0,U,L,g⟩:=g;cases r with
 | cons y r =>
  cases r with
  | cons Y r =>
   cases r;obtain⟨a,rfl,u⟩:=y.handI;rw[Y.intI];have N:Zq H a n:=(J a u).elim (·.1) fun z=>by have:=z.1;omega
   refine⟨a,many,n,rfl,N,by omega,m0,U,fun q H' Z C x S=>?_⟩;refine I _ (n+1) _ H' (g q Z C) (fun b o G nb=>S b o G fun z=>nb (by rw[u,z])) (fun b v=>?_) (.int _);rw[u]at v;cases v;exact .inl ⟨x,by omega⟩
 exact g.elim
def zsQ:Option (Option Cell)->(List af->Prop)->Prop
 | some (some (.val (.dict [(.none,.list ts)]))),R=>R ts
 | _,_=>False
def JI(u:En):En:=match (u[(0:Nat)]?:Option (Option Cell)) with
 | some (some (.val (.dict [(.none,.list ts)])))=>some (.val (.dict [(.none,.list ts)]))::fT (u.length - 1) none
 | _=>fT u.length none
def intOf:Option (Option Cell)->(Int->Prop)->Prop
 | some (some (.val (.int k))),R=>R k
 | _,_=>False
def Yi(i j:Nat)(u:DTS):DTS:=fun D y n=>zsQ y[0]? fun ts=>intOf y[j]? fun k=>(∃ns:List Int,ts=ns.map bS/\ns.length<=63)/\0<=k/\k<=100 /\
 u { nx:=fun x _=>D.nx (JI x) n,rt:=fun t _=>∃b,t=.bool b/\D.rt t n,bk:=fun x _=>D.bk (JI x) n,ct:=fun x _=>D.ct (JI x) n } (((JI y).set j (some (.val (.int k)))).set i (some (.val HAND))) 0
theorem UR(h:(JI ρ)[i]?=some (some c)):i=0/\ρ[0]?=some (some c)/\∃ts,c=.val (.dict [(.none,.list ts)]):=by
 unfold JI at h;split at h;rename_i ts e;cases i with
 | zero=>simp at h;subst h;exact⟨rfl,e,ts,rfl⟩
 | succ i =>rw[dO,eV]at h;split at h <;> cases h
 rw[eV]at h;split at h <;> cases h
theorem zpv:(JI ρ).length=ρ.length:=by
 unfold JI;split;rename_i ts e;cases ρ with
 | nil=>simp at e
 | cons a r=>simp
 simp
theorem zg2:¬OwnS (JI ρ) σ a:=fun⟨i,ds,m,h,_⟩=>by obtain⟨_,_,ts,e⟩:=UR h;subst e;cases m
theorem Rep.scrHd{K:qF}{hd C:Option aj}{O G:aj->Prop}{H H':Hp}{v:V}{ts:qD}(h:Rep K hd O H v (.dict [(.none,.list ts)]))(y:∀a o,H a=some o->¬O a->H' a=some o/\¬G a):Rep K C G H' v (.dict [(.none,.list ts)])/\∃ns:List Int,ts=ns.map bS:=by
 generalize e:(sD [(oo,xP ts)])=t at h;cases h with
 | @scr a ns h1 o =>
  have x:ts=ns.map bS:=by simpa[SCR] using e
  subst x;refine⟨?_,ns,rfl⟩;rcases h1 with h1|⟨u,h1⟩;exact .scr (.inl (y a _ h1 o).1) (y a _ h1 o).2;exact .scr (.inr ⟨u,(y a _ h1 o).1⟩) (y a _ h1 o).2
 | @scrS a ns h1 =>
  have x:ts=ns.map bS:=by simpa[SCR] using e
  subst x;exact⟨.scrS h1,ns,rfl⟩
 | hand _=>simp[HAND]at e
 | dct _ _=>cases e
 | dcK _ _ _ x=>cases e;exact(dict_noK x).elim
 | dcT _ _ _ x=>cases e;exact(dict_noT x).elim
 | _=>cases e
theorem Stt.drop{K:qF}{C y:Ctx}{l:En}{σ:St}{H H':Hp}{n G:Nat}(S:Stt K y l σ H n)(L:Hn K C.hd H' G)(R:∀a,C.ext a->MutO (H' a))(hx:∀a,C.hd=some a->C.ext a)
  (u:∀a o,H a=some o->¬Own y l σ a->H' a=some o/\¬C.ext a):Stt K C (JI l) σ H' G where
 len:=by rw[zpv];exact S.len
 val:=fun i d h=>by obtain⟨rfl,J,ts,I⟩:=UR h;cases I;obtain⟨v,h1,N⟩:=S.val 0 _ J;exact⟨v,h1,(N.scrHd fun a o x no=>⟨(u a o x no).1,fun z=>z.elim (u a o x no).2 zg2⟩).1⟩
 own:=fun i ds h=>by obtain⟨_,_,ts,e⟩:=UR h;cases e
 dct:=fun i ds h=>by obtain⟨_,_,ts,e⟩:=UR h;cases e
 rdo:=fun i ds h=>by obtain⟨_,_,ts,e⟩:=UR h;cases e
 dtt:=fun i ds h=>by obtain⟨_,_,ts,e⟩:=UR h;cases e
 dif:=fun i j ds es a m _ h=>by obtain⟨_,_,ts,e⟩:=UR h;subst e;cases m
 hnd:=L
 ext:=R
 hx:=hx
section
variable{X:Cx}{st:fc}{sts:List fc}{ps:List Str}{f:aj}{fd:dM}{u:DTS}{x s kx hx:Str}{pos pos' p p1 p2 p3:Pos}{k:Nat}
theorem zpt{i j:Nat}(D:Bd.Def X.K X.mg hx st ps f fd)(G:FnOk X.prog X.w X.K X.mg X.base CX0 k f fd ps (VG X.K))(hr:Room k X.A)(hN:X.N.Nodup)(hi:X.N[i]?=some x)(hlx:Loc X.env.scope x)(hu:DSs X sts u)(hij:i≠0:=by decide)(hj0:j≠0:=by decide)(hji:j≠i:=by decide)
  (h0:X.N[0]?=some s:=by rfl) (hj:X.N[j]?=some kx:=by rfl) (hv0:Vis X.env.scope s:=by walk_at "V") (hvj:Vis X.env.scope kx:=by walk_at "V")
  (hd0:(s == ("__debug__":Str))=false:=by rfl) (MA:(s == ("__classdict__":Str))=false:=by rfl) (hdj:(kx == ("__debug__":Str))=false:=by rfl) (MB:(kx == ("__classdict__":Str))=false:=by rfl) (hg:Gl X hx:=by rfl) (hdb:(hx == ("__debug__":Str))=false:=by rfl)
  (hs:swapsWith (.Call (.Name hx p) [.Name s p1,.Name kx p2] [] p3) (some (.Name x pos')) pos.line X.env=pure false:=by rfl) (hf:X.fn x=true\/X.env.scope.names.lookup x=some .local:=by walk_at "F") :
  DSs X (.Assign [.Name x pos'] (.Call (.Name hx p) [.Name s p1,.Name kx p2] [] p3) pos::sts) (Yi i j u):=by
 obtain⟨tu,pu,hu⟩:=hu;refine⟨_,QB (Qx hN hi hlx (Bd.zq6 D G hr (Qd (Qb h0 hv0 hd0 MA) (Qd (Qb hj hvj hdj MB) QF rfl) rfl) hg hdb) hs hf) pu,fun C ρ σ H n Dn D' S hd g=>?_⟩;unfold Yi zsQ at hd;split at hd;rename_i ts e0;unfold intOf at hd;split at hd;rename_i Y ej;obtain⟨⟨ns,rfl,hl⟩,k0,k1,hd⟩:=hd;obtain⟨v0,s0,r0⟩:=S.val 0 _ e0;obtain⟨vj,sj,rj⟩:=S.val j _ ej;obtain⟨a0,rfl,sq0⟩:=r0.scrI;rw[rj.intI]at sj;refine⟨_,s0,_,sj,?_⟩;refine⟨a0,ns,Y,rfl,sq0,hl,k0,k1,fun h H1 U hok L=>?_⟩;have S1:=S.on (Same.ext L:ExtE C.hd H H1) (S.hnd.same L);have nx:¬Own C ρ σ h:=fun z=>S.dom z U;have Sd:Stt X.K ⟨some h,fun a=>C.ext a\/a=h⟩ (JI ρ) σ H1 0:=S.drop (fun a Z=>by cases Z;exact .inl ⟨hok,by decide⟩) (fun a z=>z.elim (fun z=>S1.ext a z) fun z=>by subst z;obtain⟨_,_,_,q,_⟩:=hok;exact .inl ⟨_,q⟩) (fun a Z=>.inr (by cases Z;rfl))
  (fun a o I no=>⟨L a o I,fun z=>z.elim (fun z=>no (.inl z)) fun z=>by subst z;rw[U]at I;cases I⟩)
 have Sd2:=(Sd.put (i:=j) (t:=.int Y) (v:=.int Y) (.int Y)).put (i:=i) (t:=HAND) (v:=.ref h) (.hand rfl);have MC:∀a,¬OwnS (((JI ρ).set j (some (.val (.int Y)))).set i (some (.val HAND))) ((σ.set j (some (.int Y))).set i (some (.ref h))) a:=fun a z=>zg2 (VQ (VQ z));have es:(σ.set j (some (V.int Y)))=σ:=by
  apply mH;intro q;by_cases z:j=q;subst z;have:j<σ.length:=by rcases bG j σ.length with w|w;exact w;rw[bO w]at sj;cases sj
  rw[zl1 this,sj];rw[dJ z]
 rw[es]at Sd2 MC;refine hu _ _ _ H1 0 _ _ Sd2 hd ?_;have back:∀{y σ' H' n'},Stt X.K ⟨some h,fun a=>C.ext a\/a=h⟩ y σ' H' n'->(∀a o,H1 a=some o->some h≠some a->H' a=some o)->Stt X.K C (JI y) σ' H' n:=fun {y σ' H' n'} S' kp =>
  S'.drop (fun a Z=>by
    rcases S.hnd a Z with⟨⟨d,m,t,q,rest⟩,l⟩|⟨l,q⟩;exact .inl ⟨⟨d,m,t,kp a _ (L _ _ q) (fun z=>by cases z;rw[U]at q;cases q),rest⟩,l⟩;exact .inr ⟨l,q.same fun b o e=>kp b _ (L _ _ e) (fun z=>by cases z;rw[U]at e;cases e)⟩)
   (fun a z=>by rcases S.ext a z with⟨xs,q⟩|⟨xs,q⟩|⟨b,q⟩;exact .inl ⟨xs,kp a _ (L _ _ q) (fun z=>by cases z;rw[U]at q;cases q)⟩;exact .inr (.inl ⟨xs,kp a _ (L _ _ q) (fun z=>by cases z;rw[U]at q;cases q)⟩);exact .inr (.inr ⟨b,kp a _ (L _ _ q) (fun z=>by cases z;rw[U]at q;cases q)⟩)) S.hx (fun a o I no=>⟨I,fun z=>no (.inl (.inl z))⟩)
 have R:∀{y σ' H'},Keep ⟨some h,fun a=>C.ext a\/a=h⟩ (((JI ρ).set j (some (.val (.int Y)))).set i (some (.val HAND))) (σ.set i (some (.ref h))) H1 y σ' H'->∀a o,H1 a=some o->some h≠some a->H' a=some o:=fun k a o I na=>(k a o I na (MC a)).1;have kp2:∀{y σ' H'},Keep ⟨some h,fun a=>C.ext a\/a=h⟩ (((JI ρ).set j (some (.val (.int Y)))).set i (some (.val HAND))) (σ.set i (some (.ref h))) H1 y σ' H'->Keep C ρ σ H (JI y) σ' H':=fun k a o I _ _=>⟨R k a o (L a o I) (fun z=>by cases z;rw[U]at I;cases I),zg2⟩;refine⟨fun y σ' H' n' h' S' J=>g.nx _ _ H' n h' (back S' (R J)) (kp2 J),fun t n' v H' h' hn' J rp=>?_,fun y σ' H' n' h' S' J=>g.bk _ _ H' n h' (back S' (R J)) (kp2 J),fun y σ' H' n' h' S' J=>g.ct _ _ H' n h' (back S' (R J)) (kp2 J),fun _ _ _ h=>h.elim⟩;obtain⟨b,rfl,h'⟩:=h';rw[rp.blI];have kq:∀a o,H a=some o->H' a=some o:=fun a o I=>J a o (L a o I) (fun z=>by cases z;rw[U]at I;cases I) (MC a);refine g.rt _ n _ H' h' (fun a Z=>?_) (fun a o I _ _=>kq a o I) (.bl b);rcases S.hnd a Z with⟨⟨d,m,t,q,rest⟩,l⟩|⟨l,q⟩;exact .inl ⟨⟨d,m,t,kq a _ q,rest⟩,l⟩;exact .inr ⟨l,q.same kq⟩;exact hd.elim;exact hd.elim
end
def zqw(K:qF):Sp:=fun vs H Q _=>∃(a:aj) (ns:List Int),vs=[.ref a]/\SqL K H a (ns.map V.int)/\ns.length<=63/\∀H',Q (.bl true) H'
def zuV:GD:=fun ts n R=>∃ns:List Int,ts=[SCR ns]/\ns.length<=63/\∀u,R (.bool true) u
theorem zrw{K:qF}(vs:List V)(H:Hp)(Q:VK)(E:XK)(h:zqw K vs H Q E):spD K 1 zuV vs H Q E:=by obtain⟨a,ns,rfl,sq,x,q⟩:=h;refine⟨none,fun _=>False,[SCR ns],0,fun t _=>t=.bool true,.cons ?_ .nil,(fun a e=>by cases e),(fun a z=>z.elim),(fun a e=>by cases e),rfl,⟨ns,rfl,x,fun _=>rfl⟩,fun t C v H' y _ _ u=>?_⟩;rcases sq with sq|sq;exact .scr sq (fun z=>z);exact .scrS fun _=>.inr sq;subst y;rw[u.blI];exact q H'
section
variable{env:Env}{es:List aY}{a b:aY}{l1 l2:List aY}{p:Pos}{x:Str}
theorem Jt:starEach (.Name x p::es) env=(false,eval (.Name x p) env)::starEach es env:=rfl
theorem zlS{j}:starEach (.Constant (.int i) j p::es) env=(false,eval (.Constant (.int i) j p) env)::starEach es env:=rfl
theorem UT{c d}:starEach (.Call a l1 c d::es) env=(false,eval (.Call a l1 c d) env)::starEach es env:=rfl
theorem Zt{o}:starEach (.BinOp a o b p::es) env=(false,eval (.BinOp a o b p) env)::starEach es env:=rfl
theorem Ut{g s}:starEach (.ListComp a g s p::es) env=(false,eval (.ListComp a g s p) env)::starEach es env:=rfl
end
section
variable{C:Int->Int->Prop}{f:Int->Int->Int}{fb:Int->Int->Bool}{i j k:Int}{R:af->Prop}{Rb:Bool->Prop}{xs ys:qD}{s t:Str}{a b:Bool}{u v:af}
theorem l_gI:gI C f (.int i) (.int j) R=(C i j/\R (.int (f i j))):=propext aU
theorem Ze:gI0 f (.int i) (.int j) R=R (.int (f i j)):=propext aU
theorem Yv:oAdd (.int i) (.int j) R=R (.int (i+j)):=propext aU
theorem Yb:oEq (.int i) (.int j) R=R (.bool (decide (i=j))):=propext aU
theorem Yc:oEq (.tuple xs) (.tuple ys) R=(Okd (.tuple xs)/\Okd (.tuple ys)/\R (.bool (gq (.tuple xs) (.tuple ys)))):=propext aU
theorem Yp:oNe (.int i) (.int j) R=R (.bool (!decide (i=j))):=propext aU
theorem Yr:oNe (.tuple xs) (.tuple ys) R=(Okd (.tuple xs)/\Okd (.tuple ys)/\R (.bool (!PyData.eqv (.tuple xs) (.tuple ys)))):=propext aU
theorem Yq:oNe (.list xs) (.list ys) R=(Okd (.list xs)/\Okd (.list ys)/\R (.bool (!PyData.eqv (.list xs) (.list ys)))):=propext aU
theorem Yd:oIs u .none R=R (.bool (isNone u)):=by cases u <;> exact propext aU
theorem YS:oIsN (.bool a) (.bool b) R=R (.bool (a != b)):=propext aU
theorem YT:oIsN u .none R=R (.bool (!isNone u)):=by cases u <;> exact propext aU
theorem Ym:oLtA (.int i) (.int j) R=R (.bool (decide (i<j))):=propext aU
theorem Yl:oLeA (.int i) (.int j) R=R (.bool (decide (i<=j))):=propext aU
theorem Zf(h:atI xs i=some x):oIx (.list xs) (.int i) R=R x:=by show(match atI xs i with|some t=>R t|none=>False)=_;rw[h]
theorem Vy(h:atI xs i=some x):oIx (.tuple xs) (.int i) R=R x:=by show(match atI xs i with|some t=>R t|none=>False)=_;rw[h]
theorem Yy:oIx (.tuple (u::xs)) (.int 0) R=R u:=Vy (by unfold atI ixN;simp)
theorem Yz:oIx (.tuple (u::v::xs)) (.int 1) R=R v:=Vy (by unfold atI ixN;simp;rw[if_pos (by omega)];rfl)
theorem Yw:oIx (.list (u::xs)) (.int 0) R=R u:=Zf (by unfold atI ixN;simp)
theorem Yx:oIx (.list (u::v::xs)) (.int 1) R=R v:=Zf (by unfold atI ixN;simp;rw[if_pos (by omega)];rfl)
theorem YA:truD (.bool a) Rb=Rb a:=propext aU
theorem YH:truD (.list xs) Rb=Rb (!xs.isEmpty):=propext aU
theorem YI:truD (.tuple xs) Rb=Rb (!xs.isEmpty):=propext aU
theorem U9:bolD (.bool a) Rb=Rb a:=propext aU
theorem Yo:bMin [.int i,.int j] R=R (.int (if j<i then j else i)):=propext aU
theorem Yn:bMax [.int i,.int j] R=R (.int (if j > i then j else i)):=propext aU
theorem U8:bAbs [.int i] R=R (.int (if i<0 then -i else i)):=propext aU
theorem YW:Zs [.list xs] R=R (.tuple xs):=propext aU
theorem YU:JN (.list xs) Rl=Rl xs:=propext aU
theorem YV:JN (.tuple xs) Rl=Rl xs:=propext aU
theorem zt4(y:String)(h:y∈["NoneType","bool","int","str","list","tuple","dict"]):kitB y "int" = some (decide (y = "int")||decide (y = "bool")):=by simp only[ay,a8,or_false]at h;rcases h with rfl|rfl|rfl|rfl|rfl|rfl|rfl <;> decide +kernel
theorem zry(y:String)(h:y∈["NoneType","bool","int","str","list","tuple","dict"]):kitB y "bool" = some (decide (y = "bool")):=by simp only[ay,a8,or_false]at h;rcases h with rfl|rfl|rfl|rfl|rfl|rfl|rfl <;> decide +kernel
theorem zo_(y:String)(h:y∈["NoneType","bool","int","str","list","tuple","dict"]):kitB y "tuple" = some (decide (y = "tuple")):=by simp only[ay,a8,or_false]at h;rcases h with rfl|rfl|rfl|rfl|rfl|rfl|rfl <;> decide +kernel
def Pln(t:af):Prop:=tyN t≠none
def isInt:af->Bool|.int _=>true|.bool _=>true|_=>false
def isBool:af->Bool|.bool _=>true|_=>false
def isTup:af->Bool|.tuple _=>true|_=>false
variable{d:DTE}{ρ:En}{n:Nat}{Rn:qN}
theorem ziM(h:tyN u=some y):y∈["NoneType","bool","int","str","list","tuple","dict"]:=by unfold tyN at h;split at h <;> cases h <;> simp
def isiD(f:af->Bool)(d:DTE):DTE:=fun ρ n R=>d ρ n fun t x=>Pln t/\R (.bool (f t)) x
end
section
variable{X:Cx}{e:aY}{d:DTE}{p p2 pos:Pos}
theorem UQ(hk:∀t y,tyN t=some y->kitB y T=some (f t))(hm:X.mg "isinstance" = none) (u:X.mg y=none) (Z:bootBuiltins y=some (.type T)) (h:DL X e d) (L:starEach (e::[.Name y p2]) X.env=(false,eval e X.env)::starEach [.Name y p2] X.env) (hg:Gl X "isinstance":=by rfl) (o:Gl X y:=by rfl) (Y:y ≠ "__name__":=by decide) (hd:(y == ("__debug__":Str))=false:=by rfl) :
  DE X (.Call (.Name "isinstance" p) [e,.Name y p2] [] pos) (isiD f d):=by
 obtain⟨ta,pa,h⟩:=h;refine⟨_,Ye znW hm zpI (Qd pa (zrb (Bd.zwS u Z o Y hd) QF) L) hg,fun C G σ H n Q R S hd U=>?_⟩;refine h C G σ H n _ _ S hd fun t n1 v H1 x I h1 J=>?_;cases et:tyN t with
 | none=>exact absurd et x.1
 | some z=>exact⟨v,C.hd,Own C G σ,t,T,z,f t,rfl,J,et,hk t z et,U _ n1 _ H1 x.2 I h1 (.bl _)⟩
theorem zuQ:∀t y,tyN t=some y->kitB y "int" = some (isInt t):=fun t y e=>by rw[zt4 y (ziM e)];unfold tyN at e;split at e <;> cases e <;> rfl
theorem zrT:∀t y,tyN t=some y->kitB y "bool" = some (isBool t):=fun t y e=>by rw[zry y (ziM e)];unfold tyN at e;split at e <;> cases e <;> rfl
theorem Z8:∀t y,tyN t=some y->kitB y "tuple" = some (isTup t):=fun t y e=>by rw[zo_ y (ziM e)];unfold tyN at e;split at e <;> cases e <;> rfl
theorem Ub:Pln (.int i):=by simp[Pln,tyN]
theorem Ua:Pln (.bool i):=by simp[Pln,tyN]
theorem Us:Pln (.str i):=by simp[Pln,tyN]
theorem Uz:Pln (.tuple i):=by simp[Pln,tyN]
theorem Ux:Pln (.list i):=by simp[Pln,tyN]
theorem Uy:Pln .none:=by simp[Pln,tyN]
theorem UD:Pln (.dict []):=by simp[Pln,tyN]
end
abbrev blk(i h:Int):af:=.tuple [.int i,.int h]
theorem UW:Okd (.tuple [.int i,.int h]):=⟨by simp[iY,gR],by simp[lA,iF]⟩
theorem zpq:gq (.tuple [.int i,.int h]) (.tuple [.int j,.int g])=(decide (i=j)&&decide (h=g)):=by simp only[gq,o7,vg];rw[nV,nV]
def IsBk(bits i h:Int):Prop:=0<=h/\h<=bits/\∃k:Int,0<=k/\i=k*2 ^ h.toNat/\k<2 ^ (bits - h).toNat
theorem ZW(k:Nat):(0:Int)<2 ^ k:=Bd.Qc k
theorem zjX:(2:Int) ^ (a+b)=2 ^ a*2 ^ b:=gX 2 a b
theorem IsBk.bounds(v:0<=bits)(H:IsBk bits i h):0<=i/\i+2 ^ h.toNat<=2 ^ bits.toNat:=by
 obtain⟨h0,h1,k,l,rfl,u⟩:=H;have p:=ZW h.toNat;refine⟨Int.mul_nonneg l (eQ p),?_⟩;have e:bits.toNat=(bits - h).toNat+h.toNat:=by lia
 rw[e,zjX];have:(k+1)*2 ^ h.toNat<=2 ^ (bits - h).toNat*2 ^ h.toNat:=bP (by lia) (eQ p);rw[dP,cx]at this;exact this
theorem cpow(h0:0<=j)(h1:j<=1000000):CPow 1 j:=⟨h0,h1,by decide⟩
section
variable{t u tb:DTS}{D:JF}{ρ ρ0:En}{n i j m:Nat}{d da db dc d1 d2:DTE}{ds di:DTA}{c c' tt:DTT}{g:G2}{g':G2}{gc:GC}{gd:GD}{tg:DTG}{tgs:DTGs}{R:qN}{Rb:Bool->Nat->Prop}{Rl:List af->Nat->Prop}{Re:En->Prop}{x y:af}{xs ys acc:qD}{f:Int->Int->Int}{fb:af->Bool}{k:Bool}{capt:List Nat}{h:Option Cell}
theorem ZA:(sSeq t u D ρ n)=(t { D with nx:=u D } ρ n):=propext aU
theorem Zz:(sRet d D ρ n)=(d ρ n fun t l=>D.rt t l):=propext aU
theorem ZB:(sSet i d D ρ n)=(d ρ n fun t o=>D.nx (ρ.set i (some (.val t))) o):=propext aU
theorem Zy:(sAsg d tg D ρ n)=(d ρ n fun t o=>tg t ρ fun l=>D.nx l o):=propext aU
theorem u_dC:(dC x ρ n R)=(R x n):=propext aU
theorem Zh:(dOp g da db ρ n R)=(da ρ n fun x o=>db ρ o fun y l=>g x y fun z=>R z l):=propext aU
theorem Zu:(dNew ds ρ n R)=(ds ρ n fun ts o=>R (.list ts) o):=propext aU
theorem Zw:(dTup ds ρ n R)=(ds ρ n fun ts o=>R (.tuple ts) o):=propext aU
theorem Zv:(dNil ρ n Rl)=(Rl [] n):=propext aU
theorem ZQ:(J1 d ds ρ n Rl)=(d ρ n fun t o=>ds ρ o fun ts l=>Rl (t::ts) l):=propext aU
theorem Zg:(dFn gd ds ρ n R)=(ds ρ n fun ts l=>gd ts l R):=propext aU
theorem Z1:(Zk gc ds ρ n R)=(ds ρ n fun ts l=>gc ts fun z=>R z l):=propext aU
theorem Z3:(JX i x ρ Re)=(Re (ρ.set i (some (.val x)))):=propext aU
theorem ZS:(Ui tgs (.tuple xs) ρ Re)=(tgs xs ρ Re):=propext aU
theorem ZR:(Uh [] ρ Re)=(Re ρ):=propext aU
theorem Z2:(Qy tg tgs (x::xs) ρ Re)=(tg x ρ fun l=>tgs xs l Re):=propext aU
def cVal:Option Cell->(af->Prop)->Prop
 | some (.val d),R=>R d
 | _,_=>False
def cOwn:Option Cell->(List af->Prop)->Prop
 | some (.own d),R=>R d
 | _,_=>False
theorem ZH:cVal (some (.val x)) Q=Q x:=propext aU
theorem Zx:dVar i ρ n R=cVal (ρ.getD i none) fun d=>R d n:=by
 unfold dVar;rw[bf];cases e:ρ[i]? with
 | none=>exact propext aU
 | some o=>cases o with
  | none=>exact propext aU
  | some c=>cases c <;> exact propext aU
theorem YR:U5 d ρ n Rb=(d ρ n fun t l=>bolD t fun b=>Rb b l):=by unfold U5;congr 1;funext t l;cases t <;> exact propext aU
def lLst:af->(List af->Prop)->Prop
 | .list xs,R=>R xs
 | _,_=>False
def lTup:af->(List af->Prop)->Prop
 | .tuple xs,R=>R xs
 | _,_=>False
theorem YC:dItL d ρ n Rl=(d ρ n fun t l=>lLst t fun ts=>Rl ts l):=by unfold dItL;congr 1;funext t l;cases t <;> exact propext aU
theorem YD:dItT d ρ n Rl=(d ρ n fun t l=>lTup t fun ts=>Rl ts l):=by unfold dItT;congr 1;funext t l;cases t <;> exact propext aU
def lInt:af->(Int->Prop)->Prop
 | .int i,R=>R i
 | _,_=>False
theorem YQ:Za d ρ n Rl=(d ρ n fun t l=>lInt t fun j=>(-(2 ^ 62)<=j/\j<2 ^ 62)/\Rl (Qo 0 j.toNat) l):=by unfold Za;congr 1;funext t l;cases t <;> exact propext aU
theorem YE:dNeg d ρ n R=(d ρ n fun t l=>lInt t fun i=>R (.int (-i)) l):=by unfold dNeg;congr 1;funext t l;cases t <;> exact propext aU
def Zd:List af->(af->af->Prop)->Prop
 | [x,y],R=>R x y
 | _,_=>False
theorem YF:sPar i j ds D ρ n=(ds ρ n fun ts o=>Zd ts fun t u=>D.nx ((ρ.set i (some (.val t))).set j (some (.val u))) o):=by unfold sPar;congr 1;funext ts o;rcases ts with _|⟨a,_|⟨b,_|⟨c,r⟩⟩⟩ <;> exact propext aU
theorem Yj:sAug i f d D ρ n=cVal (ρ.getD i none) fun v=>lInt v fun q=>d ρ n fun t C=>lInt t fun k=>D.nx (ρ.set i (some (.val (.int (f q k))))) C:=by
 unfold sAug;rw[bf];cases e:ρ[i]? with
 | none=>exact propext aU
 | some o=>cases o with
  | none=>exact propext aU
  | some c=>cases c with
   | own _=>exact propext aU
   | dct _=>exact propext aU
   | dtt _=>exact propext aU
   | rdo _=>exact propext aU
   | val v=>cases v with
    | int q =>show(d ρ n fun t C=>_)=(d ρ n fun t C=>_);congr 1;funext t C;cases t <;> exact propext aU
    | _=>exact propext aU
theorem Y0:Zl g g' da db dc ρ n R=(da ρ n fun x C=>db ρ C fun y v=>g x y fun z=>bolD z fun b=>if b=true then dc ρ v fun w G=>g' y w fun z=>R z G else R (.bool false) v):=by
 unfold Zl;congr 1;funext x C;congr 1;funext y v;congr 1;funext z;cases z with
 | bool b=>cases b <;> simp[bolD]
 | _=>exact propext aU
def UI(ρ:En)(i:Nat)(D:JF)(C:DTE)(t:af)(v:Nat)(ts:qD):Prop:=C ρ v fun j l=>lInt j fun j=>(match ixN ts.length j with|some k=>D.nx (ρ.set i (some (.own (ts.set k t)))) l|none=>False)
theorem Yk:sPut i dj d D ρ n=(d ρ n fun t l=>cOwn (ρ.getD i none) fun xs=>UI ρ i D dj t l xs):=by
 unfold sPut;congr 1;funext t l;rw[bf];cases e:ρ[i]? with
 | none=>exact propext aU
 | some o=>cases o with
  | none=>exact propext aU
  | some c=>cases c with
   | val _=>exact propext aU
   | dct _=>exact propext aU
   | dtt _=>exact propext aU
   | rdo _=>exact propext aU
   | own xs =>show(dj ρ l fun j v=>_)=UI ρ i D dj t l xs;unfold UI;congr 1;funext j v;cases j <;> exact propext aU
end
section
variable{t u tb:DTS}{D:JF}{ρ ρ0:En}{n i j m:Nat}{d da db dc d1 d2:DTE}{ds di:DTA}{c c' tt:DTT}{g:G2}{g':G2}{gc:GC}{gd:GD}{tg:DTG}{tgs:DTGs}{R:qN}{Rb:Bool->Nat->Prop}{Rl:List af->Nat->Prop}{Re:En->Prop}{x y:af}{xs ys acc:qD}{f:Int->Int->Int}{fb:af->Bool}{k:Bool}{capt:List Nat}
theorem zuq(h:t { D with nx:=u D } ρ n):sSeq t u D ρ n:=h
theorem zrJ(h:D.nx ρ n):zqB D ρ n:=h
theorem zur(h:d ρ n fun t l=>D.rt t l):sRet d D ρ n:=h
theorem zxq(h:c ρ n fun b l=>if b=true then t D ρ l else u D ρ l):sIf c t u D ρ n:=h
theorem zuu(h:d ρ n fun t o=>tg t ρ fun l=>D.nx l o):sAsg d tg D ρ n:=h
theorem zut(h:di ρ n fun ts l=>forP tg tb D ts ρ l):sFor di tg tb D ρ n:=h
theorem i_dC(h:R x n):dC x ρ n R:=h
theorem zxu(h:da ρ n fun x o=>db ρ o fun y l=>g x y fun z=>R z l):dOp g da db ρ n R:=h
theorem zuH(h:ds ρ n fun ts o=>R (.list ts) o):dNew ds ρ n R:=h
theorem zuB(h:ds ρ n fun ts o=>R (.tuple ts) o):dTup ds ρ n R:=h
theorem zuG(h:Rl [] n):dNil ρ n Rl:=h
theorem zrQ(h:d ρ n fun t o=>ds ρ o fun ts l=>Rl (t::ts) l):J1 d ds ρ n Rl:=h
theorem zxv(h:ds ρ n fun ts l=>gd ts l R):dFn gd ds ρ n R:=h
theorem zuM(h:ds ρ n fun ts o=>gd ts o fun t l=>JP t=true/\R t l):dFnL gd ds ρ n R:=h
theorem zpj(h:ds ρ n fun ts l=>gc ts fun z=>R z l):Zk gc ds ρ n R:=h
theorem zuN(h:c ρ n fun b l=>if b=true then c' ρ l Rb else Rb false l):dAnd c c' ρ n Rb:=h
theorem zxt(h:c ρ n fun b l=>if b=true then Rb true l else c' ρ l Rb):dOr c c' ρ n Rb:=h
theorem zuF(h:c ρ n fun b l=>Rb (!b) l):dNot c ρ n Rb:=h
theorem zrS(h:da ρ n fun t v=>bolD t fun b=>if b=true then db ρ v R else R (.bool false) v):zsd da db ρ n R:=h
theorem zuE(h:da ρ n fun t v=>bolD t fun b=>if b=true then R (.bool true) v else db ρ v R):dOrV da db ρ n R:=h
theorem zrP(h:da ρ n fun t v=>bolD t fun b=>R (.bool (!b)) v):zsc da ρ n R:=h
theorem zuL(h:c ρ n fun b l=>if b=true then da ρ l R else db ρ l R):dIfE c da db ρ n R:=h
theorem zuC(h:d ρ n fun t l=>truD t fun b=>Rb b l):dTru d ρ n Rb:=h
theorem zrR(h:di ρ n fun ts l=>JO tg tt d (JG m capt ρ) ts [] l Rl):dComp m capt di tg tt d ρ n Rl:=h
theorem zuA(h:Rb true n):dYes ρ n Rb:=h
theorem zrH(h:tgs xs ρ Re):Ui tgs (.tuple xs) ρ Re:=h
theorem zrI(h:Re ρ):Uh [] ρ Re:=h
theorem zpg(h:tg x ρ fun l=>tgs xs l Re):Qy tg tgs (x::xs) ρ Re:=h
theorem zrL(h:d ρ n fun t l=>bolD t fun b=>Rb b l):U5 d ρ n Rb:=YR.symm▸h
theorem zuK(h:d ρ n fun t l=>lLst t fun ts=>Rl ts l):dItL d ρ n Rl:=YC.symm▸h
theorem zuJ(h:d ρ n fun t l=>lTup t fun ts=>Rl ts l):dItT d ρ n Rl:=YD.symm▸h
theorem zrN(h:d ρ n fun t l=>lInt t fun j=>(-(2 ^ 62)<=j/\j<2 ^ 62)/\Rl (Qo 0 j.toNat) l):Za d ρ n Rl:=YQ.symm▸h
theorem zuI(h:d ρ n fun t l=>lInt t fun i=>R (.int (-i)) l):dNeg d ρ n R:=YE.symm▸h
theorem zpi(h:da ρ n fun x C=>db ρ C fun y v=>g x y fun z=>bolD z fun b=>if b=true then dc ρ v fun w G=>g' y w fun z=>R z G else R (.bool false) v):Zl g g' da db dc ρ n R:=Y0.symm▸h
theorem zus(h:ds ρ n fun ts o=>Zd ts fun t u=>D.nx ((ρ.set i (some (.val t))).set j (some (.val u))) o):sPar i j ds D ρ n:=YF.symm▸h
def lIsi(fb:af->Bool)(t:af)(R:af->Prop):Prop:=Pln t/\R (.bool (fb t))
theorem zuy(h:d ρ n fun t l=>lIsi fb t fun z=>R z l):isiD fb d ρ n R:=h
theorem zp7(e:ρ[i]?=some (some (.val x)))(h:R x n):dVar i ρ n R:=by unfold dVar;rw[e];exact h
theorem zp8(e:ρ[i]?=some (some (.own xs)))(h:R (.list xs) n):dOwn i ρ n R:=by unfold dOwn;rw[e];exact h
theorem zkh(e:ρ[i]?=some (some (.own xs)))(h:d ρ n fun t l=>xs.length<16777216/\D.nx (ρ.set i (some (.own (xs++[t])))) l):ZO i d D ρ n:=by unfold ZO;rw[e];exact h
theorem zkg(e:ρ[i]?=some (some (.own xs)))(h:t D (ρ.set i (some (.val (.list xs)))) n):ZP i t D ρ n:=by unfold ZP;rw[e];exact h
theorem zxw(e:ρ[i]?=some (some (.val (.int q))))(h:d ρ n fun t o=>lInt t fun k=>D.nx (ρ.set i (some (.val (.int (f q k))))) o):sAug i f d D ρ n:=by rw[Yj,bf,e];exact h
theorem zxr(e:ρ[i]?=some (some (.own xs)))(h:d ρ n fun t l=>UI ρ i D dj t l xs):sPut i dj d D ρ n:=by rw[Yk,bf,e];exact h
theorem zuv(h:dj ρ n fun j l=>lInt j fun j=>(match ixN xs.length j with|some k=>D.nx (ρ.set i (some (.own (xs.set k x)))) l|none=>False)):UI ρ i D dj x n xs:=h
theorem zxs{A B:Prop}(h1:b=true->A)(l:b=false->B):if b=true then A else B:=by cases b with|true=>exact iteT (h1 rfl)|false=>exact iteF (l rfl)
theorem zux{p:Prop}[Decidable p]{A B:Prop}(h1:p->A)(l:¬p->B):if decide p=true then A else B:=by by_cases h:p;rw[decide_eq_true h];exact iteT (h1 h);rw[decide_eq_false h];exact iteF (l h)
theorem zuw{A B:Prop}(h:if b=true then B else A):if (!b)=true then A else B:=by cases b with|true=>exact iteF h|false=>exact iteT h
end
section
variable{C:Int->Int->Prop}{f:Int->Int->Int}{fb:Int->Int->Bool}{i j k:Int}{R:af->Prop}{Rb:Bool->Prop}{xs ys:qD}{s t:Str}{a b:Bool}{u v x y:af}{Rn:qN}{n:Nat}
theorem zuj(h:R (.int (i+j))):oAdd (.int i) (.int j) R:=Yv.symm▸h
theorem zxm(h:R (.bool (decide (i=j)))):oEq (.int i) (.int j) R:=Yb.symm▸h
theorem zxl(h:(Okd (.tuple xs)/\Okd (.tuple ys)/\R (.bool (gq (.tuple xs) (.tuple ys))))):oEq (.tuple xs) (.tuple ys) R:=Yc.symm▸h
theorem zxb(h:R (.bool (!decide (i=j)))):oNe (.int i) (.int j) R:=Yp.symm▸h
theorem zw_(h:(Okd (.tuple xs)/\Okd (.tuple ys)/\R (.bool (!PyData.eqv (.tuple xs) (.tuple ys))))):oNe (.tuple xs) (.tuple ys) R:=Yr.symm▸h
theorem zxa(h:(Okd (.list xs)/\Okd (.list ys)/\R (.bool (!PyData.eqv (.list xs) (.list ys))))):oNe (.list xs) (.list ys) R:=Yq.symm▸h
theorem zxj(h:R (.bool (isNone u))):oIs u .none R:=Yd.symm▸h
theorem zm8(h:R (.bool (a != b))):oIsN (.bool a) (.bool b) R:=YS.symm▸h
theorem zrD(h:R (.bool (!isNone u))):oIsN u .none R:=YT.symm▸h
theorem zxg(h:R (.bool (decide (i<j)))):oLtA (.int i) (.int j) R:=Ym.symm▸h
theorem zxi(h:R (.bool (decide (i<=j)))):oLeA (.int i) (.int j) R:=Yl.symm▸h
theorem zud(h:R u):oIx (.tuple (u::xs)) (.int 0) R:=Yy.symm▸h
theorem zuc(h:R v):oIx (.tuple (u::v::xs)) (.int 1) R:=Yz.symm▸h
theorem zuh(h:R u):oIx (.list (u::xs)) (.int 0) R:=Yw.symm▸h
theorem zug(h:R v):oIx (.list (u::v::xs)) (.int 1) R:=Yx.symm▸h
theorem zt8(h:Rb a):truD (.bool a) Rb:=YA.symm▸h
theorem zt7(h:Rb (!xs.isEmpty)):truD (.list xs) Rb:=YH.symm▸h
theorem zt6(h:Rb (!xs.isEmpty)):truD (.tuple xs) Rb:=YI.symm▸h
theorem zxn(h:Rb a):bolD (.bool a) Rb:=U9.symm▸h
theorem zub(h:R (.int xs.length)):bLen [.list xs] R:=.inl ⟨xs,rfl,h⟩
theorem zua(h:R (.int xs.length)):bLen [.tuple xs] R:=.inr (.inl ⟨xs,rfl,h⟩)
theorem zpb(h:R (.int ns.length)):bLen [SCR ns] R:=.inr (.inr (.inr ⟨_,rfl,by rw[aG];exact h⟩))
theorem zxe(h:R (.int (if j<i then j else i))):bMin [.int i,.int j] R:=Yo.symm▸h
theorem zxf(h:R (.int (if j > i then j else i))):bMax [.int i,.int j] R:=Yn.symm▸h
theorem zxp(h:R (.int (if i<0 then -i else i))):bAbs [.int i] R:=U8.symm▸h
theorem zpa(h:R (.tuple xs)):Zs [.list xs] R:=YW.symm▸h
theorem zrC(h:Rl xs):JN (.list xs) Rl:=YU.symm▸h
theorem zpd(h:Rl xs):JN (.tuple xs) Rl:=YV.symm▸h
theorem zxh(h:Q xs):lLst (.list xs) Q:=h
theorem zw6(h:Q xs):lTup (.tuple xs) Q:=h
theorem zxk(h:Q i):lInt (.int i) Q:=h
theorem zt_(h:Q x y):Zd [x,y] Q:=h
theorem zxc(c:CMul i j)(h:R (.int (i*j))):oMul (.int i) (.int j) R:=⟨c,h⟩
theorem zxd(c:0<j)(h:R (.int (i % j))):oMod (.int i) (.int j) R:=⟨c,h⟩
theorem zui(c:Y6 i j)(h:R (.int (i / j))):Uj (.int i) (.int j) R:=⟨c,h⟩
theorem zw9(c:CPow i j)(h:R (.int (i*2 ^ j.toNat))):oShl (.int i) (.int j) R:=⟨c,h⟩
theorem zw7(h:R (.int (i - j))):oSub (.int i) (.int j) R:=h
theorem zw5(h:R (.int (cL i j))):oXor (.int i) (.int j) R:=h
theorem zxo(h:R (.int (gU i j))):oAnd (.int i) (.int j) R:=h
theorem j_gB(h:R (.bool (fb i j))):gB fb (.int i) (.int j) R:=h
theorem zjh(h:R (.bool true)):lIsi isInt (.int i) R:=⟨Ub,h⟩
theorem zie(h:R (.bool true)):lIsi isInt (.bool a) R:=⟨Ua,h⟩
theorem zjg(h:R (.bool false)):lIsi isInt (.str s) R:=⟨Us,h⟩
theorem zgT(h:R (.bool false)):lIsi isInt (.tuple xs) R:=⟨Uz,h⟩
theorem zic(h:R (.bool false)):lIsi isInt (.list xs) R:=⟨Ux,h⟩
theorem zib(h:R (.bool false)):lIsi isInt (.none) R:=⟨Uy,h⟩
theorem zid(h:R (.bool false)):lIsi isInt (.dict []) R:=⟨UD,h⟩
theorem zif(h:R (.bool false)):lIsi isBool (.int i) R:=⟨Ub,h⟩
theorem zgU(h:R (.bool true)):lIsi isBool (.bool a) R:=⟨Ua,h⟩
theorem zjf(h:R (.bool false)):lIsi isTup (.int i) R:=⟨Ub,h⟩
theorem zia(h:R (.bool false)):lIsi isTup (.bool a) R:=⟨Ua,h⟩
theorem zje(h:R (.bool false)):lIsi isTup (.str s) R:=⟨Us,h⟩
theorem zgS(h:R (.bool true)):lIsi isTup (.tuple xs) R:=⟨Uz,h⟩
theorem zh9(h:R (.bool false)):lIsi isTup (.list xs) R:=⟨Ux,h⟩
theorem zh8(h:R (.bool false)):lIsi isTup (.none) R:=⟨Uy,h⟩
theorem zh_(h:R (.bool false)):lIsi isTup (.dict []) R:=⟨UD,h⟩
end
theorem Yh{h:Int}(h0:0<h):(2:Int) ^ h.toNat=2*2 ^ (h - 1).toNat:=by
 have e:h.toNat=(h - 1).toNat+1:=by lia
 rw[e,bH,cA]
theorem ztn{h:Int}(h0:0<=h):(2:Int) ^ (h+1).toNat=2*2 ^ h.toNat:=by have:=Yh (h:=h+1) (by lia);rw[this];simp
theorem IsBk.low{bits i h:Int}(B:IsBk bits i h)(l:0<h):IsBk bits i (h - 1):=by
 obtain⟨h0,h1,k,u,rfl,v⟩:=B;refine⟨by lia,by lia,2*k,by lia,?_,?_⟩;rw[Yh l,<- cS,cA k 2];have e:(bits - (h - 1)).toNat=(bits - h).toNat+1:=by lia
 rw[e,bH];lia
theorem IsBk.up{bits i h:Int}(B:IsBk bits i h)(l:0<h):IsBk bits (i+2 ^ h.toNat / 2) (h - 1):=by
 obtain⟨h0,h1,k,u,rfl,v⟩:=B;refine⟨by lia,by lia,2*k+1,by lia,?_,?_⟩;rw[Yh l];have:2*(2:Int) ^ (h - 1).toNat / 2=2 ^ (h - 1).toNat:=by lia
 rw[this,dP,cx,<- cS,cA k 2];have e:(bits - (h - 1)).toNat=(bits - h).toNat+1:=by lia
 rw[e,bH];lia
theorem zo3(P:Int)(l:0<P):k*P % (2*P)=(k % 2)*P:=by rw[cA 2 P,cA k P,Int.mul_emod_mul_of_pos _ _ l,cA]
theorem IsBk.abt{bits i h:Int}(B:IsBk bits i h)(u:h<bits):IsBk bits (i - i % (2*2 ^ h.toNat)) (h+1):=by
 obtain⟨h0,h1,k,v,rfl,l⟩:=B;refine⟨by lia,by lia,k / 2,by lia,?_,?_⟩;rw[zo3 _ (ZW _),ztn h0,<- xQ];have:k - k % 2=k / 2*2:=by lia
 rw[this,cS];have e:(bits - h).toNat=(bits - (h+1)).toNat+1:=by lia
 rw[e,bH]at l;lia
theorem IsBk.oth(B:IsBk bits i h)(v:h<bits):IsBk bits (cL i (2 ^ h.toNat)) h:=by
 obtain⟨h0,h1,k,l,rfl,u⟩:=B;rw[zjE _ l];have e:(bits - h).toNat=(bits - (h+1)).toNat+1:=by lia
 split;refine⟨h0,h1,k+1,by lia,by rw[dP,cx],?_⟩;rw[e,bH]at u ⊢;lia;refine⟨h0,h1,k - 1,by lia,by rw[xQ,cx],by lia⟩
theorem IsBk.nxt(B:IsBk bits i h)(l:i+2*2 ^ h.toNat<=2 ^ bits.toNat):IsBk bits (i+2 ^ h.toNat) h:=by
 obtain⟨h0,h1,k,u,rfl,v⟩:=B;refine⟨h0,h1,k+1,by lia,by rw[dP,cx],?_⟩;have e:bits.toNat=(bits - h).toNat+h.toNat:=by lia
 rw[e,zjX]at l;have p:=ZW h.toNat;have:(k+2)*2 ^ h.toNat<=2 ^ (bits - h).toNat*2 ^ h.toNat:=by rw[dP];exact l
 have:=Int.le_of_mul_le_mul_right this p;lia
theorem zxG:CMul 2 j:=.inl ⟨by decide,by decide⟩
theorem zve:Y6 j 2:=⟨by decide,by decide⟩
theorem QS(h:Nat):(1:Int)*2 ^ h=2 ^ h:=cx _
def BlkN(bits i:Int)(h:Nat):Prop:=(h:Int)<=bits/\∃k:Int,0<=k/\i=k*2 ^ h/\k<2 ^ (bits.toNat - h)
theorem IsBk.n(B:IsBk bits i h):BlkN bits i h.toNat:=by
 obtain⟨h0,h1,k,l,e,u⟩:=B;refine⟨by lia,k,l,e,?_⟩;have:(bits - h).toNat=bits.toNat - h.toNat:=by lia
 rw[<- this];exact u
theorem zn2(b:BlkN bits j g)(l:g<=h):j / 2 ^ h*2 ^ h<=j/\j+2 ^ g<=(j / 2 ^ h+1)*2 ^ h:=by
 obtain⟨_,m,m0,rfl,_⟩:=b;have y:=Bd.Qc h;have v:=Bd.Qc g;have x:=Bd.Qc (h - g);have o:(2:Int) ^ h=2 ^ (h - g)*2 ^ g:=by rw[<- gX];congr 1;lia
 refine⟨Int.ediv_mul_le _ (by lia),?_⟩;have eq:(m*2 ^ g) / 2 ^ h=m / 2 ^ (h - g):=by rw[o];exact Int.mul_ediv_mul_of_pos_left m _ v
 rw[eq,o,<- cS];have u:m*2 ^ g+2 ^ g=(m+1)*2 ^ g:=by rw[dP,cx]
 rw[u];refine bP ?_ (by lia);have:=Int.lt_ediv_add_one_mul_self m x;lia
theorem zj5{a b A:Int}(p:0<A)(l:a<b):(a+1)*A<=b*A:=bP (by lia) (by lia)
theorem zjk(v:BlkN bits i h)(u:BlkN bits j g):(g<=h/\j / 2 ^ h*2 ^ h=i)↔(i<=j/\j+2 ^ g<=i+2 ^ h):=by
 have o:=Bd.Qc h;have C:=Bd.Qc g;constructor;rintro⟨l,e⟩;have t:=zn2 u l;rw[e,dP,cx,e]at t;exact t;rintro⟨x,l2⟩;have l:g<=h:=by
  by_cases z:g<=h;exact z;exfalso;have:(2:Int) ^ h<2 ^ g:=by
   have e:(2:Int) ^ g=2 ^ (g - h)*2 ^ h:=by rw[<- gX];congr 1;lia
   have p2:(2:Int)<=2 ^ (g - h):=by obtain⟨d,hd⟩:∃d,g - h=d+1:=⟨g - h - 1,by lia⟩;rw[hd,bH];have:=Bd.Qc d;lia
   rw[e];have:=bP p2 (show(0:Int)<=2 ^ h by lia);lia
  lia
 refine⟨l,?_⟩;obtain⟨_,k,y,rfl,_⟩:=v;have e:j / 2 ^ h=k:=by have a1:k<=j / 2 ^ h:=(Int.le_ediv_iff_mul_le o).mpr x;have a2:j / 2 ^ h<k+1:=(Int.ediv_lt_iff_lt_mul o).mpr (by rw[dP,cx];lia);lia
 rw[e]
theorem ziB{bits i j:Int}{h g:Nat}(v:BlkN bits i h)(u:BlkN bits j g)(l:g<=h):(g<=h/\j / 2 ^ h*2 ^ h=i)\/j+2 ^ g<=i\/i+2 ^ h<=j:=by have o:=Bd.Qc h;have t:=zn2 u l;obtain⟨_,k,x,rfl,_⟩:=v;rcases iZ (j / 2 ^ h) k with z|z|z;have:=zj5 o z;exact .inr (.inl (by lia));exact .inl ⟨l,by rw[z]⟩;have:=zj5 o z;rw[dP,cx]at this;exact .inr (.inr (by lia))
def hldD(i h j g:Int):Bool:=decide (g<=h)&&decide (j / 2 ^ h.toNat*2 ^ h.toNat=i)
theorem zp_(A:IsBk bits i h)(B:IsBk bits j g):hldD i h j g=decide (i<=j/\j+2 ^ g.toNat<=i+2 ^ h.toNat):=by have:=zjk A.n B.n;unfold hldD;rw[<- Bool.decide_and];refine decide_eq_decide.mpr ⟨fun z=>this.mp ⟨by have:=A.1;have:=B.1;lia,z.2⟩,fun z=>?_⟩;obtain⟨l,e⟩:=this.mpr z;exact⟨by have:=A.1;have:=B.1;lia,e⟩
theorem znl(Inv:Nat->En->Nat->Prop):∀(ts:qD) (i:Nat) {o:En}{n:Nat},Inv i o n ->
  (∀(k:Nat) (t:af) (o:En) (n:Nat) (K:En->Nat->Prop),ts[k]?=some t->Inv (i+k) o n->(∀v x,Inv (i+k+1) v x->K v x)->g t o fun v=>tb { D with nx:=K,ct:=K,bk:=D.nx } v n) ->
  (∀o n,Inv (i+ts.length) o n->D.nx o n)->forP g tb D ts o n
 | [],i,o,n,h0,_,fin=>fin o n (by simpa using h0)
 | t::ts,i,o,n,h0,turn,fin=>by
  refine turn 0 t o n _ rfl (by simpa using h0) fun v x h'=>?_;refine znl Inv ts (i+1) (by simpa using h') (fun k u o n K e C y=>?_) (fun o n h=>fin o n ?_);refine turn (k+1) u o n K (by simpa using e) ?_ fun v x h'=>y v x ?_;have:i+(k+1)=i+1+k:=by lia
  rw[this];exact C;have:i+1+k+1=i+(k+1)+1:=by lia
  rw[this];exact h';have:i+(t::ts).length=i+1+ts.length:=by simp;lia
  rw[this]at *;exact h
theorem Q9(Inv:Nat->En->Nat->Prop)(h0:Inv 0 o n)
  (turn:∀(k:Nat) (t:af) (o:En) (n:Nat) (K:En->Nat->Prop),ts[k]?=some t->Inv k o n->(∀l u,Inv (k+1) l u->K l u)->g t o fun l=>tb { D with nx:=K,ct:=K,bk:=D.nx } l n)
  (fin:∀o n,Inv ts.length o n->D.nx o n):forP g tb D ts o n:=by
 refine znl Inv ts 0 h0 (fun k t o n K e x v=>turn k t o n K e (by simpa using x) fun l u h'=>v l u (by simpa using h')) fun o n h=>fin o n (by simpa using h)
theorem zdT{lo:Int}{m i:Nat}{t:af}(h:(Qo lo m)[i]?=some t):i<m/\t=.int (lo+(i:Int)):=by unfold Qo at h;rw[aT]at h;by_cases hi:i<m;rw[oV hi]at h;cases h;exact⟨hi,rfl⟩;rw[bO (by simp;lia)]at h;cases h
theorem zkK{lo:Int}{m:Nat}:(Qo lo m).length=m:=by simp[Qo]
theorem zhe(Inv:Nat->En->Nat->Prop)(h0:Inv m o n)
  (turn:∀m o n,Inv m o n->c o n fun b x=>if b=true then tb { D with nx:=fun l v=>∃u,u<m/\Inv u l v,ct:=fun l v=>∃u,u<m/\Inv u l v,bk:=D.nx } o x else D.nx o x):zma c tb D o n :=
 ⟨Inv,⟨m,h0⟩,turn⟩
theorem IsBk.x1(B:IsBk bits i h)(l:0<h):cL i (2 ^ (h - 1).toNat)=i+2 ^ h.toNat / 2:=by
 obtain⟨h0,h1,k,u,rfl,v⟩:=B;have e:k*2 ^ h.toNat=(2*k)*2 ^ (h - 1).toNat:=by rw[Yh l,<- cS,cA k 2]
 rw[e,zjE _ (by lia),if_pos (by lia),Yh l];lia
theorem IsBk.x3(B:IsBk bits i h)(l:0<h):cL i (2 ^ (h - 1).toNat) / 2 ^ h.toNat*2 ^ h.toNat=i:=by
 rw[B.x1 l];obtain⟨h0,h1,k,u,rfl,v⟩:=B;have p:=ZW h.toNat;have p2:=ZW (h - 1).toNat;have e:=Yh l;have:(k*2 ^ h.toNat+2 ^ h.toNat / 2) / 2 ^ h.toNat=k:=by rw[Int.add_comm,Int.add_mul_ediv_right _ _ (by lia)];have:(2:Int) ^ h.toNat / 2 / 2 ^ h.toNat=0:=Int.ediv_eq_zero_of_lt (by lia) (by lia);lia
 rw[this]
theorem zrK(I:ρ[0]?=some (some (.val (SCR ns))))(G:ρ[j]?=some (some (.val (.int k))))(J:ns.length<=63)(y:0<=k)(L:k<=100)(C:JI ρ=ρd)
  (h:u { nx:=fun x _=>D.nx (JI x) n,rt:=fun t _=>∃b,t=.bool b/\D.rt t n,bk:=fun x _=>D.bk (JI x) n,ct:=fun x _=>D.ct (JI x) n } ((ρd.set j (some (.val (.int k)))).set i (some (.val HAND))) 0):Yi i j u D ρ n:=by
 subst C;unfold Yi;rw[I,G];exact⟨⟨ns,rfl,J⟩,y,L,h⟩
def rkAt(rk:ag->Int)(xs:Array o8)(i:Nat):Int:=((xs[i]?).map fun p=>rk p.1).getD 0
theorem ZM(h:xs[i]?=ys[j]?):rkAt rk xs i=rkAt rk ys j:=by unfold rkAt;rw[h]
theorem zpW(l:u<xs.size)(hd:d<=u)(k:Nat) :
  (k=u - d->rkAt rk (bubble xs u d) k=rkAt rk xs u)/\(u - d<k->k<=u->rkAt rk (bubble xs u d) k=rkAt rk xs (k - 1))/\(k<u - d\/u<k->rkAt rk (bubble xs u d) k=rkAt rk xs k):=by
 have e:=getElem?_bubble l d hd k;refine⟨fun h=>?_,fun h1 o=>?_,fun h=>?_⟩;rw[if_pos h]at e;exact ZM e;rw[if_neg (by lia),if_pos ⟨h1,o⟩]at e;exact ZM e;rw[if_neg (by lia),if_neg (by lia)]at e;exact ZM e
theorem zme(l:j<=xs.size)(k:Nat) :
  (i<=k->k<j->rkAt rk (mirror xs i j ((j - i) / 2)) k=rkAt rk xs (i+j - 1 - k))/\(k<i\/j<=k->rkAt rk (mirror xs i j ((j - i) / 2)) k=rkAt rk xs k):=by
 have e:=getElem?_mirror_all (i:=i) l k;refine⟨fun h1 o=>?_,fun h=>?_⟩;rw[if_pos ⟨h1,o⟩]at e;exact ZM e;rw[if_neg (by lia)]at e;exact ZM e
structure Sb(kd:kQ)(a0:Array o8)(z:lR):Prop where
 pm:(arrOf z).Perm a0
 kn:kindOf z=kd
 fl:failedOf z=none
 pe:pendingOf z=#[]
def Up(rk:ag->Int)(xs:Array o8)(m:Nat):Prop:=∀i j,i<j->j<m->rkAt rk xs i<=rkAt rk xs j
def Dn(rk:ag->Int)(xs:Array o8)(m:Nat):Prop:=∀i j,i<j->j<m->rkAt rk xs j<=rkAt rk xs i
section
variable{prog:aL}{w:aZ}{A:bg}{E:qV}{s:aq}{kd:kQ}{rk:ag->Int}{a0:Array o8}
def Cmp(prog:aL)(w:aZ)(A:bg)(s:aq)(kd:kQ)(rk:ag->Int)(a0:Array o8):Prop :=
 ∀(p q:o8) (E:qV) (Q:Bool->aq->Prop),p∈a0.toList->q∈a0.toList->Q (decide (rk p.1<rk q.1)) s->wpAny (model prog w) A (keyLt' kd p.1 q.1) Q E s
theorem Sb.sz(b:Sb kd a0 z):(arrOf z).size=a0.size:=b.pm.size_eq
theorem Sb.arr(b:Sb kd a0 z)(h:xs.Perm (arrOf z)):Sb kd a0 (setArr z xs):=⟨h.trans b.pm,b.kn,b.fl,b.pe⟩
theorem ask(c:Cmp prog w A s kd rk a0)(b:Sb kd a0 z)(hi:i<a0.size)(v:j<a0.size)
  (h:Q (some (decide (rkAt rk (arrOf z) i<rkAt rk (arrOf z) j))) z):wpS (model prog w) A E s (ltAt' i j) Q z:=by
 have mem:∀k,k<a0.size->∃p,(arrOf z)[k]?=some p/\p∈a0.toList:=fun k u=>by
  have l:k<(arrOf z).size:=by rw[b.sz];exact u
  exact⟨(arrOf z)[k],bw l,(lT.mp b.pm).mem_iff.mp (by simp)⟩
 obtain⟨p,ep,mp⟩:=mem i hi;obtain⟨q,eq,C⟩:=mem j v;have o:rkAt rk (arrOf z) i=rk p.1:=by unfold rkAt;rw[ep];rfl
 have G:rkAt rk (arrOf z) j=rk q.1:=by unfold rkAt;rw[eq];rfl
 rw[o,G]at h;rw[ltAt'_eq];refine bz (lB ?_);show wpS (model prog w) A E s (elem' (arrOf z) i >>= fun x=>elem' (arrOf z) j >>= fun y=>lt' x y) Q z;simp only[elem'_eq,ep,eq,pure_bind];rw[lt'_eq];refine bz (lB (bz (tY (eR ?_))));rw[b.kn];exact c p q _ _ mp C ⟨rfl,cC h⟩
theorem zqp(c:Cmp prog w A s kd rk a0)(hn:n<=a0.size)(hok:ok<=n)(b:Sb kd a0 z)(up:Up rk (arrOf z) ok)
  (h:∀y,Sb kd a0 y->Up rk (arrOf y) n->Q true y):wpS (model prog w) A E s (binarySort' 0 n ok) Q z:=by
 rw[binarySort'_eq];simp only[eP];refine bz (ot (gr (Q:=fun c y=>c=(none,())/\Sb kd a0 y/\Up rk (arrOf y) n) (I:=fun k c y=>c=(none,())/\Sb kd a0 y/\Up rk (arrOf y) (min k n)) ?turn ?last ⟨rfl,b,fun i j h1 h2=>up i j h1 (by lia)⟩) ?post)
 case post =>rintro _ y ⟨rfl,C,u⟩;exact cC (h y C u)
 case last =>rintro _ y ⟨rfl,C,u⟩;exact⟨rfl,C,by rwa [show min (max (max ok 1) n) n=n by lia]at u⟩
 case turn =>
  rintro k _ y k1 k2 ⟨rfl,C,u⟩;rw[show min k n=k by lia]at u;refine bz (ot (gr (Q:=fun c S=>S=y/\∃l r,c=(none,l,r)/\l<=k/\(∀i,i<l->rkAt rk (arrOf y) i<=rkAt rk (arrOf y) k)/\∀i,l<=i->i<k->rkAt rk (arrOf y) k<rkAt rk (arrOf y) i)
   (I:=fun x c S=>S=y/\∃l r,c=(none,l,r)/\l<=r/\r<=k/\r - l+x<=k/\(∀i,i<l->rkAt rk (arrOf y) i<=rkAt rk (arrOf y) k)/\∀i,r<=i->i<k->rkAt rk (arrOf y) k<rkAt rk (arrOf y) i) ?t2 ?l2 ⟨rfl,0,k,rfl,by lia,by lia,by lia,fun i hi=>by lia,fun i N G=>by lia⟩) ?p2)
  case l2 =>rintro _ v ⟨e,l,r,rfl,q1,Z,q3,L,J⟩;subst e;exact⟨rfl,l,r,rfl,by lia,L,fun i N G=>J i (by lia) G⟩
  case t2 =>
   rintro x _ v _ _ ⟨e,l,r,rfl,q1,Z,q3,L,J⟩;subst e;by_cases ge:r<=l;simp only[ge_iff_le,ge,if_true];exact cC ⟨rfl,l,r,rfl,by lia,L,fun i N G=>J i (by lia) G⟩;simp only[ge_iff_le,ge,if_false];refine bz (ask c C (by lia) (by lia) ?_);by_cases le:rkAt rk (arrOf v) k<rkAt rk (arrOf v) ((l+r) / 2);simp only[le,decide_true,if_true];refine cC ⟨rfl,l,(l+r) / 2,rfl,by lia,by lia,by lia,L,fun i N G=>?_⟩;rcases bG ((l+r) / 2) i with g|g;have:=u _ _ g G;lia;have:i=(l+r) / 2:=by lia
   rw[this];exact le;simp only[le,decide_false,aI,if_false];refine cC ⟨rfl,(l+r) / 2+1,r,rfl,by lia,by lia,by lia,fun i N=>?_,J⟩;rcases bG i ((l+r) / 2) with g|g;have:=u _ _ g (by lia);lia;have:i=(l+r) / 2:=by lia
   rw[this];lia
  case p2 =>
   rintro _ v ⟨e,l,r,rfl,Z,L,J⟩;subst e;show wpS (model prog w) A E s (moveDown' k l >>= fun _=>pure (iC (none,()))) _ v;rw[moveDown'_eq];have Y:k<(arrOf v).size:=by rw[C.sz];lia
   refine bz (nD (cC ⟨rfl,C.arr (bubble_perm _ _ _),fun i j h1 h2=>?_⟩));show rkAt rk (bubble (arrOf v) k (k - l)) i<=rkAt rk (bubble (arrOf v) k (k - l)) j;have hj:j<=k:=by lia
   obtain⟨a1,a2,R⟩:=zpW (rk:=rk) Y (show k - l<=k by lia) i;obtain⟨U,b2,b3⟩:=zpW (rk:=rk) Y (show k - l<=k by lia) j;have el:k - (k - l)=l:=by lia
   rw[el]at a1 a2 R U b2 b3;rcases c9 j l with jl|jl|jl;rw[R (by lia),b3 (by lia)];exact u i j h1 (by lia);rw[R (by lia),U jl];exact L i (by lia);rw[b2 jl hj];rcases c9 i l with il|il|il;rw[R (by lia)];rcases bG i (j - 1) with g|g;exact u i (j - 1) g (by lia);exact absurd g (by lia);rw[a1 il];exact eQ (J (j - 1) (by lia) (by lia));rw[a2 il (by lia)];rcases bG (i - 1) (j - 1) with g|g;exact u _ _ g (by lia);exact absurd g (by lia)
end
section
variable{prog:aL}{w:aZ}{A:bg}{E:qV}{s:aq}{kd:kQ}{rk:ag->Int}{a0:Array o8}
theorem zn4(c:Cmp prog w A s kd rk a0)(G:m<=a0.size)(a1:1<=a)(o:a<=m)(b:Sb kd a0 z)(up:Up rk (arrOf z) a)
  (h:∀n,a<=n->n<=m->Up rk (arrOf z) n->(n<m->rkAt rk (arrOf z) n<rkAt rk (arrOf z) (n - 1))->Q (none,n) z):wpS (model prog w) A E s (ascLoop a m) Q z:=by
 unfold ascLoop;refine gr (I:=fun x c y=>y=z/\c=(none,x)/\Up rk (arrOf z) x) (fun x _ y x1 C I=>?_) (fun _ y I=>?_) ⟨rfl,rfl,up⟩;obtain⟨e,rfl,u⟩:=I;subst e;refine bz (ask c b (by omega) (by omega) ?_);by_cases g:rkAt rk (arrOf y) x<rkAt rk (arrOf y) (x - 1);simp only[g,decide_true,if_true];exact cC (h x x1 (by omega) u fun _=>g);simp only[g,decide_false,aI,if_false];refine cC ⟨rfl,rfl,fun i j h1 v=>?_⟩;rcases bG j x with jx|jx;exact u i j h1 jx;have l:j=x:=by omega
 subst l;rcases bG i (j - 1) with ij|ij;have:=u i (j - 1) ij (by omega);omega;have:i=j - 1:=by omega
 rw[this];omega;obtain⟨e,rfl,u⟩:=I;subst e;rw[show max a m=m by omega]at u ⊢;exact h m o (ar _) u fun g=>absurd g (by omega)
theorem zlQ(c:Cmp prog w A s kd rk a0)(C:m<=a0.size)(G:1<=n)(nm:n<=m)(b:Sb kd a0 z)(v:Dn rk (arrOf z) n)
  (h:∀k y,Sb kd a0 y->1<=k->k<=m->Up rk (arrOf y) k->Q (some k) y):wpS (model prog w) A E s (tail3 n m) Q z:=by
 unfold tail3;have hz:n<=(arrOf z).size:=by rw[b.sz];omega
 refine bz (ou (bz ?_));have l:=b.arr (oz (arrOf z) 0 n ((n - 0) / 2));refine zn4 c C G nm l (fun i j h1 o=>?_) fun k I x u _=>cC (h k _ l (by omega) x u);show rkAt rk (mirror (arrOf z) 0 n ((n - 0) / 2)) i<=rkAt rk (mirror (arrOf z) 0 n ((n - 0) / 2)) j;rw[(zme (rk:=rk) hz i).1 (by omega) (by omega),(zme (rk:=rk) hz j).1 (by omega) o];exact v _ _ (by omega) (by omega)
theorem Va(l:j<=xs.size)(al:∀k,i<=k->k<j->rkAt rk xs k=rkAt rk xs (j - 1))(k:Nat):rkAt rk (mirror xs i j ((j - i) / 2)) k=rkAt rk xs k:=by obtain⟨p,q⟩:=zme (rk:=rk) (i:=i) l k;by_cases g:i<=k/\k<j;rw[p g.1 g.2,al _ (by omega) (by omega),al k g.1 g.2];exact q (by omega)
theorem zr8(c:Cmp prog w A s kd rk a0)(R:m<=a0.size)(S:1<=n)(nm:n<=m)(b:Sb kd a0 z)(L:Dn rk (arrOf z) n)
  (h:∀k e y,Sb kd a0 y->n<=k->k<=m->Dn rk (arrOf y) k->e<k->(∀i,k - (e+1)<=i->i<k->rkAt rk (arrOf y) i=rkAt rk (arrOf y) (k - 1))->Q (none,k,e) y) :
  wpS (model prog w) A E s (descLoop n m) Q z:=by
 unfold descLoop;refine gr (I:=fun x c y=>∃e,c=(none,x,e)/\Sb kd a0 y/\Dn rk (arrOf y) x/\e<x/\∀i,x - (e+1)<=i->i<x->rkAt rk (arrOf y) i=rkAt rk (arrOf y) (x - 1)) (fun x _ y x1 N I=>?_) (fun _ y I=>?_)
  ⟨0,rfl,b,L,by omega,fun i G v=>by rw[show i=n - 1 by omega]⟩
 obtain⟨e,rfl,l,d,ex,al⟩:=I;have xz:x<=(arrOf y).size:=by rw[l.sz];omega
 refine bz (ask c l (show x<a0.size by omega) (show x - 1<a0.size by omega) ?_);by_cases g:rkAt rk (arrOf y) x<rkAt rk (arrOf y) (x - 1);simp only[g,decide_true,if_true];have C:∀xs:Array o8,(∀k,rkAt rk xs k=rkAt rk (arrOf y) k)->Dn rk xs (x+1):=fun xs hx i j h1 J=>by
  rw[hx,hx];rcases bG j x with jx|jx;exact d i j h1 jx;have o:j=x:=by omega
  subst o;rcases bG i (j - 1) with ij|ij;have:=d i (j - 1) ij (by omega);omega;have:i=j - 1:=by omega
  rw[this];omega
 have one:∀xs:Array o8,∀i,x+1 - (0+1)<=i->i<x+1->rkAt rk xs i=rkAt rk xs (x+1 - 1):=fun xs i G v=>by rw[show i=x+1 - 1 by omega]
 by_cases e0:e > 0;simp only[e0,if_true];exact bz (ou (cC ⟨0,rfl,l.arr (oz _ _ _ _),C _ (Va xz al),by omega,one _⟩));simp only[e0,if_false];exact cC ⟨0,rfl,l,C _ (fun _=>rfl),by omega,one _⟩;simp only[g,decide_false,aI,if_false];refine bz (ask c l (show x - 1<a0.size by omega) (show x<a0.size by omega) ?_);by_cases g2:rkAt rk (arrOf y) (x - 1)<rkAt rk (arrOf y) x;simp only[g2,decide_true,if_true];exact cC (h x e y l x1 (by omega) d ex al);simp only[g2,decide_false,aI,if_false];have u:rkAt rk (arrOf y) x=rkAt rk (arrOf y) (x - 1):=by omega
 refine cC ⟨e+1,rfl,l,fun i j h1 J=>?_,by omega,fun i G v=>?_⟩;rcases bG j x with jx|jx;exact d i j h1 jx;have o:j=x:=by omega
 subst o;rcases bG i (j - 1) with ij|ij;have:=d i (j - 1) ij (by omega);omega;have:i=j - 1:=by omega
 rw[this];omega;rw[show x+1 - 1=x by omega];rcases bG i x with ix|ix;rw[al i (by omega) ix,u];rw[show i=x by omega];obtain⟨e,rfl,l,d,ex,al⟩:=I;rw[show max n m=m by omega]at *;exact h m e y l nm (ar _) d ex al
theorem zmB(c:Cmp prog w A s kd rk a0)(o:m<=a0.size)(nm:n+1<=m)(b:Sb kd a0 z)(C:Dn rk (arrOf z) (n+1))
  (h:∀k y,Sb kd a0 y->1<=k->k<=m->Up rk (arrOf y) k->Q (some k) y):wpS (model prog w) A E s (descPart n m) Q z:=by
 unfold descPart;refine bz (tY (cK ⟨rfl,bz ?_⟩));refine zr8 c o (by omega) nm b C fun k e y l I u d G al=>?_;have v:k<=(arrOf y).size:=by rw[l.sz];omega
 by_cases e0:e > 0;simp only[e0,if_true];refine bz (ou (zlQ c o (by omega) u (l.arr (oz _ _ _ _)) (fun i j h1 x=>?_) h));show rkAt rk (mirror (arrOf y) (k - (e+1)) k ((k - (k - (e+1))) / 2)) j<=rkAt rk (mirror (arrOf y) (k - (e+1)) k ((k - (k - (e+1))) / 2)) i;rw[Va v al,Va v al];exact d i j h1 x;simp only[e0,if_false];exact zlQ c o (by omega) u l d h
theorem zs8(c:Cmp prog w A s kd rk a0)(v:m<=a0.size)(C:1<=m)(b:Sb kd a0 z)
  (h:∀k y,Sb kd a0 y->1<=k->k<=m->Up rk (arrOf y) k->Q (some k) y):wpS (model prog w) A E s (countRun' 0 m) Q z:=by
 rw[countRun0_eq];refine bz (zn4 c v (ar 1) C b (fun i j h1 x=>absurd h1 (by omega)) fun n J I u lt=>?_);by_cases en:n=m;simp only[en,beq_self_eq_true,if_true];exact cC (h m z b C (ar _) (en▸u));have o:(n == m)=false:=by simpa using en
 simp only[o,aI,if_false];have l:=lt (by omega);by_cases g:n > 1;simp only[g,if_true];refine bz (ask c b (by omega) (by omega) ?_);by_cases rose:rkAt rk (arrOf z) 0<rkAt rk (arrOf z) (n - 1);simp only[rose,decide_true,if_true];exact cC (h n z b J I u);simp only[rose,decide_false,aI,if_false];have zn:n<=(arrOf z).size:=by rw[b.sz];omega
 have al:∀k,0<=k->k<n->rkAt rk (arrOf z) k=rkAt rk (arrOf z) (n - 1):=fun k _ kn=>by
  have p:rkAt rk (arrOf z) 0<=rkAt rk (arrOf z) k:=by rcases iL k with k0|k0;rw[k0];exact aO _;exact u 0 k k0 kn
  have q:rkAt rk (arrOf z) k<=rkAt rk (arrOf z) (n - 1):=by rcases bG k (n - 1) with kk|kk;exact u k (n - 1) kk (by omega);rw[show k=n - 1 by omega];exact aO _
  omega
 refine bz (ou (zmB c v (by omega) (b.arr (oz _ _ _ _)) (fun i j h1 x=>?_) h));show rkAt rk (mirror (arrOf z) 0 n ((n - 0) / 2)) j<=rkAt rk (mirror (arrOf z) 0 n ((n - 0) / 2)) i;rw[Va zn al,Va zn al];have L:=al i (by omega) (by omega);rcases bG j n with jn|jn;have:=al j (by omega) jn;omega;rw[show j=n by omega];omega;simp only[g,if_false];have G:n=1:=by omega
 subst G;refine zmB c v (by omega) b (fun i j h1 x=>?_) h;rw[show i=0 by omega,show j=1 by omega];exact eQ l
theorem zqF(c:Cmp prog w A s kd rk a0)(b:Sb kd a0 z)(s2:2<=a0.size)(s64:a0.size<64)
  (h:∀y,(arrOf y).Perm a0->failedOf y=none->Up rk (arrOf y) a0.size->Q () y):wpS (model prog w) A E s sortRuns' Q z:=by
 rw[sortRuns'_eq];refine bz (lB ?_);have mr:minRun' a0.size a0.size 0=a0.size:=by
  obtain⟨q,Z⟩:∃q,a0.size=q+1:=⟨a0.size - 1,by omega⟩;conv=>lhs;rw[Z]
  rw[minRun'_succ,if_pos (by omega)];omega
 simp only[b.sz,mr];refine bz (ot (gr (Q:=fun c y=>c=(none,a0.size)/\(arrOf y).Perm a0/\failedOf y=none/\pendingOf y=#[(0,a0.size,0)]/\Up rk (arrOf y) a0.size)
  (I:=fun x c y=>(x=0/\c=(none,0)/\Sb kd a0 y)\/(0<x/\c=(none,a0.size)/\(arrOf y).Perm a0/\failedOf y=none/\pendingOf y=#[(0,a0.size,0)]/\Up rk (arrOf y) a0.size)) ?turn ?last (.inl ⟨rfl,rfl,b⟩)) ?post)
 case last =>rintro _ y (⟨x0,_⟩|⟨_,q⟩);omega;exact q
 case turn =>
  rintro x _ y _ _ (⟨rfl,rfl,N⟩|⟨x1,rfl,q⟩);simp only[ge_iff_le,show ¬a0.size<=0 by omega,if_false,lC,wm,eP];have fin:∀C,Sb kd a0 C->Up rk (arrOf C) a0.size->(arrOf (setPending C ((pendingOf C).push (0,a0.size,0)))).Perm a0/\failedOf (setPending C ((pendingOf C).push (0,a0.size,0)))=none/\pendingOf (setPending C ((pendingOf C).push (0,a0.size,0)))=#[(0,a0.size,0)]/\Up rk (arrOf (setPending C ((pendingOf C).push (0,a0.size,0)))) a0.size :=
   fun C G L=>⟨G.pm,G.fl,by show(pendingOf C).push (0,a0.size,0)=_;rw[G.pe];rfl,L⟩
  refine bz (zs8 c (ar _) (by omega) N fun k U J k1 k2 S=>?_);by_cases g:k<a0.size;simp only[g,if_true];refine bz (tY (cK ⟨rfl,bz ?_⟩));refine zqp c (ar _) k2 J S fun C G L=>?_;simp only[fq,aI,if_false];refine bz (lB ?_);have R:(pendingOf C).back?=none:=by rw[G.pe];rfl
  simp only[R];exact bz (nD (cC (.inr ⟨by omega,rfl,fin C G L⟩)));simp only[g,if_false];have ek:k=a0.size:=by omega
  subst ek;refine bz (lB ?_);have R:(pendingOf U).back?=none:=by rw[J.pe];rfl
  simp only[R];exact bz (nD (cC (.inr ⟨by omega,rfl,fin U J S⟩)));simp only[ge_iff_le,ar,if_true];exact cC ⟨rfl,q⟩
 case post =>rintro _ y ⟨rfl,Y,q2,q3,q4⟩;refine bz (ot (gr (Q:=fun c v=>v=y/\c=(none,())) (I:=fun _ c v=>v=y/\c=(none,())) (fun x _ v _ _ I=>?_) (fun _ _ I=>I) ⟨rfl,rfl⟩) fun _ v I=>?_);obtain⟨e,rfl⟩:=I;subst e;refine bz (lB ?_);simp only[q3,aB,aH,bU,ar,if_true];exact cC ⟨rfl,rfl⟩;obtain⟨e,rfl⟩:=I;subst e;exact cC (h v Y q2 q4)
end
section
variable{prog:aL}{w:aZ}{A:bg}{E:qV}{s:aq}{kd:kQ}{rk:ag->Int}{a0:Array o8}
theorem zs7{z:lR}{m:Nat}{Q:Option Nat->lR->Prop}(c:Cmp prog w A s kd rk a0)(x:m<=a0.size)(v:1<=m)(b:Sb kd a0 z)(up:Up rk (arrOf z) m)
  (h:Q (some m) z):wpS (model prog w) A E s (countRun' 0 m) Q z:=by
 rw[countRun0_eq];refine bz (zn4 c x (ar 1) v b (fun i j h1 y=>absurd h1 (by omega)) fun n G C u lt=>?_);have o:n=m:=by rcases bG n m with g|g;have l:=lt g;have:=up (n - 1) n (by omega) g;omega;omega
 simp only[o,beq_self_eq_true,if_true];exact cC h
theorem zqE{z:lR}{Q:Unit->lR->Prop}(c:Cmp prog w A s kd rk a0)(b:Sb kd a0 z)(s2:2<=a0.size)(up:Up rk (arrOf z) a0.size)
  (h:∀y,(arrOf y).Perm a0->failedOf y=none->Up rk (arrOf y) a0.size->Q () y):wpS (model prog w) A E s sortRuns' Q z:=by
 rw[sortRuns'_eq];refine bz (lB ?_);simp only[b.sz];generalize minRun' a0.size a0.size 0=mr;refine bz (ot (gr (Q:=fun c y=>c=(none,a0.size)/\(arrOf y).Perm a0/\failedOf y=none/\pendingOf y=#[(0,a0.size,0)]/\Up rk (arrOf y) a0.size)
  (I:=fun x c y=>(x=0/\c=(none,0)/\y=z)\/(0<x/\c=(none,a0.size)/\(arrOf y).Perm a0/\failedOf y=none/\pendingOf y=#[(0,a0.size,0)]/\Up rk (arrOf y) a0.size)) ?turn ?last (.inl ⟨rfl,rfl,rfl⟩)) ?post)
 case last =>rintro _ y (⟨x0,_⟩|⟨_,q⟩);omega;exact q
 case turn =>
  rintro x _ y _ _ (⟨rfl,rfl,rfl⟩|⟨x1,rfl,q⟩);simp only[ge_iff_le,show ¬a0.size<=0 by omega,if_false,lC,eP];have fin:∀C,Sb kd a0 C->Up rk (arrOf C) a0.size->(arrOf (setPending C ((pendingOf C).push (0,a0.size,0)))).Perm a0/\failedOf (setPending C ((pendingOf C).push (0,a0.size,0)))=none/\pendingOf (setPending C ((pendingOf C).push (0,a0.size,0)))=#[(0,a0.size,0)]/\Up rk (arrOf (setPending C ((pendingOf C).push (0,a0.size,0)))) a0.size :=
   fun C G J=>⟨G.pm,G.fl,by show(pendingOf C).push (0,a0.size,0)=_;rw[G.pe];rfl,J⟩
  refine bz (zs7 c (ar _) (by omega) b up ?_);by_cases g:a0.size<mr;simp only[g,if_true,show min a0.size mr=a0.size by omega];refine bz (tY (cK ⟨rfl,bz ?_⟩));refine zqp c (ar _) (ar _) b up fun C G J=>?_;simp only[fq,aI,if_false];refine bz (lB ?_);have L:(pendingOf C).back?=none:=by rw[G.pe];rfl
  simp only[L];exact bz (nD (cC (.inr ⟨by omega,rfl,fin C G J⟩)));simp only[g,if_false];refine bz (lB ?_);have L:(pendingOf y).back?=none:=by rw[b.pe];rfl
  simp only[L];exact bz (nD (cC (.inr ⟨by omega,rfl,fin y b up⟩)));simp only[ge_iff_le,ar,if_true];exact cC ⟨rfl,q⟩
 case post =>rintro _ y ⟨rfl,N,R,S,U⟩;refine bz (ot (gr (Q:=fun c v=>v=y/\c=(none,())) (I:=fun _ c v=>v=y/\c=(none,())) (fun x _ v _ _ I=>?_) (fun _ _ I=>I) ⟨rfl,rfl⟩) fun _ v I=>?_);obtain⟨e,rfl⟩:=I;subst e;refine bz (lB ?_);simp only[S,aB,aH,bU,ar,if_true];exact cC ⟨rfl,rfl⟩;obtain⟨e,rfl⟩:=I;subst e;exact cC (h v N R U)
end
def SrtL{α:Type}(f:α->Int)(l:List α):Prop:=l.length<100000/\(l.length<64\/l.Pairwise fun a b=>f a<=f b)
theorem US{α:Type}{f:α->Int}{l:List α}(h:l.length<64):SrtL f l:=⟨by omega,.inl h⟩
theorem UM{α:Type}{f:α->Int}{l:List α}(h:SrtL f l):l.length<100000:=h.1
theorem zpS{α:Type}{f:α->Int}{l:List α}(h:l.Pairwise fun a b=>f a<=f b)(z:l.length<100000):SrtL f l:=⟨z,.inr h⟩
theorem zjI{α o:Type}{f:α->Int}{g:o->Int}{l:List α}{m:List o}(h:SrtL f l)(e:l.map f=m.map g):SrtL g m:=by
 have u:l.length=m.length:=by simpa using congrArg c8 e
 refine⟨u▸h.1,h.2.imp (fun z=>u▸z) fun z=>?_⟩;have:=cJ.mpr z;rw[e]at this;exact cJ.mp this
theorem zoD{prog:aL}{w:aZ}{A:bg}{E:qV}{s:aq}{x:kQ}{rk:ag->Int}{vs:List ag}{z:lR}{Q:Unit->lR->Prop}(c:Cmp prog w A s x rk (pairsOf vs))(b:Sb x (pairsOf vs) z)(C:arrOf z=pairsOf vs)(s2:2<=(pairsOf vs).size)(l:SrtL rk vs)
  (h:∀y,(arrOf y).Perm (pairsOf vs)->failedOf y=none->Up rk (arrOf y) (pairsOf vs).size->Q () y):wpS (model prog w) A E s sortRuns' Q z:=by
 rcases l.2 with l|l;exact zqF c b s2 (by rw[lD];exact l) h;refine zqE c b s2 ?_ h;rw[C,lD];intro i j o v;have g:∀k (u:k<vs.length),rkAt rk (pairsOf vs) k=rk vs[k]:=fun k u=>by unfold rkAt pairsOf;rw[bw (by simpa using u)];simp
 rw[g i (by omega),g j v];exact aP.mp l i j (by omega) v o
def midH(h:a9)(a:aj)(vs:List ag):a9:=((h.update a (dZ fun _=>#[])).push (seqObj "tuple" vs.toArray 0)).push (seqObj "list" #[] 0)
section
variable{prog:aL}{w:aZ}{A:bg}{E:qV}{s:aq}{rk:ag->Int}
def Kinds(prog:aL)(w:aZ)(A:bg)(s:aq)(rk:ag->Int)(vs:List ag):Prop:=2<=vs.length->∃l,(∀(E:qV) (Q:kQ->aq->Prop),Q l s->wpAny (model prog w) A (keyKind' vs.toArray) Q E s)/\Cmp prog w A s l rk (pairsOf vs)
theorem zo5{a:aj}{vs:List ag}{n:Nat}{P:Fin->aq->Prop}(v:s.heap.get? a=some (seqObj "list" vs.toArray n)) (l:SrtL rk vs) (J:Kinds prog w A { s with heap:=midH s.heap a vs } rk vs)
  (h:∀y:lR,(arrOf y).Perm (pairsOf vs)->Up rk (arrOf y) vs.length->P (.done (.ret .none)) { s with heap:=sortedHeap s.heap a vs ((arrOf y).map (·.2)) }) :
  wpAny (model prog w) A (cc.«list.sort» ⟨[.ref a],[]⟩) P E s:=by
 have hz:vs.length<100000:=UM l;rw[list_sort_plain];have G:a<s.heap.objs.size:=ax v;refine aa (g7 v rfl (aa (o9 v rfl ?_)));obtain⟨u,x⟩:∃u,(s.heap.update a (dZ fun _=>#[])).get? a=some (seqObj "list" #[] u):=⟨_,sU v (fun _=>#[])⟩;refine aa (seqEpoch_at x rfl (aa (oA (aa (kJ (bM ?_))))));have C:(midH s.heap a vs).get? a=some (seqObj "list" #[] u):=by unfold midH;rw[eW _ _ _ (by rw[lU,g8];exact aD (aM G (kS _))),eW _ _ _ (by rw[g8];exact aD G)];exact x
 show wpAny (model prog w) A _ P E { s with heap:=midH s.heap a vs };have z:vs.toArray.size=vs.length:=by simp
 have tail:∀(y:lR),(arrOf y).Perm (pairsOf vs)->failedOf y=none->Up rk (arrOf y) vs.length->wpAny (model prog w) A (do
   let touched:=(<- seqEpoch a) != u
   vL (.ref a) fun _=>(arrOf y).map (·.2)
   if let some e:=failedOf y then rule "list.sort.comparison-raised";throw e
   if touched then rule "list.sort.modified";raiseError "ValueError" "list modified during sort"
   ret .none) P E { s with heap:=midH s.heap a vs }:=fun y pm fl up=>by
  refine aa (seqEpoch_at C rfl (aa (o9 C rfl ?_ (hsz2:=?_))));rw[fl];simp only[bne_self_eq_false,aI,if_false];exact ae (h y pm up);rw[Array.size_map,pm.size_eq,lD];show vs.length<=sizeLine+1;have:=UM l;have:100000<=sizeLine:=by decide
  omega
 by_cases two:vs.length<2;simp only[z,two,if_true];refine aa (ae ?_);rw[StateT.run_pure];refine aa (ae ?_);exact tail (Ae general' (vs.toArray.zip vs.toArray) #[] 7 none) (sV _) rfl fun i j h1 I=>absurd I (by omega);simp only[z,two,if_false];obtain⟨N,R,L⟩:=J (by omega);refine aa (R _ _ ?_);refine aa (cz (zoD (Q:=fun _ y=>(arrOf y).Perm (pairsOf vs)/\failedOf y=none/\Up rk (arrOf y) vs.length) (z:=Ae N (vs.toArray.zip vs.toArray) #[] 7 none) L ⟨sV _,rfl,rfl,rfl⟩ rfl (by rw[lD];omega) l
  fun y p1 p2 p3=>⟨p1,p2,by rwa [lD]at p3⟩) ?_ fun _ _ e=>e)
 rintro⟨⟨⟩,y⟩ s' ⟨rfl,p1,p2,p3⟩;exact tail y p1 p2 p3
theorem zjv{l:aj}{vs:List ag}{o:Obj}{T:String}{n:Nat}{Q:List ag->aq->Prop}(G:s.heap.get? l=some o)(hc:o.cls=.type T)(I:T = "list" \/ T = "tuple") (hd:o.data=.seq vs.toArray n) (hz:vs.length<=sizeLine)
  (h:Q vs { s with heap:=(s.heap.push (seqObj "list" #[] 0)).update s.heap.objs.size (dZ (·++vs.toArray)) }):wpAny (model prog w) A (collect (.ref l)) Q E s:=by
 unfold collect;refine aa (oB (cT kT ?_));show wpAny (model prog w) _ (newList [] >>= fun x=>again (.builtin "list.__iadd__" ⟨[x,.ref l],[]⟩)) _ _ s;refine aa (kJ (ae ⟨fz _ (by decide +kernel),cT m6 ?_⟩));show wpAny (model prog w) _ (bX (.ref s.heap.objs.size) (.ref l) (.ref s.heap.objs.size)) _ _ { s with heap:=s.heap.push (seqObj "list" #[] 0) };unfold bX;have v:(s.heap.push (seqObj "list" #[] 0)).get? l=some o:=ah _ G;refine aa (dG (T:=T) ⟨o,v,hc⟩ ?_);have cond:∀b:Bool,(b||aV T == aV "list" ||aV T == aV "tuple")=true:=by intro b;have C:(aV "list" == aV "list")=true:=rfl;have J:(aV "tuple" == aV "tuple")=true:=rfl;rcases I with rfl|rfl;rw[C];simp;rw[J];simp
 rw[if_pos (cond _)];refine aa (g7 v hd (aa (g7 (xs:=#[]) (n:=0) (aw _ rfl) rfl ?_)));rw[if_neg (by simp)];refine aa (o9 (xs:=#[]) (n:=0) (aw _ rfl) rfl (ae ?_) (cO _) (by simp only[p9,aB,bU];omega));refine aa (m:=load s.heap.objs.size) (lL (sU (aw _ rfl) _) ?_);show wpAny (model prog w) A (pure ((#[]:Array ag)++vs.toArray).toList) Q E _;have e:((#[]:Array ag)++vs.toArray).toList=vs:=by simp
 rw[e];exact ae h
end
section
variable{prog:aL}{w:aZ}{A:bg}{E:qV}{s:aq}
theorem zm6(b:Bool)(x y:ag):keyLt' (tuples' b) x y=(do
  let xs <- gx x;let ys <- gx y
  for ((p,q),i) in (xs.toList.zip ys.toList).zipIdx do
   if !(<- eqBool p q) then return <- oneLt' (b&&i == 0) p q
  return decide (xs.size<ys.size)):=rfl
def LtAt(prog:aL)(w:aZ)(A:bg)(s:aq)(one:Bool)(p q:ag)(l:Bool):Prop:=∀(E:qV) (Q:Bool->aq->Prop),Q l s->wpAny (model prog w) A (oneLt' one p q) Q E s
theorem zh6{b:Bool}{x y:aj}{R S:Obj}{u p1 v l:ag}{n m:Nat}{G C J N:Bool}{Q:Bool->aq->Prop}(hx:s.heap.get? x=some R)(dx:R.data=.seq #[u,p1] n)(hy:s.heap.get? y=some S)(dy:S.data=.seq #[v,l] m)
  (Z:pF A s u v G) (U:pF A s p1 l C) (t0:G=false->LtAt prog w A s b u v J) (t1:C=false->LtAt prog w A s false p1 l N) (h:Q (if G=true then(if C=true then false else N) else J) s) :
  wpAny (model prog w) A (keyLt' (tuples' b) (.ref x) (.ref y)) Q E s:=by
 rw[zm6];refine aa (g7 hx dx (aa (g7 hy dy ?_)));have ez:((#[u,p1]:Array ag).toList.zip (#[v,l]:Array ag).toList).zipIdx=[((u,v),0),((p1,l),1)]:=rfl;simp only[ez,iD,gW];refine aa (aa ?_);refine aa (Z prog w E _ ?_);cases G with
 | false =>
  simp only[fA,if_true];have Y:(b&&(0:Nat) == 0)=b:=by simp
  rw[Y];refine aa (t0 rfl E _ ?_);exact ae (ae (ae (by simpa using h)))
 | true =>
  simp only[fq,aI,if_false];refine ae (aa (aa (U prog w E _ ?_)));cases C with
  | false =>
   simp only[fA,if_true];have z1:(b&&(1:Nat) == 0)=false:=by simp
   rw[z1];refine aa (t1 rfl E _ ?_);exact ae (ae (ae (by simpa using h)))
  | true =>simp only[fq,aI,if_false];exact ae (ae (ae (by simpa using h)))
theorem zmV(a b:Int)(t u:Tok):LtAt prog w A s true (.int a t) (.int b u) (decide (a<b)):=fun _ _ q=>oneLt_int q
theorem zj8(a b:Int)(t u:Tok):LtAt prog w A s false (.int a t) (.int b u) (decide (a<b)):=fun E Q q=>by rw[oneLt'_eq];simp only[aI,if_false];refine aa (show wpAny (model prog w) A (compareOp .Lt (.int a t) (.int b u)) _ E s from lt_int ?_);exact cZ q
def PrIn(h:a9)(u:ag)(b k:Int):Prop:=∃(a:aj) (o:Obj) (t t':Tok) (n:Nat),u=.ref a/\h.get? a=some o/\o.cls=.type "tuple" /\ o.data=.seq #[.int b t,.int k t'] n
def two?:List ag->Int
 | [.int b _,.int k _]=>b*1000+k
 | _=>0
def rkC(h:a9)(u:ag):Int:=match u with
 | .ref a=>match h.get? a with
  | some o=>match o.data with
   | .seq xs _=>two? xs.toList
   | _=>0
  | none=>0
 | _=>0
theorem PrIn.rk{h:a9}{u:ag}{b k:Int}(p:PrIn h u b k):rkC h u=b*1000+k:=by obtain⟨a,o,t,t',n,rfl,l,_,v⟩:=p;simp only[rkC,l,v,two?]
theorem PrIn.kept{h h':a9}{u:ag}{b k:Int}(p:PrIn h u b k)(kp:∀b o,h.get? b=some o->h'.get? b=some o):PrIn h' u b k:=by obtain⟨a,o,t,t',n,x,l,y,v⟩:=p;exact⟨a,o,t,t',n,x,kp _ _ l,y,v⟩
theorem Z9{α u:Type}{f:α->Sem u}{P:α->u->Prop}{M:xx}:∀(l:List α) {Q:List u->aq->Prop},(∀v∈l,∀(C:u->aq->Prop),(∀r,P v r->C r s)->wpAny M A (f v) C E s)->(∀rs,bL P l rs->Q rs s)->wpAny M A (l.mapM f) Q E s
 | [],_,_,h=>by rw[List.mapM_nil];exact ae (h _ .nil)
 | x::l,Q,hf,h=>by rw[List.mapM_cons];exact aa (hf x (.head _) _ fun r I=>aa (Z9 l (fun v G=>hf v (.tail _ G)) fun rs y=>ae (h _ (.cons I y))))
theorem zkk(v:ag):firstOfTuple' v=(do
  if (<- typeOf v) != .type "tuple" then return none
  return (<- gx v)[0]?):=rfl
theorem zlh{vs:List ag}{Q:kQ->aq->Prop}(h1:1<=vs.length)(N:∀v∈vs,∃b k,PrIn s.heap v b k)(h:Q (tuples' true) s):wpAny (model prog w) A (keyKind' vs.toArray) Q E s:=by
 rw[keyKind'_eq,i4,map_eq_pure_bind];refine aa (aa (Z9 (P:=fun _ r=>∃(b:Int) (t:Tok),r=some (.int b t)) vs (fun v Y Q' Z=>?_) fun rs I=>ae ?_));obtain⟨b,k,a,o,t,t',n,rfl,S,e2,e3⟩:=N v Y;rw[zkk];refine aa (dG (T:="tuple") ⟨o,S,e2⟩ ?_);rw[if_neg (by decide)];exact aa (g7 S e3 (ae (Z _ ⟨b,t,rfl⟩)));have al:∀r∈rs,∃(b:Int) (t:Tok),r=some (.int b t):=by
  clear h N h1;induction I with
  | nil=>intro r u;cases u
  | cons x y G =>intro r u;rcases ay.mp u with rfl|u;exact x;exact G r u
 have ln:rs.length=vs.length:=by
  clear h N h1 al;induction I with
  | nil=>rfl
  | cons x y G=>simp[G]
 have Mr:(rs.toArray.all fun x=>x.isSome)=true:=by simp only[kC,b5];intro x hx;obtain⟨b,t,rfl⟩:=al x hx;rfl
 rw[if_pos Mr];refine aa (cK ?_);rw[sW];have L:rs.toArray.filterMap id=(rs.filterMap id).toArray:=by simp
 rw[L,i4,map_eq_pure_bind];refine aa (aa (aa (Z9 (P:=fun _ r=>r=aV "int") _ (fun v Y Q' Z=>?_) fun ts C=>ae ?_)));obtain⟨x,hx,e⟩:=f9.mp Y;obtain⟨b,t,rfl⟩:=al x hx;cases e;exact ae (Z _ rfl);have J:∀r∈ts,r=aV "int":=by
  clear h N h1;generalize rs.filterMap id=l at C;induction C with
  | nil=>intro r u;cases u
  | cons x y G =>intro r u;rcases ay.mp u with rfl|u;exact x;exact G r u
 have ln2:ts.length=rs.length:=by
  have:ts.length=(rs.filterMap id).length:=by
   clear h N h1 J;generalize rs.filterMap id=l at C;induction C with
   | nil=>rfl
   | cons x y G=>simp[G]
  rw[this];clear this C L Mr;clear ln I;induction rs with
  | nil=>rfl
  | cons x l G =>obtain⟨b,t,rfl⟩:=al x (.head _);simp only[cV,id,aH];rw[G fun r u=>al r (.tail _ u)]
 obtain⟨R,U,rfl⟩:∃R U,ts=R::U:=by
  cases ts with
  | nil=>simp at ln2;omega
  | cons a b=>exact⟨a,b,rfl⟩
 have S:R=aV "int":=J R (.head _);subst S;have Mv:(((aV "int")::U).toArray.all fun x=>x == aV "int")=true:=by simp only[kC,b5];intro x hx;rw[J x hx];rfl
 have h0:((aV "int")::U).toArray[0]?=some (aV "int"):=by simp
 rw[h0];simp only[Mv,if_true];refine ae (ae ?_);exact h
theorem zjc{vs:List ag}{h0:a9}(y:∀v∈vs,∃b k,PrIn s.heap v b k/\rkC h0 v=b*1000+k/\0<=k/\k<1000):Kinds prog w A s (rkC h0) vs:=fun h2=>by
 refine⟨tuples' true,fun E Q q=>zlh (by omega) (fun v J=>?_) q,fun p q E Q mp Z h=>?_⟩;obtain⟨b,k,h,_⟩:=y v J;exact⟨b,k,h⟩;have mem:∀z∈(pairsOf vs).toList,z.1∈vs:=fun z hz=>by
  have:z∈vs.zip vs:=by simpa[pairsOf] using hz
  exact(dF this).1
 obtain⟨b,k,⟨a,o,t,t',n,N,I,e2,U⟩,G,k0,k1⟩:=y _ (mem p mp);obtain⟨x,l,⟨a',o',u,C,n',f0,f1,f2,S⟩,r2,R,Y⟩:=y _ (mem q Z);rw[G,r2]at h;rw[N,f0];refine zh6 I U f1 S (iJ b t x u) (iJ k t' l C) (fun _=>zmV b x t u) (fun _=>zj8 k l t' C) ?_;have:(if (b == x)=true then(if (k == l)=true then false else decide (k<l)) else decide (b<x))=decide (b*1000+k<x*1000+l):=by simp only[beq_iff_eq];split;split;symm;rw[decide_eq_false_iff_not];omega;rw[decide_eq_decide];omega;rw[decide_eq_decide];omega
 rw[this];exact h
end
theorem zgD{α u:Type}{l:List (α×u)}{m:List u}(h:m.Perm (l.map (·.2))):∃o:List (α×u),o.Perm l/\o.map (·.2)=m:=by
 induction m generalizing l with
 | nil =>
  have:l.map (·.2)=[]:=h.symm.eq_nil;cases l with
  | nil=>exact⟨[],.refl _,rfl⟩
  | cons a b=>simp at this
 | cons x m C =>
  have hx:x∈l.map (·.2):=h.mem_iff.mp (.head _);obtain⟨z,hz,rfl⟩:=bc.mp hx;obtain⟨y,l2,rfl⟩:=List.append_of_mem hz;have v:(z.2::m).Perm (z.2::(y++l2).map (·.2)):=by refine h.trans ?_;simp only[eF,aN];exact m7
  obtain⟨o,p,e⟩:=C (List.perm_cons _|>.mp v);exact⟨z::o,(p.cons z).trans m7.symm,by simp[e]⟩
theorem zkQ{α u:Type}{F:α->u->Prop}{o:List α}{l:List u}(r:bL F o l){a:α}(h:a∈o):∃b∈l,F a b:=by
 induction r with
 | nil=>cases h
 | cons f t x =>rcases ay.mp h with rfl|h;exact⟨_,dI,f⟩;obtain⟨b,v,g⟩:=x h;exact⟨b,cw _ v,g⟩
theorem Vk{α u:Type}{F:α->u->Prop}{o:List α}{l:List u}(r:bL F o l){b:u}(h:b∈l):∃a∈o,F a b:=by
 induction r with
 | nil=>cases h
 | cons f t x =>rcases ay.mp h with rfl|h;exact⟨_,dI,f⟩;obtain⟨b,v,g⟩:=x h;exact⟨b,cw _ v,g⟩
theorem zgy{α:Type}{P:α->ag->Prop}{rk:ag->Int}{f:α->Int}{vs:List ag}{as:List α}{y:lR}(U:bL P as vs)(hr:∀a v,P a v->rk v=f a)(pm:(arrOf y).Perm (pairsOf vs))(up:Up rk (arrOf y) vs.length) :
  ∃bs:List α,bs.Perm as/\bs.Pairwise (fun a b=>f a<=f b)/\bL P bs ((arrOf y).map (·.2)).toList:=by
 have u:(arrOf y).toList.Perm (vs.zip vs):=by have:=lT.mp pm;simpa[pairsOf] using this
 have hl:as.length=vs.length:=cE U;have each:∀x∈as.zip vs,P x.1 x.2:=by
  clear pm up u hl;induction U with
  | nil=>intro x hx;simp at hx
  | cons h t J =>intro x hx;rcases ay.mp (by simpa using hx) with rfl|hx;exact h;exact J x hx
 have I:((arrOf y).toList.map (·.2)).Perm ((as.zip vs).map (·.2)):=by refine(u.map _).trans ?_;rw[m8 (ar _),m8 (by lia)]
 obtain⟨C,p1,p2⟩:=zgD I;have R:∀x∈C,P x.1 x.2:=fun x hx=>each x (p1.mem_iff.mp hx);have Mz:∀z∈(arrOf y).toList,z.1=z.2:=fun z hz=>by have:z∈vs.zip vs:=u.mem_iff.mp hz;obtain⟨i,hi,rfl⟩:=bp this;simp
 have S:(arrOf y).size=vs.length:=by have:=u.length_eq;simpa using this
 refine⟨C.map (·.1),?_,?_,?_⟩;have:=p1.map (·.1);rwa [rW (by lia)]at this;rw[cJ,aP];intro i j hi hj N;have lw:C.length=vs.length:=by have:=congrArg c8 p2;simpa[S] using this
 have Z:∀k (Y:k<C.length),rkAt rk (arrOf y) k=f C[k].1:=fun k Y=>by
  have G:k<(arrOf y).size:=by lia
  have e1:(arrOf y).toList[k]'(by simpa using G)=(arrOf y)[k]:=by simp
  have e2:C[k].2=(arrOf y)[k].2:=by
   have:(C.map (·.2))[k]'(by simpa using Y)=((arrOf y).toList.map (·.2))[k]'(by simpa using G):=by simp only[p2]
   simpa using this
  have e3:(arrOf y)[k].1=(arrOf y)[k].2:=Mz _ (by rw[<- e1];exact eK _);unfold rkAt;rw[bw G];simp only[iE,g6];rw[e3,<- e2];exact hr _ _ (R _ (eK _))
 have:=up i j N (by lia);rwa [Z i hi,Z j hj]at this;rw[Array.toList_map,<- p2];clear p1 p2 I pm up;induction C with
 | nil=>exact .nil
 | cons a l J=>exact .cons (R a (.head _)) (J fun x hx=>R x (.tail _ hx))
section
variable{prog:aL}{w:aZ}{A:bg}{E:qV}{s:aq}{rk:ag->Int}
theorem ze9{h:a9}{vs:List ag}{b:aj}{o:Obj}(u:h.get? b=some o):(midH (h.push (seqObj "list" vs.toArray 0)) h.objs.size vs).get? b=some o:=by have l:b<h.objs.size:=ax u;unfold midH;rw[eW _ _ _ (by rw[lU,g8,lU];lia),eW _ _ _ (by rw[g8,lU];lia),oW _ _ _ _ (aD l),eW _ _ _ (aD l)];exact u
theorem zlV{vs:List ag}{P:qV}(l:SrtL rk vs)(C:Kinds prog w A { s with heap:=midH (s.heap.push (seqObj "list" vs.toArray 0)) s.heap.objs.size vs } rk vs)
  (h:∀h' (y:lR) (e:Nat),(∀b o,s.heap.get? b=some o->h'.get? b=some o)->(arrOf y).Perm (pairsOf vs)->Up rk (arrOf y) vs.length->h'.get? s.heap.objs.size=some (seqObj "list" ((arrOf y).map (·.2)) e)->P .none { s with heap:=h' }) :
  wpAny (model prog w) A (cc.«list.sort» ⟨[.ref s.heap.objs.size],[]⟩) (fun f s'=>∃v,f=.done (.ret v)/\P v s') E { s with heap:=s.heap.push (seqObj "list" vs.toArray 0) }:=by
 have x:(s.heap.push (seqObj "list" vs.toArray 0)).get? s.heap.objs.size=some (seqObj "list" vs.toArray 0):=aw _ rfl;refine zo5 (s:={ s with heap:=s.heap.push (seqObj "list" vs.toArray 0) }) x l C fun y p1 p2=>⟨_,rfl,?_⟩;obtain⟨e,he⟩:=sortedHeap_at (out:=(arrOf y).map (·.2)) x;refine h _ y e (fun b o u=>?_) p1 p2 he;have lt:=ax u;rw[sortedHeap_old (aD lt) (by rw[lU];exact Nat.lt_succ_of_lt lt),eW _ _ _ (aD lt)];exact u
end
section
variable{prog:aL}{w:aZ}{A:bg}{E:qV}{s:aq}{rk:a9->ag->Int}
theorem zda{x:ag}{C:a9->Nat->List ag->Prop}{Q:qV}(I:∀(G:bg) (R:qV) (N:List ag->aq->Prop),G.handled=A.handled->(∀h' tk d vs,C h' tk vs->N vs { s with heap:=h',toks:=tk,drawn:=d })->wpAny (model prog w) G (collect x) N R s)
  (L:∀h' tk vs,C h' tk vs->SrtL (rk h') vs)
  (S:∀h' tk d vs (G:bg),C h' tk vs->G.units<=A.units+16->Kinds prog w G { s with heap:=midH (h'.push (seqObj "list" vs.toArray 0)) h'.objs.size vs,toks:=tk,drawn:=d } (rk h') vs)
  (h:∀h' tk d vs v (y:lR) (e:Nat),C h' tk vs->(∀b o,h'.get? b=some o->v.get? b=some o)->(arrOf y).Perm (pairsOf vs)->Up (rk h') (arrOf y) vs.length->v.get? h'.objs.size=some (seqObj "list" ((arrOf y).map (·.2)) e)->Q (.ref h'.objs.size) { s with heap:=v,toks:=tk,drawn:=d }) :
  wpAny (model prog w) A (call (.builtin "sorted") [x]) Q E s:=by
 have Y:100000<=sizeLine:=by decide
 refine l5 kind_sorted plain_sorted entry_sorted (args_sorted1 _) ?_;unfold cc.«sorted»;refine aa (m:=checkCount "sorted" 1 1 _) (ae (aa (I _ _ _ rfl fun h' tk d vs c=>?_)));have J:=L h' tk vs c;have lt:=UM J;refine aa (kJ (hsz:=by show vs.toArray.size<=_;rw[aB];lia) ?_);have U:(h'.push (seqObj "list" vs.toArray 0)).get? h'.objs.size=some (seqObj "list" vs.toArray 0):=aw _ rfl;refine aa (bM (a7 slot_list_sort ⟨_,U,rfl⟩ entry_list_sort ?_ (args_list_sort _)));refine zlV (s:={ s with heap:=h',toks:=tk,drawn:=d }) J (S h' tk d vs _ c (by show A.units+1+1<=_;lia)) fun v y e kp p1 p2 he=>?_;exact ae ⟨_,rfl,h h' tk d vs v y e c kp p1 p2 he⟩
end
section
variable{X:Cx}
theorem zqv{pins:qO}{σ:St}{H:Hp}{s:aq}{q:aj}{b k:Int}(I:Inv X pins σ H s)(h:SqT X.K H q [.int b,.int k]):PrIn s.heap (.ref q) b k:=by
 obtain⟨is,rs,⟨o,f1,f2,n,v⟩,_⟩:=I.tuple h;cases rs with
 | cons a1 a2 =>
  cases a2 with
  | cons u l =>cases l;obtain⟨t,rfl⟩:=a1;obtain⟨t',rfl⟩:=u;exact⟨q,o,t,t',n,rfl,f1,f2,v⟩
theorem Rep.bkI{K:qF}{hd:Option aj}{O:aj->Prop}{H:Hp}{v:V}{a b:Int}(h:Rep K hd O H v (.tuple [.int a,.int b])):∃q,v=.ref q/\SqT K H q [.int a,.int b]:=by
 obtain⟨q,vs,rfl,sq,o⟩:=h.tupI;cases o with
 | cons x1 y =>
  cases y with
  | cons x3 x =>cases x;rw[x1.intI,x3.intI]at sq;exact⟨q,rfl,sq⟩
theorem Inv.drw{X:Cx}{pins:qO}{σ:St}{H:Hp}{s:aq}(I:Inv X pins σ H s)(d:_):Inv X pins σ H { s with drawn:=d }:=⟨I.ok,I.os,I.bare,I.base,I.loc,I.cell,I.free,I.freeC,I.pin,I.hok,I.len⟩
def SrtW(X:Cx)(ts:qD)(R:List af->Prop):Prop:=∃(α:Type) (D:α->af) (P:a9->ag->α->Prop) (f:α->Int) (rk:a9->ag->Int) (as:List α),ts=as.map D/\SrtL f as /\
 (∀{pins σ H s hd O v u a},a∈as->Inv X pins σ H s->Rep X.K hd O H v (D a)->RelV v u->P s.heap u a)/\(∀{h h' u a},P h u a->(∀b o,h.get? b=some o->h'.get? b=some o)->P h' u a/\rk h u=f a) /\
 (∀{A s h0 vs},A.units<cLine->(∀u∈vs,∃a∈as,P s.heap u a/\rk h0 u=f a)->Kinds X.prog X.w A s (rk h0) vs) /\
 ∀l:List α,l.Perm as->l.Pairwise (fun a b=>f a<=f b)->R (l.map D)
theorem zix(hu:X.A.units+64<cLine):JK X (.builtin "sorted") (fun xs H Q=>∃(p:aj) (vs:List V) (ts:qD) (hd:Option aj) (O:aj->Prop),xs=[.ref p]/\(SqL X.K H p vs\/SqT X.K H p vs)/\Reps X.K hd O H vs ts /\
  SrtW X ts fun ts'=>∀R l,Reps X.K hd O H R ts'->H l=none->Q (.ref l) (upd H l (.lst R))):=by
 intro pins s σ H xs us Q I r h;obtain⟨p,vs,ts,hd,O,rfl,G,rp,α,D,P,f,rk,as,rfl,N,tell,kept,kin,q⟩:=h;obtain⟨u,rfl,rx⟩:=vals1 r;cases rx;have hs:100000<=sizeLine:=by decide
 have lt:=UM N;have lv:vs.length=as.length:=by simpa using rp.length
 have key:∀(its:List ag) (o:Obj) (T:String) (n:Nat),Vals vs its->s.heap.get? p=some o->o.cls=.type T->(T = "list" \/ T = "tuple")->o.data=.seq its.toArray n ->
   wpAny (model X.prog X.w) X.A (call (.builtin "sorted") [.ref p]) (EP X pins σ Q) X.xe s:=fun its o T n rv S hc hT hd'=>by
  have li:=rv.length;have go:∀h':a9,(∀b o,s.heap.get? b=some o->h'.get? b=some o)->bL (fun(z:V×α) (u:ag)=>RelV z.1 u/\Rep X.K hd O H z.1 (D z.2)/\P h' u z.2) (vs.zip as) its/\as.map f=its.map (rk h'):=fun h' kp=>by
   have go:∀(bs:List α) (vs:List V) (its:List ag),(∀b∈bs,b∈as)->Reps X.K hd O H vs (bs.map D)->Vals vs its->bL (fun(z:V×α) (u:ag)=>RelV z.1 u/\Rep X.K hd O H z.1 (D z.2)/\P h' u z.2) (vs.zip bs) its/\bs.map f=its.map (rk h'):=by
    intro bs;induction bs with
    | nil=>intro vs its _ r v;cases r;cases v;exact⟨.nil,rfl⟩
    | cons b bs Y =>
     intro vs its J r v;cases r with
     | cons r1 r2 =>
      cases v with
      | cons v1 v2 =>obtain⟨i1,i2⟩:=Y _ _ (fun c hc=>J c (.tail _ hc)) r2 v2;have p:=(kept (tell (J b (.head _)) I r1 v1) kp).1;exact⟨.cons ⟨v1,r1,p⟩ i1,by rw[aN,aN,i2,(kept p fun _ _ e=>e).2]⟩
   exact go as vs its (fun _ h=>h) rp rv
  refine zda (A:=X.A) (x:=.ref p) (rk:=rk) (C:=fun h' tk U=>U=its/\(∀b o,s.heap.get? b=some o->h'.get? b=some o)/\s.heap.objs.size<=h'.objs.size) ?_ ?_ ?_ ?_;intro A' E' Q' hA G;refine zjv S hc hT hd' (by lia) ?_;have hq':=G ((s.heap.push (seqObj "list" #[] 0)).update s.heap.objs.size (dZ (·++its.toArray))) s.toks s.drawn its ⟨rfl,fun b ob J=>?_,?_⟩;exact hq';rw[oW _ _ _ _ (aD (ax J))];exact ah _ J;rw[g8,lU];exact kS _;rintro h' tk U ⟨rfl,kp,_⟩;exact zjI N (go h' kp).2;rintro h' tk d U A' ⟨rfl,kp,_⟩ hA';refine kin (by lia) fun u hu=>?_;obtain⟨x,mx,_,_,p⟩:=Vk (go h' kp).1 hu;exact⟨x.2,(dF mx).2,(kept p fun b o e=>ze9 e).1,(kept p fun _ _ e=>e).2⟩;rintro h' tk d U h2 y e ⟨rfl,kp,sz⟩ kp2 pm up he;obtain⟨zs,p1,p2,p3⟩:=zgy (f:=fun x=>f x.2) (go h' kp).1 (fun x u hx=>(kept hx.2.2 fun _ _ e=>e).2) pm up;obtain⟨rv',rp'⟩:Vals (zs.map (·.1)) ((arrOf y).map (·.2)).toList/\Reps X.K hd O H (zs.map (·.1)) ((zs.map (·.2)).map D):=by
   clear p1 p2 he;generalize ((arrOf y).map (·.2)).toList=out at p3;induction p3 with
   | nil=>exact⟨.nil,.nil⟩
   | cons h _ Y=>exact⟨.cons h.1 Y.1,.cons h.2.1 Y.2⟩
  refine⟨.ref h'.objs.size,_,((I.laid (a:=h'.objs.size) (o:=.lst (zs.map (·.1))) (t':=tk) (fun b o J=>kp2 b o (kp b o J)) sz ⟨?_,_,e,rv',by rw[he]⟩).drw d),rfl,q (zs.map (·.2)) ?_ (by rw[cJ];exact p2) _ _ rp' (I.hok.fresh sz)⟩;have:=p1.length_eq;rw[aG];simp at this;lia;have:=p1.map (·.2);rwa [m8 (by lia)]at this
 rcases G with G|G;obtain⟨its,Z,pl,hz⟩:=I.list G;obtain⟨o,S,hc,n,hd⟩:=pl.isList;exact key its o "list" n Z S hc (.inl rfl) hd;obtain⟨its,Z,pl,hz⟩:=I.tuple G;obtain⟨o,S,hc,n,hd⟩:=pl;exact key its o "tuple" n Z S hc (.inr rfl) hd
theorem zgk{e:aY}{d:DTE}{pos p:Pos}{k:Nat}{L:af->(List af->Prop)->Prop}(hL:∀t R,L t R->JN t fun ts=>SrtW X ts R)(hr:Room k X.A)(hm:X.mg "sorted" = none) (h:DL X e d) (hs:starEach [e] X.env=[(false,eval e X.env)]) (hg:Gl X "sorted") :
  DN X (.Call (.Name "sorted" p) [e] [] pos) (fun G n R=>d G n fun t U=>L t fun ts=>R ts U):=by
 obtain⟨ta,pa,h⟩:=h;refine⟨_,Ye (zix (by have:=hr.un;lia)) hm sE (Qd pa QF hs) hg,fun C G σ H n Q R S hd hq=>?_⟩;refine h C G σ H n _ _ S hd fun t U v x r1 e1 h1 q1=>?_;have r2:=hL t _ r1;have go:∀(p:aj) vs ts,(SqL X.K x p vs\/SqT X.K x p vs)->Reps X.K C.hd (Own C G σ) x vs ts->(SrtW X ts fun ts=>R ts U)->∃(p':aj) (vs:List V) (ts:qD) (hd:Option aj) (O:aj->Prop),[V.ref p]=[V.ref p']/\(SqL X.K x p' vs\/SqT X.K x p' vs)/\Reps X.K hd O x vs ts /\
   SrtW X ts fun ts'=>∀u l,Reps X.K hd O x u ts'->x l=none->Q (.ref l) (upd x l (.lst u)):=fun p vs ts hq' rp ⟨α,D,P,f,rk,as,e,h64,tell,kept,kin,q⟩ =>
  ⟨p,vs,ts,C.hd,Own C G σ,rfl,hq',rp,α,D,P,f,rk,as,e,h64,tell,kept,kin,fun Z pm pw u l rp' I=>hq _ U l u _ (q Z pm pw) (e1.trans (ExtE.new I)) (h1.same (JM I)) (ZK e1 h1 I) JE
   (rp'.mono (fun b o J z=>z.elim id fun z=>by subst z;rw[I]at J;cases J) fun b o _ J=>JM I b o J)⟩
 cases t with
 | list ts =>obtain⟨p,vs,rfl,y,Y⟩:=q1.lstI;exact go p vs ts (.inl (.of y)) Y r2
 | tuple ts =>obtain⟨p,vs,rfl,y,Y⟩:=q1.tupI;exact go p vs ts (.inr y) Y r2
 | _=>exact r2.elim
end
def rkD:af->Int
 | .tuple [.int b,.int k]=>b*1000+k
 | _=>0
def IsPr(t:af):Prop:=∃b k:Int,t=.tuple [.int b,.int k]/\0<=k/\k<1000
def U7(t:af)(R:List af->Prop):Prop:=JN t fun ts=>SrtL rkD ts/\(∀x∈ts,IsPr x)/\∀l:List af,l.Perm ts->l.Pairwise (fun a b=>rkD a<=rkD b)->R l
def zr_(d:DTE):DTA:=fun l n R=>d l n fun t o=>U7 t fun ts=>R ts o
theorem zfa{t:af}{R l:List af->Prop}(h:∀ts,R ts->l ts)(x:JN t R):JN t l:=by
 cases t with
 | list ts=>exact h _ x
 | tuple ts=>exact h _ x
 | _=>exact x
theorem zis{X:Cx}{e:aY}{d:DTE}{pos p:Pos}{k:Nat}(U:Room k X.A)(hm:X.mg "sorted" = none) (h:DL X e d) (G:starEach [e] X.env=[(false,eval e X.env)]) (hg:Gl X "sorted":=by rfl):DN X (.Call (.Name "sorted" p) [e] [] pos) (zr_ d) :=
 zgk (L:=U7) (fun t R=>zfa fun ts ⟨x,ok,q⟩=>⟨af,id,fun h u t=>∃b k,t=.tuple [.int b,.int k]/\PrIn h u b k,rkD,rkC,ts,(oC ts).symm,x,fun {_ _ _ _ _ _ v u a} ha I r rv=>by
  obtain⟨b,k,rfl,_⟩:=ok a ha;obtain⟨q,rfl,sq⟩:=Rep.bkI r;cases(show u=aJ q from rv);exact⟨b,k,rfl,zqv I sq⟩,fun⟨b,k,e,p⟩ kp=>⟨⟨b,k,e,p.kept kp⟩,by rw[p.rk,e];rfl⟩,fun _ Y=>zjc fun v J=>by
  obtain⟨a,Z,⟨b,k,rfl,p⟩,e⟩:=Y v J;obtain⟨_,_,S,k0,k1⟩:=ok _ Z;cases S;exact⟨b,k,p,e,k0,k1⟩,fun o pm pw=>by rw[oC];exact q o pm pw⟩) U hm h G hg
abbrev prD(b:Int×Int):af:=.tuple [.int b.1,.int b.2]
def pD(bs:qB):List af:=bs.map prD
theorem Jz{bs:qB}:(pD bs).length=bs.length:=by simp[pD]
theorem ztE{bs cs:qB}:pD bs++pD cs=pD (bs++cs):=by simp[pD]
theorem YM{i h:Int}{bs:qB}:pD bs++[.tuple [.int i,.int h]]=pD (bs++[(i,h)]):=by simp[pD]
theorem UP{bs:qB}{k:Nat}{t:af}(h:(pD bs)[k]?=some t):∃i g:Int,bs[k]?=some (i,g)/\t=.tuple [.int i,.int g]:=by
 unfold pD at h;rw[aT]at h;cases e:bs[k]? with
 | none=>rw[e]at h;cases h
 | some b=>rw[e]at h;cases h;exact⟨b.1,b.2,rfl,rfl⟩
def eB(b:Int×Int):Int:=b.1+2 ^ b.2.toNat
def Bks(bits:Int)(bs:qB):Prop:=∀b∈bs,IsBk bits b.1 b.2
def Ptc(bits:Int)(bs:qB):Prop:=Bks bits bs/\bs.Pairwise fun a b=>eB a<=b.1
theorem Qa(b:Int×Int):b.1<eB b:=by have:=Bd.Qc b.2.toNat;unfold eB;lia
theorem Ptc.ends{bits:Int}{bs:qB}(P:Ptc bits bs):bs.Pairwise fun a b=>eB a<=eB b:=P.2.imp fun {a b} h=>by have:=Qa b;lia
theorem zp0{bs:qB}:Okd (.list (pD bs)):=by
 have:∀bs:List (Int×Int),gR (pD bs)=true/\iF (pD bs)<=1:=by
  intro bs;induction bs with
  | nil=>exact⟨by simp[pD,gR],by simp[pD,iF]⟩
  | cons b l o =>refine⟨?_,?_⟩;have:=o.1;simp only[pD,aN,gR,iY,vg,dS]at this ⊢;exact this;have:=o.2;simp only[pD,aN,iF,lA]at this ⊢;lia
 exact⟨by simp only[iY];exact(this bs).1,by simp only[lA];have:=(this bs).2;lia⟩
theorem zri:Okd (.list []):=⟨by simp[iY,gR],by simp[lA,iF]⟩
theorem zrM{d:DTE}{l:En}{n:Nat}{Rl:List af->Nat->Prop}(h:d l n fun t o=>U7 t fun ts=>Rl ts o):zr_ d l n Rl:=h
theorem zt9{bits:Int}{bs:qB}{Rl:List af->Prop}(o:bits<=64)(B:Bks bits bs)(I:bs.Pairwise fun a b=>eB a<=b.1\/eB b<=a.1)(J:bs.length<64)
  (h:∀cs,Ptc bits cs->cs.Perm bs->Rl (pD cs)):U7 (.list (pD bs)) Rl:=by
 refine⟨US (by rw[Jz];exact J),fun x hx=>?_,fun y pm pw=>?_⟩;obtain⟨b,C,rfl⟩:=bc.mp hx;have:=B b C;exact⟨b.1,b.2,rfl,this.1,by have:=this.2.1;lia⟩;have G:y.Perm ((bs.map fun b=>(b,prD b)).map (·.2)):=by
  have:(bs.map fun b=>(b,prD b)).map (·.2)=pD bs:=by simp[pD]
  rw[this];exact pm
 obtain⟨zs,p1,p2⟩:=zgD G;have S:∀z∈zs,z.2=prD z.1:=fun z hz=>by obtain⟨b,_,rfl⟩:=bc.mp (p1.mem_iff.mp hz);rfl
 have e:y=pD (zs.map (·.1)):=by rw[<- p2];unfold pD;rw[cI];exact fe fun z hz=>S z hz
 have pc:(zs.map (·.1)).Perm bs:=by
  have:=p1.map (·.1);rw[cI]at this;have R:bs.map ((fun x:(Int×Int)×af=>x.1)∘fun b=>(b,prD b))=bs:=by show bs.map id=bs;exact oC _
  rwa [R]at this
 rw[e];have u:(zs.map (·.1)).Pairwise fun a b=>eB a<=b.1\/eB b<=a.1:=(pc.pairwise_iff (fun {a b} h=>h.symm)).mpr I;have v:Bks bits (zs.map (·.1)):=fun b o=>B b (pc.mem_iff.mp o);rw[e]at pw;unfold pD at pw;rw[cJ]at pw;refine h _ ⟨v,?_⟩ pc;have both:=AV u pw;refine iw ?_ both;rintro a b N o ⟨h1,L⟩;have L:a.1*1000+a.2<=b.1*1000+b.2:=L;have a0:=(v a N).1;have a1:=(v a N).2.1;have Y:=(v b o).1;have U:=(v b o).2.1;have:=Qa a;have:=Qa b;lia
theorem zvd{tg:DTG}{tt:DTT}{d:DTE}{ρ0:En}{Rl:List af->Nat->Prop}(Inv:Nat->List af->Nat->Prop):∀(xs:qD) (i:Nat) {acc:qD}{n:Nat},Inv i acc n ->
  (∀(k:Nat) (x:af) (acc:qD) (n:Nat) (K:List af->Nat->Prop),xs[k]?=some x->Inv (i+k) acc n->(∀o y,Inv (i+k+1) o y->K o y) ->
   tg x ρ0 fun v=>tt v n fun b C=>if b=true then d v C fun t G=>acc.length<16777216/\K (acc++[t]) G else K acc C) ->
  (∀acc n,Inv (i+xs.length) acc n->Rl acc n)->JO tg tt d ρ0 xs acc n Rl
 | [],i,acc,n,h0,_,fin=>fin acc n (by simpa using h0)
 | x::xs,i,acc,n,h0,turn,fin=>by
  refine turn 0 x acc n (fun acc n=>JO tg tt d ρ0 xs acc n Rl) rfl (by simpa using h0) fun o y h'=>?_;refine zvd Inv xs (i+1) (by simpa using h') (fun k u acc n K e J I=>?_) (fun acc n h=>fin acc n ?_);refine turn (k+1) u acc n K (by simpa using e) ?_ fun o y h'=>I o y ?_;have:i+(k+1)=i+1+k:=by lia
  rw[this];exact J;have:i+1+k+1=i+(k+1)+1:=by lia
  rw[this];exact h';have:i+(x::xs).length=i+1+xs.length:=by simp;lia
  rw[this]at *;exact h
theorem zqo{tg:DTG}{tt:DTT}{d:DTE}{ρ0:En}{Rl:List af->Nat->Prop}{xs:qD}{n:Nat}(Inv:Nat->List af->Nat->Prop)(h0:Inv 0 [] n)
  (turn:∀(k:Nat) (x:af) (acc:qD) (n:Nat) (K:List af->Nat->Prop),xs[k]?=some x->Inv k acc n->(∀l v,Inv (k+1) l v->K l v) ->
   tg x ρ0 fun o=>tt o n fun b u=>if b=true then d o u fun t y=>acc.length<16777216/\K (acc++[t]) y else K acc u)
  (fin:∀acc n,Inv xs.length acc n->Rl acc n):JO tg tt d ρ0 xs [] n Rl :=
 zvd Inv xs 0 h0 (fun k x acc n K e G C=>turn k x acc n K e (by simpa using G) fun a m h=>C a m (by simpa using h)) fun acc n h=>fin acc n (by simpa using h)
theorem UU{α:Type}{cs:List α}{D:α->af}{tg:DTG}{tt:DTT}{d:DTE}{ρ0:En}{n:Nat}{Rl:List af->Nat->Prop}(F:α->af)(C:cs.length<=16777216)
  (step:∀b∈cs,∀(K:qN) (X:Nat->Prop),K (F b) n->tg (D b) ρ0 fun l=>tt l n fun c u=>if c=true then d l u K else X u) (fin:Rl (cs.map F) n):JO tg tt d ρ0 (cs.map D) [] n Rl:=by
 refine zqo (fun j acc m=>m=n/\acc=(cs.take j).map F) ⟨rfl,rfl⟩ ?_ ?_;rintro j x acc m K o ⟨rfl,rfl⟩ hK;rw[aT]at o;cases eb:cs[j]? with
 | none=>rw[eb]at o;cases o
 | some b =>rw[eb]at o;cases o;obtain⟨y,v⟩:=av.mp eb;refine step b (aA eb) _ _ ⟨?_,hK _ _ ⟨rfl,?_⟩⟩;simp;lia;rw[fV,eb];simp
 rintro acc m ⟨rfl,rfl⟩;rw[aG,dQ];exact fin
theorem zxx{bs:List Bool}{R:af->Prop}(h:R (.bool (bs.all id))):bAll [.list (bs.map kP)] R:=⟨bs,rfl,h⟩
theorem Zp{α:Type}{cs:List α}{f:α->Bool}{R:af->Prop}(h:R (.bool (cs.all f))):bAll [.list (cs.map fun b=>kP (f b))] R:=by
 have e:(cs.map fun b=>kP (f b))=(cs.map f).map kP:=by simp
 rw[e];refine zxx ?_;have u:(cs.map f).all id=cs.all f:=by simp[List.all_map,gP]
 rw[u];exact h
theorem zue{xs:qD}{k:Nat}{x:af}{R:af->Prop}(e:xs[k]?=some x)(h:R x):oIx (.tuple xs) (.int (k:Int)) R:=by
 have o:k<xs.length:=by rcases bG k xs.length with z|z;exact z;rw[bO z]at e;cases e
 rw[Vy (x:=x)];exact h;unfold atI ixN;have:((0:Int)<=(k:Int)):=by lia
 have:((k:Int)<(xs.length:Int)):=by lia
 have v:xs[k]=x:=by rw[au o]at e;exact aE e
 simp[o,v]
theorem zrB{xs:qD}{i:Int}{k:Nat}{x:af}{R:af->Prop}(hi:i=(k:Int))(e:xs[k]?=some x)(h:R x):oIx (.tuple xs) (.int i) R:=by subst hi;exact zue e h
theorem zrc{bs:qB}{k:Nat}{b:Int×Int}(h:bs[k]?=some b):(pD bs)[k]?=some (.tuple [.int b.1,.int b.2]):=by unfold pD;rw[aT,h];rfl
theorem zr0{bs:qB}:gq (.list (pD bs)) (.list [])=bs.isEmpty:=by
 cases bs with
 | nil=>simp[pD,gq,o7]
 | cons b l=>simp[pD,gq,o7]
theorem Ys{many:Int}{n:Nat}{R:qN}(h0:0<many)(h1:many<2 ^ 128)(l:n<=1000000000000)(h:∀r:Int,0<=r->r<many->R (.int r) (n+1)):UJ [HAND,.int many] n R:=⟨rfl,h0,h1,l,h⟩
theorem zkY{i h:Int}:JP (.tuple [.int i,.int h])=true:=by simp[JP,ZI]
theorem Bks.app{bits i h:Int}{bs:qB}(B:Bks bits bs)(C:IsBk bits i h):Bks bits (bs++[(i,h)]):=fun b l=>by rcases aW.mp l with z|z;exact B b z;cases aC.mp z;exact C
section
variable{prog:aL}{w:aZ}{A:bg}{E:qV}{s:aq}
open HT in
theorem zdd{t v:aj}{items:Array ag}{I J:ag}{lo hi:Option Int}{Q:qV}(u:pS s.heap t items)(G:s.heap.IsSliceOf v I J .none)(pl:mN I lo)(N:mN J hi)
  (hw:HT.sIx items.size 0 lo=0/\HT.sIx items.size items.size hi=items.size) (h:Q (.ref t) s):wpAny (model prog w) A (getItem (.ref t) (.ref v)) Q E s:=by
 obtain⟨os,x,C,L⟩:=id G;have y:s.TypeIs (.ref v) "slice":=⟨os,x,C⟩;unfold getItem;try with_reducible refine bM ?_
 first|refine aa (ae ?_)|skip
 refine aa (pY u.typeIs (by decide) ?_);refine aa (bo (name:=aR "__getitem__") u.typeIs b9
  (a7 b9 u.typeIs oS ?_ (pH _ _)))
 show wpAny _ _ (lQ (.ref t) >>= _) _ _ s;refine aa (tupleItemsOf_ u ?_);refine aa (dG y ?_);rw[if_pos (by decide)];refine aa (HT.zce G pl N ?_);have l:(((HT.sIx items.size 0 lo:Nat):Int) == 0&&(1:Int) == 1&&(HT.sIx items.size items.size hi - HT.sIx items.size 0 lo) == items.size)=true:=by rw[hw.1,hw.2];simp
 show wpAny _ _ (if (((HT.sIx items.size 0 lo:Nat):Int) == 0&&(1:Int) == 1&&(HT.sIx items.size items.size hi - HT.sIx items.size 0 lo) == items.size)=true then _ else _) _ _ s;rw[if_pos l];unfold tZ;refine aa (aa (dG u.typeIs (ae ?_)));rw[if_pos (by decide)];exact aa (cK (ae ⟨_,rfl,ae h⟩))
end
section
variable{X:Cx}
def rSlW(K:qF):V->Option Int->Option Int->Hp->VK->Prop:=fun x lo hi H Q=>∃a xs,x=.ref a/\SqT K H a xs/\(HT.sIx xs.length 0 lo=0/\HT.sIx xs.length xs.length hi=xs.length)/\Q (.ref a) H
theorem zqx:SlR X (rSlW X.K):=by
 intro pins s σ H x v J L lo hi G Q I C u pl y h;obtain⟨a,xs,rfl,hx,hw,q⟩:=h;cases C;obtain⟨its,r,o,hz⟩:=I.tuple hx;have l:its.toArray.size=xs.length:=by rw[aB];exact r.length.symm
 refine⟨"tuple",_,b9.lookup,o.typeIs,?_⟩;exact zdd o u pl y (by rw[l];exact hw) ⟨.ref a,H,I,rfl,q⟩
end
abbrev DTO:=En->Nat->(Option Int->Nat->Prop)->Prop
def DP(X:Cx)(e:Option aY)(d:DTO):Prop:=∃t,PO X e t/\∀(C:Ctx) (l:En) (σ:St) (H:Hp) (n:Nat) (Q:Option Int->Hp->Prop) (R:Option Int->Nat->Prop),Stt X.K C l σ H n->d l n R ->
 (∀o u H',R o u->ExtE C.hd H H'->Hn X.K C.hd H' u->Q o H')->t σ H Q
def zjt:DTO:=fun l n R=>R none n
def zsb(d:DTE):DTO:=fun l n R=>d l n fun t o=>lInt t fun i=>R (some i) o
def cutD(ts:qD)(lo hi:Option Int):List af:=(ts.drop (HT.sIx ts.length 0 lo)).take (HT.sIx ts.length ts.length hi - HT.sIx ts.length 0 lo)
def lSl(t:af)(lo hi:Option Int)(R:List af->Prop):Prop:=match t with
 | .list ts=>R (cutD ts lo hi)
 | _=>False
def dSlL(d:DTE)(dl o:DTO):DTA:=fun l n R=>d l n fun t v=>dl l v fun lo u=>o l u fun hi x=>lSl t lo hi fun z=>R z x
section
variable{X:Cx}{e:aY}{d:DTE}{lo hi:Option aY}{dlo dhi:DTO}{pos p2:Pos}
theorem zns:DP X none zjt:=⟨_,zqY,fun C o σ H n Q R S h l=>l none n H h ExtE.refl S.hnd⟩
theorem znr(h:DE X e d):DP X (some e) (zsb d):=by
 obtain⟨J,pa,h⟩:=h;refine⟨_,zqX pa,fun C y σ H n Q R S hd x=>?_⟩;refine h C y σ H n _ _ S hd fun t I v G l o h1 u=>?_;cases t with
 | int i =>cases u;exact⟨i,rfl,x (some i) I G l o h1⟩
 | _=>exact l.elim
theorem zkr{K:qF}{hd:Option aj}{O:aj->Prop}{H:Hp}{vs ts}(r:Reps K hd O H vs ts)(lo hi:Option Int):Reps K hd O H (cutV vs lo hi) (cutD ts lo hi):=by unfold cutV cutD;rw[r.length];exact(r.drop _).take _
theorem zlq{ts:qD}{lo hi:Option Int}(h:HT.sIx ts.length 0 lo=0/\HT.sIx ts.length ts.length hi=ts.length):cutD ts lo hi=ts:=by unfold cutD;rw[h.1,h.2];simp
theorem zpw(h:DL X e d)(N:DP X lo dlo)(J:DP X hi dhi):DN X (.Subscript e (.Slice lo hi none p2) pos) (dSlL d dlo dhi):=by
 obtain⟨ta,pa,h⟩:=h;obtain⟨tl,pl,N⟩:=N;obtain⟨tu,pu,J⟩:=J;refine⟨_,zjZ zqy pa pl pu,fun C I σ H n Q R S hd hq=>?_⟩;refine h C I σ H n _ _ S hd fun t n1 v H1 r1 Y h1 q1=>?_;have S1:=S.on Y h1;refine N C I σ H1 n1 _ _ S1 r1 fun lo n2 H2 r2 G h2=>?_;have S2:=S1.on G h2;refine J C I σ H2 n2 _ _ S2 r2 fun hi n3 H3 Z L U=>?_;have S3:=S2.on L U;have q3:=(G.trans L).repT S.hx q1;cases t with
 | list ts =>obtain⟨a,vs,rfl,hs,rs⟩:=q3.lstI;refine⟨a,vs,rfl,.of hs,fun p x=>?_⟩;have e:=Y.trans (G.trans L);refine hq _ n3 p _ _ Z (e.trans (ExtE.new x)) (U.same (JM x)) (ZK e U x) JE ?_;refine(zkr rs lo hi).mono (fun b o y z=>z.elim id fun z=>?_) fun b o _ y=>JM x b o y;subst z;rw[x]at y;cases y
 | _=>exact Z.elim
end
section
variable{X:Cx}
theorem znU(hc:X.calm=true):JK X (.builtin "sum") (fun xs H Q=>∃(a:aj) (ns:List Int),xs=[.ref a]/\SqL X.K H a (ns.map V.int)/\Q (.int ns.sum) H):=by
 intro pins s σ H xs J Q I r h;obtain⟨a,ns,rfl,x,q⟩:=h;obtain⟨u,rfl,G⟩:=vals1 r;cases G;obtain⟨its,C,p,hz⟩:=I.list x;have hi:=intsAre_of C;have v:s.heap.IsList a its.toArray:=p.isList;obtain⟨xs,hx⟩:=hi.allInts.items;have o:numsOf its.toArray.toList=ns:=by rw[show its.toArray.toList=its from rfl,hi.numsOf]
 rw[hx]at v o;rw[nums_intItems]at o;refine sum_intListG (I.ok.hd hc) v fun h' tk t' y=>?_;rw[preSum_eq,nE (by simp),o];exact⟨.int ns.sum,H,I.kept y,⟨_,rfl⟩,q⟩
def bSum:GC
 | [.list ts],R=>∃ns:List Int,ts=ns.map bS/\R (.int ns.sum)
 | _,_=>False
theorem zuR:GpC X (fun xs H Q=>∃(a:aj) (ns:List Int),xs=[.ref a]/\SqL X.K H a (ns.map V.int)/\Q (.int ns.sum) H) bSum:=by intro hd O H xs ts Q R dom rs h u;unfold bSum at h;split at h;obtain⟨ns,rfl,h⟩:=h;obtain⟨v,rfl,l⟩:=QQ rs;obtain⟨p,vs,rfl,h1,x⟩:=l.lstI;rw[VY x]at h1;exact⟨p,ns,rfl,.of h1,u _ _ H h (Same.refl H) (.int _)⟩;exact h.elim
end
structure NxS(prog:aL)(w:aZ)(i a:aj)(IT:Nat->a9->Prop)(SQ:a9->Array ag->Prop):Prop where
 rcd:∀k h,IT k h->∃o,h.get? i=some o/\∀v,o.data≠.cell v
 keep:∀k h h',IT k h->(∀o,h.get? i=some o->h'.get? i=some o)->IT k h'
 sk:∀h h' xs,SQ h xs->(∀o,h.get? a=some o->h'.get? a=some o)->SQ h' xs
 item:∀(A:bg) (E:qV) (k:Nat) (xs:Array ag) (x:ag) (s:aq) (Q:qV),IT k s.heap->SQ s.heap xs->xs[k]?=some x ->
  (∀h',IT (k+1) h'->cH i s.heap h'->Q x { s with heap:=h' })->wpAny (model prog w) A (bN (.ref i)) Q E s
 done:∀(A:bg) (E:qV) (k:Nat) (xs:Array ag) (s:aq) (Q:qV),A.handled=none->IT k s.heap->SQ s.heap xs->xs[k]?=none ->
  (∀h' e,mI i s.heap h'->(∃o,h'.get? e=some o/\o.cls=.type "StopIteration")->E (.ref e) { s with heap:=h' })->wpAny (model prog w) A (bN (.ref i)) Q E s
theorem zrl{prog:aL}{w:aZ}{i a:aj}:NxS prog w i a (fun k h=>h.IsListIter i a k) (fun h xs=>h.IsList a xs) where
 rcd:=fun k h ⟨o,e,c,d⟩=>⟨o,e,fun v z=>by rw[d]at z;cases z⟩
 keep:=fun k h h' x f=>x.at f
 sk:=fun h h' xs x f=>x.at f
 item:=fun A E k xs x s Q h1 l u h=>wpAny_nextOf_list_item h1 l u h
 done:=fun A E k xs s Q y h1 l u h=>wpAny_nextOf_list_end y h1 l u h
section
variable{prog:aL}{w:aZ}{A:bg}{E:qV}{s:aq}
theorem zh1{i:aj}{T id:String}{Q:qV}{f:cc}(u:s.TypeIs (.ref i) T)(l:y8 T "__next__" id) (x:entryFor table id=some f) (y:argsOk id ⟨[.ref i],[]⟩)
  (h:wpAny (model prog w) A.in1 (f ⟨[.ref i],[]⟩) (fun fin s'=>∃v,fin=.done (.ret v)/\Q v s') E s):wpAny (model prog w) A (bN (.ref i)) Q E s:=by
 unfold bN;refine aa (bo (name:=aR "__next__") u l (a7 l u x ?_ y));refine cz h (fun fin s' C=>?_) fun _ _ e=>e;obtain⟨v,e,q⟩:=C;exact⟨v,e,ae q⟩
theorem zhq{i a:aj}{k:Nat}{xs:Array ag}{x:ag}{Q:qV}(h1:s.heap.IsTupleIter i a k)(y:s.heap.IsTuple a xs)(G:xs[k]?=some x)
  (h:∀h',h'.IsTupleIter i a (k+1)->cH i s.heap h'->Q x { s with heap:=h' }):wpAny (model prog w) A (bN (.ref i)) Q E s:=by
 refine zh1 h1.typeIs lV lE (k7 _) ?_;obtain⟨o,u,v,l⟩:=h1;obtain⟨p,f1,_,n,C⟩:=y;refine aa (m:=field (.ref i) 0) (bW u l (x:=.ref a) rfl ?_);have ne:¬((aJ a == b8)=true):=fun z=>by cases z
 rw[if_neg ne];refine aa (m:=field (.ref i) 1) (bW u l (x:=.int k 0) rfl ?_);refine aa (m:=seqItems? (.ref a)) (dA f1 C ?_);simp only[bt,G];refine aa (cP u l (by simp) (ae ⟨x,rfl,h _ ?_ (cX ..)⟩));refine⟨_,br _ u (df (bQ l _)),?_,?_⟩;rw[fH];exact v;rw[bQ l];simp[rawInt]
theorem zhr{i a:aj}{k:Nat}{xs:Array ag}{Q:qV}(G:A.handled=none)(h1:s.heap.IsTupleIter i a k)(I:s.heap.IsTuple a xs)(L:xs[k]?=none)
  (h:∀h' e,mI i s.heap h'->(∃o,h'.get? e=some o/\o.cls=.type "StopIteration")->E (.ref e) { s with heap:=h' }):wpAny (model prog w) A (bN (.ref i)) Q E s:=by
 refine zh1 h1.typeIs lV lE (k7 _) ?_;obtain⟨o,l,N,C⟩:=h1;obtain⟨p,f1,_,n,J⟩:=I;refine aa (m:=field (.ref i) 0) (bW l C (x:=.ref a) rfl ?_);have ne:¬((aJ a == b8)=true):=fun z=>by cases z
 rw[if_neg ne];refine aa (m:=field (.ref i) 1) (bW l C (x:=.int k 0) rfl ?_);refine aa (m:=seqItems? (.ref a)) (dA f1 J ?_);simp only[bt,L];refine aa (cK (aa (cP l C (by simp) ?_)));refine aa (m:=newExc (.type "StopIteration") []) ?_;simp only[newExc,newTuple];refine aa (aX ?_ (by size_fits));refine aa (m:=firstArgMember _ _) (iO (a:=b8) (by first|rfl|(simp only[firstArgMember];rfl)) (aX ?_ (by size_fits)));simp only[raiseNew];refine aa (kK ?_);have v:A.in1.handled=none:=G;first|rw[v]|rw[G]
 exact aa (ae (mJ (h _ _ (((cX ..).extBut.push _).push _) ⟨_,aw _ rfl,rfl⟩)))
end
theorem Heap.IsTupleIter.at'{h h':a9}{i a:aj}{k:Nat}(x:h.IsTupleIter i a k)(f:∀o,h.get? i=some o->h'.get? i=some o):h'.IsTupleIter i a k:=by obtain⟨o,e,r⟩:=x;exact⟨o,f o e,r⟩
theorem Heap.IsTuple.at'{h h':a9}{a:aj}{xs:Array ag}(x:h.IsTuple a xs)(f:∀o,h.get? a=some o->h'.get? a=some o):h'.IsTuple a xs:=by obtain⟨o,e,r⟩:=x;exact⟨o,f o e,r⟩
theorem ztU{prog:aL}{w:aZ}{i a:aj}:NxS prog w i a (fun k h=>h.IsTupleIter i a k) (fun h xs=>h.IsTuple a xs) where
 rcd:=fun k h ⟨o,e,c,d⟩=>⟨o,e,fun v z=>by rw[d]at z;cases z⟩
 keep:=fun k h h' x f=>Heap.IsTupleIter.at' x f
 sk:=fun h h' xs x f=>Heap.IsTuple.at' x f
 item:=fun A E k xs x s Q h1 l u h=>zhq h1 l u h
 done:=fun A E k xs s Q y h1 l u h=>zhr y h1 l u h
structure ZAp(z TI TO i1 i2 a1 a2:aj):Prop where
 p:[z,TI,TO,i1,i2].Nodup
 q:∀a∈[a1,a2],a∉[z,TI,TO,i1,i2]
section
variable{prog:aL}{w:aZ}{A:bg}{E:qV}{s:aq}{z TI TO i1 i2 a1 a2:aj}{I1 I2:Nat->a9->Prop}{S1 S2:a9->Array ag->Prop}
structure ZSt(z TI TO i1 i2:aj)(I1 I2:Nat->a9->Prop)(f:ag)(k:Nat)(h:a9):Prop where
 zip:sG h z TI TO f
 ti:nF h TI (.ref i1) (.ref i2)
 to:∃a b,nF h TO a b
 it1:I1 k h
 it2:I2 k h
theorem zlE(D:ZAp z TI TO i1 i2 a1 a2):(z≠TI/\z≠TO/\z≠i1/\z≠i2/\TI≠TO/\TI≠i1/\TI≠i2/\TO≠i1/\TO≠i2/\i1≠i2)/\(a1≠z/\a1≠TO/\a1≠i1/\a1≠i2)/\(a2≠z/\a2≠TO/\a2≠i1/\a2≠i2):=by have h1:=D.p;have u:=D.q;simp only[cj,ay,a8,or_false,not_or,t4,and_true,not_false_eq_true]at h1;have o:=u a1 (by simp);have l:=u a2 (by simp);simp only[ay,a8,or_false,not_or]at o l;exact⟨⟨h1.1.1,h1.1.2.1,h1.1.2.2.1,h1.1.2.2.2,h1.2.1.1,h1.2.1.2.1,h1.2.1.2.2,h1.2.2.1.1,h1.2.2.1.2,h1.2.2.2⟩,⟨o.1,o.2.2.1,o.2.2.2.1,o.2.2.2.2⟩,⟨l.1,l.2.2.1,l.2.2.2.1,l.2.2.2.2⟩⟩
theorem z_item{k:Nat}{xs ys:Array ag}{x y:ag}{Q:qV}(D:ZAp z TI TO i1 i2 a1 a2)(N1:NxS prog w i1 a1 I1 S1)(N2:NxS prog w i2 a2 I2 S2)(st:ZSt z TI TO i1 i2 I1 I2 .none k s.heap)(s1:S1 s.heap xs)(s2:S2 s.heap ys)
  (hx:xs[k]?=some x) (hy:ys[k]?=some y)
  (hQ:∀h',ZSt z TI TO i1 i2 I1 I2 (rawInt s.heap.objs.size) (k+1) h'->nF h' s.heap.objs.size x y->h'.objs.size=s.heap.objs.size+1 ->
   (∀c o,c≠z->c≠TO->c≠i1->c≠i2->s.heap.get? c=some o->h'.get? c=some o)->Q (.ref s.heap.objs.size) { s with heap:=h' }) :
  wpAny (model prog w) A (cc.«zip.__next__» ⟨[.ref z],[]⟩) (fun fin s'=>∃v,fin=.done (.ret v)/\Q v s') E s:=by
 obtain⟨⟨d1,d2,d3,d4,d5,d6,d7,d8,d9,L⟩,⟨e1,e2,e3,e4⟩,⟨g1,g2,g3,g4⟩⟩:=zlE D;obtain⟨zip,ti,⟨va,vb,to⟩,it1,it2⟩:=st;refine aa (m:=field (.ref z) 2) (bW zip rfl (x:=.bool false) rfl ?_);refine aa (m:=field (.ref z) 3) (bW zip rfl (x:=.ref TI) rfl (aa (dA ti rfl ?_)));refine aa (m:=dB (.ref z)) ?_;unfold dB;refine aa (bW zip rfl (x:=.none) rfl (ae ?_));simp only[if_true];refine aa (cK (aa (bW zip rfl (x:=.ref TO) rfl (aa (bY zip (by simp) fun hA zA Z=>?_)))));have zA':sG hA z TI TO .ellipsis:=zA;refine aa ?_;simp only[rX,sX,iD,gW];refine aa (aa (mP (aa (m:=bN (.ref i1)) ?_)));refine N1.item _ _ k xs x _ _ (N1.keep _ _ _ it1 fun o e=>Z.extBut _ _ d3.symm e) (N1.sk _ _ _ s1 fun o e=>Z.extBut _ _ e1 e) hx fun hB it1B bB=>ae ?_;have Y:nF hB TO va vb:=bB.extBut _ _ d8 (Z.extBut _ _ d2.symm to);refine aa (dA Y rfl (aa (kU Y fun hC toC bC=>?_)));have toC':nF hC TO x vb:=toC;refine aa (mK (ae ?_));refine aa (aa (mP (aa (m:=bN (.ref i2)) ?_)));have I:∀c o,c≠z->c≠TO->c≠i1->s.heap.get? c=some o->hC.get? c=some o:=fun c o C J c3 e=>bC.extBut _ _ J (bB.extBut _ _ c3 (Z.extBut _ _ C e));refine N2.item _ _ k ys y _ _ (N2.keep _ _ _ it2 fun o e=>I _ _ d4.symm d9.symm L.symm e) (N2.sk _ _ _ s2 fun o e=>I _ _ g1 g2 g3 e) hy fun hD N bD=>ae ?_;have toD:nF hD TO x vb:=bD.extBut _ _ d9 toC';refine aa (dA toD rfl (aa (kU toD fun u toF R=>?_)));have G:nF u TO x y:=toF;refine aa (mK (ae (ae ?_)));refine aa (dA G rfl (aa (oA ?_)));have sz:u.objs.size=s.heap.objs.size:=by rw[R.1,bD.1,bC.1,bB.1,Z.1]
 have S:∀c o,c≠z->c≠TO->c≠i1->c≠i2->s.heap.get? c=some o->u.get? c=some o:=fun c o C J c3 c4 e=>R.extBut _ _ J (bD.extBut _ _ c4 (I c o C J c3 e));have zF:sG u z TI TO .ellipsis:=R.extBut _ _ d2 (bD.extBut _ _ d4 (bC.extBut _ _ d2 (bB.extBut _ _ d3 zA')));have zlt:z<u.objs.size:=ax zF;refine aa (m:=h8 (.ref z) (.ref u.objs.size)) ?_;unfold h8;have zG:sG (u.push { cls:=.type "tuple",data:=.seq #[x,y] }) z TI TO .ellipsis:=ah _ zF;refine aa (bY zG (by simp) fun hI zI bI=>?_);have zI':sG hI z TI TO (rawInt u.objs.size):=zI;refine bY zI' (by simp) fun U zJ bJ=>ae ⟨_,rfl,?_⟩;have zJ':sG U z TI TO (rawInt u.objs.size):=zJ;have up:∀c o,c≠z->u.get? c=some o->U.get? c=some o:=fun c o C e=>bJ.extBut _ _ C (bI.extBut _ _ C (ah _ e));have pr:nF U u.objs.size x y:=bJ.extBut _ _ (dU zlt) (bI.extBut _ _ (dU zlt) (aw _ rfl));have szJ:U.objs.size=u.objs.size+1:=by rw[bJ.1,bI.1,cM]
 rw[sz]at zJ' pr szJ;show Q (.ref u.objs.size) _;rw[sz];refine hQ U ⟨zJ',up _ _ d1.symm (S _ _ d1.symm d5 d6 d7 ti),⟨x,y,up _ _ d2.symm G⟩,?_,?_⟩ pr szJ fun c o C J c3 c4 e=>up c o C (S c o C J c3 c4 e);exact N1.keep _ _ _ it1B fun o e=>up _ _ d3.symm (R.extBut _ _ d8.symm (bD.extBut _ _ L (bC.extBut _ _ d8.symm e)));exact N2.keep _ _ _ N fun o e=>up _ _ d4.symm (R.extBut _ _ d9.symm e)
theorem z_end{k:Nat}{xs ys:Array ag}{Q:PySem.Fin->aq->Prop}(hh:A.handled=none)(D:ZAp z TI TO i1 i2 a1 a2)(U:NxS prog w i1 a1 I1 S1)(N2:NxS prog w i2 a2 I2 S2)(st:ZSt z TI TO i1 i2 I1 I2 .none k s.heap)(s1:S1 s.heap xs)(s2:S2 s.heap ys)
  (Z:xs[k]?=none\/ys[k]?=none)
  (hE:∀h' e,(∀c o,c≠z->c≠TO->c≠i1->c≠i2->s.heap.get? c=some o->h'.get? c=some o)->(∃o,h'.get? e=some o/\o.cls=.type "StopIteration")->E (.ref e) { s with heap:=h' }) :
  wpAny (model prog w) A (cc.«zip.__next__» ⟨[.ref z],[]⟩) Q E s:=by
 obtain⟨⟨d1,d2,d3,d4,d5,d6,d7,d8,d9,Y⟩,⟨e1,e2,e3,e4⟩,⟨g1,g2,g3,g4⟩⟩:=zlE D;obtain⟨zip,ti,⟨va,vb,to⟩,it1,it2⟩:=st;refine aa (m:=field (.ref z) 2) (bW zip rfl (x:=.bool false) rfl ?_);refine aa (m:=field (.ref z) 3) (bW zip rfl (x:=.ref TI) rfl (aa (dA ti rfl ?_)));refine aa (m:=dB (.ref z)) ?_;unfold dB;refine aa (bW zip rfl (x:=.none) rfl (ae ?_));simp only[if_true];refine aa (cK (aa (bW zip rfl (x:=.ref TO) rfl (aa (bY zip (by simp) fun hA zA J=>?_)))));have S:sG hA z TI TO .ellipsis:=zA;refine aa ?_;simp only[rX,sX,iD,gW];refine aa (aa (mP (aa (m:=bN (.ref i1)) ?_)));have R:=U.keep _ _ _ it1 fun o e=>J.extBut _ _ d3.symm e;have I:=U.sk _ _ _ s1 fun o e=>J.extBut _ _ e1 e;cases hx:xs[k]? with
 | none =>
  refine U.done _ _ k xs _ _ hh R I hx fun hB e C ⟨oe,he,hc⟩=>?_;have zB:sG hB z TI TO .ellipsis:=C _ _ d3 S;have ez:e≠z:=fun y=>by subst y;rw[zB]at he;cases he;simp at hc
  exact bY zB (by simp) fun hC _ N=>hE hC e (fun c o u _ L _ y=>N.extBut _ _ u (C _ _ L (J.extBut _ _ u y))) ⟨oe,N.extBut _ _ ez he,hc⟩
 | some x =>
  have hy:ys[k]?=none:=by rcases Z with h|h;rw[hx]at h;cases h;exact h
  refine U.item _ _ k xs x _ _ R I hx fun hB it1B C=>ae ?_;have G:nF hB TO va vb:=C.extBut _ _ d8 (J.extBut _ _ d2.symm to);refine aa (dA G rfl (aa (kU G fun hC toC N=>?_)));refine aa (mK (ae ?_));refine aa (aa (mP (aa (m:=bN (.ref i2)) ?_)));have v:∀c o,c≠z->c≠TO->c≠i1->s.heap.get? c=some o->hC.get? c=some o:=fun c o u c2 L e=>N.extBut _ _ c2 (C.extBut _ _ L (J.extBut _ _ u e));refine N2.done _ _ k ys _ _ hh (N2.keep _ _ _ it2 fun o e=>v _ _ d4.symm d9.symm Y.symm e) (N2.sk _ _ _ s2 fun o e=>v _ _ g1 g2 g3 e) hy fun hD e bD ⟨oe,he,hc⟩=>?_;have zD:sG hD z TI TO .ellipsis:=bD _ _ d4 (N.extBut _ _ d2 (C.extBut _ _ d3 S));have ez:e≠z:=fun y=>by subst y;rw[zD]at he;cases he;simp at hc
  exact bY zD (by simp) fun hF _ bF=>hE hF e (fun c o u c2 L c4 y=>bF.extBut _ _ u (bD _ _ c4 (v c o u c2 L y))) ⟨oe,bF.extBut _ _ ez he,hc⟩
theorem zsz{k:Nat}{xs ys:Array ag}{x y:ag}{Q:Option ag->aq->Prop}(D:ZAp z TI TO i1 i2 a1 a2)(G:NxS prog w i1 a1 I1 S1)(L:NxS prog w i2 a2 I2 S2)(st:ZSt z TI TO i1 i2 I1 I2 .none k s.heap)(s1:S1 s.heap xs)(s2:S2 s.heap ys)
  (hx:xs[k]?=some x) (N:ys[k]?=some y)
  (v:∀h',ZSt z TI TO i1 i2 I1 I2 (rawInt s.heap.objs.size) (k+1) h'->nF h' s.heap.objs.size x y->h'.objs.size=s.heap.objs.size+1 ->
   (∀c o,c≠z->c≠TO->c≠i1->c≠i2->s.heap.get? c=some o->h'.get? c=some o)->Q (some (.ref s.heap.objs.size)) { s with heap:=h' }) :
  wpAny (model prog w) A (pyNext (.ref z)) Q E s:=by
 have l:s.TypeIs (.ref z) "zip":=⟨_,st.zip,rfl⟩;unfold pyNext;exact aa (eR (bo (name:=aR "__next__") l k8 (a7 k8 l rY
  (z_item D G L st s1 s2 hx N fun h' u I J C=>ae (v h' u I J C)) (rf _))))
theorem zsy{k:Nat}{xs ys:Array ag}{Q:Option ag->aq->Prop}(I:A.handled=none)(D:ZAp z TI TO i1 i2 a1 a2)(y:NxS prog w i1 a1 I1 S1)(G:NxS prog w i2 a2 I2 S2)(st:ZSt z TI TO i1 i2 I1 I2 .none k s.heap)(s1:S1 s.heap xs)(s2:S2 s.heap ys)
  (l:xs[k]?=none\/ys[k]?=none) (x:∀h',(∀c o,c≠z->c≠TO->c≠i1->c≠i2->s.heap.get? c=some o->h'.get? c=some o)->Q none { s with heap:=h' }):wpAny (model prog w) A (pyNext (.ref z)) Q E s:=by
 have u:s.TypeIs (.ref z) "zip":=⟨_,st.zip,rfl⟩;unfold pyNext;refine aa (eR (bo (name:=aR "__next__") u k8 (a7 k8 u rY
  (z_end I D y G st s1 s2 l fun h' e C ⟨o,v,hc⟩=>?_) (rf _))))
 exact aa (fw (T:="StopIteration") (b:=true) ⟨o,v,hc⟩ i5 (ae (x _ C)))
end
def SqB(t:Bool)(K:qF)(H:Hp)(a:aj)(xs:List V):Prop:=match t with|true=>SqT K H a xs|false=>SqL K H a xs
def ITB(t:Bool)(i a:aj):Nat->a9->Prop:=match t with|true=>fun k h=>h.IsTupleIter i a k|false=>fun k h=>h.IsListIter i a k
def SQB(t:Bool)(a:aj):a9->Array ag->Prop:=match t with|true=>fun h xs=>h.IsTuple a xs|false=>fun h xs=>h.IsList a xs
def itN(t:Bool):String:=match t with|true=>"tuple_iterator" | false=>"list_iterator"
theorem nx_B{prog:aL}{w:aZ}{i a:aj}(t:Bool):NxS prog w i a (ITB t i a) (SQB t a):=by cases t;exact zrl;exact ztU
section
variable{X:Cx}{pins:qO}{σ:St}{H:Hp}{s:aq}
theorem Inv.seqB{t:Bool}{a:aj}{xs:List V}(I:Inv X pins σ H s)(h:SqB t X.K H a xs):∃its:List ag,Vals xs its/\SQB t a s.heap its.toArray/\xs.length<=sizeLine:=by cases t;obtain⟨its,r,p,z⟩:=I.list h;exact⟨its,r,p.isList,z⟩;obtain⟨its,r,p,z⟩:=I.tuple h;exact⟨its,r,p,z⟩
theorem Inv.injB{t:Bool}{a:aj}{xs ys:List V}(I:Inv X pins σ H s)(h:SqB t X.K H a xs)(h':SqB t X.K H a ys):xs=ys:=by cases t;exact I.list_inj h h';exact I.tuple_inj h h'
theorem Inv.turnedL{h':a9}{t':Nat}(ch:List aj)(I:Inv X pins σ H s)(k:∀b o,b∉ch->s.heap.get? b=some o->h'.get? b=some o)(f:∀b∈ch,FpOk X pins H b):Inv X pins σ H { s with heap:=h',toks:=t' }:=by
 have l:∀b u,H b=some u->b∉ch:=fun b u e z=>by rw[(f b z).1]at e;cases e
 refine I.step (g':=s.gens) (d':=s.drawn) (ch:=ch) (fun b x=>⟨(f b x).2.2.2.1,(f b x).2.1,(f b x).2.2.2.2.1,(f b x).2.2.2.2.2⟩) (fun b o _ _ hc e _=>k b o hc e) (fun b o _ _ hc e _=>⟨o.slots,k b o hc e⟩) (fun _ _ _ _ n=>n) (fun b o hc e=>⟨o,k b o hc e⟩) (fun _ _ e=>e) (fun _ _ _ e=>e)
  (fun _ _ e=>e) (fun m ⟨o,es,ep,C,r⟩=>⟨o,es,ep,k _ o (fun z=>(f _ z).2.1 rfl) C,r⟩) (fun b u e=>(I.hok b u e).stay (fun c v hc q=>k c v ?_ q) (fun _ q=>q) (fun _ _ q=>q) fun _ _ _ q=>q) I.bare
 rcases hc with z|z;rw[z];exact l b u e;exact l c _ z
end
section
variable{prog:aL}{w:aZ}{A:bg}{E:qV}{s:aq}
theorem zun{t:Bool}{a:aj}{xs:Array ag}{Q:qV}(h:SQB t a s.heap xs)(o:Q (.ref s.heap.objs.size) { s with heap:=s.heap.push { cls:=.type (itN t),data:=.fields #[.ref a,.int 0 0] } }):wpAny (model prog w) A (pyIter (.ref a)) Q E s:=by cases t;exact iR h o;exact iH h o
theorem SQB.push{t:Bool}{a:aj}{xs:Array ag}{h:a9}(x:SQB t a h xs)(o:Obj):SQB t a (h.push o) xs:=by cases t;exact BJ x o;exact AW x o
abbrev zA(h:a9)(t:Bool)(a:aj):a9:=h.push { cls:=.type (itN t),data:=.fields #[.ref a,.int 0 0] }
abbrev zB(h:a9)(t u:Bool)(a b:aj):a9:=(zA h t a).push { cls:=.type (itN u),data:=.fields #[.ref b,.int 0 0] }
abbrev zC(h:a9)(t u:Bool)(a b:aj):a9:=(zB h t u a b).push { cls:=.type "tuple",data:=.seq #[.ref h.objs.size,.ref (zA h t a).objs.size] }
abbrev zD(h:a9)(t u:Bool)(a b:aj):a9:=(zC h t u a b).push { cls:=.type "tuple",data:=.seq #[.none,.none] }
abbrev zE(h:a9)(t u:Bool)(a b:aj):a9:=(zD h t u a b).push { cls:=.type "zip",data:=.fields #[.none,.bool false,.bool false,.ref (zB h t u a b).objs.size,.ref (zC h t u a b).objs.size] }
theorem zo4(t u:Bool)(a b:aj)(xs ys:Array ag) :
  Meets (cc.«zip.__new__» ⟨[.type "zip",.ref a,.ref b],[]⟩) (fun _ R s=>SQB t a s.heap xs/\SQB u b s.heap ys/\R (.ok (.ret (.ref (zD s.heap t u a b).objs.size))) { s with heap:=zE s.heap t u a b }) :=
 .of_wp fun prog w A R s h=>by obtain⟨v,g,d,tk,os⟩:=s;obtain⟨h1,x,h⟩:=h;have G:=sub_zip;have C:SQB t a (xT ⟨v,g,d,tk,os⟩) xs:=h1;have L2:SQB u b (xT ⟨v.push { cls:=.type (itN t),data:=.fields #[.ref a,.int 0 0] },g,d,tk,os⟩) ys:=SQB.push x _;wp_walk using zun C,zun L2;exact⟨_,rfl,h⟩
theorem ITB.new{t:Bool}{i a:aj}{h:a9}(e:h.get? i=some { cls:=.type (itN t),data:=.fields #[.ref a,.int 0 0] }):ITB t i a 0 h:=by cases t;exact⟨_,e,rfl,rfl⟩;exact⟨_,e,rfl,rfl⟩
theorem zsg{t u:Bool}{a b:aj}{xs ys:Array ag}{Q:qV}(h1:SQB t a s.heap xs)(L:SQB u b s.heap ys)
  (h:∀h',ZSt (s.heap.objs.size+4) (s.heap.objs.size+2) (s.heap.objs.size+3) s.heap.objs.size (s.heap.objs.size+1) (ITB t s.heap.objs.size a) (ITB u (s.heap.objs.size+1) b) .none 0 h'->h'.objs.size=s.heap.objs.size+5 ->
   (∀c o,s.heap.get? c=some o->h'.get? c=some o)->Q (.ref (s.heap.objs.size+4)) { s with heap:=h' }) :
  wpAny (model prog w) A (call (.type "zip") [.ref a,.ref b]) Q E s:=by
 refine callType_new F.called_zip (by decide) (F.typeCall_zip_2 _ _) (F.newCall_zip_2 _ _) (fun obj=>F.args_object_init_3 obj _ _) F.entry_zip_new (zo4 t u a b xs ys) ⟨h1,L,?_⟩;have G:(zA s.heap t a).objs.size=s.heap.objs.size+1:=cM ..;have C:(zB s.heap t u a b).objs.size=s.heap.objs.size+2:=by rw[cM,G]
 have v:(zC s.heap t u a b).objs.size=s.heap.objs.size+3:=by rw[cM,C]
 have I:(zD s.heap t u a b).objs.size=s.heap.objs.size+4:=by rw[cM,v]
 have N:(zE s.heap t u a b).objs.size=s.heap.objs.size+5:=by rw[cM,I]
 have l:(zE s.heap t u a b).get? (zD s.heap t u a b).objs.size=some _:=aw _ rfl;have J:(zE s.heap t u a b).get? (zC s.heap t u a b).objs.size=some _:=ah _ (aw _ rfl);have g3:(zE s.heap t u a b).get? (zB s.heap t u a b).objs.size=some _:=ah _ (ah _ (aw _ rfl));have g2:(zE s.heap t u a b).get? (zA s.heap t a).objs.size=some _:=ah _ (ah _ (ah _ (aw _ rfl)));have g1:(zE s.heap t u a b).get? s.heap.objs.size=some _:=ah _ (ah _ (ah _ (ah _ (aw _ rfl))));show _/\_;rw[C,v,I]at l;rw[G,C]at g3;rw[v]at J;rw[G]at g2;rw[I];refine⟨⟨_,l,rfl⟩,h _ ⟨l,g3,⟨_,_,J⟩,.new g1,.new g2⟩ N fun c o x=>?_⟩;iterate 5 refine ah _ ?_
 exact x
end
def Itz(t u:Bool)(K:qF)(a b:aj):It :=
 ⟨fun i H=>∃xs ys x y,SqB t K H a xs/\SqB u K H b ys/\xs[i]?=some x/\ys[i]?=some y,
  fun i H v H'=>∃p x y,H p=none/\v=.ref p/\(∀xs,SqB t K H a xs->xs[i]?=some x)/\(∀ys,SqB u K H b ys->ys[i]?=some y)/\H'=upd H p (.tup [x,y]),
  fun i H=>∃xs ys,SqB t K H a xs/\SqB u K H b ys/\(xs.length<=i\/ys.length<=i)⟩
theorem zon{P:aL}{w:aZ}{K:qF}{Z:List aY}{x1:_}{pos:Pos}{t u:Bool}{z TI TO G C a b:aj}(D:ZAp z TI TO G C a b) :
  Turn P w K (.Tuple Z x1 pos) (Itz t u K a b) [z,TI,TO,G,C] z (fun i h=>ZSt z TI TO G C (ITB t G a) (ITB u C b) .none i h) where
 mem:=by simp
 obj:=fun i h st c hc=>by obtain⟨R,ti,⟨va,vb,to⟩,L,J⟩:=st;simp only[ay,a8,or_false]at hc;rcases hc with rfl|rfl|rfl|rfl|rfl;exact⟨_,R,fun v y=>by cases y⟩;exact⟨_,ti,fun v y=>by cases y⟩;exact⟨_,to,fun v y=>by cases y⟩;exact(nx_B (prog:=P) (w:=w) t).rcd _ _ L;exact(nx_B (prog:=P) (w:=w) u).rcd _ _ J
 keep:=fun i h h' st k=>by obtain⟨R,ti,⟨va,vb,to⟩,L,J⟩:=st;exact⟨k _ (by simp) _ R,k _ (by simp) _ ti,⟨va,vb,k _ (by simp) _ to⟩,(nx_B (prog:=P) (w:=w) t).keep _ _ _ L (k _ (by simp)),(nx_B (prog:=P) (w:=w) u).keep _ _ _ J (k _ (by simp))⟩
 item:=by
  intro X hP hw hK hc i pins s σ H E I hf st hg;subst hP hw hK;obtain⟨xs,ys,x,y,q1,q2,hx,hy⟩:=hg;obtain⟨its,r1,p1,z1⟩:=I.seqB q1;obtain⟨jts,r2,p2,z2⟩:=I.seqB q2;obtain⟨S,hux,rux⟩:=r1.get hx;obtain⟨N,huy,ruy⟩:=r2.get hy;refine zsz D (nx_B t) (nx_B u) st p1 p2 (x:=S) (y:=N) (by simpa using hux) (by simpa using huy) fun h' Y pr sz kp=>?_;refine⟨_,rfl,?_⟩;refine wpAny_letOwnedTupleGo_zip (s:={ s with heap:=h' }) Y.zip fun h2 z2' sb=>?_;obtain⟨⟨d1,d2,d3,d4,d5,d6,d7,d8,d9,d10⟩,_,_⟩:=zlE D;have big:∀c∈[z,TI,TO,G,C],c<s.heap.objs.size:=fun c hc=>by obtain⟨R,ti,⟨va,vb,to⟩,L,J⟩:=st;simp only[ay,a8,or_false]at hc;rcases hc with rfl|rfl|rfl|rfl|rfl;exact ax R;exact ax ti;exact ax to;obtain⟨o,e,_⟩:=(nx_B (prog:=X.prog) (w:=X.w) t).rcd _ _ L;exact ax e;obtain⟨o,e,_⟩:=(nx_B (prog:=X.prog) (w:=X.w) u).rcd _ _ J;exact ax e
  have hp:H s.heap.objs.size=none:=I.hok.fresh (ar _);have I1:Inv X pins σ (upd H s.heap.objs.size (.tup [x,y])) { s with heap:=s.heap.push { cls:=.type "tuple",data:=.seq #[S,N] } } :=
   I.laid (t':=s.toks) (fun b o e=>ah _ e) (ar _) (show JC X.prog X.w _ _ _ (.tup [x,y]) from⟨by show 2<=sizeLine;decide,[S,N],.cons rux (.cons ruy .nil),IsTD.new _ _⟩)
  have U:∀c∈[z,TI,TO,G,C],c≠s.heap.objs.size:=fun c hc=>aD (big c hc);have fu:∀c∈[z,TI,TO,G,C],upd H s.heap.objs.size (.tup [x,y]) c=none:=fun c hc=>by rw[Jh (U c hc)];exact(hf c hc).1
  refine⟨.ref s.heap.objs.size,upd H s.heap.objs.size (.tup [x,y]),?_,rfl,⟨_,x,y,hp,rfl,fun xs' h=>by rw[I.injB h q1];exact hx,fun ys' h=>by rw[I.injB h q2];exact hy,rfl⟩,?_,fu⟩;refine Inv.turnedL (s:={ s with heap:=s.heap.push { cls:=.type "tuple",data:=.seq #[S,N] } }) (t':=s.toks) [z,TO,G,C] I1 (fun c o hc e=>?_) fun c hc=>?_;simp only[ay,a8,or_false,not_or]at hc;refine sb.extBut _ _ hc.1 ?_;by_cases y:c=s.heap.objs.size;subst y;have e':(s.heap.push { cls:=.type "tuple",data:=.seq #[S,N] }).get? s.heap.objs.size=some _:=aw _ rfl;have e2:some o=some _:=e.symm.trans e';cases e2;exact pr;have e':s.heap.get? c=some o:=by have e3:(s.heap.push { cls:=.type "tuple",data:=.seq #[S,N] }).get? c=some o:=e;rwa [eW _ _ _ y]at e3
  exact kp c o hc.1 hc.2.1 hc.2.2.1 hc.2.2.2 e';have m:c∈[z,TI,TO,G,C]:=by simp only[ay,a8,or_false]at hc ⊢;rcases hc with h|h|h|h <;> simp[h]
  exact⟨fu c m,(hf c m).2⟩;obtain⟨R,ti,⟨va,vb,to⟩,L,J⟩:=Y;exact⟨z2',sb.extBut _ _ d1.symm ti,⟨va,vb,sb.extBut _ _ d2.symm to⟩,(nx_B (prog:=X.prog) (w:=X.w) t).keep _ _ _ L fun o e=>sb.extBut _ _ d3.symm e,(nx_B (prog:=X.prog) (w:=X.w) u).keep _ _ _ J fun o e=>sb.extBut _ _ d4.symm e⟩
 done:=by intro X hP hw hK hc i pins s σ H E I hf st hg;subst hP hw hK;obtain⟨xs,ys,q1,q2,hx⟩:=hg;obtain⟨its,r1,p1,z1⟩:=I.seqB q1;obtain⟨jts,r2,p2,z2⟩:=I.seqB q2;have l1:=r1.length;have l2:=r2.length;refine zsy (I.ok.hd hc) D (nx_B t) (nx_B u) st p1 p2 (by rcases hx with h|h;exact .inl (by simp;omega);exact .inr (by simp;omega)) fun h' kp=>⟨rfl,?_⟩;refine Inv.turnedL (t':=s.toks) [z,TO,G,C] I (fun c o hc e=>?_) fun c hc=>hf c ?_;simp only[ay,a8,or_false,not_or]at hc;exact kp c o hc.1 hc.2.1 hc.2.2.1 hc.2.2.2 e;simp only[ay,a8,or_false]at hc ⊢;rcases hc with h|h|h|h <;> simp[h]
 self:=fun _ _ _ _ _ st h=>rZ st.zip h
section
variable{X:Cx}{a b:aY}{elts:List aY}{x1:Nat}{p p' pos:Pos}
def iZip(K:qF)(o:TA):TI:=fun σ H R=>o σ H fun vs l=>∃(t u:Bool) (c d:aj) (xs ys:List V),vs=[.ref c,.ref d]/\SqB t K l c xs/\SqB u K l d ys/\R (Itz t u K c d) l
theorem SQB.lt{t:Bool}{c:aj}{xs:Array ag}{h:a9}(x:SQB t c h xs):c<h.objs.size:=by cases t;obtain⟨o,e,_⟩:=x;exact ax e;obtain⟨o,e,_⟩:=x;exact ax e
theorem zqr{n:Nat}{c d:aj}(h1:c<n)(o:d<n):ZAp (n+4) (n+2) (n+3) n (n+1) c d:=by
 have ne:∀(e:aj) (k:Nat),e<n->e≠n+k:=fun e k h=>aD (aM h (g9 _ _));refine⟨by simp,fun e he=>?_⟩;have l:e<n:=by simp only[ay,a8,or_false]at he;rcases he with rfl|rfl;exact h1;exact o
 simp only[ay,a8,or_false,not_or];exact⟨ne e 4 l,ne e 2 l,ne e 3 l,aD l,ne e 1 l⟩
theorem zto{J:TA}(hg:Gl X "zip") (hm:X.mg "zip" = none) (Z:PA X [a,b] J) (U:starEach [a,b] X.env=[(false,eval a X.env),(false,eval b X.env)]) (o:starEach [b] X.env=[(false,eval b X.env)]) :
  PI X (.Tuple elts x1 p') (.Call (.Name "zip" p) [a,b] [] pos) (iZip X.K J):=by
 intro pins s σ H R I h;refine Call_ (YJ I hg hm boot_zip (fi (thn (Z pos pins s σ H _ I h) fun us s1 ⟨vs,H1,v,L,S⟩=>?_) (by rw[U,o]) (by rw[o];rfl)));obtain⟨t,u,c,d,xs,ys,rfl,G,y,q⟩:=S;cases L with
 | cons r x =>
  cases x with
  | cons Y x =>
   cases x;cases r;cases Y;obtain⟨its,_,p1,_⟩:=v.seqB G;obtain⟨jts,_,p2,_⟩:=v.seqB y;refine zsg p1 p2 fun h' st sz kp=>?_;refine rZ (s:={ s1 with heap:=h' }) st.zip ?_;refine⟨_,_,_,_,H1,rfl,v.kept (t':=s1.toks) kp,zon (zqr p1.lt p2.lt),st,fun e he=>?_,q⟩;have ge:s1.heap.objs.size<=e:=by simp only[ay,a8,or_false]at he;rcases he with rfl|rfl|rfl|rfl|rfl;exact g9 _ _;exact g9 _ _;exact g9 _ _;exact ar _;exact g9 _ _
   exact v.fpOk ge (v.hok.fresh ge)
theorem srcB{K:qF}{hd:Option aj}{P O:aj->Prop}{H:Hp}{v:V}{t:af}{ts:qD}(I:∀a,¬O a->P a)(r:Rep K hd O H v t)(h:t=.tuple ts\/t=.list ts) :
  ∃(k:Bool) (q:aj) (vs:List V),v=.ref q/\SqB k K H q vs/\∀(y:aj->Prop) (x:Hp),(∀a o,H a=some o->P a->x a=some o)->(∀a o,H a=some o->¬O a->¬y a)->SqB k K x q vs/\Reps K hd y x vs ts:=by
 have L:∀vs,Reps K hd O H vs ts->∀(y:aj->Prop) (x:Hp),(∀a o,H a=some o->P a->x a=some o)->(∀a o,H a=some o->¬O a->¬y a)->Reps K hd y x vs ts:=fun vs r y x h1 C =>
  r.mono (fun a o J z=>bu fun no=>C a o J no z) fun a o no J=>h1 a o J (I a no)
 rcases h with rfl|rfl;cases r with
 | @tup q vs ds h o r=>exact⟨true,q,vs,rfl,.inl (.inl h),fun y x h1 C=>⟨.inl (.inl (h1 q _ h (I q o))),L vs r y x h1 C⟩⟩
 | @tupS q vs ds h r=>exact⟨true,q,vs,rfl,h.sq,fun y x h1 C=>⟨h.sq,L vs r y x h1 C⟩⟩
 obtain⟨q,vs,rfl,G,no,r⟩:=r.lstI;exact⟨false,q,vs,rfl,SqL.of G,fun y x h1 C=>⟨SqL.of (h1 q _ G (I q no)),L vs r y x h1 C⟩⟩
def zipD(xs ys:qD):List af:=(xs.zip ys).map fun q=>.tuple [q.1,q.2]
def dZip(v db:DTE):DTA:=fun l n R=>v l n fun x u=>db l u fun y o=>JN x fun xs=>JN y fun ys=>R (zipD xs ys) o
theorem zkd{t:af}{R:List af->Prop}(h:JN t R):∃ts,(t=.tuple ts\/t=.list ts)/\R ts:=by
 cases t with
 | list ts=>exact⟨ts,.inr rfl,h⟩
 | tuple ts=>exact⟨ts,.inl rfl,h⟩
 | _=>exact h.elim
theorem zqd{da db:DTE}(hm:X.mg "zip" = none) (h:DE X a da) (h':DE X b db) (hg:Gl X "zip":=by rfl) (hs:starEach [a,b] X.env=[(false,eval a X.env),(false,eval b X.env)]:=by rfl) (G:starEach [b] X.env=[(false,eval b X.env)]:=by rfl) :
  DI X (.Tuple elts x1 p') (.Call (.Name "zip" p) [a,b] [] pos) (dZip da db):=by
 obtain⟨ta,pa,h⟩:=h;obtain⟨tb,pb,h'⟩:=h';refine⟨_,zto hg hm (QT pa (QT pb QY G) (by rw[hs,G])) hs G,fun C ρ σ H n Q R S hd hq=>?_⟩;refine h C ρ σ H n _ _ S hd fun x n1 v H1 r1 e1 hn1 q1=>?_;have S1:=S.on e1 hn1;refine h' C ρ σ H1 n1 _ _ S1 r1 fun y n2 w H2 Z e2 hn2 q2=>?_;have q1':=e2.rep S.hx q1;obtain⟨xs,hx,Z⟩:=zkd Z;obtain⟨ys,hy,Z⟩:=zkd Z;obtain⟨k1,c,vs,rfl,s1,f1⟩:=srcB (P:=fun a=>¬Own C ρ σ a) (fun _ z=>z) q1' hx;obtain⟨k2,d,ws,rfl,s2,f2⟩:=srcB (P:=fun a=>¬Own C ρ σ a) (fun _ z=>z) q2 hy;refine⟨k1,k2,c,d,vs,ws,rfl,s1,s2,hq _ n2 _ H2 Z (e1.trans e2) hn2 ?_⟩;intro O2 H3 h1 h2 h3;obtain⟨g1,Y⟩:=f1 O2 H3 h1 h2;obtain⟨g2,J⟩:=f2 O2 H3 h1 h2;refine⟨fun i t I=>?_,?_⟩;unfold zipD at I;rw[aT]at I;cases ez:(xs.zip ys)[i]? with
 | none=>rw[ez]at I;cases I
 | some q =>rw[ez]at I;cases I;obtain⟨ex,ey⟩:=l8.mp ez;obtain⟨vx,L,rx⟩:=Y.get ex;obtain⟨vy,U,ry⟩:=J.get ey;refine⟨⟨vs,ws,vx,vy,g1,g2,L,U⟩,fun v H4 hyd=>?_⟩;obtain⟨pp,x',y',hp,rfl,hx',hy',rfl⟩:=hyd;have e1:x'=vx:=aE ((hx' vs g1).symm.trans L);have e2:y'=vy:=aE ((hy' ws g2).symm.trans U);subst e1 e2;exact⟨JM hp,.newT (fun z=>h3 pp z hp) hp (.cons rx (.cons ry .nil))⟩
 refine⟨vs,ws,g1,g2,?_⟩;have:=Y.length;have:=J.length;unfold zipD;simp only[aG,iG];omega
end
section
variable{d da db:DTE}{dlo dhi:DTO}{ρ:En}{n:Nat}{R:qN}{Ro:Option Int->Nat->Prop}{Rl:List af->Nat->Prop}{xs ys:qD}{lo hi:Option Int}{Q:af->Prop}{Ql:List af->Prop}
theorem zuD(h:d ρ n fun t o=>dlo ρ o fun lo l=>dhi ρ l fun hi u=>lSl t lo hi fun z=>Rl z u):dSlL d dlo dhi ρ n Rl:=h
theorem zne(h:Ro none n):zjt ρ n Ro:=h
theorem zrO(h:d ρ n fun t l=>lInt t fun i=>Ro (some i) l):zsb d ρ n Ro:=h
theorem zw8(h:Ql (cutD xs lo hi)):lSl (.list xs) lo hi Ql:=h
theorem zuz(h:da ρ n fun x o=>db ρ o fun y l=>JN x fun xs=>JN y fun ys=>Rl (zipD xs ys) l):dZip da db ρ n Rl:=h
end
theorem zgl{cs:qD}{tg:DTG}{tt:DTT}{d:DTE}{ρ0:En}{n:Nat}{Rl:List af->Nat->Prop}(F:af->af)(u:cs.length<=16777216)
  (step:∀b∈cs,∀(K:qN) (X:Nat->Prop),K (F b) n->tg b ρ0 fun l=>tt l n fun c o=>if c=true then d l o K else X o) (fin:Rl (cs.map F) n):JO tg tt d ρ0 cs [] n Rl:=by
 have:=UU (cs:=cs) (D:=fun t=>t) (tg:=tg) (tt:=tt) (d:=d) (ρ0:=ρ0) (n:=n) (Rl:=Rl) F u step fin;simpa using this
theorem zkq{ts:qD}:cutD ts (some 1) none=ts.tail:=by
 unfold cutD;rw[HT.zoC,show(some (1:Int))=some ((1:Nat):Int) from rfl,HT.zqC];cases ts with
 | nil=>simp
 | cons a l =>
  have:min 1 (a::l).length=1:=by simp
  rw[this];simp
class Stp (P:Prop)(Q:outParam Prop):Prop where
 go:Q->P
section
variable{t u tb:DTS}{D:JF}{ρ ρ0:En}{n i j m:Nat}{d da db dc d1 d2:DTE}{ds di:DTA}{c c' tt:DTT}{g:G2}{g':G2}{gc:GC}{gd:GD}{tg:DTG}{tgs:DTGs}{R:qN}{Rb:Bool->Nat->Prop}{Rl:List af->Nat->Prop}{Re:En->Prop}{x y:af}{xs ys acc:qD}{f:Int->Int->Int}{fb:af->Bool}{k:Bool}{capt:List Nat}
instance zvH :Stp (sSeq t u D ρ n) ((t { D with nx:=u D } ρ n)):=⟨fun h=>zuq h⟩
instance zsV :Stp (zqB D ρ n) ((D.nx ρ n)):=⟨fun h=>zrJ h⟩
instance zvI :Stp (sRet d D ρ n) ((d ρ n fun t n'=>D.rt t n')):=⟨fun h=>zur h⟩
instance zwE :Stp (sIf c t u D ρ n) ((c ρ n fun b n1=>if b=true then t D ρ n1 else u D ρ n1)):=⟨fun h=>zxq h⟩
instance zvK :Stp (sAsg d tg D ρ n) ((d ρ n fun t n'=>tg t ρ fun ρ'=>D.nx ρ' n')):=⟨fun h=>zuu h⟩
instance zvJ :Stp (sFor di tg tb D ρ n) ((di ρ n fun ts n1=>forP tg tb D ts ρ n1)):=⟨fun h=>zut h⟩
instance zxU :Stp (dC x ρ n R) ((R x n)):=⟨fun h=>i_dC h⟩
instance zwG :Stp (dOp g da db ρ n R) ((da ρ n fun x n1=>db ρ n1 fun y n2=>g x y fun z=>R z n2)):=⟨fun h=>zxu h⟩
instance zvV :Stp (dNew ds ρ n R) ((ds ρ n fun ts n'=>R (.list ts) n')):=⟨fun h=>zuH h⟩
instance zvP :Stp (dTup ds ρ n R) ((ds ρ n fun ts n1=>R (.tuple ts) n1)):=⟨fun h=>zuB h⟩
instance zvU :Stp (dNil ρ n Rl) ((Rl [] n)):=⟨fun h=>zuG h⟩
instance zs1 :Stp (J1 d ds ρ n Rl) ((d ρ n fun t n1=>ds ρ n1 fun ts n2=>Rl (t::ts) n2)):=⟨fun h=>zrQ h⟩
instance zwH :Stp (dFn gd ds ρ n R) ((ds ρ n fun ts n1=>gd ts n1 R)):=⟨fun h=>zxv h⟩
instance zv0 :Stp (dFnL gd ds ρ n R) ((ds ρ n fun ts n1=>gd ts n1 fun t n2=>JP t=true/\R t n2)):=⟨fun h=>zuM h⟩
instance zsw :Stp (Zk gc ds ρ n R) ((ds ρ n fun ts n1=>gc ts fun z=>R z n1)):=⟨fun h=>zpj h⟩
instance zvM :Stp (isiD fb d ρ n R) ((d ρ n fun t n1=>lIsi fb t fun z=>R z n1)):=⟨fun h=>zuy h⟩
instance zv1 :Stp (dAnd c c' ρ n Rb) ((c ρ n fun b n1=>if b=true then c' ρ n1 Rb else Rb false n1)):=⟨fun h=>zuN h⟩
instance zwF :Stp (dOr c c' ρ n Rb) ((c ρ n fun b n1=>if b=true then Rb true n1 else c' ρ n1 Rb)):=⟨fun h=>zxt h⟩
instance zvT :Stp (dNot c ρ n Rb) ((c ρ n fun b n1=>Rb (!b) n1)):=⟨fun h=>zuF h⟩
instance zs2 :Stp (zsd da db ρ n R) ((da ρ n fun t n1=>bolD t fun b=>if b=true then db ρ n1 R else R (.bool false) n1)):=⟨fun h=>zrS h⟩
instance zvS :Stp (dOrV da db ρ n R) ((da ρ n fun t n1=>bolD t fun b=>if b=true then R (.bool true) n1 else db ρ n1 R)):=⟨fun h=>zuE h⟩
instance zs0 :Stp (zsc da ρ n R) ((da ρ n fun t n1=>bolD t fun b=>R (.bool (!b)) n1)):=⟨fun h=>zrP h⟩
instance zvZ :Stp (dIfE c da db ρ n R) ((c ρ n fun b n1=>if b=true then da ρ n1 R else db ρ n1 R)):=⟨fun h=>zuL h⟩
instance zvQ :Stp (dTru d ρ n Rb) ((d ρ n fun t n'=>truD t fun b=>Rb b n')):=⟨fun h=>zuC h⟩
instance zvO :Stp (dYes ρ n Rb) ((Rb true n)):=⟨fun h=>zuA h⟩
instance zsT :Stp (Ui tgs (.tuple xs) ρ Re) ((tgs xs ρ Re)):=⟨fun h=>zrH h⟩
instance zsU :Stp (Uh [] ρ Re) ((Re ρ)):=⟨fun h=>zrI h⟩
instance zsu :Stp (Qy tg tgs (x::xs) ρ Re) ((tg x ρ fun ρ'=>tgs xs ρ' Re)):=⟨fun h=>zpg h⟩
instance zsW :Stp (U5 d ρ n Rb) ((d ρ n fun t n'=>bolD t fun b=>Rb b n')):=⟨fun h=>zrL h⟩
instance zvY :Stp (dItL d ρ n Rl) ((d ρ n fun t n'=>lLst t fun ts=>Rl ts n')):=⟨fun h=>zuK h⟩
instance zvX :Stp (dItT d ρ n Rl) ((d ρ n fun t n'=>lTup t fun ts=>Rl ts n')):=⟨fun h=>zuJ h⟩
instance zsY :Stp (Za d ρ n Rl) ((d ρ n fun t n'=>lInt t fun j=>(-(2 ^ 62)<=j/\j<2 ^ 62)/\Rl (Qo 0 j.toNat) n')):=⟨fun h=>zrN h⟩
instance zvW :Stp (dNeg d ρ n R) ((d ρ n fun t n'=>lInt t fun i=>R (.int (-i)) n')):=⟨fun h=>zuI h⟩
instance zsv :Stp (Zl g g' da db dc ρ n R) ((da ρ n fun x n1=>db ρ n1 fun y n2=>g x y fun z=>bolD z fun b=>if b=true then dc ρ n2 fun w n3=>g' y w fun z=>R z n3 else R (.bool false) n2)):=⟨fun h=>zpi h⟩
instance zvL {b:Bool}{A B:Prop}:Stp (if (!b)=true then A else B) ((if b=true then B else A)):=⟨fun h=>zuw h⟩
end
section
variable{C:Int->Int->Prop}{f:Int->Int->Int}{fb:Int->Int->Bool}{i j k:Int}{R:af->Prop}{Rb:Bool->Prop}{xs ys:qD}{s t:Str}{a b:Bool}{u v x y:af}{Rn:qN}{n:Nat}
instance zvD :Stp (oAdd (.int i) (.int j) R) ((R (.int (i+j)))):=⟨fun h=>zuj h⟩
instance zwA :Stp (oEq (.int i) (.int j) R) ((R (.bool (decide (i=j))))):=⟨fun h=>zxm h⟩
instance zwz :Stp (oEq (.tuple xs) (.tuple ys) R) (((Okd (.tuple xs)/\Okd (.tuple ys)/\R (.bool (gq (.tuple xs) (.tuple ys)))))):=⟨fun h=>zxl h⟩
instance zwp :Stp (oNe (.int i) (.int j) R) ((R (.bool (!decide (i=j))))):=⟨fun h=>zxb h⟩
instance zwn :Stp (oNe (.tuple xs) (.tuple ys) R) (((Okd (.tuple xs)/\Okd (.tuple ys)/\R (.bool (!PyData.eqv (.tuple xs) (.tuple ys)))))):=⟨fun h=>zw_ h⟩
instance zwo :Stp (oNe (.list xs) (.list ys) R) (((Okd (.list xs)/\Okd (.list ys)/\R (.bool (!PyData.eqv (.list xs) (.list ys)))))):=⟨fun h=>zxa h⟩
instance zwx :Stp (oIs u .none R) ((R (.bool (isNone u)))):=⟨fun h=>zxj h⟩
instance zsS :Stp (oIsN u .none R) ((R (.bool (!isNone u)))):=⟨fun h=>zrD h⟩
instance zwu :Stp (oLtA (.int i) (.int j) R) ((R (.bool (decide (i<j))))):=⟨fun h=>zxg h⟩
instance zww :Stp (oLeA (.int i) (.int j) R) ((R (.bool (decide (i<=j))))):=⟨fun h=>zxi h⟩
instance zvz :Stp (oIx (.tuple (u::xs)) (.int 0) R) ((R u)):=⟨fun h=>zud h⟩
instance zvy :Stp (oIx (.tuple (u::v::xs)) (.int 1) R) ((R v)):=⟨fun h=>zuc h⟩
instance zvB :Stp (oIx (.list (u::xs)) (.int 0) R) ((R u)):=⟨fun h=>zuh h⟩
instance zvA :Stp (oIx (.list (u::v::xs)) (.int 1) R) ((R v)):=⟨fun h=>zug h⟩
instance zvu :Stp (truD (.bool a) Rb) ((Rb a)):=⟨fun h=>zt8 h⟩
instance zvt :Stp (truD (.list xs) Rb) ((Rb (!xs.isEmpty))):=⟨fun h=>zt7 h⟩
instance zvs :Stp (truD (.tuple xs) Rb) ((Rb (!xs.isEmpty))):=⟨fun h=>zt6 h⟩
instance zwB :Stp (bolD (.bool a) Rb) ((Rb a)):=⟨fun h=>zxn h⟩
instance zvx :Stp (bLen [.list xs] R) ((R (.int xs.length))):=⟨fun h=>zub h⟩
instance zvw :Stp (bLen [.tuple xs] R) ((R (.int xs.length))):=⟨fun h=>zua h⟩
instance zss {ns:List Int}:Stp (bLen [SCR ns] R) ((R (.int ns.length))):=⟨fun h=>zpb h⟩
instance zws :Stp (bMin [.int i,.int j] R) ((R (.int (if j<i then j else i)))):=⟨fun h=>zxe h⟩
instance zwt :Stp (bMax [.int i,.int j] R) ((R (.int (if j > i then j else i)))):=⟨fun h=>zxf h⟩
instance zwD :Stp (bAbs [.int i] R) ((R (.int (if i<0 then -i else i)))):=⟨fun h=>zxp h⟩
instance zsr :Stp (Zs [.list xs] R) ((R (.tuple xs))):=⟨fun h=>zpa h⟩
instance zsR {Rl:List af->Prop}:Stp (JN (.list xs) Rl) ((Rl xs)):=⟨fun h=>zrC h⟩
instance zst {Rl:List af->Prop}:Stp (JN (.tuple xs) Rl) ((Rl xs)):=⟨fun h=>zpd h⟩
instance zwv {Q:List af->Prop}:Stp (lLst (.list xs) Q) ((Q xs)):=⟨fun h=>zxh h⟩
instance zwj {Q:List af->Prop}:Stp (lTup (.tuple xs) Q) ((Q xs)):=⟨fun h=>zw6 h⟩
instance zwy {i:Int}{Q:Int->Prop}:Stp (lInt (.int i) Q) ((Q i)):=⟨fun h=>zxk h⟩
instance zvv {Q:af->af->Prop}:Stp (Zd [x,y] Q) ((Q x y)):=⟨fun h=>zt_ h⟩
instance zwq :Stp (oMul (.int i) (.int j) R) ((CMul i j)/\(R (.int (i*j)))):=⟨fun h=>zxc h.1 h.2⟩
instance zwr :Stp (oMod (.int i) (.int j) R) ((0<j)/\(R (.int (i % j)))):=⟨fun h=>zxd h.1 h.2⟩
instance zvC :Stp (Uj (.int i) (.int j) R) ((Y6 i j)/\(R (.int (i / j)))):=⟨fun h=>zui h.1 h.2⟩
instance zwm :Stp (oShl (.int i) (.int j) R) ((CPow i j)/\(R (.int (i*2 ^ j.toNat)))):=⟨fun h=>zw9 h.1 h.2⟩
instance zwk :Stp (oSub (.int i) (.int j) R) ((R (.int (i - j)))):=⟨fun h=>zw7 h⟩
instance zwi :Stp (oXor (.int i) (.int j) R) ((R (.int (cL i j)))):=⟨fun h=>zw5 h⟩
instance zwC :Stp (oAnd (.int i) (.int j) R) ((R (.int (gU i j)))):=⟨fun h=>zxo h⟩
instance zxR :Stp (gB fb (.int i) (.int j) R) ((R (.bool (fb i j)))):=⟨fun h=>j_gB h⟩
instance zoA :Stp (lIsi isInt (.int i) R) ((R (.bool true))):=⟨fun h=>zjh h⟩
instance zok :Stp (lIsi isInt (.bool a) R) ((R (.bool true))):=⟨fun h=>zie h⟩
instance zoz :Stp (lIsi isInt (.str s) R) ((R (.bool false))):=⟨fun h=>zjg h⟩
instance zl9 :Stp (lIsi isInt (.tuple xs) R) ((R (.bool false))):=⟨fun h=>zgT h⟩
instance zoi :Stp (lIsi isInt (.list xs) R) ((R (.bool false))):=⟨fun h=>zic h⟩
instance zoh :Stp (lIsi isInt (.none) R) ((R (.bool false))):=⟨fun h=>zib h⟩
instance zoj :Stp (lIsi isInt (.dict []) R) ((R (.bool false))):=⟨fun h=>zid h⟩
instance zol :Stp (lIsi isBool (.int i) R) ((R (.bool false))):=⟨fun h=>zif h⟩
instance zl_ :Stp (lIsi isBool (.bool a) R) ((R (.bool true))):=⟨fun h=>zgU h⟩
instance zoy :Stp (lIsi isTup (.int i) R) ((R (.bool false))):=⟨fun h=>zjf h⟩
instance zog :Stp (lIsi isTup (.bool a) R) ((R (.bool false))):=⟨fun h=>zia h⟩
instance zox :Stp (lIsi isTup (.str s) R) ((R (.bool false))):=⟨fun h=>zje h⟩
instance zl8 :Stp (lIsi isTup (.tuple xs) R) ((R (.bool true))):=⟨fun h=>zgS h⟩
instance zoe :Stp (lIsi isTup (.list xs) R) ((R (.bool false))):=⟨fun h=>zh9 h⟩
instance zod :Stp (lIsi isTup (.none) R) ((R (.bool false))):=⟨fun h=>zh8 h⟩
instance zof :Stp (lIsi isTup (.dict []) R) ((R (.bool false))):=⟨fun h=>zh_ h⟩
end
section
variable{d da db:DTE}{dlo dhi:DTO}{ρ:En}{n:Nat}{R:qN}{Ro:Option Int->Nat->Prop}{Rl:List af->Nat->Prop}{xs ys:qD}{lo hi:Option Int}{Q:af->Prop}{Ql:List af->Prop}
instance zvR :Stp (dSlL d dlo dhi ρ n Rl) ((d ρ n fun t n1=>dlo ρ n1 fun lo n2=>dhi ρ n2 fun hi n3=>lSl t lo hi fun z=>Rl z n3)):=⟨fun h=>zuD h⟩
instance zqA :Stp (zjt ρ n Ro) ((Ro none n)):=⟨fun h=>zne h⟩
instance zsZ :Stp (zsb d ρ n Ro) ((d ρ n fun t n'=>lInt t fun i=>Ro (some i) n')):=⟨fun h=>zrO h⟩
instance zvN :Stp (dZip da db ρ n Rl) ((da ρ n fun x n1=>db ρ n1 fun y n2=>JN x fun xs=>JN y fun ys=>Rl (zipD xs ys) n2)):=⟨fun h=>zuz h⟩
instance zwl :Stp (lSl (.list xs) lo hi Ql) ((Ql (cutD xs lo hi))):=⟨fun h=>zw8 h⟩
end
section
instance zsX {d:DTE}{ρ:En}{n:Nat}{Rl:List af->Nat->Prop}:Stp (zr_ d ρ n Rl) ((d ρ n fun t n1=>U7 t fun ts=>Rl ts n1)):=⟨fun h=>zrM h⟩
end
section
variable{R:af->Prop}{b:Bool}{A B:Prop}
instance zxS:Stp (if true=true then A else B) A:=⟨fun h=>iteT h⟩
instance zxT:Stp (if false=true then A else B) B:=⟨fun h=>iteF h⟩
instance zvE:Stp (oIsN (.bool true) (.bool true) R) (R (.bool false)):=⟨fun h=>zm8 h⟩
instance zvF:Stp (oIsN (.bool false) (.bool false) R) (R (.bool false)):=⟨fun h=>zm8 h⟩
end
class GetN (ρ:En)(i:Nat)(c:outParam (Option Cell)):Prop where
 e:ρ[i]?=some c
class SetN (ρ:En)(i:Nat)(c:Option Cell)(ρ':outParam En):Prop where
 e:ρ.set i c=ρ'
instance{a0:Option Cell}{as:En}:GetN (a0::as) 0 a0:=⟨rfl⟩
instance{a0 c:Option Cell}{as:En}:SetN (a0::as) 0 c (c::as):=⟨rfl⟩
instance{a0 a1:Option Cell}{as:En}:GetN (a0::a1::as) 1 a1:=⟨rfl⟩
instance{a0 a1 c:Option Cell}{as:En}:SetN (a0::a1::as) 1 c (a0::c::as):=⟨rfl⟩
instance{a0 a1 a2:Option Cell}{as:En}:GetN (a0::a1::a2::as) 2 a2:=⟨rfl⟩
instance{a0 a1 a2 c:Option Cell}{as:En}:SetN (a0::a1::a2::as) 2 c (a0::a1::c::as):=⟨rfl⟩
instance{a0 a1 a2 a3:Option Cell}{as:En}:GetN (a0::a1::a2::a3::as) 3 a3:=⟨rfl⟩
instance{a0 a1 a2 a3 c:Option Cell}{as:En}:SetN (a0::a1::a2::a3::as) 3 c (a0::a1::a2::c::as):=⟨rfl⟩
instance{a0 a1 a2 a3 c:Option Cell}{as:En}{i:Nat}[h:GetN as i c]:GetN (a0::a1::a2::a3::as) (i+4) c:=⟨h.e⟩
instance{a0 a1 a2 a3 c:Option Cell}{as bs:En}{i:Nat}[h:SetN as i c bs]:SetN (a0::a1::a2::a3::as) (i+4) c (a0::a1::a2::a3::bs):=⟨by rw[<- h.e];rfl⟩
class NormE (ρ:En)(ρ':outParam En):Prop where
 e:ρ=ρ'
instance{a:Option Cell}{as:En}:NormE (a::as) (a::as):=⟨rfl⟩
instance{ρ ρ1 ρ2:En}{i:Nat}{c:Option Cell}[h:NormE ρ ρ1][k:SetN ρ1 i c ρ2]:NormE (ρ.set i c) ρ2:=⟨by rw[h.e];exact k.e⟩
class NoneN (as:En)(nn:outParam En):Prop where
 e:fT as.length none=nn
instance:NoneN [] []:=⟨rfl⟩
instance{a:Option Cell}{as nn:En}[h:NoneN as nn]:NoneN (a::as) (none::nn):=⟨by rw[aH,eE,h.e]⟩
class StartN (N:List Str)(ts:qD)(ρ:outParam En):Prop where
 e:JZ N ts=ρ
instance:StartN [] [] []:=⟨rfl⟩
instance{x:Str}{N:List Str}{ρ:En}[h:StartN N [] ρ]:StartN (x::N) [] (none::ρ):=⟨by have:=h.e;simp only[JZ,dY,e9,bU,lC]at this ⊢;rw[aH,eE,this]⟩
instance{x:Str}{N:List Str}{t:af}{ts:qD}{ρ:En}[h:StartN N ts ρ]:StartN (x::N) (t::ts) (some (.val t)::ρ):=⟨by have:=h.e;simp only[JZ]at this ⊢;rw[aN,aH,aH,eM,Nat.add_sub_add_right,this]⟩
theorem zkF{d:DTS}{D:JF}{n:Nat}{N:List Str}{ts:qD}{l:En}[e:StartN N ts l](h:d D l n):d D (JZ N ts) n:=e.e.symm▸h
class CapN (is:List Nat)(ρ:En)(out:outParam En):Prop where
 e:(is.map fun i=>capV (ρ.getD i none))=out
class CapC (c:Option Cell)(c':outParam (Option Cell)):Prop where
 e:capV c=c'
instance{d:af}:CapC (some (.val d)) (some (.val d)):=⟨rfl⟩
instance{d:qD}:CapC (some (.own d)) none:=⟨rfl⟩
instance:CapC none none:=⟨rfl⟩
instance{ρ:En}:CapN [] ρ []:=⟨rfl⟩
instance{i:Nat}{is:List Nat}{ρ out:En}{c c':Option Cell}[g:GetN ρ i c][k:CapC c c'][h:CapN is ρ out]:CapN (i::is) ρ (c'::out):=⟨by have ge:=g.e;rw[aN,h.e,bf,ge,g6,k.e]⟩
class CompN (m:Nat)(capt:List Nat)(ρ:En)(ρ':outParam En):Prop where
 e:JG m capt ρ=ρ'
instance{x:Str}{capt:List Nat}{ρ out:En}[h:CapN capt ρ out]:CompN (c8 [x]) capt ρ (none::out):=⟨by unfold JG;rw[h.e];rfl⟩
instance{x y:Str}{capt:List Nat}{ρ out:En}[h:CapN capt ρ out]:CompN (c8 [x,y]) capt ρ (none::none::out):=⟨by unfold JG;rw[h.e];rfl⟩
instance{x y z:Str}{capt:List Nat}{ρ out:En}[h:CapN capt ρ out]:CompN (c8 [x,y,z]) capt ρ (none::none::none::out):=⟨by unfold JG;rw[h.e];rfl⟩
instance{x y z u:Str}{capt:List Nat}{ρ out:En}[h:CapN capt ρ out]:CompN (c8 [x,y,z,u]) capt ρ (none::none::none::none::out):=⟨by unfold JG;rw[h.e];rfl⟩
def SetK(i:Nat)(c:Option Cell)(K:En->Nat->Prop)(l:En)(n:Nat):Prop:=K (l.set i c) n
section
variable{t u:DTS}{D:JF}{ρ ρ0 ρ':En}{n i j m:Nat}{d dj:DTE}{ds di:DTA}{tt:DTT}{tg:DTG}{R:qN}{Rl:List af->Nat->Prop}{Re:En->Prop}{x:af}{xs:qD}{f:Int->Int->Int}{capt:List Nat}{c:Option Cell}{K:En->Nat->Prop}{q:Int}
instance zxY [h:SetN ρ i c ρ']:Stp (SetK i c K ρ n) (K ρ' n):=⟨fun k=>by unfold SetK;rw[h.e];exact k⟩
instance zxN:Stp (sSet i d D ρ n) (d ρ n fun t n'=>SetK i (some (.val t)) D.nx ρ n'):=⟨fun h=>h⟩
instance zxO:Stp (sOwn i ds D ρ n) (ds ρ n fun t n'=>SetK i (some (.own t)) D.nx ρ n'):=⟨fun h=>h⟩
instance zvq [h:SetN ρ i (some (.val x)) ρ']:Stp (JX i x ρ Re) (Re ρ'):=⟨fun k=>by unfold JX;rw[h.e];exact k⟩
instance zxV [h:GetN ρ i (some (.val x))]:Stp (dVar i ρ n R) (R x n):=⟨fun k=>zp7 h.e k⟩
instance zxW [h:GetN ρ i (some (.own xs))]:Stp (dOwn i ρ n R) (R (.list xs) n):=⟨fun k=>zp8 h.e k⟩
instance zv5 [h:GetN ρ i (some (.own xs))]:Stp (ZO i d D ρ n) (d ρ n fun t n'=>xs.length<16777216/\SetK i (some (.own (xs++[t]))) D.nx ρ n'):=⟨fun k=>zkh h.e k⟩
instance zv2 [h:GetN ρ i (some (.own xs))][h':SetN ρ i (some (.val (.list xs))) ρ']:Stp (ZP i t D ρ n) (t D ρ' n):=⟨fun k=>zkg h.e (by rw[h'.e];exact k)⟩
instance zx7 [h:GetN ρ i (some (.val (.int q)))]:Stp (sAug i f d D ρ n) (d ρ n fun t n'=>lInt t fun k=>SetK i (some (.val (.int (f q k)))) D.nx ρ n'):=⟨fun k=>zxw h.e k⟩
instance zx1:Stp (sPar i j ds D ρ n) (ds ρ n fun ts n'=>Zd ts fun t u=>SetK i (some (.val t)) (fun ρ1 n1=>SetK j (some (.val u)) D.nx ρ1 n1) ρ n'):=⟨fun h=>zus h⟩
instance zxX [h:CompN m capt ρ ρ0]:Stp (dComp m capt di tg tt d ρ n Rl) (di ρ n fun ts n1=>JO tg tt d ρ0 ts [] n1 Rl):=⟨fun k=>zrR (by rw[h.e];exact k)⟩
theorem zti{D:JF}{ρ:En}{i:Nat}{xs:qD}{x:af}{n:Nat}{j:Int}{k:Nat}(e:ixN xs.length j=some k)(h:SetK i (some (.own (xs.set k x))) D.nx ρ n) :
  (match ixN xs.length j with|some k=>D.nx (ρ.set i (some (.own (xs.set k x)))) n|none=>False):=by rw[e];exact h
instance zx0 [h:GetN ρ i (some (.own xs))]:Stp (sPut i dj d D ρ n) (d ρ n fun t n1=>UI ρ i D dj t n1 xs):=⟨fun k=>zxr h.e k⟩
instance zxP:Stp (UI ρ i D dj x n xs) (dj ρ n fun j n2=>lInt j fun j=>(match ixN xs.length j with|some k=>D.nx (ρ.set i (some (.own (xs.set k x)))) n2|none=>False)):=⟨fun h=>zuv h⟩
end
theorem YY{l:En}{i:Nat}:l.set i (l.getD i none)=l:=by apply mH;intro j;by_cases h:i=j;subst h;by_cases hl:i<l.length;rw[iQ hl,bf,au hl];rfl;rw[bO (by simp;omega),bO (by omega)];rw[dJ h]
section
variable{g:DTG}{tb:DTS}{D:JF}{ts:qD}{ρ:En}{n:Nat}
theorem zu0(C y:Nat)(Inv:Nat->Option Cell->Option Cell->Nat->Prop){o:Option Cell->Option Cell->En}[N:∀a0 a1,NormE ((ρ.set C a0).set y a1) (o a0 a1)](h0:Inv 0 (ρ.getD C none) (ρ.getD y none) n)
  (turn:∀(k:Nat) (t:af) (a0 a1:Option Cell) (m:Nat) (K:En->Nat->Prop) (I:qN) (J:En->Nat->Prop),ts[k]?=some t->Inv k a0 a1 m->(∀v u x,Inv (k+1) v u x->K (o v u) x)->(∀t m,D.rt t m->I t m)->(∀ρ m,D.nx ρ m->J ρ m)->g t (o a0 a1) fun l=>tb { nx:=K,rt:=I,bk:=J,ct:=K,xr:=D.xr } l m)
  (fin:∀a0 a1 m,Inv ts.length a0 a1 m->D.nx (o a0 a1) m):forP g tb D ts ρ n:=by
 refine Q9 (fun k l m=>∃a0 a1,l=((ρ.set C a0).set y a1)/\Inv k a0 a1 m) ⟨_,_,?_,h0⟩ ?_ ?_;rw[YY,YY];rintro k t l m K e ⟨a0,a1,rfl,G⟩ hK;rw[(N a0 a1).e];exact turn k t a0 a1 m K D.rt D.nx e G (fun v u x h=>(N v u).e▸hK _ _ ⟨v,u,rfl,h⟩) (fun _ _ h=>h) (fun _ _ h=>h);rintro l m ⟨a0,a1,rfl,G⟩;rw[(N a0 a1).e];exact fin a0 a1 m G
theorem zqb(R J G L:Nat)(Inv:Nat->Option Cell->Option Cell->Option Cell->Option Cell->Nat->Prop){u:Option Cell->Option Cell->Option Cell->Option Cell->En}[N:∀a0 a1 a2 l,NormE ((((ρ.set R a0).set J a1).set G a2).set L l) (u a0 a1 a2 l)](h0:Inv 0 (ρ.getD R none) (ρ.getD J none) (ρ.getD G none) (ρ.getD L none) n)
  (turn:∀(k:Nat) (t:af) (a0 a1 a2 l:Option Cell) (m:Nat) (K:En->Nat->Prop) (U:qN) (Y:En->Nat->Prop),ts[k]?=some t->Inv k a0 a1 a2 l m->(∀y v x C I,Inv (k+1) y v x C I->K (u y v x C) I)->(∀t m,D.rt t m->U t m)->(∀ρ m,D.nx ρ m->Y ρ m)->g t (u a0 a1 a2 l) fun o=>tb { nx:=K,rt:=U,bk:=Y,ct:=K,xr:=D.xr } o m)
  (fin:∀a0 a1 a2 l m,Inv ts.length a0 a1 a2 l m->D.nx (u a0 a1 a2 l) m):forP g tb D ts ρ n:=by
 refine Q9 (fun k o m=>∃a0 a1 a2 l,o=((((ρ.set R a0).set J a1).set G a2).set L l)/\Inv k a0 a1 a2 l m) ⟨_,_,_,_,?_,h0⟩ ?_ ?_;rw[YY,YY,YY,YY];rintro k t o m K e ⟨a0,a1,a2,l,rfl,S⟩ hK;rw[(N a0 a1 a2 l).e];exact turn k t a0 a1 a2 l m K D.rt D.nx e S (fun y v x C I h=>(N y v x C).e▸hK _ _ ⟨y,v,x,C,rfl,h⟩) (fun _ _ h=>h) (fun _ _ h=>h);rintro o m ⟨a0,a1,a2,l,rfl,S⟩;rw[(N a0 a1 a2 l).e];exact fin a0 a1 a2 l m S
theorem zph{i j:Nat}{u:DTS}{D:JF}{as nn y C:En}{n:Nat}{ns:List Int}{k:Int}[ej:GetN (some (.val (SCR ns))::as) j (some (.val (.int k)))][e1:NoneN as nn][e2:SetN (some (.val (SCR ns))::nn) j (some (.val (.int k))) y][e3:SetN y i (some (.val HAND)) C](R:ns.length<=63)(N:0<=k)(S:k<=100)
  (h:∀(G:En->Nat->Prop) (J:qN) (L I:En->Nat->Prop),(∀x m,D.nx (JI x) n->G x m)->(∀b m,D.rt (.bool b) n->J (.bool b) m)->(∀x m,D.bk (JI x) n->L x m)->(∀x m,D.ct (JI x) n->I x m) ->
   u { nx:=G,rt:=J,bk:=L,ct:=I } C 0):Yi i j u D (some (.val (SCR ns))::as) n:=by
 refine zrK (ρd:=some (.val (SCR ns))::nn) rfl ej.e R N S ?_ ?_;show some (Cell.val (SCR ns))::fT (c8 (some (Cell.val (SCR ns))::as) - 1) none=_;rw[aH,lW,e1.e];rw[e2.e,e3.e];exact h _ _ _ _ (fun _ _ h=>h) (fun b _ h=>⟨b,rfl,h⟩) (fun _ _ h=>h) (fun _ _ h=>h)
theorem zlH{c:DTT}{tb:DTS}{D:JF}{ρ:En}{n:Nat}(Inv:Nat->En->Nat->Prop){m:Nat}(h0:Inv m ρ n)
  (turn:∀m ρ n (K:En->Nat->Prop) (x:qN) (v:En->Nat->Prop),Inv m ρ n->(∀o l u,o<m->Inv o l u->K l u)->(∀t m,D.rt t m->x t m)->(∀ρ m,D.nx ρ m->v ρ m) ->
   c ρ n fun b y=>if b=true then tb { nx:=K,rt:=x,bk:=v,ct:=K,xr:=D.xr } ρ y else v ρ y):zma c tb D ρ n :=
 zhe Inv h0 fun m ρ n h=>turn m ρ n (fun l u=>∃o,o<m/\Inv o l u) D.rt D.nx h (fun o _ _ a b=>⟨o,a,b⟩) (fun _ _ h=>h) (fun _ _ h=>h)
end
open Builtin Builtin.Str
def cutS(x:Str)(lo hi:Option Int):Str:=⟨((x.cps.toList.drop (HT.sIx x.length 0 lo)).take (HT.sIx x.length x.length hi - HT.sIx x.length 0 lo)).toArray⟩
theorem VJ(n d:Nat)(i:Int):((HT.sIx n d (some i):Nat):Int)=max 0 (min (if i<0 then i+(n:Int) else i) (n:Int)):=by simp only[HT.sIx];by_cases h:i<0;simp only[h,if_true] <;> lia;simp only[h,if_false] <;> lia
theorem zsL(lo hi:Option Int)(n:Nat):strSliceIndices lo hi 1 n=sliceRange ((HT.sIx n 0 lo:Nat):Int) ((HT.sIx n n hi:Nat):Int) 1:=by
 have o:((HT.sIx n 0 none:Nat):Int)=0:=by simp[HT.sIx]
 have l:((HT.sIx n n none:Nat):Int)=n:=by simp[HT.sIx]
 cases lo with
 | none =>
  cases hi with
  | none=>rw[o,l];rfl
  | some j=>rw[o,VJ];rfl
 | some i =>
  cases hi with
  | none=>rw[l,VJ];rfl
  | some j=>rw[VJ,VJ];rfl
theorem zlW(x:Str)(lo hi:Option Int):r8 x lo hi=cutS x lo hi:=by
 have e:strSliceIndices lo hi 1 x.length=(fZ (HT.sIx x.length x.length hi - HT.sIx x.length 0 lo)).map (HT.sIx x.length 0 lo+·):=by rw[zsL,tS]
 have pk:(strSliceIndices lo hi 1 x.length).filterMap (x.cps[·]?)=(x.cps.toList.drop (HT.sIx x.length 0 lo)).take (HT.sIx x.length x.length hi - HT.sIx x.length 0 lo):=by rw[e,xH]
 unfold r8;split;rename_i h;have o:(strSliceIndices lo hi 1 x.length).length=x.length:=by simpa using h
 rw[e,aG,i6]at o;unfold cutS;have u:HT.sIx x.length x.length hi<=x.length:=by
  cases hi with
  | none=>simp[HT.sIx]
  | some i=>simp only[HT.sIx];split <;> lia
 have z:HT.sIx x.length 0 lo=0\/x.length=0:=by lia
 have:(x.cps.toList.drop (HT.sIx x.length 0 lo)).take (HT.sIx x.length x.length hi - HT.sIx x.length 0 lo)=x.cps.toList:=by
  have sz:x.cps.toList.length=x.length:=by simp[y3]
  rcases z with z|z;rw[z,t5,nE (by lia)];have:x.cps.toList=[]:=fW.mp (by lia);rw[this];simp
 rw[this];rw[pk];rfl
section
variable{X:Cx}
theorem zgg{v:ag}{p:Option Int}(h:mN v p):∃l:Option (Int×Tok),v=partValue l/\l.map (·.1)=p:=by
 cases h with
 | none=>exact⟨none,rfl,rfl⟩
 | int i t=>exact⟨some (i,t),rfl,rfl⟩
def rSlS:V->Option Int->Option Int->Hp->VK->Prop:=fun x lo hi H Q=>∃z,x=.str z/\z.length<=sizeLine/\Q (.str (cutS z lo hi)) H
theorem zsN:SlR X rSlS:=by intro pins s σ H x v R S lo hi J Q I N G pl L h;obtain⟨z,rfl,hz,q⟩:=h;obtain⟨t,rfl⟩:=N;obtain⟨l,rfl,rfl⟩:=zgg pl;obtain⟨u,rfl,rfl⟩:=zgg L;have C:s.heap.IsSlice J l u none:=G;refine⟨"str",_,F.slot_str_getitem.lookup,tR _ _ _,wpAny_getItem_str_slice (l:=l) (u:=u) (st:=none) C rfl (post_val_or_str ?_)⟩;have e:(if (((none:Option (Int×Tok)).map (·.1)).getD 1 == 1&&(slicePicked z l u none).length == z.length)=true then z else⟨((slicePicked z l u none).filterMap (z.cps[·]?)).toArray⟩)=r8 z (l.map (·.1)) (u.map (·.1)):=rfl;rw[e];refine⟨b7 (Txt.slice_le z _ _) hz,fun t' k=>⟨.str (r8 z (l.map (·.1)) (u.map (·.1))),H,I.tok _,⟨_,rfl⟩,?_⟩⟩;rw[zlW];exact q
def oSlA(t:af)(lo hi:Option Int)(R:af->Prop):Prop:=match t with
 | .tuple ts=>R (.tuple (cutD ts lo hi))
 | .str x=>x.length<=16777216/\R (.str (cutS x lo hi))
 | _=>False
def dSlA(d:DTE)(dl o:DTO):DTE:=fun l n R=>d l n fun t v=>dl l v fun lo u=>o l u fun hi x=>oSlA t lo hi fun z=>R z x
variable{e a b iter tg:aY}{d da db:DTE}{lo hi:Option aY}{dlo dhi:DTO}{pos p2:Pos}
theorem znB(h:DL X e d)(hl:DP X lo dlo)(Y:DP X hi dhi):DE X (.Subscript e (.Slice lo hi none p2) pos) (dSlA d dlo dhi):=by
 obtain⟨ta,pa,h⟩:=h;obtain⟨tl,pl,hl⟩:=hl;obtain⟨tu,pu,Y⟩:=Y;refine⟨_,zjZ (SlR.or (SlR.or zsM zqx) zsN) pa pl pu,fun C U σ H n Q R S hd L=>?_⟩;refine h C U σ H n _ _ S hd fun t n1 v H1 r1 G h1 q1=>?_;have S1:=S.on G h1;refine hl C U σ H1 n1 _ _ S1 r1 fun lo n2 H2 r2 o h2=>?_;have S2:=S1.on o h2;refine Y C U σ H2 n2 _ _ S2 r2 fun hi N H3 y x J=>?_;have S3:=S2.on x J;have Z:=(o.trans x).repT S.hx q1;cases t with
 | tuple ts =>obtain⟨a,vs,rfl,hs,rs⟩:=Z.tupI;by_cases w:HT.sIx vs.length 0 lo=0/\HT.sIx vs.length vs.length hi=vs.length;refine .inl (.inr ⟨a,vs,rfl,hs,w,L _ N _ H3 y (G.trans (o.trans x)) J ?_⟩);rw[zlq (by rw[<- rs.length];exact w)];exact Z.rep (by intro _ z;cases z);refine .inl (.inl ⟨a,vs,rfl,hs,w,fun p I=>L _ N _ _ y (G.trans (o.trans (x.trans (ExtE.new I)))) (J.same (JM I)) ?_⟩);exact .newT (S3.free I) I (zkr rs lo hi)
 | str z =>rw[Z.strI];exact .inr ⟨z,rfl,y.1,L _ N _ H3 y.2 (G.trans (o.trans x)) J (.str _)⟩
 | _=>exact y.elim
end
section
variable{ρ:En}{n:Nat}{d da db:DTE}{dlo dhi:DTO}{R:qN}{Rl:List af->Nat->Prop}{Q:af->Prop}{xs:qD}{lo hi:Option Int}{x:Str}{i j:Int}{Ql:List af->Prop}
instance zxZ:Stp (dSlA d dlo dhi ρ n R) (d ρ n fun t n1=>dlo ρ n1 fun lo n2=>dhi ρ n2 fun hi n3=>oSlA t lo hi fun z=>R z n3):=⟨fun h=>h⟩
instance zxJ:Stp (oSlA (.tuple xs) lo hi Q) (Q (.tuple (cutD xs lo hi))):=⟨fun h=>h⟩
end
mutual
def plnD:af->Bool
 | .dict []=>true
 | .dict _=>false
 | .tuple ts=>decide (ts.length<=1000000)&&Yg ts
 | .list ts=>decide (ts.length<=1000000)&&Yg ts
 | .str x=>decide (x.length<=1000000)
 | _=>true
def Yg:List af->Bool
 | []=>true
 | t::ts=>plnD t&&Yg ts
end
def PlnD(d:af):Prop:=plnD d=true
theorem zeY:∀{ts:qD},Yg ts=true↔∀t∈ts,PlnD t
 | []=>by simp[Yg]
 | t::ts=>by rw[Yg,bq,zeY (ts:=ts)];constructor;rintro⟨a,b⟩ u l;rcases ay.mp l with rfl|l;exact a;exact b u l;intro h;exact⟨h t (by simp),fun u l=>h u (by simp[l])⟩
theorem PlnD.tup{ts:qD}(h:PlnD (.tuple ts)):ts.length<=1000000/\∀t∈ts,PlnD t:=by unfold PlnD plnD at h;rw[bq,decide_eq_true_iff,zeY]at h;exact h
theorem VS{ts:qD}(l:ts.length<=1000000)(h:∀t∈ts,PlnD t):PlnD (.tuple ts):=by unfold PlnD plnD;rw[bq,decide_eq_true_iff,zeY];exact⟨l,h⟩
theorem UX{i:Int}:PlnD (.int i):=by unfold PlnD plnD;rfl
theorem zjY:∀t∈([]:qD),PlnD t:=fun t h=>nomatch h
theorem Vc{x:af}{xs:qD}(h:PlnD x)(h':∀t∈xs,PlnD t):∀t∈x::xs,PlnD t:=fun t l=>by rcases ay.mp l with rfl|l;exact h;exact h' t l
theorem PlnD.pln{d:af}(h:PlnD d):Pln d:=by
 cases d with
 | dict ks =>
  cases ks with
  | nil=>exact UD
  | cons a b=>cases a with|mk x y=>simp[PlnD,plnD]at h
 | none=>exact Uy
 | bool=>exact Ua
 | int=>exact Ub
 | str=>exact Us
 | list=>exact Ux
 | tuple=>exact Uz
theorem zju{α:Type}{cs:List α}{D:α->af}{tg:DTG}{tt:DTT}{d:DTE}{ρ0:En}{n:Nat}{Rl:List af->Nat->Prop}(p:α->Bool)(F:α->af)(I:cs.length<=16777216)
  (step:∀b∈cs,∀(K:qN) (X:Nat->Prop),(p b=true->K (F b) n)->(p b=false->X n)->tg (D b) ρ0 fun o=>tt o n fun c y=>if c=true then d o y K else X y) (fin:Rl ((cs.filter p).map F) n):JO tg tt d ρ0 (cs.map D) [] n Rl:=by
 refine zqo (fun j acc m=>m=n/\acc=((cs.take j).filter p).map F) ⟨rfl,rfl⟩ ?_ ?_;rintro j x acc m K u ⟨rfl,rfl⟩ hK;rw[aT]at u;cases eb:cs[j]? with
 | none=>rw[eb]at u;cases u
 | some b =>
  rw[eb]at u;cases u;obtain⟨G,C⟩:=av.mp eb;have tk:cs.take (j+1)=cs.take j++[b]:=by rw[fV,eb];rfl
  refine step b (aA eb) _ _ (fun v=>⟨?_,hK _ _ ⟨rfl,?_⟩⟩) (fun v=>hK _ _ ⟨rfl,?_⟩);have:=ko p (cs.take j);simp at this ⊢;lia;rw[tk,pK,eF];simp[v];rw[tk,pK,eF];simp[v]
 rintro acc m ⟨rfl,rfl⟩;rw[aG,dQ];exact fin
def Uw(g:DTG)(tt:DTT)(l:DTA)(g2:DTG)(o:DTT)(u:DTE)(ρ0:En)(xs acc:qD)(n:Nat)(R:List af->Nat->Prop):Prop:=cGo g tt (tdN l g2 o (tdL u)) ρ0 xs acc n R
def znI(m:Nat)(capt:List Nat)(y:DTA)(g:DTG)(tt:DTT)(l:DTA)(g2:DTG)(o:DTT)(v:DTE):DTA:=fun u n R=>y u n fun ts x=>Uw g tt l g2 o v (JG m capt u) ts [] x R
section
variable{X:Cx}{scope:fo}{own:List Str}{capt:List Nat}{elt tg iter tg2 it2:aY}{ifs L9:List aY}{pos:Pos}{di di2:DTA}{is is2:List Nat}{g g2:DTG}{tt tt2:DTT}{te:DTE}
theorem zkm(hc:X.calm=true)(S:Jx scope own capt X)(hi:DIL X tg iter di)
  (hg:Fam X scope own capt fun Y=>DG Y tg is g) (G:∀i∈is,i<own.length) (ht:Fam X scope own capt fun Y=>DTs Y ifs tt) (v:Fam X scope own capt fun Y=>DI Y tg2 it2 di2) (y:Fam X scope own capt fun Y=>DG Y tg2 is2 g2) (U:∀i∈is2,i<own.length/\i∉is) (l:Fam X scope own capt fun Y=>DTs Y L9 tt2)
  (he:Fam X scope own capt fun Y=>DE Y elt te)
  (I:∀x,foldedSetIterable iter X.env x=pure x:=by intro _;rfl) (u:∀(C:aj) (x:ag),foldedSetIterable it2 (compEnvC scope (ownCl X scope C) C X.env) x=pure x:=by intro _ _;rfl) :
  DN X (.ListComp elt [⟨tg,iter,ifs,0⟩,⟨tg2,it2,L9,0⟩] scope pos) (znI own.length capt di g tt di2 g2 tt2 te):=by
 obtain⟨ge,p,_,sp⟩:=VV (e:=.ListComp elt [⟨tg,iter,ifs,0⟩,⟨tg2,it2,L9,0⟩] scope pos) Vs zqq hc S ⟨zji,⟨_,rfl⟩,fun _ _ _=>rfl,fun _=>⟨_,rfl⟩,fun _ _=>⟨_,rfl⟩⟩ zp2 hi hg G ht (znf Vs zji hc rfl (fun _ _ _=>rfl) v y l u (zp9 he)) U I;exact⟨ge,p,fun C N σ H n Q R St hd J=>sp C N σ H n Q R St hd fun acc n' H' D r e h Z _ ⟨ys,hy,rs⟩=>J acc n' D ys H' r e h Z hy rs⟩
end
section
variable{ρ ρ0:En}{n m:Nat}{di di2:DTA}{g g2:DTG}{tt tt2:DTT}{te:DTE}{capt:List Nat}{Rl:List af->Nat->Prop}
instance zwK [h:CompN m capt ρ ρ0]:Stp (znI m capt di g tt di2 g2 tt2 te ρ n Rl) (di ρ n fun ts n1=>Uw g tt di2 g2 tt2 te ρ0 ts [] n1 Rl):=⟨fun k=>by unfold znI;rw[h.e];exact k⟩
end
abbrev Run:=Int×Int
def NR(rs:List Run):Prop:=(∀r∈rs,r.1<r.2)/\rs.Pairwise fun a b=>a.2<b.1
def mR(x:Int)(rs:List Run):Prop:=∃r∈rs,r.1<=x/\x<r.2
def mB(x:Int)(bs:qB):Prop:=∃b∈bs,b.1<=x/\x<eB b
theorem JR{x:Int}{r:Run}{rs:List Run}:mR x (r::rs)↔(r.1<=x/\x<r.2)\/mR x rs:=by unfold mR;constructor;rintro⟨s,o,h⟩;rcases ay.mp o with rfl|o;exact .inl h;exact .inr ⟨s,o,h⟩;rintro(h|⟨s,o,h⟩);exact⟨r,by simp,h⟩;exact⟨s,by simp[o],h⟩
theorem QP{x:Int}:¬mR x []:=fun⟨_,h,_⟩=>nomatch h
theorem YL{x:Int}{rs ss:List Run}:mR x (rs++ss)↔mR x rs\/mR x ss:=by unfold mR;constructor;rintro⟨s,o,h⟩;rcases aW.mp o with o|o;exact .inl ⟨s,o,h⟩;exact .inr ⟨s,o,h⟩;rintro(⟨s,o,h⟩|⟨s,o,h⟩);exact⟨s,by simp[o],h⟩;exact⟨s,by simp[o],h⟩
theorem zmT{x:Int}{b:Int×Int}{bs:qB}:mB x (b::bs)↔(b.1<=x/\x<eB b)\/mB x bs:=by unfold mB;constructor;rintro⟨s,o,h⟩;rcases ay.mp o with rfl|o;exact .inl h;exact .inr ⟨s,o,h⟩;rintro(h|⟨s,o,h⟩);exact⟨b,by simp,h⟩;exact⟨s,by simp[o],h⟩
theorem VH{x:Int}:¬mB x []:=fun⟨_,h,_⟩=>nomatch h
theorem YK{x:Int}{bs cs:qB}:mB x (bs++cs)↔mB x bs\/mB x cs:=by unfold mB;constructor;rintro⟨s,o,h⟩;rcases aW.mp o with o|o;exact .inl ⟨s,o,h⟩;exact .inr ⟨s,o,h⟩;rintro(⟨s,o,h⟩|⟨s,o,h⟩);exact⟨s,by simp[o],h⟩;exact⟨s,by simp[o],h⟩
theorem zrs{x:Int}{bs cs:qB}(h:bs.Perm cs):mB x bs↔mB x cs:=by unfold mB;constructor;rintro⟨s,l,q⟩;exact⟨s,h.mem_iff.mp l,q⟩;rintro⟨s,l,q⟩;exact⟨s,h.mem_iff.mpr l,q⟩
theorem NR.tail{r:Run}{rs:List Run}(h:NR (r::rs)):NR rs:=⟨fun s l=>h.1 s (by simp[l]),(bK.mp h.2).2⟩
theorem NR.ahead{r:Run}{rs:List Run}(h:NR (r::rs)){x:Int}(hx:mR x rs):r.2<x:=by obtain⟨s,l,h1,o⟩:=hx;have:=(bK.mp h.2).1 s l;lia
theorem NR.uniq:∀{rs ss:List Run},NR rs->NR ss->(∀x,mR x rs↔mR x ss)->rs=ss
 | [],[],_,_,_=>rfl
 | [],s::ss,_,h,e=>by exfalso;have:=h.1 s (by simp);exact QP ((e s.1).mpr (JR.mpr (.inl ⟨aO _,this⟩)))
 | r::rs,[],h,_,e=>by exfalso;have:=h.1 r (by simp);exact QP ((e r.1).mp (JR.mpr (.inl ⟨aO _,this⟩)))
 | r::rs,s::ss,hr,hs,e=>by
  have o:=hr.1 r (by simp);have s1:=hs.1 s (by simp);have a:∀x,mR x (r::rs)->r.1<=x:=fun x hx=>by rcases JR.mp hx with z|z;exact z.1;have:=hr.ahead z;lia
  have b:∀x,mR x (s::ss)->s.1<=x:=fun x hx=>by rcases JR.mp hx with z|z;exact z.1;have:=hs.ahead z;lia
  have u:r.1=s.1:=by have:=b r.1 ((e r.1).mp (JR.mpr (.inl ⟨aO _,o⟩)));have:=a s.1 ((e s.1).mpr (JR.mpr (.inl ⟨aO _,s1⟩)));lia
  have C:¬mR r.2 (r::rs):=fun z=>by rcases JR.mp z with y|y;lia;have:=hr.ahead y;lia
  have ns:¬mR s.2 (s::ss):=fun z=>by rcases JR.mp z with y|y;lia;have:=hs.ahead y;lia
  have G:r.2=s.2:=by rcases iZ r.2 s.2 with z|z|z;exact absurd ((e r.2).mpr (JR.mpr (.inl ⟨by lia,z⟩))) C;exact z;exact absurd ((e s.2).mp (JR.mpr (.inl ⟨by lia,z⟩))) ns
  have v:r=s:=dz u G;subst v;rw[NR.uniq hr.tail hs.tail fun x=>?_];have ex:=e x;rw[JR,JR]at ex;constructor;intro z;have:=hr.ahead z;rcases ex.mp (Ah z) with y|y;lia;exact y;intro z;have:=hs.ahead z;rcases ex.mpr (Ah z) with y|y;lia;exact y
def QL(lo hi:Int)(h:Nat):Prop:=lo % 2 ^ h=0/\(2:Int) ^ h<=hi - lo/\¬(lo % 2 ^ (h+1)=0/\(2:Int) ^ (h+1)<=hi - lo)
theorem zdZ{a b:Nat}(h:a<=b):((2:Int) ^ a)∣2 ^ b:=⟨2 ^ (b - a),by rw[<- gX];congr 1;lia⟩
theorem QK{a b:Nat}(h:a<=b):(2:Int) ^ a<=2 ^ b:=by
 obtain⟨c,e⟩:=zdZ h;have pa:=Bd.Qc a;have l:=Bd.Qc b;have pc:0<c:=by rcases iZ c 0 with z|z|z;have:=hZ pa z;lia;subst z;lia;exact z
 rw[e];have:=fY (show(1:Int)<=c by lia) (show(0:Int)<=2 ^ a by lia);lia
theorem UV{lo:Int}{a b:Nat}(h:a<=b)(e:lo % 2 ^ b=0):lo % 2 ^ a=0:=by have d:((2:Int) ^ b)∣lo:=bE e;exact dR (Int.dvd_trans (zdZ h) d)
theorem QL.uniq{lo hi:Int}{h g:Nat}(a:QL lo hi h)(b:QL lo hi g):h=g:=by rcases c9 h g with z|z|z;exfalso;exact a.2.2 ⟨UV (show h+1<=g by lia) b.1,nG (QK (show h+1<=g by lia)) b.2.1⟩;exact z;exfalso;exact b.2.2 ⟨UV (show g+1<=h by lia) a.1,nG (QK (show g+1<=h by lia)) a.2.1⟩
def Jp:Int->Int->List (Int×Int)->Prop
 | lo,hi,[]=>lo=hi
 | lo,hi,b::r=>lo<hi/\b.1=lo/\0<=b.2/\QL lo hi b.2.toNat/\Jp (lo+2 ^ b.2.toNat) hi r
theorem Jp.le:∀{bs:qB}{lo hi:Int},Jp lo hi bs->lo<=hi
 | [],_,_,h=>by have:_=_:=h;lia
 | b::r,lo,hi,h=>by have:=h.1;lia
theorem Jp.uniq:∀{bs cs:qB}{lo hi:Int},Jp lo hi bs->Jp lo hi cs->bs=cs
 | [],[],_,_,_,_=>rfl
 | [],c::cs,lo,hi,h,k=>by have:lo=hi:=h;have:=k.1;lia
 | b::bs,[],lo,hi,h,k=>by have:lo=hi:=k;have:=h.1;lia
 | b::bs,c::cs,lo,hi,h,k=>by
  obtain⟨h1,J,I,x,o⟩:=h;obtain⟨G,L,C,l,v⟩:=k;have e:=x.uniq l;have u:b.2=c.2:=by lia
  have y:b=c:=dz (by lia) u;subst y;rw[Jp.uniq o v]
theorem Jp.mem:∀{bs:qB}{lo hi:Int},Jp lo hi bs->∀x,mB x bs↔lo<=x/\x<hi
 | [],lo,hi,h,x=>by have:lo=hi:=h;exact⟨fun z=>absurd z VH,fun z=>by lia⟩
 | b::r,lo,hi,h,x=>by obtain⟨h1,u,v,y,o⟩:=h;have:=Jp.mem o x;have l:=Jp.le o;have p:=Bd.Qc b.2.toNat;rw[zmT,this];unfold eB;rw[u];lia
theorem Jp.blk{bits:Int}(G:0<=bits):∀{bs:qB}{lo hi:Int},Jp lo hi bs->0<=lo->hi<=2 ^ bits.toNat->Bks bits bs
 | [],_,_,_,_,_=>fun b u=>nomatch u
 | b::r,lo,hi,h,l0,l1=>by
  obtain⟨h1,C,L,x,v⟩:=h;have p:=Bd.Qc b.2.toNat;have l:=Jp.le v;have I:=Jp.blk G v (by lia) l1;intro c hc;rcases ay.mp hc with rfl|hc;have u:c.2.toNat<=bits.toNat:=by rcases bG bits.toNat c.2.toNat with z|z;exfalso;have:=QK (show bits.toNat+1<=c.2.toNat by lia);have p2:=Bd.Qc bits.toNat;rw[bH]at this;have:=x.2.1;lia;exact z
  obtain⟨k,y⟩:=bE x.1;have J:0<=k:=by rcases fj k 0 with z|z;have:=hZ p z;lia;exact z
  refine⟨L,by lia,k,J,by rw[C,y,cA],?_⟩;have e:(2:Int) ^ bits.toNat=2 ^ (bits - c.2).toNat*2 ^ c.2.toNat:=by rw[<- gX];congr 1;lia
  have up:k*2 ^ c.2.toNat<2 ^ (bits - c.2).toNat*2 ^ c.2.toNat:=by rw[<- e,cA,<- y];lia
  exact lX up (by lia);exact I c hc
theorem Jp.in:∀{bs:qB}{lo hi:Int},Jp lo hi bs->∀b∈bs,lo<=b.1/\eB b<=hi
 | [],_,_,_=>fun b u=>nomatch u
 | b::r,lo,hi,h=>by obtain⟨h1,v,C,y,o⟩:=h;have p:=Bd.Qc b.2.toNat;have x:=Jp.in o;have l:=Jp.le o;intro c hc;rcases ay.mp hc with rfl|hc;unfold eB;rw[v];lia;have:=x c hc;lia
theorem Jp.pw:∀{bs:qB}{lo hi:Int},Jp lo hi bs->bs.Pairwise fun a b=>eB a<=b.1
 | [],_,_,_=>.nil
 | b::r,lo,hi,h=>by obtain⟨h1,v,y,x,u⟩:=h;refine .cons (fun c hc=>?_) (Jp.pw u);have:=Jp.in u c hc;unfold eB;rw[v];lia
theorem zhy:∀{bs:qB}{lo hi:Int}{k:Nat},Jp lo hi bs->lo % 2 ^ k=0->hi - lo<2 ^ k->bs.length<=k
 | [],_,_,_,_,_,_=>cO _
 | b::r,lo,hi,k,h,d,l=>by
  obtain⟨h1,y,x,o,u⟩:=h;have v:b.2.toNat<k:=by rcases bG b.2.toNat k with z|z;exact z;have:=QK z;have:=o.2.1;lia
  have up:¬(2:Int) ^ (b.2.toNat+1)<=hi - lo:=fun z=>o.2.2 ⟨UV (show b.2.toNat+1<=k by lia) d,z⟩;rw[bH]at up;have:=zhy (k:=b.2.toNat) u (by rw[rg,o.1];simp) (by lia);rw[aH];lia
theorem zhx{K:Nat}:∀{bs:qB}{lo hi:Int}{k:Nat},Jp lo hi bs->lo % 2 ^ k=0->hi - lo<2 ^ K->k<=K->bs.length<=(K - k)+K
 | [],_,_,_,_,_,_,_=>cO _
 | b::r,lo,hi,k,h,d,l,hkK=>by
  obtain⟨h1,y,I,o,u⟩:=h;have p:=Bd.Qc b.2.toNat;have C:b.2.toNat<K:=by rcases bG b.2.toNat K with z|z;exact z;have:=QK z;have:=o.2.1;lia
  rw[aH];by_cases up:(2:Int) ^ (b.2.toNat+1)<=hi - lo;have nd:¬lo % 2 ^ (b.2.toNat+1)=0:=fun z=>o.2.2 ⟨z,up⟩;have G:k<=b.2.toNat:=by rcases bG b.2.toNat k with z|z;exact absurd (UV (show b.2.toNat+1<=k by lia) d) nd;exact z
  have d':(lo+2 ^ b.2.toNat) % 2 ^ (b.2.toNat+1)=0:=by
   obtain⟨q,eq⟩:=bE o.1;have x:(2:Int) ^ (b.2.toNat+1)=2 ^ b.2.toNat*2:=bH _ _;rw[x]at nd ⊢;have odd:q % 2=1:=by rcases sY q with z|z;exfalso;obtain⟨t,v⟩:=bE z;apply nd;apply dR;exact⟨t,by rw[eq,v,cS]⟩;exact z
   apply dR;refine⟨(q+1) / 2,?_⟩;have:q+1=2*((q+1) / 2):=by lia
   rw[eq,cS,<- this,sI,mC]
  have:=zhx (K:=K) (k:=b.2.toNat+1) u d' (by lia) (by lia);lia;rw[bH]at up;have:=zhy (k:=b.2.toNat) u (by rw[rg,o.1];simp) (by lia);lia
theorem Jp.len{bs:qB}{lo hi:Int}(h:Jp lo hi bs)(l:0<=lo)(o:hi<=2 ^ 64):bs.length<=130:=by have:=zhx (K:=65) (k:=0) h (by simp) (by have e:(2:Int) ^ 65=2*2 ^ 64:=(by decide);lia) (by decide);lia
theorem zkj{lo hi:Int}(h:lo<hi):∃g,QL lo hi g:=by
 have key:∀(d k:Nat),lo % 2 ^ k=0->(2:Int) ^ k<=hi - lo->(hi - lo).toNat<2 ^ (k+d)->∃g,QL lo hi g:=by
  intro d;induction d with
  | zero =>
   intro k _ b c;exfalso;have:((2 ^ k:Nat):Int)=(2:Int) ^ k:=by rw[gF];rfl
   rw[Nat.add_zero]at c;lia
  | succ d l =>intro k a b c;by_cases z:lo % 2 ^ (k+1)=0/\(2:Int) ^ (k+1)<=hi - lo;exact l (k+1) z.1 z.2 (by rw[show k+1+d=k+(d+1) by lia];exact c);exact⟨k,a,b,z⟩
 refine key (hi - lo).toNat 0 (by simp) (by simp;lia) ?_;rw[eP];exact Nat.lt_two_pow_self
theorem zlU:∀(n:Nat) (lo hi:Int),(hi - lo).toNat<=n->lo<=hi->∃bs,Jp lo hi bs:=by
 intro n;induction n with
 | zero =>intro lo hi h l;exact⟨[],by show lo=hi;lia⟩
 | succ n u =>intro lo hi h l;by_cases z:lo<hi;obtain⟨g,G⟩:=zkj z;have p:=Bd.Qc g;have:=G.2.1;obtain⟨bs,B⟩:=u (lo+2 ^ g) hi (by lia) (by lia);exact⟨(lo,(g:Int))::bs,z,rfl,by show(0:Int)<=(g:Int);lia,by simpa using G,by simpa using B⟩;exact⟨[],by show lo=hi;lia⟩
def PatS:List Run->List (Int×Int)->Prop
 | [],ps=>ps=[]
 | r::rs,ps=>∃a b,ps=a++b/\Jp r.1 r.2 a/\PatS rs b
theorem PatS.uniq:∀{rs:List Run}{ps qs:qB},PatS rs ps->PatS rs qs->ps=qs
 | [],_,_,h,k=>by rw[show _=[] from h,show _=[] from k]
 | r::rs,_,_,h,k=>by obtain⟨a,b,rfl,h1,l⟩:=h;obtain⟨c,d,rfl,u,o⟩:=k;rw[h1.uniq u,PatS.uniq l o]
theorem PatS.mem:∀{rs:List Run}{ps:qB},PatS rs ps->∀x,mB x ps↔mR x rs
 | [],_,h,x=>by cases(show _=[] from h);exact⟨fun z=>absurd z VH,fun z=>absurd z QP⟩
 | r::rs,_,h,x=>by obtain⟨a,b,rfl,h1,l⟩:=h;rw[YK,JR,h1.mem x,PatS.mem l x]
theorem PatS.blk{bits:Int}(o:0<=bits):∀{rs:List Run}{ps:qB},PatS rs ps->(∀r∈rs,0<=r.1/\r.2<=2 ^ bits.toNat)->Bks bits ps
 | [],_,h,_=>by cases(show _=[] from h);exact fun b v=>nomatch v
 | r::rs,_,h,w=>by obtain⟨a,b,rfl,h1,u⟩:=h;have l:=w r (by simp);intro c hc;rcases aW.mp hc with hc|hc;exact h1.blk o l.1 l.2 c hc;exact PatS.blk o u (fun s x=>w s (by simp[x])) c hc
theorem PatS.in:∀{rs:List Run}{ps:qB},PatS rs ps->∀b∈ps,∃r∈rs,r.1<=b.1/\eB b<=r.2
 | [],_,h=>by cases(show _=[] from h);exact fun b o=>nomatch o
 | r::rs,_,h=>by obtain⟨a,b,rfl,h1,l⟩:=h;intro c hc;rcases aW.mp hc with hc|hc;exact⟨r,by simp,h1.in c hc⟩;obtain⟨s,u,q⟩:=PatS.in l c hc;exact⟨s,by simp[u],q⟩
theorem PatS.pw:∀{rs:List Run}{ps:qB},PatS rs ps->NR rs->ps.Pairwise fun a b=>eB a<=b.1
 | [],_,h,_=>by cases(show _=[] from h);exact .nil
 | r::rs,_,h,nr=>by obtain⟨a,b,rfl,h1,o⟩:=h;rw[cQ];refine⟨h1.pw,PatS.pw o nr.tail,fun x hx y v=>?_⟩;have:=h1.in x hx;obtain⟨s,u,q⟩:=PatS.in o y v;have:=(bK.mp nr.2).1 s u;lia
theorem PatS.len:∀{rs:List Run}{ps:qB},PatS rs ps->(∀r∈rs,0<=r.1/\r.2<=2 ^ 64)->ps.length<=130*rs.length
 | [],_,h,_=>by cases(show _=[] from h);simp
 | r::rs,_,h,w=>by obtain⟨a,b,rfl,h1,o⟩:=h;have l:=w r (by simp);have:=h1.len l.1 l.2;have:=PatS.len o fun s u=>w s (by simp[u]);rw[ba,aH];lia
def CanP(S:Int->Prop)(ps:qB):Prop:=∃rs,NR rs/\(∀x,mR x rs↔S x)/\PatS rs ps
theorem CanP.uniq{S T:Int->Prop}{ps qs:qB}(h:CanP S ps)(k:CanP T qs)(e:∀x,S x↔T x):ps=qs:=by
 obtain⟨rs,h1,l,v⟩:=h;obtain⟨ss,u,y,o⟩:=k;have:rs=ss:=h1.uniq u fun x=>by rw[l,y,e]
 subst this;exact v.uniq o
theorem CanP.mem{S:Int->Prop}{ps:qB}(h:CanP S ps)(x:Int):mB x ps↔S x:=by obtain⟨rs,h1,l,o⟩:=h;rw[o.mem,l]
theorem CanP.ptc{S:Int->Prop}{ps:qB}{bits:Int}(v:0<=bits)(h:CanP S ps)(w:∀x,S x->0<=x/\x<2 ^ bits.toNat):Ptc bits ps:=by obtain⟨rs,h1,o,u⟩:=h;refine⟨u.blk v fun r l=>?_,u.pw h1⟩;have lt:=h1.1 r l;have a:=w r.1 ((o _).mp ⟨r,l,aO _,lt⟩);have b:=w (r.2 - 1) ((o _).mp ⟨r,l,by lia,by lia⟩);lia
section
variable{X:Cx}{a:aY}{da:DTE}{ρ:En}{n:Nat}{R:qN}
theorem zmP:MtR X "int.bit_length" (fun x xs H Q=>∃i,x=.int i/\xs=[]/\Q (.int (fP i)) H):=by intro pins s σ H x xs v o Q I l rs h;obtain⟨i,rfl,rfl,q⟩:=h;obtain⟨t,rfl⟩:=l;cases rs;exact call_int_bit_length ⟨.int _,H,I.tok _,⟨_,rfl⟩,q⟩
def znJ(d:DTE):DTE:=fun ρ n R=>d ρ n fun t l=>lInt t fun i=>R (.int (fP i)) l
theorem zit{p2 p3:Pos}(h:DL X a da)(G:attributeBase a "bit_length" X.env (eval a X.env)=eval a X.env:=by rfl) (J:(p2.endLine == p3.line)=true:=by rfl):DE X (.Call (.Attribute a "bit_length" p2) [] [] p3) (znJ da):=by
 obtain⟨N,pa,h⟩:=h;refine⟨_,ztA PySem.F.plainAttrs_int slot_int_bit_length type_int_bit_length zmP pa G J,fun C ρ σ H n Q R S hd y=>?_⟩;refine h C ρ σ H n _ _ S hd fun t L v I r o h1 x=>?_;cases t with
 | int i =>rw[x.intI];exact⟨rfl,i,rfl,rfl,y _ L _ I r o h1 (.int _)⟩
 | _=>exact r.elim
instance zv4:Stp (znJ da ρ n R) (da ρ n fun t n1=>lInt t fun i=>R (.int (fP i)) n1):=⟨fun h=>h⟩
end
theorem zfk{i:Int}(h:0<i):(fP i:Int) - 1=(i.toNat.log2:Int):=by
 unfold fP;have:(i == 0)=false:=by simp;lia
 rw[this];have e:i.natAbs=i.toNat:=by lia
 rw[e];simp
theorem zmY{i:Int}(h:0<i):(2:Int) ^ i.toNat.log2<=i:=by
 have:=Nat.log2_self_le (n:=i.toNat) (by lia);have e:((2 ^ i.toNat.log2:Nat):Int)=(2:Int) ^ i.toNat.log2:=by rw[gF];rfl
 lia
theorem zmU{i:Int}(h:0<i):i<(2:Int) ^ (i.toNat.log2+1):=by
 have:=Nat.lt_log2_self (n:=i.toNat);have e:((2 ^ (i.toNat.log2+1):Nat):Int)=(2:Int) ^ (i.toNat.log2+1):=by rw[gF];rfl
 lia
theorem zm1(t:Nat):∀x:Nat,x % 2 ^ t=0->¬x % 2 ^ (t+1)=0->x - (x &&& (x - 1))=2 ^ t:=by
 induction t with
 | zero =>
  intro x _ h;have v:x % 2=1:=by
   have:¬x % 2=0:=by simpa using h
   lia
  have e:x &&& (x - 1)=x - 1:=by
   apply oD;intro i;rw[nP];cases i with
   | zero =>
    have:(x - 1).testBit 0=false:=by rw[m9];simp;lia
    rw[this,gV]
   | succ i =>
    have:x / 2=(x - 1) / 2:=by lia
    rw[hG,hG,this,Bool.and_self]
  rw[e];simp;lia
 | succ t o =>
  intro x h1 l;have ev:x % 2=0:=by have:2∣2 ^ (t+1):=⟨2 ^ t,by rw[lF,rh]⟩;exact i7 (Nat.dvd_trans this (i8 h1))
  have hx:x=2*(x / 2):=by lia
  have p1:(x / 2) % 2 ^ t=0:=by
   obtain⟨q,e⟩:=i8 h1;apply i7;refine⟨q,?_⟩;rw[lF]at e;have:x=2*(2 ^ t*q):=by rw[e];rw[rh (2 ^ t) 2,vh]
   lia
  have p2:¬(x / 2) % 2 ^ (t+1)=0:=fun z=>by obtain⟨q,e⟩:=i8 z;apply l;apply i7;refine⟨q,?_⟩;rw[lF,rh (2 ^ (t+1)) 2,vh,<- e];exact hx
  have:=o (x / 2) p1 p2;have e:x &&& (x - 1)=2*(x / 2 &&& (x / 2 - 1)):=by
   apply oD;intro i;rw[nP];cases i with
   | zero =>
    have a:x.testBit 0=false:=by rw[m9];simp;lia
    rw[a,dW,m9];simp
   | succ i =>
    have u:0<x / 2:=by rcases iL (x / 2) with z|z;rw[z]at p2;simp at p2;exact z
    have b:(x - 1) / 2=x / 2 - 1:=by lia
    rw[hG,hG,hG,b,Nat.mul_div_cancel_left _ (by decide:0<2),nP]
  rw[e,lF];have le:(x / 2 &&& (x / 2 - 1))<=x / 2:=sZ;lia
theorem zsm{b:Int}(h:0<b){t:Nat}(h1:b % 2 ^ t=0)(u:¬b % 2 ^ (t+1)=0):gU b (-b)=2 ^ t:=by
 have e:gU b (-b)=b - ((b.toNat &&& (b.toNat - 1):Nat):Int):=by
  have h0:decide (0<=b)=true:=decide_eq_true (by lia);have l:decide (0<=-b)=false:=decide_eq_false (by lia);show(match decide (0<=b),decide (0<=-b) with
   | true,true=>((b.toNat &&& (-b).toNat:Nat):Int)
   | true,false=>b - ((b.toNat &&& (fX (-b)).toNat:Nat):Int)
   | false,true=>(-b) - (((-b).toNat &&& (fX b).toNat:Nat):Int)
   | false,false=>fX (((fX b).toNat|||(fX (-b)).toNat:Nat):Int))=_
  rw[h0,l];have:(fX (-b)).toNat=b.toNat - 1:=by
   have:fX (-b)=b - 1:=by show -(-b) - 1=b - 1;lia
   rw[this];lia
  rw[this]
 have cast:∀k:Nat,b % (2:Int) ^ k=((b.toNat % 2 ^ k:Nat):Int):=fun k=>by rw[Int.natCast_emod,gF,Int.toNat_of_nonneg (by lia)];rfl
 rw[cast]at h1 u;have:=zm1 t b.toNat (by lia) (by lia);have le:(b.toNat &&& (b.toNat - 1))<=b.toNat:=sZ;rw[e];have v:((2 ^ t:Nat):Int)=(2:Int) ^ t:=by rw[gF];rfl
 lia
theorem zv8{b:Int}(h:0<b):∃t:Nat,b % 2 ^ t=0/\¬b % 2 ^ (t+1)=0:=by obtain⟨g,G⟩:=zkj (lo:=b) (hi:=b+b+1) (by lia);refine⟨g,G.1,fun z=>?_⟩;have d:=bE z;have:=Int.le_of_dvd h d;exact G.2.2 ⟨z,by lia⟩
theorem zkc{xs:qD}{x:af}:ixN (xs++[x]).length (-1)=some xs.length:=by unfold ixN;simp;lia
theorem zpc{xs:qD}{x:af}{Q:af->Prop}(h:Q x):oIx (.list (xs++[x])) (.int (-1)) Q:=by
 have e:atI (xs++[x]) (-1)=some x:=by unfold atI;rw[zkc];simp
 rw[Zf e];exact h
end L2
namespace Bd
open PySem L2
abbrev Deal:=Int×List ((Int×Int)×Str)×List ((Int×Int)×Str)
end Bd
namespace L2
open PySem PySem.Spec PyProof.Rows
section
variable{X:Cx}{tg iter:aY}{d:DTE}
def iSeq(K:qF)(o:TE):TI:=fun σ H R=>o σ H fun x l=>∃a,x=.ref a/\(((∃xs,SqL K l a xs)/\R (Itl K a) l)\/((∃xs,SqT K l a xs)/\R (Itt K a) l))
theorem ztq{l:aY}{J:TE}(U:PE X l J):PI X tg l (iSeq X.K J):=by
 intro pins s σ H R I h;refine thn (U pins s σ H _ I h) fun v s1 ⟨x,L,u,N,y⟩=>?_;obtain⟨a,e,y⟩:=y;subst e;cases N;rcases y with⟨⟨xs,G⟩,q⟩|⟨⟨xs,G⟩,q⟩;obtain⟨its,S,p,hz⟩:=u.list G;refine iR p.isList ?_;refine⟨s1.heap.objs.size,[s1.heap.objs.size],_,_,L,rfl,u.kept (t':=s1.toks) fun b o e=>ah _ e,zhp a _,⟨_,aw _ rfl,rfl,rfl⟩,fun b C=>?_,q⟩;have e:b=s1.heap.objs.size:=by simpa using C
 subst e;exact u.fpOk (ar _) (u.hok.fresh (ar _));obtain⟨its,S,p,hz⟩:=u.tuple G;refine iH (show s1.heap.IsTuple a its.toArray from p) ?_;refine⟨s1.heap.objs.size,[s1.heap.objs.size],_,_,L,rfl,u.kept (t':=s1.toks) fun b o e=>ah _ e,zfU a _,⟨_,aw _ rfl,rfl,rfl⟩,fun b C=>?_,q⟩;have e:b=s1.heap.objs.size:=by simpa using C
 subst e;exact u.fpOk (ar _) (u.hok.fresh (ar _))
def dItA(d:DTE):DTA:=fun l n R=>d l n fun t o=>JN t fun ts=>R ts o
theorem zqe(h:DE X iter d):DI X tg iter (dItA d):=by
 obtain⟨J,pa,h⟩:=h;refine⟨_,ztq pa,fun C y σ H n Q R S hd u=>?_⟩;refine h C y σ H n _ _ S hd fun t G v H' r o x q=>?_;cases t with
 | tuple ts =>obtain⟨p,vs,rfl,h1,it⟩:=zp5 (P:=fun a=>¬Own C y σ a) (fun _ z=>z) q;exact⟨p,rfl,.inr ⟨⟨vs,h1⟩,u ts G _ H' r o x it⟩⟩
 | list ts =>obtain⟨p,vs,rfl,h1,no,I⟩:=q.lstI;exact⟨p,rfl,.inl ⟨⟨vs,SqL.of h1⟩,u ts G _ H' r o x (VM h1 no (fun _ z=>z) I)⟩⟩
 | _=>exact r.elim
end
section
variable{ρ:En}{n:Nat}{d:DTE}{Rl:List af->Nat->Prop}
instance zx4:Stp (dItA d ρ n Rl) (d ρ n fun t n'=>JN t fun ts=>Rl ts n'):=⟨fun h=>h⟩
end
theorem Z5{bits:Int}{p q:Int×Int}(P:IsBk bits p.1 p.2)(Q:IsBk bits q.1 q.2){x:Int}(u:p.1<=x/\x<eB p)(o:q.1<=x/\x<eB q):(p.1<=q.1/\eB q<=eB p/\q.2<=p.2)\/(q.1<=p.1/\eB p<=eB q/\p.2<=q.2):=by unfold eB at *;rcases wz q.2.toNat p.2.toNat with l|l;rcases ziB P.n Q.n l with z|z|z;left;have:=(zjk P.n Q.n).mp z;have:=P.1;have:=Q.1;lia;lia;lia;rcases ziB Q.n P.n l with z|z|z;right;have:=(zjk Q.n P.n).mp z;have:=P.1;have:=Q.1;lia;lia;lia
theorem zn3{bits i h:Int}(B:IsBk bits i h):i % 2 ^ h.toNat=0:=by obtain⟨_,_,k,_,rfl,_⟩:=B;exact rm _ _
theorem Jp.great:∀{bs:qB}{lo hi:Int},Jp lo hi bs->∀b∈bs,QL b.1 hi b.2.toNat/\lo<=b.1
 | [],_,_,_=>fun b o=>nomatch o
 | b::r,lo,hi,h=>by obtain⟨h1,v,x,l,u⟩:=h;have p:=Bd.Qc b.2.toNat;intro c hc;rcases ay.mp hc with rfl|hc;rw[v];exact⟨l,aO _⟩;have:=Jp.great u c hc;exact⟨this.1,by lia⟩
theorem Jp.max{bits:Int}(b0:0<=bits){bs:qB}{lo hi:Int}(S:Jp lo hi bs)(l0:0<=lo)(l1:hi<=2 ^ bits.toNat){p q:Int×Int}(I:p∈bs)(Q:IsBk bits q.1 q.2)(w:lo<=q.1/\eB q<=hi)(i:q.1<=p.1/\eB p<=eB q):q=p:=by
 have B:=S.blk b0 l0 l1;have P:=B p I;have pp:=Bd.Qc p.2.toNat;have pq:=Bd.Qc q.2.toNat;have nest:=Z5 P Q (x:=p.1) ⟨aO _,by unfold eB;lia⟩ ⟨i.1,by unfold eB at *;lia⟩;have hle:p.2<=q.2:=by
  rcases nest with⟨a,b,c⟩|⟨a,b,c⟩;have u:p.1=q.1:=by lia
  have v:eB p=eB q:=by lia
  unfold eB at v;rcases fj q.2 p.2 with z|z;have p0:=P.1;have q0:=Q.1;have:=QK (show q.2.toNat+1<=p.2.toNat by lia);rw[bH]at this;lia;exact z;exact c
 have p0:=P.1;have q0:=Q.1;by_cases e:p.2=q.2;have u:(2:Int) ^ p.2.toNat=2 ^ q.2.toNat:=by rw[e]
 have:q.1=p.1:=by unfold eB at *;lia
 exact dz this e.symm;exfalso;have y:p.2.toNat+1<=q.2.toNat:=by lia
 have dq:=zn3 Q;have J:=UV y dq;have G:=(S.great p I).1;by_cases ev:p.1 % 2 ^ (p.2.toNat+1)=0;apply G.2.2;refine⟨ev,?_⟩;obtain⟨a,l⟩:=bE ev;have de:eB q % 2 ^ (p.2.toNat+1)=0:=by unfold eB;rw[rg,J,dR (zdZ y)];simp
 obtain⟨c,L⟩:=bE de;have lt:p.1<eB q:=by have:=i.2;unfold eB at *;lia
 rw[l,L]at lt;have pos:=Bd.Qc (p.2.toNat+1);have ac:a<c:=mf lt (by lia);have:=fY (show a+1<=c by lia) (show(0:Int)<=2 ^ (p.2.toNat+1) by lia);rw[sI,mC,<- l,<- L]at this;lia;have R:(p.1 - 2 ^ p.2.toNat) % 2 ^ (p.2.toNat+1)=0:=by
  obtain⟨k,ek⟩:=bE (zn3 P);have v:(2:Int) ^ (p.2.toNat+1)=2 ^ p.2.toNat*2:=bH _ _;rw[v]at ev ⊢;have odd:k % 2=1:=by rcases sY k with z|z;exfalso;obtain⟨t,et⟩:=bE z;apply ev;apply dR;exact⟨t,by rw[ek,et,cS]⟩;exact z
  apply dR;refine⟨(k - 1) / 2,?_⟩;have:k - 1=2*((k - 1) / 2):=by lia
  rw[ek,cS,<- this,Int.mul_sub,mC]
 have lowq:q.1<=p.1 - 2 ^ p.2.toNat:=by
  obtain⟨a,l⟩:=bE R;obtain⟨c,L⟩:=bE J;have pos:=Bd.Qc (p.2.toNat+1);have v:(2:Int) ^ (p.2.toNat+1)=2 ^ p.2.toNat*2:=bH _ _;have lt:q.1<p.1 - 2 ^ p.2.toNat+2 ^ (p.2.toNat+1):=by lia
  rw[l,L]at lt;have:(2:Int) ^ (p.2.toNat+1)*c<2 ^ (p.2.toNat+1)*(a+1):=by rw[sI,mC];exact lt
  have ca:=mf this (by lia);have:=fY (show c<=a by lia) (show(0:Int)<=2 ^ (p.2.toNat+1) by lia);rw[<- l,<- L]at this;exact this
 obtain⟨c,hc,c1,c2⟩:=(S.mem (p.1 - 2 ^ p.2.toNat)).mpr ⟨by lia,by have:=S.in p I;unfold eB at this;lia⟩;have C:=B c hc;have pc:=Bd.Qc c.2.toNat;have cp:eB c<=p.1:=by obtain⟨Y,h1,rfl⟩:=bp hc;obtain⟨U,h2,rfl⟩:=bp I;rcases c9 Y U with z|z|z;exact aP.mp S.pw Y U h1 h2 z;subst z;lia;have:=aP.mp S.pw U Y h2 h1 z;unfold eB at this;lia
 have LB:IsBk bits (p.1 - 2 ^ p.2.toNat) (p.2+1):=by
  have hq1:=Q.2.1;obtain⟨a,l⟩:=bE R;have u:(p.2+1).toNat=p.2.toNat+1:=by lia
  have pos:=Bd.Qc (p.2.toNat+1);have a0:0<=a:=by rcases fj a 0 with z|z;have:=hZ pos z;have:=(Q.bounds b0).1;lia;exact z
  refine⟨by lia,by lia,a,a0,by rw[u,l,cA],?_⟩;have e:(2:Int) ^ bits.toNat=2 ^ (bits - (p.2+1)).toNat*2 ^ (p.2.toNat+1):=by rw[<- gX];congr 1;lia
  have up:a*2 ^ (p.2.toNat+1)<2 ^ (bits - (p.2+1)).toNat*2 ^ (p.2.toNat+1):=by rw[<- e,cA,<- l];have:=(P.bounds b0).2;lia
  exact lX up (by lia)
 have u:(p.2+1).toNat=p.2.toNat+1:=by lia
 have n3:=Z5 (p:=c) (q:=(p.1 - 2 ^ p.2.toNat,p.2+1)) C LB (x:=p.1 - 2 ^ p.2.toNat) ⟨c1,c2⟩ ⟨aO _,by show _<_+2 ^ (p.2+1).toNat;have:=Bd.Qc (p.2+1).toNat;lia⟩;have eL:eB (p.1 - 2 ^ p.2.toNat,p.2+1)=p.1+2 ^ p.2.toNat:=by show p.1 - 2 ^ p.2.toNat+2 ^ (p.2+1).toNat=_;rw[u,bH];lia
 rcases n3 with⟨Z,z2,z3⟩|⟨Z,z2,z3⟩;lia;have Z:p.1 - 2 ^ p.2.toNat<=c.1:=Z;have z3:c.2<=p.2+1:=z3;have cb:c.1=p.1 - 2 ^ p.2.toNat:=by lia
 have c0:=C.1;have ch:c.2<=p.2:=by
  rcases fj p.2 c.2 with z|z;have:c.2=p.2+1:=by lia
  unfold eB at cp;rw[this,u,bH]at cp;lia;exact z
 have Gc:=(S.great c hc).1;apply Gc.2.2;refine⟨?_,?_⟩;rw[cb];exact UV (show c.2.toNat+1<=p.2.toNat+1 by lia) R;have:=QK (show c.2.toNat+1<=p.2.toNat+1 by lia);have v:(2:Int) ^ (p.2.toNat+1)=2 ^ p.2.toNat*2:=bH _ _;have:=S.in p I;unfold eB at this;lia
theorem NR.one{rs:List Run}(l:NR rs){a b:Int}(h:a<b)(w:∀x,a<=x->x<b->mR x rs):∃r∈rs,r.1<=a/\b<=r.2:=by obtain⟨r,o,h1,C⟩:=w a (aO _) h;refine⟨r,o,h1,?_⟩;rcases fj r.2 b with z|z;exfalso;obtain⟨s,u,L,G⟩:=w r.2 (by lia) z;obtain⟨i,hi,rfl⟩:=bp o;obtain⟨j,v,rfl⟩:=bp u;have I:=l.1 _ o;have J:=l.1 _ u;rcases c9 i j with y|y|y;have:=aP.mp l.2 i j hi v y;lia;subst y;lia;have:=aP.mp l.2 j i v hi y;lia;exact z
theorem PatS.from:∀{rs:List Run}{ps:qB},PatS rs ps->∀p∈ps,∃r∈rs,∃bs,Jp r.1 r.2 bs/\p∈bs
 | [],_,h=>by cases(show _=[] from h);exact fun b o=>nomatch o
 | s::rs,_,h=>by obtain⟨a,b,rfl,h1,u⟩:=h;intro p l;rcases aW.mp l with l|l;exact⟨s,by simp,a,h1,l⟩;obtain⟨r,v,bs,B,o⟩:=PatS.from u p l;exact⟨r,by simp[v],bs,B,o⟩
theorem CanP.max{bits:Int}(U:0<=bits){S:Int->Prop}{ps:qB}(h:CanP S ps)(w:∀x,S x->0<=x/\x<2 ^ bits.toNat){p q:Int×Int}(R:p∈ps)(Q:IsBk bits q.1 q.2)(N:∀x,q.1<=x->x<eB q->S x)(i:q.1<=p.1/\eB p<=eB q):q=p:=by
 obtain⟨rs,u,v,P⟩:=h;obtain⟨r,o,bs,B,J⟩:=P.from p R;have lt:=u.1 r o;have Y:=w r.1 ((v _).mp ⟨r,o,aO _,lt⟩);have Z:=w (r.2 - 1) ((v _).mp ⟨r,o,by lia,by lia⟩);have pin:=B.in p J;have pp:=Qa p;obtain⟨s,L,s1,s2⟩:=u.one (a:=q.1) (b:=eB q) (Qa q) fun x h1 l=>(v x).mpr (N x h1 l);have G:r=s:=by obtain⟨I,h1,rfl⟩:=bp o;obtain⟨C,l,rfl⟩:=bp L;rcases c9 I C with y|y|y;have:=aP.mp u.2 I C h1 l y;lia;subst y;rfl;have:=aP.mp u.2 C I l h1 y;lia
 subst G;exact B.max U Y.1 (by lia) J Q ⟨s1,s2⟩ i
theorem zh3:∀{ps bs:qB},(ps.Pairwise fun a b=>eB a<=b.1)->(∀p∈ps,∃b∈bs,p.1<=b.1/\b.1<eB p)->ps.length<=bs.length
 | [],_,_,_=>cO _
 | p::ps,bs,pw,h=>by
  obtain⟨b,o,C,y⟩:=h p (by simp);have l:=bK.mp pw;have:=zh3 (ps:=ps) (bs:=bs.erase b) l.2 fun q u=>by obtain⟨c,hc,x,v⟩:=h q (by simp[u]);refine⟨c,(kW ?_).mpr hc,x,v⟩;rintro rfl;have:=l.1 q u;lia
  have e:=iy o;have:=i9 o;rw[aH];lia
theorem CanP.le{bits:Int}(C:0<=bits){bs ps:qB}(B:Bks bits bs)(h:CanP (fun x=>mB x bs) ps):ps.length<=bs.length:=by
 have w:∀x,mB x bs->0<=x/\x<2 ^ bits.toNat:=fun x ⟨b,l,h1,y⟩=>by have:=(B b l).bounds C;unfold eB at y;lia
 have P:=h.ptc C w;refine zh3 P.2 fun p v=>?_;have pp:=Qa p;obtain⟨b,l,h1,y⟩:=(h.mem p.1).mp ⟨p,v,aO _,pp⟩;rcases Z5 (P.1 p v) (B b l) (x:=p.1) ⟨aO _,pp⟩ ⟨h1,y⟩ with z|z;exact⟨b,l,z.1,by have:=Qa b;lia⟩;have:=h.max C w v (B b l) (fun x I G=>⟨b,l,I,G⟩) ⟨z.1,z.2.1⟩;subst this;exact⟨b,l,aO _,pp⟩
end L2
namespace L2
open PySem PySem.Spec PyProof PyProof.Rows PySem.W
section
variable{X:Cx}{e a b c:aY}{x:Str}{pos:Pos}{d:DTE}{ds:DTA}
def VI(i:Nat)(d:DTE):DTS:=fun D l n=>match l[i]? with
 | some (some (.own ts))=>d l n fun t v=>lLst t fun u=>ts.length+u.length<=16777216/\D.nx (l.set i (some (.own (ts++u)))) v
 | _=>False
theorem znq(i:Nat){p1 p2 p3:Pos}(h:DE X e d)(hN:X.N[i]?=some x:=by rfl)(hv:Vis X.env.scope x:=by walk_at "V")(hd:(x == ("__debug__":Str))=false:=by rfl)
  (R:(x == ("__classdict__":Str))=false:=by rfl) (hs:swapsWith (.Call (.Attribute (.Name x p1) "extend" p2) [e] [] p3) none pos.line X.env=pure false:=by rfl)
  (Lw:attributeBase (.Name x p1) "extend" X.env (eval (.Name x p1) X.env)=eval (.Name x p1) X.env:=by rfl)
  (Mh:((backTo p3 (starEach [e] X.env)).all (fun x=>!x.1)&&(backToKw p3 (keywordEach [] X.env)).all (fun x=>x.1.isSome)
   && decide ([e].length+([]:List iW).length+(if ([]:List iW).isEmpty then 0 else 1)<30))=true:=by rfl)
  (Lx:(p2.endLine == p3.line)=true:=by rfl) (G:starEach [e] X.env=[(false,eval e X.env)]:=by rfl):DS X (.Expr (.Call (.Attribute (.Name x p1) "extend" p2) [e] [] p3) pos) (VI i d):=by
 obtain⟨ta,pa,h⟩:=h;refine⟨_,ziT (zq_ iP mQ mS zmO (Qb hN hv hd R) (QT pa QY G) Lw Mh Lx G rfl) hs,fun C ρ σ H n D D' S hd g=>?_⟩;unfold VI at hd;split at hd;rename_i ts J;obtain⟨p,vs,h1,h2,h3,h4⟩:=S.own i ts J;refine⟨.ref p,h1,.inl ⟨rfl,_,SqL.of h2⟩,?_⟩;refine h C ρ σ H n _ _ S hd fun t n' v H' r Y hn q=>?_;cases t with
 | list us =>have Z:=S.on Y hn;obtain⟨p',L,I,U,o,h4'⟩:=Z.own i ts J;rw[h1]at I;cases I;obtain⟨b,ws,rfl,hb,_,q⟩:=q.lstI;refine⟨p,b,L,ws,rfl,rfl,U,hb,by rw[o.length,q.length];exact r.1,?_⟩;obtain⟨S2,k2⟩:=Z.chg J h1 (o.append q);exact g.nx _ _ _ n' r.2 S2 (Y.keep.trans k2)
 | _=>exact r.elim
 exact hd.elim
instance zv3 {i:Nat}{ρ:En}{n:Nat}{D:JF}{xs:qD}[h:GetN ρ i (some (.own xs))]:Stp (VI i d D ρ n) (d ρ n fun t n'=>lLst t fun us=>xs.length+us.length<=16777216/\SetK i (some (.own (xs++us))) D.nx ρ n'):=⟨fun k=>by unfold VI;rw[h.e];exact k⟩
end
end L2
namespace L2
open PySem Bd
variable{as bs cs:List Run}{a b:Nat}
end L2
namespace L2
open PySem PySem.Spec PyProof.Rows
theorem zw3{P:aL}{w:aZ}{k:Key}{u:ag}(r:RelV (kV k) u):(Jy P w).is k u=true:=by
 cases k with
 | inl i=>obtain⟨t,e⟩:=(show ∃t,u=mV i t from r);subst e;exact zi9 P w i t
 | inr x=>obtain⟨t,e⟩:=(show ∃t,u=rM x t from r);subst e;exact zi8 P w x t
theorem zig{P:aL}{w:aZ}:∀{ks:List Key}{u:List ag},Vals (ks.map kV) u->ItemsAre (Jy P w) ks u
 | [],_,r=>by rw[dY]at r;cases r;exact .nil
 | k::ks,_,r=>by
  rw[aN]at r;cases r with
  | cons h t=>exact .cons (zw3 h) (zig t)
abbrev KT(H:Hp):List (List Key×V)->List (List Key×aj×ag)->Prop:=bL fun p q=>p.1=q.1/\H q.2.1=some (.tup (p.1.map kV))/\RelV p.2 q.2.2
section
variable{X:Cx}{pins:qO}{σ:St}{H:Hp}{s:aq}{a:aj}{y v:V}{u r:ag}{o:Option V}{A:bg}{E:qV}
theorem Inv.big(I:Inv X pins σ H s):sysModules<s.heap.objs.size:=by have h:mainGlobals<s.heap.objs.size:=(I.mod.glob.keeps I.bk).lt;exact gn (by decide) h
theorem zjs{h':a9}{t':Nat}{C:HO}(I:Inv X pins σ H s)(L:Mut (H a))(J:cH a s.heap h')(he:∃q,h'.get? a=some q)(new:JC X.prog X.w (upd H a C) h' a C) :
  Inv X pins σ (upd H a C) { s with heap:=h',toks:=t' } :=
 I.write (x:=a) (e:=a) L (.inl rfl) (fun b q G z=>(J.2 b G).trans z) he new
end
def NoSl(i:aY):Prop:=∀l o,subscripted i false l o=operate [l,o] (getItem l o)
theorem zqu{prog:aL}{w:aZ}{A:bg}{E:qV}{s:aq}{env:Env}{value slice:aY}{pos:Pos}{T id:String}{Q:qV}
  (U:typeLookup (.type T) "__getitem__" = pure (some (.builtin id))) (R:NoSl slice)
  (h:wpAny (model prog w) A (eval value env) (fun o G=>wpAny (model prog w) A (eval slice env) (fun i v=>v.TypeIs o T/\wpAny (model prog w) A (getItem o i) Q E v) E G) E s) :
  wpAny (model prog w) A (eval (.Subscript value slice pos) env) Q E s:=by
 refine tQ (cz h (fun o G J=>cz J (fun i v C=>?_) fun _ _ x=>x) fun _ _ x=>x);obtain⟨N,C⟩:=C;unfold subscriptTail;refine aa ?_;rw[getitemInPython_of_ne N.not_modules];refine aa (tf N U ?_);have fin:wpAny (model prog w) A (subscripted slice false o i) (fun r I=>wpAny (model prog w) A (letTemporaryGo value o r >>= fun _=>pure r) Q E I) E v:=by rw[R o i];exact wpAny_operating (cz C (fun r I L=>aa (wpAny_letTemporaryGo (ae L))) fun _ _ x=>x)
 first
  | exact ae (aa fin)
  | exact aa (ae (aa fin))
  | exact aa fin
end L2
namespace L2
open PySem PySem.Spec PyProof PyProof.Rows
abbrev KD:=List (Key×af)
section
variable{D:JF}{ρ ρ':En}{n i j:Nat}{d dk dv:DTE}{R:qN}{ks:KD}
instance{ks:KD}:CapC (some (.dct ks)) (some (.rdo ks)):=⟨rfl⟩
instance{ks:KD}:CapC (some (.rdo ks)) (some (.rdo ks)):=⟨rfl⟩
end
theorem zc5:entryFor table "dict.update.loop" = some cc.«dict.update.loop»:=by kernel_rfl
theorem zli:typeLookup (.type "tuple") "keys" = pure none:=by rw[gG,eG];kernel_rfl
theorem zpm:typeLookup (.type "tuple") "__getattr__" = pure none:=by rw[gG,eG];kernel_rfl
section
variable{prog:aL}{w:aZ}{A:bg}{E:qV}{Ky:Type}[DecidableEq Ky]{knd:o4 prog w Ky}
def KpH(d it:aj)(h h':a9):Prop:=∀b o,b≠d->b≠it->h.get? b=some o->h'.get? b=some o
end
def rkI:ag->Int
 | .int i _=>i
 | _=>0
section
variable{prog:aL}{w:aZ}{A:bg}{E:qV}{s:aq}{Ky:Type}[DecidableEq Ky]{knd:o4 prog w Ky}
theorem zkf:∀(vs:List ag),(∀v∈vs,∃i t,v=.int i t)->∃ns,gO vs ns
 | [],_=>⟨[],.nil⟩
 | v::vs,h=>by obtain⟨i,t,rfl⟩:=h v (by simp);obtain⟨ns,r⟩:=zkf vs fun v u=>h v (by simp[u]);exact⟨i::ns,.cons _ _ r⟩
theorem zlf{vs:List ag}(C:∀v∈vs,∃i t,v=.int i t):Kinds prog w A s rkI vs:=fun y=>by
 refine⟨oneType',fun E Q q=>?_,fun p q E Q mp J h=>?_⟩;obtain⟨l,x,rest,rfl⟩:∃l x rest,vs=l::x::rest:=by
  match vs,y with
  | [],y=>simp at y
  | [_],y=>simp at y
  | l::x::rest,_=>exact⟨l,x,rest,rfl⟩
 obtain⟨ns,r⟩:=zkf _ C;rw[keyKind_ints r];exact ae q;have mem:∀z∈(pairsOf vs).toList,z.1∈vs:=fun z hz=>by
  have:z∈vs.zip vs:=by simpa[pairsOf] using hz
  exact(dF this).1
 obtain⟨i,t,G⟩:=C _ (mem p mp);obtain⟨j,u,I⟩:=C _ (mem q J);rw[G,I]at h ⊢;rw[keyLt'_oneType];exact oneLt_int h
end
theorem ze0{α u:Type}{P:α->u->Prop}:∀{l:List α}{m:List u},l.length=m.length->(∀(j:Nat) a b,l[j]?=some a->m[j]?=some b->P a b)->bL P l m
 | [],[],_,_=>.nil
 | a::l,b::m,h,k=>.cons (k 0 a b rfl rfl) (ze0 (by simpa using h) fun j a b h1 v=>k (j+1) a b h1 v)
 | [],_::_,h,_=>by simp at h
 | _::_,[],h,_=>by simp at h
section
variable{X:Cx}
theorem zqs{u:List Int}{out:List ag}(h:bL (fun(i:Int) (v:ag)=>∃t,v=.int i t) u out):Vals (u.map V.int) out:=by
 induction h with
 | nil=>exact .nil
 | cons r _ x=>exact .cons r x
end
theorem JH{k:Nat}{A:bg}(r:Room k A):A.units+1<cLine:=by have:=r.un;lia
section
variable{X:Cx}{x:Str}{pos p p1:Pos}
theorem zmg{K:qF}{hd:Option aj}{O:aj->Prop}{H:Hp}:∀u:List Int,Reps K hd O H (u.map V.int) (u.map bS)
 | []=>.nil
 | j::u=>.cons (.int _) (zmg u)
end
theorem QZ{bits:Int}(y:0<=bits){bs:qB}(B:Bks bits bs){x:Int}(h:mB x bs):0<=x/\x<2 ^ bits.toNat:=by obtain⟨b,l,h1,v⟩:=h;have:=(B b l).bounds y;unfold eB at v;lia
theorem zrm{bits:Int}(u:0<=bits)(v:bits<=64){S:Int->Prop}{rs:qB}(o:NR rs)(e:∀x,mR x rs↔S x)(w:∀x,S x->0<=x/\x<2 ^ bits.toNat):∀r∈rs,0<=r.1/\r.1<=r.2/\r.2<=2 ^ 64:=fun r l=>by have lt:=o.1 r l;have a:=w r.1 ((e _).mp ⟨r,l,aO _,lt⟩);have b:=w (r.2 - 1) ((e _).mp ⟨r,l,by lia,by lia⟩);have:=Bd.zgB (k:=bits.toNat) (by lia);lia
section
variable{prog:aL}{w:aZ}{A:bg}{E:qV}{s:aq}
theorem zfG{a:aj}{o:Obj}{u:Tok}{P:Fin->aq->Prop}(v:s.heap.get? a=some o)(hc:o.cls=.type "tuple") (l:∃its n,o.data=.seq its n) (hd:o.dict=none) (C:A.handled=none)
  (h:∀h' tk e,nQ s.heap h' e (.ref a) "keys" -> E (.ref e) { s with heap:=h',toks:=tk }):wpAny (model prog w) A (cc.«object.__getattribute__» ⟨[.ref a,.str "keys" u],[]⟩) P E s:=by
 obtain⟨x,g,d,tk,os⟩:=s;have I:∀(t:Nat),pd ⟨x,g,d,t,os⟩ (.ref a) "tuple":=fun _=>⟨o,v,hc⟩;have G:=zli;unfold cc.«object.__getattribute__»
 repeat (any_goals (first|assumption|wp_step))
 rw[hc,G]
 repeat (any_goals (first|assumption|wp_step))
 obtain⟨its,n,l⟩:=l;rw[l];dsimp only;unfold instanceDict
 repeat (any_goals (first|assumption|wp_step))
 rw[hd]
 repeat (any_goals (first|assumption|wp_step))
 simp only[hc,fA,Bool.true_or,if_true]
 repeat (any_goals (first|assumption|wp_step))
 rw[hc];dsimp only
 repeat (any_goals (first|assumption|wp_step))
 exact wpAny_raiseAttrError C h (attrMsg_fits (by decide +kernel) (by size_fits))
theorem zfe{a:aj}{o:Obj}{u:Tok}{R:rQ->aq->Prop}(v:s.heap.get? a=some o)(hc:o.cls=.type "tuple") (x:∃its n,o.data=.seq its n) (hd:o.dict=none) (C:A.handled=none)
  (h:∀h' tk e,nQ s.heap h' e (.ref a) "keys" -> R (.error (.ref e)) { s with heap:=h',toks:=tk }):codeAny (model prog w) A (.call (.builtin "tuple.__getattribute__") ⟨[.ref a,.str "keys" u],[]⟩) R s :=
 kX fE.plain F.entry_tuple_ga (fE.check _ _ _ _ _ _ _ _ (show s.TypeIs (.ref a) "tuple" from⟨_,v,hc⟩) (F.args_tuple_getattribute_2 _ _) (zfG v hc x hd C h))
theorem zgR{a:aj}{o:Obj}{u:Tok}{Q:qV}(l:s.heap.get? a=some o)(hc:o.cls=.type "tuple") (x:∃its n,o.data=.seq its n) (hd:o.dict=none) (G:A.handled=none)
  (h:∀h' tk e,nQ s.heap h' e (.ref a) "keys" -> E (.ref e) { s with heap:=h',toks:=tk }):wpAny (model prog w) A (getAttrBy (.ref a) (.str "keys" u) false) Q E s:=by
 obtain⟨C,g,d,tk,os⟩:=s;have J:(⟨C,g,d,tk,os⟩:aq).TypeIs (.ref a) "tuple":=⟨o,l,hc⟩;have f2:=fE.lookup;have L:=fE.bind (.ref a);have f1:=pL;have R:=zpm
 repeat (any_goals (first|assumption|wp_step))
 refine zfe l hc x hd G fun h' v e hx=>?_;obtain⟨t',N,he⟩:=hx.there
 repeat (any_goals (first|assumption|wp_step))
 exact h _ _ _ hx
theorem zff{a:aj}{o:Obj}{Q:Option ag->aq->Prop}(v:s.heap.get? a=some o)(hc:o.cls=.type "tuple") (x:∃its n,o.data=.seq its n) (hd:o.dict=none) (C:A.handled=none)
  (h:∀h' tk,(∀b l,s.heap.get? b=some l->h'.get? b=some l)->Q none { s with heap:=h',toks:=tk }):wpAny (model prog w) A (getAttr? (.ref a) "keys") Q E s:=by
 unfold getAttr? getAttrBy?;obtain⟨G,g,d,tk,os⟩:=s;have f1:=pL
 repeat (any_goals (first|assumption|(with_reducible refine zgR v hc x hd C fun h' u e hx=>?_)|wp_step))
 obtain⟨t',I,he⟩:=hx.there
 repeat (any_goals (first|assumption|wp_step))
 exact h _ _ hx.keeps
end
section
variable{prog:aL}{w:aZ}{A:bg}{E:qV}
def PrT(prog:aL)(w:aZ)(h:a9)(x:ag)(z:List Key×aj×ag):Prop:=∃p:aj,x=.ref p/\pS h p #[.ref z.2.1,z.2.2]/\kD (Jy prog w) h z.1 z.2.1
theorem Vv{h:a9}{k:List Key}{a b:aj}{T:String}(r:kD (Jy prog w) h k a)(u:∃o,h.get? b=some o/\o.cls=.type T)(v:T ≠ "tuple"):a≠b:=by
 rintro rfl;obtain⟨o,_,_,e,c,_⟩:=r;obtain⟨x,l,c'⟩:=u;rw[e]at l;cases l;rw[c]at c';injection c' with c'
 exact v c'.symm
theorem VL{h h':a9}{k:List Key}{a:aj}(r:kD (Jy prog w) h k a)(kp:∀o,h.get? a=some o->h'.get? a=some o):kD (Jy prog w) h' k a:=by obtain⟨o,its,n,e,c⟩:=r;exact⟨o,its,n,kp o e,c⟩
theorem tup_ne{h:a9}{a b:aj}{xs:Array ag}{T:String}(r:pS h a xs)(u:∃o,h.get? b=some o/\o.cls=.type T)(v:T ≠ "tuple"):a≠b:=by
 rintro rfl;obtain⟨o,e,c,_⟩:=r;obtain⟨x,l,c'⟩:=u;rw[e]at l;cases l;rw[c]at c';injection c' with c'
 exact v c'.symm
theorem PrT.keep{h h':a9}{x:ag}{z:List Key×aj×ag}(d it:aj)(hd:∃o,h.get? d=some o/\o.cls=.type "dict") (hi:∃o,h.get? it=some o/\o.cls=.type "tuple_iterator") (r:PrT prog w h x z) (kp:KpH d it h h'):PrT prog w h' x z:=by obtain⟨p,e,l,tk⟩:=r;refine⟨p,e,?_,VL tk fun o=>kp _ o (Vv tk hd (by decide)) (Vv tk hi (by decide))⟩;have v:=tup_ne l hd (by decide);have u:=tup_ne l hi (by decide);obtain⟨o,g,c⟩:=l;exact⟨o,kp p o v u g,c⟩
theorem znw{h h':a9}{d it:aj}{xs:List (List Key×aj×ag)}(hd:h.DictOfH (tupleKind (Jy prog w)) d xs)(hi:∃o,h.get? it=some o/\o.cls=.type "tuple_iterator") (kp:∀b o,b≠it->h.get? b=some o->h'.get? b=some o) (u:d≠it):h'.DictOfH (tupleKind (Jy prog w)) d xs:=by obtain⟨o,es,ep,v,hc,hd,he,l,C⟩:=hd;exact⟨o,es,ep,kp d o u v,hc,hd,he,fun x hx=>VL (l x hx) fun o e=>kp _ o (Vv (l x hx) hi (by decide)) e,C⟩
theorem znx{h:a9}{d:aj}{xs:List (List Key×aj×ag)}(hd:h.DictOfH (tupleKind (Jy prog w)) d xs):∃o,h.get? d=some o/\o.cls=.type "dict":=by obtain⟨o,es,ep,l,hc,_⟩:=hd;exact⟨o,l,hc.1⟩
theorem zlL{A:bg}{xs:List ag}{kw:List (Str×ag)}:(A.under (.builtin "dict.update.loop" ⟨xs,kw⟩)).units=A.units+1:=by first|rfl|simp[Around.under,Code.cUnits,Code.frames,Code.isFrame]
theorem zhg{d it l:aj}{items:Array ag}{res:ag}(hA:A.handled=none)(hu:A.units+1<cLine)(J:d≠it)(nl:l≠d)(U:l≠it):∀(ps:List (List Key×aj×ag)) (i:Nat) (xs:List (List Key×aj×ag)) (s:aq) (t:Tok) {R:rQ->aq->Prop},
  s.heap.IsTuple l items->s.heap.IsTupleIter it l i->s.heap.DictOfH (tupleKind (Jy prog w)) d xs->xs.length+ps.length<=sizeLine->((xs++ps).map (·.1)).Nodup->bL (PrT prog w s.heap) (items.toList.drop i) ps ->
  (∀h' tk,KpH d it s.heap h'->h'.DictOfH (tupleKind (Jy prog w)) d (xs++ps)->R (.ok (.ret res)) { s with heap:=h',toks:=tk }) ->
  codeAny (model prog w) A (.builtin "dict.update.loop" ⟨[.ref d,.ref it,.int i t,res],[]⟩) R s
 | [],i,xs,s,t,R,hl,hi,hd,hz,hn,hp,h=>by
  have e:items[i]?=none:=by generalize hq:items.toList.drop i=q at hp;cases hp;have:=List.drop_eq_nil_iff.mp hq;exact ka (by simpa using this)
  refine cT zc5 ?_;show wpAny _ _ (pyNext (.ref it) >>= _) _ _ s;refine aa (nA hA hi hl e fun h' hx=>?_);show wpAny _ _ (mT d [] >>= fun _=>ret res) _ _ _;unfold mT;rw[gW];rw[cg]at h;obtain⟨oi,gi,ci,_⟩:=id hi;exact aa (ae (ae (h h' s.toks (fun b o _ n ho=>hx b o n ho) (znw hd ⟨oi,gi,ci⟩ (fun b o n e=>hx b o n e) J))))
 | (k,a,v)::ps,i,xs,s,t,R,hl,hi,hd,hz,hn,hp,h=>by
  generalize hq:items.toList.drop i=q at hp;cases hp with
  | cons r rs =>
   rename_i x xs';have S:∃o,s.heap.get? it=some o/\o.cls=.type "tuple_iterator":=by obtain⟨oi,gi,ci,_⟩:=id hi;exact⟨oi,gi,ci⟩
   obtain⟨p,rfl,tp,ki⟩:=r;have np:=tup_ne tp (znx hd) (by decide);have npi:=tup_ne tp S (by decide);obtain⟨o,ho,oc,n,od⟩:=id tp;have Y:i<items.toList.length:=by by_cases z:i<items.toList.length;exact z;rw[List.drop_of_length_le (by lia)]at hq;cases hq
   rw[bZ Y]at hq;obtain⟨e1,e2⟩:=iz hq;have e:items[i]?=some (.ref p):=by rw[<- e1,<- dh];exact au Y
   refine cT zc5 ?_;show wpAny _ _ (pyNext (.ref it) >>= _) _ _ s;refine aa (mW hi hl e fun h1 hi1 L=>?_);refine aa (bM ?_);have ho1:h1.get? p=some o:=(L.2 p npi).trans ho;have hT:(⟨h1,s.gens,s.drawn,s.toks,s.os⟩:aq).TypeIs (.ref p) "tuple":=⟨o,ho1,oc⟩;refine aa (wpAny_tryCatch ?_);unfold wB;refine aa (dG hT ?_);rw[if_pos (by rfl)];refine aa (dA ho1 od (ae ?_));show wpAny _ _ (holding [.ref a,v] (dictSet d (.ref a) v)) _ _ _;have kp1:KpH d it s.heap h1:=fun b G _ n C=>(L.2 b n).trans C;have hd1:=znw hd S (fun b G n C=>(L.2 b n).trans C) J;have ki1:kD (Jy prog w) h1 k a:=VL ki fun G C=>(L.2 a (Vv ki S (by decide))).trans C;rw[aH]at hz;have kn:k∉xs.map (·.1):=by rw[eF,eh]at hn;exact fun z=>hn.2.2 k z k (by simp) rfl
   have ak:atKey xs k=none:=by unfold atKey;rw[nH,gy];intro x hx z;exact kn (bc.mpr ⟨x,hx,by simpa using z⟩)
   refine bM (pM (s:=⟨h1,s.gens,s.drawn,s.toks,s.os⟩) (knd:=tupleKind (Jy prog w)) (by show Around.units _<cLine;rw[zlL];exact hu) ki1 hd1 (fun h2 hd2 Z=>?_) (by lia));have kp2:KpH d it h1 h2:=fun b G n _ C=>(Z.2 b n).trans C;refine ae ⟨fz _ (by decide +kernel),?_⟩;have kp:KpH d it s.heap h2:=fun b G n1 n2 C=>kp2 b G n1 n2 (kp1 b G n1 n2 C);rw[storedH_new ak]at hd2;refine zhg (items:=items) hA hu J nl U ps (i+1) (xs++[(k,a,v)]) _ 0 ?_ ?_ hd2 ?_ ?_ ?_ fun h' tk kp' hd'=>?_;obtain⟨ol,hol,r⟩:=hl;exact⟨ol,kp l ol nl U hol,r⟩;obtain⟨oi,hoi,r⟩:=hi1;exact⟨oi,(Z.2 it (dD J)).trans hoi,r⟩;rw[ba,km];lia;rw[eX];exact hn;rw[e2];exact Paired.mapP rs fun _ _ r=>r.keep d it (znx hd) S kp;rw[eX]at hd';exact h h' tk (fun b G n1 n2 C=>kp' b G n1 n2 (kp b G n1 n2 C)) hd'
theorem zg7{s:aq}{l:aj}{o:Obj}{its:Array ag}{n:Nat}{ps:List (List Key×aj×ag)}{Q:qV}(ho:s.heap.get? l=some o)(hc:o.cls=.type "tuple") (R:o.data=.seq its n) (hd:o.dict=none) (hA:A.handled=none) (hu:A.units+64<cLine)
  (hp:bL (PrT prog w s.heap) its.toList ps) (hz:ps.length<=sizeLine) (hn:(ps.map (·.1)).Nodup)
  (h:∀h' tk,(∀b v,s.heap.get? b=some v->h'.get? b=some v)->h'.DictOfH (tupleKind (Jy prog w)) s.heap.objs.size ps->Q (.ref s.heap.objs.size) { s with heap:=h',toks:=tk }) :
  wpAny (model prog w) A (call (.type "dict") [.ref l]) Q E s:=by
 refine callType_codes (Q₁:=fun obj C=>obj=.ref s.heap.objs.size/\C={ s with heap:=s.heap.push { cls:=.type "dict",data:=.dict #[] } }) F.kt_called_dict (F.kt_typeCall_dict_1 _) F.entry_dict_init (kt_code_dict_new _ ⟨rfl,rfl⟩) ?_;rintro obj C ⟨rfl,rfl⟩;have MI:(s.heap.push { cls:=.type "dict",data:=.dict #[] }).DictOfH (tupleKind (Jy prog w)) s.heap.objs.size []:=kE s.heap;have G:(s.heap.push { cls:=.type "dict",data:=.dict #[] }).get? l=some o:=ah _ ho;have L:=MI.typeIs (s:={ s with heap:=s.heap.push { cls:=.type "dict",data:=.dict #[] } });refine⟨L,F.args_dict_init_2 _ _,?_⟩;unfold cc.«dict.__init__»;refine aa ?_;unfold vi;refine aa (ku L ?_);show wpAny _ _ (pure (s.heap.objs.size,[aJ l])) _ _ _;refine ae ?_;show wpAny _ _ (ni "dict.__init__" s.heap.objs.size (.ref l) [] .none) _ _ _;unfold ni;refine aa (dG (T:="tuple") ⟨o,G,hc⟩ ?_);rw[if_pos (by rfl)];refine aa (zff G hc ⟨its,n,R⟩ hd hA fun h1 tk1 k1=>?_);rw[if_pos (show(none:Option ag).isNone=true from rfl)];refine aa (cK ?_);have I:=k1 l o G;have hl1:h1.IsTuple l its:=⟨o,I,hc,n,R⟩;refine aa (iH hl1 ?_);refine ae ⟨fz _ (by decide +kernel),?_⟩;obtain⟨od,es,ep,U,S⟩:=MI;have MJ:=k1 _ od U;have l1:=ax MJ;have l2:=ax ho;have l3:=ax I;have Y:∀b v,s.heap.get? b=some v->(h1.push { cls:=.type "tuple_iterator",data:=.fields #[.ref l,.int 0 0] }).get? b=some v:=fun b v J=>ah _ (k1 b v (ah _ J));refine zhg (A:=A.in1) (items:=its) (xs:=[]) (i:=0) (ps:=ps) (show A.in1.handled=none from hA) (show A.units+1+1<cLine by lia) (aD l1) (aD l2) (aD l3) _ 0 ?_ ?_ ?_ (by simpa using hz) (by simpa using hn) ?_ fun h' tk kp hd'=>?_;exact⟨o,ah _ I,hc,n,R⟩;exact⟨_,aw _ rfl,rfl,rfl⟩;exact⟨od,es,ep,ah _ MJ,S.1,S.2.1,S.2.2.1,by simp,by simp⟩;rw[t5];refine Paired.mapP hp fun x z ⟨p,e,tp,tk⟩=>⟨p,e,?_,VL tk fun v=>Y _ v⟩;obtain⟨v,Z,r⟩:=tp;exact⟨v,Y p v Z,r⟩;exact⟨rfl,h h' tk (fun b v J=>kp b v (aD (ax J)) (aD (gn (ax J) l1)) (Y b v J)) hd'⟩
end
section
variable{X:Cx}
theorem UK{pins:qO}{σ:St}{H:Hp}{s:aq}{b:aj}{k:List Key}(I:Inv X pins σ H s)(h:SqT X.K H b (k.map kV)):kD (Jy X.prog X.w) s.heap k b:=by obtain⟨its,r,⟨o,e,c,n,d⟩,_⟩:=I.tuple h;exact⟨o,its.toArray,n,e,c,d,by simpa using zig r⟩
end
end L2
namespace Bd
open PySem L2
theorem ziX{bs:qB}:Okd (.tuple (pD bs)):=by have h:=zp0 (bs:=bs);unfold Okd at *;simpa only[iY,lA] using h
theorem zrZ{d:af}(h:Okd d):gq d d=true:=xZ d h.1
end Bd
namespace L2
open PySem PySem.Spec PyProof PyProof.Rows PySem.W
section
variable{X:Cx}{e:aY}{x:Str}{pos:Pos}{d:DTE}
def zoL(K:qF):V->List V->Hp->VK->Prop:=fun x vs H Q=>∃l b xs zs,x=.ref l/\vs=[.ref b]/\H l=some (.lst xs)/\SqT K H b zs/\xs.length+zs.length<=sizeLine/\Q .non (upd H l (.lst (xs++zs)))
theorem zk0:MtM X "list.extend" (zoL X.K):=by
 intro pins s σ H x vs v us Q I rx Z h;obtain⟨l,b,xs,zs,rfl,rfl,L,R,hz,q⟩:=h;cases rx;obtain⟨u,rfl,Y⟩:=Z.one;cases Y;obtain⟨z,its,n,r,hl,e⟩:=I.lstM L;obtain⟨y,N,⟨o,J,hc,n2,hd⟩,z2⟩:=I.tuple R;have lr:=r.length;have S:=N.length;have hsz:its.toArray.size+y.toArray.size<=sizeLine:=by rw[aB,aB];lia
 have U:¬(!its.toArray.isEmpty&&fM (its.toArray.size+y.toArray.size))=true:=by rw[zj1 hsz,gV];exact aQ
 refine a7 pI ⟨_,e,rfl⟩ oU ?_ (om _ _);show wpAny _ _ (bX (.ref l) (.ref b) .none) _ _ s;unfold bX;refine aa (dG (T:="tuple") ⟨o,J,hc⟩ ?_);have h1:(eS (.ref l) (.ref b)||aV "tuple" == aV "list" ||aV "tuple" == aV "tuple")=true:=by simp
 simp only[h1,if_true];refine aa ?_;unfold gx;refine aa (dA J hd (ae ?_));refine aa ?_;refine aa (dA e rfl (ae ?_));rw[if_neg U];show wpAny _ _ (updateSeq l (·++y.toArray) >>= fun _=>ret .none) _ _ s;have G:its.toArray.size<=sizeLine:=by rw[aB];lia
 have C:(its.toArray++y.toArray).size<=sizeLine+1:=by rw[p9];lia
 refine aa (gH e rfl (hz:=G) (_hz':=C) ?_);refine ae ⟨_,rfl,?_⟩;refine⟨.non,_,I.lset (its':=its++y) L e (by simp) (r.append N) ?_,rfl,q⟩;rw[ba];lia
def VU(i:Nat)(d:DTE):DTS:=fun D l n=>match l[i]? with
 | some (some (.own ts))=>d l n fun t v=>lTup t fun u=>ts.length+u.length<=16777216/\D.nx (l.set i (some (.own (ts++u)))) v
 | _=>False
theorem zlm(i:Nat){p1 p2 p3:Pos}(h:DE X e d)(hN:X.N[i]?=some x:=by rfl)(hv:Vis X.env.scope x:=by walk_at "V")(hd:(x == ("__debug__":Str))=false:=by rfl)
  (R:(x == ("__classdict__":Str))=false:=by rfl) (hs:swapsWith (.Call (.Attribute (.Name x p1) "extend" p2) [e] [] p3) none pos.line X.env=pure false:=by rfl)
  (Lw:attributeBase (.Name x p1) "extend" X.env (eval (.Name x p1) X.env)=eval (.Name x p1) X.env:=by rfl)
  (Mh:((backTo p3 (starEach [e] X.env)).all (fun x=>!x.1)&&(backToKw p3 (keywordEach [] X.env)).all (fun x=>x.1.isSome)
   && decide ([e].length+([]:List iW).length+(if ([]:List iW).isEmpty then 0 else 1)<30))=true:=by rfl)
  (Lx:(p2.endLine == p3.line)=true:=by rfl) (G:starEach [e] X.env=[(false,eval e X.env)]:=by rfl):DS X (.Expr (.Call (.Attribute (.Name x p1) "extend" p2) [e] [] p3) pos) (VU i d):=by
 obtain⟨ta,pa,h⟩:=h;refine⟨_,ziT (zq_ iP mQ mS zk0 (Qb hN hv hd R) (QT pa QY G) Lw Mh Lx G rfl) hs,fun C ρ σ H n D D' S hd g=>?_⟩;unfold VU at hd;split at hd;rename_i ts J;obtain⟨p,vs,h1,h2,h3,h4⟩:=S.own i ts J;refine⟨.ref p,h1,.inl ⟨rfl,_,SqL.of h2⟩,?_⟩;refine h C ρ σ H n _ _ S hd fun t n' v H' r Y hn q=>?_;cases t with
 | tuple us =>have Z:=S.on Y hn;obtain⟨p',L,I,U,o,h4'⟩:=Z.own i ts J;rw[h1]at I;cases I;obtain⟨b,ws,rfl,hb,q⟩:=q.tupI;refine⟨p,b,L,ws,rfl,rfl,U,hb,by rw[o.length,q.length];exact r.1,?_⟩;obtain⟨S2,k2⟩:=Z.chg J h1 (o.append q);exact g.nx _ _ _ n' r.2 S2 (Y.keep.trans k2)
 | _=>exact r.elim
 exact hd.elim
instance zs3 {i:Nat}{ρ:En}{n:Nat}{D:JF}{xs:qD}[h:GetN ρ i (some (.own xs))]:Stp (VU i d D ρ n) (d ρ n fun t n'=>lTup t fun us=>xs.length+us.length<=16777216/\SetK i (some (.own (xs++us))) D.nx ρ n'):=⟨fun k=>by unfold VU;rw[h.e];exact k⟩
end
end L2
namespace Bd
open PySem L2
def Dq(K:qF)(mg:qM)(x:Str)(st:fc)(ps:List Str):Prop:=∃f fd,Def K mg x st ps f fd
def Fq(P:aL)(w:aZ)(K:qF)(mg:qM)(base:a9)(x:Str)(st:fc)(ps:List Str)(k:Nat)(l:Sp):Prop:=∃f fd,Def K mg x st ps f fd/\FnOk P w K mg base CX0 k f fd ps l
end Bd
namespace L2
open PySem PySem.Spec PyProof.Rows
section
variable{X:Cx}{x:Str}{st:fc}{ps:List Str}{k n m:Nat}{g:GD}{e:aY}{es:List aY}{ds:DTA}{p pos:Pos}
theorem Jd(F:Bd.Fq X.prog X.w X.K X.mg X.base x st ps k (spD X.K m g))(I:Room n X.A)(h:DB X (e::es) ds)(v:k<=n:=by decide)(y:(e::es).length=m:=by rfl)(u:Gl X x:=by rfl)
  (o:(x == ("__debug__":Str))=false:=by rfl):DE X (.Call (.Name x p) (e::es) [] pos) (dFn g ds):=by
 obtain⟨f,fd,D,G⟩:=F;exact zxF D G (I.mono v) h y u o
theorem zqk(F:Bd.Fq X.prog X.w X.K X.mg X.base x st ps k (spD X.K m g))(I:Room n X.A)(h:DBL X (e::es) ds)(v:k<=n:=by decide)(y:(e::es).length=m:=by rfl)(u:Gl X x:=by rfl)
  (o:(x == ("__debug__":Str))=false:=by rfl):DE X (.Call (.Name x p) (e::es) [] pos) (dFnL g ds):=by
 obtain⟨f,fd,D,G⟩:=F;exact zvb D G (I.mono v) h y u o
end
section
variable{X:Cx}{hx s kx x:Str}{st:fc}{ps:List Str}{k n:Nat}{p p1 p2 p3 pos pos':Pos}{sts:List fc}{u:DTS}
theorem znn{i j:Nat}(F:Bd.Fq X.prog X.w X.K X.mg X.base hx st ps k (VG X.K))(hr:Room n X.A)(hN:X.N.Nodup)(hi:X.N[i]?=some x)(Y:Loc X.env.scope x)(hu:DSs X sts u)(hk:k<=n:=by decide)(R:i≠0:=by decide)(v:j≠0:=by decide)(y:j≠i:=by decide)
  (h0:X.N[0]?=some s:=by rfl) (hj:X.N[j]?=some kx:=by rfl) (J:Vis X.env.scope s:=by walk_at "V") (U:Vis X.env.scope kx:=by walk_at "V")
  (L:(s == ("__debug__":Str))=false:=by rfl) (MA:(s == ("__classdict__":Str))=false:=by rfl) (I:(kx == ("__debug__":Str))=false:=by rfl) (MB:(kx == ("__classdict__":Str))=false:=by rfl) (hg:Gl X hx:=by rfl) (S:(hx == ("__debug__":Str))=false:=by rfl)
  (Z:swapsWith (.Call (.Name hx p) [.Name s p1,.Name kx p2] [] p3) (some (.Name x pos')) pos.line X.env=pure false:=by rfl) (hf:X.fn x=true\/X.env.scope.names.lookup x=some .local:=by walk_at "F") :
  DSs X (.Assign [.Name x pos'] (.Call (.Name hx p) [.Name s p1,.Name kx p2] [] p3) pos::sts) (Yi i j u):=by
 obtain⟨f,fd,D,G⟩:=F;exact zpt D G (hr.mono hk) hN hi Y hu R v y h0 hj J U L MA I MB hg S Z hf
end
end L2
namespace Bd
open PySem L2
section
variable{K:qF}{h:a9}{mg:qM}{x:Str}{st:fc}{ps:List Str}
abbrev BndA(x:Str)(st:fc)(ps:List Str):Prop:=∀(kV doc pm:ag) (an:Option aj) (cdv ct:ag) (us:List ag),us.length=ps.length->bindArgs (dX x x (Qz st) (J4 st) (JJ st) .none kV doc pm an cdv ct) ⟨us,[]⟩=pure (ps.zip us)
theorem lenS{l:List ag}{n:Nat}(h:l.length=n+1):∃a t,l=a::t/\t.length=n:=by
 cases l with
 | nil=>cases h
 | cons a t=>exact⟨a,t,rfl,wC h⟩
theorem len1{l:List ag}(h:l.length=1):∃a,l=[a]:=by obtain⟨a,t,rfl,e⟩:=lenS h;exact⟨a,by rw[List.eq_nil_of_length_eq_zero e]⟩
theorem len2{l:List ag}(h:l.length=2):∃a b,l=[a,b]:=by obtain⟨a,t,rfl,e⟩:=lenS h;obtain⟨b,rfl⟩:=len1 e;exact⟨a,b,rfl⟩
theorem len3{l:List ag}(h:l.length=3):∃a b c,l=[a,b,c]:=by obtain⟨a,t,rfl,e⟩:=lenS h;obtain⟨b,c,rfl⟩:=len2 e;exact⟨a,b,c,rfl⟩
theorem len4{l:List ag}(h:l.length=4):∃a b c d,l=[a,b,c,d]:=by obtain⟨a,t,rfl,e⟩:=lenS h;obtain⟨b,c,d,rfl⟩:=len3 e;exact⟨a,b,c,d,rfl⟩
end
end Bd
namespace L2
open PySem PySem.Spec PyProof PyProof.Rows
def JU(h:a9)(d:aj)(es:Array eD)(ep:Nat):Prop:=∃o,h.get? d=some o/\o.ExactDict/\o.data=.dict es ep
theorem JU.keep(r:JU h d es ep)(k:∀o,h.get? d=some o->h'.get? d=some o):JU h' d es ep:=by obtain⟨o,e,x⟩:=r;exact⟨o,k o e,x⟩
theorem JU.lt(r:JU h d es ep):d<h.objs.size:=by obtain⟨o,e,x⟩:=r;exact ax e
def itO(f0:ag)(f:Bool)(d:aj)(i n ep:Nat)(u v:ag):Obj:=⟨.type "dict_itemiterator",none,.fields #[f0,.bool f,.ref d,.int i 0,.int n 0,.int ep 0,u,v],#[]⟩
def Ug(h:a9)(it d:aj)(i n ep:Nat):Prop:=∃f0 f l u,h.get? it=some (itO f0 f d i n ep l u)/\(f0=.none\/∃a:Nat,f0=rawInt a)
theorem Ug.keep(r:Ug h it d i n ep)(k:∀o,h.get? it=some o->h'.get? it=some o):Ug h' it d i n ep:=by obtain⟨f0,f,l,u,e,x⟩:=r;exact⟨f0,f,l,u,k _ e,x⟩
section
variable{prog:aL}{w:aZ}{A:bg}{E:qV}{s:aq}
theorem zsn(h:∀x,Q x s):wpAny (model prog w) A (loadIfAlive a) Q E s:=fun _ _ _=>h _
theorem zuW(h0:f0=.none\/∃a:Nat,f0=rawInt a)(v:s.heap.get? it=some (itO f0 f d i n ep f6 f7))(y:Q true s)
  (hf:∀u,u.get? it=some (itO f0 true d i n ep f6 f7)->cH it s.heap u->Q false { s with heap:=u }):wpAny (model prog w) A (ft (.ref it)) Q E s:=by
 unfold ft;refine aa (bW v rfl (x:=f0) rfl ?_);rcases h0 with rfl|⟨a,rfl⟩;exact ae y;refine aa (zsn fun x=>?_);cases x with
 | none=>exact ae y
 | some o =>
  rw[if_neg (show ¬((some o).isNone=true) from aQ)];refine aa (bW v rfl (x:=.bool f) rfl ?_);cases f with
  | true =>rw[if_neg (show ¬((ky true != .bool true)=true) by decide)];exact ae (hf s.heap v (mF _ _))
  | false =>rw[if_pos (show(ky false != .bool true)=true by decide)];exact aa (bY v (by simp) fun u C s3=>ae (hf u C s3))
theorem zoI(hi:Ug s.heap it d i es.size ep)(hm:JU s.heap d es ep)(hx:es[i]?=some e)
  (hQ:∀h',Ug h' it d (i+1) es.size ep->h'.get? s.heap.objs.size=some ⟨.type "tuple",none,.seq #[e.key,e.val] 0,#[]⟩->h'.objs.size=s.heap.objs.size+1->(∀b o,b≠it->s.heap.get? b=some o->h'.get? b=some o)->Q (some (.ref s.heap.objs.size)) { s with heap:=h' }) :
  wpAny (model prog w) A (pyNext (.ref it)) Q E s:=by
 obtain⟨C,g,I,tk,os⟩:=s;obtain⟨f0,f,Y,S,hit,h0⟩:=hi;obtain⟨od,R,xod,U⟩:=hm;have ty:pd ⟨C,g,I,tk,os⟩ (.ref it) "dict_itemiterator":=⟨_,hit,rfl⟩;have il:it<C.objs.size:=ax hit;have lt:i<es.size:=(gY.mp hx).1;unfold pyNext;refine aa (eR ?_);refine bo (name:=aR "__next__") ty cq ?_;refine a7 cq ty h9 ?_ (hU _);refine aa (ae (aa (aa ?_)));refine aa (eN ty (ae (aa (kb hit rfl ?_))));have ow:dH "dict_itemiterator" = true:=by decide
 simp only[ow,if_true];show wpAny _ _ (if (aJ d == b8)=true then _ else _) _ _ _;have nd:¬((aJ d == b8)=true):=aQ;rw[if_neg nd];refine aa (ae (aa (eY R U ?_)));rw[if_neg (by simp)];refine aa (ae (aa (gJ R U ?_)));rw[if_neg (by simp)];refine ae ?_;simp only[show ¬((i:Int)<0) from by lia,if_false,bt,hx];refine aa (aa (eN ty (ae (aa (kc ty ?_)))));show wpAny _ _ (setField (.ref it) 3 (rawInt ((i:Int)+1)) >>= _) _ _ ⟨C,g,I,tk,os⟩;refine aa (bY hit (by simp) fun h1 e1 s1=>?_);have L:cH it C h1:=s1;have G:h1.get? it=some (itO f0 f d (i+1) es.size ep Y S):=by
  have:((i+1:Nat):Int)=(i:Int)+1:=by lia
  unfold itO;rw[this];simpa[rawInt] using e1
 have N:pd ⟨h1,g,I,tk,os⟩ (.ref it) "dict_itemiterator":=⟨_,G,rfl⟩;refine aa (bM (aa (kc N (aa (kc N ?_)))));show wpAny _ _ (kf (.ref it) 6 e.key e.val) _ _ ⟨h1,g,I,tk,os⟩;unfold kf;refine aa (oA ?_);have z1:h1.objs.size=C.objs.size:=L.1;obtain⟨v,u⟩:∃v,v=h1.push ⟨.type "tuple",none,.seq #[e.key,e.val] 0,#[]⟩:=⟨_,rfl⟩;have Z:v.get? it=some (itO f0 f d (i+1) es.size ep Y S):=by rw[u];exact ah _ G
 have t2:v.get? C.objs.size=some ⟨.type "tuple",none,.seq #[e.key,e.val] 0,#[]⟩:=by rw[u,<- z1];exact aw _ rfl
 have z2:v.objs.size=C.objs.size+1:=by rw[u,cM,z1]
 have k2:∀b o,b≠it->C.get? b=some o->v.get? b=some o:=fun b o nb J=>by rw[u];exact ah _ (L.extBut b o nb J)
 rw[z1];show wpAny _ _ (ft (.ref it) >>= _) _ _ ⟨h1.push ⟨.type "tuple",none,.seq #[e.key,e.val] 0,#[]⟩,g,I,tk,os⟩;rw[<- u];clear u e1 G s1 L N z1;clear h1;have kept:∀l:a9,l.objs.size=v.objs.size->(∀b o,b≠it->v.get? b=some o->l.get? b=some o)->Ug l it d (i+1) es.size ep->Q (some (.ref C.objs.size)) ⟨l,g,I,tk,os⟩:=fun l z3 k3 r3 =>
  hQ l r3 (k3 _ _ (dU il) t2) (z3.trans z2) fun b o nb J=>k3 b o nb (k2 b o nb J)
 have last:∀(l:a9) (f':Bool),l.objs.size=v.objs.size->(∀b o,b≠it->v.get? b=some o->l.get? b=some o)->l.get? it=some (itO f0 f' d (i+1) es.size ep Y S)->Q (some (.ref C.objs.size)) ⟨l,g,I,tk,os⟩:=fun l f' z3 k3 r3 =>
  kept l z3 k3 ⟨f0,f',Y,S,r3,h0⟩
 refine aa (zuW h0 Z ?_ fun l e3 s3=>?_);simp only[if_true];refine aa (bW Z rfl (x:=Y) rfl (aa (bW Z rfl (x:=S) rfl ?_)));refine aa (bY Z (by simp) fun l e3 s3=>aa (bY e3 (by simp) fun h4 e4 s4=>?_));refine aa (bY e4 (by simp) fun h5 e5 s5=>aa (bY e5 (by simp) fun h6 e6 s6=>?_));refine aa (mK (ae (ae ⟨_,rfl,ae (kept h6 ?_ ?_ ?_)⟩)));have a3:l.objs.size=v.objs.size:=s3.1;have a4:h4.objs.size=l.objs.size:=s4.1;have a5:h5.objs.size=h4.objs.size:=s5.1;have a6:h6.objs.size=h5.objs.size:=s6.1;lia;exact fun b o nb J=>s6.extBut b o nb (s5.extBut b o nb (s4.extBut b o nb (s3.extBut b o nb J)));exact⟨_,false,_,_,e6,.inr ⟨_,rfl⟩⟩;exact ae (ae ⟨_,rfl,ae (last l _ s3.1 (fun b o nb J=>s3.extBut b o nb J) e3)⟩)
end
section
variable{prog:aL}{w:aZ}{A:bg}{E:qV}{s:aq}
theorem zqL(J:A.handled=none)(hi:Ug s.heap it d i es.size ep)(L:JU s.heap d es ep)(hx:es[i]?=none)
  (G:∀h',(∀b o,b≠it->s.heap.get? b=some o->h'.get? b=some o)->Q none { s with heap:=h' }):wpAny (model prog w) A (pyNext (.ref it)) Q E s:=by
 obtain⟨f0,f,S,R,hit,h0⟩:=hi;obtain⟨U,l,N,v⟩:=L;have ty:s.TypeIs (.ref it) "dict_itemiterator":=⟨_,hit,rfl⟩;unfold pyNext;refine aa (eR ?_);refine bo (name:=aR "__next__") ty cq ?_;refine a7 cq ty h9 ?_ (hU _);refine aa (ae (aa (aa ?_)));refine aa (eN ty (ae (aa (kb hit rfl ?_))));have I:dH "dict_itemiterator" = true:=by decide
 simp only[I,if_true];show wpAny _ _ (if (aJ d == b8)=true then _ else _) _ _ _;have nd:¬((aJ d == b8)=true):=aQ;rw[if_neg nd];refine aa (ae (aa (eY l v ?_)));rw[if_neg (by simp)];refine aa (ae (aa (gJ l v ?_)));rw[if_neg (by simp)];refine ae ?_;simp only[show ¬((i:Int)<0) from by lia,if_false,bt,hx];refine aa (aa (eN ty (ae ?_)));show wpAny _ _ (setField (.ref it) 2 .none >>= _) _ _ s;refine aa (cP hit rfl (by simp) ?_);show wpAny _ _ (newExc (.type "StopIteration") [] >>= _) _ _ _;refine aa ?_;simp only[newExc,newTuple];refine aa (aX ?_ (by size_fits));refine aa (m:=firstArgMember _ _) (iO (a:=b8) (by first|rfl|(simp only[firstArgMember];rfl)) ?_);refine aX ?_ (by size_fits);simp only[raiseNew];refine aa (kK ?_);have C:A.in1.handled=none:=J;rw[C];refine aa (ae (mJ ?_));refine aa (fw (T:="StopIteration") (b:=true) ⟨_,aw _ rfl,rfl⟩ i5 (ae (G _ ?_)));exact(((cX ..).extBut.push _).push _)
theorem zoH(y:s.heap.IsItemsView v d)(C:JU s.heap d es ep)(N:Q (.ref s.heap.objs.size) { s with heap:=s.heap.push (itO .none false d 0 es.size ep .none .none) }) :
  wpAny (model prog w) A (pyIter (.ref v)) Q E s:=by
 obtain⟨R,I,U,J⟩:=id y;obtain⟨S,u,G,l⟩:=C;refine gS y.typeIs k9 ?_;refine a7 k9 y.typeIs PySem.F.entry_dict_items_iter ?_ (PySem.F.args_dict_items_iter_1 _);unfold cc.«dict_items.__iter__»;refine aa (ae (aa ?_));unfold uC;refine aa (bW I J (x:=.ref d) rfl (ae (aa ?_)));unfold se;refine aa (eY u l (aa (gJ u l ?_)));have L:dH "dict_itemiterator" = true:=by decide
 simp only[L,if_true];refine aX (ae ⟨_,rfl,"dict_itemiterator",_,⟨_,aw _ rfl,rfl⟩,cq.lookup,?_⟩) ?_;simpa[rawInt,iA,itO] using N;simp[sizeOk,iA,kO]
theorem zmj(G:(d == sysModules)=false)(C:JU s.heap d es ep)(h:P (.done (.ret (.ref s.heap.objs.size))) { s with heap:=s.heap.push ⟨.type "dict_items",none,.fields #[.ref d],#[]⟩ }) :
  wpAny (model prog w) A (cc.«dict.items» ⟨[.ref d],[]⟩) P E s:=by
 obtain⟨I,u,v,x⟩:=C;have ty:s.TypeIs (.ref d) "dict":=⟨I,u,v.1⟩;unfold cc.«dict.items»;refine aa ?_;unfold yA;refine aa (ku ty ?_);show wpAny _ _ (pure d) _ _ s;refine ae ?_;show wpAny _ _ (gM d >>= _) _ _ s;unfold gM;rw[G,if_neg (by decide)];exact aa (ae (aa (aX (ae h))))
structure RawG(es:Array eD)(lo:aj)(h:a9)(as:List aj):Prop where
 above:∀a∈as,lo<a
 pairs:∀(j:Nat) (a:aj),as[j]?=some a->∃e,es[j]?=some e/\h.get? a=some ⟨.type "tuple",none,.seq #[e.key,e.val] 0,#[]⟩
theorem zjT{S I d:aj}{es:Array eD}{ep:Nat}{R:rQ->aq->Prop}(hA:A.handled=none)(C:S<I)(nS:d≠S)(nI:d≠I)(hn:es.size<=sizeLine)(res:ag){h1:a9}
  (hR:∀h' tk acc c as,(∀b o,b≠S->b≠I->h1.get? b=some o->h'.get? b=some o)->h'.get? S=some ⟨.type "list",none,.seq acc c,#[]⟩->as.length=es.size->RawG es I h' as->acc.toList=as.map aJ->R (.ok (.ret res)) { s with heap:=h',toks:=tk }) :
  ∀(k i:Nat) (h:a9) (tk c:Nat) (acc:Array ag) (as:List aj),es.size - i=k->i<=es.size->Ug h I d i es.size ep->JU h d es ep->(∀b o,b≠S->b≠I->h1.get? b=some o->h.get? b=some o) ->
   h.get? S=some ⟨.type "list",none,.seq acc c,#[]⟩->acc.toList=as.map aJ->as.length=i->RawG es I h as->I<h.objs.size ->
   codeAny (model prog w) A (.builtin "list.extend.loop" ⟨[.ref S,.ref I,res],[]⟩) R { s with heap:=h,toks:=tk }
 | 0,i,h,tk,c,acc,as,hk,hi,it,D,kp,hS,ea,al,G,Is=>by refine cT mh ?_;rw[gZ cy _];show wpAny _ A.in1 (pyNext (.ref I) >>= _) _ _ _;refine aa (zqL (s:={ s with heap:=h,toks:=tk }) (A:=A.in1) hA it D (ka (by lia)) fun h' x=>ae ?_);refine hR h' tk acc c as (fun b o U N e=>x b o N (kp b o U N e)) (x S _ (aD C) hS) (by lia) ⟨G.above,fun j a v=>?_⟩ ea;obtain⟨e,Y,e2⟩:=G.pairs j a v;exact⟨e,Y,x a _ (dU (G.above a (aA v))) e2⟩
 | k+1,i,h,tk,c,acc,as,hk,hi,it,D,kp,hS,ea,al,G,Is=>by
  have lt:i<es.size:=by lia
  have sa:acc.size=i:=by rw[<- cW,ea,aG,al]
  have ne:=aD C;refine cT mh ?_;rw[gZ cy _];show wpAny _ A.in1 (pyNext (.ref I) >>= _) _ _ _;refine aa (zoI (s:={ s with heap:=h,toks:=tk }) it D (bw lt) fun h' it' t' z' J=>?_);dsimp only at t' z' J ⊢;have S':=J S _ ne hS;have lS:S<h.objs.size:=ax hS;obtain⟨u,Z⟩:∃u,u=h'.update S (dZ (·.push (aJ h.objs.size))):=⟨_,rfl⟩;have up:∀b o,b≠S->h'.get? b=some o->u.get? b=some o:=fun b o nb e=>by rw[Z];exact(bR _ _ (dD nb)).trans e
  obtain⟨c',Su⟩:∃c',u.get? S=some ⟨.type "list",none,.seq (acc.push (aJ h.objs.size)) c',#[]⟩:=⟨_,by rw[Z];exact br (dZ (·.push (aJ h.objs.size))) S' rfl⟩;show wpAny _ A.in1 (updateSeq S (·.push (aJ h.objs.size)) >>= _) _ _ _;refine aa (gH S' rfl (ae ⟨kM cy _,?_⟩) (by lia) (by rw[Array.size_push];lia));rw[<- Z];have tu:=up _ _ (dU lS) t';refine zjT hA C nS nI hn res hR k (i+1) u tk c' (acc.push (aJ h.objs.size)) (as++[h.objs.size]) (by lia) lt (it'.keep fun o e=>up I o (dD ne) e) (D.keep fun o e=>up d o nS (J d o nI e)) (fun b o U N e=>up b o U (J b o N (kp b o U N e))) Su ?_ (by simp[al]) ⟨?_,?_⟩ (gn Is (ax tu));rw[mL,ea,eF];rfl;intro a L;rcases aW.mp L with L|L;exact G.above a L;cases aC.mp L;exact Is;intro j b v;rcases bG j as.length with z|z;rw[bV z]at v;obtain⟨e,Y,e2⟩:=G.pairs j b v;have ab:=G.above b (aA v);exact⟨e,Y,up b _ (dU (gn C ab)) (J b _ (dU ab) e2)⟩;rw[cm z]at v;have:j - as.length=0:=by rcases iL (j - as.length) with y|y;exact y;rw[bO (by simp;lia)]at v;cases v
  rw[this]at v;cases v;have:j=i:=by lia
  subst this;exact⟨_,bw lt,tu⟩
end
section
variable{prog:aL}{w:aZ}{A:bg}{E:qV}{s:aq}
theorem zoJ(hA:A.handled=none)(G:s.heap.IsItemsView v d)(U:JU s.heap d es ep)(hn:es.size<=sizeLine)(nv:S≠v)(nd:d≠S)(Z:s.heap.get? S=some ⟨.type "list",none,.seq #[] 0,#[]⟩)
  (h:∀h' tk acc c as,(∀b o,b≠S->s.heap.get? b=some o->h'.get? b=some o)->h'.get? S=some ⟨.type "list",none,.seq acc c,#[]⟩->as.length=es.size->RawG es s.heap.objs.size h' as->acc.toList=as.map aJ->R (.ok (.ret (.ref S))) { s with heap:=h',toks:=tk }) :
  codeAny (model prog w) A (.builtin "list.__iadd__" ⟨[.ref S,.ref v],[]⟩) R s:=by
 have lS:S<s.heap.objs.size:=ax Z;have ld:=U.lt;obtain⟨Y,gv,cv,dv⟩:=id G;refine cT m6 ?_;show wpAny (model prog w) _ (bX (.ref S) (.ref v) (.ref S)) _ _ s;rw[gZ nj _];obtain⟨u,I⟩:∃u,u=s.heap.push (itO .none false d 0 es.size ep .none .none):=⟨_,rfl⟩;have ui:u.get? s.heap.objs.size=some (itO .none false d 0 es.size ep .none .none):=by rw[I];exact aw _ rfl
 have x:∀b o,s.heap.get? b=some o->u.get? b=some o:=fun b o e=>by rw[I];exact ah _ e
 have loop:∀(h:a9) (c tk:Nat),(∀b o,b≠S->u.get? b=some o->h.get? b=some o)->h.get? S=some ⟨.type "list",none,.seq #[] c,#[]⟩->codeAny (model prog w) A (.builtin "list.extend.loop" ⟨[.ref S,.ref s.heap.objs.size,.ref S],[]⟩) R { s with heap:=h,toks:=tk }:=fun h1 c tk J L=>by
  have I1:=J _ _ (dU lS) ui;exact zjT (es:=es) (ep:=ep) (s:=s) (h1:=s.heap) hA lS nd (aD ld) hn (.ref S) (fun h' C acc c as k' S' l' G' a'=>h h' C acc c as (fun b o nb e=>k' b o nb (aD (ax e)) e) S' l' G' a') es.size 0 h1 tk c #[] [] (lC _) (cO _)
   ⟨_,_,_,_,I1,.inl rfl⟩ (U.keep fun o e=>J d o nd (x d o e)) (fun b o n1 _ e=>J b o n1 (x b o e)) L rfl rfl ⟨(fun _ ha=>nomatch ha),(fun j a hj=>by simp at hj)⟩ (ax I1)
 unfold bX;refine aa (dG (T:="dict_items") G.typeIs ?_);have c1:eS (.ref S) (.ref v)=false:=by simp[eS,nv]
 have c2:(aV "dict_items" == aV "list" ||aV "dict_items" == aV "tuple")=false:=by decide
 rw[c1,pf,c2,if_neg (by decide)];refine aa (zoH G U ?_);rw[<- I];have N:=x S _ Z;refine aa (bM (PySem.W.kdx_hint ⟨Y,x v Y gv,cv⟩ ?_));refine gK (fun _=>aa (cK (aa ?_))) (fun _=>ae ⟨kM cy _,loop u 0 _ (fun b o _ e=>e) N⟩);show wpAny _ _ (updateSeq S (·.push .none) >>= fun _=>updateSeq S (·.pop)) _ _ _;refine aa (gH N rfl ?_);have S2:=br (dZ (·.push b8)) N rfl;refine gH (hz:=by seq_fits) S2 rfl ?_;have S3:=br (dZ (·.pop)) S2 rfl;refine ae ⟨kM cy _,loop _ _ _ (fun b o nb e=>?_) S3⟩;rw[bR _ _ (dD nb),bR _ _ (dD nb)];exact e
theorem ziQ(Z:A.handled=none)(L:s.heap.IsItemsView v d)(C:JU s.heap d es ep)(N:es.size<=sizeLine)
  (h:∀h' tk (as:List aj),(∀b o,s.heap.get? b=some o->h'.get? b=some o)->s.heap.objs.size<=h'.objs.size->as.length=es.size->RawG es s.heap.objs.size h' as->Q (as.map aJ) { s with heap:=h',toks:=tk }):wpAny (model prog w) A (collect (.ref v)) Q E s:=by
 unfold collect;refine aa (oB (cT kT ?_));show wpAny (model prog w) _ (newList [] >>= fun x=>again (.builtin "list.__iadd__" ⟨[x,.ref v],[]⟩)) _ _ s;have ld:=C.lt;obtain⟨J,I,U,Y⟩:=id L;have lv:=ax I;refine aa (kJ (ae ⟨fz _ (by decide +kernel),?_⟩));refine zoJ (es:=es) (ep:=ep) (d:=d) Z ⟨J,ah _ I,U,Y⟩ (C.keep fun o e=>ah _ e) N (dU lv) (aD ld) (aw _ rfl) fun h' tk acc c as kp y l G R=>?_;refine aa (m:=load s.heap.objs.size) (lL y ?_);show wpAny (model prog w) A (pure acc.toList) Q E _;rw[R];refine ae (h h' tk as (fun b o e=>kp b o (aD (ax e)) (ah _ e)) (fh (ax y)) l ⟨fun a S=>?_,G.pairs⟩);have:=G.above a S;dsimp only at this;rw[cM]at this;exact Nat.lt_of_succ_lt this
end
section
variable{prog:aL}{w:aZ}{A:bg}{E:qV}{s:aq}
def RlIn(h:a9)(u:ag)(r:(Int×Int)×Int):Prop:=∃(a p:aj) (o:Obj) (t:Tok) (n:Nat),u=.ref a/\h.get? a=some o/\o.cls=.type "tuple" /\ o.data=.seq #[.ref p,.int r.2 t] n/\PrIn h (.ref p) r.1.1 r.1.2
def rkL:List ag->a9->Int
 | [p,.int s _],h=>rkC h p*2+s
 | _,_=>0
def rkR(h:a9)(u:ag):Int:=match u with
 | .ref a=>match h.get? a with
  | some o=>match o.data with
   | .seq xs _=>rkL xs.toList h
   | _=>0
  | none=>0
 | _=>0
def rkn(r:(Int×Int)×Int):Int:=(r.1.1*1000+r.1.2)*2+r.2
theorem RlIn.rk{h:a9}{u:ag}{r:(Int×Int)×Int}(p:RlIn h u r):rkR h u=rkn r:=by obtain⟨a,q,o,t,n,rfl,l,_,x,v⟩:=p;simp only[rkR,l,x,rkL,v.rk,rkn]
theorem RlIn.kept{h h':a9}{u:ag}{r:(Int×Int)×Int}(p:RlIn h u r)(kp:∀b o,h.get? b=some o->h'.get? b=some o):RlIn h' u r:=by obtain⟨a,q,o,t,n,y,l,C,x,v⟩:=p;exact⟨a,q,o,t,n,y,kp _ _ l,C,x,v.kept kp⟩
theorem PrIn.tk{h:a9}{p:aj}{b k:Int}(x:PrIn h (.ref p) b k):kD (Jy prog w) h [.inl b,.inl k] p:=by obtain⟨a,o,t,t',n,y,u,C,v⟩:=x;cases y;exact⟨o,_,n,u,C,v,.cons (zfh b t) (.cons (zfh k t') .nil)⟩
theorem zr1{p q:aj}{b k o l:Int}(u:A.units<cLine)(x:PrIn s.heap (.ref p) b k)(y:PrIn s.heap (.ref q) o l):pF A s (.ref p) (.ref q) (decide (b=o/\k=l)):=fun prog w E Q h=>by
 refine wpAny_eqBool_tuple (knd:=Jy prog w) u x.tk y.tk ?_;have:decide (([kH b,kH k]:List Key)=[kH o,kH l])=decide (b=o/\k=l):=by rw[decide_eq_decide];constructor;intro z;cases z;exact⟨rfl,rfl⟩;rintro⟨rfl,rfl⟩;rfl
 rw[this];exact h
theorem zrt{p q:aj}{b k C v:Int}(R:A.units<cLine)(x:PrIn s.heap (.ref p) b k)(y:PrIn s.heap (.ref q) C v):LtAt prog w A s false (.ref p) (.ref q) (HT.lexLt [b,k] [C,v]):=fun E Q h=>by obtain⟨a,o,t,t',n,I,G,J,U⟩:=x;obtain⟨Z,N,u,u',Y,f0,f1,f2,S⟩:=y;cases I;cases f0;rw[oneLt'_eq];simp only[aI,if_false];refine aa (show wpAny (model prog w) A (compareOp .Lt (.ref p) (.ref q)) _ E s from HT.zf6 ⟨o,G,J,n,U⟩ ⟨N,f1,f2,Y,S⟩ (.cons _ _ (.cons _ _ .nil)) (.cons _ _ (.cons _ _ .nil)) R ?_);exact cZ h
theorem zlg{vs:List ag}{Q:kQ->aq->Prop}(h1:1<=vs.length)(hp:∀v∈vs,∃r,RlIn s.heap v r)(h:Q (tuples' false) s):wpAny (model prog w) A (keyKind' vs.toArray) Q E s:=by
 rw[keyKind'_eq,i4,map_eq_pure_bind];refine aa (aa (Z9 (P:=fun _ r=>∃(p:aj) (o:Obj),r=some (.ref p)/\s.heap.get? p=some o/\o.cls=.type "tuple") vs (fun v I Q' J=>?_) fun rs u=>ae ?_));obtain⟨r,a,p,o,t,n,rfl,G,Y,e3,a',o',t1,t2,n',e4,e5,e6,e7⟩:=hp v I;cases e4;rw[zkk];refine aa (dG (T:="tuple") ⟨o,G,Y⟩ ?_);rw[if_neg (by decide)];exact aa (g7 G e3 (ae (J _ ⟨p,o',rfl,e5,e6⟩)));have al:∀r∈rs,∃(p:aj) (o:Obj),r=some (.ref p)/\s.heap.get? p=some o/\o.cls=.type "tuple":=fun r L=>by obtain⟨_,_,h⟩:=Vk u L;exact h
 have ln:rs.length=vs.length:=(cE u).symm;have Z:(rs.toArray.all fun x=>x.isSome)=true:=by rw[kC,b5];intro x hx;obtain⟨p,o,rfl,_⟩:=al x hx;rfl
 rw[if_pos Z];refine aa (cK ?_);rw[sW];have N:rs.toArray.filterMap id=(rs.filterMap id).toArray:=by simp
 rw[N,i4,map_eq_pure_bind];refine aa (aa (aa (Z9 (P:=fun _ r=>r=aV "tuple") _ (fun v I Q' J=>?_) fun ts R=>ae ?_)));obtain⟨x,hx,e⟩:=f9.mp I;obtain⟨p,o,rfl,g,c⟩:=al x hx;cases e;exact dG (T:="tuple") ⟨o,g,c⟩ (J _ rfl);have C:∀r∈ts,r=aV "tuple":=fun r L=>by obtain⟨_,_,h⟩:=Vk R L;exact h
 cases ts with
 | nil=>exact ae (ae h)
 | cons S U =>
  have G:S=aV "tuple":=C S (.head _);subst G;have Mv:(((aV "tuple")::U).toArray.all fun x=>x == aV "tuple")=true:=by rw[kC,b5];intro x hx;rw[C x hx];rfl
  have h0:((aV "tuple")::U).toArray[0]?=some (aV "tuple"):=by simp
  rw[h0];simp only[Mv,if_true];refine ae (ae ?_);exact h
theorem zmZ{a b c d:Int}:HT.lexLt [a,b] [c,d]=decide (a<c\/(a=c/\b<d)):=by
 have e:HT.lexLt [a,b] [c,d]=if a=c then(if b=d then false else decide (b<d)) else decide (a<c):=rfl
 rw[e];split;rename_i h;subst h;split;symm;rw[decide_eq_false_iff_not];lia;rw[decide_eq_decide];lia;rw[decide_eq_decide];lia
theorem zfd{vs:List ag}{h0:a9}(N:A.units<cLine)(C:∀v∈vs,∃r,RlIn s.heap v r/\rkR h0 v=rkn r/\0<=r.1.2/\r.1.2<1000/\0<=r.2/\r.2<=1):Kinds prog w A s (rkR h0) vs:=fun h2=>by
 refine⟨tuples' false,fun E Q q=>zlg (by lia) (fun v Z=>?_) q,fun p q E Q mp mq h=>?_⟩;obtain⟨r,h,_⟩:=C v Z;exact⟨r,h⟩;have mem:∀z∈(pairsOf vs).toList,z.1∈vs:=fun z hz=>by
  have:z∈vs.zip vs:=by simpa[pairsOf] using hz
  exact(dF this).1
 obtain⟨⟨⟨b,k⟩,g⟩,⟨a,x,o,t,n,e0,U,e2,e3,R⟩,S,k0,k1,g0,g1⟩:=C _ (mem p mp);obtain⟨⟨⟨l,u⟩,g'⟩,⟨a',x',o',t',n',f0,f1,f2,f3,f4⟩,r2,G,I,y,J⟩:=C _ (mem q mq);rw[S,r2]at h;rw[e0,f0];refine zh6 U e3 f1 f3 (zr1 N R f4) (iJ g t g' t') (fun _=>zrt N R f4) (fun _=>zj8 g g' t t') ?_;have Y:HT.lexLt [b,k] [l,u]=decide (b<l\/(b=l/\k<u)):=zmZ;have n1:rkn ((b,k),g)=(b*1000+k)*2+g:=rfl;have n2:rkn ((l,u),g')=(l*1000+u)*2+g':=rfl;have:(if decide (b=l/\k=u)=true then(if (g == g')=true then false else decide (g<g')) else HT.lexLt [b,k] [l,u])=decide (rkn ((b,k),g)<rkn ((l,u),g')):=by rw[Y];simp only[beq_iff_eq,decide_eq_true_eq];dsimp only at k0 k1 G I g0 g1 y J;split;split;symm;rw[decide_eq_false_iff_not];lia;rw[decide_eq_decide];lia;rw[decide_eq_decide];lia
 rw[this];exact h
end
def Zi:ag->V
 | .none=>.non
 | .bool b=>.bl b
 | .int i _=>.int i
 | .str x _=>.str x
 | .bytes b _=>.byt b
 | .float b _=>.flt b
 | .ref a=>.ref a
 | .type n=>.ty n
 | _=>.non
theorem zjS{v:V}{u:ag}(h:RelV v u):Zi u=v:=by
 cases v with
 | non=>cases(show u=_ from h);rfl
 | bl b=>cases(show u=_ from h);rfl
 | int i=>obtain⟨t,rfl⟩:=(show ∃t,u=_ from h);rfl
 | str i=>obtain⟨t,rfl⟩:=(show ∃t,u=_ from h);rfl
 | byt i=>obtain⟨t,rfl⟩:=(show ∃t,u=_ from h);rfl
 | flt i=>obtain⟨t,rfl⟩:=(show ∃t,u=_ from h);rfl
 | ref a=>cases(show u=_ from h);rfl
 | ty n=>cases(show u=_ from h);rfl
section
variable{X:Cx}{pins:qO}{σ:St}{H:Hp}{s:aq}
def layT(h':a9)(n:Nat)(as:List aj)(H:Hp):Hp:=fun b=>if n<=b/\b∈as then(match h'.get? b with|some o=>(match o.data with|.seq its _=>some (.tup (its.toList.map Zi))|_=>none)|none=>none) else H b
theorem zkb{h':a9}{n:Nat}{as:List aj}{H:Hp}{b:aj}(h:b<n):layT h' n as H b=H b:=by unfold layT;rw[if_neg (fun z=>absurd z.1 (Al.mpr h))]
theorem Inv.lays{h':a9}{t':Nat}{as:List aj}{l:aj}{vs:List V}(I:Inv X pins σ H s)(k:∀b u,s.heap.get? b=some u->h'.get? b=some u)
  (new:∀a∈as,s.heap.objs.size<=a->∃(xs:List V) (its:List ag) (n:Nat),h'.get? a=some ⟨.type "tuple",none,.seq its.toArray n,#[]⟩/\Vals xs its/\xs.length<=sizeLine) (J:s.heap.objs.size<=l)
  (nl:vs.length<=sizeLine/\∃(its:List ag) (n:Nat),Vals vs its/\h'.get? l=some (seqObj "list" its.toArray n)) :
  Inv X pins σ (upd (layT h' s.heap.objs.size as H) l (.lst vs)) { s with heap:=h',toks:=t' }:=by
 have old:∀b,b<s.heap.objs.size->upd (layT h' s.heap.objs.size as H) l (.lst vs) b=H b:=fun b v=>by rw[Jh (aD (aM v J))];exact zkb v
 have keep:∀b o,H b=some o->upd (layT h' s.heap.objs.size as H) l (.lst vs) b=some o:=fun b o e=>by rw[old b ((I.hok b o e).lt)];exact e
 refine I.un ⟨fun b u q _ _ _=>k b u q,fun b u q _ _ _=>⟨u.slots,k b u q⟩,fun b u q n _=>by rw[old b (ax q)];exact n,fun b u q _=>⟨u,k b u q⟩,fun b xs q=>keep b _ q,fun b o u q=>keep b _ q,fun b ps q=>keep b _ q⟩ ?_;intro b o e;by_cases y:b=l;subst y;rw[JE]at e;cases e;obtain⟨z,its,n,r,g⟩:=nl;exact⟨z,its,n,r,g⟩;rw[Jh y]at e;by_cases z:s.heap.objs.size<=b/\b∈as;obtain⟨xs,its,n,g,r,l⟩:=new b z.2 z.1;have:layT h' s.heap.objs.size as H b=some (.tup (its.map Zi)):=by unfold layT;rw[if_pos z,g]
 rw[this]at e;cases e;have C:its.map Zi=xs:=by
  clear g l this;induction r with
  | nil=>rfl
  | cons h t G=>rw[aN,G,zjS h]
 rw[C];exact⟨l,its,r,_,g,rfl,⟨n,rfl⟩,rfl⟩;have x:H b=some o:=by
  have:layT h' s.heap.objs.size as H b=H b:=by unfold layT;rw[if_neg z]
  rw[<- this];exact e
 exact(I.hok b o x).stay (fun c u _ q=>k c u q) (fun c q=>keep c _ q) (fun c xs q=>keep c _ q) fun c L xs q=>keep c _ q
end
def VWO(v a:aj):HO:=.ext fun h=>h.get? v=some ⟨.type "dict_items",none,.fields #[.ref a],#[]⟩
def zR(z:(Int×Int)×aj×V):(Int×Int)×Int:=(z.1,match z.2.2 with|.int s=>s|_=>0)
def ZRl(K:qF)(H:Hp)(z:(Int×Int)×aj×V):Prop:=SqT K H z.2.1 [.int z.1.1,.int z.1.2]/\0<=z.1.2/\z.1.2<1000/\∃s,z.2.2=.int s/\0<=s/\s<=1
section
variable{X:Cx}
theorem ziw(hc:X.calm=true)(Y:X.A.units+64<cLine):JK X (.builtin "sorted") (fun xs H Q=>∃(v a:aj) (zs:ZT) (ep:Nat),xs=[.ref v]/\H v=some (VWO v a)/\H a=some (ZDO a zs ep)/\zs.length<64/\(∀z∈zs,ZRl X.K H z) /\
  ∀(J:List (((Int×Int)×aj×V)×aj)) (l:aj) (H':Hp),(J.map (·.1)).Perm zs->J.Pairwise (fun a b=>rkn (zR a.1)<=rkn (zR b.1))->Same H H'->H l=none->(∀x∈J,H x.2=none/\H' x.2=some (.tup [.ref x.1.2.1,x.1.2.2]))->H' l=some (.lst (J.map fun x=>.ref x.2))->Q (.ref l) H'):=by
 intro pins s σ H xs us Q I r h;obtain⟨v,a,zs,ep,rfl,hv,ha,hz,hr,q⟩:=h;obtain⟨u,rfl,ru⟩:=r.one;cases(show u=aJ v from ru);obtain⟨gv,_⟩:=I.hok v _ hv;obtain⟨⟨hs,lz,nd,o,es,g1,g2,g3,pr⟩,_⟩:=I.hok a _ ha;have el:es.size=zs.length:=by have:=cE pr;simpa using this.symm
 have cell:∀(h':a9) (as:List aj) (d:Nat),(∀b o,s.heap.get? b=some o->h'.get? b=some o)->as.length=es.size->RawG es d h' as->bL (fun(x:((Int×Int)×aj×V)×aj) (u:ag)=>u=.ref x.2/\ZRl X.K H x.1/\d<x.2/\RlIn h' u (zR x.1)/\∃w,h'.get? x.2=some ⟨.type "tuple",none,.seq #[.ref x.1.2.1,w] 0,#[]⟩/\RelV x.1.2.2 w) (zs.zip as) (as.map aJ):=fun h' as d kp l G=>by
  refine ze0 (by simp;lia) fun j x u hx Y=>?_;obtain⟨x1,x2⟩:=l8.mp hx;rw[aT,x2]at Y;cases Y;obtain⟨e,e1,e2⟩:=G.pairs j _ x2;have jl:j<zs.length:=(av.mp x1).1;have ez:entZ x.1 e:=by
   have key:∀{l:ZT} {m:List eD},bL entZ l m->∀(j:Nat) z e,l[j]?=some z->m[j]?=some e->entZ z e:=by
    intro l m p;induction p with
    | nil=>intro j z e h;simp at h
    | cons h t Z =>
     intro j z e h1 U;cases j with
     | zero=>cases h1;cases U;exact h
     | succ j=>exact Z j z e (by simpa using h1) (by simpa using U)
   exact key pr j _ _ x1 (by simpa using e1)
  have zr:=hr x.1 (aA x1);obtain⟨sq,k0,k1,sg,N,s0,s1⟩:=id zr;obtain⟨_,ek,ev⟩:=ez;rw[ek]at e2;refine⟨rfl,zr,G.above _ (aA x2),?_,e.val,e2,ev⟩;rw[N]at ev;obtain⟨t,et⟩:=ev;rw[et]at e2;refine⟨x.2,x.1.2.1,_,t,0,rfl,e2,rfl,?_,(zqv I sq).kept kp⟩;unfold zR;rw[N]
 refine zda (A:=X.A) (x:=.ref v) (rk:=rkR) (C:=fun h' tk vs=>∃as,vs=as.map aJ/\(∀b o,s.heap.get? b=some o->h'.get? b=some o)/\s.heap.objs.size<=h'.objs.size/\as.length=es.size/\RawG es s.heap.objs.size h' as) ?_ ?_ ?_ ?_;intro A' E' Q' hA hq;exact ziQ (es:=es) (ep:=ep) (hA.trans (I.ok.hd hc)) ⟨_,gv,rfl,rfl⟩ ⟨o,g1,g2,g3⟩ (by rw[el];exact lz) fun h' tk as kp sz l G=>hq h' tk s.drawn _ ⟨as,rfl,kp,sz,l,G⟩;rintro h' tk vs ⟨as,rfl,kp,sz,l,G⟩;exact US (by rw[aG,l,el];exact hz);rintro h' tk d vs A' ⟨as,rfl,kp,sz,l,G⟩ hA';refine zfd (by lia) fun u Y=>?_;obtain⟨x,_,_,⟨_,k0,k1,sg,N,s0,s1⟩,_,rl,_⟩:=Vk (cell h' as _ kp l G) Y;refine⟨zR x.1,rl.kept fun b o e=>ze9 e,rl.rk,k0,k1,?_⟩;unfold zR;rw[N];exact⟨s0,s1⟩;rintro h' tk d vs U y e ⟨as,rfl,kp,sz,l,G⟩ kp2 pm up he;obtain⟨J,p1,p2,p3⟩:=zgy (f:=fun x=>rkn (zR x.1)) (cell h' as _ kp l G) (fun x u hx=>hx.2.2.2.1.rk) pm up;have lw:(J.map (·.1)).Perm zs:=by have:=p1.map (·.1);rwa [rW (by lia)]at this
 have each:∀x∈J,ZRl X.K H x.1/\s.heap.objs.size<x.2/\∃w,h'.get? x.2=some ⟨.type "tuple",none,.seq #[.ref x.1.2.1,w] 0,#[]⟩/\RelV x.1.2.2 w:=fun x hx=>by obtain⟨u,_,_,h1,U,_,h3⟩:=zkQ p3 hx;exact⟨h1,U,h3⟩
 have ev:((arrOf y).map (·.2)).toList=J.map fun x=>aJ x.2:=by
  have:∀{l:List (((Int×Int)×aj×V)×aj)} {m:List ag},bL (fun(x:((Int×Int)×aj×V)×aj) (u:ag)=>u=.ref x.2/\ZRl X.K H x.1/\s.heap.objs.size<x.2/\RlIn h' u (zR x.1)/\∃w,h'.get? x.2=some ⟨.type "tuple",none,.seq #[.ref x.1.2.1,w] 0,#[]⟩/\RelV x.1.2.2 w) l m->m=l.map fun x=>aJ x.2:=by
   intro l m p;induction p with
   | nil=>rfl
   | cons h t Z=>rw[aN,<- Z,h.1]
  exact this p3
 have lh:∀x∈J,x.2<h'.objs.size:=fun x hx=>by obtain⟨_,_,w,g,_⟩:=each x hx;exact ax g
 have two:∀a b:V,[a,b].length<=sizeLine:=fun _ _=>by show 2<=sizeLine;decide
 have I1:=I.lays (t':=tk) (h':=U) (as:=J.map (·.2)) (l:=h'.objs.size) (vs:=J.map fun x=>V.ref x.2) (fun b o S=>kp2 b o (kp b o S)) (fun b S _=>by
  obtain⟨x,hx,rfl⟩:=bc.mp S;obtain⟨_,_,w,g,R⟩:=each x hx;exact⟨[.ref x.1.2.1,x.1.2.2],[.ref x.1.2.1,w],0,kp2 _ _ g,.cons rfl (.cons R .nil),two _ _⟩) sz ⟨by
   have a1:=lw.length_eq;have a2:64<=sizeLine:=by decide
   rw[aG]at a1 ⊢;lia,J.map (fun x=>aJ x.2),e,by
    clear ev he p3 p2 p1 lw each lh;induction J with
    | nil=>exact .nil
    | cons x J Z=>exact .cons rfl Z,by rw[he,<- ev]⟩
 refine⟨.ref h'.objs.size,_,I1.drw d,rfl,q J _ _ lw p2 (fun b o S=>?_) (I.hok.fresh sz) (fun x hx=>⟨I.hok.fresh (fh (each x hx).2.1),?_⟩) JE⟩;have lt:=(I.hok b o S).lt;rw[Jh (aD (aM lt sz)),zkb lt];exact S;obtain⟨_,h1,w,g,R⟩:=each x hx;rw[Jh (aD (lh x hx))];unfold layT;rw[if_pos ⟨fh h1,cY hx⟩,kp2 _ _ g];show some (HO.tup [.ref x.1.2.1,Zi w])=_;rw[zjS R]
end
def zput(zs:ZT)(k:Int×Int)(b:aj)(v:V):ZT:=if (zs.any fun z=>decide (z.1=k))=true then zs.map (fun z=>if z.1=k then(z.1,z.2.1,v) else z) else zs++[(k,b,v)]
def putT(ks:KT2)(k:Int×Int)(t:af):KT2:=if (ks.any fun z=>decide (z.1=k))=true then ks.map (fun z=>if z.1=k then(z.1,t) else z) else ks++[(k,t)]
def valT(ks:KT2)(k:Int×Int):Option af:=(ks.find? fun z=>decide (z.1=k)).map (·.2)
def kL(k:Int×Int):List Key:=[.inl k.1,.inl k.2]
theorem ZG{k l:Int×Int}:kL k=kL l↔k=l:=by constructor;intro h;unfold kL at h;injection h with h1 h2;injection h2 with h2 _;injection h1 with h1;injection h2 with h2;exact dz h1 h2;rintro rfl;rfl
def ZX(z:(Int×Int)×aj×V)(x:List Key×aj×ag):Prop:=x.1=kL z.1/\x.2.1=z.2.1/\RelV z.2.2 x.2.2
theorem zlA{zs:ZT}{xs:List (List Key×aj×ag)}(r:bL ZX zs xs)(k:Int×Int):(atKey xs (kL k)).isSome=zs.any fun z=>decide (z.1=k):=by
 induction r with
 | nil=>rfl
 | @cons z x zs xs h t ih =>
  by_cases e:z.1=k;have:x.1=kL k:=by rw[h.1,e]
  simp[atKey,cD,this,e];have:¬x.1=kL k:=fun l=>e (ZG.mp (h.1.symm.trans l));have u:atKey (x::xs) (kL k)=atKey xs (kL k):=by simp[atKey,cD,this]
  rw[u,ih,vk,decide_eq_false e,pf]
theorem zpL{zs:ZT}{xs:List (List Key×aj×ag)}(r:bL ZX zs xs)(k:Int×Int){b:aj}{v:V}{u:ag}(y:RelV v u):bL ZX (zput zs k b v) (storedH xs (kL k) b u):=by
 unfold zput storedH;rw[zlA r k];by_cases e:(zs.any fun z=>decide (z.1=k))=true;rw[if_pos e,if_pos e];clear e;induction r with
 | nil=>exact .nil
 | @cons z x zs xs h t ih =>refine .cons ?_ ih;unfold putAt;dsimp only;by_cases e:z.1=k;rw[if_pos e,if_pos (by rw[h.1,e])];exact⟨h.1,h.2.1,y⟩;rw[if_neg e,if_neg (fun C=>e (ZG.mp (h.1.symm.trans C)))];exact h
 rw[if_neg e,if_neg e];exact Paired.snoc r ⟨rfl,rfl,y⟩
theorem ziK{zs:ZT}{xs:List (List Key×aj×ag)}(r:bL ZX zs xs):xs.map (·.1)=(zs.map (·.1)).map kL:=by
 induction r with
 | nil=>rfl
 | cons h t l=>rw[aN,aN,aN,l,h.1]
theorem zj3{l:qB}:(l.map kL).Nodup↔l.Nodup:=by
 induction l with
 | nil=>simp
 | cons a l v =>
  rw[aN,cj,cj,v];have:kL a∈l.map kL↔a∈l:=by constructor;intro h;obtain⟨b,x,e⟩:=bc.mp h;rwa [<- ZG.mp e];exact cY
  rw[this]
theorem zjD(zs:ZT)(k:Int×Int)(b:aj)(v:V):(zput zs k b v).length<=zs.length+1:=by unfold zput;split;rw[aG];exact kS _;simp
section
variable{P:aL}{w:aZ}
theorem zxE{z:(Int×Int)×aj×V}{x:List Key×aj×ag}(h:ZX z x):entZ z (entryOfKey (tupleKind (Jy P w)) x):=by obtain⟨h1,o,l⟩:=h;refine⟨?_,?_,l⟩;show tupleKeyHash (Jy P w) x.1=_;rw[h1];rfl;show aJ x.2.1=_;rw[o]
theorem zom{zs:ZT}{es:List eD}(r:bL entZ zs es):∃xs:List (List Key×aj×ag),bL ZX zs xs/\es=xs.map (entryOfKey (tupleKind (Jy P w))):=by
 induction r with
 | nil=>exact⟨[],.nil,rfl⟩
 | @cons z e zs es h t ih =>obtain⟨xs,x1,v⟩:=ih;obtain⟨h1,u,x⟩:=h;refine⟨(kL z.1,z.2.1,e.val)::xs,.cons ⟨rfl,rfl,x⟩ x1,?_⟩;rw[aN,<- v];congr 1;cases e;dsimp only at h1 u;rw[h1,u];rfl
theorem zu4{zs:ZT}{xs:List (List Key×aj×ag)}(r:bL ZX zs xs):bL entZ zs (xs.map (entryOfKey (tupleKind (Jy P w)))):=by
 induction r with
 | nil=>exact .nil
 | cons h t u=>exact .cons (zxE h) u
end
section
variable{X:Cx}{pins:qO}{σ:St}{H:Hp}{s:aq}{a:aj}{zs:ZT}{ep:Nat}{A:bg}{E:qV}
theorem ZC(I:Inv X pins σ H s)(h:H a=some (ZDO a zs ep))(y:∀z∈zs,SqT X.K H z.2.1 [.int z.1.1,.int z.1.2]):(a == sysModules)=false/\zs.length<=sizeLine/\∃xs,bL ZX zs xs/\s.heap.DictOfH (tupleKind (Jy X.prog X.w)) a xs:=by obtain⟨⟨u,C,nd,o,es,g1,g2,g3,pr⟩,_⟩:=I.hok a _ h;obtain⟨xs,x1,G⟩:=zom (P:=X.prog) (w:=X.w) pr;refine⟨u,C,xs,x1,o,es,ep,g1,g2,g3,G,fun x hx=>?_,?_⟩;obtain⟨z,hz,l,v,_⟩:=Vk x1 hx;have:=UK (k:=kL z.1) I (y z hz);rw[l,v];exact this;rw[ziK x1];exact zj3.mpr nd
theorem YG{H':Hp}{h':a9}{xs:List (List Key×aj×ag)}(u:(a == sysModules)=false)(v:zs.length<=sizeLine)(r:bL ZX zs xs)(y:h'.DictOfH (tupleKind (Jy X.prog X.w)) a xs):∃ep,JC X.prog X.w H' h' a (ZDO a zs ep):=by obtain⟨o,es,ep,g1,g2,g3,C,_,l⟩:=y;refine⟨ep,⟨u,v,?_,o,es,g1,g2,g3,?_⟩,⟨o,g1⟩,?_⟩;rw[ziK r]at l;exact zj3.mp l;rw[C];exact zu4 r;rintro h1 J ⟨x1,x,x3,o,es,I,G⟩ k;exact⟨x1,x,x3,o,es,k o I,G⟩
theorem zlF{k:Int×Int}{b:aj}{v:V}{r:ag}{Q:Unit->aq->Prop}(U:A.units+1<cLine)(I:Inv X pins σ H s)(h:H a=some (ZDO a zs ep))(R:∀z∈zs,SqT X.K H z.2.1 [.int z.1.1,.int z.1.2])(G:SqT X.K H b [.int k.1,.int k.2])(hl:zs.length<sizeLine)(Z:RelV v r)
  (N:∀s' o,Inv X pins σ (upd H a (ZDO a (zput zs k b v) o)) s'->Q () s'):wpAny (model X.prog X.w) A (setItem (.ref a) (.ref b) r) Q E s:=by
 obtain⟨L,S,xs,x1,Y⟩:=ZC I h R;have J:xs.length<=sizeLine:=by rw[<- cE x1];exact S
 refine wpAny_setItem_heap (hsz:=J) (iM U) (UK (k:=kL k) I G) Y fun h' u x=>?_;have he:∃q,h'.get? a=some q:=let ⟨q,_,_,e,_⟩:=u;⟨q,e⟩;have y:(zput zs k b v).length<=sizeLine:=by have:=zjD zs k b v;lia
 have ok:∀H':Hp,∃o,JC X.prog X.w H' h' a (ZDO a (zput zs k b v) o):=fun H'=>YG L y (zpL x1 k Z) u;obtain⟨o,C⟩:=ok H;exact N _ o (zjs I (by rw[h];exact iI) x he C)
end
section
variable{K:qF}{hd:Option aj}{O:aj->Prop}{H:Hp}{zs:ZT}{ks:KT2}
theorem Jl.sq(r:Jl K hd O H zs ks):∀z∈zs,SqT K H z.2.1 [.int z.1.1,.int z.1.2]:=by
 intro z hz;induction zs generalizing ks with
 | nil=>cases hz
 | cons y zs v =>
  cases r with
  | cons h1 x r =>
   rcases ay.mp hz with rfl|hz;obtain⟨a,vs,e,sq,l⟩:=h1.tupI;cases e;cases l with
   | cons x1 u =>
    cases u with
    | cons x3 o =>cases o;rw[x1.intI,x3.intI]at sq;exact sq
   exact v r hz
theorem Jl.length(r:Jl K hd O H zs ks):zs.length=ks.length:=by
 induction zs generalizing ks with
 | nil=>cases r;rfl
 | cons y zs l =>
  cases r with
  | cons h1 o r=>rw[aH,aH,l r]
theorem Jl.keys(r:Jl K hd O H zs ks):zs.map (·.1)=ks.map (·.1):=by
 induction zs generalizing ks with
 | nil=>cases r;rfl
 | cons y zs l =>
  cases r with
  | cons h1 o r=>rw[aN,aN,l r]
theorem Jl.snoc{k:Int×Int}{q:aj}{v:V}{d:af}(h:Rep K hd O H (.ref q) (.tuple [.int k.1,.int k.2]))(x:Rep K hd O H v d){zs:ZT}{ks:KT2}(r:Jl K hd O H zs ks):Jl K hd O H (zs++[(k,q,v)]) (ks++[(k,d)]) :=
 r.ind (P:=fun zs ks=>Jl K hd O H (zs++[(k,q,v)]) (ks++[(k,d)])) (.cons h x .nil) fun a b _ r=>.cons a b r
theorem Jl.put(r:Jl K hd O H zs ks)(k:Int×Int){b:aj}{v:V}{t:af}(J:Rep K hd O H (.ref b) (.tuple [.int k.1,.int k.2]))(x:Rep K hd O H v t):Jl K hd O H (zput zs k b v) (putT ks k t):=by
 have C:(zs.any fun z=>decide (z.1=k))=ks.any fun z=>decide (z.1=k):=by
  have I:(zs.any fun z=>decide (z.1=k))=(zs.map (·.1)).any fun z=>decide (z=k):=by rw[lG];rfl
  have L:(ks.any fun z=>decide (z.1=k))=(ks.map (·.1)).any fun z=>decide (z=k):=by rw[lG];rfl
  rw[I,L,r.keys]
 unfold zput putT;rw[C];split;clear C;rename_i e;clear e;induction zs generalizing ks with
 | nil=>cases r;exact .nil
 | cons y zs G =>
  cases r with
  | @cons k' q v' d zs ks h1 h2 r =>rw[aN,aN];dsimp only;by_cases e:k'=k;rw[if_pos e,if_pos e];exact .cons h1 x (G r);rw[if_neg e,if_neg e];exact .cons h1 h2 (G r)
 exact Jl.snoc J x r
end
section
variable{X:Cx}{e e1 e2:aY}{x:Str}{pos:Pos}{d d1 d2:DTE}
def zv9:TE:=fun _ H Q=>∀p,H p=none->∀ep,Q (.ref p) (upd H p (ZDO p [] ep))
theorem zq4:PE X (.Dict [] [] pos) zv9:=fun pins s σ H Q I h=>by have u:(s.heap.objs.size == sysModules)=false:=beq_eq_false_iff_ne.mpr (dD (aD I.big));obtain⟨ep,ok⟩:=YG (X:=X) (H':=H) (zs:=[]) u (cO _) .nil (kE s.heap);exact wpAny_Dict_empty ⟨.ref s.heap.objs.size,_,I.laid (a:=s.heap.objs.size) (o:=ZDO s.heap.objs.size [] ep) (t':=s.toks) (fun _ _ q=>ah _ q) (ar _) ok,rfl,h _ (I.hok.fresh (ar _)) ep⟩
def zs4(i:Nat):DTS:=fun D l n=>D.nx (l.set i (some (.dtt []))) n
theorem zno{i:Nat}{u dp:Pos}(I:X.N.Nodup)(hi:X.N[i]?=some x)(hx:Loc X.env.scope x)(y:swapsWith (.Dict [] [] dp) (some (.Name x u)) pos.line X.env=pure false:=by rfl)(hf:X.fn x=true\/X.env.scope.names.lookup x=some .local:=by walk_at "F") :
  DS X (.Assign [.Name x u] (.Dict [] [] dp) pos) (zs4 i):=by
 refine⟨_,Qx I hi hx zq4 y hf,fun C J σ H n D L S hd g=>?_⟩;intro p v ep;have e1:ExtE C.hd H (upd H p (ZDO p [] ep)):=ExtE.new v;have G:Hn X.K C.hd (upd H p (ZDO p [] ep)) n:=S.hnd.same (JM v);exact g.nx _ _ _ n hd (S.putNew e1 G v ⟨[],ep,JE,.nil⟩) (zdc e1 v)
def zwL(K:qF)(C ty G:TE):TS:=fun D σ H=>G σ H fun v u=>C σ u fun x I=>ty σ I fun y l=>∃a zs ep k b,x=.ref a/\y=.ref b/\l a=some (ZDO a zs ep)/\(∀z∈zs,SqT K l z.2.1 [.int z.1.1,.int z.1.2])/\SqT K l b [.int k.1,.int k.2]/\zs.length<sizeLine/\∀o,D.nx σ (upd l a (ZDO a (zput zs k b v) o))
theorem zqU{o i value:aY}{G ty J:TE}{l:Pos}(hu:X.A.units+1<cLine)(U:PE X o G)(hi:PE X i ty)(Z:PE X value J)(Y:swapsWith value (some (.Subscript o i l)) pos.line X.env=pure false) :
  PS X (.Assign [.Subscript o i l] value pos) (zwL X.K G ty J):=by
 intro pins s σ H D I h;refine wpAny_Assign_Subscript (thn (Z pins s σ H _ I h) fun r s1 ⟨v,H1,I1,rv,L⟩=>thn (U pins s1 σ H1 _ I1 L) fun u s2 ⟨x,H2,I2,rx,q2⟩=>thn (hi pins s2 σ H2 _ I2 q2) fun iv s3 ⟨y,H3,I3,ry,a,zs,ep,k,b,ex,R,g,hk,N,hl,q3⟩=>?_) Y;subst ex R;cases(show u=aJ a from rx);cases(show iv=aJ b from ry);exact zlF hu I3 g hk N hl rv fun s4 C I4=>⟨σ,_,I4,q3 C⟩
def lBlk(y:af)(R:Int×Int->Prop):Prop:=∃k:Int×Int,y=.tuple [.int k.1,.int k.2]/\R k
def Vx(i:Nat)(u C:DTE):DTS:=fun D l n=>C l n fun t v=>match l[i]? with
 | some (some (.dtt ks))=>u l v fun y o=>lBlk y fun k=>ks.length<16777216/\D.nx (l.set i (some (.dtt (putT ks k t)))) o
 | _=>False
theorem zjo(i:Nat){p1 l:Pos}(hr:X.A.units+1<cLine)(h1:DE X e1 d1)(J:DE X e2 d2)(hN:X.N[i]?=some x:=by rfl)(hv:Vis X.env.scope x:=by walk_at "V")(hd:(x == ("__debug__":Str))=false:=by rfl)
  (U:(x == ("__classdict__":Str))=false:=by rfl) (hs:swapsWith e2 (some (.Subscript (.Name x p1) e1 l)) pos.line X.env=pure false:=by rfl) :
  DS X (.Assign [.Subscript (.Name x p1) e1 l] e2 pos) (Vx i d1 d2):=by
 obtain⟨t1,L,h1⟩:=h1;obtain⟨t2,R,J⟩:=J;refine⟨_,zqU hr (Qb hN hv hd U) L R hs,fun C ρ σ H n D D' S hd g=>?_⟩;refine J C ρ σ H n _ _ S hd fun t n1 v H1 r e1 hn1 q=>?_;have S1:=S.on e1 hn1;split at r;rename_i ks G;obtain⟨p,zs,ep,s1,s2,s3,s4⟩:=S1.dtt i ks G;refine⟨.ref p,s1,?_⟩;refine h1 C ρ σ H1 n1 _ _ S1 r fun y n2 w H2 Z e2 I q2=>?_;have S2:=S1.on e2 I;obtain⟨p',zs',Y,u1,u2,u3,u4⟩:=S2.dtt i ks G;rw[s1]at u1;cases u1;obtain⟨k,rfl,hl,Z⟩:=Z;obtain⟨b,rfl,sb⟩:=q2.bkI;have q':=e2.rep S.hx q;refine⟨p,zs',Y,k,b,rfl,rfl,u2,u3.sq,sb,by rw[u3.length];exact hl,fun e3=>?_⟩;obtain⟨S3,k3⟩:=S2.chgC (c':=.dtt (putT ks k t)) rfl rfl G s1 fun O' H' a b hp=>⟨_,_,hp,(u3.put k q2 q').mono a b⟩;exact g.nx _ _ _ n2 Z S3 ((e1.keep.trans e2.keep).trans k3);exact r.elim
end
section
variable{D:JF}{ρ ρ':En}{n i j:Nat}{d dk dv:DTE}{R:qN}{ks:KT2}
instance zxI:Stp (zs4 i D ρ n) (SetK i (some (.dtt [])) D.nx ρ n):=⟨fun h=>h⟩
instance zxH [h:GetN ρ i (some (.dtt ks))]:Stp (Vx i dk dv D ρ n) (dv ρ n fun t n1=>dk ρ n1 fun y n2=>lBlk y fun k=>ks.length<16777216/\SetK i (some (.dtt (putT ks k t))) D.nx ρ n2):=⟨fun k=>by unfold Vx;rw[h.e];exact k⟩
instance zx6 {a b:Int}{Q:Int×Int->Prop}:Stp (lBlk (.tuple [.int a,.int b]) Q) (Q (a,b)):=⟨fun h=>⟨(a,b),rfl,h⟩⟩
end
def rD(rs:List ((Int×Int)×Int)):List af:=rs.map fun r=>.tuple [.tuple [.int r.1.1,.int r.1.2],.int r.2]
def RlOk(r:(Int×Int)×Int):Prop:=0<=r.1.2/\r.1.2<1000/\0<=r.2/\r.2<=1
section
variable{X:Cx}{e:aY}{x:Str}{d:DTE}{pos p p1 p2 p3:Pos}{k:Nat}
def zsH(i:Nat):TE:=fun σ H Q=>∃a zs ep,σ[i]?=some (some (.ref a))/\H a=some (ZDO a zs ep)/\∀v,H v=none->Q (.ref v) (upd H v (VWO v a))
theorem zsA{H':Hp}{h:a9}{v a:aj}(g:h.get? v=some ⟨.type "dict_items",none,.fields #[.ref a],#[]⟩):JC X.prog X.w H' h v (VWO v a):=⟨g,⟨_,g⟩,fun h1 o g1 k=>k _ g1⟩
theorem zoT{i:Nat}(Y:X.N[i]?=some x)(S:Vis X.env.scope x)(hd:(x == ("__debug__":Str))=false:=by rfl) (G:(x == ("__classdict__":Str))=false:=by rfl)
  (Z:attributeBase (.Name x p1) "items" X.env (eval (.Name x p1) X.env)=eval (.Name x p1) X.env:=by rfl) (Lx:(p2.endLine == p3.line)=true:=by rfl):PE X (.Call (.Attribute (.Name x p1) "items" p2) [] [] p3) (zsH i):=by
 intro pins s σ H Q I h;obtain⟨a,zs,ep,L,U,q⟩:=h;refine mZ Z Lx (thn (Qb Y S hd G pins s σ H (fun v H'=>v=.ref a/\H'=H) I ⟨.ref a,L,rfl,rfl⟩) fun u s1 ⟨v,H1,y,J,ev,eH⟩=>?_);subst ev eH;cases(show u=aJ a from J);obtain⟨⟨R,lz,nd,o,es,g1,g2,g3,pr⟩,_⟩:=y.hok a _ U;have ty:s1.TypeIs (.ref a) "dict":=⟨o,g1,g2.1⟩;refine⟨"dict","dict.items",PySem.F.plainAttrs_dict,nk,PySem.F.type_dict_items,ty,fun b eb=>?_,gh rfl (oT ?_)⟩;cases eb;exact⟨o,g1,g2.2.1⟩;refine a7 nk ty PySem.F.entry_dict_items ?_ (PySem.F.args_dict_items_1 _);refine zmj (es:=es) (ep:=ep) R ⟨o,g1,g2,g3⟩ ⟨_,rfl,?_⟩;have hf:=y.hok.fresh (ar _);exact⟨.ref s1.heap.objs.size,_,y.laid (a:=s1.heap.objs.size) (o:=VWO s1.heap.objs.size a) (t':=s1.toks) (fun _ _ q=>ah _ q) (ar _) (zsA (aw _ rfl)),rfl,q _ hf⟩
def Vu(i:Nat):DTA:=fun o n R=>match o[i]? with
 | some (some (.dtt ks))=>∃rs:List ((Int×Int)×Int),ks=rs.map (fun r=>(r.1,.int r.2))/\rs.length<64/\(∀r∈rs,RlOk r)/\∀l:List ((Int×Int)×Int),l.Perm rs->l.Pairwise (fun a b=>rkn a<=rkn b)->R (rD l) n
 | _=>False
theorem zeO{K:qF}{hd:Option aj}{O:aj->Prop}{H:Hp}:∀{zs:ZT}{rs:List ((Int×Int)×Int)},Jl K hd O H zs (rs.map fun r=>(r.1,.int r.2))->zs.map zR=rs/\∀z∈zs,z.2.2=.int (zR z).2/\Rep K hd O H (.ref z.2.1) (.tuple [.int z.1.1,.int z.1.2])
 | _,[],r=>by cases r;exact⟨rfl,(fun z hz=>nomatch hz)⟩
 | _,⟨k,s⟩::rs,r=>by
  cases r with
  | cons h1 o r =>obtain⟨v,y⟩:=zeO r;have ev:=o.intI;subst ev;refine⟨by rw[aN,v];rfl,fun z hz=>?_⟩;rcases ay.mp hz with rfl|hz;exact⟨rfl,h1⟩;exact y z hz
theorem znt(i:Nat)(hc:X.calm=true)(hr:Room k X.A)(hm:X.mg "sorted" = none) (hN:X.N[i]?=some x:=by rfl) (L:Vis X.env.scope x:=by walk_at "V") (hd:(x == ("__debug__":Str))=false:=by rfl)
  (hcd:(x == ("__classdict__":Str))=false:=by rfl) (hs:starEach [.Call (.Attribute (.Name x p1) "items" p2) [] [] p3] X.env=[(false,eval (.Call (.Attribute (.Name x p1) "items" p2) [] [] p3) X.env)]:=by rfl) (hg:Gl X "sorted":=by rfl)
  (Lw:attributeBase (.Name x p1) "items" X.env (eval (.Name x p1) X.env)=eval (.Name x p1) X.env:=by rfl) (Lx:(p2.endLine == p3.line)=true:=by rfl) :
  DN X (.Call (.Name "sorted" p) [.Call (.Attribute (.Name x p1) "items" p2) [] [] p3] [] pos) (Vu i):=by
 refine⟨_,Ye (ziw hc (by have:=hr.un;lia)) hm sE (Qd (zoT hN L hd hcd Lw Lx) QF hs) hg,fun C ρ σ H n Q R S hd hq=>?_⟩;unfold Vu at hd;split at hd;rename_i ks et;obtain⟨rs,rfl,lr,rok,hR⟩:=hd;obtain⟨a,zs,ep,s1,s2,s3,s4⟩:=S.dtt i _ et;obtain⟨zr,zv⟩:=zeO s3;have lz:zs.length=rs.length:=by rw[<- zr];simp
 refine⟨a,zs,ep,s1,s2,fun v L=>?_⟩;have na:a≠v:=fun z=>by subst z;rw[s2]at L;cases L
 have sm:Same H (upd H v (VWO v a)):=JM L;refine⟨v,a,zs,ep,rfl,JE,by rw[Jh na];exact s2,by rw[lz];exact lr,fun z hz=>?_,fun Y l H' pm pw sH nl tw hl=>?_⟩;obtain⟨z1,z2⟩:=zv z hz;have ok:=rok (zR z) (by rw[<- zr];exact cY hz);obtain⟨q,eq,sq⟩:=(z2.same sm).bkI;cases eq;exact⟨sq,ok.1,ok.2.1,_,z1,ok.2.2⟩;have J:Same H H':=sm.trans sH;have pr:(Y.map fun w=>zR w.1).Perm rs:=by have:=pm.map zR;rw[cI,zr]at this;exact this
 have U:H l=none:=by
  cases z:H l with
  | none=>rfl
  | some o=>rw[sm l o z]at nl;cases nl
 refine hq (rD (Y.map fun w=>zR w.1)) n l _ H' (hR _ pr (by rw[cJ];exact pw)) J.ext (S.hnd.same J) U hl ?_;have key:∀G:List (((Int×Int)×aj×V)×aj),(∀w∈G,w∈Y)->Reps X.K C.hd (fun b=>Own C ρ σ b\/b=l) H' (G.map fun w=>V.ref w.2) (rD (G.map fun w=>zR w.1)):=by
  intro G;induction G with
  | nil=>intro _;exact .nil
  | cons w G ih =>
   intro hw;have mw:=hw w (.head _);have mz:w.1∈zs:=pm.mem_iff.mp (cY mw);obtain⟨z1,z2⟩:=zv w.1 mz;obtain⟨t1,t2⟩:=tw w mw;have h0:H w.2=none:=by
    cases z:H w.2 with
    | none=>rfl
    | some o=>rw[sm _ o z]at t1;cases t1
   refine .cons (.tup t2 (fun z=>?_) (.cons ?_ (.cons ?_ .nil))) (ih fun y hy=>hw y (.tail _ hy));rcases z with z|z;exact S.free h0 z;rw[z,hl]at t2;cases t2;exact z2.mono (fun b o Z z=>z.elim id fun z=>by subst z;rw[U]at Z;cases Z) fun b o _ Z=>J b o Z;rw[z1];exact .int _
 exact key Y fun _ h=>h;exact hd.elim
instance zvr {i:Nat}{ρ:En}{n:Nat}{R:List af->Nat->Prop}{ks:KT2}[h:GetN ρ i (some (.dtt ks))]:Stp (Vu i ρ n R) (∃rs:List ((Int×Int)×Int),ks=rs.map (fun r=>(r.1,.int r.2))/\rs.length<64/\(∀r∈rs,RlOk r)/\∀rs':List ((Int×Int)×Int),rs'.Perm rs->rs'.Pairwise (fun a b=>rkn a<=rkn b)->R (rD rs') n):=⟨fun k=>by unfold Vu;rw[h.e];exact k⟩
end
def zm4(t:af)(R:List af->Prop):Prop:=JN t fun ts=>∃rs:List ((Int×Int)×Int),ts=rD rs/\rs.length<64/\(∀r∈rs,RlOk r)/\∀l:List ((Int×Int)×Int),l.Perm rs->l.Pairwise (fun a b=>rkn a<=rkn b)->R (rD l)
def zql(d:DTE):DTA:=fun l n R=>d l n fun t o=>zm4 t fun ts=>R ts o
section
variable{X:Cx}{e:aY}{d:DTE}{pos p:Pos}{k:Nat}
theorem zln(hr:Room k X.A)(hm:X.mg "sorted" = none) (h:DL X e d) (U:starEach [e] X.env=[(false,eval e X.env)]) (hg:Gl X "sorted":=by rfl):DN X (.Call (.Name "sorted" p) [e] [] pos) (zql d) :=
 zgk (L:=zm4) (fun t R=>zfa fun ts ⟨rs,G,y,ok,q⟩=>⟨_,fun r:(Int×Int)×Int=>.tuple [.tuple [.int r.1.1,.int r.1.2],.int r.2],RlIn,rkn,rkR,rs,G,US y,fun {_ _ _ _ _ _ v u a} ha I r rv=>by
  obtain⟨b,ws,rfl,sq,J⟩:=r.tupI;cases J with
  | cons x1 x2 =>
   cases x2 with
   | cons x3 x4 =>
    cases x4;obtain⟨q,rfl,x⟩:=x1.bkI;rw[x3.intI]at sq;cases(show u=aJ b from rv);obtain⟨is,ys,⟨o,f1,f2,n,f3⟩,_⟩:=I.tuple sq;cases ys with
    | cons a1 a2 =>
     cases a2 with
     | cons Z S =>cases S;cases(show _=aJ q from a1);obtain⟨t,rfl⟩:=Z;exact⟨b,q,o,t,n,rfl,f1,f2,f3,zqv I x⟩,fun p kp=>⟨p.kept kp,p.rk⟩,fun hu hp=>zfd hu fun v Y=>by
  obtain⟨a,ma,p,e⟩:=hp v Y;exact⟨a,p,e,ok a ma⟩,q⟩) hr hm h U hg
end
instance zwg {d:DTE}{ρ:En}{n:Nat}{R:List af->Nat->Prop}:Stp (zql d ρ n R) (d ρ n fun t n1=>zm4 t fun ts=>R ts n1):=⟨fun h=>h⟩
section
variable{prog:aL}{w:aZ}{A:bg}{E:qV}
theorem zqK{s:aq}{d:aj}{es:Array eD}{ep:Nat}{Q:qV}(x:(d == sysModules)=false)(v:JU s.heap d es ep)(hz:es.size<=sizeLine)(h:∀t tk,Q (.int es.size t) { s with toks:=tk }):wpAny (model prog w) A (call (.builtin "len") [.ref d]) Q E s:=by obtain⟨o,g1,g2,g3⟩:=v;have ty:s.TypeIs (.ref d) "dict":=⟨o,g1,g2.1⟩;have y:sizeLine=16777216:=kO;refine l5 kind_len plain_len entry_len (args_len1 _) ?_;unfold cc.«len»;refine aa (m:=oneArg "len" _) (ae (aa (m:=callSpecial? (.ref d) (aR "__len__")) ?_));refine bo (name:=aR "__len__") ty nW ?_;refine a7 nW ty PySem.F.entry_dict_len ?_ (PySem.F.args_dict_len_1 _);show wpAny _ _ (dictSize d >>= _) _ _ s;unfold dictSize;refine aa (aa (eY g1 g3 (ae ?_)));show wpAny _ _ (uE d >>= _) _ _ s;refine aa (wpAny_pendingCount_other x (wpAny_ret_mkInt ?_));rw[show((es.size:Int)+((0:Nat):Int))=(es.size:Int) from by simp];refine aa (bM (ae (aa (mK ?_))));show wpAny _ _ (if ((es.size:Nat):Int)<0 then _ else _) _ _ _;rw[if_neg (by lia)];show wpAny _ _ (if ((es.size:Nat):Int)>=2 ^ 63 then _ else _) _ _ _;rw[if_neg (by lia)];exact aa (wpAny_mkInt (ae ⟨_,rfl,h _ _⟩))
end
def KZp(K:qF)(H:Hp)(x:V)(z:(Int×Int)×aj×V):Prop:=∃a,x=.ref a/\SqT K H a [.ref z.2.1,z.2.2]/\SqT K H z.2.1 [.int z.1.1,.int z.1.2]
section
variable{X:Cx}
theorem zmC{pins:qO}{σ:St}{H:Hp}{s:aq}(I:Inv X pins σ H s):∀{vs:List V}{its:List ag}{zs:ZT},Vals vs its->bL (KZp X.K H) vs zs ->
  ∃ps:List (List Key×aj×ag),bL ZX zs ps/\bL (PrT X.prog X.w s.heap) its ps
 | [],_,_,r,h=>by cases r;cases h;exact⟨[],.nil,.nil⟩
 | v::vs,_,_,r,h=>by
  cases r with
  | cons y R =>
   cases h with
   | @cons _ z _ zs h1 h2 =>
    obtain⟨a,rfl,sq,sk⟩:=h1;obtain⟨ps,U,J⟩:=zmC I R h2;obtain⟨x,N,it,_⟩:=I.tuple sq;cases N with
    | cons C G =>
     cases G with
     | cons L S =>cases S;rename_i u w;cases(show _=aJ a from y);cases(show _=aJ z.2.1 from C);exact⟨(kL z.1,z.2.1,w)::ps,.cons ⟨rfl,rfl,L⟩ U,.cons ⟨a,rfl,it,UK (k:=kL z.1) I sk⟩ J⟩
theorem znV:JK X (.builtin "len") (fun xs H Q=>∃a zs ep,xs=[.ref a]/\H a=some (ZDO a zs ep)/\Q (.int zs.length) H):=by
 intro pins s σ H xs J Q I r h;obtain⟨a,zs,ep,rfl,x,q⟩:=h;obtain⟨u,rfl,C⟩:=vals1 r;cases C;obtain⟨⟨v,G,nd,o,es,g1,g2,g3,pr⟩,_⟩:=I.hok a _ x;have y:es.size=zs.length:=by have:=cE pr;simpa using this.symm
 refine zqK (es:=es) (ep:=ep) v ⟨o,g1,g2,g3⟩ (by lia) fun t tk=>⟨.int zs.length,H,I.tok tk,⟨t,by rw[y]⟩,q⟩
end
def prT(q:(Int×Int)×af):af:=.tuple [.tuple [.int q.1.1,.int q.1.2],q.2]
theorem zjR{K:qF}{hd:Option aj}{O:aj->Prop}{H:Hp}:∀{vs:List V}{ks:KT2},Reps K hd O H vs (ks.map prT)->∃zs:ZT,bL (KZp K H) vs zs/\Jl K hd O H zs ks
 | _,[],r=>by cases r;exact⟨[],.nil,.nil⟩
 | _,a::ks,r=>by
  cases r with
  | cons h r =>
   obtain⟨zs,y,v⟩:=zjR r;obtain⟨b,I,rfl,sq,x⟩:=h.tupI;cases x with
   | cons x1 C =>
    cases C with
    | cons x3 G =>cases G;obtain⟨q,rfl,u⟩:=x1.bkI;exact⟨(a.1,q,_)::zs,.cons ⟨b,rfl,sq,u⟩ y,.cons x1 x3 v⟩
end L2
namespace L2
open PySem
abbrev RL:=List ((Int×Int)×Int)
def kR(rs:RL):KT2:=rs.map fun r=>(r.1,.int r.2)
def putR(rs:RL)(k:Int×Int)(s:Int):RL:=if (rs.any fun z=>decide (z.1=k))=true then rs.map (fun z=>if z.1=k then(z.1,s) else z) else rs++[(k,s)]
theorem zqQ{rs:RL}{k:Int×Int}{s:Int}:putT (kR rs) k (.int s)=kR (putR rs k s):=by
 have l:((kR rs).any fun z=>decide (z.1=k))=rs.any fun z=>decide (z.1=k):=by unfold kR;rw[lG];rfl
 unfold putT putR;rw[l];split;unfold kR;rw[cI,cI];refine fe fun z _=>?_;dsimp only[ph];split <;> rfl;unfold kR;rw[eF];rfl
theorem zt5{rs:RL}:(kR rs).length=rs.length:=by simp[kR]
def Rls0(bits:Int)(rs:RL):Prop:=(∀r∈rs,IsBk bits r.1.1 r.1.2/\0<=r.2/\r.2<=1)/\(rs.map (·.1)).Nodup
theorem zmp{rs:RL}{k:Int×Int}{s:Int}:(putR rs k s).map (·.1)=if (rs.any fun z=>decide (z.1=k))=true then rs.map (·.1) else rs.map (·.1)++[k]:=by unfold putR;split;rw[cI];refine fe fun z _=>?_;dsimp only[ph];split <;> rfl;rw[eF];rfl
theorem zoM{rs:RL}{k:Int×Int}{s:Int}:(putR rs k s).length<=rs.length+1:=by unfold putR;split;rw[aG];exact kS _;simp
theorem Rls0.put{bits:Int}{rs:RL}(h:Rls0 bits rs){k:Int×Int}{s:Int}(o:IsBk bits k.1 k.2)(s0:0<=s)(s1:s<=1):Rls0 bits (putR rs k s):=by refine⟨fun r l=>?_,?_⟩;unfold putR at l;split at l;obtain⟨z,hz,rfl⟩:=bc.mp l;have:=h.1 z hz;split;exact⟨this.1,s0,s1⟩;exact this;rcases aW.mp l with l|l;exact h.1 r l;cases aC.mp l;exact⟨o,s0,s1⟩;rw[zmp];split;exact h.2;rename_i x;rw[eh];refine⟨h.2,by simp,fun a v b u=>?_⟩;cases aC.mp u;rintro rfl;obtain⟨z,hz,rfl⟩:=bc.mp v;exact x (hV.mpr ⟨z,hz,by simp⟩)
def bkLt(a b:Int×Int):Prop:=a.1<b.1\/(a.1=b.1/\a.2<b.2)
def Rls(bits:Int)(rs:RL):Prop:=(∀r∈rs,IsBk bits r.1.1 r.1.2/\0<=r.2/\r.2<=1)/\rs.Pairwise fun a b=>bkLt a.1 b.1
theorem Rls0.ok{bits:Int}{rs:RL}(u:bits<=64)(h:Rls0 bits rs):∀r∈rs,RlOk r:=fun r l=>by have:=h.1 r l;have h1:=this.1.1;have o:=this.1.2.1;exact⟨h1,by lia,this.2⟩
theorem Rls0.sort{bits:Int}{rs l:RL}(G:bits<=64)(h:Rls0 bits rs)(pm:l.Perm rs)(pw:l.Pairwise fun a b=>rkn a<=rkn b):Rls bits l:=by refine⟨fun r v=>h.1 r (pm.mem_iff.mp v),?_⟩;have nd:(l.map (·.1)).Nodup:=(pm.map _).nodup_iff.mpr h.2;rw[List.nodup_iff_pairwise_ne,cJ]at nd;have al:∀r∈l,RlOk r:=fun r v=>h.ok G r (pm.mem_iff.mp v);refine(pw.and nd).imp_of_mem fun {a b} ha hb ⟨h1,h2⟩=>?_;have y:=al a ha;have x:=al b hb;unfold rkn at h1;unfold RlOk at y x;obtain⟨a1,a2,L,I⟩:=y;obtain⟨C,R,S,J⟩:=x;unfold bkLt;have ne:¬(a.1.1=b.1.1/\a.1.2=b.1.2):=fun z=>h2 (dz z.1 z.2);by_cases e:a.1.1=b.1.1;right;refine⟨e,?_⟩;have:a.1.2≠b.1.2:=fun z=>ne ⟨e,z⟩;lia;left;lia
end L2
namespace Bd
open PySem PySem.W PySem.Calls L2 PyProof.Rows
structure ZZ where
 P:aL
 w:aZ
 K:qF
 mg:Str->Option ag
 base:a9
def FQ(Z:ZZ)(x:Str)(st:fc)(ps:List Str)(k:Nat)(l:Sp):Prop:=Fq Z.P Z.w Z.K Z.mg Z.base x st ps k l
theorem okQ{Z:ZZ}{x:Str}{st:fc}{ps N:List Str}{k m:Nat}{g:GD}(D:Dq Z.K Z.mg x st ps)(S:Uv N ps (JJ st))(y:m=ps.length)
  (u:∀(f:aj) (l:ag) (A:bg) (outer:List Env) (s:aq) (H:Hp) (E:XK),Room k (A.deeper (envOfC x (JJ st) s.heap.objs.size f l))->∃d,DSs (cxOf CX0 Z.P Z.w Z.K Z.mg Z.base N x (JJ st) f l A outer s H E).nox (J4 st) d /\
   ∀ts n R,ts.length=m->g ts n R->d { nx:=fun _ C=>R .none C,rt:=R } (JZ N ts) n):FQ Z x st ps (k+1) (spD Z.K m g):=by
 obtain⟨f,fd,D⟩:=D;exact⟨f,fd,D,D.okD S y fun l A outer s H E v=>u f l A outer s H E v⟩
theorem bnd1{x:Str}{st:fc}{a:Str}(h:∀(kV doc pm:ag) (an:Option aj) (l ct u:ag),bindArgs (dX x x (Qz st) (J4 st) (JJ st) .none kV doc pm an l ct) ⟨[u],[]⟩=pure [(a,u)]):BndA x st [a]:=fun _ _ _ _ _ _ y v=>by obtain⟨_,rfl⟩:=len1 v;exact h ..
theorem bnd2{x:Str}{st:fc}{a b:Str}(h:∀(kV doc pm:ag) (an:Option aj) (l ct u v:ag),bindArgs (dX x x (Qz st) (J4 st) (JJ st) .none kV doc pm an l ct) ⟨[u,v],[]⟩=pure [(a,u),(b,v)]):BndA x st [a,b]:=fun _ _ _ _ _ _ C y=>by obtain⟨_,_,rfl⟩:=len2 y;exact h ..
theorem bnd3{x:Str}{st:fc}{a b c:Str}(h:∀(kV doc pm:ag) (an:Option aj) (l ct u v y:ag),bindArgs (dX x x (Qz st) (J4 st) (JJ st) .none kV doc pm an l ct) ⟨[u,v,y],[]⟩=pure [(a,u),(b,v),(c,y)]):BndA x st [a,b,c]:=fun _ _ _ _ _ _ G C=>by obtain⟨_,_,_,rfl⟩:=len3 C;exact h ..
theorem bnd4{x:Str}{st:fc}{a b c d:Str}(h:∀(kV doc pm:ag) (an:Option aj) (l ct u v y z:ag),bindArgs (dX x x (Qz st) (J4 st) (JJ st) .none kV doc pm an l ct) ⟨[u,v,y,z],[]⟩=pure [(a,u),(b,v),(c,y),(d,z)]):BndA x st [a,b,c,d]:=fun _ _ _ _ _ _ G C=>by obtain⟨_,_,_,_,rfl⟩:=len4 C;exact h ..
def J7(h:a9):qF:=(fZ h.objs.size).filterMap fun a=>(h.get? a).map fun o=>(a,o)
theorem zmW{h:a9}:∀{as:List aj}{a:aj},a∈as->(as.filterMap fun a=>(h.get? a).map fun o=>(a,o)).lookup a=h.get? a\/h.get? a=none
 | [],_,m=>nomatch m
 | b::as,a,m=>by
  by_cases e:a=b;subst e;cases g:h.get? a with
  | none=>exact .inr rfl
  | some o=>exact .inl (by rw[cV];simp[g,dN])
  have x:a∈as:=(ay.mp m).resolve_left e;rcases zmW (h:=h) x with z|z;refine .inl ?_;rw[cV];cases g:h.get? b with
  | none=>exact z
  | some o =>
   have:(a == b)=false:=by simpa using e
   simp only[iE];rw[dN,this];exact z
  exact .inr z
theorem zdj{h:a9}{a:aj}{o:Obj}(e:h.get? a=some o):(J7 h).lookup a=some o:=by have m:a∈fZ h.objs.size:=n8.mpr (ax e);rcases zmW (h:=h) m with z|z;exact z.trans e;rw[e]at z;cases z
theorem zlG{h:a9}:(J7 h).In h:=fun a o e=>by
 have key:∀(as:List aj),(as.filterMap fun a=>(h.get? a).map fun o=>(a,o)).lookup a=some o->h.get? a=some o:=by
  intro as;induction as with
  | nil=>intro z;cases z
  | cons b as v =>
   intro z;rw[cV]at z;cases g:h.get? b with
   | none=>rw[g]at z;exact v z
   | some x =>
    rw[g]at z;simp only[iE,dN]at z;cases q:a == b with
    | true=>rw[q]at z;cases z;rw[eq_of_beq q];exact g
    | false=>rw[q]at z;exact v z
 exact key _ e
def VE:fc->Bool
 | .FunctionDef ..=>true
 | _=>false
def defName:fc->Str
 | .FunctionDef n _ _ _ _ _ _ _ _ _=>n
 | _=>aR ""
def zu_:fc->Pos
 | .FunctionDef _ _ _ _ _ _ _ _ _ p=>p
 | _=>⟨0,0,0,0⟩
def recD(st:fc):DefRec:=⟨defName st,Qz st,J4 st,JJ st,zu_ st⟩
theorem getD_mem{l:List fc}{i:Nat}(h:VE (l.getD i (.Pass ⟨0,0,0,0⟩))=true):l.getD i (.Pass ⟨0,0,0,0⟩)∈l:=by
 rw[bf]at h ⊢;cases e:l[i]? with
 | none=>rw[e]at h;cases h
 | some s=>exact aA e
section
variable{q:aL}{loose:List Str}{Mj:tG->Option ag}{mg mb:qM}{h:a9}{x:Str}{st:fc}{ps:List Str}
theorem znO{cd:ag}{n:Str}(c:h.CodeRec cd n):iU (J7 h) cd n=true:=by
 obtain⟨a,o,vs,t,rfl,g,d,e⟩:=c;unfold iU;dsimp only;rw[zdj g];obtain⟨v,u,l,y⟩:=o;cases(show l=_ from d);have l2:vs.toList[1]?=some (.str n t):=by simpa using e
 dsimp only;match hv:vs.toList,l2 with
 | [],l2=>simp at l2
 | [_],l2=>simp at l2
 | a::b::r,l2 =>
  have:b=.str n t:=by simpa using l2
  subst this;simp
theorem dq_g(T:Top q loose Mj mg mb h)(hd:recD st∈recsOf q)(C:defName st=x)(G:BndA x st ps):Dq (J7 h) mg x st ps:=by
 obtain⟨a,o,pm,cd,doc,h1,I,y,v⟩:=T.fn _ hd;have h1:mg (defName st)=some (.ref a):=h1;have v:h.CodeRec cd (defName st):=v;rw[C]at h1 v;obtain⟨J,R,N,L⟩:=o;have y:N=.func (docDef (defName st) (Qz st) (J4 st) (JJ st) pm cd doc):=y;rw[C]at y;have l:(J7 h).lookup a=some ⟨J,R,.func (dX x x (Qz st) (J4 st) (JJ st) .none .none doc pm none cd .none),L⟩:=by rw[zdj I,y];rfl
 have kp:iT (J7 h) (.ref a)=true:=by unfold iT;dsimp only;rw[l]
 exact⟨a,_,zqa l (znO v) kp,(zqa l (znO v) kp).binds G,h1⟩
end
theorem zv6{lw:PySem.W.OpenLaw}{q:aL}{loose:List Str}{R:(Str->Option ag)->a9->Prop}{YP:aZ->a9->Prop}{d:DefRec}{k:Nat}(hk:k<=60)(Z:lw.most=some 63)(C:d.params.defaults=[])
  (F:∀(w:aZ) (s₀:aq) (mg J:qM) (y:aj) (h:a9),Ground q loose [] R w s₀ mg J h->mg d.name=some (.ref y) ->
   ∃fd:dM,(∀(s:aq) (u:ag),tD s fd ⟨[u],[]⟩ [("_law_script",u)])/\∀base:a9,(J7 h).In base->base.Ns mainGlobals mg->FnOk lw.prog w (J7 h) mg base CX0 k y fd ["_law_script"] (zqw (J7 h))) :
  PySem.W.WalkO q loose R YP lw.row.toRowW d [] (fun f vs=>Ac f vs):=by
 refine Att.attach_call Z C fun w s₀ N mg J y o pm cd doc a vs ns G Y ho hd hcd L x v l hg=>?_;obtain⟨fd,S,U⟩:=F w s₀ mg J y _ G L;exact zo7 zlG G.T.g G.T.b G.T.builtins G.T.nolimit hg x v (b7 l (by decide)) ((show Room 60 callerA from⟨rfl,by decide,by decide,rfl⟩).mono hk) U S (fun H hO hS=>⟨a,ns,rfl,hS,l,fun _=>rfl⟩) fun H e s' z=>z
end Bd
namespace L2
open PySem PySem.Spec PyProof PyProof.Rows
theorem zlD{a:aj}{ep:Nat}:ZDO a [] ep=KDO a [] ep:=by unfold ZDO KDO;congr 1;funext h;have e:∀l:List eD,bL entZ [] l↔bL entI [] l:=fun l=>⟨fun h=>by cases h;exact .nil,fun h=>by cases h;exact .nil⟩;simp only[e,dY,bU,t4]
theorem zr6{ks:KT2}{l:List (Int×af)}(e:Jm ks=Y8 l):ks=[]/\l=[]:=by
 cases ks with
 | nil=>cases l with
  | nil=>exact⟨rfl,rfl⟩
  | cons _ _=>cases e
 | cons a ks=>cases l with
  | nil=>cases e
  | cons b l =>have h:=(oE (iz (show(blkT a.1,a.2)::Jm ks=(bS b.1,b.2)::Y8 l from e)).1).1;cases h
theorem zj2{α:Type}[DecidableEq α]:∀{xs ys:List α},xs.Nodup->(∀x∈xs,x∈ys)->xs.length<=ys.length
 | [],_,_,_=>cO _
 | x::xs,ys,nd,h=>by have l:=cj.mp nd;have:=zj2 (xs:=xs) (ys:=ys.erase x) l.2 fun y o=>(kW (by rintro rfl;exact l.1 o)).mpr (h y (by simp[o]));have hx:=h x (by simp);have e:=iy hx;have:=i9 hx;rw[aH];lia
abbrev BL:=List (Int×Int)
theorem CanP.congr{S T:Int->Prop}{ps:BL}(h:CanP S ps)(e:∀x,S x↔T x):CanP T ps:=by obtain⟨rs,a,b,c⟩:=h;exact⟨rs,a,fun x=>(b x).trans (e x),c⟩
theorem zuf{xs:qD}{k:Nat}{x:af}{R:af->Prop}(e:xs[k]?=some x)(h:R x):oIx (.list xs) (.int (k:Int)) R:=by
 have o:k<xs.length:=by rcases bG k xs.length with z|z;exact z;rw[bO z]at e;cases e
 rw[Zf (x:=x)];exact h;unfold atI ixN;have:((0:Int)<=(k:Int)):=by lia
 have:((k:Int)<(xs.length:Int)):=by lia
 have u:xs[k]=x:=by rw[au o]at e;exact aE e
 simp[o,u]
section
variable{prog:aL}{w:aZ}{A:bg}{E:qV}{s:aq}
theorem zhE{d:aj}{es:Array eD}{ep:Nat}{Q:qV}(C:(d == sysModules)=false)(x:JU s.heap d es ep)
  (I:Q (.ref s.heap.objs.size) { s with heap:=s.heap.push { cls:=.type "dict_keyiterator",data:=.fields #[.ref d,.int 0 0,.int es.size 0,.int ep 0] } }):wpAny (model prog w) A (pyIter (.ref d)) Q E s:=by
 obtain⟨G,o,v,u⟩:=x;have ty:s.TypeIs (.ref d) "dict":=⟨G,o,v.1⟩;refine gS ty nJ (a7 nJ ty PySem.F.entry_dict_iter ?_ (PySem.F.args_dict_iter_1 _));unfold cc.«dict.__iter__»;refine aa ?_;unfold uF;refine aa (ku ty ?_);show wpAny _ _ (pure (aJ d)) _ _ s;refine ae ?_;show wpAny _ _ (gM d >>= _) _ _ s;unfold gM;have ns:¬((d == sysModules)=true):=by rw[C];exact aQ
 rw[if_neg ns];refine aa (ae (aa (eY o u (aa (gJ o u ?_)))));exact aa (aX (ae ⟨_,rfl,"dict_keyiterator",_,⟨_,aw _ rfl,rfl⟩,cB.lookup,by simpa[rawInt] using I⟩))
theorem zhF{it d:aj}{i ep:Nat}{es:Array eD}{e:eD}{Q:Option ag->aq->Prop}(hi:s.heap.IsKeyIter it d i es.size ep)(L:JU s.heap d es ep)(hx:es[i]?=some e)
  (G:∀h',h'.IsKeyIter it d (i+1) es.size ep->cH it s.heap h'->Q (some e.key) { s with heap:=h' }):wpAny (model prog w) A (pyNext (.ref it)) Q E s:=by
 obtain⟨o,C,hc,hd⟩:=id hi;obtain⟨R,v,N,x⟩:=L;have ty:=hi.typeIs;have lt:i<es.size:=(gY.mp hx).1;unfold pyNext;refine aa (eR ?_);refine bo (name:=aR "__next__") ty cB ?_;refine a7 cB ty iB ?_ (ia _);refine aa (ae (aa (aa ?_)));refine aa (eU ty (ae (aa (kb C hd ?_))));have J:dH "dict_keyiterator" = false:=by decide
 simp only[J,aI,if_false];show wpAny _ _ (if (aJ d == b8)=true then _ else _) _ _ s;have nd:¬((aJ d == b8)=true):=aQ;rw[if_neg nd];refine aa (ae (aa (eY v x ?_)));rw[if_neg (by simp)];refine aa (ae (aa (gJ v x ?_)));rw[if_neg (by simp)];refine ae ?_;simp only[show ¬((i:Int)<0) from by lia,if_false,bt,hx];refine aa (aa (eU ty (ae (aa (nX ty ?_)))));show wpAny _ _ (setField (.ref it) 1 (rawInt ((i:Int)+1)) >>= _) _ _ s;refine aa (cP C hd (by simp) ?_);have l:(s.heap.update it (gL (·.setIfInBounds 1 (rawInt ((i:Int)+1))))).IsKeyIter it d (i+1) es.size ep :=
  ⟨_,br _ C (df (bQ hd _)),(fH ..).trans hc,by rw[bQ hd];simp[rawInt]⟩
 refine aa (bM (aa (nX (s:={ s with heap:=s.heap.update it (gL (·.setIfInBounds 1 (rawInt ((i:Int)+1)))) }) l.typeIs ?_)));show wpAny _ _ (pure e.key) _ _ _;exact ae (ae ⟨_,rfl,ae (G _ l (cX ..))⟩)
theorem zjU{it d:aj}{i ep:Nat}{es:Array eD}{Q:Option ag->aq->Prop}(L:A.handled=none)(hi:s.heap.IsKeyIter it d i es.size ep)(N:JU s.heap d es ep)(hx:es.size<=i)
  (I:∀h',mI it s.heap h'->Q none { s with heap:=h' }):wpAny (model prog w) A (pyNext (.ref it)) Q E s:=by
 obtain⟨o,G,hc,hd⟩:=id hi;obtain⟨S,l,R,v⟩:=N;have ty:=hi.typeIs;unfold pyNext;refine aa (eR ?_);refine bo (name:=aR "__next__") ty cB ?_;refine a7 cB ty iB ?_ (ia _);refine aa (ae (aa (aa ?_)));refine aa (eU ty (ae (aa (kb G hd ?_))));have J:dH "dict_keyiterator" = false:=by decide
 simp only[J,aI,if_false];show wpAny _ _ (if (aJ d == b8)=true then _ else _) _ _ s;have nd:¬((aJ d == b8)=true):=aQ;rw[if_neg nd];refine aa (ae (aa (eY l v ?_)));rw[if_neg (by simp)];refine aa (ae (aa (gJ l v ?_)));rw[if_neg (by simp)];refine ae ?_;simp only[show ¬((i:Int)<0) from by lia,if_false,bt,ka hx];refine aa (aa (eU ty (ae ?_)));show wpAny _ _ (setField (.ref it) 0 .none >>= _) _ _ s;refine aa (cP G hd (by simp) ?_);show wpAny _ _ (newExc (.type "StopIteration") [] >>= _) _ _ _;refine aa ?_;simp only[newExc,newTuple];refine aa (aX ?_ (by size_fits));refine aa (m:=firstArgMember _ _) (iO (a:=b8) (by first|rfl|(simp only[firstArgMember];rfl)) ?_);refine aX ?_ (by size_fits);simp only[raiseNew];refine aa (kK ?_);have C:A.in1.handled=none:=L;rw[C];refine aa (ae (mJ ?_));refine aa (fw (T:="StopIteration") (b:=true) ⟨_,aw _ rfl,rfl⟩ i5 (ae (I _ ?_)));exact(((cX ..).extBut.push _).push _)
end
theorem zft:∀{ks l:KT2},Jm ks=Jm l->ks=l
 | [],[],_=>rfl
 | [],_::_,e=>by cases e
 | _::_,[],e=>by cases e
 | (a,b)::ks,(c,d)::l,e=>by have h:=iz (show(blkT a,b)::Jm ks=(blkT c,d)::Jm l from e);have h1:=oE h.1;have o:=fx h1.1;have u:=t7 (iz o).1;have v:=t7 (iz (iz o).2).1;rw[h1.2,zft h.2,dz u v]
section
variable{K:qF}{hd:Option aj}{O:aj->Prop}{H:Hp}
theorem Rep.dtI{v:V}{ks:KT2}(h:Rep K hd O H v (.dict (Jm ks))):∃a zs ep,v=.ref a/\H a=some (ZDO a zs ep)/\¬O a/\Jl K hd O H zs ks:=by
 generalize e:sD (Jm ks)=t at h;cases h with
 | @dct a ep h o =>
  have e:=cR e;cases ks with
  | nil=>exact⟨a,[],ep,rfl,by rw[zlD];exact h,o,.nil⟩
  | cons _ _=>cases e
 | @dcK a kvs ep ks' ps h o r e' =>have e:=cR e;rw[e']at e;obtain⟨rfl,rfl⟩:=zr6 e;cases r;exact⟨a,[],ep,rfl,by rw[zlD];exact h,o,.nil⟩
 | @dcT a zs ep ks' ps h o r e' =>have e:=cR e;rw[e']at e;rw[zft e];exact⟨a,zs,ep,rfl,h,o,r⟩
 | hand _=>exact(dict_noT (cR e).symm).elim
 | scr _ _=>exact(dict_noT (cR e).symm).elim
 | scrS _=>exact(dict_noT (cR e).symm).elim
 | exc _ _=>exact(dict_noT (cR e).symm).elim
 | _=>cases e
theorem RepT.dtI{v:V}{ks:KT2}(h:RepT K hd O H v (.dict (Jm ks))):∃a zs ep,v=.ref a/\H a=some (ZDO a zs ep)/\Jl K hd O H zs ks:=by rcases h with h|⟨p,vs,ds,rfl,o,h1,l,u⟩|⟨p,zs,ep,x,rfl,o,h1,l,u⟩;obtain⟨a,zs,ep,e,h1,_,l⟩:=h.dtI;exact⟨a,zs,ep,e,h1,l⟩;cases o;rw[zft (cR o)];exact⟨p,zs,ep,rfl,h1,l⟩
def valZ(zs:ZT)(k:Int×Int):Option V:=(zs.find? fun z=>decide (z.1=k)).map (·.2.2)
theorem Jl.val{zs:ZT}{ks:KT2}(r:Jl K hd O H zs ks){k:Int×Int}{d:af}(h:valT ks k=some d):∃v,valZ zs k=some v/\Rep K hd O H v d:=by
 induction zs generalizing ks with
 | nil=>cases r;simp[valT]at h
 | cons y zs l =>
  cases r with
  | @cons k' q v' d' zs ks h1 h2 r =>unfold valT at h;unfold valZ;rw[cD]at h ⊢;dsimp only at h ⊢;by_cases e:k'=k;rw[decide_eq_true e]at h ⊢;cases h;exact⟨v',rfl,h2⟩;rw[decide_eq_false e]at h ⊢;exact l r h
theorem zpp{ks:KT2}{k:Int×Int}:(ks.any ((fun z=>decide (z=k))∘fun x=>x.1))=(ks.find? fun z=>decide (z.1=k)).isSome:=by
 induction ks with
 | nil=>rfl
 | cons y ks l =>rw[vk,cD];show(decide (y.1=k)||_)=_;cases decide (y.1=k);exact l;rfl
theorem Jl.anyK{zs:ZT}{ks:KT2}(r:Jl K hd O H zs ks)(k:Int×Int):(zs.any fun z=>decide (z.1=k))=(valT ks k).isSome:=by
 have l:(zs.any fun z=>decide (z.1=k))=(zs.map (·.1)).any fun z=>decide (z=k):=by rw[lG];rfl
 rw[l,r.keys,lG];unfold valT;rw[Option.isSome_map];exact zpp
end
theorem zsx{zs:ZT}{xs:List (List Key×aj×ag)}(r:bL ZX zs xs){k:Int×Int}{v:V}(h:valZ zs k=some v):∃p,atKey xs (kL k)=some p/\RelV v p.2:=by
 induction r with
 | nil=>simp[valZ]at h
 | @cons z x zs xs h1 t ih =>
  unfold valZ at h;rw[cD]at h;by_cases e:z.1=k;rw[decide_eq_true e]at h;cases h;have:x.1=kL k:=by rw[h1.1,e]
  exact⟨x.2,by simp[atKey,cD,this],h1.2.2⟩;rw[decide_eq_false e]at h;have:¬x.1=kL k:=fun l=>e (ZG.mp (h1.1.symm.trans l));obtain⟨p,p1,p2⟩:=ih h;refine⟨p,?_,p2⟩;rw[<- p1];simp[atKey,cD,this]
section
variable{X:Cx}{a b iter tg:aY}{da db dd:DTE}{pos p:Pos}{k:Nat}
def zvo(K:qF)(H:Hp)(y:V)(k:Int×Int):Prop:=∃b,y=.ref b/\SqT K H b [.int k.1,.int k.2]
def zvp(K:qF)(H:Hp)(x:V)(zs:ZT):Prop:=∃a ep,x=.ref a/\H a=some (ZDO a zs ep)/\∀z∈zs,SqT K H z.2.1 [.int z.1.1,.int z.1.2]
def rInT(K:qF)(neg:Bool):R2:=fun x y H Q=>∃k zs,zvo K H x k/\zvp K H y zs/\Q (.bl (if neg then !(zs.any fun z=>decide (z.1=k)) else zs.any fun z=>decide (z.1=k))) H
theorem zpZ(G:X.A.units+1<cLine):OpR X (compareOp .In) (rInT X.K false):=by intro pins s σ H x y v u Q I N L h;obtain⟨k,zs,⟨b,rfl,sq⟩,⟨a,ep,rfl,J,C⟩,q⟩:=h;cases(show v=aJ b from N);cases(show u=aJ a from L);obtain⟨o,R,xs,x1,dd⟩:=ZC I J C;refine wpAny_in_heap (iM G) (UK (k:=kL k) I sq) o dd ?_;rw[zlA x1];exact⟨.bl _,H,I.tok _,rfl,q⟩
theorem ziW(J:X.A.units+1<cLine):OpR X (compareOp .NotIn) (rInT X.K true):=by intro pins s σ H x y v u Q I S R h;obtain⟨k,zs,⟨b,rfl,sq⟩,⟨a,ep,rfl,L,G⟩,q⟩:=h;cases(show v=aJ b from S);cases(show u=aJ a from R);obtain⟨C,U,xs,x1,dd⟩:=ZC I L G;refine wpAny_notIn_heap (iM J) (UK (k:=kL k) I sq) C dd ?_;rw[zlA x1];exact⟨.bl _,H,I.tok _,rfl,q⟩
def oInT(neg:Bool):G2:=fun x y R=>∃(k:Int×Int) (ks:KT2),x=.tuple [.int k.1,.int k.2]/\y=.dict (Jm ks)/\R (.bool (if neg then !(valT ks k).isSome else(valT ks k).isSome))
theorem RepT.bkI{K:qF}{hd:Option aj}{O:aj->Prop}{H:Hp}{v:V}{a b:Int}(h:RepT K hd O H v (.tuple [.int a,.int b])):∃q,v=.ref q/\SqT K H q [.int a,.int b]:=by rcases h with h|⟨p,vs,ds,rfl,o,h1,y,x⟩|⟨p,zs,ep,C,rfl,o,h1,y,x⟩;exact h.bkI;cases o;cases o
theorem Zn{neg:Bool}:Gp2 X (rInT X.K neg) (oInT neg):=by intro hd O H x y t u Q R dom G C h o;obtain⟨k,ks,rfl,rfl,r⟩:=h;obtain⟨a,zs,ep,rfl,v,rk⟩:=C.dtI;refine⟨k,zs,G.bkI,⟨a,ep,rfl,v,rk.sq⟩,?_⟩;rw[rk.anyK k];exact o _ _ H r (Same.refl H) (.bl _)
theorem QD{k:Int×Int}{ks:KT2}{neg:Bool}{R:af->Prop}(h:R (.bool (if neg then !(valT ks k).isSome else(valT ks k).isSome))):oInT neg (.tuple [.int k.1,.int k.2]) (.dict (Jm ks)) R:=⟨k,ks,rfl,rfl,h⟩
def rIxZ(K:qF):R2:=fun x y H Q=>∃k zs v,zvo K H y k/\zvp K H x zs/\valZ zs k=some v/\Q v H
theorem ztN(G:X.A.units+1<cLine){pins:qO}{s:aq}{σ:St}{H:Hp}{x y:V}{v u:ag}{Q:VK}{E:qV}(I:Inv X pins σ H s)(N:RelV x v)(L:RelV y u)(h:rIxZ X.K x y H Q):(∃a,v=.ref a/\s.TypeIs (.ref a) "dict")/\wpAny (model X.prog X.w) X.A (getItem v u) (EP X pins σ Q) E s:=by obtain⟨k,zs,w,⟨b,rfl,sq⟩,⟨a,ep,rfl,J,C⟩,l,q⟩:=h;cases(show v=aJ a from N);cases(show u=aJ b from L);obtain⟨R,S,xs,x1,dd⟩:=ZC I J C;obtain⟨p,p1,p2⟩:=zsx x1 l;refine⟨⟨a,rfl,?_⟩,wpAny_getItem_heap (iM G) (UK (k:=kL k) I sq) dd p1 ⟨w,H,I.tok _,p2,q⟩⟩;obtain⟨o,g,c⟩:=znx dd;exact⟨o,g,c⟩
def zvf:GC:=fun ts R=>∃ks:KT2,ts=[.dict (Jm ks)]/\R (.int ks.length)
theorem zrU:GpC X (fun xs H Q=>∃a zs ep,xs=[.ref a]/\H a=some (ZDO a zs ep)/\Q (.int zs.length) H) zvf:=by intro hd O H xs ts Q R dom rs h l;obtain⟨ks,rfl,r⟩:=h;obtain⟨v,rfl,u⟩:=QQ rs;obtain⟨a,zs,ep,rfl,o,rk⟩:=u.dtI;exact⟨a,zs,ep,rfl,o,by rw[rk.length];exact l _ _ H r (Same.refl H) (.int _)⟩
theorem znd{ks:KT2}{R:af->Prop}(h:R (.int ks.length)):zvf [.dict (Jm ks)] R:=⟨ks,rfl,h⟩
def ItZ(a:aj)(zs:ZT)(ep:Nat):It :=
 ⟨fun i H=>H a=some (ZDO a zs ep)/\i<zs.length,fun i H x H'=>H'=H/\∃z,zs[i]?=some z/\x=.ref z.2.1,fun i H=>H a=some (ZDO a zs ep)/\zs.length<=i⟩
theorem znm{zs:ZT}{es:List eD}(r:bL entZ zs es){i:Nat}{z:(Int×Int)×aj×V}(h:zs[i]?=some z):∃e,es[i]?=some e/\e.key=.ref z.2.1:=by
 induction r generalizing i with
 | nil=>simp at h
 | @cons y e zs es h1 t ih =>
  cases i with
  | zero=>simp at h;subst h;exact⟨e,by simp,h1.2.1⟩
  | succ i=>simpa using ih (by simpa using h)
theorem zlO{P:aL}{w:aZ}{K:qF}{tg:aY}(a it:aj)(zs:ZT)(ep:Nat):Turn P w K tg (ItZ a zs ep) [it] it (fun i h=>h.IsKeyIter it a i zs.length ep) where
 mem:=by simp
 obj:=fun i h st b l=>by
  have e:b=it:=by simpa using l
  subst e;obtain⟨o,e,c,d⟩:=st;exact⟨o,e,fun v z=>by rw[d]at z;cases z⟩
 keep:=fun i h h' st k=>by obtain⟨o,e,r⟩:=st;exact⟨o,k it (by simp) o e,r⟩
 item:=by
  intro X G hw y hc i pins s σ H E I hf st N;subst G hw y;obtain⟨J,hi⟩:=N;obtain⟨⟨R,Y,nd,o,es,g1,g2,g3,pr⟩,_⟩:=I.hok a _ J;have hx:zs[i]?=some zs[i]:=au hi;obtain⟨e,he,S⟩:=znm pr hx;have x:es.size=zs.length:=by have:=cE pr;simpa using this.symm
  obtain⟨f0,f1,f2,C,f4,L⟩:=hf it (by simp);refine zhF (es:=es) (by rw[x];exact st) ⟨o,g1,g2,g3⟩ (by rw[<- dh];exact he) fun h' u sb=>?_;rw[x]at u;have Z:Inv X pins σ H { s with heap:=h' }:=I.turned (t':=s.toks) (fun b o l e=>(sb.2 b l).trans e) f0 f1 C f4 L;obtain⟨o',U,c,d⟩:=id u;rw[S];exact⟨_,rfl,Y9 (s:={ s with heap:=h' }) U c d (by decide) ⟨.ref zs[i].2.1,H,Z,rfl,⟨rfl,zs[i],hx,rfl⟩,u,fun b l=>(hf b l).1⟩⟩
 done:=by
  intro X G hw y hc i pins s σ H E I hf st N;subst G hw y;obtain⟨J,hi⟩:=N;obtain⟨⟨R,Y,nd,o,es,g1,g2,g3,pr⟩,_⟩:=I.hok a _ J;have x:es.size=zs.length:=by have:=cE pr;simpa using this.symm
  obtain⟨f0,f1,f2,C,f4,L⟩:=hf it (by simp);exact zjU (es:=es) (I.ok.hd hc) (by rw[x];exact st) ⟨o,g1,g2,g3⟩ (by lia) fun h' eb=>⟨rfl,I.turned (t':=s.toks) (fun b o l e=>eb b o l e) f0 f1 C f4 L⟩
 self:=fun _ _ _ _ _ st h=>oF st h
def zxA(o:TE):TI:=fun σ H R=>o σ H fun x l=>∃a zs ep,x=.ref a/\l a=some (ZDO a zs ep)/\R (ItZ a zs ep) l
theorem zq1{l:aY}{y:TE}(Y:PE X l y):PI X tg l (zxA y):=by
 intro pins s σ H R I h;refine thn (Y pins s σ H _ I h) fun v s1 ⟨x,S,u,C,G⟩=>?_;obtain⟨a,zs,ep,e,N,q⟩:=G;subst e;cases C;obtain⟨⟨L,Z,nd,o,es,g1,g2,g3,pr⟩,_⟩:=u.hok a _ N;have U:es.size=zs.length:=by have:=cE pr;simpa using this.symm
 refine zhE (es:=es) L ⟨o,g1,g2,g3⟩ ?_;rw[U];refine⟨s1.heap.objs.size,[s1.heap.objs.size],_,_,S,rfl,u.kept (t':=s1.toks) fun b o e=>ah _ e,zlO a _ zs ep,⟨_,aw _ rfl,rfl,rfl⟩,fun b J=>?_,q⟩;have e:b=s1.heap.objs.size:=by simpa using J
 subst e;exact u.fpOk (ar _) (u.hok.fresh (ar _))
def dItZ(d:DTE):DTA:=fun l n R=>d l n fun t o=>∃ks:KT2,t=.dict (Jm ks)/\R (ks.map fun q=>blkT q.1) o
theorem Jl.getK{K:qF}{hd:Option aj}{O:aj->Prop}{H:Hp}{zs:ZT}{ks:KT2}(r:Jl K hd O H zs ks){i:Nat}{z:(Int×Int)×aj×V}{q:(Int×Int)×af}(hz:zs[i]?=some z)(l:ks[i]?=some q):Rep K hd O H (.ref z.2.1) (blkT q.1):=by
 induction zs generalizing ks i with
 | nil=>simp at hz
 | cons y zs o =>
  cases r with
  | @cons k' q' v' d' zs ks h1 h2 r =>
   cases i with
   | zero=>simp at hz l;subst hz l;exact h1
   | succ i=>exact o r (by simpa using hz) (by simpa using l)
theorem znv(h:DE X iter dd):DI X tg iter (dItZ dd):=by
 obtain⟨ta,pa,h⟩:=h;refine⟨_,zq1 pa,fun C U σ H n Q R S hd J=>?_⟩;refine h C U σ H n _ _ S hd fun t n' v H' ⟨ks,G,r⟩ I L q=>?_;subst G;obtain⟨a,zs,ep,rfl,l,no,rk⟩:=q.dtI;refine⟨a,zs,ep,rfl,l,J _ n' _ H' r I L ?_⟩;intro O2 H2 h1 N _;have u:=h1 a _ l no;have Z:Jl X.K C.hd O2 H2 zs ks:=rk.mono (fun a o l z=>bu fun no=>N a o l no z) fun a o no l=>h1 a o l no;refine⟨fun i t G=>?_,⟨u,by rw[aG,rk.length];exact ar _⟩⟩;rw[aT]at G;obtain⟨q,y,eq⟩:=cU.mp G;have hi:i<zs.length:=by rw[rk.length];exact(av.mp y).1
 refine⟨⟨u,hi⟩,fun x H3 Y=>?_⟩;obtain⟨rfl,z,hz,rfl⟩:=Y;rw[<- eq];exact⟨Same.refl _,Z.getK hz y⟩
instance zx2 {d:DTE}{ρ:En}{n:Nat}{R:List af->Nat->Prop}:Stp (dItZ d ρ n R) (d ρ n fun t n'=>∃ks:KT2,t=.dict (Jm ks)/\R (ks.map fun q=>blkT q.1) n'):=⟨fun h=>h⟩
end
section
variable{X:Cx}{a b e:aY}{da db d:DTE}{pos p:Pos}{k:Nat}{x:Str}{ta tb:TE}
theorem zty(L:X.A.units+1<cLine)(o:PE X a ta)(hi:PE X b tb)(v:NoSl b):PE X (.Subscript a b pos) (tOp (rIxZ X.K) ta tb):=by intro pins s σ H Q I h;refine zqu PySem.F.slot_dict_getitem.lookup v (thn (o pins s σ H _ I h) fun u s1 ⟨x,U,N,Y,l⟩=>thn (hi pins s1 σ U _ N l) fun Z s2 ⟨y,H2,G,R,J⟩=>?_);obtain⟨⟨a,C,ty⟩,w⟩:=ztN (E:=X.xe) L G Y R J;subst C;exact⟨ty,w⟩
def oIxZ:G2:=fun x y R=>∃(k:Int×Int) (ks:KT2) (d:af),x=.dict (Jm ks)/\y=.tuple [.int k.1,.int k.2]/\valT ks k=some d/\R d
theorem zuS:Gp2 X (rIxZ X.K) oIxZ:=by intro hd O H x y t u Q R dom L J h o;obtain⟨k,ks,d,rfl,rfl,l,r⟩:=h;obtain⟨a,zs,ep,rfl,I,rk⟩:=L.dtI;obtain⟨v,G,C⟩:=rk.val l;exact⟨k,zs,v,J.bkI,⟨a,ep,rfl,I,rk.sq⟩,G,o _ _ H r (Same.refl H) C⟩
theorem J8(hu:X.A.units+1<cLine)(o:DL X a da)(l:DL X b db)(N:NoSl b:=by intro _ _;rfl):DE X (.Subscript a b pos) (dOp oIxZ da db):=by obtain⟨ta,pa,o⟩:=o;obtain⟨tb,pb,l⟩:=l;refine⟨_,zty hu pa pb N,fun C Z σ H n Q R S h U=>?_⟩;refine two o l S h fun x y n2 v w H2 r2 e I L Y=>?_;exact zuS C.hd (Own C Z σ) H2 v w x y Q _ (fun p=>I.dom) L Y r2 fun z u H' rz G J=>U z n2 u H' rz (e.trans G.ext) (I.hnd.same G) J
theorem Qf{k:Int×Int}{ks:KT2}{d:af}{R:af->Prop}(o:valT ks k=some d)(h:R d):oIxZ (.dict (Jm ks)) (.tuple [.int k.1,.int k.2]) R:=⟨k,ks,d,rfl,rfl,o,h⟩
def dDtt(i:Nat):DTE:=fun l n R=>match l[i]? with|some (some (.dtt ks))=>R (.dict (Jm ks)) n|_=>False
theorem zr4(i:Nat){U:Pos}(I:X.N[i]?=some x:=by rfl)(y:Vis X.env.scope x:=by walk_at "V")(hd:(x == ("__debug__":Str))=false:=by rfl)
  (v:(x == ("__classdict__":Str))=false:=by rfl):DS X (.Return (some (.Name x U)) pos) (sRet (dDtt i)):=by
 refine⟨_,ZE (Qb I y hd v),fun C Z σ H n D D' S h g=>?_⟩;unfold sRet dDtt at h;split at h;rename_i ks e;obtain⟨p,zs,ep,h1,G,Y,L⟩:=S.dtt i ks e;exact⟨.ref p,h1,g.rt _ n _ H h S.hnd (fun a o J _ _=>J) (.dcT G L (Y.mono (fun _ _ _ z=>.inl z) fun _ _ _ z=>z) rfl)⟩;exact h.elim
instance zx5 {i:Nat}{ks:KT2}{ρ:En}{n:Nat}{R:qN}[h:GetN ρ i (some (.dtt ks))]:Stp (dDtt i ρ n R) (R (.dict (Jm ks)) n):=⟨fun k=>by unfold dDtt;rw[h.e];exact k⟩
end
abbrev PR:=List ((Int×Int)×(Int×Int))
def twoD(q:Int×Int):af:=.tuple [.int q.1,.int q.2]
def prK(qs:PR):KT2:=qs.map fun q=>(q.1,twoD q.2)
def valP(qs:PR)(k:Int×Int):Option (Int×Int):=(qs.find? fun q=>decide (q.1=k)).map (·.2)
theorem Qe{qs:PR}{k:Int×Int}:valT (prK qs) k=(valP qs k).map twoD:=by
 unfold valT valP prK;induction qs with
 | nil=>rfl
 | cons q qs l =>rw[aN,cD,cD];dsimp only;cases decide (q.1=k);exact l;rfl
abbrev upH(b:Int×Int):Int×Int:=(cL b.1 (2 ^ (b.2 - 1).toNat),b.2 - 1)
abbrev loH(b:Int×Int):Int×Int:=(b.1,b.2 - 1)
def bpD(no al:Bool)(qs:PR)(b:Int×Int):Option (Int×Int) :=
 if no then some (0,1) else if al then some (1,0) else match valP qs (loH b),valP qs (upH b) with
  | some x,some y=>some (if x.2+y.2+1<x.1+y.1 then x.2+y.2+1 else x.1+y.1,if x.1+y.1+1<x.2+y.2 then x.1+y.1+1 else x.2+y.2)
  | _,_=>none
def optD:Option (Int×Int)->af|some q=>twoD q|none=>.none
def HasN(ps:qB)(b:Int×Int):Prop:=∀p∈ps,eB p<=b.1\/eB b<=p.1
def HasA(ps:qB)(b:Int×Int):Prop:=∃p∈ps,p.1<=b.1/\eB b<=eB p
def rgtD(o:Option (Int×Int))(q:Int×Int):Bool:=match o with|some m=>decide (q.1<=m.1)&&decide (q.2<=m.2)|none=>false
theorem zgP{ps:qB}{b:Int×Int}(h:b.2=0):HasN ps b\/HasA ps b:=by
 have e:eB b=b.1+1:=by unfold eB;rw[h];rfl
 by_cases q:∃p∈ps,p.1<=b.1/\b.1<eB p;obtain⟨p,o,h1,u⟩:=q;exact .inr ⟨p,o,h1,by lia⟩;refine .inl fun p o=>?_;by_cases z:eB p<=b.1;exact .inl z;refine .inr ?_;by_cases y:p.1<=b.1;exact absurd ⟨p,o,y,by lia⟩ q;lia
section
variable{bits:Int}{ps bs:BL}{b c:Int×Int}
theorem up_eq(B:IsBk bits b.1 b.2)(h:1<=b.2):upH b=(b.1+2 ^ (b.2 - 1).toNat,b.2 - 1):=by
 have e:=B.x1 (by lia);have p:(2:Int) ^ b.2.toNat=2*2 ^ (b.2 - 1).toNat:=by
  have:b.2.toNat=(b.2 - 1).toNat+1:=by lia
  rw[this,bH];lia
 unfold upH;rw[e,p];congr 1;lia
theorem Z7(h:1<=b.2):(2:Int) ^ b.2.toNat=2*2 ^ (b.2 - 1).toNat:=by
 have:b.2.toNat=(b.2 - 1).toNat+1:=by lia
 rw[this,bH];lia
theorem zwZ(B:IsBk bits b.1 b.2)(h:1<=b.2):IsBk bits (loH b).1 (loH b).2:=by
 obtain⟨h0,h1,k,l,e,u⟩:=B;refine⟨by show 0<=b.2 - 1;lia,by show b.2 - 1<=bits;lia,2*k,by lia,?_,?_⟩;show b.1=2*k*2 ^ (b.2 - 1).toNat;rw[e,Z7 h,cA 2 k,cS];show 2*k<2 ^ (bits - (b.2 - 1)).toNat;have:(bits - (b.2 - 1)).toNat=(bits - b.2).toNat+1:=by lia
 rw[this,bH];lia
theorem zv7(B:IsBk bits b.1 b.2)(h:1<=b.2):IsBk bits (upH b).1 (upH b).2:=by
 rw[up_eq B h];obtain⟨h0,h1,k,l,e,u⟩:=B;refine⟨by show 0<=b.2 - 1;lia,by show b.2 - 1<=bits;lia,2*k+1,by lia,?_,?_⟩;show b.1+2 ^ (b.2 - 1).toNat=(2*k+1)*2 ^ (b.2 - 1).toNat;rw[e,Z7 h,dP,cx,cA 2 k,cS];show 2*k+1<2 ^ (bits - (b.2 - 1)).toNat;have:(bits - (b.2 - 1)).toNat=(bits - b.2).toNat+1:=by lia
 rw[this,bH];lia
theorem zl7(B:IsBk bits b.1 b.2)(C:IsBk bits c.1 c.2)(h:b.2=c.2){x:Int}(x1:b.1<=x/\x<eB b)(l:c.1<=x/\x<eB c):b=c:=by
 have e:eB b - b.1=eB c - c.1:=by unfold eB;rw[h];lia
 rcases Z5 B C x1 l with z|z;exact dz (by lia) h;exact dz (by lia) h
theorem zki(B:IsBk bits b.1 b.2)(C:IsBk bits c.1 c.2)(u:1<=b.2)(hc:1<=c.2){d:Int×Int}(h1:d=loH b\/d=upH b)(l:d=loH c\/d=upH c):b=c:=by
 have I:=Z7 (b:=b) u;have pc:=Z7 (b:=c) hc;have G:=Bd.Qc (b.2 - 1).toNat;have L:=Bd.Qc (c.2 - 1).toNat;rw[up_eq B u]at h1;rw[up_eq C hc]at l;have y:d.2=b.2 - 1:=by rcases h1 with rfl|rfl <;> rfl
 have J:d.2=c.2 - 1:=by rcases l with rfl|rfl <;> rfl
 have v:b.1<=d.1/\d.1<eB b:=by unfold eB;rcases h1 with rfl|rfl <;> constructor <;> dsimp only <;> lia
 have x:c.1<=d.1/\d.1<eB c:=by unfold eB;rcases l with rfl|rfl <;> constructor <;> dsimp only <;> lia
 exact zl7 B C (by lia) v x
def Prt(ps:BL)(b:Int×Int):Prop:=¬HasN ps b/\¬HasA ps b
theorem Prt.pos(h:Prt ps b)(B:IsBk bits b.1 b.2):1<=b.2:=by have h0:=B.1;by_cases z:b.2=0;rcases zgP (ps:=ps) z with q|q;exact absurd q h.1;exact absurd q h.2;lia
theorem Prt.inn(h:Prt ps b)(B:IsBk bits b.1 b.2)(P:Bks bits ps):∃p∈ps,b.1<=p.1/\p.1<eB b:=by
 refine bu fun no=>h.1 fun p l=>?_;refine bu fun z=>?_;have pp:=Qa p;have u:=Qa b;have x1:b.1<eB p:=by lia
 have o:p.1<eB b:=by lia
 by_cases q:b.1<=p.1;exact no ⟨p,l,q,o⟩;rcases Z5 B (P p l) (x:=b.1) ⟨aO _,u⟩ ⟨by lia,x1⟩ with z|z;lia;exact h.2 ⟨p,l,z.1,z.2.1⟩
structure PInv(bits:Int)(ps bs:BL)(k:Nat):Prop where
 bk:Bks bits bs
 nd:bs.Nodup
 root:bs[0]?=some (0,bits)
 par:∀c∈bs,c=(0,bits)\/∃(j:Nat) (b:Int×Int),j<k/\bs[j]?=some b/\Prt ps b/\(c=loH b\/c=upH b)
 kid:∀(j:Nat) (b:Int×Int),j<k->bs[j]?=some b->Prt ps b->(∃i,j<i/\bs[i]?=some (loH b))/\∃i,j<i/\bs[i]?=some (upH b)
 cnt:∃ds:BL,ds.Nodup/\(∀d∈ds,Prt ps d/\∃j,j<k/\bs[j]?=some d)/\bs.length=1+2*ds.length
theorem PInv.start(u:0<=bits):PInv bits ps [(0,bits)] 0 where
 bk:=fun b o=>by cases aC.mp o;exact⟨u,aO _,0,aO _,by simp,Bd.Qc _⟩
 nd:=by simp
 root:=rfl
 par:=fun c hc=>.inl (aC.mp hc)
 kid:=fun j b v=>by lia
 cnt:=⟨[],.nil,(fun d h=>nomatch h),rfl⟩
theorem PInv.no{k:Nat}(I:PInv bits ps bs k)(x:bs[k]?=some b)(h:¬Prt ps b):PInv bits ps bs (k+1) where
 bk:=I.bk
 nd:=I.nd
 root:=I.root
 par:=fun c hc=>by rcases I.par c hc with z|⟨j,b,v,r⟩;exact .inl z;exact .inr ⟨j,b,by lia,r⟩
 kid:=fun j c J hc o=>by by_cases e:j=k;subst e;rw[x]at hc;cases hc;exact absurd o h;exact I.kid j c (by lia) hc o
 cnt:=by obtain⟨ds,u,y,C⟩:=I.cnt;exact⟨ds,u,fun d hd=>by obtain⟨a,j,v,G⟩:=y d hd;exact⟨a,j,by lia,G⟩,C⟩
theorem PInv.yes{k:Nat}(b0:0<=bits)(I:PInv bits ps bs k)(v:bs[k]?=some b)(h:Prt ps b):PInv bits ps (bs++[loH b,upH b]) (k+1):=by
 have J:=(av.mp v).1;have B:=I.bk b (aA v);have h1:=h.pos B;have pb:=Z7 (b:=b) h1;have qb:=Bd.Qc (b.2 - 1).toNat;have old:∀{j:Nat} {c:Int×Int},bs[j]?=some c->(bs++[loH b,upH b])[j]?=some c:=fun {j c} L=>by rw[bV (av.mp L).1];exact L
 have fresh:∀d,(d=loH b\/d=upH b)->d∉bs:=by
  intro d hd hm;rcases I.par d hm with z|⟨j,c,C,u,j3,j4⟩;have:d.2=b.2 - 1:=by rcases hd with rfl|rfl <;> rfl
  have e2:=B.2.1;rw[z]at this;have this:bits=b.2 - 1:=this;lia;have S:=I.bk c (aA u);have:=zki B S h1 (j3.pos S) hd j4;subst this;have:=(gT (gn C J) I.nd).mp (u.trans v.symm);lia
 have ne:loH b≠upH b:=by rw[up_eq B h1];intro e;have:=congrArg nt e;dsimp only at this;lia
 have l0:(bs++[loH b,upH b])[bs.length]?=some (loH b):=by simp
 have l1:(bs++[loH b,upH b])[bs.length+1]?=some (upH b):=by simp
 refine⟨?_,?_,?_,?_,?_,?_⟩;intro c hc;rcases aW.mp hc with hc|hc;exact I.bk c hc;simp only[ay,a8,or_false]at hc;rcases hc with rfl|rfl;exact zwZ B h1;exact zv7 B h1;rw[eh];refine⟨I.nd,by simp[ne],fun x hx y G e=>?_⟩;subst e;simp only[ay,a8,or_false]at G;exact fresh x G hx;exact old I.root;intro c hc;rcases aW.mp hc with hc|hc;rcases I.par c hc with z|⟨j,d,C,u,r⟩;exact .inl z;exact .inr ⟨j,d,by lia,old u,r⟩;simp only[ay,a8,or_false]at hc;exact .inr ⟨k,b,by lia,old v,h,hc⟩;intro j c L hc hp;by_cases e:j=k;subst e;have:c=b:=by have:=old v;rw[hc]at this;exact aE this
 subst this;exact⟨⟨bs.length,J,l0⟩,bs.length+1,by lia,l1⟩;have jl:j<bs.length:=by lia
 rw[bV jl]at hc;obtain⟨⟨i1,a1,a2⟩,Z,Y,c2⟩:=I.kid j c (by lia) hc hp;exact⟨⟨i1,a1,old a2⟩,Z,Y,old c2⟩;obtain⟨ds,U,R,d3⟩:=I.cnt;refine⟨ds++[b],?_,?_,by simp[d3];lia⟩;rw[eh];refine⟨U,by simp,fun x hx y G e=>?_⟩;subst e;cases aC.mp G;obtain⟨_,j,C,u⟩:=R _ hx;have:=(gT (gn C J) I.nd).mp (u.trans v.symm);lia;intro d hd;rcases aW.mp hd with hd|hd;obtain⟨a,j,C,u⟩:=R d hd;exact⟨a,j,by lia,old u⟩;cases aC.mp hd;exact⟨h,k,by lia,old v⟩
end
theorem zka{α o:Type}(ps:List o):∀xs:List α,(xs.flatMap fun h=>ps.map fun p=>(h,p)).length=xs.length*ps.length
 | []=>by simp
 | x::xs=>by rw[rn,ba,zka ps xs,aG,aH,Nat.succ_mul,Nat.add_comm]
section
variable{bits:Int}{ps bs:BL}{b c:Int×Int}
theorem zmq(L:bits<=64)(P:Bks bits ps){ds:BL}(nd:ds.Nodup)(h:∀d∈ds,Prt ps d/\IsBk bits d.1 d.2):ds.length<=65*ps.length:=by
 classical
 let g:Int×Int->Int×Int:=fun d=>if h:∃p∈ps,d.1<=p.1/\p.1<eB d then h.choose else(0,0)
 have v:∀d∈ds,g d∈ps/\d.1<=(g d).1/\(g d).1<eB d:=fun d hd=>by obtain⟨p,B⟩:=h d hd;have ex:=p.inn B P;have e:g d=ex.choose:=dif_pos ex;rw[e];exact ex.choose_spec
 have y:(ds.map fun d=>(d.2,g d)).Nodup:=by refine cJ.mpr (iw ?_ nd);intro a c I hc n e;have C:=congrArg nt e;have G:=congrArg x6 e;dsimp only at C G;have ga:=v a I;have J:=v c hc;rw[<- G]at J;exact n (zl7 (h a I).2 (h c hc).2 C ga.2 J.2)
 have:=zj2 (ys:=((fZ 65).map fun i:Nat=>(i:Int)).flatMap fun h=>ps.map fun p=>(h,p)) y fun x hx=>by obtain⟨d,hd,rfl⟩:=bc.mp hx;rw[sf];have B:=(h d hd).2;have h0:=B.1;have h1:=B.2.1;exact⟨d.2,bc.mpr ⟨d.2.toNat,n8.mpr (by lia),by lia⟩,bc.mpr ⟨g d,(v d hd).1,rfl⟩⟩
 rw[zka,aG,aG,i6]at this;exact this
theorem PInv.len{k:Nat}(v:bits<=64)(P:Bks bits ps)(I:PInv bits ps bs k):bs.length<=1+130*ps.length:=by
 obtain⟨ds,l,u,x⟩:=I.cnt;have:=zmq v P l fun d hd=>by obtain⟨a,j,_,o⟩:=u d hd;exact⟨a,I.bk d (aA o)⟩
 lia
def msz(bs:BL):Nat:=(bs.map fun b=>2 ^ (b.2.toNat+1) - 1).sum
theorem zrr(xs ys:BL):msz (xs++ys)=msz xs+msz ys:=by simp[msz]
theorem zp3{k:Nat}(l:bs[k]?=some b):msz (bs.drop (k+1))<msz (bs.drop k):=by
 have o:=(av.mp l).1;have e:bs.drop k=b::bs.drop (k+1):=by rw[bZ o];rw[au o]at l;rw[aE l]
 rw[e];have:1<2 ^ (b.2.toNat+1):=Nat.one_lt_two_pow (by lia);simp only[msz,aN,vp];lia
theorem zrq{k:Nat}(l:bs[k]?=some b)(h:1<=b.2):msz ((bs++[loH b,upH b]).drop (k+1))<msz (bs.drop k):=by
 have u:=(av.mp l).1;have e:bs.drop k=b::bs.drop (k+1):=by rw[bZ u];rw[au u]at l;rw[aE l]
 rw[List.drop_append_of_le_length (by lia),zrr,e];have p:2 ^ (b.2.toNat+1)=2*2 ^ b.2.toNat:=by rw[lF];lia
 have q:(b.2 - 1).toNat+1=b.2.toNat:=by lia
 have pos:1<=2 ^ b.2.toNat:=Nat.one_le_two_pow;simp only[msz,aN,vp,dY,List.sum_nil,q];lia
end
section
variable{prog:aL}{w:aZ}{A:bg}{E:qV}{s:aq}
theorem zfM{T newId T':String}{I:cc}{args:List ag}{Q:qV}
  (h1:(aV T == aV "type")=false)
  (h2:((t8 T).bind (·.mro.findSome? fun t=>(t8 t).bind fun b=>if b.noNew then some true else if b.attrs.any (·.1 == "__new__") then some false else none)).getD false=false)
  (U:∃c G,mroOf (.type T)=pure (c::G)) (v:Bind.madeBy (.type T)=pure (some newId)) (plain:plainId newId=true) (L:isSubtype (.type T') (.type T)=pure false)
  (J:checkTypeCall T ⟨args,[]⟩=pure ()) (x:checkBuiltinCall newId ⟨.type T::args,[]⟩=pure ()) (Y:entryFor table newId=some I)
  (h:wpAny (model prog w) A.in1.in1 (I ⟨.type T::args,[]⟩) (fun fin l=>∃obj,fin=x8 (x9 obj)/\l.TypeIs obj T'/\Q obj l) E s) :
  wpAny (model prog w) A (call (.type T) args) Q E s:=by
 obtain⟨c,G,C⟩:=U;refine wpAny_call (sO ?_);show wpAny _ _ (callAny (.type T) _) _ _ _;refine ae ⟨fz _ (by decide +kernel),cT F.entry_type_call ?_⟩;rw[Around.under_plain (weight_type_call_type T args []) (units_type_call_type T args [])]
 repeat (any_goals (first|assumption|wp_step))
 refine iS (R:=wants (fun obj l=>l.TypeIs obj T'/\Q obj l) E) (kX plain Y (iO x ?_)) fun r l u=>?_;exact cz h (fun fin s1 ⟨obj,e,q⟩=>by subst e;exact q) (fun _ _ z=>z)
 ·cases r with
  | error e=>exact u
  | ok fl =>
   cases fl with
   | ret obj =>
    obtain⟨N,Z⟩:=u;show wpAny _ _ (isInstance obj (.type T) >>= _) _ _ l;refine aa (fw N L ?_)
    repeat (any_goals (first|assumption|wp_step))
   | _=>exact u.elim
theorem zhC{l:aj}{its:Array ag}{n:Nat}{Q:qV}(x:s.heap.get? l=some { cls:=.type "list",dict:=none,data:=.seq its n,slots:=#[] }) (h:Q (.ref s.heap.objs.size) { s with heap:=s.heap.push { cls:=.type "list_reverseiterator",data:=.fields #[.ref l,.int (its.size - 1) 0] } }) :
  wpAny (model prog w) A (cc.«reversed.__new__» ⟨[.type "reversed",.ref l],[]⟩) (fun fin o=>∃obj,fin=x8 (x9 obj)/\Q obj o) E s:=by
 have I:isSubtype (.type "reversed") (.type "reversed")=pure true:=by kernel_rfl
 have C:s.TypeIs (.ref l) "list":=⟨_,x,rfl⟩;have J:=fB.lookup;have G:=fB.bind (.ref l);unfold cc.«reversed.__new__»
 repeat (any_goals (first|assumption|wp_step))
 refine iS (R:=wants Q E) (kX fB.plain PySem.F.entry_list_reversed (fB.check _ _ _ _ _ _ _ _ C (PySem.F.args_list_reversed_1 _) (nY l its n prog w A (wants Q E) s ⟨x,by simpa[rawInt,wants] using h⟩))) fun r s1 u=>?_;cases r with
 | error e=>exact u
 | ok fl =>
  cases fl with
  | ret v=>exact ae ⟨_,rfl,u⟩
  | _=>exact u.elim
theorem zg6{l:aj}{its:Array ag}{n:Nat}{Q:qV}(o:s.heap.get? l=some { cls:=.type "list",dict:=none,data:=.seq its n,slots:=#[] }) (h:Q (.ref s.heap.objs.size) { s with heap:=s.heap.push { cls:=.type "list_reverseiterator",data:=.fields #[.ref l,.int (its.size - 1) 0] } }) :
  wpAny (model prog w) A (call (.type "reversed") [.ref l]) Q E s:=by
 refine zfM (T:="reversed") (newId:="reversed.__new__") (T':="list_reverseiterator") (by decide) (by decide +kernel) ⟨.type "reversed",[.type "object"],by rw[mroOf_type];kernel_rfl⟩ (by kernel_rfl) (by decide +kernel) (by kernel_rfl) ?_ ?_ (by kernel_rfl) (zhC o ⟨⟨_,aw _ rfl,rfl⟩,h⟩);kernel_rfl;kernel_rfl
end
theorem Vo:y8 "list_reverseiterator" "__next__" "list_reverseiterator.__next__" :=
 .of (owner:="list_reverseiterator") (n:="__next__") (by rw[gG,eG];kernel_rfl) (by decide +kernel) (by decide +kernel) (by decide +kernel) (by decide +kernel) (by kernel_rfl)
theorem zdq:y8 "list_reverseiterator" "__iter__" "list_reverseiterator.__iter__" :=
 .of (owner:="list_reverseiterator") (n:="__iter__") (by rw[gG,eG];kernel_rfl) (by decide +kernel) (by decide +kernel) (by decide +kernel) (by decide +kernel) (by kernel_rfl)
theorem zc6:entryFor table "list_reverseiterator.__next__" = some cc.«list_reverseiterator.__next__»:=si (by kernel_rfl)
theorem zdP(a:ag):argsOk "list_reverseiterator.__next__" ⟨[a],[]⟩:=by unfold argsOk;kernel_rfl
def IsRevIter(h:a9)(it l:aj)(j:Int):Prop:=∃o,h.get? it=some o/\o.cls=.type "list_reverseiterator" /\ o.data=.fields #[.ref l,.int j 0]
section
variable{prog:aL}{w:aZ}{A:bg}{E:qV}{s:aq}
theorem zl4{a:aj}{o:Obj}{its:Array ag}{n:Nat}{Q:Option (Array ag)->aq->Prop}(l:s.heap.get? a=some o)(hd:o.data=.seq its n)(h:Q (some its) s):wpAny (model prog w) A (seqItems? (.ref a)) Q E s:=by show wpAny _ _ (load a >>= _) _ _ s;refine aa (lL l ?_);rw[hd];exact ae h
theorem zoF{it l:aj}{its:Array ag}{j:Nat}{x:ag}{Q:Option ag->aq->Prop}(hi:IsRevIter s.heap it l (j:Int))(G:s.heap.IsList l its)(hx:its[j]?=some x)
  (C:∀h',IsRevIter h' it l ((j:Int) - 1)->cH it s.heap h'->Q (some x) { s with heap:=h' }):wpAny (model prog w) A (pyNext (.ref it)) Q E s:=by
 obtain⟨o,v,hc,hd⟩:=id hi;obtain⟨J,gl,cl,n,dl⟩:=id G;have ty:s.TypeIs (.ref it) "list_reverseiterator":=⟨o,v,hc⟩;unfold pyNext;refine aa (eR ?_);refine bo (name:=aR "__next__") ty Vo ?_;refine a7 Vo ty zc6 ?_ (zdP _);unfold cc.«list_reverseiterator.__next__»;refine aa (ae ?_);refine aa (bW v hd (x:=.int (j:Int) 0) rfl ?_);have nn:¬((j:Int)<0):=by lia
 show wpAny _ _ (if (j:Int)<0 then _ else _) _ _ _;rw[if_neg nn];refine aa (bW v hd (x:=.ref l) rfl ?_);refine aa (zl4 gl dl ?_);show wpAny _ _ (match its[(j:Int).toNat]? with|some x=>_|_=>_) _ _ _;rw[bt,hx];refine aa (cP v hd (by simp) ?_);have y:IsRevIter (s.heap.update it (gL (·.setIfInBounds 1 (rawInt ((j:Int) - 1))))) it l ((j:Int) - 1) :=
  ⟨_,br _ v (df (bQ hd _)),(fH ..).trans hc,by rw[bQ hd];simp[rawInt]⟩
 exact ae ⟨_,rfl,ae (C _ y (cX ..))⟩
theorem zqI{it l:aj}{Q:Option ag->aq->Prop}(C:A.handled=none)(hi:IsRevIter s.heap it l (-1))(I:∀h',mI it s.heap h'->Q none { s with heap:=h' }):wpAny (model prog w) A (pyNext (.ref it)) Q E s:=by obtain⟨o,v,hc,hd⟩:=id hi;have ty:s.TypeIs (.ref it) "list_reverseiterator":=⟨o,v,hc⟩;unfold pyNext;refine aa (eR ?_);refine bo (name:=aR "__next__") ty Vo ?_;refine a7 Vo ty zc6 ?_ (zdP _);unfold cc.«list_reverseiterator.__next__»;refine aa (ae ?_);refine aa (bW v hd (x:=.int (-1) 0) rfl ?_);show wpAny _ _ (if (-1:Int)<0 then _ else _) _ _ _;rw[if_pos (by decide)];refine aa (cK ?_);refine aa ?_;unfold rq;show wpAny _ _ (newExc (.type "StopIteration") [] >>= _) _ _ _;refine aa ?_;simp only[newExc,newTuple];refine aa (aX ?_ (by size_fits));refine aa (m:=firstArgMember _ _) (iO (a:=b8) (by first|rfl|(simp only[firstArgMember];rfl)) ?_);refine aX ?_ (by size_fits);simp only[raiseNew];refine aa (kK ?_);have u:A.in1.handled=none:=C;rw[u];refine aa (ae (mJ ?_));refine aa (fw (T:="StopIteration") (b:=true) ⟨_,aw _ rfl,rfl⟩ i5 (ae (I _ ?_)));have G:mI it s.heap s.heap:=fun b o _ e=>e;exact su (su G _) _
end
section
variable{X:Cx}{iter tg:aY}{dd:DTE}
theorem zfK:entryFor table "list_reverseiterator.__iter__" = some cc.«dict_keyiterator.__iter__»:=oG (id':="dict_keyiterator.__iter__") (by kernel_rfl) rfl (by decide +kernel) (by kernel_rfl)
theorem zhb(a:ag):argsOk "list_reverseiterator.__iter__" ⟨[a],[]⟩:=by unfold argsOk;kernel_rfl
theorem zjQ{it l:aj}{j:Int}{prog:aL}{w:aZ}{A:bg}{E:qV}{s:aq}{Q:qV}(hi:IsRevIter s.heap it l j)(h:Q (.ref it) s):wpAny (model prog w) A (pyIter (.ref it)) Q E s:=by obtain⟨o,u,hc,hd⟩:=hi;have ty:s.TypeIs (.ref it) "list_reverseiterator":=⟨o,u,hc⟩;refine gS ty zdq (a7 zdq ty zfK ?_ (zhb _));show wpAny _ _ (ret (.ref it)) _ _ s;exact ae ⟨_,rfl,"list_reverseiterator",_,ty,Vo.lookup,h⟩
def ItV(a:aj)(vs:List V):It :=
 ⟨fun i H=>H a=some (.lst vs)/\i<vs.length,fun i H x H'=>H'=H/\vs.reverse[i]?=some x,fun i H=>H a=some (.lst vs)/\vs.length<=i⟩
theorem zoo{P:aL}{w:aZ}{K:qF}{tg:aY}(a it:aj)(vs:List V):Turn P w K tg (ItV a vs) [it] it (fun i h=>i<=vs.length/\IsRevIter h it a ((vs.length:Int) - 1 - (i:Int))) where
 mem:=by simp
 obj:=fun i h st b y=>by
  have e:b=it:=by simpa using y
  subst e;obtain⟨_,o,e,c,d⟩:=st;exact⟨o,e,fun v z=>by rw[d]at z;cases z⟩
 keep:=fun i h h' st k=>by obtain⟨l,o,e,r⟩:=st;exact⟨l,o,k it (by simp) o e,r⟩
 item:=by
  intro X N hw J hc i pins s σ H E I hf st U;subst N hw J;obtain⟨Y,hi⟩:=U;obtain⟨its,Z,p,hz⟩:=I.list (.of Y);have hl:=Z.length;have hx:vs.reverse[i]?=some (vs.reverse[i]'(by simpa using hi)):=au (by simpa using hi);generalize vs.reverse[i]'(by simpa using hi)=x at hx;have S:vs[vs.length - 1 - i]?=some x:=by rw[<- hx,fC hi]
  obtain⟨u,hu,ru⟩:=Z.get S;obtain⟨f0,f1,f2,L,f4,R⟩:=hf it (by simp);have G:(vs.length:Int) - 1 - (i:Int)=((vs.length - 1 - i:Nat):Int):=by lia
  obtain⟨_,st⟩:=st;rw[G]at st;refine zoF st p.isList (x:=u) (by simpa using hu) fun h' C sb=>?_;have I1:Inv X pins σ H { s with heap:=h' }:=I.turned (t':=s.toks) (fun b o y e=>(sb.2 b y).trans e) f0 f1 L f4 R;obtain⟨o,e,c,d⟩:=id C;exact⟨u,rfl,Y9 (s:={ s with heap:=h' }) e c d (by decide) ⟨x,H,I1,ru,⟨rfl,hx⟩,⟨hi,by
   have e2:(vs.length:Int) - 1 - ((i+1:Nat):Int)=((vs.length - 1 - i:Nat):Int) - 1:=by lia
   rw[e2];exact C⟩,fun b y=>(hf b y).1⟩⟩
 done:=by
  intro X N hw J hc i pins s σ H E I hf st U;subst N hw J;obtain⟨Y,hi⟩:=U;obtain⟨f0,f1,f2,L,f4,R⟩:=hf it (by simp);obtain⟨l,st⟩:=st;have G:(vs.length:Int) - 1 - (i:Int)=-1:=by lia
  rw[G]at st;exact zqI (I.ok.hd hc) st fun h' eb=>⟨rfl,I.turned (t':=s.toks) (fun b o y e=>eb b o y e) f0 f1 L f4 R⟩
 self:=fun _ _ _ _ _ st h=>zjQ st.2 h
end
theorem boot_reversed:bootBuiltins "reversed" = some (.type "reversed"):=by first|rfl|kernel_rfl
section
variable{X:Cx}{a tg:aY}{d:DTE}{p pos:Pos}
def iRev(u:TA):TI:=fun σ H R=>u σ H fun vs o=>∃l xs,vs=[.ref l]/\o l=some (.lst xs)/\R (ItV l xs) o
theorem ztr{v:TA}(hg:Gl X "reversed") (hm:X.mg "reversed" = none) (Z:PA X [a] v) (S:starEach [a] X.env=[(false,eval a X.env)]:=by rfl):PI X tg (.Call (.Name "reversed" p) [a] [] pos) (iRev v):=by
 intro pins s σ H R I h;refine Call_ (YJ I hg hm boot_reversed (fi (thn (Z pos pins s σ H _ I h) fun us s1 ⟨vs,H1,u,G,J⟩=>?_) S rfl));obtain⟨l,xs,e,hl,q⟩:=J;subst e;cases G with
 | cons r U =>
  cases U;cases(show _=aJ l from r);obtain⟨z,its,n,rel,g⟩:=u.hok l _ hl;have el:=rel.length;refine zg6 (its:=its.toArray) (n:=n) g ?_;have Y:=u.kept (t':=s1.toks) (h':=s1.heap.push { cls:=.type "list_reverseiterator",data:=.fields #[.ref l,.int (its.toArray.size - 1) 0] }) fun b o e=>ah _ e;have x:IsRevIter (s1.heap.push { cls:=.type "list_reverseiterator",data:=.fields #[.ref l,.int (its.toArray.size - 1) 0] }) s1.heap.objs.size l ((xs.length:Int) - 1 - ((0:Nat):Int)):=by refine⟨_,aw _ rfl,rfl,?_⟩;simp[el]
  refine zjQ x ?_;refine⟨s1.heap.objs.size,[s1.heap.objs.size],_,_,H1,rfl,Y,zoo l _ xs,⟨cO _,x⟩,fun b L=>?_,q⟩;have e:b=s1.heap.objs.size:=by simpa using L
  subst e;exact u.fpOk (ar _) (u.hok.fresh (ar _))
def dItR(d:DTE):DTA:=fun l n R=>d l n fun t o=>lLst t fun ts=>R ts.reverse o
theorem zqf(hm:X.mg "reversed" = none) (h:DE X a d) (hg:Gl X "reversed":=by rfl) (J:starEach [a] X.env=[(false,eval a X.env)]:=by rfl):DI X tg (.Call (.Name "reversed" p) [a] [] pos) (dItR d):=by
 obtain⟨ta,pa,h⟩:=h;refine⟨_,ztr hg hm (QT pa QY J) J,fun C ρ σ H n Q R S hd Z=>?_⟩;refine h C ρ σ H n _ _ S hd fun t n' v H' r Y hn q=>?_;cases t with
 | list ts =>
  obtain⟨l,vs,rfl,h1,no,L⟩:=q.lstI;refine⟨l,vs,rfl,h1,Z _ n' _ H' r Y hn ?_⟩;intro O2 H2 g1 g2 _;have u:=g1 l _ h1 no;have r2:Reps X.K C.hd O2 H2 vs ts:=L.mono (fun a o I z=>bu fun no=>g2 a o I no z) fun a o no I=>g1 a o I no;have U:=L.length;refine⟨fun i t G=>?_,⟨u,by rw[ff,U];exact ar _⟩⟩;have hi:i<ts.length:=by simpa using(av.mp G).1
  refine⟨⟨u,by lia⟩,fun x H3 y=>?_⟩;obtain⟨rfl,y⟩:=y;refine⟨Same.refl _,?_⟩;rw[fC hi]at G;rw[fC (by lia),U]at y;exact r2.getP G y
 | _=>exact r.elim
instance zx3 {d:DTE}{ρ:En}{n:Nat}{R:List af->Nat->Prop}:Stp (dItR d ρ n R) (d ρ n fun t n'=>lLst t fun ts=>R ts.reverse n'):=⟨fun h=>h⟩
end
theorem zjG{qs more:PR}{k v:Int×Int}(h:valP qs k=some v):valP (qs++more) k=some v:=by
 unfold valP at *;rw[rA];cases e:qs.find? fun q=>decide (q.1=k) with
 | none=>rw[e]at h;cases h
 | some q=>rw[e]at h;exact h
theorem zgr{qs:PR}{k:Int×Int}(h:k∈qs.map (·.1)):∃v,valP qs k=some v:=by
 unfold valP;cases e:qs.find? fun q=>decide (q.1=k) with
 | none =>obtain⟨q,l,rfl⟩:=bc.mp h;have:=gy.mp e q l;simp at this
 | some q=>exact⟨q.2,rfl⟩
theorem znY{no al:Bool}{qs more:PR}{b v:Int×Int}(h:bpD no al qs b=some v):bpD no al (qs++more) b=some v:=by
 unfold bpD at *;cases no;cases al;simp only[aI,if_false]at h ⊢;cases e1:valP qs (loH b) with
 | none=>rw[e1]at h;cases h
 | some x =>
  cases e2:valP qs (upH b) with
  | none=>rw[e1,e2]at h;cases h
  | some y =>rw[e1,e2]at h;rw[zjG e1,zjG e2];exact h
 exact h;exact h
theorem zpH{no al:Bool}{qs:PR}{b:Int×Int}(h:no=false->al=false->loH b∈qs.map (·.1)/\upH b∈qs.map (·.1)):∃v,bpD no al qs b=some v:=by unfold bpD;cases no;cases al;obtain⟨h1,u⟩:=h rfl rfl;obtain⟨x,l⟩:=zgr h1;obtain⟨y,o⟩:=zgr u;rw[l,o];exact⟨_,rfl⟩;exact⟨_,rfl⟩;exact⟨_,rfl⟩
theorem zmm{qs:PR}{b v:Int×Int}(h:b∉qs.map (·.1)):putT (prK qs) b (twoD v)=prK (qs++[(b,v)]):=by
 have e:((prK qs).any fun z=>decide (z.1=b))=false:=by rw[mD];intro z hz e;obtain⟨q,l,rfl⟩:=bc.mp hz;exact h (bc.mpr ⟨q,l,of_decide_eq_true e⟩)
 unfold putT;rw[e];simp[prK]
section
variable{X:Cx}{pins:qO}{σ:St}{H:Hp}{s:aq}{a:aj}{zs:ZT}{ep:Nat}{A:bg}{E:qV}
theorem zhd{k:Int×Int}{b:aj}{v:V}{r:ag}{Q:Unit->aq->Prop}(Z:A.units+1<cLine)(I:Inv X pins σ H s)(h:H a=some (ZDO a zs ep))(R:∀z∈zs,SqT X.K H z.2.1 [.int z.1.1,.int z.1.2])(G:SqT X.K H b [.int k.1,.int k.2])(hl:zs.length<sizeLine)(Y:RelV v r)
  (N:∀s' o,Inv X pins σ (upd H a (ZDO a (zput zs k b v) o)) s'->Q () s'):wpAny (model X.prog X.w) A (dictSet a (.ref b) r) Q E s:=by
 obtain⟨L,S,xs,x1,U⟩:=ZC I h R;have J:xs.length<=sizeLine:=by rw[<- cE x1];exact S
 refine pM (hsz:=J) (show A.units<cLine by lia) (UK (k:=kL k) I G) U fun h' u x=>?_;have he:∃q,h'.get? a=some q:=let ⟨q,_,_,e,_⟩:=u;⟨q,e⟩;have y:(zput zs k b v).length<=sizeLine:=by have:=zjD zs k b v;lia
 have ok:∀H':Hp,∃o,JC X.prog X.w H' h' a (ZDO a (zput zs k b v) o):=fun H'=>YG L y (zpL x1 k Y) u;obtain⟨o,C⟩:=ok H;exact N _ o (zjs I (by rw[h];exact iI) x he C)
end
abbrev tdD(tk tv:DTE)(ρ:En)(n:Nat)(acc:KT2)(R:KT2->Nat->Prop):Prop:=tk ρ n fun y n3=>tv ρ n3 fun t n4=>lBlk y fun k=>acc.length<16777216/\R (putT acc k t) n4
def YN(g:DTG)(tt:DTT)(tk l:DTE)(ρ0:En)(xs:qD)(acc:KT2)(n:Nat)(R:KT2->Nat->Prop):Prop:=cGo g tt (tdD tk l) ρ0 xs acc n R
def dCompT(m:Nat)(capt:List Nat)(x:DTA)(g:DTG)(tt:DTT)(tk v:DTE):DTE:=fun l n R=>x l n fun ts o=>YN g tt tk v (JG m capt l) ts [] o fun ks u=>R (.dict (Jm ks)) u
def AD(K:qF)(C:Ctx)(D:aj)(H:Hp)(acc:KT2):Prop:=∃zs ep,H D=some (ZDO D zs ep)/\Jl K C.hd C.ext H zs acc
theorem zvi{K:qF}:AOk (AD K):=fun _ _ _ _ hx u ⟨zs,ep,l,r⟩ =>
 ⟨.inr (.inr ⟨_,l⟩),fun ks z=>(by rw[l]at z;cases z),fun H' e=>⟨zs,ep,e _ _ l u,r.mono (fun _ _ _ z=>z) fun a o no v=>e a o v fun z=>no (hx a z)⟩⟩
def nxD(o l:aY)(acc:ag)(env:Env)(k:Sem Fin):Sem Fin:=do
 (do
  let kv <- eval o env;let vv <- holding [kv] (eval l env);match acc with
  | .ref d=>do
   standAt { o.pos with endLine:=l.pos.endLine,endCol:=l.pos.endCol }
   holding [kv,vv] (dictSet d kv vv)
  | _=>unsupported "internal:dictcomp")
 k
section
variable{X:Cx}{scope:fo}{own:List Str}{capt:List Nat}{kx vx tg iter:aY}{ifs:List aY}{gs:List o6}{pos:Pos}{di:DTA}{is:List Nat}{g:DTG}{tt:DTT}{tk tv:DTE}
theorem zrE:IsC (.DictComp kx vx gs scope pos):=fun _ _ _ _ _ _ _=>⟨⟨rfl,rfl⟩,⟨rfl,rfl⟩,rfl⟩
theorem ztW:NA X.prog X.w newDict fun D u=>∃ep,u=ZDO D [] ep:=fun A E s Q big h=>aX (h _ rfl fun h' e=>by have v:(s.heap.push { cls:=.type "dict",dict:=none,data:=.dict #[] }).DictOfH (tupleKind (Jy X.prog X.w)) s.heap.objs.size []:=kE s.heap;obtain⟨o,es,ep,g1,g2⟩:=v;rw[aw _ rfl]at g1;cases g1;obtain⟨ep,ok⟩:=YG (X:=X) (H':=fun _=>none) (zs:=[]) (beq_eq_false_iff_ne.mpr (dD (aD big))) (cO _) .nil ⟨_,es,ep,e,g2.1,g2.2.1,g2.2.2.1,fun x hx=>absurd hx (by simp),g2.2.2.2.2⟩;exact⟨_,⟨ep,rfl⟩,fun H'=>ok⟩)
theorem zuP(hu:X.A.units+1<cLine)(hk:Fam X scope own capt fun Y=>DE Y kx tk)(he:Fam X scope own capt fun Y=>DE Y vx tv):HM X scope own capt (nxD kx vx) (AD X.K) [] (tdD tk tv):=by obtain⟨gk,pk,U⟩:=DE.fam hk;obtain⟨ge,pe,hge⟩:=DE.fam he;refine⟨fun D σ H N=>gk σ H fun kv H6=>ge σ H6 fun v J=>∃zs ep k b,kv=.ref b/\J D=some (ZDO D zs ep)/\(∀z∈zs,SqT X.K J z.2.1 [.int z.1.1,.int z.1.2])/\SqT X.K J b [.int k.1,.int k.2]/\zs.length<sizeLine/\∀u,N (upd J D (ZDO D (zput zs k b v) u)),fun D C s₀ H₀ Z pins s σ H N k Q E I h hk=>?_,fun C D hD nh ρ σ H n acc N R S _ a r hq=>?_⟩;refine aa (aa (cz (pk C s₀ H₀ Z pins s σ H _ I h) (fun y s9 ⟨kv,H9,I9,r9,q9⟩=>aa (bM (cz (pe C s₀ H₀ Z pins s9 σ H9 _ I9 q9) (fun y2 s10 ⟨v,H10,I10,r10,zs,ep,k,b,ev,L,hsq,hb,hl,q10⟩=>aa (eO (bM ?_))) fun _ _ z=>z.elim))) fun _ _ z=>z.elim));subst ev;cases(show y=aJ b from r9);exact zhd (X:=QN X scope own capt C s₀ H₀ Z) hu I10 L hsq hb hl r10 fun s11 u I11=>hk _ _ I11 (q10 u);refine U C ρ σ H n _ _ S r fun y n6 kv H6 r6 e6 hn6 q6=>?_;have S6:=S.on e6 hn6;refine hge C ρ σ H6 n6 _ _ S6 r6 fun t n7 v J r7 e7 hn7 q7=>?_;obtain⟨k,rfl,hl,c7⟩:=r7;have x:=e7.rep S6.hx q6;obtain⟨b,rfl,sb⟩:=x.bkI;have G:=e6.trans e7;obtain⟨zs,ep,L,z6⟩:=(zvi _ _ _ _ S.hx nh a).2.2 _ G;refine⟨zs,ep,k,b,rfl,L,z6.sq,sb,by rw[z6.length];exact hl,fun u=>hq _ n7 _ c7 (fun c o hc nc ne=>by rw[Jh ne];exact G c o hc nc) (Hn.updR nh (.inr (.inr ⟨_,L⟩)) hn7) ⟨_,u,JE,?_⟩⟩;exact(z6.put k (x.mono (fun _ _ _ z=>.inl z) fun _ _ _ z=>z) (q7.mono (fun _ _ _ z=>.inl z) fun _ _ _ z=>z)).mono (fun _ _ _ z=>z) fun a o no ha=>by rw[Jh (show a≠D from fun z=>no (z▸hD))];exact ha
theorem zpF(hu:X.A.units+1<cLine)(hc:X.calm=true)(S:Jx scope own capt X)(hi:DIL X tg iter di)
  (hg:Fam X scope own capt fun Y=>DG Y tg is g) (v:∀i∈is,i<own.length) (ht:Fam X scope own capt fun Y=>DTs Y ifs tt) (J:Fam X scope own capt fun Y=>DE Y kx tk) (he:Fam X scope own capt fun Y=>DE Y vx tv) (G:∀x,foldedSetIterable iter X.env x=pure x) :
  ∃ge,PE X (.DictComp kx vx [⟨tg,iter,ifs,0⟩] scope pos) ge/\(∀{i:Nat} {x:Str} {u y:Pos},X.N.Nodup->X.N[i]?=some x->Loc X.env.scope x->swapsWith (.DictComp kx vx [⟨tg,iter,ifs,0⟩] scope pos) (some (.Name x u)) y.line X.env=pure true->(X.fn x=true\/X.env.scope.names.lookup x=some .local)->PS X (.Assign [.Name x u] (.DictComp kx vx [⟨tg,iter,ifs,0⟩] scope pos) y) (tAsg ge (Uf i)))/\SpE X.K ge (dCompT own.length capt di g tt tk tv):=by
 obtain⟨ge,p,q,Z⟩:=VV (e:=.DictComp kx vx [⟨tg,iter,ifs,0⟩] scope pos) (a0:=[]) zvi (fun _ _ _ ho ⟨ep,h⟩=>⟨[],ep,by rw[h];exact JE,.nil⟩) hc S ⟨zrE,⟨_,rfl⟩,fun _ _ _=>rfl,fun _=>⟨_,rfl⟩,fun _ _=>⟨_,rfl⟩⟩ ztW hi hg v ht (zuP hu J he) (fun j hj=>absurd hj (by simp)) G;exact⟨ge,p,q,fun C U σ H n Q R St hd I=>Z C U σ H n Q _ St hd fun acc n' H' D r e h hD L ⟨zs,ep,hy,rs⟩=>I _ n' _ H' r e h (.dcT hy L (rs.mono (fun _ _ _ z=>.inl z) fun _ _ _ z=>z) rfl)⟩
theorem zpA(y:X.A.units+1<cLine)(hc:X.calm=true)(S:Jx scope own capt X)(hi:DIL X tg iter di)
  (u:Fam X scope own capt fun Y=>DG Y tg is g) (l:∀i∈is,i<own.length) (I:Fam X scope own capt fun Y=>DTs Y ifs tt) (v:Fam X scope own capt fun Y=>DE Y kx tk) (he:Fam X scope own capt fun Y=>DE Y vx tv)
  (G:∀x,foldedSetIterable iter X.env x=pure x:=by intro _;rfl):DE X (.DictComp kx vx [⟨tg,iter,ifs,0⟩] scope pos) (dCompT own.length capt di g tt tk tv) :=
 let ⟨_,p,_,sp⟩:=zpF y hc S hi u l I v he G
 ⟨_,p,sp⟩
end
section
variable{m:Nat}{capt:List Nat}{di:DTA}{tg:DTG}{tt:DTT}{tk tv:DTE}{ρ ρ0:En}{n:Nat}{R:qN}{Rt:KT2->Nat->Prop}
instance zwJ [h:CompN m capt ρ ρ0]:Stp (dCompT m capt di tg tt tk tv ρ n R) (di ρ n fun ts n1=>YN tg tt tk tv ρ0 ts [] n1 fun ks n'=>R (.dict (Jm ks)) n'):=⟨fun k=>by unfold dCompT;rw[h.e];exact k⟩
theorem zlr{α:Type}{cs:List α}{D:α->af}(F:α->(Int×Int))(G:α->af)(v:cs.length<16777216)
  (step:∀b∈cs,∀(K:af->Nat->af->Nat->Prop) (X:Nat->Prop),K (blkT (F b)) n (G b) n->tg (D b) ρ0 fun o=>tt o n fun c u=>if c=true then tk o u fun y I=>tv o I fun t C=>K y I t C else X u)
  (fin:Rt (cs.foldl (fun acc b=>putT acc (F b) (G b)) []) n):YN tg tt tk tv ρ0 (cs.map D) [] n Rt:=by
 have len:∀(acc:KT2) k t,(putT acc k t).length<=acc.length+1:=fun acc k t=>by unfold putT;split;rw[aG];exact kS _;simp
 have key:∀(xs:List α) (acc:KT2),(∀x∈xs,x∈cs)->acc.length+xs.length<16777216->Rt (xs.foldl (fun acc b=>putT acc (F b) (G b)) acc) n->YN tg tt tk tv ρ0 (xs.map D) acc n Rt:=by
  intro xs;induction xs with
  | nil=>intro acc _ _ h;exact h
  | cons x xs J =>
   intro acc hx v h;have N:acc.length+(xs.length+1)<16777216:=v;exact step x (hx x (.head _)) (fun y _ t C=>lBlk y fun k=>acc.length<16777216/\YN tg tt tk tv ρ0 (xs.map D) (putT acc k t) C Rt) (fun u=>YN tg tt tk tv ρ0 (xs.map D) acc u Rt)
    ⟨F x,rfl,by lia,J _ (fun y L=>hx y (.tail _ L)) (by have:=len acc (F x) (G x);lia) h⟩
 exact key cs [] (fun _ h=>h) (by simpa using v) fin
end
noncomputable def zbk (ps:BL):Nat->Int×Int->Int×Int
 | 0,b=>open Classical in if HasN ps b then(0,1) else(1,0)
 | h+1,b=>open Classical in if HasN ps b then(0,1) else if HasA ps b then(1,0) else
  ((if (zbk ps h (loH b)).2+(zbk ps h (upH b)).2+1<(zbk ps h (loH b)).1+(zbk ps h (upH b)).1 then(zbk ps h (loH b)).2+(zbk ps h (upH b)).2+1 else(zbk ps h (loH b)).1+(zbk ps h (upH b)).1),
   if (zbk ps h (loH b)).1+(zbk ps h (upH b)).1+1<(zbk ps h (loH b)).2+(zbk ps h (upH b)).2 then(zbk ps h (loH b)).1+(zbk ps h (upH b)).1+1 else(zbk ps h (loH b)).2+(zbk ps h (upH b)).2)
structure PrsI(bits:Int)(ps bs:BL)(k:Nat)(qs:PR):Prop where
 keys:qs.map (·.1)=bs.reverse.take k
 pos:∀q∈qs,0<=q.2.1/\0<=q.2.2
 rgt:∀q∈qs,∀no al:Bool,(no=true↔HasN ps q.1)->(al=true↔HasA ps q.1)->bpD no al qs q.1=some q.2
theorem UA{qs:PR}{k v:Int×Int}(h:valP qs k=some v):(k,v)∈qs:=by unfold valP at h;obtain⟨q,h1,o⟩:=cU.mp h;have e:=tx h1;have m:=mj h1;have l:q.1=k:=of_decide_eq_true e;rw[<- l,<- o];exact m
theorem ziL{qs:PR}(nd:(qs.map (·.1)).Nodup){q:(Int×Int)×(Int×Int)}(h:q∈qs):valP qs q.1=some q.2:=by
 induction qs with
 | nil=>cases h
 | cons x xs l =>rw[aN,cj]at nd;unfold valP;rw[cD];by_cases e:x.1=q.1;rw[decide_eq_true e];rcases ay.mp h with rfl|h;rfl;exact absurd (cY (f:=(·.1)) h) (e▸nd.1);rw[decide_eq_false e];rcases ay.mp h with rfl|h;exact absurd rfl e;exact l nd.2 h
theorem zhZ{α:Type}{l:List α}(h:l.Nodup):l.reverse.Nodup:=List.pairwise_reverse.mpr (A2 (fun h=>dD h) h)
section
variable{bits:Int}{ps bs:BL}{b:Int×Int}{qs:PR}{k:Nat}
theorem ztb{α:Type}{l:List α}{k:Nat}{x:α}(h:l.reverse[k]?=some x):k<l.length/\l[l.length - 1 - k]?=some x:=by
 have o:k<l.length:=by simpa using(av.mp h).1
 rw[fC o]at h;exact⟨o,h⟩
theorem zjP{α:Type}{l:List α}{i k:Nat}{x:α}(h:l[i]?=some x)(o:l.length - 1 - k<i):x∈l.reverse.take k:=by
 have hi:=(av.mp h).1;have e:l.reverse[l.length - 1 - i]?=some x:=by rw[fC (by lia)];rw[<- h];congr 1;lia
 refine aA (i:=l.length - 1 - i) ?_;rw[ig (by lia)];exact e
theorem PrsI.start:PrsI bits ps bs 0 []:=⟨rfl,(fun q h=>nomatch h),(fun q h=>nomatch h)⟩
theorem PrsI.step(I:PInv bits ps bs bs.length)(J:PrsI bits ps bs k qs)(U:bs.reverse[k]?=some b){no al:Bool}(Y:no=true↔HasN ps b)(Z:al=true↔HasA ps b):∃v,bpD no al qs b=some v/\b∉qs.map (·.1)/\PrsI bits ps bs (k+1) (qs++[(b,v)]):=by
 obtain⟨hk,S⟩:=ztb U;have kids:no=false->al=false->loH b∈qs.map (·.1)/\upH b∈qs.map (·.1):=fun u C=>by have pr:Prt ps b:=⟨(fun z=>by rw[Y.mpr z]at u;cases u),(fun z=>by rw[Z.mpr z]at C;cases C)⟩;obtain⟨⟨i1,a1,a2⟩,i2,c1,c2⟩:=I.kid _ b (by lia) S pr;rw[J.keys];exact⟨zjP a2 (by lia),zjP c2 (by lia)⟩
 obtain⟨v,l⟩:=zpH kids;have nd:bs.reverse.Nodup:=zhZ I.nd;have fresh:b∉qs.map (·.1):=by
  rw[J.keys];intro m;obtain⟨i,hi⟩:=gN.mp m;have il:i<k:=by have:=(av.mp hi).1;rw[fU]at this;lia
  rw[ig il]at hi;have:=(gT (by rw[ff];lia) nd).mp (hi.trans U.symm);lia
 have pv:0<=v.1/\0<=v.2:=by
  unfold bpD at l;cases no;cases al;simp only[aI,if_false]at l;cases u:valP qs (loH b) with
  | none=>rw[u]at l;cases l
  | some x =>
   cases C:valP qs (upH b) with
   | none=>rw[u,C]at l;cases l
   | some y =>rw[u,C]at l;have px:=J.pos _ (UA u);have py:=J.pos _ (UA C);dsimp only at px py;cases l;dsimp only;constructor <;> split <;> lia
  cases l;decide;cases l;decide
 refine⟨v,l,fresh,?_,?_,?_⟩;rw[eF,J.keys,fV,U];rfl;intro q o;rcases aW.mp o with o|o;exact J.pos q o;cases aC.mp o;exact pv;intro q o N L G R;rcases aW.mp o with o|o;exact znY (J.rgt q o N L G R);cases aC.mp o;have u:N=no:=by rw[dE,G,Y]
 have C:L=al:=by rw[dE,R,Z]
 rw[u,C];exact znY l
def PrOk(bits:Int)(ps:BL)(qs:PR):Prop:=∃bs:BL,PInv bits ps bs bs.length/\PrsI bits ps bs bs.length qs
theorem PrOk.bk(h:PrOk bits ps qs):∀q∈qs,IsBk bits q.1.1 q.1.2:=fun q l=>by obtain⟨bs,I,J⟩:=h;have:=cY (f:=(·.1)) l;rw[J.keys]at this;exact I.bk _ (hW.mp (List.mem_of_mem_take this))
theorem PrOk.nd(h:PrOk bits ps qs):(qs.map (·.1)).Nodup:=by obtain⟨bs,I,J⟩:=h;rw[J.keys,<- ff,dQ];exact zhZ I.nd
theorem PrOk.root(h:PrOk bits ps qs):∃v,valP qs (0,bits)=some v:=by obtain⟨bs,I,J⟩:=h;refine zgr ?_;rw[J.keys,<- ff,dQ];exact hW.mpr (aA I.root)
theorem PrOk.pos(h:PrOk bits ps qs):∀q∈qs,0<=q.2.1/\0<=q.2.2:=by obtain⟨bs,I,J⟩:=h;exact J.pos
theorem PrOk.len(h:PrOk bits ps qs)(l:bits<=64)(P:Bks bits ps):1<=qs.length/\qs.length<=1+130*ps.length:=by
 obtain⟨bs,I,J⟩:=h;have e:qs.length=bs.length:=by have:=congrArg c8 J.keys;simpa using this
 have:=(av.mp I.root).1;have:=I.len l P;lia
theorem PrOk.rgt(h:PrOk bits ps qs):∀q∈qs,∀no al:Bool,(no=true↔HasN ps q.1)->(al=true↔HasA ps q.1)->bpD no al qs q.1=some q.2:=by obtain⟨bs,I,J⟩:=h;exact J.rgt
theorem PrOk.val(h:PrOk bits ps qs):∀(n:Nat),∀q∈qs,q.1.2.toNat=n->q.2=zbk ps n q.1:=by
 classical
 intro n;induction n with
 | zero =>
  intro q u e;have:=h.rgt q u (decide (HasN ps q.1)) (decide (HasA ps q.1)) (by rw[decide_eq_true_eq]) (by rw[decide_eq_true_eq]);unfold bpD at this;unfold zbk;by_cases hn:HasN ps q.1;rw[decide_eq_true hn]at this;rw[if_pos hn];exact(aE this).symm;have l:HasA ps q.1:=by have h0:=(h.bk q u).1;rcases zgP (ps:=ps) (b:=q.1) (by lia) with z|z;exact absurd z hn;exact z
  rw[decide_eq_false hn,decide_eq_true l]at this;rw[if_neg hn];exact(aE this).symm
 | succ n G =>
  intro q u e;have:=h.rgt q u (decide (HasN ps q.1)) (decide (HasA ps q.1)) (by rw[decide_eq_true_eq]) (by rw[decide_eq_true_eq]);unfold bpD at this;unfold zbk;by_cases hn:HasN ps q.1;rw[decide_eq_true hn]at this;rw[if_pos hn];exact(aE this).symm;rw[if_neg hn];rw[decide_eq_false hn]at this;by_cases l:HasA ps q.1;rw[decide_eq_true l]at this;rw[if_pos l];exact(aE this).symm;rw[decide_eq_false l]at this;rw[if_neg l];simp only[aI,if_false]at this;cases e1:valP qs (loH q.1) with
  | none=>rw[e1]at this;cases this
  | some x =>
   cases e2:valP qs (upH q.1) with
   | none=>rw[e1,e2]at this;cases this
   | some y =>rw[e1,e2]at this;have v:=G _ (UA e1) (show(q.1.2 - 1).toNat=n by lia);have C:=G _ (UA e2) (show(q.1.2 - 1).toNat=n by lia);dsimp only at v C;rw[<- v,<- C];exact(aE this).symm
noncomputable def zaX (bits:Int) (ps:BL):Int:=(zbk ps bits.toNat (0,bits)).1
theorem PrOk.many(h:PrOk bits ps qs){v:Int×Int}(l:valP qs (0,bits)=some v):v.1=zaX bits ps:=by unfold zaX;rw[<- h.val _ _ (UA l) rfl]
end
instance zxQ {i:Nat}{ks:KT2}{ρ:En}{n:Nat}{R:qN}[h:GetN ρ i (some (.dtt ks))]:Stp (Vt i ρ n R) (R (.dict (Jm ks)) n):=⟨fun k=>by unfold Vt;rw[h.e];exact k⟩
def Qr(qs:PR)(acc:KT2):KT2:=qs.foldl (fun a q=>putT a q.1 (twoD q.2)) acc
theorem zjn:∀{qs acc:PR},((acc++qs).map (·.1)).Nodup->Qr qs (prK acc)=prK (acc++qs)
 | [],acc,_=>by simp[Qr]
 | q::qs,acc,nd=>by
  have fr:q.1∉acc.map (·.1):=by intro m;rw[eF,eh]at nd;exact nd.2.2 q.1 m q.1 (by simp) rfl
  have:=zjn (qs:=qs) (acc:=acc++[(q.1,q.2)]) (by simpa using nd);unfold Qr at this ⊢;rw[nR,zmm fr,this];simp
theorem zmo{acc:KT2}{k:Int×Int}{t:af}:((putT acc k t).map (·.1)=acc.map (·.1)/\k∈acc.map (·.1))\/((putT acc k t).map (·.1)=acc.map (·.1)++[k]/\k∉acc.map (·.1)):=by unfold putT;by_cases e:(acc.any fun z=>decide (z.1=k))=true;rw[if_pos e];refine .inl ⟨?_,?_⟩;rw[cI];refine fe fun z _=>?_;show(if z.1=k then(z.1,t) else z).1=z.1;split <;> rfl;obtain⟨z,hz,e⟩:=hV.mp e;exact bc.mpr ⟨z,hz,of_decide_eq_true e⟩;rw[if_neg e];refine .inr ⟨by simp,fun m=>?_⟩;obtain⟨z,hz,o⟩:=bc.mp m;exact e (hV.mpr ⟨z,hz,decide_eq_true o⟩)
theorem zg0:∀{qs:PR}{acc:KT2},(acc.map (·.1)).Nodup->(Qr qs acc).length<=acc.length+qs.length/\((Qr qs acc).length=acc.length+qs.length->(acc.map (·.1)++qs.map (·.1)).Nodup)
 | [],acc,nd=>by simp[Qr,nd]
 | q::qs,acc,nd=>by
  rcases zmo (acc:=acc) (k:=q.1) (t:=twoD q.2) with⟨e,m⟩|⟨e,m⟩;have x:=congrArg c8 e;rw[aG,aG]at x;have v:=zg0 (qs:=qs) (acc:=putT acc q.1 (twoD q.2)) (by rw[e];exact nd);have C:Qr (q::qs) acc=Qr qs (putT acc q.1 (twoD q.2)):=rfl;rw[C,aH];exact⟨by have:=v.1;lia,fun z=>by have:=v.1;lia⟩;have x:=congrArg c8 e;rw[aG,ba,aG]at x;have x:(putT acc q.1 (twoD q.2)).length=acc.length+1:=x;have y:((putT acc q.1 (twoD q.2)).map (·.1)).Nodup:=by rw[e,eh];exact⟨nd,by simp,fun a I b G z=>by subst z;cases aC.mp G;exact m I⟩
  have v:=zg0 (qs:=qs) (acc:=putT acc q.1 (twoD q.2)) y;have C:Qr (q::qs) acc=Qr qs (putT acc q.1 (twoD q.2)):=rfl;rw[C,aH];refine⟨by have:=v.1;lia,fun z=>?_⟩;have:=v.2 (by lia);rw[e]at this;simpa using this
theorem zpo{qs:PR}:(Qr qs []).length=qs.length↔(qs.map (·.1)).Nodup:=by constructor;intro h;have:=(zg0 (qs:=qs) (acc:=[]) (by simp)).2 (by simpa using h);simpa using this;intro h;have e:=zjn (qs:=qs) (acc:=[]) (by simpa using h);have v:Qr qs []=prK qs:=e;rw[v,prK,aG]
theorem VW{l:BL}{b:Int×Int}:HasN l b↔∀x,b.1<=x->x<eB b->¬mB x l:=by constructor;rintro h x x0 x1 ⟨p,o,hx⟩;rcases h p o with z|z <;> omega;intro h p o;have pp:=Qa p;have u:=Qa b;refine bu fun z=>?_;exact h (max b.1 p.1) (by omega) (by omega) ⟨p,o,by omega,by omega⟩
abbrev NP:=(Int×Int)×Str
section
variable{tg tg2:DTG}{tt tt2:DTT}{d:DTE}{di2:DTA}{ρ0:En}{n:Nat}
theorem zgm{α:Type}{cs:List α}{D:α->af}{Rl:List af->Nat->Prop}(F:α->af)
  (step:∀b∈cs,∀(K:qN) (X:Nat->Prop),K (F b) n->tg (D b) ρ0 fun o=>tt o n fun c u=>if c=true then d o u K else X u) :
  ∀(xs:List α) (acc:qD),(∀x∈xs,x∈cs)->acc.length+xs.length<=16777216->Rl (acc++xs.map F) n->JO tg tt d ρ0 (xs.map D) acc n Rl
 | [],acc,_,_,h=>by
  have h:Rl acc n:=by simpa using h
  exact h
 | x::xs,acc,hx,hl,h=>by
  have G:acc.length+(xs.length+1)<=16777216:=hl;exact step x (hx x (.head _)) (fun t v=>acc.length<16777216/\JO tg tt d ρ0 (xs.map D) (acc++[t]) v Rl) (fun u=>JO tg tt d ρ0 (xs.map D) acc u Rl)
   ⟨by omega,zgm (cs:=cs) F step xs _ (fun y C=>hx y (.tail _ C)) (by simp;omega) (by simpa using h)⟩
theorem znN{α C:Type}{cs:List α}{D:α->af}{G:C->af}{P:α->List C->Prop}{Rl:List af->Nat->Prop}(m:Nat)(U:∀b u,P b u->u.length<=m)
  (step:∀b∈cs,∀(acc:qD) (K:List af->Nat->Prop) (X:Nat->Prop),acc.length<=m*cs.length->(∀u,P b u->K (acc++u.map G) n)->tg (D b) ρ0 fun v=>tt v n fun c I=>if c=true then di2 v I fun ts N=>JO tg2 tt2 d v ts acc N K else X I)
  (fin:∀o:List (List C),o.length=cs.length->(∀(i:Nat) b u,cs[i]?=some b->o[i]?=some u->P b u)->Rl (o.flatten.map G) n):Uw tg tt di2 tg2 tt2 d ρ0 (cs.map D) [] n Rl:=by
 have key:∀(xs:List α) (acc:qD) (R:List af->Nat->Prop),(∀x∈xs,x∈cs)->acc.length+m*xs.length<=m*cs.length->(∀o:List (List C),o.length=xs.length->(∀(i:Nat) b u,xs[i]?=some b->o[i]?=some u->P b u)->R (acc++o.flatten.map G) n)->Uw tg tt di2 tg2 tt2 d ρ0 (xs.map D) acc n R:=by
  intro xs;induction xs with
  | nil =>
   intro acc R _ _ h;have h:R acc n:=by simpa using h [] rfl (fun i b u e=>by simp at e)
   exact h
  | cons x xs S =>
   intro acc R hx hl h;have hl':acc.length+(m*xs.length+m)<=m*cs.length:=hl;refine step x (hx x (.head _)) acc _ (fun I=>Uw tg tt di2 tg2 tt2 d ρ0 (xs.map D) acc I R) (by omega) fun u J=>?_;refine S (acc++u.map G) R (fun y Y=>hx y (.tail _ Y)) (by have:=U x u J;simp;omega) fun o Z pw=>?_;have:=h (u::o) (by simp[Z]) fun i b vs L ev=>by
    cases i with
    | zero=>cases L;cases ev;exact J
    | succ i=>exact pw i b vs L ev
   simpa[eX] using this
 exact key cs [] Rl (fun _ h=>h) (by simp) (by simpa using fin)
end
end L2
namespace L2
open PySem PySem.Spec PyProof.Rows
def ndup:List Str->Bool
 | []=>true
 | x::l=>!l.any (fun y=>decide (x=y))&&ndup l
theorem ndB{l:List Str}(h:ndup l=true):l.Nodup:=by
 induction l with
 | nil=>exact .nil
 | cons x l o =>simp only[ndup,bq,iX,mD,decide_eq_true_eq]at h;exact cj.mpr ⟨fun m=>h.1 x m rfl,o h.2⟩
def fnB(N P:List Str)(sc:fo):Bool:=(match sc.kind with|.function=>true|_=>false)&&!sc.isCoroutine&&!sc.isGenerator&&ndup N&&decide (N.take P.length=P)&&P.all (fun x=>decide (sc.names.lookup x=some .local\/sc.names.lookup x=some .cell))&&sc.names.all fun y=>decide (y.2≠.free)
theorem fnS{N P:List Str}{sc:fo}(h:fnB N P sc=true):Uv N P sc:=by simp only[fnB,bq,iX,decide_eq_true_eq,b5]at h;obtain⟨⟨⟨⟨⟨⟨a,b⟩,c⟩,d⟩,e⟩,f⟩,g⟩:=h;exact⟨(by cases q:sc.kind <;> rw[q]at a <;> first|rfl|(exact nomatch a)),b,c,ndB d,e,f,g⟩
section
variable{X:Cx}{x:Str}{e:aY}{es:List aY}{d:DTE}{ds:DTA}{pos pos':Pos}
theorem dlv(i:Nat)(u:X.N[i]?=some x:=by rfl)(o:Vis X.env.scope x:=by walk_at "V")(hd:(x == ("__debug__":Str))=false:=by rfl)
  (l:(x == ("__classdict__":Str))=false:=by rfl):DL X (.Name x pos) (dVar i):=dl (Jk i u o hd l)
theorem dli{i j}:DL X (.Constant (.int i) j pos) (dC (.int i)):=dl Jg
theorem dbc(h:DE X e d)(l:DB X es ds)(o:starEach (e::es) X.env=(false,eval e X.env)::starEach es X.env:=by rfl):DB X (e::es) (J1 d ds):=znF h l o
theorem dbv(i:Nat)(u:DB X es ds)(v:X.N[i]?=some x:=by rfl)(o:Vis X.env.scope x:=by walk_at "V")(hd:(x == ("__debug__":Str))=false:=by rfl)
  (l:(x == ("__classdict__":Str))=false:=by rfl):DB X (.Name x pos::es) (J1 (dVar i) ds):=znF (Jk i v o hd l) u rfl
theorem dsv(i:Nat)(u:X.N.Nodup)(h:DE X e d)(hi:X.N[i]?=some x:=by rfl)(hx:Loc X.env.scope x:=by first|exact fk rfl|exact Ah rfl)(v:swapsWith e (some (.Name x pos')) pos.line X.env=pure false:=by rfl)
  (hf:X.fn x=true\/X.env.scope.names.lookup x=some .local:=by walk_at "F"):DS X (.Assign [.Name x pos'] e pos) (sSet i d):=zu7 u hi hx h v hf
theorem dgv(i:Nat)(u:X.N.Nodup)(hi:X.N[i]?=some x:=by rfl)(hx:Loc X.env.scope x:=by first|exact fk rfl|exact Ah rfl)(hf:X.fn x=true\/X.env.scope.names.lookup x=some .local:=by walk_at "F"):DG X (.Name x pos) [i] (JX i):=zr7 u hi hx hf
end
section
variable{X:Cx}{scope:fo}{iter elt:aY}{ifs:List aY}{tg:aY}{pos:Pos}{is:List Nat}{di:DTA}{g:DTG}{tt:DTT}{te:DTE}
theorem dnc(own:List Str)(capt:List Nat)(hi:DIL X tg iter di)(u:Fam X scope own capt fun Y=>DG Y tg is g)(he:Fam X scope own capt fun Y=>DE Y elt te)
  (hc:X.calm=true:=by rfl) (h:zfw scope X.env.scope X.N capt=true:=by rfl) (l:∀i∈is,i<own.length:=by decide) (v:∀x,foldedSetIterable iter X.env x=pure x:=by intro _;rfl):DN X (.ListComp elt [⟨tg,iter,[],0⟩] scope pos) (dComp own.length capt di g dYes te) :=
 zr5 hc (Jx.of h) hi u l (fun _ _ _ _=>Q8) he v
end
end L2
namespace Bd
open PySem PySem.W PySem.Calls L2 PyProof.Rows
abbrev PLs:=List (Str×List (Str×List Str))
abbrev FLs:=List (Str×List Str)
end Bd
namespace Bd
open PySem PySem.W PySem.Calls L2 PyProof.Rows
def Uu(o:String->Option cc)(p:aL)(w:aZ)(l:Nat)(ann:Option ag):Nat->wG->Thread->Option wG
 | 0,_,_=>none
 | n+1,s,t=>match through t with
  | true=>some s
  | false=>match stepOk l ann t with
   | false=>none
   | true=>match stepT (denote o) p w s t with
    | some (s',t')=>Uu o p w l ann n s' t'
    | none=>none
theorem zfV{o:String->Option cc}{p:aL}{w:aZ}{l:Nat}{ann:Option ag}:∀{n:Nat}{s s':wG}{t:Thread},Uu o p w l ann n s t=some s'->topRun o p w l ann n s.abs t=some s'.abs
 | 0,_,_,_,h=>by cases h
 | n+1,s,s',t,h=>by
  unfold Uu at h;unfold topRun;cases he:through t with
  | true=>rw[he]at h;cases h;rfl
  | false =>
   rw[he]at h;cases hk:stepOk l ann t with
   | false=>rw[hk]at h;cases h
   | true =>
    rw[hk]at h;cases hs:stepT (denote o) p w s t with
    | none=>rw[hs]at h;cases h
    | some r=>obtain⟨v,u⟩:=r;rw[hs]at h;dsimp only at h ⊢;rw[stepT_spec hs];exact zfV h
def zp6:List Obj->Nat->BT->BT
 | [],_,t=>t
 | o::r,i,t=>zp6 r (i+1) (t.ins i o)
noncomputable def zsi (P:tU):BT:=zp6 (dw P).objs.toList 0 .nil
noncomputable def zlv (w:aZ) (os:rB):wG:=⟨zsi w.params,11,(dw w.params).life,#[],nK,oP,os⟩
theorem boot_abs(P:tU):absHeap (zsi P) 11 (dw P).life=dw P:=by kernel_rfl
theorem zn0(P:tU):(dw P).objs.size=11:=by kernel_rfl
theorem zsh(P:tU):(dw P).isNs mainGlobals=true:=by kernel_rfl
def Vp(p:aL)(h₀:a9)(l:aq):Bool:=staticsOk (importedModules p.main.body) h₀ l.heap&&namesBound p l.heap&&gensDone l&&laidKept h₀ l.heap
theorem zm0{p q:aL}{loose:List Str}{v:aq->Bool}{α:Type}{x:aq->α}{u:aZ->α}{N:Nat}(e:opening p=plainProg p.main.scope.names)(J:Nat.ble 600 N=true)(L:∀s,fenceModules? p s=some s)
  (run:∀(w:aZ) (os:rB),(Uu treeTable p w 11 ((dw w.params).nsMap mainGlobals "__annotations__") N (zlv w os) (topStub p)).map (fun s=>(Vp p (dw w.params) s.abs,openSeen q loose (importedModules p.main.body) v true s.abs,x s.abs))=some (true,openGood q loose,u w)) :
  LeftO p q loose v x u N true:=fun w=>by
 obtain⟨⟨h,I,d,k,os⟩,y,C⟩:=cU.mp (boot_open e J L w);obtain⟨rfl,rfl,rfl,rfl⟩:h=dw w.params/\I=#[]/\d=nK/\k=oP:=by simpa using C
 obtain⟨o,r,l⟩:=cU.mp (run w os);have G:(zlv w os).abs=⟨dw w.params,#[],nK,oP,os⟩:=by show(⟨absHeap (zsi w.params) 11 (dw w.params).life,#[],nK,oP,os⟩:aq)=_;rw[boot_abs]
 have r:=zfV r;rw[G]at r;obtain⟨R,l2⟩:=oE l;obtain⟨l2,S⟩:=oE l2;have t:topFrom treeTable p w N ⟨dw w.params,#[],nK,oP,os⟩=some o.abs:=by unfold topFrom;dsimp only;rw[zsh,zn0,r];show(match Vp p (dw w.params) o.abs with|true=>_|false=>_)=_;rw[R]
 unfold openEnds;rw[y];show(topFrom treeTable p w N _).map _=_;rw[t];exact congrArg some (dz l2 S)
theorem map3{α l v u C:Type}{o:Option α}{f:α->l×v}{g:α->u×C}{a:l}{y:v}{b:u×C}(h:o.map f=some (a,y))(h1:o.map (fun s=>(g s).1)=some b.1)(J:o.map (fun s=>(g s).2)=some b.2):o.map (fun s=>((f s).1,g s,(f s).2))=some (a,b,y):=by
 cases o with
 | none=>cases h
 | some x =>have e:=aE h;have G:(g x).1=b.1:=aE h1;have I:(g x).2=b.2:=aE J;show some ((f x).1,g x,(f x).2)=_;rw[e,show g x=b from dz G I]
end Bd
namespace L2
open PySem PySem.Spec PyProof.Rows
abbrev GX:=List af->Nat->(af->Nat->Prop)->(Str->Nat->Prop)->Prop
theorem isiF{f:af->Bool}{b:Bool}{t:af}{R:af->Prop}(p:Pln t)(e:f t=b)(h:R (.bool b)):lIsi f t R:=⟨p,e▸h⟩
theorem zpf{d:af}(h:isTup d=true):∃ts,d=.tuple ts:=by
 cases d with
 | tuple ts=>exact⟨ts,rfl⟩
 | _=>cases h
theorem zw0{l:qD}(h:l.length=2):∃a b,l=[a,b]:=by
 cases l with
 | nil=>cases h
 | cons a t =>obtain⟨b,e⟩:=List.length_eq_one_iff.mp (wC h);exact⟨a,b,e▸rfl⟩
end L2
namespace L2
open PySem PySem.Spec PyProof PyProof.Rows
theorem zn1:bootBuiltins "abs" = some (.builtin "abs"):=by decide +kernel
section
variable{prog:aL}{w:aZ}{A:bg}{E:qV}{s:aq}
abbrev FB:=Int×(Int×Int)
end
section
variable{X:Cx}{e e1 e2:aY}{x:Str}{pos:Pos}{d d1 d2:DTE}
def zsF(K:qF)(tk C:TE):TE:=fun σ H Q=>∀p,H p=none->∀ep,tk σ (upd H p (ZDO p [] ep)) fun y G=>C σ G fun v u=>∃o k b,y=.ref b/\u p=some (ZDO p [] o)/\SqT K u b [.int k.1,.int k.2]/\∀l,Q (.ref p) (upd u p (ZDO p (zput [] k b v) l))
theorem zoS{tk G:TE}(hu:X.A.units+1<cLine)(U:PE X e1 tk)(R:PE X e2 G):PE X (.Dict [some e1] [e2] pos) (zsF X.K tk G):=by intro pins s σ H Q I h;have L:(s.heap.objs.size == sysModules)=false:=beq_eq_false_iff_ne.mpr (dD (aD I.big));obtain⟨ep,ok⟩:=YG (X:=X) (H':=H) (zs:=[]) L (cO _) .nil (kE s.heap);rw[arm_eval_Dict,zip_pairTrees [some e1] [e2] X.env pos rfl rfl,dictDisplay_pairs _ (by simp[pairTrees]) (by simp[pairTrees])];refine aa (eO (aa ?_));unfold subDict;refine aa (sC ?_);refine aa (bM ?_);rw[if_pos (by simp[pairTrees])];have S:=I.laid (a:=s.heap.objs.size) (o:=ZDO s.heap.objs.size [] ep) (t':=s.toks) (h':=s.heap.push { cls:=.type "dict",data:=.dict #[] }) (fun _ _ q=>ah _ q) (ar _) ok;refine aa (pairTrees_cons_walk (thn (U pins _ σ _ _ S (h _ (I.hok.fresh (ar _)) ep)) fun u s1 ⟨y,H1,I1,ry,J⟩=>thn (R pins s1 σ H1 _ I1 J) fun w2 s2 ⟨v,H2,Y,rv,ep1,k,b,N,hp,sq,Z⟩=>pairTrees_nil_walk ?_));subst N;cases(show u=aJ b from ry);refine bM (aa ?_);rw[iD];refine aa (aa (zhd hu Y hp (fun z hz=>nomatch hz) sq (by rw[bU,kO];decide) rv fun s' C I'=>ae ?_));dsimp only;rw[gW];exact ae (ae (ae (ae ⟨.ref s.heap.objs.size,_,I',rfl,Z C⟩)))
def zpV(i:Nat)(u C:DTE):DTS:=fun D l n=>u l n fun y v=>C l v fun t o=>lBlk y fun k=>lInt t fun j=>D.nx (l.set i (some (.dtt [(k,.int j)]))) o
theorem zpu{i:Nat}{I dp:Pos}(hu:X.A.units+1<cLine)(hN:X.N.Nodup)(hi:X.N[i]?=some x)(hx:Loc X.env.scope x)(h1:DE X e1 d1)(h2:DE X e2 d2)(hs:swapsWith (.Dict [some e1] [e2] dp) (some (.Name x I)) pos.line X.env=pure false:=by rfl)(hf:X.fn x=true\/X.env.scope.names.lookup x=some .local:=by walk_at "F") :
  DS X (.Assign [.Name x I] (.Dict [some e1] [e2] dp) pos) (zpV i d1 d2):=by
 obtain⟨t1,pa1,h1⟩:=h1;obtain⟨t2,pa2,h2⟩:=h2;refine⟨_,Qx hN hi hx (zoS hu pa1 pa2) hs hf,fun C U σ H n D D' S hd g=>?_⟩;intro p R ep;have e0:ExtE C.hd H (upd H p (ZDO p [] ep)):=ExtE.new R;have S0:=S.on e0 (S.hnd.same (JM R));have J:C.hd≠some p:=fun z=>S.dom (.inl (S.hx p z)) R;refine h1 C U σ _ n _ _ S0 hd fun y n1 w H1 r e1 hn1 q1=>?_;have S1:=S0.on e1 hn1;refine h2 C U σ H1 n1 _ _ S1 r fun t n2 v Z r e2 hn2 q2=>?_;obtain⟨k,rfl,r⟩:=r;obtain⟨j,rfl,r⟩:∃j,t=.int j/\D'.nx (U.set i (some (.dtt [(k,.int j)]))) n2:=by cases t <;> first|exact⟨_,rfl,r⟩|exact r.elim
 have q1:=e2.rep S.hx q1;have L:Z p=some (ZDO p [] ep):=e2 _ _ (e1 _ _ JE J) J;obtain⟨b,rfl,sb⟩:=q1.bkI;refine⟨ep,k,b,rfl,L,sb,fun G=>?_⟩;rw[q2.intI];have e3:ExtE C.hd H (upd Z p (ZDO p (zput [] k b (.int j)) G)):=ExtE.updR R ((e0.trans e1).trans e2);have hn3:Hn X.K C.hd (upd Z p (ZDO p (zput [] k b (.int j)) G)) n2:=Hn.updR J (.inr (.inr ⟨_,L⟩)) hn2;have rb:Rep X.K C.hd (fun a=>Own C U σ a\/a=p) (upd Z p (ZDO p (zput [] k b (.int j)) G)) (.ref b) (.tuple [.int k.1,.int k.2]):=by
  have Y:∀{O:aj->Prop} {H':Hp} {vs:List V},Reps X.K C.hd (Own C U σ) Z vs [.int k.1,.int k.2]->Reps X.K C.hd O H' vs [.int k.1,.int k.2]:=fun r=>by
   cases r with
   | cons a r=>cases r with
    | cons b r =>cases r;rw[a.intI,b.intI];exact .cons (.int _) (.cons (.int _) .nil)
  cases q1 with
  | @tup a vs ds h o r =>
   have ne:b≠p:=fun z=>by rw[z,L]at h;cases h
   exact .tup (by rw[Jh ne];exact h) (fun z=>z.elim o ne) (Y r)
  | tupS h r=>exact .tupS h (Y r)
 exact g.nx _ _ _ n2 r (S.putNew e3 hn3 R ⟨_,G,JE,.cons rb (.int j) .nil⟩) (zdc e3 R)
end
section
variable{D:JF}{ρ:En}{n i:Nat}{dk dv:DTE}
instance zwf:Stp (zpV i dk dv D ρ n) (dk ρ n fun y n1=>dv ρ n1 fun t n2=>lBlk y fun k=>lInt t fun j=>SetK i (some (.dtt [(k,.int j)])) D.nx ρ n2):=⟨fun h=>h⟩
end
open PySem.SeqAt in
theorem zkE(l:aj)(L J x:ag)(n:Nat)(S:Option aj)(N:Array (Option ag))(u C:Bool)(v:u=true\/C=true):Meets (cc.«tuple.index» ⟨[.ref l,x],[]⟩)
  (fun A R s=>s.heap.get? l=some { cls:=.type "tuple",dict:=S,data:=.seq #[L,J] n,slots:=N }/\EqAt A.in1 s L x u/\EqAt A.in1 s J x C/\R (.ok (.ret (.int (if u then 0 else 1) s.toks))) { s with toks:=s.toks+1 }):=by
 intro prog w A R s h;obtain⟨Y,g,d,tk,os⟩:=s;obtain⟨U,I,G,h⟩:=h;unfold cc.«tuple.index»;simp only[oH,w9];wp_walk using nN U;simp only[aB,aH,bU,wm,eP,Nat.reduceAdd,lC,lW,Nat.div_one,List.range',Nat.reduceSub,Nat.reduceDiv];unfold sv;refine aa (aa (I prog w _ _ ?_));cases u with
 | true =>wp_walk;exact h
 | false =>
  simp only[aI,if_false];refine ae ?_;dsimp only;unfold sv;refine aa (aa (G prog w _ _ ?_));cases C with
  | true =>wp_walk;exact h
  | false=>rcases v with h|h <;> cases h
section
variable{X:Cx}{a b:aY}{da db:DTE}
theorem zmN:MtR X "tuple.index" (fun x xs H Q=>∃(l:aj) (i j:Int),x=.ref l/\xs=[.int 0]/\SqT X.K H l [.int i,.int j]/\(i=0\/j=0)/\Q (.int (if i=0 then 0 else 1)) H):=by
 intro pins s σ H x xs v Z Q I S rs h;obtain⟨l,i,j,rfl,rfl,U,G,q⟩:=h;cases S;cases rs with
 | cons y R =>
  cases R;obtain⟨t,rfl⟩:=y;obtain⟨its,o,p,C⟩:=I.tuple U;cases o with
  | cons a o=>cases o with
   | cons b o =>
    cases o;obtain⟨Y,rfl⟩:=a;obtain⟨N,rfl⟩:=b;obtain⟨⟨cls,L,data,J⟩,u,hc,n,hd⟩:=id p;simp only at hc hd;subst hc hd;have e:(if decide (i=0)=true then(0:Int) else 1)=if i=0 then 0 else 1:=by simp
    refine tT mU ⟨_,u,rfl⟩ PySem.F.entry_tuple_index (PySem.F.args_tuple_index_2 _ _) (zkE l _ _ _ n L J (decide (i=0)) (decide (j=0)) (by simpa using G)) ⟨u,(oI i 0 Y t).at _ _,(oI j 0 N t).at _ _,?_⟩;rw[e];exact⟨.int _,H,I.tok _,⟨_,rfl⟩,q⟩
def tyT(K:qF)(x:V)(H:Hp):Prop:=∃p vs,x=.ref p/\(H p=some (.tup vs)\/StT K p vs)
theorem zpR{pins:qO}{σ:St}{H:Hp}{s:aq}{x:V}{v:ag}(I:Inv X pins σ H s)(r:RelV x v)(ty:tyT X.K x H):s.TypeIs v "tuple" /\ ∀a,v=.ref a->∃l,s.heap.get? a=some l/\l.dict=none:=by
 obtain⟨p,vs,rfl,ty⟩:=ty;cases r;have z:∃o,s.heap.get? p=some o/\o.cls=.type "tuple" /\ o.dict=none:=by rcases ty with h|⟨o,its,n,h1,u,L,J,G,C⟩;obtain⟨_,its,_,o,e,c,_,d⟩:=I.hok p _ h;exact⟨o,e,c,d⟩;exact⟨o,I.kIn p o h1,u,C⟩
 obtain⟨o,e,c,d⟩:=z;exact⟨⟨o,e,c⟩,fun a q=>by cases q;exact⟨o,e,d⟩⟩
def tBMT(K:qF)(r:V->List V->Hp->VK->Prop)(to:TE)(t:TA):TE:=fun σ H Q=>to σ H fun x l=>tyT K x l/\t σ l fun xs o=>r x xs o Q
theorem ztz{o e:aY}{es:List aY}{to:TE}{t:TA}{name:Str}{apos G:Pos}{id:String}{r:V->List V->Hp->VK->Prop}(slot:y8 "tuple" name id) (J:typeOf (.builtin id)=pure (.type "method_descriptor")) (hm:MtR X id r) (U:PE X o to) (ha:PA X (e::es) t)
  (Lw:attributeBase o name X.env (eval o X.env)=eval o X.env)
  (Mh:((backTo G (starEach (e::es) X.env)).all (fun x=>!x.1)&&(backToKw G (keywordEach [] X.env)).all (fun x=>x.1.isSome)
   && decide ((e::es).length+([]:List iW).length+(if ([]:List iW).isEmpty then 0 else 1)<30))=true)
  (Lx:(apos.endLine == G.line)=true) (Y:starEach (e::es) X.env=(false,eval e X.env)::starEach es X.env) (Mm:(backTo G (starEach es X.env)).any (·.1)=false) :
  PE X (.Call (.Attribute o name apos) (e::es) [] G) (tBMT X.K r to t):=by
 intro pins s σ H Q I h;refine nC Lw Mh Lx rfl (thn (U pins s σ H _ I h) fun v s1 ⟨x,H1,N,L,ty,S⟩=>?_);obtain⟨h1,Z⟩:=zpR N L ty;refine⟨"tuple",id,PySem.F.plainAttrs_tuple,slot,J,h1,Z,?_⟩;have R:=ha G pins s1 σ H1 _ N S;rw[Y]at R ⊢;refine gh (by show(false||(backTo G (starEach es X.env)).any (·.1))=false;rw[Mm] <;> rfl) (oj ?_);exact thn R fun us s2 ⟨vs,H2,I2,r2,q2⟩=>hm pins s2 σ H2 x vs v us Q I2 L r2 q2
def znH(da db:DTE):DTE:=fun o n R=>da o n fun t x=>∃i j:Int,t=.tuple [.int i,.int j]/\db o x fun y v=>y=.int 0/\(i=0\/j=0)/\R (.int (if i=0 then 0 else 1)) v
theorem znD{p2 p3:Pos}(h:DE X a da)(h':DE X b db)(G:starEach [b] X.env=[(false,eval b X.env)]:=by rfl)(Lw:attributeBase a "index" X.env (eval a X.env)=eval a X.env:=by rfl)
  (Mh:((backTo p3 (starEach [b] X.env)).all (fun x=>!x.1)&&(backToKw p3 (keywordEach [] X.env)).all (fun x=>x.1.isSome)
   && decide ([b].length+([]:List iW).length+(if ([]:List iW).isEmpty then 0 else 1)<30))=true:=by rfl)
  (Lx:(p2.endLine == p3.line)=true:=by rfl) (Y:(backTo p3 (starEach ([]:List aY) X.env)).any (·.1)=false:=by rfl):DE X (.Call (.Attribute a "index" p2) [b] [] p3) (znH da db):=by
 obtain⟨ta,pa,h⟩:=h;obtain⟨tb,pb,h'⟩:=h';refine⟨_,ztz mU PySem.F.type_tuple_index zmN pa (QT pb QY G) Lw Mh Lx G Y,fun C ρ σ H n Q R S hd hq=>?_⟩;refine h C ρ σ H n _ _ S hd fun t n1 v H1 r Z h1 J=>?_;obtain⟨i,j,rfl,r⟩:=r;have S1:=S.on Z h1;obtain⟨p,rfl,sq⟩:=J.bkI;have ty:tyT X.K (.ref p) H1:=by
  cases J with
  | tup h o r=>exact⟨_,_,rfl,.inl h⟩
  | tupS h r=>exact⟨_,_,rfl,.inr h⟩
 refine⟨ty,h' C ρ σ H1 n1 _ _ S1 r fun y n2 w H2 U e2 L q2=>?_⟩;obtain⟨rfl,hk,U⟩:=U;obtain⟨p',e',N⟩:=(e2.rep S.hx J).bkI;cases e';have ew:=q2.intI;subst ew;exact⟨p,i,j,rfl,rfl,N,hk,hq _ n2 _ H2 U (Z.trans e2) L (.int _)⟩
instance zvG {ρ:En}{n:Nat}{R:qN}:Stp (znH da db ρ n R) (da ρ n fun t n1=>∃i j:Int,t=.tuple [.int i,.int j]/\db ρ n1 fun y n2=>y=.int 0/\(i=0\/j=0)/\R (.int (if i=0 then 0 else 1)) n2):=⟨fun h=>h⟩
end
section
variable{prog:aL}{w:aZ}{A:bg}{E:qV}{s:aq}
theorem zlJ(N:A.handled=none)(it d:aj)(u:it≠d)(es:Array eD)(ep:Nat):Walks prog w A it [it,d] [it] es.size (fun i v=>∃e,es[i]?=some e/\v=e.key) (fun i h=>h.IsKeyIter it d i es.size ep/\JU h d es ep) where
 sub:=by simp
 frame:=fun i h h' ⟨⟨o,e,r⟩,⟨G,J,R⟩⟩ k=>⟨⟨o,k it (by simp) o e,r⟩,⟨G,k d (by simp) G J,R⟩⟩
 item:=fun i s Q E hi ⟨st,l⟩ y=>by have hx:es[i]?=some es[i]:=bw hi;refine zhF st l hx fun h' C I=>y _ h' s.toks ⟨_,hx,rfl⟩ ⟨C,?_⟩ fun b o x e=>(I.2 b (by simpa using x)).trans e;obtain⟨o,e,r⟩:=l;exact⟨o,(I.2 d u.symm).trans e,r⟩
 done:=fun s Q E ⟨st,l⟩ y=>zjU N st l (ar _) fun h' L=>y h' s.toks fun b o x e=>L b o (by simpa using x) e
 self:=fun i s Q E st h=>oF st.1 h
theorem zrx{d:aj}{es:Array eD}{ep:Nat}(lo:(d == sysModules)=false):PySem.W.KdlSrc prog w "dict" d d es.size (fun i v=>∃e,es[i]?=some e/\v=e.key) (fun h=>JU h d es ep) where
 type:=fun _ ⟨o,e,x,_⟩=>⟨o,e,x.1⟩
 there:=fun _ ⟨o,e,_⟩=>⟨ax e,ax e⟩
 keep:=fun _ _ ⟨o,e,r⟩ G=>⟨o,G d (.inl rfl) o e,r⟩
 notList:=by decide
 notTuple:=by decide
 hint:=fun _ _ _ _ ⟨o,e,x,_⟩ C=>PySem.W.kdl_hint_dict ⟨o,e,x.1⟩ C
 iter:=fun _ _ I u=>⟨_,_,(fun _ _ C=>zhE lo u C),zlJ I _ d (by obtain⟨o,e,_⟩:=u;exact(aD (ax e)).symm) es ep,⟨⟨_,aw _ rfl,rfl,rfl⟩,by obtain⟨o,e,r⟩:=u;exact⟨o,ah _ e,r⟩⟩⟩
end
section
variable{X:Cx}{e:aY}{d:DTE}{p pos:Pos}
theorem zls(hc:X.calm=true):JK X (.type "list") (fun xs H Q=>∃(p:aj) (zs:ZT) (ep:Nat),xs=[.ref p]/\H p=some (ZDO p zs ep)/\∀l,H l=none->Q (.ref l) (upd H l (.lst (zs.map fun z=>V.ref z.2.1)))):=by
 intro pins s σ H xs us Q I r h;obtain⟨p,zs,ep,rfl,Z,q⟩:=h;obtain⟨u,rfl,ru⟩:=r.one;cases(show u=aJ p from ru);obtain⟨⟨S,L,nd,o,es,g1,g2,g3,pr⟩,_⟩:=I.hok p _ Z;have N:es.size=zs.length:=by have:=cE pr;simpa using this.symm
 refine PySem.W.kdl_call (zrx (es:=es) (ep:=ep) S) (I.ok.hd hc) ⟨o,g1,g2,g3⟩ (by rw[N];exact L) fun h' tk acc c kp U G=>?_;refine⟨.ref s.heap.objs.size,_,I.laid (a:=s.heap.objs.size) (o:=.lst _) (t':=tk) kp (ar _) ⟨?_,acc.toList,c,?_,by rw[kY];exact U⟩,rfl,q _ (I.hok.fresh (ar _))⟩;rw[aG];exact L;obtain⟨ha,R⟩:=G;refine ze0 (P:=fun(x:V) (v:ag)=>RelV x v) (l:=zs.map fun z=>V.ref z.2.1) (m:=acc.toList) (by rw[aG];exact(cW.trans (ha.trans N)).symm) fun j i v hi J=>?_;rw[dh]at J;obtain⟨e,he,rfl⟩:=R j v J;rw[aT]at hi;obtain⟨z,hz,rfl⟩:=cU.mp hi;obtain⟨e',C,Y⟩:=znm pr hz;rw[dh,he]at C;cases C;rw[Y];rfl
theorem Jl.keysR{K:qF}{hd:Option aj}{O:aj->Prop}{H:Hp}{zs:ZT}{ks:KT2}(r:Jl K hd O H zs ks):Reps K hd O H (zs.map fun z=>V.ref z.2.1) (ks.map fun q=>blkT q.1):=by
 have e:∀{zs:ZT} {ks:KT2},Jl K hd O H zs ks->Reps K hd O H (zs.map fun(z:(Int×Int)×aj×V)=>V.ref z.2.1) (ks.map fun(q:(Int×Int)×af)=>blkT q.1):=fun {zs ks} r=>by refine Jl.ind (P:=fun(zs:ZT) (ks:KT2)=>Reps K hd O H (zs.map fun(z:(Int×Int)×aj×V)=>V.ref z.2.1) (ks.map fun(q:(Int×Int)×af)=>blkT q.1)) .nil (fun h _ _ i=>?_) r;exact .cons h i
 exact e r
def zqm(d:DTE):DTA:=fun l n R=>d l n fun t o=>∃ks:KT2,t=.dict (Jm ks)/\R (ks.map fun q=>blkT q.1) o
theorem zpx(hc:X.calm=true)(hm:X.mg "list" = none) (h:DE X e d) (J:starEach [e] X.env=[(false,eval e X.env)]:=by rfl) (Z:Gl X "list":=by rfl):DN X (.Call (.Name "list" p) [e] [] pos) (zqm d):=by obtain⟨ta,pa,h⟩:=h;refine⟨_,zq9 (zls hc) hm (by decide +kernel) (Qd pa QF J) Z,fun C U σ H n Q R S hd L=>?_⟩;refine h C U σ H n _ _ S hd fun t n1 v H1 y G h1 I=>?_;obtain⟨ks,rfl,y⟩:=y;obtain⟨a,zs,ep,rfl,Y,no,rk⟩:=I.dtI;refine⟨a,zs,ep,rfl,Y,fun l u=>?_⟩;refine L _ n1 l _ _ y (G.trans (ExtE.new u)) (h1.same (JM u)) (ZK G h1 u) JE (rk.keysR.mono (fun b o x z=>z.elim id fun z=>?_) fun b o _ x=>JM u b o x);subst z;rw[u]at x;cases x
instance zwh {ρ:En}{n:Nat}{Rl:List af->Nat->Prop}:Stp (zqm d ρ n Rl) (d ρ n fun t n1=>∃ks:KT2,t=.dict (Jm ks)/\Rl (ks.map fun q=>blkT q.1) n1):=⟨fun h=>h⟩
end
section
variable{bits:Int}{ps:BL}{qs:PR}{b v:Int×Int}
theorem PrOk.kids(h:PrOk bits ps qs)(m:(b,v)∈qs)(p:Prt ps b):∃x y,valP qs (loH b)=some x/\valP qs (upH b)=some y/\v=(if x.2+y.2+1<x.1+y.1 then x.2+y.2+1 else x.1+y.1,if x.1+y.1+1<x.2+y.2 then x.1+y.1+1 else x.2+y.2):=by
 have k:=h.rgt (b,v) m false false ⟨fun z=>(nomatch z),fun z=>absurd z p.1⟩ ⟨fun z=>(nomatch z),fun z=>absurd z p.2⟩;unfold bpD at k;dsimp only at k;cases e1:valP qs (loH b) with
 | none=>rw[e1]at k;cases k
 | some x =>
  cases e2:valP qs (upH b) with
  | none=>rw[e1,e2]at k;cases k
  | some y =>rw[e1,e2]at k;exact⟨x,y,rfl,rfl,(aE k).symm⟩
theorem PrOk.leaf(h:PrOk bits ps qs)(m:(b,v)∈qs)(p:¬Prt ps b):(HasN ps b/\v=(0,1))\/(¬HasN ps b/\HasA ps b/\v=(1,0)):=by
 classical
 have k:=h.rgt (b,v) m (decide (HasN ps b)) (decide (HasA ps b)) (by rw[decide_eq_true_eq]) (by rw[decide_eq_true_eq]);unfold bpD at k;by_cases hn:HasN ps b;rw[decide_eq_true hn]at k;exact .inl ⟨hn,(aE k).symm⟩;have o:HasA ps b:=bu fun z=>p ⟨hn,z⟩;rw[decide_eq_false hn,decide_eq_true o]at k;exact .inr ⟨hn,o,(aE k).symm⟩
theorem PrOk.mem(h:PrOk bits ps qs):∃bs:BL,PInv bits ps bs bs.length/\qs.map (·.1)=bs.reverse:=by obtain⟨bs,I,J⟩:=h;exact⟨bs,I,by rw[J.keys,<- ff,dQ]⟩
theorem PrOk.nokid(h:PrOk bits ps qs)(m:(b,v)∈qs)(p:¬Prt ps b)(h1:1<=b.2):valP qs (loH b)=none:=by
 obtain⟨bs,I,e⟩:=h.mem;have B:=h.bk _ m;cases k:valP qs (loH b) with
 | none=>rfl
 | some x =>
  have u:loH b∈bs:=by have:=cY (f:=(·.1)) (UA k);rw[e]at this;exact hW.mp this
  rcases I.par _ u with z|⟨j,c,y,hc,pc,z⟩;have:=congrArg x6 z;have o:=B.2.1;dsimp only at this o;lia;have C:=I.bk _ (aA hc);have eq:=zki B C h1 (pc.pos C) (.inl rfl) z;rw[<- eq]at pc;exact absurd pc p
end
def sgn(a:Int)(x y:Int×Int):Int:=if a=0 then(if x.1+y.1<=x.2+y.2+1 then 0 else 1) else(if x.2+y.2<=x.1+y.1+1 then 1 else 0)
end L2
namespace L2
open PySem PySem.Spec
def Rse(xs:Array Nat):Prop:=∀i k,i<k->k<xs.size->xs.getD i 0<xs.getD k 0
theorem getD_in{xs:Array Nat}{i j k:Nat}(h:i<xs.size):xs.getD i j=xs.getD i k:=by simp[gz,h]
theorem zg8{xs:Array Nat}(r:Rse xs)(j:Nat):∀(l lo hi:Nat),hi - lo<=l->lo<=hi->hi<=xs.size->(∀i,i<lo->xs.getD i 0<j)->(∀i,hi<=i->i<xs.size->j<=xs.getD i 0) ->
  kg xs j l lo hi<=xs.size/\(∀i,i<kg xs j l lo hi->xs.getD i 0<j)/\∀i,kg xs j l lo hi<=i->i<xs.size->j<=xs.getD i 0
 | 0,lo,hi,h1,h2,h3,h4,h5=>by
  have e:lo=hi:=by omega
  subst e;exact⟨h3,h4,h5⟩
 | l+1,lo,hi,h1,h2,h3,h4,h5=>by
  unfold kg;by_cases z:lo<hi;rw[if_pos z];dsimp only;have C:(lo+hi) / 2<hi:=by omega
  have v:lo<=(lo+hi) / 2:=by omega
  have x:xs.getD ((lo+hi) / 2) j=xs.getD ((lo+hi) / 2) 0:=getD_in (by omega);rw[x];by_cases y:xs.getD ((lo+hi) / 2) 0<j;rw[if_pos y];refine zg8 r j l _ hi (by omega) (by omega) h3 (fun i o=>?_) h5;rcases gA (show i<=(lo+hi) / 2 by omega) with q|q;exact gn (r _ _ q (by omega)) y;rw[q];exact y;rw[if_neg y];refine zg8 r j l lo _ (by omega) v (by omega) h4 (fun i o u=>?_);rcases gA o with q|q;exact b7 (ua.mp y) (fh (r _ _ q u));rw[<- q];exact ua.mp y;rw[if_neg z];have e:lo=hi:=by omega
  subst e;exact⟨h3,h4,h5⟩
theorem zkx{xs:Array Nat}(r:Rse xs)(j:Nat):bh xs j<=xs.size/\(∀i,i<bh xs j->xs.getD i 0<j)/\∀i,bh xs j<=i->i<xs.size->j<=xs.getD i 0 :=
 zg8 r j xs.size 0 xs.size (by omega) (by omega) (ar _) (fun i h=>absurd h (by omega)) (fun i h h'=>absurd h (by omega))
theorem zjO{l:List Nat}(h:l.Pairwise (·<·)):Rse l.toArray:=fun i k u v=>by
 have o:k<l.length:=by simpa using v
 have:=aP.mp h i k (by omega) o u;simpa[gz,o,show i<l.length by omega] using this
theorem zs_{xs:Array Nat}(h:Rse xs):xs.toList.Pairwise (·<·):=aP.mpr fun i k hi o l=>by have:=h i k l (by simpa using o);simpa[gz,show k<xs.size by simpa using o,show i<xs.size by simpa using hi] using this
theorem zkH{xs:Array Nat}(r:Rse xs){j:Nat}(h:xs[bh xs j]?≠some j):Rse (rC xs (bh xs j) j):=by
 obtain⟨L,I,C⟩:=zkx r j;have e:(rC xs (bh xs j) j)=(xs.toList.take (bh xs j)++j::xs.toList.drop (bh xs j)).toArray:=by rw[<- SetTable.toList_insertAt,kY]
 rw[e];have p:=zs_ r;refine zjO (cQ.mpr ⟨p.sublist (pW ..),bK.mpr ⟨fun y u=>?_,p.sublist (mM ..)⟩,fun x hx y u=>?_⟩);obtain⟨k,l,rfl⟩:=bp u;rw[kA,cW]at l;have q:=C (bh xs j+k) (by omega) (by omega);rw[rE,kZ];have v:xs.getD (bh xs j+k) 0=xs[bh xs j+k]'(by omega):=by simp[gz,show bh xs j+k<xs.size by omega]
 rw[v]at q;rcases gA q with q|q;exact q;exfalso;cases k with
 | zero=>exact h (by rw[bw (by omega)];exact congrArg some q.symm)
 | succ k =>have N:=C (bh xs j) (ar _) (by omega);have J:=r (bh xs j) (bh xs j+(k+1)) (by omega) (by omega);rw[v]at J;omega
 have G:x<j:=by obtain⟨k,l,rfl⟩:=bp hx;rw[fU,cW]at l;have q:=I k (by omega);rw[List.getElem_take,kZ];simpa[gz,show k<xs.size by omega] using q
 rcases ay.mp u with rfl|u;exact G;obtain⟨k,l,rfl⟩:=bp u;rw[kA,cW]at l;have q:=C (bh xs j+k) (by omega) (by omega);rw[rE,kZ];have v:xs.getD (bh xs j+k) 0=xs[bh xs j+k]'(by omega):=by simp[gz,show bh xs j+k<xs.size by omega]
 rw[v]at q;omega
def Nin(t:eI)(j:Nat):Prop:=t.place[bh t.place j]?≠some j
theorem zjK{t:eI}{j:Nat}(h:∀i,t.slot j≠.live i):Nin t j:=fun z=>by refine h (bh t.place j) ?_;unfold SetTable.slot;simp[z]
theorem zeX{t:eI}{x:Nat->Int}{h:Int}:∀(l:Nat) (p:ub),(∀d,p.dummy=some d->Nin t d)->∀j o,rF t x h l p=some (.empty j o)->Nin t j/\∀d,o=some d->Nin t d
 | 0,p,hp,j,o,e=>by cases e
 | l+1,p,hp,j,o,e=>by
  have v:∀q:ub,(t.advance q).dummy=q.dummy:=fun q=>by unfold SetTable.advance;split <;> rfl
  unfold rF at e;split at e;rename_i es;cases e;exact⟨zjK (by rw[es];intro i z;cases z),hp⟩;rename_i es;refine zeX l _ (fun d hd=>?_) j o e;rw[v]at hd;cases hd;exact zjK (by rw[es];intro i z;cases z);split at e;cases e;exact zeX l _ (fun d hd=>hp d (by rw[v]at hd;exact hd)) j o e
theorem zpn{t:eI}{h:Int}{j:Nat}{b:Bool}(e:t.freeSlot h=some (j,b)):Nin t j:=by
 unfold SetTable.freeSlot at e;split at e;rename_i u o ep;obtain⟨h1,v⟩:=zeX _ _ (fun d hd=>by cases hd) u o ep;have l:=congrArg nt (aE e);dsimp only at l;subst l;cases o with
 | none=>exact h1
 | some d=>exact v d rfl
 cases e
theorem V0(t:eI)(n:Nat):Rse (t.standIn n).place:=by show Rse (Array.range n);intro i k o u;rw[Array.size_range]at u;simp[gz,u,show i<n by omega,o]
theorem ziU{t:eI}(r:Rse t.place)(n:Nat):Rse (t.orStandIn n).place:=by unfold pN;split;exact r;exact V0 t n
theorem ziV{t:eI}(n:Nat):(t.orStandIn n).led=t.led:=by unfold pN;split <;> rfl
theorem zh4{t:eI}(r:Rse t.place)(es:Array (Int×ag))(h:Int)(x:ag):Rse (layNew t es h x).2.1.place/\(layNew t es h x).2.1.led=t.led:=by unfold layNew;split;rename_i slot o e;refine⟨ziU ?_ _,ziV _⟩;exact zkH r (zpn e);exact⟨V0 _ _,rfl⟩
theorem ziP{t:eI}(r:Rse t.place)(es:Array (Int×ag))(n:Nat):Rse (relayAll t es n).2.1.place/\(relayAll t es n).2.1.led=t.led:=by
 unfold relayAll;split;rename_i t' order e;have k:Rse t'.place/\t'.led=t.led:=by unfold SetTable.relaid SetTable.laid at e;simp only[Option.bind_eq_bind,Option.bind_eq_some_iff]at e;obtain⟨owner,_,e⟩:=e;have v:=congrArg nt (aE e);dsimp only at v;rw[<- v];refine⟨zjO ?_,rfl⟩;rw[pO];refine nu (R:=(·<·)) _ (fun a y u b x C o=>?_) (List.pairwise_lt_range);simp only[Option.map_map,cU,ph]at x o;obtain⟨_,_,rfl⟩:=x;obtain⟨_,_,rfl⟩:=o;exact u
 dsimp only;split;exact k;exact⟨V0 _ _,rfl⟩;exact⟨V0 _ _,rfl⟩
end L2
namespace L2
open PySem PySem.Spec PyProof PyProof.Rows
def elI(i:Int)(e:Int×ag):Prop:=e.1=hashInt i/\∃t,e.2=.int i t
def SetO(w:aZ)(o:Obj)(ns:List Int):Prop:=∃es ep t,o.ExactSet/\o.data=.set es ep t/\(∃ms,ms.Perm ns/\bL elI ms es.toList)/\ns.Nodup/\es.size<scanBound/\t.fits es.size=true/\Rse t.place/\(w.params.followText "set-order" = false->t.led=true)
def SetI(w:aZ)(h:a9)(a:aj)(ns:List Int):Prop:=∃o,h.get? a=some o/\SetO w o ns
theorem zoX{α l:Type}{F:α->l->Prop}{x l2:List α}{v u:List l}(h:bL F x v)(k:bL F l2 u):bL F (x++l2) (v++u):=by
 induction h with
 | nil=>exact k
 | cons r _ y=>exact .cons r y
theorem VR{α o:Type}{F:α->o->Prop}{l:List α}{m:List o}(h:bL F l m):l.length=m.length:=by
 induction h with
 | nil=>rfl
 | cons _ _ u=>simp[u]
theorem zmD{α o:Type}{F:α->o->Prop}{l:List α}{m:List o}(h:bL F l m):∀x∈l,∃y∈m,F x y:=by
 induction h with
 | nil=>intro x hx;cases hx
 | @cons a b as bs r _ ih =>intro x hx;rcases ay.mp hx with rfl|hx;exact⟨b,.head _,r⟩;obtain⟨y,u,q⟩:=ih x hx;exact⟨y,.tail _ u,q⟩
theorem ze2{α o:Type}{F:α->o->Prop}{l:List α}{m:List o}(h:bL F l m):∀y∈m,∃x∈l,F x y:=by
 induction h with
 | nil=>intro x hx;cases hx
 | @cons a b as bs r _ ih =>intro x hx;rcases ay.mp hx with rfl|hx;exact⟨a,.head _,r⟩;obtain⟨y,u,q⟩:=ih x hx;exact⟨y,.tail _ u,q⟩
theorem ze1{α G:Type}{F:α->G->Prop}{m I:List G}(p:m.Perm I):∀{l:List α},bL F l m->∃C,C.Perm l/\bL F C I:=by
 induction p with
 | nil=>intro l h;exact⟨l,.rfl,h⟩
 | cons x _ N =>
  intro l h;cases h with
  | cons r t =>obtain⟨C,R,q⟩:=N t;exact⟨_,R.cons _,.cons r q⟩
 | swap x y _ =>
  intro l h;cases h with
  | cons r t=>cases t with
   | cons S t2=>exact⟨_,.swap ..,.cons S (.cons r t2)⟩
 | trans _ _ v u =>intro l h;obtain⟨U,p1,J⟩:=v h;obtain⟨l2,p2,L⟩:=u J;exact⟨l2,p2.trans p1,L⟩
theorem Vb{k:Int}{v:ag}:kN k v=true↔∃t,v=.int k t:=⟨fun h=>pR h,fun⟨t,e⟩=>by rw[e];simp[kN]⟩
section
variable{prog:aL}{w:aZ}{A:bg}{E:qV}{s:aq}
theorem zu5{ms:List Int}{l:List (Int×ag)}(h:bL elI ms l):ElemsOf (intKind prog w) l:=fun e he=>by obtain⟨k,_,h1,t,o⟩:=ze2 h e he;exact⟨⟨k,by show kN k e.2=true;exact Vb.mpr ⟨t,o⟩,h1⟩,by rw[o];rfl⟩
theorem zjN{o:Obj}{es:Array (Int×ag)}{ep:Nat}{t:eI}{h:a9}{a:aj}(u:h.get? a=some o)(hd:o.data=.set es ep t)(l:Array (Int×ag))(t':eI) :
  (h.update a (uc l t')).get? a=some { o with data:=.set l (ep+1) t' }:=by
 have:=br (uc l t') u (by rw[putSet_of l t' hd];rfl);rwa [putSet_of l t' hd]at this
theorem zor{g:Bool->Sem Unit}(U:∀(b:Bool) (s1:aq) (J:Unit->aq->Prop),J () s1->wpAny (model prog w) A (g b) J E s1){a:aj}{o:Obj}{es l:Array (Int×ag)}{ep:Nat}{t t2:eI}{ms ns:List Int}{S:Bool}{R:Option Bool->aq->Prop}
  (I:s.heap.get? a=some o) (hex:o.ExactSet) (hd:o.data=.set es ep t) (pm:ms.Perm ns) (pr:bL elI ms l.toList) (nd:ns.Nodup) (v:l.size<scanBound) (hf:t2.fits l.size=true) (rs:Rse t2.place) (ld:w.params.followText "set-order" = false->t2.led=true)
  (h:∀h',cH a s.heap h'->SetI w h' a ns->R (some true) { s with heap:=h' }) :
  wpAny (model prog w) A (do
    storeSet a l t2
    if (!S&&t2.tooFull)=true then do
      g (relayAll t2 l (eC l.size)).2.2
      storeSet a (relayAll t2 l (eC l.size)).1 (relayAll t2 l (eC l.size)).2.1
      pure (some true)
     else pure (some true)) R E s:=by
 refine aa (rG I hd ?_ (kh v));have h1:=zjN I hd l t2;have N:=cX s.heap a (uc l t2);split;have p2:=relayAll_perm t2 l (eC l.size);have f2:=relayAll_fits t2 l (eC l.size);obtain⟨C,l2⟩:=ziP rs l (eC l.size);generalize relayAll t2 l (eC l.size)=L at p2 f2 C l2 ⊢;obtain⟨u,t3,Y⟩:=L;dsimp only at p2 f2 C l2 ⊢;have sz:u.size=l.size:=by have:=p2.length_eq;simpa using this
 obtain⟨G,y,x⟩:=ze1 p2.symm pr;refine aa (U _ _ _ (aa (rG h1 rfl ?_ (kh (by rw[sz];exact v)))));exact ae (h _ (N.trans (cX _ a _)) ⟨_,zjN h1 rfl u t3,u,_,t3,hex,rfl,⟨G,y.trans pm,x⟩,nd,by rw[sz];exact v,f2,C,fun z=>by rw[l2];exact ld z⟩);exact ae (h _ N ⟨_,h1,l,_,t2,hex,rfl,⟨ms,pm,pr⟩,nd,v,hf,rs,ld⟩)
def adI(ns:List Int)(i:Int):List Int:=if i∈ns then ns else ns++[i]
theorem zov{a:aj}{ns:List Int}{i:Int}{tk:Tok}{Q:Bool->aq->Prop}(S:SetI w s.heap a ns)(room:ns.length+1<scanBound)
  (h:∀b h',cH a s.heap h'->SetI w h' a (adI ns i)->Q b { s with heap:=h' }):wpAny (model prog w) A (setAddHashed a (.int i tk) ((intKind prog w).hash i)) Q E s:=by
 obtain⟨o,I,es,ep,t,hex,hd,⟨ms,pm,pr⟩,nd,hb,hf,rs,ld⟩:=S;have el:=zu5 (prog:=prog) (w:=w) pr;have sz:es.size=ns.length:=by have:=VR pr;rw[pm.length_eq]at this;simpa using this.symm
 have hk:(intKind prog w).is i (.int i tk)=true:=Vb.mpr ⟨tk,rfl⟩;unfold setAddHashed setAddHashedIn;refine bM (aa (fI I hd hf ?_));dsimp only;rw[byScan_of rfl hb el,if_pos rfl];unfold setAddByScan;refine aa (aa (cK (aa (wpAny_setScan_of hk I hd hf el ?_))));cases hr:List.findIdx? (fun e=>(intKind prog w).is i e.2) es.toList with
 | some j =>
  obtain⟨hj,hpj,_⟩:=List.findIdx?_eq_some_iff_getElem.mp hr;have G:i∈ns:=by obtain⟨k,N,_,t',Y⟩:=ze2 pr _ (eK hj);obtain⟨t2,e3⟩:=Vb.mp (show kN i es.toList[j].2=true from hpj);rw[Y]at e3;cases e3;exact pm.mem_iff.mp N
  refine ae (ae ?_);have:=h false s.heap (mF a s.heap) ⟨o,I,es,ep,t,hex,hd,⟨ms,by rw[adI,if_pos G];exact pm,pr⟩,by rw[adI,if_pos G];exact nd,hb,hf,rs,ld⟩;cases s;exact this
 | none =>
  have G:i∉ns:=fun z=>by obtain⟨e,he,_,t',Y⟩:=zmD pr i (pm.mem_iff.mpr z);have:=List.findIdx?_eq_none_iff.mp hr e he;rw[show(intKind prog w).is i e.2=true from Vb.mpr ⟨t',Y⟩]at this;cases this
  dsimp only;have p1:=layNew_perm t es ((intKind prog w).hash i) (.int i tk);have f1:=layNew_fits t es ((intKind prog w).hash i) (.int i tk);obtain⟨J,l1⟩:=zh4 rs es ((intKind prog w).hash i) (.int i tk);generalize layNew t es ((intKind prog w).hash i) (.int i tk)=L at p1 f1 J l1 ⊢;obtain⟨u,t1,wd,gv⟩:=L;dsimp only at p1 f1 J l1 ⊢;rw[mL]at p1;obtain⟨ms1,pm1,U⟩:=ze1 p1.symm (zoX pr (.cons (show elI i (hashInt i,.int i tk) from⟨rfl,tk,rfl⟩) .nil));have sz1:u.size=ns.length+1:=by have:=p1.length_eq;simpa[sz] using this
  have v:∀(b:Bool) (s1:aq) (C:Unit->aq->Prop),C () s1->wpAny (model prog w) A (match b with|true=>rule "set.scan.the-table-gave-way" | false=>pure ()) C E s1:=fun b s1 C hq=>by cases b;exact ae hq;exact cK hq
  have fin:∀{R:Option Bool->aq->Prop} {g:Bool->Sem Unit},(∀(b:Bool) (s1:aq) (C:Unit->aq->Prop),C () s1->wpAny (model prog w) A (g b) C E s1)->(∀h',cH a s.heap h'->SetI w h' a (adI ns i)->R (some true) { s with heap:=h' })->wpAny (model prog w) A (do
    storeSet a u t1
    if (!wd&&t1.tooFull)=true then do
      g (relayAll t1 u (eC u.size)).2.2
      storeSet a (relayAll t1 u (eC u.size)).1 (relayAll t1 u (eC u.size)).2.1
      pure (some true)
     else pure (some true)) R E s:=fun hg hR=>by
   refine zor hg I hex hd (ms:=ms1) (ns:=adI ns i) ?_ U ?_ (by rw[sz1];exact room) f1 J (fun z=>by rw[l1];exact ld z) hR;rw[adI,if_neg G];exact pm1.trans (pm.append_right _);rw[adI,if_neg G];exact eh.mpr ⟨nd,by simp,fun x hx y hy=>by rw[aC]at hy;subst hy;exact fun z=>G (z▸hx)⟩
  refine aa (v _ _ _ ?_);split;refine aa ?_;rw[hashByValue_scannable 8 (x:=.int i tk) rfl];refine ae ?_;exact fin v fun h' sb Z=>ae (h true h' sb Z);refine aa (ae ?_);exact fin v fun h' sb Z=>ae (h true h' sb Z)
theorem zeJ{a:aj}{ns:List Int}(S:SetI w s.heap a ns):s.TypeIs (.ref a) "set":=by obtain⟨o,l,_,_,_,hex,_⟩:=S;exact⟨o,l,hex.1⟩
theorem zjw{a:aj}{ns:List Int}{i:Int}{tk:Tok}{Q:qV}(S:SetI w s.heap a ns)(room:ns.length+1<scanBound)
  (h:∀h' v,cH a s.heap h'->SetI w h' a (adI ns i)->Q .none { s with heap:=h',toks:=v }):wpAny (model prog w) A (call (.builtin "set.add") [.ref a,.int i tk]) Q E s:=by
 refine a7 F.slot_set_add (zeJ S) F.entry_set_add ?_ (F.args_set_add_2 _ _);unfold cc.«set.add» ud vC setAdd;simp only[bind_assoc,List.isEmpty_nil];refine aa (ae ?_);(try dsimp only);refine aa (ae ?_);(try dsimp only);refine aa (bM (aa ((intKind prog w).pyHash (Vb.mpr ⟨tk,rfl⟩) ?_)));refine zov (s:={ s with toks:=s.toks+1 }) S room fun b h' C x=>?_;show wpAny _ _ (ret b8) _ _ _;exact ae ⟨_,rfl,h h' _ C x⟩
theorem zrp{Q:qV}(h:∀o,SetO w o []->Q (.ref s.heap.objs.size) { s with heap:=s.heap.push o }):wpAny (model prog w) A (newSet (.type "set")) Q E s:=by unfold newSet setsByText;refine aa (aa (fv (ae ?_)));simp only[newObj];exact aa (sC (ae (h _ ⟨#[],0,_,⟨rfl,rfl,rfl⟩,rfl,⟨[],.rfl,.nil⟩,.nil,by decide,by rfl,fun i k _ u=>absurd u (by simp[SetTable.fresh]),fun z=>by show(!w.params.followText "set-order")=true;rw[z];rfl⟩)))
end
theorem Wa:y8 "set_iterator" "__next__" "set_iterator.__next__":=.of (owner:="set_iterator") (n:="__next__") (by rw[gG,eG];kernel_rfl) (by decide +kernel) (by decide +kernel) (by decide +kernel) (by first|exact .inl (by decide +kernel)|exact .inr (by decide +kernel)) (by rw[oJ];kernel_rfl)
theorem zdp:y8 "set_iterator" "__iter__" "set_iterator.__iter__":=.of (owner:="set_iterator") (n:="__iter__") (by rw[gG,eG];kernel_rfl) (by decide +kernel) (by decide +kernel) (by decide +kernel) (by first|exact .inl (by decide +kernel)|exact .inr (by decide +kernel)) (by rw[oJ];kernel_rfl)
theorem zfH:entryFor table "set_iterator.__next__" = some cc.«set_iterator.__next__»:=si (by kernel_rfl)
theorem zfJ:entryFor table "set.__iter__" = some cc.«frozenset.__iter__»:=oG (id':="frozenset.__iter__") (by kernel_rfl) rfl (by decide +kernel) (by kernel_rfl)
theorem zfI:entryFor table "set_iterator.__iter__" = some cc.«dict_keyiterator.__iter__»:=oG (id':="dict_keyiterator.__iter__") (by kernel_rfl) rfl (by decide +kernel) (by kernel_rfl)
theorem zhO:Manifest.owners.lookup (String.ofList ['r','o','t','a','r','e','t','i','_','t','e','s'].reverse)=some Manifest.sig_set_iterator:=by kernel_rfl
theorem zg_(a:ag):argsOk "set_iterator.__next__" ⟨[a],[]⟩:=by unfold argsOk;rw[signature?_of (id:="set_iterator.__next__") (n:=['_','_','t','x','e','n','_','_']) (o:=['r','o','t','a','r','e','t','i','_','t','e','s']) (by kernel_rfl) zhO];kernel_rfl
theorem zha(a:ag):argsOk "set_iterator.__iter__" ⟨[a],[]⟩:=by unfold argsOk;rw[signature?_of (id:="set_iterator.__iter__") (n:=['_','_','r','e','t','i','_','_']) (o:=['r','o','t','a','r','e','t','i','_','t','e','s']) (by kernel_rfl) zhO];kernel_rfl
theorem zil{α:Type}{l:List α}{i:Nat}(h:i<l.length):(l[i]::l.eraseIdx i).Perm l:=by
 rw[List.eraseIdx_eq_take_drop_succ];have e:l=l.take i++l[i]::l.drop (i+1):=by rw[<- bZ h,List.take_append_drop]
 refine m7.symm.trans ?_;rw[<- e]
theorem zmv{α:Type}{nx:Nat->Nat}:∀(u k:Nat) (l:List α) (out:Array α),l.length=u->(rH nx u k l out).toList.Perm (out.toList++l)
 | 0,k,l,out,h=>by have:l=[]:=fW.mp h;subst this;simp[rH]
 | u+1,k,l,out,h=>by
  have x:0<l.length:=by omega
  have v:nx k % l.length<l.length:=As _ x;unfold rH;rw[au v];dsimp only;refine(zmv u (k+1) _ _ (by rw[lY v];omega)).trans ?_;rw[mL,eX];exact List.Perm.append_left _ (zil v)
theorem zeZ{α:Type}{nx:Nat->Nat}(xs:Array α):(pickOrder nx xs).toList.Perm xs.toList:=by have:=zmv (nx:=nx) xs.size 0 xs.toList #[] (by simp);simpa[pickOrder] using this
section
variable{prog:aL}{w:aZ}{A:bg}{E:qV}{s:aq}
theorem zlx{src:Source}{n:Nat}{Q:Nat->aq->Prop}(l:n≠0)(h:∀i d,i<n->Q i { s with drawn:=d }):wpAny (model prog w) A (choose src n) Q E s:=fun u p o=>by unfold choose;rw[Sem.wp_choose];exact⟨l,h _ _ (As _ (Nat.pos_of_ne_zero l))⟩
theorem zgj{α:Type}:∀(n:Nat) (xs:List α) (s:aq) (Q:List α->aq->Prop),xs.length=n->(∀ys d,ys.Perm xs->Q ys { s with drawn:=d })->wpAny (model prog w) A (drawOrder n xs) Q E s
 | 0,xs,s,Q,h,q=>by have:xs=[]:=fW.mp h;subst this;unfold drawOrder;exact ae (q [] s.drawn .nil)
 | n+1,[],s,Q,h,q=>by simp at h
 | n+1,x::xs,s,Q,h,q=>by unfold drawOrder;refine aa (zlx (by simp) fun i d hi=>?_);rw[au hi];dsimp only;refine aa (zgj n _ _ _ (by rw[lY hi];omega) fun ys o p=>ae ?_);exact q _ o ((p.cons _).trans (zil hi))
def SIt(h:a9)(it:aj)(first:ag)(i:Nat)(a:aj)(n ep:Nat):Prop:=∃o,h.get? it=some o/\o.cls=.type "set_iterator" /\ o.data=.fields #[first,.int i 0,.ref a,.int n 0,.int ep 0]
def SAt(h:a9)(a:aj)(es:Array (Int×ag))(ep:Nat)(t:eI):Prop:=∃o,h.get? a=some o/\o.data=.set es ep t/\t.fits es.size=true
theorem YZ{it a:aj}{f:ag}{i n ep:Nat}(x:SIt s.heap it f i a n ep):s.TypeIs (.ref it) "set_iterator":=let ⟨o,h,c,_⟩:=x;⟨o,h,c⟩
inductive Orr (w:aZ)(h:a9)(a:aj)(es:Array (Int×ag))(ep:Nat)(t:eI):(Nat->ag)->List ag->List aj->Prop
 | txt (hb:w.params.followText "set-order" = true):Orr w h a es ep t (fun _=>.int 0 0) ((pickOrder (w.params.setOrder a ep) es).toList.map (·.2)) []
 | pla (hb:w.params.followText "set-order" = false) (hd:(!t.plain&&decide (es.size > 1))=false) (hl:t.led=true) (r:Rse t.place):Orr w h a es ep t (fun i=>.int (if i=0 then 0 else(t.place.getD (i - 1) 0+1:Nat)) 0) (es.toList.map (·.2)) []
 | drw {p:aj} {ps:List Nat} {o:Obj} {n:Nat} (ho:h.get? p=some o) (hd:o.data=.seq (ps.map fun(i:Nat)=>mV (i:Int) 0).toArray n) (pm:ps.Perm (fZ es.size)):Orr w h a es ep t (fun _=>.ref p) (ps.map fun(i:Nat)=>(es.getD i (0,.none)).2) [p]
theorem Orr.len{h:a9}{a:aj}{es:Array (Int×ag)}{ep:Nat}{t:eI}{f:Nat->ag}{vs:List ag}{qs:List aj}(x:Orr w h a es ep t f vs qs):vs.length=es.size:=by
 cases x with
 | txt o=>rw[aG,(zeZ es).length_eq];simp
 | pla=>simp
 | drw _ _ pm=>rw[aG,pm.length_eq];simp
theorem Orr.perm{h:a9}{a:aj}{es:Array (Int×ag)}{ep:Nat}{t:eI}{f:Nat->ag}{vs:List ag}{qs:List aj}(x:Orr w h a es ep t f vs qs):vs.Perm (es.toList.map (·.2)):=by
 cases x with
 | txt u=>exact(zeZ es).map _
 | pla=>exact .rfl
 | drw _ _ pm =>
  refine(pm.map _).trans ?_;have e:(fZ es.size).map (fun i=>(es.getD i (0,.none)).2)=es.toList.map (·.2):=by
   refine List.ext_getElem (by simp) fun i h1 v=>?_;have hi:i<es.size:=by simpa using h1
   simp[gz,hi]
  rw[e]
theorem Orr.keep{h h':a9}{a:aj}{es:Array (Int×ag)}{ep:Nat}{t:eI}{f:Nat->ag}{vs:List ag}{qs:List aj}(x:Orr w h a es ep t f vs qs)(k:∀b∈qs,∀o,h.get? b=some o->h'.get? b=some o):Orr w h' a es ep t f vs qs:=by
 cases x with
 | txt u=>exact .txt u
 | pla u hd y r=>exact .pla u hd y r
 | drw v hd pm=>exact .drw (k _ (by simp) _ v) hd pm
theorem zlw{xs:Array Nat}(r:Rse xs){i:Nat}(hi:i<=xs.size):bh xs (if i=0 then 0 else xs.getD (i - 1) 0+1)=i:=by obtain⟨u,l,o⟩:=zkx r (if i=0 then 0 else xs.getD (i - 1) 0+1);generalize bh xs (if i=0 then 0 else xs.getD (i - 1) 0+1)=b at u l o;by_cases z:i=0;subst z;rcases iL b with q|q;exact q;have:=l 0 q;simp at this;rw[if_neg z]at l o;rcases c9 b i with q|q|q;exfalso;have:=o (i - 1) (by omega) (by omega);omega;exact q;exfalso;have h1:=l i q;have v:=r (i - 1) i (by omega) (by omega);omega
theorem zjL{it a:aj}{es:Array (Int×ag)}{i ep:Nat}{t:eI}{f:Nat->ag}{vs:List ag}{qs:List aj}{Q:Option ag->aq->Prop}(hh:A.handled=none\/i<es.size)(x:SIt s.heap it (f i) i a es.size ep)(y:SAt s.heap a es ep t)(z:Orr w s.heap a es ep t f vs qs)(hi:i<=es.size)
  (h1:∀v h',vs[i]?=some v->SIt h' it (f (i+1)) (i+1) a es.size ep->(∀b o,b≠it->s.heap.get? b=some o->h'.get? b=some o)->Q (some v) { s with heap:=h' })
  (h0:∀h',i=es.size->(∀b o,b≠it->s.heap.get? b=some o->h'.get? b=some o)->Q none { s with heap:=h' }):wpAny (model prog w) A (pyNext (.ref it)) Q E s:=by
 obtain⟨o,R,hc,hd⟩:=id x;obtain⟨oa,J,G,hf⟩:=id y;unfold pyNext;refine aa (eR (bo (name:=aR "__next__") (YZ x) Wa (a7 Wa (YZ x) zfH ?_ (zg_ _))));unfold cc.«set_iterator.__next__»;refine aa (ae ?_);refine aa (kb R hd ?_);dsimp only;refine aa (oX J G hf ?_);rw[if_neg (by simp)];have up:∀{g g':Obj->Obj} {b:aj} {o},b≠it->s.heap.get? b=some o->((s.heap.update it g).update it g').get? b=some o:=fun C e=>by rw[bR _ _ (dD C),bR _ _ (dD C)];exact e
 have fld:∀{nx:Nat} {v:ag} {P:Fin->aq->Prop} {E':qV},f (i+1)=.int (nx:Int) 0->(∀h',SIt h' it (f (i+1)) (i+1) a es.size ep->(∀b o,b≠it->s.heap.get? b=some o->h'.get? b=some o)->P (.done (.ret v)) { s with heap:=h' })->wpAny (model prog w) A.in1 (do setField (.ref it) 0 (rawInt nx);setField (.ref it) 1 (rawInt ((i:Int)+1));ret v) P E' s:=fun {nx v P E'} e1 hP=>by refine aa (cP R hd (by simp) ?_);have h1:=br (gL (·.setIfInBounds 0 (rawInt (nx:Int)))) R (df (bQ hd _));have S:=bQ hd (·.setIfInBounds 0 (rawInt (nx:Int)));refine aa (cP h1 S (by simp) ?_);have Z:=br (gL (·.setIfInBounds 1 (rawInt ((i:Int)+1)))) h1 (df (bQ S _));refine ae (hP _ ⟨_,Z,?_,?_⟩ fun b ob C e=>up C e);rw[fH,fH];exact hc;rw[bQ S,e1];simp[rawInt]
 have fin:∀{s':aq} {P:Fin->aq->Prop},i=es.size->(∀b o,b≠it->s.heap.get? b=some o->s'.heap.get? b=some o)->s'={ s with heap:=s'.heap }->wpAny (model prog w) A.in1 (do let __do_lift <- newExc (aV "StopIteration") [];raiseNew __do_lift) P (fun e s'=>wpAny (model prog w) A (do let __do_lift <- isInstance e (aV "StopIteration");if __do_lift=true then pure none else throw e) Q E s') s':=fun {s' P} ei hk es'=>by refine aa ?_;simp only[newExc,newTuple];refine aa (aX ?_ (by size_fits));refine aa (m:=firstArgMember _ _) (iO (a:=b8) (by first|rfl|(simp only[firstArgMember];rfl)) ?_);refine aX ?_ (by size_fits);simp only[raiseNew];refine aa (kK ?_);rw[show A.in1.handled=none from hh.resolve_right (by omega)];refine aa (ae (mJ ?_));refine aa (fw (T:="StopIteration") (b:=true) ⟨_,aw _ rfl,rfl⟩ i5 (ae ?_));rw[es'];exact h0 _ ei fun b o C e=>ah _ (ah _ (hk b o C e))
 have U:∀{P:Fin->aq->Prop},i=es.size->wpAny (model prog w) A.in1 (do setField (.ref it) 2 b8;let __do_lift <- newExc (aV "StopIteration") [];raiseNew __do_lift) P (fun e s'=>wpAny (model prog w) A (do let __do_lift <- isInstance e (aV "StopIteration");if __do_lift=true then pure none else throw e) Q E s') s:=fun {P} ei=>by refine aa (cP R hd (by simp) ?_);exact fin ei (fun b o C e=>by rw[bR _ _ (dD C)];exact e) rfl
 cases z with
 | txt C =>
  dsimp only;refine aa ?_;unfold setNext setsByText;refine aa (fI J G hf (aa (aa (fv (ae ?_)))));dsimp only;rw[show(model prog w).w.params.followText "set-order" = true from C,if_pos rfl];rw[if_neg (by simp)];unfold setWalk setsByText;refine aa (aa (fI J G hf (aa (aa (fv (ae ?_))))));dsimp only;rw[show(model prog w).w.params.followText "set-order" = true from C,if_pos rfl];refine aa (fv (ae (ae ?_)));show wpAny _ _ (match (pickOrder (w.params.setOrder a ep) es)[((i:Nat):Int).toNat]?.map (fun e=>(e.2,Int.toNat 0)) with|some (v,at_)=>_|none=>_) _ _ _;rw[bt,<- dh];rw[aT]at h1;cases he:(pickOrder (w.params.setOrder a ep) es).toList[i]? with
  | none =>rw[mn,(zeZ es).length_eq]at he;exact U (by simp at he;omega)
  | some e =>rw[he]at h1;exact fld rfl fun h' x' k=>⟨_,rfl,ae (h1 _ h' rfl x' k)⟩
 | pla C hdr hl r =>
  dsimp only;refine aa ?_;unfold setNext setsByText;refine aa (fI J G hf (aa (aa (fv (ae ?_)))));dsimp only;rw[show(model prog w).w.params.followText "set-order" = false from C,if_neg (by decide)];refine gK (fun z=>absurd (show(!t.plain&&decide (es.size > 1))=true from z) (by rw[hdr];decide)) (fun _=>?_);refine aa ?_;show wpAny _ _ (if (!t.led&&!es.isEmpty)=true then unsupported "set:maker-not-led" else pure ()) _ _ _;rw[hl,if_neg (by simp)];refine ae (ae ?_);have sp:t.place.size=es.size:=by simp only[SetTable.fits,bq,beq_iff_eq]at hf;exact hf.1
  have e0:(if i=0 then(0:Int) else((t.place.getD (i - 1) 0+1:Nat):Int)).toNat=if i=0 then 0 else t.place.getD (i - 1) 0+1:=by split <;> rfl
  rw[e0,zlw r (by omega)];rw[aT,dh]at h1;cases he:es[i]? with
  | none =>rw[Array.getElem?_eq_none_iff]at he;exact U (by omega)
  | some e =>have hl:=(gY.mp he).1;rw[he]at h1;rw[bw (by omega)];dsimp only;refine fld ?_ fun h' x' k=>⟨_,rfl,ae (h1 _ h' rfl x' k)⟩;show mV (if i+1=0 then 0 else(t.place.getD (i+1 - 1) 0+1:Nat)) 0=_;rw[if_neg (by omega),lW];simp[gz,show i<t.place.size by omega]
 | @drw p ps op np hop hdp pm =>
  dsimp only;unfold seqItems?;refine aa (aa (lL hop ?_));rw[hdp];refine ae ?_;dsimp only;rw[aT]at h1;rw[List.getElem?_toArray,bt,aT];cases hq:ps[i]? with
  | none =>rw[mn,pm.length_eq,i6]at hq;refine aa (cP R hd (by simp) ?_);have h1:=br (gL (·.setIfInBounds 0 (rawInt (0:Int)))) R (df (bQ hd _));have S:=bQ hd (·.setIfInBounds 0 (rawInt (0:Int)));refine aa (cP h1 S (by simp) ?_);exact fin (by omega) (fun b o C e=>up C e) rfl
  | some q =>
   rw[hq]at h1;dsimp only[iE];have Y:q<es.size:=by have:=pm.mem_iff.mp (aA hq);simpa using this
   unfold setNextDrawn;refine aa (aa (fI J G hf ?_));dsimp only;rw[if_neg (by simp),bt,bw Y];refine ae ?_;refine aa (cP R hd (by simp) ?_);have Z:=br (gL (·.setIfInBounds 1 (rawInt ((i:Int)+1)))) R (df (bQ hd _));have ev:(es.getD q (0,.none)).2=es[q].2:=by simp[gz,Y]
   refine ae ⟨_,rfl,ae (h1 _ _ (congrArg some ev) ⟨_,Z,?_,?_⟩ fun b ob C e=>?_)⟩;rw[fH];exact hc;rw[bQ hd];simp[rawInt];rw[bR _ _ (dD C)];exact e
end
section
variable{prog:aL}{w:aZ}{A:bg}{E:qV}{s:aq}
theorem zou{r:aj}{Q:Bool->aq->Prop}(l:s.TypeIs (.ref r) "set") (h:Q false s):wpAny (model prog w) A (lH (.ref r)) Q E s:=by
 unfold lH;refine aa (tf l PySem.F.slot_set_len.lookup ?_);generalize hid:("set.__len__":String)=id0
 wp_delta;rw[show splitId id0=some ("set","__len__") from by subst hid;decide +kernel]
 subst hid;refine aa (fw (T:="set") (b:=true) l (by rw[oJ];kernel_rfl) (gK (fun z=>absurd z (by decide)) (fun _=>gK (fun _=>?_) (fun z=>absurd (by decide +kernel) z))));exact aa (dG l (ae h))
theorem zlI(S:A.handled=none){it a:aj}{es:Array (Int×ag)}{ep:Nat}{t:eI}{f:Nat->ag}{vs:List ag}{qs:List aj}(na:it≠a)(R:it∉qs)(U:vs.length=es.size) :
  Walks prog w A it (it::a::qs) [it] es.size (fun i v=>vs[i]?=some v) (fun i h=>SIt h it (f i) i a es.size ep/\SAt h a es ep t/\Orr w h a es ep t f vs qs) where
 sub:=by simp
 frame:=fun i h h' ⟨⟨o,e,r⟩,⟨C,I,L⟩,z⟩ k=>⟨⟨o,k it (by simp) o e,r⟩,⟨C,k a (by simp) C I,L⟩,z.keep fun b u o e=>k b (by simp[u]) o e⟩
 item:=fun i s Q E hi ⟨x,y,z⟩ J=>by refine zjL (.inr hi) x y z (fh hi) (fun v h' G N k=>J v h' s.toks G ⟨N,?_,z.keep fun b u o e=>k b o (fun q=>R (q▸u)) e⟩ fun b o u e=>k b o (by simpa using u) e) fun _ e=>absurd e (aD hi);obtain⟨C,I,L⟩:=y;exact⟨C,k a C (dD na) I,L⟩
 done:=fun s Q E ⟨x,y,z⟩ J=>zjL (.inl S) x y z (ar _) (fun v h' G=>absurd (av.mp G).1 (by rw[U];exact fK _)) fun h' _ k=>J h' s.toks fun b o u e=>k b o (by simpa using u) e
 self:=fun i s Q E ⟨x,_⟩ h=>by refine gS (YZ x) zdp (a7 zdp (YZ x) zfI ?_ (zha _));exact aa (ae (ae ⟨_,rfl,_,_,YZ x,Wa.lookup,h⟩))
theorem zos{a:aj}{ns:List Int}{Q:qV}(S:SetI w s.heap a ns)
  (h:∀it h' d es ep t f vs qs,(∃ms,ms.Perm ns/\bL elI ms es.toList)->(∀b o,s.heap.get? b=some o->h'.get? b=some o)->s.heap.objs.size<=it->(∀q∈qs,s.heap.objs.size<=q/\q≠it)->SIt h' it (f 0) 0 a es.size ep->SAt h' a es ep t->Orr w h' a es ep t f vs qs->Q (.ref it) { s with heap:=h',drawn:=d }):wpAny (model prog w) A (pyIter (.ref a)) Q E s:=by
 have ty:=zeJ S;obtain⟨o,C,es,ep,t,hex,hd,pp,nd,I,hf,rs,ld⟩:=S;refine gS ty tz (a7 tz ty zfJ ?_ (F.args_set_iter_1 _));unfold cc.«frozenset.__iter__»;refine aa (ae ?_);unfold vE;refine aa (aa (oX C hd hf (ae ?_)));unfold setDrawn setsByText;refine aa (aa (fI C hd hf (aa (aa (fv (ae (ae ?_)))))));have fin:∀(s1:aq) (f:Nat->ag) (vs:List ag) (qs:List aj) (P:Fin->aq->Prop),(∀b o,s.heap.get? b=some o->s1.heap.get? b=some o)->s.heap.objs.size<=s1.heap.objs.size->(∀q∈qs,s.heap.objs.size<=q/\q<s1.heap.objs.size)->Orr w s1.heap a es ep t f vs qs ->
   (∀h',SIt h' s1.heap.objs.size (f 0) 0 a es.size ep->(∀b o,s1.heap.get? b=some o->h'.get? b=some o)->P (.done (.ret (.ref s1.heap.objs.size))) { s1 with heap:=h' })->wpAny (model prog w) A.in1 (do let e <- setEpoch a;let r <- newFields "set_iterator" [f 0,rawInt 0,aJ a,rawInt ↑es.size,rawInt ↑e];ret r) P E s1:=fun s1 f vs qs P k sz u z L=>by
  refine aa (wpAny_setEpoch_of (k a o C) hd hf ?_);refine aa (aX (ae (L _ ⟨_,aw _ rfl,rfl,?_⟩ fun b o e=>ah _ e)) (by size_fits));simp[rawInt]
 have tail:∀{s1:aq} {d} {f:Nat->ag} {vs:List ag} {qs:List aj},s1={ s with heap:=s1.heap,drawn:=d }->(∀b o,s.heap.get? b=some o->s1.heap.get? b=some o)->s.heap.objs.size<=s1.heap.objs.size->(∀q∈qs,s.heap.objs.size<=q/\q<s1.heap.objs.size)->Orr w s1.heap a es ep t f vs qs ->
   wpAny (model prog w) A.in1 (do let e <- setEpoch a;let r <- newFields "set_iterator" [f 0,rawInt 0,aJ a,rawInt ↑es.size,rawInt ↑e];ret r) (fun fin s'=>∃v,fin=x8 (x9 v)/\∃T' r,s'.TypeIs v T'/\typeLookup (aV T') (aR "__next__")=pure (some r)/\Q v s') E s1:=fun {s1 d f vs qs} e1 k sz u z=>by
  refine fin s1 f vs qs _ k sz u z fun h' J G=>⟨_,rfl,_,_,?_,Wa.lookup,?_⟩;exact YZ (s:={ s1 with heap:=h' }) J;rw[e1];exact h _ h' d es ep t f vs qs pp (fun b o e=>G b o (k b o e)) sz (fun q y=>⟨(u q y).1,aD (u q y).2⟩) J ⟨o,G a o (k a o C),hd,hf⟩ (z.keep fun b I o e=>G b o e)
 cases hb2:w.params.followText "set-order" with
 | true =>rw[show(!(pP (model prog w).prog (model prog w).w.params).params.followText "set-order")=false by rw[show(pP (model prog w).prog (model prog w).w.params).params.followText "set-order" = true from hb2];rfl,dW,if_neg (by decide)];refine aa (ae ?_);exact tail (s1:=s) (d:=s.drawn) (f:=fun _=>.int 0 0) rfl (fun _ _ e=>e) (ar _) (fun q u=>absurd u (by simp)) (.txt hb2) (qs:=[])
 | false =>rw[show(!(pP (model prog w).prog (model prog w).w.params).params.followText "set-order")=true by rw[show(pP (model prog w).prog (model prog w).w.params).params.followText "set-order" = false from hb2];rfl,dS];refine gK (fun z=>?_) (fun z=>?_);refine aa (zgj _ _ _ _ (i6 ..) fun ys d pm=>?_);refine aa (aX ?_ (by show _<=sizeLine;simp[pm.length_eq];exact kh I));refine tail (d:=d) (f:=fun _=>.ref s.heap.objs.size) (qs:=[s.heap.objs.size]) rfl (fun b o e=>ah _ e) (by show _<=(s.heap.push _).objs.size;rw[cM];exact kS _) (fun q u=>?_) (.drw (ps:=ys) (aw _ rfl) rfl pm);rw[aC]at u;subst u;exact⟨ar _,by show _<(s.heap.push _).objs.size;rw[cM];exact rT _⟩;refine aa (ae ?_);exact tail (s1:=s) (d:=s.drawn) (f:=fun i=>.int (if i=0 then 0 else(t.place.getD (i - 1) 0+1:Nat)) 0) rfl (fun _ _ e=>e) (ar _) (fun q u=>absurd u (by simp)) (qs:=[]) (.pla hb2 (by simpa using(show ¬(!t.plain&&decide (es.size > 1))=true from z)) (ld hb2) rs)
theorem zot(hA:A.handled=none){a S:aj}{ns:List Int}{R:rQ->aq->Prop}(N:SetI w s.heap a ns)(na:S≠a)(hS:s.heap.get? S=some ⟨.type "list",none,.seq #[] 0,#[]⟩)
  (h:∀h' tk d acc c,(∀b o,b≠S->s.heap.get? b=some o->h'.get? b=some o)->h'.get? S=some ⟨.type "list",none,.seq acc c,#[]⟩->(∃ms,ms.Perm ns/\bL (fun(i:Int) (v:ag)=>∃t,v=.int i t) ms acc.toList)->R (.ok (.ret (.ref S))) { s with heap:=h',toks:=tk,drawn:=d }) :
  codeAny (model prog w) A (.builtin "list.__iadd__" ⟨[.ref S,.ref a],[]⟩) R s:=by
 have lS:S<s.heap.objs.size:=ax hS;have ty:=zeJ N;refine cT m6 ?_;show wpAny (model prog w) _ (bX (.ref S) (.ref a) (.ref S)) _ _ s;rw[gZ nj _];unfold bX;refine aa (dG (T:="set") ty ?_);have c1:eS (.ref S) (.ref a)=false:=by simp[eS,na]
 have c2:(aV "set" == aV "list" ||aV "set" == aV "tuple")=false:=by decide
 rw[c1,pf,c2,if_neg (by decide)];refine aa (zos N fun it h1 d es ep t f vs qs pp k1 lit G x y z=>?_);obtain⟨oa,ea,_⟩:=id N;have la:=ax ea;have nSI:S≠it:=aD (aM lS lit);have nf:S∉it::a::qs:=by simp only[ay,not_or];exact⟨nSI,na,fun Y=>absurd (G S Y).1 (Al.mpr lS)⟩
 have W:=zlI (prog:=prog) (w:=w) (A:=A.in1) hA (it:=it) (a:=a) (es:=es) (ep:=ep) (t:=t) (f:=f) (vs:=vs) (qs:=qs) (dD (aD (aM la lit))) (fun Y=>(G it Y).2 rfl) z.len;have sz:es.size<=sizeLine:=by obtain⟨o',e',es',_,_,_,hd',⟨ms',pm',pr'⟩,_,hb',_⟩:=N;obtain⟨ms,pm,pr⟩:=pp;have l1:=VR pr;have l2:=VR pr';rw[pm.length_eq]at l1;rw[pm'.length_eq]at l2;exact kh (by simp at l1 l2;omega)
 have key:∀(J:a9) (c tk:Nat),(∀b o,b≠S->h1.get? b=some o->J.get? b=some o)->J.get? S=some ⟨.type "list",none,.seq #[] c,#[]⟩->codeAny (model prog w) A (.builtin "list.extend.loop" ⟨[.ref S,.ref it,.ref S],[]⟩) R { s with heap:=J,toks:=tk,drawn:=d }:=fun J c tk k2 U=>by
  have st:=W.frame 0 h1 J ⟨x,y,z⟩ fun b C o e=>k2 b o (fun q=>nf (q▸C)) e;refine codeAny_extend_loopS W.toS sz S nf (.ref S) es.size 0 _ #[] c rfl (cO _) st U (ItemsOf.nil _) fun s' acc c' hm hS' L=>?_;rw[Moved.eq_with hm];refine h _ _ _ acc c' (fun b o C e=>hm.heap b o (fun I=>?_) (k2 b o C (k1 b o e))) hS' ?_;rcases ay.mp I with q|q;exact C q;rw[aC]at q;rw[q]at e;exact absurd (ax e) (ua.mpr lit);obtain⟨ha,C⟩:=L;have ev:acc.toList=vs:=by refine mH fun i=>?_;rcases bG i acc.size with q|q;rw[dh,bw q];exact(C i _ (bw q)).symm;rw[bO (by simpa using q),bO (by rw[z.len];omega)]
  rw[ev];obtain⟨ms,pm,pr⟩:=pp;have pr2:bL (fun(i:Int) (v:ag)=>∃t,v=.int i t) ms (es.toList.map (·.2)):=by
   clear pm;generalize es.toList=el at pr;induction pr with
   | nil=>exact .nil
   | cons r _ ih=>exact .cons r.2 ih
  obtain⟨Z,p2,q2⟩:=ze1 z.perm.symm pr2;exact⟨Z,p2.trans pm,q2⟩
 have S1:=k1 S _ hS;refine aa (bM (zou (let ⟨o,e,c⟩:=ty;⟨o,k1 a o e,c⟩) ?_));refine gK (fun _=>aa (cK (aa ?_))) (fun _=>ae ⟨kM cy _,key h1 0 _ (fun b o _ e=>e) S1⟩);show wpAny _ _ (updateSeq S (·.push .none) >>= fun _=>updateSeq S (·.pop)) _ _ _;refine aa (gH S1 rfl ?_);have S2:=br (dZ (·.push b8)) S1 rfl;refine gH (hz:=by seq_fits) S2 rfl ?_;have S3:=br (dZ (·.pop)) S2 rfl;refine ae ⟨kM cy _,key _ _ _ (fun b o nb e=>?_) S3⟩;rw[bR _ _ (dD nb),bR _ _ (dD nb)];exact e
theorem ziO(L:A.handled=none){a:aj}{ns:List Int}{Q:List ag->aq->Prop}(I:SetI w s.heap a ns)
  (h:∀h' tk d vs,(∀b o,s.heap.get? b=some o->h'.get? b=some o)->s.heap.objs.size<=h'.objs.size->(∃ms,ms.Perm ns/\bL (fun(i:Int) (v:ag)=>∃t,v=.int i t) ms vs)->Q vs { s with heap:=h',toks:=tk,drawn:=d }):wpAny (model prog w) A (collect (.ref a)) Q E s:=by
 unfold collect;refine aa (oB (cT kT ?_));show wpAny (model prog w) _ (newList [] >>= fun x=>again (.builtin "list.__iadd__" ⟨[x,.ref a],[]⟩)) _ _ s;obtain⟨J,y,G⟩:=id I;have N:=ax y;refine aa (kJ (ae ⟨fz _ (by decide +kernel),?_⟩));refine zot L (ns:=ns) ⟨J,ah _ y,G⟩ (dU N) (aw _ rfl) fun h' tk d acc c kp C pp=>?_;refine aa (m:=load s.heap.objs.size) (lL C ?_);exact ae (h h' tk d _ (fun b o e=>kp b o (aD (ax e)) (ah _ e)) (fh (ax C)) pp)
end
end L2
namespace L2
open PySem PySem.Spec PyProof.Rows
theorem zl0{w:aZ}{o:Obj}{ns:List Int}(h:SetO w o ns):o.isFreed=false:=by obtain⟨es,ep,t,hex,hd,_⟩:=h;cases o;cases hd;rfl
def SDO(w:aZ)(a:aj)(ns:List Int):HO:=.ext fun h=>SetI w h a ns
theorem sdo_ok{P:aL}{w:aZ}{H:Hp}{h:a9}{a:aj}{ns:List Int}(x:SetI w h a ns):JC P w H h a (SDO w a ns):=by refine⟨x,let ⟨o,e,_⟩:=x;⟨o,e⟩,fun h1 l z k=>?_⟩;obtain⟨o,e,r⟩:=z;exact⟨o,k o e,r⟩
theorem Inv.setI{X:Cx}{pins:qO}{σ:St}{H:Hp}{s:aq}{a:aj}{ns:List Int}(I:Inv X pins σ H s)(h:H a=some (SDO X.w a ns)):SetI X.w s.heap a ns:=(I.hok a _ h).1
theorem zso{ns:List Int}{j x:Int}:x∈adI ns j↔x∈ns\/x=j:=by unfold adI;split;rename_i h;exact⟨.inl,fun z=>z.elim id fun z=>z▸h⟩;simp
theorem zvj{ns:List Int}{j:Int}(h:ns.Nodup):(adI ns j).Nodup:=by unfold adI;split;exact h;rename_i z;exact eh.mpr ⟨h,by simp,fun x hx y l=>by rw[aC]at l;subst l;exact fun q=>z (q▸hx)⟩
theorem zsp{ns:List Int}{j:Int}:(adI ns j).length<=ns.length+1:=by unfold adI;split;omega;simp
def ddI(acc:List Int):List Int:=acc.foldl adI []
theorem znE(acc:List Int):(ddI acc).Nodup/\(∀x,x∈ddI acc↔x∈acc)/\(ddI acc).length<=acc.length:=by
 have key:∀(acc ns:List Int),ns.Nodup->(acc.foldl adI ns).Nodup/\(∀x,x∈acc.foldl adI ns↔x∈ns\/x∈acc)/\(acc.foldl adI ns).length<=ns.length+acc.length:=by
  intro acc;induction acc with
  | nil=>intro ns h;exact⟨h,fun x=>by simp,ar _⟩
  | cons a acc C =>intro ns h;obtain⟨h1,v,y⟩:=C (adI ns a) (zvj h);refine⟨h1,fun x=>by rw[nR,v,zso,ay];exact or_assoc,?_⟩;have:=zsp (ns:=ns) (j:=a);rw[nR,aH];omega
 obtain⟨h1,v,y⟩:=key acc [] .nil;exact⟨h1,fun x=>by rw[ddI,v];simp,by rw[ddI];simpa using y⟩
theorem zpB{acc:List Int}{j:Int}:ddI (acc++[j])=adI (ddI acc) j:=by rw[ddI,List.foldl_append];rfl
def AS(w:aZ)(_:Ctx)(D:aj)(H:Hp)(acc:List Int):Prop:=H D=some (SDO w D (ddI acc))
theorem zvg{w:aZ}:AOk (AS w):=fun _ _ _ _ hx l h=>⟨.inr (.inr ⟨_,h⟩),fun ks z=>(by rw[h]at z;cases z),fun H' e=>e _ _ h l⟩
def nxS(elt:aY)(acc:ag)(env:Env)(k:Sem Fin):Sem Fin:=do
 (do let v <- eval elt env;standAt elt.pos;let _ <- call (.builtin "set.add") [acc,v])
 k
abbrev tdS(te:DTE)(ρ:En)(n:Nat)(acc:List Int)(R:List Int->Nat->Prop):Prop:=te ρ n fun t n3=>∃j,t=.int j/\acc.length<4000/\R (acc++[j]) n3
section
variable{X:Cx}{scope:fo}{own:List Str}{capt:List Nat}{elt:aY}{gs:List o6}{pos:Pos}{te:DTE}
theorem zna:IsC (.SetComp elt gs scope pos):=fun _ _ _ _ _ _ _=>⟨⟨rfl,rfl⟩,⟨rfl,rfl⟩,rfl⟩
theorem ztV{P:aL}{w:aZ}:NA P w (newSet (.type "set")) fun D u=>u=SDO w D []:=fun A E s Q _ h=>zrp fun o l=>h o (zl0 l) fun h' e=>⟨_,rfl,fun H'=>sdo_ok ⟨o,e,l⟩⟩
theorem zuO(he:Fam X scope own capt fun Y=>DE Y elt te):HM X scope own capt (nxS elt) (AS X.w) [] (tdS te):=by obtain⟨ge,pe,G⟩:=DE.fam he;refine⟨fun D σ H N=>ge σ H fun v J=>∃ns j,v=.int j/\J D=some (SDO X.w D ns)/\ns.length+1<scanBound/\N (upd J D (SDO X.w D (adI ns j))),fun D C s₀ H₀ fp pins s σ H N k Q E I h hk=>?_,fun C D hD U ρ σ H n acc N R S _ a r hq=>?_⟩;refine aa (aa (cz (pe C s₀ H₀ fp pins s σ H _ I h) (fun y s9 ⟨v,H9,Z,r9,ns,j,ev,u,hl,q9⟩=>aa (eO (aa ?_))) fun _ _ z=>z.elim));subst ev;obtain⟨tk,rfl⟩:=r9;refine zjw (Z.setI u) hl fun h' tk' sb S'=>?_;exact ae (hk _ _ (zjs Z (by rw[u];exact iI) sb (let ⟨o,e,_⟩:=S';⟨o,e⟩) (sdo_ok S')) q9);refine G C ρ σ H n _ _ S r fun t n6 v J L e6 x q6=>?_;have u:=e6 D _ a U;obtain⟨j,rfl,l,L⟩:=L;have:=(znE acc).2.2;exact⟨_,j,q6.intI,u,by show _<4096;omega,hq _ n6 _ L (fun b o hb nb ne=>by rw[Jh ne];exact e6 b o hb nb) (Hn.updR U (.inr (.inr ⟨_,u⟩)) x) (by rw[AS,zpB];exact JE)⟩
end
section
variable{X:Cx}
theorem zfL(hc:X.calm=true):JK X (.builtin "sorted") (fun xs H Q=>∃(p:aj) (ns:List Int),xs=[.ref p]/\H p=some (SDO X.w p ns)/\ns.length<64 /\
  ∀G:List Int,G.Perm ns->G.Pairwise (·<=·)->∀l,H l=none->Q (.ref l) (upd H l (.lst (G.map V.int)))):=by
 intro pins s σ H xs us Q I r h;obtain⟨p,ns,rfl,U,hz,q⟩:=h;obtain⟨u,rfl,Y⟩:=r.one;cases(show u=aJ p from Y);have S:=I.setI U;refine zda (A:=X.A) (x:=.ref p) (rk:=fun _=>rkI) (C:=fun h' tk vs=>(∀b o,s.heap.get? b=some o->h'.get? b=some o)/\s.heap.objs.size<=h'.objs.size/\∃ms,ms.Perm ns/\bL (fun(i:Int) (v:ag)=>∃t,v=.int i t) ms vs) ?_ ?_ ?_ ?_;intro R E' Q' Z L;exact ziO (Z.trans (I.ok.hd hc)) S fun h' tk d vs kp sz pp=>L h' tk d vs ⟨kp,sz,pp⟩;rintro h' tk vs ⟨kp,sz,ms,pm,pr⟩;have:=VR pr;rw[pm.length_eq]at this;exact US (by lia);rintro h' tk d vs R ⟨kp,sz,ms,pm,pr⟩ hA';refine zlf fun v J=>?_;obtain⟨i,_,t,e⟩:=ze2 pr v J;exact⟨i,t,e⟩;rintro h' tk d vs N y e ⟨kp,sz,ms,pm,pr⟩ kp2 pm2 up he;obtain⟨G,p1,p2,p3⟩:=zgy (f:=fun(i:Int)=>i) pr (fun a v J=>by obtain⟨t,rfl⟩:=J;rfl) pm2 up;have lj:G.length<=sizeLine:=by
  have a1:=p1.length_eq;have a2:=pm.length_eq;have a3:64<=sizeLine:=by decide
  lia
 refine⟨.ref h'.objs.size,_,((I.laid (a:=h'.objs.size) (o:=.lst (G.map V.int)) (t':=tk) (h':=N) (fun b o e=>kp2 b o (kp b o e)) sz ⟨by simpa using lj,_,e,zqs p3,by rw[kY];exact he⟩).drw d),rfl,q G (p1.trans pm) p2 _ (I.hok.fresh sz)⟩
end
def Zj(g:DTG)(tt:DTT)(l:DTE)(ρ0:En)(xs:qD)(acc:List Int)(n:Nat)(R:List Int->Nat->Prop):Prop:=cGo g tt (tdS l) ρ0 xs acc n R
def ZF(g:DTG)(tt:DTT)(l:DTA)(g2:DTG)(o:DTT)(u:DTE)(ρ0:En)(xs:qD)(acc:List Int)(n:Nat)(R:List Int->Nat->Prop):Prop:=cGo g tt (tdN l g2 o (tdS u)) ρ0 xs acc n R
def Edg(acc l:List Int):Prop:=l.Pairwise (·<·)/\∀x,x∈l↔x∈acc
def SrtR(R:List af->Nat->Prop)(acc:List Int)(n:Nat):Prop:=acc.length<64/\∀l,Edg acc l->R (l.map bS) n
def zsa(m:Nat)(capt:List Nat)(y:DTA)(g:DTG)(tt:DTT)(l:DTA)(g2:DTG)(o:DTT)(v:DTE):DTA:=fun u n R=>y u n fun ts x=>ZF g tt l g2 o v (JG m capt u) ts [] x (SrtR R)
theorem zu6{acc l:List Int}(p:l.Perm (ddI acc))(w:l.Pairwise (·<=·)):Edg acc l:=by obtain⟨h1,o,_⟩:=znE acc;have nd:l.Nodup:=p.nodup_iff.mpr h1;refine⟨?_,fun x=>by rw[p.mem_iff,o]⟩;refine(List.pairwise_and_iff.mpr ⟨w,nd⟩).imp fun {a b} h=>?_;have h1:=h.1;have o:a≠b:=h.2;omega
section
variable{X:Cx}{scope:fo}{own:List Str}{capt:List Nat}{elt tg iter tg2 it2:aY}{ifs L9:List aY}{pos p0 p1:Pos}{di di2:DTA}{is is2:List Nat}{g g2:DTG}{tt tt2:DTT}{te:DTE}
theorem zlo(hm:X.mg "sorted" = none) (hc:X.calm=true) (S:Jx scope own capt X) (hi:DIL X tg iter di)
  (hg:Fam X scope own capt fun Y=>DG Y tg is g) (L:∀i∈is,i<own.length) (ht:Fam X scope own capt fun Y=>DTs Y ifs tt) (G:Fam X scope own capt fun Y=>DI Y tg2 it2 di2) (I:Fam X scope own capt fun Y=>DG Y tg2 is2 g2) (MD:∀i∈is2,i<own.length/\i∉is) (v:Fam X scope own capt fun Y=>DTs Y L9 tt2)
  (he:Fam X scope own capt fun Y=>DE Y elt te)
  (J:starEach [.SetComp elt [⟨tg,iter,ifs,0⟩,⟨tg2,it2,L9,0⟩] scope pos] X.env=[(false,eval (.SetComp elt [⟨tg,iter,ifs,0⟩,⟨tg2,it2,L9,0⟩] scope pos) X.env)]:=by rfl) (Z:Gl X "sorted":=by rfl)
  (hs:∀x,foldedSetIterable iter X.env x=pure x:=by intro _;rfl) (y:∀(C:aj) (x:ag),foldedSetIterable it2 (compEnvC scope (ownCl X scope C) C X.env) x=pure x:=by intro _ _;rfl) :
  DN X (.Call (.Name "sorted" p0) [.SetComp elt [⟨tg,iter,ifs,0⟩,⟨tg2,it2,L9,0⟩] scope pos] [] p1) (zsa own.length capt di g tt di2 g2 tt2 te):=by
 obtain⟨ge,p,_,sp⟩:=VV (e:=.SetComp elt [⟨tg,iter,ifs,0⟩,⟨tg2,it2,L9,0⟩] scope pos) (a0:=[]) zvg (fun _ _ _ ho h=>by rw[h];exact JE) hc S ⟨zna,⟨_,rfl⟩,fun _ _ _=>rfl,fun _=>⟨_,rfl⟩,fun _ _=>⟨_,rfl⟩⟩ ztV hi hg L ht (znf zvg zna hc rfl (fun _ _ _=>rfl) G I v y (zuO he)) MD hs;refine⟨_,Ye (zfL hc) hm sE (Qd p QF J) Z,fun C ρ σ H n Q R St hd hq=>?_⟩;refine sp C ρ σ H n _ _ St hd fun acc n2 H2 D c2 e2 u hD _ hy=>⟨D,_,rfl,hy,?_,fun js pm pw l U=>?_⟩;exact gm (znE acc).2.2 c2.1;exact hq _ n2 l _ _ (c2.2 js (zu6 pm pw)) (e2.trans (ExtE.new U)) (u.same (JM U)) (ZK e2 u U) JE (zmg js)
end
section
variable{ρ ρ0:En}{n m:Nat}{di di2:DTA}{g g2:DTG}{tt tt2:DTT}{te:DTE}{capt:List Nat}{Rl:List af->Nat->Prop}
instance zxM [h:CompN m capt ρ ρ0]:Stp (zsa m capt di g tt di2 g2 tt2 te ρ n Rl) (di ρ n fun ts n1=>ZF g tt di2 g2 tt2 te ρ0 ts [] n1 (SrtR Rl)):=⟨fun k=>by unfold zsa;rw[h.e];exact k⟩
theorem zl3{α:Type}{cs:List α}{D:α->af}{R:List Int->Nat->Prop}(f:α->List Int)(hf:∀c,(f c).length<=2)(I:cs.length<=1000)
  (turn:∀c∈cs,∀(acc:List Int) (K:List Int->Nat->Prop),acc.length+2<4000->K (acc++f c) n->g (D c) ρ0 fun o=>tt o n fun b v=>if b=true then di2 o v fun ts y=>Zj g2 tt2 te o ts acc y K else K acc v) (h:R (cs.flatMap f) n) :
  ZF g tt di2 g2 tt2 te ρ0 (cs.map D) [] n R:=by
 have key:∀(ds:List α) (acc:List Int),(∀c∈ds,c∈cs)->acc.length+2*ds.length<3000->R (acc++ds.flatMap f) n->ZF g tt di2 g2 tt2 te ρ0 (ds.map D) acc n R:=by
  intro ds;induction ds with
  | nil=>intro acc _ _ h;exact(by simpa using h:R acc n)
  | cons d ds C =>intro acc x hz h;rw[aH]at hz;have:=hf d;refine turn d (x d (.head _)) acc (fun u G=>ZF g tt di2 g2 tt2 te ρ0 (ds.map D) u G R) (by omega) (C _ (fun c hc=>x c (.tail _ hc)) (by rw[ba];omega) ?_);rw[eX];simpa using h
 exact key cs [] (fun _ h=>h) (by simp;omega) (by simpa using h)
end
end L2
namespace L2
open PySem PySem.Spec PyProof PyProof.Rows
section
variable{X:Cx}
theorem zjx(hc:X.calm=true)(U:X.A.units+64<cLine):JK X (.type "dict") (fun xs H Q=>∃(p:aj) (vs:List V) (zs:ZT),xs=[.ref p]/\tyT X.K (.ref p) H/\SqT X.K H p vs/\bL (KZp X.K H) vs zs/\(zs.map (·.1)).Nodup/\∀l ep,H l=none->Q (.ref l) (upd H l (ZDO l zs ep))):=by
 intro pins s σ H xs us Q I r h;obtain⟨p,vs,zs,rfl,ty,R,pr,nd,q⟩:=h;obtain⟨u,rfl,G⟩:=r.one;cases(show u=aJ p from G);obtain⟨its,rel,⟨o,g1,g2,n,g3⟩,lz⟩:=I.tuple R;obtain⟨_,L⟩:=zpR I G ty;obtain⟨Z,C,d'⟩:=L p rfl;rw[g1]at C;cases C;obtain⟨ps,x,S⟩:=zmC I rel pr;have lp:zs.length=vs.length:=(cE pr).symm;have l2:ps.length=zs.length:=(cE x).symm;have v:(ps.map (·.1)).Nodup:=by rw[ziK x];exact A9 kL (fun a b h e=>h (ZG.mp e)) nd
 refine zg7 (A:=X.A) (its:=its.toArray) (ps:=ps) g1 g2 g3 d' (I.ok.hd hc) U (by simpa using S) (by lia) v fun h' tk kp Y=>?_;have J:(s.heap.objs.size == sysModules)=false:=beq_eq_false_iff_ne.mpr (dD (aD I.big));obtain⟨ep,ok⟩:=YG (X:=X) (H':=H) J (by lia) x Y;exact⟨.ref s.heap.objs.size,_,I.laid (a:=s.heap.objs.size) (o:=ZDO s.heap.objs.size zs ep) (t':=tk) kp (ar _) ok,rfl,q _ ep (I.hok.fresh (ar _))⟩
theorem zkI{K:qF}{hd:Option aj}{O:aj->Prop}{H:Hp}{zs:ZT}{ks:KT2}(r:Jl K hd O H zs ks):zs.map (·.1)=ks.map (·.1) :=
 r.ind (P:=fun(zs:ZT) (ks:KT2)=>zs.map (·.1)=ks.map (·.1)) rfl (fun _ _ _ i=>by simp[i])
end
section
variable{X:Cx}{e:aY}{d:DTE}{p2 cp:Pos}
def zqn(d:DTE):DTE:=fun v n R=>d v n fun t x=>∃ks:KT2,t=.tuple (ks.map prT)/\(ks.map (·.1)).Nodup/\R (.dict (Jm ks)) x
theorem zpz(hc:X.calm=true)(hu:X.A.units+64<cLine)(G:X.mg "dict" = none) (h:DE X e d) (u:starEach [e] X.env=[(false,eval e X.env)]:=by rfl) (I:Gl X "dict":=by rfl) :
  DE X (.Call (.Name "dict" p2) [e] [] cp) (zqn d):=by
 obtain⟨ta,pa,h⟩:=h;refine⟨_,zhN (zjx hc hu) I G rfl (QT pa QY u) (he:=u),fun C ρ σ H n Q R S hd hq=>?_⟩;refine h C ρ σ H n _ _ S hd fun t n1 v H1 Y J x U=>?_;obtain⟨ks,rfl,nd,r⟩:=Y;have S1:=S.on J x;have ty:tyT X.K v H1:=by
  cases U with
  | tup h o r=>exact⟨_,_,rfl,.inl h⟩
  | tupS h r=>exact⟨_,_,rfl,.inr h⟩
 obtain⟨p,vs,rfl,sq,Z⟩:=U.tupI;obtain⟨zs,z1,L⟩:=zjR Z;refine⟨p,vs,zs,rfl,ty,sq,z1,by rw[zkI L];exact nd,fun l ep y=>?_⟩;exact hq _ n1 _ _ r (J.trans (ExtE.new y)) (x.same (JM y)) (.dcT JE (S1.free y) (L.mono (fun _ _ _ z=>z) (fun b o _ hb=>JM y b o hb)) rfl)
instance zwI {ρ:En}{n:Nat}{R:qN}:Stp (zqn d ρ n R) (d ρ n fun t n1=>∃ks:KT2,t=.tuple (ks.map prT)/\(ks.map (·.1)).Nodup/\R (.dict (Jm ks)) n1):=⟨fun h=>h⟩
end
def jn(l u:Int×Int):Int×Int:=(if l.2+u.2+1<l.1+u.1 then l.2+u.2+1 else l.1+u.1,if l.1+u.1+1<l.2+u.2 then l.1+u.1+1 else l.2+u.2)
open Classical in
noncomputable def kst (Z:Int->Prop):Nat->Int->Int×Int
 | 0,i=>if Z i then(1,0) else(0,1)
 | n+1,i=>jn (kst Z n i) (kst Z n (i+2 ^ n))
def decT(S:Int×Int->Option Int):Nat->Int->Int->Int->Int
 | 0,i,d,_=>(S (i,0)).getD d
 | n+1,i,d,x=>if x<i+2 ^ n then decT S n i ((S (i,((n+1:Nat):Int))).getD d) x else decT S n (i+2 ^ n) ((S (i,((n+1:Nat):Int))).getD d) x
def cnt(S:Int×Int->Option Int):Nat->Int->Int
 | 0,i=>if (S (i,0)).isSome then 1 else 0
 | n+1,i=>(if (S (i,((n+1:Nat):Int))).isSome then 1 else 0)+cnt S n i+cnt S n (i+2 ^ n)
def pk(d:Int)(q:Int×Int):Int:=if d=0 then q.1 else q.2
theorem zw4{l u:Int×Int}{d:Int}(h:d=0\/d=1):pk d (jn l u)<=pk d l+pk d u/\∀d',(d'=0\/d'=1)->pk d (jn l u)<=1+pk d' l+pk d' u:=by constructor;rcases h with rfl|rfl;simp only[pk,jn,if_pos];split <;> omega;simp only[pk,jn,show ¬(1:Int)=0 by decide,if_false];split <;> omega;rintro d' (rfl|rfl) <;> rcases h with rfl|rfl <;> simp only[pk,jn,if_pos,show ¬(1:Int)=0 by decide,if_false] <;> split <;> omega
theorem QR(n:Nat):(2:Int) ^ (n+1)=2 ^ n+2 ^ n:=by rw[bH];omega
theorem ze_{S:Int×Int->Option Int}{Z:Int->Prop}(v:∀b s,S b=some s->s=0\/s=1):∀(n:Nat) (i d:Int),(d=0\/d=1)->(∀x,i<=x->x<i+2 ^ n->(decT S n i d x=1↔Z x))->pk d (kst Z n i)<=cnt S n i
 | 0,i,d,hd,h=>by
  have h0:=h i (aO _) (by rw[lI];omega);unfold decT at h0;unfold kst cnt;cases e:S (i,0) with
  | none =>
   rw[e]at h0;simp only[mY]at h0;rcases hd with rfl|rfl;have:¬Z i:=fun z=>by have:=h0.mpr z;omega
   simp[pk,this];have:Z i:=h0.mp rfl;simp[pk,this]
  | some s =>rcases hd with rfl|rfl <;> by_cases z:Z i <;> simp[pk,z]
 | n+1,i,d,hd,h=>by
  have p2:=QR n;have pp:(0:Int)<2 ^ n:=Bd.Qc n;have sub:∀d',(S (i,((n+1:Nat):Int))).getD d=d'->(d'=0\/d'=1)->pk d' (kst Z n i)<=cnt S n i/\pk d' (kst Z n (i+2 ^ n))<=cnt S n (i+2 ^ n):=fun d' e o=>by refine⟨ze_ v n i d' o fun x h1 C=>?_,ze_ v n (i+2 ^ n) d' o fun x h1 C=>?_⟩;have:=h x h1 (by omega);unfold decT at this;rwa [if_pos C,e]at this;have:=h x (by omega) (by omega);unfold decT at this;rwa [if_neg (by omega),e]at this
  unfold kst cnt;obtain⟨I,G⟩:=zw4 (l:=kst Z n i) (u:=kst Z n (i+2 ^ n)) hd;cases e:S (i,((n+1:Nat):Int)) with
  | none =>obtain⟨s1,s2⟩:=sub d (by rw[e];rfl) hd;simp only[Option.isSome_none,aI,if_false];omega
  | some s =>have y:=v _ _ e;obtain⟨s1,s2⟩:=sub s (by rw[e];rfl) y;have:=G s y;simp only[pJ,if_true];omega
def sgAt(rs:RL)(b:Int×Int):Option Int:=(rs.find? fun r=>decide (r.1=b)).map (·.2)
theorem UY{rs:RL}{b:Int×Int}{s:Int}(h:sgAt rs b=some s):(b,s)∈rs:=by
 unfold sgAt at h;obtain⟨r,h1,l⟩:=cU.mp h;have e:r.1=b:=by simpa using tx h1
 have m:=mj h1;have:r=(b,s):=dz e l;rwa [this]at m
theorem VZ{rs:RL}{b:Int×Int}(h:sgAt rs b=none):∀r∈rs,r.1≠b:=fun r l e=>by unfold sgAt at h;rw[nH,gy]at h;exact h r l (decide_eq_true e)
theorem ziN{rs:RL}(nd:(rs.map (·.1)).Nodup){r:(Int×Int)×Int}(h:r∈rs):sgAt rs r.1=some r.2:=by
 cases e:sgAt rs r.1 with
 | none=>exact absurd rfl (VZ e r h)
 | some s =>
  have m:=UY e;have:∀{l:RL},(l.map (·.1)).Nodup->∀a∈l,∀b∈l,a.1=b.1->a=b:=by
   intro l;induction l with
   | nil=>intro _ a v;cases v
   | cons c l y =>intro nd a v b x e;rw[aN,cj]at nd;rcases ay.mp v with rfl|v <;> rcases ay.mp x with rfl|x;rfl;exact absurd (bc.mpr ⟨b,x,e.symm⟩) nd.1;exact absurd (show b.1∈l.map (·.1) from bc.mpr ⟨a,‹a∈l›,e⟩) nd.1;exact y nd.2 a v b x e
  have:=this nd _ m _ h rfl;rw[<- this]
def Aln(b:Int×Int):Prop:=0<=b.2/\∃k:Int,b.1=k*2 ^ b.2.toNat
theorem Zr{bits:Int}{b:Int×Int}(B:IsBk bits b.1 b.2):Aln b:=⟨B.1,let ⟨k,_,e,_⟩:=B.2.2;⟨k,e⟩⟩
def inb(b:Int×Int)(x:Int):Prop:=b.1<=x/\x<eB b
theorem ze8{k j P x:Int}(v:0<P)(h1:k*P<=x)(l:x<k*P+P)(u:j*P<=x)(o:x<j*P+P):k=j:=by rcases iZ k j with z|z|z;have:(k+1)*P<=j*P:=bP (by omega) (by omega);rw[dP]at this;omega;exact z;have:(j+1)*P<=k*P:=bP (by omega) (by omega);rw[dP]at this;omega
theorem Y1{b c:Int×Int}{x:Int}(v:Aln b)(hc:Aln c)(e:b.2=c.2)(h1:inb b x)(l:inb c x):b=c:=by obtain⟨_,k,o⟩:=v;obtain⟨_,j,u⟩:=hc;unfold inb eB at h1 l;rw[e]at o h1;rw[o]at h1;rw[u]at l;have:=ze8 (Bd.Qc c.2.toNat) h1.1 h1.2 l.1 l.2;exact dz (by rw[o,u,this]) e
def Rok(rs:RL):Prop:=(∀r∈rs,Aln r.1/\(r.2=0\/r.2=1))/\(rs.map (·.1)).Nodup
def AlnN(n:Nat)(i:Int):Prop:=∃k:Int,i=k*2 ^ n
theorem AlnN.lo{n:Nat}{i:Int}(h:AlnN (n+1) i):AlnN n i:=by obtain⟨k,e⟩:=h;exact⟨k*2,by rw[e,bH,cS,cA (2 ^ n) 2]⟩
theorem AlnN.up{n:Nat}{i:Int}(h:AlnN (n+1) i):AlnN n (i+2 ^ n):=by obtain⟨k,e⟩:=h.lo;exact⟨k+1,by rw[e,dP,cx]⟩
theorem AlnN.b{n:Nat}{i:Int}(h:AlnN n i):Aln (i,(n:Int)):=⟨by simp,by obtain⟨k,e⟩:=h;exact⟨k,by simpa using e⟩⟩
theorem zkn{rs:RL}(R:Rok rs){x:Int}:∀(n:Nat) (i d:Int),AlnN n i->i<=x->x<i+2 ^ n ->
  (∃r∈rs,r.1.2<=n/\inb r.1 x/\r.2=decT (sgAt rs) n i d x/\∀q∈rs,inb q.1 x->r.1.2<=q.1.2)\/(decT (sgAt rs) n i d x=d/\∀q∈rs,inb q.1 x->(n:Int)<q.1.2)
 | 0,i,d,A,h1,h2=>by
  have e:x=i:=by simp at h2;omega
  subst e;unfold decT;cases es:sgAt rs (x,0) with
  | some s =>refine .inl ⟨_,UY es,by simp,⟨aO _,by simp[eB];omega⟩,rfl,fun q u _=>(R.1 q u).1.1⟩
  | none =>refine .inr ⟨rfl,fun q u y=>?_⟩;have q0:=(R.1 q u).1.1;rcases fj 0 q.1.2 with z|z;simpa using z;exact absurd (Y1 (R.1 q u).1 A.b (by simp;omega) y ⟨aO _,by simp[eB];omega⟩) (VZ es q u)
 | n+1,i,d,A,h1,h2=>by
  have p2:=QR n;have key:∀j,AlnN n j->j<=x->x<j+2 ^ n->∀v,v=decT (sgAt rs) n j ((sgAt rs (i,((n+1:Nat):Int))).getD d) x ->
    (∃r∈rs,r.1.2<=((n+1:Nat):Int)/\inb r.1 x/\r.2=v/\∀q∈rs,inb q.1 x->r.1.2<=q.1.2)\/(v=d/\∀q∈rs,inb q.1 x->((n+1:Nat):Int)<q.1.2):=fun j J I S v ev=>by
   rcases zkn R n j ((sgAt rs (i,((n+1:Nat):Int))).getD d) J I S with⟨r,L,Z,U,Y,G⟩|⟨e,C⟩;exact .inl ⟨r,L,by push_cast;omega,U,by rw[ev];exact Y,G⟩;rw[e]at ev;cases es:sgAt rs (i,((n+1:Nat):Int)) with
   | some s =>
    rw[es]at ev;refine .inl ⟨_,UY es,aO _,⟨h1,by show x<i+2 ^ ((n+1:Nat):Int).toNat;simpa using h2⟩,ev.symm,fun q u y=>?_⟩;have:=C q u y;show((n+1:Nat):Int)<=_
    push_cast
    omega
   | none =>
    rw[es]at ev;refine .inr ⟨ev,fun q u y=>?_⟩;have h3:=C q u y;rcases fj ((n+1:Nat):Int) q.1.2 with z|z;exact z;refine absurd (Y1 (R.1 q u).1 A.b ?_ y ⟨h1,by show x<i+2 ^ ((n+1:Nat):Int).toNat;simpa using h2⟩) (VZ es q u);show q.1.2=((n+1:Nat):Int)
    push_cast at z ⊢
    omega
  by_cases z:x<i+2 ^ n;have e:decT (sgAt rs) (n+1) i d x=decT (sgAt rs) n i ((sgAt rs (i,((n+1:Nat):Int))).getD d) x:=by rw[decT,if_pos z]
  rw[e];exact key i A.lo h1 z _ rfl;have e:decT (sgAt rs) (n+1) i d x=decT (sgAt rs) n (i+2 ^ n) ((sgAt rs (i,((n+1:Nat):Int))).getD d) x:=by rw[decT,if_neg z]
  rw[e];exact key _ A.up (by omega) (by omega) _ rfl
def SgX(rs:RL)(a s:Int):Prop:=(s=0/\∀r∈rs,¬inb r.1 a)\/∃r∈rs,inb r.1 a/\r.2=s/\∀l∈rs,inb l.1 a->r.1.2<=l.1.2
theorem zjM{rs:RL}(R:Rok rs){a s t:Int}(h1:SgX rs a s)(v:SgX rs a t):s=t:=by rcases h1 with⟨rfl,h1⟩|⟨r,o,x,rfl,G⟩ <;> rcases v with⟨rfl,v⟩|⟨q,l,u,rfl,C⟩;rfl;exact absurd u (h1 q l);exact absurd x (v r o);have e:=Y1 (R.1 r o).1 (R.1 q l).1 (Int.le_antisymm (G q l u) (C r o x)) x u;have a1:=ziN R.2 o;have a2:=ziN R.2 l;rw[e,a2]at a1;exact(aE a1).symm
def U4(n:Nat)(rs:RL):Prop:=∀r∈rs,r.1.2<=n/\0<=r.1.1/\r.1.1<2 ^ n
theorem zlZ{rs:RL}(R:Rok rs){n:Nat}(I:U4 n rs){x:Int}(h0:0<=x)(h1:x<2 ^ n):SgX rs x (decT (sgAt rs) n 0 0 x):=by rcases zkn R n 0 0 ⟨0,by simp⟩ h0 (by omega) with⟨r,G,L,y,C,v⟩|⟨e,J⟩;exact .inr ⟨r,G,y,C,v⟩;exact .inl ⟨e,fun q o u=>by have:=J q o u;have:=(I q o).1;omega⟩
theorem zlY{rs:RL}(R:Rok rs){n:Nat}(I:U4 n rs){x s:Int}(h0:0<=x)(h1:x<2 ^ n):SgX rs x s↔decT (sgAt rs) n 0 0 x=s :=
 ⟨fun h=>(zjM R (zlZ R I h0 h1) h),fun h=>h▸zlZ R I h0 h1⟩
def wi(n:Nat)(i:Int)(r:(Int×Int)×Int):Bool:=decide (r.1.2<=(n:Int)/\i<=r.1.1/\r.1.1<i+2 ^ n)
theorem zeo{α:Type}{p p1 p2 p3:α->Bool}:∀{l:List α},(∀a∈l,(if p a then 1 else 0)=(if p1 a then 1 else 0)+(if p2 a then 1 else 0)+(if p3 a then 1 else 0))->l.countP p=l.countP p1+l.countP p2+l.countP p3
 | [],_=>rfl
 | a::l,h=>by have v:=zeo (l:=l) fun b o=>h b (.tail _ o);have u:=h a (.head _);simp only[sy];omega
theorem zeb{b:Int×Int}:∀{rs:RL},(rs.map (·.1)).Nodup->(rs.countP (fun r=>decide (r.1=b)):Int)=if (sgAt rs b).isSome then 1 else 0
 | [],_=>rfl
 | r::rs,h=>by
  rw[aN,cj]at h;have v:=zeb (b:=b) h.2;rw[sy];by_cases z:r.1=b;have x:rs.countP (fun r=>decide (r.1=b))=0:=List.countP_eq_zero.mpr fun q l e=>h.1 (bc.mpr ⟨q,l,(of_decide_eq_true e).trans z.symm⟩);rw[x];simp[sgAt,z];have e:sgAt (r::rs) b=sgAt rs b:=by simp[sgAt,z]
  rw[e,<- v];simp[z]
theorem zn5{n:Nat}{i:Int}(A:AlnN (n+1) i){b:Int×Int}(B:Aln b)(e:b.2=((n+1:Nat):Int)):(i<=b.1/\b.1<i+2 ^ (n+1))↔b.1=i:=by have pp:(0:Int)<2 ^ (n+1):=Bd.Qc _;constructor;rintro⟨h1,l⟩;have:=Y1 (x:=b.1) B A.b e ⟨aO _,by have:=Bd.Qc b.2.toNat;unfold eB;omega⟩ ⟨h1,by show b.1<i+2 ^ ((n+1:Nat):Int).toNat;simpa using l⟩;exact congrArg nt this;intro h;omega
theorem znP{rs:RL}(R:Rok rs):∀(n:Nat) (i:Int),AlnN n i->cnt (sgAt rs) n i=(rs.countP (wi n i):Int)
 | 0,i,A=>by unfold cnt;rw[<- zeb R.2];congr 1;refine List.countP_congr fun r v=>?_;have h0:=(R.1 r v).1.1;unfold wi;rw[decide_eq_true_eq,decide_eq_true_eq];constructor;intro e;rw[e];simp;omega;rintro⟨h1,C,x⟩;simp at h1 x;exact dz (by show r.1.1=i;omega) (by show r.1.2=0;omega)
 | n+1,i,A=>by
  unfold cnt;rw[znP R n i A.lo,znP R n (i+2 ^ n) A.up,<- zeb R.2];have p2:=QR n;have pp:(0:Int)<2 ^ n:=Bd.Qc n;have:=zeo (p:=wi (n+1) i) (p1:=fun r=>decide (r.1=(i,((n+1:Nat):Int)))) (p2:=wi n i) (p3:=wi n (i+2 ^ n)) (l:=rs) fun r v=>by
   have B:=(R.1 r v).1;unfold wi;by_cases e:r.1.2=((n+1:Nat):Int);have u:¬r.1.2<=(n:Int):=by push_cast at e;omega
   have k:=zn5 A B e;by_cases z:r.1.1=i;have y:=k.mpr z;rw[decide_eq_true (show r.1.2<=((n+1:Nat):Int)/\i<=r.1.1/\r.1.1<i+2 ^ (n+1) from⟨wJ e,y⟩),decide_eq_true (show r.1=(i,((n+1:Nat):Int)) from dz z e),decide_eq_false (fun q=>u q.1),decide_eq_false (fun q=>u q.1)];rfl;rw[decide_eq_false (fun q=>z (k.mp q.2)),decide_eq_false (fun q=>z (congrArg nt q)),decide_eq_false (fun q=>u q.1),decide_eq_false (fun q=>u q.1)];rfl;rw[decide_eq_false (show ¬r.1=(i,((n+1:Nat):Int)) from fun q=>e (congrArg x6 q))];by_cases le:r.1.2<=(n:Int);have o:r.1.2<=((n+1:Nat):Int):=by push_cast;omega
   by_cases c1:i<=r.1.1/\r.1.1<i+2 ^ n;rw[decide_eq_true (show _/\_/\_ from⟨o,c1.1,by omega⟩),decide_eq_true (show _/\_/\_ from⟨le,c1⟩),decide_eq_false (fun q=>by have:=q.2.1;omega)];rfl;by_cases c2:i+2 ^ n<=r.1.1/\r.1.1<i+2 ^ n+2 ^ n;rw[decide_eq_true (show _/\_/\_ from⟨o,by omega,by omega⟩),decide_eq_false (fun q=>c1 q.2),decide_eq_true (show _/\_/\_ from⟨le,c2⟩)];rfl;rw[decide_eq_false (fun q=>by have:=q.2;omega),decide_eq_false (fun q=>c1 q.2),decide_eq_false (fun q=>c2 q.2)];rfl;have o:¬r.1.2<=((n+1:Nat):Int):=by push_cast at e ⊢;omega
   rw[decide_eq_false (fun q=>o q.1),decide_eq_false (fun q=>le q.1),decide_eq_false (fun q=>le q.1)];rfl
  rw[this]
  push_cast
  rfl
theorem znQ{rs:RL}(R:Rok rs){n:Nat}(I:U4 n rs):cnt (sgAt rs) n 0=(rs.length:Int):=by rw[znP R n 0 ⟨0,by simp⟩,List.countP_eq_length.mpr];intro r o;obtain⟨h1,l,u⟩:=I r o;exact decide_eq_true ⟨h1,l,by omega⟩
theorem zmb{rs:RL}(R:Rok rs){n:Nat}(I:U4 n rs){Z:Int->Prop}(h:∀x,0<=x->x<2 ^ n->(SgX rs x 1↔Z x)):(kst Z n 0).1<=(rs.length:Int):=by
 have:=ze_ (S:=sgAt rs) (Z:=Z) (fun b s e=>(R.1 _ (UY e)).2) n 0 0 (.inl rfl) fun x h0 h1=>by rw[<- h x h0 (by omega),zlY R I h0 (by omega)]
 rw[znQ R I]at this;exact this
section
variable{Z Z':Int->Prop}
theorem zfc:∀(n:Nat) (i:Int),(∀x,i<=x->x<i+2 ^ n->(Z x↔Z' x))->kst Z n i=kst Z' n i
 | 0,i,h=>by have:=h i (aO _) (by rw[lI];omega);unfold kst;by_cases z:Z i;rw[if_pos z,if_pos (this.mp z)];rw[if_neg z,if_neg (fun q=>z (this.mpr q))]
 | n+1,i,h=>by have p2:=QR n;have pp:(0:Int)<2 ^ n:=Bd.Qc n;unfold kst;rw[zfc n i fun x h1 l=>h x h1 (by omega),zfc n (i+2 ^ n) fun x h1 l=>h x (by omega) (by omega)]
theorem VX:∀(n:Nat) (i:Int),(∀x,i<=x->x<i+2 ^ n->¬Z x)->kst Z n i=(0,1)
 | 0,i,h=>by unfold kst;rw[if_neg (h i (aO _) (by rw[lI];omega))]
 | n+1,i,h=>by have p2:=QR n;have pp:(0:Int)<2 ^ n:=Bd.Qc n;unfold kst;rw[VX n i fun x h1 l=>h x h1 (by omega),VX n (i+2 ^ n) fun x h1 l=>h x (by omega) (by omega)];rfl
theorem kst_all:∀(n:Nat) (i:Int),(∀x,i<=x->x<i+2 ^ n->Z x)->kst Z n i=(1,0)
 | 0,i,h=>by unfold kst;rw[if_pos (h i (aO _) (by rw[lI];omega))]
 | n+1,i,h=>by have p2:=QR n;have pp:(0:Int)<2 ^ n:=Bd.Qc n;unfold kst;rw[kst_all n i fun x h1 l=>h x h1 (by omega),kst_all n (i+2 ^ n) fun x h1 l=>h x (by omega) (by omega)];rfl
theorem zrz(l u:Int×Int):(jn l u).1<=(jn l u).2+1/\(jn l u).2<=(jn l u).1+1:=by unfold jn;constructor <;> (dsimp only;split <;> split <;> omega)
theorem zo9:∀(n:Nat) (i:Int),(kst Z n i).1<=(kst Z n i).2+1/\(kst Z n i).2<=(kst Z n i).1+1
 | 0,i=>by unfold kst;split <;> decide
 | n+1,i=>zrz _ _
theorem zja:∀(n:Nat) (i:Int),0<=(kst Z n i).1/\0<=(kst Z n i).2
 | 0,i=>by unfold kst;split <;> decide
 | n+1,i=>by obtain⟨a,b⟩:=zja n i;obtain⟨c,d⟩:=zja n (i+2 ^ n);unfold kst jn;constructor <;> (dsimp only;split <;> omega)
theorem zjb:∀(n:Nat) (i:Int),kst (fun x=>¬Z x) n i=((kst Z n i).2,(kst Z n i).1)
 | 0,i=>by unfold kst;by_cases z:Z i;rw[if_neg (fun q=>q z),if_pos z];rw[if_pos z,if_neg z]
 | n+1,i=>by unfold kst;rw[zjb n i,zjb n (i+2 ^ n)];rfl
end
section
variable{bits:Int}{ps:BL}{Z:Int->Prop}
theorem zpP{b:Int×Int}(B:IsBk bits b.1 b.2){n:Nat}(h:b.2=((n+1:Nat):Int)):upH b=(b.1+2 ^ n,(n:Int)):=by
 have l:(b.2 - 1).toNat=n:=by omega
 have:=B.x1 (by omega);rw[l,h]at this;unfold upH;rw[l,this];have u:(2:Int) ^ ((n+1:Nat):Int).toNat / 2=2 ^ n:=by rw[bt,bH];omega
 rw[u];exact dz rfl (by show b.2 - 1=n;omega)
theorem znh{b:Int×Int}(h:HasA ps b):∀x,b.1<=x->x<eB b->mB x ps:=fun x h1 o=>by obtain⟨p,l,p1,p2⟩:=h;exact⟨p,l,by omega,by omega⟩
theorem Vh(l:0<=bits)(C:CanP Z ps)(w:∀x,Z x->0<=x/\x<2 ^ bits.toNat):∀(n:Nat) (b:Int×Int),IsBk bits b.1 b.2->b.2=(n:Int)->zbk ps n b=kst Z n b.1
 | 0,b,B,e=>by
  have u:eB b=b.1+1:=by rw[eB,e];rfl
  unfold zbk kst;by_cases hn:HasN ps b;rw[if_pos hn,if_neg (fun z=>(VW.mp hn) b.1 (aO _) (by omega) ((C.mem _).mpr z))];rw[if_neg hn,if_pos (bu fun z=>hn (VW.mpr fun x h1 o m=>z (by
   have:x=b.1:=by omega
   rw[<- this];exact(C.mem x).mp m)))]
 | n+1,b,B,e=>by
  have u:eB b=b.1+2 ^ (n+1):=by rw[eB,e];rfl
  unfold zbk;by_cases hn:HasN ps b;rw[if_pos hn,VX (n+1) b.1 fun x h1 o z=>(VW.mp hn) x h1 (by omega) ((C.mem x).mpr z)];rw[if_neg hn];by_cases ha:HasA ps b;rw[if_pos ha,kst_all (n+1) b.1 fun x h1 o=>(C.mem x).mp (znh ha x h1 (by omega))];rw[if_neg ha];have v:=zpP B e;have L:loH b=(b.1,(n:Int)):=dz rfl (by show b.2 - 1=n;omega);have G:IsBk bits (loH b).1 (loH b).2:=B.low (by omega);have I:IsBk bits (upH b).1 (upH b).2:=by have:=B.up (by omega);have J:b.1+2 ^ b.2.toNat / 2=(upH b).1:=(B.x1 (by omega)).symm;rw[J]at this;exact this
  rw[Vh l C w n (loH b) G (by show b.2 - 1=n;omega),Vh l C w n (upH b) I (by show b.2 - 1=n;omega),v];rfl
theorem zqG(l:0<=bits):IsBk bits 0 bits:=⟨l,aO _,0,aO _,by simp,Bd.Qc _⟩
theorem VO(l:0<=bits)(C:CanP Z ps)(w:∀x,Z x->0<=x/\x<2 ^ bits.toNat):zaX bits ps=(kst Z bits.toNat 0).1:=by unfold zaX;rw[Vh l C w bits.toNat (0,bits) (zqG l) (by show bits=_;omega)]
theorem zmd{rs:RL}(h:∀r∈rs,IsBk bits r.1.1 r.1.2/\(r.2=0\/r.2=1))(nd:(rs.map (·.1)).Nodup):Rok rs:=⟨fun r l=>⟨Zr (h r l).1,(h r l).2⟩,nd⟩
theorem zgW{rs:RL}(o:0<=bits)(h:∀r∈rs,IsBk bits r.1.1 r.1.2):U4 bits.toNat rs:=fun r l=>by have B:=h r l;have b:=B.bounds o;have:=Bd.Qc r.1.2.toNat;exact⟨by have:=B.2.1;omega,b.1,by omega⟩
theorem zj6(l:0<=bits)(C:CanP Z ps)(w:∀x,Z x->0<=x/\x<2 ^ bits.toNat){rs:RL}(R:Rok rs)(I:U4 bits.toNat rs)(h:∀x,0<=x->x<2 ^ bits.toNat->(SgX rs x 1↔Z x)):zaX bits ps<=(rs.length:Int):=by rw[VO l C w];exact zmb R I h
theorem zqT{p q:Int×Int}{l:BL}(P:l.Pairwise fun a b=>eB a<=b.1)(o:p∈l)(u:q∈l){x:Int}(h1:inb p x)(v:inb q x):p=q:=by
 induction l with
 | nil=>cases o
 | cons a l y =>rw[bK]at P;unfold inb at h1 v;rcases ay.mp o with rfl|o <;> rcases ay.mp u with rfl|u;rfl;have:=P.1 q ‹q∈l›;omega;have:=P.1 p ‹p∈l›;omega;exact y P.2 o u
theorem zmR(G:0<=bits)(C:CanP Z ps)(w:∀x,Z x->0<=x/\x<2 ^ bits.toNat){l:BL}(P:Ptc bits l)(R:∀x,mB x l↔Z x):zaX bits ps<=(l.length:Int):=by
 have nd:((l.map fun p=>(p,(1:Int))).map (·.1)).Nodup:=by rw[cI];show(l.map fun p=>p).Nodup;rw[List.map_id''];refine P.2.imp fun {a b} h e=>?_;have:=Bd.Qc a.2.toNat;rw[e]at h;unfold eB at h;rw[e]at this;omega;intro;rfl
 have mem:∀r∈l.map fun p=>(p,(1:Int)),r.1∈l/\r.2=1:=fun r v=>by obtain⟨p,y,rfl⟩:=bc.mp v;exact⟨y,rfl⟩
 have:=zj6 G C w (rs:=l.map fun p=>(p,1)) (zmd (bits:=bits) (fun r v=>⟨P.1 _ (mem r v).1,.inr (mem r v).2⟩) nd) (zgW G fun r v=>P.1 _ (mem r v).1) fun x h0 h1=>by rw[<- R x];constructor;rintro(⟨e,_⟩|⟨r,v,I,_⟩);omega;exact⟨r.1,(mem r v).1,I.1,I.2⟩;rintro⟨p,y,p1,p2⟩;refine .inr ⟨(p,1),bc.mpr ⟨p,y,rfl⟩,⟨p1,p2⟩,rfl,fun q J L=>?_⟩;have:=zqT P.2 y (mem q J).1 ⟨p1,p2⟩ L;show p.2<=q.1.2;rw[this];exact aO _
 simpa using this
end
theorem ZU:∀{o:List Int},o.Pairwise (·<·)->∀q∈o.zip o.tail,q.1∈o/\q.2∈o/\q.1<q.2/\∀e∈o,e<=q.1\/q.2<=e
 | [],_,q,h=>by simp at h
 | [a],_,q,h=>by simp at h
 | a::b::o,p,q,h=>by
  rw[bK]at p;obtain⟨p1,p2⟩:=p;have h':q=(a,b)\/q∈(b::o).zip (b::o).tail:=by simpa using h
  have rest:∀e∈o,b<e:=(bK.mp p2).1;rcases h' with rfl|h';refine⟨.head _,.tail _ (.head _),p1 b (.head _),fun e he=>?_⟩;rcases ay.mp he with rfl|he;exact .inl (aO _);rcases ay.mp he with rfl|he;exact .inr (aO _);exact .inr (eQ (rest e he));obtain⟨u,x,y,v⟩:=ZU p2 q h';refine⟨.tail _ u,.tail _ x,y,fun e he=>?_⟩;rcases ay.mp he with rfl|he;exact .inl (eQ (p1 _ u));exact v e he
theorem zlC{x:Int}:∀{l:List Int},l.Pairwise (·<·)->(∃a∈l,a<=x)->(∃b∈l,x<b)->∃q∈l.zip l.tail,q.1<=x/\x<q.2
 | [],_,⟨a,o,_⟩,_=>by cases o
 | [c],_,⟨a,o,h1⟩,⟨b,hb,h2⟩=>by rw[aC]at o hb;omega
 | a::b::l,p,h1,h2=>by
  rw[bK]at p;obtain⟨p1,p2⟩:=p;have o:a<=x:=by obtain⟨c,hc,hx⟩:=h1;rcases ay.mp hc with rfl|hc;exact hx;have:=p1 c hc;omega
  by_cases z:x<b;exact⟨(a,b),by simp,o,z⟩;obtain⟨q,v,u⟩:=zlC (x:=x) p2 ⟨b,.head _,by omega⟩ (by obtain⟨c,hc,hx⟩:=h2;rcases ay.mp hc with rfl|hc;omega;exact⟨c,hc,hx⟩);exact⟨q,by simpa using .inr (by simpa using v),u⟩
def Ue(rs:RL):List Int:=rs.flatMap fun r=>[r.1.1,eB r.1]
theorem Vi{rs:RL}{x:Int}:x∈Ue rs↔∃r∈rs,x=r.1.1\/x=eB r.1:=by unfold Ue;simp[sf]
theorem zl6{rs:RL}{y:List Int}(E:Edg (Ue rs) y){q:Int×Int}(I:q∈y.zip y.tail){x:Int}(h1:q.1<=x)(N:x<q.2)(s:Int):SgX rs x s↔SgX rs q.1 s:=by
 obtain⟨_,_,R,G⟩:=ZU E.1 q I;have key:∀r∈rs,(inb r.1 x↔inb r.1 q.1):=fun r o=>by have J:=G r.1.1 ((E.2 _).mpr (Vi.mpr ⟨r,o,.inl rfl⟩));have L:=G (eB r.1) ((E.2 _).mpr (Vi.mpr ⟨r,o,.inr rfl⟩));unfold inb;omega
 unfold SgX;constructor;rintro(⟨e,h⟩|⟨r,o,C,e,m⟩);exact .inl ⟨e,fun r o z=>h r o ((key r o).mpr z)⟩;exact .inr ⟨r,o,(key r o).mp C,e,fun v u z=>m v u ((key v u).mpr z)⟩;rintro(⟨e,h⟩|⟨r,o,C,e,m⟩);exact .inl ⟨e,fun r o z=>h r o ((key r o).mp z)⟩;exact .inr ⟨r,o,(key r o).mpr C,e,fun v u z=>m v u ((key v u).mp z)⟩
theorem zoZ{rs:RL}{o:List Int}(E:Edg (Ue rs) o){x:Int}(h:SgX rs x 1):∃q∈o.zip o.tail,q.1<=x/\x<q.2:=by rcases h with⟨e,_⟩|⟨r,v,u,_,_⟩;omega;exact zlC E.1 ⟨_,(E.2 _).mpr (Vi.mpr ⟨r,v,.inl rfl⟩),u.1⟩ ⟨_,(E.2 _).mpr (Vi.mpr ⟨r,v,.inr rfl⟩),u.2⟩
theorem ziq{rs:RL}:(Ue rs).length=2*rs.length:=by
 unfold Ue;induction rs with
 | nil=>rfl
 | cons r rs o=>rw[rn,ba,o,aH];simp;omega
theorem zp1:∀{o acc:List Int},o.Nodup->(∀x∈o,x∈acc)->o.length<=acc.length
 | [],_,_,_=>cO _
 | a::o,acc,nd,h=>by rw[cj]at nd;have u:=h a (.head _);have:=zp1 (acc:=acc.erase a) nd.2 fun x hx=>(kW (fun(e:x=a)=>nd.1 (e▸hx))).mpr (h x (.tail _ hx));rw[iy u]at this;have pos:0<acc.length:=i9 u;rw[aH];omega
theorem zr2{acc l:List Int}(E:Edg acc l):l.length<=acc.length:=zp1 (E.1.imp fun h=>Int.ne_of_lt h) fun x hx=>(E.2 x).mp hx
section
variable{g:DTG}{tt:DTT}{te:DTE}{ρ0:En}{x:af}{xs:qD}{acc:List Int}{n:Nat}{R:List Int->Nat->Prop}
instance zxL:Stp (Zj g tt te ρ0 (x::xs) acc n R) (g x ρ0 fun ρ1=>tt ρ1 n fun b n2=>if b=true then te ρ1 n2 fun t n3=>∃j,t=.int j/\acc.length<4000/\Zj g tt te ρ0 xs (acc++[j]) n3 R else Zj g tt te ρ0 xs acc n2 R):=⟨fun h=>h⟩
instance zxK:Stp (Zj g tt te ρ0 [] acc n R) (R acc n):=⟨fun h=>h⟩
end
open Classical in
noncomputable def sB (ps:BL) (a:Int) (b:Int×Int):Int:=if Prt ps b then sgn a (zbk ps (b.2 - 1).toNat (loH b)) (zbk ps (b.2 - 1).toNat (upH b)) else if HasN ps b then 0 else 1
def par(b:Int×Int):Int×Int:=(b.1 / 2 ^ (b.2+1).toNat*2 ^ (b.2+1).toNat,b.2+1)
noncomputable def aS (ps:BL):Nat->Int×Int->Int
 | 0,_=>0
 | m+1,b=>sB ps (aS ps m (par b)) (par b)
noncomputable def aF (bits:Int) (ps:BL) (b:Int×Int):Int:=aS ps (bits - b.2).toNat b
noncomputable def sF (bits:Int) (ps:BL) (b:Int×Int):Int:=sB ps (aF bits ps b) b
theorem zsP{a:Int}{x y:Int×Int}:sgn a x y=0\/sgn a x y=1:=by unfold sgn;split <;> split <;> simp
theorem zs6{ps:BL}{a:Int}{b:Int×Int}:sB ps a b=0\/sB ps a b=1:=by unfold sB;split;exact zsP;split <;> simp
section
variable{bits:Int}{ps bs:BL}{Z:Int->Prop}
theorem zvl{b:Int×Int}:aF bits ps b=0\/aF bits ps b=1:=by
 unfold aF;cases(bits - b.2).toNat with
 | zero=>exact .inl rfl
 | succ m=>exact zs6
theorem zn6:aF bits ps (0,bits)=0:=by unfold aF;rw[show(bits - (0,bits).2).toNat=0 by show(bits - bits).toNat=0;omega];rfl
theorem VB{b c:Int×Int}(B:IsBk bits b.1 b.2)(h:1<=b.2)(hc:c=loH b\/c=upH b):aF bits ps c=sF bits ps b:=by
 have u:c.2=b.2 - 1:=by rcases hc with rfl|rfl <;> rfl
 have l:par c=b:=by unfold par;rw[u,show b.2 - 1+1=b.2 by omega];refine dz ?_ rfl;show c.1 / 2 ^ b.2.toNat*2 ^ b.2.toNat=b.1;rcases hc with rfl|rfl;obtain⟨_,_,k,_,e,_⟩:=B;show b.1 / 2 ^ b.2.toNat*2 ^ b.2.toNat=b.1;rw[e,Int.mul_ediv_cancel _ (by have:=Bd.Qc b.2.toNat;omega)];exact B.x3 (by omega)
 unfold aF;have v:=B.2.1;rw[show(bits - c.2).toNat=(bits - b.2).toNat+1 by omega,aS,l];rfl
theorem PInv.desc(J:0<=bits)(I:PInv bits ps bs bs.length):∀(k:Nat) (c b:Int×Int),c∈bs->b∈bs->b.1<=c.1->c.1<eB b->c.2+(k:Int)+1=b.2->Prt ps b
 | k,c,b,hc,hb,h1,h2,hk=>by
  have B:=I.bk b hb;have R:=I.bk c hc;rcases I.par c hc with rfl|⟨j,p,U,v,pp,z⟩;have:=B.2.1;dsimp only at hk;omega;have P:=I.bk p (aA v);have p1:=pp.pos P;have S:c.2=p.2 - 1:=by rcases z with rfl|rfl <;> rfl
  have ep:=up_eq P p1;have Y:=Bd.Qc (p.2 - 1).toNat;have G:(2:Int) ^ p.2.toNat=2 ^ (p.2 - 1).toNat+2 ^ (p.2 - 1).toNat:=by rw[show p.2.toNat=(p.2 - 1).toNat+1 by omega];exact QR _
  have l:inb p c.1:=by unfold inb eB;rcases z with rfl|rfl;exact⟨aO _,by show p.1<_;omega⟩;rw[ep];exact⟨by show p.1<=p.1+_;omega,by show p.1+_<_;omega⟩
  cases k with
  | zero =>have:p=b:=Y1 (Zr P) (Zr B) (by push_cast at hk;omega) l ⟨h1,h2⟩;rw[<- this];exact pp
  | succ k =>
   refine PInv.desc J I k p b (aA v) hb ?_ ?_ (by push_cast at hk;omega);obtain⟨_,x,ex⟩:=Zr P;obtain⟨_,y,u⟩:=Zr B;have C:=Bd.Qc p.2.toNat;have L:(2:Int) ^ b.2.toNat=2 ^ (b.2.toNat - p.2.toNat)*2 ^ p.2.toNat:=by rw[<- gX,Nat.sub_add_cancel (by push_cast at hk;omega)]
   rw[L,<- cS]at u;have q:=l.2;unfold eB at q;rw[ex]at q ⊢;rw[u]at h1 ⊢;rcases fj x (y*2 ^ (b.2.toNat - p.2.toNat)) with w|w;have:=bP (show x+1<=y*2 ^ (b.2.toNat - p.2.toNat) by omega) (eQ C);rw[dP]at this;omega;exact bP w (eQ C);have:=l.1;omega
theorem Vz{S:Int×Int->Option Int}(l:∀b,b∉bs->S b=none):∀(n:Nat) (i:Int),(∀c∈bs,¬(i<=c.1/\c.1<i+2 ^ n/\c.2<=(n:Int)))->cnt S n i=0/\∀d x,decT S n i d x=d
 | 0,i,h=>by have e:S (i,0)=none:=l _ fun z=>h _ z ⟨aO _,by show i<i+2 ^ 0;rw[lI];omega,by simp⟩;constructor;unfold cnt;rw[e];rfl;intro d x;unfold decT;rw[e];rfl
 | n+1,i,h=>by have p2:=QR n;have pp:(0:Int)<2 ^ n:=Bd.Qc n;have e:S (i,((n+1:Nat):Int))=none:=l _ fun z=>h _ z ⟨aO _,by show i<i+2 ^ (n+1);omega,aO _⟩;obtain⟨v,o⟩:=Vz l n i fun c hc z=>h c hc ⟨z.1,by omega,by push_cast;omega⟩;obtain⟨u,y⟩:=Vz l n (i+2 ^ n) fun c hc z=>h c hc ⟨by omega,by omega,by push_cast;omega⟩;constructor;unfold cnt;rw[e,v,u];rfl;intro d x;unfold decT;rw[e,o,y];split <;> rfl
theorem zsO{a:Int}{l u:Int×Int}(o:a=0\/a=1):(if sgn a l u=a then(0:Int) else 1)+pk (sgn a l u) l+pk (sgn a l u) u=pk a (jn l u):=by rcases o with rfl|rfl;unfold sgn jn pk;simp only[if_true];by_cases z:l.1+u.1<=l.2+u.2+1;simp only[z,if_true];rw[if_neg (by omega)];omega;simp only[z,if_false,show ¬(1:Int)=0 by decide];rw[if_pos (by omega)];omega;unfold sgn jn pk;simp only[show ¬(1:Int)=0 by decide,if_false];by_cases z:l.2+u.2<=l.1+u.1+1;simp only[z,if_true,show ¬(1:Int)=0 by decide,if_false];rw[if_neg (by omega)];omega;simp only[z,if_false,show ¬(0:Int)=1 by decide,if_true];rw[if_pos (by omega)];omega
theorem zg9(J:0<=bits)(C:CanP Z ps)(w:∀x,Z x->0<=x/\x<2 ^ bits.toNat)(I:PInv bits ps bs bs.length){S:Int×Int->Option Int}(y:∀b∈bs,S b=if sF bits ps b=aF bits ps b then none else some (sF bits ps b))(v:∀b,b∉bs->S b=none) :
  ∀(n:Nat) (b:Int×Int),b∈bs->b.2=(n:Int)->(∀x,b.1<=x->x<b.1+2 ^ n->(decT S n b.1 (aF bits ps b) x=1↔Z x))/\cnt S n b.1=pk (aF bits ps b) (kst Z n b.1)
 | n,b,hb,hn=>by
  have B:=I.bk b hb;have e1:eB b=b.1+2 ^ n:=by rw[eB,hn];rfl
  have R:(b.1,(n:Int))=b:=dz rfl hn.symm;have sb:=y b hb;have gd:(S b).getD (aF bits ps b)=sF bits ps b:=by rw[sb];split;rename_i z;rw[z];rfl;rfl
  have so:(if (S b).isSome then(1:Int) else 0)=if sF bits ps b=aF bits ps b then 0 else 1:=by rw[sb];split <;> simp
  have G:=zvl (bits:=bits) (ps:=ps) (b:=b);have leaf:¬Prt ps b->(∀x,b.1<=x->x<b.1+2 ^ n->(sF bits ps b=1↔Z x))/\(if sF bits ps b=aF bits ps b then(0:Int) else 1)=pk (aF bits ps b) (kst Z n b.1):=fun np=>by
   by_cases hN:HasN ps b;have s0:sF bits ps b=0:=by unfold sF sB;rw[if_neg np,if_pos hN]
   have nz:∀x,b.1<=x->x<b.1+2 ^ n->¬Z x:=fun x h1 u z=>(VW.mp hN) x h1 (by omega) ((C.mem x).mpr z);rw[s0,VX n b.1 nz];refine⟨fun x h1 u=>⟨fun z=>by omega,fun z=>absurd z (nz x h1 u)⟩,?_⟩;rcases G with z|z <;> rw[z] <;> rfl;have s1:sF bits ps b=1:=by unfold sF sB;rw[if_neg np,if_neg hN]
   have hA:HasA ps b:=bu fun z=>np ⟨hN,z⟩;have az:∀x,b.1<=x->x<b.1+2 ^ n->Z x:=fun x h1 u=>(C.mem x).mp (znh hA x h1 (by omega));rw[s1,kst_all n b.1 az];refine⟨fun x h1 u=>⟨fun _=>az x h1 u,fun _=>rfl⟩,?_⟩;rcases G with z|z <;> rw[z] <;> rfl
  cases n with
  | zero =>
   have np:¬Prt ps b:=fun z=>by have:=z.pos B;push_cast at hn;omega
   have eb0:(b.1,(0:Int))=b:=R;obtain⟨l1,l2⟩:=leaf np;refine⟨fun x h1 u=>?_,?_⟩;unfold decT;rw[eb0,gd];exact l1 x h1 u;unfold cnt;rw[eb0,so];exact l2
  | succ n =>
   have p2:=QR n;have pp:(0:Int)<2 ^ n:=Bd.Qc n;by_cases np:Prt ps b;have h1:=np.pos B;have el:loH b=(b.1,(n:Int)):=dz rfl (by show b.2 - 1=n;push_cast at hn;omega);have eu:upH b=(b.1+2 ^ n,(n:Int)):=zpP B hn;obtain⟨j,hj⟩:=gN.mp hb;obtain⟨⟨il,_,L⟩,⟨iu,_,Y⟩⟩:=I.kid j b (av.mp hj).1 hj np;obtain⟨dl,cl⟩:=zg9 J C w I y v n (loH b) (aA L) (by rw[el]);obtain⟨du,U⟩:=zg9 J C w I y v n (upH b) (aA Y) (by rw[eu]);rw[VB B h1 (.inl rfl)]at dl cl;rw[VB B h1 (.inr rfl)]at du U;rw[el]at dl cl;rw[eu]at du U;refine⟨fun x h1 u=>?_,?_⟩;unfold decT;rw[R,gd];by_cases z:x<b.1+2 ^ n;rw[if_pos z];exact dl x h1 z;rw[if_neg z];exact du x (by show b.1+2 ^ n<=x;omega) (by show x<b.1+2 ^ n+2 ^ n;omega);unfold cnt kst;rw[R,so];have cl:cnt S n b.1=pk (sF bits ps b) (kst Z n b.1):=cl;have U:cnt S n (b.1+2 ^ n)=pk (sF bits ps b) (kst Z n (b.1+2 ^ n)):=U;rw[cl,U];have es:sF bits ps b=sgn (aF bits ps b) (kst Z n b.1) (kst Z n (b.1+2 ^ n)):=by have Bl:=I.bk _ (aA L);have Bu:=I.bk _ (aA Y);unfold sF sB;rw[if_pos np,show(b.2 - 1).toNat=n by push_cast at hn;omega,Vh J C w n (loH b) Bl (by rw[el]),Vh J C w n (upH b) Bu (by rw[eu]),el,eu]
   rw[es];exact zsO G;obtain⟨l1,l2⟩:=leaf np;have no:∀c∈bs,¬(b.1<=c.1/\c.1<b.1+2 ^ (n+1)/\c.2<=(n:Int)):=fun c hc z=>np (I.desc J (b.2 - c.2 - 1).toNat c b hc hb z.1 (by omega) (by push_cast at hn;omega));obtain⟨c1,d1⟩:=Vz v n b.1 fun c hc z=>no c hc ⟨z.1,by omega,z.2.2⟩;obtain⟨c2,d2⟩:=Vz v n (b.1+2 ^ n) fun c hc z=>no c hc ⟨by omega,by omega,z.2.2⟩;refine⟨fun x h1 u=>?_,?_⟩;unfold decT;rw[R,gd,d1,d2];have:=l1 x h1 u;split <;> exact this;unfold cnt;rw[R,so,c1,c2,<- l2];omega
noncomputable def frB (bits:Int) (ps:BL) (b:Int×Int):Option ((Int×Int)×Int):=open Classical in if sF bits ps b=aF bits ps b then none else some (b,sF bits ps b)
theorem zrY{l:BL}{r:(Int×Int)×Int}:r∈l.filterMap (frB bits ps)↔r.1∈l/\sF bits ps r.1≠aF bits ps r.1/\r.2=sF bits ps r.1:=by rw[f9];constructor;rintro⟨b,o,e⟩;unfold frB at e;split at e;cases e;rename_i z;cases e;exact⟨o,z,rfl⟩;rintro⟨h1,v,u⟩;exact⟨r.1,h1,by unfold frB;rw[if_neg v,<- u]⟩
theorem zuZ{l:BL}(nd:l.Nodup):((l.filterMap (frB bits ps)).map (·.1)).Nodup:=by
 rw[pO];refine nu (R:=(·≠·)) _ (fun a C h b x G v=>?_) nd;have key:∀{a b:Int×Int},Option.map (·.1) (frB bits ps a)=some b->b=a:=fun {a b} e=>by unfold frB at e;split at e;cases e;exact(aE e).symm
 rw[key x,key v];exact h
theorem zio(y:0<=bits)(C:CanP Z ps)(w:∀x,Z x->0<=x/\x<2 ^ bits.toNat)(I:PInv bits ps bs bs.length){rs:RL}(pm:rs.Perm (bs.filterMap (frB bits ps))) :
  Rls0 bits rs/\(rs.length:Int)=zaX bits ps/\∀x,0<=x->x<2 ^ bits.toNat->(SgX rs x 1↔Z x):=by
 have mem:∀r,r∈rs↔r.1∈bs/\sF bits ps r.1≠aF bits ps r.1/\r.2=sF bits ps r.1:=fun r=>pm.mem_iff.trans zrY;have nd:(rs.map (·.1)).Nodup:=(pm.map _).nodup_iff.mpr (zuZ I.nd);have bk:∀r∈rs,IsBk bits r.1.1 r.1.2:=fun r l=>I.bk _ ((mem r).mp l).1;have G:∀r∈rs,r.2=0\/r.2=1:=fun r l=>by rw[((mem r).mp l).2.2];exact zs6
 have R:Rok rs:=zmd (bits:=bits) (fun r l=>⟨bk r l,G r l⟩) nd;have In:=zgW y bk;have h1:∀b∈bs,sgAt rs b=if sF bits ps b=aF bits ps b then none else some (sF bits ps b):=fun b v=>by
  split;rename_i z;cases e:sgAt rs b with
  | none=>rfl
  | some s=>exact absurd z ((mem _).mp (UY e)).2.1
  rename_i z;exact ziN R.2 (r:=(b,sF bits ps b)) ((mem _).mpr ⟨v,z,rfl⟩)
 have J:∀b,b∉bs->sgAt rs b=none:=fun b v=>by
  cases e:sgAt rs b with
  | none=>rfl
  | some s=>exact absurd ((mem _).mp (UY e)).1 v
 have l:(0,bits)∈bs:=aA I.root;obtain⟨d,c⟩:=zg9 y C w I h1 J bits.toNat (0,bits) l (by show bits=_;omega);rw[zn6]at d c;refine⟨⟨fun r l=>⟨bk r l,by have:=G r l;omega⟩,nd⟩,?_,fun x x0 x1=>?_⟩;rw[<- znQ R In,VO y C w];exact c;rw[zlY R In x0 x1];exact d x x0 (by show x<0+_;omega)
end
end L2
namespace Bd
open PySem L2
def top(i:Nat):fc:=fg.main.body.getD i (.Pass ⟨0,0,0,0⟩)
set_option maxHeartbeats 4000000
local macro_rules | `(tactic| walk_at "S") => `(tactic| first | with_reducible refine zkF ?_ | with_reducible refine Stp.go ?_ | with_reducible refine j_all (by with_unfolding_all rfl) ?_ | with_reducible refine j_any (by with_unfolding_all rfl) ?_ | with_reducible refine zp7 (by with_unfolding_all rfl) ?_ | with_reducible refine zp8 (by with_unfolding_all rfl) ?_ | with_reducible refine zkh (by with_unfolding_all rfl) ?_ | with_reducible refine zkg (by with_unfolding_all rfl) ?_)
set_option hygiene false in
local macro_rules | `(tactic| walk_at "K") => `(tactic| first | walk_at "S" | with_reducible refine zux (fun hc => ?_) (fun hc => ?_) | with_reducible refine zxs (fun hc => ?_) (fun hc => ?_) | with_reducible refine And.intro ?_ ?_)
set_option hygiene false in
local macro_rules | `(tactic| wp_walk using $ts:term,*) => `(tactic| repeat' (first $[| with_reducible refine $ts:term]* | walk_at "K"))
local macro_rules | `(tactic| wp_walk) => `(tactic| repeat' walk_at "K")
structure Txt(mg:qM):Prop where
 isi:mg "isinstance" = none
 int:mg "int" = none
 boo:mg "bool" = none
 tup:mg "tuple" = none
 len:mg "len" = none
 min:mg "min" = none
 max:mg "max" = none
 str:mg "str" = none
 rep:mg "repr" = none
 all:mg "all" = none
 any:mg "any" = none
 ran:mg "range" = none
 sum:mg "sum" = none
 srt:mg "sorted" = none
 lst:mg "list" = none
 abs:mg "abs" = none
 zip:mg "zip" = none
 dct:mg "dict" = none
 rev:mg "reversed" = none
 enu:mg "enumerate" = none
 vae:mg "ValueError" = none
section
variable{P:aL}{w:aZ}{K:qF}{mg:qM}{base:a9}{Z:ZZ}
def zrF:af->Bool|.int _=>true|_=>false
def zd9:GD:=fun ts n R=>match ts with
 | [d]=>Pln d/\R (.bool (zrF d)) n
 | _=>False
theorem QU{d:af}{b:Bool}{n:Nat}{R:qN}(e:zrF d=b)(h:Pln d)(h':R (.bool b) n):zd9 [d] n R:=⟨h,e▸h'⟩
def V7(Z:ZZ):Prop:=FQ Z "is_whole" (top 1) ["thing"] 1 (spD Z.K 1 zd9)
theorem zi2(D:Dq Z.K Z.mg "is_whole" (top 1) ["thing"]) (T:Txt Z.mg):V7 Z:=by
 refine' okQ D (fnS (N:=["thing"]) (by decide +kernel)) rfl fun f l A outer s H E o=>⟨_,(Jc (Je (Q7 (UQ zuQ T.isi T.int boot_int (dlv 0) Jt) (Q1 (zr9 (UQ zrT T.isi T.boo zlu (dlv 0) Jt)))))),?_⟩;intro ts n R u h;unfold zd9 at h;split at h
 ·rename_i d;obtain⟨p,h⟩:=h;cases d with
  | dict ks =>
   cases ks with
   | nil =>wp_walk;exact h
   | cons a b=>exact absurd rfl p
  | _ =>wp_walk;exact h
 exact h.elim
def J0(bits:Int):af->Bool
 | .tuple [.int b,.int h]=>decide (0<=h/\h<=bits/\0<=b/\b<2 ^ bits.toNat/\b % 2 ^ h.toNat=0)
 | _=>false
theorem zjj{bits b h:Int}:J0 bits (.tuple [.int b,.int h])=decide (0<=h/\h<=bits/\0<=b/\b<2 ^ bits.toNat/\b % 2 ^ h.toNat=0):=rfl
theorem zfi{bits b h:Int}(y:0<=bits):J0 bits (.tuple [.int b,.int h])=true↔IsBk bits b h:=by unfold J0;rw[decide_eq_true_iff];constructor;rintro⟨h0,h1,v,g1,g2⟩;have p:=Qc h.toNat;have e:=nZ b (2 ^ h.toNat);refine⟨h0,h1,b / 2 ^ h.toNat,tB v (by lia),?_,?_⟩;rw[cA];lia;apply Int.ediv_lt_of_lt_mul p;rw[<- gX,show(bits - h).toNat+h.toNat=bits.toNat by lia];exact g1;intro B;have x:=B.bounds y;obtain⟨h0,h1,k,C,rfl,G⟩:=B;refine⟨h0,h1,x.1,?_,rm _ _⟩;have:=Qc h.toNat;lia
def Pl2(d:af):Prop:=Pln d/\∀ts,d=.tuple ts->∀t∈ts,Pln t
inductive Vl:List af->Nat->(af->Nat->Prop)->Prop
 | c {bits:Int} {d:af} {n:Nat} {R:qN} (b0:0<=bits) (b1:bits<=64) (h:Pl2 d) (h':R (.bool (J0 bits d)) n):Vl [.int bits,d] n R
theorem znb{bits:Int}{d:af}(h:∀b g,d≠.tuple [.int b,.int g]):J0 bits d=false:=by unfold J0;split;exact absurd rfl (h _ _);rfl
theorem zu3{b c:Bool}{n:Nat}{R:qN}(e:b=c)(h:R (.bool c) n):R (.bool b) n:=e▸h
def zdW(Z:ZZ):Prop:=FQ Z "is_block" (top 2) ["bits","thing"] 2 (spD Z.K 2 Vl)
theorem zi5(D:Dq Z.K Z.mg "is_block" (top 2) ["bits","thing"]) (I:V7 Z) (T:Txt Z.mg):zdW Z:=by
 refine' okQ D (fnS (N:=["bits","thing","begin","height"]) (by decide +kernel)) rfl fun f J A outer s H E v=>⟨_,(Jb (Js (JW (J3 (Qt (JY (dl (UQ Z8 T.isi T.tup QA (dlv 1) Jt)))) (Qu (Jj (QX v) QV (dl (JA Qq Qm T.len J5 (Ji (dlv 1) Jq Jt))) dli (Jf _))))) (Jc (Je JV)) Ju) (Jb (QO (Jk 1) (JT rfl (Jo (dgv 2 (ndB rfl)) (Jo (dgv 3 (ndB rfl)) JQ)))) (Jb (Js (JW (J3 (Qt (JY (dl (Jd I v (dbv 2 Ja))))) (Qu (Qt (JY (dl (Jd I v (dbv 3 Ja)))))))) (Jc (Je JV)) Ju) (Jb (Js (JW (J3 (Jj (Qw v) Qv (dlv 3) dli (Jf _)) (Qu (Jj Uk gp_B (dlv 3) (dlv 0) (Jf _))))) (Jc (Je JV)) Ju) (Jc (Je (Q7 (zkp Qn Qk (Qw v) Qv dli (dlv 2) (dl (Qi dli (dlv 0)))) (Q1 (Qs (UN v) UF (dl (zqj (dlv 2) (dl (Qi dli (dlv 3))))) dli (Jf _)))))))))),?_⟩;intro ts n R L h;obtain @⟨bits,d,n,R,b0,b1,⟨p,p2⟩,h⟩:=h;have no:(∀b g,d≠.tuple [.int b,.int g])->R (.bool false) n:=fun z=>by rw[znb z]at h;exact h
 cases hf:isTup d with
 | false =>wp_walk using isiF p hf ?_;exact no fun b g e=>by rw[e]at hf;cases hf
 | true =>
  obtain⟨ts,rfl⟩:=zpf hf;have p2:=p2 ts rfl;by_cases l2:ts.length=2
  ·obtain⟨x,y,rfl⟩:=zw0 l2;have C:=p2 x (by simp);have py:=p2 y (by simp);have G:∀t,(∃b,t=.int b)\/zrF t=false:=fun t=>by
    cases t with
    | int b=>exact .inl ⟨b,rfl⟩
    | _=>exact .inr rfl
   rcases G x with⟨b,rfl⟩|wx
   ·rcases G y with⟨g,rfl⟩|wy
    ·wp_walk using QU (b:=true) rfl C ?_,QU (b:=true) rfl py ?_;all_goals first
      | exact cpow (by lia) (by lia)
      | (rw[QS];exact Qc _)
      | skip
     all_goals
      refine zu3 ?_ h;try simp only[QS]at *
      rw[zjj];generalize (2:Int) ^ bits.toNat=X at *;generalize b % (2:Int) ^ g.toNat=Y at *;first
       | (symm;rw[decide_eq_false_iff_not];lia)
       | (rw[decide_eq_decide];lia)
       | (exfalso;simp at hc;done)
    ·wp_walk using QU (b:=true) rfl C ?_,QU wy py ?_;all_goals first|exact no fun _ _ e=>by cases e;cases wy|(exfalso;simp at hc;done)
   ·wp_walk using QU wx C ?_;all_goals first|exact no fun _ _ e=>by cases e;cases wx|(exfalso;simp at hc;done)
  ·wp_walk;all_goals first|exact no fun _ _ e=>l2 (by cases e;rfl)|(exfalso;lia)
inductive zfp:List af->Nat->(af->Nat->Prop)->Prop
 | c {i h:Int} {n:Nat} {R:qN} (g0:0<=h) (g1:h<=1000) (h':R (.int (2 ^ h.toNat)) n):zfp [.tuple [.int i,.int h]] n R
def zhG(Z:ZZ):Prop:=FQ Z "size_of" (top 3) ["block"] 1 (spD Z.K 1 zfp)
theorem zkS(D:Dq Z.K Z.mg "size_of" (top 3) ["block"]) (T:Txt Z.mg):zhG Z:=by refine' okQ D (fnS (N:=["block"]) (by decide +kernel)) rfl fun f o A outer s H E u=>⟨_,(Jc (Je (Qi dli (dl (Jn (dlv 0) dli))))),?_⟩;intro ts n R v l;obtain @⟨i,h,n,R,g0,g1,l⟩:=l;wp_walk;exact cpow (by lia) (by lia);rw[QS];exact l
inductive Z6:List af->Nat->(af->Nat->Prop)->Prop
 | c {i h g:Int} {n:Nat} {R:qN} (g0:0<=g) (g1:g<=1000) (i0:0<=i) (i1:i<2 ^ 64) (h':R (.tuple [.int (i / 2 ^ g.toNat*2 ^ g.toNat),.int g]) n):Z6 [.tuple [.int i,.int h],.int g] n R
def zgA(Z:ZZ):Prop:=FQ Z "around" (top 6) ["block","height"] 1 (spD Z.K 2 Z6)
theorem zmL(D:Dq Z.K Z.mg "around" (top 6) ["block","height"]) (T:Txt Z.mg):zgA Z:=by refine' okQ D (fnS (N:=["block","height"]) (by decide +kernel)) rfl fun f o A outer s H E u=>⟨_,(Jc (Je (Jr (dbc (Qi (dl (zva (dl (Jn (dlv 0) dli)) (dlv 1))) (dlv 1)) (dbv 1 Ja))))),?_⟩;intro ts n R v l;obtain @⟨i,h,g,n,R,g0,g1,i0,i1,l⟩:=l;simp only[ZA,Zz,ZB,Zy,u_dC,Zh,Zu,Zw,Zv,ZQ,Zg,Z1,Z3,ZS,ZR,Z2,Zx,ZH,YR,YC,YD,YQ,YE,YF,Y0,Yj,Yk,oSub,oMul,oMod,Uj,oShl,oShr,oXor,oAnd,isNone,isInt,isBool,isTup,l_gI,Ze,Yv,Yb,Yc,Yp,Yr,Yq,Yd,YS,YT,Ym,Yl,Yy,Yz,Yw,Yx,YA,YH,YI,U9,Yo,Yn,U8,YW,YU,YV,Ub,Ua,Us,Uz,Ux,Uy,UD,UW,JZ,JG,capV,aN,dY,aH,bU,eE,fQ,eM,e9,cg,dO,eZ,gC,gD,fR,fS,eP,Nat.reduceAdd,Nat.reduceSub,kj,true_and,and_true,aI,if_true,if_false,ite_true,ite_false,fq,fA,hX];refine⟨g0,⟨g0,by lia,?_⟩,l⟩;have:i / 2 ^ g.toNat<=i:=Int.ediv_le_self _ i0;have:0<=i / 2 ^ g.toNat:=tB i0 (eQ (Qc _));lia
inductive zjm:List af->Nat->(af->Nat->Prop)->Prop
 | c {i h j g:Int} {n:Nat} {R:qN} (h0:0<=h) (h1:h<=1000) (j0:0<=j) (j1:j<2 ^ 64) (h':R (.bool (hldD i h j g)) n):zjm [.tuple [.int i,.int h],.tuple [.int j,.int g]] n R
def zml(Z:ZZ):Prop:=FQ Z "holds" (top 4) ["one","other"] 2 (spD Z.K 2 zjm)
theorem zo1(D:Dq Z.K Z.mg "holds" (top 4) ["one","other"]) (v:zgA Z) (T:Txt Z.mg):zml Z:=by refine' okQ D (fnS (N:=["one","other"]) (by decide +kernel)) rfl fun f u A outer s H E o=>⟨_,(Jc (Je (Q7 (Qs zre gp_B (dl (Jn (dlv 0) dli)) (dl (Jn (dlv 1) dli)) (Jf _)) (Q1 (Qs (UN o) UF (dl (Jd v o (dbv 1 (dbc (Jn (dlv 0) dli) Ja)))) (dlv 0) (Jf _)))))),?_⟩;intro ts n R x l;obtain @⟨i,h,j,g,n,R,g0,g1,j0,j1,l⟩:=l;unfold hldD at l;wp_walk using Z6.c g0 g1 j0 j1 ?_;exact UW;exact UW;rw[decide_eq_true hc,dS]at l;rw[zpq];simpa using l;rw[decide_eq_false hc,dW]at l;exact l
inductive zcw:List af->Nat->(af->Nat->Prop)->Prop
 | c {i h:Int} {n:Nat} {R:qN} (g0:0<=h) (g1:h<=1000) (h':R (.tuple [.int (cL i (2 ^ h.toNat)),.int h]) n):zcw [.tuple [.int i,.int h]] n R
def zef(Z:ZZ):Prop:=FQ Z "other_half" (top 7) ["block"] 1 (spD Z.K 1 zcw)
theorem zgH(D:Dq Z.K Z.mg "other_half" (top 7) ["block"]) (T:Txt Z.mg):zef Z:=by refine' okQ D (fnS (N:=["block","begin","height"]) (by decide +kernel)) rfl fun f o A outer s H E u=>⟨_,(Jb (QO (Jk 0) (JT rfl (Jo (dgv 1 (ndB rfl)) (Jo (dgv 2 (ndB rfl)) JQ)))) (Jc (Je (Jr (dbc (zqh (dlv 1) (dl (Qi dli (dlv 2)))) (dbv 2 Ja)))))),?_⟩;intro ts n R v l;obtain @⟨i,h,n,R,g0,g1,l⟩:=l;simp only[ZA,Zz,ZB,Zy,u_dC,Zh,Zu,Zw,Zv,ZQ,Zg,Z1,Z3,ZS,ZR,Z2,Zx,ZH,YR,YC,YD,YQ,YE,YF,Y0,Yj,Yk,oSub,oMul,oMod,Uj,oShl,oShr,oXor,oAnd,isNone,isInt,isBool,isTup,l_gI,Ze,Yv,Yb,Yc,Yp,Yr,Yq,Yd,YS,YT,Ym,Yl,Yy,Yz,Yw,Yx,YA,YH,YI,U9,Yo,Yn,U8,YW,YU,YV,Ub,Ua,Us,Uz,Ux,Uy,UD,UW,JZ,JG,capV,aN,dY,aH,bU,eE,fQ,eM,e9,cg,dO,eZ,gC,gD,fR,fS,eP,Nat.reduceAdd,Nat.reduceSub,kj,true_and,and_true,aI,if_true,if_false,ite_true,ite_false,fq,fA,hX];refine⟨cpow g0 (by lia),?_⟩;rw[cx];exact l
inductive UC:List af->Nat->(af->Nat->Prop)->Prop
 | c {i h:Int} {n:Nat} {R:qN} (g0:1<=h) (g1:h<=1000) (h':R (.tuple [.tuple [.int i,.int (h - 1)],.tuple [.int (cL i (2 ^ (h - 1).toNat)),.int (h - 1)]]) n):UC [.tuple [.int i,.int h]] n R
def VT(Z:ZZ):Prop:=FQ Z "halves" (top 5) ["block"] 2 (spD Z.K 1 UC)
theorem zmI(D:Dq Z.K Z.mg "halves" (top 5) ["block"]) (v:zef Z) (T:Txt Z.mg):VT Z:=by refine' okQ D (fnS (N:=["block","begin","height","lower"]) (by decide +kernel)) rfl fun f o A outer s H E u=>⟨_,(Jb (QO (Jk 0) (JT rfl (Jo (dgv 1 (ndB rfl)) (Jo (dgv 2 (ndB rfl)) JQ)))) (Jb (dsv 3 (ndB rfl) (Jr (dbv 1 (dbc (Qj (dlv 2) dli) Ja)))) (Jc (Je (Jr (dbv 3 (dbc (Jd v u (dbv 3 Ja)) Ja))))))),?_⟩;intro ts n R x l;obtain @⟨i,h,n,R,g0,g1,l⟩:=l;wp_walk using zcw.c ?_ ?_ ?_;lia;lia;exact l
inductive UB:List af->Nat->(af->Nat->Prop)->Prop
 | c {i h:Int} {n:Nat} {R:qN} (g0:0<=h) (g1:h<=1000) (h':R (.int (i+2 ^ h.toNat)) n):UB [.tuple [.int i,.int h]] n R
def YX(Z:ZZ):Prop:=FQ Z "end_of" (top 17) ["block"] 2 (spD Z.K 1 UB)
theorem zmK(D:Dq Z.K Z.mg "end_of" (top 17) ["block"]) (v:zhG Z) (T:Txt Z.mg):YX Z:=by refine' okQ D (fnS (N:=["block"]) (by decide +kernel)) rfl fun f o A outer s H E u=>⟨_,(Jc (Je (JS (dl (Jn (dlv 0) dli)) (dl (Jd v u (dbv 0 Ja)))))),?_⟩;intro ts n R x l;obtain @⟨i,h,n,R,g0,g1,l⟩:=l;wp_walk using zfp.c ?_ ?_ ?_;lia;lia;exact l
theorem zll{hi:Int}(h:0<hi):QL 0 hi hi.toNat.log2:=⟨by simp,by have:=zmY h;lia,fun z=>by have:=zmU h;have:=z.2;lia⟩
theorem zni{lo hi:Int}{t:Nat}(h:lo<hi)(h1:lo % 2 ^ t=0)(u:¬lo % 2 ^ (t+1)=0):QL lo hi (min (hi - lo).toNat.log2 t):=by have a:=zmY (i:=hi - lo) (by lia);have b:=zmU (i:=hi - lo) (by lia);rcases wz (hi - lo).toNat.log2 t with z|z;rw[Nat.min_eq_left z];exact⟨UV z h1,a,fun y=>by have:=y.2;lia⟩;rw[Nat.min_eq_right z];exact⟨h1,nG (QK z) a,fun y=>u y.1⟩
theorem zo6(t:Nat):((2:Int) ^ t).toNat.log2=t:=by
 have e:((2:Int) ^ t).toNat=2 ^ t:=by
  have:((2 ^ t:Nat):Int)=(2:Int) ^ t:=by rw[gF];rfl
  rw[<- this];rfl
 rw[e,Nat.log2_two_pow]
inductive zbd:List af->Nat->(af->Nat->Prop)->Prop
 | c {lo hi:Int} {n:Nat} {R:qN} (l0:0<=lo) (l1:lo<hi) (h:∀g:Nat,QL lo hi g->R (.int g) n):zbd [.int lo,.int hi] n R
def zbL(Z:ZZ):Prop:=FQ Z "greatest_height" (top 18) ["begin","high"] 1 (spD Z.K 2 zbd)
theorem zdC(D:Dq Z.K Z.mg "greatest_height" (top 18) ["begin","high"]) (T:Txt Z.mg):zbL Z:=by
 refine' okQ D (fnS (N:=["begin","high","room"]) (by decide +kernel)) rfl fun f v A outer s H E x=>⟨_,(Jb (dsv 2 (ndB rfl) (Qj (dl (zit (dl (Qj (dlv 1) (dlv 0))))) dli)) (Jb (Js (Jj (UN x) UF (dlv 0) dli (Jf _)) (Jc (Je (Jk 2))) Ju) (Jc (Je (JA (Vg rfl) Zo T.min Ve (Ji (dlv 2) (Ji (dl (Qj (dl (zit (dl (zvc (dlv 0) (dl (VD (Jk 0))))))) dli)) Jq Zt) Jt)))))),?_⟩;intro ts n R y h;obtain @⟨lo,hi,n,R,l0,l1,h⟩:=h;have room:=zfk (i:=hi - lo) (by lia);wp_walk;rw[room];subst hc;have:=h _ (zll l1);rw[Int.sub_zero];exact this;obtain⟨t,t1,t2⟩:=zv8 (b:=lo) (by lia);have an:=zsm (b:=lo) (by lia) t1 t2;have u:=zfk (i:=(2:Int) ^ t) (Qc t);rw[zo6]at u;rw[an,room,u];have:=h _ (zni l1 t1 t2);have e:(if (t:Int)<((hi - lo).toNat.log2:Int) then(t:Int) else((hi - lo).toNat.log2:Int))=((min (hi - lo).toNat.log2 t:Nat):Int):=by split <;> lia
 rw[e];exact this
inductive Uq:List af->Nat->(af->Nat->Prop)->Prop
 | c {lo hi:Int} {n:Nat} {R:qN} (l0:0<=lo) (l1:lo<=hi) (l2:hi<=2 ^ 64) (h:∀bs,Jp lo hi bs->R (.tuple (pD bs)) n):Uq [.int lo,.int hi] n R
def zmk(Z:ZZ):Prop:=FQ Z "span" (top 10) ["low","high"] 3 (spD Z.K 2 Uq)
theorem zrj(D:Dq Z.K Z.mg "span" (top 10) ["low","high"]) (Ll:YX Z) (Y:zbL Z) (T:Txt Z.mg):zmk Z:=by
 refine' okQ D (fnS (N:=["low","high","blocks","begin","block"]) (by decide +kernel)) rfl fun f U A outer s H E C=>⟨_,(Jb (Q4 (i:=2) (ndB rfl) rfl (fk rfl) (J9 Ja)) (Jb (dsv 3 (ndB rfl) (Jk 0)) (Jb (zg1 b6 (Jj (Qw C) Qv (dlv 3) (dlv 1) (Jf _)) (Jb (dsv 4 (ndB rfl) (Jr (dbv 3 (dbc (Jd Y C (dbv 3 (dbv 1 Ja))) Ja)))) (Jb (QC 2 (Jk 4)) (Jc (dsv 3 (ndB rfl) (Jd Ll C (dbv 4 Ja))))))) (Uc 2 (Jc (Je (UE U3 U0 T.tup QA (Ji (dlv 2) Jq Jt)))))))),?_⟩;intro ts n R hl h;obtain @⟨lo,hi,n,R,l0,l1,l2,h⟩:=h;obtain⟨all,A⟩:=zlU _ lo hi (ar _) l1;have al:=A.len l0 l2;wp_walk;refine zlH (fun m J L=>L=n/\∃(bs rest:qB) (y:Int) (I:Option Cell),J=[some (.val (.int lo)),some (.val (.int hi)),some (.own (pD bs)),some (.val (.int y)),I]/\all=bs++rest/\Jp y hi rest/\lo<=y/\m=rest.length) (m:=all.length) ⟨rfl,[],all,lo,_,rfl,rfl,A,aO _,rfl⟩ ?_;rintro m J L NX RT BK ⟨rfl,bs,rest,y,I,rfl,x,S,lb,rfl⟩ hN hR hB;wp_walk
 ·cases rest with
  | nil=>have:y=hi:=S;lia
  | cons b r =>
   obtain⟨s1,s2,s3,s4,s5⟩:=S;refine zbd.c (by lia) hc fun g G=>?_;have eg:b.2.toNat=g:=s4.uniq G;have eb:b=(y,(g:Int)):=dz s2 (by show b.2=(g:Int);lia);have gl:g<=64:=by
    rcases bG 64 g with z|z;have:=QK (show 65<=g by lia);have:=G.2.1;have e:(2:Int) ^ 65=2*2 ^ 64:=by decide
    lia;exact z
   wp_walk using UB.c (by lia) (by lia) ?_;rw[Jz];have:=congrArg c8 x;rw[ba]at this;lia;refine hN r.length _ _ (by simp) ⟨rfl,bs++[b],r,y+2 ^ (g:Int).toNat,some (.val (.tuple [.int y,.int (g:Int)])),by rw[eb,<- YM],by rw[x];simp,?_,?_,rfl⟩;rw[eg]at s5;simpa using s5;have:=Qc (g:Int).toNat;lia
 ·have e:y=hi:=by have:=S.le;lia
  cases rest with
  | cons b r=>have:=S.1;lia
  | nil =>refine hB _ _ ?_;wp_walk;rw[cg]at x;rw[<- x];exact h _ A
inductive V6:List af->Nat->(af->Nat->Prop)->Prop
 | c {rs:qB} {n:Nat} {R:qN} (w:∀r∈rs,0<=r.1/\r.1<=r.2/\r.2<=2 ^ 64) (l:rs.length<=100000) (h:∀ps,PatS rs ps->R (.tuple (pD ps)) n):V6 [.list (pD rs)] n R
theorem zmA:∀{rs:qB},(∀r∈rs,r.1<=r.2)->∃ps,PatS rs ps
 | [],_=>⟨[],rfl⟩
 | r::rs,h=>by obtain⟨a,A⟩:=zlU _ r.1 r.2 (ar _) (h r (by simp));obtain⟨b,B⟩:=zmA (rs:=rs) fun s l=>h s (by simp[l]);exact⟨a++b,a,b,rfl,A,B⟩
theorem zkt{g:DTG}{d:DTE}{o:En}{n:Nat}{Rl:List af->Nat->Prop}:∀(xs acc:qD),(∀x∈xs,∀K:af->Nat->Prop,K x n->g x o fun l=>d l n K)->acc.length+xs.length<=16777216->Rl (acc++xs) n->JO g dYes d o xs acc n Rl
 | [],acc,_,_,h=>(by simpa using h:Rl acc n)
 | x::xs,acc,hg,hl,h=>by
  have e:(fun l=>dYes l n fun b v=>if b=true then d l v fun t u=>acc.length<16777216/\JO g dYes d o xs (acc++[t]) u Rl else JO g dYes d o xs acc v Rl)=fun l=>d l n fun t u=>acc.length<16777216/\JO g dYes d o xs (acc++[t]) u Rl:=by funext l;exact propext ⟨fun z=>by simpa[dYes] using z,fun z=>by simpa[dYes] using z⟩
  show g x o fun l=>dYes l n fun b v=>if b=true then d l v fun t u=>acc.length<16777216/\JO g dYes d o xs (acc++[t]) u Rl else JO g dYes d o xs acc v Rl
  rw[e];refine hg x (by simp) _ ⟨by simp at hl;lia,zkt xs (acc++[x]) (fun y C=>hg y (by simp[C])) (by simp at hl ⊢;lia) (by simpa using h)⟩
def zdU(Z:ZZ):Prop:=FQ Z "patch_of" (top 19) ["runs"] 4 (spD Z.K 1 V6)
theorem ziY(D:Dq Z.K Z.mg "patch_of" (top 19) ["runs"]) (Mb:zmk Z) (T:Txt Z.mg):zdU Z:=by
 refine' okQ D (fnS (N:=["runs"]) (by decide +kernel)) rfl fun f S A outer s H E I=>⟨_,(Jc (Je (UE U3 U0 T.tup QA (Ji (dl (JL (zkm (own:=["low","high","block"]) (capt:=[]) rfl (Jx.of rfl) (dil (zqe (Jk 0))) (fun _ _ _ _=>(JT rfl (Jo (dgv 0 (ndB rfl)) (Jo (dgv 1 (ndB rfl)) JQ)))) (by decide) (fun _ _ _ _=>Q8) (fun _ _ _ _=>(QI (Jd Mb I (dbv 0 (dbv 1 Ja))))) (fun _ _ _ _=>(dgv 2 (ndB rfl))) (by decide) (fun _ _ _ _=>Q8) (fun _ _ _ _=>(Jk 2))))) Jq Ut)))),?_⟩;intro ts n R hl h;obtain @⟨rs,n,R,w,l,h⟩:=h;wp_walk;have key:∀(rs:qB) (acc ps:qB),(∀r∈rs,0<=r.1/\r.1<=r.2/\r.2<=2 ^ 64)->acc.length+130*rs.length<=16777216->PatS rs ps->∀K:List af->Nat->Prop,K (pD (acc++ps)) n ->
   Uw (Ui (Qy (JX 0) (Qy (JX 1) Uh))) dYes (dItT (dFn Uq (J1 (dVar 0) (J1 (dVar 1) dNil)))) (JX 2) dYes (dVar 2) [none,none,none] (pD rs) (pD acc) n K:=by
  intro rs;induction rs with
  | nil =>intro acc ps _ _ P K C;cases(show ps=[] from P);rw[cg]at C;exact C
  | cons r rs ih =>
   intro acc ps w la P K C;obtain⟨a,b,rfl,J,U⟩:=P;have v:=w r (by simp);have ll:=J.len v.1 v.2.2;show Ui (Qy (JX 0) (Qy (JX 1) Uh)) (.tuple [.int r.1,.int r.2]) [none,none,none] fun o=>dYes o n fun b L=>if b=true then dItT (dFn Uq (J1 (dVar 0) (J1 (dVar 1) dNil))) o L fun ts n3=>JO (JX 2) dYes (dVar 2) o ts (pD acc) n3 fun y n4=>Uw (Ui (Qy (JX 0) (Qy (JX 1) Uh))) dYes (dItT (dFn Uq (J1 (dVar 0) (J1 (dVar 1) dNil)))) (JX 2) dYes (dVar 2) [none,none,none] (pD rs) y n4 K else Uw (Ui (Qy (JX 0) (Qy (JX 1) Uh))) dYes (dItT (dFn Uq (J1 (dVar 0) (J1 (dVar 1) dNil)))) (JX 2) dYes (dVar 2) [none,none,none] (pD rs) (pD acc) L K
   rw[aH]at la;wp_walk using Uq.c v.1 v.2.1 v.2.2 (fun bs B=>?_);rw[B.uniq J];refine zkt _ _ (fun x hx K2 G=>?_) (by rw[Jz,Jz];lia) ?_
   ·wp_walk;exact G
   rw[ztE];exact ih (acc++a) b (fun s Y=>w s (by simp[Y])) (by rw[ba];lia) U K (by rw[eX];exact C)
 obtain⟨ps,P⟩:=zmA (rs:=rs) fun r I=>(w r I).2.1;refine key rs [] ps w (by simp;lia) P _ ?_;wp_walk;exact h ps P
def rkB(b:Int×Int):Int:=b.1*1000+b.2
theorem zrA{bits:Int}{bs:qB}{t:af}{Rl:List af->Prop}(S:t=.list (pD bs)\/t=.tuple (pD bs))(v:bits<=64)(B:Bks bits bs)(I:SrtL rkB bs)
  (h:∀cs:List (Int×Int),cs.Perm bs->cs.Pairwise (fun a b=>a.1<=b.1)->Rl (pD cs)):U7 t Rl:=by
 have key:SrtL rkD (pD bs)/\(∀x∈pD bs,IsPr x)/\∀o:List af,o.Perm (pD bs)->o.Pairwise (fun a b=>rkD a<=rkD b)->Rl o:=by
  refine⟨zjI I (by unfold pD;rw[cI];rfl),fun x hx=>?_,fun o pm pw=>?_⟩;obtain⟨b,C,rfl⟩:=bc.mp hx;have:=B b C;exact⟨b.1,b.2,rfl,this.1,by have:=this.2.1;lia⟩;have G:o.Perm ((bs.map fun b=>(b,prD b)).map (·.2)):=by
   have:(bs.map fun b=>(b,prD b)).map (·.2)=pD bs:=by simp[pD]
   rw[this];exact pm
  obtain⟨zs,p1,p2⟩:=zgD G;have R:∀z∈zs,z.2=prD z.1:=fun z hz=>by obtain⟨b,_,rfl⟩:=bc.mp (p1.mem_iff.mp hz);rfl
  have e:o=pD (zs.map (·.1)):=by rw[<- p2];unfold pD;rw[cI];exact fe fun z hz=>R z hz
  have pc:(zs.map (·.1)).Perm bs:=by
   have:=p1.map (·.1);rw[cI]at this;have N:bs.map ((fun x:(Int×Int)×af=>x.1)∘fun b=>(b,prD b))=bs:=by show bs.map id=bs;exact oC _
   rwa [N]at this
  rw[e];have y:Bks bits (zs.map (·.1)):=fun b v=>B b (pc.mem_iff.mp v);rw[e]at pw;unfold pD at pw;rw[cJ]at pw;refine h _ pc (iw ?_ pw);intro a b L v J;have J:a.1*1000+a.2<=b.1*1000+b.2:=J;have a0:=(y a L).1;have a1:=(y a L).2.1;have Y:=(y b v).1;have U:=(y b v).2.1;lia
 rcases S with rfl|rfl <;> exact key
inductive V2:List af->Nat->(af->Nat->Prop)->Prop
 | c {bits:Int} {bs:qB} {t:af} {n:Nat} {R:qN} (ht:t=.list (pD bs)\/t=.tuple (pD bs)) (b0:0<=bits) (b1:bits<=64) (B:Bks bits bs) (l:SrtL rkB bs) (h:∀rs,NR rs->(∀x,mR x rs↔mB x bs)->rs.length<=bs.length->R (.list (pD rs)) n):V2 [t] n R
theorem zmf{a b:Int×Int}(h:eB a<=b.1)(a1:a.2<=1000)(l:0<=b.2):rkB a<=rkB b:=by have:=Bd.Qc a.2.toNat;unfold eB at h;unfold rkB;lia
theorem zlT{bits:Int}{bs:qB}(o:bits<=64)(P:Ptc bits bs)(l:bs.length<100000):SrtL rkB bs:=zpS (P.2.imp_of_mem fun {a b} ha hb h=>zmf h (by have:=(P.1 a ha).2.1;lia) (P.1 b hb).1) l
def zeP(Z:ZZ):Prop:=FQ Z "runs_of" (top 20) ["blocks"] 3 (spD Z.K 1 V2)
theorem zkU(D:Dq Z.K Z.mg "runs_of" (top 20) ["blocks"]) (Ll:YX Z) (T:Txt Z.mg):zeP Z:=by
 refine' okQ D (fnS (N:=["blocks","runs","block","low","high"]) (by decide +kernel)) rfl fun f cdv A outer s H E G=>⟨_,(Jb (Q4 (i:=1) (ndB rfl) rfl (fk rfl) (J9 Ja)) (Jb (QJ b6 rfl (VN (JL (zis G T.srt (dlv 0) Jt))) (dgv 2 (ndB rfl)) (Jc (Js (JW (Yt (JY (Uo 1)) (YO (Jj Qn Qk (dl (Jn (dlv 2) dli)) (dl (Jn (dl (Jn (Uo 1) (dl (VD Jg)))) dli)) (Jf _))))) (Jb (QO (Jn (Uo 1) (dl (VD Jg))) (JT rfl (Jo (dgv 3 (ndB rfl)) (Jo (dgv 4 (ndB rfl)) JQ)))) (Jc (zu8 1 (VD Jg) (Jr (dbv 3 (dbc (JA (zfy rfl) znj T.max zfz (Ji (dlv 4) (Ji (dl (Jd Ll G (dbv 2 Ja))) Jq UT) Jt)) Ja)))))) (Jc (QC 1 (Jr (dbc (Jn (dlv 2) dli) (dbc (Jd Ll G (dbv 2 Ja)) Ja)))))))) (Uc 1 (Jc (Je (Jk 1)))))),?_⟩;intro ts n R hl h;obtain @⟨bits,bs,t,n,R,ht,b0,b1,B,l,h⟩:=h;have l9:=UM l;wp_walk;refine zrA ht b1 B l fun cs pm pw=>?_;have Bc:Bks bits cs:=fun b C=>B b (pm.mem_iff.mp C);have lc:=pm.length_eq;refine zqb 1 2 3 4 (fun k a1 _ _ _ m=>m=n/\∃rs:List (Int×Int),a1=some (.own (pD rs))/\NR rs/\(∀x,mR x rs↔mB x (cs.take k))/\rs.length<=k/\∀r∈rs,∀b∈cs.drop k,r.1<=b.1) ⟨rfl,[],rfl,⟨(fun r G=>nomatch G),.nil⟩,(fun x=>⟨fun z=>absurd z QP,fun z=>absurd z VH⟩),ar _,fun r G=>nomatch G⟩ ?_ ?_
 ·rintro k t' a1 a2 a3 a4 m K RT BK et ⟨rfl,rs,rfl,J,S,lr,lo⟩ hK hRT hBK;obtain⟨i,g,eb,rfl⟩:=UP et;have kl:=(av.mp eb).1;have Bb:=Bc _ (aA eb);have g0:0<=g:=Bb.1;have g1:g<=bits:=Bb.2.1;have pg:=Qc g.toNat;have tk:cs.take (k+1)=cs.take k++[(i,g)]:=by rw[fV,eb];rfl
  have dk:cs.drop k=(i,g)::cs.drop (k+1):=by rw[bZ kl];congr 1;have:=au kl;rw[eb]at this;exact(aE this).symm
  have after:∀b∈cs.drop (k+1),i<=b.1:=fun b C=>by have:cs.Pairwise fun a b=>a.1<=b.1:=pw;have:=(this.sublist (mM k cs));rw[dk]at this;exact(bK.mp this).1 b C
  have m1:∀x,mB x (cs.take (k+1))↔mB x (cs.take k)\/(i<=x/\x<i+2 ^ g.toNat):=fun x=>by rw[tk,YK,zmT];constructor;rintro(z|z|z);exact .inl z;exact .inr z;exact absurd z VH;rintro(z|z);exact .inl z;exact .inr (.inl z)
  have new:(∀r∈rs,r.2<i)->∀c2 c3 c4,K [some (.val t),some (.own (pD rs++[.tuple [.int i,.int (i+2 ^ g.toNat)]])),c2,c3,c4] m:=fun hlt c2 c3 c4 =>
   hK _ _ _ _ _ ⟨rfl,rs++[(i,i+2 ^ g.toNat)],by rw[<- YM],⟨fun r G=>by
    rcases aW.mp G with z|z;exact J.1 r z;cases aC.mp z;show i<i+2 ^ g.toNat;lia,by
    rw[cQ];exact⟨J.2,e8 _ _,fun a ha b C=>by cases aC.mp C;exact hlt a ha⟩⟩,(fun x=>by
    rw[YL,S,m1,JR];constructor;rintro(z|z|z);exact .inl z;exact .inr z;exact absurd z QP;rintro(z|z);exact .inl z;exact .inr (.inl z)),by simp;lia,fun r G b C=>by
    rcases aW.mp G with z|z;exact lo r z b (by rw[dk];simp[C]);cases aC.mp z;exact after b C⟩
  rcases List.eq_nil_or_concat rs with rfl|⟨I,r,rfl⟩
  ·wp_walk using UB.c g0 (by lia) ?_;show 0<16777216;decide;exact new (fun r G=>nomatch G) _ _ _;exact absurd hc (by simp[pD])
  ·rw[List.concat_eq_append]at *;have sn:pD (I++[r])=pD I++[.tuple [.int r.1,.int r.2]]:=by simp[pD]
   have lr':I.length+1<=k:=by simpa using lr
   have r12:=J.1 r (by simp);have rlo:r.1<=i:=lo r (by simp) (i,g) (by rw[dk];simp);have L:=cQ.mp J.2;rw[sn]at new ⊢;wp_walk using zpc ?_,UB.c g0 (by lia) ?_;all_goals first
    | (exfalso;simp at hc;done)
    | (exfalso;rename_i y;simp at y;done)
    | (simp[Jz];lia)
    | skip
   ·refine zti zkc ?_;wp_walk;rw[List.set_append_right _ _ (ar _),kj];have mx:(if i+2 ^ g.toNat > r.2 then i+2 ^ g.toNat else r.2)=max r.2 (i+2 ^ g.toNat):=by split <;> lia
    refine hK _ _ _ _ _ ⟨rfl,I++[(r.1,max r.2 (i+2 ^ g.toNat))],?_,⟨fun s U=>?_,?_⟩,fun x=>?_,by simp;lia,fun s U b C=>?_⟩;rw[mx];simp[pD];rcases aW.mp U with z|z;exact J.1 s (by simp[z]);cases aC.mp z;show r.1<max r.2 _;lia;rw[cQ];exact⟨L.1,e8 _ _,fun a ha b C=>by cases aC.mp C;exact L.2.2 a ha r (by simp)⟩;have Y:=S x;rw[YL,JR]at Y;rw[YL,JR,m1,<- Y];have nn:=QP (x:=x);show _\/(r.1<=x/\x<max r.2 (i+2 ^ g.toNat))\/_↔_;constructor;rintro(z|z|z);exact .inl (.inl z);by_cases w:x<r.2;exact .inl (.inr (.inl ⟨z.1,w⟩));exact .inr (by lia);exact absurd z nn;rintro((z|z|z)|z);exact .inl z;exact .inr (.inl (by lia));exact absurd z nn;exact .inr (.inl (by lia));rcases aW.mp U with z|z;exact lo s (by simp[z]) b (by rw[dk];simp[C]);cases aC.mp z;exact lo r (by simp) b (by rw[dk];simp[C])
   refine new (fun s U=>?_) _ _ _;rcases aW.mp U with z|z;have:=L.2.2 s z r (by simp);have:=J.1 r (by simp);lia;cases aC.mp z;lia
 ·rintro a1 a2 a3 a4 m ⟨rfl,rs,rfl,J,S,lr,lo⟩;rw[Jz]at S lr;rw[dQ]at S;wp_walk;exact h rs J (fun x=>by rw[S x,zrs pm]) (by lia)
inductive UZ:List af->Nat->(af->Nat->Prop)->Prop
 | c {bits:Int} {bs:qB} {t:af} {n:Nat} {R:qN} (ht:t=.list (pD bs)\/t=.tuple (pD bs)) (b0:0<=bits) (b1:bits<=64) (B:Bks bits bs) (l:SrtL rkB bs) (h:∀ps,CanP (fun x=>mB x bs) ps->ps.length<=bs.length->R (.tuple (pD ps)) n):UZ [t] n R
def ZY(Z:ZZ):Prop:=FQ Z "fewest" (top 9) ["blocks"] 5 (spD Z.K 1 UZ)
theorem zmJ(D:Dq Z.K Z.mg "fewest" (top 9) ["blocks"]) (G:zdU Z) (I:zeP Z) (T:Txt Z.mg):ZY Z:=by refine' okQ D (fnS (N:=["blocks"]) (by decide +kernel)) rfl fun f y A outer s H E u=>⟨_,(Jc (Je (Jd G u (dbc (Jd I u (dbv 0 Ja)) Ja)))),?_⟩;intro ts n R L h;obtain @⟨bits,bs,t,n,R,ht,b0,b1,B,l,h⟩:=h;have S:=UM l;wp_walk using V2.c ht b0 b1 B l (fun rs v o J=>?_);have w:=zrm b0 b1 v o fun x hx=>QZ b0 B hx;wp_walk using V6.c w ?_ (fun ps P=>?_);lia;have C:CanP (fun x=>mB x bs) ps:=⟨rs,v,o,P⟩;exact h ps C (C.le b0 B)
inductive Wb:List af->Nat->(af->Nat->Prop)->Prop
 | c {rs:qB} {top:Int} {n:Nat} {R:qN} (nr:NR rs) (w:∀r∈rs,0<=r.1) (t0:0<=top) (l:rs.length<=100000) (h:∀(gs:qB) (B:Int),NR gs->(∀x,mR x gs↔0<=x/\x<B/\¬mR x rs)->gs.length<=rs.length+1->top<=B->(B=top\/∃r∈rs,B=r.2)->R (.list (pD gs)) n):Wb [.list (pD rs),.int top] n R
theorem ziz{rs:qB}{top:Int}{n:Nat}{R:qN}(C:NR rs)(w:∀r∈rs,0<=r.1/\r.2<=top)(t0:0<=top)(l:rs.length<=100000)(h:∀o,NR o->(∀x,mR x o↔0<=x/\x<top/\¬mR x rs)->o.length<=rs.length+1->R (.list (pD o)) n):Wb [.list (pD rs),.int top] n R:=Wb.c C (fun r u=>(w r u).1) t0 l fun o B v y G J I=>by
 have:B=top:=by rcases I with e|⟨r,u,e⟩;exact e;have:=(w r u).2;lia
 subst this;exact h o v y G
def zeh(Z:ZZ):Prop:=FQ Z "gaps_below" (top 21) ["runs","top"] 1 (spD Z.K 2 Wb)
theorem zgJ(D:Dq Z.K Z.mg "gaps_below" (top 21) ["runs","top"]) (T:Txt Z.mg):zeh Z:=by
 refine' okQ D (fnS (N:=["runs","top","gaps","begin","low","high"]) (by decide +kernel)) rfl fun f cdv A outer s H E C=>⟨_,(Jb (Q4 (i:=2) (ndB rfl) rfl (fk rfl) (J9 Ja)) (Jb (dsv 3 (ndB rfl) Jg) (Jb (QJ b6 rfl (zqe (Jk 0)) (JT rfl (Jo (dgv 4 (ndB rfl)) (Jo (dgv 5 (ndB rfl)) JQ))) (Jb (Js (Jj (Qw C) Qv (dlv 3) (dlv 4) (Jf _)) (Jc (QC 2 (Jr (dbv 3 (dbv 4 Ja))))) Ju) (Jc (dsv 3 (ndB rfl) (Jk 5))))) (Jb (Js (Jj (Qw C) Qv (dlv 3) (dlv 1) (Jf _)) (Jc (QC 2 (Jr (dbv 3 (dbv 1 Ja))))) Ju) (Uc 2 (Jc (Je (Jk 2)))))))),?_⟩;intro ts n R hl h;obtain @⟨rs,top,n,R,nr,w,t0,l,h⟩:=h;wp_walk;refine zqb 2 3 4 5 (fun k a2 a3 _ _ m=>m=n/\∃(J:qB) (G:Int),a2=some (.own (pD J))/\a3=some (.val (.int G))/\NR J/\(∀x,mR x J↔0<=x/\x<G/\¬mR x (rs.take k))/\J.length<=k/\0<=G/\(G=0\/∃r∈rs,G=r.2)/\(∀r∈rs.take k,r.2<=G)/\(∀g∈J,g.2<G)/\(∀r∈rs.drop k,(k=0/\G=0/\G<=r.1)\/G<r.1)) ⟨rfl,[],0,rfl,rfl,⟨(fun r C=>nomatch C),.nil⟩,(fun x=>⟨fun z=>absurd z QP,fun z=>by lia⟩),ar _,aO _,.inl rfl,(fun r C=>nomatch C),(fun r C=>nomatch C),fun r C=>.inl ⟨rfl,rfl,w r C⟩⟩ ?_ ?_
 ·rintro k t' a2 a3 a4 a5 m K RT BK et ⟨rfl,J,G,rfl,rfl,S,U,lg,be0,Y,ti,gl,dr⟩ hK hRT hBK;obtain⟨lo,hi,eb,rfl⟩:=UP et;have kl:=(av.mp eb).1;have mr:=aA eb;have L:=nr.1 _ mr;have L:lo<hi:=L;have wr:=w _ mr;have wr1:0<=lo:=wr;have tk:rs.take (k+1)=rs.take k++[(lo,hi)]:=by rw[fV,eb];rfl
  have dk:rs.drop k=(lo,hi)::rs.drop (k+1):=by rw[bZ kl];congr 1;have:=au kl;rw[eb]at this;exact(aE this).symm
  have after:∀r∈rs.drop (k+1),hi<r.1:=fun r C=>by have:=(nr.2.sublist (mM k rs));rw[dk]at this;exact(bK.mp this).1 r C
  have here:=dr (lo,hi) (by rw[dk];simp);have here:G<=lo:=by rcases here with z|z;exact z.2.2;exact eQ z
  have mt:∀x,mR x (rs.take (k+1))↔mR x (rs.take k)\/(lo<=x/\x<hi):=fun x=>by rw[tk,YL,JR];constructor;rintro(z|z|z);exact .inl z;exact .inr z;exact absurd z QP;rintro(z|z);exact .inl z;exact .inr (.inl z)
  have old:∀x,G<=x->¬mR x (rs.take k):=fun x hx ⟨r,C,h1,h2⟩=>by have:=ti r C;lia
  have go:∀(I:qB) (c4 c5:Option Cell),NR I->(∀x,mR x I↔mR x J\/(G<=x/\x<lo))->I.length<=k+1->(∀g∈I,g.2<hi)->K [some (.val (.list (pD rs))),some (.val (.int top)),some (.own (pD I)),some (.val (.int hi)),c4,c5] m:=fun I c4 c5 n' m' l' g' =>
   hK _ _ _ _ _ ⟨rfl,I,hi,rfl,rfl,n',(fun x=>by
    rw[m',U,mt];have ox:=old x;constructor;rintro(⟨a,b,c⟩|⟨a,b⟩);exact⟨a,by lia,fun z=>z.elim c fun z=>by lia⟩;exact⟨by lia,by lia,fun z=>z.elim (ox a) fun z=>by lia⟩;rintro⟨a,b,c⟩;by_cases y:x<G;exact .inl ⟨a,y,fun z=>c (.inl z)⟩;refine .inr ⟨by lia,?_⟩;by_cases u:x<lo;exact u;exact absurd (.inr ⟨by lia,b⟩) c),l',by lia,.inr ⟨_,mr,rfl⟩,(fun r C=>by
    rw[tk]at C;rcases aW.mp C with z|z;have:=ti r z;lia;cases aC.mp z;exact aO _),g',fun r C=>.inr (after r C)⟩
  wp_walk;rw[Jz];lia;rw[YM];refine go (J++[(G,lo)]) _ _ ⟨fun r C=>?_,?_⟩ (fun x=>?_) (by simp;lia) fun g hg=>?_;rcases aW.mp C with z|z;exact S.1 r z;cases aC.mp z;exact hc;rw[cQ];exact⟨S.2,e8 _ _,fun a ha b hb=>by cases aC.mp hb;exact gl a ha⟩;rw[YL,JR];constructor;rintro(z|z|z);exact .inl z;exact .inr z;exact absurd z QP;rintro(z|z);exact .inl z;exact .inr (.inl z);rcases aW.mp hg with z|z;have:=gl g z;lia;cases aC.mp z;exact L;refine go J _ _ S (fun x=>⟨.inl,fun z=>z.elim id fun z=>by lia⟩) (by lia) fun g hg=>?_;have:=gl g hg;lia
 ·rintro a2 a3 a4 a5 m ⟨rfl,J,G,rfl,rfl,S,U,lg,be0,Y,ti,gl,dr⟩;rw[Jz]at U lg ti;rw[dQ]at U ti;have old:∀x,G<=x->¬mR x rs:=fun x hx ⟨r,C,h1,h2⟩=>by have:=ti r C;lia
  wp_walk;rw[Jz];lia;rw[YM];refine h (J++[(G,top)]) top ⟨fun r C=>?_,?_⟩ (fun x=>?_) (by simp;lia) (aO _) (.inl rfl);rcases aW.mp C with z|z;exact S.1 r z;cases aC.mp z;exact hc;rw[cQ];exact⟨S.2,e8 _ _,fun a ha b hb=>by cases aC.mp hb;exact gl a ha⟩;rw[YL,JR,U];have ox:=old x;constructor;rintro(⟨a,b,c⟩|z|z);exact⟨a,by lia,c⟩;exact⟨by have:=z.1;lia,z.2,ox z.1⟩;exact absurd z QP;rintro⟨a,b,c⟩;by_cases y:x<G;exact .inl ⟨a,y,c⟩;exact .inr (.inl ⟨by show G<=x;lia,b⟩);refine h J G S U (by lia) (by lia) ?_;rcases Y with z|z;exact .inl (by lia);exact .inr z
inductive zfr:List af->Nat->(af->Nat->Prop)->Prop
 | c {bits:Int} {ps:qB} {n:Nat} {R:qN} (b0:1<=bits) (b1:bits<=64) (B:Bks bits ps) (l:SrtL rkB ps) (h:∀qs,CanP (fun x=>0<=x/\x<2 ^ bits.toNat/\¬mB x ps) qs->qs.length<=130*(ps.length+1)->R (.tuple (pD qs)) n):zfr [.int bits,.tuple (pD ps)] n R
def zhI(Z:ZZ):Prop:=FQ Z "rest_of" (top 11) ["bits","patch"] 5 (spD Z.K 2 zfr)
theorem zkV(D:Dq Z.K Z.mg "rest_of" (top 11) ["bits","patch"]) (U:zdU Z) (L:zeh Z) (Y:zeP Z) (T:Txt Z.mg):zhI Z:=by
 refine' okQ D (fnS (N:=["bits","patch"]) (by decide +kernel)) rfl fun f J A outer s H E o=>⟨_,(Jc (Je (Jd U o (dbc (Jd L o (dbc (Jd Y o (dbv 1 Ja)) (dbc (Qi dli (dlv 0)) Ja))) Ja)))),?_⟩;intro ts n R hl h;obtain @⟨bits,ps,n,R,b0,b1,B,l,h⟩:=h;have l9:=UM l;wp_walk using V2.c (.inr rfl) (by lia) b1 B l (fun rs y v lr=>?_);exact cpow (by lia) (by lia);have w:=zrm (by lia) b1 y v fun x hx=>QZ (by lia) B hx;have S:∀r∈rs,0<=r.1/\r.2<=1*2 ^ bits.toNat:=fun r o=>by have lt:=y.1 r o;have:=QZ (by lia) B ((v (r.2 - 1)).mp ⟨r,o,by lia,by lia⟩);have:=(w r o).1;rw[QS];lia
 have tp:=Qc bits.toNat;wp_walk using ziz y S (by lia) (by lia) (fun I G mg lg=>?_);have u:∀x,mR x I↔0<=x/\x<2 ^ bits.toNat/\¬mB x ps:=fun x=>by rw[mg,QS,v]
 have C:=zrm (by lia) b1 G u fun x hx=>⟨hx.1,hx.2.1⟩;wp_walk using V6.c C ?_ (fun qs P=>?_);lia;have:=P.len fun r o=>⟨(C r o).1,(C r o).2.2⟩;exact h qs ⟨I,G,u,P⟩ (by lia)
inductive V3:List af->Nat->(af->Nat->Prop)->Prop
 | c {bits a:Int} {bs:qB} {n:Nat} {R:qN} (b1:bits<=64) (P:Ptc bits bs) (hl:bs.length<1000000) (h:∀k:Nat,k<=bs.length->(∀(j:Nat) (b:Int×Int),j<k->bs[j]?=some b->eB b<=a)->(∀(j:Nat) (b:Int×Int),k<=j->bs[j]?=some b->a<eB b)->R (.int (k:Int)) n):V3 [.tuple (pD bs),.int a] n R
def zdY(Z:ZZ):Prop:=FQ Z "ended_by" (top 16) ["patch","address"] 3 (spD Z.K 2 V3)
theorem zi7(D:Dq Z.K Z.mg "ended_by" (top 16) ["patch","address"]) (Ll:YX Z) (T:Txt Z.mg):zdY Z:=by
 refine' okQ D (fnS (N:=["patch","address","low","high","middle"]) (by decide +kernel)) rfl fun f cdv A outer s H E hr=>⟨_,(Jb (dsv 2 (ndB rfl) Jg) (Jb (dsv 3 (ndB rfl) (JA Qq Qm T.len J5 (Ji (dlv 0) Jq Jt))) (Jb (zg1 b6 (Jj (Qw hr) Qv (dlv 2) (dlv 3) (Jf _)) (Jb (dsv 4 (ndB rfl) (zjq (dl (JS (dlv 2) (dlv 3))) dli)) (Jc (Js (Jj Qn Qk (dl (Jd Ll hr (dbc (Jn (dlv 0) (dlv 4)) Ja))) (dlv 1) (Jf _)) (Jc (dsv 2 (ndB rfl) (JS (dlv 4) dli))) (Jc (dsv 3 (ndB rfl) (Jk 4))))))) (Jc (Je (Jk 2)))))),?_⟩;intro ts n R hl J;obtain @⟨bits,a,bs,n,R,b1,P,hl6,J⟩:=J;have srt:=P.ends;wp_walk;rw[Jz];refine zhe (m:=bs.length) (fun m Y n'=>n'=n/\∃lo hi:Nat,∃c,Y=[some (.val (.tuple (pD bs))),some (.val (.int a)),some (.val (.int (lo:Int))),some (.val (.int (hi:Int))),c]/\lo<=hi/\hi<=bs.length/\m=hi - lo/\(∀(j:Nat) (b:Int×Int),j<lo->bs[j]?=some b->eB b<=a)/\(∀(j:Nat) (b:Int×Int),hi<=j->bs[j]?=some b->a<eB b)) ?_ ?_;refine⟨rfl,0,bs.length,none,rfl,cO _,ar _,rfl,fun j b C=>absurd C (Nat.not_lt_zero _),fun j b C e=>?_⟩;rw[bO C]at e;cases e
 ·rintro m Y n' ⟨rfl,lo,hi,c,rfl,h1,U,rfl,h3,h4⟩;wp_walk;exact zve
  ·have hm:(lo+hi) / 2<bs.length:=by lia
   obtain⟨b,G⟩:∃b,bs[(lo+hi) / 2]?=some b:=⟨_,au hm⟩;have L:=P.1 b (aA G);refine zrB (k:=(lo+hi) / 2) (by lia) (zrc G) ?_;have sx:∀(i j:Nat) (x y:Int×Int),bs[i]?=some x->bs[j]?=some y->i<=j->eB x<=eB y:=fun i j x y S I hij=>by by_cases z:i=j;subst z;rw[S]at I;cases I;exact aO _;obtain⟨l1,rfl⟩:=av.mp S;obtain⟨l2,rfl⟩:=av.mp I;exact aP.mp srt i j l1 l2 (by lia)
   wp_walk using UB.c ?_ ?_ ?_;exact L.1;have:=L.2.1;lia
   ·have hc:eB b<=a:=hc;refine⟨_,?_,rfl,(lo+hi) / 2+1,hi,some (.val (.int (((lo+hi) / 2:Nat):Int))),?_,by lia,U,rfl,fun j x C e=>?_,h4⟩;lia
    ·have o:((lo:Int)+hi) / 2=(((lo+hi) / 2:Nat):Int):=by lia
     first|(rw[o];done)|(rw[o];rfl)
    exact nG (sx _ _ _ _ e G (by lia)) hc
   ·have hc:¬eB b<=a:=hc;refine⟨_,?_,rfl,lo,(lo+hi) / 2,some (.val (.int (((lo+hi) / 2:Nat):Int))),?_,by lia,by lia,rfl,h3,fun j x C e=>?_⟩;lia
    ·have o:((lo:Int)+hi) / 2=(((lo+hi) / 2:Nat):Int):=by lia
     first|(rw[o];done)|(rw[o];rfl)
    have:=sx _ _ _ _ G e (by lia);lia
  have e:lo=hi:=by lia
  subst e;exact J lo U h3 h4
inductive zcy:List af->Nat->(af->Nat->Prop)->Prop
 | c {bits a:Int} {bs:qB} {n:Nat} {R:qN} (b1:bits<=64) (P:Ptc bits bs) (hl:bs.length<1000000) (h:∀b∈bs,b.1<=a->a<eB b->R (.tuple [.int b.1,.int b.2]) n) (h':(∀b∈bs,¬(b.1<=a/\a<eB b))->R .none n):zcy [.tuple (pD bs),.int a] n R
def zei(Z:ZZ):Prop:=FQ Z "block_with" (top 12) ["patch","address"] 4 (spD Z.K 2 zcy)
theorem zgK(D:Dq Z.K Z.mg "block_with" (top 12) ["patch","address"]) (U:zdY Z) (T:Txt Z.mg):zei Z:=by
 refine' okQ D (fnS (N:=["patch","address","at"]) (by decide +kernel)) rfl fun f J A outer s H E G=>⟨_,(Jb (dsv 2 (ndB rfl) (Jd U G (dbv 0 (dbv 1 Ja)))) (Jb (Js (JW (Yt (Jj (Qw G) Qv (dlv 2) (dl (JA Qq Qm T.len J5 (Ji (dlv 0) Jq Jt))) (Jf _)) (YO (Jj Qn Qk (dl (Jn (dl (Jn (dlv 0) (dlv 2))) dli)) (dlv 1) (Jf _))))) (Jc (Je (Jn (dlv 0) (dlv 2)))) Ju) (Jc (Je QH)))),?_⟩;intro ts n R hl C;obtain @⟨bits,a,bs,n,R,b1,P,hl6,C,hn⟩:=C;wp_walk using V3.c b1 P hl6 (fun k k0 I L=>?_)
 ·rw[Jz]at hc;have Y:k<bs.length:=by lia
  obtain⟨b,l⟩:∃b,bs[k]?=some b:=⟨_,au Y⟩;refine zrB (k:=k) rfl (zrc l) ?_;wp_walk;refine zrB (k:=k) rfl (zrc l) ?_;exact C b (aA l) (by assumption) (L k b (ar _) l);have hx:¬b.1<=a:=hc;refine hn fun x o ⟨x0,x1⟩=>?_;obtain⟨j,v,rfl⟩:=bp o;have u:=au v;by_cases z:j<k;have:=I j _ z u;lia;by_cases y:j=k;subst y;rw[u]at l;cases l;exact hx x0;obtain⟨S,rfl⟩:=av.mp l;have:=aP.mp P.2 k j S v (by lia);have:=Qa bs[k];exact hx (by lia)
 rw[Jz]at hc;refine hn fun x o ⟨x0,x1⟩=>?_;obtain⟨j,v,rfl⟩:=bp o;have:=I j _ (by lia) (au v);lia
theorem ztS{bits:Int}{bs:qB}(P:Ptc bits bs){p q:Int×Int}{x:Int}(u:p∈bs)(o:q∈bs)(p1:p.1<=x)(p2:x<eB p)(y:q.1<=x)(v:x<eB q):p=q:=by obtain⟨i,hi,rfl⟩:=bp u;obtain⟨j,l,rfl⟩:=bp o;rcases c9 i j with z|z|z;have:=aP.mp P.2 i j hi l z;lia;subst z;rfl;have:=aP.mp P.2 j i l hi z;lia
inductive zb5:List af->Nat->(af->Nat->Prop)->Prop
 | c {bits:Int} {bs:qB} {b:Int×Int} {n:Nat} {R:qN} (b0:0<=bits) (b1:bits<=64) (P:Ptc bits bs) (hl:bs.length<1000000) (B:IsBk bits b.1 b.2) (h:∀p∈bs,p.1<=b.1->eB b<=eB p->R (.tuple [.int p.1,.int p.2]) n) (h':(∀p∈bs,¬(p.1<=b.1/\eB b<=eB p))->R .none n):zb5 [.tuple (pD bs),.tuple [.int b.1,.int b.2]] n R
def zdv(Z:ZZ):Prop:=FQ Z "block_about" (top 13) ["patch","block"] 5 (spD Z.K 2 zb5)
theorem zfB(D:Dq Z.K Z.mg "block_about" (top 13) ["patch","block"]) (L:zei Z) (y:zml Z) (T:Txt Z.mg):zdv Z:=by
 refine' okQ D (fnS (N:=["patch","block","found"]) (by decide +kernel)) rfl fun f x A outer s H E v=>⟨_,(Jb (dsv 2 (ndB rfl) (Jd L v (dbv 0 (dbc (Jn (dlv 1) dli) Ja)))) (Jb (Js (JW (Yt (Jj ZV ZJ (dlv 2) (dl QH) (Jf _)) (YO (JY (dl (Jd y v (dbv 2 (dbv 1 Ja)))))))) (Jc (Je (Jk 2))) Ju) (Jc (Je QH)))),?_⟩;intro ts n R hl Y;obtain @⟨bits,bs,b,n,R,b0,b1,P,hl2,B,h,h'⟩:=Y;have bd:=B.bounds b0;have pe:=Qa b;have I:(2:Int) ^ bits.toNat<=2 ^ 64:=Bd.zgB (by lia);have pb:=Bd.Qc b.2.toNat;have C:b.1<2 ^ 64:=by lia
 have o:∀p∈bs,p.2<=1000:=fun p l=>by have:=(P.1 p l).2.1;lia
 have u:∀p∈bs,0<=p.2:=fun p l=>(P.1 p l).1;wp_walk using zcy.c b1 P hl2 (fun p l S G=>?_) (fun no=>?_),zjm.c (u _ l) (o _ l) bd.1 C ?_;exact absurd hc (by simp[isNone]);rw[zp_ (P.1 p l) B]at hc;have hd:=of_decide_eq_true hc;exact h p l hd.1 hd.2;rw[zp_ (P.1 p l) B]at hc;have hd:=of_decide_eq_false hc;refine h' fun q J z=>?_;have U:q=p:=ztS P J l z.1 (by lia) S G;subst U;exact hd z;exact h' fun p l z=>no p l ⟨z.1,by lia⟩;exact absurd hc (by simp[isNone])
inductive V1:List af->Nat->(af->Nat->Prop)->Prop
 | c {bits:Int} {bs:qB} {b:Int×Int} {n:Nat} {R:qN} (b0:0<=bits) (b1:bits<=64) (P:Ptc bits bs) (hl:bs.length<1000000) (B:IsBk bits b.1 b.2) (h:∀k:Bool,(k=true↔∃p∈bs,p.1<=b.1/\eB b<=eB p)->R (.bool k) n):V1 [.tuple (pD bs),.tuple [.int b.1,.int b.2]] n R
def zeQ(Z:ZZ):Prop:=FQ Z "has_all" (top 14) ["patch","block"] 6 (spD Z.K 2 V1)
theorem zkX(D:Dq Z.K Z.mg "has_all" (top 14) ["patch","block"]) (y:zdv Z) (T:Txt Z.mg):zeQ Z:=by refine' okQ D (fnS (N:=["patch","block"]) (by decide +kernel)) rfl fun f o A outer s H E x=>⟨_,(Jc (Je (Qs ZV ZJ (dl (Jd y x (dbv 0 (dbv 1 Ja)))) (dl QH) (Jf _)))),?_⟩;intro ts n R G C;obtain @⟨bits,bs,b,n,R,b0,b1,P,hl2,B,h⟩:=C;wp_walk using zb5.c b0 b1 P hl2 B (fun p l v u=>?_) (fun no=>?_);exact h _ ⟨fun _=>⟨p,l,v,u⟩,fun _=>rfl⟩;exact h _ ⟨fun z=>(nomatch z),fun⟨p,l,z⟩=>absurd z (no p l)⟩
inductive V4:List af->Nat->(af->Nat->Prop)->Prop
 | c {bits:Int} {bs:qB} {b:Int×Int} {n:Nat} {R:qN} (b0:0<=bits) (b1:bits<=64) (P:Ptc bits bs) (hl:bs.length<1000000) (B:IsBk bits b.1 b.2) (h:∀k:Bool,(k=true↔∀p∈bs,eB p<=b.1\/eB b<=p.1)->R (.bool k) n):V4 [.tuple (pD bs),.tuple [.int b.1,.int b.2]] n R
def zdX(Z:ZZ):Prop:=FQ Z "has_none" (top 15) ["patch","block"] 4 (spD Z.K 2 V4)
theorem zi6(D:Dq Z.K Z.mg "has_none" (top 15) ["patch","block"]) (I:zdY Z) (G:YX Z) (T:Txt Z.mg):zdX Z:=by
 refine' okQ D (fnS (N:=["patch","block","at"]) (by decide +kernel)) rfl fun f C A outer s H E x=>⟨_,(Jb (dsv 2 (ndB rfl) (Jd I x (dbv 0 (dbc (Jn (dlv 1) dli) Ja)))) (Jc (Je (zqi (Qs (UN x) UF (dlv 2) (dl (JA Qq Qm T.len J5 (Ji (dlv 0) Jq Jt))) (Jf _)) (Q1 (Qs Qn Qk (dl (Jd G x (dbv 1 Ja))) (dl (Jn (dl (Jn (dlv 0) (dlv 2))) dli)) (Jf _))))))),?_⟩;intro ts n R U L;obtain @⟨bits,bs,b,n,R,b0,b1,P,hl2,B,h⟩:=L;have h0:=B.1;have h1:b.2<=1000:=by have:=B.2.1;lia
 wp_walk using V3.c b1 P hl2 (fun k S lo up=>?_),UB.c h0 h1 ?_;rw[Jz]at hc;refine h true ⟨fun _ p y=>?_,fun _=>rfl⟩;obtain⟨j,v,e⟩:=bp y;exact .inl (lo j p (by lia) (by rw[au v,e]))
 ·rw[Jz]at hc;have o:k<bs.length:=by lia
  have J:(pD bs)[k]?=some (.tuple [.int bs[k].1,.int bs[k].2]):=by rw[pD,aT,au o];rfl
  refine zue J ?_;wp_walk;refine h _ ?_;rw[decide_eq_true_eq];constructor;intro z p y;obtain⟨j,v,rfl⟩:=bp y;rcases c9 j k with q|q|q;exact .inl (lo j _ q (au v));subst q;exact .inr z;have:=aP.mp P.2 k j o v q;have:=Qa bs[k];exact .inr (by unfold eB at *;lia);intro z;have:=up k bs[k] (ar _) (au o);rcases z bs[k] (eK o) with q|q;lia;exact q
inductive zd8:List af->Nat->(af->Nat->Prop)->Prop
 | c {bits:Int} {ps:qB} {n:Nat} {R:qN} (b0:0<=bits) (b1:bits<=64) (P:Ptc bits ps) (l:ps.length<=10000) (h:∀bs:BL,PInv bits ps bs bs.length->bs.length<=1+130*ps.length->R (.list (pD bs)) n):zd8 [.int bits,.tuple (pD ps)] n R
def zf0(Z:ZZ):Prop:=FQ Z "parts_of" (top 26) ["bits","patch"] 7 (spD Z.K 2 zd8)
theorem zi0(D:Dq Z.K Z.mg "parts_of" (top 26) ["bits","patch"]) (LJ:zeQ Z) (LD:zdX Z) (Lz:VT Z) (T:Txt Z.mg):zf0 Z:=by
 refine' okQ D (fnS (N:=["bits","patch","parts","at","block"]) (by decide +kernel)) rfl fun f cdv A outer s H E G=>⟨_,(Jb (Q4 (i:=2) (ndB rfl) rfl (fk rfl) (J9 (dbc (Jr (dbc Jg (dbv 0 Ja))) Ja))) (Jb (dsv 3 (ndB rfl) Jg) (Jb (zg1 b6 (Jj (Qw G) Qv (dlv 3) (dl (JA Qq Qm T.len J5 (Ji (Uo 2) Jq Jt))) (Jf _)) (Jb (dsv 4 (ndB rfl) (Jn (Uo 2) (dlv 3))) (Jb (Js (JW (Yt (Qt (JY (dl (Jd LJ G (dbv 1 (dbv 4 Ja)))))) (YO (Qt (JY (dl (Jd LD G (dbv 1 (dbv 4 Ja))))))))) (Jc (zlm 2 (Jd Lz G (dbv 4 Ja)))) Ju) (Jc (zu9 (i:=3) (ndB rfl) rfl (fk rfl) Jg zup))))) (Uc 2 (Jc (Je (Jk 2))))))),?_⟩;intro ts n R hl hh;obtain @⟨bits,ps,n,R,b0,b1,P,l,h⟩:=hh;wp_walk;refine zlH (m:=msz ([(0,bits)]:BL)) (fun m S Y=>Y=n/\∃(bs:BL) (k:Nat) (c:Option Cell),S=[some (.val (.int bits)),some (.val (.tuple (pD ps))),some (.own (pD bs)),some (.val (.int (k:Int))),c]/\PInv bits ps bs k/\k<=bs.length/\msz (bs.drop k)<=m) ⟨rfl,[(0,bits)],0,_,rfl,PInv.start b0,by simp,ar _⟩ ?_;rintro m S Y K RT BK ⟨rfl,bs,k,c,rfl,I,kl,hm⟩ hK hRT hBK;have ln:=I.len b1 P.1;wp_walk
 ·rw[Jz]at hc;have J:k<bs.length:=by lia
  have x:bs[k]?=some bs[k]:=au J;generalize bs[k]=b at x;have gb:(pD bs)[k]?=some (.tuple [.int b.1,.int b.2]):=by rw[pD,aT,x];rfl
  have B:=I.bk b (aA x);have L:b.2<=1000:=by have:=B.2.1;lia
  have lp:ps.length<1000000:=by lia
  refine zuf gb ?_;wp_walk using V1.c b0 b1 P lp B (fun al C=>?_);subst hc;refine hK _ _ _ ?_ ⟨rfl,bs,k+1,_,by rw[ny],I.no x (fun z=>z.2 (C.mp rfl)),J,ar _⟩;have:=zp3 x;lia
  ·subst hc;wp_walk using V4.c b0 b1 P lp B (fun no y=>?_);subst hc;refine hK _ _ _ ?_ ⟨rfl,bs,k+1,_,by rw[ny],I.no x (fun z=>z.1 (y.mp rfl)),J,ar _⟩;have:=zp3 x;lia
   ·subst hc;have pr:Prt ps b:=⟨fun z=>absurd (y.mpr z) (by decide),fun z=>absurd (C.mpr z) (by decide)⟩;have U:=pr.pos B;wp_walk using UC.c U L ?_;rw[Jz];show bs.length+2<=_;lia;have ep:pD bs++[fJ [.int b.1,.int (b.2 - 1)],.tuple [.int (cL b.1 (2 ^ (b.2 - 1).toNat)),.int (b.2 - 1)]]=pD (bs++[loH b,upH b]):=by simp[pD,prD]
    refine hK _ _ _ ?_ ⟨rfl,bs++[loH b,upH b],k+1,_,by rw[ny,ep],I.yes b0 x pr,by rw[ba];lia,ar _⟩;have:=zrq x U;lia
 ·rw[Jz]at hc;have e:k=bs.length:=by lia
  subst e;refine hBK _ _ ?_;wp_walk;exact h bs I ln
inductive We:List af->Nat->(af->Nat->Prop)->Prop
 | c {bits:Int} {ps:qB} {qs:PR} {b:Int×Int} {n:Nat} {R:qN} (b0:0<=bits) (b1:bits<=64) (P:Ptc bits ps) (hl:ps.length<1000000) (B:IsBk bits b.1 b.2) (h:∀no al:Bool,(no=true↔HasN ps b)->(al=true↔HasA ps b)->R (optD (bpD no al qs b)) n):We [.tuple (pD ps),.dict (Jm (prK qs)),.tuple [.int b.1,.int b.2]] n R
def zdb(Z:ZZ):Prop:=FQ Z "best_pair" (top 27) ["patch","pairs","block"] 7 (spD Z.K 3 We)
theorem zhR(D:Dq Z.K Z.mg "best_pair" (top 27) ["patch","pairs","block"]) (LD:zdX Z) (U:zeQ Z) (Y:VT Z) (T:Txt Z.mg):zdb Z:=by
 refine' okQ D (fnS (N:=["patch","pairs","block","lower","upper","zeros","ones"]) (by decide +kernel)) rfl fun f S A outer s H E o=>⟨_,(Jb (Js (JY (dl (Jd LD o (dbv 0 (dbv 2 Ja))))) (Jc (Je (Jr (dbc Jg (dbc Jg Ja))))) Ju) (Jb (Js (JY (dl (Jd U o (dbv 0 (dbv 2 Ja))))) (Jc (Je (Jr (dbc Jg (dbc Jg Ja))))) Ju) (Jb (QO (Jd Y o (dbv 2 Ja)) (JT rfl (Jo (dgv 3 (ndB rfl)) (Jo (dgv 4 (ndB rfl)) JQ)))) (Jb (Js (JW (J3 (Jj (ziW (JH o)) Zn (dlv 3) (dlv 1) rfl) (Qu (Jj (ziW (JH o)) Zn (dlv 4) (dlv 1) rfl)))) (Jc (Je QH)) Ju) (Jb (dsv 5 (ndB rfl) (JS (dl (Jn (dl (J8 (JH o) (dlv 1) (dlv 3))) dli)) (dl (Jn (dl (J8 (JH o) (dlv 1) (dlv 4))) dli)))) (Jb (dsv 6 (ndB rfl) (JS (dl (Jn (dl (J8 (JH o) (dlv 1) (dlv 3))) dli)) (dl (Jn (dl (J8 (JH o) (dlv 1) (dlv 4))) dli)))) (Jc (Je (Jr (dbc (JA (Vg rfl) Zo T.min Ve (Ji (dlv 5) (Ji (dl (JS (dlv 6) dli)) Jq Zt) Jt)) (dbc (JA (Vg rfl) Zo T.min Ve (Ji (dlv 6) (Ji (dl (JS (dlv 5) dli)) Jq Zt) Jt)) Ja))))))))))),?_⟩;intro ts n R hl hh;obtain @⟨bits,ps,qs,b,n,R,b0,b1,P,hl2,B,h⟩:=hh;have h1:b.2<=1000:=by have:=B.2.1;lia
 wp_walk using V4.c b0 b1 P hl2 B (fun no v=>?_);subst hc
 classical
 exact h true (decide (HasA ps b)) v (by rw[decide_eq_true_eq])
 ·subst hc;wp_walk using V1.c b0 b1 P hl2 B (fun al C=>?_);subst hc;exact h false true v C
  ·subst hc;have L:1<=b.2:=by
    have h0:=B.1;rcases fj 0 b.2 with z|z;lia;rcases zgP (ps:=ps) (b:=b) (by lia) with q|q;exact absurd (v.mpr q) (by decide);exact absurd (C.mpr q) (by decide)
   have key:=h false false v C;cases e1:valP qs (loH b) with
   | none =>
    have J:valT (prK qs) (loH b)=none:=by rw[Qe,e1];rfl
    have G:bpD false false qs b=none:=by simp[bpD,e1]
    rw[G]at key;wp_walk using UC.c L h1 ?_,QD (k:=loH b) ?_;exact key;rw[J]at hc;cases hc
   | some x =>
    have J:valT (prK qs) (loH b)=some (.tuple [.int x.1,.int x.2]):=by rw[Qe,e1];rfl
    cases e2:valP qs (upH b) with
    | none =>
     have I:valT (prK qs) (upH b)=none:=by rw[Qe,e2];rfl
     have G:bpD false false qs b=none:=by simp[bpD,e1,e2]
     rw[G]at key;wp_walk using UC.c L h1 ?_,QD (k:=loH b) ?_,QD (k:=upH b) ?_;exact key;exact key;rw[I]at hc;cases hc
    | some y =>
     have I:valT (prK qs) (upH b)=some (.tuple [.int y.1,.int y.2]):=by rw[Qe,e2];rfl
     have G:bpD false false qs b=some (if x.2+y.2+1<x.1+y.1 then x.2+y.2+1 else x.1+y.1,if x.1+y.1+1<x.2+y.2 then x.1+y.1+1 else x.2+y.2):=by simp only[bpD,e1,e2];rfl
     rw[G]at key;wp_walk using UC.c L h1 ?_,QD (k:=loH b) ?_,QD (k:=upH b) ?_,Qf J ?_,Qf I ?_;rw[J]at hc;cases hc;rw[I]at hc;cases hc;exact key
inductive Vm:List af->Nat->(af->Nat->Prop)->Prop
 | c {bits:Int} {bs:BL} {n:Nat} {R:qN} (b0:0<=bits) (b1:bits<=64) (B:Bks bits bs) (l:SrtL rkB bs) (l2:bs.length<=10000) (h:∀(ps:BL) (qs:PR),CanP (fun x=>mB x bs) ps->PrOk bits ps qs->R (.dict (Jm (prK qs))) n):Vm [.int bits,.tuple (pD bs)] n R
def V8(Z:ZZ):Prop:=FQ Z "pairs_of" (top 25) ["bits","patch"] 8 (spD Z.K 2 Vm)
theorem zi1(D:Dq Z.K Z.mg "pairs_of" (top 25) ["bits","patch"]) (Lq:ZY Z) (L7:zf0 Z) (Lv:zdb Z) (T:Txt Z.mg):V8 Z:=by
 refine' okQ D (fnS (N:=["bits","patch","wanted","pairs","block"]) (by decide +kernel)) rfl fun f cdv A outer s H E y=>⟨_,(Jb (dsv 2 (ndB rfl) (Jd Lq y (dbv 1 Ja))) (Jb (zno (i:=3) (ndB rfl) rfl (fk rfl)) (Jb (QJ b6 rfl (zqf T.rev (Jd L7 y (dbv 0 (dbv 2 Ja)))) (dgv 4 (ndB rfl)) (Jc (zjo 3 (JH y) (Jk 4) (zqk Lv y (Ji (dlv 2) (Ji (zjp 3) (Ji (dlv 4) Jq Jt) Jt) Jt))))) (Jc (zr4 3))))),?_⟩;intro ts n R hl hh;obtain @⟨bits,bs,n,R,b0,b1,B,l,l2,h⟩:=hh;wp_walk using UZ.c (.inr rfl) b0 b1 B l (fun ps C lp=>?_);have P:Ptc bits ps:=C.ptc b0 fun x hx=>QZ b0 B hx;have l3:ps.length<=10000:=by lia
 wp_walk using zd8.c b0 b1 P l3 (fun o I lw=>?_);have er:(pD o).reverse=pD o.reverse:=by simp[pD]
 rw[er];refine Q9 (fun k U L=>L=n/\∃qs:PR,∃G,U=[some (.val (.int bits)),some (.val (.tuple (pD bs))),some (.val (.tuple (pD ps))),some (.dtt (prK qs)),G]/\PrsI bits ps o k qs) ⟨rfl,[],_,rfl,PrsI.start⟩ ?_ ?_
 ·rintro k t U L K et ⟨rfl,qs,G,rfl,J⟩ hK;obtain⟨i,h,Y,rfl⟩:=UP et;have Bb:=I.bk _ (hW.mp (aA Y));have S:ps.length<1000000:=by lia
  have lq:qs.length<=o.length:=by have:=congrArg c8 J.keys;simp at this;lia
  wp_walk using We.c (b:=(i,h)) b0 b1 P S Bb (fun no al hn ha=>?_);obtain⟨v,e,fr,J2⟩:=J.step I Y hn ha;rw[e];rfl;rw[prK,aG];lia;obtain⟨v,e,fr,J2⟩:=J.step I Y hn ha;rw[e,show optD (some v)=twoD v from rfl,zmm fr];exact hK _ _ ⟨rfl,_,_,rfl,J2⟩
 ·rintro U L ⟨rfl,qs,G,rfl,J⟩;rw[Jz,ff]at J;wp_walk;exact h ps qs C ⟨o,I,J⟩
inductive Y4:List af->Nat->(af->Nat->Prop)->Prop
 | c {qs:PR} {b:Int×Int} {n:Nat} {R:qN} (h0:0<=b.2) (h1:b.2<=1000) (hn:b.2=0\/valP qs (loH b)=none->R (.tuple []) n) (hs:1<=b.2->∀v,valP qs (loH b)=some v->R (.tuple [.tuple [.int (loH b).1,.int (loH b).2],.tuple [.int (upH b).1,.int (upH b).2]]) n):Y4 [.dict (Jm (prK qs)),.tuple [.int b.1,.int b.2]] n R
def zbr(Z:ZZ):Prop:=FQ Z "parted_halves" (top 29) ["pairs","block"] 3 (spD Z.K 2 Y4)
theorem zeq(D:Dq Z.K Z.mg "parted_halves" (top 29) ["pairs","block"]) (G:VT Z) (T:Txt Z.mg):zbr Z:=by
 refine' okQ D (fnS (N:=["pairs","block","lower","upper"]) (by decide +kernel)) rfl fun f C A outer s H E o=>⟨_,(Jb (Js (Jj (UN o) UF (dl (Jn (dlv 1) dli)) dli (Jf _)) (Jc (Je (Jr Ja))) Ju) (Jb (QO (Jd G o (dbv 1 Ja)) (JT rfl (Jo (dgv 2 (ndB rfl)) (Jo (dgv 3 (ndB rfl)) JQ)))) (Jc (Je (zg5 (Jj (zpZ (JH o)) Zn (dlv 2) (dlv 0) rfl) (Jr (dbv 2 (dbv 3 Ja))) (Jr Ja)))))),?_⟩;intro ts n R J I;obtain @⟨qs,b,n,R,h0,h1,hn,hs⟩:=I;by_cases z:b.2=0
 ·have k:=hn (.inl z);wp_walk;exact k;exact absurd hc (by simp[z])
 ·have y:1<=b.2:=by lia
  cases e1:valP qs (loH b) with
  | none =>
   have v:valT (prK qs) (loH b)=none:=by rw[Qe,e1];rfl
   have k:=hn (.inr e1);wp_walk using UC.c y h1 ?_,QD (k:=loH b) ?_;exact absurd (by simpa using hc) z;rw[v]at hc;cases hc;exact k
  | some x =>
   have v:valT (prK qs) (loH b)=some (.tuple [.int x.1,.int x.2]):=by rw[Qe,e1];rfl
   have k:=hs y x e1;wp_walk using UC.c y h1 ?_,QD (k:=loH b) ?_;exact absurd (by simpa using hc) z;exact k;rw[v]at hc;cases hc
inductive Wf:List af->Nat->(af->Nat->Prop)->Prop
 | c {bits:Int} {ps:BL} {qs:PR} {b v:Int×Int} {a:Int} {n:Nat} {R:qN} (b1:bits<=64) (Q:PrOk bits ps qs) (m:(b,v)∈qs) (ha:a=0\/a=1) (hn:¬Prt ps b->R (.int (if v.1=0 then 0 else 1)) n) (hp:Prt ps b->∀x y,valP qs (loH b)=some x->valP qs (upH b)=some y->R (.int (sgn a x y)) n):Wf [.dict (Jm (prK qs)),.tuple [.int b.1,.int b.2],.int a] n R
def zeR(Z:ZZ):Prop:=FQ Z "best_sign" (top 28) ["pairs","block","ahead"] 4 (spD Z.K 3 Wf)
theorem zhQ(D:Dq Z.K Z.mg "best_sign" (top 28) ["pairs","block","ahead"]) (Lm:zbr Z) (T:Txt Z.mg):zeR Z:=by
 refine' okQ D (fnS (N:=["pairs","block","ahead","within","costs"]) (by decide +kernel)) rfl fun f cdv A outer s H E S=>⟨_,(Jb (dsv 3 (ndB rfl) (Jd Lm S (dbv 0 (dbv 1 Ja)))) (Jb (Js (Qt (JY (dlv 3))) (Jc (Je (znD (J8 (JH S) (dlv 0) (dlv 1)) Jg))) Ju) (Jb (znp (zkl (i:=4) (ndB rfl) rfl (fk rfl) (own:=["sign"]) (capt:=[3,0]) rfl (Jx.of rfl) (dil (QI (Jr (dbc Jg (dbc Jg Ja))))) (fun _ _ _ _=>(dgv 0 (ndB rfl))) (by decide) (fun _ _ _ _=>Q8) (fun _ _ _ _=>(JA (znU rfl) zuR T.sum znZ (Ji (dl (JL (dnc ["half"] [0,2] (dil (QI (Jk 1))) (fun _ _ _ _=>(dgv 0 (ndB rfl))) (fun _ _ _ _=>(Jn (dl (J8 (JH S) (dlv 2) (dlv 0))) (dlv 1)))))) Jq Ut))))) (Jc (Je (zg5 (Jj Qn Qk (dl (Jn (dlv 4) (dlv 2))) (dl (JS (dl (Jn (dlv 4) (dl (Qj dli (dlv 2))))) dli)) (Jf _)) (Jk 2) (Qj dli (dlv 2)))))))),?_⟩;intro ts n R hl hh;obtain @⟨bits,ps,qs,b,v,a,n,R,b1,Q,m,ha,hn,hp⟩:=hh;have B:=Q.bk _ m;have h0:0<=b.2:=B.1;have h1:b.2<=1000:=by have:=B.2.1;dsimp only at this;lia
 have vt:valT (prK qs) b=some (.tuple [.int v.1,.int v.2]):=by rw[Qe,ziL Q.nd m];rfl
 by_cases p:Prt ps b
 ·obtain⟨x,y,J,e2,_⟩:=Q.kids m p;have k:=hp p x y J e2;have v1:valT (prK qs) (loH b)=some (.tuple [.int x.1,.int x.2]):=by rw[Qe,J];rfl
  have v2:valT (prK qs) (upH b)=some (.tuple [.int y.1,.int y.2]):=by rw[Qe,e2];rfl
  have gp:=p.pos B;wp_walk using Y4.c h0 h1 (fun z=>?_) (fun U w I=>?_);exfalso;rcases z with z|z;lia;rw[J]at z;cases z;exfalso;rcases z with z|z;lia;rw[J]at z;cases z;cases hc
  ·refine UU (cs:=([0,1]:List Int)) (D:=bS) (fun s=>.int (if s=0 then x.1+y.1 else x.2+y.2)) (by decide) ?_ ?_
   ·intro s Y K2 X2 L;have ne:upH b≠loH b:=fun z=>by
     rw[up_eq B gp]at z;have e:=congrArg nt z;have:=Qc (b.2 - 1).toNat;dsimp only at e;lia
    wp_walk;refine UU (cs:=[loH b,upH b]) (D:=prD) (fun c=>.int (if c=loH b then(if s=0 then x.1 else x.2) else(if s=0 then y.1 else y.2))) (show 2<=16777216 by decide) ?_ ?_
    ·intro c hc K3 X3 C;have G:s=0\/s=1:=by simpa using Y
     rcases ay.mp hc with rfl|hc
     ·rw[if_pos rfl]at C;rcases G with rfl|rfl
      ·wp_walk using Qf v1 ?_;exact C
      ·wp_walk using Qf v1 ?_;exact C
     ·rw[aC]at hc;subst hc;rw[if_neg ne]at C;rcases G with rfl|rfl
      ·wp_walk using Qf v2 ?_;exact C
      ·wp_walk using Qf v2 ?_;exact C
    ·have G:s=0\/s=1:=by simpa using Y
     have em:[loH b,upH b].map (fun c=>bS (if c=loH b then(if s=0 then x.1 else x.2) else(if s=0 then y.1 else y.2)))=[if s=0 then x.1 else x.2,if s=0 then y.1 else y.2].map bS:=by rw[aN,aN,dY,if_pos rfl,if_neg ne];rfl
     rw[em];wp_walk;refine⟨_,rfl,?_⟩;have es:[if s=0 then x.1 else x.2,if s=0 then y.1 else y.2].sum=if s=0 then x.1+y.1 else x.2+y.2:=by rcases G with rfl|rfl;simp;simp
     rw[es];exact L
   ·rw[show([0,1]:List Int).map (fun s=>bS (if s=0 then x.1+y.1 else x.2+y.2))=[.int (x.1+y.1),.int (x.2+y.2)] from rfl];unfold sgn at k;rcases ha with rfl|rfl
    ·wp_walk;rw[show(1:Int) - 0=1 from rfl];wp_walk;rw[if_pos rfl,if_pos hc]at k;exact k;rw[if_pos rfl,if_neg hc]at k;exact k
    ·wp_walk;rw[show(1:Int) - 1=0 from rfl];wp_walk;rw[if_neg (by decide),if_pos hc]at k;exact k;rw[if_neg (by decide),if_neg hc]at k;exact k
 ·have k:=hn p;have vz:v.1=0\/v.2=0:=by rcases Q.leaf m p with⟨_,e⟩|⟨_,_,e⟩ <;> simp[e]
  wp_walk using Y4.c h0 h1 (fun z=>?_) (fun U w I=>?_)
  ·refine Qf vt ?_;refine⟨v.1,v.2,rfl,?_⟩;wp_walk;rfl;exact vz;exact k
  cases hc;exfalso;rw[Q.nokid m p U]at I;cases I;exfalso;rw[Q.nokid m p U]at I;cases I
theorem zu2{g:DTG}{l:DTS}{D:JF}{t:af}{ts:qD}{u:En}{n:Nat}(h:g t u fun o=>l { D with nx:=forP g l D ts,ct:=forP g l D ts,bk:=D.nx } o n):forP g l D (t::ts) u n:=h
theorem zu1{g:DTG}{o:DTS}{D:JF}{l:En}{n:Nat}(h:D.nx l n):forP g o D [] l n:=h
theorem zjF{ks:KT2}{k b:Int×Int}{t:af}:valT (putT ks k t) b=if b=k then some t else valT ks b:=by
 have mp:∀ks:KT2,valT (ks.map fun z=>if z.1=k then(z.1,t) else z) b=if b=k then(valT ks b).map (fun _=>t) else valT ks b:=by
  intro ks;induction ks with
  | nil=>unfold valT;split <;> rfl
  | cons q ks o =>
   unfold valT at o ⊢;rw[aN,cD,cD];by_cases e:q.1=b;by_cases z:b=k;simp[e,z];have:¬q.1=k:=fun y=>z (e.symm.trans y);simp[e,z];have u:¬(if q.1=k then(q.1,t) else q).1=b:=by split <;> exact e
   simp only[e,u,decide_false];exact o
 unfold putT;split;rename_i h;rw[mp];by_cases z:b=k;subst z;rw[if_pos rfl,if_pos rfl];obtain⟨q,l,e⟩:=hV.mp h;unfold valT;cases f:ks.find? fun z=>decide (z.1=b) with
 | none=>exact absurd e (by simpa using gy.mp f q l)
 | some y=>rfl
 rw[if_neg z,if_neg z];rename_i h;have v:∀q∈ks,¬q.1=k:=fun q l e=>h (hV.mpr ⟨q,l,decide_eq_true e⟩);unfold valT;rw[rA];by_cases z:b=k;subst z;rw[if_pos rfl,gy.mpr fun q l=>by simpa using v q l];simp;rw[if_neg z];simp[dD z]
theorem zmn{ks:KT2}{k:Int×Int}{t:af}:(putT ks k t).length<=ks.length+1:=by unfold putT;split;rw[aG];lia;rw[ba];simp
inductive zbJ:List af->Nat->(af->Nat->Prop)->Prop
 | c {bits:Int} {bs:BL} {n:Nat} {R:qN} (b0:0<=bits) (b1:bits<=64) (B:Bks bits bs) (l:SrtL rkB bs) (l2:bs.length<=10000) (mm:∀ps,CanP (fun x=>mB x bs) ps->zaX bits ps<64) (h:∀(ps:BL) (rs:RL),CanP (fun x=>mB x bs) ps->Rls bits rs->(rs.length:Int)=zaX bits ps->(∀x,0<=x->x<2 ^ bits.toNat->(SgX rs x 1↔mB x bs))->R (.tuple (L2.rD rs)) n):zbJ [.int bits,.tuple (pD bs)] n R
def Rch(bits:Int)(ps l:BL)(k:Nat)(b:Int×Int):Prop:=b=(0,bits)\/∃(j:Nat) (p:Int×Int),j<k/\l[j]?=some p/\Prt ps p/\(b=loH p\/b=upH p)
theorem zoP{bits:Int}{ps u:BL}(I:PInv bits ps u u.length){k:Nat}{b:Int×Int}(o:u[k]?=some b):Rch bits ps u k b:=by rcases I.par b (aA o) with z|⟨j,p,G,C,pp,z⟩;exact .inl z;refine .inr ⟨j,p,?_,C,pp,z⟩;obtain⟨⟨N,h1,v⟩,⟨J,L,x⟩⟩:=I.kid j p G C pp;have y:=(av.mp o).1;rcases z with z|z;rw[<- z]at v;have:=(gT y I.nd).mp (o.trans v.symm);lia;rw[<- z]at x;have:=(gT y I.nd).mp (o.trans x.symm);lia
theorem zqN{rs:RL}{r:(Int×Int)×Int}:L2.rD rs++[.tuple [.tuple [.int r.1.1,.int r.1.2],.int r.2]]=L2.rD (rs++[r]):=by simp[L2.rD]
theorem zjH{bits:Int}{ps o:BL}{k:Nat}{b:Int×Int}(u:o[k]?=some b):(o.take (k+1)).filterMap (frB bits ps)=(o.take k).filterMap (frB bits ps)++(if sF bits ps b=aF bits ps b then[] else[(b,sF bits ps b)]):=by rw[fV,u,List.filterMap_append];congr 1;show[b].filterMap (frB bits ps)=_;unfold frB;rw[cV];split;rename_i e;split at e;rename_i z;rw[if_pos z];rfl;cases e;rename_i r e;split at e;cases e;rename_i z;cases e;rw[if_neg z];rfl
def zc3(Z:ZZ):Prop:=FQ Z "fewest_rules" (top 23) ["bits","patch"] 9 (spD Z.K 2 zbJ)
theorem ze7(D:Dq Z.K Z.mg "fewest_rules" (top 23) ["bits","patch"]) (Lo:V8 Z) (L0:zeR Z) (Lm:zbr Z) (T:Txt Z.mg):zc3 Z:=by
 refine' okQ D (fnS (N:=["bits","patch","pairs","ahead","rules","block","sign","half"]) (by decide +kernel)) rfl fun f cdv A outer s H E G=>⟨_,(Jb (dsv 2 (ndB rfl) (Jd Lo G (dbv 0 (dbv 1 Ja)))) (Jb (zpu (i:=3) (JH G) (ndB rfl) rfl (fk rfl) (Jr (dbc Jg (dbv 0 Ja))) Jg) (Jb (Q4 (i:=4) (ndB rfl) rfl (fk rfl) (J9 Ja)) (Jb (QJ b6 rfl (zqf T.rev (JL (zpx rfl T.lst (Jk 2)))) (dgv 5 (ndB rfl)) (Jb (dsv 6 (ndB rfl) (Jd L0 G (dbv 2 (dbv 5 (dbc (J8 (JH G) (zjp 3) (dlv 5)) Ja))))) (Jb (Js (Jj (QX G) QV (dlv 6) (dl (J8 (JH G) (zjp 3) (dlv 5))) (Jf _)) (Jc (QC 4 (Jr (dbv 5 (dbv 6 Ja))))) Ju) (Jc (QJ b6 rfl (QI (Jd Lm G (dbv 2 (dbv 5 Ja)))) (dgv 7 (ndB rfl)) (Jc (zjo 3 (JH G) (Jk 7) (Jk 6)))))))) (Uc 4 (Jc (Je (UE U3 U0 T.tup QA (Ji (dl (JL (zln G T.srt (dlv 4) Jt))) Jq UT))))))))),?_⟩;intro ts n R hl hh;obtain @⟨bits,bs,n,R,b0,b1,B,l,l2,mm,h⟩:=hh;have w:∀x,mB x bs->0<=x/\x<2 ^ bits.toNat:=fun x hx=>QZ b0 B hx;wp_walk using Vm.c b0 b1 B l l2 (fun ps qs C Q=>?_);have P:Ptc bits ps:=C.ptc b0 w;have lp:=C.le b0 B;obtain⟨J,I,ek⟩:=Q.mem;have lw:=I.len b1 P.1;refine⟨prK qs,rfl,?_⟩;have et:((prK qs).map fun q=>L2.blkT q.1).reverse=pD J:=by
  have Y:(prK qs).map (fun q=>L2.blkT q.1)=(qs.map (·.1)).map L2.blkT:=by simp[prK,gP]
  rw[Y,ek,<- List.map_reverse,List.reverse_reverse];rfl
 show forP _ _ _ ((prK qs).map fun q=>L2.blkT q.1).reverse _ _;rw[et];refine Q9 (fun k ρ m'=>m'=n/\∃ks:KT2,∃c5 c6 c7,ρ=[some (.val (.int bits)),some (.val (.tuple (pD bs))),some (.val (.dict (Jm (prK qs)))),some (.dtt ks),some (.own (L2.rD ((J.take k).filterMap (frB bits ps)))),c5,c6,c7]/\ks.length<=2*k+1/\∀b∈J,Rch bits ps J k b->valT ks b=some (.int (aF bits ps b))) ⟨rfl,_,_,_,_,rfl,ar _,fun b hb z=>?_⟩ ?_ ?_;rcases z with rfl|⟨j,p,hj,_⟩;rw[zn6];simp[valT];lia
 ·rintro k t ρ m' K et ⟨rfl,ks,c5,c6,c7,rfl,lk,va⟩ hK;obtain⟨i,g,L,rfl⟩:=UP et;obtain⟨b,S⟩:∃b:Int×Int,b=(i,g):=⟨_,rfl⟩;have ei:i=b.1:=by rw[S]
  have eg:g=b.2:=by rw[S]
  rw[<- S]at L;subst ei eg;have mb:=aA L;have Bb:=I.bk b mb;have vb:=va b mb (zoP I L);have kl:=(av.mp L).1;have h0:0<=b.2:=Bb.1;have h1:b.2<=1000:=by have:=Bb.2.1;lia
  obtain⟨v,mv⟩:∃v,(b,v)∈qs:=by
   have:b∈qs.map (·.1):=by rw[ek];exact hW.mpr mb
   obtain⟨q,hq,e⟩:=bc.mp this;exact⟨q.2,by rw[<- e];exact hq⟩
  have a01:=zvl (bits:=bits) (ps:=ps) (b:=b);have cb:∀{R':qN} {n':Nat},R' (.int (sF bits ps b)) n'->Wf [.dict (Jm (prK qs)),.tuple [.int b.1,.int b.2],.int (aF bits ps b)] n' R':=fun G=>by
   refine Wf.c b1 Q mv a01 (fun np=>?_) (fun p x y Y e2=>?_);have:(if v.1=0 then(0:Int) else 1)=sF bits ps b:=by unfold sF sB;rw[if_neg np];rcases Q.leaf mv np with⟨hN,e⟩|⟨hN,_,e⟩;rw[e,if_pos hN];rfl;rw[e,if_neg hN];rfl
   rw[this];exact G;have:sgn (aF bits ps b) x y=sF bits ps b:=by unfold sF sB;rw[if_pos p];have ex:=Q.val (b.2 - 1).toNat _ (UA Y) rfl;have ey:=Q.val (b.2 - 1).toNat _ (UA e2) rfl;dsimp only at ex ey;rw[<- ex,<- ey]
   rw[this];exact G
  have lr:((J.take k).filterMap (frB bits ps)).length<=J.length:=b7 (List.length_filterMap_le ..) (by rw[fU];lia);have tail:∀(D':JF) (cl:qD),D'.nx=K->cl=L2.rD ((J.take (k+1)).filterMap (frB bits ps))->Y4 [.dict (Jm (prK qs)),.tuple [.int b.1,.int b.2]] m' fun t n'=>lTup t fun ts=>forP (JX 7) (Vx 3 (dVar 7) (dVar 6)) D' ts [some (.val (.int bits)),some (.val (.tuple (pD bs))),some (.val (.dict (Jm (prK qs)))),some (.dtt ks),some (.own cl),some (.val (.tuple [.int b.1,.int b.2])),some (.val (.int (sF bits ps b))),c7] n':=fun D' cl hD hcl=>by
   subst hcl;refine Y4.c h0 h1 (fun z=>?_) (fun g0 w' ew=>?_);show D'.nx _ _;rw[hD];refine hK _ _ ⟨rfl,ks,_,_,_,rfl,by lia,fun c hc G=>va c hc ?_⟩;rcases G with G|⟨j,p,hj,U,pp,y⟩;exact .inl G;rcases gA (rJ hj) with q|q;exact .inr ⟨j,p,q,U,pp,y⟩;exfalso;rw[q,L]at U;cases U;obtain⟨x',y',Y,_⟩:=Q.kids mv pp;have:=pp.pos Bb;rcases z with z|z;lia;rw[Y]at z;cases z
   ·have l1:=zmn (ks:=ks) (k:=((loH b).1,(loH b).2)) (t:=.int (sF bits ps b));have l2':=zmn (ks:=putT ks ((loH b).1,(loH b).2) (.int (sF bits ps b))) (k:=((upH b).1,(upH b).2)) (t:=.int (sF bits ps b));wp_walk using zu2 ?_,zu1 ?_;lia;lia;rw[hD];refine hK _ _ ⟨rfl,_,_,_,_,rfl,by lia,fun c hc G=>?_⟩;rw[zjF,zjF];by_cases z1:c=((upH b).1,(upH b).2);rw[if_pos z1,VB Bb g0 (.inr z1)];by_cases z2:c=((loH b).1,(loH b).2);rw[if_neg z1,if_pos z2,VB Bb g0 (.inl z2)];rw[if_neg z1,if_neg z2];refine va c hc ?_;rcases G with G|⟨j,p,hj,U,pp,y⟩;exact .inl G;rcases gA (rJ hj) with q|q;exact .inr ⟨j,p,q,U,pp,y⟩;exfalso;rw[q,L]at U;cases U;rcases y with y|y;exact z2 y;exact z1 y
  wp_walk using Qf (k:=b) vb ?_,cb ?_;refine tail _ _ rfl ?_;rw[zjH L,if_pos hc,cg];have lz:(L2.rD ((J.take k).filterMap (frB bits ps))).length=((J.take k).filterMap (frB bits ps)).length:=by simp[L2.rD]
  rw[lz];refine gm lr ?_;have h3:130*c8 ps<=130*10000:=oY _ (b7 lp l2);exact gm lw (gm (Nat.add_le_add_left h3 1) (by decide));refine tail _ _ rfl ?_;rw[zjH L,if_neg hc,<- zqN]
 ·rintro ρ m' ⟨rfl,ks,c5,c6,c7,rfl,lk,va⟩;rw[Jz,dQ];obtain⟨f1,f2,f3⟩:=zio b0 C w I (rs:=J.filterMap (frB bits ps)) .rfl;have ml:=zmR b0 C w P (C.mem);have mm':=mm ps C;wp_walk;refine⟨_,rfl,by lia,f1.ok b1,fun rs' pm pw=>?_⟩;wp_walk;obtain⟨g1,g2,g3⟩:=zio b0 C w I pm;exact h ps rs' C (f1.sort b1 pm pw) g2 g3
inductive zcx:List af->Nat->(af->Nat->Prop)->Prop
 | c {bits:Int} {bs:BL} {n:Nat} {R:qN} (b0:0<=bits) (b1:bits<=64) (B:Bks bits bs) (l:SrtL rkB bs) (l2:bs.length<=10000) (h:∀ps:BL,CanP (fun x=>mB x bs) ps->R (.int (zaX bits ps)) n):zcx [.int bits,.tuple (pD bs)] n R
def zeg(Z:ZZ):Prop:=FQ Z "many_rules" (top 24) ["bits","patch"] 9 (spD Z.K 2 zcx)
theorem zgI(D:Dq Z.K Z.mg "many_rules" (top 24) ["bits","patch"]) (G:V8 Z) (T:Txt Z.mg):zeg Z:=by
 refine' okQ D (fnS (N:=["bits","patch"]) (by decide +kernel)) rfl fun f x A outer s H E o=>⟨_,(Jc (Je (Jn (dl (J8 (JH o) (dl (Jd G o (dbv 0 (dbv 1 Ja)))) (dl (Jr (dbc Jg (dbv 0 Ja)))))) dli))),?_⟩;intro ts n R J I;obtain @⟨bits,bs,n,R,b0,b1,B,l,l2,h⟩:=I;wp_walk using Vm.c b0 b1 B l l2 (fun ps qs C Q=>?_);obtain⟨v,ev⟩:=Q.root;have y:valT (prK qs) (0,bits)=some (.tuple [.int v.1,.int v.2]):=by rw[Qe,ev];rfl
 refine Qf (k:=(0,bits)) y ?_;wp_walk;rw[Q.many ev];exact h ps C
def rwD(q:(Int×Int)×(Int×Int)):af:=.tuple [.tuple [.int q.1.1,.int q.1.2],.int q.2.1,.int q.2.2]
inductive zb3:List af->Nat->(af->Nat->Prop)->Prop
 | c {bits:Int} {bs:BL} {n:Nat} {R:qN} (b0:0<=bits) (b1:bits<=64) (B:Bks bits bs) (l:SrtL rkB bs) (l2:bs.length<=10000) (h:∀(ps:BL) (qs:PR),CanP (fun x=>mB x bs) ps->ps.length<=bs.length->PrOk bits ps qs->qs.length<=1+130*bs.length->R (.tuple (qs.map rwD)) n):zb3 [.int bits,.tuple (pD bs)] n R
def zdt(Z:ZZ):Prop:=FQ Z "rules_paper" (top 31) ["bits","patch"] 9 (spD Z.K 2 zb3)
theorem zfA(D:Dq Z.K Z.mg "rules_paper" (top 31) ["bits","patch"]) (J:V8 Z) (T:Txt Z.mg):zdt Z:=by
 refine' okQ D (fnS (N:=["bits","patch","pairs"]) (by decide +kernel)) rfl fun f y A outer s H E v=>⟨_,(Jb (dsv 2 (ndB rfl) (Jd J v (dbv 0 (dbv 1 Ja)))) (Jc (Je (UE U3 U0 T.tup QA (Ji (dl (JL (dnc ["block"] [2] (dil (znv (Jk 2))) (fun _ _ _ _=>(dgv 0 (ndB rfl))) (fun _ _ _ _=>(Jr (dbv 0 (dbc (Jn (dl (J8 (JH v) (dlv 1) (dlv 0))) dli) (dbc (Jn (dl (J8 (JH v) (dlv 1) (dlv 0))) dli) Ja)))))))) Jq Ut))))),?_⟩;intro ts n R hl L;obtain @⟨bits,bs,n,R,b0,b1,B,l,l2,h⟩:=L;wp_walk using Vm.c b0 b1 B l l2 (fun ps qs C Q=>?_);have S:=C.le b0 B;have P:Ptc bits ps:=C.ptc b0 fun x hx=>QZ b0 B hx;have U:=(Q.len b1 P.1).2;refine⟨prK qs,rfl,?_⟩;have e:(prK qs).map (fun q=>L2.blkT q.1)=qs.map fun q=>L2.blkT q.1:=by simp[prK]
 rw[e];refine UU (cs:=qs) rwD (by lia) ?_ ?_
 ·intro q G Y X2 o;have ev:=ziL Q.nd G;have I:valT (prK qs) q.1=some (.tuple [.int q.2.1,.int q.2.2]):=by rw[Qe,ev];rfl
  rw[L2.blkT];wp_walk using Qf I ?_;exact o
 ·wp_walk;exact h ps qs C S Q (by lia)
inductive zd_:List af->Nat->(af->Nat->Prop)->Prop
 | c {bits:Int} {ps:qB} {qs:PR} {b q:Int×Int} {n:Nat} {R:qN} (b0:0<=bits) (b1:bits<=64) (P:Ptc bits ps) (hl:ps.length<1000000) (B:IsBk bits b.1 b.2) (hq:valP qs b=some q) (h:∀no al:Bool,(no=true↔HasN ps b)->(al=true↔HasA ps b)->R (.bool (rgtD (bpD no al qs b) q)) n):zd_ [.tuple (pD ps),.dict (Jm (prK qs)),.tuple [.int b.1,.int b.2]] n R
def zf1(Z:ZZ):Prop:=FQ Z "is_right" (top 35) ["patch","pairs","block"] 8 (spD Z.K 3 zd_)
theorem zi3(D:Dq Z.K Z.mg "is_right" (top 35) ["patch","pairs","block"]) (I:zdb Z) (T:Txt Z.mg):zf1 Z:=by
 refine' okQ D (fnS (N:=["patch","pairs","block","most","a","b"]) (by decide +kernel)) rfl fun f G A outer s H E y=>⟨_,(Jb (dsv 3 (ndB rfl) (Jd I y (dbv 0 (dbv 1 (dbv 2 Ja))))) (Jb (Js (Jj Vw Vq (dlv 3) (dl QH) (Jf _)) (Jc (Je JV)) Ju) (Jb (QO (J8 (JH y) (dlv 1) (dlv 2)) (JT rfl (Jo (dgv 4 (ndB rfl)) (Jo (dgv 5 (ndB rfl)) JQ)))) (Jc (Je (Q7 (Qs Qn Qk (dlv 4) (dl (Jn (dlv 3) dli)) (Jf _)) (Q1 (Qs Qn Qk (dlv 5) (dl (Jn (dlv 3) dli)) (Jf _))))))))),?_⟩;intro ts n R S L;obtain @⟨bits,ps,qs,b,q,n,R,b0,b1,P,hl2,B,hq,h⟩:=L;have v:valT (prK qs) b=some (.tuple [.int q.1,.int q.2]):=by rw[Qe,hq];rfl
 wp_walk using We.c b0 b1 P hl2 B (fun no al x C=>?_);have key:=h no al x C;cases e:bpD no al qs b with
 | none=>rw[e]at key;exact key
 | some m=>rw[e]at hc;exact absurd hc (by simp[optD,twoD,isNone])
 ·have key:=h no al x C;cases e:bpD no al qs b with
  | none=>rw[e]at hc;exact absurd hc (by simp[optD,isNone])
  | some m =>rw[e]at key;have key:R (.bool (decide (q.1<=m.1)&&decide (q.2<=m.2))) n:=key;have J:optD (some m)=.tuple [.int m.1,.int m.2]:=rfl;rw[J];wp_walk using Qf v ?_;rw[decide_eq_true hc,dS]at key;exact key;rw[decide_eq_false hc,dW]at key;exact key
def cntD:af->Bool|.int i=>decide (0<=i)|_=>false
inductive V5:List af->Nat->(af->Nat->Prop)->Prop
 | c {d:af} {n:Nat} {R:qN} (p:PlnD d) (h:R (.bool (cntD d)) n):V5 [d] n R
def zf2(Z:ZZ):Prop:=FQ Z "is_count" (top 34) ["thing"] 2 (spD Z.K 1 V5)
theorem zi4(D:Dq Z.K Z.mg "is_count" (top 34) ["thing"]) (x:V7 Z) (T:Txt Z.mg):zf2 Z:=by
 refine' okQ D (fnS (N:=["thing"]) (by decide +kernel)) rfl fun f u A outer s H E v=>⟨_,(Jc (Je (Q7 (Jd x v (dbv 0 Ja)) (Q1 (Qs zre gp_B (dlv 0) dli (Jf _)))))),?_⟩;intro ts n R y h;obtain @⟨d,n,R,p,h⟩:=h;cases d with
 | int i =>have h:R (.bool (decide (0<=i))) n:=h;wp_walk using QU (b:=true) rfl p.pln ?_;all_goals first|exact h|exact absurd rfl hc
 | dict ks =>
  cases ks with
  | nil =>wp_walk using QU (b:=false) rfl p.pln ?_;all_goals first|exact h|exact absurd rfl hc
  | cons a b=>exact absurd rfl p.pln
 | _ =>wp_walk using QU (b:=false) rfl p.pln ?_;all_goals first|exact h|exact absurd rfl hc
def J6(bits:Int):af->Bool
 | .tuple [b,x,y]=>J0 bits b&&(cntD x&&cntD y)
 | _=>false
inductive zgZ:List af->Nat->(af->Nat->Prop)->Prop
 | c {bits:Int} {d:af} {n:Nat} {R:qN} (b0:0<=bits) (b1:bits<=64) (p:PlnD d) (h:R (.bool (J6 bits d)) n):zgZ [.int bits,d] n R
theorem zq0{d:af}(h:PlnD d):Pl2 d:=⟨h.pln,fun ts e t o=>by subst e;exact(h.tup.2 t o).pln⟩
def zjV(Z:ZZ):Prop:=FQ Z "is_row" (top 33) ["bits","thing"] 3 (spD Z.K 2 zgZ)
theorem zmH(D:Dq Z.K Z.mg "is_row" (top 33) ["bits","thing"]) (U:zdW Z) (G:zf2 Z) (T:Txt Z.mg):zjV Z:=by
 refine' okQ D (fnS (N:=["bits","thing","block","a","b"]) (by decide +kernel)) rfl fun f I A outer s H E v=>⟨_,(Jb (Js (JW (J3 (Qt (JY (dl (UQ Z8 T.isi T.tup QA (dlv 1) Jt)))) (Qu (Jj (QX v) QV (dl (JA Qq Qm T.len J5 (Ji (dlv 1) Jq Jt))) dli (Jf _))))) (Jc (Je JV)) Ju) (Jb (QO (Jk 1) (JT rfl (Jo (dgv 2 (ndB rfl)) (Jo (dgv 3 (ndB rfl)) (Jo (dgv 4 (ndB rfl)) JQ))))) (Jc (Je (Q7 (Jd U v (dbv 0 (dbv 2 Ja))) (Q7 (Jd G v (dbv 3 Ja)) (Q1 (Jd G v (dbv 4 Ja))))))))),?_⟩;intro ts n R hl h;obtain @⟨bits,d,n,R,b0,b1,p,h⟩:=h;cases d with
 | dict ks =>
  cases ks with
  | nil =>wp_walk;exact h
  | cons a b=>exact absurd rfl p.pln
 | tuple ts =>
  obtain⟨Y,p3⟩:=p.tup;match ts,p3,h with
  | [],_,h =>wp_walk;all_goals first|exact h|(exfalso;simp at hc;done)
  | [x],_,h =>
   have e:J6 bits (.tuple [x])=false:=by unfold J6;split <;> simp_all
   rw[e]at h;wp_walk;all_goals first|exact h|(exfalso;simp at hc;done)
  | [x,y],_,h =>
   have e:J6 bits (.tuple [x,y])=false:=by unfold J6;split <;> simp_all
   rw[e]at h;wp_walk;all_goals first|exact h|(exfalso;simp at hc;done)
  | x::y::z::w::r,_,h =>
   have e:J6 bits (.tuple (x::y::z::w::r))=false:=by unfold J6;split <;> simp_all
   rw[e]at h;wp_walk;all_goals first|exact h|(exfalso;simp at hc;lia)
  | [x,y,z],p3,h =>have L:=p3 x (by simp);have py:=p3 y (by simp);have S:=p3 z (by simp);have h:R (.bool (J0 bits x&&(cntD y&&cntD z))) n:=h;wp_walk using Vl.c b0 b1 (zq0 L) ?_,V5.c py ?_,V5.c S ?_;rename_i J C;rw[C,hc,dS,dS]at h;exact h;rename_i J C;rw[hc,dW,gV]at h;exact h;rw[hc,dW]at h;exact h;exact absurd rfl hc
 | _ =>wp_walk;exact h
def RwOk(bits:Int)(q:(Int×Int)×(Int×Int)):Prop:=IsBk bits q.1.1 q.1.2/\0<=q.2.1/\0<=q.2.2
theorem zwN{bits:Int}(o:0<=bits){q:(Int×Int)×(Int×Int)}(h:RwOk bits q):J6 bits (rwD q)=true:=by show(J0 bits (.tuple [.int q.1.1,.int q.1.2])&&(decide (0<=q.2.1)&&decide (0<=q.2.2)))=true;rw[(zfi o).mpr h.1,decide_eq_true h.2.1,decide_eq_true h.2.2];rfl
theorem zwM{bits:Int}(G:0<=bits){t:af}(h:J6 bits t=true):∃q,t=rwD q/\RwOk bits q:=by unfold J6 at h;split at h;rename_i b x y;rw[bq,bq]at h;obtain⟨h1,o,l⟩:=h;have C:=h1;unfold J0 at h1;split at h1;rename_i i g;unfold cntD at o l;split at o;rename_i u;split at l;rename_i v;exact⟨((i,g),(u,v)),rfl,(zfi G).mp C,of_decide_eq_true o,of_decide_eq_true l⟩;cases l;cases o;cases h1;cases h
theorem zmc{bits:Int}(l:0<=bits):∀{ts:qD},ts.all (J6 bits)=true->∃qs:PR,ts=qs.map rwD/\∀q∈qs,RwOk bits q
 | [],_=>⟨[],rfl,(fun q h=>nomatch h)⟩
 | t::ts,h=>by rw[List.all_cons,bq]at h;obtain⟨q,rfl,u⟩:=zwM l h.1;obtain⟨qs,rfl,o⟩:=zmc l h.2;exact⟨q::qs,rfl,fun x hx=>by rcases ay.mp hx with rfl|hx;exact u;exact o x hx⟩
theorem ZN{qs o:PR}(h:qs.map rwD=o.map rwD):qs=o:=by
 induction qs generalizing o with
 | nil=>cases o with
  | nil=>rfl
  | cons _ _=>cases h
 | cons q qs u =>
  cases o with
  | nil=>cases h
  | cons l o =>obtain⟨⟨a,b⟩,⟨c,d⟩⟩:=q;obtain⟨⟨v,x⟩,⟨c',d'⟩⟩:=l;rw[aN,aN]at h;injection h with h1 h2;rw[u h2];simp[rwD]at h1;obtain⟨⟨rfl,rfl⟩,rfl,rfl⟩:=h1;rfl
def zn7(bits:Int)(ps:BL)(many:Int)(d:af):Prop:=∃qs:PR,d=.tuple (qs.map rwD)/\(∀q∈qs,RwOk bits q)/\(qs.map (·.1)).Nodup/\(∃v,valP qs (0,bits)=some v/\many<=v.1)/\∀q∈qs,∀no al:Bool,(no=true↔HasN ps q.1)->(al=true↔HasA ps q.1)->rgtD (bpD no al qs q.1) q.2=true
theorem zgC{x y:af}(h:PlnD x)(h':PlnD y):PlnD (.tuple [x,y]):=VS (by simp) (Vc h (Vc h' zjY))
theorem zkN{x y z:af}(h:PlnD x)(h':PlnD y)(o:PlnD z):PlnD (.tuple [x,y,z]):=VS (by simp) (Vc h (Vc h' (Vc o zjY)))
theorem zqD{qs:PR}:∀t∈qs.map rwD,PlnD t:=fun t l=>by obtain⟨q,_,rfl⟩:=bc.mp l;exact zkN (zgC UX UX) UX UX
theorem zmr{bits:Int}{ps:BL}{qs:PR}(Q:PrOk bits ps qs){many:Int}(h:many<=zaX bits ps):zn7 bits ps many (.tuple (qs.map rwD)):=by obtain⟨v,ev⟩:=Q.root;refine⟨qs,rfl,fun q o=>⟨Q.bk q o,Q.pos q o⟩,Q.nd,⟨v,ev,by rw[Q.many ev];exact h⟩,fun q o no al y x=>?_⟩;rw[Q.rgt q o no al y x];simp[rgtD]
inductive Y5:List af->Nat->(af->Nat->Prop)->Prop
 | c {bits:Int} {bs ps:BL} {many:Int} {d:af} {n:Nat} {R:qN} (b0:0<=bits) (b1:bits<=64) (B:Bks bits bs) (l:SrtL rkB bs) (l2:bs.length<=10000) (C:CanP (fun x=>mB x bs) ps) (p:PlnD d) (h:∀b:Bool,(b=true↔zn7 bits ps many d)->R (.bool b) n):Y5 [.int bits,.tuple (pD bs),.int many,d] n R
def zee(Z:ZZ):Prop:=FQ Z "shows_many" (top 32) ["bits","patch","many","paper"] 9 (spD Z.K 4 Y5)
theorem zgG(D:Dq Z.K Z.mg "shows_many" (top 32) ["bits","patch","many","paper"]) (Lq:ZY Z) (L8:zf1 Z) (Mi:zjV Z) (T:Txt Z.mg):zee Z:=by
 refine' okQ D (fnS (N:=["bits","patch","many","paper","pairs","wanted"]) (by decide +kernel)) rfl fun f cdv A outer s H E L=>⟨_,(Jb (Js (JW (J3 (Qt (JY (dl (UQ Z8 T.isi T.tup QA (dlv 3) Jt)))) (Qu (Qt (JY (dl (JA (Vf rfl) Zm T.all Vd (Ji (dl (JL (dnc ["row"] [0] (dil (QI (Jk 3))) (fun _ _ _ _=>(dgv 0 (ndB rfl))) (fun _ _ _ _=>(Jd Mi L (dbv 1 (dbv 0 Ja))))))) Jq Ut)))))))) (Jc (Je JV)) Ju) (Jb (dsv 4 (ndB rfl) (zpA (own:=["block","a","b"]) (capt:=[]) (JH L) rfl (Jx.of rfl) (dil (QI (Jk 3))) (fun _ _ _ _=>(JT rfl (Jo (dgv 0 (ndB rfl)) (Jo (dgv 1 (ndB rfl)) (Jo (dgv 2 (ndB rfl)) JQ))))) (by decide) (fun _ _ _ _=>Q8) (fun _ _ _ _=>(Jk 0)) (fun _ _ _ _=>(Jr (dbv 1 (dbv 2 Ja)))))) (Jb (Js (JW (J3 (Jj (QX L) QV (dl (JA znV zrU T.len J5 (Ji (dlv 4) Jq Jt))) (dl (JA Qq Qm T.len J5 (Ji (dlv 3) Jq Jt))) (Jf _)) (Qu (Jj (ziW (JH L)) Zn (dl (Jr (dbc Jg (dbv 0 Ja)))) (dlv 4) rfl)))) (Jc (Je JV)) Ju) (Jb (Js (Jj (Qw L) Qv (dl (Jn (dl (J8 (JH L) (dlv 4) (dl (Jr (dbc Jg (dbv 0 Ja)))))) dli)) (dlv 2) (Jf _)) (Jc (Je JV)) Ju) (Jb (dsv 5 (ndB rfl) (Jd Lq L (dbv 1 Ja))) (Jc (Je (JA (Vf rfl) Zm T.all Vd (Ji (dl (JL (dnc ["block"] [5,4] (dil (znv (Jk 4))) (fun _ _ _ _=>(dgv 0 (ndB rfl))) (fun _ _ _ _=>(Jd L8 L (dbv 1 (dbv 2 (dbv 0 Ja)))))))) Jq Ut))))))))),?_⟩;intro ts n R hl hh;obtain @⟨bits,bs,ps,many,d,n,R,b0,b1,B,l,l2,C,p,h⟩:=hh;have no:(¬zn7 bits ps many d)->R (.bool false) n:=fun z=>h false ⟨(fun y=>by cases y),fun y=>absurd y z⟩;cases d with
 | dict ks =>
  cases ks with
  | nil =>
   have key:=no fun⟨qs,e,_⟩=>by cases e
   wp_walk;exact key
  | cons a b=>exact absurd rfl p.pln
 | tuple us =>
  obtain⟨l6,p3⟩:=p.tup;wp_walk;refine zgl (fun t=>.bool (J6 bits t)) (by lia) ?_ ?_
  ·intro t mt K2 X2 I;wp_walk using zgZ.c b0 b1 (p3 t mt) ?_;exact I
  ·wp_walk using Zp (f:=J6 bits) ?_
   ·obtain⟨qs,rfl,ok⟩:=zmc b0 hc;rw[aG]at l6;refine zlr (cs:=qs) (D:=rwD) (fun q=>q.1) (fun q=>twoD q.2) (by lia) ?_ ?_
    ·intro q J K2 X2 I;rw[rwD];wp_walk;exact I
    ·by_cases nd:(qs.map (·.1)).Nodup
     ·have ef:qs.foldl (fun acc b=>putT acc b.1 (twoD b.2)) []=prK qs:=zjn (qs:=qs) (acc:=[]) (by simpa using nd);rw[ef];cases ev:valP qs (0,bits) with
      | none =>
       have Y:valT (prK qs) (0,bits)=none:=by rw[Qe,ev];rfl
       have key:=no fun⟨ls,e,_,_,⟨v,U,_⟩,_⟩=>by rw[ZN (fx e),U]at ev;cases ev
       wp_walk using znd ?_,QD (k:=(0,bits)) ?_;exact key;rw[Y]at hc;cases hc;exact key
      | some v =>
       have Y:valT (prK qs) (0,bits)=some (.tuple [.int v.1,.int v.2]):=by rw[Qe,ev];rfl
       wp_walk using znd ?_,QD (k:=(0,bits)) ?_,Qf (k:=(0,bits)) Y ?_,UZ.c (.inr rfl) b0 b1 B l (fun G C' lp=>?_);rw[Y]at hc;cases hc;exact no fun⟨ls,e,_,_,⟨v',U,hm⟩,_⟩=>by rw[<- ZN (fx e),ev]at U;cases U;lia
       ·have ep:=C'.uniq C fun x=>aU;subst ep;have P:Ptc bits G:=C'.ptc b0 fun x hx=>QZ b0 B hx;have lp2:G.length<1000000:=by lia
        refine⟨prK qs,rfl,?_⟩;have e:(prK qs).map (fun q=>L2.blkT q.1)=qs.map fun q=>L2.blkT q.1:=by simp[prK]
        rw[e]
        classical
        let f:(Int×Int)×(Int×Int)->Bool:=fun q=>rgtD (bpD (decide (HasN G q.1)) (decide (HasA G q.1)) qs q.1) q.2;refine UU (cs:=qs) (fun q=>.bool (f q)) (by lia) ?_ ?_
        ·intro q J K2 X2 I;have Bq:=(ok q J).1;have vq:=ziL nd J;rw[L2.blkT];wp_walk using zd_.c (b:=q.1) (q:=q.2) b0 b1 P lp2 Bq vq (fun no al hn ha=>?_);have e1:no=decide (HasN G q.1):=by rw[dE,hn,decide_eq_true_eq]
         have e2:al=decide (HasA G q.1):=by rw[dE,ha,decide_eq_true_eq]
         rw[e1,e2];exact I
        ·wp_walk using Zp (f:=f) ?_;refine h _ ?_;rw[b5];constructor;intro z;refine⟨qs,rfl,ok,nd,⟨v,ev,by lia⟩,fun q J no al hn ha=>?_⟩;have e1:no=decide (HasN G q.1):=by rw[dE,hn,decide_eq_true_eq]
         have e2:al=decide (HasA G q.1):=by rw[dE,ha,decide_eq_true_eq]
         rw[e1,e2];exact z q J;rintro⟨ls,e,_,_,_,r⟩ q J;have el:=ZN (fx e);subst el;exact r q J _ _ (by rw[decide_eq_true_eq]) (by rw[decide_eq_true_eq])
       exact absurd (by rw[prK,aG,aG]) hc
     ·have key:=no fun⟨ls,e,_,S,_⟩=>by
       rw[<- ZN (fx e)]at S;exact nd S
      have ef:(qs.foldl (fun acc b=>putT acc b.1 (twoD b.2)) []).length≠qs.length:=fun z=>nd (zpo.mp z);generalize qs.foldl (fun acc b=>putT acc b.1 (twoD b.2)) []=ks at ef ⊢;wp_walk using znd ?_;rw[aG]at hc;exact absurd (Int.ofNat.inj hc) ef;exact key
   have key:=no fun⟨ls,e,ok,_⟩=>by
    have:us.all (J6 bits)=true:=by rw[fx e,b5];intro x hx;obtain⟨q,J,rfl⟩:=bc.mp hx;exact zwN b0 (ok q J)
    rw[this]at hc;cases hc
   exact key
 | _ =>
  have key:=no fun⟨qs,e,_⟩=>by cases e
  wp_walk;exact key
def sgD:af->Bool|.int i=>decide (0<=i)&&decide (i<=1)|_=>false
def Qg(bits:Int):af->Bool
 | .tuple [b,s]=>J0 bits b&&sgD s
 | _=>false
inductive zfs:List af->Nat->(af->Nat->Prop)->Prop
 | c {bits:Int} {d:af} {n:Nat} {R:qN} (b0:0<=bits) (b1:bits<=64) (p:PlnD d) (h:R (.bool (Qg bits d)) n):zfs [.int bits,d] n R
theorem zmu{d:af}(h:PlnD d):Pl2 d:=⟨h.pln,fun ts e t o=>by subst e;exact(h.tup.2 t o).pln⟩
def zhJ(Z:ZZ):Prop:=FQ Z "is_rule" (top 39) ["bits","thing"] 3 (spD Z.K 2 zfs)
theorem zkW(D:Dq Z.K Z.mg "is_rule" (top 39) ["bits","thing"]) (L:zdW Z) (J:V7 Z) (T:Txt Z.mg):zhJ Z:=by
 refine' okQ D (fnS (N:=["bits","thing","block","sign"]) (by decide +kernel)) rfl fun f G A outer s H E v=>⟨_,(Jb (Js (JW (J3 (Qt (JY (dl (UQ Z8 T.isi T.tup QA (dlv 1) Jt)))) (Qu (Jj (QX v) QV (dl (JA Qq Qm T.len J5 (Ji (dlv 1) Jq Jt))) dli (Jf _))))) (Jc (Je JV)) Ju) (Jb (QO (Jk 1) (JT rfl (Jo (dgv 2 (ndB rfl)) (Jo (dgv 3 (ndB rfl)) JQ)))) (Jc (Je (Q7 (Jd L v (dbv 0 (dbv 2 Ja))) (Q7 (Jd J v (dbv 3 Ja)) (Q1 (zkp Qn Qk Qn Qk dli (dlv 3) dli)))))))),?_⟩;intro ts n R U h;obtain @⟨bits,d,n,R,b0,b1,p,h⟩:=h;cases d with
 | dict ks =>
  cases ks with
  | nil =>wp_walk;exact h
  | cons a b=>exact absurd rfl p.pln
 | tuple ts =>
  obtain⟨S,p3⟩:=p.tup;match ts,p3,h with
  | [],_,h =>wp_walk;all_goals first|exact h|(exfalso;simp at hc;done)
  | [x],_,h =>
   have e:Qg bits (.tuple [x])=false:=by unfold Qg;split <;> simp_all
   rw[e]at h;wp_walk;all_goals first|exact h|(exfalso;simp at hc;done)
  | x::y::z::r,_,h =>
   have e:Qg bits (.tuple (x::y::z::r))=false:=by unfold Qg;split <;> simp_all
   rw[e]at h;wp_walk;all_goals first|exact h|(exfalso;simp at hc;lia)
  | [x,y],p3,h =>
   have C:=p3 x (by simp);have py:=p3 y (by simp);have e:Qg bits (.tuple [x,y])=(J0 bits x&&sgD y):=rfl;rw[e]at h;cases y with
   | int i =>have h:R (.bool (J0 bits x&&(decide (0<=i)&&decide (i<=1)))) n:=h;wp_walk using Vl.c b0 b1 (zmu C) ?_,QU (b:=true) rfl py.pln ?_;rename_i h1 I;rw[I,decide_eq_true hc,dS,dS]at h;exact h;rw[decide_eq_false hc,dW,gV]at h;exact h;rw[hc,dW]at h;exact h;exact absurd rfl hc
   | _ =>have h:R (.bool (J0 bits x&&false)) n:=h;rw[gV]at h;wp_walk using Vl.c b0 b1 (zmu C) ?_,QU (b:=false) rfl py.pln ?_;all_goals first|exact h|exact absurd rfl hc
 | _ =>wp_walk;exact h
def bLt:af->af->Bool
 | .tuple (.tuple [.int a,.int b]::_),.tuple (.tuple [.int c,.int d]::_)=>decide (a<c\/(a=c/\b<d))
 | _,_=>false
def rlsD(bits:Int):af->Bool
 | .tuple ts=>ts.all (Qg bits)&&((ts.zip ts.tail).all fun q=>bLt q.1 q.2)
 | _=>false
theorem zoE{bits:Int}{t:af}(h:Qg bits t=true):∃a b s:Int,t=.tuple [.tuple [.int a,.int b],.int s]:=by unfold Qg at h;split at h;rename_i x y;rw[bq]at h;obtain⟨h1,o⟩:=h;unfold J0 at h1;split at h1;unfold sgD at o;split at o;exact⟨_,_,_,rfl⟩;cases o;cases h1;cases h
inductive Wd:List af->Nat->(af->Nat->Prop)->Prop
 | c {bits:Int} {d:af} {n:Nat} {R:qN} (b0:0<=bits) (b1:bits<=64) (p:PlnD d) (h:R (.bool (rlsD bits d)) n):Wd [.int bits,d] n R
def zeS(Z:ZZ):Prop:=FQ Z "are_rules" (top 37) ["bits","thing"] 4 (spD Z.K 2 Wd)
theorem zhS(D:Dq Z.K Z.mg "are_rules" (top 37) ["bits","thing"]) (L:zhJ Z) (T:Txt Z.mg):zeS Z:=by
 refine' okQ D (fnS (N:=["bits","thing"]) (by decide +kernel)) rfl fun f I A outer s H E y=>⟨_,(Jb (Js (Qt (JY (dl (UQ Z8 T.isi T.tup QA (dlv 1) Jt)))) (Jc (Je JV)) Ju) (Jb (Js (Qt (JY (dl (JA (Vf rfl) Zm T.all Vd (Ji (dl (JL (dnc ["rule"] [0] (dil (QI (Jk 1))) (fun _ _ _ _=>(dgv 0 (ndB rfl))) (fun _ _ _ _=>(Jd L y (dbv 1 (dbv 0 Ja))))))) Jq Ut))))) (Jc (Je JV)) Ju) (Jc (Je (JA (Vf rfl) Zm T.all Vd (Ji (dl (JL (dnc ["one","other"] [] (dil (zqd T.zip (Jk 1) (znB (dlv 1) (znr Jg) zns))) (fun _ _ _ _=>(JT rfl (Jo (dgv 0 (ndB rfl)) (Jo (dgv 1 (ndB rfl)) JQ)))) (fun _ _ _ _=>(Qs (Qw y) Qv (dl (Jn (dlv 0) dli)) (dl (Jn (dlv 1) dli)) (Jf _)))))) Jq Ut)))))),?_⟩;intro ts n R hl h;obtain @⟨bits,d,n,R,b0,b1,p,h⟩:=h;cases d with
 | dict ks =>
  cases ks with
  | nil =>wp_walk;exact h
  | cons a b=>exact absurd rfl p.pln
 | tuple ts =>
  obtain⟨Y,p3⟩:=p.tup;have h:R (.bool (ts.all (Qg bits)&&((ts.zip ts.tail).all fun q=>bLt q.1 q.2))) n:=h;wp_walk;refine zgl (fun t=>.bool (Qg bits t)) (by lia) ?_ ?_
  ·intro t mt S U v;wp_walk using zfs.c b0 b1 (p3 t mt) ?_;exact v
  ·wp_walk using Zp (f:=Qg bits) ?_
   ·rw[zkq];rw[hc,dS]at h;have C:∀t∈ts,∃a b s:Int,t=.tuple [.tuple [.int a,.int b],.int s]:=fun t mt=>zoE (b5.mp hc t mt);refine UU (cs:=ts.zip ts.tail) (D:=fun q=>fJ [q.1,q.2]) (fun q=>.bool (bLt q.1 q.2)) (by rw[iG];lia) ?_ ?_
    ·intro q x S U v;obtain⟨a,b,s1,G⟩:=C q.1 (dF x).1;obtain⟨c,d,s2,J⟩:=C q.2 (List.mem_of_mem_tail (dF x).2);rw[G,J]at v ⊢;wp_walk;refine⟨[a,b],[c,d],rfl,rfl,?_⟩;rw[zmZ];exact v
    ·wp_walk using Zp (f:=fun q:af×af=>bLt q.1 q.2) ?_;exact h
   rw[hc,dW]at h;exact h
 | _ =>wp_walk;exact h
theorem zpO{rs:RL}{b:Int×Int}:valT (kR rs) b=(sgAt rs b).map bS:=by unfold valT kR sgAt;rw[List.find?_map];simp[gP]
theorem zgx{bits:Int}{rs:RL}(h:Rls0 bits rs):Rok rs:=zmd (bits:=bits) (fun r l=>⟨(h.1 r l).1,by have:=(h.1 r l).2;lia⟩) h.2
theorem zvk{a:Int}{k:Nat}:inb (a / 2 ^ k*2 ^ k,(k:Int)) a:=by have pp:(0:Int)<2 ^ k:=Qc k;have:=nZ a (2 ^ k);have h1:=nT a (show(2:Int) ^ k≠0 by lia);have l:=lZ a pp;rw[cA]at this;constructor;show a / 2 ^ k*2 ^ k<=a;lia;show a<a / 2 ^ k*2 ^ k+2 ^ (k:Int).toNat;rw[bt];lia
inductive zfq:List af->Nat->(af->Nat->Prop)->Prop
 | c {bits:Int} {rs:RL} {a:Int} {n:Nat} {R:qN} (b0:0<=bits) (b1:bits<=64) (Q:Rls0 bits rs) (a0:0<=a) (a1:a<2 ^ bits.toNat) (h:∀s,SgX rs a s->R (.int s) n):zfq [.int bits,.dict (Jm (kR rs)),.int a] n R
def zhH(Z:ZZ):Prop:=FQ Z "sign_at" (top 40) ["bits","signs","address"] 2 (spD Z.K 3 zfq)
theorem zkT(D:Dq Z.K Z.mg "sign_at" (top 40) ["bits","signs","address"]) (LP:zgA Z) (T:Txt Z.mg):zhH Z:=by
 refine' okQ D (fnS (N:=["bits","signs","address","height","block"]) (by decide +kernel)) rfl fun f cdv A outer s H E x=>⟨_,(Jb (QJ b6 rfl (zfu T.ran (JS (dlv 0) dli)) (dgv 3 (ndB rfl)) (Jb (dsv 4 (ndB rfl) (Jd LP x (dbc (Jr (dbv 2 (dbc Jg Ja))) (dbv 3 Ja)))) (Jc (Js (Jj (zpZ (JH x)) Zn (dlv 4) (dlv 1) rfl) (Jc (Je (J8 (JH x) (dlv 1) (dlv 4)))) Ju)))) (Jc (Je Jg))),?_⟩;intro ts n R hl hh;obtain @⟨bits,rs,a,n,R,b0,b1,Q,a0,a1,h⟩:=hh;have RK:=zgx Q;have a2:a<2 ^ 64:=Int.lt_of_lt_of_le a1 (QK (show bits.toNat<=64 by lia));wp_walk;lia;lia;refine zu0 3 4 (fun k _ _ m=>m=n/\∀r∈rs,inb r.1 a->(k:Int)<=r.1.2) ⟨rfl,fun r x _=>(Q.1 r x).1.1⟩ ?_ ?_
 ·rintro k t x1 x2 m K RT BK et ⟨rfl,inv⟩ hK hRT hBK;obtain⟨hk,rfl⟩:=zdT et;obtain⟨j,ej⟩:∃j:Int,j=(0:Int)+(k:Int):=⟨_,rfl⟩;rw[<- ej];have U:0<=j:=by lia
  have j1:j<=1000:=by lia
  obtain⟨v,rfl⟩:∃v:Nat,j=(v:Int):=⟨j.toNat,by lia⟩;have ek:v=k:=by lia
  subst ek;have J:=zvk (a:=a) (k:=v);have al:Aln (a / 2 ^ v*2 ^ v,(v:Int)):=⟨U,a / 2 ^ v,by rw[bt]⟩;obtain⟨b,L⟩:∃b:Int×Int,b=(a / 2 ^ ((v:Int)).toNat*2 ^ ((v:Int)).toNat,(v:Int)):=⟨_,rfl⟩;have I:b=(a / 2 ^ v*2 ^ v,(v:Int)):=by rw[L,bt]
  rw[<- I]at J al;have e1:a / 2 ^ ((v:Int)).toNat*2 ^ ((v:Int)).toNat=b.1:=by rw[L]
  have G:(v:Int)=b.2:=by rw[L]
  have ca:∀{S:qN} {Y:Nat},S (.tuple [.int b.1,.int b.2]) Y->Z6 [.tuple [.int a,.int 0],.int (v:Int)] Y S:=fun x=>Z6.c U j1 a0 a2 (by rw[e1,G];exact x);cases es:sgAt rs b with
  | none =>
   have y:valT (kR rs) b=none:=by rw[zpO,es];rfl
   wp_walk using ca ?_,QD (k:=b) ?_;rw[y]at hc;cases hc;refine hK _ _ _ ⟨rfl,fun r x C=>?_⟩;have:=inv r x C;rcases Int.lt_or_eq_of_le this with z|z
   push_cast;lia
   exact absurd (Y1 (RK.1 r x).1 al (by rw[<- z,G]) C J) (VZ es r x)
  | some s =>
   have y:valT (kR rs) b=some (.int s):=by rw[zpO,es];rfl
   wp_walk using ca ?_,QD (k:=b) ?_,Qf y ?_;exact hRT _ _ (h s (.inr ⟨(b,s),UY es,J,rfl,fun q hq iq=>by show b.2<=q.1.2;rw[<- G];exact inv q hq iq⟩));rw[y]at hc;cases hc
 ·rintro x1 x2 m ⟨rfl,inv⟩;rw[zkK]at inv;wp_walk;refine h 0 (.inl ⟨rfl,fun r x C=>?_⟩);have:=inv r x C;have:=(Q.1 r x).1.2.1;lia
theorem zin{α:Type}{m:Nat}:∀{l:List (List α)},(∀c∈l,c.length<=m)->l.flatten.length<=m*l.length
 | [],_=>cO _
 | c::l,h=>by have:=zin (l:=l) fun d hd=>h d (.tail _ hd);have:=h c (.head _);rw[List.flatten_cons,ba,aH,Nat.mul_succ];lia
theorem zlB{l m:List Int}:zipD (l.map bS) (m.map bS)=(l.zip m).map fun q=>fJ [.int q.1,.int q.2]:=by unfold zipD;rw[wK,cI];rfl
theorem zta{bits:Int}{rs:RL}(h:Rls bits rs):Rls0 bits rs:=⟨h.1,cJ.mpr (h.2.imp fun {a b} z e=>by rw[e]at z;unfold bkLt at z;lia)⟩
theorem ztc{rs:RL}:L2.rD rs=(kR rs).map prT:=by unfold L2.rD kR;rw[cI];rfl
inductive Vn:List af->Nat->(af->Nat->Prop)->Prop
 | c {bits:Int} {rs:RL} {n:Nat} {R:qN} (b0:0<=bits) (b1:bits<=64) (Q:Rls bits rs) (l:rs.length<=31) (h:∀ps,CanP (fun x=>SgX rs x 1) ps->ps.length<=260*rs.length->R (.tuple (pD ps)) n):Vn [.int bits,.tuple (L2.rD rs)] n R
theorem zpN:∀{u:List Int},u.Pairwise (·<·)->(u.zip u.tail).Pairwise fun p q=>p.2<=q.1
 | [],_=>.nil
 | [_],_=>.nil
 | a::b::l,h=>.cons (fun q v=>by have m:=(dF v).1;rcases ay.mp m with e|m;exact wJ e.symm;exact eQ ((bK.mp (bK.mp h).2).1 _ m)) (zpN (bK.mp h).2)
def zdV(Z:ZZ):Prop:=FQ Z "patch_by" (top 38) ["bits","rules"] 6 (spD Z.K 2 Vn)
theorem ziZ(D:Dq Z.K Z.mg "patch_by" (top 38) ["bits","rules"]) (Lq:ZY Z) (Md:zhH Z) (Mb:zmk Z) (Ll:YX Z) (T:Txt Z.mg):zdV Z:=by
 refine' okQ D (fnS (N:=["bits","rules","signs","edges","runs"]) (by decide +kernel)) rfl fun f cdv A outer s H E hr=>⟨_,(Jb (dsv 2 (ndB rfl) (zpz rfl hr.units T.dct (Jk 1))) (Jb (dsv 3 (ndB rfl) (JL (zlo T.srt (own:=["block","sign","edge"]) (capt:=[]) rfl (Jx.of rfl) (dil (QI (Jk 1))) (fun _ _ _ _=>(JT rfl (Jo (dgv 0 (ndB rfl)) (Jo (dgv 1 (ndB rfl)) JQ)))) (by decide) (fun _ _ _ _=>Q8) (fun _ _ _ _=>(QI (Jr (dbc (Jn (dlv 0) dli) (dbc (Jd Ll hr (dbv 0 Ja)) Ja))))) (fun _ _ _ _=>(dgv 2 (ndB rfl))) (by decide) (fun _ _ _ _=>Q8) (fun _ _ _ _=>(Jk 2))))) (Jb (znp (zkl (i:=4) (ndB rfl) rfl (fk rfl) (own:=["low","high"]) (capt:=[0,2]) rfl (Jx.of rfl) (dil (zqd T.zip (Jk 3) (JL (zpw (dlv 3) (znr Jg) zns)))) (fun _ _ _ _=>(JT rfl (Jo (dgv 0 (ndB rfl)) (Jo (dgv 1 (ndB rfl)) JQ)))) (by decide) (fun _ _ _ _=>(zr3 (Jj (UN hr) UF (dl (Jd Md hr (dbv 2 (dbv 3 (dbv 0 Ja))))) dli (Jf _)))) (fun _ _ _ _=>(Jr (dbv 0 (dbv 1 Ja)))))) (Jc (Je (Jd Lq hr (dbc (JL (zkm (own:=["low","high","block"]) (capt:=[]) rfl (Jx.of rfl) (dil (VN (Jk 4))) (fun _ _ _ _=>(JT rfl (Jo (dgv 0 (ndB rfl)) (Jo (dgv 1 (ndB rfl)) JQ)))) (by decide) (fun _ _ _ _=>Q8) (fun _ _ _ _=>(QI (Jd Mb hr (dbv 0 (dbv 1 Ja))))) (fun _ _ _ _=>(dgv 2 (ndB rfl))) (by decide) (fun _ _ _ _=>Q8) (fun _ _ _ _=>(Jk 2)))) Ja))))))),?_⟩;intro ts n R hl hh;obtain @⟨bits,rs,n,R,b0,b1,Q,l,h⟩:=hh;have Q0:=zta Q;have RK:=zgx Q0;have p64:(2:Int) ^ bits.toNat<=2 ^ 64:=QK (by lia);wp_walk;refine⟨kR rs,by rw[ztc],by rw[show(kR rs).map (·.1)=rs.map (·.1) from by simp[kR]];exact Q0.2,?_⟩;wp_walk;unfold L2.rD;refine zl3 (cs:=rs) (fun r=>[r.1.1,eB r.1]) (fun _=>ar _) (by lia) ?_ ?_
 ·intro r hr acc K ha hK;have B:=(Q0.1 r hr).1;have h0:0<=r.1.2:=B.1;have h1:r.1.2<=1000:=by have:=B.2.1;lia
  wp_walk using UB.c h0 h1 ?_;refine⟨_,rfl,by lia,?_⟩;wp_walk;refine⟨_,rfl,by rw[ba,km];lia,?_⟩;wp_walk;rw[eX];exact hK
 ·refine⟨?_,fun I E=>?_⟩;have:=ziq (rs:=rs);unfold Ue at this;lia;have E:Edg (Ue rs) I:=E;have lj:=zr2 E;rw[ziq]at lj;have L:∀e∈I,0<=e/\e<=2 ^ bits.toNat:=fun e he=>by
   obtain⟨r,hr,z⟩:=Vi.mp ((E.2 e).mp he);have b:=((Q0.1 r hr).1).bounds b0;have:=Qc r.1.2.toNat;unfold eB at z;lia
  wp_walk;rw[zkq,<- vG,zlB]
  classical
  refine zju (cs:=I.zip I.tail) (fun q=>decide (SgX rs q.1 1)) (fun q=>fJ [.int q.1,.int q.2]) (by rw[iG];lia) ?_ ?_
  ·intro q hq K X h1 h2;obtain⟨z1,z2,z3,z4⟩:=ZU E.1 q hq;have r1:=L _ z1;have r2:=L _ z2;wp_walk using zfq.c b0 b1 Q0 r1.1 (by lia) (fun s hs=>?_);exact h1 (decide_eq_true (hc▸hs));exact h2 (decide_eq_false fun z=>hc (zjM RK hs z))
  ·wp_walk;refine znN (cs:=(I.zip I.tail).filter fun q=>decide (SgX rs q.1 1)) (D:=fun q=>fJ [.int q.1,.int q.2]) (G:=prD) (P:=fun q v=>Jp q.1 q.2 v/\v.length<=130) 130 (fun _ _ z=>z.2) ?_ ?_
   ·intro q hq acc K X ha hK;obtain⟨z1,z2,z3,z4⟩:=ZU E.1 q (gE.mp hq).1;have r1:=L _ z1;have r2:=L _ z2;have lf:((I.zip I.tail).filter fun q=>decide (SgX rs q.1 1)).length<=200:=b7 (ko ..) (by rw[iG];lia);wp_walk using Uq.c r1.1 (by lia) (by lia) (fun v S=>?_);have lu:=S.len r1.1 (by lia);refine zgm (cs:=v) (D:=prD) prD ?_ v acc (fun _ h=>h) (by lia) (hK v ⟨S,lu⟩);intro c hc K X hK;wp_walk;exact hK
   ·intro J el pw;have pm:∀v∈J,∃q∈I.zip I.tail,SgX rs q.1 1/\Jp q.1 q.2 v/\v.length<=130:=fun v U=>by
     obtain⟨i,hi⟩:=gN.mp U;have il:=(av.mp hi).1;have gi:=au (l:=(I.zip I.tail).filter fun q=>decide (SgX rs q.1 1)) (i:=i) (by lia);have:=pw i _ v gi hi;obtain⟨m1,m2⟩:=gE.mp (aA gi);exact⟨_,m1,of_decide_eq_true m2,this⟩
    have lf:J.flatten.length<=130*(2*rs.length):=by refine b7 (zin (m:=130) fun v U=>?_) ?_;obtain⟨_,_,_,_,z⟩:=pm v U;exact z;refine oY _ ?_;rw[el];exact b7 (ko ..) (by rw[iG];lia)
    have BB:Bks bits J.flatten:=fun b Y=>by obtain⟨v,U,Y⟩:=fy.mp Y;obtain⟨q,hq,_,S,_⟩:=pm v U;obtain⟨z1,z2,z3,z4⟩:=ZU E.1 q hq;exact S.blk b0 (L _ z1).1 (L _ z2).2 b Y
    have fl:∀x,mB x J.flatten↔SgX rs x 1:=fun x=>by constructor;rintro⟨b,Y,bx⟩;obtain⟨v,U,Y⟩:=fy.mp Y;obtain⟨q,hq,s1,S,_⟩:=pm v U;obtain⟨x1,x2⟩:=(S.mem x).mp ⟨b,Y,bx⟩;exact(zl6 E hq x1 x2 1).mpr s1;intro s1;obtain⟨q,hq,x1,x2⟩:=zoZ E s1;have sq:=(zl6 E hq x1 x2 1).mp s1;have mq:q∈(I.zip I.tail).filter fun q=>decide (SgX rs q.1 1):=gE.mpr ⟨hq,decide_eq_true sq⟩;obtain⟨i,hi⟩:=gN.mp mq;have il:=(av.mp hi).1;have gu:=au (l:=J) (i:=i) (by lia);obtain⟨S,_⟩:=pw i q _ hi gu;obtain⟨b,Y,bx⟩:=(S.mem x).mpr ⟨x1,x2⟩;exact⟨b,fy.mpr ⟨_,aA gu,Y⟩,bx⟩
    wp_walk;have up:J.flatten.Pairwise fun a b=>rkB a<=rkB b:=by refine List.pairwise_flatten.mpr ⟨fun v U=>?_,aP.mpr fun i j hi hj hij x hx y hy=>?_⟩;obtain⟨q,_,_,S,_⟩:=pm v U;exact S.pw.imp_of_mem fun {a b} ha Y h=>zmf h (by have:=(BB a (fy.mpr ⟨v,U,ha⟩)).2.1;lia) (BB b (fy.mpr ⟨v,U,Y⟩)).1;have zp:=((zpN E.1).filter fun q=>decide (SgX rs q.1 1));have gi:=au (l:=(I.zip I.tail).filter fun q=>decide (SgX rs q.1 1)) (i:=i) (by lia);have gj:=au (l:=(I.zip I.tail).filter fun q=>decide (SgX rs q.1 1)) (i:=j) (by lia);obtain⟨S1,_⟩:=pw i _ _ gi (au hi);obtain⟨S2,_⟩:=pw j _ _ gj (au hj);have le:=aP.mp zp i j (by lia) (by lia) hij;have x2:=(S1.in x hx).2;have y1:=(S2.in y hy).1;exact zmf (by lia) (by have:=(BB x (fy.mpr ⟨_,eK hi,hx⟩)).2.1;lia) (BB y (fy.mpr ⟨_,eK hj,hy⟩)).1
    refine UZ.c (bs:=J.flatten) (.inl rfl) b0 b1 BB (zpS up (by lia)) fun ps C lp=>?_;exact h ps (C.congr fl) (by lia)
theorem scH:Uv ["_law_script","_law_k","_law_cell"] ["_law_script","_law_k"] (JJ (top 42)):=⟨rfl,rfl,rfl,by decide +kernel,rfl,by decide +kernel,by decide +kernel⟩
theorem zhW{f:aj}{fd:dM}(D:Def K mg "_law_hand" (top 42) ["_law_script","_law_k"] f fd) (T:Txt mg):FnOk P w K mg base CX0 1 f fd ["_law_script","_law_k"] (VG K):=by
 refine D.F.ok scH (fun vs H Q E h=>?_) (fun x A outer s H vs Q E G h=>?_);obtain⟨a,ns,k,rfl,_⟩:=h;rfl;obtain⟨a,ns,k,rfl,v,I,C,J,q⟩:=h;refine⟨_,QB (Qx (i:=2) scH.nd rfl (fk rfl) JB)
  (QB (zqV (ziR ztM (pv 1) (Ye ziy T.len J5 (pb_v 0 QF)) (Jf _)) (ZL (Qx (i:=2) scH.nd rfl (fk rfl) (Ul Ur (pv 0) (pv 1) (fun _ _=>rfl)))) ziS)
  (ZL (ZE (zmy (zpY (JD Q6 (pv 2) (zq9 znX T.int boot_int (ztC (zmz zre (pv 2) (JD ztJ JB JB) (Jf _)) QF)))
   (zpY (JD Q5 (JD Q5 (JD UO (pv 2) JB) (JD Q6 JB (pv 1))) JB) (pb_i QF))))))),?_⟩
 refine⟨_,rfl,_,rfl,a,_,rfl,.inl v,_,_,rfl,rfl,_,rfl,?_⟩;have fin:∀c:Int,tRet (tLst (QE (tOp (rI CMul fun i j=>V.int (i*j)) (tVar 2) (tCB (fun xs H Q=>(∃i,xs=[.int i]/\Q (.int i) H)\/∃k,xs=[.bl k]/\Q (.int (if k then 1 else 0)) H) (QE (tOp (rI0 fun i j=>.bl (decide (j<=i))) (tVar 2) (tOp (rI CPow fun i j=>.int (i ^ j.toNat)) (tC (.int 10)) (tC (.int 18)))) tNil)))
   (QE (tOp (rI0 fun i j=>.int (i+j)) (tOp (rI0 fun i j=>.int (i+j)) (tOp (rI (fun _ j=>0<j) fun i j=>.int (i % j)) (tVar 2) (tC (.int 2305843009213693951))) (tOp (rI CMul fun i j=>V.int (i*j)) (tC (.int 7919)) (tVar 1))) (tC (.int 3))) (QE (tC (.int 0)) tNil))))
   { nx:=fun _ H'=>Q .non H',rt:=Q } [some (.ref a),some (.int k),some (.int c)] H:=by
  intro c;refine⟨_,rfl,_,rfl,_,_,rfl,rfl,⟨by decide,by decide,by decide⟩,_,_,rfl,rfl,.inr ⟨_,rfl,_,_,rfl,rfl,.inr ?_,?_⟩⟩;split <;> decide;refine⟨_,rfl,_,_,rfl,rfl,(by show(0:Int)<2305843009213693951;decide),_,rfl,_,_,rfl,rfl,.inl ⟨by decide,by decide⟩,_,_,rfl,rfl,_,_,rfl,rfl,(by show 3<=sizeLine;decide),fun l u=>?_⟩;refine q l _ u ⟨_,_,_,JE,?_,?_,aO _,aO _⟩ (zow u);lia;lia
 refine zuo (fun c=>?_) (fun c=>?_);have y:k.toNat<ns.length:=by rw[aG]at c;lia
 refine⟨_,rfl,_,rfl,a,_,_,V.int (ns[k.toNat]),rfl,rfl,v,?_,?_⟩;exact zjz C (by rw[aT,au y];rfl);exact fin _;exact fin 0
def zeU(Z:ZZ):Prop:=FQ Z "_law_hand" (top 42) ["_law_script","_law_k"] 1 (VG Z.K)
theorem zgF(D:Dq Z.K Z.mg "_law_hand" (top 42) ["_law_script","_law_k"]) (T:Txt Z.mg):zeU Z:=by obtain⟨f,fd,D⟩:=D;exact⟨f,fd,D,zhW D T⟩
theorem zhB{H:Hp}{hd:aj}{o:HO}:zvm hd H (upd H hd o):=fun b u e n=>by rw[Jh n];exact e
theorem scT:Uv ["_law_hand_here","_law_many","_law_digit","_law_turn","_law_mixed","_law_odd"] ["_law_hand_here","_law_many"] (JJ (top 43)):=⟨rfl,rfl,rfl,by decide +kernel,rfl,by decide +kernel,by decide +kernel⟩
theorem zo0{f:aj}{fd:dM}(D:Def K mg "_law_take" (top 43) ["_law_hand_here","_law_many"] f fd) (T:Txt mg):FnOk P w K mg base CX0 1 f fd ["_law_hand_here","_law_many"] zpT:=by
 refine D.F.ok scT (fun vs H Q E h=>?_) (fun y A outer s H vs Q E I h=>?_);obtain⟨hd,many,n,rfl,_⟩:=h;rfl;obtain⟨hd,many,n,rfl,⟨d,m,t,u,m0,x,t0,t1⟩,G,v,C,q⟩:=h;refine⟨_,QB (zqV (ziR Uk (Ul Ur (pv 0) JB (fun _ _=>rfl)) JB (Jf _))
   (QB (Qx (i:=2) scT.nd rfl (fk rfl) (JD UO (Ul Ur (pv 0) JB (fun _ _=>rfl)) (pv 1)))
   (QB (VF (JD VP (Ul Ur (pv 0) JB (fun _ _=>rfl)) (pv 1)) (pg_sub (pv 0) JB set_list))
   (ZL (ZE (pv 2))))) ziS)
  (QB (VF (JD Q5 (Ul Ur (pv 0) JB (fun _ _=>rfl)) JB) (pg_sub (pv 0) JB set_list))
  (QB (Qx (i:=3) scT.nd rfl (fk rfl) (Ul Ur (pv 0) JB (fun _ _=>rfl)))
  (QB (Qx (i:=4) scT.nd rfl (fk rfl) (JD UO (JD Q6 (Ul Ur (pv 0) JB (fun _ _=>rfl)) (JD Q5 (JD Q5 JB (JD Q6 (JD Q6 JB (pv 3)) (pv 3))) (JD Q6 JB (pv 3)))) JB))
  (QB (Qx (i:=5) scT.nd rfl (fk rfl) (JD Q5 (JD Q5 (JD UO (pv 4) JB) (JD Q6 (pv 3) JB)) JB))
  (QB (Qx (i:=4) scT.nd rfl (fk rfl) (JD UO (JD Q6 (pv 4) (pv 5)) JB))
  (ZL (ZE (JD UO (JD Q5 (JD VP (pv 4) JB) (JD VP (pv 4) JB)) (pv 1))))))))),?_⟩
 refine⟨_,rfl,hd,_,_,_,rfl,rfl,.of u,rfl,_,_,rfl,rfl,_,rfl,?_⟩;refine zuo (fun c=>?_) (fun c=>?_);refine⟨_,rfl,hd,_,_,_,rfl,rfl,.of u,rfl,_,rfl,_,_,rfl,rfl,v,?_⟩;refine⟨_,rfl,hd,_,_,_,rfl,rfl,.of u,rfl,_,rfl,_,_,rfl,rfl,⟨v,C⟩,?_⟩;refine⟨_,rfl,hd,_,_,0,rfl,rfl,u,rfl,?_⟩;refine⟨_,rfl,?_⟩;exact q _ _ (nT _ (by lia)) (lZ _ v) ⟨_,_,_,JE,m0,x,t0,by lia⟩ zhB;refine⟨_,rfl,hd,_,_,_,rfl,rfl,.of u,rfl,_,_,rfl,rfl,?_⟩;refine⟨_,rfl,hd,_,_,2,rfl,rfl,u,rfl,?_⟩;refine⟨_,rfl,hd,_,_,_,rfl,rfl,.of JE,rfl,?_⟩;refine⟨_,rfl,hd,_,_,_,rfl,rfl,.of JE,rfl,_,rfl,_,_,rfl,rfl,.inl ⟨by decide,by decide⟩,_,rfl,_,_,rfl,rfl,.inr ⟨by lia,by lia⟩,_,_,rfl,rfl,_,rfl,_,_,rfl,rfl,.inl ⟨by decide,by decide⟩,_,_,rfl,rfl,_,_,rfl,rfl,.inl ⟨by lia,by lia⟩,_,_,rfl,rfl,(by show(0:Int)<2305843009213693921;decide),?_⟩;refine⟨_,rfl,_,_,rfl,rfl,(by show(0:Int)<1000003;decide),_,rfl,_,_,rfl,rfl,.inr ⟨by decide,by decide⟩,_,_,rfl,rfl,_,_,rfl,rfl,?_⟩;refine⟨_,rfl,_,rfl,_,_,rfl,rfl,.inl ⟨by lia,by lia⟩,_,_,rfl,rfl,(by show(0:Int)<2305843009213693907;decide),?_⟩;refine⟨_,rfl,_,_,rfl,rfl,⟨by decide,by decide⟩,_,rfl,_,_,rfl,rfl,⟨by decide,by decide⟩,_,_,rfl,rfl,_,rfl,_,_,rfl,rfl,v,?_⟩;exact q _ _ (nT _ (by lia)) (lZ _ v) ⟨_,_,_,JE,m0,x,by lia,by lia⟩ zhB
theorem zhT{f:aj}{fd:dM}(D:Def K mg "_law_take" (top 43) ["_law_hand_here","_law_many"] f fd) (T:Txt mg):FnOk P w K mg base CX0 1 f fd ["_law_hand_here","_law_many"] (spD K 2 UJ) :=
 (zo0 D T).imp zoq
def Y3(Z:ZZ):Prop:=FQ Z "_law_take" (top 43) ["_law_hand_here","_law_many"] 1 (spD Z.K 2 UJ)
theorem zgE(D:Dq Z.K Z.mg "_law_take" (top 43) ["_law_hand_here","_law_many"]) (T:Txt Z.mg):Y3 Z:=by obtain⟨f,fd,D⟩:=D;exact⟨f,fd,D,zhT D T⟩
def Vj:GD:=fun ts n R=>match ts with
 | [h,.list xs]=>h=HAND/\xs≠[]/\xs.length<=1000000/\n<=1000000000000/\∀x∈xs,R x (n+1)
 | [h,.tuple xs]=>h=HAND/\xs≠[]/\xs.length<=1000000/\n<=1000000000000/\∀x∈xs,R x (n+1)
 | _=>False
theorem zdi{xs:qD}{n:Nat}{R:qN}(h0:xs≠[])(h1:xs.length<=1000000)(o:n<=1000000000000)(h:∀x∈xs,R x (n+1)):Vj [HAND,.list xs] n R:=⟨rfl,h0,h1,o,h⟩
def Y2(Z:ZZ):Prop:=FQ Z "_law_pick" (top 44) ["_law_hand_here","_law_some"] 2 (spD Z.K 2 Vj)
theorem zhU(D:Dq Z.K Z.mg "_law_pick" (top 44) ["_law_hand_here","_law_some"]) (G:Y3 Z) (T:Txt Z.mg):Y2 Z:=by
 refine' okQ D (fnS (N:=["_law_hand_here","_law_some"]) (by decide +kernel)) rfl fun f x A outer s H E y=>⟨_,(Jc (Je (Jn (dlv 1) (dl (Jd G y (dbv 0 (dbc (JA Qq Qm T.len J5 (Ji (dlv 1) Jq Jt)) Ja))))))),?_⟩;intro ts n R I h;unfold Vj at h;split at h
 ·rename_i hd xs;obtain⟨rfl,h0,h1,u,h⟩:=h;have C:0<xs.length:=oZ.mpr h0;wp_walk using Ys (by lia) (by lia) u (fun r o v=>?_);have l:r.toNat<xs.length:=by lia
  rw[Zf (zjz o (au l))];exact h _ (eK l)
 ·rename_i hd xs;obtain⟨rfl,h0,h1,u,h⟩:=h;have C:0<xs.length:=oZ.mpr h0;wp_walk using Ys (by lia) (by lia) u (fun r o v=>?_);have l:r.toNat<xs.length:=by lia
  rw[Vy (zjz o (au l))];exact h _ (eK l)
 exact h.elim
def zde:GD:=fun ts n R=>match ts with
 | [h]=>h=HAND/\n<=1000000000000/\∀b:Int,1<=b->b<=64->R (.int b) (n+1)
 | _=>False
theorem zjy{n:Nat}{R:qN}(l:n<=1000000000000)(h:∀b:Int,1<=b->b<=64->R (.int b) (n+1)):zde [HAND] n R:=⟨rfl,l,h⟩
def zeV(Z:ZZ):Prop:=FQ Z "_law_bits" (top 45) ["_law_hand_here"] 3 (spD Z.K 1 zde)
theorem zhX(D:Dq Z.K Z.mg "_law_bits" (top 45) ["_law_hand_here"]) (u:Y2 Z) (T:Txt Z.mg):zeV Z:=by refine' okQ D (fnS (N:=["_law_hand_here"]) (by decide +kernel)) rfl fun f l A outer s H E o=>⟨_,(Jc (Je (Jd u o (dbv 0 (dbc (JL (J9 (dbc Jg (dbc Jg (dbc Jg (dbc Jg (dbc Jg (dbc Jg (dbc Jg (dbc Jg (dbc Jg (dbc Jg Ja)))))))))))) Ja))))),?_⟩;intro ts n R v h;unfold zde at h;split at h;obtain⟨rfl,h1,h⟩:=h;simp only[ZA,Zz,ZB,Zy,u_dC,Zh,Zu,Zw,Zv,ZQ,Zg,Z1,Z3,ZS,ZR,Z2,Zx,ZH,YR,YC,YD,YQ,YE,YF,Y0,Yj,Yk,oSub,oMul,oMod,Uj,oShl,oShr,oXor,oAnd,isNone,isInt,isBool,isTup,l_gI,Ze,Yv,Yb,Yc,Yp,Yr,Yq,Yd,YS,YT,Ym,Yl,Yy,Yz,Yw,Yx,YA,YH,YI,U9,Yo,Yn,U8,YW,YU,YV,Ub,Ua,Us,Uz,Ux,Uy,UD,UW,JZ,JG,capV,aN,dY,aH,bU,eE,fQ,eM,e9,cg,dO,eZ,gC,gD,fR,fS,eP,Nat.reduceAdd,Nat.reduceSub,kj,true_and,and_true,aI,if_true,if_false,ite_true,ite_false,fq,fA,hX,Vj];refine⟨by simp,by decide,h1,fun x hx=>?_⟩;simp only[ay,a8,or_false]at hx;rcases hx with rfl|rfl|rfl|rfl|rfl|rfl|rfl|rfl|rfl|rfl <;> exact h _ (by decide) (by decide);exact h.elim
def zcB:GD:=fun ts n R=>match ts with
 | [h,.int bits]=>h=HAND/\1<=bits/\bits<=64/\n<=1000000000000 - 10/\∀i h:Int,IsBk bits i h->R (.tuple [.int i,.int h]) (n+3)
 | _=>False
theorem zep{bits:Int}{n:Nat}{R:qN}(v:1<=bits)(x:bits<=64)(o:n<=1000000000000 - 10)(h:∀i h:Int,IsBk bits i h->R (.tuple [.int i,.int h]) (n+3)):zcB [HAND,.int bits] n R:=⟨rfl,v,x,o,h⟩
def zcq(Z:ZZ):Prop:=FQ Z "_law_block" (top 46) ["_law_hand_here","_law_bits_here"] 3 (spD Z.K 2 zcB)
theorem zgO(D:Dq Z.K Z.mg "_law_block" (top 46) ["_law_hand_here","_law_bits_here"]) (L:Y2 Z) (y:Y3 Z) (T:Txt Z.mg):zcq Z:=by
 refine' okQ D (fnS (N:=["_law_hand_here","_law_bits_here","_law_height"]) (by decide +kernel)) rfl fun f G A outer s H E v=>⟨_,(Jb (dsv 2 (ndB rfl) (JA (Vg rfl) Zo T.min Ve (Ji (dlv 1) (Ji (dl (Jd L v (dbv 0 (dbc (JL (J9 (dbc Jg (dbc Jg (dbc Jg (dbc Jg (dbc Jg (dbc Jg (dbc (Jd y v (dbv 0 (dbc (JS (dlv 1) dli) Ja))) (dbv 1 Ja)))))))))) Ja)))) Jq UT) Jt))) (Jc (Je (Jr (dbc (znC (dl (Jd y v (dbv 0 (dbc (Qi dli (dl (Qj (dlv 1) (dlv 2)))) Ja)))) (dl (Qi dli (dlv 2)))) (dbv 2 Ja)))))),?_⟩;intro ts n R hl h;unfold zcB at h;split at h;rename_i hd bits;obtain⟨rfl,b0,b1,hn,h⟩:=h;simp only[ZA,Zz,ZB,Zy,u_dC,Zh,Zu,Zw,Zv,ZQ,Zg,Z1,Z3,ZS,ZR,Z2,Zx,ZH,YR,YC,YD,YQ,YE,YF,Y0,Yj,Yk,oSub,oMul,oMod,Uj,oShl,oShr,oXor,oAnd,isNone,isInt,isBool,isTup,l_gI,Ze,Yv,Yb,Yc,Yp,Yr,Yq,Yd,YS,YT,Ym,Yl,Yy,Yz,Yw,Yx,YA,YH,YI,U9,Yo,Yn,U8,YW,YU,YV,Ub,Ua,Us,Uz,Ux,Uy,UD,UW,JZ,JG,capV,aN,dY,aH,bU,eE,fQ,eM,e9,cg,dO,eZ,gC,gD,fR,fS,eP,Nat.reduceAdd,Nat.reduceSub,kj,true_and,and_true,aI,if_true,if_false,ite_true,ite_false,fq,fA,hX,Vj,UJ];refine⟨by lia,by lia,by lia,fun r r0 r1=>⟨by simp,by decide,by lia,fun x hx=>?_⟩⟩;have I:∃b:Int,x=.int b/\0<=b:=by simp only[ay,a8,or_false]at hx;rcases hx with h|h|h|h|h|h|h|h <;> first|exact⟨_,h,by decide⟩|exact⟨_,h,by lia⟩
 obtain⟨b,rfl,bb⟩:=I;simp only[ZA,Zz,ZB,Zy,u_dC,Zh,Zu,Zw,Zv,ZQ,Zg,Z1,Z3,ZS,ZR,Z2,Zx,ZH,YR,YC,YD,YQ,YE,YF,Y0,Yj,Yk,oSub,oMul,oMod,Uj,oShl,oShr,oXor,oAnd,isNone,isInt,isBool,isTup,l_gI,Ze,Yv,Yb,Yc,Yp,Yr,Yq,Yd,YS,YT,Ym,Yl,Yy,Yz,Yw,Yx,YA,YH,YI,U9,Yo,Yn,U8,YW,YU,YV,Ub,Ua,Us,Uz,Ux,Uy,UD,UW,JZ,JG,capV,aN,dY,aH,bU,eE,fQ,eM,e9,cg,dO,eZ,gC,gD,fR,fS,eP,Nat.reduceAdd,Nat.reduceSub,kj,true_and,and_true,aI,if_true,if_false,ite_true,ite_false,fq,fA,hX,UJ];have key:∀m:Int,0<=m->m<=bits->(CPow 1 (bits - m)/\(0:Int)<1*2 ^ (bits - m).toNat/\1*2 ^ (bits - m).toNat<(2:Int) ^ 128/\n+1+1<=1000000000000/\∀r:Int,0<=r->r<1*2 ^ (bits - m).toNat->CPow 1 m/\CMul r (1*2 ^ m.toNat)/\R (.tuple [.int (r*(1*2 ^ m.toNat)),.int m]) (n+1+1+1)):=by intro m m0 S;have C:(1:Int)*2 ^ (bits - m).toNat=2 ^ (bits - m).toNat:=cx _;have J:(1:Int)*2 ^ m.toNat=2 ^ m.toNat:=cx _;rw[C,J];refine⟨cpow (by lia) (by lia),Qc _,zms (by lia),by lia,fun k U Y=>⟨cpow m0 (by lia),.inl ⟨by lia,?_⟩,?_⟩⟩;have:=zgB (k:=(bits - m).toNat) (by lia);lia;exact h _ m ⟨m0,S,k,U,rfl,Y⟩
 exact key (if b<bits then b else bits) (by split <;> lia) (by split <;> lia);exact h.elim
inductive Wc:List af->Nat->(af->Nat->Prop)->Prop
 | c {bits i h:Int} {n:Nat} {R:qN} (b0:1<=bits) (b1:bits<=64) (hn:n<=1000000000000 - 100) (B:IsBk bits i h) (h':∀j g:Int,IsBk bits j g->R (.tuple [.int j,.int g]) (n+7)):Wc [HAND,.int bits,.tuple [.int i,.int h]] n R
def zeT(Z:ZZ):Prop:=FQ Z "_law_near" (top 47) ["_law_hand_here","_law_bits_here","_law_block_here"] 4 (spD Z.K 3 Wc)
theorem zhV(D:Dq Z.K Z.mg "_law_near" (top 47) ["_law_hand_here","_law_bits_here","_law_block_here"]) (I:Y2 Z) (C:zcq Z) (T:Txt Z.mg):zeT Z:=by
 refine' okQ D (fnS (N:=["_law_hand_here","_law_bits_here","_law_block_here","_law_begin","_law_height","_law_size","_law_some"]) (by decide +kernel)) rfl fun f G A outer s H E v=>⟨_,(Jb (QO (Jk 2) (JT rfl (Jo (dgv 3 (ndB rfl)) (Jo (dgv 4 (ndB rfl)) JQ)))) (Jb (dsv 5 (ndB rfl) (Qi dli (dlv 4))) (Jb (Q4 (i:=6) (ndB rfl) rfl (fk rfl) (J9 (dbv 2 (dbc (Jr (dbv 3 (dbc (JA (zfy rfl) znj T.max zfz (Ji dli (Ji (dl (Qj (dlv 4) dli)) Jq Zt) zlS)) Ja))) (dbc (Jd C v (dbv 0 (dbv 1 Ja))) (dbc (Jd C v (dbv 0 (dbv 1 Ja))) Ja)))))) (Jb (Js (Jj Uk gp_B (dlv 4) dli (Jf _)) (Jc (QC 6 (Jr (dbc (JS (dlv 3) (dl (zjq (dlv 5) dli))) (dbc (Qj (dlv 4) dli) Ja))))) Ju) (Jb (Js (Jj (Qw v) Qv (dlv 4) (dlv 1) (Jf _)) (Jb (QC 6 (Jr (dbc (Qj (dlv 3) (dl (zqj (dlv 3) (dl (znC dli (dlv 5)))))) (dbc (JS (dlv 4) dli) Ja)))) (Jc (QC 6 (Jr (dbc (zqh (dlv 3) (dlv 5)) (dbv 4 Ja)))))) Ju) (Jb (Js (Jj Qn Qk (dl (JS (dlv 3) (dl (znC dli (dlv 5))))) (dl (Qi dli (dlv 1))) (Jf _)) (Jc (QC 6 (Jr (dbc (JS (dlv 3) (dlv 5)) (dbv 4 Ja))))) Ju) (Uc 6 (Jc (Je (Jd I v (dbv 0 (dbv 6 Ja)))))))))))),?_⟩;intro ts n R L y;obtain @⟨bits,i,h,n,R,b0,b1,hn,B,y⟩:=y;have h0:=B.1;have h1:=B.2.1;have o:∀j g:Int,IsBk bits j g->∀m,m=n+7->R (.tuple [.int j,.int g]) m:=fun j g b m e=>e▸y j g b;have J:IsBk bits i (if h - 1 > 0 then h - 1 else 0):=by
  split;exact B.low (by lia);by_cases z:h=0;subst z;exact B;have:h=1:=by lia
  subst this;exact B.low (by decide)
 wp_walk using zep ?_ ?_ ?_ (fun _ _ _=>?_),zdi ?_ ?_ ?_ ?_;all_goals first
  | lia
  | exact cpow (by lia) (by lia)
  | exact zxG
  | exact zve
  | (rw[QS];exact Int.mul_pos (by decide) (Qc _))
  | (intro z;simp at z;done)
  | (simp only[eM,e9,aH,bU];decide)
  | skip
 all_goals
  simp only[eM,e9,List.forall_mem_cons,QS]at *;repeat' (with_reducible refine oO ?_ ?_)
 all_goals first
  | exact o _ _ B _ rfl
  | exact o _ _ J _ rfl
  | exact o _ _ (by assumption) _ rfl
  | exact o _ _ (B.up (by lia)) _ rfl
  | exact o _ _ (B.abt (by lia)) _ rfl
  | exact o _ _ (B.oth (by lia)) _ rfl
  | exact o _ _ (B.nxt (by assumption)) _ rfl
  | (intro x hx;simp at hx)
inductive V9:List af->Nat->(af->Nat->Prop)->Prop
 | c {bits most:Int} {n:Nat} {R:qN} (b0:1<=bits) (b1:bits<=64) (m0:0<=most) (m1:most<=1000) (hn:n<=1000000000000 - 100000) (h:∀(bs:qB) (m:Nat),Bks bits bs->bs.length<=most.toNat->m<=n+1+12*most.toNat->R (.list (pD bs)) m):V9 [HAND,.int bits,.int most] n R
def zbW(Z:ZZ):Prop:=FQ Z "_law_blocks" (top 48) ["_law_hand_here","_law_bits_here","_law_most"] 5 (spD Z.K 3 V9)
theorem zfD(D:Dq Z.K Z.mg "_law_blocks" (top 48) ["_law_hand_here","_law_bits_here","_law_most"]) (Lj:Y3 Z) (Lp:zcq Z) (L3:zeT Z) (Lk:Y2 Z) (T:Txt Z.mg):zbW Z:=by
 refine' okQ D (fnS (N:=["_law_hand_here","_law_bits_here","_law_most","_law_found","_law_k","_law_block_here"]) (by decide +kernel)) rfl fun f cdv A outer s H E G=>⟨_,(Jb (Q4 (i:=3) (ndB rfl) rfl (fk rfl) (J9 Ja)) (Jb (QJ b6 rfl (zfu T.ran (Jd Lj G (dbv 0 (dbc (JS (dlv 2) dli) Ja)))) (dgv 4 (ndB rfl)) (Jb (dsv 5 (ndB rfl) (Jd Lp G (dbv 0 (dbv 1 Ja)))) (Jb (Js (JW (Yt (Jj (QX G) QV (Uo 3) (dl (JL (J9 Ja))) (Jf _)) (YO (Jj Uk gp_B (dl (Jd Lj G (dbv 0 (dbc Jg Ja)))) dli (Jf _))))) (Jc (dsv 5 (ndB rfl) (Jd L3 G (dbv 0 (dbv 1 (dbc (zqk Lk G (Ji (dlv 0) (Ji (Uo 3) Jq Jt) Jt)) Ja)))))) Ju) (Jc (QC 3 (Jk 5)))))) (Uc 3 (Jc (Je (Jk 3)))))),?_⟩;intro ts n R hl hh;obtain @⟨bits,most,n,R,b0,b1,m0,m1,hn,hh⟩:=hh;wp_walk using Ys ?_ ?_ ?_ (fun r r0 r1=>?_);lia;lia;lia;lia;lia;refine Q9 (fun k Y m=>∃bs:List (Int×Int),∃I U,Y=[some (.val HAND),some (.val (.int bits)),some (.val (.int most)),some (.own (pD bs)),I,U]/\Bks bits bs/\bs.length=k/\m<=n+1+12*k) ⟨[],_,_,rfl,(fun b J=>nomatch J),rfl,by lia⟩ ?_ ?_
 ·rintro k t Y m K et ⟨bs,I,U,rfl,B,S,hm⟩ hK;obtain⟨hk2,rfl⟩:=zdT et;have hk3:k<1000:=by lia
  have fin:∀(i h:Int) (x4 x5:Option Cell) (L:Nat),IsBk bits i h->L<=m+12->K [some (.val HAND),some (.val (.int bits)),some (.val (.int most)),some (.own (pD bs++[.tuple [.int i,.int h]])),x4,x5] L:=fun i h x4 x5 L C hm' =>
   hK _ _ ⟨bs++[(i,h)],_,_,by rw[<- YM],B.app C,by simp[S],by lia⟩
  wp_walk using zep ?_ ?_ ?_ (fun i h C=>?_),Ys ?_ ?_ ?_ (fun q q0 q1=>?_),zdi ?_ ?_ ?_ ?_,Wc.c ?_ ?_ ?_ ?_ (fun j g C'=>?_);all_goals first
   | lia
   | exact zp0
   | exact zri
   | (rw[Jz];lia)
   | decide
   | (intro z
      have y:gq (.list (pD bs)) (.list [])=false:=by assumption
      rw[zr0]at y;have y2:bs=[]:=by have:=congrArg c8 z;rw[Jz]at this;exact fW.mp this
      rw[y2]at y;cases y)
   | exact fin _ _ _ _ _ (by assumption) (by lia)
   | skip
  all_goals
   intro x hx;obtain⟨b,J,rfl⟩:=bc.mp hx;refine⟨zkY,?_⟩;have C0:=B b J;wp_walk using Wc.c ?_ ?_ ?_ ?_ (fun j g C'=>?_);all_goals first
    | lia
    | exact C0
    | (rw[Jz];lia)
    | exact fin _ _ _ _ _ (by assumption) (by lia)
 ·rintro Y m ⟨bs,I,U,rfl,B,S,hm⟩;have el:bs.length<=most.toNat:=by
   rw[S];unfold Qo;simp;lia
  wp_walk;exact hh bs m B el (by lia)
inductive zcA:List af->Nat->(af->Nat->Prop)->Prop
 | c {bits most:Int} {n:Nat} {R:qN} (b0:1<=bits) (b1:bits<=64) (m0:0<=most) (m1:most<64) (hn:n<=1000000000000 - 100000) (h:∀(bs:qB) (m:Nat),Ptc bits bs->bs.length<=most.toNat->m<=n+1+12*most.toNat->R (.tuple (pD bs)) m):zcA [HAND,.int bits,.int most] n R
def zel(Z:ZZ):Prop:=FQ Z "_law_patch" (top 49) ["_law_hand_here","_law_bits_here","_law_most"] 6 (spD Z.K 3 zcA)
theorem zgN(D:Dq Z.K Z.mg "_law_patch" (top 49) ["_law_hand_here","_law_bits_here","_law_most"]) (Lr:zbW Z) (T:Txt Z.mg):zel Z:=by
 refine' okQ D (fnS (N:=["_law_hand_here","_law_bits_here","_law_most","_law_found","_law_begin","_law_height"]) (by decide +kernel)) rfl fun f cdv A outer s H E hr=>⟨_,(Jb (Q4 (i:=3) (ndB rfl) rfl (fk rfl) (J9 Ja)) (Jb (QJ b6 rfl (VN (Jd Lr hr (dbv 0 (dbv 1 (dbv 2 Ja))))) (JT rfl (Jo (dgv 4 (ndB rfl)) (Jo (dgv 5 (ndB rfl)) JQ))) (Jc (Js (JY (dl (JA (Vf rfl) Zm T.all Vd (Ji (dl (JL (dnc ["_law_one"] [4,5] (zpy (Uo 3)) (fun _ _ _ _=>(dgv 0 (ndB rfl))) (fun _ _ _ _=>(zqi (Qs Qn Qk (dl (JS (dlv 1) (dl (Qi dli (dlv 2))))) (dl (Jn (dlv 0) dli)) (Jf _)) (Q1 (Qs Qn Qk (dl (JS (dl (Jn (dlv 0) dli)) (dl (Qi dli (dl (Jn (dlv 0) dli)))))) (dlv 1) (Jf _)))))))) Jq Ut)))) (Jc (QC 3 (Jr (dbv 4 (dbv 5 Ja))))) Ju))) (Uc 3 (Jc (Je (UE U3 U0 T.tup QA (Ji (dl (JL (zis hr T.srt (dlv 3) Jt))) Jq UT))))))),?_⟩;intro ts n R hl U;obtain @⟨bits,most,n,R,b0,b1,m0,m1,hn,U⟩:=U;wp_walk using V9.c ?_ ?_ ?_ ?_ ?_ (fun bs m B hlen hm=>?_);lia;lia;lia;lia;lia;refine Q9 (fun k S J=>J=m/\∃cs:List (Int×Int),∃I L,S=[some (.val HAND),some (.val (.int bits)),some (.val (.int most)),some (.own (pD cs)),I,L]/\Bks bits cs/\(cs.Pairwise fun a b=>eB a<=b.1\/eB b<=a.1)/\cs.length<=k) ⟨rfl,[],_,_,rfl,(fun b y=>nomatch y),.nil,ar _⟩ ?_ ?_
 ·rintro k t S J K et ⟨rfl,cs,I,L,rfl,C,u,Y⟩ hK;obtain⟨i,h,eb,rfl⟩:=UP et;have y:=B _ (aA eb);have h0:0<=h:=y.1;have h1:h<=bits:=y.2.1;have hk3:k<64:=by
   have:=(av.mp eb).1;lia
  wp_walk;refine UU (D:=prD) (fun b=>.bool (decide (i+2 ^ h.toNat<=b.1)||decide (eB b<=i))) (by lia) ?_ ?_
  ·rintro⟨i',h'⟩ x K2 X2 hK2;have G:=C _ x;have h0':0<=h':=G.1;have h1':h'<=bits:=G.2.1;wp_walk;exact cpow (by lia) (by lia);have hc:i+2 ^ h.toNat<=i':=by rw[QS]at hc;exact hc
   rw[decide_eq_true hc]at hK2;exact hK2;exact cpow (by lia) (by lia);have hc:¬i+2 ^ h.toNat<=i':=by rw[QS]at hc;exact hc
   rw[decide_eq_false hc]at hK2;rw[QS];exact hK2
  ·wp_walk using Zp ?_;rw[Jz];lia;have al:∀b∈cs,i+2 ^ h.toNat<=b.1\/eB b<=i:=fun b y=>by
    have:=b5.mp hc b y;simpa using this
   refine hK _ _ ⟨rfl,cs++[(i,h)],_,_,by rw[<- YM],C.app y,?_,by simp;lia⟩;rw[cQ];refine⟨u,e8 _ _,fun a ha b x=>?_⟩;cases aC.mp x;rcases al a ha with z|z;exact .inr z;exact .inl z;exact hK _ _ ⟨rfl,cs,_,_,rfl,C,u,by lia⟩
 ·rintro S J ⟨rfl,cs,I,L,rfl,C,u,Y⟩;rw[Jz]at Y;wp_walk;refine zt9 b1 C u (by lia) fun es P pm=>?_;wp_walk;exact U es _ P (by have:=pm.length_eq;lia) (by lia)
inductive zcz:List af->Nat->(af->Nat->Prop)->Prop
 | c {bits most:Int} {n:Nat} {R:qN} (b0:1<=bits) (b1:bits<=64) (m0:0<=most) (m1:most<64) (hn:n<=1000000000000 - 100000) (h:∀(rs:RL) (m:Nat),Rls bits rs->rs.length<=most.toNat->m<=n+1+13*most.toNat->R (.tuple (L2.rD rs)) m):zcz [HAND,.int bits,.int most] n R
def zek(Z:ZZ):Prop:=FQ Z "_law_rules" (top 50) ["_law_hand_here","_law_bits_here","_law_most"] 6 (spD Z.K 3 zcz)
theorem zgM(D:Dq Z.K Z.mg "_law_rules" (top 50) ["_law_hand_here","_law_bits_here","_law_most"]) (Lr:zbW Z) (Lj:Y3 Z) (T:Txt Z.mg):zek Z:=by
 refine' okQ D (fnS (N:=["_law_hand_here","_law_bits_here","_law_most","_law_found","_law_block_here"]) (by decide +kernel)) rfl fun f cdv A outer s H E x=>⟨_,(Jb (zno (i:=3) (ndB rfl) rfl (fk rfl)) (Jb (QJ b6 rfl (VN (Jd Lr x (dbv 0 (dbv 1 (dbv 2 Ja))))) (dgv 4 (ndB rfl)) (Jc (zjo 3 (JH x) (Jk 4) (Jd Lj x (dbv 0 (dbc Jg Ja)))))) (Jc (Je (UE U3 U0 T.tup QA (Ji (dl (JL (znt 3 rfl x T.srt))) Jq UT)))))),?_⟩;intro ts n R hl J;obtain @⟨bits,most,n,R,b0,b1,m0,m1,hn,J⟩:=J;wp_walk using V9.c ?_ ?_ ?_ ?_ ?_ (fun bs m B S hm=>?_);lia;lia;lia;lia;lia;refine Q9 (fun k I u=>u<=m+k/\∃rs:RL,∃y,I=[some (.val HAND),some (.val (.int bits)),some (.val (.int most)),some (.dtt (kR rs)),y]/\Rls0 bits rs/\rs.length<=k) ⟨ar _,[],_,rfl,⟨(fun b C=>nomatch C),by simp⟩,ar _⟩ ?_ ?_
 ·rintro k t I u K Y ⟨o,rs,y,rfl,A,L⟩ hK;obtain⟨i,h,U,rfl⟩:=UP Y;have C:=B _ (aA U);have hk3:k<64:=by
   have:=(av.mp U).1;lia
  wp_walk using Ys ?_ ?_ ?_ (fun r r0 r1=>?_);lia;lia;lia;rw[zt5];lia;rw[zqQ];exact hK _ _ ⟨by lia,_,_,rfl,A.put C r0 (by lia),by have:=zoM (rs:=rs) (k:=(i,h)) (s:=r);lia⟩
 ·rintro I u ⟨o,rs,y,rfl,A,L⟩;rw[Jz]at L o;wp_walk;refine⟨rs,rfl,by lia,A.ok b1,fun G pm pw=>?_⟩;wp_walk;exact J G u (A.sort b1 pm pw) (by rw[pm.length_eq];lia) (by lia)
theorem zpM{α:Type}{r:α->α->Prop}(u:∀a b c,r a b->r b c->r a c):∀{l:List α},l.Pairwise r->∀q∈l.zip l.tail,r q.1 q.2
 | [],_=>by simp
 | [a],_=>by simp
 | a::b::l,h=>by
  rw[bK]at h;intro q o;have o:q=(a,b)\/q∈(b::l).zip (b::l).tail:=by simpa using o
  rcases o with rfl|o;exact h.1 b (.head _);exact zpM u h.2 q o
theorem zsj(a b c:(Int×Int)×Int)(h:bkLt a.1 b.1)(k:bkLt b.1 c.1):bkLt a.1 c.1:=by unfold bkLt at *;lia
theorem zqH{bits:Int}(I:0<=bits){rs:RL}(h:Rls bits rs):rlsD bits (.tuple (L2.rD rs))=true:=by
 have e:rlsD bits (.tuple (L2.rD rs))=((L2.rD rs).all (Qg bits)&&(((L2.rD rs).zip (L2.rD rs).tail).all fun q=>bLt q.1 q.2)):=rfl;have v:(L2.rD rs).zip (L2.rD rs).tail=(rs.zip rs.tail).map fun q=>(fJ [.tuple [.int q.1.1.1,.int q.1.1.2],.int q.1.2],fJ [.tuple [.int q.2.1.1,.int q.2.1.2],.int q.2.2]):=by unfold L2.rD;rw[<- vG,wK];rfl
 rw[e,bq,b5,b5];constructor;intro x hx;obtain⟨r,y,rfl⟩:=bc.mp hx;obtain⟨h1,o,G⟩:=h.1 r y;show(J0 bits (.tuple [.int r.1.1,.int r.1.2])&&sgD (.int r.2))=true;rw[(zfi I).mpr h1,dS];show(decide (0<=r.2)&&decide (r.2<=1))=true;rw[decide_eq_true o,decide_eq_true G];rfl;rw[v];intro x hx;obtain⟨q,C,rfl⟩:=bc.mp hx;have:=zpM zsj h.2 q C;unfold bkLt at this;dsimp only[bLt];exact decide_eq_true this
theorem ztd{rs:RL}(l:rs.length<=100000):PlnD (.tuple (L2.rD rs)):=VS (by simp[L2.rD];lia) fun t o=>by obtain⟨q,_,rfl⟩:=bc.mp o;exact zgC (zgC UX UX) UX
theorem zlX{bits:Int}(y:0<=bits){rs:RL}(Q:Rls bits rs):∀x,SgX rs x 1->0<=x/\x<2 ^ bits.toNat:=fun x h=>by rcases h with⟨e,_⟩|⟨r,v,l,_⟩;lia;have:=((Q.1 r v).1).bounds y;unfold inb eB at l;lia
inductive U2:List af->Nat->(af->Nat->Prop)->Prop
 | c {bits:Int} {bs:BL} {n:Nat} {R:qN} (b0:0<=bits) (b1:bits<=64) (B:Bks bits bs) (l':SrtL rkB bs) (l:bs.length<=7000) (hm:∀ps,CanP (fun x=>mB x bs) ps->zaX bits ps<=31) (h:∀ps,CanP (fun x=>mB x bs) ps->R (.int (zaX bits ps)) n):U2 [.int bits,.tuple (pD bs)] n R
def zej(Z:ZZ):Prop:=FQ Z "_law_shown" (top 51) ["_law_bits_here","_law_patch_here"] 10 (spD Z.K 2 U2)
theorem zgL(D:Dq Z.K Z.mg "_law_shown" (top 51) ["_law_bits_here","_law_patch_here"]) (LV:zeg Z) (LK:zc3 Z) (LN:zdt Z) (L4:zeS Z) (LG:zdV Z) (Lq:ZY Z) (LH:zee Z) (T:Txt Z.mg):zej Z:=by
 refine' okQ D (fnS (N:=["_law_bits_here","_law_patch_here","_law_many","_law_rules_here","_law_paper"]) (by decide +kernel)) rfl fun f cdv A outer s H E G=>⟨_,(Jb (dsv 2 (ndB rfl) (Jd LV G (dbv 0 (dbv 1 Ja)))) (Jb (zqc (i:=3) (j:=4) rfl (ndB rfl) rfl rfl (by decide) rfl rfl (dbc (Jd LK G (dbv 0 (dbv 1 Ja))) (dbc (Jd LN G (dbv 0 (dbv 1 Ja))) Ja))) (Jb (Js (JW (J3 (Jj ZV ZJ (dl (Jd L4 G (dbv 0 (dbv 3 Ja)))) (dl JV) (Jf _)) (J3 (Jj (QX G) QV (dl (JA Qq Qm T.len J5 (Ji (dlv 3) Jq Jt))) (dlv 2) (Jf _)) (Qu (Jj (QX G) QV (dl (Jd LG G (dbv 0 (dbv 3 Ja)))) (dl (Jd Lq G (dbv 1 Ja))) (Jf _)))))) (Jc (Je QH)) Ju) (Jb (Js (JW (J3 (Jj ZV ZJ (dl (Jd LH G (dbv 0 (dbv 1 (dbv 2 (dbv 4 Ja)))))) (dl JV) (Jf _)) (Qu (Jj ZV ZJ (dl (Jd LH G (dbv 0 (dbv 1 (dbc (JS (dlv 2) dli) (dbv 4 Ja)))))) (dl JV) (Jf _))))) (Jc (Je QH)) Ju) (Jc (Je (Jk 2))))))),?_⟩;intro ts n R hl hh;obtain @⟨bits,bs,n,R,b0,b1,B,l',l7,hm,h⟩:=hh;have l:bs.length<=10000:=by lia
 have S:∀ps,CanP (fun x=>mB x bs) ps->zaX bits ps<64:=fun ps C=>by have:=hm ps C;lia
 have w:∀x,mB x bs->0<=x/\x<2 ^ bits.toNat:=fun x hx=>QZ b0 B hx;wp_walk using zcx.c b0 b1 B l' l (fun ps C=>?_),zbJ.c b0 b1 B l' l S (fun ps2 rs C2 Q e2 sg=>?_),zb3.c b0 b1 B l' l (fun L qs C3 lp3 Q3 lq=>?_);have u2:=C2.uniq C fun x=>aU;have u3:=C3.uniq C fun x=>aU;subst u2 u3;have hm':=hm _ C;have lr:rs.length<=31:=by lia
 have ca:∀{I:qN} {J:Nat},I (.bool true) J->Wd [.int bits,.tuple (L2.rD rs)] J I:=fun G=>Wd.c b0 b1 (ztd (by lia)) (by rw[zqH b0 Q];exact G);have cp:∀{I:qN} {J:Nat},I (.tuple (pD L)) J->Vn [.int bits,.tuple (L2.rD rs)] J I:=fun G=>Vn.c b0 b1 Q lr fun Y C4 l4=>by
  have:Y=L:=C4.uniq C fun x=>by by_cases z:0<=x/\x<2 ^ bits.toNat;exact sg x z.1 z.2;exact⟨fun y=>absurd (zlX b0 Q x y) z,fun y=>absurd (w x y) z⟩
  rw[this];exact G
 have cf:∀{I:qN} {J:Nat},I (.tuple (pD L)) J->UZ [.tuple (pD bs)] J I:=fun G=>UZ.c (.inr rfl) b0 b1 B l' fun ps5 C5 _=>by rw[C5.uniq C fun x=>aU];exact G
 have pp:PlnD (.tuple (qs.map rwD)):=VS (by rw[aG];lia) zqD;have s1:∀{I:qN} {J:Nat},I (.bool true) J->Y5 [.int bits,.tuple (pD bs),.int (zaX bits L),.tuple (qs.map rwD)] J I:=fun G=>Y5.c b0 b1 B l' l C pp fun b U=>by rw[U.mpr (zmr Q3 (aO _))];exact G
 have s2:∀{I:qN} {J:Nat},I (.bool false) J->Y5 [.int bits,.tuple (pD bs),.int (zaX bits L+1),.tuple (qs.map rwD)] J I:=fun G=>Y5.c b0 b1 B l' l C pp fun b U=>by
  cases b with
  | false=>exact G
  | true =>exfalso;obtain⟨qs',e,_,_,⟨v,ev,hv⟩,_⟩:=U.mp rfl;have:=ZN (fx e);subst this;have:=Q3.many ev;lia
 wp_walk using ca ?_,cp ?_,cf ?_,s1 ?_,s2 ?_;exact ziX;exact ziX;exact h _ C;rw[zrZ ziX]at hc;cases hc;exact absurd (by simpa[L2.rD] using e2) hc
theorem YK{x:Int}{l m:BL}:mB x (l++m)↔mB x l\/mB x m:=by unfold mB;simp only[aW];constructor;rintro⟨b,o|o,h⟩;exact .inl ⟨b,o,h⟩;exact .inr ⟨b,o,h⟩;rintro(⟨b,o,h⟩|⟨b,o,h⟩);exact⟨b,.inl o,h⟩;exact⟨b,.inr o,h⟩
theorem zmS{x:Int}{l:BL}{k:Nat}{b:Int×Int}(h:l[k]?=some b):mB x (l.take (k+1))↔mB x (l.take k)\/inb b x:=by rw[fV,h,YK];constructor;rintro(h|⟨c,hc,z⟩);exact .inl h;rw[show(some b).toList=[b] from rfl,aC]at hc;subst hc;exact .inr z;rintro(h|h);exact .inl h;exact .inr ⟨b,.head _,h⟩
inductive zb_:List af->Nat->(af->Nat->Prop)->Prop
 | c {bits:Int} {bs:BL} {n:Nat} {R:qN} (b0:0<=bits) (b1:bits<=64) (B:Bks bits bs) (l:bs.length<=100) (hn:n<=1000000000000 - 100000) (h:∀(cs:BL) (m:Nat),Bks bits cs->(∀x,mB x cs↔mB x bs)->cs.length<=2*bs.length->m<=n+bs.length->R (.tuple (pD cs)) m):zb_ [HAND,.tuple (pD bs)] n R
def zdw(Z:ZZ):Prop:=FQ Z "_law_halves" (top 52) ["_law_hand_here","_law_patch_here"] 2 (spD Z.K 2 zb_)
theorem zfC(D:Dq Z.K Z.mg "_law_halves" (top 52) ["_law_hand_here","_law_patch_here"]) (Lj:Y3 Z) (T:Txt Z.mg):zdw Z:=by
 refine' okQ D (fnS (N:=["_law_hand_here","_law_patch_here","_law_found","_law_begin","_law_height"]) (by decide +kernel)) rfl fun f cdv A outer s H E hr=>⟨_,(Jb (Q4 (i:=2) (ndB rfl) rfl (fk rfl) (J9 Ja)) (Jb (QJ b6 rfl (QI (Jk 1)) (JT rfl (Jo (dgv 3 (ndB rfl)) (Jo (dgv 4 (ndB rfl)) JQ))) (Jc (Js (JW (Yt (Jj Uk gp_B (dlv 4) dli (Jf _)) (YO (Jj (UN hr) UF (dl (Jd Lj hr (dbv 0 (dbc Jg Ja)))) dli (Jf _))))) (Jc (znq 2 (JL (J9 (dbc (Jr (dbv 3 (dbc (Qj (dlv 4) dli) Ja))) (dbc (Jr (dbc (JS (dlv 3) (dl (zjq (dl (Qi dli (dlv 4))) dli))) (dbc (Qj (dlv 4) dli) Ja))) Ja)))))) (Jc (QC 2 (Jr (dbv 3 (dbv 4 Ja)))))))) (Uc 2 (Jc (Je (UE U3 U0 T.tup QA (Ji (dlv 2) Jq Jt))))))),?_⟩;intro ts n R hl hh;obtain @⟨bits,bs,n,R,b0,b1,B,l,hn,h⟩:=hh;wp_walk;refine Q9 (fun k ρ J=>J<=n+k/\∃cs:BL,∃c3 Y,ρ=[some (.val HAND),some (.val (.tuple (pD bs))),some (.own (pD cs)),c3,Y]/\Bks bits cs/\(∀x,mB x cs↔mB x (bs.take k))/\cs.length<=2*k) ⟨ar _,[],_,_,rfl,(fun b y=>nomatch y),fun x=>aU,ar _⟩ ?_ ?_
 ·rintro k t ρ J K et ⟨C,cs,c3,Y,rfl,L,G,lc⟩ hK;obtain⟨i,g,U,rfl⟩:=UP et;have kl:=(av.mp U).1;have I:=B _ (aA U);dsimp only at I;have h0:=I.1;have h1:=I.2.1;have kk:k<100:=by lia
  have one:∀m2,m2<=n+(k+1)->K [some (.val HAND),some (.val (.tuple (pD bs))),some (.own (pD cs++[.tuple [.int i,.int g]])),some (.val (.int i)),some (.val (.int g))] m2:=fun m2 h2=>by
   have ep:pD cs++[fJ [.int i,.int g]]=pD (cs++[(i,g)]):=by simp[pD,prD]
   refine hK _ _ ⟨h2,_,_,_,by rw[ep],fun b y=>?_,fun x=>?_,by rw[ba];simp;lia⟩;rcases aW.mp y with y|y;exact L b y;rw[aC]at y;subst y;exact I;rw[YK,zmS U,G];refine or_congr aU ⟨?_,fun z=>⟨_,.head _,z⟩⟩;rintro⟨b,y,z⟩;rw[aC]at y;subst y;exact z
  wp_walk using Ys (by decide) (by decide) ?_ (fun r r0 r1=>?_);lia;exact⟨by lia,by lia⟩;exact⟨by decide,by decide⟩;rw[Jz];show cs.length+2<=_;lia;have e2:(1:Int)*2 ^ g.toNat / 2=2 ^ (g.toNat - 1):=by rw[cx,show g.toNat=g.toNat - 1+1 by lia,bH];simp
  have e3:(2:Int) ^ g.toNat=2 ^ (g.toNat - 1)+2 ^ (g.toNat - 1):=by rw[show g.toNat=g.toNat - 1+1 by lia];exact QR _
  have Bl:=I.low (by lia);have Bu:=I.up (by lia);rw[show(1:Int)*2 ^ g.toNat / 2=2 ^ g.toNat / 2 by rw[cx]];have e4:(2:Int) ^ g.toNat / 2=2 ^ (g.toNat - 1):=by rw[cx]at e2;exact e2
  have ep:pD cs++[fJ [.int i,.int (g - 1)],.tuple [.int (i+2 ^ g.toNat / 2),.int (g - 1)]]=pD (cs++[(i,g - 1),(i+2 ^ g.toNat / 2,g - 1)]):=by simp[pD,prD]
  refine hK _ _ ⟨by lia,_,_,_,by rw[ep],fun b y=>?_,fun x=>?_,by rw[ba];simp;lia⟩;rcases aW.mp y with y|y;exact L b y;simp only[ay,a8,or_false]at y;rcases y with rfl|rfl;exact Bl;exact Bu;rw[YK,zmS U,G];refine or_congr aU ?_;unfold mB inb eB;have S:(g - 1).toNat=g.toNat - 1:=by lia
  have:=Qc (g.toNat - 1);constructor;rintro⟨b,y,z⟩;simp only[ay,a8,or_false]at y;rcases y with rfl|rfl;dsimp only at z ⊢;rw[S]at z;lia;dsimp only at z ⊢;rw[S,e4]at z;lia;intro z;dsimp only at z;rcases fj x (i+2 ^ (g.toNat - 1)) with q|q;exact⟨_,.head _,z.1,by show x<i+2 ^ (g - 1).toNat;rw[S];exact q⟩;exact⟨_,.tail _ (.head _),by show i+2 ^ g.toNat / 2<=x;rw[e4];exact q,by show x<i+2 ^ g.toNat / 2+2 ^ (g - 1).toNat;rw[e4,S];lia⟩;rw[Jz];lia;exact one _ (by lia);rw[Jz];lia;exact one _ (by lia)
 ·rintro ρ J ⟨C,cs,c3,Y,rfl,L,G,lc⟩;rw[Jz]at C lc G;rw[dQ]at G;wp_walk;exact h cs J L G lc C
theorem zmQ{bits:Int}{ps qs:BL}{Z:Int->Prop}(l:0<=bits)(C:CanP Z ps)(w:∀x,Z x->0<=x/\x<2 ^ bits.toNat)(D:CanP (fun x=>0<=x/\x<2 ^ bits.toNat/\¬Z x) qs):zaX bits qs<=zaX bits ps+1/\zaX bits ps<=zaX bits qs+1/\0<=zaX bits ps/\0<=zaX bits qs:=by rw[VO l C w,VO l D (fun x h=>⟨h.1,h.2.1⟩)];have e:kst (fun x=>0<=x/\x<2 ^ bits.toNat/\¬Z x) bits.toNat 0=kst (fun x=>¬Z x) bits.toNat 0:=zfc _ _ fun x h1 o=>⟨fun z=>z.2.2,fun z=>⟨h1,by lia,z⟩⟩;rw[e,zjb];have:=zo9 (Z:=Z) bits.toNat 0;have:=zja (Z:=Z) bits.toNat 0;dsimp only;lia
theorem ztT{f:aj}{fd:dM}(D:Def Z.K Z.mg "law" (top 53) ["_law_script"] f fd) (L5:zeU Z) (L6:zeV Z) (Lk:Y2 Z) (LW:zek Z) (Ls:zej Z) (LX:zel Z) (LG:zdV Z) (Me:zhI Z) (LO:zdw Z) (T:Txt Z.mg):FnOk Z.P Z.w Z.K Z.mg Z.base CX0 11 f fd ["_law_script"] (spD Z.K 1 zuV):=by
 refine D.okD (fnS (N:=["_law_script","_law_k","_law_hand_here","_law_bits_here","_law_most","_law_rules_here","_law_many","_law_patch_here","_law_rest"]) (by decide +kernel)) rfl fun cdv A outer s H E y=>?_;refine'⟨_,(Jb (QJ b6 rfl (zfu T.ran (JA (zfy rfl) znj T.max zfz (Ji dli (Ji (dl (JA (Vg rfl) Zo T.min Ve (Ji (dl (JA Qq Qm T.len J5 (Ji (dlv 0) Jq Jt))) (Ji dli Jq zlS) UT))) Jq UT) zlS))) (dgv 1 (ndB rfl)) (znn (i:=2) (j:=1) L5 y (ndB rfl) rfl (fk rfl) (Jb (dsv 3 (ndB rfl) (Jd L6 y (dbv 2 Ja))) (Jb (dsv 4 (ndB rfl) (Jd Lk y (dbv 2 (dbc (JL (J9 (dbc Jg (dbc Jg (dbc Jg (dbc Jg (dbc Jg (dbc Jg (dbc Jg (dbc Jg Ja)))))))))) Ja)))) (Jb (dsv 5 (ndB rfl) (Jd LW y (dbv 2 (dbv 3 (dbc (zg5 (Jj (Qw y) Qv (dlv 3) dli (Jf _)) (Jk 4) Jg) Ja))))) (Jb (dsv 6 (ndB rfl) (Jd Ls y (dbv 3 (dbc (Jd LG y (dbv 3 (dbv 5 Ja))) Ja)))) (Jb (Js (JW (J3 (Jj Vw Vq (dlv 6) (dl QH) (Jf _)) (Qu (Jj Uk gp_B (dlv 6) (dl (JA Qq Qm T.len J5 (Ji (dlv 5) Jq Jt))) (Jf _))))) (Jc (Je JV)) Ju) (Jb (dsv 7 (ndB rfl) (Jd LX y (dbv 2 (dbv 3 (dbc Jg Ja))))) (Jb (zqc (i:=6) (j:=8) rfl (ndB rfl) rfl rfl (by decide) rfl rfl (dbc (Jd Ls y (dbv 3 (dbv 7 Ja))) (dbc (Jd Ls y (dbv 3 (dbc (Jd Me y (dbv 3 (dbv 7 Ja))) Ja))) Ja))) (Jb (Js (JW (J3 (Jj Vw Vq (dlv 6) (dl QH) (Jf _)) (J3 (Jj Vw Vq (dlv 8) (dl QH) (Jf _)) (J3 (Jj Uk gp_B (dl (JA zpG zuU T.abs zn1 (Ji (dl (Qj (dlv 6) (dlv 8))) Jq Zt))) dli (Jf _)) (Qu (Jj Uk gp_B (dlv 6) (dl (JA Qq Qm T.len J5 (Ji (dlv 7) Jq Jt))) (Jf _))))))) (Jc (Je JV)) Ju) (Jc (Js (Jj (QX y) QV (dl (Jd Ls y (dbv 3 (dbc (Jd LO y (dbv 2 (dbv 7 Ja))) Ja)))) (dlv 6) (Jf _)) (Jc (Je JV)) Ju)))))))))))) (Jc (Je JV))),?_⟩;intro ts n R hl hh;obtain⟨ns,rfl,hl63,hh⟩:=hh;wp_walk;split <;> (try split) <;> lia;split <;> (try split) <;> lia;refine Q9 (fun _ ρ m=>(∃c1 S c3 L c5 Y c7,ρ=[some (.val (SCR ns)),c1,none,S,c3,L,c5,Y,c7])/\m=n) ⟨⟨_,_,_,_,_,_,_,rfl⟩,rfl⟩ ?_ ?_
 ·rintro k t ρ m K et ⟨⟨c1,S,c3,L,c5,Y,c7,rfl⟩,rfl⟩ hK;obtain⟨hk,rfl⟩:=zdT et;have hk8:k<8:=by
   revert hk;split <;> (try split) <;> lia
  clear hk et;have kn:(0:Int)+(k:Int)<=100:=by lia
  have k0:0<=(0:Int)+(k:Int):=by lia
  generalize (0:Int)+(k:Int)=kk at *;wp_walk;refine zph hl63 (by lia) (by lia) fun NX RT BK CT hNX hRT hBK hCT=>?_;wp_walk using zjy ?_ (fun bits b0 J=>?_);lia;refine zdi (by decide) (by decide) (by lia) (fun x hx=>?_);obtain⟨most,rfl,m0,m1⟩:∃most:Int,x=.int most/\0<=most/\most<=20:=by simp only[ay,a8,or_false]at hx;rcases hx with rfl|rfl|rfl|rfl|rfl|rfl|rfl|rfl <;> exact⟨_,rfl,by decide,by decide⟩
  have I:0<=bits:=by lia
  have ie:∀{U:qN} {n':Nat} {c1 S c3 L c5 Y c7:Option Cell},(∀mo:Int,0<=mo->mo<=20->U (.int mo) n')->dIfE (U5 (dOp oLtA (dVar 3) (dC (bS 17)))) (dVar 4) (dC (bS 8)) [c1,S,c3,some (.val (.int bits)),some (.val (.int most)),L,c5,Y,c7] n' U:=fun {U n' c1 S c3 L c5 Y c7} h=>by wp_walk;exact h _ m0 m1;exact h 8 (by decide) (by decide)
  wp_walk using ie (fun mo mo0 mo1=>?_),zcz.c ?_ ?_ ?_ ?_ ?_ (fun rs m A hlr hm=>?_);lia;lia;lia;lia;lia;have A0:=zta A;have R0:=zgx A0;have l20:rs.length<=20:=by lia
  have sr:=zlX I A;wp_walk using Vn.c I J A (by lia) (fun ps C lp=>?_);have P:Ptc bits ps:=C.ptc I sr;have e1:∀o,CanP (fun x=>mB x ps) o->o=ps:=fun o G=>G.uniq C C.mem;have ml:zaX bits ps<=(rs.length:Int):=zj6 I C sr R0 (zgW I fun r y=>(A0.1 r y).1) fun x _ _=>aU;have cs1:∀{U:qN} {n':Nat},U (.int (zaX bits ps)) n'->U2 [.int bits,.tuple (pD ps)] n' U:=fun y=>U2.c I J P.1 (zlT J P (by lia)) (by lia) (fun o G=>by rw[e1 o G];lia) fun o G=>by rw[e1 o G];exact y
  wp_walk using cs1 ?_;cases hc;exfalso;rw[show(L2.rD rs).length=rs.length by simp[L2.rD]]at hc;lia;refine zcA.c (by lia) J (by decide) (by decide) (by lia) fun bs m2 Pb lb hm2=>?_;have lb8:bs.length<=8:=lb;wp_walk;have wb:∀x,mB x bs->0<=x/\x<2 ^ bits.toNat:=fun x hx=>QZ I Pb.1 hx;have mb:∀o,CanP (fun x=>mB x bs) o->zaX bits o<=(bs.length:Int):=fun o G=>zmR I G wb Pb fun x=>aU;refine U2.c I J Pb.1 (US (by lia)) (by lia) (fun o G=>by have:=mb o G;lia) fun p1 C1=>?_;have m1:=mb p1 C1;wp_walk;refine zfr.c (by lia) J Pb.1 (US (by lia)) fun qs D lq=>?_;have Pq:Ptc bits qs:=D.ptc I fun x h=>⟨h.1,h.2.1⟩;have nr:∀o,CanP (fun x=>mB x qs) o->zaX bits o<=zaX bits p1+1/\zaX bits p1<=zaX bits o+1/\0<=zaX bits p1/\0<=zaX bits o:=fun o G=>zmQ I C1 wb (G.congr D.mem);wp_walk;refine U2.c I J Pq.1 (zlT J Pq (by lia)) (by lia) (fun o G=>by have:=nr o G;lia) fun p2 C2=>?_;have n2:=nr p2 C2;wp_walk;cases hc;cases hc;exfalso;revert hc;split <;> lia;exfalso;rw[Jz]at hc;lia;refine zb_.c I J Pb.1 (by lia) (by lia) fun cs m3 Bc mc lc hm3=>?_;have e3:∀o,CanP (fun x=>mB x cs) o->o=p1:=fun o G=>G.uniq C1 mc;wp_walk;refine U2.c I J Bc (US (by lia)) (by lia) (fun o G=>by rw[e3 o G];lia) fun p3 C3=>?_;rw[e3 p3 C3];wp_walk;exact hNX _ _ (hK _ _ ⟨⟨_,_,_,_,_,_,_,rfl⟩,rfl⟩);exact absurd rfl hc
 ·rintro ρ m ⟨⟨c1,S,c3,L,c5,Y,c7,rfl⟩,rfl⟩;wp_walk;exact hh _
end
section
open PySem.W PyProof.Rows
def pw:aL:=fg
def zw2:fc->Bool
 | .FunctionDef ..=>true
 | .ClassDef ..=>true
 | .Assign [.Name x _] _ _=>!(x == aR "__name__")
 | _=>false
def qv:aL:={ pw with main:={ pw.main with body:=pw.main.body.filter zw2 } }
theorem zqJ:recsOf qv=(pw.main.body.filter VE).map recD:=by kernel_rfl
theorem zp4{i:Nat}(h:VE (top i)=true):recD (top i)∈recsOf qv:=by rw[zqJ];exact cY (gE.mpr ⟨getD_mem h,h⟩)
theorem dqG{i:Nat}{x:Str}{ps:List Str}{o:tG->Option ag}{mg u:qM}{h:a9}(T:kF qv (looseW qv []) o mg u h)(l:BndA x (top i) ps:=by first|exact bnd1 fun _ _ _ _ _ _ _=>rfl|exact bnd2 fun _ _ _ _ _ _ _ _=>rfl|exact bnd3 fun _ _ _ _ _ _ _ _ _=>rfl|exact bnd4 fun _ _ _ _ _ _ _ _ _ _=>rfl)(h1:VE (top i)=true:=by kernel_rfl)(v:defName (top i)=x:=by kernel_rfl):Dq (J7 h) mg x (top i) ps:=dq_g T (zp4 h1) v l
def zuX:List Str:=[aR "isinstance",aR "int",aR "bool",aR "tuple",aR "len",aR "min",aR "max",aR "str",aR "repr",aR "all",aR "any",aR "range",aR "sum",aR "sorted",aR "list",aR "abs",aR "zip",aR "dict",aR "reversed",aR "enumerate",aR "ValueError"]
def zuY(x:Str):Bool:=!startupNames.contains x&&!(looseW qv []).contains x&&!((recsOf qv).map (·.name)).contains x&&!((litsOf qv).map (·.1)).contains x&&!((clssOf qv (looseW qv [])).map (·.name)).contains x
theorem zrW:zuX.all zuY=true:=by kernel_rfl
theorem zrX{l:tG->Option ag}{mg o:qM}{h:a9}(T:kF qv (looseW qv []) l mg o h){x:Str}(m:x∈zuX):mg x=none:=by have e:=b5.mp zrW x m;unfold zuY at e;simp only[bq,iX,List.contains_eq_mem,decide_eq_false_iff_not]at e;obtain⟨⟨⟨⟨a,b⟩,c⟩,d⟩,f⟩:=e;exact T.free x a b c d f
theorem zsC{l:tG->Option ag}{mg o:qM}{h:a9}(T:kF qv (looseW qv []) l mg o h):Txt mg:=by constructor <;> exact zrX T (List.contains_iff_mem.mp (by kernel_rfl))
theorem zqz:aK.wellSaid=true:=by kernel_rfl
theorem ztZ(w:aZ)(os:rB):(Uu treeTable pw w 11 ((dw (w).params).nsMap mainGlobals "__annotations__") 20000 (zlv w os) (topStub pw)).map (fun s=>(Vp pw (dw (w).params) s.abs,(yi kG) s.abs))=some (true,(yj kG) w):=by kernel_rfl
theorem ztY(w:aZ)(os:rB):(Uu treeTable pw w 11 ((dw (w).params).nsMap mainGlobals "__annotations__") 20000 (zlv w os) (topStub pw)).map (fun s=>(openSeen qv [] (importedModules pw.main.body) (fun s=>xlAt qv [] s&&recOk (nL aK.row.toRowW) s) true s.abs).1)=some (openGood qv []).1:=by kernel_rfl
theorem ztX(w:aZ)(os:rB):(Uu treeTable pw w 11 ((dw (w).params).nsMap mainGlobals "__annotations__") 20000 (zlv w os) (topStub pw)).map (fun s=>(openSeen qv [] (importedModules pw.main.body) (fun s=>xlAt qv [] s&&recOk (nL aK.row.toRowW) s) true s.abs).2)=some (openGood qv []).2:=by kernel_rfl
theorem zw1(w:aZ)(os:rB):(Uu treeTable pw w 11 ((dw (w).params).nsMap mainGlobals "__annotations__") 20000 (zlv w os) (topStub pw)).map (fun s=>(Vp pw (dw (w).params) s.abs,openSeen qv [] (importedModules pw.main.body) (fun s=>xlAt qv [] s&&recOk (nL aK.row.toRowW) s) true s.abs,(yi kG) s.abs))=some (true,openGood qv [],(yj kG) w):=map3 (ztZ w os) (ztY w os) (ztX w os)
theorem zru:LeftO pw qv [] (fun s=>xlAt qv [] s&&recOk (nL aK.row.toRowW) s) (yi kG) (yj kG) 20000:=zm0 (by kernel_rfl) (by decide) (fun _=>rfl) (zw1)
theorem zvh{Mj:tG->Option ag}{mg mb:qM}{h:a9}{w:aZ}{G:aj}(T0:kF qv (looseW qv []) Mj mg mb h)(R:mg (defName (top 53))=some (.ref G)) :
  ∃fd:dM,(∀(s:aq) (v:ag),tD s fd ⟨[v],[]⟩ [("_law_script",v)])/\∀base:a9,(J7 h).In base->base.Ns mainGlobals mg->FnOk aK.prog w (J7 h) mg base CX0 11 G fd ["_law_script"] (zqw (J7 h)):=by
 have T:=zsC T0;obtain⟨f,fd,DL⟩:=dq_g (x:="law") (ps:=["_law_script"]) T0 (zp4 (i:=53) (by kernel_rfl)) (by kernel_rfl) fun _ _ _ _ _ _ us hl=>by obtain⟨_,rfl⟩:=len1 hl;rfl
 have e0:aJ f=aJ G:=aE (DL.m.symm.trans R);cases e0;refine⟨fd,fun s v=>?_,fun base _ _=>?_⟩;obtain⟨oc,od,kV,doc,pm,an,cdv,ct,osl,rfl,_,_⟩:=DL.F.ex;exact .of_eq rfl;let Z:ZZ:=⟨aK.prog,w,J7 h,mg,base⟩;have L:=zi2 (Z:=Z) (dqG T0)  T;have LF:=zi5 (Z:=Z) (dqG T0) L T;have Ma:=zkS (Z:=Z) (dqG T0)  T;have S:=zmL (Z:=Z) (dqG T0)  T;have Mk:=zo1 (Z:=Z) (dqG T0) S T;have LQ:=zgH (Z:=Z) (dqG T0)  T;have J:=zmI (Z:=Z) (dqG T0) LQ T;have u:=zmK (Z:=Z) (dqG T0) Ma T;have Ly:=zdC (Z:=Z) (dqG T0)  T;have Mb:=zrj (Z:=Z) (dqG T0) u Ly T;have LA:=ziY (Z:=Z) (dqG T0) Mb T;have LI:=zkU (Z:=Z) (dqG T0) u T;have C:=zmJ (Z:=Z) (dqG T0) LA LI T;have LR:=zgJ (Z:=Z) (dqG T0)  T;have Me:=zkV (Z:=Z) (dqG T0) LA LR LI T;have LC:=zi7 (Z:=Z) (dqG T0) u T;have LS:=zgK (Z:=Z) (dqG T0) LC T;have LM:=zfB (Z:=Z) (dqG T0) LS Mk T;have LJ:=zkX (Z:=Z) (dqG T0) LM T;have LD:=zi6 (Z:=Z) (dqG T0) LC u T;have L7:=zi0 (Z:=Z) (dqG T0) LJ LD J T;have Lv:=zhR (Z:=Z) (dqG T0) LD LJ J T;have N:=zi1 (Z:=Z) (dqG T0) C L7 Lv T;have U:=zeq (Z:=Z) (dqG T0) J T;have L0:=zhQ (Z:=Z) (dqG T0) U T;have LK:=ze7 (Z:=Z) (dqG T0) N L0 U T;have LV:=zgI (Z:=Z) (dqG T0) N T;have LN:=zfA (Z:=Z) (dqG T0) N T;have L8:=zi3 (Z:=Z) (dqG T0) Lv T;have LU:=zi4 (Z:=Z) (dqG T0) L T;have Mi:=zmH (Z:=Z) (dqG T0) LF LU T;have LH:=zgG (Z:=Z) (dqG T0) C L8 Mi T;have Mc:=zkW (Z:=Z) (dqG T0) LF L T;have L4:=zhS (Z:=Z) (dqG T0) Mc T;have Md:=zkT (Z:=Z) (dqG T0) S T;have LG:=ziZ (Z:=Z) (dqG T0) C Md Mb u T;have L5:=zgF (Z:=Z) (dqG T0)  T;have l:=zgE (Z:=Z) (dqG T0)  T;have y:=zhU (Z:=Z) (dqG T0) l T;have L6:=zhX (Z:=Z) (dqG T0) y T;have Y:=zgO (Z:=Z) (dqG T0) y l T;have L3:=zhV (Z:=Z) (dqG T0) y Y T;have Lr:=zfD (Z:=Z) (dqG T0) l Y L3 y T;have LX:=zgN (Z:=Z) (dqG T0) Lr T;have LW:=zgM (Z:=Z) (dqG T0) Lr l T;have Ls:=zgL (Z:=Z) (dqG T0) LV LK LN L4 LG C LH T;have LO:=zfC (Z:=Z) (dqG T0) l T;exact(ztT (Z:=Z) DL L5 L6 y LW Ls LX LG Me LO T).imp zrw
end
end Bd
open PySem PySem.W PyProof.Rows
set_option maxRecDepth 100000 in
set_option maxHeartbeats 0 in
theorem PySem.Challenge.cw_blockdeal_k20_whole_no_fewer_rules_holds : PySem.Challenge.rw_blockdeal_k20_whole_no_fewer_rules.Holds := by
 w_on
 refine holds_law Bd.zqz fun l=>?_;refine holds_open (r:=aK.row) (d:=Bd.recD (Bd.top 53)) (kwd:=[]) Bd.zru (Hook.of kG) (Hook.keeps kG) (fun s e=>xl_of s (oK.mp e).1) XL.keeps (by kernel_rfl) (by kernel_rfl) (by kernel_rfl) (fun s e=>recFacts_of (oK.mp e).2) (by kernel_rfl) l (by kernel_rfl) ⟨rfl,rfl,rfl,rfl,rfl,by decide +kernel⟩ ?hw ?hc
 case hw=>w_witness2
 case hc=>exact Bd.zv6 (lw:=aK) (k:=11) (by decide) rfl rfl fun w s₀ mg v u h G o=>Bd.zvh G.T o