import PyProof.Rows.All
import Wide.All
import OpenK.AllK
import Wide.FinOn
import Lean
import PyProof.EqAt
import PyProof.EqKinds
import PyProof.TupleCall
import PySem.Challenge.RW_blockdeal_k60_whole_in_a_wider_row
open PySem renaming wpAny_bind->aa,wpAny_pure->ae,PyData->af,Value->ah,Addr->aq,Shared->av,Program->aQ,Expr->a8,World->bg,Around->bh,Heap->bz,wpAny_newObj_type->bM,wpAny_call_entry->bS,Paired->bT,wpAny_callSpecial?_slot->b7,wpAny_holding->cq,wpAny_seqItems->cI,wpAny_field->cK,wpAny_mono->cS,wpAny_rule->cU,wpAny_truthy_bool->cW,Builtin->cX,wpAny_setField->dU,codeAny_builtin->dX,FuncData->dZ,wpAny_typeOf->eM,builtinLookup_eq_fast->eW,SetTable->eX,NameKind->ff,wpAny_typeNameOfWhole_keyiter->fi,Stmt->fA,wpAny_askSetting->fG,Scope->fI,wpAny_setField_rec->fO,wpAny_passesOwn->fV,DictEntry->fW,wpAny_setState_of->f7,wpAny_standAt->f9,wpAny_attempt->gm,mem_of_lookup->gn,wpAny_isInstance->gE,intText?->gG,typeLookup_type->gV,wpAny_updateSeq->gW,wpAny_pyIter_list->gZ,Keyword->ie,plainId_quiet->iR,wpAny_ite_split->iX,wpAny_pyIter_tuple->iY,tupleKind_room_in1->i7,wpAny_of_eq->i9,wpAny_letGo->ka,codeAny_mono->kg,wpAny_tryCatch->kH,wpAny_pyIter_slot->kJ,fits_of_scanBound->kM,IsTupleKey->kT,wpAny_updateSeq_pair->k9,codeAny_call_builtin->ly,wpAny_execs_nil->lC,wpAny_Call_Name_kw->lW,isSubtype_stop->mw,wpAny_dictEntries->mV,IsPart->mW,wpAny_comprehension_free->mX,Builtin->mY,wpAny_newList->m3,wpAny_handled->m4,wpAny_onRaise->m5,wpAny_pyNext_tuple_item->m9,noFill_tuple_add->ni,wpAny_load->nJ,wpAny_pyNext_tuple_end->nK,wpAny_Call_method_late->nM,IsPair->nS,wpAny_loadPart'->og,wpAny_dictEpoch->oo,wpAny_notOrdered_dict->oA,wpAny_isOneOf_keyiter->oE,wpAny_loadName_local->oJ,sizeLine_eq->oK,wpAny_throw->oX,wpAny_fieldsOf->o5,entryFor_alias->o6,isSubtype_type->o9,wpAny_loadName_cell->pH,wpAny_setEntries_of->pN,KeyKind->pQ,seq_tuple_add->pR,sub_AttributeError->p9,wpAny_dictSet_heap->rf,wpAny_assign_Name->rE,concat_meets->rF,wpAny_sequenceKey->rG,seqIndex_neg->rH,slot_list_getitem->rJ,OsState->rZ,wpAny_storeSet_of->sh,wpAny_execs_cons->sG,PassesOwn->sH,Result->sI,wpAny_pyIter_zip->sR,entryFor_of_tree->sV,Model->tf,seqIndex_of->tq,wpAny_alloc->tw,IsZip->tB,codeAny_of_tree->tF,pushCells_keeps->tG,wpAny_specialOf->tR,BindsTo->tW,CellsOk->tX,ExcName->tZ,wpAny_Name->t6,Operator->t7,typeIs_str->ud,sliceRange_one->ue,Params->uf,wpAny_newTuple->uo,wpAny_runValue->uq,PyData->wK,JoinOk->xc,Value->xT,CmpOp->x6,pick_run->yb,ReadsAll->yi,Slot->AJ,call->AQ
open PySem.Heap renaming get?_push_of_some->aj,get?_push_size->aD,lt_size->aG,get?_update_other->bq,get?_update_self->bP,size_push->dw,SameBut->dE,get?_push_ne->ft,size_update->iy,ExtBut->mU,NewAttrErr->oj,get?_update_ne->pM
open List renaming getElem?_eq_getElem->au,getElem?_eq_some_iff->aw,mem_of_getElem?->ax,mem_singleton->aA,mem_append->aC,mem_cons->aE,size_toArray->aJ,length_cons->aL,length_map->aN,pairwise_iff_getElem->aR,map_cons->aU,length_append->aW,getElem?_map->aX,mem_map->aY,getElem_of_mem->a9,getD_eq_getElem?_getD->br,append_assoc->bu,not_mem_nil->bE,drop_eq_getElem_cons->bG,getElem?_append_right->bQ,getElem?_append_left->bU,getElem?_eq_none->cc,append_nil->cf,mem_cons_of_mem->cn,pairwise_append->cw,map_map->cy,length_nil->cz,pairwise_cons->cC,mem_map_of_mem->cG,nodup_cons->cH,mem_cons_self->cL,take_of_length_le->cM,find?_cons->cO,mem_append_right->cT,take_succ->dD,all_eq_true->dF,cons_append->dG,take_length->dH,filterMap_cons->dJ,pairwise_map->dN,mem_iff_getElem?->dP,getElem?_set_ne->dY,length_take->ef,lookup_cons->eC,getElem?_cons_succ->eE,length_eq_zero_iff->eF,pairwise_singleton->eH,map_nil->eN,replicate_succ->eT,range->eY,length->fg,getElem?_replicate->fj,getElem?_cons_zero->fv,mem_filter->fw,of_mem_zip->fx,nil_append->fz,length_reverse->fB,set_cons_succ->fM,take_append_drop->fQ,getElem?_reverse->fS,length_range->f6,getElem?_take_of_lt->gf,map_congr_left->gq,replicate_zero->gy,getD_cons_succ->gz,getD_cons_zero->gA,replicate->gC,getElem_mem->gD,getElem?_set_self->gJ,mem_filterMap->gK,drop_of_length_le->gM,find?_eq_none->gP,set_cons_zero->gR,map_append->gT,length_filter_le->gY,nodup_append->hU,getElem?_inj->hV,mem_range->hW,forIn_nil->hY,mem_of_mem_take->hZ,mem_reverse->iB,mem_take_iff_getElem->iF,length_erase_of_mem->iN,forIn_cons->iT,foldl_cons->iU,length_zip->iV,lookup_append->i4,drop_sublist->kB,mapM_toArray->kD,length_pos_of_mem->kG,length_singleton->kO,length_drop->kP,all_toArray->kS,drop_append_of_le_length->k8,mem_erase_of_ne->lh,length_pos_iff->lH,perm_append_comm_assoc->lK,getElem?_drop->mh,drop_zero->mm,length_eraseIdx_of_lt->mG,getElem?_zip_eq_some->mH,mem_drop_iff_getElem->mJ,mem_of_find?_eq_some->mK,getElem?_eq_none_iff->mL,take_sublist->mP,getElem?_set->mS,ext_getElem?->mT,any_cons->m7,zipIdx_cons->ny,perm_middle->nA,map_snd_zip->nB,mem_flatten->nI,any_map->nX,length_replicate->oq,perm_append_comm->oz,eq_nil_or_concat->oG,concat_eq_append->oH,mem_append_left->oI,mem_of_mem_drop->oQ,map_id->oW,getElem?_range->pK,map_eq_nil_iff->pP,zip_cons_cons->pW,filter_append->p7,map_filterMap->rh,flatMap_cons->rV,find?_append->rX,any_eq_false->rY,getElem_drop->se,foldl_append->sr,flatten_cons->sv,drop_length->sN,map_fst_zip->sP,mem_flatMap->sU,countP_cons->sY,any_eq_true->sZ,zipIdx_nil->tO,find?_some->tT,nodup_nil->uu,take_nil->vO,drop_nil->vP,sum_cons->v7,lookup->yd,map->yh
open Nat renaming le_refl->aB,ne_of_lt->aT,lt_of_lt_of_le->aV,lt_or_ge->cj,le_trans->cx,zero_add->cY,lt_trichotomy->cZ,zero_le->eD,lt_or_eq_of_le->e8,lt_irrefl->fE,lt_of_le_of_lt->fK,add_sub_of_le->fY,le_of_lt->ic,lt_succ_self->ig,le_add_right->iz,testBit_succ->iA,ne_of_gt->kc,lt_trans->ku,mod_eq_zero_of_dvd->kE,dvd_of_mod_eq_zero->kF,sub_self->kN,pow_succ->lN,add_sub_cancel->my,le_of_succ_le->mQ,add_assoc->mZ,shiftLeft_eq->nt,testBit_zero->nC,testBit_and->oh,le_succ->oU,eq_of_testBit_eq->oZ,mul_le_mul_left->pO,and_one_is_mod->pZ,eq_or_lt_of_le->p4,lt_of_lt_of_eq->p6,eq_zero_or_pos->p8,sub_zero->rQ,mul_comm->rR,le_of_lt_succ->su,le_of_not_lt->sL,one_mul->tx,min_eq_left->tK,and_le_left->tQ,strongRecOn->tV,not_lt->uH,mul_assoc->vW,le_total->xa,min_self->xh,log2_lt->ye,mod_lt->Bf
open PySem.Str renaming ofString->aH,empty->sM,length->uc
open PyProof.Rows renaming wpS_bind->aI,wpS_pure->aO,Keyed->bY,SortSt->b6,wpS_forRange->cB,slot_tuple_getitem->cD,callWith_type1->eI,wpS_mono->fh,SortKind->fL,IntsAre->g6,listItems_at->iw,Top->kU,AllBare->lI,wpS_get->lJ,wpS_modify->lZ,size_push'->mn,wpS_lift->nv,subscriptTail_builtinR->nL,wpS_reverse->oS,mirror_perm->oT,entry_proto_collect'->oV,entry_tuple_getitem->pJ,listUpdate_at->pT,args_tuple_getitem->pX,IsTup->rC,pairsOf_size->rN,callWith_builtin1->sJ,entry_list_iadd'->sO,get?_update_seq->tL,oneTypeOnly'_eq->tN,slicePart_none->ua,Subscript_->ub,elem'_eq->ym,lt_int->yX
open Bool renaming false_eq_true->aK,false_ne_true->bp,and_eq_true->cA,eq_iff_iff->eU,not_true->fe,not_eq_true'->fk,eq_false_iff->fq,not_false->fN,true_and->kY,false_and->lT,beq_eq_decide_eq->ot,or_eq_false_iff->oO,and_eq_true_iff->pd,not_eq_false'->p5,and_false->uz,or_false->vK,and_true->vU,false_or->v3
open Int renaming le_refl->aM,mul_le_mul_of_nonneg_right->a7,pow_succ->bL,mul_assoc->bN,dvd_of_emod_eq_zero->bO,toNat_natCast->bX,le_of_lt->b8,mul_comm->b9,add_mul->cE,one_mul->cR,pow_add->dM,emod_eq_zero_of_dvd->eG,le_trans->eP,lt_or_le->fC,mul_ediv_cancel->gx,mul_le_mul_of_nonneg_left->gH,natCast_pow->gU,natCast_zero->iC,mul_neg_of_pos_of_neg->iG,emod_nonneg->iW,emod_lt_of_pos->i6,ediv_ediv_of_nonneg->kb,lt_trichotomy->kv,add_mul_ediv_right->kA,zero_add->lO,natCast_nonneg->lU,fdiv_eq_ediv_of_nonneg->lV,not_lt->mj,lt_of_mul_lt_mul_right->mz,lt_of_mul_lt_mul_left->mI,mul_one->mO,eq_ofNat_of_zero_le->nk,natCast_succ->nH,add_comm->nN,ediv_eq_zero_of_lt->nP,add_emod->nT,pow_zero->n8,ediv_nonneg->om,mul_ediv_add_emod->oB,mul_add->oY,lt_of_lt_of_le->rm,mul_emod_left->rS,emod_eq_of_lt->rT,emod_two_eq->tP,mul_nonneg->ui,sub_mul->yk
open Option.some renaming inj->aP
open Iff renaming rfl->aZ
open Array renaming getElem?_eq_getElem->ba,toList->bf,getElem?_toList->bK,toList_append->cF,length_toList->cQ,perm_iff_toList_perm->eQ,getD->gQ,push->i5,toList_push->kC,toArray_toList->lA,getElem_toList->lB,getElem?_eq_some_iff->mD,getElem?_extract->nR,getElem?_eq_none->nU,toList_extract->oP,toList_reverse->oR,toList_modify->pL,size_append->rO
open PySem.Value renaming type->bo,ref->bR,none->eJ,isInt->k6,int->pf,bool->pU,isInt_shape->rq,str->sE,isStrOf->vk
open PySem.SetTable renaming below->bH,grown->eR,orStandIn->rg,insertAt->r8,Probe->uI
open Classical renaming byContradiction->bV,choose_spec->cV,choose->kQ
open PySem.Builtin.SmallTypes renaming nextOf->bW,ownedTupleIsFree->dW,ownedTupleHandOut->iH,stopIteration->rW
open PySem.Obj renaming data_mapFields->bZ,isFreed_of_fields->dO,cls_mapFields->fZ,mapSeq->gj,mapFields->gX,putSet->uJ
open PySem.PassesOwn renaming never->b5
open PySem.PyData renaming int->cg,hasDict_of_canLay->cP,hasDict->dz,canLay0->dS,canLayAll0->eO,eqv->gk,depthAll->gS,hasDictAll->g9,depth->ik,tuple->iD,bool->k7,str->mC,none->oN,eqvAll->pS,dict->tz,list->yj
open PySem.NameKind renaming free->cJ,cell->kZ
open PySem.F renaming slot_dict_keyiterator_next->cN,plain_min_loop->fH,slot_list_reversed->fP,slot_tuple_getattribute->fU,args_dict_keyiterator_next_1->iI,args_tuple_add_2->iK,entry_dict_keyiterator_next->iQ,entry_tuple_add->i8,slot_tuple_add->km,args_tuple_iterator_next_1->lE,slot_zip_next->lF,entry_tuple_iterator_next->lL,slot_tuple_iterator_next->mo,plain_extend_loop->mM,slot_tuple_index->m8,plainAttrs_list->nu,entry_min_loop->nF,plainAttrs_str->nW,slot_dict_iter->nY,args_zip_next_1->rP,entry_zip_next->sQ,slot_set_iter->tU
open PySem.Builtin.List renaming listExtendWith->df,listItems->gO,listTooLong->iL,listSameRef->iP,listLengthHint->lQ,listUpdate->wB
open PySem.Builtin renaming bitXor->dh,bitAnd->fJ,bitNot->gF
open Option renaming map_eq_some_iff->dI,getD_some->fF,map_some->fX,isSome_iff_exists->iJ,getD_none->nj,map_eq_none_iff->nV,isSome_some->pY
open PySem.W renaming boot_heap->dQ,fnOf->fc,cellsFrom_some->gL,keepIn->kh,codeIn->kj,methodObj->mN,boot_drawn->nZ,boot_toks->pG,SharedT->xi
open Prod renaming ext->dR,fst->mF,snd->yC
open Ne renaming symm->eK
open PySem.Heap.SameBut renaming update->eS,refl->rK
open PySem.PyData.dict renaming inj->eV,injEq->rL
open False renaming elim->eZ
open Or renaming inl->e9,inr->AZ
open PySem.Paired renaming length->fD
open List.Perm renaming append_left->fR,trans->lD,append_right->nQ,refl->uk
open PySem.Builtin.Slice renaming slicePlaces->fT,sliceAdjust->iE,sliceApplied->lX,slicePartIndex->tE,sliceFields->uW
open PySem.Builtin.Tuple renaming tupleExact->gh,tupleItemsOf->lY,tupleCompareSizes->sy,tupleIsExact->ur,tupleHashOf->uY
open PySem.Builtin.Int renaming intBits->gr
open PySem.Code renaming quiet_builtin->gN
open List.Pairwise renaming nil->g7,imp_of_mem->iM,filterMap->nG,sublist->ou,and->BA,imp->BI,map->BQ
open Function renaming comp_def->g8
open PySem.Around renaming under_plainId->h8
open List.cons renaming inj->iO,injEq->tH
open ForInStep renaming yield->iS
open PySem.SeqAt.EqAt renaming int_int->iZ
open PySem.Calls renaming callWith_builtin->ko,Name_function_global->lR,evalArgs_plain->oM,call_len_list->pI
open PySem.Txt renaming endswith->kI,slice->sS,join->uA
open PySem.SetTable.below renaming go->kK
open PySem.W.Hook renaming none->kW,obs->yL,val->yM
open Sum renaming inl->kX,inr->pE
open PySem.Builtin.Dict_items renaming ownsTuple->lG
open PySem.Builtin.Builtins renaming bindParams->lP
open PySem.Builtin.Dict renaming addKeywords->m6,updateFrom->nE,showsAll->oC,dictSlotNone->vd,selfAndRest->vX,pairItems->xb
open PySem.Heap.DictOfH renaming new->nD
open PySem.W.RowW renaming records->n9
open PySem.AutoListH renaming list___reversed___list_0->oF
open Prod.mk renaming inj->o4,injEq->vQ
open Std.Legacy.Range renaming forIn_eq_forIn_range'->o7,size->xH
open PySem.MeetsSeq.EqGives renaming int->o8
open And renaming intro->pF
open PySem.SeqAt renaming EqAt->pV,eqv_refl->yy
open PySem.Setting renaming mk->rl
open PySem.PyData.list renaming injEq->rM
open PySem.SetTable.probe renaming go->sf
open PySem.pickOrder renaming go->si
open PySem.Heap.ExtBut renaming push->sW
open List.forIn' renaming loop->sX
open Array.Perm renaming refl->tM
open True renaming intro->uC
open PySem.PyData.int renaming inj->uE
open PySem.Manifest renaming find?->uF
open PySem.Builtin.Frozenset renaming oneOther->uK,addrOf->wb,sizeOf->wg
open PySem.EqNone renaming eq_none_none->uM,eq_none_bool->uN,eq_bool_none->uO,ne_none_none->uR,ne_none_bool->uS,ne_bool_none->uT,eq_none_int->vo,eq_none_str->vp,eq_int_none->vq,eq_str_none->vw,ne_none_int->vB,ne_none_str->vC,ne_int_none->vD,ne_str_none->vF
open PySem.EqMixed renaming eq_bool_str->uP,eq_str_bool->uQ,ne_bool_str->uU,ne_str_bool->uV,eq_int_str->vv,eq_str_int->vA,ne_int_str->vE,ne_str_int->vG
open PyProof.Rows.LSm renaming kept_iter->vM
open PySem.Builtin.Range renaming rangeSize->wo
open PySem.W.KIN renaming call_text->xE
open PySem.Shared renaming heap->yr
open PySem.Fin renaming done->yD
open PySem.Flow renaming ret->yE
open PySem.Heap.IsSliceOf renaming new->AF
open PySem.W.WShape renaming has->AO
open PySem.Walks renaming list->AR
open PyProof.Rows.SortSt renaming mk'->AV
open PySem.Heap.IsTuple renaming push->BC
open PySem.W.WData renaming int->Cd
open PySem.Heap.IsList renaming push->Cj
open PySem.PyData.tuple renaming inj->Cv
open Option renaming some->ao,none->bc
open Bool renaming true->be,false->bj
local macro_rules | `(tactic| walk_at "V") => `(tactic| first | exact Or.inl rfl | exact Or.inr (Or.inl rfl) | exact Or.inr (Or.inr rfl))
local macro_rules | `(tactic| walk_at "F") => `(tactic| first | exact .inl rfl | exact .inr rfl | assumption)
abbrev qF:=PySem.W.Frag
abbrev qB:=List (Int×Int)
abbrev qN:=wK->Nat->Prop
abbrev qM:=PySem.Str->Option xT
abbrev qV:=xT->PySem.Shared->Prop
abbrev qD:=List wK
abbrev qO:=List (PySem.Addr×PySem.Obj)
set_option Elab.async false
set_option linter.all false
set_option maxRecDepth 100000
set_option maxHeartbeats 4000000
namespace L2
open PySem PySem.Spec PyProof.Rows
abbrev Ndb(x:Str):Prop:=(x == ("__debug__":Str))=false
abbrev Ncd(x:Str):Prop:=(x == ("__classdict__":Str))=false
abbrev Key:=Sum Int Str
def UY:Key->ah->Bool
 | .inl k,v=>k6 k v
 | .inr x,v=>vk x v
def keyH(w:bg):Key->Int
 | .inl k=>hashInt k
 | .inr x=>hashStr w x
theorem Q8:∀{k:Key}{v:ah},UY k v=be->(∃i t,k=kX i/\v=pf i t)\/(∃x t,k=pE x/\v=sE x t)
 | .inl i,v,h=>by obtain⟨t,e⟩:=rq (k:=i) (v:=v) h;exact .inl ⟨i,t,rfl,e⟩
 | .inr x,v,h=>by obtain⟨t,e⟩:=Value.isStrOf_shape (x:=x) (v:=v) h;exact .inr ⟨x,t,rfl,e⟩
theorem zfb(i:Int)(t:Tok):UY (.inl i) (.int i t)=be:=by simp[UY,k6]
theorem zm1(x:Str)(t:Tok):UY (.inr x) (.str x t)=be:=by simp[UY,vk]
theorem ztL(a b:Int):decide ((kX a:Key)=kX b)=(a == b):=by by_cases e:a=b;subst e;simp;have h:¬(kX a:Key)=kX b:=λq=>e (Sum.inl.inj q);rw[decide_eq_false h];exact(beq_eq_false_iff_ne.mpr e).symm
theorem ztI(a b:Str):decide ((pE a:Key)=pE b)=decide (a=b):=by by_cases e:a=b;subst e;simp;have h:¬(pE a:Key)=pE b:=λq=>e (Sum.inr.inj q);rw[decide_eq_false h,decide_eq_false e]
theorem ztK(a:Int)(b:Str):decide ((kX a:Key)=pE b)=bj:=decide_eq_false (λq=>nomatch q)
theorem ztJ(a:Str)(b:Int):decide ((pE a:Key)=kX b)=bj:=decide_eq_false (λq=>nomatch q)
def Jx(prog:aQ)(w:bg):pQ prog w Key where
 is:=UY
 hash:=keyH w
 inj:=λv a b C o=>by rcases Q8 C with⟨i,t,rfl,rfl⟩|⟨x,t,rfl,rfl⟩;rcases Q8 o with⟨j,u,rfl,e⟩|⟨y,u,rfl,e⟩;injection e with e1 _;rw[e1];exact nomatch e;rcases Q8 o with⟨j,u,rfl,e⟩|⟨y,u,rfl,e⟩;exact nomatch e;injection e with e1 _;rw[e1]
 byValue:=λk v h=>by rcases Q8 h with⟨i,t,rfl,rfl⟩|⟨x,t,rfl,rfl⟩ <;> rfl
 pyHash:=λl h=>by rcases Q8 l with⟨i,t,rfl,rfl⟩|⟨x,t,rfl,rfl⟩;exact wpAny_pyHash_int h;exact wpAny_pyHash_str h
 eqBool:=λG l h=>by rcases Q8 G with⟨i,t,rfl,rfl⟩|⟨x,t,rfl,rfl⟩;rcases Q8 l with⟨j,u,rfl,rfl⟩|⟨y,u,rfl,rfl⟩;rw[ztL]at h;exact wpAny_eqBool_int h;rw[ztK]at h;exact SeqAt.EqAt.int_str i t y u _ _ _ _ h;rcases Q8 l with⟨j,u,rfl,rfl⟩|⟨y,u,rfl,rfl⟩;rw[ztJ]at h;exact SeqAt.EqAt.str_int x t j u _ _ _ _ h;rw[ztI]at h;exact wpAny_eqBool_str h
 «strs»:=λk x t v h=>by rcases Q8 h with⟨i,u,rfl,e⟩|⟨y,u,rfl,e⟩;exact nomatch e;injection e with e1 _;subst e1;cases v <;> rfl
theorem ziS(prog:aQ)(w:bg)(i:Int)(t:Tok):(Jx prog w).is (.inl i) (.int i t)=be:=zfb i t
theorem ziR(prog:aQ)(w:bg)(x:Str)(t:Tok):(Jx prog w).is (.inr x) (.str x t)=be:=zm1 x t
inductive V where
 | non|bl (b:Bool)|int (i:Int)|str (x:Str)|byt (b:Array UInt8)|flt (b:UInt64)|ref (a:aq)|ty (n:String)
 deriving DecidableEq
def RelV:V->ah->Prop
 | .non,u=>u=eJ
 | .bl b,u=>u=pU b
 | .int i,u=>∃t,u=pf i t
 | .str x,u=>∃t,u=sE x t
 | .byt b,u=>∃t,u=Value.bytes b t
 | .flt b,u=>∃t,u=Value.float b t
 | .ref a,u=>u=bR a
 | .ty n,u=>u=bo n
abbrev Vals:List V->List ah->Prop:=bT RelV
theorem Vals.length{xs:List V}{l:List ah}(r:Vals xs l):xs.length=l.length:=fD r
theorem Vals.get:∀{xs:List V}{v:List ah}{i:Nat}{x:V},Vals xs v->xs[i]?=ao x->∃u,v[i]?=ao u/\RelV x u
 | _,_,_,_,.nil,e=>by simp at e
 | _,_,0,_,.cons r _,e=>by simp at e;subst e;exact⟨_,rfl,r⟩
 | _,_,i+1,x,.cons _ t,e=>by obtain⟨u,y,C⟩:=Vals.get (i:=i) (x:=x) t (by simpa using e);exact⟨u,by simpa using y,C⟩
theorem Vals.set{x:V}{u:ah}(r:RelV x u):∀{xs:List V}{v:List ah} (i:Nat),Vals xs v->Vals (xs.set i x) (v.set i u)
 | _,_,_,.nil=>.nil
 | _,_,0,.cons _ t=>.cons r t
 | _,_,i+1,.cons q t=>.cons q (Vals.set r i t)
theorem Vals.append{xs ys:List V}{l u:List ah}(h:Vals xs l)(s:Vals ys u):Vals (xs++ys) (l++u):=by
 induction h with
 | nil=>exact s
 | cons r _ v=>exact .cons r v
theorem Vals.take:∀{xs:List V}{u:List ah} (n:Nat),Vals xs u->Vals (xs.take n) (u.take n)
 | _,_,0,_=>.nil
 | _,_,_+1,.nil=>.nil
 | _,_,n+1,.cons r t=>.cons r (Vals.take n t)
theorem Vals.drop:∀{xs:List V}{u:List ah} (n:Nat),Vals xs u->Vals (xs.drop n) (u.drop n)
 | _,_,0,r=>r
 | _,_,_+1,.nil=>.nil
 | _,_,n+1,.cons _ t=>Vals.drop n t
def RelO:Option V->Option ah->Prop
 | some v,ao u=>RelV v u
 | none,bc=>True
 | _,_=>False
def KV{l:Type}:List (l×V)->List (l×ah)->Prop:=bT λ(p:l×V) (q:l×ah)=>p.1=q.1/\RelV p.2 q.2
def kV:Key->V
 | .inl i=>.int i
 | .inr x=>.str x
inductive HO where
 | lst (xs:List V)
 | tup (xs:List V)
 | dK (kvs:List (Key×V))|dT (kvs:List (List Key×V))
 | set (S:Int->Bool) (n:Nat)
 | ins (C dx:aq) (fs:List (Str×V))
 | own (x:aq)
 | xd (fs:List (Str×V))
 | met (f x:aq)
 | rng (lo hi:Int)
 | frz (o:Obj) (u:HO)
 | tbl (q:Str)
 | ext (φ:bz->Prop)
abbrev Hp:=aq->Option HO
def upd(H:Hp)(a:aq)(o:HO):Hp:=λb=>if b=a then ao o else H b
theorem JJ{H:Hp}{a:aq}{o:HO}:upd H a o a=ao o:=by unfold upd;rw[if_pos rfl]
theorem Jl{H:Hp}{a b:aq}{o:HO}(h:b≠a):upd H a o b=H b:=by unfold upd;rw[if_neg h]
theorem Qi{H:Hp}{a b:aq}{o:HO}(h:H a=ao o)(h':H b=bc):a≠b:=by intro e;subst e;rw[h]at h';cases h'
def IsTD(h:bz)(a:aq)(items:Array ah):Prop:=∃o,h.get? a=ao o/\o.cls=.type "tuple" /\ (∃n,o.data=.seq items n)/\o.dict=bc
theorem IsTD.tup{h:bz}{a:aq}{items:Array ah}(x:IsTD h a items):rC h a items:=by obtain⟨o,e,c,d,_⟩:=x;exact⟨o,e,c,d⟩
theorem IsTD.lt{h:bz}{a:aq}{items:Array ah}(x:IsTD h a items):a<h.objs.size:=x.tup.lt
theorem IsTD.new(h:bz)(items:Array ah):IsTD (h.push { cls:=.type "tuple",data:=.seq items }) h.objs.size items:=⟨_,aD _ rfl,rfl,⟨_,rfl⟩,rfl⟩
def TabOk(H:Hp)(q:Str)(ps:Array ah):Prop:=TriplesOk ps.toList/\∀(pos:Pos) (v:ah),codeAmong pos ps.toList=ao v->∃(c:aq) (o:Obj) (u:HO) (vs:Array ah) (t:Tok),v=.ref c/\H c=ao (.frz o u)/\o.data=.fields vs/\vs[1]?=ao (.str q t)
section
variable(P:aQ)(w:bg)
def JL(H:Hp)(h:bz)(a:aq):HO->Prop
 | .lst xs=>xs.length<=sizeLine/\∃(its:List ah) (n:Nat),Vals xs its/\h.get? a=ao { cls:=.type "list",data:=.seq its.toArray n }
 | .tup xs=>xs.length<=sizeLine/\∃its:List ah,Vals xs its/\IsTD h a its.toArray
 | .dK G=>G.length<=sizeLine/\(a == sysModules)=bj/\∃vs,KV G vs/\h.DictOf (Jx P w) a vs
 | .dT G=>G.length<=sizeLine/\(a == sysModules)=bj/\∃xs:List (List Key×aq×ah),
   bT (λ(p:List Key×V) (q:List Key×aq×ah)=>p.1=q.1/\H q.2.1=ao (.tup (p.1.map kV))/\RelV p.2 q.2.2) G xs /\
   ∃o es ep,h.get? a=ao o/\o.ExactDict/\o.data=.dict es ep/\es.toList=xs.map (entryOfKey (tupleKind (Jx P w)))/\(xs.map (·.1)).Nodup
 | .set S n=>h.SetOf (intKind P w) a S n
 | .ins C J fs=>H J=ao (.own a)/\fs.length<=1000/\J≠a/\h.get? a=ao (PySem.W.instObj C J) /\
   ∃I,h.Ns1 J I/\(∀f,RelO (fs.lookup f) (I f))/\PySem.Within I (fs.map (·.1))
 | .own _=>∃o,h.get? a=ao o
 | .xd fs=>∃I,h.Ns1 a I/\∀f,RelO (fs.lookup f) (I f)
 | .rng lo hi=>∃t u v,h.get? a=ao { cls:=.type "range",data:=.fields #[.int lo t,.int hi u,.int 1 v] }
 | .frz o u=>h.get? a=ao o/\JL H h a u
 | .tbl q=>∃ps:Array ah,h.get? a=ao { cls:=.none,data:=.fields ps }/\TabOk H q ps
 | .met f x=>h.get? a=ao (mN (.ref f) (.ref x))
 | .ext L=>L h/\(∃o,h.get? a=ao o)/\∀R U:bz,L R->(∀o,R.get? a=ao o->U.get? a=ao o)->L U
def HOk(H:Hp)(h:bz):Prop:=∀a o,H a=ao o->JL P w H h a o
end
section
variable{P:aQ}{w:bg}{H H':Hp}{h h':bz}{a:aq}{o:HO}
theorem JL.lt(x:JL P w H h a o):a<h.objs.size:=by
 cases o with
 | lst xs=>obtain⟨_,_,_,_,e⟩:=x;exact aG e
 | tup xs=>obtain⟨_,_,_,p⟩:=x;exact p.lt
 | dK l=>obtain⟨_,_,_,_,o,_,_,e,_⟩:=x;exact aG e
 | dT l=>obtain⟨_,_,_,_,o,_,_,e,_⟩:=x;exact aG e
 | set S n=>obtain⟨o,_,_,_,e,_⟩:=x;exact aG e
 | ins C v fs=>obtain⟨_,_,_,e,_⟩:=x;exact aG e
 | own y=>obtain⟨_,e⟩:=x;exact aG e
 | xd fs=>obtain⟨_,⟨_,_,_,e,_⟩,_⟩:=x;exact aG e
 | rng lo hi=>obtain⟨_,_,_,e⟩:=x;exact aG e
 | frz I u=>obtain⟨e,_⟩:=x;exact aG e
 | tbl q=>obtain⟨_,e,_⟩:=x;exact aG e
 | met f y=>exact aG (show h.get? a=ao _ from x)
 | ext G=>obtain⟨_,⟨_,e⟩,_⟩:=x;exact aG e
theorem Paired.mapP{α x:Type}{F G:α->x->Prop}{u:List α}{v:List x}(h:bT F u v)(f:∀a b,F a b->G a b):bT G u v:=by
 induction h with
 | nil=>exact .nil
 | cons r _ y=>exact .cons (f _ _ r) y
theorem JL.stay(x:JL P w H h a o)(k:∀b u,(b=a\/H b=ao (.own a))->h.get? b=ao u->h'.get? b=ao u)
  (Z:∀b,H b=ao (.own a)->H' b=ao (.own a)) (R:∀b xs,H b=ao (.tup xs)->H' b=ao (.tup xs)) (hf:∀b G u,H b=ao (.frz G u)->H' b=ao (.frz G u)):JL P w H' h' a o:=by
 induction o with
 | lst xs=>obtain⟨z,its,n,r,e⟩:=x;exact⟨z,its,n,r,k _ _ (.inl rfl) e⟩
 | tup xs=>obtain⟨z,its,r,G,e,c⟩:=x;exact⟨z,its,r,G,k _ _ (.inl rfl) e,c⟩
 | dK I=>obtain⟨z,y,vs,r,G,es,ep,e,c⟩:=x;exact⟨z,y,vs,r,G,es,ep,k _ _ (.inl rfl) e,c⟩
 | dT I =>obtain⟨z,y,xs,r,G,es,ep,e,c⟩:=x;exact⟨z,y,xs,Paired.mapP r λp q z=>⟨z.1,R _ _ z.2.1,z.2.2⟩,G,es,ep,k _ _ (.inl rfl) e,c⟩
 | set S n=>obtain⟨G,es,ep,t,e,c⟩:=x;exact⟨G,es,ep,t,k _ _ (.inl rfl) e,c⟩
 | ins C dx fs =>obtain⟨d,z,ne,e,N,⟨J,es,ep,L,c⟩,r⟩:=x;exact⟨Z _ d,z,ne,k _ _ (.inl rfl) e,N,⟨J,es,ep,k _ _ (.inr d) L,c⟩,r⟩
 | own y=>obtain⟨G,e⟩:=x;exact⟨G,k _ _ (.inl rfl) e⟩
 | xd fs=>obtain⟨N,⟨J,es,ep,e,c⟩,r⟩:=x;exact⟨N,⟨J,es,ep,k _ _ (.inl rfl) e,c⟩,r⟩
 | rng lo hi=>obtain⟨t,u,v,e⟩:=x;exact⟨t,u,v,k _ _ (.inl rfl) e⟩
 | frz G u U=>obtain⟨e,q⟩:=x;exact⟨k _ _ (.inl rfl) e,U q⟩
 | tbl q =>obtain⟨ps,e,z,r⟩:=x;refine⟨ps,k a _ (.inl rfl) e,z,λpos Y m=>?_⟩;obtain⟨c,o,u,vs,t,e1,L,e3⟩:=r pos Y m;exact⟨c,o,u,vs,t,e1,hf _ _ _ L,e3⟩
 | met f y =>have e:h.get? a=ao (mN (.ref f) (.ref y)):=x;show h'.get? a=ao (mN (.ref f) (.ref y));exact k a _ (.inl rfl) e
 | ext φ=>obtain⟨p,⟨o,e⟩,st⟩:=x;exact⟨st _ _ p λo q=>k _ _ (.inl rfl) q,⟨o,k _ _ (.inl rfl) e⟩,st⟩
theorem HOk.lt(x:HOk P w H h)(e:H a=ao o):a<h.objs.size:=(x a o e).lt
theorem HOk.fresh(x:HOk P w H h)(e:h.objs.size<=a):H a=bc:=by
 cases q:H a with
 | none=>rfl
 | some u=>exact absurd (aV (x.lt q) e) (fE _)
theorem HOk.kept(x:HOk P w H h)(k:∀b u,h.get? b=ao u->h'.get? b=ao u):HOk P w H h':=λa o e =>
 (x a o e).stay (λb u _ q=>k b u q) (λ_ q=>q) (λ_ _ q=>q) λ_ _ _ q=>q
theorem HOk.laid(x:HOk P w H h)(k:∀b u,h.get? b=ao u->h'.get? b=ao u)(C:h.objs.size<=a)(new:JL P w (upd H a o) h' a o):HOk P w (upd H a o) h':=λb u e=>by have l:=x.fresh C;by_cases hb:b=a;subst hb;rw[JJ]at e;cases e;exact new;rw[Jl hb]at e;exact(x b u e).stay (λc v _ q=>k c v q) (λc q=>by rw[Jl (Qi q l)];exact q) (λc xs q=>by rw[Jl (Qi q l)];exact q) λc G xs q=>by rw[Jl (Qi q l)];exact q
end
def Rd(H:Hp)(a:aq)(u:HO):Prop:=H a=ao u\/∃o,H a=ao (.frz o u)
theorem Rd.ok{P:aQ}{w:bg}{H:Hp}{h:bz}{a:aq}{u:HO}(r:Rd H a u)(x:HOk P w H h):JL P w H h a u:=by rcases r with r|⟨o,r⟩;exact x a u r;obtain⟨_,q⟩:=x a _ r;exact q
def Mut:Option HO->Prop
 | some (.lst _)=>True
 | some (.dK _)=>True
 | some (.dT _)=>True
 | some (.set _ _)=>True
 | some (.ins _ _ _)=>True
 | some (.ext _)=>True
 | _=>False
section
variable{P:aQ}{w:bg}{H:Hp}{h h':bz}{x e:aq}{o':HO}
theorem HOk.write(ok:HOk P w H h)(l:Mut (H x))(he:e=x\/H e=ao (.own x))(k:∀b u,b≠e->h.get? b=ao u->h'.get? b=ao u)(J:∃u,h'.get? e=ao u)
  (new:JL P w (upd H x o') h' x o'):HOk P w (upd H x o') h':=λb u q=>by
 have L:∀c y,H c=ao (.own y)->c≠x:=λc y r z=>by subst z;rw[r]at l;exact l
 have C:∀c xs,H c=ao (.tup xs)->c≠x:=λc xs r z=>by subst z;rw[r]at l;exact l
 have G:∀c I xs,H c=ao (.frz I xs)->c≠x:=λc I xs r z=>by subst z;rw[r]at l;exact l
 by_cases hb:b=x;subst hb;rw[JJ]at q;cases q;exact new;rw[Jl hb]at q;by_cases hbe:b=e;have N:H b=ao (.own x):=by rcases he with z|z;exact absurd (hbe.trans z) hb;rw[hbe];exact z
 rw[q]at N;cases N;obtain⟨v,R⟩:=J;exact⟨v,by rw[hbe];exact R⟩;refine(ok b u q).stay (λc v hc r=>k c v ?_ r) (λc r=>by rw[Jl (L c b r)];exact r) (λc xs r=>by rw[Jl (C c xs r)];exact r) λc I xs r=>by rw[Jl (G c I xs r)];exact r
 rcases hc with rfl|hc;exact hbe;rintro rfl;rcases he with z|z;exact L c b hc z;rw[hc]at z;cases z;exact hb rfl
end
structure Un(fs ex:List aq)(H H':Hp)(h h':bz):Prop where
 keep:∀b o,h.get? b=ao o->H b=bc->b∉fs->b∉ex->h'.get? b=ao o
 slot:∀b o,h.get? b=ao o->H b=bc->b∈fs->b∉ex->∃sl,h'.get? b=ao { o with slots:=sl }
 free:∀b o,h.get? b=ao o->H b=bc->b∉ex->H' b=bc
 there:∀b o,h.get? b=ao o->b∉ex->∃o',h'.get? b=ao o'
 tups:∀b xs,H b=ao (.tup xs)->H' b=ao (.tup xs)
 frzs:∀b o u,H b=ao (.frz o u)->H' b=ao (.frz o u)
 tbls:∀b q,H b=ao (.tbl q)->H' b=ao (.tbl q)
section
variable{fs fs' ex ex':List aq}{H H1 H2:Hp}{h h1 h2 h':bz}{a x e:aq}{o:HO}
theorem Un.any(u:Un fs ex H H1 h h1){b:aq}{l:Obj}(q:h.get? b=ao l)(n:H b=bc)(hx:b∉ex):∃v,h1.get? b=ao { l with slots:=v }:=by by_cases hb:b∈fs;exact u.slot b l q n hb hx;exact⟨l.slots,u.keep b l q n hb hx⟩
theorem Un.kept(k:∀b u,h.get? b=ao u->h'.get? b=ao u):Un fs ex H H h h' :=
 ⟨λb l q _ _ _=>k b l q,λb l q _ _ _=>⟨l.slots,k b l q⟩,λ_ _ _ n _=>n,λb l q _=>⟨l,k b l q⟩,λ_ _ q=>q,λ_ _ _ q=>q,λ_ _ q=>q⟩
theorem Un.refl:Un fs ex H H h h:=Un.kept λ_ _ q=>q
theorem Un.laid(k:∀b u,h.get? b=ao u->h'.get? b=ao u)(v:h.objs.size<=a)(l:H a=bc):Un fs ex H (upd H a o) h h' where
 keep:=λb u q _ _ _=>k b u q
 slot:=λb u q _ _ _=>⟨u.slots,k b u q⟩
 free:=λb u q n _=>by rw[Jl (aT (aV (aG q) v))];exact n
 there:=λb u q _=>⟨u,k b u q⟩
 tups:=λb xs q=>by rw[Jl (Qi q l)];exact q
 frzs:=λb u xs q=>by rw[Jl (Qi q l)];exact q
 tbls:=λb ps q=>by rw[Jl (Qi q l)];exact q
theorem Un.write(l:Mut (H x))(he:e=x\/H e=ao (.own x))(k:∀b u,b≠e->h.get? b=ao u->h'.get? b=ao u)(y:∃u,h'.get? e=ao u):Un fs ex H (upd H x o) h h':=by
 have hx:∀b,H b=bc->b≠x:=λb n z=>by subst z;rw[n]at l;exact l
 have C:∀b,H b=bc->b≠e:=λb n z=>by subst z;rcases he with r|r;exact hx b n r;rw[n]at r;cases r
 have v:∀b u,H b=ao u->¬Mut (ao u)->b≠x:=λb u q nm z=>by subst z;rw[q]at l;exact nm l
 refine⟨λb u q n _ _=>k b u (C b n) q,λb u q n _ _=>⟨u.slots,k b u (C b n) q⟩,λb u q n _=>by rw[Jl (hx b n)];exact n,λb u q _=>?_,
  λb xs q=>by rw[Jl (v b _ q λz=>z)];exact q,λb u xs q=>by rw[Jl (v b _ q λz=>z)];exact q,λb ps q=>by rw[Jl (v b _ q λz=>z)];exact q⟩
 by_cases hbe:b=e;subst hbe;exact y;exact⟨u,k b u hbe q⟩
end
def trk(h:bz)(H:Hp):List aq:=(eY h.objs.size).filter λa=>(H a).isSome
def hidT(h:bz)(H:Hp):bz:=PySem.W.hideAll h (trk h H)
theorem zm8(h:bz)(H:Hp):(hidT h H).objs.size=h.objs.size:=PySem.W.hideAll_size _ _
theorem zo_{h:bz}{H:Hp}{b:aq}{o:Obj}(e:h.get? b=ao o)(n:H b=bc):(hidT h H).get? b=ao o :=
 PySem.W.hideAll_get _ e λl=>by have q:(H b).isSome=be:=(fw.mp l).2;rw[n]at q;simp at q
theorem zq6{h:bz}{H:Hp}{b:aq}{o:Obj}(e:(hidT h H).get? b=ao o):h.get? b=ao o/\H b=bc:=by
 have l:h.get? b=ao o:=PySem.W.of_hideAll (trk h H) e;refine⟨l,?_⟩;cases q:H b with
 | none=>rfl
 | some x =>have u:b∈trk h H:=fw.mpr ⟨hW.mpr (aG l),by simp[q]⟩;have z:(hidT h H).get? b=bc:=PySem.W.hideAll_none (trk h H) u;rw[z]at e;cases e
structure Mod(K:qF)(mg:qM)(base:bz):Prop where
 kin:K.In base
 glob:base.Ns mainGlobals mg
 blt:∃mb,base.Ns builtinsNs mb/\∀x:Str,x ≠ "__name__" -> mb x=bootBuiltins x
 nolimit:base.NoLimit
structure Cx where
 prog:aQ
 w:bg
 K:qF
 mg:Str->Option ah
 base:bz
 A:bh
 N:List Str
 s₀:av
 H₀:Hp
 env:Env
 outer:List Env
 stack:List Env
 ex:List aq
 fn:Str->Bool
 calm:Bool
 pn:List (aq×Obj)
 xe:ah->av->Prop
abbrev Fsi(X:Cx)(e:a8):Prop:=∀x,foldedSetIterable e X.env x=pure x
abbrev Fnl(X:Cx)(x:Str):Prop:=X.fn x=be\/X.env.scope.names.lookup x=ao .local
def frs(l:List Env):List aq:=l.filterMap (·.frame)
abbrev Cx.fs(X:Cx):List aq:=frs X.outer
def Vis(sc:fI)(x:Str):Prop:=sc.names.lookup x=ao .local\/sc.names.lookup x=ao .cell\/sc.names.lookup x=ao .free
def Loc(sc:fI)(x:Str):Prop:=sc.names.lookup x=ao .local\/sc.names.lookup x=ao .cell
def Look(env:Env)(h:bz)(m:qM)(x:Str)(u:ah):Prop :=
 (env.kindOf x=ao .local/\m x=ao u)\/((env.kindOf x=ao .cell\/env.kindOf x=ao .free)/\∃c,env.cells.lookup x=ao c/\h.IsCell c (ao u))
structure Cx.Ok(X:Cx):Prop where
 mod:Mod X.K X.mg X.base
 kind:X.env.scope.kind=.function
 glob:X.env.globals=mainGlobals
 blt:X.env.builtins=builtinsNs
 above:X.s₀.heap.objs.size<=X.env.locals
 inj:∀x y c,X.env.cells.lookup x=ao c->X.env.cells.lookup y=ao c->x=y
 has:∀x,(X.env.kindOf x=ao .cell\/X.env.kindOf x=ao .free)->∃c,X.env.cells.lookup x=ao c
 cab:∀x c,X.fn x=be->X.env.cells.lookup x=ao c->X.s₀.heap.objs.size<=c
 hd:X.calm=be->X.A.handled=bc
 frames:X.A.frames=ao X.stack
 stk:X.stack=X.outer\/(X.stack=X.env::X.outer/\X.env.frame=ao X.env.locals)
 exf:∀b∈X.ex,b≠X.env.locals/\∀x c,X.env.cells.lookup x=ao c->c≠b
 bs:∀b o,X.base.get? b=ao o->X.s₀.heap.get? b=ao o/\X.H₀ b=bc
 bsz:X.base.objs.size<=X.s₀.heap.objs.size
 noex:∀b o,X.base.get? b=ao o->b∉X.ex
 exfs:∀b∈X.ex,b∉X.fs
 funs:X.s₀.heap.FunFrames X.base X.outer
 frf:∀b∈X.fs,X.H₀ b=bc
structure Inv(X:Cx)(pins:qO)(σ:List (Option V))(H:Hp)(s:av):Prop where
 ok:X.Ok
 os:s.os=X.s₀.os
 bare:lI s.gens
 base:Un X.fs X.ex X.H₀ H X.s₀.heap s.heap
 loc:∃m,s.heap.Ns X.env.locals m/\∀(i:Nat) (x:Str) (v:V),X.N[i]?=ao x->σ[i]?=ao (ao v)->Vis X.env.scope x->∃u,RelV v u/\Look X.env s.heap m x u
 cell:∀x c,X.env.cells.lookup x=ao c->∃v,s.heap.IsCell c v
 free:H X.env.locals=bc
 freeC:∀x c,X.env.cells.lookup x=ao c->H c=bc
 pin:∀p∈X.pn++pins,s.heap.get? p.1=ao p.2/\H p.1=bc/\p.1≠X.env.locals/\p.1∉X.fs/\∀v,p.2.data≠.cell v
 hok:HOk X.prog X.w H s.heap
 len:σ.length=X.N.length
section
variable{X:Cx}{pins:qO}{σ:List (Option V)}{H H':Hp}{s:av}{h':bz}
theorem Cx.Ok.nofr(ok:X.Ok){b:aq}{o:Obj}(e:X.base.get? b=ao o):b∉X.fs:=λl=>by have:=(ok.funs.mem l).1;rw[e]at this;cases this
theorem Inv.bs(I:Inv X pins σ H s):∀b o,X.base.get? b=ao o->s.heap.get? b=ao o/\H b=bc:=λb o e =>
 ⟨I.base.keep b o (I.ok.bs b o e).1 (I.ok.bs b o e).2 (I.ok.nofr e) (I.ok.noex b o e),I.base.free b o (I.ok.bs b o e).1 (I.ok.bs b o e).2 (I.ok.noex b o e)⟩
theorem Inv.bk(I:Inv X pins σ H s):∀b o,X.base.get? b=ao o->s.heap.get? b=ao o:=λb o e=>(I.bs b o e).1
theorem Inv.mod(I:Inv X pins σ H s):Mod X.K X.mg X.base:=I.ok.mod
theorem Inv.kIn(I:Inv X pins σ H s):X.K.In s.heap:=I.ok.mod.kin.keeps I.bk
theorem Inv.lt(I:Inv X pins σ H s):X.env.locals<s.heap.objs.size:=let ⟨_,hn,_⟩:=I.loc;hn.lt
theorem Inv.sz(I:Inv X pins σ H s):X.s₀.heap.objs.size<=s.heap.objs.size:=cx I.ok.above (ic I.lt)
theorem Inv.nofs(I:Inv X pins σ H s){a:aq}(h:s.heap.objs.size<=a):a∉X.fs:=λu=>by obtain⟨_,o,l,_⟩:=I.ok.funs.mem u;exact absurd (aV (aG l) (cx I.sz h)) (fE _)
theorem Inv.cne(I:Inv X pins σ H s):∀x c,X.env.cells.lookup x=ao c->c≠X.env.locals:=λx c e z=>by obtain⟨v,o,y,hd⟩:=I.cell x c e;obtain⟨m,⟨C,es,ep,u,l,_⟩,_⟩:=I.loc;rw[z,u]at y;cases y;rw[l]at hd;cases hd
theorem Inv.funs(I:Inv X pins σ H s):s.heap.FunFrames X.base X.outer:=by
 have all:∀(l:List Env),(∀b∈frs l,b∈X.fs)->X.s₀.heap.FunFrames X.base l->s.heap.FunFrames X.base l:=by
  intro l;induction l with
  | nil=>intro _ _;trivial
  | cons env r J =>intro x y;obtain⟨G,⟨L,o,hf,R,N,hd⟩,C⟩:=y;have u:L∈X.fs:=x L (by unfold frs;rw[dJ,hf];exact cL);obtain⟨S,e⟩:=I.base.slot L o N (I.ok.frf L u) u λz=>I.ok.exfs L z u;exact⟨G,⟨L,_,hf,R,e,hd⟩,J (λb v=>x b (by unfold frs;rw[dJ,hf];exact cn _ v)) C⟩
 exact all X.outer (λ_ v=>v) I.ok.funs
theorem Inv.stack(I:Inv X pins σ H s):s.heap.FunFrames X.base X.stack:=by rcases I.ok.stk with e|⟨e,hf⟩;rw[e];exact I.funs;rw[e];obtain⟨m,l,_⟩:=I.loc;refine .cons (by rw[I.ok.kind];decide) hf l ?_ I.funs;exact Heap.get?_none_of_le (cx I.ok.bsz I.ok.above)
theorem Inv.stkSub(I:Inv X pins σ H s):∀b∈frs X.stack,b∈X.env.locals::X.fs:=λb l=>by rcases I.ok.stk with e|⟨e,hf⟩;rw[e]at l;exact cn _ l;rw[e]at l;unfold frs at l;rw[dJ,hf]at l;exact l
theorem Inv.stkFree(I:Inv X pins σ H s):∀b∈frs X.stack,H b=bc:=λb l=>by rcases aE.mp (I.stkSub b l) with e|l;rw[e];exact I.free;obtain⟨_,o,u,_⟩:=I.ok.funs.mem l;exact I.base.free b o u (I.ok.frf b l) λz=>I.ok.exfs b z l
theorem Inv.step{g':Array GenState}{t':Nat}{d':Drawn}{ch:List aq}(I:Inv X pins σ H s)
  (C:∀b∈ch,(b∈X.ex\/X.s₀.heap.objs.size<=b)/\b≠X.env.locals/\(∀x c,X.env.cells.lookup x=ao c->c≠b)/\∀p∈X.pn++pins,p.1≠b)
  (keep:∀b o,b≠X.env.locals->b∉X.fs->b∉ch->s.heap.get? b=ao o->H b=bc->h'.get? b=ao o)
  (slot:∀b o,b≠X.env.locals->b∈X.fs->b∉ch->s.heap.get? b=ao o->H b=bc->∃Z,h'.get? b=ao { o with slots:=Z }) (free:∀b o,b∉ch->s.heap.get? b=ao o->H b=bc->H' b=bc)
  (there:∀b o,b∉ch->s.heap.get? b=ao o->∃R,h'.get? b=ao R)
  (tups:∀b xs,H b=ao (.tup xs)->H' b=ao (.tup xs)) (frzs:∀b o u,H b=ao (.frz o u)->H' b=ao (.frz o u)) (tbls:∀b q,H b=ao (.tbl q)->H' b=ao (.tbl q))
  (ns:∀m,s.heap.Ns X.env.locals m->h'.Ns X.env.locals m) (hok:HOk X.prog X.w H' h') (hg:lI g') :
  Inv X pins σ H' { s with heap:=h',gens:=g',drawn:=d',toks:=t' }:=by
 have S:∀b o,X.s₀.heap.get? b=ao o->b≠X.env.locals:=λb o e=>aT (aV (aG e) I.ok.above);have G:∀b o,X.s₀.heap.get? b=ao o->b∉X.ex->b∉ch:=λb o e hx L=>by rcases(C b L).1 with z|z;exact hx z;exact absurd (aV (aG e) z) (fE _)
 have cellK:∀x c,X.env.cells.lookup x=ao c->∀v,s.heap.IsCell c v->h'.IsCell c v:=λx c e v ⟨o,N,hd⟩=>by have y:c∉ch:=λz=>(C c z).2.2.1 x c e rfl;by_cases hc:c∈X.fs;obtain⟨Z,q⟩:=slot c o (I.cne x c e) hc y N (I.freeC x c e);exact⟨_,q,hd⟩;exact⟨o,keep c o (I.cne x c e) hc y N (I.freeC x c e),hd⟩
 refine⟨I.ok,I.os,hg,⟨λb o e n L hx=>?_,λb o e n L hx=>?_,λb o e n hx=>?_,λb o e hx=>?_,λb xs e=>tups b xs (I.base.tups b xs e),λb o xs e=>frzs b o xs (I.base.frzs b o xs e),λb ps e=>?_⟩,?_,λx c e=>?_,?_,λx c e=>?_,λp hp=>?_,hok,I.len⟩;exact keep b o (S b o e) L (G b o e hx) (I.base.keep b o e n L hx) (I.base.free b o e n hx);obtain⟨Z,J⟩:=I.base.slot b o e n L hx;obtain⟨U,Y⟩:=slot b _ (S b o e) L (G b o e hx) J (I.base.free b o e n hx);exact⟨U,Y⟩;obtain⟨R,J⟩:=I.base.there b o e hx;exact free b R (G b o e hx) J (I.base.free b o e n hx);obtain⟨R,J⟩:=I.base.there b o e hx;exact there b R (G b o e hx) J;exact tbls b ps (I.base.tbls b ps e);obtain⟨m,hn,hl⟩:=I.loc;refine⟨m,ns m hn,λi x v J Y e3=>?_⟩;obtain⟨u,r,l⟩:=hl i x v J Y e3;refine⟨u,r,?_⟩;rcases l with l|⟨k,c,e,z⟩;exact .inl l;exact .inr ⟨k,c,e,cellK x c e _ z⟩;obtain⟨v,z⟩:=I.cell x c e;exact⟨v,cellK x c e v z⟩;obtain⟨m,⟨o,_,_,N,_⟩,_⟩:=I.loc;exact free _ o (λz=>(C _ z).2.1 rfl) N I.free;obtain⟨v,o,N,hd⟩:=I.cell x c e;exact free c o (λz=>(C c z).2.2.1 x c e rfl) N (I.freeC x c e);obtain⟨e,n,ne,nf,d⟩:=I.pin p hp;have y:p.1∉ch:=λz=>(C p.1 z).2.2.2 p hp rfl;exact⟨keep p.1 p.2 ne nf y e n,free p.1 p.2 y e n,ne,nf,d⟩
theorem Inv.un{t':Nat}(I:Inv X pins σ H s)(u:Un X.fs [] H H' s.heap h')(hok:HOk X.prog X.w H' h'):Inv X pins σ H' { s with heap:=h',toks:=t' }:=by obtain⟨m,⟨o,es,ep,C,r⟩,_⟩:=id I.loc;obtain⟨R,J⟩:=u.any C I.free (by simp);exact I.step (g':=s.gens) (d':=s.drawn) (ch:=[]) (λ_ z=>nomatch z) (λb o _ y _ e n=>u.keep b o e n y (by simp)) (λb o _ y _ e n=>u.slot b o e n y (by simp)) (λb o _ e n=>u.free b o e n (by simp)) (λb o _ e=>u.there b o e (by simp)) u.tups u.frzs u.tbls (λN L=>by obtain⟨S,x,v,l,G⟩:=L;rw[C]at l;cases l;exact⟨_,x,v,J,G⟩) hok I.bare
theorem Inv.call{g':Array GenState}{t':Nat}{d':Drawn}{ch:List aq}(I:Inv X pins σ H s)(u:Un (frs X.stack) ch H H' s.heap h')(hok:HOk X.prog X.w H' h')(S:lI g')
  (v:∀b∈ch,(b∈X.ex\/X.s₀.heap.objs.size<=b)/\b≠X.env.locals/\(∀x c,X.env.cells.lookup x=ao c->c≠b)/\∀p∈X.pn++pins,p.1≠b) :
  Inv X pins σ H' { s with heap:=h',gens:=g',drawn:=d',toks:=t' }:=by
 obtain⟨m,⟨o,es,ep,L,r⟩,_⟩:=id I.loc;obtain⟨sl,J⟩:=u.any L I.free λz=>(v _ z).2.1 rfl;exact I.step (ch:=ch) v (λb o J U hc e n=>u.keep b o e n (λz=>(aE.mp (I.stkSub b z)).elim J U) hc) (λb o _ _ hc e n=>u.any e n hc) (λb o hc e n=>u.free b o e n hc) (λb o hc e=>u.there b o e hc) u.tups u.frzs u.tbls (λY R=>by obtain⟨Z,G,C,y,N⟩:=R;rw[L]at y;cases y;exact⟨_,G,C,J,N⟩) hok S
theorem Inv.turned{t':Nat}{it:aq}(I:Inv X pins σ H s)(k:∀b o,b≠it->s.heap.get? b=ao o->h'.get? b=ao o)(L:H it=bc)(C:it≠X.env.locals)
  (S:it∈X.ex\/X.s₀.heap.objs.size<=it) (U:∀x c,X.env.cells.lookup x=ao c->c≠it) (R:∀p∈X.pn++pins,p.1≠it):Inv X pins σ H { s with heap:=h',toks:=t' }:=by
 have l:∀b u,H b=ao u->b≠it:=λb u e z=>by rw[z,L]at e;cases e
 refine I.step (g':=s.gens) (d':=s.drawn) (ch:=[it]) (λb N=>?_) (λb o _ _ hc e _=>k b o (λz=>hc (by simp[z])) e) (λb o _ _ hc e _=>⟨o.slots,k b o (λz=>hc (by simp[z])) e⟩) (λ_ _ _ _ n=>n)
  (λb o hc e=>⟨o,k b o (λz=>hc (by simp[z])) e⟩) (λ_ _ e=>e) (λ_ _ _ e=>e) (λ_ _ e=>e) (λm G=>?_) (λb u e=>?_) I.bare
 have e:b=it:=by simpa using N
 subst e;exact⟨S,C,U,R⟩;obtain⟨o,es,ep,J,r⟩:=G;exact⟨o,es,ep,k _ o (eK C) J,r⟩;refine(I.hok b u e).stay (λc v hc q=>k c v ?_ q) (λ_ q=>q) (λ_ _ q=>q) λ_ _ _ q=>q;rcases hc with z|z;rw[z];exact l b u e;exact l c _ z
theorem Inv.tok(I:Inv X pins σ H s)(t:Nat):Inv X pins σ H { s with toks:=t }:=I.un (h':=s.heap) (t':=t) Un.refl I.hok
theorem Inv.kept{t':Nat}(I:Inv X pins σ H s)(k:∀b u,s.heap.get? b=ao u->h'.get? b=ao u):Inv X pins σ H { s with heap:=h',toks:=t' }:=I.un (Un.kept k) (I.hok.kept k)
theorem Inv.laid{a:aq}{o:HO}{t':Nat}(I:Inv X pins σ H s)(k:∀b u,s.heap.get? b=ao u->h'.get? b=ao u)(l:s.heap.objs.size<=a)(new:JL X.prog X.w (upd H a o) h' a o) :
  Inv X pins σ (upd H a o) { s with heap:=h',toks:=t' }:=I.un (Un.laid k l (I.hok.fresh l)) (I.hok.laid k l new)
theorem Inv.write{x e:aq}{o:HO}{t':Nat}(I:Inv X pins σ H s)(v:Mut (H x))(he:e=x\/H e=ao (.own x))(k:∀b u,b≠e->s.heap.get? b=ao u->h'.get? b=ao u)(l:∃u,h'.get? e=ao u)
  (new:JL X.prog X.w (upd H x o) h' x o):Inv X pins σ (upd H x o) { s with heap:=h',toks:=t' }:=I.un (Un.write v he k l) (I.hok.write v he k l new)
theorem Inv.weak{σ':List (Option V)}(I:Inv X pins σ H s)(u:σ'.length=σ.length)(w:∀(i:Nat) v,σ'[i]?=ao (ao v)->σ[i]?=ao (ao v)):Inv X pins σ' H s :=
 ⟨I.ok,I.os,I.bare,I.base,let ⟨m,hn,hl'⟩:=I.loc;⟨m,hn,λi x v o y l=>hl' i x v o (w i v y) l⟩,I.cell,I.free,I.freeC,I.pin,I.hok,u.trans I.len⟩
theorem Inv.pins_of{o:qO}(I:Inv X pins σ H s)(h:∀p∈o,s.heap.get? p.1=ao p.2/\H p.1=bc/\p.1≠X.env.locals/\p.1∉X.fs/\∀v,p.2.data≠.cell v):Inv X o σ H s :=
 ⟨I.ok,I.os,I.bare,I.base,I.loc,I.cell,I.free,I.freeC,λp u=>(aC.mp u).elim (λz=>I.pin p (oI _ z)) (h p),I.hok,I.len⟩
theorem zjL{N:List Str}(u:N.Nodup){i j:Nat}{x:Str}(a:N[i]?=ao x)(b:N[j]?=ao x):i=j:=by obtain⟨v,l⟩:=aw.mp a;obtain⟨y,o⟩:=aw.mp b;exact(List.getElem_inj u).mp (l.trans o.symm)
theorem zhk{M:tf}{A:bh}{E:qV}{i:Nat}{x:Str}{v:V}{u:ah}{Q:Unit->av->Prop}(I:Inv X pins σ H s)(hN:X.N.Nodup)(hi:X.N[i]?=ao x)(hx:Loc X.env.scope x)(r:RelV v u)
  (h:∀s',Inv X pins (σ.set i (ao v)) H s'->(∃a,dE a s.heap s'.heap/\(a=X.env.locals\/X.env.cells.lookup x=ao a))->Q () s') (hf:Fnl X x:=by walk_at "F"):wpAny M A (storeName X.env x u) Q E s:=by
 obtain⟨m,hn,hl⟩:=id I.loc;have U:(X.env.scope.kind == .class||(X.env.scope.kind == .module&&X.env.locals != X.env.globals))=bj:=by rw[I.ok.kind];rfl
 have L:i<σ.length:=by rw[I.len];exact(aw.mp hi).1
 have cne:=I.cne;have tracked:∀{a:aq} {h':bz},(∃o,s.heap.get? a=ao o/\H a=bc)->dE a s.heap h'->HOk X.prog X.w H h':=λ{a h'} ha C b ob e=>by obtain⟨_,_,MU⟩:=ha;refine(I.hok b ob e).stay (λc w' hc q=>(C.2 c ?_).trans q) (λ_ q=>q) (λ_ _ q=>q) λ_ _ _ q=>q;rintro rfl;rcases hc with rfl|hc;rw[MU]at e;cases e;rw[MU]at hc;cases hc
 rcases hx with hk|hk;refine wpAny_storeName_local hk hn (λh' hn' C=>?_) U;obtain⟨oL,_,_,hoL,_⟩:=id hn;refine h _ ⟨I.ok,I.os,I.bare,⟨λb o e n R hx=>?_,λb o e n R hx=>?_,I.base.free,λb o e hx=>?_,I.base.tups,I.base.frzs,I.base.tbls⟩,⟨_,hn',λj y v' G J e3=>?_⟩,λy c e=>?_,I.free,I.freeC,λp hp=>?_,tracked ⟨oL,hoL,I.free⟩ C,by simpa using I.len⟩ ⟨_,C,.inl rfl⟩;exact(C.2 b (aT (aV (aG e) I.ok.above))).trans (I.base.keep b o e n R hx);obtain⟨sl,G⟩:=I.base.slot b o e n R hx;exact⟨sl,(C.2 b (aT (aV (aG e) I.ok.above))).trans G⟩;obtain⟨o',G⟩:=I.base.there b o e hx;exact⟨o',(C.2 b (aT (aV (aG e) I.ok.above))).trans G⟩;by_cases hj:j=i;subst hj;rw[hi]at G;cases G;rw[gJ L]at J;cases J;exact⟨u,r,.inl ⟨hk,by simp⟩⟩;rw[dY (eK hj)]at J;obtain⟨u',r',q⟩:=hl j y v' G J e3;refine⟨u',r',?_⟩;rcases q with⟨k,e⟩|⟨k,c,e,z⟩;refine .inl ⟨k,?_⟩;have:y≠x:=λe=>hj (zjL hN G (e▸hi));simp[this,e];exact .inr ⟨k,c,e,z.sameBut C (cne y c e)⟩;obtain⟨w',z⟩:=I.cell y c e;exact⟨w',z.sameBut C (cne y c e)⟩;obtain⟨e,n,ne,nf,d⟩:=I.pin p hp;exact⟨(C.2 p.1 ne).trans e,n,ne,nf,d⟩;have N:X.fn x=be:=by rcases hf with z|z;exact z;rw[z]at hk;cases hk
 obtain⟨c,hc⟩:=I.ok.has x (.inl hk);obtain⟨w',z⟩:=I.cell x c hc;refine wpAny_storeName_cell I.ok.kind hk hc z (λh' S C=>?_);obtain⟨oc,Z,Y⟩:=id z;refine h { s with heap:=h' } ⟨I.ok,I.os,I.bare,⟨λb o e n R hx=>?_,λb o e n R hx=>?_,I.base.free,λb o e hx=>?_,I.base.tups,I.base.frzs,I.base.tbls⟩,⟨m,hn.sameBut C (eK (cne x c hc)),λj y v' G J e3=>?_⟩,λy c' e=>?_,I.free,I.freeC,λp hp=>?_,tracked ⟨oc,Z,I.freeC x c hc⟩ C,by simpa using I.len⟩ ⟨c,C,.inr hc⟩;exact(C.2 b (aT (aV (aG e) (I.ok.cab x c N hc)))).trans (I.base.keep b o e n R hx);obtain⟨sl,G⟩:=I.base.slot b o e n R hx;exact⟨sl,(C.2 b (aT (aV (aG e) (I.ok.cab x c N hc)))).trans G⟩;obtain⟨o',G⟩:=I.base.there b o e hx;exact⟨o',(C.2 b (aT (aV (aG e) (I.ok.cab x c N hc)))).trans G⟩;by_cases hj:j=i;subst hj;rw[hi]at G;cases G;rw[gJ L]at J;cases J;exact⟨u,r,.inr ⟨.inl hk,c,hc,S⟩⟩;rw[dY (eK hj)]at J;obtain⟨u',r',q⟩:=hl j y v' G J e3;refine⟨u',r',?_⟩;rcases q with q|⟨k,c',e,z'⟩;exact .inl q;refine .inr ⟨k,c',e,z'.sameBut C ?_⟩;rintro rfl;exact hj (zjL hN G (I.ok.inj _ _ _ e hc▸hi));by_cases hcc:c'=c;subst hcc;exact⟨_,S⟩;obtain⟨w2,z2⟩:=I.cell y c' e;exact⟨w2,z2.sameBut C hcc⟩;obtain⟨e,n,ne,nf,d⟩:=I.pin p hp;refine⟨(C.2 p.1 ?_).trans e,n,ne,nf,d⟩;intro q;rw[q,Z]at e;have q':oc=p.2:=aP e;exact d w' (by rw[<- q'];exact Y)
theorem zgp{M:tf}{A:bh}{E:qV}{i:Nat}{x:Str}{v:V}{u:ah}{Q:Unit->av->Prop}(I:Inv X pins σ H s)(o:X.N.Nodup)(hi:X.N[i]?=ao x)(hx:Loc X.env.scope x)(r:RelV v u)
  (h:∀s',Inv X pins (σ.set i (ao v)) H s'->Q () s') (hf:Fnl X x:=by walk_at "F"):wpAny M A (storeName X.env x u) Q E s :=
 zhk I o hi hx r (λs' l _=>h s' l) hf
theorem Inv.call'{s':av}{ch:List aq}(I:Inv X pins σ H s)(y:s'.os=s.os)(u:Un (frs X.stack) ch H H' s.heap s'.heap)(hok:HOk X.prog X.w H' s'.heap)(o:lI s'.gens)
  (l:∀b∈ch,(b∈X.ex\/X.s₀.heap.objs.size<=b)/\b≠X.env.locals/\(∀x c,X.env.cells.lookup x=ao c->c≠b)/\∀p∈X.pn++pins,p.1≠b):Inv X pins σ H' s':=by
 obtain⟨h',g',d',t',v⟩:=s';have e:v=s.os:=y;subst e;exact I.call (g':=g') (t':=t') (d':=d') u hok o l
end
abbrev XK:=ah->Option aq->Hp->Prop
abbrev St:=List (Option V)
abbrev VK:=V->Hp->Prop
abbrev TE:=St->Hp->VK->Prop
abbrev TT:=St->Hp->(Bool->Hp->Prop)->Prop
abbrev TA:=St->Hp->(List V->Hp->Prop)->Prop
structure Ends where
 nx:St->Hp->Prop
 rt:VK
 bk:St->Hp->Prop:=λ_ _=>False
 ct:St->Hp->Prop:=λ_ _=>False
abbrev TS:=Ends->St->Hp->Prop
def EP(X:Cx)(pins:qO)(σ:St)(Q:VK)(u:ah)(s':av):Prop:=∃v H',Inv X pins σ H' s'/\RelV v u/\Q v H'
def TP(X:Cx)(pins:qO)(σ:St)(Q:Bool->Hp->Prop)(b:Bool)(s':av):Prop:=∃H',Inv X pins σ H' s'/\Q b H'
def AP(X:Cx)(pins:qO)(σ:St)(Q:List V->Hp->Prop)(l:List ah)(s':av):Prop:=∃vs H',Inv X pins σ H' s'/\Vals vs l/\Q vs H'
def SP(X:Cx)(pins:qO)(D:Ends)(f:Flow)(s':av):Prop :=
 match f with
 | .next=>∃σ' H',Inv X pins σ' H' s'/\D.nx σ' H'
 | .brk=>∃σ' H',Inv X pins σ' H' s'/\D.bk σ' H'
 | .cont=>∃σ' H',Inv X pins σ' H' s'/\D.ct σ' H'
 | .ret u=>∃v σ' H',Inv X pins σ' H' s'/\RelV v u/\D.rt v H'
def PE(X:Cx)(e:a8)(t:TE):Prop :=
 ∀(pins:qO) (s:av) (σ:St) (H:Hp) (Q:VK),Inv X pins σ H s->t σ H Q->wpAny (model X.prog X.w) X.A (eval e X.env) (EP X pins σ Q) X.xe s
def PT(X:Cx)(e:a8)(t:TT):Prop :=
 ∀(pins:qO) (s:av) (σ:St) (H:Hp) (Q:Bool->Hp->Prop),Inv X pins σ H s->t σ H Q->wpAny (model X.prog X.w) X.A (isTrue e X.env (eval e X.env)) (TP X pins σ Q) X.xe s
def PW(X:Cx)(e:a8)(t:TT):Prop :=
 ∀(whole:Sem ah) (pins:qO) (s:av) (σ:St) (H:Hp) (Q:Bool->Hp->Prop),Inv X pins σ H s->t σ H Q->wpAny (model X.prog X.w) X.A (isTrue e X.env whole) (TP X pins σ Q) X.xe s
theorem PW.pt{X:Cx}{e:a8}{t:TT}(h:PW X e t):PT X e t:=h _
def PA(X:Cx)(es:List a8)(t:TA):Prop :=
 ∀(pos:Pos) (pins:qO) (s:av) (σ:St) (H:Hp) (Q:List V->Hp->Prop),Inv X pins σ H s->t σ H Q->wpAny (model X.prog X.w) X.A (spliced (backTo pos (starEach es X.env))) (AP X pins σ Q) X.xe s
def PS(X:Cx)(st:fA)(t:TS):Prop :=
 ∀(pins:qO) (s:av) (σ:St) (H:Hp) (D:Ends),Inv X pins σ H s->t D σ H->wpAny (model X.prog X.w) X.A (exec st X.env) (SP X pins D) X.xe s
def PSs(X:Cx)(st:List fA)(t:TS):Prop :=
 ∀(pins:qO) (s:av) (σ:St) (H:Hp) (D:Ends),Inv X pins σ H s->t D σ H->wpAny (model X.prog X.w) X.A (execs st X.env) (SP X pins D) X.xe s
theorem thn{α:Type}{t:Sem α}{Q l:α->av->Prop}{M:tf}{A:bh}{E:qV}{s:av}(h:wpAny M A t Q E s)(o:∀a s,Q a s->l a s):wpAny M A t l E s:=cS h o λ_ _ x=>x
section
variable{X:Cx}
def tVar(i:Nat):TE:=λσ H Q=>∃v,σ[i]?=ao (ao v)/\Q v H
def tC(v:V):TE:=λ_ H Q=>Q v H
theorem Qq{i:Nat}{x:Str}{pos:Pos}(S:X.N[i]?=ao x)(J:Vis X.env.scope x)(hd:Ndb x:=by decide)(C:Ncd x:=by decide):PE X (.Name x pos) (tVar i):=by intro pins s σ H Q I h;obtain⟨v,e,h⟩:=h;obtain⟨m,R,G⟩:=I.loc;obtain⟨u,r,l⟩:=G i x v S e J;have fin:EP X pins σ Q u s:=⟨v,H,I,r,h⟩;rcases l with⟨y,L⟩|⟨y,c,hc,o⟩;exact t6 (oJ I.ok.kind y R L fin) hd;rcases y with y|y;exact t6 (pH I.ok.kind y hc o fin) hd;exact t6 (wpAny_loadName_free I.ok.kind y hc o fin C) hd
theorem JA{i j pos}:PE X (.Constant (.int i) j pos) (tC (.int i)):=λ_ _ _ H _ I h=>wpAny_Constant_int ⟨.int i,H,I.tok _,⟨_,rfl⟩,h⟩
theorem zwx{b j pos}:PE X (.Constant (.bool b) j pos) (tC (.bl b)):=λ_ _ _ H _ I h=>Constant_bool ⟨.bl b,H,I,rfl,h⟩
theorem ztg{j pos}:PE X (.Constant .none j pos) (tC .non):=λ_ _ _ H _ I h=>Constant_none ⟨.non,H,I,rfl,h⟩
theorem zte{x j pos}:PE X (.Constant (.str x) j pos) (tC (.str x)):=λ_ _ _ H _ I h=>Calls.Constant_str ⟨.str x,H,I.tok _,⟨_,rfl⟩,h⟩
def Gl(X:Cx)(x:Str):Prop:=X.env.kindOf x=ao .globalImplicit
theorem zrj{E:qV}{pins:qO}{s:av}{σ:St}{H:Hp}{x:Str}{u:ah}{pos:Pos}{Q:qV}(I:Inv X pins σ H s)(l:Gl X x)(o:X.mg x=ao u)(h:Q u s)
  (hd:Ndb x:=by decide):wpAny (model X.prog X.w) X.A (eval (.Name x pos) X.env) Q E s :=
 lR I.ok.kind l (Calls.loadGlobal_global (by rw[I.ok.glob];exact I.mod.glob.keeps I.bk) o h) hd
theorem Yr{E:qV}{pins:qO}{s:av}{σ:St}{H:Hp}{x:Str}{u:ah}{pos:Pos}{Q:qV}(I:Inv X pins σ H s)(v:Gl X x)(o:X.mg x=bc)(l:bootBuiltins x=ao u)(h:Q u s)
  (y:x ≠ "__name__":=by decide) (hd:Ndb x:=by decide):wpAny (model X.prog X.w) X.A (eval (.Name x pos) X.env) Q E s:=by
 obtain⟨J,C,G⟩:=I.mod.blt;exact lR I.ok.kind v (Calls.loadGlobal_builtin (by rw[I.ok.glob];exact I.mod.glob.keeps I.bk) o (by rw[I.ok.blt];exact C.keeps I.bk) ((G x y).trans l) h) hd
variable{a b:a8}{ta tb:TE}{pos:Pos}
variable{tA tB':TT}{rest:List a8}
def tAnd(t u:TT):TT:=λσ H Q=>t σ H λc l=>if c=be then u σ l Q else Q bj l
def tOr(t u:TT):TT:=λσ H Q=>t σ H λc l=>if c=be then Q be l else u σ l Q
def tNot(t:TT):TT:=λσ H Q=>t σ H λc l=>Q (!c) l
theorem zqF(u:PT X a tA):PW X (.BoolOp .And [a] pos) tA:=by
 intro v pins s σ H Q I h;refine isTrue_and (thn (u pins s σ H Q I h) λc s1 e=>?_);cases c with
 | true=>exact isTrue_and_nil e
 | false=>exact e
theorem zs1(u:PT X a tA):PW X (.BoolOp .Or [a] pos) tA:=by
 intro v pins s σ H Q I h;refine isTrue_or (thn (u pins s σ H Q I h) λc s1 e=>?_);cases c with
 | false=>exact isTrue_or_nil e
 | true=>exact e
theorem zs2(G:PT X a tA)(J:PW X (.BoolOp .And (b::rest) pos) tB'):PW X (.BoolOp .And (a::b::rest) pos) (tAnd tA tB'):=by
 intro C pins s σ H Q I h;refine isTrue_and (thn (G pins s σ H _ I h) λc s1 u=>?_);obtain⟨y,v,x⟩:=u;cases c with
 | true=>exact J C pins s1 σ y Q v x
 | false=>exact⟨y,v,x⟩
theorem zwu(G:PT X a tA)(J:PW X (.BoolOp .Or (b::rest) pos) tB'):PW X (.BoolOp .Or (a::b::rest) pos) (tOr tA tB'):=by
 intro C pins s σ H Q I h;refine isTrue_or (thn (G pins s σ H _ I h) λc s1 u=>?_);obtain⟨y,v,x⟩:=u;cases c with
 | true=>exact⟨y,v,x⟩
 | false=>exact J C pins s1 σ y Q v x
theorem zs4(l:PT X a tA):PT X (.UnaryOp .Not a pos) (tNot tA):=by intro pins s σ H Q I h;exact isTrue_not (l pins s σ H (λc u=>Q (!c) u) I h)
def zvU(ta tb:TE):TE:=λσ H Q=>ta σ H λx o=>∃c,x=.bl c/\if c=be then tb σ o Q else Q (.bl bj) o
def tOrV(ta tb:TE):TE:=λσ H Q=>ta σ H λx o=>∃c,x=.bl c/\if c=be then Q (.bl be) o else tb σ o Q
theorem ztf{op}{t:TE}(h:PE X a t):PE X (.BoolOp op [a] pos) t:=λpins s σ H Q I hw=>BoolOp_one (h pins s σ H Q I hw)
theorem ztl(J:PE X a ta)(L:PE X (.BoolOp .And (b::rest) pos) tb):PE X (.BoolOp .And (a::b::rest) pos) (zvU ta tb):=by
 intro pins s σ H Q I h;refine BoolOp_and (thn (J pins s σ H _ I h) λv s1 y=>?_);obtain⟨x,C,G,N,u⟩:=y;obtain⟨c,rfl,u⟩:=u;cases N;refine cW ?_;cases c with
 | true=>exact L pins s1 σ C Q G u
 | false=>exact⟨.bl bj,C,G,rfl,u⟩
theorem zww(J:PE X a ta)(L:PE X (.BoolOp .Or (b::rest) pos) tb):PE X (.BoolOp .Or (a::b::rest) pos) (tOrV ta tb):=by
 intro pins s σ H Q I h;refine BoolOp_or (thn (J pins s σ H _ I h) λv s1 y=>?_);obtain⟨x,C,G,N,u⟩:=y;obtain⟨c,rfl,u⟩:=u;cases N;refine cW ?_;cases c with
 | false=>exact L pins s1 σ C Q G u
 | true=>exact⟨.bl be,C,G,rfl,u⟩
def tIf(t:TT)(ta tb:TE):TE:=λσ H Q=>t σ H λc l=>if c=be then ta σ l Q else tb σ l Q
theorem zoJ{c:a8}(hc:PT X c tA)(y:PE X a ta)(C:PE X b tb):PE X (.IfExp c a b pos) (tIf tA ta tb):=by
 intro pins s σ H Q I h;refine wpAny_IfExp (thn (hc pins s σ H _ I h) λd s1 l=>?_);obtain⟨v,o,u⟩:=l;cases d with
 | true=>exact y pins s1 σ v Q o u
 | false=>exact C pins s1 σ v Q o u
end
def SqL(K:qF)(H:Hp)(a:aq)(xs:List V):Prop :=
 Rd H a (.lst xs) \/
  ∃(o:Obj) (its:Array ah) (n:Nat),K.lookup a=ao o/\o.cls=.type "list" /\ o.dict=bc/\o.data=.seq its n/\its.size<=sizeLine/\Vals xs its.toList
def SqT(K:qF)(H:Hp)(a:aq)(xs:List V):Prop :=
 Rd H a (.tup xs) \/
  ∃(o:Obj) (its:Array ah) (n:Nat),K.lookup a=ao o/\o.cls=.type "tuple" /\ o.data=.seq its n/\its.size<=sizeLine/\Vals xs its.toList
def absV:ah->Option V
 | .none=>ao .non
 | .bool b=>ao (.bl b)
 | .int i _=>ao (.int i)
 | .str x _=>ao (.str x)
 | .bytes b _=>ao (.byt b)
 | .float b _=>ao (.flt b)
 | .ref a=>ao (.ref a)
 | .type n=>ao (.ty n)
 | _=>bc
theorem RelV.abs{x:V}{u:ah}(r:RelV x u):absV u=ao x:=by
 cases x with
 | non=>cases r;rfl
 | bl _=>cases r;rfl
 | int _=>obtain⟨t,rfl⟩:=r;rfl
 | str _=>obtain⟨t,rfl⟩:=r;rfl
 | byt _=>obtain⟨t,rfl⟩:=r;rfl
 | flt _=>obtain⟨t,rfl⟩:=r;rfl
 | ref _=>cases r;rfl
 | ty _=>cases r;rfl
theorem RelV.inj{x y:V}{u:ah}(r:RelV x u)(q:RelV y u):x=y:=aP (r.abs.symm.trans q.abs)
theorem Vals.inj{xs ys:List V}{l:List ah}(h:Vals xs l)(k:Vals ys l):xs=ys:=by
 induction h generalizing ys with
 | nil=>cases k;rfl
 | cons r t u =>
  cases k with
  | cons o t'=>rw[r.inj o,u t']
section
variable{X:Cx}{pins:qO}{σ:St}{H:Hp}{s:av}{a:aq}{xs ys:List V}
theorem SqL.of{K:qF}(h:H a=ao (.lst xs)):SqL K H a xs:=.inl (.inl h)
theorem Inv.list(I:Inv X pins σ H s)(h:SqL X.K H a xs):∃its:List ah,Vals xs its/\PlainL s.heap a its.toArray/\xs.length<=sizeLine:=by rcases h with h|⟨o,its,n,u,hc,hd,l,hz,r⟩;obtain⟨z,its,n,r,e⟩:=h.ok I.hok;exact⟨its,r,⟨_,n,e,rfl,rfl,rfl⟩,z⟩;refine⟨its.toList,r,⟨o,n,I.kIn a o u,hc,hd,by simpa using l⟩,?_⟩;have e:=r.length;simp only[cQ]at e;lia
theorem Inv.tuple(I:Inv X pins σ H s)(h:SqT X.K H a xs):∃its:List ah,Vals xs its/\rC s.heap a its.toArray/\xs.length<=sizeLine:=by rcases h with h|⟨o,its,n,u,hc,l,hz,r⟩;obtain⟨z,its,r,p⟩:=h.ok I.hok;exact⟨its,r,p.tup,z⟩;refine⟨its.toList,r,⟨o,I.kIn a o u,hc,n,by simpa using l⟩,?_⟩;have e:=r.length;simp only[cQ]at e;lia
theorem Inv.list_inj(I:Inv X pins σ H s)(h:SqL X.K H a xs)(h':SqL X.K H a ys):xs=ys:=by
 obtain⟨its,r,⟨o,n,e,_,_,d⟩,_⟩:=I.list h;obtain⟨its',u,⟨x,v,l,_,_,d'⟩,_⟩:=I.list h';rw[e]at l;cases l;rw[d]at d';injection d' with d1 _
 have:its=its':=by simpa using congrArg bf d1
 subst this;exact r.inj u
theorem Inv.tuple_inj(I:Inv X pins σ H s)(h:SqT X.K H a xs)(h':SqT X.K H a ys):xs=ys:=by
 obtain⟨its,r,⟨o,e,_,n,d⟩,_⟩:=I.tuple h;obtain⟨its',u,⟨x,l,_,v,d'⟩,_⟩:=I.tuple h';rw[e]at l;cases l;rw[d]at d';injection d' with d1 _
 have:its=its':=by simpa using congrArg bf d1
 subst this;exact r.inj u
end
abbrev Cx.wish(X:Cx)(E:qV):Cx:={ X with xe:=E }
abbrev Cx.nox(X:Cx):Cx:=X.wish λ_ _=>False
theorem Cx.Ok.wish{X:Cx}(ok:X.Ok)(E:qV):(X.wish E).Ok :=
 ⟨ok.mod,ok.kind,ok.glob,ok.blt,ok.above,ok.inj,ok.has,ok.cab,ok.hd,ok.frames,ok.stk,ok.exf,ok.bs,ok.bsz,ok.noex,ok.exfs,ok.funs,ok.frf⟩
theorem Cx.Ok.unwish{X:Cx}{E:qV}(ok:(X.wish E).Ok):X.Ok :=
 ⟨ok.mod,ok.kind,ok.glob,ok.blt,ok.above,ok.inj,ok.has,ok.cab,ok.hd,ok.frames,ok.stk,ok.exf,ok.bs,ok.bsz,ok.noex,ok.exfs,ok.funs,ok.frf⟩
section
variable{X:Cx}{pins:qO}{σ:St}{H:Hp}{s:av}{E:qV}
theorem Inv.wish(I:Inv X pins σ H s)(E:qV):Inv (X.wish E) pins σ H s:=⟨I.ok.wish E,I.os,I.bare,I.base,I.loc,I.cell,I.free,I.freeC,I.pin,I.hok,I.len⟩
theorem Inv.unwish(I:Inv (X.wish E) pins σ H s):Inv X pins σ H s:=⟨I.ok.unwish,I.os,I.bare,I.base,I.loc,I.cell,I.free,I.freeC,I.pin,I.hok,I.len⟩
theorem SP.unwish{D:Ends}{f:Flow}{s':av}(h:SP (X.wish E) pins D f s'):SP X pins D f s':=by
 cases f with
 | next=>obtain⟨σ',H',I,q⟩:=h;exact⟨σ',H',I.unwish,q⟩
 | brk=>obtain⟨σ',H',I,q⟩:=h;exact⟨σ',H',I.unwish,q⟩
 | cont=>obtain⟨σ',H',I,q⟩:=h;exact⟨σ',H',I.unwish,q⟩
 | ret u=>obtain⟨v,σ',H',I,r,q⟩:=h;exact⟨v,σ',H',I.unwish,r,q⟩
theorem PSs.nox{st:List fA}{t:TS}(h:PSs X.nox st t):PSs X st t:=λpins s σ H D I hw =>
 cS (h pins s σ H D (I.wish _) hw) (λ_ _ q=>q.unwish) λ_ _ z=>eZ z
end
section
variable{X:Cx}{st:fA}{rest:List fA}{t u:TS}{e:a8}{te:TE}{pos:Pos}
def zvS:TS:=λD σ H=>D.nx σ H
def tSeq(t u:TS):TS:=λD σ H=>t { D with nx:=u D } σ H
theorem ziG:PSs X [] zvS:=λ_ _ σ H _ I h=>lC ⟨σ,H,I,h⟩
theorem Qv(l:PS X st t)(o:PSs X rest u):PSs X (st::rest) (tSeq t u):=by
 intro pins s σ H D I h;refine sG (thn (l pins s σ H { D with nx:=u D } I h) λf s1 q=>?_);cases f with
 | next =>obtain⟨σ',H',x,q⟩:=q;exact o pins s1 σ' H' D x q
 | ret v=>exact q
 | brk=>exact q
 | cont=>exact q
theorem ZN(l:PS X st t):PSs X [st] t:=by
 intro pins s σ H D I h;refine sG (thn (l pins s σ H D I h) λf s1 q=>?_);cases f with
 | next=>exact lC q
 | ret v=>exact q
 | brk=>exact q
 | cont=>exact q
theorem Inv.quiet{pins:qO}{σ:St}{H:Hp}{s:av}(I:Inv X pins σ H s):interactive X.env=bj:=by simp[interactive,I.ok.kind]
def zvT(te:TE):TS:=λD σ H=>te σ H λ_ l=>D.nx σ l
theorem zmg(he:PE X e te)(y:swapsWith e bc pos.line X.env=pure bj:=by rfl):PS X (.Expr e pos) (zvT te):=by intro pins s σ H D I h;exact wpAny_Expr_any (thn (he pins s σ H _ I h) λv s1 ⟨x,C,l,G,o⟩=>⟨σ,C,l,o⟩) I.quiet y
def tRet(te:TE):TS:=λD σ H=>te σ H D.rt
theorem ZD(he:PE X e te):PS X (.Return (ao e) pos) (tRet te):=by intro pins s σ H D I h;exact wpAny_Return_some (thn (he pins s σ H _ I h) λv s1 ⟨x,y,l,C,o⟩=>⟨x,σ,y,l,C,o⟩)
def tIfS(c:TT)(t u:TS):TS:=λD σ H=>c σ H λb l=>if b=be then t D σ l else u D σ l
theorem zqL{c:a8}{a b:List fA}{x:TT}(hc:PT X c x)(C:PSs X a t)(G:PSs X b u):PS X (.If c a b pos) (tIfS x t u):=by
 intro pins s σ H D I h;refine wpAny_If (thn (hc pins s σ H _ I h) λd s1 l=>?_);obtain⟨o,y,v⟩:=l;cases d with
 | true=>exact C pins s1 σ o D y v
 | false=>exact G pins s1 σ o D y v
end
abbrev TG:=V->St->Hp->(St->Hp->Prop)->Prop
abbrev TGs:=List V->St->Hp->(St->Hp->Prop)->Prop
def PG(X:Cx)(target:a8)(t:TG):Prop :=
 ∀(pins:qO) (s:av) (σ:St) (H:Hp) (v:V) (u:ah) (Q:St->Hp->Prop),Inv X pins σ H s->RelV v u->t v σ H Q ->
  wpAny (model X.prog X.w) X.A (assign target X.env u) (λ_ s'=>∃σ' H',Inv X pins σ' H' s'/\Q σ' H') X.xe s
def PGs(X:Cx)(ts:List a8)(t:TGs):Prop :=
 ∀(pins:qO) (s:av) (σ:St) (H:Hp) (vs:List V) (l:List ah) (Q:St->Hp->Prop),Inv X pins σ H s->Vals vs l->t vs σ H Q ->
  wpAny (model X.prog X.w) X.A (assignInOrder ((assignEach ts X.env).map (·.2)) l) (λ_ s'=>∃σ' H',Inv X pins σ' H' s'/\Q σ' H') X.xe s
abbrev TSet:=V->V->V->Hp->(Hp->Prop)->Prop
def PSet(X:Cx)(t:TSet):Prop :=
 ∀(pins:qO) (s:av) (σ:St) (H:Hp) (o i v:V) (l x u:ah) (Q:Hp->Prop),Inv X pins σ H s->RelV o l->RelV i x->RelV v u->t o i v H Q ->
  wpAny (model X.prog X.w) X.A (setItem l x u) (λ_ s'=>∃H',Inv X pins σ H' s'/\Q H') X.xe s
abbrev TIp:=V->V->Hp->VK->Prop
def PIp(X:Cx)(op:t7)(t:TIp):Prop :=
 ∀(pins:qO) (s:av) (σ:St) (H:Hp) (x y:V) (v u:ah) (Q:VK),Inv X pins σ H s->RelV x v->RelV y u->t x y H Q ->
  wpAny (model X.prog X.w) X.A (inplaceOp op v u) (EP X pins σ Q) X.xe s
section
variable{X:Cx}{pos:Pos}
def UF(i:Nat):TG:=λv σ H Q=>Q (σ.set i (ao v)) H
theorem zqS{i:Nat}{x:Str}(o:X.N.Nodup)(hi:X.N[i]?=ao x)(hx:Loc X.env.scope x)(hf:Fnl X x:=by walk_at "F"):PG X (.Name x pos) (UF i):=by intro pins s σ H v u Q I r h;exact rE (zgp I o hi hx r (λs' l=>⟨_,H,l,h⟩) hf)
def gNil:TGs:=λvs σ H Q=>vs=[]/\Q σ H
def zxi(t:TG)(u:TGs):TGs:=λvs σ H Q=>∃v r,vs=v::r/\t v σ H λσ' H'=>u r σ' H' Q
theorem zqR:PGs X [] gNil:=by intro pins s σ H vs l Q I r h;obtain⟨e,h⟩:=h;subst e;cases r;exact assignInOrder_nil ⟨σ,H,I,h⟩
theorem zoH{e:a8}{es:List a8}{t:TG}{u:TGs}(J:PG X e t)(R:PGs X es u)
  (C:(assignEach (e::es) X.env).map (·.2)=assign e X.env::(assignEach es X.env).map (·.2):=by rfl):PGs X (e::es) (zxi t u):=by
 intro pins s σ H vs U Q I r h;obtain⟨v,S,G,h⟩:=h;subst G;cases r with
 | cons r N =>rw[C];refine assignInOrder_cons (thn (J pins s σ H _ _ _ I r h) λ_ s1 l=>?_);obtain⟨o,x,L,y⟩:=l;exact R pins s1 o x _ _ Q L N y
def gTup(K:qF)(n:Nat)(t:TGs):TG:=λv σ H Q=>∃a xs,v=.ref a/\SqT K H a xs/\xs.length=n/\t xs σ H Q
theorem ztc{es:List a8}{k:Nat}{t:TGs}{n:Nat}(hc:X.calm=be)(h:PGs X es t)
  (R:(assignEach es X.env).length=n:=by rfl) (y:(assignEach es X.env).findIdx? (·.1)=bc:=by rfl):PG X (.Tuple es k pos) (gTup X.K n t):=by
 intro pins s σ H v u Q I r hw;obtain⟨a,xs,N,J,G,hw⟩:=hw;subst N;cases r;obtain⟨its,C,L,hz⟩:=I.tuple J;refine assign_Tuple_tuple (I.ok.hd hc) L (by simp[R,<- G,C.length]) y λh' hx=>?_;have S:Inv X pins σ H { s with heap:=h' }:=I.kept (t':=s.toks) λb o e=>hx b o (aT (aG e)) e;exact h pins _ σ H xs _ Q S (by simpa using C) hw
def gSub(to ti:TE)(t:TSet):TG:=λv σ H Q=>to σ H λo l=>ti σ l λi u=>t o i v u λx=>Q σ x
theorem pg_sub{o i:a8}{to ti:TE}{t:TSet}(Z:PE X o to)(hi:PE X i ti)(U:PSet X t)
  (J:∀v,assign (.Subscript o i pos) X.env v=(do
   let C <- holding [v] (eval o X.env);let G <- holding [v,C] (eval i X.env)
   standAt pos
   holding [v,C,G] (setItem C G v)
   release [v,C,G] []):=by intro _;rfl):PG X (.Subscript o i pos) (gSub to ti t):=by
 intro pins s σ H v u Q I r h;rw[J];refine aa (cq (thn (Z pins s σ H _ I h) λC s1 l=>?_));obtain⟨x,N,I1,r1,R⟩:=l;refine aa (cq (thn (hi pins s1 σ N _ I1 R) λG s2 l=>?_));obtain⟨y,H2,I2,Y,q2⟩:=l;refine aa (f9 (aa (cq (thn (U pins s2 σ H2 x y v C G u _ I2 r1 Y r q2) λ_ s3 l=>?_))));obtain⟨H3,L,q3⟩:=l;exact wpAny_release ⟨σ,H3,L,q3⟩
def tAsg(o:TE)(g:TG):TS:=λD σ H=>o σ H λx l=>g x σ l D.nx
theorem VM{l e:a8}{o:TE}{g:TG}(he:PE X e o)(G:PG X l g)(C:swapsWithSole [l] e pos.line X.env=pure bj:=by rfl)(hw:swappedStores [l] e X.env=pure bc:=by rfl)
  (L:(assignEach [l] X.env).map (·.2)=[assign l X.env]:=by rfl):PS X (.Assign [l] e pos) (tAsg o g):=by
 intro pins s σ H D I h;refine wpAny_Assign_stores (thn (he pins s σ H _ I h) λv s1 ⟨x,u,N,J,y⟩=>?_) C hw;rw[L];exact thn (G pins s1 σ u x v _ N J y) λ_ s2 q=>q
theorem Qr{i:Nat}{x:Str}{e:a8}{o:TE}{l:Pos}(L:X.N.Nodup)(hi:X.N[i]?=ao x)(hx:Loc X.env.scope x)(he:PE X e o)(G:swapsWith e (ao (.Name x l)) pos.line X.env=pure bj:=by rfl)(hf:Fnl X x:=by walk_at "F") :
  PS X (.Assign [.Name x l] e pos) (tAsg o (UF i)):=by
 intro pins s σ H D I h;refine wpAny_Assign_Name (thn (he pins s σ H _ I h) λv s1 ⟨y,u,R,J,C⟩=>?_) G;exact zgp R L hi hx J (λs2 S=>⟨_,u,S,C⟩) hf
def tAug(i:Nat)(o:TE)(ti:TIp):TS:=λD σ H=>∃x,σ[i]?=ao (ao x)/\o σ H λy l=>ti x y l λz u=>D.nx (σ.set i (ao z)) u
theorem zs6{i:Nat}{x:Str}{e:a8}{U:TE}{op:t7}{ti:TIp}{L:Pos}(hN:X.N.Nodup)(hi:X.N[i]?=ao x)(hx:Loc X.env.scope x)(he:PE X e U)(ho:PIp X op ti)(hf:Fnl X x:=by walk_at "F") :
  PS X (.AugAssign (.Name x L) op e pos) (tAug i U ti):=by
 intro pins s σ H D I h;obtain⟨v,e1,h⟩:=h;obtain⟨m,hn,Z⟩:=I.loc;have S:Vis X.env.scope x:=by rcases hx with k|k;exact .inl k;exact .inr (.inl k)
 obtain⟨u,r,l⟩:=Z i x v hi e1 S;refine wpAny_AugAssign_Name ?_;have go:wpAny (model X.prog X.w) X.A (eval e X.env) (λw J=>wpAny (model X.prog X.w) X.A (inplaceOp op u w) (λr R=>wpAny (model X.prog X.w) X.A (storeName X.env x r) (λ_=>SP X pins D .next) X.xe R) X.xe J) X.xe s:=by refine thn (he pins s σ H _ I h) λw s1 G=>?_;obtain⟨y,H1,I1,r1,q1⟩:=G;refine thn (ho pins s1 σ H1 v y u w _ I1 r r1 q1) λz s2 G=>?_;obtain⟨zv,H2,I2,r2,q2⟩:=G;exact zgp I2 hN hi hx r2 (λs3 Y=>⟨_,H2,Y,q2⟩) hf
 rcases l with⟨o,hm⟩|⟨o,c,hc,C⟩;exact oJ I.ok.kind o hn hm go;rcases o with o|o;exact pH I.ok.kind o hc C go;rcases hx with k|k;have:X.env.scope.names.lookup x=ao .free:=o;rw[k]at this;cases this;have:X.env.scope.names.lookup x=ao .free:=o;rw[k]at this;cases this
def ipI(f:Int->Int->Int):TIp:=λx y H Q=>∃i j,x=.int i/\y=.int j/\Q (.int (f i j)) H
theorem zm4:PIp X .Add (ipI λi j=>i+j):=by intro pins s σ H x y v u Q I G l h;obtain⟨i,j,C,o,q⟩:=h;subst C;subst o;obtain⟨t,rfl⟩:=G;obtain⟨t',rfl⟩:=l;exact iadd_int ⟨.int _,H,I.tok _,⟨_,rfl⟩,q⟩
end
section
variable{X:Cx}{pos:Pos}
def zsr(c:TT)(u:TS):TS:=λD σ H=>∃W:Nat->St->Hp->Prop,(∃m,W m σ H)/\∀m σ H,W m σ H ->
 c σ H λb o=>if b=be then ∃N:St->Hp->Prop,(∀σ' H',N σ' H'->∃l,l<m/\W l σ' H')/\u { D with nx:=N,ct:=N,bk:=D.nx } σ o else D.nx σ o
theorem zoE{c:a8}{body:List fA}{tc:TT}{tb:TS}(Z:sH (model X.prog X.w) X.A X.env X.xe)(hc:PT X c tc)(hb:PSs X body tb):PS X (.While c body [] pos) (zsr tc tb):=by
 intro pins s σ H D I h;obtain⟨W,⟨m0,w0⟩,turn⟩:=h;refine wpAny_While (codeAny_whileLoop (λn s'=>∃σ' H',Inv X pins σ' H' s'/\W n σ' H') ?_ m0 ⟨σ,H,I,w0⟩);rintro n s1 ⟨u,Y,I1,w1⟩;refine fV Z (thn (hc pins s1 u Y _ I1 (turn n u Y w1)) λb s2 S=>?_);obtain⟨H2,I2,y⟩:=S;cases b with
 | true =>
  obtain⟨N,hN,y⟩:=y;rw[if_pos rfl];refine fV Z (thn (hb pins s2 u H2 _ I2 y) λf s3 C=>?_);cases f with
  | next =>obtain⟨o,x,G,U⟩:=C;obtain⟨R,L,J⟩:=hN o x U;exact⟨R,L,o,x,G,J⟩
  | cont =>obtain⟨o,x,G,U⟩:=C;obtain⟨R,L,J⟩:=hN o x U;exact⟨R,L,o,x,G,J⟩
  | brk=>exact C
  | ret v=>exact C
 | false =>rw[if_neg bp];exact lC ⟨u,H2,I2,y⟩
end
structure It where
 go:Nat->Hp->Prop
 yld:Nat->Hp->V->Hp->Prop
 stop:Nat->Hp->Prop
def FpOk(X:Cx)(pins:qO)(H:Hp)(b:aq):Prop :=
 H b=bc/\b≠X.env.locals/\b∉X.fs/\(b∈X.ex\/X.s₀.heap.objs.size<=b)/\(∀x c,X.env.cells.lookup x=ao c->c≠b)/\∀p∈X.pn++pins,p.1≠b
theorem Inv.fpOk{X:Cx}{pins:qO}{σ:St}{H H':Hp}{s:av}{b:aq}(I:Inv X pins σ H s)(l:s.heap.objs.size<=b)(o:H' b=bc):FpOk X pins H' b:=by refine⟨o,kc (aV I.lt l),I.nofs l,.inr (cx I.sz l),λx c e z=>?_,λp u z=>?_⟩;obtain⟨v,q⟩:=I.cell x c e;exact absurd (aV q.lt (by rw[z];exact l)) (fE _);exact absurd (aV (aG (I.pin p u).1) (by rw[z];exact l)) (fE _)
structure Turn(P:aQ)(w:bg)(K:qF)(tg:a8)(J:It)(fp:List aq)(it:aq)(tn:Nat->bz->Prop):Prop where
 mem:it∈fp
 obj:∀i h,tn i h->∀b∈fp,∃o,h.get? b=ao o/\∀v,o.data≠.cell v
 keep:∀i h h',tn i h->(∀b∈fp,∀o,h.get? b=ao o->h'.get? b=ao o)->tn i h'
 item:∀(X:Cx),X.prog=P->X.w=w->X.K=K->X.calm=be->∀(i:Nat) (pins:qO) (s:av) (σ:St) (H:Hp) (E:qV),Inv X pins σ H s->(∀b∈fp,FpOk X pins H b)->tn i s.heap->J.go i H ->
  wpAny (model P w) X.A (pyNext (.ref it)) (λr s1=>∃u,r=ao u /\
   wpAny (model P w) X.A (letOwnedTupleGo tg (.ref it) u) (λ_ s2=>∃x H',Inv X pins σ H' s2/\RelV x u/\J.yld i H x H'/\tn (i+1) s2.heap/\∀b∈fp,H' b=bc) E s1) E s
 done:∀(X:Cx),X.prog=P->X.w=w->X.K=K->X.calm=be->∀(i:Nat) (pins:qO) (s:av) (σ:St) (H:Hp) (E:qV),Inv X pins σ H s->(∀b∈fp,FpOk X pins H b)->tn i s.heap->J.stop i H ->
  wpAny (model P w) X.A (pyNext (.ref it)) (λr s1=>r=bc/\Inv X pins σ H s1) E s
 self:∀(A:bh) (i:Nat) (s:av) (Q:qV) (E:qV),tn i s.heap->Q (.ref it) s->wpAny (model P w) A (pyIter (.ref it)) Q E s
abbrev TI:=St->Hp->(It->Hp->Prop)->Prop
def PIE(X:Cx)(pins:qO)(σ:St)(v:a8)(R:It->Hp->Prop)(l:ah)(s2:av):Prop :=
 ∃(it:aq) (u:List aq) (o:Nat->bz->Prop) (J:It) (H':Hp),l=.ref it/\Inv X pins σ H' s2/\Turn X.prog X.w X.K v J u it o/\o 0 s2.heap/\(∀b∈u,FpOk X pins H' b)/\R J H'
def PI(X:Cx)(l iter:a8)(wi:TI):Prop :=
 ∀(pins:qO) (s:av) (σ:St) (H:Hp) (R:It->Hp->Prop),Inv X pins σ H s->wi σ H R ->
  wpAny (model X.prog X.w) X.A (eval iter X.env) (λv s1=>wpAny (model X.prog X.w) X.A (pyIter v) (PIE X pins σ l R) X.xe s1) X.xe s
theorem Y4{M:tf}{A:bh}{E:qV}{s:av}{x:a8}{it:aq}{u:ah}{o:Obj}{n:String}{vs:Array ah}{Q:Unit->av->Prop}(G:s.heap.get? it=ao o)(hc:o.cls=.type n)(hd:o.data=.fields vs)
  (C:["enumerate","zip","dict_itemiterator","dict_reverseitemiterator","odict_iterator","itertools.zip_longest","itertools.pairwise"].contains n=bj) (v:Q () s):wpAny M A (letOwnedTupleGo x (.ref it) u) Q E s:=by
 unfold letOwnedTupleGo;cases x <;> first
  | exact ae v
  | (cases u <;> first
    | exact ae v
    | (refine aa (nJ G ?_)
       rw[hc,hd];show wpAny M A (if (["enumerate","zip","dict_itemiterator","dict_reverseitemiterator","odict_iterator","itertools.zip_longest","itertools.pairwise"].contains n&&vs[0]? == ao (rawInt _))=be then _ else _) Q E s;rw[if_neg (by intro h;rw[C,lT]at h;cases h)];exact ae v))
def Itl(K:qF)(a:aq):It :=
 ⟨λi H=>∃xs x,SqL K H a xs/\xs[i]?=ao x,λi H x H'=>H'=H/\∀xs,SqL K H a xs->xs[i]?=ao x,λi H=>∃xs,SqL K H a xs/\xs.length<=i⟩
def Itt(K:qF)(a:aq):It :=
 ⟨λi H=>∃xs x,SqT K H a xs/\xs[i]?=ao x,λi H x H'=>H'=H/\∀xs,SqT K H a xs->xs[i]?=ao x,λi H=>∃xs,SqT K H a xs/\xs.length<=i⟩
def Itr(lo:Int)(n:Nat):It:=⟨λi _=>i<n,λi H x H'=>H'=H/\x=.int (lo+i),λi _=>n<=i⟩
theorem zhf{P:aQ}{w:bg}{K:qF}{tg:a8}(a it:aq):Turn P w K tg (Itl K a) [it] it (λi h=>h.IsListIter it a i) where
 mem:=by simp
 obj:=λi h st b l=>by
  have e:b=it:=by simpa using l
  subst e;obtain⟨o,e,c,d⟩:=st;exact⟨o,e,λv z=>by rw[d]at z;cases z⟩
 keep:=λi h h' st k=>st.at λo e=>k it (by simp) o e
 item:=by intro X S hw G hc i pins s σ H E I hf st L;subst S hw G;obtain⟨xs,x,C,hx⟩:=L;obtain⟨its,J,p,hz⟩:=I.list C;obtain⟨u,U,Y⟩:=J.get hx;obtain⟨f0,f1,f2,N,f4,R⟩:=hf it (by simp);refine wpAny_pyNext_list_item st p.isList (x:=u) (by simpa using U) λh' y Z=>?_;have I1:Inv X pins σ H { s with heap:=h' }:=I.turned (t':=s.toks) (λb o l e=>(Z.2 b l).trans e) f0 f1 N f4 R;obtain⟨o,e,c,d⟩:=id y;exact⟨u,rfl,Y4 (s:={ s with heap:=h' }) e c d (by decide) ⟨x,H,I1,Y,⟨rfl,λys hy=>by rw[I.list_inj hy C];exact hx⟩,y,λb l=>(hf b l).1⟩⟩
 done:=by intro X S hw G hc i pins s σ H E I hf st L;subst S hw G;obtain⟨xs,C,hx⟩:=L;obtain⟨its,J,p,hz⟩:=I.list C;obtain⟨f0,f1,f2,N,f4,R⟩:=hf it (by simp);have hl:=J.length;exact wpAny_pyNext_list_end (I.ok.hd hc) st p.isList (by simp;lia) λh' eb=>⟨rfl,I.turned (t':=s.toks) (λb o l e=>eb b o l e) f0 f1 N f4 R⟩
 self:=λ_ _ _ _ _ st h=>wpAny_pyIter_listiter st h
theorem zfL{P:aQ}{w:bg}{K:qF}{tg:a8}(a it:aq):Turn P w K tg (Itt K a) [it] it (λi h=>h.IsTupleIter it a i) where
 mem:=by simp
 obj:=λi h st b l=>by
  have e:b=it:=by simpa using l
  subst e;obtain⟨o,e,c,d⟩:=st;exact⟨o,e,λv z=>by rw[d]at z;cases z⟩
 keep:=λi h h' st k=>st.at λo e=>k it (by simp) o e
 item:=by intro X S hw G hc i pins s σ H E I hf st L;subst S hw G;obtain⟨xs,x,C,hx⟩:=L;obtain⟨its,J,p,hz⟩:=I.tuple C;obtain⟨u,U,Y⟩:=J.get hx;obtain⟨f0,f1,f2,N,f4,R⟩:=hf it (by simp);refine m9 st (show s.heap.IsTuple a its.toArray from p) (x:=u) (by simpa using U) λh' y Z=>?_;have I1:Inv X pins σ H { s with heap:=h' }:=I.turned (t':=s.toks) (λb o l e=>(Z.2 b l).trans e) f0 f1 N f4 R;obtain⟨o,e,c,d⟩:=id y;exact⟨u,rfl,Y4 (s:={ s with heap:=h' }) e c d (by decide) ⟨x,H,I1,Y,⟨rfl,λys hy=>by rw[I.tuple_inj hy C];exact hx⟩,y,λb l=>(hf b l).1⟩⟩
 done:=by intro X S hw G hc i pins s σ H E I hf st L;subst S hw G;obtain⟨xs,C,hx⟩:=L;obtain⟨its,J,p,hz⟩:=I.tuple C;obtain⟨f0,f1,f2,N,f4,R⟩:=hf it (by simp);have hl:=J.length;exact nK (I.ok.hd hc) st (show s.heap.IsTuple a its.toArray from p) (by simp;lia) λh' eb=>⟨rfl,I.turned (t':=s.toks) (λb o l e=>eb b o l e) f0 f1 N f4 R⟩
 self:=λ_ _ _ _ _ st h=>wpAny_pyIter_tupleiter st h
theorem zks{P:aQ}{w:bg}{K:qF}{U:a8}(it:aq)(lo:Int)(n:Nat):Turn P w K U (Itr lo n) [it] it (λi h=>IsRangeIter h it (lo+(i:Nat)*1) ((n:Int) - (i:Nat)) 1) where
 mem:=by simp
 obj:=λi h st b l=>by
  have e:b=it:=by simpa using l
  subst e;exact⟨_,st,λv z=>by have N:Data.fields _=Data.cell v:=z;cases N⟩
 keep:=λi h h' st k=>k it (by simp) _ st
 item:=by intro X J hw x hc i pins s σ H E I hf st y;subst J hw x;obtain⟨f0,f1,f2,C,f4,G⟩:=hf it (by simp);have W:=Walks.range (prog:=X.prog) (w:=X.w) (I.ok.hd hc) it lo 1 n;refine W.item i s _ _ y st λv h' tk L u S=>?_;obtain⟨t,rfl⟩:=L;have Y:Inv X pins σ H { s with heap:=h',toks:=tk }:=I.turned (λb o l e=>S b o (by simpa using l) e) f0 f1 C f4 G;refine⟨_,rfl,Y4 (s:={ s with heap:=h',toks:=tk }) (n:="range_iterator") u rfl rfl (by decide) ⟨.int (lo+i),H,Y,⟨t,?_⟩,⟨rfl,rfl⟩,u,λb l=>(hf b l).1⟩⟩;rw[mO]
 done:=by intro X J hw x hc i pins s σ H E I hf st y;subst J hw x;obtain⟨f0,f1,f2,C,f4,G⟩:=hf it (by simp);exact wpAny_pyNext_range_end (I.ok.hd hc) st (by have:n<=i:=y;lia) λh' R=>⟨rfl,I.turned (t':=s.toks) (λb o l e=>R b o l e) f0 f1 C f4 G⟩
 self:=λ_ _ _ _ _ st h=>wpAny_pyIter_rangeiter st h
section
variable{X:Cx}{tg:a8}
def zxg(K:qF)(o:TE):TI:=λσ H R=>o σ H λx l=>∃a,x=.ref a/\(∃xs,SqL K l a xs)/\R (Itl K a) l
def iTup(K:qF)(o:TE):TI:=λσ H R=>o σ H λx l=>∃a,x=.ref a/\(∃xs,SqT K l a xs)/\R (Itt K a) l
theorem zmn{l:a8}{C:TE}(G:PE X l C):PI X tg l (zxg X.K C):=by
 intro pins s σ H R I h;refine thn (G pins s σ H _ I h) λv s1 y=>?_;obtain⟨x,J,u,U,N⟩:=y;obtain⟨a,e,⟨xs,L⟩,q⟩:=N;subst e;cases U;obtain⟨its,Y,p,hz⟩:=u.list L;refine gZ p.isList ?_;refine⟨s1.heap.objs.size,[s1.heap.objs.size],_,_,J,rfl,u.kept (t':=s1.toks) λb o e=>aj _ e,zhf a _,⟨_,aD _ rfl,rfl,rfl⟩,λb S=>?_,q⟩;have e:b=s1.heap.objs.size:=by simpa using S
 subst e;exact u.fpOk (aB _) (u.hok.fresh (aB _))
theorem zs9{l:a8}{C:TE}(G:PE X l C):PI X tg l (iTup X.K C):=by
 intro pins s σ H R I h;refine thn (G pins s σ H _ I h) λv s1 y=>?_;obtain⟨x,J,u,U,N⟩:=y;obtain⟨a,e,⟨xs,L⟩,q⟩:=N;subst e;cases U;obtain⟨its,Y,p,hz⟩:=u.tuple L;refine iY (show s1.heap.IsTuple a its.toArray from p) ?_;refine⟨s1.heap.objs.size,[s1.heap.objs.size],_,_,J,rfl,u.kept (t':=s1.toks) λb o e=>aj _ e,zfL a _,⟨_,aD _ rfl,rfl,rfl⟩,λb S=>?_,q⟩;have e:b=s1.heap.objs.size:=by simpa using S
 subst e;exact u.fpOk (aB _) (u.hok.fresh (aB _))
theorem zjD{pins:qO}{σ:St}{H:Hp}{s:av}{R:It->Hp->Prop}{E:qV}{lo hi:Int}{t u v:Tok}{tk:Nat}(I:Inv X pins σ H s)(U:-(2 ^ 62)<=lo)(Y:lo<2 ^ 62)(S:-(2 ^ 62)<=hi)(J:hi<2 ^ 62)
  (q:R (Itr lo (hi - lo).toNat) H):wpAny (model X.prog X.w) X.A (pyIter (.ref s.heap.objs.size)) (PIE X pins σ tg R) E { s with heap:=s.heap.push { cls:=.type "range",data:=.fields #[.int lo t,.int hi u,.int 1 v] },toks:=tk }:=by
 refine wpAny_pyIter_range (IsRange.new ..) (small_one U Y S J) ?_;have x:Inv X pins σ H { s with heap:=s.heap.push { cls:=.type "range",data:=.fields #[.int lo t,.int hi u,.int 1 v] },toks:=tk }:=I.kept λb o e=>aj _ e;refine⟨(s.heap.push { cls:=.type "range",data:=.fields #[.int lo t,.int hi u,.int 1 v] }).objs.size,[(s.heap.push { cls:=.type "range",data:=.fields #[.int lo t,.int hi u,.int 1 v] }).objs.size],_,_,H,rfl,
  x.kept (t':=tk) λb o e=>aj _ e,zks _ lo (hi - lo).toNat,?_,λb L=>?_,q⟩
 have G:lo+((0:Nat):Int)*1=lo:=by simp
 have C:(((hi - lo).toNat:Nat):Int) - ((0:Nat):Int)=wo lo hi 1:=by rw[rangeSize_one];split <;> lia
 show IsRangeIter _ _ (lo+((0:Nat):Int)*1) ((((hi - lo).toNat:Nat):Int) - ((0:Nat):Int)) 1;rw[G,C];exact aD _ rfl;have e:b=(s.heap.push { cls:=.type "range",data:=.fields #[.int lo t,.int hi u,.int 1 v] }).objs.size:=by simpa using L
 subst e;exact x.fpOk (aB _) (x.hok.fresh (aB _))
def zxf(l:TA):TI:=λσ H R=>l σ H λvs o=>∃j:Int,vs=[.int j]/\-(2 ^ 62)<=j/\j<2 ^ 62/\R (Itr 0 j.toNat) o
def zxe(l:TA):TI:=λσ H R=>l σ H λvs u=>∃i j:Int,vs=[.int i,.int j]/\(-(2 ^ 62)<=i/\i<2 ^ 62/\-(2 ^ 62)<=j/\j<2 ^ 62)/\R (Itr i (j - i).toNat) u
theorem zmm{a:a8}{u:TA}{p pos:Pos}(G:Gl X "range") (y:X.mg "range" = bc) (v:PA X [a] u) (x:starEach [a] X.env=[(bj,eval a X.env)]:=by rfl):PI X tg (.Call (.Name "range" p) [a] [] pos) (zxf u):=by
 intro pins s σ H R I h;refine Call_ (Yr I G y boot_range (eI (thn (v pos pins s σ H _ I h) λZ s1 ⟨vs,Y,S,L,o⟩=>?_) x rfl));obtain⟨j,e,o,J,q⟩:=o;subst e;cases L with
 | cons r U =>cases U;obtain⟨t,rfl⟩:=r;exact call_range_1 (zjD S (by lia) (by lia) o J (by simpa using q))
theorem zml{a b:a8}{x:TA}{p pos:Pos}(U:Gl X "range") (S:X.mg "range" = bc) (y:PA X [a,b] x) (J:starEach [a,b] X.env=[(bj,eval a X.env),(bj,eval b X.env)]:=by rfl) (o:starEach [b] X.env=[(bj,eval b X.env)]:=by rfl) :
  PI X tg (.Call (.Name "range" p) [a,b] [] pos) (zxe x):=by
 intro pins s σ H R I h;refine Call_ (Yr I U S boot_range (eI (thn (y pos pins s σ H _ I h) λus s1 ⟨vs,H1,I1,Z,u⟩=>?_) (by rw[J,o]) (by rw[o];rfl)));obtain⟨i,j,e,⟨u,Y,q3,L⟩,q⟩:=u;subst e;cases Z with
 | cons r v =>
  cases v with
  | cons G v =>cases v;obtain⟨t,rfl⟩:=r;obtain⟨t',rfl⟩:=G;exact call_range_2 (zjD I1 u Y q3 L q)
def tFor(wi:TI)(g:TG)(y:TS):TS:=λD σ H=>wi σ H λJ v=>∃W:Nat->Nat->St->Hp->Prop,(∃m,W 0 m σ v)/\∀i m σ H,W i m σ H ->
 (J.stop i H/\D.nx σ H)\/(J.go i H/\∃N:St->Hp->Prop,(∀σ' H',N σ' H'->∃o,o<m/\W (i+1) o σ' H')/\∀x H',J.yld i H x H'->g x σ H' λl u=>y { D with nx:=N,ct:=N,bk:=D.nx } l u)
def ZC(l:List aq)(h:bz):List (aq×Obj):=l.filterMap λb=>(h.get? b).map λo=>(b,o)
theorem zdV{l:List aq}{h:bz}{b:aq}{o:Obj}(u:b∈l)(e:h.get? b=ao o):(b,o)∈ZC l h:=gK.mpr ⟨b,u,by rw[e];rfl⟩
theorem zmG{l:List aq}{h:bz}{p:aq×Obj}(x:p∈ZC l h):p.1∈l/\h.get? p.1=ao p.2:=by
 obtain⟨b,v,e⟩:=gK.mp x;cases q:h.get? b with
 | none=>rw[q]at e;cases e
 | some o =>rw[q]at e;have u:(b,o)=p:=aP e;subst u;exact⟨v,q⟩
theorem Inv.pinned{pins:qO}{σ:St}{H:Hp}{s:av}{u:List aq}(I:Inv X pins σ H s)(hf:∀b∈u,FpOk X pins H b)(G:∀b∈u,∃o,s.heap.get? b=ao o/\∀v,o.data≠.cell v):Inv X (pins++ZC u s.heap) σ H s :=
 I.pins_of λp C=>(aC.mp C).elim (λz=>I.pin p (cT _ z)) λz=>by obtain⟨x,e⟩:=zmG z;obtain⟨f0,f1,f2,_⟩:=hf p.1 x;obtain⟨o,y,d⟩:=G p.1 x;rw[e]at y;cases y;exact⟨e,f0,f1,f2,d⟩
theorem Inv.unpinned{pins pl:qO}{σ:St}{H:Hp}{s:av}(I:Inv X (pins++pl) σ H s):Inv X pins σ H s:=I.pins_of λp l=>I.pin p (cT _ (oI _ l))
theorem zs5{iter:a8}{body:List fA}{wi:TI}{g:TG}{tb:TS}{pos:Pos}(hp:sH (model X.prog X.w) X.A X.env X.xe)(hc:X.calm=be)(hi:PI X tg iter wi)(hg:PG X tg g)(R:PSs X body tb)
  (hs:Fsi X iter:=by intro _;rfl):PS X (.For tg iter body [] pos) (tFor wi g tb):=by
 intro pins s σ H D I h;refine wpAny_For (thn (hi pins s σ H _ I h) λv s1 h1=>thn h1 λitv s2 h2=>?_) hs;obtain⟨it,fp,tn,J,H2,e,I2,T,st2,f2,W,⟨m0,w0⟩,turn⟩:=h2;subst e;have M6:∀{H':Hp},(∀b∈fp,H' b=bc)->∀b∈fp,FpOk X pins H' b:=λhn b R=>⟨hn b R,(f2 b R).2⟩;refine codeAny_forLoop_any (λn s'=>∃i σ' H',Inv X pins σ' H' s'/\tn i s'.heap/\(∀b∈fp,H' b=bc)/\W i n σ' H') ?_ m0 ⟨0,σ,H2,I2,st2,λb R=>(f2 b R).1,w0⟩;rintro n s3 ⟨i,C,H3,I3,Y,fr3,w3⟩;rcases turn i n C H3 w3 with⟨stop,qn⟩|⟨go,N,hN,step⟩
 ·refine fV hp (thn (T.done X rfl rfl rfl hc i pins s3 C H3 X.xe I3 (M6 fr3) Y stop) λr s4 y=>?_);obtain⟨hr,I4⟩:=y;subst hr;exact lC ⟨C,H3,I4,qn⟩
 ·refine fV hp (thn (T.item X rfl rfl rfl hc i pins s3 C H3 X.xe I3 (M6 fr3) Y go) λr s4 y=>?_);obtain⟨u,hr,h4⟩:=y;subst hr;refine fV hp (thn h4 λ_ s5 y=>?_);obtain⟨x,H5,I5,r5,y5,U,fr5⟩:=y;have I5':=I5.pinned (M6 fr5) (T.obj _ _ U);refine fV hp (thn (hg _ s5 C H5 x u _ I5' r5 (step x H5 y5)) λ_ s6 y=>?_);obtain⟨σ6,H6,I6,q6⟩:=y;refine fV hp (thn (R _ s6 σ6 H6 _ I6 q6) λf s7 S=>?_);have again:∀{l:St} {G:Hp},Inv X (pins++ZC fp s5.heap) l G s7->N l G->∃m,m<n/\∃i σ' H',Inv X pins σ' H' s7/\tn i s7.heap/\(∀b∈fp,H' b=bc)/\W i m σ' H':=λ{l G} L Z=>by
   obtain⟨m',hm,w7⟩:=hN l G Z;refine⟨m',hm,i+1,l,G,L.unpinned,T.keep _ _ _ U λb R o e=>(L.pin (b,o) (cT _ (cT _ (zdV R e)))).1,λb R=>?_,w7⟩;obtain⟨o,e,d⟩:=T.obj _ _ U b R;exact(L.pin (b,o) (cT _ (cT _ (zdV R e)))).2.1
  cases f with
  | next=>obtain⟨l,G,L,Z⟩:=S;exact again L Z
  | cont=>obtain⟨l,G,L,Z⟩:=S;exact again L Z
  | brk=>obtain⟨l,G,L,S⟩:=S;exact⟨l,G,L.unpinned,S⟩
  | ret v=>obtain⟨x7,l,G,L,r7,S⟩:=S;exact⟨x7,l,G,L.unpinned,r7,S⟩
end
abbrev R2:=V->V->Hp->VK->Prop
def OpR(X:Cx)(f:ah->ah->Sem ah)(r:R2):Prop :=
 ∀(pins:qO) (s:av) (σ:St) (H:Hp) (x y:V) (v u:ah) (Q:VK),Inv X pins σ H s->RelV x v->RelV y u->r x y H Q ->
  wpAny (model X.prog X.w) X.A (f v u) (EP X pins σ Q) X.xe s
def UnR(X:Cx)(f:ah->Sem ah)(r:V->Hp->VK->Prop):Prop :=
 ∀(pins:qO) (s:av) (σ:St) (H:Hp) (x:V) (v:ah) (Q:VK),Inv X pins σ H s->RelV x v->r x H Q ->
  wpAny (model X.prog X.w) X.A (f v) (EP X pins σ Q) X.xe s
def JK(X:Cx)(f:ah)(r:List V->Hp->VK->Prop):Prop :=
 ∀(pins:qO) (s:av) (σ:St) (H:Hp) (xs:List V) (l:List ah) (Q:VK),Inv X pins σ H s->Vals xs l->r xs H Q ->
  wpAny (model X.prog X.w) X.A (call f l) (EP X pins σ Q) X.xe s
def TruR(X:Cx)(r:V->Hp->(Bool->Hp->Prop)->Prop):Prop :=
 ∀(pins:qO) (s:av) (σ:St) (H:Hp) (x:V) (v:ah) (Q:Bool->Hp->Prop),Inv X pins σ H s->RelV x v->r x H Q ->
  wpAny (model X.prog X.w) X.A (truthy v) (TP X pins σ Q) X.xe s
def tOp(r:R2)(l v:TE):TE:=λσ H Q=>l σ H λx o=>v σ o λy u=>r x y u Q
def tUn(r:V->Hp->VK->Prop)(l:TE):TE:=λσ H Q=>l σ H λx o=>r x o Q
def rI(C:Int->Int->Prop)(g:Int->Int->V):R2:=λx y H Q=>∃i j,x=.int i/\y=.int j/\C i j/\Q (g i j) H
def rI0(g:Int->Int->V):R2:=λx y H Q=>∃i j,x=.int i/\y=.int j/\Q (g i j) H
def rU(g:Int->V):V->Hp->VK->Prop:=λx H Q=>∃i,x=.int i/\Q (g i) H
section
variable{X:Cx}{a b c:a8}{ta tb tc:TE}{pos:Pos}
theorem binT(L:PE X a ta)(Y:PE X b tb){pins:qO}{s:av}{σ:St}{H:Hp}{R:V->V->Hp->Prop}(I:Inv X pins σ H s)
  (h:ta σ H λx J=>tb σ J λy o=>R x y o) {Q:qV} {f:ah->ah->Sem ah}
  (hf:∀v u s2 x y o,Inv X pins σ o s2->RelV x v->RelV y u->R x y o->wpAny (model X.prog X.w) X.A (f v u) Q X.xe s2) :
  wpAny (model X.prog X.w) X.A (eval a X.env) (λv G=>wpAny (model X.prog X.w) X.A (eval b X.env) (λu C=>wpAny (model X.prog X.w) X.A (f v u) Q X.xe C) X.xe G) X.xe s:=by
 refine thn (L pins s σ H _ I h) λv s1 l=>?_;obtain⟨x,J,I1,Z,N⟩:=l;refine thn (Y pins s1 σ J _ I1 N) λu s2 l=>?_;obtain⟨y,o,I2,S,U⟩:=l;exact hf v u s2 x y o I2 Z S U
theorem JC{op:t7}{r:R2}(o:OpR X (binaryOp op) r)(l:PE X a ta)(L:PE X b tb):PE X (.BinOp a op b pos) (tOp r ta tb):=by intro pins s σ H Q I h;exact wpAny_BinOp (binT l L I h λv u s2 x y C N G J q=>o pins s2 σ C x y v u Q N G J q)
theorem zwv{op:UnaryOp}{r:V->Hp->VK->Prop}(G:UnR X (unaryOp op) r)(u:PE X a ta):PE X (.UnaryOp op a pos) (tUn r ta):=by intro pins s σ H Q I h;exact UnaryOp_ (thn (u pins s σ H _ I h) λv s1 ⟨x,C,l,J,o⟩=>G pins s1 σ C x v Q l J o)
theorem opI{f:ah->ah->Sem ah}{C:Int->Int->Prop}{g:Int->Int->Int}
  (rule:∀(i j:Int) (t u:Tok) (s:av) (Q:qV) (E:qV),C i j->Q (.int (g i j) s.toks) { s with toks:=s.toks+1 }->wpAny (model X.prog X.w) X.A (f (.int i t) (.int j u)) Q E s) :
  OpR X f (rI C λi j=>.int (g i j)):=by
 intro pins s σ H x y v u Q I l o h;obtain⟨i,j,rfl,rfl,hc,q⟩:=h;obtain⟨t,rfl⟩:=l;obtain⟨t',rfl⟩:=o;exact rule i j t t' s _ _ hc ⟨.int (g i j),H,I.tok _,⟨_,rfl⟩,q⟩
theorem opI0{f:ah->ah->Sem ah}{g:Int->Int->Int}
  (rule:∀(i j:Int) (t u:Tok) (s:av) (Q:qV) (E:qV),Q (.int (g i j) s.toks) { s with toks:=s.toks+1 }->wpAny (model X.prog X.w) X.A (f (.int i t) (.int j u)) Q E s) :
  OpR X f (rI0 λi j=>.int (g i j)):=by
 intro pins s σ H x y v u Q I l o h;obtain⟨i,j,rfl,rfl,q⟩:=h;obtain⟨t,rfl⟩:=l;obtain⟨t',rfl⟩:=o;exact rule i j t t' s _ _ ⟨.int (g i j),H,I.tok _,⟨_,rfl⟩,q⟩
theorem opB0{f:ah->ah->Sem ah}{g:Int->Int->Bool}
  (rule:∀(i j:Int) (t u:Tok) (s:av) (Q:qV) (E:qV),Q (.bool (g i j)) s->wpAny (model X.prog X.w) X.A (f (.int i t) (.int j u)) Q E s) :
  OpR X f (rI0 λi j=>.bl (g i j)):=by
 intro pins s σ H x y v u Q I C G h;obtain⟨i,j,rfl,rfl,q⟩:=h;obtain⟨t,rfl⟩:=C;obtain⟨t',rfl⟩:=G;exact rule i j t t' s _ _ ⟨.bl (g i j),H,I,rfl,q⟩
def CPow(i j:Int):Prop:=0<=j/\j<=1000000/\i.natAbs<2 ^ 64
def CMul(i j:Int):Prop:=(-(2 ^ 64)<i/\i<2 ^ 64)\/(-(2 ^ 64)<j/\j<2 ^ 64)
theorem CMul.ok{i j:Int}(h:CMul i j):IntMulOk i j:=by rcases h with⟨u,v⟩|⟨u,v⟩;exact .of_left (intBits_le_64 u v);exact .of_right (intBits_le_64 u v)
theorem zkr(k:Nat):(0:Int)<=2 ^ k:=by rw[two_pow_cast];exact lU _
theorem QS:OpR X (binaryOp .Add) (rI0 λi j=>.int (i+j)):=opI0 λ_ _ _ _ _ _ _ q=>add_int q
theorem ztp:OpR X (binaryOp .Sub) (rI0 λi j=>.int (i - j)):=opI0 λ_ _ _ _ _ _ _ q=>sub_int q
theorem QU:OpR X (binaryOp .Mult) (rI CMul λi j=>.int (i*j)):=opI λ_ _ _ _ _ _ _ hc q=>mul_int q hc.ok
theorem UJ:OpR X (binaryOp .Mod) (rI (λ_ j=>0<j) λi j=>.int (i % j)):=opI λi j _ _ _ _ _ hc q=>by have l:(0:Int)<j:=hc;exact mod_int' (by lia) (by rw[Int.fmod_eq_emod_of_nonneg i (by lia)];exact q)
theorem zts:OpR X (binaryOp .Pow) (rI CPow λi j=>.int (i ^ j.toNat)):=opI λ_ _ _ _ _ _ _ hc q=>pow_int_small hc.1 hc.2.1 hc.2.2 q
theorem ztr:OpR X (binaryOp .LShift) (rI CPow λi j=>.int (i*2 ^ j.toNat)):=opI λ_ _ _ _ _ _ _ hc q=>lshift_int_small hc.1 hc.2.1 hc.2.2 q
theorem ztq:OpR X (binaryOp .RShift) (rI (λ_ j=>0<=j) λi j=>.int (i / 2 ^ j.toNat)):=opI λi j _ _ _ _ _ hc q =>
 rshift_int hc (by rw[lV i (zkr _)];exact q)
theorem ztz:OpR X (binaryOp .BitAnd) (rI0 λi j=>.int (fJ i j)):=opI0 λ_ _ _ _ _ _ _ q=>and_int q
theorem zto:OpR X (binaryOp .BitXor) (rI0 λi j=>.int (dh i j)):=opI0 λ_ _ _ _ _ _ _ q=>xor_int q
theorem unI{f:ah->Sem ah}{g:Int->Int}
  (rule:∀(i:Int) (t:Tok) (s:av) (Q:qV) (E:qV),Q (.int (g i) s.toks) { s with toks:=s.toks+1 }->wpAny (model X.prog X.w) X.A (f (.int i t)) Q E s) :
  UnR X f (rU λi=>.int (g i)):=by
 intro pins s σ H x v Q I l h;obtain⟨i,rfl,q⟩:=h;obtain⟨t,rfl⟩:=l;exact rule i t s _ _ ⟨.int (g i),H,I.tok _,⟨_,rfl⟩,q⟩
theorem zsm:UnR X (unaryOp .USub) (rU λi=>.int (-i)):=unI λ_ _ _ _ _ q=>neg_int q
end
def scal:V->V->Bool
 | .non,.non=>be|.non,.int _=>be|.int _,.non=>be|.non,.bl _=>be|.bl _,.non=>be|.non,.str _=>be|.str _,.non=>true
 | .int _,.int _=>be|.bl _,.bl _=>be|.str _,.str _=>be|.byt _,.byt _=>true
 | .int _,.str _=>be|.str _,.int _=>be|.bl _,.str _=>be|.str _,.bl _=>true
 | _,_=>false
def rEq:R2:=λx y H Q=>scal x y=be/\Q (.bl (decide (x=y))) H
def rNe:R2:=λx y H Q=>scal x y=be/\Q (.bl (!decide (x=y))) H
theorem znt{i j:Int}:decide (V.int i=V.int j)=(i == j):=by rw[eU];simp
theorem zp7{i j:Bool}:decide (V.bl i=V.bl j)=(i == j):=by rw[eU];simp
theorem zns{i j:Str}:decide (V.str i=V.str j)=(i == j):=by rw[eU];simp
theorem znu{i j:Array UInt8}:decide (V.byt i=V.byt j)=(i.toList == j.toList):=by rw[eU];cases i;cases j;simp
section
variable{X:Cx}{a b c:a8}{ta tb tc:TE}{pos:Pos}
theorem Jt{pins:qO}{σ:St}{H:Hp}{s:av}{Q:VK}{k u:Bool}(I:Inv X pins σ H s)(q:Q (.bl k) H)(e:k=u):EP X pins σ Q (.bool u) s:=by subst e;exact⟨.bl k,H,I,rfl,q⟩
theorem zwB:OpR X (compareOp .Eq) rEq:=by
 intro pins s σ H x y v u Q I C l h;obtain⟨o,q⟩:=h;cases x with
 | non =>
  cases C;cases y with
  | non=>cases l;exact uM (Jt I q (by simp))
  | bl j=>cases l;exact uN (Jt I q (by simp))
  | int j=>obtain⟨t',rfl⟩:=l;exact vo (Jt I q (by simp))
  | str j=>obtain⟨t',rfl⟩:=l;exact vp (Jt I q (by simp))
  | _=>exact absurd (show bj=be from o) bp
 | bl i =>
  cases C;cases y with
  | non=>cases l;exact uO (Jt I q (by simp))
  | bl j=>cases l;exact eq_bool (Jt I q zp7)
  | str j=>obtain⟨t',rfl⟩:=l;exact uP (Jt I q (by simp))
  | _=>exact absurd (show bj=be from o) bp
 | int i =>
  obtain⟨t,rfl⟩:=C;cases y with
  | non=>cases l;exact vq (Jt I q (by simp))
  | int j=>obtain⟨t',rfl⟩:=l;exact eq_int (Jt I q znt)
  | str j=>obtain⟨t',rfl⟩:=l;exact vv (Jt I q (by simp))
  | _=>exact absurd (show bj=be from o) bp
 | str i =>
  obtain⟨t,rfl⟩:=C;cases y with
  | non=>cases l;exact vw (Jt I q (by simp))
  | bl j=>cases l;exact uQ (Jt I q (by simp))
  | int j=>obtain⟨t',rfl⟩:=l;exact vA (Jt I q (by simp))
  | str j=>obtain⟨t',rfl⟩:=l;exact eq_str (Jt I q zns)
  | _=>exact absurd (show bj=be from o) bp
 | byt i =>
  obtain⟨t,rfl⟩:=C;cases y with
  | byt j=>obtain⟨t',rfl⟩:=l;exact PySem.W.eq_bytes (Jt I q znu)
  | _=>exact absurd (show bj=be from o) bp
 | _=>cases y <;> exact absurd (show bj=be from o) bp
theorem zwz:OpR X (compareOp .NotEq) rNe:=by
 intro pins s σ H x y v u Q I G l h;obtain⟨C,q⟩:=h;cases x with
 | non =>
  cases G;cases y with
  | non=>cases l;exact uR (Jt I q (by simp))
  | bl j=>cases l;exact uS (Jt I q (by simp))
  | int j=>obtain⟨t',rfl⟩:=l;exact vB (Jt I q (by simp))
  | str j=>obtain⟨t',rfl⟩:=l;exact vC (Jt I q (by simp))
  | _=>exact absurd (show bj=be from C) bp
 | bl i =>
  cases G;cases y with
  | non=>cases l;exact uT (Jt I q (by simp))
  | bl j=>cases l;exact ne_bool (Jt I q (congrArg not zp7))
  | str j=>obtain⟨t',rfl⟩:=l;exact uU (Jt I q (by simp))
  | _=>exact absurd (show bj=be from C) bp
 | int i =>
  obtain⟨t,rfl⟩:=G;cases y with
  | non=>cases l;exact vD (Jt I q (by simp))
  | int j=>obtain⟨t',rfl⟩:=l;exact ne_int (Jt I q (congrArg not znt))
  | str j=>obtain⟨t',rfl⟩:=l;exact vE (Jt I q (by simp))
  | _=>exact absurd (show bj=be from C) bp
 | str i =>
  obtain⟨t,rfl⟩:=G;cases y with
  | non=>cases l;exact vF (Jt I q (by simp))
  | bl j=>cases l;exact uV (Jt I q (by simp))
  | int j=>obtain⟨t',rfl⟩:=l;exact vG (Jt I q (by simp))
  | str j=>obtain⟨t',rfl⟩:=l;exact ne_str (Jt I q (congrArg not zns))
  | _=>exact absurd (show bj=be from C) bp
 | byt i =>
  obtain⟨t,rfl⟩:=G;cases y with
  | byt j=>obtain⟨t',rfl⟩:=l;exact PySem.W.ne_bytes (Jt I q (congrArg not znu))
  | _=>exact absurd (show bj=be from C) bp
 | _=>cases y <;> exact absurd (show bj=be from C) bp
theorem ztv:OpR X (compareOp .Lt) (rI0 λi j=>.bl (decide (i<j))):=opB0 λ_ _ _ _ _ _ _ q=>lt_int q
theorem zwA:OpR X (compareOp .LtE) (rI0 λi j=>.bl (decide (i<=j))):=opB0 λ_ _ _ _ _ _ _ q=>le_int q
theorem Yc:OpR X (compareOp .Gt) (rI0 λi j=>.bl (decide (j<i))):=opB0 λ_ _ _ _ _ _ _ q=>gt_int q
theorem ztx:OpR X (compareOp .GtE) (rI0 λi j=>.bl (decide (j<=i))):=opB0 λ_ _ _ _ _ _ _ q=>ge_int q
theorem zmv:OpR X (compareOp .Lt) (λx y H Q=>∃i j,x=.str i/\y=.str j/\Q (.bl (decide (i.cps.toList<j.cps.toList))) H):=by intro pins s σ H x y v u Q I o C h;obtain⟨i,j,rfl,rfl,q⟩:=h;obtain⟨t,rfl⟩:=o;obtain⟨t',rfl⟩:=C;exact lt_str (Jt I q rfl)
theorem zq0:OpR X (compareOp .IsNot) (λx y H Q=>y=.non/\Q (.bl (!decide (x=.non))) H):=by
 intro pins s σ H x y v u Q I C G h;obtain⟨rfl,q⟩:=h;cases G;refine isnot_none_gen (Jt I q ?_);cases x <;> first
  | (cases C;rfl)
  | (obtain⟨t,rfl⟩:=C;rfl)
theorem OpR.or{f:ah->ah->Sem ah}{r l:R2}(h:OpR X f r)(h':OpR X f l):OpR X f (λx y H Q=>r x y H Q\/l x y H Q):=by intro pins s σ H x y v u Q I o C q;rcases q with q|q;exact h pins s σ H x y v u Q I o C q;exact h' pins s σ H x y v u Q I o C q
theorem Jj(b:a8){op:x6}(h:op≠.In:=by decide)(u:op≠.NotIn:=by decide):behindInMarks op b=bj:=by
 have l:(op == CmpOp.In)=bj:=by cases op <;> first|rfl|exact absurd rfl h
 have v:(op == CmpOp.NotIn)=bj:=by cases op <;> first|rfl|exact absurd rfl u
 cases b <;> simp[behindInMarks,l,v]
theorem zmp{op:x6}{r:R2}(J:OpR X (compareOp op) r)(l:PE X a ta)(S:PE X b tb)(G:behindInMarks op b=bj):PE X (.Compare a [op] [b] pos) (tOp r ta tb):=by intro pins s σ H Q I h;exact wpAny_Compare1 (binT l S I h λv u s2 x y L U N R q=>J pins s2 σ L x y v u Q U N R q) G
def zss(t:TE):TT:=λσ H Q=>t σ H λx H'=>∃k,x=.bl k/\Q k H'
theorem ziF{op:x6}{r:R2}(U:OpR X (compareOp op) r)(l:PE X a ta)(hb:PE X b tb)(S:behindInMarks op b=bj):PT X (.Compare a [op] [b] pos) (zss (tOp r ta tb)):=by
 intro pins s σ H Q I h;refine wpAny_isTrue_Compare1 (thn (l pins s σ H _ I h) λv s1 ⟨x,J,I1,r1,N⟩=>thn (hb pins s1 σ J _ I1 N) λu s2 ⟨y,Y,I2,R,q2⟩ =>
  thn (U pins s2 σ Y x y v u _ I2 r1 R q2) λc s3 ⟨z,Z,G,L,k,e,q3⟩=>?_) S
 subst e;cases L;exact cW ⟨Z,G,q3⟩
def zsu(r u:R2)(ta tb tc:TE):TE:=λσ H Q=>ta σ H λx v=>tb σ v λy I=>r x y I λz o=>∃k,z=.bl k /\
 (if k=be then tc σ o λC G=>u y C G Q else Q (.bl bj) o)
theorem zoD{op l:x6}{r N:R2}(ho:OpR X (compareOp op) r)(J:OpR X (compareOp l) N)(Y:PE X a ta)(hb:PE X b tb)(hc:PE X c tc)
  (hm:lastMarks [op,l] [b,c]=bj:=by with_unfolding_all rfl):PT X (.Compare a [op,l] [b,c] pos) (zss (zsu r N ta tb tc)):=by
 intro pins s σ H Q I h;refine isTrue_chain (thn (Y pins s σ H _ I h) λv s1 ⟨x,Z,I1,r1,q1⟩=>test_link (thn (hb pins s1 σ Z _ I1 q1) λu s2 ⟨y,H2,I2,R,q2⟩ =>
  thn (ho pins s2 σ H2 x y v u _ I2 r1 R q2) λd s3 ⟨z,S,L,r3,k,e,U⟩=>?_)) hm
 subst e;cases r3;refine cW ?_;cases k with
 | false =>obtain⟨k',e',q'⟩:=U;cases e';exact ite_ff ⟨S,L,q'⟩
 | true =>refine ite_tt (test_last (thn (hc pins s3 σ S _ L U) λw' s4 ⟨z',H4,I4,r4,q4⟩=>thn (J pins s4 σ H4 y z' u w' _ I4 R r4 q4) λd' s5 G=>?_));obtain⟨z2,H5,I5,r5,k2,e2,q5⟩:=G;subst e2;cases r5;exact cW ⟨H5,I5,q5⟩
def TruV(K:qF)(x:V)(H:Hp)(k:Bool):Prop :=
 match x with
 | .non=>k=false
 | .bl b=>k=b
 | .int i=>k=(i != 0)
 | .str y=>y.length<=sizeLine/\k=((y.length:Int) != 0)
 | .byt y=>y.size<=sizeLine/\k=((y.size:Int) != 0)
 | .ref p=>(∃xs,SqL K H p xs/\k=!xs.isEmpty)\/(∃xs,SqT K H p xs/\k=!xs.isEmpty)\/∃u,H p=ao (.dK u)/\k=!u.isEmpty
 | _=>False
theorem zld{o:Type}{l:List (o×V)}{vs:List (o×ah)}(r:KV l vs):(!vs.isEmpty)=!l.isEmpty:=by cases r <;> rfl
theorem zgb{xs:List V}{its:List ah}(r:Vals xs its):(!its.toArray.isEmpty)=!xs.isEmpty:=by cases r <;> simp
theorem UK:(sizeLine:Nat)<2 ^ 63:=by rw[oK];decide
theorem zso:TruR X (λx H Q=>∃k,TruV X.K x H k/\Q k H):=by
 intro pins s σ H x v Q I G h;obtain⟨k,e,q⟩:=h;have N:=UK;have R:sizeLine=16777216:=oK;cases x with
 | non =>cases G;have o:k=bj:=e;subst o;exact truthy_none ⟨H,I,q⟩
 | bl b =>cases G;have o:k=b:=e;subst o;exact cW ⟨H,I,q⟩
 | int i =>obtain⟨t,rfl⟩:=G;have o:k=(i != 0):=e;subst o;exact PySem.P.truthy_int ⟨H,I,q⟩
 | str y =>obtain⟨t,rfl⟩:=G;obtain⟨L,o⟩:y.length<=sizeLine/\k=((y.length:Int) != 0):=e;subst o;exact PySem.P.truthy_str (by lia) ⟨H,I.tok _,q⟩
 | byt y =>obtain⟨t,rfl⟩:=G;obtain⟨L,o⟩:y.size<=sizeLine/\k=((y.size:Int) != 0):=e;subst o;exact PySem.W.truthy_bytes (by lia) ⟨H,I.tok _,q⟩
 | ref p =>cases G;have o:(∃xs,SqL X.K H p xs/\k=!xs.isEmpty)\/(∃xs,SqT X.K H p xs/\k=!xs.isEmpty)\/∃u,H p=ao (.dK u)/\k=!u.isEmpty:=e;rcases o with⟨xs,hx,o⟩|⟨xs,hx,o⟩|⟨u,hx,o⟩;subst o;obtain⟨its,r,pl,hz⟩:=I.list hx;have C:=r.length;exact wpAny_truthy_list pl.isList (by simp only[aJ];lia) ⟨H,I.tok _,by rw[zgb r];exact q⟩;subst o;obtain⟨its,r,pl,hz⟩:=I.tuple hx;have C:=r.length;exact truthy_tuple pl (by simp only[aJ];lia) ⟨H,I.tok _,by rw[zgb r];exact q⟩;subst o;obtain⟨hz,J,vs,r,m⟩:u.length<=sizeLine/\(p == sysModules)=bj/\∃vs,KV u vs/\s.heap.DictOf (Jx X.prog X.w) p vs:=I.hok p _ hx;have C:u.length=vs.length:=fD r;exact wpAny_truthy_dict J m (by lia) ⟨H,I.tok _,by rw[zld r];exact q⟩
 | _=>exact(show False from e).elim
theorem zoC(l:PE X a ta)(he:∀whole,isTrue a X.env whole=(do let v <- whole;standAt a.pos;holding [v] (truthy v))) :
  PT X a (λσ H Q=>ta σ H λx H'=>∃k,TruV X.K x H' k/\Q k H'):=by
 intro pins s σ H Q I h;exact isTrue_plain (thn (l pins s σ H _ I h) λv s1 ⟨x,o,C,y,u⟩=>zso pins s1 σ o x v Q C y u) (he _)
theorem zkC:OpR X (binaryOp .Add) (λx y H Q=>∃i j,x=.str i/\y=.str j/\i.length+j.length<=sizeLine/\Q (.str (i++j)) H):=by intro pins s σ H x y v u Q I l o h;obtain⟨i,j,rfl,rfl,hz,q⟩:=h;obtain⟨t,rfl⟩:=l;obtain⟨t',rfl⟩:=o;exact add_str (λt' tk=>⟨.str (i++j),H,I.tok _,⟨_,rfl⟩,q⟩) hz
theorem vals1{x:V}{l:List ah}(r:Vals [x] l):∃u,l=[u]/\RelV x u:=by
 cases r with
 | cons v o=>cases o;exact⟨_,rfl,v⟩
theorem vals2{x y:V}{l:List ah}(r:Vals [x,y] l):∃u o,l=[u,o]/\RelV x u/\RelV y o:=by
 cases r with
 | cons I C =>
  cases C with
  | cons v G=>cases G;exact⟨_,_,rfl,I,v⟩
theorem Wl(hc:X.calm=be):JK X (.builtin "max") (λxs H Q=>∃i j,xs=[.int i,.int j]/\Q (.int (if j > i then j else i)) H):=by intro pins s σ H xs v Q I r h;obtain⟨i,j,rfl,q⟩:=h;obtain⟨u,o,rfl,⟨t,rfl⟩,⟨t',rfl⟩⟩:=vals2 r;refine max_two_ints (I.ok.hd hc) λh' tk k=>⟨_,H,I.kept k,?_,q⟩;by_cases hj:j > i;rw[if_pos hj,if_pos hj];exact⟨_,rfl⟩;rw[if_neg hj,if_neg hj];exact⟨_,rfl⟩
theorem UQ(hc:X.calm=be):JK X (.builtin "min") (λxs H Q=>∃i j,xs=[.int i,.int j]/\Q (.int (if j<i then j else i)) H):=by intro pins s σ H xs v Q I r h;obtain⟨i,j,rfl,q⟩:=h;obtain⟨u,o,rfl,⟨t,rfl⟩,⟨t',rfl⟩⟩:=vals2 r;refine min_two_ints (I.ok.hd hc) λh' tk k=>⟨_,H,I.kept k,?_,q⟩;by_cases hj:j<i;rw[if_pos hj,if_pos hj];exact⟨_,rfl⟩;rw[if_neg hj,if_neg hj];exact⟨_,rfl⟩
theorem zin:JK X (.type "int") (λxs H Q=>(∃i,xs=[.int i]/\Q (.int i) H)\/∃k,xs=[.bl k]/\Q (.int (if k then 1 else 0)) H):=by intro pins s σ H xs v Q I r h;rcases h with⟨i,rfl,q⟩|⟨k,rfl,q⟩;obtain⟨u,rfl,t,rfl⟩:=vals1 r;exact call_int_int ⟨.int i,H,I,⟨_,rfl⟩,q⟩;obtain⟨u,rfl,o⟩:=vals1 r;cases o;exact call_int_bool ⟨.int (if k then 1 else 0),H,I.tok _,⟨_,rfl⟩,q⟩
theorem zik:JK X (.type "str") (λxs H Q=>∃i,xs=[.int i]/\i.natAbs.log2<1920/\Q (.str (toString i)) H):=by intro pins s σ H xs l Q I r h;obtain⟨i,rfl,hz,q⟩:=h;obtain⟨u,rfl,t,rfl⟩:=vals1 r;exact PySem.P.str_of_int hz ⟨.str _,H,I.tok _,⟨_,rfl⟩,q⟩
def LenV(K:qF)(x:V)(H:Hp)(n:Nat):Prop :=
 match x with
 | .str y=>y.length<=sizeLine/\n=y.length
 | .byt y=>y.size<=sizeLine/\n=y.size
 | .ref p=>(∃xs,SqL K H p xs/\n=xs.length)\/∃xs,SqT K H p xs/\n=xs.length
 | _=>False
theorem Q1:JK X (.builtin "len") (λxs H Q=>∃x n,xs=[x]/\LenV X.K x H n/\Q (.int n) H):=by
 intro pins s σ H xs R Q I r h;obtain⟨x,n,rfl,e,q⟩:=h;obtain⟨u,rfl,G⟩:=vals1 r;have L:=UK;have N:sizeLine=16777216:=oK;cases x with
 | str y =>obtain⟨t,rfl⟩:=G;obtain⟨J,v⟩:y.length<=sizeLine/\n=y.length:=e;subst v;exact len_str (by lia) ⟨.int _,H,I.tok _,⟨_,rfl⟩,q⟩
 | byt y =>obtain⟨t,rfl⟩:=G;obtain⟨J,v⟩:y.size<=sizeLine/\n=y.size:=e;subst v;exact PySem.W.len_bytes (by lia) ⟨.int _,H,I.tok _,⟨_,rfl⟩,q⟩
 | ref p =>cases G;have v:(∃xs,SqL X.K H p xs/\n=xs.length)\/∃xs,SqT X.K H p xs/\n=xs.length:=e;rcases v with⟨xs,hx,v⟩|⟨xs,hx,v⟩;subst v;obtain⟨its,C,pl,hz⟩:=I.list hx;have o:=C.length;exact pI pl.isList (by simp only[aJ];lia) ⟨.int xs.length,H,I.tok _,⟨_,by simp only[aJ];rw[o]⟩,q⟩;subst v;obtain⟨its,C,pl,hz⟩:=I.tuple hx;have o:=C.length;exact len_tuple pl (by simp only[aJ];lia) ⟨.int xs.length,H,I.tok _,⟨_,by simp only[aJ];rw[o]⟩,q⟩
 | _=>exact(show False from e).elim
end
structure Room(k:Nat)(A:bh):Prop where
 hd:A.handled=bc
 dp:A.depth+3*k+5<recursionLimit
 un:A.units+16*k+200<cLine
 gd:A.guards=ao []
theorem Room.mono{j k:Nat}{A:bh}(r:Room k A)(h:j<=k):Room j A:=⟨r.hd,by have:=r.dp;lia,by have:=r.un;lia,r.gd⟩
theorem Room.deeper{k:Nat}{A:bh}(r:Room (k+1) A)(env:Env):Room k (A.deeper env) :=
 ⟨r.hd,by have:=r.dp;show A.depth+1+3*k+5<_;lia,by have:=r.un;show A.units+3+16*k+200<_;lia,r.gd⟩
theorem Room.depth{k:Nat}{A:bh}(r:Room k A):A.depth<recursionLimit:=by have:=r.dp;lia
theorem Room.units{k:Nat}{A:bh}(r:Room k A):A.units+64<cLine:=by have:=r.un;lia
theorem Room.units0{k:Nat}{A:bh}(r:Room k A):A.units<cLine:=by have:=r.un;lia
def tNil:TA:=λ_ H Q=>Q [] H
def QG(o:TE)(l:TA):TA:=λσ H Q=>o σ H λx u=>l σ u λxs v=>Q (x::xs) v
section
variable{X:Cx}{e:a8}{es:List a8}{te:TE}{t:TA}{pos:Pos}
theorem Qz:PA X [] tNil:=λ_ _ _ _ H Q I h=>Calls.spliced_nil ⟨[],H,I,.nil,h⟩
theorem Qj(v:PE X e te)(C:PA X es t)(J:starEach (e::es) X.env=(bj,eval e X.env)::starEach es X.env:=by rfl):PA X (e::es) (QG te t):=by intro pos pins s σ H Q I h;rw[J];show wpAny _ _ (spliced ((bj,eval e X.env)::backTo pos (starEach es X.env))) _ _ s;refine Calls.spliced_cons (thn (v pins s σ H _ I h) λu s1 l=>?_);obtain⟨x,y,U,S,G⟩:=l;exact thn (C pos pins s1 σ y _ U G) λZ s2 ⟨xs,N,Y,L,R⟩=>⟨x::xs,N,Y,.cons S L,R⟩
def tTup(t:TA):TE:=λσ H Q=>t σ H λxs l=>xs.length<=sizeLine/\∀p,l p=bc->Q (.ref p) (upd l p (.tup xs))
def tLst(t:TA):TE:=λσ H Q=>t σ H λxs o=>xs.length<=sizeLine/\∀p,o p=bc->Q (.ref p) (upd o p (.lst xs))
theorem ztd{x1}(h:PA X es t):PE X (.Tuple es x1 pos) (tTup t):=by intro pins s σ H Q I x;refine wpAny_Tuple_spliced (thn (h pos pins s σ H _ I x) λy s1 ⟨xs,o,v,r,z,q⟩=>⟨by rw[<- r.length];exact z,?_⟩);have hf:o s1.heap.objs.size=bc:=v.hok.fresh (aB _);refine⟨.ref s1.heap.objs.size,upd o s1.heap.objs.size (.tup xs),v.laid (t':=s1.toks) (λb u e=>aj _ e) (aB _) ?_,rfl,q _ hf⟩;exact⟨z,y,r,⟨_,aD _ rfl,rfl,⟨_,rfl⟩,rfl⟩⟩
theorem zth(h:PA X es t):PE X (.List es pos) (tLst t):=by intro pins s σ H Q I x;refine wpAny_List_spliced (thn (h pos pins s σ H _ I x) λy s1 ⟨xs,o,v,r,z,q⟩=>⟨by rw[<- r.length];exact z,?_⟩);have hf:o s1.heap.objs.size=bc:=v.hok.fresh (aB _);refine⟨.ref s1.heap.objs.size,upd o s1.heap.objs.size (.lst xs),v.laid (t':=s1.toks) (λb u e=>aj _ e) (aB _) ?_,rfl,q _ hf⟩;exact⟨z,y,0,r,aD _ rfl⟩
end
abbrev Sp:=List V->Hp->VK->XK->Prop
abbrev CXT:=List Env->Hp->av->XK->ah->av->Prop
structure Env0(P:aQ)(w:bg)(K:qF)(mg:qM)(base:bz)(A:bh)(outer:List Env)(s:av)(H:Hp):Prop where
 frames:A.frames=ao outer
 mod:Mod K mg base
 bs:∀b o,base.get? b=ao o->s.heap.get? b=ao o/\H b=bc
 bsz:base.objs.size<=s.heap.objs.size
 funs:s.heap.FunFrames base outer
 frf:∀b∈frs outer,H b=bc
 hok:HOk P w H s.heap
 bare:lI s.gens
def CE(outer:List Env)(P:aQ)(w:bg)(H:Hp)(s:av)(Q:VK)(u:ah)(s':av):Prop :=
 ∃v H',s'.os=s.os/\lI s'.gens/\Un (frs outer) [] H H' s.heap s'.heap/\HOk P w H' s'.heap/\RelV v u/\Q v H'
def CR(l:CXT)(outer:List Env)(P:aQ)(w:bg)(H:Hp)(s:av)(Q:VK)(E:XK)(r:sI)(s':av):Prop :=
 match r with
 | .ok (.ret u)=>CE outer P w H s Q u s'
 | .ok _=>False
 | .error e=>l outer H s E e s'
structure FnOk(P:aQ)(w:bg)(K:qF)(mg:qM)(base:bz)(CX:CXT)(k:Nat)(f:aq)(fd:dZ)(ps:List Str)(sp:Sp):Prop where
 len:∀vs H Q E,sp vs H Q E->vs.length=ps.length
 run:∀(A:bh) (outer:List Env) (s:av) (H:Hp) (args:Args) (us:List ah) (vs:List V) (Q:VK) (E:XK),Room k A->Env0 P w K mg base A outer s H->tW s fd args (ps.zip us)->Vals vs us->sp vs H Q E ->
  codeAny (model P w) A (.call (.ref f) args) (CR CX outer P w H s Q E) s
theorem FnOk.imp{P:aQ}{w:bg}{K:qF}{mg:qM}{base:bz}{u:CXT}{k:Nat}{f:aq}{fd:dZ}{ps:List Str}{o l:Sp}(F:FnOk P w K mg base u k f fd ps o)
  (h:∀vs H Q E,l vs H Q E->o vs H Q E):FnOk P w K mg base u k f fd ps l :=
 ⟨λvs H Q E q=>F.len vs H Q E (h _ _ _ _ q),λA outer s H args G vs Q E v he C x y=>F.run A outer s H args G vs Q E v he C x (h _ _ _ _ y)⟩
section
variable{X:Cx}{pins:qO}{σ:St}{H:Hp}{s s':av}
theorem Inv.env0(I:Inv X pins σ H s):Env0 X.prog X.w X.K X.mg X.base X.A X.stack s H :=
 ⟨I.ok.frames,I.ok.mod,I.bs,cx I.ok.bsz I.sz,I.stack,I.stkFree,I.hok,I.bare⟩
theorem Inv.after{Q:VK}{u:ah}(I:Inv X pins σ H s)(h:CE X.stack X.prog X.w H s Q u s'):EP X pins σ Q u s':=by obtain⟨v,H',os,bare,un,hok,r,q⟩:=h;obtain⟨o,g,d,t,l⟩:=s';obtain rfl:l=s.os:=os;exact⟨v,H',I.call (h':=o) (g':=g) (d':=d) (t':=t) (ch:=[]) un hok bare (λb z=>absurd z (by simp)),r,q⟩
end
def zsv(o:Sp)(l:List V)(E:XK)(t:TA):TE:=λσ H Q=>t σ H λvs u=>o (vs++l) u Q E
def Binds(K:qF)(fd:dZ)(ps:List Str)(ds:List ah):Prop :=
 ∀(s:av) (o:List ah),K.In s.heap->(o++ds).length=ps.length->tW s fd ⟨o,[]⟩ (ps.zip (o++ds))
theorem Binds.all{K:qF}{fd:dZ}{ps:List Str}(h:∀l:List ah,l.length=ps.length->bindArgs fd ⟨l,[]⟩=pure (ps.zip l)):Binds K fd ps []:=λs l _ u=>by rw[cf]at u ⊢;exact .of_eq (h l u)
def zob(l:CXT)(X:Cx)(E:XK):Prop:=∀(pins:qO) (σ:St) (H:Hp) (s:av) (e:ah) (s':av),Inv X pins σ H s->l X.stack H s E e s'->X.xe e s'
section
variable{X:Cx}{CX:CXT}{k:Nat}{f C:aq}{fd:dZ}{ps:List Str}{sp:Sp}{dvs:List V}{ds:List ah}{E:XK}{x m:Str}{p pos apos:Pos}{e o:a8}{es:List a8}{ta:TE}{t:TA}
theorem zsT{pins:qO}{σ:St}{H:Hp}{s:av}{Q:VK}{v:List ah}{vs:List V}(F:FnOk X.prog X.w X.K X.mg X.base CX k f fd ps sp)(L:Room k X.A)(N:Binds X.K fd ps ds)(hd:Vals dvs ds)(hx:zob CX X E)
  (I:Inv X pins σ H s) (r:Vals vs v) (h:sp (vs++dvs) H Q E):wpAny (model X.prog X.w) X.A (call (.ref f) v) (EP X pins σ Q) X.xe s:=by
 have G:Vals (vs++dvs) (v++ds):=r.append hd;have J:(v++ds).length=ps.length:=by rw[<- G.length];exact F.len _ _ _ _ h
 refine wpAny_call (kg (F.run X.A X.stack s H ⟨v,[]⟩ (v++ds) (vs++dvs) Q E L I.env0 (N s v I.kIn J) G h) λr s' y=>?_);cases r with
 | error e=>exact hx pins σ H s e s' I y
 | ok fl =>
  cases fl with
  | ret u=>exact I.after y
  | next=>exact eZ y
  | brk=>exact eZ y
  | cont=>exact eZ y
theorem zqX(F:FnOk X.prog X.w X.K X.mg X.base CX k f fd ps sp)(L:Room k X.A)(U:Gl X x)(R:X.mg x=ao (.ref f))(S:kh X.K (.ref f)=be)(Y:Binds X.K fd ps ds)(hd:Vals dvs ds)(hx:zob CX X E)
  (J:PA X (e::es) t) (u:Ndb x:=by decide) (he:starEach (e::es) X.env=(bj,eval e X.env)::starEach es X.env:=by rfl) (v:(backTo pos (starEach es X.env)).any (·.1)=bj:=by rfl) :
  PE X (.Call (.Name x p) (e::es) [] pos) (zsv sp dvs E t):=by
 intro pins s σ H Q I h;refine lW (zrj I U R ?_ u);refine PySem.W.callWith_K (h₀:=X.base) I.ok.mod.kin S (thn (J pos pins s σ H _ I h) λus s1 ⟨vs,Z,G,r,q⟩=>⟨G.kIn,?_⟩) he v;exact zsT F L Y hd hx G r q
end
structure Ur(N P:List Str)(sc:fI):Prop where
 kind:sc.kind=.function
 co:sc.isCoroutine=false
 gen:sc.isGenerator=false
 nd:N.Nodup
 pre:N.take P.length=P
 par:∀x∈P,sc.names.lookup x=ao .local\/sc.names.lookup x=ao .cell
 nofree:∀y∈sc.names,y.2≠.free
theorem zis{kindOf:Str->Option ff}{x:Str}:∀{binds:List (Str×ah)}{m:qM},(∀v,(x,v)∉binds)->bindL kindOf binds m x=m x
 | [],_,_=>rfl
 | (n,v)::r,m,h=>by
  unfold bindL;rw[zis λw hw=>h w (cn _ hw)];split;have:x≠n:=by rintro rfl;exact h v cL
  simp[this];rfl
theorem ziu{kindOf:Str->Option ff}{x:Str}:∀{binds:List (Str×ah)}{m:qM},(∀v,(x,v)∉binds)->bindC kindOf binds m x=m x
 | [],_,_=>rfl
 | (n,v)::r,m,h=>by
  unfold bindC;rw[ziu λw hw=>h w (cn _ hw)];split;rfl;have:x≠n:=by rintro rfl;exact h v cL
  simp[this]
theorem zit{kindOf:Str->Option ff}{x:Str}{v:ah}:∀{P:List Str}{vs:List ah}{i:Nat}{m:qM},P.Nodup->P[i]?=ao x->vs[i]?=ao v->kindOf x=ao .local ->
  bindL kindOf (P.zip vs) m x=ao v
 | [],_,_,_,_,h,_,_=>by simp at h
 | _::_,[],_,_,_,_,h,_=>by simp at h
 | p::P,w::vs,0,m,nd,h1,h2,hk=>by simp at h1 h2;subst h1;subst h2;show bindL kindOf ((p,w)::P.zip vs) m p=_;unfold bindL;rw[zis λv u=>(cH.mp nd).1 (fx u).1,if_pos hk];simp
 | p::P,w::vs,i+1,m,nd,h1,h2,hk=>by show bindL kindOf ((p,w)::P.zip vs) m x=_;unfold bindL;exact zit (i:=i) (cH.mp nd).2 (by simpa using h1) (by simpa using h2) hk
theorem ziv{kindOf:Str->Option ff}{x:Str}{v:ah}:∀{P:List Str}{vs:List ah}{i:Nat}{m:qM},P.Nodup->P[i]?=ao x->vs[i]?=ao v->kindOf x≠ao .local ->
  bindC kindOf (P.zip vs) m x=ao v
 | [],_,_,_,_,h,_,_=>by simp at h
 | _::_,[],_,_,_,_,h,_=>by simp at h
 | p::P,w::vs,0,m,nd,h1,h2,hk=>by simp at h1 h2;subst h1;subst h2;show bindC kindOf ((p,w)::P.zip vs) m p=_;unfold bindC;rw[ziu λv u=>(cH.mp nd).1 (fx u).1,if_neg hk];simp
 | p::P,w::vs,i+1,m,nd,h1,h2,hk=>by show bindC kindOf ((p,w)::P.zip vs) m x=_;unfold bindC;exact ziv (i:=i) (cH.mp nd).2 (by simpa using h1) (by simpa using h2) hk
def start(N:List Str)(vs:List V):St:=vs.map ao++gC (N.length - vs.length) bc
def cxOf(o:CXT)(P:aQ)(w:bg)(K:qF)(mg:qM)(base:bz)(N:List Str)(qual:Str)(scope:fI)(f:aq)(cd:ah)(A:bh)(outer:List Env)(s:av)(H:Hp)(E:XK):Cx where
 prog:=P
 w:=w
 K:=K
 mg:=mg
 base:=base
 A:=A.deeper (envOfC qual scope s.heap.objs.size f cd)
 N:=N
 s₀:=s
 H₀:=H
 env:=envOfC qual scope s.heap.objs.size f cd
 outer:=outer
 stack:=envOfC qual scope s.heap.objs.size f cd::outer
 ex:=[]
 calm:=true
 fn:=λ_=>true
 pn:=[]
 xe:=λe s'=>wpAny (model P w) (A.deeper (envOfC qual scope s.heap.objs.size f cd)) (leaving (envOfC qual scope s.heap.objs.size f cd) e) (λ_ l=>o outer H s E e l) (λu l=>o outer H s E u l) s'
theorem zkj{sc:fI}{n:Nat}{x:Str}(h:sc.names.lookup x=ao .cell):∃c,(cellsFrom n sc.names []).lookup x=ao c:=by have q:=gL sc.names n [] (.inl h);exact iJ.mp q
theorem zm5{CX:CXT}{P:aQ}{w:bg}{K:qF}{mg:qM}{base:bz}{N ps:List Str}{qual:Str}{scope:fI}{f:aq}{cd:ah}{A:bh}{outer:List Env}{s s1:av}{H:Hp}{E:XK}{U:List ah}{vs:List V}
  (S:Ur N ps scope) (hd:A.handled=bc) (C:Env0 P w K mg base A outer s H) (hl:vs.length=ps.length) (r:Vals vs U)
  (x:InCallC s s.heap.objs.size (bindL (envOfC qual scope s.heap.objs.size f cd).kindOf (ps.zip U) λ_=>bc) (cellsFrom (s.heap.objs.size+1) scope.names []) (bindC (envOfC qual scope s.heap.objs.size f cd).kindOf (ps.zip U) λ_=>bc) s1) :
  Inv (cxOf CX P w K mg base N qual scope f cd A outer s H E) [] (start N vs) H s1:=by
 have hpl:ps.length<=N.length:=by have:=congrArg fg S.pre;rw[ef]at this;lia
 obtain⟨R,tk,rfl,Z⟩:=x.done;have G:∀b:aq,b∉(cxOf CX P w K mg base N qual scope f cd A outer s H E).ex:=λb z=>absurd (show b∈([]:List aq) from z) (by simp);refine⟨⟨C.mod,S.kind,rfl,rfl,aB _,λy z c R o=>?_,λy I=>?_,λy c _ h=>?_,λ_=>hd,Around.frames_deeper C.frames,.inr ⟨rfl,rfl⟩,λb z=>absurd z (G b),C.bs,C.bsz,λb _ _=>G b,λb z=>absurd z (G b),C.funs,C.frf⟩,
  rfl,C.bare,Un.kept Z,⟨_,x.toInCall.ns,λi y v R o h3=>?_⟩,λy c h=>⟨_,x.cell y c h⟩,C.hok.fresh (aB _),λy c h=>?_,λp J=>absurd (show p∈([]:qO) from J) (by simp),C.hok.kept Z,?_⟩
 exact name_of_addr x.apart (gn R) (gn o);have I:scope.names.lookup y=ao .cell\/scope.names.lookup y=ao .free:=I;rcases I with I|I;exact zkj I;exact absurd rfl (S.nofree _ (gn I));exact ic (x.above y c (gn h));have hi:i<vs.length:=by unfold start at o;by_cases hi:i<vs.length;exact hi;rw[bQ (by simpa using hi)]at o;rw[fj]at o;split at o <;> cases o
 have ha:vs[i]?=ao v:=by
  unfold start at o;rw[bU (by simpa using hi),aX]at o;cases e:vs[i]? with
  | none=>rw[e]at o;cases o
  | some a=>rw[e]at o;cases o;rfl
 obtain⟨u,Y,rv⟩:=r.get ha;have J:ps[i]?=ao y:=by rw[<- S.pre,gf (by lia)];exact R
 have L:ps.Nodup:=by rw[<- S.pre];exact S.nd.sublist (mP _ _)
 refine⟨u,rv,?_⟩;rcases S.par y (ax J) with k|k;exact .inl ⟨k,zit L J Y k⟩;obtain⟨c,e⟩:=zkj (n:=s.heap.objs.size+1) k;refine .inr ⟨.inl k,c,e,?_⟩;have q:=x.cell y c e;rw[ziv L J Y (by show scope.names.lookup y≠_;rw[k];decide)]at q;exact q;exact C.hok.fresh (ic (x.above y c (gn h)));unfold start;show _=N.length;rw[aW,aN,oq];lia
theorem zxj{U:CXT}{P:aQ}{w:bg}{K:qF}{mg:qM}{base:bz}{k:Nat}{f:aq}{name qual:Str}{params:Arguments}{body:List fA}{scope:fI}{dV kV doc pm C ct oc:ah}{an od:Option aq}
  {osl:Array (Option ah)} {N ps:List Str} {Y:Sp} (lk:K.lookup f=ao ⟨oc,od,.func (fc name qual params body scope dV kV doc pm an C ct),osl⟩) (Z:kj K C qual=be) (S:Ur N ps scope)
  (len:∀vs H Q E,Y vs H Q E->vs.length=ps.length)
  (Nf:∀(A:bh) (outer:List Env) (s:av) (H:Hp) (vs:List V) (Q:VK) (E:XK),Room k (A.deeper (envOfC qual scope s.heap.objs.size f C))->Y vs H Q E ->
   ∃t,PSs (cxOf U P w K mg base N qual scope f C A outer s H E) body t/\t { nx:=λ_ H'=>Q .non H',rt:=Q } (start N vs) H) :
  FnOk P w K mg base U (k+1) f (fc name qual params body scope dV kV doc pm an C ct) ps Y:=by
 refine⟨len,λA outer s H args us vs Q E hr R hb r L=>?_⟩;have hl:=len _ _ _ _ L;have KX:K.In s.heap:=R.mod.kin.keeps λb o e=>(R.bs b o e).1;have lim:s.heap.NoLimit:=R.mod.nolimit.keeps λb o e=>(R.bs b o e).1;have M9:∀y∈ps.zip us,scope.names.lookup y.1=ao .local\/(scope.names.lookup y.1=ao .cell/\((cellsFrom (s.heap.objs.size+1) scope.names []).lookup y.1).isSome=be):=λ⟨n,v⟩ hy=>by rcases S.par n (fx hy).1 with q|q;exact .inl q;exact .inr ⟨q,gL _ _ _ (.inl q)⟩
 refine codeAny_call_function hr.depth (KX _ _ lk) rfl S.co S.gen rfl (PySem.W.codeRec_of KX Z) (hb _ _ _ _ ?_);refine wpAny_newFunctionEnv_cells S.kind M9 λenv he s1 x=>?_;subst he;refine⟨lim.keeps x.toInCall.keep,codeAny_func ?_⟩;obtain⟨t,ht,hq⟩:=Nf A outer s H vs Q E (hr.deeper _) L;have I:Inv (cxOf U P w K mg base N qual scope f C A outer s H E) [] (start N vs) H s1:=zm5 S hr.hd R hl r x;refine cS (ht [] s1 (start N vs) H _ I hq) (λfl s' G=>?_) λe s' G=>G;have fin:∀{σ':St} {H':Hp} {v:V} {u:ah},Inv (cxOf U P w K mg base N qual scope f C A outer s H E) [] σ' H' s'->RelV v u->Q v H'->CE outer P w H s Q u s' :=
  λ{σ' H' v u} J rv q=>⟨v,H',J.os,J.bare,J.base,J.hok,rv,q⟩
 cases fl with
 | ret u =>obtain⟨v,σ',H',J,rv,q⟩:=G;exact fin J rv q
 | next =>obtain⟨σ',H',J,q⟩:=G;exact fin (v:=V.non) (u:=eJ) J rfl q
 | brk =>obtain⟨_,_,_,q⟩:=G;exact eZ q
 | cont =>obtain⟨_,_,_,q⟩:=G;exact eZ q
section
variable{X:Cx}{x:Str}{p pos:Pos}{e:a8}{es:List a8}{t:TA}{id T:String}{r:List V->Hp->VK->Prop}
def tCB(r:List V->Hp->VK->Prop)(t:TA):TE:=λσ H Q=>t σ H λvs l=>r vs l Q
theorem zoK(hc:JK X (.builtin id) r)(U:Gl X x)(S:X.mg x=bc)(L:bootBuiltins x=ao (.builtin id))(G:PA X (e::es) t)(Y:x ≠ "__name__":=by decide) (o:Ndb x:=by decide)
  (he:starEach (e::es) X.env=(bj,eval e X.env)::starEach es X.env:=by rfl) (v:(backTo pos (starEach es X.env)).any (·.1)=bj:=by rfl):PE X (.Call (.Name x p) (e::es) [] pos) (tCB r t):=by
 intro pins s σ H Q I h;refine lW (Yr I U S L ?_ Y o);exact sJ (thn (G pos pins s σ H _ I h) λus s1 ⟨vs,J,I1,Z,R⟩=>hc pins s1 σ J vs us Q I1 Z R) he v
theorem zhF(hc:JK X (.type T) r)(S:Gl X x)(R:X.mg x=bc)(J:bootBuiltins x=ao (.type T))(v:PA X (e::es) t)(U:x ≠ "__name__":=by decide) (o:Ndb x:=by decide)
  (he:starEach (e::es) X.env=(bj,eval e X.env)::starEach es X.env:=by rfl) (u:(backTo pos (starEach es X.env)).any (·.1)=bj:=by rfl):PE X (.Call (.Name x p) (e::es) [] pos) (tCB r t):=by
 intro pins s σ H Q I h;refine lW (Yr I S R J ?_ U o);exact eI (thn (v pos pins s σ H _ I h) λus s1 ⟨vs,G,Z,Y,L⟩=>hc pins s1 σ G vs us Q Z Y L) he u
end
end L2
namespace HT
open PySem PyProof.Rows
def lexLt:List Int->List Int->Bool
 | [],[]=>false
 | [],_::_=>true
 | _::_,[]=>false
 | x::xs,y::ys=>if x=y then lexLt xs ys else decide (x<y)
theorem zkR(x y:Int)(xs ys:List Int):lexLt (x::xs) (y::ys)=if x=y then lexLt xs ys else decide (x<y):=rfl
theorem zgM:lexLt [] []=bj:=rfl
theorem zfx(y:Int)(ys:List Int):lexLt [] (y::ys)=be:=rfl
theorem zfy(x:Int)(xs:List Int):lexLt (x::xs) []=bj:=rfl
theorem zpf(A:bh)(s:av)(a:Int)(t:Tok)(c:Int)(u:Tok):∃e,pV A s (.int a t) (.int c u) e/\(e=be↔a=c) :=
 ⟨(a == c),iZ a t c u,by simp⟩
theorem zoz(A:bh)(s:av)(a:Int)(t:Tok)(c:Int)(u:Tok)(prog:aQ)(w:bg)(E:qV)(Q:qV)(h:Q (.bool (decide (a<c))) s) :
  wpAny (model prog w) A (richCompare .Lt (.int a t) (.int c u)) Q E s :=
 (yX h:wpAny (model prog w) A (compareOp .Lt (.int a t) (.int c u)) Q E s)
section
open PySem.SeqAt
open PySem.AutoSeq1 (wpAny_loadPart')
open PySem.MeetsSeq PySem.MeetsSeq2 PySem.MeetsSeq3
theorem zgn(l b:aq)(items U:Array ah)(n n2:Nat)(dd dd2:Option aq)(sl sl2:Array (Option ah))(ns ms:List Int)(hi:g6 items.toList ns)(hj:g6 U.toList ms) :
  Meets (cX.«tuple.__lt__» ⟨[.ref l,.ref b],[]⟩)
   (λ_ R s=>s.heap.get? l=ao { cls:=.type "tuple",dict:=dd,data:=.seq items n,slots:=sl }/\s.heap.get? b=ao { cls:=.type "tuple",dict:=dd2,data:=.seq U n2,slots:=sl2 } /\
    R (.ok (.ret (.bool (lexLt ns ms)))) s) :=
 .of_wp λprog w A R s h=>by
  obtain⟨hp,g,d,tk,os⟩:=s;obtain⟨hl,hb,h⟩:=h;have f2:=AutoSeq1.sub_tuple_tuple;have z1:items.size=ns.length:=by rw[<- hi.length];simp
  have z2:U.size=ms.length:=by rw[<- hj.length];simp
  wp_walk using og hl,og hb,wpAny_forIn_list _ (λrest b s'=>b.1=bc/\s'=⟨hp,g,d,tk,os⟩/\∃(vs ws:List ah) (C G:List Int),rest=vs.zip ws /\
   g6 vs C/\g6 ws G/\C.length+U.size=G.length+items.size/\R (.ok (.ret (.bool (lexLt C G)))) ⟨hp,g,d,tk,os⟩) _
  case turn =>
   rintro⟨y,x⟩ rest b s' ⟨N,rfl,vs,ws,C,G,hz,S,I,v,L⟩;cases S with
   | nil=>rw[List.zip_nil_left]at hz;cases hz
   | cons a t Y =>
    cases I with
    | nil=>rw[List.zip_nil_right]at hz;cases hz
    | cons c u Z =>
     rw[pW]at hz;injection hz with hyx hrest;injection hyx with hy hx;subst hy hx;rw[zkR]at L;simp only[aL]at v;obtain⟨e,he,J⟩:=zpf A.in1 ⟨hp,g,d,tk,os⟩ a t c u;refine aa (he prog w _ _ ?_);cases e with
     | true =>rw[if_pos (J.mp rfl)]at L;wp_walk;exact⟨rfl,rfl,_,_,_,_,hrest,Y,Z,by lia,L⟩
     | false =>rw[if_neg (λq=>absurd (J.mpr q) bp)]at L;have hri:=zoz A.in1 ⟨hp,g,d,tk,os⟩ a t c u prog w;wp_walk using hri;exact⟨_,rfl,by simpa using L⟩
  case fin =>
   rintro⟨b1,b2⟩ s' ⟨N,rfl,vs,ws,C,G,hz,S,I,v,L⟩;simp only at N;subst N;have hv:lexLt C G=decide (items.size<U.size):=by
    cases S with
    | nil =>
     cases I with
     | nil =>simp only[cz]at v;rw[zgM];exact(decide_eq_false (by lia)).symm
     | cons c u hw =>simp only[cz,aL]at v;rw[zfx];exact(decide_eq_true (by lia)).symm
    | cons a t hv =>
     cases I with
     | nil =>simp only[cz,aL]at v;rw[zfy];exact(decide_eq_false (by lia)).symm
     | cons c u hw =>rw[pW]at hz;cases hz
   rw[hv]at L;wp_walk;exact⟨_,rfl,by simpa[sy] using L⟩
  case h =>exact⟨rfl,rfl,items.toList,U.toList,ns,ms,rfl,hi,hj,by lia,h⟩
end
section
variable{prog:aQ}{w:bg}{A:bh}{E:qV}{s:av}
theorem zdW{l b:aq}{items G:Array ah}{ns ms:List Int}{Q:qV}(N:rC s.heap l items)(hb:rC s.heap b G)(hi:g6 items.toList ns)(Y:g6 G.toList ms)
  (R:A.units<cLine) (h:Q (.bool (lexLt ns ms)) s):wpAny (model prog w) A (compareOp .Lt (.ref l) (.ref b)) Q E s:=by
 obtain⟨⟨cls,S,data,Z⟩,I,hc,n,hd⟩:=id N;obtain⟨⟨J,C,data2,y⟩,u,v,U,hd2⟩:=id hb;simp only at hc hd v hd2;subst hc hd v hd2;exact richCompare_meets_room (op:=.Lt) ⟨_,I,rfl⟩ ⟨_,u,rfl⟩ PySem.F.slot_tuple_lt PySem.F.entry_tuple_lt (PySem.F.args_tuple_lt_2 _ _) (zgn l b items G n U S C Z y ns ms hi Y)
  ⟨I,u,show pU (lexLt ns ms)≠Value.notImplemented/\Q (.bool (lexLt ns ms)) s from⟨(λx=>nomatch x),h⟩⟩ R
theorem zrZ{t b:aq}{vs l:List ah}{Q:qV}(S:rC s.heap t vs.toArray)(U:rC s.heap b l.toArray)(I:vs≠[])
  (Y:l=[]->Q (.ref t) s) (Z:l≠[]->Q (.ref s.heap.objs.size) { s with heap:=s.heap.push { cls:=.type "tuple",data:=.seq (vs++l).toArray } })
  (hsz:vs.length+l.length<=sizeLine):wpAny (model prog w) A (binaryOp .Add (.ref t) (.ref b)) Q E s:=by
 obtain⟨⟨cls,J,data,R⟩,G,hc,n,hd⟩:=id S;obtain⟨⟨N,C,data2,v⟩,u,x,L,hd2⟩:=id U;simp only at hc hd x hd2;subst hc hd x hd2;have e:vs.toArray++l.toArray=(vs++l).toArray:=by simp
 by_cases hw:l=[];exact rF ⟨_,G,rfl⟩ ⟨_,u,rfl⟩ ni pR km i8 (iK _ _)
  (tuple_addW1 t b vs.toArray l.toArray n L J C R v (by simpa using I) (by simp[hw])) ⟨G,u,Y hw⟩
 refine rF ⟨_,G,rfl⟩ ⟨_,u,rfl⟩ ni pR km i8 (iK _ _)
  (tuple_addW2 t b vs.toArray l.toArray n L J C R v (by simpa using I) (by simpa using hw) (by rw[aJ,aJ];exact hsz)) ⟨G,u,?_⟩
 rw[e];exact Z hw
def sIx(n d:Nat):Option Int->Nat
 | none=>d
 | some v=>if v<0 then(v+(n:Int)).toNat else min v.toNat n
theorem zou(n d:Nat):sIx n d bc=d:=rfl
theorem zqw(n d k:Nat):sIx n d (ao (k:Int))=min k n:=by show(if (k:Int)<0 then((k:Int)+(n:Int)).toNat else min (k:Int).toNat n)=min k n;rw[if_neg (by lia),bX]
theorem zsR(n d:Nat)(hd:d<=n)(o:Option Int):sIx n d o<=n:=by
 cases o with
 | none=>exact hd
 | some v =>show(if v<0 then(v+(n:Int)).toNat else min v.toNat n)<=n;by_cases hv:v<0;rw[if_pos hv];lia;rw[if_neg hv];exact Nat.min_le_right _ _
theorem znN(v:Int)(n d:Nat):(if v<0 then max (v+(n:Int)) 0 else min v (n:Int))=((sIx n d (ao v):Nat):Int):=by show(if v<0 then max (v+(n:Int)) 0 else min v (n:Int))=(((if v<0 then(v+(n:Int)).toNat else min v.toNat n):Nat):Int);by_cases hv:v<0;simp only[if_pos hv];lia;simp only[if_neg hv];lia
theorem zlq(lo hi:Option Int)(n:Nat):iE lo hi 1 (n:Int)=(((sIx n 0 lo:Nat):Int),((sIx n n hi:Nat):Int)):=by
 have l:¬((1:Int)<0):=by lia
 unfold iE;simp only[l,if_false];refine dR ?_ ?_;cases lo with
 | none=>rfl
 | some v=>exact znN v n 0
 cases hi with
 | none=>rfl
 | some v=>exact znN v n n
theorem zkA(i j:Nat):fT (i:Int) (j:Int) 1=j - i:=by
 unfold fT;have l:(1:Int) > 0:=by lia
 simp only[l,if_true,Int.ediv_one];split <;> lia
theorem zfO{v:ah}{o:Option Int}{Q:Option Int->av->Prop}(p:mW v o)(h:Q o s):wpAny (model prog w) A (tE v) Q E s:=by
 cases p with
 | none=>exact ua h
 | int i t=>exact slicePart_int h
theorem zcg{C:aq}{v y:ah}{lo hi:Option Int}{n:Nat}{Q:Int×Int×Nat->av->Prop}(I:s.heap.IsSliceOf C v y .none)(pl:mW v lo)(J:mW y hi)
  (h:Q (((sIx n 0 lo:Nat):Int),1,sIx n n hi - sIx n 0 lo) s):wpAny (model prog w) A (lX (.ref C) (pure (n:Int))) Q E s:=by
 obtain⟨os,u,G,l⟩:=id I;unfold lX uW;refine aa (aa (cK u l (x:=v) rfl (aa (cK u l (x:=y) rfl (aa (cK u l (x:=.none) rfl (ae ?_)))))));refine aa (ua ?_);show wpAny _ _ (if ((1:Int) == 0)=be then _ else _) _ _ s;rw[if_neg (by decide)];refine aa (zfO pl (aa (zfO J (aa (ae ?_)))));show wpAny _ _ (match iE lo hi 1 (n:Int) with|(lo,hi)=>pure (lo,(1:Int),fT lo hi 1)) _ _ s;rw[zlq lo hi n];show wpAny _ _ (pure (((sIx n 0 lo:Nat):Int),(1:Int),fT ((sIx n 0 lo:Nat):Int) ((sIx n n hi:Nat):Int) 1)) _ _ s;rw[zkA];exact ae h
theorem zoG(xs:Array ah)(i k:Nat):((eY k).filterMap λ(m:Nat)=>xs[((i:Int)+(m:Int)*1).toNat]?).toArray=((xs.toList.drop i).take k).toArray:=by
 have e:(λ(m:Nat)=>xs[((i:Int)+(m:Int)*1).toNat]?)=λm=>xs[i+m]?:=by
  funext m;have:((i:Int)+(m:Int)*1).toNat=i+m:=by lia
  rw[this]
 rw[e];have:=yb xs i k;rw[List.filterMap_map]at this;have u:((λx=>xs[x]?)∘λx=>i+x)=λm=>xs[i+m]?:=rfl;rw[u]at this;rw[this]
theorem zdZ{t G:aq}{items:Array ah}{L N:ah}{lo hi:Option Int}{Q:qV}(l:rC s.heap t items)(J:s.heap.IsSliceOf G L N .none)(pl:mW L lo)(S:mW N hi)
  (hw:¬(sIx items.size 0 lo=0/\sIx items.size items.size hi=items.size))
  (h:Q (.ref s.heap.objs.size) { s with heap:=s.heap.push { cls:=.type "tuple",data:=.seq ((items.toList.drop (sIx items.size 0 lo)).take (sIx items.size items.size hi - sIx items.size 0 lo)).toArray } })
  (hsz:items.size<=sizeLine):wpAny (model prog w) A (getItem (.ref t) (.ref G)) Q E s:=by
 have u:sizeOk (.seq ((items.toList.drop (sIx items.size 0 lo)).take (sIx items.size items.size hi - sIx items.size 0 lo)).toArray):=by show((items.toList.drop (sIx items.size 0 lo)).take (sIx items.size items.size hi - sIx items.size 0 lo)).toArray.size<=sizeLine;rw[aJ,ef,kP,cQ];lia
 have Z:sIx items.size items.size hi<=items.size:=zsR _ _ (aB _) hi;obtain⟨os,v,I,R⟩:=id J;have x:s.TypeIs (.ref G) "slice":=⟨os,v,I⟩;unfold getItem;try with_reducible refine cq ?_
 first|refine aa (ae ?_)|skip
 refine aa (rG l.typeIs (by decide) ?_);refine aa (b7 (name:=aH "__getitem__") l.typeIs cD
  (bS cD l.typeIs pJ ?_ (pX _ _)))
 show wpAny _ _ (lY (.ref t) >>= _) _ _ s;refine aa (tupleItemsOf_ l ?_);refine aa (eM x ?_);rw[if_pos (by decide)];refine aa (zcg J pl S ?_);have C:¬((((sIx items.size 0 lo:Nat):Int) == 0&&(1:Int) == 1&&(sIx items.size items.size hi - sIx items.size 0 lo) == items.size)=be):=by intro q;rw[cA,cA]at q;have U:((sIx items.size 0 lo:Nat):Int)=0:=eq_of_beq q.1.1;have Y:sIx items.size items.size hi - sIx items.size 0 lo=items.size:=eq_of_beq q.2;exact hw ⟨by lia,by lia⟩
 show wpAny _ _ (if (((sIx items.size 0 lo:Nat):Int) == 0&&(1:Int) == 1&&(sIx items.size items.size hi - sIx items.size 0 lo) == items.size)=be then _ else _) _ _ s;rw[if_neg C,zoG];first
  | exact aa (m:=gh _) (bM (ae ⟨_,rfl,ae h⟩) u)
  | exact aa (m:=gh _) (bM (aa (ae (ae ⟨_,rfl,ae h⟩))) u)
  | exact aa (aa (m:=gh _) (bM (ae (ae ⟨_,rfl,ae h⟩)) u))
  | exact aa (aa (m:=gh _) (bM (ae ⟨_,rfl,ae h⟩) u))
end
end HT
namespace L2
open PySem PySem.Spec PyProof.Rows
abbrev TO:=St->Hp->(Option Int->Hp->Prop)->Prop
def PO(X:Cx)(e:Option a8)(t:TO):Prop :=
 ∀(pins:qO) (s:av) (σ:St) (H:Hp) (Q:Option Int->Hp->Prop),Inv X pins σ H s->t σ H Q ->
  wpAny (model X.prog X.w) X.A (evalPart e X.env) (λu s'=>∃o H',Inv X pins σ H' s'/\mW u o/\Q o H') X.xe s
def zqm:TO:=λ_ H Q=>Q bc H
def zvR(t:TE):TO:=λσ H Q=>t σ H λx l=>∃i,x=.int i/\Q (ao i) l
theorem intsAre_of{ns:List Int}:∀{u:List ah},Vals (ns.map V.int) u->g6 u ns:=by
 induction ns with
 | nil=>intro u r;rw[eN]at r;cases r;exact .nil
 | cons n ns x =>
  intro u r;rw[aU]at r;cases r with
  | cons y v =>obtain⟨t,e⟩:=y;subst e;exact .cons n t (x v)
section
variable{X:Cx}{e:a8}{te:TE}{lo hi:Option a8}{tl th:TO}{pos p2:Pos}
theorem zqO:PO X bc zqm:=by intro pins s σ H Q I h;rw[evalPart_none];exact ae ⟨bc,H,I,.none,h⟩
theorem zqN(h:PE X e te):PO X (ao e) (zvR te):=by intro pins s σ H Q I hw;rw[evalPart_some];refine thn (h pins s σ H _ I hw) λu s1 l=>?_;obtain⟨x,o,C,y,v⟩:=l;obtain⟨i,rfl,q⟩:=v;obtain⟨t,rfl⟩:=y;exact⟨ao i,o,C,.int i t,q⟩
def SlR(X:Cx)(r:V->Option Int->Option Int->Hp->VK->Prop):Prop :=
 ∀(pins:qO) (s:av) (σ:St) (H:Hp) (x:V) (v C I:ah) (lo hi:Option Int) (G:aq) (Q:VK),Inv X pins σ H s->RelV x v->s.heap.IsSliceOf G C I .none->mW C lo->mW I hi->r x lo hi H Q ->
  ∃T id,typeLookup (.type T) "__getitem__" = pure (ao (.builtin id))/\s.TypeIs v T/\wpAny (model X.prog X.w) X.A (getItem v (.ref G)) (EP X pins σ Q) X.xe s
theorem SlR.or{r l:V->Option Int->Option Int->Hp->VK->Prop}(h:SlR X r)(h':SlR X l):SlR X (λx lo hi H Q=>r x lo hi H Q\/l x lo hi H Q):=by intro pins s σ H x v y J lo hi G Q I C o pl u q;rcases q with q|q;exact h pins s σ H x v y J lo hi G Q I C o pl u q;exact h' pins s σ H x v y J lo hi G Q I C o pl u q
def tSl(r:V->Option Int->Option Int->Hp->VK->Prop)(te:TE)(tl th:TO):TE:=λσ H Q=>te σ H λx o=>tl σ o λl v=>th σ v λu y=>r x l u y Q
theorem zjG{r:V->Option Int->Option Int->Hp->VK->Prop}(Z:SlR X r)(he:PE X e te)(N:PO X lo tl)(U:PO X hi th):PE X (.Subscript e (.Slice lo hi bc p2) pos) (tSl r te tl th):=by intro pins s σ H Q I h;refine ub (thn (he pins s σ H _ I h) λv s1 C=>?_);obtain⟨x,Y,I1,r1,q1⟩:=C;refine wpAny_Slice (thn (N pins s1 σ Y _ I1 q1) λG s2 ⟨l,H2,I2,pl,q2⟩=>thn (U pins s2 σ H2 _ I2 q2) λJ s3 C=>?_);obtain⟨u,L,R,pu,q3⟩:=C;rw[evalPart_none];refine ae ?_;have I4:Inv X pins σ L { s3 with heap:=s3.heap.push { cls:=.type "slice",data:=.fields #[G,J,.none] } }:=R.kept (t':=s3.toks) λb ob q=>aj _ q;obtain⟨T,id,hT,ht,hg⟩:=Z pins { s3 with heap:=s3.heap.push { cls:=.type "slice",data:=.fields #[G,J,.none] } } σ L x v G J l u s3.heap.objs.size Q I4 r1 (AF ..) pl pu q3;show wpAny (model X.prog X.w) X.A (subscriptTail e (.Slice lo hi bc p2) v (.ref s3.heap.objs.size)) (EP X pins σ Q) X.xe { s3 with heap:=s3.heap.push { cls:=.type "slice",data:=.fields #[G,J,.none] } };exact tail_any (ops:=[.ref s3.heap.objs.size,v]) ht hT hg (by with_unfolding_all rfl)
def cutV(xs:List V)(lo hi:Option Int):List V:=(xs.drop (HT.sIx xs.length 0 lo)).take (HT.sIx xs.length xs.length hi - HT.sIx xs.length 0 lo)
theorem zfn(xs:List V)(lo hi:Option Int):(cutV xs lo hi).length<=xs.length:=by unfold cutV;rw[ef,kP];lia
def rSlT(K:qF):V->Option Int->Option Int->Hp->VK->Prop:=λx lo hi H Q=>∃a xs,x=.ref a/\SqT K H a xs /\
 ¬(HT.sIx xs.length 0 lo=0/\HT.sIx xs.length xs.length hi=xs.length)/\∀p,H p=bc->Q (.ref p) (upd H p (.tup (cutV xs lo hi)))
theorem zsy:SlR X (rSlT X.K):=by
 intro pins s σ H x v N S lo hi R Q I J C pl G h;obtain⟨a,xs,rfl,hx,hw,q⟩:=h;cases J;obtain⟨its,r,y,hz⟩:=I.tuple hx;have l:its.toArray.size=xs.length:=by rw[aJ];exact r.length.symm
 refine⟨"tuple",_,cD.lookup,y.typeIs,?_⟩;refine HT.zdZ y C pl G (by rw[l];exact hw) ?_ (by rw[l];exact hz);rw[l];refine⟨.ref s.heap.objs.size,_,I.laid (t':=s.toks) (o:=.tup (cutV xs lo hi)) (λb L q=>aj _ q) (aB _) ?_,rfl,q _ (I.hok.fresh (aB _))⟩;exact⟨cx (zfn xs lo hi) hz,_,(r.drop (HT.sIx xs.length 0 lo)).take (HT.sIx xs.length xs.length hi - HT.sIx xs.length 0 lo),IsTD.new _ _⟩
def rLtT(K:qF):R2:=λx y H Q=>∃a b ns ms,x=.ref a/\y=.ref b/\SqT K H a (ns.map V.int)/\SqT K H b (ms.map V.int)/\Q (.bl (HT.lexLt ns ms)) H
theorem ztu(G:X.A.units<cLine):OpR X (compareOp .Lt) (rLtT X.K):=by intro pins s σ H x y v u Q I R S h;obtain⟨a,b,ns,ms,rfl,rfl,C,U,q⟩:=h;cases R;cases S;obtain⟨its,Y,p1,_⟩:=I.tuple C;obtain⟨o,N,p2,_⟩:=I.tuple U;have J:g6 its.toArray.toList ns:=intsAre_of Y;have Z:g6 o.toArray.toList ms:=intsAre_of N;exact HT.zdW p1 p2 J Z G ⟨.bl (HT.lexLt ns ms),H,I,rfl,q⟩
def zwt(K:qF):R2:=λx y H Q=>∃a b xs ys,x=.ref a/\y=.ref b/\SqT K H a xs/\SqT K H b ys/\xs≠[]/\xs.length+ys.length<=sizeLine /\
 (ys=[]->Q (.ref a) H)/\(ys≠[]->∀p,H p=bc->Q (.ref p) (upd H p (.tup (xs++ys))))
theorem Vals.nil_iff{xs:List V}{l:List ah}(r:Vals xs l):l=[]↔xs=[]:=by
 cases r with
 | nil=>simp
 | cons _ _=>simp
theorem zq1:OpR X (binaryOp .Add) (zwt X.K):=by intro pins s σ H x y v u Q I R S h;obtain⟨a,b,xs,ys,rfl,rfl,J,U,hx,hz,L,N⟩:=h;cases R;cases S;obtain⟨its,C,p1,_⟩:=I.tuple J;obtain⟨G,l,p2,_⟩:=I.tuple U;refine HT.zrZ p1 p2 (λz=>hx (C.nil_iff.mp z)) (λz=>⟨.ref a,H,I,rfl,L (l.nil_iff.mp z)⟩) (λz=>?_) (by rw[<- C.length,<- l.length];exact hz);refine⟨.ref s.heap.objs.size,_,I.laid (t':=s.toks) (o:=.tup (xs++ys)) (λb Y q=>aj _ q) (aB _) ?_,rfl,N (λw=>z (l.nil_iff.mpr w)) _ (I.hok.fresh (aB _))⟩;exact⟨by rw[aW];exact hz,_,C.append l,IsTD.new _ _⟩
end
def ixN(n:Nat)(i:Int):Option Nat:=if 0<=i then(if i<n then ao i.toNat else bc) else if -(n:Int)<=i then ao (i+n).toNat else bc
def atI{α:Type}(xs:List α)(i:Int):Option α:=(ixN xs.length i).bind λj=>xs[j]?
theorem zm2{n:Nat}{i:Int}{j:Nat}(h:ixN n i=ao j):seqIndex? i n=ao j/\j<n/\-(n:Int)<=i/\i<n:=by unfold ixN at h;by_cases h0:0<=i;rw[if_pos h0]at h;by_cases h1:i<n;rw[if_pos h1]at h;have e:i.toNat=j:=aP h;exact⟨by rw[tq h0 h1,e],by lia,by lia,h1⟩;rw[if_neg h1]at h;cases h;rw[if_neg h0]at h;by_cases h1:-(n:Int)<=i;rw[if_pos h1]at h;have e:(i+n).toNat=j:=aP h;exact⟨by rw[rH (by lia) h1,e],by lia,h1,by lia⟩;rw[if_neg h1]at h;cases h
theorem zjf{α:Type}{xs:List α}{i:Int}{v:α}(h:atI xs i=ao v):∃j,seqIndex? i xs.length=ao j/\xs[j]?=ao v/\j<xs.length/\-(xs.length:Int)<=i/\i<xs.length:=by
 unfold atI at h;cases e:ixN xs.length i with
 | none=>rw[e]at h;cases h
 | some j =>rw[e]at h;obtain⟨l,o,x,u⟩:=zm2 e;exact⟨j,l,h,o,x,u⟩
theorem zr5{α:Type}{xs:List α}{j:Nat}{v:α}(h:xs[j]?=ao v):atI xs (j:Int)=ao v:=by
 have l:j<xs.length:=(aw.mp h).1;have e:ixN xs.length (j:Int)=ao j:=by unfold ixN;rw[if_pos (by lia),if_pos (by lia)];simp
 unfold atI;rw[e];exact h
def zoa(b:a8):Prop:=∀o i,subscripted b bj o i=operate [o,i] (getItem o i)
def IxR(X:Cx)(r:R2):Prop :=
 ∀(value slice:a8) (pins:qO) (s:av) (σ:St) (H:Hp) (x y:V) (v u:ah) (Q:VK),Inv X pins σ H s->RelV x v->RelV y u->r x y H Q ->
  subscripted slice bj v u=operate [v,u] (getItem v u)->wpAny (model X.prog X.w) X.A (subscriptTail value slice v u) (EP X pins σ Q) X.xe s
def MtR(X:Cx)(id:String)(r:V->List V->Hp->VK->Prop):Prop :=
 ∀(pins:qO) (s:av) (σ:St) (H:Hp) (x:V) (xs:List V) (v:ah) (o:List ah) (Q:VK),Inv X pins σ H s->RelV x v->Vals xs o->r x xs H Q ->
  wpAny (model X.prog X.w) X.A (call (.builtin id) (v::o)) (EP X pins σ Q) X.xe s
section
variable{X:Cx}{a b:a8}{ta tb:TE}{pos:Pos}
theorem IxR.or{r l:R2}(h:IxR X r)(h':IxR X l):IxR X (λx y H Q=>r x y H Q\/l x y H Q):=by intro value slice pins s σ H x y v u Q I C G q o;rcases q with q|q;exact h value slice pins s σ H x y v u Q I C G q o;exact h' value slice pins s σ H x y v u Q I C G q o
theorem Ug{r:R2}(o:IxR X r)(l:PE X a ta)(N:PE X b tb)(C:zoa b):PE X (.Subscript a b pos) (tOp r ta tb):=by intro pins s σ H Q I h;exact ub (binT l N I h λv u s2 x y G R J L q=>o a b pins s2 σ G x y v u Q R J L q (C _ _))
def rIxL(K:qF):R2:=λx y H Q=>∃p xs i v,x=.ref p/\y=.int i/\SqL K H p xs/\atI xs i=ao v/\Q v H
def rIxT(K:qF):R2:=λx y H Q=>∃p xs i v,x=.ref p/\y=.int i/\SqT K H p xs/\atI xs i=ao v/\Q v H
def rIxS:R2:=λx y H Q=>∃z i c,x=.str z/\y=.int i/\z.length<=sizeLine/\atI z.cps.toList i=ao c/\Q (.str ⟨#[c]⟩) H
theorem Um:IxR X (rIxL X.K):=by
 intro value slice pins s σ H x y v u Q I Z ry h J;obtain⟨p,xs,i,z,rfl,rfl,S,he,q⟩:=h;cases Z;obtain⟨t,rfl⟩:=ry;obtain⟨its,r,pl,hz⟩:=I.list S;obtain⟨j,l,h2,h3,Y,U⟩:=zjf he;obtain⟨w,L,C⟩:=r.get h2;have R:=r.length;have hn:=UK;have fin:EP X pins σ Q w s:=⟨z,H,I,C,q⟩;by_cases h0:0<=i;have G:i.toNat=j:=by rw[tq h0 U]at l;exact aP l
 exact item_listR pl.isList h0 (by lia) (by rw[G];simpa using L) fin J;have G:(i+(its.toArray.size:Int)).toNat=j:=by rw[rH (by lia) Y]at l;rw[aJ,<- R];exact aP l
 exact nL (x:=w) pl.isList.typeIs rJ.lookup
  (wpAny_getItem_list_neg (Q:=λr s'=>r=w/\EP X pins σ Q r s') pl.isList (by lia) (by rw[aJ] <;> lia) (by lia) (by rw[G];simpa using L) ⟨rfl,fin⟩) J
theorem zt6:IxR X (rIxT X.K):=by
 intro value slice pins s σ H x y v u Q I J L h G;obtain⟨p,xs,i,z,rfl,rfl,C,he,q⟩:=h;cases J;obtain⟨t,rfl⟩:=L;obtain⟨its,r,pl,hz⟩:=I.tuple C;obtain⟨j,N,R,h3,Z,U⟩:=zjf he;obtain⟨w,S,l⟩:=r.get R;have o:=r.length;have Y:=UK;have fin:EP X pins σ Q w s:=⟨z,H,I,l,q⟩;exact nL (x:=w) pl.typeIs slot_tuple_getitem.lookup
  (getItem_tuple (j:=j) (Q:=λr s'=>r=w/\EP X pins σ Q r s') pl (by lia) (by lia) (by rw[aJ,<- o];exact N) (by simpa using S) ⟨rfl,fin⟩) G
theorem zt7:IxR X rIxS:=by
 intro value slice pins s σ H x y v u Q I R S h G;obtain⟨z,i,c,rfl,rfl,hz,he,q⟩:=h;obtain⟨t,rfl⟩:=R;obtain⟨t',rfl⟩:=S;obtain⟨j,l,U,Z,N,C⟩:=zjf he;have o:z.cps.toList.length=z.length:=by simp[uc]
 rw[o]at l N C;have Y:=UK;exact tail_any (ud s z t) slot_str_getitem.lookup (getItem_str (c:=c) (by have L:decide (i < -(2 ^ 63:Int))=bj:=decide_eq_false (by lia);have J:decide (i>=2 ^ 63)=bj:=decide_eq_false (by lia);rw[L,J,vK]) (by rw[l];simpa using U) ⟨.str ⟨#[c]⟩,H,I.tok _,⟨_,rfl⟩,q⟩) G
def rIx(K:qF):R2:=λx y H Q=>rIxL K x y H Q\/rIxT K x y H Q\/rIxS x y H Q
theorem zt8:IxR X (rIx X.K):=Um.or (zt6.or zt7)
theorem zkQ(its:List ah)(n j:Nat)(u:ah):gj (·.setIfInBounds j u) { cls:=.type "list",data:=.seq its.toArray n }={ cls:=.type "list",data:=.seq (its.set j u).toArray n }:=by simp[gj]
theorem Inv.lst{pins:qO}{σ:St}{H:Hp}{s:av}{p:aq}{xs:List V}(I:Inv X pins σ H s)(h:H p=ao (.lst xs)) :
  ∃(its:List ah) (n:Nat),Vals xs its/\s.heap.get? p=ao { cls:=.type "list",data:=.seq its.toArray n }/\xs.length<=sizeLine:=by
 obtain⟨z,its,n,r,e⟩:=I.hok p _ h;exact⟨its,n,r,e,z⟩
theorem Inv.lstUpd{pins:qO}{σ:St}{H:Hp}{s:av}{p:aq}{xs ys:List V}{its its':List ah}{n o:Nat}{f:Obj->Obj}(I:Inv X pins σ H s)(h:H p=ao (.lst xs))
  (v:s.heap.get? p=ao { cls:=.type "list",data:=.seq its.toArray n }) (hf:f { cls:=.type "list",data:=.seq its.toArray n }={ cls:=.type "list",data:=.seq its'.toArray o }) (r:Vals ys its') (hz:ys.length<=sizeLine) (t:Nat) :
  Inv X pins σ (upd H p (.lst ys)) { s with heap:=s.heap.update p f,toks:=t }:=by
 have e:(s.heap.update p f).get? p=ao { cls:=.type "list",data:=.seq its'.toArray o }:=by rw[bP f v (by rw[hf] <;> rfl),hf]
 refine I.write (x:=p) (e:=p) (by rw[h];trivial) (.inl rfl) (λb u C q=>(bq _ _ (eK C)).trans q) ⟨_,e⟩ ?_;exact⟨hz,its',o,r,e⟩
def zws:V->V->V->Hp->(Hp->Prop)->Prop:=λo i v H Q=>∃p xs k j,o=.ref p/\i=.int k/\H p=ao (.lst xs)/\ixN xs.length k=ao j/\Q (upd H p (.lst (xs.set j v)))
theorem set_list:PSet X zws:=by
 intro pins s σ H o i v ov iv u Q I ro U Y h;obtain⟨p,xs,k,j,rfl,rfl,L,Z,q⟩:=h;cases ro;obtain⟨t,rfl⟩:=U;obtain⟨its,n,r,G,hz⟩:=I.lst L;obtain⟨x,h2,S,R⟩:=zm2 Z;have y:=r.length;have hn:=UK;have J:Inv X pins σ (upd H p (.lst (xs.set j v))) { s with heap:=s.heap.update p (gj (·.setIfInBounds j u)) } :=
  I.lstUpd L G (zkQ its n j u) (r.set Y j) (by rw[List.length_set];exact hz) s.toks
 by_cases h0:0<=k;have C:k.toNat=j:=by rw[tq h0 R]at x;exact aP x
 exact PySem.W.ki_setAt G h0 (by lia) (by rw[aJ,<- y];exact R) (by rw[C];exact⟨_,J,q⟩);have C:(k+(its.toArray.size:Int)).toNat=j:=by rw[rH (by lia) S]at x;rw[aJ,<- y];exact aP x
 exact PySem.W.ki_setBack G (by lia) (by rw[aJ,<- y];exact S) (by lia) (by rw[C];exact⟨_,J,q⟩)
theorem zhp(lo hi:Option Int)(n:Nat):(sliceBounds lo hi bc n).1=((HT.sIx n 0 lo:Nat):Int)/\(sliceBounds lo hi bc n).2.1=((HT.sIx n n hi:Nat):Int)/\(sliceBounds lo hi bc n).2.2=1:=by
 refine⟨?_,?_,rfl⟩;cases lo with
 | none=>simp[sliceBounds,HT.sIx]
 | some i =>simp only[sliceBounds,HT.sIx,nj,show(1:Int) > 0 by decide,if_true];by_cases h:i<0;simp only[h,if_true] <;> lia;simp only[h,if_false] <;> lia
 cases hi with
 | none=>simp[sliceBounds,HT.sIx]
 | some i =>simp only[sliceBounds,HT.sIx,nj,show(1:Int) > 0 by decide,if_true];by_cases h:i<0;simp only[h,if_true] <;> lia;simp only[h,if_false] <;> lia
theorem zgq(its:List ah)(lo hi:Option Int):slicePick its.toArray lo hi bc=((its.drop (HT.sIx its.length 0 lo)).take (HT.sIx its.length its.length hi - HT.sIx its.length 0 lo)).toArray:=by obtain⟨l,u,v⟩:=zhp lo hi its.toArray.size;unfold slicePick;rw[l,u,v];simp only[ue,yb,aJ] <;> rfl
def rSlL(K:qF):V->Option Int->Option Int->Hp->VK->Prop:=λx lo hi H Q=>∃a xs,x=.ref a/\SqL K H a xs/\∀p,H p=bc->Q (.ref p) (upd H p (.lst (cutV xs lo hi)))
theorem zqr:SlR X (rSlL X.K):=by intro pins s σ H x v N S lo hi R Q I J C pl G h;obtain⟨a,xs,rfl,hx,q⟩:=h;cases J;obtain⟨its,r,y,hz⟩:=I.list hx;have u:=r.length;refine⟨"list",_,rJ.lookup,y.isList.typeIs,?_⟩;refine wpAny_getItem_list_slice y.isList C pl G .none (by simp) ?_ (by rw[aJ] <;> lia);rw[zgq,<- u];refine⟨.ref s.heap.objs.size,_,I.laid (t':=s.toks) (o:=.lst (cutV xs lo hi)) (λb L q=>aj _ q) (aB _) ?_,rfl,q _ (I.hok.fresh (aB _))⟩;exact⟨cx (zfn xs lo hi) hz,_,0,(r.drop (HT.sIx xs.length 0 lo)).take (HT.sIx xs.length xs.length hi - HT.sIx xs.length 0 lo),aD _ rfl⟩
theorem zim:JK X (.builtin "len") (λxs H Q=>∃p ys,xs=[.ref p]/\(SqL X.K H p ys\/SqT X.K H p ys)/\Q (.int ys.length) H):=by intro pins s σ H xs G Q I r h;obtain⟨p,ys,rfl,v,q⟩:=h;obtain⟨u,rfl,y⟩:=vals1 r;cases y;have C:=UK;rcases v with v|v;obtain⟨its,x,pl,hz⟩:=I.list v;have o:=x.length;exact pI pl.isList (by simp only[aJ] <;> lia) ⟨.int ys.length,H,I.tok _,⟨s.toks+1,by rw[aJ,o]⟩,q⟩;obtain⟨its,x,pl,hz⟩:=I.tuple v;have o:=x.length;exact len_tuple pl (by simp only[aJ] <;> lia) ⟨.int ys.length,H,I.tok _,⟨s.toks+1,by rw[aJ,o]⟩,q⟩
theorem Q9:JK X (.type "tuple") (λxs H Q=>∃p ys,xs=[.ref p]/\((SqL X.K H p ys/\∀l,H l=bc->Q (.ref l) (upd H l (.tup ys)))\/(SqT X.K H p ys/\Q (.ref p) H))):=by
 intro pins s σ H xs N Q I r h;obtain⟨p,ys,rfl,h⟩:=h;obtain⟨u,rfl,J⟩:=vals1 r;cases J;rcases h with⟨x,q⟩|⟨x,q⟩;obtain⟨its,v,pl,hz⟩:=I.list x;have C:=v.length;refine call_tuple_list pl.isList (λh' kp=>?_) (by simp only[aJ] <;> lia);have G:Inv X pins σ H { s with heap:=h' }:=I.kept (t':=s.toks) kp;have L:Inv X pins σ (upd H h'.objs.size (.tup ys)) { s with heap:=h'.push { cls:=.type "tuple",data:=.seq its.toArray } } :=
  G.laid (t':=s.toks) (λb o e=>aj _ e) (aB _) (show JL X.prog X.w _ _ _ (.tup ys) from⟨hz,its,v,IsTD.new _ _⟩)
 exact⟨.ref h'.objs.size,_,L,rfl,q _ (G.hok.fresh (aB _))⟩;obtain⟨its,v,pl,hz⟩:=I.tuple x;exact call_tuple_same pl ⟨.ref p,H,I,rfl,q⟩
def tyV(K:qF)(T:String)(x:V)(H:Hp):Prop:=match x with
 | .str _=>T = "str"
 | .int _=>T = "int"
 | .ref p=>(T = "list" /\ ∃xs,SqL K H p xs)\/(T = "tuple" /\ ∃o,K.lookup p=ao o/\o.cls=.type "tuple" /\ o.dict=bc) \/
   (T = "dict" /\ ((∃l,H p=ao (.dK l))\/∃l,H p=ao (.dT l)))\/(T = "set" /\ ∃S n,H p=ao (.set S n))
 | _=>False
theorem zpE{pins:qO}{σ:St}{H:Hp}{s:av}{T:String}{x:V}{v:ah}(I:Inv X pins σ H s)(r:RelV x v)(ty:tyV X.K T x H) :
  s.TypeIs v T/\∀a,v=.ref a->∃C,s.heap.get? a=ao C/\C.dict=bc:=by
 cases x with
 | str z =>obtain⟨t,rfl⟩:=r;cases(show T = "str" from ty);exact⟨ud s z t,λ_ e=>nomatch e⟩
 | int i =>obtain⟨t,rfl⟩:=r;cases(show T = "int" from ty);exact⟨typeIs_int s i t,λ_ e=>nomatch e⟩
 | ref p =>
  cases r;rcases ty with⟨rfl,xs,G⟩|⟨rfl,o,l,hc,hd⟩|⟨rfl,l⟩|⟨rfl,S,n,l⟩;obtain⟨its,_,pl,_⟩:=I.list G;refine⟨pl.isList.typeIs,λa e=>?_⟩;cases e;obtain⟨o,n,e,c,hd,_⟩:=pl;exact⟨o,e,hd⟩;refine⟨⟨o,I.kIn p o l,hc⟩,λa e=>?_⟩;cases e;exact⟨o,I.kIn _ o l,hd⟩;have z:∃o,s.heap.get? p=ao o/\o.ExactDict:=by rcases l with⟨u,l⟩|⟨u,l⟩;obtain⟨_,_,_,_,o,_,_,e,ex,_⟩:=I.hok p _ l;exact⟨o,e,ex⟩;obtain⟨_,_,_,_,o,_,_,e,ex,_⟩:=I.hok p _ l;exact⟨o,e,ex⟩
  obtain⟨o,e,ex⟩:=z;refine⟨⟨o,e,ex.1⟩,λa y=>?_⟩;cases y;exact⟨o,e,ex.2.1⟩;obtain⟨o,_,_,_,e,ex,_⟩:=I.hok p _ l;refine⟨⟨o,e,ex.1⟩,λa y=>?_⟩;cases y;exact⟨o,e,ex.2.1⟩
 | _=>exact eZ ty
def tBM0(K:qF)(T:String)(r:V->List V->Hp->VK->Prop)(to:TE):TE:=λσ H Q=>to σ H λx l=>tyV K T x l/\r x [] l Q
def tBM(K:qF)(T:String)(r:V->List V->Hp->VK->Prop)(to:TE)(t:TA):TE:=λσ H Q=>to σ H λx l=>tyV K T x l/\t σ l λxs o=>r x xs o Q
variable{o e:a8}{es:List a8}{to:TE}{t:TA}{name:Str}{apos MA:Pos}{T id:String}{r:V->List V->Hp->VK->Prop}
theorem ztk(pa:PlainAttrs T)(slot:AJ T name id)(G:typeOf (.builtin id)=pure (.type "method_descriptor")) (Y:MtR X id r) (Z:PE X o to)
  (Mk:attributeBase o name X.env (eval o X.env)=eval o X.env:=by rfl) (S:(apos.endLine == MA.line)=be:=by rfl):PE X (.Call (.Attribute o name apos) [] [] MA) (tBM0 X.K T r to):=by
 intro pins s σ H Q I h;refine wpAny_Call_method0_late Mk S (thn (Z pins s σ H _ I h) λv s1 J=>?_);obtain⟨x,R,N,L,ty,U⟩:=J;obtain⟨h1,h2⟩:=zpE N L ty;exact⟨T,id,pa,slot,G,h1,h2,ko rfl (PySem.evalArgs_none (Y pins s1 σ R x [] v [] Q N L .nil U))⟩
theorem Vu(pa:PlainAttrs T)(slot:AJ T name id)(G:typeOf (.builtin id)=pure (.type "method_descriptor")) (hm:MtR X id r) (ho:PE X o to) (S:PA X (e::es) t)
  (Mk:attributeBase o name X.env (eval o X.env)=eval o X.env:=by rfl)
  (MN:((backTo MA (starEach (e::es) X.env)).all (λx=>!x.1)&&(backToKw MA (keywordEach [] X.env)).all (λx=>x.1.isSome)
   && decide ((e::es).length+([]:List ie).length+(if ([]:List ie).isEmpty then 0 else 1)<30))=be:=by rfl)
  (Z:(apos.endLine == MA.line)=be:=by rfl) (hs:starEach (e::es) X.env=(bj,eval e X.env)::starEach es X.env:=by rfl) (Y:(backTo MA (starEach es X.env)).any (·.1)=bj:=by rfl) :
  PE X (.Call (.Attribute o name apos) (e::es) [] MA) (tBM X.K T r to t):=by
 intro pins s σ H Q I h;refine nM Mk MN Z rfl (thn (ho pins s σ H _ I h) λv s1 J=>?_);obtain⟨x,U,R,N,ty,q1⟩:=J;obtain⟨h1,h2⟩:=zpE R N ty;refine⟨T,id,pa,slot,G,h1,h2,?_⟩;have L:=S MA pins s1 σ U _ R q1;rw[hs]at L ⊢;refine ko (by show(bj||(backTo MA (starEach es X.env)).any (·.1))=bj;rw[Y] <;> rfl) (oM ?_);exact thn L λus s2 ⟨vs,H2,I2,r2,q2⟩=>hm pins s2 σ H2 x vs v us Q I2 N r2 q2
end
def MtM(X:Cx)(id:String)(r:V->List V->Hp->VK->Prop):Prop :=
 ∀(pins:qO) (s:av) (σ:St) (H:Hp) (x:V) (xs:List V) (v:ah) (o:List ah) (Q:VK),Inv X pins σ H s->RelV x v->Vals xs o->r x xs H Q ->
  wpAny (model X.prog X.w) X.A (call (.builtin id) (v::o)) (EP X pins σ Q) X.xe s
theorem Vals.one{x:V}{l:List ah}(h:Vals [x] l):∃u,l=[u]/\RelV x u:=by
 cases h with
 | cons r t=>cases t;exact⟨_,rfl,r⟩
section
variable{X:Cx}{pins:qO}{σ:St}{H:Hp}{s:av}{l b:aq}{xs ys zs:List V}
theorem Inv.lset{its its':List ah}{n:Nat}{f:Array ah->Array ah}{t':Nat}(I:Inv X pins σ H s)(o:H l=ao (.lst xs))
  (e:s.heap.get? l=ao { cls:=.type "list",data:=.seq its.toArray n }) (hf:f its.toArray=its'.toArray) (C:Vals ys its') (hz:ys.length<=sizeLine) :
  Inv X pins σ (upd H l (.lst ys)) { s with heap:=s.heap.update l (gj f),toks:=t' }:=by
 have q:=PySem.IsL.update e f;rw[hf]at q;refine I.write (x:=l) (e:=l) (by rw[o];exact trivial) (.inl rfl) (λJ u G v=>(bq s.heap (gj f) (eK G)).trans v) ⟨_,q⟩ ?_;exact⟨hz,its',_,C,q⟩
theorem Inv.lstM(I:Inv X pins σ H s)(o:H l=ao (.lst xs)):xs.length<=sizeLine/\∃(its:List ah) (n:Nat),Vals xs its/\xs.length=its.length/\s.heap.get? l=ao { cls:=.type "list",data:=.seq its.toArray n }:=by obtain⟨z,its,n,r,e⟩:=I.hok l _ o;exact⟨z,its,n,r,r.length,e⟩
theorem zoS{n:Nat}(h:n<=sizeLine):iL n=bj:=by unfold iL;exact decide_eq_false (by lia)
end
section
variable{X:Cx}
def zqE:V->List V->Hp->VK->Prop:=λx vs H Q=>∃l xs y,x=.ref l/\vs=[y]/\H l=ao (.lst xs)/\xs.length<sizeLine/\Q .non (upd H l (.lst (xs++[y])))
theorem zh1:MtM X "list.append" zqE:=by intro pins s σ H x vs v R Q I L G h;obtain⟨l,xs,y,rfl,rfl,C,hz,q⟩:=h;cases L;obtain⟨u,rfl,J⟩:=G.one;obtain⟨z,its,n,r,N,e⟩:=I.lstM C;refine call_meets F.slot_list_append ⟨_,e,rfl⟩ F.entry_list_append (F.args_list_append_2 _ _) (PySem.list_append l its.toArray n u (by rw[aJ];lia)) ⟨e,?_⟩;refine⟨.non,_,I.lset (its':=its++[u]) C e (by simp) (r.append (.cons J .nil)) ?_,rfl,q⟩;rw[aW,kO];lia
end
end L2
namespace Att
open PySem PySem.W PySem.Calls PyProof.Rows
theorem zfc{P:uf}{h:bz}:∀(ns:List Int) (vs:List ah),WellAll P h vs (ns.map Cd)->g6 vs ns:=by
 intro ns;induction ns with
 | nil =>intro vs w;rw[eN]at w;cases w;exact .nil
 | cons n ns u =>
  intro vs w;rw[aU]at w;cases w with
  | cons a b =>cases a;exact .cons _ _ (u _ b)
theorem zlZ{l:OpenLaw}{n:Nat}(S:l.most=ao n){P:uf}{h:bz}{args:List WData}{vals:List ah}
  (I:l.row.toRowW.claim.pre args=be) (C:WellAll P h vals args) :
  ∃a vs ns,vals=[bR a]/\args=[WData.list (ns.map Cd)]/\h.get? a=ao { cls:=.type "list",data:=.seq vs.toArray }/\g6 vs ns/\ns.length<=n:=by
 have G:WShape.hasAll [] args [.list .int]=be:=(pre_splitW I).1;have hc:l.pre.holds [] { args:=args }=be:=(pre_splitW I).2;obtain⟨d,r,rfl,Z,h2⟩:=hasAllW_cons G;obtain rfl:=hasAllW_nil h2;obtain⟨xs,rfl,Y⟩:=hasW_list Z;obtain⟨ns,rfl⟩:=items_int Y;have u:ns.length<=n:=by
  unfold OpenLaw.pre at hc;have x:(WTm.not (.lt (.lit (.int (n:Int))) (.len (.arg 0)))).holds [] { args:=[.list (ns.map .int)] }=be:=by have x:=(holds_andW hc).1;rw[S]at x;exact x
  have v:=condW_of x (w_not (w_lt w_lit (w_len_list (w_arg rfl))));rw[aN]at v;refine sL λq=>?_;have U:(n:Int)<((ns.length:Nat):Int):=by lia
  first
   | (rw[decide_eq_true U]at v;exact absurd v (by decide))
   | (simp at v;lia)
 cases C with
 | cons J N =>
  cases N;cases J with
  | list R L=>exact⟨_,_,ns,rfl,rfl,R,zfc ns _ L,u⟩
theorem zmj(l:OpenLaw)(args:List WData):l.row.toRowW.claim.post args (.bool be) args=be :=
 postW_of (r:=l.row.toRowW) (X:=(be == be))
  (show AO [] (.bool be) .bool=be by first|rfl|decide|simp[AO,WShape.arms,WShape.armsAll])
  (show(WTm.eq .res (.lit (.bool be))).value [] { args:=args,res:=ao (.bool be),after:=args }=ao (.bool (be == be)) from w_eq_bool (w_res rfl) w_lit) rfl
theorem attach_call{l:OpenLaw}{n:Nat}{q:aQ}{loose:List Str}{Z:(Str->Option ah)->bz->Prop}{YP:bg->bz->Prop}{d:DefRec}
  (hn:l.most=ao n) (U:d.params.defaults=[])
  (call:∀(w:bg) (s₀ v:av) (mg R:qM) (C:aq) (o:Obj) (pm cd doc:ah) (a:aq) (vs:List ah) (ns:List Int),
   Ground q loose [] Z w s₀ mg R v.heap->YP w v.heap ->
   v.heap.get? C=ao o->o.data=.func (docDef d.name d.params d.body d.scope pm cd doc)->v.heap.CodeRec cd d.name->mg d.name=ao (.ref C) ->
   v.heap.get? a=ao { cls:=.type "list",data:=.seq vs.toArray }->g6 vs ns->ns.length<=n->v.gens=#[] ->
   codeAny (model l.prog w) callerA (.call (.ref C) ⟨[.ref a],[]⟩) (λr s'=>r=.ok (.ret (.bool be))/\OldK v.heap s'.heap/\s'.os=v.os/\lI s'.gens) v) :
  WalkO q loose Z YP l.row.toRowW d [] (λf vs=>AQ f vs):=by
 intro w s₀ v mg R G Y C o pm cd doc dV kV ho hd L hD S hg args vals as Ni hlay hrd N hlo;obtain rfl:dV=.none:=Dflts.none hD U;obtain rfl:kV=.none:=Dflts.noKw hD;obtain⟨a,vs,ns,rfl,rfl,I,x,J⟩:=zlZ hn Ni N;refine enter_call (kg (call w s₀ v mg R C o pm cd doc a vs ns G Y ho (fd_plain hd) L S I x J hg) λr s' hq=>?_);obtain⟨rfl,h2,h3,h4⟩:=hq;exact⟨.inl ⟨.bool be,.bool be,[],rfl,λ_=>rfl,.bool be,zmj l _,λ_=>⟨g7,λ_ hm=>(nomatch hm)⟩⟩,h2,h3,h4⟩
end Att
namespace L2
open PySem PySem.Spec PyProof.Rows
theorem zlE{vs:List ah}{ns:List Int}(h:g6 vs ns):Vals (ns.map V.int) vs:=by
 induction h with
 | nil=>exact .nil
 | cons n t h u=>exact .cons ⟨t,rfl⟩ u
def Only(H:Hp):Prop:=∀b,H b=bc\/∃o xs,H b=ao (.frz o (.lst xs))
theorem zo1{P:aQ}{w:bg}{K:qF}{mg mb:qM}{CX:CXT}{k:Nat}{fa a:aq}{fd:dZ}{x:Str}{sp:Sp}{C:av}{vs:List ah}{ns:List Int}
  (KX:K.In C.heap) (L:C.heap.Ns mainGlobals mg) (G:C.heap.Ns builtinsNs mb) (hbb:∀x:Str,x ≠ "__name__" -> mb x=bootBuiltins x) (J:C.heap.NoLimit) (hg:C.gens=#[])
  (Z:C.heap.get? a=ao { cls:=.type "list",data:=.seq vs.toArray }) (hi:g6 vs ns) (hl:ns.length<=sizeLine) (hr:Room k callerA)
  (F:∀base:bz,K.In base->base.Ns mainGlobals mg->FnOk P w K mg base CX k fa fd [x] sp) (Nu:∀(s:av) (u:ah),tW s fd ⟨[u],[]⟩ [(x,u)])
  (hsp:∀H:Hp,Only H->SqL K H a (ns.map V.int)->sp [.ref a] H (λv _=>v=.bl be) λ_ _ _=>False)
  (hCX:∀H e s',CX [] H C (λ_ _ _=>False) e s'->False) :
  codeAny (model P w) callerA (.call (.ref fa) ⟨[.ref a],[]⟩) (λr s'=>r=.ok (.ret (.bool be))/\OldK C.heap s'.heap/\s'.os=C.os/\lI s'.gens) C:=by
 have rv:=zlE hi;have S:=hi.length;have core:∀H:Hp,Only H->SqL K H a (ns.map V.int)->HOk P w H C.heap->(∀b,H b≠bc->b=a)->(H a≠bc->K.lookup a=bc) ->
   codeAny (model P w) callerA (.call (.ref fa) ⟨[.ref a],[]⟩) (λr s'=>r=.ok (.ret (.bool be))/\OldK C.heap s'.heap/\s'.os=C.os/\lI s'.gens) C:=by
  intro H hO hS hok hA hK;have Nb:∀{b:aq} {o:Obj},C.heap.get? b=ao o->H b=bc->(hidT C.heap H).get? b=ao o:=λe n=>zo_ e n;have noA:∀{b:aq} {o:Obj} {es:Array fW} {ep:Nat},C.heap.get? b=ao o->o.data=.dict es ep->H b=bc:=λ{b o es ep} e d=>by
   cases q:H b with
   | none=>rfl
   | some u =>have e':b=a:=hA b (by rw[q];simp);subst e';rw[Z]at e;cases e;have d':Data.seq vs.toArray _=Data.dict es ep:=d;cases d'
  have I:∀{b:aq} {m:qM},C.heap.Ns b m->(hidT C.heap H).Ns b m:=λ{b m} ⟨o,es,ep,e,d,r⟩=>⟨o,es,ep,Nb e (noA e d),d,r⟩;have Y:K.In (hidT C.heap H):=λb o e=>Nb (KX b o e) (by
   cases q:H b with
   | none=>rfl
   | some u =>have e':b=a:=hA b (by rw[q];simp);subst e';rw[hK (by rw[q];simp)]at e;cases e)
  have hM:Mod K mg (hidT C.heap H):=⟨Y,I L,⟨mb,I G,hbb⟩,let ⟨mc,h1,h2⟩:=J;⟨mc,I h1,h2⟩⟩;have e0:Env0 P w K mg (hidT C.heap H) callerA [] C H:=⟨rfl,hM,λb o e=>zq6 e,Nat.le_of_eq (zm8 _ _),trivial,λb G=>absurd (show b∈([]:List aq) from G) (by simp),hok,.of_eq hg⟩;refine kg ((F _ Y (I L)).run callerA [] C H ⟨[.ref a],[]⟩ [.ref a] [.ref a] _ _ hr e0 (Nu C (.ref a)) (.cons rfl .nil) (hsp H hO hS)) λr s' h=>?_;cases r with
  | error e=>exact(hCX H e s' h).elim
  | ok fl =>
   cases fl with
   | next=>exact eZ h
   | brk=>exact eZ h
   | cont=>exact eZ h
   | ret u =>
    obtain⟨v,H',os,bare,un,U,r',q⟩:=h;have q':v=.bl be:=q;subst q';obtain rfl:u=pU be:=r';refine⟨rfl,OldK.of_keep λb o e=>?_,os,bare⟩;cases q:H b with
    | none=>exact un.keep b o e q (by intro z;exact absurd (show b∈([]:List aq) from z) (by simp)) (by simp)
    | some u =>rcases hO b with z|⟨ob,xs,z⟩;rw[q]at z;cases z;have z2:=un.frzs b ob _ z;obtain⟨e1,_⟩:=hok b _ z;obtain⟨e2,_⟩:=U b _ z2;rw[e]at e1;cases e1;exact e2
 cases hk:K.lookup a with
 | some o =>have e:=KX a o hk;rw[Z]at e;cases e;refine core (λ_=>bc) (λ_=>.inl rfl) (.inr ⟨_,vs.toArray,_,hk,rfl,rfl,rfl,by rw[aJ,S];exact hl,by simpa using rv⟩) (λb u z=>by have R:(bc:Option HO)=ao u:=z;cases R) (λb z=>absurd rfl z) λz=>absurd rfl z
 | none =>refine core (λb=>if b=a then ao (.frz { cls:=.type "list",data:=.seq vs.toArray } (.lst (ns.map V.int))) else bc) (λb=>?_) (.inl (.inr ⟨{ cls:=.type "list",data:=.seq vs.toArray },if_pos rfl⟩)) (λb u z=>?_) (λb z=>?_) λ_=>hk;by_cases G:b=a;exact .inr ⟨_,_,if_pos G⟩;exact .inl (if_neg G);by_cases G:b=a;have R:=(if_pos G).symm.trans z;cases R;subst G;exact⟨Z,by rw[aN];exact hl,vs,_,rv,Z⟩;have R:=(if_neg G).symm.trans z;cases R;by_cases G:b=a;exact G;exact absurd (if_neg G) z
def QB(s:fA):Arguments:=match s with
 | .FunctionDef _ a _ _ _ _ _ _ _ _=>a
 | _=>{ posonlyargs:=[],args:=[],vararg:=bc,kwonlyargs:=[],kw_defaults:=[],kwarg:=bc,defaults:=[] }
def J8(s:fA):List fA:=match s with
 | .FunctionDef _ _ b _ _ _ _ _ _ _=>b
 | _=>[]
def JE(s:fA):fI:=match s with
 | .FunctionDef _ _ _ _ _ _ sc _ _ _=>sc
 | _=>{ kind:=.function,names:=[],isGenerator:=bj,isCoroutine:=bj }
abbrev CX0:CXT:=λ_ _ _ _ _ _=>False
abbrev E0:XK:=λ_ _ _=>False
theorem zwy{X:Cx}:zob CX0 X E0:=λ_ _ _ _ _ _ _ h=>h.elim
structure Fun(K:qF)(x qual:Str)(st:fA)(f:aq)(fd:dZ):Prop where
 ex:∃(oc:ah) (od:Option aq) (kV doc pm:ah) (an:Option aq) (cdv ct:ah) (osl:Array (Option ah)),
  fd=fc x qual (QB st) (J8 st) (JE st) .none kV doc pm an cdv ct/\K.lookup f=ao ⟨oc,od,.func fd,osl⟩/\kj K cdv qual=true
 kp:kh K (.ref f)=true
section
variable{P:aQ}{w:bg}{K:qF}{mg:qM}{base:bz}
theorem Fun.ok{x qual:Str}{st:fA}{f:aq}{fd:dZ}{N ps:List Str}{k:Nat}{u:Sp}(F:Fun K x qual st f fd)(S:Ur N ps (JE st))(len:∀vs H Q E,u vs H Q E->vs.length=ps.length)
  (I:∀(l:ah) (A:bh) (outer:List Env) (s:av) (H:Hp) (vs:List V) (Q:VK) (E:XK),Room k (A.deeper (envOfC qual (JE st) s.heap.objs.size f l))->u vs H Q E ->
   ∃t,PSs (cxOf CX0 P w K mg base N qual (JE st) f l A outer s H E).nox (J8 st) t/\t { nx:=λ_ H'=>Q .non H',rt:=Q } (start N vs) H):FnOk P w K mg base CX0 (k+1) f fd ps u:=by
 obtain⟨R,L,kV,doc,pm,an,l,ct,J,rfl,G,v⟩:=F.ex;refine zxj G v S len λA outer s H vs Q E C y=>?_;obtain⟨t,h,q⟩:=I l A outer s H vs Q E C y;exact⟨t,h.nox,q⟩
theorem Fun.binds{x qual:Str}{st:fA}{f:aq}{fd:dZ}{ps:List Str}(F:Fun K x qual st f fd)
  (h:∀(kV doc pm:ah) (an:Option aq) (u ct:ah) (v:List ah),v.length=ps.length->bindArgs (fc x qual (QB st) (J8 st) (JE st) .none kV doc pm an u ct) ⟨v,[]⟩=pure (ps.zip v)):Binds K fd ps []:=by
 obtain⟨J,I,kV,doc,pm,an,u,ct,C,rfl,G,y⟩:=F.ex;exact .all (h kV doc pm an u ct)
theorem zp2{x qual:Str}{st:fA}{f:aq}{G:ah}{C an:Option aq}{y:Array (Option ah)}{kV doc pm v ct:ah}(l:K.lookup f=ao ⟨G,C,.func (fc x qual (QB st) (J8 st) (JE st) .none kV doc pm an v ct),y⟩)
  (c:kj K v qual=be) (k:kh K (.ref f)=be):Fun K x qual st f (fc x qual (QB st) (J8 st) (JE st) .none kV doc pm an v ct):=⟨⟨G,C,kV,doc,pm,an,v,ct,y,rfl,l,c⟩,k⟩
end
section
variable{X:Cx}
theorem pv(i:Nat){x:Str}{pos:Pos}(u:X.N[i]?=ao x:=by rfl)(o:Vis X.env.scope x:=by walk_at "V")(hd:Ndb x:=by decide)
  (l:Ncd x:=by decide):PE X (.Name x pos) (tVar i):=Qq u o hd l
end
theorem iteF{A B:Prop}(h:B):if bj=be then A else B:=by rw[if_neg bp];exact h
theorem iteT{A B:Prop}(h:A):if be=be then A else B:=by rw[if_pos rfl];exact h
def Same(H H':Hp):Prop:=∀b o,H b=ao o->H' b=ao o
theorem Same.refl(H:Hp):Same H H:=λ_ _ h=>h
end L2
namespace L2
open PySem PySem.Spec PyProof PyProof.Rows
def closed(env:Env):List (Str×ff)->List (Str×aq)->List (Str×aq)
 | [],acc=>acc
 | (n,k)::r,acc=>closed env r (if (k == .free)=be then(n,(env.cells.lookup n).getD 0)::acc else acc)
theorem zfo{env:Env}:∀(l:List (Str×ff)) (acc:List (Str×aq)),(∀x∈l,x.2=.free->∃c,env.cells.lookup x.1=ao c) ->
  (forIn l acc λx __s=>if (x.snd == cJ)=be then do
    let c <- cellOf env x.fst
    pure (iS ((x.fst,c)::__s))
   else pure (iS __s):Sem (List (Str×aq)))=pure (closed env l acc)
 | [],acc,_=>rfl
 | (n,k)::r,acc,h=>by
  have v:=λa=>zfo (env:=env) r a λx hx=>h x (cn _ hx);rw[iT];by_cases e:(k == cJ)=be;obtain⟨c,hc⟩:=h (n,k) cL (by simpa using e);have o:yd n env.cells=ao c:=hc;have y:cellOf env n=pure c:=by unfold cellOf;rw[o]
  simp only[e,if_true,y,pure_bind];rw[v];conv=>rhs;unfold closed
  simp only[e,if_true,o,fF];have u:(k == cJ)=bj:=by simpa using e
  simp only[u,aK,if_false,pure_bind];rw[v];conv=>rhs;unfold closed
  simp only[u,aK,if_false]
theorem zb0{scope:fI}{env:Env}(h:∀x∈scope.names,x.2=.free->∃c,env.cells.lookup x.1=ao c):closureFor scope env=pure (closed env scope.names []):=by simp only[closureFor];rw[zfo scope.names [] h];rfl
theorem zgi{env:Env}:∀(l:List (Str×ff)) (acc:List (Str×aq)),(∀x∈l,x.2=.free->∃c,env.cells.lookup x.1=ao c) ->
  (∀x c,acc.lookup x=ao c->env.cells.lookup x=ao c)->∀x c,(closed env l acc).lookup x=ao c->env.cells.lookup x=ao c
 | [],acc,_,ha=>ha
 | (n,k)::r,acc,h,ha=>by
  unfold closed;refine zgi r _ (λx hx=>h x (cn _ hx)) λx c=>?_;by_cases e:(k == cJ)=be;obtain⟨d,hd⟩:=h (n,k) cL (by simpa using e);have v:yd n env.cells=ao d:=hd;simp only[e,if_true,v,fF];intro q;rw[eC]at q;by_cases ex:(x == n)=be;simp only[ex]at q;have C:x=n:=by simpa using ex
  cases q;rw[C];exact v;have y:(x == n)=bj:=by simpa using ex
  simp only[y]at q;exact ha x c q;have G:(k == cJ)=bj:=by simpa using e
  simp only[G,aK,if_false];exact ha x c
theorem zgk{env:Env}:∀(l:List (Str×ff)) (acc:List (Str×aq)) (x:Str),(∃c,acc.lookup x=ao c)->∃c,(closed env l acc).lookup x=ao c
 | [],_,_,h=>h
 | (n,k)::r,acc,x,h=>by
  unfold closed;refine zgk r _ x ?_;by_cases e:(k == cJ)=be;simp only[e,if_true];rw[eC];cases(x == n) with
  | true=>exact⟨_,rfl⟩
  | false=>exact h
  have v:(k == cJ)=bj:=by simpa using e
  simp only[v,aK,if_false];exact h
theorem zgj{env:Env}:∀(l:List (Str×ff)) (acc:List (Str×aq)) (x:Str),(x,cJ)∈l->∃c,(closed env l acc).lookup x=ao c
 | [],_,_,h=>nomatch h
 | (n,k)::r,acc,x,h=>by unfold closed;rcases aE.mp h with e|h;cases e;refine zgk r _ _ ?_;have v:(cJ == cJ)=be:=rfl;simp only[v,if_true];rw[eC];simp;exact zgj r _ x h
theorem lookup_mem{α:Type}{l:List (Str×α)}{x:Str}{v:α}(h:l.lookup x=ao v):(x,v)∈l:=by
 induction l with
 | nil=>simp at h
 | cons p r y =>
  obtain⟨n,w⟩:=p;rw[eC]at h;by_cases e:(x == n)=be;simp only[e]at h;cases h;have o:x=n:=by simpa using e
  rw[o];exact cL;have u:(x == n)=bj:=by simpa using e
  simp only[u]at h;exact cn _ (y h)
def Ub(env:Env)(p:Str×ff):Str×ff:=if (p.2 == cJ&&env.scope.kind == .function&&env.kindOf p.1 == ao .cell)=be then(p.1,.cell) else p
theorem zl_(env:Env)(p:Str×ff):(Ub env p).1=p.1:=by unfold Ub;by_cases c:(p.2 == cJ&&env.scope.kind == .function&&env.kindOf p.1 == ao .cell)=be;rw[if_pos c];rw[if_neg c]
def kin(env:Env)(x:Str):Option ff->Option ff
 | some .free=>if (env.scope.kind == .function&&env.kindOf x == ao .cell)=be then ao .cell else ao .free
 | o=>o
theorem zl9(env:Env)(x:Str)(k:ff):ao (Ub env (x,k)).2=kin env x (ao k):=by
 unfold Ub;by_cases c:(k == cJ&&env.scope.kind == .function&&env.kindOf x == ao .cell)=be;rw[if_pos c];rw[cA,cA]at c;have y:k=.free:=by simpa using c.1.1
 subst y;unfold kin;rw[if_pos (by rw[cA];exact⟨c.1.2,c.2⟩)];rw[if_neg c];cases k with
 | free =>have:¬(env.scope.kind == .function&&env.kindOf x == ao .cell)=be:=λz=>c (by have v:(cJ == cJ)=be:=rfl;rw[v,kY];exact z);unfold kin;rw[if_neg this]
 | _=>rfl
theorem zgu(scope:fI)(env:Env):(relabel scope env).names=scope.names.map (Ub env):=by show scope.names.map _=_;refine gq λp _=>?_;obtain⟨n,k⟩:=p;rfl
theorem zfR(env:Env):∀(l:List (Str×ff)) (x:Str),(l.map (Ub env)).lookup x=kin env x (l.lookup x)
 | [],_=>rfl
 | (n,k)::r,x=>by
  have G:=zfR env r x;have v:Ub env (n,k)=(n,(Ub env (n,k)).2):=dR (zl_ env (n,k)) rfl;rw[aU,v,eC,eC];by_cases e:(x == n)=be;have y:x=n:=by simpa using e
  subst y;simp only[beq_self_eq_true];exact zl9 env x k;have C:(x == n)=bj:=by simpa using e
  simp only[C];exact G
theorem zd6(scope:fI)(env:Env)(x:Str):(relabel scope env).names.lookup x=kin env x (scope.names.lookup x):=by rw[zgu];exact zfR env _ x
def tbH(A B:Hp):Hp:=λb=>match A b with
 | some (.tbl q)=>ao (.tbl q)
 | _=>B b
theorem zlJ{A B:Hp}(h:∀b q,A b=ao (.tbl q)->B b=ao (.tbl q)):tbH A B=B:=funext λb=>by unfold tbH;split;rename_i q e;exact(h b q e).symm;rfl
abbrev capN(X:Cx)(capt:List Nat):List Str:=capt.map λi=>X.N.getD i sM
abbrev capS(capt:List Nat)(σ:St):St:=capt.map λi=>σ.getD i bc
abbrev Qc(own:List Str):St:=own.map λ_=>bc
def celO(scope:fI)(C:aq):List (Str×aq):=cellsFrom (C+1) scope.names []
def ownCl(X:Cx)(scope:fI)(C:aq):List (Str×aq):=celO scope C++closed X.env scope.names []
abbrev QW(X:Cx)(scope:fI)(own:List Str)(capt:List Nat)(C:aq)(s₀:av)(H₀:Hp)(fp:List aq):Cx :=
 { X with N:=own++capN X capt,s₀:=s₀,H₀:=tbH X.H₀ H₀,env:=compEnvC scope (ownCl X scope C) C X.env,outer:=X.stack,stack:=X.stack,ex:=fp,fn:=λy=>scope.names.lookup y == ao .cell,pn:=[],xe:=λ_ _=>False }
abbrev Fam(X:Cx)(scope:fI)(own:List Str)(capt:List Nat)(P:Cx->Prop):Prop:=∀C s₀ H₀ fp,P (QW X scope own capt C s₀ H₀ fp)
theorem znP{cl:List (Str×aq)}(names:List (Str×ff)):∀(n:Nat) (acc:List (Str×aq)),cellsFrom n names (acc++cl)=cellsFrom n names acc++cl:=by
 induction names with
 | nil=>exact λ_ _=>rfl
 | cons a r l =>obtain⟨x,k⟩:=a;intro n acc;unfold cellsFrom;by_cases z:(k == kZ)=be;rw[if_pos z,if_pos z];exact l (n+1) ((x,n)::acc);rw[if_neg z,if_neg z];exact l n acc
theorem znO{x:Str}{c:aq}(names:List (Str×ff)):∀(n:Nat) (acc:List (Str×aq)),(x,c)∈cellsFrom n names acc->(x,kZ)∈names\/(x,c)∈acc:=by
 induction names with
 | nil=>exact λ_ _ h=>.inr h
 | cons a r o =>obtain⟨y,k⟩:=a;intro n acc h;unfold cellsFrom at h;by_cases z:(k == kZ)=be;rw[if_pos z]at h;rcases o _ _ h with h|h;exact .inl (.tail _ h);rcases aE.mp h with e|h;cases e;rw[eq_of_beq z];exact .inl (.head _);exact .inr h;rw[if_neg z]at h;exact(o _ _ h).imp (.tail _) id
theorem Vz{scope:fI}{h':bz}{C n b c:Nat}{x:Str}(u:tX h' (C+1) (celO scope C))(l:n<=C)(z:(x,c)∈celO scope C)(o:b<n):c≠b:=λe=>by subst e;exact fE _ (aV (aV o l) (mQ (u.empty _ _ z).2))
structure Jv(scope:fI)(own:List Str)(capt:List Nat)(X:Cx):Prop where
 kind:scope.kind=.function
 nov:∀y∈scope.names,y.2=.free->(y.1,kZ)∉scope.names
 names:∀y∈scope.names,y.2=.local->scope.names.lookup y.1=ao .local
 frees:∀y∈scope.names,y.2=.free->X.env.kindOf y.1=ao .cell\/X.env.kindOf y.1=ao .free
 caps:∀k∈capt,scope.names.lookup (X.N.getD k sM)=ao .free
theorem getD_some{α:Type}{l:List (Option α)}{k:Nat}{v:α}(h:l.getD k bc=ao v):l[k]?=ao (ao v):=by
 rw[br]at h;cases e:l[k]? with
 | none=>rw[e]at h;cases h
 | some o=>rw[e]at h;simp at h;rw[h]
section
variable{X:Cx}{scope:fI}{own:List Str}{capt:List Nat}
theorem Jv.cells(S:Jv scope own capt X)(ok:X.Ok):∀x∈scope.names,x.2=.free->∃c,X.env.cells.lookup x.1=ao c:=λx hx hf=>ok.has x.1 (S.frees x hx hf)
theorem Jv.sub(S:Jv scope own capt X)(ok:X.Ok):∀x c,(closed X.env scope.names []).lookup x=ao c->X.env.cells.lookup x=ao c :=
 zgi scope.names [] (S.cells ok) (λx c h=>nomatch (show(bc:Option aq)=ao c from h))
theorem Jv.cell(S:Jv scope own capt X)(ok:X.Ok){C:aq}{x:Str}{c:aq}(h:(ownCl X scope C).lookup x=ao c):(x,c)∈celO scope C\/X.env.cells.lookup x=ao c:=by
 rw[ownCl,i4]at h;cases e:(celO scope C).lookup x with
 | some d =>rw[e]at h;cases h;exact .inl (mem_of_lookup e)
 | none =>rw[e]at h;exact .inr (S.sub ok x c h)
theorem Jv.free(S:Jv scope own capt X){C:aq}{x:Str}(h:scope.names.lookup x=ao .free):∃d,(closed X.env scope.names []).lookup x=ao d/\(ownCl X scope C).lookup x=ao d:=by
 obtain⟨d,hd⟩:=zgj (env:=X.env) scope.names [] x (lookup_mem h);refine⟨d,hd,?_⟩;rw[ownCl,i4];cases e:(celO scope C).lookup x with
 | none=>exact hd
 | some q =>rcases znO _ _ _ (mem_of_lookup e) with z|z;exact absurd z (S.nov _ (lookup_mem h) rfl);cases z
theorem zky{x:Str}(h:(relabel scope X.env).names.lookup x=ao .cell\/(relabel scope X.env).names.lookup x=ao .free):scope.names.lookup x=ao .cell\/scope.names.lookup x=ao .free:=by
 rw[zd6]at h;cases q:scope.names.lookup x with
 | none=>rw[q]at h;rcases h with z|z <;> cases z
 | some k =>
  rw[q]at h;cases k with
  | free=>exact .inr rfl
  | cell=>exact .inl rfl
  | _=>rcases h with z|z <;> cases z
theorem zrY{pins:qO}{σ:St}{H₀:Hp}{s₀:av}{C:aq}{R:List aq}{h':bz}(S:Jv scope own capt X)(I:Inv X pins σ H₀ s₀)(hf:∀b∈R,FpOk X pins H₀ b)(L:∀b∈R,b<s₀.heap.objs.size)(G:s₀.heap.objs.size<=C)(J:tX h' (C+1) (celO scope C)) :
  (QW X scope own capt C s₀ H₀ R).Ok:=by
 have old:∀{x y c},(x,c)∈celO scope C->X.env.cells.lookup y=ao c->False:=λh hz=>by obtain⟨w,q⟩:=I.cell _ _ hz;exact Vz J G h q.lt rfl
 unfold QW;rw[zlJ I.base.tbls];refine⟨I.ok.mod,S.kind,I.ok.glob,I.ok.blt,G,λx y c h1 h2=>?_,λx Z=>?_,λx c z h=>?_,I.ok.hd,I.ok.frames,.inl rfl,λb v=>?_,I.bs,cx I.ok.bsz I.sz,λb o e v=>?_,λb v z=>?_,I.stack,I.stkFree⟩;rcases S.cell I.ok h1 with a|a <;> rcases S.cell I.ok h2 with b|b;exact name_of_addr J.apart a b;exact(old a b).elim;exact(old b a).elim;exact I.ok.inj x y c a b;rcases zky Z with q|q;have:=gL scope.names (C+1) [] (.inl q);show ∃c,(ownCl X scope C).lookup x=ao c;rw[ownCl,i4];obtain⟨d,hd⟩:=iJ.mp this;exact⟨d,by rw[celO,hd];rfl⟩;exact let ⟨d,_,e⟩:=S.free q;⟨d,e⟩;have q:=gL scope.names (C+1) [] (.inl (eq_of_beq z));obtain⟨d,hd⟩:=iJ.mp q;have h:(ownCl X scope C).lookup x=ao c:=h;rw[ownCl,i4,celO,hd]at h;cases h;have:=(J.empty _ _ (mem_of_lookup hd)).2;exact cx G (mQ this);obtain⟨f0,f1,f2,N,f4,Y⟩:=hf b v;have U:=L b v;refine⟨aT (aV U G),λx c e=>?_⟩;rcases S.cell I.ok e with z|z;exact Vz J G z U;exact f4 x c z;obtain⟨f0,f1,f2,N,f4,Y⟩:=hf b v;rcases N with z|z;exact I.ok.noex b o e z;exact absurd (aV (aG (I.ok.bs b o e).1) z) (fE _);obtain⟨f0,f1,f2,N,f4,Y⟩:=hf b v;rcases aE.mp (I.stkSub b z) with q|q;exact f1 q;exact f2 q
theorem znI{J:HO}{pins:qO}{σ:St}{H₀:Hp}{s₀:av}{fp:List aq}{h':bz}{D C:aq}(S:Jv scope own capt X)(I:Inv X pins σ H₀ s₀)(hf:∀b∈fp,FpOk X pins H₀ b)(hfp:∀b∈fp,b<s₀.heap.objs.size)
  (Y:s₀.heap.objs.size<=D) (R:D<C) (old:∀b o,s₀.heap.get? b=ao o->h'.get? b=ao o) (hns:h'.Ns C (λ_=>bc)) (ck:tX h' (C+1) (celO scope C)) (U:JL X.prog X.w (upd H₀ D J) h' D J) :
  Inv (QW X scope own capt C s₀ H₀ fp) [] (Qc own++capS capt σ) (upd H₀ D J) { s₀ with heap:=h' }:=by
 have hC:s₀.heap.objs.size<=C:=ic (fK Y R);have ok:=zrY (own:=own) (capt:=capt) S I hf hfp hC ck;have hn:H₀ D=bc:=I.hok.fresh Y;unfold QW at ok ⊢;rw[zlJ I.base.tbls]at ok ⊢;refine⟨ok,rfl,I.bare,Un.laid old Y hn,⟨_,hns,λi x v e1 L e3=>?_⟩,λx c e=>?_,?_,λx c e=>?_,λp hp=>absurd (show p∈([]:qO) from hp) (by simp),I.hok.laid (o:=J) old Y U,(by show(Qc own++capS capt σ).length=(own++capN X capt).length;simp[Qc,capS,capN])⟩;have N:(Qc own).length=own.length:=aN ..;by_cases hi:i<own.length;rw[bU (by rw[N];exact hi)]at L;unfold Qc at L;rw[aX]at L;cases q:own[i]? with
 | none=>rw[q]at L;cases L
 | some z=>rw[q]at L;cases L
 have hi':own.length<=i:=sL hi;have G:(own++capN X capt)[i]?=ao x:=e1;rw[bQ hi']at G;rw[bQ (by rw[N];exact hi'),N]at L;unfold capN at G;unfold capS at L;rw[aX]at G L;cases q:capt[i - own.length]? with
 | none=>rw[q]at G;cases G
 | some k =>
  rw[q]at G L;have ex:X.N.getD k sM=x:=aP G;have ev:σ.getD k bc=ao v:=aP L;have hv:=getD_some ev;have Z:k<X.N.length:=by rw[<- I.len];exact(aw.mp hv).1
  have hx:X.N[k]?=ao x:=by rw[br,au Z]at ex;rw[au Z];exact congrArg ao ex
  have MU:=S.caps k (ax q);rw[ex]at MU;have M9:=S.frees _ (lookup_mem MU) rfl;obtain⟨m,hm,hl⟩:=I.loc;obtain⟨u,r,l⟩:=hl k x v hx hv (M9.elim (λz=>.inr (.inl z)) λz=>.inr (.inr z));refine⟨u,r,.inr ⟨?_,?_⟩⟩;have e:=zd6 scope X.env x;rw[MU]at e;show(relabel scope X.env).names.lookup x=ao .cell\/(relabel scope X.env).names.lookup x=ao .free;rw[e];unfold kin;by_cases c:(X.env.scope.kind == .function&&X.env.kindOf x == ao .cell)=be;rw[if_pos c];exact .inl rfl;rw[if_neg c];exact .inr rfl;rcases l with⟨z,_⟩|⟨_,c,hc,o,U,hod⟩;rcases M9 with y|y <;> (have y':X.env.kindOf x=_:=y;rw[z]at y';cases y');obtain⟨d,hd,hd2⟩:=S.free (C:=C) MU;have:=S.sub I.ok x d hd;rw[hc]at this;cases this;exact⟨c,hd2,o,old _ _ U,hod⟩
 rcases S.cell I.ok e with z|z;exact⟨bc,(ck.empty _ _ z).1⟩;obtain⟨v,o,U,hd⟩:=I.cell x c z;exact⟨v,o,old _ _ U,hd⟩;show upd H₀ D J C=bc;rw[Jl (kc R)];exact I.hok.fresh hC;show upd H₀ D J c=bc;rcases S.cell I.ok e with z|z;rw[Jl (Vz ck (aB _) z R)];exact I.hok.fresh (cx hC (mQ (ck.empty _ _ z).2));obtain⟨v,o,U,hd⟩:=I.cell x c z;rw[Jl (aT (aV (aG U) Y))];exact I.freeC x c z
theorem zpt{pins Z:qO}{σ σ':St}{H₀ H':Hp}{s₀ s':av}{R:List aq}{l:bz}{C:aq}(I:Inv X pins σ H₀ s₀)(hf:∀b∈R,FpOk X pins H₀ b)(U:s₀.heap.objs.size<=C)
  (J:Inv (QW X scope own capt C s₀ H₀ R) Z σ' H' s') (N:dE C s'.heap l):Inv X pins σ H' { s' with heap:=l }:=by
 have G:H' C=bc:=J.free;have x:∀b o,s₀.heap.get? b=ao o->b≠C:=λb o e=>aT (aV (aG e) U);have u:Un (frs X.stack) R (tbH X.H₀ H₀) H' s₀.heap s'.heap:=J.base;rw[zlJ I.base.tbls]at u;have u2:Un (frs X.stack) R H₀ H' s₀.heap l:=by refine⟨λb o q n S L=>(N.2 b (x b o q)).trans (u.keep b o q n S L),λb o q n S L=>?_,u.free,λb o q L=>?_,u.tups,u.frzs,u.tbls⟩;obtain⟨sl,e⟩:=u.slot b o q n S L;exact⟨sl,(N.2 b (x b o q)).trans e⟩;obtain⟨o',e⟩:=u.there b o q L;exact⟨o',(N.2 b (x b o q)).trans e⟩
 have hok:HOk X.prog X.w H' l:=λb Y e=>by refine(J.hok b Y e).stay (λc v hc q=>(N.2 c ?_).trans q) (λ_ q=>q) (λ_ _ q=>q) λ_ _ _ q=>q;rintro rfl;rcases hc with z|z;subst z;rw[G]at e;cases e;rw[G]at z;cases z
 refine I.call' (s':={ s' with heap:=l }) J.os u2 hok J.bare λb hb=>?_;obtain⟨f0,f1,f2,f3,f4,f5⟩:=hf b hb;exact⟨f3,f1,f4,f5⟩
end
def PTs(Y:Cx)(ifs:List a8)(t:TT):Prop :=
 ∀(pins:qO) (s:av) (σ:St) (H:Hp) (Q:Bool->Hp->Prop),Inv Y pins σ H s->t σ H Q ->
  wpAny (model Y.prog Y.w) Y.A (forIn ifs be λc r=>if r=be then do let ok <- isTrue c Y.env (eval c Y.env);pure (iS ok) else pure (iS r)) (TP Y pins σ Q) Y.xe s
def tYes:TT:=λ_ H Q=>Q be H
theorem zqI{Y:Cx}:PTs Y [] tYes:=λ_ _ _ H _ I h=>wpAny_tests_nil ⟨H,I,h⟩
theorem zqH{Y:Cx}{c:a8}{t:TT}(h:PT Y c t):PTs Y [c] t:=λpins s σ H Q I q=>wpAny_tests_one (h pins s σ H Q I q)
abbrev NoX:ah->av->Prop:=λ_ _=>False
def Wk:St->St->Prop
 | [],[]=>True
 | none::r,_::r'=>Wk r r'
 | some v::r,o::r'=>o=ao v/\Wk r r'
 | _,_=>False
theorem Wk.weak:∀{σ σ':St},Wk σ σ'->σ.length=σ'.length/\∀(i:Nat) v,σ[i]?=ao (ao v)->σ'[i]?=ao (ao v)
 | [],[],_=>⟨rfl,λ_ _ h=>by simp at h⟩
 | none::r,o::r',h=>by
  obtain⟨a,b⟩:=Wk.weak (σ:=r) (σ':=r') h;refine⟨by simp[a],λi v e=>?_⟩;cases i with
  | zero=>simp at e
  | succ i=>simpa using b i v (by simpa using e)
 | some w::r,o::r',h=>by
  obtain⟨h0,l⟩:o=ao w/\Wk r r':=h;obtain⟨a,b⟩:=Wk.weak l;refine⟨by simp[a],λi v e=>?_⟩;cases i with
  | zero=>rw[h0];simpa using e
  | succ i=>simpa using b i v (by simpa using e)
 | none::_,[],h=>eZ h
 | some _::_,[],h=>eZ h
 | [],_::_,h=>eZ h
abbrev TM:=St->Hp->(Hp->Prop)->Prop
def Vw(e:a8)(d:Nat)(l iter:a8)(ifs:List a8)(acc:ah)(env:Env)(nx:Sem Fin->Sem Fin):Prop:=∀it,compTurn e d it acc env=(do
 standAt iter.pos
 match <- pyNext it with
 | none=>pure (.done .next)
 | some v =>
  letOwnedTupleGo l it v
  assign l env v
  let mut ok:=true
  for c in ifs do
   if ok then ok <- isTrue c env (eval c env)
  if ok then nx (again (.compLoop e d it acc env)) else again (.compLoop e d it acc env))
def IsC(e:a8):Prop:=∀(A:bh) (P:aQ) (w:bg) (d:Nat) (it acc:ah) (env:Env),(A.under (.compLoop e d it acc env)=A/\(model P w).den (.compLoop e d it acc env)=(compTurn e d it acc env).onRaise λx=>do noteFrame x env;theTreesLotGoes x) /\
 (A.under (.compStart e d it acc env)=A/\(model P w).den (.compStart e d it acc env)=(compStart e d it acc env).onRaise λx=>do noteFrame x env;standAt theWindowsPlace)/\(Code.compLoop e d it acc env).quiet=true
def PM(Y:Cx)(nx:Sem Fin->Sem Fin)(l:TM):Prop:=∀(pins:qO) (s:av) (σ:St) (H:Hp) (N:Hp->Prop) (k:Sem Fin) (Q:Fin->av->Prop) (E:qV),Inv Y pins σ H s->l σ H N ->
 (∀s' H',Inv Y pins σ H' s'->N H'->wpAny (model Y.prog Y.w) Y.A k Q E s')->wpAny (model Y.prog Y.w) Y.A (nx k) Q E s
def Y1(g:TG)(tt:TT)(C:TM)(σ:St)(J:It)(y:Hp)(Q:Hp->Prop):Prop:=∃(n:Nat) (W:Nat->Hp->Prop),W 0 y/\∀i o,W i o ->
 (i=n->J.stop i o/\Q o)/\(i<n->J.go i o/\∀x v,J.yld i o x v->g x σ v λl G=>Wk σ l/\tt l G λb u=>if b=be then C l u (W (i+1)) else W (i+1) u)
section
variable{Y:Cx}{e:a8}{d:Nat}{tg iter:a8}{ifs:List a8}{acc:ah}{nx:Sem Fin->Sem Fin}{g:TG}{tt:TT}{te:TM}{pins:qO}{σ:St}{s:av}{H1:Hp}{Q:Hp->Prop}{R:sI->av->Prop}
theorem zjR(hC:IsC e)(Z:Y.xe=NoX)(hc:Y.calm=be)(hT:Vw e d tg iter ifs acc Y.env nx)(hg:PG Y tg g)(ht:PTs Y ifs tt)(hm:PM Y nx te){it:aq}{v:List aq}{tn:Nat->bz->Prop}{J:It}(T:Turn Y.prog Y.w Y.K tg J v it tn)
  (M6:∀{H':Hp},(∀b∈v,H' b=bc)->∀b∈v,FpOk Y pins H' b) (I:Inv Y pins σ H1 s) (st:tn 0 s.heap) (fr:∀b∈v,H1 b=bc) (h:Y1 g tt te σ J H1 Q) (hR:∀s' H',Inv Y pins σ H' s'->Q H'->R (.ok .next) s') :
  codeAny (model Y.prog Y.w) Y.A (.compLoop e d (.ref it) acc Y.env) R s:=by
 obtain⟨n,W,w0,turn⟩:=h;refine codeAny_loop (hC Y.A Y.prog Y.w _ _ _ _).2.2 (λm s'=>∃i H',i+m=n/\Inv Y pins σ H' s'/\tn i s'.heap/\(∀b∈v,H' b=bc)/\W i H') ?_ n ⟨0,H1,cY _,I,st,fr,w0⟩;rintro m s4 ⟨i,H4,him,I4,U,fr4,w4⟩;rw[(hC Y.A Y.prog Y.w _ _ _ _).1.1,(hC Y.A Y.prog Y.w _ _ _ _).1.2];refine wpAny_noted (cS (E:=NoX) ?_ (λ_ _ q=>q) λ_ _ z=>eZ z);rw[hT];refine aa (f9 (aa ?_));obtain⟨t1,t2⟩:=turn i H4 w4;by_cases hi:i=n
 ·obtain⟨stop,qn⟩:=t1 hi;refine thn (T.done Y rfl rfl rfl hc i pins s4 _ H4 NoX I4 (M6 fr4) U stop) λr s5 l=>?_;obtain⟨hr,I5⟩:=l;subst hr;exact ae (hR _ _ I5 qn)
 obtain⟨go,step⟩:=t2 (by omega);refine thn (T.item Y rfl rfl rfl hc i pins s4 _ H4 NoX I4 (M6 fr4) U go) λr s5 l=>?_;obtain⟨u,hr,h5⟩:=l;subst hr;refine aa (thn h5 λ_ s6 l=>aa ?_);obtain⟨x,H6,I6,r6,y6,C,fr6⟩:=l;have a1:=hg _ s6 _ H6 x u _ (I6.pinned (M6 fr6) (T.obj _ _ C)) r6 (step x H6 y6);rw[Z]at a1;refine thn a1 λ_ s7 l=>aa ?_;obtain⟨y,H7,I7,wk,q7⟩:=l;obtain⟨wl,wv⟩:=wk.weak;have again:∀{G:av} {N:Hp},Inv Y (pins++ZC v s6.heap) y N G->W (i+1) N->∃m',m'<m/\∃i H',i+m'=n/\Inv Y pins σ H' G/\tn i G.heap/\(∀b∈v,H' b=bc)/\W i H':=λ{G N} I8 w8=>by have pn:∀{b o},b∈v->s6.heap.get? b=ao o->_:=λ{b o} S e=>I8.pin (b,o) (cT _ (cT _ (zdV S e)));refine⟨m - 1,by omega,i+1,N,by omega,(I8.unpinned).weak wl wv,T.keep _ _ _ C λb S o e=>(pn S e).1,λb S=>?_,w8⟩;obtain⟨o,e,d⟩:=T.obj _ _ C b S;exact(pn S e).2.1
 have a2:=ht _ s7 y H7 _ I7 q7;rw[Z]at a2;refine thn a2 λok G l=>?_;obtain⟨N,I8,q8⟩:=l;cases ok with
 | false=>exact ae ⟨rfl,again I8 (by simpa using q8)⟩
 | true=>exact hm _ G y N _ _ _ _ I8 (by simpa using q8) λs' H' I' w'=>ae ⟨rfl,again I' w'⟩
theorem zhl{prog:aQ}{w:bg}{A:bh}{it:ah}{env:Env}(u:IsC e)(v:(clausesOf e)[d]?=ao ⟨tg,iter,ifs,0⟩)
  (h0:codeAny (model prog w) A (.compLoop e d it acc env) R s)
  (h:wpAny (model prog w) A (pyIter it) (λl s'=>codeAny (model prog w) A (.compLoop e d l acc env) R s') (notedBy (model prog w) A env λx s'=>R (.error x) s') s) :
  codeAny (model prog w) A (.compStart e d it acc env) R s:=by
 refine tF ?_;rw[(u A prog w _ _ _ _).2.1.1,(u A prog w _ _ _ _).2.1.2];refine wpAny_notedAt ?_;unfold compStart;rw[v];show wpAny _ _ (PySem.ask >>= _) _ _ s;refine aa (fG (wpAny_ite ?_));split;first
  | exact aa (ae (ae (pF (u A prog w _ _ _ _).2.2 h0)))
  | exact ae (pF (u A prog w _ _ _ _).2.2 h0)
 first
  | exact aa (cU (aa (f9 (aa (cS h (λl s' h'=>ae (pF (u A prog w _ _ _ _).2.2 h')) λ_ _ x=>x)))))
  | (refine aa (cU ?_);show wpAny _ _ (standAt iter.pos >>= _) _ _ s;exact aa (f9 (aa (cS h (λl s' h'=>ae (pF (u A prog w _ _ _ _).2.2 h')) λ_ _ x=>x))))
def nxN(e:a8)(d:Nat)(it2:a8)(acc:ah)(env:Env)(k:Sem Fin):Sem Fin:=do
 let x <- eval it2 env
 standAt it2.pos
 let x <- foldedSetIterable it2 env x;let _ <- runOwn (.compStart e d (<- holding [x] (pyIter x)) acc env) env
 k
theorem zqP{wi:TI}(G:IsC e)(l:Y.xe=NoX)(hc:Y.calm=be)(y:(clausesOf e)[d]?=ao ⟨tg,iter,ifs,0⟩)(hT:Vw e d tg iter ifs acc Y.env nx)(Z:Fsi Y iter)(hi:PI Y tg iter wi)(hg:PG Y tg g)(U:PTs Y ifs tt)(hm:PM Y nx te) :
  PM Y (nxN e d iter acc Y.env) (λσ H N=>wi σ H λJ H1=>Y1 g tt te σ J H1 N):=by
 intro pins s σ H N k Q E I h hk;have a:=hi pins s σ H _ I h;rw[l]at a;unfold nxN;refine aa (cS a (λx s1 h1=>aa (f9 (aa (i9 (Z x) (aa (cq (cS h1 (λitv s2 h2=>?_) λ_ _ z=>z.elim))))))) λ_ _ z=>z.elim);obtain⟨it,fp,tn,J,H2,rfl,I2,T,u,f2,lw⟩:=h2;have loop:codeAny (model Y.prog Y.w) Y.A (.compLoop e d (.ref it) acc Y.env) (λr s'=>r=.ok .next/\wpAny (model Y.prog Y.w) Y.A k Q E s') s2 :=
  zjR G l hc hT hg U hm T (λhn b v=>⟨hn b v,(f2 b v).2⟩) I2 u (λb v=>(f2 b v).1) lw λs' H' S q=>⟨rfl,hk s' H' S q⟩
 refine aa (wpAny_runOwn (kg (zhl G y loop (T.self Y.A 0 _ _ _ u loop)) λr s7 C=>?_));obtain⟨rfl,C⟩:=C;exact C
end
def NA(P:aQ)(w:bg)(u:Sem ah)(z:aq->HO->Prop):Prop:=∀(A:bh) (E:qV) (s:av) (Q:qV),sysModules<s.heap.objs.size ->
 (∀l:Obj,l.isFreed=bj->(∀h':bz,h'.get? s.heap.objs.size=ao l->∃o,z s.heap.objs.size o/\∀H',JL P w H' h' s.heap.objs.size o)->Q (.ref s.heap.objs.size) { s with heap:=s.heap.push l })->wpAny (model P w) A u Q E s
structure Vk(e tg iter:a8)(ifs:List a8)(scope:fI)(Mc:Sem ah)(nx:ah->Env->Sem Fin->Sem Fin):Prop where
 nof:IsC e
 cl:∃gs,clausesOf e=⟨tg,iter,ifs,0⟩::gs
 turn:∀acc env,Vw e 0 tg iter ifs acc env (nx acc env)
 ev:∀env,∃p,eval e env=comprehension e scope env p Mc bj (eval iter env) bc
 ev2:∀env u,∃p,evalThenUse e env u=do let _ <- comprehension e scope env p Mc bj (eval iter env) (ao u)
section
theorem zkL{M:tf}{A:bh}{E:qV}{s:av}{scope:fI}{globals:aq}{cl:List (Str×aq)}{qual:Str}{outer:Env}{Q:Env->av->Prop}
  (l:∀h',h'.Ns s.heap.objs.size (λ_=>bc)->(∀b o,s.heap.get? b=ao o->h'.get? b=ao o)->tX h' (s.heap.objs.size+1) (celO scope s.heap.objs.size) ->
   Q { scope,locals:=s.heap.objs.size,globals,cells:=celO scope s.heap.objs.size++cl,qual,func:=bc,code:=outer.code,frame:=outer.frame,builtins:=outer.builtins } { s with heap:=h' }) :
  wpAny M A (newFunctionEnv scope globals cl [] qual bc .none (ao outer)) Q E s:=by
 simp only[newFunctionEnv,pY,if_true];refine aa (tw (aa (wpAny_layCells _ (λname kind cells=>by cases hkc:kind == kZ <;> simp[hkc]) _ _ _ _ ?_)));have sz:(s.heap.push { cls:=.type "dict",data:=.dict #[] }).objs.size=s.heap.objs.size+1:=dw ..;have ok:=cellsFrom_ok scope.names (s.heap.push { cls:=.type "dict",data:=.dict #[] }) (s.heap.objs.size+1) [] ⟨λ_ _ u=>(nomatch u),g7⟩ (by rw[sz];exact aB _);dsimp only;rw[show cellsFrom (s.heap.push { cls:=.type "dict",data:=.dict #[] }).objs.size scope.names cl=celO scope s.heap.objs.size++cl by rw[sz];exact znP (cl:=cl) scope.names _ []];rw[sz]at ok;rw[hY];refine aa (ae (ae (l _ ?_ (λb o e=>tG _ _ b o (aj _ e)) ok)));exact(Heap.Ns.new s.heap (.type "dict")).keeps (tG _ _)
variable{X:Cx}{e tg iter:a8}{ifs:List a8}{scope:fI}{Mc:Sem ah}{nx:ah->Env->Sem Fin->Sem Fin}{z:aq->HO->Prop}{own:List Str}{capt:List Nat}{wi:TI}{g:TG}{tt:TT}{te:aq->TM}
theorem znH(S:Jv scope own capt X){pins:qO}{σ:St}{y:Hp}{s2:av}{o:List aq}{C:aq}{h':bz}(J:Inv X pins σ y s2)(f2:∀b∈o,FpOk X pins y b)(v:∀b∈o,b<s2.heap.objs.size)(G:s2.heap.objs.size<=C)(R:tX h' (C+1) (celO scope C)){H':Hp}(U:∀b∈o,H' b=bc):∀b∈o,FpOk (QW X scope own capt C s2 y o) [] H' b:=λb u=>by obtain⟨Z,g1,g2,g3,N,Y⟩:=f2 b u;have I:=v b u;refine⟨U b u,aT (aV I G),λz=>?_,.inl u,λx c e=>?_,λp L=>absurd (show p∈([]:qO) from L) (by simp)⟩;rcases aE.mp (J.stkSub b z) with q|q;exact g1 q;exact g2 q;rcases S.cell J.ok e with z|z;exact Vz R G z I;exact N x c z
def zst(z:aq->HO->Prop)(own:List Str)(capt:List Nat)(wi:TI)(g:TG)(tt:TT)(te:aq->TM):TE:=λσ H Q=>wi σ H λJ l=>∀D o,l D=bc->z D o->Y1 g tt (te D) (Qc own++capS capt σ) J (upd l D o) (Q (.ref D))
theorem zkg(hc:X.calm=be)(S:Jv scope own capt X)(k:Vk e tg iter ifs scope Mc nx)(na:NA X.prog X.w Mc z)(hg:Fam X scope own capt λY=>PG Y tg g)(ht:Fam X scope own capt λY=>PTs Y ifs tt)(hm:∀D,Fam X scope own capt λY=>PM Y (nx (.ref D) Y.env) (te D))
  {pins:qO} {σ:St} {Q:VK} {itv:ah} {s2:av} {E:qV} {RR:ah->aq->sI->av->Prop}
  (h2:PIE X pins σ tg (λJ H1=>∀D ho,H1 D=bc->z D ho->Y1 g tt (te D) (Qc own++capS capt σ) J (upd H1 D ho) (Q (.ref D))) itv s2)
  (hR:∀D C s' H',(∃m,s'.heap.Ns C m)->(∀I,dE C s'.heap I->Inv X pins σ H' { s' with heap:=I })->H' C=bc->FpOk X pins H' C->Q (.ref D) H'->RR (.ref D) C (.ok .next) s') :
  wpAny (model X.prog X.w) X.A Mc (λacc s₃=>wpAny (model X.prog X.w) X.A (newFunctionEnv scope X.env.globals (closed X.env scope.names []) [] X.env.qual bc .none (ao X.env)) (λv Z =>
   codeAny (model X.prog X.w) X.A (.compStart e 0 itv acc { v with scope:=relabel scope X.env }) (RR acc v.locals) Z) E s₃) E s2:=by
 obtain⟨it,fp,tn,J,H2,rfl,N,T,U,f2,rd⟩:=h2;have y:∀b∈fp,b<s2.heap.objs.size:=λb hb=>by obtain⟨o,e,_⟩:=T.obj 0 _ U b hb;exact aG e
 refine na _ _ _ _ (ku (by decide) (N.mod.glob.keeps N.bk).lt) λob lv hob=>zkL λu G hk ck=>?_;have g0:(s2.heap.push ob).get? s2.heap.objs.size=ao ob:=aD _ lv;have hC:(s2.heap.push ob).objs.size=s2.heap.objs.size+1:=dw ..;have old:∀b o,s2.heap.get? b=ao o->u.get? b=ao o:=λb o e=>hk b o (aj _ e);obtain⟨ho,hz,hok⟩:=hob u (hk _ _ g0);dsimp only at G ck ⊢;generalize hCe:(s2.heap.push ob).objs.size=C at G hC ck ⊢;have R:s2.heap.objs.size<=C:=by omega
 have st1:=T.keep _ _ _ U λb hb o e=>old b o e;have loop:codeAny (model X.prog X.w) X.A (.compLoop e 0 (.ref it) (.ref s2.heap.objs.size) (compEnvC scope (ownCl X scope C) C X.env)) (RR (.ref s2.heap.objs.size) C) { s2 with heap:=u } :=
  zjR (Y:=QW X scope own capt C s2 H2 fp) k.nof rfl hc (k.turn _ _) (hg _ _ _ _) (ht _ _ _ _) (hm _ _ _ _ _) T (znH S N f2 y R ck) (znI (D:=s2.heap.objs.size) S N f2 y (aB _) (by rw[hC];exact ig _) old G ck (hok _)) st1 (λb hb=>by rw[Jl (aT (y b hb))];exact(f2 b hb).1)
   (rd _ ho (N.hok.fresh (aB _)) hz) λs5 H4 I5 q=>by obtain⟨m,hn,_⟩:=I5.loc;exact hR _ _ s5 H4 ⟨m,hn⟩ (λI sb=>zpt N f2 R I5 sb) I5.free (N.fpOk R I5.free) q
 obtain⟨gs,hcl⟩:=k.cl;exact zhl k.nof (by rw[hcl];rfl) loop (T.self X.A 0 _ _ _ st1 loop)
theorem zqW(hc:X.calm=be)(S:Jv scope own capt X)(k:Vk e tg iter ifs scope Mc nx)(na:NA X.prog X.w Mc z)(hi:PI X tg iter wi)(N:Fam X scope own capt λY=>PG Y tg g)(x:Fam X scope own capt λY=>PTs Y ifs tt)(G:∀D,Fam X scope own capt λY=>PM Y (nx (.ref D) Y.env) (te D))
  (y:Fsi X iter):PE X e (zst z own capt wi g tt te):=by
 intro pins s σ H Q I h;obtain⟨gs,l⟩:=k.cl;obtain⟨p,ev⟩:=k.ev X.env;rw[ev];refine mX (use:=bc) l y (zb0 (S.cells I.ok)) S.kind S.names (thn (hi pins s σ H _ I h) λv s1 U=>thn U λR s2 Z=>?_);refine zkg (RR:=λacc C=>compPost (model X.prog X.w) X.A X.xe bc (EP X pins σ Q) acc C) hc S k na N x G Z λD C s' H' o J _ _ q=>?_;obtain⟨m,o⟩:=o;exact⟨m,o,λu L=>⟨.ref D,H',J u L,rfl,q⟩⟩
theorem zqM(hc:X.calm=be)(S:Jv scope own capt X)(k:Vk e tg iter ifs scope Mc nx)(na:NA X.prog X.w Mc z)(hi:PI X tg iter wi)(hg:Fam X scope own capt λY=>PG Y tg g)(ht:Fam X scope own capt λY=>PTs Y ifs tt)(hm:∀D,Fam X scope own capt λY=>PM Y (nx (.ref D) Y.env) (te D))
  (hs:Fsi X iter) {i:Nat} {x:Str} {l MM:Pos} (hN:X.N.Nodup) (G:X.N[i]?=ao x) (hx:Loc X.env.scope x) (u:swapsWith e (ao (.Name x l)) MM.line X.env=pure be)
  (hf:Fnl X x):PS X (.Assign [.Name x l] e MM) (tAsg (zst z own capt wi g tt te) (UF i)):=by
 intro pins s σ H D I h;obtain⟨gs,R⟩:=k.cl;obtain⟨p,ev⟩:=k.ev2 X.env (assign (.Name x l) X.env);rw[exec_Assign_Name_used _ _ _ _ u];refine aa (f9 (aa ?_));rw[ev];refine aa (cS (mX (use:=ao (assign (.Name x l) X.env)) (Q:=λ_ s'=>SP X pins D .next s') R hs (zb0 (S.cells I.ok)) S.kind S.names (thn (hi pins s σ H _ I h) λv s1 h1=>thn h1 λitv s2 h2=>?_)) (λ_ s' hq=>ae (ae hq)) λ_ _ e=>e);refine zkg (RR:=λacc C=>compPost (model X.prog X.w) X.A X.xe (ao (assign (.Name x l) X.env)) (λ_ s'=>SP X pins D .next s') acc C) (Q:=λv H'=>UF i v σ H' D.nx) hc S k na hg ht hm h2 λD' C s' H' hn J hCn fp q=>?_;obtain⟨m,hn⟩:=hn;obtain⟨f0,f1,f2,f3,f4,f5⟩:=fp;have Is:Inv X pins σ H' s':=J s'.heap (rK _ _);refine rE (zhk Is hN G hx (show RelV (.ref D') (.ref D') from rfl) (λs'' Z U=>?_) hf);obtain⟨a,U,y⟩:=U;have neA:C≠a:=by rcases y with rfl|y;exact f1;exact λz=>f4 x a y z.symm
 exact⟨m,hn.sameBut U neA,λh' L=>⟨_,H',Z.turned (t':=s''.toks) (λb o hb e=>(L.2 b hb).trans e) f0 f1 f3 f4 f5,q⟩⟩
end
def Wm(scope outer:fI)(N:List Str)(capt:List Nat):Bool :=
 scope.kind == .function&&scope.names.all (λy=>!(y.2 == .free)||!scope.names.contains (y.1,.cell))&&scope.names.all (λy=>!(y.2 == .local)||scope.names.lookup y.1 == ao .local) &&
 scope.names.all (λy=>!(y.2 == .free)||(outer.names.lookup y.1 == ao .cell||outer.names.lookup y.1 == ao .free))&&capt.all (λk=>scope.names.lookup (N.getD k sM) == ao .free)
theorem Jv.of{X:Cx}{scope:fI}{own:List Str}{capt:List Nat}(h:Wm scope X.env.scope X.N capt=be):Jv scope own capt X:=by simp only[Wm,cA,dF,Bool.or_eq_true,fk,beq_iff_eq,beq_eq_false_iff_ne]at h;obtain⟨⟨⟨⟨x,C⟩,J⟩,G⟩,I⟩:=h;refine⟨x,λy u e=>?_,λy u e=>(J y u).resolve_left λz=>z e,λy u e=>(G y u).resolve_left λz=>z e,I⟩;have:=(C y u).resolve_left λz=>z e;simpa using this
end L2
namespace L2
open PySem PySem.Spec PyProof.Rows
section
variable{X:Cx}
theorem zmy:OpR X (compareOp .IsNot) (λx y H Q=>∃a b,x=.bl a/\y=.bl b/\Q (.bl (a != b)) H):=by intro pins s σ H x y v u Q I C G h;obtain⟨a,b,rfl,rfl,q⟩:=h;cases C;cases G;exact isnot_bool ⟨.bl (a != b),H,I,rfl,q⟩
theorem boot_int:bootBuiltins "int" = ao (.type "int"):=by decide +kernel
theorem Q7:bootBuiltins "tuple" = ao (.type "tuple"):=by decide +kernel
theorem znW:bootBuiltins "str" = ao (.type "str"):=by decide +kernel
theorem znY:bootBuiltins "all" = ao (.builtin "all"):=by decide +kernel
theorem Ut:bootBuiltins "min" = ao (.builtin "min"):=by decide +kernel
theorem Wj:bootBuiltins "max" = ao (.builtin "max"):=by decide +kernel
theorem QM:bootBuiltins "len" = ao (.builtin "len"):=by decide +kernel
theorem znV:bootBuiltins "sum" = ao (.builtin "sum"):=by decide +kernel
theorem ziq:∀{bs:List Bool}{u:List ah},Vals (bs.map V.bl) u->LSm.BoolsAre u bs
 | [],_,h=>by cases h;exact .nil
 | b::bs,_,h=>by
  cases h with
  | cons r t =>cases(show _=pU b from r);exact .cons b (ziq t)
theorem znT(hc:X.calm=be):JK X (.builtin "all") (λxs H Q=>∃(a:aq) (bs:List Bool),xs=[.ref a]/\SqL X.K H a (bs.map V.bl)/\Q (.bl (bs.all id)) H):=by
 intro pins s σ H xs Z Q I r h;obtain⟨a,bs,rfl,G,q⟩:=h;cases r with
 | cons R L =>
  cases L;cases(show _=bR a from R);obtain⟨its,J,p,hz⟩:=I.list G;have C:=ziq J;have o:s.heap.IsList a its.toArray:=p.isList;have x:a<s.heap.objs.size:=by obtain⟨_,e,_⟩:=o;exact aG e
  refine call_all_walk (gZ o ?_);refine⟨s.heap.objs.size,[s.heap.objs.size,a],[s.heap.objs.size],its.toArray.size,_,_,λi=>(bs[i]?).getD be,rfl,AR (A:=X.A.in1) (I.ok.hd hc) _ a (aT x) its.toArray,
   ⟨⟨_,aD _ rfl,rfl,rfl⟩,o.push _⟩,λi v s' U Y S y=>?_,λh' tk N=>?_⟩
  obtain⟨b,e,rfl⟩:=C.get i v (by simpa using S);simp only[e,fF]at y;exact cW y;have e:((eY its.toArray.size).all λi=>(bs[i]?).getD be)=bs.all id:=by rw[aJ,C.length];exact LSm.range_all bs
  rw[e];exact⟨.bl _,H,I.kept (vM N),rfl,q⟩
mutual
inductive UD (H:Hp):V->af->Prop
 | non:UD H .non .none
 | bl (b:Bool):UD H (.bl b) (.bool b)
 | int (i:Int):UD H (.int i) (.int i)
 | str (x:Str):UD H (.str x) (.str x)
 | lst {a:aq} {xs:List V} {ds:qD}:H a=ao (.lst xs)->Z5 H xs ds->UD H (.ref a) (.list ds)
 | tup {a:aq} {xs:List V} {ds:qD}:H a=ao (.tup xs)->Z5 H xs ds->UD H (.ref a) (.tuple ds)
inductive Z5 (H:Hp):List V->qD->Prop
 | nil:Z5 H [] []
 | cons {v:V} {vs:List V} {d:af} {ds:qD}:UD H v d->Z5 H vs ds->Z5 H (v::vs) (d::ds)
end
def Y0(i j:Int):Prop:=0<j/\j<2 ^ 128
theorem V7:OpR X (binaryOp .FloorDiv) (rI Y0 λi j=>.int (i / j)):=opI λi j _ _ _ _ _ hc q=>by
 have x:(0:Int)<j:=hc.1;have y:j<2 ^ 128:=hc.2;refine floordiv_int (by omega) (by rw[lV i (by omega)];exact q) (.inl (PyProof.noPylong_of_log2 ?_));have u:j.natAbs<2 ^ 128:=by omega
 have C:j.natAbs.log2<128:=(ye (by omega)).mpr u;omega
end
def Pl(X:Cx)(es:List a8):Prop:=∀pos,(backTo pos (starEach es X.env)).any (·.1)=false
def Hd(X:Cx):List a8->Prop
 | []=>True
 | e::r=>starEach (e::r) X.env=(bj,eval e X.env)::starEach r X.env/\Pl X r
structure PB(X:Cx)(es:List a8)(t:TA):Prop where
 pa:PA X es t
 pl:Pl X es
 hd:Hd X es
section
variable{X:Cx}{es:List a8}{t:TA}{te:TE}
theorem QV:PB X [] tNil:=⟨Qz,λ_=>rfl,trivial⟩
theorem QC(h:PE X e te)(o:PB X es t)(l:starEach (e::es) X.env=(bj,eval e X.env)::starEach es X.env):PB X (e::es) (QG te t) :=
 ⟨Qj h o.pa l,λpos=>by rw[l];have:(backTo pos ((bj,eval e X.env)::starEach es X.env)).any (·.1)=(bj||(backTo pos (starEach es X.env)).any (·.1)):=rfl;rw[this,o.pl pos];rfl,l,o.pl⟩
theorem pb_i{j pos}(l:PB X es t):PB X (.Constant (.int i) j pos::es) (QG (tC (.int i)) t):=QC JA l rfl
theorem pb_v(i:Nat){x:Str}{pos:Pos}(o:PB X es t)(v:X.N[i]?=ao x:=by rfl)(u:Vis X.env.scope x:=by walk_at "V")(hd:Ndb x:=by rfl)
  (l:Ncd x:=by rfl):PB X (.Name x pos::es) (QG (tVar i) t):=QC (Qq v u hd l) o rfl
theorem zpK{a b c d}(h:PE X (.BinOp a b c d) te)(l:PB X es t):PB X (.BinOp a b c d::es) (QG te t):=QC h l rfl
theorem ztm{a b c d}(h:PE X (.Compare a b c d) te)(l:PB X es t):PB X (.Compare a b c d::es) (QG te t):=QC h l rfl
variable{e:a8}{x:Str}{p pos:Pos}
theorem zqU{x1}(h:PB X es t):PE X (.Tuple es x1 pos) (tTup t):=ztd h.pa
theorem zmo(h:PB X es t):PE X (.List es pos) (tLst t):=zth h.pa
theorem Vv{id:String}{r:List V->Hp->VK->Prop}(hc:JK X (.builtin id) r)(y:X.mg x=bc)(I:bootBuiltins x=ao (.builtin id))(h:PB X (e::es) t)(v:Gl X x:=by rfl)(G:x ≠ "__name__":=by decide) (o:Ndb x:=by rfl) :
  PE X (.Call (.Name x p) (e::es) [] pos) (tCB r t):=zoK hc v y I h.pa G o h.hd.1 (h.hd.2 pos)
theorem zqY(hc:JK X (.type T) r)(v:X.mg x=bc)(I:bootBuiltins x=ao (.type T))(h:PB X (e::es) t)(u:Gl X x:=by rfl)(G:x ≠ "__name__":=by decide) (o:Ndb x:=by rfl) :
  PE X (.Call (.Name x p) (e::es) [] pos) (tCB r t):=zhF hc u v I h.pa G o h.hd.1 (h.hd.2 pos)
end
end L2
namespace Bd
open PySem L2
structure Def(K:qF)(mg:qM)(x:Str)(st:fA)(ps:List Str)(f:aq)(fd:dZ):Prop where
 F:Fun K x x st f fd
 b:Binds K fd ps []
 m:mg x=ao (.ref f)
section
variable{X:Cx}{k:Nat}{f:aq}{fd:dZ}{ps:List Str}{sp:Sp}{x:Str}{p pos:Pos}{e:a8}{es:List a8}{t:TA}{st:fA}
theorem zqV(D:Def X.K X.mg x st ps f fd)(G:FnOk X.prog X.w X.K X.mg X.base CX0 k f fd ps sp)(v:Room k X.A)(h:PB X (e::es) t)(u:Gl X x:=by rfl)
  (o:Ndb x:=by rfl):PE X (.Call (.Name x p) (e::es) [] pos) (zsv sp [] E0 t):=zqX G v u D.m D.F.kp D.b .nil zwy h.pa o h.hd.1 (h.hd.2 pos)
end
theorem iteP{c A B:Prop}[Decidable c](hc:c)(h:A):if decide c=be then A else B:=by rw[decide_eq_true hc];exact iteT h
theorem iteN{c A B:Prop}[Decidable c](hc:¬c)(h:B):if decide c=be then A else B:=by rw[decide_eq_false hc];exact iteF h
theorem zt_{c A B:Prop}[Decidable c](l:c->A)(o:¬c->B):if decide c=be then A else B:=by by_cases h:c;exact iteP h (l h);exact iteN h (o h)
theorem zje{α:Type}{xs:List α}{k:Int}{v:α}(h0:0<=k)(h:xs[k.toNat]?=ao v):atI xs k=ao v:=by obtain⟨n,rfl⟩:=nk h0;exact zr5 h
theorem JM(k:Nat):(0:Int)<2 ^ k:=by
 have:(0:Nat)<2 ^ k:=Nat.two_pow_pos k;have e:((2 ^ k:Nat):Int)=(2:Int) ^ k:=by simp
 omega
theorem zmi(h:k<=64):(2:Int) ^ k<2 ^ 128:=by
 have:(2:Nat) ^ k<2 ^ 128:=Nat.pow_lt_pow_right (by decide) (by omega);have e:((2 ^ k:Nat):Int)=(2:Int) ^ k:=by simp
 omega
theorem zdm(h:k<=64):(2:Int) ^ k<=2 ^ 64:=by
 have:(2:Nat) ^ k<=2 ^ 64:=Nat.pow_le_pow_right (by decide) (by omega);have e:((2 ^ k:Nat):Int)=(2:Int) ^ k:=by simp
 omega
theorem zor(h:H p=bc):Same H (upd H p o):=λb u e=>by rw[Jl (Qi e h)];exact e
end Bd
namespace L2
open PySem PySem.Spec PyProof.Rows
theorem zr7(k h:Nat):(k*2 ^ h) &&& (2 ^ h)=(k % 2)*2 ^ h:=by
 have o:k*2 ^ h=k <<< h:=(nt k h).symm;have u:(2:Nat) ^ h=1 <<< h:=by rw[nt,tx]
 have l:(k &&& 1) <<< h=k <<< h &&& 1 <<< h:=Nat.shiftLeft_and_distrib;rw[o];conv=>lhs;rw[u]
 rw[<- l,pZ,nt]
theorem zjj(h:Nat)(x:0<=k):dh (k*2 ^ h) (2 ^ h)=if k % 2=0 then k*2 ^ h+2 ^ h else k*2 ^ h - 2 ^ h:=by
 obtain⟨n,rfl⟩:=nk x;have l:((2 ^ h:Nat):Int)=(2:Int) ^ h:=by simp
 have u:((n:Int)*2 ^ h)=((n*2 ^ h:Nat):Int):=by rw[Int.natCast_mul,l]
 rw[bitXor_and,u,<- l,bitAnd_pp (lU _) (lU _)];have v:((n*2 ^ h:Nat):Int).toNat &&& ((2 ^ h:Nat):Int).toNat=(n % 2)*2 ^ h:=by rw[bX,bX];exact zr7 n h
 rw[v];rcases Nat.mod_two_eq_zero_or_one n with z|z;have:((n:Int)) % 2=0:=by lia
 rw[if_pos this,z];simp;have:¬((n:Int)) % 2=0:=by lia
 rw[if_neg this,z,tx];lia
def HAND:af:=.dict [(.none,.none)]
def SCR(ns:List Int):af:=.dict [(.none,.list (ns.map .int))]
def Zj(H:Hp)(hd:aq)(n:Int):Prop:=∃d m t:Int,H hd=ao (.lst [.int d,.int m,.int t])/\0<=m/\m<2 ^ 62/\0<=t/\t<=n
def StT(K:qF)(a:aq)(xs:List V):Prop :=
 ∃(o:Obj) (its:Array ah) (n:Nat),K.lookup a=ao o/\o.cls=.type "tuple" /\ o.data=.seq its n/\its.size<=sizeLine/\Vals xs its.toList/\o.dict=bc
theorem StT.sq{K:qF}{H:Hp}{a:aq}{xs:List V}(h:StT K a xs):SqT K H a xs:=by obtain⟨o,its,n,l,u,y,v,x,_⟩:=h;exact .inr ⟨o,its,n,l,u,y,v,x⟩
def hsT(k:Int×Int):Int:=reduceHash (uY [hashInt k.1,hashInt k.2])
def entZ(z:(Int×Int)×aq×V)(e:fW):Prop:=e.hash=hsT z.1/\e.key=.ref z.2.1/\RelV z.2.2 e.val
abbrev ZT:=List ((Int×Int)×aq×V)
def ZDO(a:aq)(zs:ZT)(ep:Nat):HO:=.ext λh=>(a == sysModules)=bj/\zs.length<=sizeLine/\(zs.map (·.1)).Nodup/\∃o es,h.get? a=ao o/\o.ExactDict/\o.data=.dict es ep/\bT entZ zs es.toList
abbrev KT2:=List ((Int×Int)×af)
def entI(z:Int×V)(e:fW):Prop:=e.hash=hashInt z.1/\(∃t,e.key=.int z.1 t)/\RelV z.2 e.val
def KDO(a:aq)(zs:List (Int×V))(ep:Nat):HO:=.ext λh=>(a == sysModules)=bj/\zs.length<=sizeLine/\(zs.map (·.1)).Nodup/\∃o es,h.get? a=ao o/\o.ExactDict/\o.data=.dict es ep/\bT entI zs es.toList
def blkT(k:Int×Int):af:=.tuple [.int k.1,.int k.2]
def Y2(ks:List (Int×af)):List (af×af):=ks.map λq=>(.int q.1,q.2)
def Jr(ks:KT2):List (af×af):=ks.map λq=>(blkT q.1,q.2)
def EXC(C:aq):af:=.dict [(.none,.int (C:Int))]
def EXO(a C:aq):HO:=.ext λh=>∃o,h.get? a=ao o/\o.cls=.ref C/\∃vs,o.data=.fields vs
mutual
inductive Rep (K:qF)(hd:Option aq)(O:aq->Prop)(H:Hp):V->af->Prop
 | non:Rep K hd O H .non .none
 | bl (b:Bool):Rep K hd O H (.bl b) (.bool b)
 | int (i:Int):Rep K hd O H (.int i) (.int i)
 | str (x:Str):Rep K hd O H (.str x) (.str x)
 | tup {a vs ds} (h:H a=ao (.tup vs)) (o:¬O a) (r:Reps K hd O H vs ds):Rep K hd O H (.ref a) (.tuple ds)
 | tupS {a vs ds} (h:StT K a vs) (r:Reps K hd O H vs ds):Rep K hd O H (.ref a) (.tuple ds)
 | lst {a vs ds} (h:H a=ao (.lst vs)) (o:¬O a) (r:Reps K hd O H vs ds):Rep K hd O H (.ref a) (.list ds)
 | dct {a ep} (h:H a=ao (KDO a [] ep)) (o:¬O a):Rep K hd O H (.ref a) (.dict [])
 | dcK {a kvs ep ks ps} (h:H a=ao (KDO a kvs ep)) (o:¬O a) (r:Za K hd O H kvs ks) (e:ps=Y2 ks):Rep K hd O H (.ref a) (.dict ps)
 | dcT {a zs ep ks ps} (h:H a=ao (ZDO a zs ep)) (o:¬O a) (r:Jo K hd O H zs ks) (e:ps=Jr ks):Rep K hd O H (.ref a) (.dict ps)
 | hand {a} (h:hd=ao a):Rep K hd O H (.ref a) HAND
 | scr {a ns} (h:Rd H a (.lst (ns.map V.int))) (o:¬O a):Rep K hd O H (.ref a) (SCR ns)
 | scrS {a} {ns:List Int} (h:∀H':Hp,SqL K H' a (ns.map V.int)):Rep K hd O H (.ref a) (SCR ns)
 | exc {a C} (h:H a=ao (EXO a C)) (o:¬O a):Rep K hd O H (.ref a) (EXC C)
inductive Reps (K:qF)(hd:Option aq)(O:aq->Prop)(H:Hp):List V->qD->Prop
 | nil:Reps K hd O H [] []
 | cons {v d vs ds} (h:Rep K hd O H v d) (r:Reps K hd O H vs ds):Reps K hd O H (v::vs) (d::ds)
inductive Za (K:qF)(hd:Option aq)(O:aq->Prop)(H:Hp):List (Int×V)->List (Int×af)->Prop
 | nil:Za K hd O H [] []
 | cons {k v d kvs ks} (h:Rep K hd O H v d) (r:Za K hd O H kvs ks):Za K hd O H ((k,v)::kvs) ((k,d)::ks)
inductive Jo (K:qF)(hd:Option aq)(O:aq->Prop)(H:Hp):ZT->KT2->Prop
 | nil:Jo K hd O H [] []
 | cons {k q v d zs ks} (h:Rep K hd O H (.ref q) (.tuple [.int k.1,.int k.2])) (h2:Rep K hd O H v d) (r:Jo K hd O H zs ks):Jo K hd O H ((k,q,v)::zs) ((k,d)::ks)
end
section
variable{K:qF}{hd:Option aq}{O O':aq->Prop}{H H':Hp}
theorem Rep.mono(C:∀a o,H a=ao o->O' a->O a)(y:∀a o,¬O a->H a=ao o->H' a=ao o)(q:Rep K hd O H v d):Rep K hd O' H' v d :=
 Rep.rec (motive_1:=λv d _=>Rep K hd O' H' v d) (motive_2:=λv d _=>Reps K hd O' H' v d) (motive_3:=λv d _=>Za K hd O' H' v d) (motive_4:=λv d _=>Jo K hd O' H' v d)
  .non .bl .int .str (λh o _ r=>.tup (y _ _ o h) (λz=>o (C _ _ h z)) r) (λh _ r=>.tupS h r) (λh o _ r=>.lst (y _ _ o h) (λz=>o (C _ _ h z)) r) (λh o=>.dct (y _ _ o h) (λz=>o (C _ _ h z))) (λh o _ e r=>.dcK (y _ _ o h) (λz=>o (C _ _ h z)) r e) (λh o _ e r=>.dcT (y _ _ o h) (λz=>o (C _ _ h z)) r e) .hand
  (λh o=>h.elim (λh=>.scr (.inl (y _ _ o h)) λz=>o (C _ _ h z)) λh=>h.elim λu h=>.scr (.inr ⟨u,y _ _ o h⟩) λz=>o (C _ _ h z)) .scrS (λh o=>.exc (y _ _ o h) (λz=>o (C _ _ h z)))
  .nil (λ_ _ h r=>.cons h r) .nil (λ_ _ h r=>.cons h r) .nil (λ_ _ _ h k r=>.cons h k r) q
theorem Reps.ind{P:List V->qD->Prop}(n:P [] [])(c:∀{v d vs ds},Rep K hd O H v d->Reps K hd O H vs ds->P vs ds->P (v::vs) (d::ds))(q:Reps K hd O H vs ds):P vs ds:=by refine Reps.rec (motive_1:=λ_ _ _=>True) (motive_2:=λv d _=>P v d) (motive_3:=λ_ _ _=>True) (motive_4:=λ_ _ _=>True) ?_ ?_ ?_ ?_ ?_ ?_ ?_ ?_ ?_ ?_ ?_ ?_ ?_ ?_ n (λh r _ i=>c h r i) ?_ ?_ ?_ ?_ q <;> intros <;> trivial
theorem Jo.ind{P:ZT->KT2->Prop}(n:P [] [])(c:∀{k q v d vs ds},Rep K hd O H (.ref q) (.tuple [.int k.1,.int k.2])->Rep K hd O H v d->Jo K hd O H vs ds->P vs ds->P ((k,q,v)::vs) ((k,d)::ds))(q:Jo K hd O H vs ds):P vs ds:=by refine Jo.rec (motive_1:=λ_ _ _=>True) (motive_4:=λv d _=>P v d) (motive_2:=λ_ _ _=>True) (motive_3:=λ_ _ _=>True) ?_ ?_ ?_ ?_ ?_ ?_ ?_ ?_ ?_ ?_ ?_ ?_ ?_ ?_ ?_ ?_ ?_ ?_ n (λh k r _ _ i=>c h k r i) q <;> intros <;> trivial
theorem Reps.mono(v:∀a o,H a=ao o->O' a->O a)(u:∀a o,¬O a->H a=ao o->H' a=ao o)(q:Reps K hd O H vs ds):Reps K hd O' H' vs ds:=q.ind .nil λh _ r=>.cons (h.mono v u) r
theorem Jo.mono(v:∀a o,H a=ao o->O' a->O a)(u:∀a o,¬O a->H a=ao o->H' a=ao o)(q:Jo K hd O H vs ds):Jo K hd O' H' vs ds:=q.ind .nil λh k _ r=>.cons (h.mono v u) (k.mono v u) r
theorem VZ(e:(oN,v)::r=Y2 ks):False:=by
 cases ks with
 | nil=>cases e
 | cons q ks=>cases e
theorem dict_noT(e:(oN,v)::r=Jr ks):False:=by
 cases ks with
 | nil=>cases e
 | cons q ks=>cases e
theorem Reps.length(q:Reps K hd O H vs ds):vs.length=ds.length:=q.ind (P:=λa b=>a.length=b.length) rfl λ_ _ e=>congrArg (·+1) e
theorem Reps.get{i:Nat}(q:Reps K hd O H vs ds):ds[i]?=ao d->∃v,vs[i]?=ao v/\Rep K hd O H v d :=
 q.ind (P:=λvs ds=>∀(i:Nat),ds[i]?=ao d->∃v,vs[i]?=ao v/\Rep K hd O H v d) (λ_ e=>nomatch e) (λ{v _ _ _} h _ r i=>i.casesOn (λe=>⟨v,rfl,aP e▸h⟩) λi e=>r i e) i
theorem Reps.append(q:Reps K hd O H vs ds)(s:Reps K hd O H ws es):Reps K hd O H (vs++ws) (ds++es):=q.ind (P:=λa b=>Reps K hd O H (a++ws) (b++es)) s λh _ r=>.cons h r
theorem Reps.take(n:Nat)(q:Reps K hd O H vs ds):Reps K hd O H (vs.take n) (ds.take n) :=
 q.ind (P:=λvs ds=>∀n:Nat,Reps K hd O H (vs.take n) (ds.take n)) (λn=>by rw[vO,vO];exact .nil) (λh _ r n=>n.casesOn .nil λn=>.cons h (r n)) n
theorem Reps.drop(n:Nat)(q:Reps K hd O H vs ds):Reps K hd O H (vs.drop n) (ds.drop n) :=
 q.ind (P:=λvs ds=>∀n:Nat,Reps K hd O H (vs.drop n) (ds.drop n)) (λn=>by rw[vP,vP];exact .nil) (λh k r n=>n.casesOn (.cons h k) λn=>r n) n
theorem Reps.set{v d}(h:Rep K hd O H v d)(n:Nat)(q:Reps K hd O H vs ds):Reps K hd O H (vs.set n v) (ds.set n d) :=
 q.ind (P:=λvs ds=>∀n:Nat,Reps K hd O H (vs.set n v) (ds.set n d)) (λn=>.nil) (λk s r n=>n.casesOn (.cons h s) λn=>.cons k (r n)) n
theorem Rep.tupI(h:Rep K hd O H v (.tuple ds)):∃a vs,v=.ref a/\SqT K H a vs/\Reps K hd O H vs ds:=by
 cases h with
 | tup h o r=>exact⟨_,_,rfl,.inl (.inl h),r⟩
 | tupS h r=>exact⟨_,_,rfl,h.sq,r⟩
theorem Rep.lstI(h:Rep K hd O H v (.list ds)):∃a vs,v=.ref a/\H a=ao (.lst vs)/\¬O a/\Reps K hd O H vs ds:=by
 cases h with
 | lst h o r=>exact⟨_,_,rfl,h,o,r⟩
theorem Rep.intI(h:Rep K hd O H v (.int i)):v=.int i:=by cases h;rfl
theorem Rep.blI(h:Rep K hd O H v (.bool b)):v=.bl b:=by cases h;rfl
theorem Rep.strI(h:Rep K hd O H v (.str x)):v=.str x:=by cases h;rfl
theorem Rep.nonI(h:Rep K hd O H v .none):v=.non:=by cases h;rfl
theorem Rep.handI(h:Rep K hd O H v HAND):∃a,v=.ref a/\hd=ao a:=by
 generalize e:HAND=d at h;cases h with
 | hand h=>exact⟨_,rfl,h⟩
 | dct _ _=>cases e
 | dcK _ _ _ o=>cases e;exact(VZ o).elim
 | dcT _ _ _ o=>cases e;exact(dict_noT o).elim
 | scr _ _=>simp[HAND,SCR]at e
 | scrS _=>simp[HAND,SCR]at e
 | exc _ _=>simp[HAND,EXC]at e
 | _=>cases e
theorem Rep.scrI(h:Rep K hd O H v (SCR ns)):∃a,v=.ref a/\SqL K H a (ns.map V.int):=by
 generalize e:SCR ns=d at h;cases h with
 | hand h=>simp[HAND,SCR]at e
 | dct _ _=>cases e
 | dcK _ _ _ u=>cases e;exact(VZ u).elim
 | dcT _ _ _ u=>cases e;exact(dict_noT u).elim
 | @scr a ms h o =>
  have:ns=ms:=by
   have u:(ns.map cg)=ms.map cg:=by simpa[SCR] using e
   have:=congrArg (yh λx=>match x with|cg i=>i|_=>0) u;simpa[cy,g8] using this
  subst this;exact⟨_,rfl,.inl h⟩
 | @scrS a ms h =>
  have:ns=ms:=by
   have u:(ns.map cg)=ms.map cg:=by simpa[SCR] using e
   have:=congrArg (yh λx=>match x with|cg i=>i|_=>0) u;simpa[cy,g8] using this
  subst this;exact⟨_,rfl,h H⟩
 | exc _ _=>simp[SCR,EXC]at e
 | _=>cases e
end
mutual
def QE:af->Bool
 | .list _=>false
 | .tuple ts=>Zx ts
 | .dict [(.none,.none)]=>true
 | .dict _=>false
 | _=>true
def Zx:qD->Bool
 | []=>true
 | t::ts=>QE t&&Zx ts
end
section
variable{K:qF}{hd:Option aq}{O O':aq->Prop}{H:Hp}
theorem zq9(e:QE (.dict (Y2 ks))=be):False:=by cases ks <;> exact nomatch e
theorem zq8(e:QE (.dict (Jr ks))=be):False:=by cases ks <;> exact nomatch e
def MutO(o:Option HO):Prop:=(∃xs,o=ao (.lst xs))\/(∃ks,o=ao (.dK ks))\/∃u,o=ao (.ext u)
theorem Rep.up(y:∀a,O a->MutO (H a))(q:Rep K hd O' H v d):QE d=be->Rep K hd O H v d:=by
 refine Rep.rec (motive_1:=λv d _=>QE d=be->Rep K hd O H v d) (motive_2:=λv d _=>Zx d=be->Reps K hd O H v d) (motive_3:=λ_ _ _=>True) (motive_4:=λ_ _ _=>True)
  (λ_=>.non) (λb _=>.bl b) (λb _=>.int b) (λb _=>.str b) (λh _ _ r e=>.tup h (λz=>by rcases y _ z with⟨xs,q⟩|⟨xs,q⟩|⟨b,q⟩ <;> (rw[h]at q;cases q)) (r e)) (λh _ r e=>.tupS h (r e))
  (λ_ _ _ _ e=>nomatch e) (λ_ _ e=>nomatch e) (λ_ _ _ x _ e=>by subst x;exact(zq9 e).elim) (λ_ _ _ x _ e=>by subst x;exact(zq8 e).elim) (λh _=>.hand h) (λ_ _ e=>nomatch e) (λ_ e=>nomatch e) (λ_ _ e=>nomatch e)
  (λ_=>.nil) (λ_ _ h r e=>by rw[Zx,cA]at e;exact .cons (h e.1) (r e.2)) trivial ?_ trivial ?_ q <;> intros <;> trivial
end
section
variable{X:Cx}{pins:qO}{σ:St}{H:Hp}{s:av}{hd:Option aq}{O:aq->Prop}
theorem Rep.reads(I:Inv X pins σ H s){u:ah}(q:Rep X.K hd O H v d):RelV v u->d.hasDict=bj->∃C,Reads s.heap u d C:=by
 refine Rep.rec (motive_1:=λv d _=>∀u,RelV v u->d.hasDict=bj->∃C,Reads s.heap u d C) (motive_2:=λv d _=>∀u,Vals v u->g9 d=bj->∃C,yi s.heap u d C) (motive_3:=λ_ _ _=>True) (motive_4:=λ_ _ _=>True)
  (λ_ r _=>by cases r;exact⟨_,.none⟩) (λb _ r _=>by cases r;exact⟨_,.bool b⟩) (λi _ r _=>by obtain⟨t,rfl⟩:=r;exact⟨_,.int i t⟩) (λx _ r _=>by obtain⟨t,rfl⟩:=r;exact⟨_,.str x t⟩)
  (λ{_ vs _} h _ _ q _ r e=>?_) (λ{_ vs _} h _ q _ r e=>?_) (λ{_ vs _} h _ _ q _ r e=>?_) (λ_ _ _ _ e=>by simp[dz]at e) (λ_ _ _ _ _ _ _ e=>by simp[dz]at e) (λ_ _ _ _ _ _ _ e=>by simp[dz]at e)
  (λ_ _ _ e=>by simp[HAND,dz]at e) (λ_ _ _ _ e=>by simp[SCR,dz]at e) (λ_ _ _ e=>by simp[SCR,dz]at e) (λ_ _ _ _ e=>by simp[EXC,dz]at e)
  (λ_ r _=>by cases r;exact⟨_,.nil⟩) (λ_ _ h q _ r e=>?_) trivial (by intros;trivial) trivial (by intros;trivial) q u
 cases r;obtain⟨its,J,p,_⟩:=I.tuple (xs:=vs) (.inl (.inl h));obtain⟨o,L,hc,n,y⟩:=p;obtain⟨C,G⟩:=q _ J (by simpa[dz] using e);exact⟨_,.tuple L hc y (by simpa using G)⟩;cases r;obtain⟨its,J,p,_⟩:=I.tuple (xs:=vs) h.sq;obtain⟨o,L,hc,n,y⟩:=p;obtain⟨C,G⟩:=q _ J (by simpa[dz] using e);exact⟨_,.tuple L hc y (by simpa using G)⟩;cases r;obtain⟨its,J,p,_⟩:=I.list (xs:=vs) (.inl (.inl h));obtain⟨o,n,L,hc,_,y⟩:=p;obtain⟨C,G⟩:=q _ J (by simpa[dz] using e);exact⟨_,.list L hc y (by simpa using G)⟩;cases r with
 | cons S N =>rw[g9,oO]at e;obtain⟨C,G⟩:=h _ S e.1;obtain⟨bs,R⟩:=q _ N e.2;exact⟨_,.cons G R⟩
theorem Reps.reads(I:Inv X pins σ H s){u:List ah}(q:Reps X.K hd O H vs ds):Vals vs u->g9 ds=bj->∃v,yi s.heap u ds v :=
 q.ind (P:=λvs ds=>∀u,Vals vs u->g9 ds=bj->∃v,yi s.heap u ds v) (λ_ r _=>by cases r;exact⟨_,.nil⟩) (λh _ q _ r e=>by
  cases r with
  | cons C y =>rw[g9,oO]at e;obtain⟨v,G⟩:=h.reads I C e.1;obtain⟨bs,x⟩:=q _ y e.2;exact⟨_,.cons G x⟩) u
end
inductive Cell where
 | val (d:af)
 | own (ds:qD)
 | dct (ks:List (Key×af))
 | rdo (ks:List (Key×af))
 | dtt (ks:KT2)
def Cell.mine:Cell->Bool
 | .val _=>false
 | .own _=>true
 | .dct _=>true
 | .rdo _=>false
 | .dtt _=>true
def UC(K:qF)(hd:Option aq)(O:aq->Prop)(H:Hp)(l:List (Key×V))(ks:List (Key×af)):Prop:=bT (λ(p:Key×V) (q:Key×af)=>p.1=q.1/\Rep K hd O H p.2 q.2) l ks
theorem UC.mono{K:qF}{hd:Option aq}{O u:aq->Prop}{H H':Hp}(x:∀a o,H a=ao o->u a->O a)(v:∀a o,¬O a->H a=ao o->H' a=ao o){l:List (Key×V)}{ks:List (Key×af)}(r:UC K hd O H l ks):UC K hd u H' l ks :=
 Paired.mapP r λ_ _ z=>⟨z.1,z.2.mono x v⟩
abbrev En:=List (Option Cell)
structure Ctx where
 hd:Option aq
 ext:aq->Prop
def OwnS(l:En)(σ:St)(a:aq):Prop:=∃(i:Nat) (c:Cell),c.mine=be/\l[i]?=ao (ao c)/\σ[i]?=ao (ao (V.ref a))
def Own(C:Ctx)(l:En)(σ:St)(a:aq):Prop:=C.ext a\/OwnS l σ a
mutual
def papD:af->Bool
 | .tuple ts=>decide (ts.length<=1000000)&&ztn ts
 | .str x=>decide (x.length<=1000000)
 | .int _=>true
 | .none=>true
 | .bool _=>true
 | _=>false
def ztn:qD->Bool
 | []=>true
 | t::ts=>papD t&&ztn ts
end
def pap(t:af):Bool:=papD t&&t.canLay0&&decide (t.depth<=40)
def QH(K:qF)(H:Hp)(a:aq)(m:Nat):Prop:=∃(vs:List V) (ts:qD),H a=ao (.lst vs)/\vs.length<=m/\Reps K bc (λb=>MutO (H b)) H vs ts/\∀t∈ts,pap t=true
def Hn(K:qF)(hd:Option aq)(H:Hp)(n:Nat):Prop:=∀a,hd=ao a->(Zj H a n/\n<10000000000000)\/(10000000000000<=n/\QH K H a (n - 10000000000000))
theorem Hn.lst{K:qF}{hd:Option aq}{H:Hp}{n:Nat}{a:aq}(h:Hn K hd H n)(e:hd=ao a):∃vs,H a=ao (.lst vs):=by rcases h a e with⟨⟨_,_,_,q,_⟩,_⟩|⟨_,_,_,q,_⟩;exact⟨_,q⟩;exact⟨_,q⟩
theorem QH.to{K:qF}{H H':Hp}{a:aq}{w:Nat}(h:QH K H a w)(u:H' a=H a)(k:∀b o,¬MutO (H b)->H b=ao o->H' b=ao o)(m:∀b o,H b=ao o->MutO (H' b)->MutO (H b)):QH K H' a w:=by obtain⟨vs,ts,q,l,r,p⟩:=h;exact⟨vs,ts,u.trans q,l,r.mono m k,p⟩
theorem QH.upd{K:qF}{H:Hp}{a p:aq}{o:HO}{m:Nat}(h:QH K H a m)(ne:a≠p)(l:MutO (H p)):QH K (upd H p o) a m:=by refine h.to (Jl ne) (λb u nb e=>?_) λb u e z=>?_;rw[Jl (show b≠p from λz=>nb (by rw[z];exact l))];exact e;by_cases y:b=p;rw[y];exact l;rw[Jl y]at z;exact z
theorem QH.same{K:qF}{H H':Hp}{a:aq}{m:Nat}(h:QH K H a m)(s:∀b o,H b=ao o->H' b=ao o):QH K H' a m:=by obtain⟨vs,ts,q,l,r,p⟩:=id h;exact h.to (by rw[q];exact s _ _ q) (λb o _ e=>s b o e) λb o e z=>by rw[s b o e]at z;rw[e];exact z
structure Stt(K:qF)(C:Ctx)(ρ:En)(σ:St)(H:Hp)(n:Nat):Prop where
 len:ρ.length=σ.length
 val:∀(i:Nat) (d:af),ρ[i]?=ao (ao (Cell.val d))->∃v,σ[i]?=ao (ao v)/\Rep K C.hd (Own C ρ σ) H v d
 own:∀(i:Nat) (ds:qD),ρ[i]?=ao (ao (Cell.own ds))->∃a vs,σ[i]?=ao (ao (V.ref a))/\H a=ao (.lst vs)/\Reps K C.hd (Own C ρ σ) H vs ds/\¬C.ext a
 dct:∀(i:Nat) (ks:List (Key×af)),ρ[i]?=ao (ao (Cell.dct ks))->∃a kvs,σ[i]?=ao (ao (V.ref a))/\H a=ao (.dK kvs)/\UC K C.hd (Own C ρ σ) H kvs ks/\¬C.ext a
 rdo:∀(i:Nat) (ks:List (Key×af)),ρ[i]?=ao (ao (Cell.rdo ks))->∃a kvs,σ[i]?=ao (ao (V.ref a))/\H a=ao (.dK kvs)/\UC K C.hd (Own C ρ σ) H kvs ks/\C.ext a/\C.hd≠ao a
 dtt:∀(i:Nat) (ks:KT2),ρ[i]?=ao (ao (Cell.dtt ks))->∃a zs ep,σ[i]?=ao (ao (V.ref a))/\H a=ao (ZDO a zs ep)/\Jo K C.hd (Own C ρ σ) H zs ks/\¬C.ext a
 dif:∀(i j:Nat) (c e:Cell) (a:aq),c.mine=be->e.mine=be->ρ[i]?=ao (ao c)->ρ[j]?=ao (ao e)->σ[i]?=ao (ao (V.ref a))->σ[j]?=ao (ao (V.ref a))->i=j
 hnd:Hn K C.hd H n
 ext:∀a,C.ext a->MutO (H a)
 hx:∀a,C.hd=ao a->C.ext a
def ExtE(hd:Option aq)(H H':Hp):Prop:=∀a o,H a=ao o->hd≠ao a->H' a=ao o
theorem ExtE.refl:ExtE hd H H:=λ_ _ h _=>h
theorem ExtE.trans(a:ExtE hd H H1)(b:ExtE hd H1 H2):ExtE hd H H2:=λc o h n=>b c o (a c o h n) n
theorem ExtE.new(h:H p=bc):ExtE hd H (upd H p o):=λb u e _=>by rw[Jl (Qi e h)];exact e
section
variable{K:qF}{C:Ctx}{ρ:En}{σ:St}{H H':Hp}{n n':Nat}
theorem MutO.ne(h:MutO o):o≠bc:=by rcases h with⟨_,rfl⟩|⟨_,rfl⟩|⟨_,rfl⟩ <;> exact λz=>by cases z
theorem Stt.at(S:Stt K C ρ σ H n){i:Nat}{c:Cell}(m:c.mine=be)(x:ρ[i]?=ao (ao c)):∃a:aq,σ[i]?=ao (ao (V.ref a))/\MutO (H a)/\¬C.ext a:=by
 cases c with
 | val d=>cases m
 | own ds =>obtain⟨a,vs,u,v,_,o⟩:=S.own i ds x;exact⟨a,u,.inl ⟨_,v⟩,o⟩
 | dct ks =>obtain⟨a,vs,u,v,_,o⟩:=S.dct i ks x;exact⟨a,u,.inr (.inl ⟨_,v⟩),o⟩
 | rdo ks=>cases m
 | dtt ks =>obtain⟨a,vs,ep,u,v,_,o⟩:=S.dtt i ks x;exact⟨a,u,.inr (.inr ⟨_,v⟩),o⟩
theorem Stt.lst(S:Stt K C ρ σ H n){a:aq}(h:Own C ρ σ a):MutO (H a):=by rcases h with h|⟨i,c,m,o,u⟩;exact S.ext a h;obtain⟨b,l,v,_⟩:=S.at m o;rw[u]at l;cases l;exact v
theorem Stt.dom(S:Stt K C ρ σ H n)(h:Own C ρ σ a):H a≠bc:=(S.lst h).ne
theorem Stt.free(S:Stt K C ρ σ H n)(h:H a=bc):¬Own C ρ σ a:=λz=>S.dom z h
theorem ExtE.rep(e:ExtE C.hd H H')(hx:∀a,C.hd=ao a->C.ext a){v d}(r:Rep K C.hd (Own C ρ σ) H v d):Rep K C.hd (Own C ρ σ) H' v d :=
 r.mono (λ_ _ _ z=>z) λa o no h=>e a o h λz=>no (.inl (hx a z))
theorem ExtE.reps(e:ExtE C.hd H H')(hx:∀a,C.hd=ao a->C.ext a){v d}(r:Reps K C.hd (Own C ρ σ) H v d):Reps K C.hd (Own C ρ σ) H' v d :=
 r.mono (λ_ _ _ z=>z) λa o no h=>e a o h λz=>no (.inl (hx a z))
theorem Stt.onX(S:Stt K C ρ σ H n)(k:∀a o,H a=ao o->¬C.ext a->H' a=ao o)(J:∀a,C.ext a->MutO (H' a))(N:∀a ks,H a=ao (.dK ks)->C.ext a->C.hd≠ao a->H' a=ao (.dK ks))(L:Hn K C.hd H' n'):Stt K C ρ σ H' n' where
 len:=S.len
 val:=λi d hi=>by obtain⟨v,x,y⟩:=S.val i d hi;exact⟨v,x,y.mono (λ_ _ _ z=>z) λa o no h=>k a o h λz=>no (.inl z)⟩
 own:=λi ds hi=>by obtain⟨a,vs,x,y,G,u⟩:=S.own i ds hi;exact⟨a,vs,x,k a _ y u,G.mono (λ_ _ _ z=>z) (λa o no h=>k a o h λz=>no (.inl z)),u⟩
 dct:=λi ds hi=>by obtain⟨a,vs,x,y,G,u⟩:=S.dct i ds hi;exact⟨a,vs,x,k a _ y u,G.mono (λ_ _ _ z=>z) (λa o no h=>k a o h λz=>no (.inl z)),u⟩
 rdo:=λi ds hi=>by obtain⟨a,vs,x,y,G,u,I⟩:=S.rdo i ds hi;exact⟨a,vs,x,N a _ y u I,G.mono (λ_ _ _ z=>z) (λa o no h=>k a o h λz=>no (.inl z)),u,I⟩
 dtt:=λi ds hi=>by obtain⟨a,vs,ep,x,y,G,u⟩:=S.dtt i ds hi;exact⟨a,vs,ep,x,k a _ y u,G.mono (λ_ _ _ z=>z) (λa o no h=>k a o h λz=>no (.inl z)),u⟩
 dif:=S.dif
 hnd:=L
 ext:=J
 hx:=S.hx
theorem Stt.mut(S:Stt K C ρ σ H n){a:aq}(v:C.ext a)(h:Hn K C.hd H' n')(e:∀o,H a=ao o->C.hd≠ao a->H' a=ao o):MutO (H' a):=by by_cases z:C.hd=ao a;exact .inl (h.lst z);have q:=S.ext a v;obtain⟨o,u⟩:=Option.ne_none_iff_exists'.mp q.ne;rw[e o u z,<- u];exact q
theorem Stt.on(S:Stt K C ρ σ H n)(e:ExtE C.hd H H')(h:Hn K C.hd H' n'):Stt K C ρ σ H' n' :=
 S.onX (λa o l no=>e a o l λz=>no (S.hx a z)) (λa l=>S.mut l h (e a)) (λa ks l _ u=>e a _ l u) h
end
abbrev DTE:=En->Nat->qN->Prop
abbrev DTT:=En->Nat->(Bool->Nat->Prop)->Prop
abbrev DTA:=En->Nat->(qD->Nat->Prop)->Prop
def DE(X:Cx)(e:a8)(d:DTE):Prop:=∃o,PE X e o/\∀(C:Ctx) (l:En) (σ:St) (H:Hp) (n:Nat) (Q:VK) (R:qN),Stt X.K C l σ H n->d l n R ->
 (∀t u v H',R t u->ExtE C.hd H H'->Hn X.K C.hd H' u->Rep X.K C.hd (Own C l σ) H' v t->Q v H')->o σ H Q
def RepT(K:qF)(hd:Option aq)(O:aq->Prop)(H:Hp)(v:V)(t:af):Prop :=
 Rep K hd O H v t\/(∃a vs ds,v=.ref a/\t=.list ds/\H a=ao (.lst vs)/\Reps K hd O H vs ds/\hd≠ao a)\/∃a zs ep ks,v=.ref a/\t=.dict (Jr ks)/\H a=ao (ZDO a zs ep)/\Jo K hd O H zs ks/\hd≠ao a
def DL(X:Cx)(e:a8)(d:DTE):Prop:=∃o,PE X e o/\∀(C:Ctx) (l:En) (σ:St) (H:Hp) (n:Nat) (Q:VK) (R:qN),Stt X.K C l σ H n->d l n R ->
 (∀t u v H',R t u->ExtE C.hd H H'->Hn X.K C.hd H' u->RepT X.K C.hd (Own C l σ) H' v t->Q v H')->o σ H Q
def DN(X:Cx)(e:a8)(d:DTA):Prop:=∃u,PE X e u/\∀(C:Ctx) (o:En) (σ:St) (H:Hp) (n:Nat) (Q:VK) (R:qD->Nat->Prop),Stt X.K C o σ H n->d o n R ->
 (∀ts v p vs H',R ts v->ExtE C.hd H H'->Hn X.K C.hd H' v->H p=bc->H' p=ao (.lst vs)->Reps X.K C.hd (λa=>Own C o σ a\/a=p) H' vs ts->Q (.ref p) H')->u σ H Q
def DT(X:Cx)(e:a8)(d:DTT):Prop:=∃l,PT X e l/\∀(C:Ctx) (u:En) (σ:St) (H:Hp) (n:Nat) (Q:Bool->Hp->Prop) (R:Bool->Nat->Prop),Stt X.K C u σ H n->d u n R ->
 (∀b o H',R b o->ExtE C.hd H H'->Hn X.K C.hd H' o->Q b H')->l σ H Q
def DW(X:Cx)(e:a8)(d:DTT):Prop:=∃l,PW X e l/\∀(C:Ctx) (u:En) (σ:St) (H:Hp) (n:Nat) (Q:Bool->Hp->Prop) (R:Bool->Nat->Prop),Stt X.K C u σ H n->d u n R ->
 (∀b o H',R b o->ExtE C.hd H H'->Hn X.K C.hd H' o->Q b H')->l σ H Q
def DB(X:Cx)(es:List a8)(d:DTA):Prop:=∃o,PB X es o/\∀(C:Ctx) (l:En) (σ:St) (H:Hp) (n:Nat) (Q:List V->Hp->Prop) (R:qD->Nat->Prop),Stt X.K C l σ H n->d l n R ->
 (∀ts u vs H',R ts u->ExtE C.hd H H'->Hn X.K C.hd H' u->Reps X.K C.hd (Own C l σ) H' vs ts->ts.length=es.length->Q vs H')->o σ H Q
section
variable{X:Cx}{e a b c:a8}{es:List a8}{d da db dc:DTE}{pos:Pos}
theorem dl(h:DE X e d):DL X e d:=by obtain⟨u,p,h⟩:=h;exact⟨u,p,λC I σ H n Q R S hd o=>h C I σ H n Q R S hd λt x v H' r e y G=>o t x v H' r e y (.inl G)⟩
def dNew(d:DTA):DTE:=λu n R=>d u n λts o=>R (.list ts) o
theorem JT{d:DTA}(h:DN X e d):DE X e (dNew d):=by obtain⟨u,p,h⟩:=h;refine⟨u,p,λC J σ H n Q R S hd o=>h C J σ H n Q _ S hd λts v p vs H' r e G I y x=>o _ v _ H' r e G (.lst y (S.free I) (x.mono (λ_ _ _ z=>.inl z) λ_ _ _ z=>z))⟩
def dVar(i:Nat):DTE:=λl n R=>match l[i]? with|some (ao (Cell.val d))=>R d n|_=>False
def dOwn(i:Nat):DTE:=λo n R=>match o[i]? with|some (ao (Cell.own d))=>R (.list d) n|_=>False
def dC(t:af):DTE:=λ_ n R=>R t n
theorem Jh(i:Nat)(y:X.N[i]?=ao x:=by rfl)(u:Vis X.env.scope x:=by walk_at "V")(hd:Ndb x:=by rfl)
  (l:Ncd x:=by rfl):DE X (.Name x pos) (dVar i):=by
 refine⟨_,Qq y u hd l,λC J σ H n Q R S h o=>?_⟩;unfold dVar at h;split at h;rename_i d e;obtain⟨v,G,I⟩:=S.val i d e;exact⟨v,G,o d n v H h ExtE.refl S.hnd I⟩;exact h.elim
theorem Uj(i:Nat)(G:X.N[i]?=ao x:=by rfl)(v:Vis X.env.scope x:=by walk_at "V")(hd:Ndb x:=by rfl)
  (o:Ncd x:=by rfl):DL X (.Name x pos) (dOwn i):=by
 refine⟨_,Qq G v hd o,λC U σ H n Q R S h u=>?_⟩;unfold dOwn at h;split at h;rename_i ds e;obtain⟨p,vs,J,L,I,y⟩:=S.own i ds e;exact⟨.ref p,J,u _ n _ H h ExtE.refl S.hnd (.inr (.inl ⟨p,vs,ds,rfl,rfl,L,I,λz=>y (S.hx p z)⟩))⟩;exact h.elim
def Vn(i:Nat):DTE:=λl n R=>match l[i]? with|some (ao (Cell.dtt ks))=>R (.dict (Jr ks)) n|_=>False
theorem zi6(i:Nat)(y:X.N[i]?=ao x:=by rfl)(u:Vis X.env.scope x:=by walk_at "V")(hd:Ndb x:=by rfl)
  (l:Ncd x:=by rfl):DL X (.Name x pos) (Vn i):=by
 refine⟨_,Qq y u hd l,λC L σ H n Q R S h o=>?_⟩;unfold Vn at h;split at h;rename_i ks e;obtain⟨p,zs,ep,I,J,G,v⟩:=S.dtt i ks e;exact⟨.ref p,I,o _ n _ H h ExtE.refl S.hnd (.inr (.inr ⟨p,zs,ep,ks,rfl,rfl,J,G,λz=>v (S.hx p z)⟩))⟩;exact h.elim
theorem Jg{i j pos}:DE X (.Constant (.int i) j pos) (dC (.int i)):=⟨_,JA,λ_ _ _ H n _ _ S h l=>l _ n _ H h ExtE.refl S.hnd (.int i)⟩
theorem UX{b j pos}:DE X (.Constant (.bool b) j pos) (dC (.bool b)):=⟨_,zwx,λ_ _ _ H n _ _ S h u=>u _ n _ H h ExtE.refl S.hnd (.bl b)⟩
theorem Ui{j pos}:DE X (.Constant .none j pos) (dC .none):=⟨_,ztg,λ_ _ _ H n _ _ S h l=>l _ n _ H h ExtE.refl S.hnd .non⟩
theorem QJ{x j pos}:DE X (.Constant (.str x) j pos) (dC (.str x)):=⟨_,zte,λ_ _ _ H n _ _ S h l=>l _ n _ H h ExtE.refl S.hnd (.str x)⟩
end
section
variable{K:qF}{hd:Option aq}{O:aq->Prop}{H H':Hp}{v:V}{t:af}{n:Nat}
theorem Same.ext(h:Same H H'):ExtE hd H H':=λa o e _=>h a o e
theorem Hn.same(h:Hn K hd H n)(s:Same H H'):Hn K hd H' n:=λa e=>by rcases h a e with⟨⟨d,m,t,q,r⟩,l⟩|⟨l,p⟩;exact .inl ⟨⟨d,m,t,s _ _ q,r⟩,l⟩;exact .inr ⟨l,p.same s⟩
theorem Reps.same{vs ts}(s:Same H H')(r:Reps K hd O H vs ts):Reps K hd O H' vs ts:=r.mono (λ_ _ _ z=>z) λa o _ h=>s a o h
theorem ExtE.repT(e:ExtE C.hd H H')(hx:∀a,C.hd=ao a->C.ext a)(r:RepT K C.hd (Own C ρ σ) H v t):RepT K C.hd (Own C ρ σ) H' v t:=by rcases r with r|⟨a,vs,ds,G,I,y,x,u⟩|⟨a,zs,ep,ks,G,I,y,x,u⟩;exact .inl (e.rep hx r);exact .inr (.inl ⟨a,vs,ds,G,I,e _ _ y u,e.reps hx x,u⟩);exact .inr (.inr ⟨a,zs,ep,ks,G,I,e _ _ y u,x.mono (λ_ _ _ z=>z) (λa o no h=>e a o h λz=>no (.inl (hx a z))),u⟩)
theorem RepT.lstI{ds}(h:RepT K hd O H v (.list ds)):∃a vs,v=.ref a/\H a=ao (.lst vs)/\Reps K hd O H vs ds:=by rcases h with h|⟨a,vs,es,u,o,x,y,_⟩|⟨a,vs,ep,es,u,o,x,y,_⟩;obtain⟨a,vs,u,o,_,x⟩:=h.lstI;exact⟨a,vs,u,o,x⟩;cases o;exact⟨a,vs,u,x,y⟩;cases o
theorem RepT.tupI{ds}(h:RepT K hd O H v (.tuple ds)):∃a vs,v=.ref a/\SqT K H a vs/\Reps K hd O H vs ds:=by rcases h with h|⟨a,vs,es,x,o,C,y,_⟩|⟨a,vs,ep,es,x,o,C,y,_⟩;exact h.tupI;cases o;cases o
theorem RepT.rep(h:RepT K hd O H v t)(nl:∀ds,t≠.list ds)(nd:∀ks,t≠.dict (Jr ks):=by intro ks z;first|cases z|exact dict_noT (eV z)):Rep K hd O H v t:=by rcases h with h|⟨a,vs,es,u,o,y,x,_⟩|⟨a,vs,ep,es,u,o,y,x,_⟩;exact h;exact absurd o (nl es);exact absurd o (nd es)
theorem RepT.intI{i}(h:RepT K hd O H v (.int i)):v=.int i:=(h.rep (by intro _ z;cases z)).intI
theorem RepT.blI{i}(h:RepT K hd O H v (.bool i)):v=.bl i:=(h.rep (by intro _ z;cases z)).blI
theorem RepT.strI{i}(h:RepT K hd O H v (.str i)):v=.str i:=(h.rep (by intro _ z;cases z)).strI
theorem RepT.nonI(h:RepT K hd O H v .none):v=.non:=(h.rep (by intro _ z;cases z)).nonI
theorem Rep.newT{vs ts}(no:¬O p)(h:H p=bc)(r:Reps K hd O H vs ts):Rep K hd O (upd H p (.tup vs)) (.ref p) (.tuple ts) :=
 .tup JJ no (r.same (λb u e=>by rw[Jl (Qi e h)];exact e))
end
theorem JR(h:H p=bc):Same H (upd H p o):=λb u e=>by rw[Jl (Qi e h)];exact e
abbrev G2:=af->af->(af->Prop)->Prop
def dOp(g:G2)(o db:DTE):DTE:=λl n R=>o l n λx u=>db l u λy v=>g x y λz=>R z v
def Gp2(X:Cx)(r:R2)(g:G2):Prop:=∀(hd:Option aq) (O:aq->Prop) (H:Hp) (x y:V) (t u:af) (Q:VK) (R:af->Prop),(∀p,O p->H p≠bc)->RepT X.K hd O H x t->RepT X.K hd O H y u->g t u R ->
 (∀z v H',R z->Same H H'->Rep X.K hd O H' v z->Q v H')->r x y H Q
section
variable{X:Cx}{a b c:a8}{da db dc:DTE}{pos:Pos}{r r':R2}{g g':G2}
theorem two{C:Ctx}{l:En}{σ:St}{H:Hp}{n:Nat}{Y tb:TE}(ha:∀(C:Ctx) (l:En) (σ:St) (H:Hp) (n:Nat) (Q:VK) (R:qN),Stt X.K C l σ H n->da l n R ->
  (∀t I v H',R t I->ExtE C.hd H H'->Hn X.K C.hd H' I->RepT X.K C.hd (Own C l σ) H' v t->Q v H')->Y σ H Q)
  (hb:∀(C:Ctx) (l:En) (σ:St) (H:Hp) (n:Nat) (Q:VK) (R:qN),Stt X.K C l σ H n->db l n R ->
  (∀t I v H',R t I->ExtE C.hd H H'->Hn X.K C.hd H' I->RepT X.K C.hd (Own C l σ) H' v t->Q v H')->tb σ H Q)
  {U:V->V->Hp->Prop} {R2:af->qN} (S:Stt X.K C l σ H n) (h:da l n λx L=>db l L λy G=>R2 x y G)
  (hq:∀x y G v w o,R2 x y G->ExtE C.hd H o->Stt X.K C l σ o G->RepT X.K C.hd (Own C l σ) o v x->RepT X.K C.hd (Own C l σ) o w y->U v w o) :
  Y σ H λv J=>tb σ J λw o=>U v w o:=by
 refine ha C l σ H n _ _ S h λt L v J r1 e1 h1 q1=>?_;have Z:=S.on e1 h1;refine hb C l σ J L _ _ Z r1 λu G w o r2 N h2 q2=>?_;exact hq t u G v w o r2 (e1.trans N) (Z.on N h2) (N.repT S.hx q1) q2
theorem QN{op:t7}(Z:OpR X (binaryOp op) r)(hg:Gp2 X r g)(l:DL X a da)(o:DL X b db):DE X (.BinOp a op b pos) (dOp g da db):=by obtain⟨ta,pa,l⟩:=l;obtain⟨tb,J,o⟩:=o;refine⟨_,JC Z pa J,λC ρ σ H n Q R S h L=>?_⟩;refine two l o S h λx y Y v w H2 U e G N q2=>?_;exact hg C.hd (Own C ρ σ) H2 v w x y Q _ (λp=>G.dom) N q2 U λz u H' rz I rp=>L z Y u H' rz (e.trans I.ext) (G.hnd.same I) rp
theorem QX{op:x6}(ho:OpR X (compareOp op) r)(hg:Gp2 X r g)(l:DL X a da)(G:DL X b db)(Z:behindInMarks op b=bj):DE X (.Compare a [op] [b] pos) (dOp g da db):=by obtain⟨ta,pa,l⟩:=l;obtain⟨tb,L,G⟩:=G;refine⟨_,zmp ho pa L Z,λC ρ σ H n Q R S h N=>?_⟩;refine two l G S h λx y n2 v w H2 Y e I U q2=>?_;exact hg C.hd (Own C ρ σ) H2 v w x y Q _ (λp=>I.dom) U q2 Y λz u H' rz J rp=>N z n2 u H' rz (e.trans J.ext) (I.hnd.same J) rp
def UW(d:DTE):DTT:=λv n R=>d v n λt u=>match t with|.bool k=>R k u|_=>False
theorem Jn{op:x6}(ho:OpR X (compareOp op) r)(hg:Gp2 X r g)(l:DL X a da)(G:DL X b db)(hm:behindInMarks op b=bj):DT X (.Compare a [op] [b] pos) (UW (dOp g da db)):=by
 obtain⟨ta,pa,l⟩:=l;obtain⟨tb,N,G⟩:=G;refine⟨_,ziF ho pa N hm,λC ρ σ H n Q R S h U=>?_⟩;refine two l G S h λx y n2 v w H2 Z e I Y q2=>?_;refine hg C.hd (Own C ρ σ) H2 v w x y _ _ (λp=>I.dom) Y q2 Z λz u H' L J rp=>?_;cases z with
 | bool k =>cases rp;exact⟨k,rfl,U k n2 H' L (e.trans J.ext) (I.hnd.same J)⟩
 | _=>exact L.elim
def Zm(g g':G2)(da db dc:DTE):DTE:=λu n R=>da u n λx G=>db u G λy v=>g x y λz=>match z with
 | .bool be=>dc u v λw C=>g' y w λz=>R z C
 | .bool bj=>R (.bool bj) v
 | _=>False
def gI(C:Int->Int->Prop)(f:Int->Int->Int):G2
 | .int i,.int j,R=>C i j/\R (.int (f i j))
 | _,_,_=>False
def gB(f:Int->Int->Bool):G2
 | .int i,.int j,R=>R (.bool (f i j))
 | _,_,_=>False
theorem gp_I:Gp2 X (rI C λi j=>.int (f i j)) (gI C f):=by intro hd O H x y t u Q R dom o v h l;unfold gI at h;split at h;rename_i i j;exact⟨i,j,o.intI,v.intI,h.1,l _ _ H h.2 (Same.refl H) (.int _)⟩;exact h.elim
def gI0(f:Int->Int->Int):G2
 | .int i,.int j,R=>R (.int (f i j))
 | _,_,_=>False
theorem zrF:Gp2 X (rI0 λi j=>.int (f i j)) (gI0 f):=by intro hd O H x y t u Q R dom o v h l;unfold gI0 at h;split at h;rename_i i j;exact⟨i,j,o.intI,v.intI,l _ _ H h (Same.refl H) (.int _)⟩;exact h.elim
theorem gp_B:Gp2 X (rI0 λi j=>.bl (f i j)) (gB f):=by intro hd O H x y t u Q R dom v C h o;unfold gB at h;split at h;rename_i i j;exact⟨i,j,v.intI,C.intI,o _ _ H h (Same.refl H) (.bl _)⟩;exact h.elim
end
section
variable{X:Cx}{a b c:a8}{da db dc:DTE}{pos:Pos}
def oSub:=gI0 λi j=>i - j
def oMod:=gI (λ_ j=>0<j) λi j=>i % j
def Uf:=gI Y0 λi j=>i / j
def oShl:=gI CPow λi j=>i*2 ^ j.toNat
def oShr:=gI (λ_ j=>0<=j) λi j=>i / 2 ^ j.toNat
def oXor:=gI0 dh
def oAnd:=gI0 fJ
theorem J0(l:DL X a da)(o:DL X b db):DE X (.BinOp a .Sub b pos) (dOp oSub da db):=QN ztp zrF l o
theorem zqa(l:DL X a da)(u:DL X b db):DE X (.BinOp a .Mod b pos) (dOp oMod da db):=QN UJ gp_I l u
theorem zi8(u:DL X a da)(x:DL X b db):DE X (.BinOp a .FloorDiv b pos) (dOp Uf da db):=QN V7 gp_I u x
theorem J6(l:DL X a da)(o:DL X b db):DE X (.BinOp a .LShift b pos) (dOp oShl da db):=QN ztr gp_I l o
theorem zp9(l:DL X a da)(o:DL X b db):DE X (.BinOp a .RShift b pos) (dOp oShr da db):=QN ztq gp_I l o
theorem zp8(l:DL X a da)(u:DL X b db):DE X (.BinOp a .BitXor b pos) (dOp oXor da db):=QN zto zrF l u
theorem zqc(l:DL X a da)(o:DL X b db):DE X (.BinOp a .BitAnd b pos) (dOp oAnd da db):=QN ztz zrF l o
end
section
variable{X:Cx}{pins:qO}{σ:St}{H:Hp}{s:av}{hd:Option aq}{O:aq->Prop}
theorem RepT.reads(I:Inv X pins σ H s)(h:RepT X.K hd O H v d)(r:RelV v u)(e:d.hasDict=bj):∃y,Reads s.heap u d y:=by
 rcases h with h|⟨a,vs,ds,rfl,rfl,G,C,_⟩|⟨a,zs,ep,ks,rfl,rfl,G,C,_⟩
 rotate_left 2
 simp[dz]at e;exact h.reads I r e;cases r;obtain⟨its,J,p,_⟩:=I.list (xs:=vs) (.inl (.inl G));obtain⟨o,n,L,hc,_,x⟩:=p;obtain⟨y,N⟩:=Reps.reads I C J (by simpa[dz] using e);exact⟨_,.list L hc x (by simpa using N)⟩
end
def Okd(t:af):Prop:=t.canLay0=be/\t.depth<=60
section
variable{X:Cx}{a b c:a8}{da db dc:DTE}{pos:Pos}{k:Nat}
def rEqD(K:qF)(neg:Bool):R2:=λx y H Q=>∃hd O t u,RepT K hd O H x t/\RepT K hd O H y u/\Okd t/\Okd u/\Q (.bl (if neg then !t.eqv u else t.eqv u)) H
theorem zty(G:Room k X.A):OpR X (compareOp .Eq) (rEqD X.K bj):=by intro pins s σ H x y v u Q I L R h;obtain⟨hd,O,t,w,S,U,o,C,q⟩:=h;obtain⟨Y,N⟩:=S.reads I L (cP _ o.1);obtain⟨bs,J⟩:=U.reads I R (cP _ C.1);refine SeqAt.compareEq_reads N J o.1 C.1 ?_ ⟨.bl _,H,I,rfl,q⟩;have:=G.un;have:=o.2;omega
theorem ztt(J:Room k X.A):OpR X (compareOp .NotEq) (rEqD X.K be):=by intro pins s σ H x y v u Q I R U h;obtain⟨hd,O,t,w,Y,Z,C,G,q⟩:=h;obtain⟨as,S⟩:=Y.reads I R (cP _ C.1);obtain⟨bs,L⟩:=Z.reads I U (cP _ G.1);refine SeqAt.compareNe_reads S L C.1 G.1 ?_ ⟨.bl _,H,I,rfl,q⟩;have:=J.un;have:=C.2;omega
def oEq:G2
 | .int i,.int j,R=>R (.bool (decide (i=j)))
 | .str i,.str j,R=>R (.bool (decide (i=j)))
 | .bool i,.bool j,R=>R (.bool (decide (i=j)))
 | t,u,R=>Okd t/\Okd u/\R (.bool (t.eqv u))
def oNe:G2
 | .int i,.int j,R=>R (.bool (!decide (i=j)))
 | .str i,.str j,R=>R (.bool (!decide (i=j)))
 | .bool i,.bool j,R=>R (.bool (!decide (i=j)))
 | t,u,R=>Okd t/\Okd u/\R (.bool (!t.eqv u))
def rEqA(K:qF):R2:=λx y H Q=>rEq x y H Q\/rEqD K bj x y H Q
def rNeA(K:qF):R2:=λx y H Q=>rNe x y H Q\/rEqD K be x y H Q
theorem Zz(l:Room k X.A):OpR X (compareOp .Eq) (rEqA X.K):=OpR.or zwB (zty l)
theorem Qp(l:Room k X.A):OpR X (compareOp .NotEq) (rNeA X.K):=OpR.or zwz (ztt l)
theorem Y5:Gp2 X (rEqA X.K) oEq:=by
 intro hd O H x y t u Q R dom C G h v;have D:Okd t/\Okd u/\R (.bool (t.eqv u))->rEqA X.K x y H Q:=λh=>.inr ⟨hd,O,_,_,C,G,h.1,h.2.1,v _ _ H h.2.2 (Same.refl H) (.bl _)⟩;cases t with
 | int i=>cases u with
  | int j =>rw[C.intI,G.intI];refine .inl ⟨rfl,?_⟩;have e:decide (V.int i=V.int j)=decide (i=j):=decide_eq_decide.mpr ⟨λz=>by cases z;rfl,λz=>by rw[z]⟩;rw[e];exact v _ _ H h (Same.refl H) (.bl _)
  | _=>exact D h
 | str i=>cases u with
  | str j =>rw[C.strI,G.strI];refine .inl ⟨rfl,?_⟩;have e:decide (V.str i=V.str j)=decide (i=j):=decide_eq_decide.mpr ⟨λz=>by cases z;rfl,λz=>by rw[z]⟩;rw[e];exact v _ _ H h (Same.refl H) (.bl _)
  | _=>exact D h
 | bool i=>cases u with
  | bool j =>rw[C.blI,G.blI];refine .inl ⟨rfl,?_⟩;have e:decide (V.bl i=V.bl j)=decide (i=j):=decide_eq_decide.mpr ⟨λz=>by cases z;rfl,λz=>by rw[z]⟩;rw[e];exact v _ _ H h (Same.refl H) (.bl _)
  | _=>exact D h
 | _=>exact D h
theorem Qn:Gp2 X (rNeA X.K) oNe:=by
 intro hd O H x y t u Q R dom C G h v;have D:Okd t/\Okd u/\R (.bool (!t.eqv u))->rNeA X.K x y H Q:=λh=>.inr ⟨hd,O,_,_,C,G,h.1,h.2.1,v _ _ H h.2.2 (Same.refl H) (.bl _)⟩;cases t with
 | int i=>cases u with
  | int j =>rw[C.intI,G.intI];refine .inl ⟨rfl,?_⟩;have e:decide (V.int i=V.int j)=decide (i=j):=decide_eq_decide.mpr ⟨λz=>by cases z;rfl,λz=>by rw[z]⟩;rw[e];exact v _ _ H h (Same.refl H) (.bl _)
  | _=>exact D h
 | str i=>cases u with
  | str j =>rw[C.strI,G.strI];refine .inl ⟨rfl,?_⟩;have e:decide (V.str i=V.str j)=decide (i=j):=decide_eq_decide.mpr ⟨λz=>by cases z;rfl,λz=>by rw[z]⟩;rw[e];exact v _ _ H h (Same.refl H) (.bl _)
  | _=>exact D h
 | bool i=>cases u with
  | bool j =>rw[C.blI,G.blI];refine .inl ⟨rfl,?_⟩;have e:decide (V.bl i=V.bl j)=decide (i=j):=decide_eq_decide.mpr ⟨λz=>by cases z;rfl,λz=>by rw[z]⟩;rw[e];exact v _ _ H h (Same.refl H) (.bl _)
  | _=>exact D h
 | _=>exact D h
def isNone:af->Bool
 | .none=>true
 | _=>false
def oIsN:G2
 | .bool a,.bool b,R=>R (.bool (a != b))
 | t,.none,R=>R (.bool (!isNone t))
 | _,_,_=>False
def rIsN:R2:=λx y H Q=>(y=.non/\Q (.bl (!decide (x=.non))) H)\/∃a b,x=.bl a/\y=.bl b/\Q (.bl (a != b)) H
theorem zmx:OpR X (compareOp .IsNot) rIsN:=OpR.or zq0 zmy
theorem RepT.isN{K:qF}{hd:Option aq}{O:aq->Prop}{H:Hp}{v:V}{t:af}(h:RepT K hd O H v t):decide (v=.non)=(isNone t):=by rcases h with h|⟨a,vs,ds,rfl,rfl,u,l,_⟩|⟨a,zs,ep,ks,rfl,rfl,u,l,_⟩;cases h <;> simp[HAND,SCR,EXC,isNone];simp[isNone];simp[isNone]
theorem zna:Gp2 X rIsN oIsN:=by intro hd O H x y t u Q R dom v C h o;unfold oIsN at h;split at h;rename_i i j;exact .inr ⟨i,j,v.blI,C.blI,o _ _ H h (Same.refl H) (.bl _)⟩;refine .inl ⟨C.nonI,?_⟩;rw[v.isN];exact o _ _ H h (Same.refl H) (.bl _);exact h.elim
def rInD(K:qF)(neg:Bool):R2:=λx y H Q=>∃hd O t ts,RepT K hd O H x t/\(RepT K hd O H y (.tuple ts)\/RepT K hd O H y (.list ts))/\Okd t/\(∀u∈ts,Okd u)/\Q (.bl (if neg then !ts.any (λu=>u.eqv t) else ts.any (λu=>u.eqv t))) H
theorem zmB:∀{ts:qD},(∀u∈ts,Okd u)->eO ts=true
 | [],_=>by simp[eO]
 | t::ts,h=>by simp only[eO,cA];exact⟨(h t (by simp)).1,zmB λu l=>h u (by simp[l])⟩
theorem zmt(U:Room k X.A):OpR X (compareOp .NotIn) (rInD X.K be):=by
 intro pins s σ H x y v u Q I Z S h;obtain⟨hd,O,t,ts,h1,C,G,Y,q⟩:=h;obtain⟨as,R⟩:=h1.reads I Z (cP _ G.1);have cl:=zmB Y;have L:X.A.units+1+min (gS ts) t.depth<cLine:=by have:=U.un;have:=G.2;omega
 rcases C with C|C;obtain⟨bs,J⟩:=C.reads I S (cP _ (by simpa[dS] using cl));exact SeqAt.notIn_tuple_reads J R cl G.1 L ⟨.bl _,H,I,rfl,q⟩;obtain⟨bs,J⟩:=C.reads I S (cP _ (by simpa[dS] using cl));exact SeqAt.notIn_list_reads J R cl G.1 L ⟨.bl _,H,I,rfl,q⟩
def Zy:G2
 | t,.tuple ts,R=>Okd t/\(∀u∈ts,Okd u)/\R (.bool (!ts.any λu=>u.eqv t))
 | t,.list ts,R=>Okd t/\(∀u∈ts,Okd u)/\R (.bool (!ts.any λu=>u.eqv t))
 | _,_,_=>False
theorem zpa:Gp2 X (rInD X.K be) Zy:=by intro hd O H x y t u Q R dom v C h o;unfold Zy at h;split at h;exact⟨hd,O,_,_,v,.inl C,h.1,h.2.1,o _ _ H h.2.2 (Same.refl H) (.bl _)⟩;exact⟨hd,O,_,_,v,.inr C,h.1,h.2.1,o _ _ H h.2.2 (Same.refl H) (.bl _)⟩;exact h.elim
def oLtA:G2
 | .int i,.int j,R=>R (.bool (decide (i<j)))
 | .str i,.str j,R=>R (.bool (decide (i.cps.toList<j.cps.toList)))
 | .tuple xs,.tuple ys,R=>∃ns ms,xs=ns.map cg/\ys=ms.map cg/\R (.bool (HT.lexLt ns ms))
 | _,_,_=>False
def rLtA(K:qF):R2:=λx y H Q=>(rI0 λi j=>.bl (decide (i<j))) x y H Q\/(∃i j,x=.str i/\y=.str j/\Q (.bl (decide (i.cps.toList<j.cps.toList))) H)\/rLtT K x y H Q
theorem Qh(l:Room k X.A):OpR X (compareOp .Lt) (rLtA X.K):=OpR.or ztv (OpR.or zmv (ztu l.units0))
theorem Wg{K:qF}{hd:Option aq}{O:aq->Prop}{H:Hp}:∀{ns:List Int}{vs:List V},Reps K hd O H vs (ns.map cg)->vs=ns.map V.int
 | [],_,h=>by cases h;rfl
 | n::ns,_,h=>by
  cases h with
  | cons h r=>rw[h.intI,Wg r];rfl
theorem Qg:Gp2 X (rLtA X.K) oLtA:=by
 intro hd O H x y t u Q R dom v C h o;cases t with
 | int i=>cases u with
  | int j=>exact .inl ⟨_,_,v.intI,C.intI,o _ _ H h (Same.refl H) (.bl _)⟩
  | _=>exact h.elim
 | str i=>cases u with
  | str j=>exact .inr (.inl ⟨_,_,v.strI,C.strI,o _ _ H h (Same.refl H) (.bl _)⟩)
  | _=>exact h.elim
 | tuple i=>cases u with
  | tuple j =>obtain⟨ns,ms,rfl,rfl,h⟩:=h;obtain⟨p,vs,J,s1,L⟩:=v.tupI;obtain⟨q,N,I,s2,G⟩:=C.tupI;rw[Wg L]at s1;rw[Wg G]at s2;exact .inr (.inr ⟨p,q,ns,ms,J,I,s1,s2,o _ _ H h (Same.refl H) (.bl _)⟩)
  | _=>exact h.elim
 | _=>exact h.elim
def oLeA:G2
 | .int i,.int j,R=>R (.bool (decide (i<=j)))
 | .str i,.str j,R=>R (.bool (!decide (j.cps.toList<i.cps.toList)))
 | _,_,_=>False
def rLeA:R2:=λx y H Q=>(rI0 λi j=>.bl (decide (i<=j))) x y H Q\/(∃i j,x=.str i/\y=.str j/\Q (.bl (!decide (j.cps.toList<i.cps.toList))) H)
theorem zmw:OpR X (compareOp .LtE) (λx y H Q=>∃i j,x=.str i/\y=.str j/\Q (.bl (!decide (j.cps.toList<i.cps.toList))) H):=by intro pins s σ H x y v u Q I o C h;obtain⟨i,j,rfl,rfl,q⟩:=h;obtain⟨t,rfl⟩:=o;obtain⟨t',rfl⟩:=C;exact PySem.P.le_str ⟨.bl _,H,I,rfl,q⟩
theorem QT:OpR X (compareOp .LtE) rLeA:=OpR.or zwA zmw
theorem QP:Gp2 X rLeA oLeA:=by
 intro hd O H x y t u Q R dom v C h o;cases t with
 | int i=>cases u with
  | int j=>exact .inl ⟨_,_,v.intI,C.intI,o _ _ H h (Same.refl H) (.bl _)⟩
  | _=>exact h.elim
 | str i=>cases u with
  | str j=>exact .inr ⟨_,_,v.strI,C.strI,o _ _ H h (Same.refl H) (.bl _)⟩
  | _=>exact h.elim
 | _=>exact h.elim
variable{r r':R2}{g g':G2}
end
section
variable{X:Cx}{a b c e:a8}{es rest:List a8}{d da db dc:DTE}{t u:DTT}{pos p:Pos}{k:Nat}
def truD:af->(Bool->Prop)->Prop
 | .none,R=>R false
 | .bool b,R=>R b
 | .int i,R=>R (decide (i≠0))
 | .str x,R=>x.length<=16777216/\R (decide (x.length≠0))
 | .list ts,R=>R (!ts.isEmpty)
 | .tuple ts,R=>R (!ts.isEmpty)
 | _,_=>False
def dTru(d:DTE):DTT:=λo n R=>d o n λt l=>truD t λb=>R b l
theorem zsp{K:qF}{hd:Option aq}{O:aq->Prop}{H:Hp}{v:V}{t:af}{Q:Bool->Hp->Prop}{R:Bool->Prop}(r:RepT K hd O H v t)(h:truD t R)(y:∀b,R b->Q b H):∃k,TruV K v H k/\Q k H:=by
 cases t with
 | none=>exact⟨bj,by rw[r.nonI];rfl,y _ h⟩
 | bool b=>exact⟨b,by rw[r.blI];rfl,y _ h⟩
 | int i=>exact⟨decide (i≠0),by rw[r.intI];show _=(i != 0);by_cases z:i=0 <;> simp[z],y _ h⟩
 | str x =>refine⟨decide (x.length≠0),by rw[r.strI];exact⟨h.1,by by_cases z:x.length=0 <;> simp[z]⟩,y _ h.2⟩
 | list ts =>obtain⟨p,vs,e,C,G⟩:=r.lstI;subst e;refine⟨!ts.isEmpty,.inl ⟨vs,.of C,?_⟩,y _ h⟩;cases G <;> rfl
 | tuple ts =>obtain⟨p,vs,e,C,G⟩:=r.tupI;subst e;refine⟨!ts.isEmpty,.inr (.inl ⟨vs,C,?_⟩),y _ h⟩;cases G <;> rfl
 | dict _=>exact h.elim
theorem Qo(l:DL X a da)(he:∀whole,isTrue a X.env whole=(do let v <- whole;standAt a.pos;holding [v] (truthy v)):=by intro _;rfl):DT X a (dTru da):=by obtain⟨L,pa,l⟩:=l;refine⟨_,zoC pa he,λC J σ H n Q R S h o=>?_⟩;refine l C J σ H n _ _ S h λt x v H' r y I q=>?_;exact zsp q r λb G=>o b x H' G y I
def dAnd(t u:DTT):DTT:=λo n R=>t o n λb l=>if b=be then u o l R else R bj l
def dOr(t u:DTT):DTT:=λo n R=>t o n λb l=>if b=be then R be l else u o l R
def dNot(t:DTT):DTT:=λo n R=>t o n λb l=>R (!b) l
theorem Qx(h:DW X a t):DT X a t:=by obtain⟨l,pa,h⟩:=h;exact⟨_,pa.pt,h⟩
theorem YN(h:DT X a t):DW X (.BoolOp .And [a] pos) t:=by obtain⟨v,pa,h⟩:=h;exact⟨_,zqF pa,h⟩
theorem Zo(h:DT X a t):DW X (.BoolOp .Or [a] pos) t:=by obtain⟨v,pa,h⟩:=h;exact⟨_,zs1 pa,h⟩
theorem Ym(h:DT X a t)(h':DW X (.BoolOp .And (b::rest) pos) u):DW X (.BoolOp .And (a::b::rest) pos) (dAnd t u):=by
 obtain⟨ta,pa,h⟩:=h;obtain⟨tb,L,h'⟩:=h';refine⟨_,zs2 pa L,λC J σ H n Q R S hd y=>?_⟩;refine h C J σ H n _ _ S hd λb G x r v I=>?_;cases b with
 | true=>exact iteT (h' C J σ x G Q R (S.on v I) (by simpa using r) λb U Y r N Z=>y b U Y r (v.trans N) Z)
 | false=>exact iteF (y _ G x (by simpa using r) v I)
theorem Y3(h:DT X a t)(h':DW X (.BoolOp .Or (b::rest) pos) u):DW X (.BoolOp .Or (a::b::rest) pos) (dOr t u):=by
 obtain⟨ta,pa,h⟩:=h;obtain⟨tb,L,h'⟩:=h';refine⟨_,zwu pa L,λC J σ H n Q R S hd y=>?_⟩;refine h C J σ H n _ _ S hd λb G x r v I=>?_;cases b with
 | false=>exact iteF (h' C J σ x G Q R (S.on v I) (by simpa using r) λb U Y r N Z=>y b U Y r (v.trans N) Z)
 | true=>exact iteT (y _ G x (by simpa using r) v I)
theorem VB(h:DT X a t):DT X (.UnaryOp .Not a pos) (dNot t):=by obtain⟨L,pa,h⟩:=h;refine⟨_,zs4 pa,λC J σ H n Q R S hd v=>?_⟩;exact h C J σ H n _ _ S hd λb x l r G I=>v _ x l r G I
def bolD:af->(Bool->Prop)->Prop
 | .bool b,R=>R b
 | _,_=>False
def zrX(da db:DTE):DTE:=λx n R=>da x n λt v=>bolD t λb=>if b=be then db x v R else R (.bool bj) v
def dOrV(da db:DTE):DTE:=λx n R=>da x n λt v=>bolD t λb=>if b=be then R (.bool be) v else db x v R
theorem znw{op}(h:DE X a d):DE X (.BoolOp op [a] pos) d:=by obtain⟨v,pa,h⟩:=h;exact⟨_,ztf pa,h⟩
theorem zrT(h:DE X a da)(h':DE X (.BoolOp .And (b::rest) pos) db):DE X (.BoolOp .And (a::b::rest) pos) (zrX da db):=by
 obtain⟨ta,pa,h⟩:=h;obtain⟨tb,N,h'⟩:=h';refine⟨_,ztl pa N,λC L σ H n Q R S hd G=>?_⟩;refine h C L σ H n _ _ S hd λt I v y r x J U=>?_;cases t with
 | bool b =>
  cases U;refine⟨b,rfl,?_⟩;cases b with
  | true=>exact iteT (h' C L σ y I Q R (S.on x J) (by simpa[bolD] using r) λt Z v H2 r Y h2 q2=>G t Z v H2 r (x.trans Y) h2 q2)
  | false=>exact iteF (G _ I _ y (by simpa[bolD] using r) x J (.bl _))
 | _=>exact r.elim
theorem zp_(h:DE X a da)(h':DE X (.BoolOp .Or (b::rest) pos) db):DE X (.BoolOp .Or (a::b::rest) pos) (dOrV da db):=by
 obtain⟨ta,pa,h⟩:=h;obtain⟨tb,N,h'⟩:=h';refine⟨_,zww pa N,λC L σ H n Q R S hd G=>?_⟩;refine h C L σ H n _ _ S hd λt I v y r x J U=>?_;cases t with
 | bool b =>
  cases U;refine⟨b,rfl,?_⟩;cases b with
  | false=>exact iteF (h' C L σ y I Q R (S.on x J) (by simpa[bolD] using r) λt Z v H2 r Y h2 q2=>G t Z v H2 r (x.trans Y) h2 q2)
  | true=>exact iteT (G _ I _ y (by simpa[bolD] using r) x J (.bl _))
 | _=>exact r.elim
def dIfE(t:DTT)(da db:DTE):DTE:=λl n R=>t l n λb o=>if b=be then da l o R else db l o R
theorem YO(hc:DT X c t)(h:DE X a da)(h':DE X b db):DE X (.IfExp c a b pos) (dIfE t da db):=by
 obtain⟨tc,pc,hc⟩:=hc;obtain⟨ta,pa,h⟩:=h;obtain⟨tb,pb,h'⟩:=h';refine⟨_,zoJ pc pa pb,λC N σ H n Q R S hd Y=>?_⟩;refine hc C N σ H n _ _ S hd λb Z U r l h1=>?_;cases b with
 | true=>exact iteT (h C N σ U Z Q R (S.on l h1) (by simpa using r) λt y v G r o L J=>Y t y v G r (l.trans o) L J)
 | false=>exact iteF (h' C N σ U Z Q R (S.on l h1) (by simpa using r) λt y v G r o L J=>Y t y v G r (l.trans o) L J)
def dNil:DTA:=λ_ n R=>R [] n
def J5(d:DTE)(ds:DTA):DTA:=λl n R=>d l n λt o=>ds l o λts v=>R (t::ts) v
theorem Ja:DB X [] dNil:=⟨_,QV,λC v σ H n Q R S h o=>o [] n [] H h ExtE.refl S.hnd .nil rfl⟩
theorem znz(h:DE X e d)(l:DB X es ds)(N:starEach (e::es) X.env=(bj,eval e X.env)::starEach es X.env):DB X (e::es) (J5 d ds):=by obtain⟨ta,pa,h⟩:=h;obtain⟨tb,I,l⟩:=l;refine⟨_,QC pa I N,λC G σ H n Q R S hd L=>?_⟩;refine h C G σ H n _ _ S hd λt Z v J r y h1 U=>?_;refine l C G σ J Z _ _ (S.on y h1) r λts n2 vs H2 Y x h2 q2 l2=>?_;exact L _ n2 _ H2 Y (y.trans x) h2 (.cons (x.rep S.hx U) q2) (by simp[l2])
def Y9(K:qF)(hd:Option aq)(O:aq->Prop)(H:Hp):List V->qD->Prop:=bT (RepT K hd O H)
def DBL(X:Cx)(es:List a8)(d:DTA):Prop:=∃o,PB X es o/\∀(C:Ctx) (l:En) (σ:St) (H:Hp) (n:Nat) (Q:List V->Hp->Prop) (R:qD->Nat->Prop),Stt X.K C l σ H n->d l n R ->
 (∀ts v vs H',R ts v->ExtE C.hd H H'->Hn X.K C.hd H' v->Y9 X.K C.hd (Own C l σ) H' vs ts->ts.length=es.length->Q vs H')->o σ H Q
theorem Jq:DBL X [] dNil:=⟨_,QV,λC v σ H n Q R S h o=>o [] n [] H h ExtE.refl S.hnd .nil rfl⟩
theorem Ji(h:DL X e d)(l:DBL X es ds)(N:starEach (e::es) X.env=(bj,eval e X.env)::starEach es X.env):DBL X (e::es) (J5 d ds):=by obtain⟨ta,pa,h⟩:=h;obtain⟨tb,I,l⟩:=l;refine⟨_,QC pa I N,λC G σ H n Q R S hd L=>?_⟩;refine h C G σ H n _ _ S hd λt Z v J r y h1 U=>?_;refine l C G σ J Z _ _ (S.on y h1) r λts n2 vs H2 Y x h2 q2 l2=>?_;exact L _ n2 _ H2 Y (y.trans x) h2 (.cons (x.repT S.hx U) q2) (by simp[l2])
def dTup(ds:DTA):DTE:=λv n R=>ds v n λts o=>R (.tuple ts) o
theorem Jk(h:DB X es ds)(G:es.length<=sizeLine:=by decide):DE X (.Tuple es x1 pos) (dTup ds):=by obtain⟨Y,pa,h⟩:=h;refine⟨_,zqU pa,λC U σ H n Q R S hd I=>?_⟩;refine h C U σ H n _ _ S hd λts N vs Z r x y v J=>⟨by rw[v.length,J];exact G,λp o=>?_⟩;have L:=S.on x y;exact I _ N _ _ r (x.trans (ExtE.new o)) (y.same (JR o)) (.newT (L.free o) o v)
theorem Qe(h:DB X es ds)(N:es.length<=sizeLine:=by decide):DN X (.List es pos) ds:=by
 obtain⟨ta,pa,h⟩:=h;refine⟨_,zmo pa,λC ρ σ H n Q R S hd U=>?_⟩;refine h C ρ σ H n _ _ S hd λts Z vs H1 r G I J Y=>⟨by rw[J.length,Y];exact N,λp l=>?_⟩;have S1:=S.on G I;have x:H p=bc:=by
  cases z:H p with
  | none=>rfl
  | some o =>by_cases y:C.hd=ao p;obtain⟨vs,q⟩:=I.lst y;rw[l]at q;cases q;rw[G p o z y]at l;cases l
 refine U ts Z p vs _ r (G.trans (ExtE.new l)) (I.same (JR l)) x JJ ?_;refine J.mono (λb o v z=>z.elim id λz=>?_) λb o _ v=>JR l b o v;subst z;rw[l]at v;cases v
end
section
variable{X:Cx}{a b c e:a8}{es rest:List a8}{d da db dc:DTE}{ds:DTA}{pos p:Pos}{k:Nat}{x:Str}
abbrev GC:=List af->(af->Prop)->Prop
def Zl(g:GC)(ds:DTA):DTE:=λo n R=>ds o n λts l=>g ts λz=>R z l
def GpC(X:Cx)(r:List V->Hp->VK->Prop)(g:GC):Prop:=∀(hd:Option aq) (O:aq->Prop) (H:Hp) (xs:List V) (ts:qD) (Q:VK) (R:af->Prop),(∀p,O p->H p≠bc)->Y9 X.K hd O H xs ts->g ts R ->
 (∀z v H',R z->Same H H'->Rep X.K hd O H' v z->Q v H')->r xs H Q
theorem JF{id:String}{r:List V->Hp->VK->Prop}{g:GC}(hc:JK X (.builtin id) r)(o:GpC X r g)(hm:X.mg x=bc)(Y:bootBuiltins x=ao (.builtin id))(h:DBL X (e::es) ds)(hg:Gl X x:=by rfl)(hn:x ≠ "__name__":=by decide) (v:Ndb x:=by rfl) :
  DE X (.Call (.Name x p) (e::es) [] pos) (Zl g ds):=by
 obtain⟨ta,pa,h⟩:=h;refine⟨_,Vv hc hm Y pa hg hn v,λC J σ H n Q R S hd U=>?_⟩;refine h C J σ H n _ _ S hd λts n1 vs L r1 y I Z _=>?_;have S1:=S.on y I;exact o C.hd (Own C J σ) L vs ts Q _ (λp=>S1.dom) Z r1 λz u H' rz G rp=>U z n1 u H' rz (y.trans G.ext) (I.same G) rp
theorem Qm(hc:JK X (.type T) r)(o:GpC X r g)(hm:X.mg x=bc)(Z:bootBuiltins x=ao (.type T))(h:DBL X (e::es) ds)(hg:Gl X x:=by rfl)(hn:x ≠ "__name__":=by decide) (v:Ndb x:=by rfl) :
  DE X (.Call (.Name x p) (e::es) [] pos) (Zl g ds):=by
 obtain⟨ta,pa,h⟩:=h;refine⟨_,zqY hc hm Z pa hg hn v,λC L σ H n Q R S hd Y=>?_⟩;refine h C L σ H n _ _ S hd λts n1 vs U r1 G J q1 _=>?_;have S1:=S.on G J;exact o C.hd (Own C L σ) U vs ts Q _ (λp=>S1.dom) q1 r1 λz u H' rz I rp=>Y z n1 u H' rz (G.trans I.ext) (J.same I) rp
theorem Qs{K:qF}{hd:Option aq}{O:aq->Prop}{H:Hp}{xs:List V}{t:af}(h:Y9 K hd O H xs [t]):∃v,xs=[v]/\RepT K hd O H v t:=by
 cases h with
 | cons h r=>cases r;exact⟨_,rfl,h⟩
theorem zpJ{K:qF}{hd:Option aq}{O:aq->Prop}{H:Hp}{xs:List V}{t u:af}(h:Y9 K hd O H xs [t,u]):∃v w,xs=[v,w]/\RepT K hd O H v t/\RepT K hd O H w u:=by
 cases h with
 | cons h r=>cases r with|cons l r=>cases r;exact⟨_,_,rfl,h,l⟩
def bLen:GC:=λl R=>(∃ts,l=[.list ts]/\R (.int ts.length))\/(∃ts,l=[.tuple ts]/\R (.int ts.length))\/(∃x:Str,l=[.str x]/\x.length<=16777216/\R (.int x.length))\/∃ts,l=[.dict [(.none,.list ts)]]/\R (.int ts.length)
def rLen(K:qF):List V->Hp->VK->Prop:=λxs H Q=>∃x n,xs=[x]/\LenV K x H n/\Q (.int n) H
theorem QQ:GpC X (rLen X.K) bLen:=by
 intro hd O H xs ts Q R dom rs h y;rcases h with⟨ts,rfl,h⟩|⟨ts,rfl,h⟩|⟨x,rfl,h⟩|⟨ts,rfl,h⟩;obtain⟨v,rfl,r⟩:=Qs rs;obtain⟨p,vs,rfl,u,C⟩:=r.lstI;exact⟨_,_,rfl,.inl ⟨vs,.of u,rfl⟩,by rw[C.length];exact y _ _ H h (Same.refl H) (.int _)⟩;obtain⟨v,rfl,r⟩:=Qs rs;obtain⟨p,vs,rfl,u,C⟩:=r.tupI;exact⟨_,_,rfl,.inr ⟨vs,u,rfl⟩,by rw[C.length];exact y _ _ H h (Same.refl H) (.int _)⟩;obtain⟨v,rfl,r⟩:=Qs rs;rw[r.strI];exact⟨_,_,rfl,⟨h.1,rfl⟩,y _ _ H h.2 (Same.refl H) (.int _)⟩;obtain⟨v,rfl,r⟩:=Qs rs;have r:=r.rep (by intro _ z;cases z);generalize e:(tz [(oN,yj ts)])=t at r;cases r with
 | scr u o =>simp only[SCR,rL,tH,vQ,rM,true_and,and_true]at e;subst e;exact⟨_,_,rfl,.inl ⟨_,.inl u,rfl⟩,by simpa using y _ _ H h (Same.refl H) (.int _)⟩
 | scrS u =>simp only[SCR,rL,tH,vQ,rM,true_and,and_true]at e;subst e;exact⟨_,_,rfl,.inl ⟨_,u H,rfl⟩,by simpa using y _ _ H h (Same.refl H) (.int _)⟩
 | hand _=>simp[HAND]at e
 | exc _ _=>simp[EXC]at e
 | dct _ _=>cases e
 | dcK _ _ _ G=>cases e;exact(VZ G).elim
 | dcT _ _ _ G=>cases e;exact(dict_noT G).elim
 | _=>cases e
def bMin:GC
 | [.int i,.int j],R=>R (.int (if j<i then j else i))
 | _,_=>False
def bMax:GC
 | [.int i,.int j],R=>R (.int (if j > i then j else i))
 | _,_=>False
theorem UH:GpC X (λxs H Q=>∃i j,xs=[.int i,.int j]/\Q (.int (if j<i then j else i)) H) bMin:=by
 intro hd O H xs ts Q R dom rs h l;cases ts with
 | nil=>exact h.elim
 | cons t ts=>cases t with
  | int i=>cases ts with
   | nil=>exact h.elim
   | cons u ts=>cases u with
    | int j=>cases ts with
     | nil =>obtain⟨v,w,rfl,y,o⟩:=zpJ rs;rw[y.intI,o.intI];exact⟨_,_,rfl,l _ _ H h (Same.refl H) (.int _)⟩
     | cons _ _=>exact h.elim
    | _=>exact h.elim
  | _=>exact h.elim
theorem VO:GpC X (λxs H Q=>∃i j,xs=[.int i,.int j]/\Q (.int (if j > i then j else i)) H) bMax:=by
 intro hd O H xs ts Q R dom rs h l;cases ts with
 | nil=>exact h.elim
 | cons t ts=>cases t with
  | int i=>cases ts with
   | nil=>exact h.elim
   | cons u ts=>cases u with
    | int j=>cases ts with
     | nil =>obtain⟨v,w,rfl,y,o⟩:=zpJ rs;rw[y.intI,o.intI];exact⟨_,_,rfl,l _ _ H h (Same.refl H) (.int _)⟩
     | cons _ _=>exact h.elim
    | _=>exact h.elim
  | _=>exact h.elim
def bInt:GC
 | [.int i],R=>R (.int i)
 | [.bool k],R=>R (.int (if k then 1 else 0))
 | _,_=>False
theorem zuC:GpC X (λxs H Q=>(∃i,xs=[.int i]/\Q (.int i) H)\/∃k,xs=[.bl k]/\Q (.int (if k then 1 else 0)) H) bInt:=by
 intro hd O H xs ts Q R dom rs h u;cases ts with
 | nil=>exact h.elim
 | cons t ts=>cases t with
  | int i=>cases ts with
   | nil =>obtain⟨v,rfl,o⟩:=Qs rs;rw[o.intI];exact .inl ⟨_,rfl,u _ _ H h (Same.refl H) (.int _)⟩
   | cons _ _=>exact h.elim
  | bool i=>cases ts with
   | nil =>obtain⟨v,rfl,o⟩:=Qs rs;rw[o.blI];exact .inr ⟨_,rfl,u _ _ H h (Same.refl H) (.int _)⟩
   | cons _ _=>exact h.elim
  | _=>exact h.elim
def bStr:GC
 | [.int i],R=>i.natAbs<2 ^ 1920/\R (.str (toString i))
 | _,_=>False
theorem zuA:GpC X (λxs H Q=>∃i,xs=[.int i]/\i.natAbs.log2<1920/\Q (.str (toString i)) H) bStr:=by
 intro hd O H xs ts Q R dom rs h l;cases ts with
 | nil=>exact h.elim
 | cons t ts=>cases t with
  | int i=>cases ts with
   | nil =>obtain⟨v,rfl,o⟩:=Qs rs;rw[o.intI];refine⟨_,rfl,?_,l _ _ H h.2 (Same.refl H) (.str _)⟩;by_cases z:i.natAbs=0;rw[z];decide;exact(ye z).mpr h.1
   | cons _ _=>exact h.elim
  | _=>exact h.elim
def bAll:GC
 | [.list ts],R=>∃bs:List Bool,ts=bs.map k7/\R (.bool (bs.all id))
 | _,_=>False
theorem zfQ{K:qF}{hd:Option aq}{O:aq->Prop}{H:Hp}:∀{ns:List Bool}{vs:List V},Reps K hd O H vs (ns.map k7)->vs=ns.map V.bl
 | [],_,h=>by cases h;rfl
 | n::ns,_,h=>by
  cases h with
  | cons h r=>rw[h.blI,zfQ r];rfl
theorem zuD:GpC X (λxs H Q=>∃(a:aq) (bs:List Bool),xs=[.ref a]/\SqL X.K H a (bs.map V.bl)/\Q (.bl (bs.all id)) H) bAll:=by intro hd O H xs ts Q R dom rs h y;unfold bAll at h;split at h;obtain⟨bs,rfl,h⟩:=h;obtain⟨v,rfl,C⟩:=Qs rs;obtain⟨p,vs,rfl,u,G⟩:=C.lstI;rw[zfQ G]at u;exact⟨p,bs,rfl,.of u,y _ _ H h (Same.refl H) (.bl _)⟩;exact h.elim
def Vy:GC
 | [.list ts],R=>R (.tuple ts)
 | [.tuple ts],R=>R (.tuple ts)
 | _,_=>False
theorem Q4:GpC X (λxs H Q=>∃p ys,xs=[.ref p]/\((SqL X.K H p ys/\∀l,H l=bc->Q (.ref l) (upd H l (.tup ys)))\/(SqT X.K H p ys/\Q (.ref p) H))) Vy:=by
 intro hd O H xs ts Q R dom rs h J;cases ts with
 | nil=>exact h.elim
 | cons t ts=>cases t with
  | list I=>cases ts with
   | nil =>obtain⟨v,rfl,y⟩:=Qs rs;obtain⟨p,vs,rfl,G,L⟩:=y.lstI;refine⟨p,vs,rfl,.inl ⟨.of G,λl C=>?_⟩⟩;exact J _ _ _ h (JR C) (.newT (λz=>dom l z C) C L)
   | cons _ _=>exact h.elim
  | tuple I=>cases ts with
   | nil =>obtain⟨v,rfl,y⟩:=Qs rs;obtain⟨p,vs,rfl,G,L⟩:=y.tupI;exact⟨p,vs,rfl,.inr ⟨G,J _ _ H h (Same.refl H) (y.rep (by intro _ z;cases z))⟩⟩
   | cons _ _=>exact h.elim
  | _=>exact h.elim
def JN:af->(qD->Prop)->Prop
 | .list ts,R=>R ts
 | .tuple ts,R=>R ts
 | _,_=>False
end
section
variable{X:Cx}{a b c e:a8}{es rest:List a8}{d da db dc:DTE}{ds:DTA}{pos p:Pos}{k:Nat}{x:Str}
theorem Reps.atI{K:qF}{hd:Option aq}{O:aq->Prop}{H:Hp}{vs ts}{i:Int}{t}(r:Reps K hd O H vs ts)(h:L2.atI ts i=ao t):∃v,L2.atI vs i=ao v/\Rep K hd O H v t:=by
 unfold L2.atI at h ⊢;rw[r.length];cases e:ixN ts.length i with
 | none=>rw[e]at h;cases h
 | some j =>rw[e]at h;have h:ts[j]?=ao t:=h;exact r.get h
def oIx:G2
 | .list ts,.int i,R=>match atI ts i with|some t=>R t|none=>False
 | .tuple ts,.int i,R=>match atI ts i with|some t=>R t|none=>False
 | .str x,.int i,R=>x.length<=16777216/\match atI x.cps.toList i with|some c=>R (.str ⟨#[c]⟩)|none=>False
 | _,_,_=>False
theorem zxh:Gp2 X (rIx X.K) oIx:=by
 intro hd O H x y t u Q R dom I J h C;cases t with
 | list ts=>cases u with
  | int i =>obtain⟨p,vs,rfl,L,N⟩:=I.lstI;replace h:(match atI ts i with|some t=>R t|none=>False):=h;split at h;rename_i t S;obtain⟨v,ev,G⟩:=N.atI S;exact .inl ⟨p,vs,i,v,rfl,J.intI,.of L,ev,C _ _ H h (Same.refl H) G⟩;exact h.elim
  | _=>exact h.elim
 | tuple ts=>cases u with
  | int i =>obtain⟨p,vs,rfl,L,N⟩:=I.tupI;replace h:(match atI ts i with|some t=>R t|none=>False):=h;split at h;rename_i t S;obtain⟨v,ev,G⟩:=N.atI S;exact .inr (.inl ⟨p,vs,i,v,rfl,J.intI,L,ev,C _ _ H h (Same.refl H) G⟩);exact h.elim
  | _=>exact h.elim
 | str z=>cases u with
  | int i =>obtain⟨h0,h⟩:=h;split at h;rename_i c U;exact .inr (.inr ⟨z,i,c,I.strI,J.intI,h0,U,C _ _ H h (Same.refl H) (.str _)⟩);exact h.elim
  | _=>exact h.elim
 | _=>exact h.elim
theorem Jf(l:DL X a da)(o:DL X b db)(N:zoa b:=by intro _ _;rfl):DE X (.Subscript a b pos) (dOp oIx da db):=by obtain⟨ta,pa,l⟩:=l;obtain⟨tb,J,o⟩:=o;refine⟨_,Ug zt8 pa J N,λC ρ σ H n Q R S h L=>?_⟩;refine two l o S h λx y Z v w H2 Y e G U q2=>?_;exact zxh C.hd (Own C ρ σ) H2 v w x y Q _ (λp=>G.dom) U q2 Y λz u H' rz I rp=>L z Z u H' rz (e.trans I.ext) (G.hnd.same I) rp
def dNeg(d:DTE):DTE:=λo n R=>d o n λt l=>match t with|.int i=>R (.int (-i)) l|_=>False
theorem Yl(h:DE X a da):DE X (.UnaryOp .USub a pos) (dNeg da):=by
 obtain⟨Y,pa,h⟩:=h;refine⟨_,zwv zsm pa,λC N σ H n Q R S hd o=>?_⟩;refine h C N σ H n _ _ S hd λt I v l r J L G=>?_;cases t with
 | int i=>rw[G.intI];exact⟨i,rfl,o _ I _ l r J L (.int _)⟩
 | _=>exact r.elim
def zsZ(K:qF):R2:=λx y H Q=>∃a b xs ys,x=.ref a/\y=.ref b/\SqT K H a xs/\SqT K H b ys/\xs.length+ys.length<=sizeLine /\
 (xs=[]->Q (.ref b) H)/\(ys=[]->Q (.ref a) H)/\∀p,H p=bc->Q (.ref p) (upd H p (.tup (xs++ys)))
theorem zq2:OpR X (binaryOp .Add) (zsZ X.K):=by
 intro pins s σ H x y v u Q I S U h;obtain⟨a,b,xs,ys,rfl,rfl,L,Y,hz,q0,q1,q2⟩:=h;by_cases hx:xs=[];cases S;cases U;obtain⟨its,r1,p1,_⟩:=I.tuple L;obtain⟨o,r2,p2,_⟩:=I.tuple Y;have Z:its=[]:=r1.nil_iff.mpr hx;obtain⟨⟨cls,dd,data,sl⟩,N,hc,n,hd⟩:=id p1;obtain⟨⟨R,J,data2,G⟩,l,C,n2,hd2⟩:=id p2;simp only at hc hd C hd2;subst hc hd C hd2;exact rF ⟨_,N,rfl⟩ ⟨_,l,rfl⟩ ni pR km i8 (iK _ _)
  (tuple_addW0 a b its.toArray o.toArray n n2 dd J sl G (by simp[Z])) ⟨N,l,⟨.ref b,H,I,rfl,q0 hx⟩⟩
 exact zq1 pins s σ H _ _ v u Q I S U ⟨a,b,xs,ys,rfl,rfl,L,Y,hx,hz,q1,λ_=>q2⟩
def oAdd:G2
 | .int i,.int j,R=>R (.int (i+j))
 | .str i,.str j,R=>i.length+j.length<=16777216/\R (.str (i++j))
 | .tuple xs,.tuple ys,R=>xs.length+ys.length<=16777216/\R (.tuple (xs++ys))
 | _,_,_=>False
def zs0(K:qF):R2:=λx y H Q=>(rI0 λi j=>.int (i+j)) x y H Q\/(∃i j,x=.str i/\y=.str j/\i.length+j.length<=sizeLine/\Q (.str (i++j)) H)\/zsZ K x y H Q
theorem zq3:OpR X (binaryOp .Add) (zs0 X.K):=OpR.or QS (OpR.or zkC zq2)
theorem zuE:Gp2 X (zs0 X.K) oAdd:=by intro hd O H x y t u Q R dom v C h o;unfold oAdd at h;split at h;exact .inl ⟨_,_,v.intI,C.intI,o _ _ H h (Same.refl H) (.int _)⟩;exact .inr (.inl ⟨_,_,v.strI,C.strI,h.1,o _ _ H h.2 (Same.refl H) (.str _)⟩);rename_i xs ys;obtain⟨p,vs,rfl,S,J⟩:=v.tupI;obtain⟨q,L,rfl,N,I⟩:=C.tupI;refine .inr (.inr ⟨p,q,vs,L,rfl,rfl,S,N,by rw[J.length,I.length];exact h.1,λe=>?_,λe=>?_,λl G=>?_⟩);subst e;cases J;exact o _ _ H h.2 (Same.refl H) (C.rep (by intro _ z;cases z));subst e;cases I;exact o _ _ H h.2 (Same.refl H) (by rw[cf];exact v.rep (by intro _ z;cases z));exact o _ _ _ h.2 (JR G) (.newT (λz=>dom l z G) G (J.append I));exact h.elim
theorem Jz(l:DL X a da)(o:DL X b db):DE X (.BinOp a .Add b pos) (dOp oAdd da db):=QN zq3 zuE l o
theorem ZM{K:qF}{C:Ctx}{H l:Hp}{I:Nat}{p:aq}(G:ExtE C.hd H l)(v:Hn K C.hd l I)(u:l p=bc):H p=bc:=by
 cases z:H p with
 | none=>rfl
 | some o =>by_cases y:C.hd=ao p;obtain⟨vs,q⟩:=v.lst y;rw[u]at q;cases q;rw[G p o z y]at u;cases u
def oMul:=gI CMul λi j=>i*j
theorem Zn(o:DL X a da)(v:DL X b db):DE X (.BinOp a .Mult b pos) (dOp oMul da db):=QN QU gp_I o v
abbrev GD:=List af->Nat->qN->Prop
def spD(K:qF)(m:Nat)(g:GD):Sp:=λvs H Q _=>∃(hd:Option aq) (O:aq->Prop) (ts:qD) (n:Nat) (R:qN),Reps K hd O H vs ts/\Hn K hd H n/\(∀a,O a->MutO (H a))/\(∀a,hd=ao a->O a)/\ts.length=m/\g ts n R /\
 ∀t l v H',R t l->ExtE hd H H'->Hn K hd H' l->Rep K hd O H' v t->Q v H'
def dFn(g:GD)(ds:DTA):DTE:=λo n R=>ds o n λts l=>g ts l R
theorem zxl{st:fA}{ps:List Str}{f:aq}{fd:dZ}{g:GD}{m:Nat}(D:Bd.Def X.K X.mg x st ps f fd)(G:FnOk X.prog X.w X.K X.mg X.base CX0 k f fd ps (spD X.K m g))(L:Room k X.A)(h:DB X (e::es) ds)(hm:(e::es).length=m:=by rfl)(hg:Gl X x:=by rfl)
  (o:Ndb x:=by rfl):DE X (.Call (.Name x p) (e::es) [] pos) (dFn g ds):=by
 obtain⟨ta,pa,h⟩:=h;refine⟨_,Bd.zqV D G L pa hg o,λC I σ H n Q R S hd J=>?_⟩;refine h C I σ H n _ _ S hd λts n1 vs H1 r1 u y U Y=>?_;have Z:=S.on u y;rw[cf];exact⟨C.hd,Own C I σ,ts,n1,R,U,y,λa=>Z.lst,λa z=>.inl (S.hx a z),Y.trans hm,r1,λt n' v H' rt e2 h2 q2=>J t n' v H' rt (u.trans e2) h2 q2⟩
def dFnL(g:GD)(ds:DTA):DTE:=λu n R=>ds u n λts l=>g ts l λt o=>QE t=be/\R t o
theorem zuT{st:fA}{ps:List Str}{f:aq}{fd:dZ}{g:GD}{m:Nat}(D:Bd.Def X.K X.mg x st ps f fd)(G:FnOk X.prog X.w X.K X.mg X.base CX0 k f fd ps (spD X.K m g))(hr:Room k X.A)(h:DBL X (e::es) ds)(hm:(e::es).length=m:=by rfl)(hg:Gl X x:=by rfl)
  (L:Ndb x:=by rfl):DE X (.Call (.Name x p) (e::es) [] pos) (dFnL g ds):=by
 obtain⟨ta,pa,h⟩:=h;refine⟨_,Bd.zqV D G hr pa hg L,λC ρ σ H n Q R S hd hq=>?_⟩;refine h C ρ σ H n _ _ S hd λts n1 vs U r1 Z J q1 l1=>?_;have S1:=S.on Z J;rw[cf];have lend:∀{vs ts},Y9 X.K C.hd (Own C ρ σ) U vs ts->Reps X.K C.hd (λa=>C.hd=ao a) U vs ts:=by
  intro vs ts q;induction q with
  | nil=>exact .nil
  | cons r _ ih =>refine .cons ?_ ih;rcases r with r|⟨a,ws,us,rfl,rfl,I,y,u⟩|⟨a,zs,ep,ks,rfl,rfl,I,y,u⟩;exact r.mono (λa o _ z=>.inl (S.hx a z)) λ_ _ _ z=>z;exact .lst I u (y.mono (λa o _ z=>.inl (S.hx a z)) λ_ _ _ z=>z);exact .dcT I u (y.mono (λa o _ z=>.inl (S.hx a z)) λ_ _ _ z=>z) rfl
 refine⟨C.hd,λa=>C.hd=ao a,ts,n1,_,lend q1,J,λa z=>?_,λa z=>z,l1.trans hm,r1,λt n' v H' rt Y h2 q2=>?_⟩;obtain⟨vs,q⟩:=J.lst z;exact .inl ⟨_,q⟩;exact hq t n' v H' rt.2 (Z.trans Y) h2 (q2.up (λa z=>(S1.on Y h2).lst z) rt.1)
end
section
variable{X:Cx}{pins:qO}{σ:St}{H H':Hp}{s s':av}{C e:aq}
def Fly1(P:aQ)(w:bg)(l:List Env)(H H':Hp)(h:bz)(C e:aq)(h':bz):Prop :=
 ∃B a0,Heap.FlyingW B l e (.ref C) a0 h'/\H' e=bc/\h.get? e=bc/\∀o,B.StaysIn o->h'.UpToSlots o->Un (frs l) [] H H' h o/\HOk P w H' o
inductive FlyX (X:Cx)(C:aq)(H':Hp)(e:aq)(s':av):Prop
 | made {MT:qO} {σ':St} {s h1} (I:Inv X MT σ' H' s) (m:Heap.MadeExcOf s.heap h1 e (.ref C) []) (hs:s'={ s with heap:=h1 })
 | on {MT:qO} {σ':St} {H1:Hp} {s} (I:Inv X MT σ' H1 s) (os:s'.os=s.os) (bare:lI s'.gens) (f:Fly1 X.prog X.w X.stack H1 H' s.heap C e s'.heap)
def XW(X:Cx)(C:aq)(H':Hp):Prop:=∀e s',FlyX X C H' e s'->X.xe (.ref e) s'
end
def Keep(C:Ctx)(u:En)(σ:St)(H:Hp)(l:En)(σ':St)(H':Hp):Prop:=∀a o,H a=ao o->C.hd≠ao a->¬OwnS u σ a->H' a=ao o/\¬OwnS l σ' a
structure JH where
 nx:En->Nat->Prop
 rt:qN
 bk:En->Nat->Prop:=λ_ _=>False
 ct:En->Nat->Prop:=λ_ _=>False
 xr:Str->Nat->Prop:=λ_ _=>False
abbrev DTS:=JH->En->Nat->Prop
def XN(X:Cx)(c:Str)(H':Hp):Prop:=∀C,X.mg c=ao (.ref C)->XW X C H'
structure Good(X:Cx)(C:Ctx)(ρ:En)(σ:St)(H:Hp)(D:Ends)(D':JH):Prop where
 nx:∀ρ' σ' H' n',D'.nx ρ' n'->Stt X.K C ρ' σ' H' n'->Keep C ρ σ H ρ' σ' H'->D.nx σ' H'
 rt:∀t n' v H',D'.rt t n'->Hn X.K C.hd H' n'->(∀a o,H a=ao o->C.hd≠ao a->¬OwnS ρ σ a->H' a=ao o)->Rep X.K C.hd C.ext H' v t->D.rt v H'
 bk:∀ρ' σ' H' n',D'.bk ρ' n'->Stt X.K C ρ' σ' H' n'->Keep C ρ σ H ρ' σ' H'->D.bk σ' H'
 ct:∀ρ' σ' H' n',D'.ct ρ' n'->Stt X.K C ρ' σ' H' n'->Keep C ρ σ H ρ' σ' H'->D.ct σ' H'
 xr:∀c n' H',D'.xr c n'->Hn X.K C.hd H' n'->(∀a o,H a=ao o->C.hd≠ao a->¬OwnS ρ σ a->H' a=ao o)->XN X c H'
def DS(X:Cx)(st:fA)(d:DTS):Prop:=∃ts,PS X st ts/\∀(C:Ctx) (l:En) (σ:St) (H:Hp) (n:Nat) (D:Ends) (o:JH),Stt X.K C l σ H n->d o l n->Good X C l σ H D o->ts D σ H
def DSs(X:Cx)(st:List fA)(d:DTS):Prop:=∃ts,PSs X st ts/\∀(C:Ctx) (l:En) (σ:St) (H:Hp) (n:Nat) (D:Ends) (o:JH),Stt X.K C l σ H n->d o l n->Good X C l σ H D o->ts D σ H
section
variable{K:qF}{C:Ctx}{ρ ρ1 ρ2:En}{σ σ1 σ2:St}{H H1 H2:Hp}{n n1:Nat}{D:Ends}{D':JH}
theorem Keep.refl:Keep C ρ σ H ρ σ H:=λ_ _ h _ no=>⟨h,no⟩
theorem Keep.trans(y:Keep C ρ σ H ρ1 σ1 H1)(x:Keep C ρ1 σ1 H1 ρ2 σ2 H2):Keep C ρ σ H ρ2 σ2 H2:=λa o h u no=>by obtain⟨v,l⟩:=y a o h u no;exact x a o v u l
theorem ExtE.keep(e:ExtE C.hd H H1):Keep C ρ σ H ρ σ H1:=λa o h l no=>⟨e a o h l,no⟩
theorem Good.on{X:Cx}(g:Good X C ρ σ H D D')(k:Keep C ρ σ H ρ1 σ1 H1):Good X C ρ1 σ1 H1 D D' where
 nx:=λl σ' H' u h S x=>g.nx l σ' H' u h S (k.trans x)
 rt:=λt u v H' h J x r=>g.rt t u v H' h J (λa o I G no=>by obtain⟨L,y⟩:=k a o I G no;exact x a o L G y) r
 bk:=λl σ' H' u h S x=>g.bk l σ' H' u h S (k.trans x)
 ct:=λl σ' H' u h S x=>g.ct l σ' H' u h S (k.trans x)
 xr:=λc u H' h J x=>g.xr c u H' h J λa o I G no=>by obtain⟨L,y⟩:=k a o I G no;exact x a o L G y
theorem Keep.reps(k:Keep C ρ σ H ρ1 σ1 H1)(hx:∀a,C.hd=ao a->C.ext a){v t}(r:Reps K C.hd (Own C ρ σ) H v t):Reps K C.hd (Own C ρ1 σ1) H1 v t :=
 Reps.mono (O:=Own C ρ σ) (λa o h z=>by by_cases q:Own C ρ σ a;exact q;rcases z with z|z;exact .inl z;exact absurd z (k a o h (λy=>q (.inl (hx a y))) λy=>q (.inr y)).2) (λa o no h=>(k a o h (λy=>no (.inl (hx a y))) λy=>no (.inr y)).1) r
theorem Ju{α:Type}{l:List (Option α)}{i j:Nat}{v w:α}(h:(l.set i (ao v))[j]?=ao (ao w)):(i=j/\v=w)\/(i≠j/\l[j]?=ao (ao w)):=by by_cases e:i=j;subst e;rw[mS]at h;simp only[↓reduceIte]at h;split at h;simp at h;exact .inl ⟨rfl,h⟩;cases h;rw[dY e]at h;exact .inr ⟨e,h⟩
theorem Yt{α:Type}{l:List (Option α)}{i j:Nat}{v w:α}(e:i≠j)(h:l[j]?=ao (ao w)):(l.set i (ao v))[j]?=ao (ao w):=by rw[dY e];exact h
theorem zpH{α:Type}{l:List (Option α)}{i j:Nat}{v:α}{w:Option α}(h:(l.set i (ao v))[j]?=ao w)(e:i=j):i<l.length:=by subst e;rw[mS]at h;simp only[↓reduceIte]at h;split at h;assumption;cases h
theorem zlV{α:Type}{l:List (Option α)}{i:Nat}{v:α}(h:i<l.length):(l.set i (ao v))[i]?=ao (ao v):=by rw[mS];simp[h]
theorem V8{i:Nat}{t:af}{v:V}{a:aq}(h:OwnS (ρ.set i (ao (.val t))) (σ.set i (ao v)) a):OwnS ρ σ a:=by obtain⟨j,c,m,o,u⟩:=h;rcases Ju o with⟨_,z⟩|⟨e,o⟩;subst z;cases m;rcases Ju u with⟨z,_⟩|⟨_,u⟩;exact absurd z e;exact⟨j,c,m,o,u⟩
def QA(K:qF)(hd:Option aq)(O:aq->Prop)(H:Hp)(a:aq):Cell->Prop
 | .val _=>False
 | .rdo _=>False
 | .own ts=>∃vs,H a=ao (.lst vs)/\Reps K hd O H vs ts
 | .dct ks=>∃u,H a=ao (.dK u)/\UC K hd O H u ks
 | .dtt ks=>∃zs ep,H a=ao (ZDO a zs ep)/\Jo K hd O H zs ks
theorem QA.mono(x:QA K hd O H a c)(G:∀a o,H a=ao o->O' a->O a)(v:∀a o,¬O a->H a=ao o->H' a=ao o)(y:∀o,H a=ao o->H' a=ao o):QA K hd O' H' a c:=by
 cases c with
 | val _=>exact x.elim
 | rdo _=>exact x.elim
 | own ts=>obtain⟨vs,l,u⟩:=x;exact⟨vs,y _ l,u.mono G v⟩
 | dct ks=>obtain⟨vs,l,u⟩:=x;exact⟨vs,y _ l,u.mono G v⟩
 | dtt ks=>obtain⟨vs,ep,l,u⟩:=x;exact⟨vs,ep,y _ l,u.mono G v⟩
theorem QA.some(x:QA K hd O H a c):∃o,H a=ao o:=by
 cases c with
 | val _=>exact x.elim
 | rdo _=>exact x.elim
 | own ts=>obtain⟨vs,l,u⟩:=x;exact⟨_,l⟩
 | dct ks=>obtain⟨vs,l,u⟩:=x;exact⟨_,l⟩
 | dtt ks=>obtain⟨vs,ep,l,u⟩:=x;exact⟨_,l⟩
theorem QA.mine(x:QA K hd O H a c):c.mine=be:=by
 cases c with
 | val _=>exact x.elim
 | rdo _=>exact x.elim
 | own ts=>rfl
 | dct ks=>rfl
 | dtt ks=>rfl
theorem Stt.cell(S:Stt K C ρ σ H n){i:Nat}{c:Cell}(m:c.mine=be)(h:ρ[i]?=ao (ao c)):∃a:aq,σ[i]?=ao (ao (V.ref a))/\QA K C.hd (Own C ρ σ) H a c/\¬C.ext a:=by
 cases c with
 | val _=>cases m
 | rdo _=>cases m
 | own ts=>obtain⟨a,vs,l,o,v,u⟩:=S.own i ts h;exact⟨a,l,⟨vs,o,v⟩,u⟩
 | dct ks=>obtain⟨a,vs,l,o,v,u⟩:=S.dct i ks h;exact⟨a,l,⟨vs,o,v⟩,u⟩
 | dtt ks=>obtain⟨a,vs,ep,l,o,v,u⟩:=S.dtt i ks h;exact⟨a,l,⟨vs,ep,o,v⟩,u⟩
def zsb(K:qF)(C:Ctx)(ρ:En)(σ:St)(H:Hp):Prop:=∀(i:Nat) (ks:List (Key×af)),ρ[i]?=ao (ao (Cell.rdo ks))->∃a l,σ[i]?=ao (ao (V.ref a))/\H a=ao (.dK l)/\UC K C.hd (Own C ρ σ) H l ks/\C.ext a/\C.hd≠ao a
theorem Stt.mk'(len:ρ.length=σ.length)(val:∀(i:Nat) (d:af),ρ[i]?=ao (ao (Cell.val d))->∃v,σ[i]?=ao (ao v)/\Rep K C.hd (Own C ρ σ) H v d)
  (cell:∀(i:Nat) (c:Cell),c.mine=be->ρ[i]?=ao (ao c)->∃a:aq,σ[i]?=ao (ao (V.ref a))/\QA K C.hd (Own C ρ σ) H a c/\¬C.ext a)
  (rdo:zsb K C ρ σ H) (dif:∀(i j:Nat) (c e:Cell) (a:aq),c.mine=be->e.mine=be->ρ[i]?=ao (ao c)->ρ[j]?=ao (ao e)->σ[i]?=ao (ao (V.ref a))->σ[j]?=ao (ao (V.ref a))->i=j)
  (hnd:Hn K C.hd H n) (ext:∀a,C.ext a->MutO (H a)) (hx:∀a,C.hd=ao a->C.ext a):Stt K C ρ σ H n where
 len:=len
 val:=val
 own:=λi ts h=>by obtain⟨a,u,⟨vs,x,o⟩,l⟩:=cell i _ rfl h;exact⟨a,vs,u,x,o,l⟩
 dct:=λi ts h=>by obtain⟨a,u,⟨vs,x,o⟩,l⟩:=cell i _ rfl h;exact⟨a,vs,u,x,o,l⟩
 rdo:=rdo
 dtt:=λi ts h=>by obtain⟨a,u,⟨vs,ep,x,o⟩,l⟩:=cell i _ rfl h;exact⟨a,vs,ep,u,x,o,l⟩
 dif:=dif
 hnd:=hnd
 ext:=ext
 hx:=hx
theorem Stt.put(S:Stt K C ρ σ H n){i:Nat}{t:af}{v:V}(r:Rep K C.hd (Own C ρ σ) H v t):Stt K C (ρ.set i (ao (.val t))) (σ.set i (ao v)) H n:=by
 have sub:∀a o,H a=ao o->Own C (ρ.set i (ao (.val t))) (σ.set i (ao v)) a->Own C ρ σ a:=λa o _ z=>z.elim .inl λz=>.inr (V8 z);have mono:∀{w u},Rep K C.hd (Own C ρ σ) H w u->Rep K C.hd (Own C (ρ.set i (ao (.val t))) (σ.set i (ao v))) H w u:=λq=>q.mono sub λ_ _ _ z=>z;refine .mk' (by simp[S.len]) (λj d h=>?_) (λj c m h=>?_) (λj ks h=>?_) (λj k c e a m1 m2 x y R h4=>?_) S.hnd S.ext S.hx
 rotate_left 2
 rcases Ju h with⟨_,z⟩|⟨e,h'⟩;cases z;obtain⟨a,I,Y,q2,q3,Z⟩:=S.rdo j ks h';exact⟨a,I,Yt e Y,q2,q3.mono sub λ_ _ _ z=>z,Z⟩
 rotate_left 1
 rcases Ju h with⟨e,z⟩|⟨e,h'⟩;cases z;have:=zpH h e;subst e;exact⟨v,zlV (by rw[<- S.len];exact this),mono r⟩;obtain⟨w,x,y⟩:=S.val j d h';exact⟨w,Yt e x,mono y⟩;rcases Ju h with⟨e,z⟩|⟨e,h'⟩;subst z;cases m;obtain⟨a,x,y,R⟩:=S.cell m h';exact⟨a,Yt e x,y.mono sub (λ_ _ _ z=>z) λ_ z=>z,R⟩;rcases Ju x with⟨e,z⟩|⟨e,N⟩;subst z;cases m1;rcases Ju y with⟨U,z⟩|⟨U,L⟩;subst z;cases m2;rcases Ju R with⟨z,_⟩|⟨_,G⟩;exact absurd z e;rcases Ju h4 with⟨z,_⟩|⟨_,J⟩;exact absurd z U;exact S.dif j k c _ a m1 m2 N L G J
theorem V5:Keep C ρ σ H (ρ.set i (ao (.val t))) (σ.set i (ao v)) H:=λa o h _ no=>⟨h,λz=>no (V8 z)⟩
theorem zjH{i:Nat}{c:Cell}{p a:aq}(h:OwnS (ρ.set i (ao c)) (σ.set i (ao (.ref p))) a):OwnS ρ σ a\/a=p:=by obtain⟨j,ds,m,o,u⟩:=h;rcases Ju u with⟨e,z⟩|⟨e,u⟩;cases z;exact .inr rfl;rcases Ju o with⟨z,_⟩|⟨_,o⟩;exact absurd z e;exact .inl ⟨j,ds,m,o,u⟩
theorem Stt.putNew(S:Stt K C ρ σ H n){i:Nat}{c:Cell}{p:aq}{H':Hp}(e:ExtE C.hd H H')(h:Hn K C.hd H' n1)(hp:H p=bc)(r:QA K C.hd (λa=>Own C ρ σ a\/a=p) H' p c) :
  Stt K C (ρ.set i (ao c)) (σ.set i (ao (.ref p))) H' n1:=by
 have S':=S.on e h;have mc:=r.mine;have sub:∀a,Own C (ρ.set i (ao c)) (σ.set i (ao (.ref p))) a->Own C ρ σ a\/a=p:=λa z=>z.elim (λz=>.inl (.inl z)) λz=>(zjH z).elim (λz=>.inl (.inr z)) .inr;have npx:¬C.ext p:=λz=>S.dom (.inl z) hp;have sb:∀a o,H a=ao o->Own C (ρ.set i (ao c)) (σ.set i (ao (.ref p))) a->Own C ρ σ a:=λa o I z=>(sub a z).elim id λz=>by subst z;rw[hp]at I;cases I
 have kp:∀a o,¬Own C ρ σ a->H a=ao o->H' a=ao o:=λa o no I=>e a o I λz=>no (.inl (S.hx a z));have Nv:∀(j:Nat) (d:Cell),d.mine=be->ρ[j]?=ao (ao d)->σ[j]?≠ao (ao (V.ref p)):=λj d m G u=>by obtain⟨a,e1,Y,_⟩:=S.cell m G;rw[u]at e1;cases e1;obtain⟨o,Y⟩:=Y.some;rw[hp]at Y;cases Y
 refine .mk' (by simp[S.len]) (λj d J=>?_) (λj d m J=>?_) (λj ks J=>?_) (λj k c1 c2 a m1 m2 G u h3 R=>?_) h S'.ext S.hx
 rotate_left 2
 rcases Ju J with⟨_,z⟩|⟨v,h'⟩;subst z;cases mc;obtain⟨a,Z,q1,q2,q3,q4,q5⟩:=S.rdo j ks h';exact⟨a,Z,Yt v q1,e a _ q2 q5,q3.mono sb kp,q4,q5⟩
 rotate_left 1
 rcases Ju J with⟨_,z⟩|⟨v,h'⟩;subst z;cases mc;obtain⟨w,G,u⟩:=S.val j d h';exact⟨w,Yt v G,u.mono sb kp⟩;rcases Ju J with⟨v,z⟩|⟨v,h'⟩;subst z;have:=zpH J v;subst v;exact⟨p,zlV (by rw[<- S.len];exact this),r.mono (λa o _ z=>sub a z) (λ_ _ _ z=>z) λ_ z=>z,npx⟩;obtain⟨a,G,u,R⟩:=S.cell m h';exact⟨a,Yt v G,u.mono sb kp (λo I=>e a o I λz=>R (S.hx a z)),R⟩;rcases Ju h3 with⟨e3,z3⟩|⟨e3,N⟩;cases z3;rcases Ju R with⟨L,_⟩|⟨L,x⟩;rw[<- e3,<- L];rcases Ju u with⟨z,_⟩|⟨_,y⟩;exact absurd z L;exact absurd x (Nv k _ m2 y);rcases Ju G with⟨z,_⟩|⟨_,U⟩;exact absurd z e3;rcases Ju R with⟨L,z4⟩|⟨L,x⟩;cases z4;exact absurd N (Nv j _ m1 U);rcases Ju u with⟨z,_⟩|⟨_,y⟩;exact absurd z L;exact S.dif j k _ _ a m1 m2 U y N x
theorem Stt.putOwn(S:Stt K C ρ σ H n)(e:ExtE C.hd H H')(h:Hn K C.hd H' n1)(v:H p=bc)(u:H' p=ao (.lst vs))(r:Reps K C.hd (λa=>Own C ρ σ a\/a=p) H' vs ts) :
  Stt K C (ρ.set i (ao (.own ts))) (σ.set i (ao (.ref p))) H' n1:=S.putNew e h v ⟨vs,u,r⟩
theorem zcZ(e:ExtE C.hd H H')(v:H p=bc):Keep C ρ σ H (ρ.set i (ao c)) (σ.set i (ao (.ref p))) H':=λa o h u no =>
 ⟨e a o h u,λz=>(zjH z).elim no λz=>by subst z;rw[v]at h;cases h⟩
theorem ziY(e:ExtE C.hd H H')(l:H p=bc):Keep C ρ σ H (ρ.set i (ao (.own ts))) (σ.set i (ao (.ref p))) H':=zcZ e l
theorem Stt.chgC(S:Stt K C ρ σ H n){i:Nat}{c c':Cell}{p:aq}{R:HO}(m:c.mine=be)(m':c'.mine=be)(U:ρ[i]?=ao (ao c))(L:σ[i]?=ao (ao (.ref p)))
  (r:∀(O':aq->Prop) (H':Hp),(∀a o,H a=ao o->O' a->Own C ρ σ a)->(∀a o,¬Own C ρ σ a->H a=ao o->H' a=ao o)->H' p=ao R->QA K C.hd O' H' p c') :
  Stt K C (ρ.set i (ao c')) σ (upd H p R) n/\Keep C ρ σ H (ρ.set i (ao c')) σ (upd H p R):=by
 have op:OwnS ρ σ p:=⟨i,c,m,U,L⟩;obtain⟨p',e1,hp,x⟩:=S.cell m U;rw[L]at e1;cases e1;have Nd:∀a,OwnS (ρ.set i (ao c')) σ a->OwnS ρ σ a:=λa ⟨j,d,y,u,v⟩=>by rcases Ju u with⟨e,_⟩|⟨e,u⟩;subst e;rw[L]at v;cases v;exact op;exact⟨j,d,y,u,v⟩
 have sub:∀a o,H a=ao o->Own C (ρ.set i (ao c')) σ a->Own C ρ σ a:=λa o _ z=>z.elim .inl λz=>.inr (Nd a z);have kp:∀a o,¬Own C ρ σ a->H a=ao o->upd H p R a=ao o:=λa o no ho=>by rw[Jl (show a≠p from λz=>no (by rw[z];exact .inr op))];exact ho
 have rd:zsb K C (ρ.set i (ao c')) σ (upd H p R):=λj ks J=>by rcases Ju J with⟨_,z⟩|⟨N,h'⟩;subst z;cases m';obtain⟨a,Z,u,v,q3,G,q5⟩:=S.rdo j ks h';exact⟨a,Z,u,by rw[Jl (show a≠p from λz=>x (by rw[<- z];exact G))];exact v,q3.mono sub kp,G,q5⟩
 refine⟨.mk' (by simp[S.len]) (λj d J=>?_) (λj d y J=>?_) rd (λj k c1 c2 a m1 m2 u v q3 G=>?_) (λa I=>?_) (λa I=>?_) S.hx,λa o h nh no=>⟨by rw[Jl (show a≠p from λz=>no (by rw[z];exact op))];exact h,λz=>no (Nd a z)⟩⟩;rcases Ju J with⟨_,z⟩|⟨N,h'⟩;subst z;cases m';obtain⟨w,u,v⟩:=S.val j d h';exact⟨w,u,v.mono sub kp⟩;rcases Ju J with⟨N,z⟩|⟨N,h'⟩;subst z;subst N;exact⟨p,L,r _ _ sub kp JJ,x⟩;obtain⟨a,u,v,G⟩:=S.cell y h';have:a≠p:=λz=>by subst z;exact N (S.dif i j c d a m y U h' L u)
 exact⟨a,u,v.mono sub kp (λo ho=>by rw[Jl this];exact ho),G⟩;have get:∀(j:Nat) (d:Cell),d.mine=be->(ρ.set i (ao c'))[j]?=ao (ao d)->∃d':Cell,d'.mine=be/\ρ[j]?=ao (ao d'):=λj d y q=>by rcases Ju q with⟨e,_⟩|⟨_,q⟩;subst e;exact⟨_,m,U⟩;exact⟨_,y,q⟩
 obtain⟨d1,md1,g1⟩:=get j c1 m1 u;obtain⟨d2,Y,g2⟩:=get k c2 m2 v;exact S.dif j k d1 d2 a md1 Y g1 g2 q3 G;have ne:a≠p:=λz=>x (by rw[<- z];exact S.hx a I);rcases S.hnd a I with⟨⟨d,m,t,q,rest⟩,l⟩|⟨l,q⟩;exact .inl ⟨⟨d,m,t,by rw[Jl ne];exact q,rest⟩,l⟩;exact .inr ⟨l,q.upd ne (S.lst (.inr op))⟩;by_cases z:a=p;subst z;exact absurd I x;rw[Jl z];exact S.ext a I
theorem Stt.chg(S:Stt K C ρ σ H n)(u:ρ[i]?=ao (ao (.own ts)))(v:σ[i]?=ao (ao (.ref p)))(r:Reps K C.hd (Own C ρ σ) H ws us) :
  Stt K C (ρ.set i (ao (.own us))) σ (upd H p (.lst ws)) n/\Keep C ρ σ H (ρ.set i (ao (.own us))) σ (upd H p (.lst ws)):=S.chgC rfl rfl u v λ_ _ a b x=>⟨ws,x,r.mono a b⟩
theorem Stt.freeze(S:Stt K C ρ σ H n){i:Nat}{ts:qD}(U:ρ[i]?=ao (ao (.own ts))):Stt K C (ρ.set i (ao (.val (.list ts)))) σ H n/\Keep C ρ σ H (ρ.set i (ao (.val (.list ts)))) σ H:=by
 obtain⟨p,vs,Y,hp,Z,N⟩:=S.own i ts U;have R:∀a,OwnS (ρ.set i (ao (.val (.list ts)))) σ a->OwnS ρ σ a/\a≠p:=λa ⟨j,ds,m,u,x⟩=>by rcases Ju u with⟨_,z⟩|⟨e,u⟩;subst z;cases m;exact⟨⟨j,ds,m,u,x⟩,λz=>by subst z;exact e (S.dif i j (.own ts) ds a rfl m U u Y x)⟩
 have sub:∀a o,H a=ao o->Own C (ρ.set i (ao (.val (.list ts)))) σ a->Own C ρ σ a:=λa o _ z=>z.elim .inl λz=>.inr (R a z).1;have rd:zsb K C (ρ.set i (ao (.val (.list ts)))) σ H:=λj ks G=>by rcases Ju G with⟨_,z⟩|⟨J,h'⟩;cases z;obtain⟨a,L,u,x,I,y⟩:=S.rdo j ks h';exact⟨a,L,u,x,I.mono sub λ_ _ _ z=>z,y⟩
 refine⟨.mk' (by simp[S.len]) (λj d G=>?_) (λj d m G=>?_) rd (λj k c1 c2 a m1 m2 u x I y=>?_) S.hnd S.ext S.hx,λa o h _ no=>⟨h,λz=>no (R a z).1⟩⟩;rcases Ju G with⟨J,z⟩|⟨J,h'⟩;cases z;subst J;exact⟨.ref p,Y,.lst hp (λz=>z.elim N λz=>(R p z).2 rfl) (Z.mono sub λ_ _ _ z=>z)⟩;obtain⟨w,u,x⟩:=S.val j d h';exact⟨w,u,x.mono sub λ_ _ _ z=>z⟩;rcases Ju G with⟨_,z⟩|⟨J,h'⟩;subst z;cases m;obtain⟨a,u,I,y⟩:=S.cell m h';exact⟨a,u,I.mono sub (λ_ _ _ z=>z) λ_ z=>z,y⟩;rcases Ju u with⟨_,z⟩|⟨_,g1⟩;subst z;cases m1;rcases Ju x with⟨_,z⟩|⟨_,g2⟩;subst z;cases m2;exact S.dif j k _ _ a m1 m2 g1 g2 I y
end
section
variable{X:Cx}{a b c e:a8}{es rest:List a8}{d da db dc:DTE}{ds:DTA}{dt:DTT}{t u:DTS}{st:fA}{sts sa sb:List fA}{pos p:Pos}{k:Nat}{x:Str}
def zqv:DTS:=λD l n=>D.nx l n
def sSeq(t u:DTS):DTS:=λD l n=>t { D with nx:=u D } l n
theorem JB:DSs X [] zqv:=⟨_,ziG,λC l σ H n D o S h g=>g.nx l σ H n h S Keep.refl⟩
theorem Jb(o:DS X st t)(v:DSs X sts u):DSs X (st::sts) (sSeq t u):=by obtain⟨R,pa,o⟩:=o;obtain⟨U,y,v⟩:=v;refine⟨_,Qv pa y,λC N σ H n D J S h g=>?_⟩;exact o C N σ H n _ _ S h ⟨λl σ' H' I L G k=>v C l σ' H' I D J G L (g.on k),g.rt,g.bk,g.ct,g.xr⟩
theorem Jc(l:DS X st t):DSs X [st] t:=by obtain⟨o,pa,l⟩:=l;exact⟨_,ZN pa,l⟩
def ZP(i:Nat)(t:DTS):DTS:=λD y n=>match y[i]? with|some (ao (.own ts))=>t D (y.set i (ao (.val (.list ts)))) n|_=>False
theorem Q6(i:Nat)(l:DSs X sts t):DSs X sts (ZP i t):=by obtain⟨G,pa,l⟩:=l;refine⟨_,pa,λC I σ H n D o S h g=>?_⟩;unfold ZP at h;split at h;rename_i ts y;obtain⟨v,kp⟩:=S.freeze y;exact l C _ σ H n D o v h (g.on kp);exact h.elim
def sRet(d:DTE):DTS:=λD o n=>d o n λt l=>D.rt t l
theorem Je(h:DE X e d):DS X (.Return (ao e) pos) (sRet d):=by obtain⟨U,pa,h⟩:=h;refine⟨_,ZD pa,λC N σ H n D Y S hd g=>?_⟩;refine h C N σ H n _ _ S hd λt I v H' r J L q=>?_;exact g.rt t I v H' r L (λa o y G _=>J a o y G) (q.mono (λ_ _ _ z=>.inl z) λ_ _ _ z=>z)
def sIf(c:DTT)(t u:DTS):DTS:=λD l n=>c l n λb o=>if b=be then t D l o else u D l o
theorem Jw(hc:DT X c dt)(o:DSs X sa t)(v:DSs X sb u):DS X (.If c sa sb pos) (sIf dt t u):=by
 obtain⟨Y,pc,hc⟩:=hc;obtain⟨U,pa,o⟩:=o;obtain⟨Z,R,v⟩:=v;refine⟨_,zqL pc pa R,λC y σ H n D L S hd g=>?_⟩;refine hc C y σ H n _ _ S hd λb J G r l N=>?_;cases b with
 | true=>exact iteT (o C y σ G J D L (S.on l N) (by simpa using r) (g.on l.keep))
 | false=>exact iteF (v C y σ G J D L (S.on l N) (by simpa using r) (g.on l.keep))
def sSet(i:Nat)(d:DTE):DTS:=λD o n=>d o n λt y=>D.nx (o.set i (ao (.val t))) y
theorem zuP(G:X.N.Nodup)(hi:X.N[i]?=ao x)(hx:Loc X.env.scope x)(h:DE X e d)(o:swapsWith e (ao (.Name x pos')) pos.line X.env=pure bj:=by rfl)(hf:Fnl X x:=by walk_at "F") :
  DS X (.Assign [.Name x pos'] e pos) (sSet i d):=by
 obtain⟨L,pa,h⟩:=h;refine⟨_,Qr G hi hx pa o hf,λC J σ H n D R S hd g=>?_⟩;refine h C J σ H n _ _ S hd λt y v H' r l I q=>?_;exact g.nx _ _ H' y r ((S.on l I).put q) (l.keep.trans V5)
def sOwn(i:Nat)(d:DTA):DTS:=λD l n=>d l n λts v=>D.nx (l.set i (ao (.own ts))) v
theorem QY(I:X.N.Nodup)(hi:X.N[i]?=ao x)(hx:Loc X.env.scope x)(h:DN X e ds)(y:swapsWith e (ao (.Name x pos')) pos.line X.env=pure bj:=by rfl)(hf:Fnl X x:=by walk_at "F") :
  DS X (.Assign [.Name x pos'] e pos) (sOwn i ds):=by
 obtain⟨R,pa,h⟩:=h;refine⟨_,Qr I hi hx pa y hf,λC L σ H n D U S hd g=>?_⟩;refine h C L σ H n _ _ S hd λts G p vs H' r v J o l q=>?_;exact g.nx _ _ H' G r (S.putOwn v J o l q) (ziY v o)
def sAug(i:Nat)(f:Int->Int->Int)(d:DTE):DTS:=λD o n=>match o[i]? with
 | some (ao (.val (.int j)))=>d o n λt y=>match t with|.int k=>D.nx (o.set i (ao (.val (.int (f j k))))) y|_=>False
 | _=>False
theorem znj(J:X.N.Nodup)(hi:X.N[i]?=ao x)(hx:Loc X.env.scope x)(h:DE X e d)(G:PIp X op (ipI f))(hf:Fnl X x:=by walk_at "F") :
  DS X (.AugAssign (.Name x pos') op e pos) (sAug i f d):=by
 obtain⟨Y,pa,h⟩:=h;refine⟨_,zs6 J hi hx pa G hf,λC U σ H n D Z S hd g=>?_⟩;unfold sAug at hd;split at hd;rename_i j o;obtain⟨v,L,R⟩:=S.val i _ o;refine⟨v,L,h C U σ H n _ _ S hd λt y w H' r l I q=>?_⟩;cases t with
 | int k=>exact⟨j,k,R.intI,q.intI,g.nx _ _ H' y r ((S.on l I).put (.int _)) (l.keep.trans V5)⟩
 | _=>exact r.elim
 exact hd.elim
abbrev DTG:=af->En->(En->Prop)->Prop
abbrev DTGs:=List af->En->(En->Prop)->Prop
def DG(X:Cx)(y:a8)(is:List Nat)(d:DTG):Prop:=(∀t o R,d t o R->∃l,R l)/\∃g,PG X y g/\∀(C:Ctx) (o:En) (σ:St) (H:Hp) (n:Nat) (v:V) (t:af) (Q:St->Hp->Prop) (R:En->Prop),Stt X.K C o σ H n->Rep X.K C.hd (Own C o σ) H v t->d t o R ->
 (∀l σ',R l->Stt X.K C l σ' H n->Keep C o σ H l σ' H->(∀j,j∉is->σ'[j]?=σ[j]?)->σ'.length=σ.length->Q σ' H)->g v σ H Q
def DGs(X:Cx)(v:List a8)(is:List Nat)(d:DTGs):Prop:=(∀ts o R,d ts o R->ts.length=v.length)/\(∀t o R,d t o R->∃l,R l)/\∃g,PGs X v g/\∀(C:Ctx) (o:En) (σ:St) (H:Hp) (n:Nat) (vs:List V) (ts:qD) (Q:St->Hp->Prop) (R:En->Prop),Stt X.K C o σ H n->Reps X.K C.hd (Own C o σ) H vs ts->d ts o R ->
 (∀l σ',R l->Stt X.K C l σ' H n->Keep C o σ H l σ' H->(∀j,j∉is->σ'[j]?=σ[j]?)->σ'.length=σ.length->Q σ' H)->g vs σ H Q
def JX(i:Nat):DTG:=λt o R=>R (o.set i (ao (.val t)))
def Uc:DTGs:=λts l R=>match ts with|[]=>R l|_=>False
def Qt(d:DTG)(ds:DTGs):DTGs:=λts o R=>match ts with|t::ts=>d t o λl=>ds ts l R|[]=>False
def Ud(ds:DTGs):DTG:=λt o R=>match t with|.tuple ts=>ds ts o R|_=>False
theorem zrQ(y:X.N.Nodup)(hi:X.N[i]?=ao x)(hx:Loc X.env.scope x)(hf:Fnl X x:=by walk_at "F"):DG X (.Name x pos) [i] (JX i):=by refine⟨λt G R h=>⟨_,h⟩,_,zqS y hi hx hf,λC G σ H n v t Q R S r hd l=>?_⟩;exact l _ _ hd (S.put r) V5 (λj o=>by rw[dY (λz=>o (by simp[z]))]) (by simp)
theorem JP:DGs X [] [] Uc:=by
 refine⟨λts l R h=>?_,λts l R h=>?_,_,zqR,λC l σ H n vs ts Q R S r hd o=>?_⟩;cases ts with
 | nil=>rfl
 | cons _ _=>exact h.elim
 cases ts with
 | nil=>exact⟨_,h⟩
 | cons _ _=>exact h.elim
 cases r with
 | nil=>exact⟨rfl,o _ _ hd S Keep.refl (λ_ _=>rfl) rfl⟩
 | cons _ _=>exact hd.elim
theorem Jp(N:DG X e is g)(Y:DGs X es js gs)(hs:(assignEach (e::es) X.env).map (·.2)=assign e X.env::(assignEach es X.env).map (·.2):=by rfl):DGs X (e::es) (is++js) (Qt g gs):=by
 obtain⟨Z,ga,pa,N⟩:=N;obtain⟨l2,w2,gb,pb,Y⟩:=Y;refine⟨λts v R h=>?_,λts v R h=>?_,_,zoH pa pb hs,λC v σ H n vs ts Q R S r hd hq=>?_⟩;cases ts with
 | nil=>exact h.elim
 | cons t ts =>obtain⟨l,h'⟩:=Z t v _ h;simp[l2 ts l R h']
 cases ts with
 | nil=>exact h.elim
 | cons t ts =>obtain⟨l,h'⟩:=Z t v _ h;exact w2 ts l R h'
 cases r with
 | nil=>exact hd.elim
 | cons r rs =>refine⟨_,_,rfl,N C v σ H n _ _ _ _ S r hd λl σ' hr S' kp hj hl=>?_⟩;refine Y C l σ' H n _ _ _ _ S' (kp.reps S.hx rs) hr λI U y S2 G J L=>?_;exact hq I U y S2 (kp.trans G) (λj o=>by rw[J j (λz=>o (by simp[z])),hj j (λz=>o (by simp[z]))]) (L.trans hl)
theorem JU(hc:X.calm=be)(h:DGs X es is gs)(N:(assignEach es X.env).length=es.length:=by rfl)(y:(assignEach es X.env).findIdx? (·.1)=bc:=by rfl):DG X (.Tuple es k pos) is (Ud gs):=by
 obtain⟨l,w,g,L,h⟩:=h;refine⟨λt o R h=>?_,_,ztc hc L N y,λC o σ H n v t Q R S r hd J=>?_⟩;cases t with
 | tuple ts=>exact w ts o R h
 | _=>exact h.elim
 cases t with
 | tuple ts =>obtain⟨p,vs,rfl,U,G⟩:=r.tupI;exact⟨p,vs,rfl,U,by rw[G.length];exact l ts o R hd,h C o σ H n vs ts Q R S G hd J⟩
 | _=>exact hd.elim
def sAsg(d:DTE)(g:DTG):DTS:=λD o n=>d o n λt v=>g t o λl=>D.nx l v
theorem Uk(h:DE X e d)(o:DG X tg is g)(N:swapsWithSole [tg] e pos.line X.env=pure bj:=by rfl)(hw:swappedStores [tg] e X.env=pure bc:=by rfl)
  (Y:(assignEach [tg] X.env).map (·.2)=[assign tg X.env]:=by rfl):DS X (.Assign [tg] e pos) (sAsg d g):=by
 obtain⟨Z,pa,h⟩:=h;obtain⟨w,gb,J,o⟩:=o;refine⟨_,VM pa J N hw Y,λC I σ H n D D' S hd gd=>?_⟩;refine h C I σ H n _ _ S hd λt y v H' r G U q=>?_;exact o C I σ H' y v t _ _ (S.on G U) q r λl σ' L R kp _ _=>gd.nx l σ' H' y L R (G.keep.trans kp)
def ZO(i:Nat)(d:DTE):DTS:=λD l n=>match l[i]? with
 | some (ao (.own ts))=>d l n λt v=>ts.length<16777216/\D.nx (l.set i (ao (.own (ts++[t])))) v
 | _=>False
theorem Qw(i:Nat){p1 p2 p3:Pos}(h:DE X e d)(hN:X.N[i]?=ao x:=by rfl)(hv:Vis X.env.scope x:=by walk_at "V")(hd:Ndb x:=by rfl)
  (L:Ncd x:=by rfl) (hs:swapsWith (.Call (.Attribute (.Name x p1) "append" p2) [e] [] p3) bc pos.line X.env=pure bj:=by rfl)
  (Mk:attributeBase (.Name x p1) "append" X.env (eval (.Name x p1) X.env)=eval (.Name x p1) X.env:=by rfl)
  (MN:((backTo p3 (starEach [e] X.env)).all (λx=>!x.1)&&(backToKw p3 (keywordEach [] X.env)).all (λx=>x.1.isSome)
   && decide ([e].length+([]:List ie).length+(if ([]:List ie).isEmpty then 0 else 1)<30))=be:=by rfl)
  (Ml:(p2.endLine == p3.line)=be:=by rfl) (I:starEach [e] X.env=[(bj,eval e X.env)]:=by rfl):DS X (.Expr (.Call (.Attribute (.Name x p1) "append" p2) [e] [] p3) pos) (ZO i d):=by
 obtain⟨ta,pa,h⟩:=h;refine⟨_,zmg (Vu nu PySem.F.slot_list_append PySem.F.type_list_append zh1 (Qq hN hv hd L) (Qj pa Qz I) Mk MN Ml I rfl) hs,λC ρ σ H n D D' S hd g=>?_⟩;unfold ZO at hd;split at hd;rename_i ts R;obtain⟨p,vs,Z,h2,h3,h4⟩:=S.own i ts R;refine⟨.ref p,Z,.inl ⟨rfl,_,SqL.of h2⟩,?_⟩;refine h C ρ σ H n _ _ S hd λt n' v H' r e1 hn q=>?_;have S1:=S.on e1 hn;obtain⟨p',Y,J,U,G,h4'⟩:=S1.own i ts R;rw[Z]at J;cases J;refine⟨p,Y,v,rfl,rfl,U,by rw[G.length];exact r.1,?_⟩;obtain⟨S2,k2⟩:=S1.chg R Z (G.append (.cons q .nil));exact g.nx _ _ _ n' r.2 S2 (e1.keep.trans k2);exact hd.elim
def sPut(i:Nat)(C d:DTE):DTS:=λD l n=>d l n λt v=>match l[i]? with
 | some (ao (.own ts))=>C l v λj y=>match j with|.int j=>(match ixN ts.length j with|some k=>D.nx (l.set i (ao (.own (ts.set k t)))) y|none=>False)|_=>False
 | _=>False
theorem zuQ(i:Nat){dj:DTE}{p1 p2:Pos}(hj:DE X b dj)(h:DE X e d)(hN:X.N[i]?=ao x:=by rfl)(hv:Vis X.env.scope x:=by walk_at "V")(hd:Ndb x:=by rfl)
  (J:Ncd x:=by rfl) (hs:swapsWithSole [.Subscript (.Name x p1) b p2] e pos.line X.env=pure bj:=by rfl) (hw:swappedStores [.Subscript (.Name x p1) b p2] e X.env=pure bc:=by rfl)
  (y:(assignEach [.Subscript (.Name x p1) b p2] X.env).map (·.2)=[assign (.Subscript (.Name x p1) b p2) X.env]:=by rfl)
  (Nj:PG X (.Subscript (.Name x p1) b p2)=PG X (.Subscript (.Name x p1) b p2):=rfl) (pg:∀{to ti:TE} {t:TSet},PE X (.Name x p1) to->PE X b ti->PSet X t->PG X (.Subscript (.Name x p1) b p2) (L2.gSub to ti t):=by intro _ _ _ y h2 h3;exact pg_sub y h2 h3) :
  DS X (.Assign [.Subscript (.Name x p1) b p2] e pos) (sPut i dj d):=by
 obtain⟨ta,pa,h⟩:=h;obtain⟨tj,pj,hj⟩:=hj;refine⟨_,VM pa (pg (Qq hN hv hd J) pj set_list) hs hw y,λC ρ σ H n D D' S hd g=>?_⟩;refine h C ρ σ H n _ _ S hd λt n1 v H1 r e1 hn q=>?_;have U:=S.on e1 hn;split at r;rename_i ts L;obtain⟨p,vs,y,h2,h3,h4⟩:=U.own i ts L;refine⟨.ref p,y,hj C ρ σ H1 n1 _ _ U r λj n2 w H2 l Y R q2=>?_⟩;have S2:=U.on Y R;cases j with
 | int j =>
  have l:(match ixN ts.length j with|some k=>D'.nx (ρ.set i (ao (.own (ts.set k t)))) n2|none=>False):=l;cases ek:ixN ts.length j with
  | none=>rw[ek]at l;exact l.elim
  | some m =>rw[ek]at l;obtain⟨p',vs',I,Z,G,h4'⟩:=S2.own i ts L;rw[y]at I;cases I;refine⟨p,vs',j,m,rfl,q2.intI,Z,by rw[G.length];exact ek,?_⟩;obtain⟨S3,k3⟩:=S2.chg L y (G.set (Y.rep S.hx q) m);exact g.nx _ _ _ n2 l S3 ((e1.trans Y).keep.trans k3)
 | _=>exact l.elim
 exact r.elim
def zl3(c:DTT)(G:DTS):DTS:=λD o n=>∃W:Nat->En->Nat->Prop,(∃m,W m o n)/\∀m o n,W m o n ->
 c o n λb C=>if b=be then G { D with nx:=λl y=>∃v,v<m/\W v l y,ct:=λl y=>∃v,v<m/\W v l y,bk:=D.nx } o C else D.nx o C
theorem V1(hp:sH (model X.prog X.w) X.A X.env X.xe)(hc:DT X c dt)(hb:DSs X sa t):DS X (.While c sa [] pos) (zl3 dt t):=by
 obtain⟨tc,pc,hc⟩:=hc;obtain⟨tb,pb,hb⟩:=hb;refine⟨_,zoE hp pc pb,λC ρ σ H n D D' S hd g=>?_⟩;obtain⟨W,⟨m0,w0⟩,turn⟩:=hd;refine⟨λm L H1=>∃G Z,W m G Z/\Stt X.K C G L H1 Z/\Keep C ρ σ H G L H1,⟨m0,ρ,n,w0,S,Keep.refl⟩,?_⟩;rintro m L H1 ⟨G,Z,w1,S1,k1⟩;refine hc C G L H1 Z _ _ S1 (turn m G Z w1) λb n2 H2 r e2 hn2=>?_;have S2:=S1.on e2 hn2;have R:=k1.trans e2.keep;cases b with
 | true =>refine iteT ⟨λσ' H'=>∃J,J<m/\∃y I,W J y I/\Stt X.K C y σ' H' I/\Keep C ρ σ H y σ' H',λσ' H' ⟨J,hm,z⟩=>⟨J,hm,z⟩,?_⟩;refine hb C G L H2 n2 _ { D' with nx:=λy I=>∃J,J<m/\W J y I,ct:=λy I=>∃J,J<m/\W J y I,bk:=D'.nx } S2 (by simpa using r) ⟨?_,λt I v H' h hn N r=>g.rt t I v H' h hn (λa o ha U no=>?_) r,?_,?_,λc I H' h hn N=>g.xr c I H' h hn λa o ha U no=>N a o (R a o ha U no).1 U (R a o ha U no).2⟩;rintro y σ' H' I ⟨J,hm,w'⟩ Y N;exact⟨J,hm,y,I,w',Y,R.trans N⟩;obtain⟨q1,q2⟩:=R a o ha U no;exact N a o q1 U q2;intro y σ' H' I h' Y N;exact g.nx y σ' H' I h' Y (R.trans N);rintro y σ' H' I ⟨J,hm,w'⟩ Y N;exact⟨J,hm,y,I,w',Y,R.trans N⟩
 | false=>exact iteF (g.nx G L H2 n2 (by simpa using r) S2 R)
end
def ItOk(K:qF)(hd:Option aq)(P O:aq->Prop)(H:Hp)(J:It)(ts:qD):Prop:=∀(u:aq->Prop) (l:Hp),(∀a o,H a=ao o->P a->l a=ao o)->(∀a o,H a=ao o->¬O a->¬u a)->(∀a,u a->l a≠bc) ->
 (∀i t,ts[i]?=ao t->J.go i l/\∀x v,J.yld i l x v->Same l v/\Rep K hd u v x t)/\J.stop ts.length l
def DI(X:Cx)(u iter:a8)(d:DTA):Prop:=∃wi,PI X u iter wi/\∀(C:Ctx) (l:En) (σ:St) (H:Hp) (n:Nat) (Q:It->Hp->Prop) (R:qD->Nat->Prop),Stt X.K C l σ H n->d l n R ->
 (∀ts o J H',R ts o->ExtE C.hd H H'->Hn X.K C.hd H' o->ItOk X.K C.hd (λa=>¬Own C l σ a) (Own C l σ) H' J ts->Q J H')->wi σ H Q
def DIL(X:Cx)(u iter:a8)(d:DTA):Prop:=∃wi,PI X u iter wi/\∀(C:Ctx) (l:En) (σ:St) (H:Hp) (n:Nat) (Q:It->Hp->Prop) (R:qD->Nat->Prop),Stt X.K C l σ H n->d l n R ->
 (∀ts o J H',R ts o->ExtE C.hd H H'->Hn X.K C.hd H' o->ItOk X.K C.hd (λa=>C.hd≠ao a) (Own C l σ) H' J ts->Q J H')->wi σ H Q
section
variable{X:Cx}{a b c e tg iter:a8}{es rest:List a8}{d da db dc:DTE}{ds di:DTA}{dt:DTT}{t u:DTS}{st:fA}{sts sa sb:List fA}{pos p:Pos}{k:Nat}{x:Str}
theorem dil(h:DI X tg iter di):DIL X tg iter di:=by obtain⟨wi,pi,h⟩:=h;refine⟨wi,pi,λC ρ σ H n Q R S hd y=>h C ρ σ H n Q R S hd λts G J H' r L N it=>y ts G J H' r L N ?_⟩;exact λO2 I Y Z U=>it O2 I (λa o v no=>Y a o v λz=>no (.inl (S.hx a z))) Z U
theorem Reps.getP{K:qF}{hd:Option aq}{O:aq->Prop}{H:Hp}{vs ts}{i:Nat}{t}{x:V}(r:Reps K hd O H vs ts)(h:ts[i]?=ao t)(hx:vs[i]?=ao x):Rep K hd O H x t:=by obtain⟨v,l,o⟩:=r.get h;rw[hx]at l;cases l;exact o
theorem VU{K:qF}{hd:Option aq}{P O:aq->Prop}{H:Hp}{q:aq}{vs ts}(N:H q=ao (.lst vs))(Y:P q)(R:∀a,¬O a->P a)(r:Reps K hd O H vs ts):ItOk K hd P O H (Itl K q) ts:=by intro Z S L U _;have y:=L q _ N Y;have J:Reps K hd Z S vs ts:=r.mono (λa o C z=>bV λno=>U a o C no z) λa o no C=>L a o C (R a no);refine⟨λi t I=>?_,⟨vs,.of y,by rw[r.length];exact aB _⟩⟩;obtain⟨v,ev,rv⟩:=J.get I;refine⟨⟨vs,v,.of y,ev⟩,λx H3 G=>?_⟩;obtain⟨rfl,G⟩:=G;exact⟨Same.refl _,J.getP I (G vs (.of y))⟩
theorem zpW{K:qF}{hd:Option aq}{P O:aq->Prop}{H:Hp}{v:V}{ts}(S:∀a,¬O a->P a)(r:Rep K hd O H v (.tuple ts)):∃q vs,v=.ref q/\SqT K H q vs/\ItOk K hd P O H (Itt K q) ts:=by
 have key:∀q vs,Reps K hd O H vs ts->(∀(G:aq->Prop) (C:Hp),(∀a o,H a=ao o->P a->C a=ao o)->(∀a o,H a=ao o->¬O a->¬G a)->SqT K C q vs)->ItOk K hd P O H (Itt K q) ts:=by intro q vs r Y G C I U _;have y:=Y G C I U;have R:Reps K hd G C vs ts:=r.mono (λa o J z=>bV λno=>U a o J no z) λa o no J=>I a o J (S a no);refine⟨λi t N=>?_,⟨vs,y,by rw[r.length];exact aB _⟩⟩;obtain⟨v,ev,Z⟩:=R.get N;refine⟨⟨vs,v,y,ev⟩,λx H3 L=>?_⟩;obtain⟨rfl,L⟩:=L;exact⟨Same.refl _,R.getP N (L vs y)⟩
 cases r with
 | @tup q vs ds h o r=>exact⟨q,vs,rfl,.inl (.inl h),key q vs r λG C I _=>.inl (.inl (I q _ h (S q o)))⟩
 | @tupS q vs ds h r=>exact⟨q,vs,rfl,h.sq,key q vs r λG C _ _=>h.sq⟩
def dItL(d:DTE):DTA:=λv n R=>d v n λt o=>match t with|.list ts=>R ts o|_=>False
def dItT(d:DTE):DTA:=λv n R=>d v n λt o=>match t with|.tuple ts=>R ts o|_=>False
theorem zi7(h:DE X iter d):DI X tg iter (dItL d):=by
 obtain⟨U,pa,h⟩:=h;refine⟨_,zmn pa,λC N σ H n Q R S hd y=>?_⟩;refine h C N σ H n _ _ S hd λt G v H' r I J q=>?_;cases t with
 | list ts =>obtain⟨p,vs,rfl,l,no,L⟩:=q.lstI;exact⟨p,rfl,⟨vs,.of l⟩,y ts G _ H' r I J (VU l no (λ_ z=>z) L)⟩
 | _=>exact r.elim
theorem zpn(h:DL X iter d):DIL X tg iter (dItL d):=by
 obtain⟨ta,pa,h⟩:=h;refine⟨_,zmn pa,λC Z σ H n Q R S hd J=>?_⟩;refine h C Z σ H n _ _ S hd λt N v H' r U Y q=>?_;cases t with
 | list ts =>
  rcases q with q|⟨p,vs,ds,rfl,I,y,G,L⟩|⟨p,zs,ep,ks,rfl,I,y,G,L⟩
  rotate_left 2
  cases I;obtain⟨p,vs,rfl,y,no,G⟩:=q.lstI;exact⟨p,rfl,⟨vs,.of y⟩,J ts N _ H' r U Y (VU y (λz=>no (.inl (S.hx p z))) (λa no z=>no (.inl (S.hx a z))) G)⟩;cases I;exact⟨p,rfl,⟨vs,.of y⟩,J ts N _ H' r U Y (VU y L (λa no z=>no (.inl (S.hx a z))) G)⟩
 | _=>exact r.elim
theorem Qd(h:DE X iter d):DI X tg iter (dItT d):=by
 obtain⟨L,pa,h⟩:=h;refine⟨_,zs9 pa,λC l σ H n Q R S hd o=>?_⟩;refine h C l σ H n _ _ S hd λt y v H' r G I q=>?_;cases t with
 | tuple ts =>obtain⟨p,vs,rfl,J,it⟩:=zpW (P:=λa=>¬Own C l σ a) (λ_ z=>z) q;exact⟨p,rfl,⟨vs,J⟩,o ts y _ H' r G I it⟩
 | _=>exact r.elim
def JY(lo:Int)(n:Nat):List af:=(eY n).map λ(i:Nat)=>cg (lo+(i:Int))
theorem zjZ{K:qF}{hd:Option aq}{P O:aq->Prop}{H:Hp}{lo:Int}{m:Nat}:ItOk K hd P O H (Itr lo m) (JY lo m):=by intro y C _ _ _;refine⟨λi t o=>?_,by show m<=(JY lo m).length;simp[JY]⟩;unfold JY at o;rw[aX]at o;by_cases hi:i<m;rw[pK hi]at o;cases o;refine⟨hi,λx G v=>?_⟩;obtain⟨rfl,rfl⟩:=v;exact⟨Same.refl _,.int _⟩;rw[cc (by simp;omega)]at o;cases o
def Y7(d:DTE):DTA:=λo n R=>d o n λt l=>match t with|.int j=>(-(2 ^ 62)<=j/\j<2 ^ 62)/\R (JY 0 j.toNat) l|_=>False
def Y8(G y:DTE):DTA:=λl n R=>G l n λt v=>y l v λu C=>match t,u with|.int i,.int j=>(-(2 ^ 62)<=i/\i<2 ^ 62/\-(2 ^ 62)<=j/\j<2 ^ 62)/\R (JY i (j - i).toNat) C|_,_=>False
theorem Vc(G:X.mg "range" = bc) (h:DE X a d) (J:Gl X "range":=by rfl) (o:starEach [a] X.env=[(bj,eval a X.env)]:=by rfl):DI X tg (.Call (.Name "range" p) [a] [] pos) (Y7 d):=by
 obtain⟨Z,pa,h⟩:=h;refine⟨_,zmm J G (Qj pa Qz o) o,λC Y σ H n Q R S hd y=>?_⟩;refine h C Y σ H n _ _ S hd λt I v H' r L U q=>?_;cases t with
 | int j =>rw[q.intI];exact⟨j,rfl,r.1.1,r.1.2,y _ I _ H' r.2 L U zjZ⟩
 | _=>exact r.elim
theorem znp(Z:X.mg "range" = bc) (h:DE X a da) (h':DE X b db) (hg:Gl X "range":=by rfl) (I:starEach [a,b] X.env=[(bj,eval a X.env),(bj,eval b X.env)]:=by rfl) (o:starEach [b] X.env=[(bj,eval b X.env)]:=by rfl):DI X tg (.Call (.Name "range" p) [a,b] [] pos) (Y8 da db):=by
 obtain⟨ta,pa,h⟩:=h;obtain⟨tb,U,h'⟩:=h';refine⟨_,zml hg Z (Qj pa (Qj U Qz o) (by rw[I,o])) I o,λC L σ H n Q R S hd Y=>?_⟩;refine h C L σ H n _ _ S hd λt n' v H' r J hn q=>?_;refine h' C L σ H' n' _ _ (S.on J hn) r λu n2 w H2 y e2 G q2=>?_;cases t with
 | int i =>
  cases u with
  | int j =>rw[q.intI,q2.intI];exact⟨i,j,rfl,y.1,Y _ n2 _ H2 y.2 (J.trans e2) G zjZ⟩
  | _=>exact y.elim
 | _=>exact y.elim
def forP(g:DTG)(o:DTS)(D:JH):qD->En->Nat->Prop
 | [],ρ,n=>D.nx ρ n
 | t::ts,ρ,n=>g t ρ λl=>o { D with nx:=forP g o D ts,ct:=forP g o D ts,bk:=D.nx } l n
def sFor(di:DTA)(g:DTG)(v:DTS):DTS:=λD l n=>di l n λts o=>forP g v D ts l o
theorem Qf(hp:sH (model X.prog X.w) X.A X.env X.xe)(hc:X.calm=be)(hi:DI X tg iter di)(hg:DG X tg is g)(hb:DSs X sa t)
  (hs:Fsi X iter:=by intro _;rfl):DS X (.For tg iter sa [] pos) (sFor di g t):=by
 obtain⟨wi,pi,hi⟩:=hi;obtain⟨_,gg,pg,hg⟩:=hg;obtain⟨tb,pb,hb⟩:=hb;refine⟨_,zs5 hp hc pi pg pb hs,λC ρ σ H n D Z S hd gd=>?_⟩;refine hi C ρ σ H n _ _ S hd λts n1 J H1 r e1 hn it=>?_;have S1:=S.on e1 hn;refine⟨λi m L H2=>m=ts.length - i/\i<=ts.length/\∃I n2,forP g t Z (ts.drop i) I n2/\Stt X.K C I L H2 n2/\Keep C ρ σ H1 I L H2,⟨ts.length,by simp,eD _,ρ,n1,by simpa using r,S1,Keep.refl⟩,?_⟩;rintro i m L H2 ⟨rfl,hi',I,n2,f2,S2,k2⟩;have itq:=it (Own C I L) H2 (λa o U no=>(k2 a o U (λz=>no (.inl (S.hx a z))) λz=>no (.inr z)).1) (λa o U no z=>z.elim (λz=>no (.inl z)) λz=>(k2 a o U (λy=>no (.inl (S.hx a y))) λy=>no (.inr y)).2 z) (λa=>S2.dom);by_cases hlt:i<ts.length;have et:ts[i]?=ao ts[i]:=au hlt;obtain⟨go,yl⟩:=itq.1 i _ et;rw[bG hlt]at f2;refine .inr ⟨go,λσ' H'=>∃G N,forP g t Z (ts.drop (i+1)) G N/\Stt X.K C G σ' H' N/\Keep C ρ σ H1 G σ' H',λσ' H' z=>⟨ts.length - (i+1),by omega,rfl,hlt,z⟩,λx H3 hy=>?_⟩;obtain⟨sm,rx⟩:=yl x H3 hy;have S3:=S2.on sm.ext (S2.hnd.same sm);have k3:Keep C ρ σ H1 I L H3:=k2.trans (Same.ext sm:ExtE C.hd H2 H3).keep;refine hg C I L H3 n2 x _ _ _ S3 rx f2 λρ4 σ4 r4 S4 k4 _ _=>?_;have k5:=k3.trans k4;refine hb C ρ4 σ4 H3 n2 _ { Z with nx:=forP g t Z (ts.drop (i+1)),ct:=forP g t Z (ts.drop (i+1)),bk:=Z.nx } S4 r4 ⟨λG σ' H' N h' S' R=>⟨G,N,h',S',k5.trans R⟩,λt N v H' h Y R rp=>gd.rt t N v H' h Y (λa o U nh no=>?_) rp,λG σ' H' N h' S' R=>gd.nx G σ' H' N h' S' (e1.keep.trans (k5.trans R)),λG σ' H' N h' S' R=>⟨G,N,h',S',k5.trans R⟩,λc N H' h Y R=>gd.xr c N H' h Y λa o U nh no=>R a o ((e1.keep.trans k5) a o U nh no).1 nh ((e1.keep.trans k5) a o U nh no).2⟩;obtain⟨q1,q2⟩:=(e1.keep.trans k5) a o U nh no;exact R a o q1 nh q2;have e:i=ts.length:=by omega
 subst e;rw[sN]at f2;exact .inl ⟨itq.2,gd.nx I L H2 n2 f2 S2 (e1.keep.trans k2)⟩
def JW(N:List Str)(ts:qD):En:=ts.map (λt=>ao (.val t))++gC (N.length - ts.length) bc
theorem zlL{K:qF}{hd:Option aq}{O:aq->Prop}{H:Hp}{n:Nat}{N:List Str}{vs:List V}{ts:qD}(r:Reps K hd O H vs ts)(C:Hn K hd H n)(dom:∀a,O a->MutO (H a))(hx:∀a,hd=ao a->O a) :
  Stt K ⟨hd,O⟩ (JW N ts) (start N vs) H n/\∀a,¬OwnS (JW N ts) (start N vs) a:=by
 have get:∀(i:Nat) c,(JW N ts)[i]?=ao (ao c)->∃t,c=.val t/\ts[i]?=ao t:=λi c h=>by
  unfold JW at h;by_cases hi:i<ts.length;rw[bU (by simpa using hi),aX]at h;cases e:ts[i]? with
  | none=>rw[e]at h;cases h
  | some t=>rw[e]at h;cases h;exact⟨t,rfl,rfl⟩
  rw[bQ (by simpa using hi),fj]at h;split at h <;> cases h
 have no:∀a,¬OwnS (JW N ts) (start N vs) a:=λa ⟨i,ds,m,G,_⟩=>by obtain⟨t,e,_⟩:=get i _ G;subst e;cases m
 refine⟨.mk' (by unfold JW start;simp[r.length]) (λi d h=>?_) (λi ds m h=>?_) (λi ks h=>by obtain⟨t,e,_⟩:=get i _ h;cases e) (λi j ds es a m _ h=>?_) C dom hx,no⟩;obtain⟨t,e,I⟩:=get i _ h;cases e;obtain⟨v,ev,y⟩:=r.get I;refine⟨v,?_,y.mono (λa o _ z=>z.elim id λz=>absurd z (no a)) λ_ _ _ z=>z⟩;unfold start;have hi:i<vs.length:=by rcases cj i vs.length with z|z;exact z;rw[cc z]at ev;cases ev
 rw[bU (by simpa using hi),aX,ev];rfl;obtain⟨t,e,_⟩:=get i _ h;subst e;cases m;obtain⟨t,e,_⟩:=get i _ h;subst e;cases m
end
end L2
namespace Bd
open PySem L2 PyProof.Rows
theorem Def.okD{P:aQ}{w:bg}{K:qF}{mg:qM}{base:bz}{x:Str}{st:fA}{ps N:List Str}{f:aq}{fd:dZ}{k m:Nat}{g:GD}(D:Def K mg x st ps f fd)(S:Ur N ps (JE st))(hm:m=ps.length)
  (hb:∀(l:ah) (A:bh) (outer:List Env) (s:av) (H:Hp) (E:XK),Room k (A.deeper (envOfC x (JE st) s.heap.objs.size f l))->∃d,DSs (cxOf CX0 P w K mg base N x (JE st) f l A outer s H E).nox (J8 st) d /\
   ∀ts n R,ts.length=m->g ts n R->d { nx:=λ_ u=>R .none u,rt:=R } (JW N ts) n):FnOk P w K mg base CX0 (k+1) f fd ps (spD K m g):=by
 refine D.F.ok S (λvs H Q E h=>?_) (λl A outer s H vs Q E Z h=>?_);obtain⟨hd,O,ts,n,R,r,_,_,_,C,_⟩:=h;rw[r.length,C,hm];obtain⟨hd,O,ts,n,R,r,hn,dom,hx,C,hg,U⟩:=h;obtain⟨d,⟨t,pt,ht⟩,G⟩:=hb l A outer s H E Z;obtain⟨Y,no⟩:=zlL (N:=N) r hn dom hx;refine⟨t,pt,ht ⟨hd,O⟩ _ _ H n _ _ Y (G ts n R C hg) ⟨λρ' σ' H' u h S' L=>?_,λt u v H' h J L rp=>?_,λ_ _ _ _ h=>h.elim,λ_ _ _ _ h=>h.elim,λ_ _ _ h=>h.elim⟩⟩;exact U .none u .non H' h (λa o y I=>(L a o y I (no a)).1) S'.hnd .non;exact U t u v H' h (λa o y I=>L a o y I (no a)) J rp
end Bd
namespace L2
open PySem PySem.Spec PyProof.Rows
def DTs(Y:Cx)(ifs:List a8)(d:DTT):Prop:=∃l,PTs Y ifs l/\∀(C:Ctx) (u:En) (σ:St) (H:Hp) (n:Nat) (Q:Bool->Hp->Prop) (R:Bool->Nat->Prop),Stt Y.K C u σ H n->d u n R ->
 (∀b o H',R b o->ExtE C.hd H H'->Hn Y.K C.hd H' o->Q b H')->l σ H Q
def dYes:DTT:=λ_ n R=>R be n
section
variable{Y:Cx}{c:a8}{d:DTT}
theorem QZ:DTs Y [] dYes:=⟨_,zqI,λC o σ H n Q R S h l=>l be n H h ExtE.refl S.hnd⟩
theorem zi5(h:DT Y c d):DTs Y [c] d:=by obtain⟨l,p,h⟩:=h;exact⟨_,zqH p,h⟩
end
def SpE(K:qF)(u:TE)(d:DTE):Prop:=∀(C:Ctx) (l:En) (σ:St) (H:Hp) (n:Nat) (Q:VK) (R:qN),Stt K C l σ H n->d l n R ->
 (∀t o v H',R t o->ExtE C.hd H H'->Hn K C.hd H' o->Rep K C.hd (Own C l σ) H' v t->Q v H')->u σ H Q
def SpT(K:qF)(u:TT)(d:DTT):Prop:=∀(C:Ctx) (o:En) (σ:St) (H:Hp) (n:Nat) (Q:Bool->Hp->Prop) (R:Bool->Nat->Prop),Stt K C o σ H n->d o n R ->
 (∀b l H',R b l->ExtE C.hd H H'->Hn K C.hd H' l->Q b H')->u σ H Q
def SpG(K:qF)(is:List Nat)(u:TG)(d:DTG):Prop:=∀(C:Ctx) (o:En) (σ:St) (H:Hp) (n:Nat) (v:V) (t:af) (Q:St->Hp->Prop) (R:En->Prop),Stt K C o σ H n->Rep K C.hd (Own C o σ) H v t->d t o R ->
 (∀l σ',R l->Stt K C l σ' H n->Keep C o σ H l σ' H->(∀j,j∉is->σ'[j]?=σ[j]?)->σ'.length=σ.length->Q σ' H)->u v σ H Q
def SpI(K:qF)(wi:TI)(d:DTA):Prop:=∀(C:Ctx) (l:En) (σ:St) (H:Hp) (n:Nat) (Q:It->Hp->Prop) (R:qD->Nat->Prop),Stt K C l σ H n->d l n R ->
 (∀ts o J H',R ts o->ExtE C.hd H H'->Hn K C.hd H' o->ItOk K C.hd (λa=>¬Own C l σ a) (Own C l σ) H' J ts->Q J H')->wi σ H Q
section
variable{X:Cx}{scope:fI}{own:List Str}{capt:List Nat}{e tg:a8}{es:List a8}{is:List Nat}{d:DTE}{dt:DTT}{dg:DTG}{di:DTA}
theorem DE.fam(h:Fam X scope own capt λY=>DE Y e d):∃o:TE,(Fam X scope own capt λY=>PE Y e o)/\SpE X.K o d :=
 ⟨λσ H Q=>∀C s₀ H₀ l,kQ (h C s₀ H₀ l) σ H Q,λC s₀ H₀ l pins s σ H Q I hw=>(cV (h C s₀ H₀ l)).1 pins s σ H Q I (hw C s₀ H₀ l),λC x σ H n Q R S hd u v s₀ H₀ l=>(cV (h v s₀ H₀ l)).2 C x σ H n Q R S hd u⟩
theorem DTs.fam(h:Fam X scope own capt λY=>DTs Y es dt):∃o:TT,(Fam X scope own capt λY=>PTs Y es o)/\SpT X.K o dt :=
 ⟨λσ H Q=>∀C s₀ H₀ l,kQ (h C s₀ H₀ l) σ H Q,λC s₀ H₀ l pins s σ H Q I hw=>(cV (h C s₀ H₀ l)).1 pins s σ H Q I (hw C s₀ H₀ l),λC x σ H n Q R S hd u v s₀ H₀ l=>(cV (h v s₀ H₀ l)).2 C x σ H n Q R S hd u⟩
theorem DG.fam(h:Fam X scope own capt λY=>DG Y tg is dg):∃o:TG,(Fam X scope own capt λY=>PG Y tg o)/\SpG X.K is o dg :=
 ⟨λv σ H Q=>∀C s₀ H₀ l,kQ (h C s₀ H₀ l).2 v σ H Q,λC s₀ H₀ l pins s σ H v u Q I r hw=>(cV (h C s₀ H₀ l).2).1 pins s σ H v u Q I r (hw C s₀ H₀ l),λC G σ H n v t Q R S r hd x y s₀ H₀ l=>(cV (h y s₀ H₀ l).2).2 C G σ H n v t Q R S r hd x⟩
theorem DI.fam(h:Fam X scope own capt λY=>DI Y tg e di):∃wi:TI,(Fam X scope own capt λY=>PI Y tg e wi)/\SpI X.K wi di :=
 ⟨λσ H Q=>∀C s₀ H₀ l,kQ (h C s₀ H₀ l) σ H Q,λC s₀ H₀ l pins s σ H R I hw=>(cV (h C s₀ H₀ l)).1 pins s σ H R I (hw C s₀ H₀ l),λC v σ H n Q R S hd o u s₀ H₀ l=>(cV (h u s₀ H₀ l)).2 C v σ H n Q R S hd o⟩
end
theorem Wk.of:∀{σ σ':St},σ.length=σ'.length->(∀(i:Nat) v,σ[i]?=ao (ao v)->σ'[i]?=ao (ao v))->Wk σ σ'
 | [],[],_,_=>trivial
 | [],_::_,h,_=>by simp at h
 | _::_,[],h,_=>by simp at h
 | none::r,o::r',h,k=>Wk.of (σ:=r) (σ':=r') (by simpa using h) λi v e=>by simpa using k (i+1) v (by simpa using e)
 | some w::r,o::r',h,k=>⟨by simpa using k 0 w rfl,Wk.of (by simpa using h) λi v e=>by simpa using k (i+1) v (by simpa using e)⟩
def capV:Option Cell->Option Cell
 | some (.val d)=>ao (.val d)
 | some (.dct ks)=>ao (.rdo ks)
 | some (.rdo ks)=>ao (.rdo ks)
 | _=>bc
def JI(m:Nat)(capt:List Nat)(l:En):En:=gC m bc++capt.map λi=>capV (l.getD i bc)
def cGo{α:Type}(g:DTG)(tt:DTT)(v:En->Nat->α->(α->Nat->Prop)->Prop)(l:En):qD->α->Nat->(α->Nat->Prop)->Prop
 | [],acc,n,R=>R acc n
 | x::xs,acc,n,R=>g x l λu=>tt u n λb y=>if b=be then v u y acc λo C=>cGo g tt v l xs o C R else cGo g tt v l xs acc y R
abbrev tdL(te:DTE)(ρ:En)(n:Nat)(acc:qD)(R:qD->Nat->Prop):Prop:=te ρ n λt n3=>acc.length<16777216/\R (acc++[t]) n3
abbrev tdN{α:Type}(di:DTA)(g:DTG)(tt:DTT)(te:En->Nat->α->(α->Nat->Prop)->Prop)(ρ:En)(n:Nat)(acc:α)(R:α->Nat->Prop):Prop:=di ρ n λts n3=>cGo g tt te ρ ts acc n3 R
def JS(g:DTG)(tt:DTT)(o:DTE)(l:En)(xs acc:qD)(n:Nat)(R:qD->Nat->Prop):Prop:=cGo g tt (tdL o) l xs acc n R
def dComp(m:Nat)(capt:List Nat)(o:DTA)(g:DTG)(tt:DTT)(v:DTE):DTA:=λl n R=>o l n λts u=>JS g tt v (JI m capt l) ts [] u R
theorem ExtE.updR{hd:Option aq}{l v:Hp}{D:aq}{o:HO}(y:l D=bc)(e:ExtE hd l v):ExtE hd l (upd v D o):=λa u x C=>by rw[Jl (Qi x y)];exact e a u x C
theorem Hn.updR{K:qF}{hd:Option aq}{u:Hp}{D:aq}{o:HO}{n:Nat}(v:hd≠ao D)(y:MutO (u D))(h:Hn K hd u n):Hn K hd (upd u D o) n:=λa x=>by have ne:a≠D:=λz=>v (by rw[<- z];exact x);rcases h a x with⟨⟨d,m,t,q,rest⟩,l⟩|⟨l,p⟩;exact .inl ⟨⟨d,m,t,by rw[Jl ne];exact q,rest⟩,l⟩;exact .inr ⟨l,p.upd ne y⟩
section
variable{X:Cx}{scope:fI}{own:List Str}{capt:List Nat}{elt tg iter:a8}{ifs:List a8}{pos:Pos}{di:DTA}{is:List Nat}{g:DTG}{tt:DTT}{te:DTE}
theorem zgS{u:En}{i:Nat}{c:Cell}(h:capV (u.getD i bc)=ao c):(∃d,c=.val d/\u[i]?=ao (ao (.val d)))\/∃ks,c=.rdo ks/\(u[i]?=ao (ao (.dct ks))\/u[i]?=ao (ao (.rdo ks))):=by
 rw[br]at h;cases e:u[i]? with
 | none=>rw[e]at h;cases h
 | some o =>
  rw[e]at h;cases o with
  | none=>cases h
  | some c' =>
   cases c' with
   | val d'=>simp[capV]at h;exact .inl ⟨d',h.symm,rfl⟩
   | own _=>simp[capV]at h
   | dct ks=>simp[capV]at h;exact .inr ⟨ks,h.symm,.inl rfl⟩
   | dtt ks=>simp[capV]at h
   | rdo ks=>simp[capV]at h;exact .inr ⟨ks,h.symm,.inr rfl⟩
theorem znG{K:qF}{C:Ctx}{u:En}{σ:St}{H N:Hp}{n n2:Nat}{D:aq}(S:Stt K C u σ H n)(e:ExtE C.hd H N)(hn:Hn K C.hd N n2)(hD:H D=bc)(hy:MutO (N D)) :
  Stt K ⟨C.hd,λa=>Own C u σ a\/a=D⟩ (JI own.length capt u) (Qc own++capS capt σ) N n2/\∀a,¬OwnS (JI own.length capt u) (Qc own++capS capt σ) a:=by
 have get:∀(i:Nat) c,(JI own.length capt u)[i]?=ao (ao c)->∃j,capV (u.getD j bc)=ao c/\own.length<=i/\capt[i - own.length]?=ao j:=λi c h=>by
  unfold JI at h;by_cases hi:i<own.length;rw[bU (by simpa using hi),fj]at h;split at h <;> cases h;rw[bQ (by simpa using hi),oq,aX]at h;cases ej:capt[i - own.length]? with
  | none=>rw[ej]at h;cases h
  | some j =>rw[ej]at h;exact⟨j,by simpa using h,by omega,rfl⟩
 have slot:∀(i j:Nat) (v:V),own.length<=i->capt[i - own.length]?=ao j->σ[j]?=ao (ao v)->(Qc own++capS capt σ)[i]?=ao (ao v):=λi j v hi J y=>by rw[bQ (by simpa using hi)];simp only[aN,aX,J,fX];rw[br,y];rfl
 have nm:∀(i:Nat) (c:Cell),c.mine=be->(JI own.length capt u)[i]?=ao (ao c)->False:=λi c m h=>by obtain⟨j,R,_⟩:=get i c h;rcases zgS R with⟨d,rfl,_⟩|⟨ks,rfl,_⟩ <;> cases m
 have no:∀a,¬OwnS (JI own.length capt u) (Qc own++capS capt σ) a:=λa ⟨i,c,m,y,_⟩=>nm i c m y;have S2:=S.on e hn;have sub:∀a o,H a=ao o->Own ⟨C.hd,λa=>Own C u σ a\/a=D⟩ (JI own.length capt u) (Qc own++capS capt σ) a->Own C u σ a:=λa o x z=>by rcases z with z|z;rcases z with z|z;exact z;subst z;rw[hD]at x;cases x;exact absurd z (no a)
 have kp:∀a o,¬Own C u σ a->H a=ao o->N a=ao o:=λa o nO x=>e a o x λz=>nO (.inl (S.hx a z));refine⟨.mk' (by unfold JI;simp) (λi d h=>?_) (λi ds m h=>(nm i _ m h).elim) (λi ks h=>?_) (λi j ds es a m _ h=>(nm i _ m h).elim) hn (λa x=>?_) (λa x=>.inl (.inl (S.hx a x))),no⟩;obtain⟨j,R,hi,J⟩:=get i _ h;rcases zgS R with⟨d',z,G⟩|⟨ks,z,_⟩;cases z;obtain⟨v,y,U⟩:=S.val j d G;exact⟨v,slot i j v hi J y,U.mono sub kp⟩;cases z;obtain⟨j,R,hi,J⟩:=get i _ h;rcases zgS R with⟨d',z,G⟩|⟨ks',z,G⟩;cases z;cases z;rcases G with G|G;obtain⟨a,I,y,U,Z,Y⟩:=S.dct j ks G;have L:C.hd≠ao a:=λz=>Y (S.hx a z);exact⟨a,I,slot i j _ hi J y,e a _ U L,Z.mono sub kp,.inl (.inr ⟨j,.dct ks,rfl,G,y⟩),L⟩;obtain⟨a,I,y,U,Z,Y,L⟩:=S.rdo j ks G;exact⟨a,I,slot i j _ hi J y,e a _ U L,Z.mono sub kp,.inl (.inl Y),L⟩;rcases x with x|rfl;exact S2.lst x;exact hy
def ExtD(hd:Option aq)(D:aq)(H H':Hp):Prop:=∀a o,H a=ao o->hd≠ao a->a≠D->H' a=ao o
theorem ExtE.transD{hd:Option aq}{D:aq}{H l u:Hp}(a:ExtE hd H l)(b:ExtD hd D l u):ExtD hd D H u:=λc o h n m=>b c o (a c o h n) n m
def SpM{α:Type}(K:qF)(C:Ctx)(D:aq)(A:Hp->α->Prop)(y:List Nat)(te:TM)(x:En->Nat->α->(α->Nat->Prop)->Prop):Prop:=∀(u:En) (σ:St) (H:Hp) (n:Nat) (acc:α) (N:Hp->Prop) (R:α->Nat->Prop),Stt K C u σ H n->(∀j∈y,∀v,σ[j]?≠ao (ao v))->A H acc->x u n acc R ->
 (∀l o H',R l o->ExtD C.hd D H H'->Hn K C.hd H' o->A H' l->N H')->te σ H N
def AOk{α:Type}(A:Ctx->aq->Hp->α->Prop):Prop:=∀(C:Ctx) (D:aq) (H:Hp) (acc:α),(∀a,C.hd=ao a->C.ext a)->C.hd≠ao D->A C D H acc->MutO (H D)/\(∀ks,H D≠ao (.dK ks))/\∀H',ExtE C.hd H H'->A C D H' acc
section
variable{α:Type}{K:qF}{C:Ctx}{D:aq}{A:Ctx->aq->Hp->α->Prop}{is js:List Nat}{gg:TG}{gt:TT}{tm:TM}{td:En->Nat->α->(α->Nat->Prop)->Prop}{ρ:En}{σ:St}{H1:Hp}{n1:Nat}{acc:α}{R:α->Nat->Prop}
theorem zjS(hD:C.ext D)(Y:C.hd≠ao D)(am:AOk A)(sg:SpG K is gg g)(st:SpT K gt tt)(sm:SpM K C D (A C D) js tm td)(S:Stt K C ρ σ H1 n1)(his:∀j∈is,∀v,σ[j]?≠ao (ao v))(hjs:∀j∈js,j∉is/\∀v,σ[j]?≠ao (ao v))(a1:A C D H1 acc){J:It}{ts:qD}{Q:Hp->Prop}
  (it:∀u,ExtD C.hd D H1 u->(∀a,Own C ρ σ a->u a≠bc)->(∀(i:Nat) t,ts[i]?=ao t->J.go i u/\∀x I,J.yld i u x I->Same u I/\Rep K C.hd (Own C ρ σ) I x t)/\J.stop ts.length u)
  (r:cGo g tt td ρ ts acc n1 R) (hq:∀l n' H',R l n'->ExtD C.hd D H1 H'->Hn K C.hd H' n'->A C D H' l->Q H'):Y1 gg gt tm σ J H1 Q:=by
 refine⟨ts.length,λi u=>∃acc n2,cGo g tt td ρ (ts.drop i) acc n2 R/\A C D u acc/\ExtD C.hd D H1 u/\Hn K C.hd u n2,⟨acc,n1,r,a1,λ_ _ h _ _=>h,S.hnd⟩,?_⟩;rintro i u ⟨y,n2,c2,a2,N,h2⟩;have S2:=S.onX (λa o L no=>N a o L (λz=>no (S.hx a z)) λz=>no (z▸hD)) (λa L=>by by_cases z:a=D;rw[z];exact(am _ _ _ _ S.hx Y a2).1;exact S.mut L h2 λo ho Y=>N a o ho Y z) (λa ks L _ nh2=>N a _ L nh2 λz=>(am _ _ _ _ S.hx Y a1).2.1 ks (z▸L)) h2;have itq:=it u N λa=>S2.dom;refine⟨λhi=>?_,λhi=>?_⟩;subst hi;rw[sN]at c2;exact⟨itq.2,hq _ _ _ c2 N h2 a2⟩;rw[bG hi]at c2;obtain⟨go,yl⟩:=itq.1 i _ (au hi);refine⟨go,λx I hyd=>?_⟩;obtain⟨G,rx⟩:=yl x I hyd;refine sg C ρ σ I n2 x ts[i] _ _ (S2.on (Same.ext G) (h2.same G)) rx c2 λρ4 σ4 r4 S4 k4 hj hl=>⟨Wk.of hl.symm λj v ej=>?_,?_⟩;by_cases z:j∈is;exact absurd ej (his j z v);rw[hj j z];exact ej;refine st C ρ4 σ4 I n2 _ _ S4 r4 λb n5 H5 r5 e5 U=>?_;have Z:ExtE C.hd u H5:=(Same.ext G).trans e5;have a5:=(am _ _ _ _ S.hx Y a2).2.2 _ Z;have e15:ExtD C.hd D H1 H5:=λa o h n m=>Z a o (N a o h n m) n;cases b with
 | false=>exact iteF ⟨y,n5,by simpa using r5,a5,e15,U⟩
 | true=>exact iteT (sm ρ4 σ4 H5 n5 y _ _ (S4.on e5 U) (λj hj' v=>by rw[hj j (hjs j hj').1];exact(hjs j hj').2 v) a5 (by simpa using r5) λl n' H' r' e' h' a'=>⟨l,n',r',a',λa o h n m=>e' a o (e15 a o h n m) n m,h'⟩)
end
def HM{α:Type}(X:Cx)(scope:fI)(own:List Str)(capt:List Nat)(nx:ah->Env->Sem Fin->Sem Fin)(A:Ctx->aq->Hp->α->Prop)(l:List Nat)(o:En->Nat->α->(α->Nat->Prop)->Prop):Prop :=
 ∃te:aq->TM,(∀D,Fam X scope own capt λY=>PM Y (nx (.ref D) Y.env) (te D))/\∀(C:Ctx) D,C.ext D->C.hd≠ao D->SpM X.K C D (A C D) l (te D) o
section
variable{α:Type}{A:Ctx->aq->Hp->α->Prop}{a0:α}{js is2:List Nat}{e tg2 it2:a8}{MO:List a8}{Mc:Sem ah}{nx:ah->Env->Sem Fin->Sem Fin}{z:aq->HO->Prop}{td:En->Nat->α->(α->Nat->Prop)->Prop}{di2:DTA}{g2:DTG}{tt2:DTT}
theorem zm7(am:AOk A)(hC:IsC e)(hc:X.calm=be)(y:(clausesOf e)[1]?=ao ⟨tg2,it2,MO,0⟩)(hT:∀acc env,Vw e 1 tg2 it2 MO acc env (nx acc env))(hi2:Fam X scope own capt λY=>DI Y tg2 it2 di2)(hg2:Fam X scope own capt λY=>DG Y tg2 is2 g2)(ht2:Fam X scope own capt λY=>DTs Y MO tt2)
  (Z:∀(C:aq) (x:ah),foldedSetIterable it2 (compEnvC scope (ownCl X scope C) C X.env) x=pure x) (U:HM X scope own capt nx A [] td):HM X scope own capt (nxN e 1 it2) A is2 (tdN di2 g2 tt2 td):=by
 obtain⟨wi,pi,hi⟩:=DI.fam hi2;obtain⟨gg,pg,hg⟩:=DG.fam hg2;obtain⟨gt,pt,ht⟩:=DTs.fam ht2;obtain⟨te,pm,U⟩:=U;refine⟨_,λD C s₀ H₀ v=>zqP hC rfl hc y (hT _ _) (Z C) (pi C s₀ H₀ v) (pg C s₀ H₀ v) (pt C s₀ H₀ v) (pm D C s₀ H₀ v),λC D hD G ρ σ H n acc N R S hjs a r hq=>?_⟩;refine hi C ρ σ H n _ _ S r λts n3 J H6 r6 L I it6=>?_;have S6:=S.on L I;exact zjS hD G am hg ht (U C D hD G) S6 hjs (λj hj=>absurd hj (by simp)) ((am _ _ _ _ S.hx G a).2.2 _ L) (λH2 e dm=>it6 (Own C ρ σ) H2 (λa o ha no=>e a o ha (λz=>no (.inl (S.hx a z))) λz=>no (.inl (z▸hD))) (λ_ _ _ z=>z) dm) r6 λu n' H' r' e' h' a'=>hq u n' H' r' (L.transD e') h' a'
theorem zgW(am:AOk A)(az:∀C D H ho,z D ho->A C D (upd H D ho) a0)(hc:X.calm=be)(S:Jv scope own capt X)(k:Vk e tg iter ifs scope Mc nx)(na:NA X.prog X.w Mc z)(hi:DIL X tg iter di)(hg:Fam X scope own capt λY=>DG Y tg is g)(hin:∀i∈is,i<own.length)(ht:Fam X scope own capt λY=>DTs Y ifs tt)
  (hm:HM X scope own capt nx A js td) (hjs:∀j∈js,j<own.length/\j∉is) (hs:Fsi X iter) :
  ∃te,PE X e te/\(∀{i:Nat} {x:Str} {L MM:Pos},X.N.Nodup->X.N[i]?=ao x->Loc X.env.scope x->swapsWith e (ao (.Name x L)) MM.line X.env=pure be->(Fnl X x)->PS X (.Assign [.Name x L] e MM) (tAsg te (UF i))) /\
   ∀(C:Ctx) (u:En) (σ:St) (H:Hp) (n:Nat) (Q:VK) (R:α->Nat->Prop),Stt X.K C u σ H n->(di u n λts n1=>cGo g tt td (JI own.length capt u) ts a0 n1 R) ->
    (∀acc n' H' D,R acc n'->ExtE C.hd H H'->Hn X.K C.hd H' n'->H D=bc->¬Own C u σ D->A ⟨C.hd,λa=>Own C u σ a\/a=D⟩ D H' acc->Q (.ref D) H')->te σ H Q:=by
 obtain⟨wi,pi,hi⟩:=hi;obtain⟨gg,pg,hgg⟩:=DG.fam hg;obtain⟨gt,pt,hgt⟩:=DTs.fam ht;obtain⟨te,pm,hte⟩:=hm;refine⟨_,zqW hc S k na pi pg pt pm hs,λhN hxi hx hsw hf=>zqM hc S k na pi pg pt pm hs hN hxi hx hsw hf,λC u σ H n Q R St hd hq=>?_⟩;refine hi C u σ H n _ _ St hd λts n1 J H1 r e1 hn it=>λD ho I hz=>?_;have hD:H D=bc:=ZM e1 hn I;have nO:¬Own C u σ D:=λz=>St.dom z hD;have U:C.hd≠ao D:=λz=>nO (.inl (St.hx D z));have a1:=az ⟨C.hd,λa=>Own C u σ a\/a=D⟩ D H1 ho hz;have hx':∀a,C.hd=ao a->Own C u σ a\/a=D:=λa z=>.inl (.inl (St.hx a z));have up:∀{a o},H1 a=ao o->a≠D/\upd H1 D ho a=ao o:=λG=>⟨Qi G I,by rw[Jl (Qi G I)];exact G⟩;obtain⟨I3,no3⟩:=znG (own:=own) (capt:=capt) (D:=D) St (e1.trans (ExtE.new I)) (hn.same (JR I)) hD (am ⟨C.hd,λa=>Own C u σ a\/a=D⟩ D _ _ hx' U a1).1;have sn:∀j,j<own.length->∀v,(Qc own++capS capt σ)[j]?≠ao (ao v):=λj Z v ej=>by
  rw[bU (by simpa using Z),aX]at ej;cases z:own[j]? with
  | none=>rw[z]at ej;cases ej
  | some q=>rw[z]at ej;cases ej
 refine zjS (C:=⟨C.hd,λa=>Own C u σ a\/a=D⟩) (.inr rfl) U am hgg hgt (hte _ D (.inr rfl) U) I3 (λj Z=>sn j (hin j Z)) (λj Z=>⟨(hjs j Z).2,sn j (hjs j Z).1⟩) a1 (λH2 e dm=>?_) r λacc' n' H' r' e' h' a'=>hq acc' n' H' D r' (λa o G nh=>e' a o (up (e1 a o G nh)).2 nh (up (e1 a o G nh)).1) h' hD nO a';have itq:=it (λa=>Own C u σ a\/a=D) H2 (λa o G nh=>e a o (up G).2 nh (up G).1) (λa o G no z=>z.elim no (up G).1) λa z=>dm a (.inl z);refine⟨λi t ht=>?_,itq.2⟩;obtain⟨go,yl⟩:=itq.1 i t ht;refine⟨go,λx H3 y=>?_⟩;obtain⟨sm,rx⟩:=yl x H3 y;exact⟨sm,rx.mono (λa o _ z=>z.elim id λz=>absurd z (no3 a)) λ_ _ _ z=>z⟩
end
def AL(K:qF)(C:Ctx)(D:aq)(H:Hp)(acc:qD):Prop:=∃ys,H D=ao (.lst ys)/\Reps K C.hd C.ext H ys acc
theorem Vl{K:qF}:AOk (AL K):=λ_ _ _ _ hx x ⟨ys,u,r⟩ =>
 ⟨.inl ⟨_,u⟩,λks z=>(by rw[u]at z;cases z),λH' e=>⟨ys,e _ _ u x,r.mono (λ_ _ _ z=>z) λa o no v=>e a o v λz=>no (hx a z)⟩⟩
def nxL(elt:a8)(acc:ah)(env:Env)(k:Sem Fin):Sem Fin:=do
 (do let _ <- call (.builtin "list.append") [acc,<- eval elt env])
 k
theorem ziZ{l:List Comprehension}:IsC (.ListComp elt l scope pos):=λ_ _ _ _ _ _ _=>⟨⟨rfl,rfl⟩,⟨rfl,rfl⟩,rfl⟩
theorem zpO{P:aQ}{w:bg}:NA P w (newList []) λ_ o=>o=.lst []:=λA E s Q _ h=>bM (h _ rfl λh' e=>⟨_,rfl,λH'=>⟨eD _,[],0,.nil,e⟩⟩)
theorem zqh{K:qF}(C:Ctx)(D:aq)(H:Hp)(o:HO)(h:o=.lst []):AL K C D (upd H D o) []:=⟨[],by rw[h];exact JJ,.nil⟩
theorem zp0(he:Fam X scope own capt λY=>DE Y elt te):HM X scope own capt (nxL elt) (AL X.K) [] (tdL te):=by obtain⟨ge,pe,x⟩:=DE.fam he;refine⟨λD σ H N=>ge σ H λv U=>∃ys,U D=ao (.lst ys)/\ys.length<sizeLine/\N (upd U D (.lst (ys++[v]))),λD C s₀ H₀ fp pins s σ H N k Q E I h hk=>?_,λC D hD Z ρ σ H n acc N R S _ a r hq=>?_⟩;refine aa (aa (cS (pe C s₀ H₀ fp pins s σ H _ I h) (λy s9 h9=>aa ?_) λ_ _ z=>z.elim));obtain⟨v,H9,I9,r9,ys,u,hl,q9⟩:=h9;refine cS (zh1 (X:=QW X scope own capt C s₀ H₀ fp) _ s9 σ H9 (.ref D) [v] _ [y] (λ_ H'=>H'=upd H9 D (.lst (ys++[v]))) I9 rfl (.cons r9 .nil) ⟨_,ys,v,rfl,rfl,u,hl,rfl⟩) (λ_ s10 J=>?_) λ_ _ z=>z.elim;obtain⟨_,H10,G,_,rfl⟩:=J;exact ae (hk _ _ G q9);refine x C ρ σ H n _ _ S r λt n6 v U r6 e6 L q6=>?_;obtain⟨ys,u,rs⟩:=(Vl _ _ _ _ S.hx Z a).2.2 _ e6;refine⟨ys,u,by rw[rs.length];exact r6.1,hq _ n6 _ r6.2 (λb o hb nb ne=>by rw[Jl ne];exact e6 b o hb nb) (Hn.updR Z (.inl ⟨_,u⟩) L) ⟨_,JJ,?_⟩⟩;exact(rs.append (.cons (q6.mono (λ_ _ _ z=>.inl z) λ_ _ _ z=>z) .nil)).mono (λ_ _ _ z=>z) λa o no ha=>by rw[Jl (show a≠D from λz=>no (z▸hD))];exact ha
def zu3(K:qF)(te:TE)(d:DTA):Prop:=∀(C:Ctx) (o:En) (σ:St) (H:Hp) (n:Nat) (Q:VK) (R:qD->Nat->Prop),Stt K C o σ H n->d o n R ->
 (∀ts u p vs H',R ts u->ExtE C.hd H H'->Hn K C.hd H' u->H p=bc->H' p=ao (.lst vs)->Reps K C.hd (λa=>Own C o σ a\/a=p) H' vs ts->Q (.ref p) H')->te σ H Q
theorem zki(hc:X.calm=be)(S:Jv scope own capt X)(hi:DIL X tg iter di)
  (Z:Fam X scope own capt λY=>DG Y tg is g) (u:∀i∈is,i<own.length) (I:Fam X scope own capt λY=>DTs Y ifs tt) (he:Fam X scope own capt λY=>DE Y elt te) (J:Fsi X iter) :
  ∃ge,PE X (.ListComp elt [⟨tg,iter,ifs,0⟩] scope pos) ge/\(∀{i:Nat} {x:Str} {l v:Pos},X.N.Nodup->X.N[i]?=ao x->Loc X.env.scope x->swapsWith (.ListComp elt [⟨tg,iter,ifs,0⟩] scope pos) (ao (.Name x l)) v.line X.env=pure be->(Fnl X x)->PS X (.Assign [.Name x l] (.ListComp elt [⟨tg,iter,ifs,0⟩] scope pos) v) (tAsg ge (UF i)))/\zu3 X.K ge (dComp own.length capt di g tt te):=by
 obtain⟨ge,p,q,y⟩:=zgW (e:=.ListComp elt [⟨tg,iter,ifs,0⟩] scope pos) Vl zqh hc S ⟨ziZ,⟨_,rfl⟩,λ_ _ _=>rfl,λ_=>⟨_,rfl⟩,λ_ _=>⟨_,rfl⟩⟩ zpO hi Z u I (zp0 he) (λj hj=>absurd hj (by simp)) J;exact⟨ge,p,q,λC ρ σ H n Q R St hd G=>y C ρ σ H n Q R St hd λacc U H' D r e h hD _ ⟨ys,hy,rs⟩=>G acc U D ys H' r e h hD hy rs⟩
theorem znn(hc:X.calm=be)(S:Jv scope own capt X)(hi:DIL X tg iter di)
  (u:Fam X scope own capt λY=>DG Y tg is g) (l:∀i∈is,i<own.length) (y:Fam X scope own capt λY=>DTs Y ifs tt) (he:Fam X scope own capt λY=>DE Y elt te)
  (x:Fsi X iter:=by intro _;rfl):DN X (.ListComp elt [⟨tg,iter,ifs,0⟩] scope pos) (dComp own.length capt di g tt te):=by
 obtain⟨_,p,_,v⟩:=zki hc S hi u l y he x;exact⟨_,p,v⟩
def DNA(X:Cx)(x:Str)(l:Pos)(e:a8)(pos:Pos)(i:Nat)(d:DTA):Prop:=∃te,PS X (.Assign [.Name x l] e pos) (tAsg te (UF i))/\zu3 X.K te d
theorem V0{x:Str}{l G:Pos}{i:Nat}(Z:X.N.Nodup)(v:X.N[i]?=ao x)(hx:Loc X.env.scope x)(hc:X.calm=be)(S:Jv scope own capt X)(hi:DIL X tg iter di)
  (U:Fam X scope own capt λY=>DG Y tg is g) (y:∀i∈is,i<own.length) (J:Fam X scope own capt λY=>DTs Y ifs tt) (he:Fam X scope own capt λY=>DE Y elt te)
  (R:Fsi X iter:=by intro _;rfl) (u:swapsWith (.ListComp elt [⟨tg,iter,ifs,0⟩] scope pos) (ao (.Name x l)) G.line X.env=pure be:=by rfl)
  (hf:Fnl X x:=by walk_at "F") :
  DNA X x l (.ListComp elt [⟨tg,iter,ifs,0⟩] scope pos) G i (dComp own.length capt di g tt te):=by
 obtain⟨_,_,q,I⟩:=zki hc S hi U y J he R;exact⟨_,q Z v hx u hf,I⟩
theorem VT{x:Str}{o y:Pos}{e:a8}{i:Nat}{d:DTA}(h:DNA X x o e y i d):DS X (.Assign [.Name x o] e y) (sSet i (dNew d)):=by obtain⟨Y,pa,h⟩:=h;refine⟨_,pa,λC U σ H n D Z S hd g=>?_⟩;refine h C U σ H n _ _ S hd λts G p vs H' r v L R J I=>?_;exact g.nx _ _ H' G r ((S.on v L).put (.lst J (S.free R|> λz=>z) (I.mono (λ_ _ _ z=>.inl z) λ_ _ _ z=>z))) (v.keep.trans V5)
end
def VE(K:qF):Sp:=λvs H Q _=>∃(a:aq) (ns:List Int) (k:Int),vs=[.ref a,.int k]/\SqL K H a (ns.map V.int)/\ns.length<=63/\0<=k/\k<=100 /\
 ∀hd H',H hd=bc->Zj H' hd 0->Same H H'->Q (.ref hd) H'
def zu2(hd:aq)(H H':Hp):Prop:=∀b o,H b=ao o->b≠hd->H' b=ao o
def zpG:Sp:=λvs H Q _=>∃(hd:aq) (many n:Int),vs=[.ref hd,.int many]/\Zj H hd n/\n<=1000000000000/\0<many/\many<2 ^ 128 /\
 ∀(r:Int) H',0<=r->r<many->Zj H' hd (n+1)->zu2 hd H H'->Q (.int r) H'
def Yn:GD:=λts n R=>match ts with
 | [h,.int many]=>h=HAND/\0<many/\many<2 ^ 128/\n<=1000000000000/\∀r:Int,0<=r->r<many->R (.int r) (n+1)
 | _=>False
theorem zok{K:qF}(vs:List V)(H:Hp)(Q:VK)(E:XK)(h:spD K 2 Yn vs H Q E):zpG vs H Q E:=by
 obtain⟨hd,O,ts,n,R,r,N,dom,hx,Z,g,C⟩:=h;cases ts with
 | nil=>exact g.elim
 | cons v ts=>cases ts with
  | nil=>exact g.elim
  | cons t ts=>cases t with
   | int many=>cases ts with
    | nil =>
     obtain⟨rfl,m0,m1,L,g⟩:=g;cases r with
     | cons Y r =>
      cases r with
      | cons I r =>
       cases r;obtain⟨a,rfl,u⟩:=Y.handI;rw[I.intI];have J:Zj H a n:=(N a u).elim (·.1) λz=>by have:=z.1;omega
       refine⟨a,many,n,rfl,J,by omega,m0,m1,λq H' U G v y=>?_⟩;refine C _ (n+1) _ H' (g q U G) (λb o S nb=>y b o S λz=>nb (by rw[u,z])) (λb x=>?_) (.int _);rw[u]at x;cases x;exact .inl ⟨v,by omega⟩
    | cons _ _=>exact g.elim
   | _=>exact g.elim
def scrD:Option (Option Cell)->Option qD
 | some (ao (.val (.dict [(.none,.list ts)])))=>ao ts
 | _=>bc
theorem ziD{z:Option (Option Cell)}{ts:qD}(h:scrD z=ao ts):z=ao (ao (.val (.dict [(.none,.list ts)]))):=by unfold scrD at h;split at h;cases h;rfl;cases h
def zsC(z:Option (Option Cell))(R:qD->Prop):Prop:=match scrD z with
 | some ts=>R ts
 | none=>False
def JG(u:En):En:=match scrD (u[(0:Nat)]?:Option (Option Cell)) with
 | some ts=>ao (.val (.dict [(.none,.list ts)]))::gC (u.length - 1) bc
 | none=>gC u.length bc
def intOf:Option (Option Cell)->(Int->Prop)->Prop
 | some (ao (.val (.int k))),R=>R k
 | _,_=>False
def U0(i j:Nat)(u:DTS):DTS:=λD y n=>zsC y[0]? λts=>intOf y[j]? λk=>(∃ns:List Int,ts=ns.map cg/\ns.length<=63)/\0<=k/\k<=100 /\
 u { nx:=λx _=>D.nx (JG x) n,rt:=λt _=>∃b,t=.bool b/\D.rt t n,bk:=λx _=>D.bk (JG x) n,ct:=λx _=>D.ct (JG x) n } (((JG y).set j (ao (.val (.int k)))).set i (ao (.val HAND))) 0
theorem UN(h:(JG ρ)[i]?=ao (ao c)):i=0/\ρ[0]?=ao (ao c)/\∃ts,c=.val (.dict [(.none,.list ts)]):=by
 unfold JG at h;split at h;rename_i ts e;replace e:=ziD e;cases i with
 | zero=>simp at h;subst h;exact⟨rfl,e,ts,rfl⟩
 | succ i =>rw[eE,fj]at h;split at h <;> cases h
 rw[fj]at h;split at h <;> cases h
theorem zpk:(JG ρ).length=ρ.length:=by
 unfold JG;split;rename_i ts e;replace e:=ziD e;cases ρ with
 | nil=>simp at e
 | cons a r=>simp
 simp
theorem zgU:¬OwnS (JG ρ) σ a:=λ⟨i,ds,m,h,_⟩=>by obtain⟨_,_,ts,e⟩:=UN h;subst e;cases m
theorem Rep.scrHd{K:qF}{hd G:Option aq}{O I:aq->Prop}{H H':Hp}{v:V}{ts:qD}(h:Rep K hd O H v (.dict [(.none,.list ts)]))(C:∀a o,H a=ao o->¬O a->H' a=ao o/\¬I a):Rep K G I H' v (.dict [(.none,.list ts)])/\∃ns:List Int,ts=ns.map cg:=by
 generalize e:(tz [(oN,yj ts)])=t at h;cases h with
 | @scr a ns x o =>
  have y:ts=ns.map cg:=by simpa[SCR] using e
  subst y;refine⟨?_,ns,rfl⟩;rcases x with x|⟨u,x⟩;exact .scr (.inl (C a _ x o).1) (C a _ x o).2;exact .scr (.inr ⟨u,(C a _ x o).1⟩) (C a _ x o).2
 | @scrS a ns x =>
  have y:ts=ns.map cg:=by simpa[SCR] using e
  subst y;exact⟨.scrS x,ns,rfl⟩
 | hand _=>simp[HAND]at e
 | dct _ _=>cases e
 | dcK _ _ _ y=>cases e;exact(VZ y).elim
 | dcT _ _ _ y=>cases e;exact(dict_noT y).elim
 | _=>cases e
theorem Stt.drop{K:qF}{C G:Ctx}{l:En}{σ:St}{H H':Hp}{n x:Nat}(S:Stt K G l σ H n)(J:Hn K C.hd H' x)(I:∀a,C.ext a->MutO (H' a))(hx:∀a,C.hd=ao a->C.ext a)
  (y:∀a o,H a=ao o->¬Own G l σ a->H' a=ao o/\¬C.ext a):Stt K C (JG l) σ H' x where
 len:=by rw[zpk];exact S.len
 val:=λi d h=>by obtain⟨rfl,L,ts,U⟩:=UN h;cases U;obtain⟨v,N,R⟩:=S.val 0 _ L;exact⟨v,N,(R.scrHd λa o u no=>⟨(y a o u no).1,λz=>z.elim (y a o u no).2 zgU⟩).1⟩
 own:=λi ds h=>by obtain⟨_,_,ts,e⟩:=UN h;cases e
 dct:=λi ds h=>by obtain⟨_,_,ts,e⟩:=UN h;cases e
 rdo:=λi ds h=>by obtain⟨_,_,ts,e⟩:=UN h;cases e
 dtt:=λi ds h=>by obtain⟨_,_,ts,e⟩:=UN h;cases e
 dif:=λi j ds es a m _ h=>by obtain⟨_,_,ts,e⟩:=UN h;subst e;cases m
 hnd:=J
 ext:=I
 hx:=hx
section
variable{X:Cx}{st:fA}{sts:List fA}{ps:List Str}{f:aq}{fd:dZ}{u:DTS}{x s kx hx:Str}{pos pos' p p1 p2 p3:Pos}{k:Nat}
theorem zpi{i j:Nat}(D:Bd.Def X.K X.mg hx st ps f fd)(G:FnOk X.prog X.w X.K X.mg X.base CX0 k f fd ps (VE X.K))(hr:Room k X.A)(hN:X.N.Nodup)(hi:X.N[i]?=ao x)(hlx:Loc X.env.scope x)(hu:DSs X sts u)(hij:i≠0:=by decide)(hj0:j≠0:=by decide)(hji:j≠i:=by decide)
  (h0:X.N[0]?=ao s:=by rfl) (hj:X.N[j]?=ao kx:=by rfl) (hv0:Vis X.env.scope s:=by walk_at "V") (hvj:Vis X.env.scope kx:=by walk_at "V")
  (hd0:Ndb s:=by rfl) (Nl:Ncd s:=by rfl) (hdj:Ndb kx:=by rfl) (Nm:Ncd kx:=by rfl) (hg:Gl X hx:=by rfl) (hdb:Ndb hx:=by rfl)
  (hs:swapsWith (.Call (.Name hx p) [.Name s p1,.Name kx p2] [] p3) (ao (.Name x pos')) pos.line X.env=pure bj:=by rfl) (hf:Fnl X x:=by walk_at "F") :
  DSs X (.Assign [.Name x pos'] (.Call (.Name hx p) [.Name s p1,.Name kx p2] [] p3) pos::sts) (U0 i j u):=by
 obtain⟨tu,pu,hu⟩:=hu;refine⟨_,Qv (Qr hN hi hlx (Bd.zqV D G hr (QC (Qq h0 hv0 hd0 Nl) (QC (Qq hj hvj hdj Nm) QV rfl) rfl) hg hdb) hs hf) pu,λC ρ σ H n Dn D' S hd g=>?_⟩;unfold U0 zsC at hd;split at hd;rename_i ts e0;replace e0:=ziD e0;unfold intOf at hd;split at hd;rename_i R ej;obtain⟨⟨ns,rfl,hl⟩,k0,k1,hd⟩:=hd;obtain⟨v0,s0,r0⟩:=S.val 0 _ e0;obtain⟨vj,sj,rj⟩:=S.val j _ ej;obtain⟨a0,rfl,sq0⟩:=r0.scrI;rw[rj.intI]at sj;refine⟨_,s0,_,sj,?_⟩;refine⟨a0,ns,R,rfl,sq0,hl,k0,k1,λh H1 Y hok J=>?_⟩;have S1:=S.on (Same.ext J:ExtE C.hd H H1) (S.hnd.same J);have nx:¬Own C ρ σ h:=λz=>S.dom z Y;have Sd:Stt X.K ⟨ao h,λa=>C.ext a\/a=h⟩ (JG ρ) σ H1 0:=S.drop (λa ea=>by cases ea;exact .inl ⟨hok,by decide⟩) (λa z=>z.elim (λz=>S1.ext a z) λz=>by subst z;obtain⟨_,_,_,q,_⟩:=hok;exact .inl ⟨_,q⟩) (λa ea=>.inr (by cases ea;rfl))
  (λa o I no=>⟨J a o I,λz=>z.elim (λz=>no (.inl z)) λz=>by subst z;rw[Y]at I;cases I⟩)
 have Sd2:=(Sd.put (i:=j) (t:=.int R) (v:=.int R) (.int R)).put (i:=i) (t:=HAND) (v:=.ref h) (.hand rfl);have Nn:∀a,¬OwnS (((JG ρ).set j (ao (.val (.int R)))).set i (ao (.val HAND))) ((σ.set j (ao (.int R))).set i (ao (.ref h))) a:=λa z=>zgU (V8 (V8 z));have es:(σ.set j (ao (V.int R)))=σ:=by
  apply mT;intro q;by_cases z:j=q;subst z;have:j<σ.length:=by rcases cj j σ.length with w|w;exact w;rw[cc w]at sj;cases sj
  rw[zlV this,sj];rw[dY z]
 rw[es]at Sd2 Nn;refine hu _ _ _ H1 0 _ _ Sd2 hd ?_;have back:∀{y σ' H' n'},Stt X.K ⟨ao h,λa=>C.ext a\/a=h⟩ y σ' H' n'->(∀a o,H1 a=ao o->ao h≠ao a->H' a=ao o)->Stt X.K C (JG y) σ' H' n:=λ{y σ' H' n'} Z kp =>
  Z.drop (λa ea=>by
    rcases S.hnd a ea with⟨⟨d,m,t,q,rest⟩,l⟩|⟨l,q⟩;exact .inl ⟨⟨d,m,t,kp a _ (J _ _ q) (λz=>by cases z;rw[Y]at q;cases q),rest⟩,l⟩;exact .inr ⟨l,q.same λb o e=>kp b _ (J _ _ e) (λz=>by cases z;rw[Y]at e;cases e)⟩)
   (λa z=>by rcases S.ext a z with⟨xs,q⟩|⟨xs,q⟩|⟨b,q⟩;exact .inl ⟨xs,kp a _ (J _ _ q) (λz=>by cases z;rw[Y]at q;cases q)⟩;exact .inr (.inl ⟨xs,kp a _ (J _ _ q) (λz=>by cases z;rw[Y]at q;cases q)⟩);exact .inr (.inr ⟨b,kp a _ (J _ _ q) (λz=>by cases z;rw[Y]at q;cases q)⟩)) S.hx (λa o I no=>⟨I,λz=>no (.inl (.inl z))⟩)
 have U:∀{y σ' H'},Keep ⟨ao h,λa=>C.ext a\/a=h⟩ (((JG ρ).set j (ao (.val (.int R)))).set i (ao (.val HAND))) (σ.set i (ao (.ref h))) H1 y σ' H'->∀a o,H1 a=ao o->ao h≠ao a->H' a=ao o:=λk a o I na=>(k a o I na (Nn a)).1;have kp2:∀{y σ' H'},Keep ⟨ao h,λa=>C.ext a\/a=h⟩ (((JG ρ).set j (ao (.val (.int R)))).set i (ao (.val HAND))) (σ.set i (ao (.ref h))) H1 y σ' H'->Keep C ρ σ H (JG y) σ' H':=λk a o I _ _=>⟨U k a o (J a o I) (λz=>by cases z;rw[Y]at I;cases I),zgU⟩;refine⟨λy σ' H' n' h' Z L=>g.nx _ _ H' n h' (back Z (U L)) (kp2 L),λt n' v H' h' hn' L rp=>?_,λy σ' H' n' h' Z L=>g.bk _ _ H' n h' (back Z (U L)) (kp2 L),λy σ' H' n' h' Z L=>g.ct _ _ H' n h' (back Z (U L)) (kp2 L),λ_ _ _ h=>h.elim⟩;obtain⟨b,rfl,h'⟩:=h';rw[rp.blI];have kq:∀a o,H a=ao o->H' a=ao o:=λa o I=>L a o (J a o I) (λz=>by cases z;rw[Y]at I;cases I) (Nn a);refine g.rt _ n _ H' h' (λa ea=>?_) (λa o I _ _=>kq a o I) (.bl b);rcases S.hnd a ea with⟨⟨d,m,t,q,rest⟩,l⟩|⟨l,q⟩;exact .inl ⟨⟨d,m,t,kq a _ q,rest⟩,l⟩;exact .inr ⟨l,q.same kq⟩;exact hd.elim;exact hd.elim
end
def zqp(K:qF):Sp:=λvs H Q _=>∃(a:aq) (ns:List Int),vs=[.ref a]/\SqL K H a (ns.map V.int)/\ns.length<=63/\∀H',Q (.bl be) H'
def zuF:GD:=λts n R=>∃ns:List Int,ts=[SCR ns]/\ns.length<=63/\∀u,R (.bool be) u
theorem zrk{K:qF}(vs:List V)(H:Hp)(Q:VK)(E:XK)(h:zqp K vs H Q E):spD K 1 zuF vs H Q E:=by obtain⟨a,ns,rfl,sq,u,q⟩:=h;refine⟨bc,λ_=>False,[SCR ns],0,λt _=>t=.bool be,.cons ?_ .nil,(λa e=>by cases e),(λa z=>z.elim),(λa e=>by cases e),rfl,⟨ns,rfl,u,λ_=>rfl⟩,λt C v H' x _ _ y=>?_⟩;rcases sq with sq|sq;exact .scr sq (λz=>z);exact .scrS λ_=>.inr sq;subst x;rw[y.blI];exact q H'
section
variable{env:Env}{es:List a8}{a b:a8}{l1 l2:List a8}{p:Pos}{x:Str}
theorem JD:starEach (.Name x p::es) env=(bj,eval (.Name x p) env)::starEach es env:=rfl
theorem VG{j}:starEach (.Constant (.int i) j p::es) env=(bj,eval (.Constant (.int i) j p) env)::starEach es env:=rfl
theorem UP{c d}:starEach (.Call a l1 c d::es) env=(bj,eval (.Call a l1 c d) env)::starEach es env:=rfl
theorem Zq{o}:starEach (.BinOp a o b p::es) env=(bj,eval (.BinOp a o b p) env)::starEach es env:=rfl
theorem VH:starEach (.Subscript a b p::es) env=(bj,eval (.Subscript a b p) env)::starEach es env:=rfl
theorem zsx{o}:starEach (.Compare a o l1 p::es) env=(bj,eval (.Compare a o l1 p) env)::starEach es env:=rfl
theorem Uo{g s}:starEach (.ListComp a g s p::es) env=(bj,eval (.ListComp a g s p) env)::starEach es env:=rfl
end
section
variable{X:Cx}{a b c e:a8}{da db dc:DTE}{pos p:Pos}{r r':R2}{g g':G2}
theorem zph(ho:OpR X (compareOp op) r)(hg:Gp2 X r g)(ho':OpR X (compareOp op') r')(U:Gp2 X r' g')(J:DL X a da)(Y:DL X b db)(hc:DL X c dc)
  (hm:lastMarks [op,op'] [b,c]=bj:=by with_unfolding_all rfl):DT X (.Compare a [op,op'] [b,c] pos) (UW (Zm g g' da db dc)):=by
 obtain⟨ta,pa,J⟩:=J;obtain⟨tb,pb,Y⟩:=Y;obtain⟨tc,pc,hc⟩:=hc;refine⟨_,zoD ho ho' pa pb pc hm,λC ρ σ H n Q R S h hq=>?_⟩;refine two J Y S h λx y n2 v w H2 r2 e L q1 q2=>?_;refine hg C.hd (Own C ρ σ) H2 v w x y _ _ (λp=>L.dom) q1 q2 r2 λz u H' l I rp=>?_;have S3:=L.on I.ext (L.hnd.same I);cases z with
 | bool k =>
  cases rp;refine⟨k,rfl,?_⟩;cases k with
  | false=>exact iteF ⟨bj,rfl,hq _ n2 H' l (e.trans I.ext) S3.hnd⟩
  | true =>
   refine iteT (hc C ρ σ H' n2 _ _ S3 l λz2 n3 w2 H4 r4 Z h4 q4=>?_);have S4:=S3.on Z h4;have N:=Z.repT S.hx ((Same.ext I:ExtE C.hd H2 H').repT S.hx q2);refine U C.hd (Own C ρ σ) H4 w w2 y z2 _ _ (λp=>S4.dom) N q4 r4 λz u H' l G rp=>?_;cases z with
   | bool k=>cases rp;exact⟨k,rfl,hq _ n3 H' l (((e.trans I.ext).trans Z).trans G.ext) (S4.hnd.same G)⟩
   | _=>exact l.elim
 | _=>exact l.elim
end
section
variable{C:Int->Int->Prop}{f:Int->Int->Int}{fb:Int->Int->Bool}{i j k:Int}{R:af->Prop}{Rb:Bool->Prop}{xs ys:qD}{s t:Str}{a b:Bool}{u v:af}
theorem l_gI:gI C f (.int i) (.int j) R=(C i j/\R (.int (f i j))):=propext aZ
theorem Zd:gI0 f (.int i) (.int j) R=R (.int (f i j)):=propext aZ
theorem Yo:oAdd (.int i) (.int j) R=R (.int (i+j)):=propext aZ
theorem Yx:oAdd (.str s) (.str t) R=(s.length+t.length<=16777216/\R (.str (s++t))):=propext aZ
theorem Yy:oAdd (.tuple xs) (.tuple ys) R=(xs.length+ys.length<=16777216/\R (.tuple (xs++ys))):=propext aZ
theorem Yg:oEq (.int i) (.int j) R=R (.bool (decide (i=j))):=propext aZ
theorem Yh:oEq (.tuple xs) (.tuple ys) R=(Okd (.tuple xs)/\Okd (.tuple ys)/\R (.bool (gk (.tuple xs) (.tuple ys)))):=propext aZ
theorem U6:oNe (.int i) (.int j) R=R (.bool (!decide (i=j))):=propext aZ
theorem U5:oNe (.bool a) (.bool b) R=R (.bool (!decide (a=b))):=propext aZ
theorem U8:oNe (.str s) (.str t) R=R (.bool (!decide (s=t))):=propext aZ
theorem U9:oNe (.tuple xs) (.tuple ys) R=(Okd (.tuple xs)/\Okd (.tuple ys)/\R (.bool (!PyData.eqv (.tuple xs) (.tuple ys)))):=propext aZ
theorem U7:oNe (.list xs) (.list ys) R=(Okd (.list xs)/\Okd (.list ys)/\R (.bool (!PyData.eqv (.list xs) (.list ys)))):=propext aZ
theorem YH:oIsN u .none R=R (.bool (!isNone u)):=by cases u <;> exact propext aZ
theorem YS:Zy u (.tuple xs) R=(Okd u/\(∀t∈xs,Okd t)/\R (.bool (!xs.any λt=>t.eqv u))):=by cases u <;> exact propext aZ
theorem Yk:oLtA (.int i) (.int j) R=R (.bool (decide (i<j))):=propext aZ
theorem Yj:oLeA (.int i) (.int j) R=R (.bool (decide (i<=j))):=propext aZ
theorem Yi(h:atI xs i=ao x):oIx (.list xs) (.int i) R=R x:=by show(match atI xs i with|some t=>R t|none=>False)=_;rw[h]
theorem Ze(h:atI xs i=ao x):oIx (.tuple xs) (.int i) R=R x:=by show(match atI xs i with|some t=>R t|none=>False)=_;rw[h]
theorem YC:oIx (.tuple (u::xs)) (.int 0) R=R u:=Ze (by unfold atI ixN;simp)
theorem YD:oIx (.tuple (u::v::xs)) (.int 1) R=R v:=Ze (by unfold atI ixN;simp;rw[if_pos (by omega)];rfl)
theorem YE:oIx (.tuple (u::v::w::xs)) (.int 2) R=R w:=Ze (by unfold atI ixN;simp;rw[if_pos (by omega)];rfl)
theorem YA:oIx (.list (u::xs)) (.int 0) R=R u:=Yi (by unfold atI ixN;simp)
theorem YB:oIx (.list (u::v::xs)) (.int 1) R=R v:=Yi (by unfold atI ixN;simp;rw[if_pos (by omega)];rfl)
theorem YF:truD (.bool a) Rb=Rb a:=propext aZ
theorem YG:truD (.int i) Rb=Rb (decide (i≠0)):=propext aZ
theorem Yp:truD (.list xs) Rb=Rb (!xs.isEmpty):=propext aZ
theorem Yq:truD (.tuple xs) Rb=Rb (!xs.isEmpty):=propext aZ
theorem Ye:bolD (.bool a) Rb=Rb a:=propext aZ
theorem U4:bMin [.int i,.int j] R=R (.int (if j<i then j else i)):=propext aZ
theorem U3:bMax [.int i,.int j] R=R (.int (if j > i then j else i)):=propext aZ
theorem Yz:bInt [.bool a] R=R (.int (if a then 1 else 0)):=propext aZ
theorem Yb:bStr [.int i] R=(i.natAbs<2 ^ 1920/\R (.str (toString i))):=propext aZ
theorem YT:Vy [.list xs] R=R (.tuple xs):=propext aZ
theorem YI:JN (.list xs) Rl=Rl xs:=propext aZ
theorem YR:JN (.tuple xs) Rl=Rl xs:=propext aZ
variable{d:DTE}{ρ:En}{n:Nat}{Rn:qN}
end
abbrev blk(i h:Int):af:=.tuple [.int i,.int h]
theorem UA:Okd (.tuple [.int i,.int h]):=⟨by simp[dS,eO],by simp[ik,gS]⟩
theorem zpe:gk (.tuple [.int i,.int h]) (.tuple [.int j,.int g])=(decide (i=j)&&decide (h=g)):=by simp only[gk,pS,vU];rw[ot,ot]
def IsBk(bits i h:Int):Prop:=0<=h/\h<=bits/\∃k:Int,0<=k/\i=k*2 ^ h.toNat/\k<2 ^ (bits - h).toNat
theorem Z2(k:Nat):(0:Int)<2 ^ k:=Bd.JM k
theorem zjF:(2:Int) ^ (a+b)=2 ^ a*2 ^ b:=dM 2 a b
theorem IsBk.bounds(v:0<=bits)(H:IsBk bits i h):0<=i/\i+2 ^ h.toNat<=2 ^ bits.toNat:=by
 obtain⟨h0,u,k,l,rfl,x⟩:=H;have p:=Z2 h.toNat;refine⟨ui l (b8 p),?_⟩;have e:bits.toNat=(bits - h).toNat+h.toNat:=by lia
 rw[e,zjF];have:(k+1)*2 ^ h.toNat<=2 ^ (bits - h).toNat*2 ^ h.toNat:=a7 (by lia) (b8 p);rw[cE,cR]at this;exact this
theorem cpow(h0:0<=j)(l:j<=1000000):CPow 1 j:=⟨h0,l,by decide⟩
section
variable{t u tb:DTS}{D:JH}{ρ ρ0:En}{n i j m:Nat}{d da db dc d1 d2:DTE}{ds di:DTA}{c c' tt:DTT}{g:G2}{g':G2}{gc:GC}{gd:GD}{tg:DTG}{tgs:DTGs}{R:qN}{Rb:Bool->Nat->Prop}{Rl:qD->Nat->Prop}{Re:En->Prop}{x y:af}{xs ys acc:qD}{f:Int->Int->Int}{fb:af->Bool}{k:Bool}{capt:List Nat}{h:Option Cell}
theorem ZH:(sSeq t u D ρ n)=(t { D with nx:=u D } ρ n):=propext aZ
theorem ZG:(sRet d D ρ n)=(d ρ n λt l=>D.rt t l):=propext aZ
theorem ZI:(sSet i d D ρ n)=(d ρ n λt o=>D.nx (ρ.set i (ao (.val t))) o):=propext aZ
theorem Zv:(sAsg d tg D ρ n)=(d ρ n λt o=>tg t ρ λl=>D.nx l o):=propext aZ
theorem u_dC:(dC x ρ n R)=(R x n):=propext aZ
theorem Zi:(dOp g da db ρ n R)=(da ρ n λx l=>db ρ l λy o=>g x y λz=>R z o):=propext aZ
theorem Zr:(dNew ds ρ n R)=(ds ρ n λts o=>R (.list ts) o):=propext aZ
theorem Zt:(dTup ds ρ n R)=(ds ρ n λts o=>R (.tuple ts) o):=propext aZ
theorem Zs:(dNil ρ n Rl)=(Rl [] n):=propext aZ
theorem ZS:(J5 d ds ρ n Rl)=(d ρ n λt o=>ds ρ o λts l=>Rl (t::ts) l):=propext aZ
theorem Zh:(dFn gd ds ρ n R)=(ds ρ n λts l=>gd ts l R):=propext aZ
theorem Vd:(Zl gc ds ρ n R)=(ds ρ n λts l=>gc ts λz=>R z l):=propext aZ
theorem Vf:(JX i x ρ Re)=(Re (ρ.set i (ao (.val x)))):=propext aZ
theorem ZV:(Ud tgs (.tuple xs) ρ Re)=(tgs xs ρ Re):=propext aZ
theorem ZU:(Uc [] ρ Re)=(Re ρ):=propext aZ
theorem Ve:(Qt tg tgs (x::xs) ρ Re)=(tg x ρ λl=>tgs xs l Re):=propext aZ
def cVal:Option Cell->(af->Prop)->Prop
 | some (.val d),R=>R d
 | _,_=>False
def cOwn:Option Cell->(qD->Prop)->Prop
 | some (.own d),R=>R d
 | _,_=>False
theorem ZF:cVal (ao (.val x)) Q=Q x:=propext aZ
theorem Zu:dVar i ρ n R=cVal (ρ.getD i bc) λd=>R d n:=by
 unfold dVar;rw[br];cases e:ρ[i]? with
 | none=>exact propext aZ
 | some o=>cases o with
  | none=>exact propext aZ
  | some c=>cases c <;> exact propext aZ
theorem YM:UW d ρ n Rb=(d ρ n λt l=>bolD t λb=>Rb b l):=by unfold UW;congr 1;funext t l;cases t <;> exact propext aZ
def lLst:af->(qD->Prop)->Prop
 | .list xs,R=>R xs
 | _,_=>False
def lTup:af->(qD->Prop)->Prop
 | .tuple xs,R=>R xs
 | _,_=>False
theorem Yu:dItL d ρ n Rl=(d ρ n λt l=>lLst t λts=>Rl ts l):=by unfold dItL;congr 1;funext t l;cases t <;> exact propext aZ
theorem Yv:dItT d ρ n Rl=(d ρ n λt l=>lTup t λts=>Rl ts l):=by unfold dItT;congr 1;funext t l;cases t <;> exact propext aZ
def lInt:af->(Int->Prop)->Prop
 | .int i,R=>R i
 | _,_=>False
theorem YK:Y7 d ρ n Rl=(d ρ n λt l=>lInt t λj=>(-(2 ^ 62)<=j/\j<2 ^ 62)/\Rl (JY 0 j.toNat) l):=by unfold Y7;congr 1;funext t l;cases t <;> exact propext aZ
theorem YL:Y8 d1 d2 ρ n Rl=(d1 ρ n λt l=>d2 ρ l λu v=>lInt t λi=>lInt u λj=>(-(2 ^ 62)<=i/\i<2 ^ 62/\-(2 ^ 62)<=j/\j<2 ^ 62)/\Rl (JY i (j - i).toNat) v):=by unfold Y8;congr 1;funext t l;congr 1;funext u v;cases t <;> cases u <;> exact propext aZ
theorem Yw:dNeg d ρ n R=(d ρ n λt l=>lInt t λi=>R (.int (-i)) l):=by unfold dNeg;congr 1;funext t l;cases t <;> exact propext aZ
theorem U1:sAug i f d D ρ n=cVal (ρ.getD i bc) λv=>lInt v λq=>d ρ n λt C=>lInt t λk=>D.nx (ρ.set i (ao (.val (.int (f q k))))) C:=by
 unfold sAug;rw[br];cases e:ρ[i]? with
 | none=>exact propext aZ
 | some o=>cases o with
  | none=>exact propext aZ
  | some c=>cases c with
   | own _=>exact propext aZ
   | dct _=>exact propext aZ
   | dtt _=>exact propext aZ
   | rdo _=>exact propext aZ
   | val v=>cases v with
    | int q =>show(d ρ n λt C=>_)=(d ρ n λt C=>_);congr 1;funext t C;cases t <;> exact propext aZ
    | _=>exact propext aZ
theorem YV:Zm g g' da db dc ρ n R=(da ρ n λx C=>db ρ C λy v=>g x y λz=>bolD z λb=>if b=be then dc ρ v λw G=>g' y w λz=>R z G else R (.bool bj) v):=by
 unfold Zm;congr 1;funext x C;congr 1;funext y v;congr 1;funext z;cases z with
 | bool b=>cases b <;> simp[bolD]
 | _=>exact propext aZ
def UE(ρ:En)(i:Nat)(D:JH)(C:DTE)(t:af)(l:Nat)(ts:qD):Prop:=C ρ l λj v=>lInt j λj=>(match ixN ts.length j with|some k=>D.nx (ρ.set i (ao (.own (ts.set k t)))) v|none=>False)
theorem U2:sPut i dj d D ρ n=(d ρ n λt l=>cOwn (ρ.getD i bc) λxs=>UE ρ i D dj t l xs):=by
 unfold sPut;congr 1;funext t l;rw[br];cases e:ρ[i]? with
 | none=>exact propext aZ
 | some o=>cases o with
  | none=>exact propext aZ
  | some c=>cases c with
   | val _=>exact propext aZ
   | dct _=>exact propext aZ
   | dtt _=>exact propext aZ
   | rdo _=>exact propext aZ
   | own xs =>show(dj ρ l λj v=>_)=UE ρ i D dj t l xs;unfold UE;congr 1;funext j v;cases j <;> exact propext aZ
end
section
variable{t u tb:DTS}{D:JH}{ρ ρ0:En}{n i j m:Nat}{d da db dc d1 d2:DTE}{ds di:DTA}{c c' tt:DTT}{g:G2}{g':G2}{gc:GC}{gd:GD}{tg:DTG}{tgs:DTGs}{R:qN}{Rb:Bool->Nat->Prop}{Rl:qD->Nat->Prop}{Re:En->Prop}{x y:af}{xs ys acc:qD}{f:Int->Int->Int}{fb:af->Bool}{k:Bool}{capt:List Nat}
theorem zub(h:t { D with nx:=u D } ρ n):sSeq t u D ρ n:=h
theorem zrt(h:D.nx ρ n):zqv D ρ n:=h
theorem zuc(h:d ρ n λt l=>D.rt t l):sRet d D ρ n:=h
theorem zw7(h:c ρ n λb l=>if b=be then t D ρ l else u D ρ l):sIf c t u D ρ n:=h
theorem zue(h:d ρ n λt o=>tg t ρ λl=>D.nx l o):sAsg d tg D ρ n:=h
theorem zud(h:di ρ n λts l=>forP tg tb D ts ρ l):sFor di tg tb D ρ n:=h
theorem i_dC(h:R x n):dC x ρ n R:=h
theorem zxa(h:da ρ n λx l=>db ρ l λy o=>g x y λz=>R z o):dOp g da db ρ n R:=h
theorem zuq(h:ds ρ n λts o=>R (.list ts) o):dNew ds ρ n R:=h
theorem zuk(h:ds ρ n λts o=>R (.tuple ts) o):dTup ds ρ n R:=h
theorem zup(h:Rl [] n):dNil ρ n Rl:=h
theorem zrA(h:d ρ n λt l=>ds ρ l λts o=>Rl (t::ts) o):J5 d ds ρ n Rl:=h
theorem zxb(h:ds ρ n λts l=>gd ts l R):dFn gd ds ρ n R:=h
theorem zuv(h:ds ρ n λts l=>gd ts l λt o=>QE t=be/\R t o):dFnL gd ds ρ n R:=h
theorem zo9(h:ds ρ n λts l=>gc ts λz=>R z l):Zl gc ds ρ n R:=h
theorem zuw(h:c ρ n λb l=>if b=be then c' ρ l Rb else Rb bj l):dAnd c c' ρ n Rb:=h
theorem zw_(h:c ρ n λb l=>if b=be then Rb be l else c' ρ l Rb):dOr c c' ρ n Rb:=h
theorem zuo(h:c ρ n λb l=>Rb (!b) l):dNot c ρ n Rb:=h
theorem zrC(h:da ρ n λt v=>bolD t λb=>if b=be then db ρ v R else R (.bool bj) v):zrX da db ρ n R:=h
theorem zun(h:da ρ n λt v=>bolD t λb=>if b=be then R (.bool be) v else db ρ v R):dOrV da db ρ n R:=h
theorem zuu(h:c ρ n λb l=>if b=be then da ρ l R else db ρ l R):dIfE c da db ρ n R:=h
theorem zul(h:d ρ n λt l=>truD t λb=>Rb b l):dTru d ρ n Rb:=h
theorem zrB(h:di ρ n λts l=>JS tg tt d (JI m capt ρ) ts [] l Rl):dComp m capt di tg tt d ρ n Rl:=h
theorem zuj(h:Rb be n):dYes ρ n Rb:=h
theorem zrr(h:tgs xs ρ Re):Ud tgs (.tuple xs) ρ Re:=h
theorem zrs(h:Re ρ):Uc [] ρ Re:=h
theorem zo6(h:tg x ρ λl=>tgs xs l Re):Qt tg tgs (x::xs) ρ Re:=h
theorem zrv(h:d ρ n λt l=>bolD t λb=>Rb b l):UW d ρ n Rb:=YM.symm▸h
theorem zut(h:d ρ n λt l=>lLst t λts=>Rl ts l):dItL d ρ n Rl:=Yu.symm▸h
theorem zus(h:d ρ n λt l=>lTup t λts=>Rl ts l):dItT d ρ n Rl:=Yv.symm▸h
theorem zry(h:d ρ n λt l=>lInt t λj=>(-(2 ^ 62)<=j/\j<2 ^ 62)/\Rl (JY 0 j.toNat) l):Y7 d ρ n Rl:=YK.symm▸h
theorem zrx(h:d1 ρ n λt l=>d2 ρ l λu v=>lInt t λi=>lInt u λj=>(-(2 ^ 62)<=i/\i<2 ^ 62/\-(2 ^ 62)<=j/\j<2 ^ 62)/\Rl (JY i (j - i).toNat) v):Y8 d1 d2 ρ n Rl:=YL.symm▸h
theorem zur(h:d ρ n λt l=>lInt t λi=>R (.int (-i)) l):dNeg d ρ n R:=Yw.symm▸h
theorem zo8(h:da ρ n λx C=>db ρ C λy v=>g x y λz=>bolD z λb=>if b=be then dc ρ v λw G=>g' y w λz=>R z G else R (.bool bj) v):Zm g g' da db dc ρ n R:=YV.symm▸h
theorem zpY(e:ρ[i]?=ao (ao (.val x)))(h:R x n):dVar i ρ n R:=by unfold dVar;rw[e];exact h
theorem zpZ(e:ρ[i]?=ao (ao (.own xs)))(h:R (.list xs) n):dOwn i ρ n R:=by unfold dOwn;rw[e];exact h
theorem zj4(e:ρ[i]?=ao (ao (.own xs)))(h:d ρ n λt l=>xs.length<16777216/\D.nx (ρ.set i (ao (.own (xs++[t])))) l):ZO i d D ρ n:=by unfold ZO;rw[e];exact h
theorem zj3(e:ρ[i]?=ao (ao (.own xs)))(h:t D (ρ.set i (ao (.val (.list xs)))) n):ZP i t D ρ n:=by unfold ZP;rw[e];exact h
theorem zxc(e:ρ[i]?=ao (ao (.val (.int q))))(h:d ρ n λt o=>lInt t λk=>D.nx (ρ.set i (ao (.val (.int (f q k))))) o):sAug i f d D ρ n:=by rw[U1,br,e];exact h
theorem zw8(e:ρ[i]?=ao (ao (.own xs)))(h:d ρ n λt l=>UE ρ i D dj t l xs):sPut i dj d D ρ n:=by rw[U2,br,e];exact h
theorem zuf(h:dj ρ n λj l=>lInt j λj=>(match ixN xs.length j with|some k=>D.nx (ρ.set i (ao (.own (xs.set k x)))) l|none=>False)):UE ρ i D dj x n xs:=h
theorem zw9{A B:Prop}(l:b=be->A)(o:b=bj->B):if b=be then A else B:=by cases b with|true=>exact iteT (l rfl)|false=>exact iteF (o rfl)
theorem zuh{p:Prop}[Decidable p]{A B:Prop}(l:p->A)(o:¬p->B):if decide p=be then A else B:=by by_cases h:p;rw[decide_eq_true h];exact iteT (l h);rw[decide_eq_false h];exact iteF (o h)
theorem zug{A B:Prop}(h:if b=be then B else A):if (!b)=be then A else B:=by cases b with|true=>exact iteF h|false=>exact iteT h
end
section
variable{C:Int->Int->Prop}{f:Int->Int->Int}{fb:Int->Int->Bool}{i j k:Int}{R:af->Prop}{Rb:Bool->Prop}{xs ys:qD}{s t:Str}{a b:Bool}{u v x y:af}{Rn:qN}{n:Nat}
theorem zt5(h:R (.int (i+j))):oAdd (.int i) (.int j) R:=Yo.symm▸h
theorem zt4(h:(s.length+t.length<=16777216/\R (.str (s++t)))):oAdd (.str s) (.str t) R:=Yx.symm▸h
theorem zt3(h:(xs.length+ys.length<=16777216/\R (.tuple (xs++ys)))):oAdd (.tuple xs) (.tuple ys) R:=Yy.symm▸h
theorem zw4(h:R (.bool (decide (i=j)))):oEq (.int i) (.int j) R:=Yg.symm▸h
theorem zw3(h:(Okd (.tuple xs)/\Okd (.tuple ys)/\R (.bool (gk (.tuple xs) (.tuple ys))))):oEq (.tuple xs) (.tuple ys) R:=Yh.symm▸h
theorem zwS(h:R (.bool (!decide (i=j)))):oNe (.int i) (.int j) R:=U6.symm▸h
theorem zwT(h:R (.bool (!decide (a=b)))):oNe (.bool a) (.bool b) R:=U5.symm▸h
theorem zwQ(h:R (.bool (!decide (s=t)))):oNe (.str s) (.str t) R:=U8.symm▸h
theorem ztR(h:(Okd (.tuple xs)/\Okd (.tuple ys)/\R (.bool (!PyData.eqv (.tuple xs) (.tuple ys))))):oNe (.tuple xs) (.tuple ys) R:=U9.symm▸h
theorem zwR(h:(Okd (.list xs)/\Okd (.list ys)/\R (.bool (!PyData.eqv (.list xs) (.list ys))))):oNe (.list xs) (.list ys) R:=U7.symm▸h
theorem zrq(h:R (.bool (!isNone u))):oIsN u .none R:=YH.symm▸h
theorem zo3(h:(Okd u/\(∀t∈xs,Okd t)/\R (.bool (!xs.any λt=>t.eqv u)))):Zy u (.tuple xs) R:=YS.symm▸h
theorem zwY(h:R (.bool (decide (i<j)))):oLtA (.int i) (.int j) R:=Yk.symm▸h
theorem zw0(h:R (.bool (decide (i<=j)))):oLeA (.int i) (.int j) R:=Yj.symm▸h
theorem ztY(h:R u):oIx (.tuple (u::xs)) (.int 0) R:=YC.symm▸h
theorem ztX(h:R v):oIx (.tuple (u::v::xs)) (.int 1) R:=YD.symm▸h
theorem ztW(h:R w):oIx (.tuple (u::v::w::xs)) (.int 2) R:=YE.symm▸h
theorem zpV(h:R u):oIx (.list (u::xs)) (.int 0) R:=YA.symm▸h
theorem zpU(h:R v):oIx (.list (u::v::xs)) (.int 1) R:=YB.symm▸h
theorem ztP(h:Rb a):truD (.bool a) Rb:=YF.symm▸h
theorem ztO(h:Rb (decide (i≠0))):truD (.int i) Rb:=YG.symm▸h
theorem ztN(h:Rb (!xs.isEmpty)):truD (.list xs) Rb:=Yp.symm▸h
theorem ztM(h:Rb (!xs.isEmpty)):truD (.tuple xs) Rb:=Yq.symm▸h
theorem zw5(h:Rb a):bolD (.bool a) Rb:=Ye.symm▸h
theorem ztV(h:R (.int xs.length)):bLen [.list xs] R:=.inl ⟨xs,rfl,h⟩
theorem ztT(h:R (.int xs.length)):bLen [.tuple xs] R:=.inr (.inl ⟨xs,rfl,h⟩)
theorem ztU(h:(s.length<=16777216/\R (.int s.length))):bLen [.str s] R:=.inr (.inr (.inl ⟨s,rfl,h⟩))
theorem zo4(h:R (.int ns.length)):bLen [SCR ns] R:=.inr (.inr (.inr ⟨_,rfl,by rw[aN];exact h⟩))
theorem zwW(h:R (.int (if j<i then j else i))):bMin [.int i,.int j] R:=U4.symm▸h
theorem zwX(h:R (.int (if j > i then j else i))):bMax [.int i,.int j] R:=U3.symm▸h
theorem zt1(h:R (.int (if a then 1 else 0))):bInt [.bool a] R:=Yz.symm▸h
theorem zwM(h:(i.natAbs<2 ^ 1920/\R (.str (toString i)))):bStr [.int i] R:=Yb.symm▸h
theorem zo2(h:R (.tuple xs)):Vy [.list xs] R:=YT.symm▸h
theorem zrp(h:Rl xs):JN (.list xs) Rl:=YI.symm▸h
theorem zo5(h:Rl xs):JN (.tuple xs) Rl:=YR.symm▸h
theorem zwZ(h:Q xs):lLst (.list xs) Q:=h
theorem zwK(h:Q xs):lTup (.tuple xs) Q:=h
theorem zw2(h:Q i):lInt (.int i) Q:=h
theorem zwU(c:CMul i j)(h:R (.int (i*j))):oMul (.int i) (.int j) R:=⟨c,h⟩
theorem zwV(c:0<j)(h:R (.int (i % j))):oMod (.int i) (.int j) R:=⟨c,h⟩
theorem zt2(c:Y0 i j)(h:R (.int (i / j))):Uf (.int i) (.int j) R:=⟨c,h⟩
theorem zwP(c:CPow i j)(h:R (.int (i*2 ^ j.toNat))):oShl (.int i) (.int j) R:=⟨c,h⟩
theorem zwO(c:0<=j)(h:R (.int (i / 2 ^ j.toNat))):oShr (.int i) (.int j) R:=⟨c,h⟩
theorem zwL(h:R (.int (i - j))):oSub (.int i) (.int j) R:=h
theorem zwJ(h:R (.int (dh i j))):oXor (.int i) (.int j) R:=h
theorem zw6(h:R (.int (fJ i j))):oAnd (.int i) (.int j) R:=h
theorem j_gB(h:R (.bool (fb i j))):gB fb (.int i) (.int j) R:=h
end
theorem UZ{h:Int}(h0:0<h):(2:Int) ^ h.toNat=2*2 ^ (h - 1).toNat:=by
 have e:h.toNat=(h - 1).toNat+1:=by lia
 rw[e,bL,b9]
theorem zs7{h:Int}(h0:0<=h):(2:Int) ^ (h+1).toNat=2*2 ^ h.toNat:=by have:=UZ (h:=h+1) (by lia);rw[this];simp
theorem IsBk.low{bits i h:Int}(B:IsBk bits i h)(l:0<h):IsBk bits i (h - 1):=by
 obtain⟨h0,u,k,v,rfl,x⟩:=B;refine⟨by lia,by lia,2*k,by lia,?_,?_⟩;rw[UZ l,<- bN,b9 k 2];have e:(bits - (h - 1)).toNat=(bits - h).toNat+1:=by lia
 rw[e,bL];lia
theorem IsBk.up{bits i h:Int}(B:IsBk bits i h)(l:0<h):IsBk bits (i+2 ^ h.toNat / 2) (h - 1):=by
 obtain⟨h0,u,k,v,rfl,x⟩:=B;refine⟨by lia,by lia,2*k+1,by lia,?_,?_⟩;rw[UZ l];have:2*(2:Int) ^ (h - 1).toNat / 2=2 ^ (h - 1).toNat:=by lia
 rw[this,cE,cR,<- bN,b9 k 2];have e:(bits - (h - 1)).toNat=(bits - h).toNat+1:=by lia
 rw[e,bL];lia
theorem zoW(P:Int)(l:0<P):k*P % (2*P)=(k % 2)*P:=by rw[b9 2 P,b9 k P,Int.mul_emod_mul_of_pos _ _ l,b9]
theorem IsBk.abt{bits i h:Int}(B:IsBk bits i h)(v:h<bits):IsBk bits (i - i % (2*2 ^ h.toNat)) (h+1):=by
 obtain⟨h0,u,k,x,rfl,l⟩:=B;refine⟨by lia,by lia,k / 2,by lia,?_,?_⟩;rw[zoW _ (Z2 _),zs7 h0,<- yk];have:k - k % 2=k / 2*2:=by lia
 rw[this,bN];have e:(bits - h).toNat=(bits - (h+1)).toNat+1:=by lia
 rw[e,bL]at l;lia
theorem IsBk.oth(B:IsBk bits i h)(x:h<bits):IsBk bits (dh i (2 ^ h.toNat)) h:=by
 obtain⟨h0,l,k,v,rfl,u⟩:=B;rw[zjj _ v];have e:(bits - h).toNat=(bits - (h+1)).toNat+1:=by lia
 split;refine⟨h0,l,k+1,by lia,by rw[cE,cR],?_⟩;rw[e,bL]at u ⊢;lia;refine⟨h0,l,k - 1,by lia,by rw[yk,cR],by lia⟩
theorem IsBk.nxt(B:IsBk bits i h)(l:i+2*2 ^ h.toNat<=2 ^ bits.toNat):IsBk bits (i+2 ^ h.toNat) h:=by
 obtain⟨h0,u,k,x,rfl,v⟩:=B;refine⟨h0,u,k+1,by lia,by rw[cE,cR],?_⟩;have e:bits.toNat=(bits - h).toNat+h.toNat:=by lia
 rw[e,zjF]at l;have p:=Z2 h.toNat;have:(k+2)*2 ^ h.toNat<=2 ^ (bits - h).toNat*2 ^ h.toNat:=by rw[cE];exact l
 have:=Int.le_of_mul_le_mul_right this p;lia
theorem zxm:CMul 2 j:=.inl ⟨by decide,by decide⟩
theorem zuW:Y0 j 2:=⟨by decide,by decide⟩
theorem UB(h:Nat):(1:Int)*2 ^ h=2 ^ h:=cR _
def BlkN(bits i:Int)(h:Nat):Prop:=(h:Int)<=bits/\∃k:Int,0<=k/\i=k*2 ^ h/\k<2 ^ (bits.toNat - h)
theorem IsBk.n(B:IsBk bits i h):BlkN bits i h.toNat:=by
 obtain⟨h0,v,k,u,e,l⟩:=B;refine⟨by lia,k,u,e,?_⟩;have:(bits - h).toNat=bits.toNat - h.toNat:=by lia
 rw[<- this];exact l
theorem znZ(b:BlkN bits j g)(l:g<=h):j / 2 ^ h*2 ^ h<=j/\j+2 ^ g<=(j / 2 ^ h+1)*2 ^ h:=by
 obtain⟨_,m,m0,rfl,_⟩:=b;have y:=Bd.JM h;have u:=Bd.JM g;have v:=Bd.JM (h - g);have o:(2:Int) ^ h=2 ^ (h - g)*2 ^ g:=by rw[<- dM];congr 1;lia
 refine⟨Int.ediv_mul_le _ (by lia),?_⟩;have eq:(m*2 ^ g) / 2 ^ h=m / 2 ^ (h - g):=by rw[o];exact Int.mul_ediv_mul_of_pos_left m _ u
 rw[eq,o,<- bN];have x:m*2 ^ g+2 ^ g=(m+1)*2 ^ g:=by rw[cE,cR]
 rw[x];refine a7 ?_ (by lia);have:=Int.lt_ediv_add_one_mul_self m v;lia
theorem zjM{a b A:Int}(p:0<A)(l:a<b):(a+1)*A<=b*A:=a7 (by lia) (by lia)
theorem zi0(x:BlkN bits i h)(u:BlkN bits j g):(g<=h/\j / 2 ^ h*2 ^ h=i)↔(i<=j/\j+2 ^ g<=i+2 ^ h):=by
 have o:=Bd.JM h;have y:=Bd.JM g;constructor;rintro⟨l,e⟩;have t:=znZ u l;rw[e,cE,cR,e]at t;exact t;rintro⟨v,l2⟩;have l:g<=h:=by
  by_cases z:g<=h;exact z;exfalso;have:(2:Int) ^ h<2 ^ g:=by
   have e:(2:Int) ^ g=2 ^ (g - h)*2 ^ h:=by rw[<- dM];congr 1;lia
   have p2:(2:Int)<=2 ^ (g - h):=by obtain⟨d,hd⟩:∃d,g - h=d+1:=⟨g - h - 1,by lia⟩;rw[hd,bL];have:=Bd.JM d;lia
   rw[e];have:=a7 p2 (show(0:Int)<=2 ^ h by lia);lia
  lia
 refine⟨l,?_⟩;obtain⟨_,k,C,rfl,_⟩:=x;have e:j / 2 ^ h=k:=by have a1:k<=j / 2 ^ h:=(Int.le_ediv_iff_mul_le o).mpr v;have a2:j / 2 ^ h<k+1:=(Int.ediv_lt_iff_lt_mul o).mpr (by rw[cE,cR];lia);lia
 rw[e]
theorem zir{bits i j:Int}{h g:Nat}(v:BlkN bits i h)(u:BlkN bits j g)(l:g<=h):(g<=h/\j / 2 ^ h*2 ^ h=i)\/j+2 ^ g<=i\/i+2 ^ h<=j:=by have o:=Bd.JM h;have t:=znZ u l;obtain⟨_,k,x,rfl,_⟩:=v;rcases kv (j / 2 ^ h) k with z|z|z;have:=zjM o z;exact .inr (.inl (by lia));exact .inl ⟨l,by rw[z]⟩;have:=zjM o z;rw[cE,cR]at this;exact .inr (.inr (by lia))
def hldD(i h j g:Int):Bool:=decide (g<=h)&&decide (j / 2 ^ h.toNat*2 ^ h.toNat=i)
theorem zp1(A:IsBk bits i h)(B:IsBk bits j g):hldD i h j g=decide (i<=j/\j+2 ^ g.toNat<=i+2 ^ h.toNat):=by have:=zi0 A.n B.n;unfold hldD;rw[<- Bool.decide_and];refine decide_eq_decide.mpr ⟨λz=>this.mp ⟨by have:=A.1;have:=B.1;omega,z.2⟩,λz=>?_⟩;obtain⟨l,e⟩:=this.mpr z;exact⟨by have:=A.1;have:=B.1;omega,e⟩
theorem znd(Inv:Nat->En->Nat->Prop):∀(ts:qD) (i:Nat) {o:En}{n:Nat},Inv i o n ->
  (∀(k:Nat) (t:af) (o:En) (n:Nat) (K:En->Nat->Prop),ts[k]?=ao t->Inv (i+k) o n->(∀v x,Inv (i+k+1) v x->K v x)->g t o λv=>tb { D with nx:=K,ct:=K,bk:=D.nx } v n) ->
  (∀o n,Inv (i+ts.length) o n->D.nx o n)->forP g tb D ts o n
 | [],i,o,n,h0,_,fin=>fin o n (by simpa using h0)
 | t::ts,i,o,n,h0,turn,fin=>by
  refine turn 0 t o n _ rfl (by simpa using h0) λv x h'=>?_;refine znd Inv ts (i+1) (by simpa using h') (λk u o n K e y C=>?_) (λo n h=>fin o n ?_);refine turn (k+1) u o n K (by simpa using e) ?_ λv x h'=>C v x ?_;have:i+(k+1)=i+1+k:=by lia
  rw[this];exact y;have:i+1+k+1=i+(k+1)+1:=by lia
  rw[this];exact h';have:i+(t::ts).length=i+1+ts.length:=by simp;lia
  rw[this]at *;exact h
theorem Uw(Inv:Nat->En->Nat->Prop)(h0:Inv 0 o n)
  (turn:∀(k:Nat) (t:af) (o:En) (n:Nat) (K:En->Nat->Prop),ts[k]?=ao t->Inv k o n->(∀l u,Inv (k+1) l u->K l u)->g t o λl=>tb { D with nx:=K,ct:=K,bk:=D.nx } l n)
  (fin:∀o n,Inv ts.length o n->D.nx o n):forP g tb D ts o n:=by
 refine znd Inv ts 0 h0 (λk t o n K e v x=>turn k t o n K e (by simpa using v) λl u h'=>x l u (by simpa using h')) λo n h=>fin o n (by simpa using h)
theorem Vi{lo:Int}{m i:Nat}{t:af}(h:(JY lo m)[i]?=ao t):i<m/\t=.int (lo+(i:Int)):=by unfold JY at h;rw[aX]at h;by_cases hi:i<m;rw[pK hi]at h;cases h;exact⟨hi,rfl⟩;rw[cc (by simp;lia)]at h;cases h
theorem zdQ{lo:Int}{m:Nat}:(JY lo m).length=m:=by simp[JY]
theorem zg5(Inv:Nat->En->Nat->Prop)(h0:Inv m o n)
  (turn:∀m o n,Inv m o n->c o n λb x=>if b=be then tb { D with nx:=λl v=>∃u,u<m/\Inv u l v,ct:=λl v=>∃u,u<m/\Inv u l v,bk:=D.nx } o x else D.nx o x):zl3 c tb D o n :=
 ⟨Inv,⟨m,h0⟩,turn⟩
theorem IsBk.x1(B:IsBk bits i h)(l:0<h):dh i (2 ^ (h - 1).toNat)=i+2 ^ h.toNat / 2:=by
 obtain⟨h0,u,k,x,rfl,v⟩:=B;have e:k*2 ^ h.toNat=(2*k)*2 ^ (h - 1).toNat:=by rw[UZ l,<- bN,b9 k 2]
 rw[e,zjj _ (by lia),if_pos (by lia),UZ l];lia
theorem IsBk.x3(B:IsBk bits i h)(l:0<h):dh i (2 ^ (h - 1).toNat) / 2 ^ h.toNat*2 ^ h.toNat=i:=by
 rw[B.x1 l];obtain⟨h0,u,k,x,rfl,v⟩:=B;have p:=Z2 h.toNat;have p2:=Z2 (h - 1).toNat;have e:=UZ l;have:(k*2 ^ h.toNat+2 ^ h.toNat / 2) / 2 ^ h.toNat=k:=by rw[nN,kA _ _ (by lia)];have:(2:Int) ^ h.toNat / 2 / 2 ^ h.toNat=0:=nP (by lia) (by lia);lia
 rw[this]
theorem zru(y:ρ[0]?=ao (ao (.val (SCR ns))))(G:ρ[j]?=ao (ao (.val (.int k))))(C:ns.length<=63)(L:0<=k)(I:k<=100)(J:JG ρ=ρd)
  (h:u { nx:=λx _=>D.nx (JG x) n,rt:=λt _=>∃b,t=.bool b/\D.rt t n,bk:=λx _=>D.bk (JG x) n,ct:=λx _=>D.ct (JG x) n } ((ρd.set j (ao (.val (.int k)))).set i (ao (.val HAND))) 0):U0 i j u D ρ n:=by
 subst J;unfold U0;rw[y,G];exact⟨⟨ns,rfl,C⟩,L,I,h⟩
def rkAt(rk:ah->Int)(xs:Array bY)(i:Nat):Int:=((xs[i]?).map λp=>rk p.1).getD 0
theorem YJ(h:xs[i]?=ys[j]?):rkAt rk xs i=rkAt rk ys j:=by unfold rkAt;rw[h]
theorem zsV(v:u<xs.size)(hd:d<=u)(k:Nat) :
  (k=u - d->rkAt rk (bubble xs u d) k=rkAt rk xs u)/\(u - d<k->k<=u->rkAt rk (bubble xs u d) k=rkAt rk xs (k - 1))/\(k<u - d\/u<k->rkAt rk (bubble xs u d) k=rkAt rk xs k):=by
 have e:=getElem?_bubble v d hd k;refine⟨λh=>?_,λl o=>?_,λh=>?_⟩;rw[if_pos h]at e;exact YJ e;rw[if_neg (by lia),if_pos ⟨l,o⟩]at e;exact YJ e;rw[if_neg (by lia),if_neg (by lia)]at e;exact YJ e
theorem VD(u:j<=xs.size)(k:Nat) :
  (i<=k->k<j->rkAt rk (mirror xs i j ((j - i) / 2)) k=rkAt rk xs (i+j - 1 - k))/\(k<i\/j<=k->rkAt rk (mirror xs i j ((j - i) / 2)) k=rkAt rk xs k):=by
 have e:=getElem?_mirror_all (i:=i) u k;refine⟨λl o=>?_,λh=>?_⟩;rw[if_pos ⟨l,o⟩]at e;exact YJ e;rw[if_neg (by lia)]at e;exact YJ e
structure Sb(kd:fL)(a0:Array bY)(z:b6):Prop where
 pm:(arrOf z).Perm a0
 kn:kindOf z=kd
 fl:failedOf z=bc
 pe:pendingOf z=#[]
def Up(rk:ah->Int)(xs:Array bY)(m:Nat):Prop:=∀i j,i<j->j<m->rkAt rk xs i<=rkAt rk xs j
section
variable{prog:aQ}{w:bg}{A:bh}{E:qV}{s:av}{kd:fL}{rk:ah->Int}{a0:Array bY}
def Cmp(prog:aQ)(w:bg)(A:bh)(s:av)(kd:fL)(rk:ah->Int)(a0:Array bY):Prop :=
 ∀(p q:bY) (E:qV) (Q:Bool->av->Prop),p∈a0.toList->q∈a0.toList->Q (decide (rk p.1<rk q.1)) s->wpAny (model prog w) A (keyLt' kd p.1 q.1) Q E s
theorem Sb.sz(b:Sb kd a0 z):(arrOf z).size=a0.size:=b.pm.size_eq
end
section
variable{prog:aQ}{w:bg}{A:bh}{E:qV}{s:av}{kd:fL}{rk:ah->Int}{a0:Array bY}
theorem Uz(l:j<=xs.size)(al:∀k,i<=k->k<j->rkAt rk xs k=rkAt rk xs (j - 1))(k:Nat):rkAt rk (mirror xs i j ((j - i) / 2)) k=rkAt rk xs k:=by obtain⟨p,q⟩:=VD (rk:=rk) (i:=i) l k;by_cases g:i<=k/\k<j;rw[p g.1 g.2,al _ (by omega) (by omega),al k g.1 g.2];exact q (by omega)
end
def zi2:Bool->bY->Array bY->Nat->Nat->Nat->StateT b6 Sem (Option Nat):=sortPriv% PySem.Builtin.gallop
section
variable{prog:aQ}{w:bg}{A:bh}{E:qV}{s:av}{kd:fL}{rk:ah->Int}{a0:Array bY}
theorem Zf(c:Cmp prog w A s kd rk a0)(k:kindOf z=kd)(o:p∈a0.toList)(l:q∈a0.toList)
  (h:Q (ao (decide (rk p.1<rk q.1))) z):wpS (model prog w) A E s (lt' p q) Q z:=by
 rw[lt'_eq];refine aI (lJ (aI (nv (gm ?_))));rw[k];exact c p q _ _ o l ⟨rfl,aO h⟩
def bey(rk:ah->Int)(left:Bool)(key:bY)(arr:Array bY)(base i:Nat):Bool:=if left then decide (rkAt rk arr (base+i)<rk key.1) else !decide (rk key.1<rkAt rk arr (base+i))
theorem YX(c:Cmp prog w A s kd rk a0)(k:kindOf z=kd)(hk:key∈a0.toList)
  (ha:∀i,i<n->∃p,arr[base+i]?=ao p/\p∈a0.toList) (hn:hint<n) (up:∀i j,i<j->j<n->rkAt rk arr (base+i)<=rkAt rk arr (base+j))
  (h:∀m,m<=n->(∀i,i<m->bey rk left key arr base i=be)->(∀i,m<=i->i<n->bey rk left key arr base i=bj)->Q (ao m) z):wpS (model prog w) A E s (zi2 left key arr base n hint) Q z:=by
 have e_:zi2=zi2:=rfl;conv at e_=>rhs;whnf
 rw[e_];dsimp only;clear e_;have U:∀(i:Nat) (Q:Option Bool->b6->Prop),i<n->Q (ao (bey rk left key arr base i)) z->wpS (model prog w) A E s (do
   let x <- elem' arr (base+i)
   if left then lt' x key else return (<- lt' key x).map (!·)) Q z:=by
  intro i Q hi Y;obtain⟨p,ep,mp⟩:=ha i hi;have r:rkAt rk arr (base+i)=rk p.1:=by unfold rkAt;rw[ep];rfl
  simp only[ym,ep,pure_bind];unfold bey at Y;rw[r]at Y;cases left with
  | true=>exact Zf c k mp hk (by simpa using Y)
  | false =>refine aI (Zf c k hk mp ?_);exact aO (by simpa using Y)
 have mono:∀i j,i<=j->j<n->bey rk left key arr base j=be->bey rk left key arr base i=be:=by intro i j Z hj L;rcases p4 Z with rfl|hlt;exact L;have:=up i j hlt hj;unfold bey at *;cases left <;> simp at * <;> lia
 refine aI (U hint _ hn ?_);dsimp only;cases hr:bey rk left key arr base hint with
 | true =>
  rw[if_pos rfl];refine aI (fh (cB (I:=λx c G=>G=z/\∃l r,c=(bc,l,r)/\l<r/\x<r/\hint+l<n/\bey rk left key arr base (hint+l)=be)
   (Q:=λc G=>G=z/\∃l r,c=(bc,l,r)/\l<r/\hint+l<n/\bey rk left key arr base (hint+l)=be/\(n - hint<=r\/(hint+r<n/\bey rk left key arr base (hint+r)=bj))) ?turn ?last ⟨rfl,0,1,rfl,by omega,by omega,by omega,hr⟩) ?post)
  case post =>
   rintro c G ⟨rfl,l,r,rfl,N,J,C,y⟩;dsimp only;have b1:∀i,i<hint+l+1->bey rk left key arr base i=be:=λi hi=>mono i (hint+l) (by lia) J C;have b2:∀i,hint+min r (n - hint)<=i->i<n->bey rk left key arr base i=bj:=λi hi R=>by
    rcases y with y|⟨y,S⟩;omega;cases hb':bey rk left key arr base i with
    | false=>rfl
    | true=>rw[mono (hint+r) i (by omega) R hb']at S;cases S
   refine aI (fh (cB (I:=λx c v=>v=G/\∃l r,c=(bc,l,r)/\l<=r/\r<=n/\r - l<=n - x/\(∀i,i<l->bey rk left key arr base i=be)/\(∀i,r<=i->i<n->bey rk left key arr base i=bj))
    (Q:=λc v=>v=G/\∃r,c=(bc,r,r)/\r<=n/\(∀i,i<r->bey rk left key arr base i=be)/\(∀i,r<=i->i<n->bey rk left key arr base i=bj)) ?turn2 ?last2 ⟨rfl,hint+l+1,hint+min r (n - hint),rfl,by omega,by omega,by omega,b1,b2⟩) ?post2)
   case post2 =>rintro c v ⟨rfl,r,rfl,q1,q2,q3⟩;exact aO (h r q1 q2 q3)
   case last2 =>
    rintro c v ⟨rfl,l,r,rfl,N,J,C,y,S⟩;have:l=r:=by omega
    subst this;exact⟨rfl,l,rfl,J,y,S⟩
   case turn2 =>
    rintro x c v _ hx ⟨rfl,l,r,rfl,N,J,C,y,S⟩;dsimp only;by_cases hge:l>=r;rw[if_pos hge];have:l=r:=by omega
    subst this;exact aO ⟨rfl,l,rfl,J,y,S⟩;rw[if_neg hge];refine aI (U _ _ (by omega) ?_);dsimp only;cases L:bey rk left key arr base (l+(r - l) / 2) with
    | true =>rw[if_pos rfl];exact aO ⟨rfl,_,_,rfl,by omega,J,by omega,λi hi=>mono i _ (by omega) (by omega) L,S⟩
    | false =>
     rw[if_neg (by simp)];refine aO ⟨rfl,_,_,rfl,by omega,by omega,by omega,y,λi hi R=>?_⟩;cases hb':bey rk left key arr base i with
     | false=>rfl
     | true=>rw[mono _ i hi R hb']at L;cases L
  case last =>rintro c G ⟨rfl,l,r,rfl,N,J,C,y⟩;exact⟨rfl,l,r,rfl,N,C,y,.inl (by omega)⟩
  case turn =>
   rintro x c G _ hx ⟨rfl,l,r,rfl,N,J,C,y⟩;dsimp only;by_cases hge:r>=n - hint;rw[if_pos hge];exact aO ⟨rfl,l,r,rfl,N,C,y,.inl hge⟩;rw[if_neg hge];refine aI (U _ _ (by omega) ?_);dsimp only;cases L:bey rk left key arr base (hint+r) with
   | true =>rw[if_neg (by simp)];exact aO ⟨rfl,r,_,rfl,by omega,by omega,by omega,L⟩
   | false =>rw[if_pos (by simp)];exact aO ⟨rfl,l,r,rfl,N,C,y,.inr ⟨by omega,L⟩⟩
 | false =>
  rw[if_neg (by simp)];refine aI (fh (cB (I:=λx c G=>G=z/\∃l r,c=(bc,l,r)/\l<r/\x<r/\l<=hint/\bey rk left key arr base (hint - l)=bj)
   (Q:=λc G=>G=z/\∃l r,c=(bc,l,r)/\l<r/\l<=hint/\bey rk left key arr base (hint - l)=bj/\(hint+1<=r\/(r<=hint/\bey rk left key arr base (hint - r)=be))) ?turn ?last ⟨rfl,0,1,rfl,by lia,by lia,by lia,hr⟩) ?post)
  case post =>
   rintro c G ⟨rfl,l,r,rfl,N,J,C,y⟩;dsimp only;have b1:∀i,i<hint+1 - min r (hint+1)->bey rk left key arr base i=be:=λi hi=>by rcases y with y|⟨y,S⟩;omega;exact mono i (hint - r) (by omega) (by omega) S
   have b2:∀i,hint - l<=i->i<n->bey rk left key arr base i=bj:=λi hi R=>by
    cases hb':bey rk left key arr base i with
    | false=>rfl
    | true=>rw[mono (hint - l) i (by omega) R hb']at C;cases C
   refine aI (fh (cB (I:=λx c v=>v=G/\∃l r,c=(bc,l,r)/\l<=r/\r<=n/\r - l<=n - x/\(∀i,i<l->bey rk left key arr base i=be)/\(∀i,r<=i->i<n->bey rk left key arr base i=bj))
    (Q:=λc v=>v=G/\∃r,c=(bc,r,r)/\r<=n/\(∀i,i<r->bey rk left key arr base i=be)/\(∀i,r<=i->i<n->bey rk left key arr base i=bj)) ?turn2 ?last2 ⟨rfl,hint+1 - min r (hint+1),hint - l,rfl,by omega,by omega,by omega,b1,b2⟩) ?post2)
   case post2 =>rintro c v ⟨rfl,r,rfl,q1,q2,q3⟩;exact aO (h r q1 q2 q3)
   case last2 =>
    rintro c v ⟨rfl,l,r,rfl,N,J,C,y,S⟩;have:l=r:=by omega
    subst this;exact⟨rfl,l,rfl,J,y,S⟩
   case turn2 =>
    rintro x c v _ hx ⟨rfl,l,r,rfl,N,J,C,y,S⟩;dsimp only;by_cases hge:l>=r;rw[if_pos hge];have:l=r:=by omega
    subst this;exact aO ⟨rfl,l,rfl,J,y,S⟩;rw[if_neg hge];refine aI (U _ _ (by omega) ?_);dsimp only;cases L:bey rk left key arr base (l+(r - l) / 2) with
    | true =>rw[if_pos rfl];exact aO ⟨rfl,_,_,rfl,by omega,J,by omega,λi hi=>mono i _ (by omega) (by omega) L,S⟩
    | false =>
     rw[if_neg (by simp)];refine aO ⟨rfl,_,_,rfl,by omega,by omega,by omega,y,λi hi R=>?_⟩;cases hb':bey rk left key arr base i with
     | false=>rfl
     | true=>rw[mono _ i hi R hb']at L;cases L
  case last =>rintro c G ⟨rfl,l,r,rfl,N,J,C,y⟩;exact⟨rfl,l,r,rfl,N,C,y,.inl (by lia)⟩
  case turn =>
   rintro x c G _ hx ⟨rfl,l,r,rfl,N,J,C,y⟩;dsimp only;by_cases hge:r>=hint+1;rw[if_pos hge];exact aO ⟨rfl,l,r,rfl,N,C,y,.inl hge⟩;rw[if_neg hge];refine aI (U _ _ (by omega) ?_);dsimp only;cases L:bey rk left key arr base (hint - r) with
   | true =>rw[if_pos rfl];exact aO ⟨rfl,l,r,rfl,N,C,y,.inr ⟨by omega,L⟩⟩
   | false =>rw[if_neg (by simp)];exact aO ⟨rfl,r,_,rfl,by omega,by omega,by omega,L⟩
end
end L2
namespace L2
section
variable{α:Type}{r:α->Int}{a b out:List α}{ia ib na nb k:Nat}
theorem m1{x:α}{l m:List α}(h:x∈l):x∈l++m:=aC.mpr (.inl h)
theorem m2{x:α}{l m:List α}(h:x∈m):x∈l++m:=aC.mpr (.inr h)
def Ris(r:α->Int)(l:List α):Prop:=l.Pairwise λx y=>r x<=r y
structure MLo(r:α->Int)(a b out:List α)(ia ib:Nat):Prop where
 pm:(out++(a.drop ia++b.drop ib)).Perm (a++b)
 so:Ris r out
 le:∀x∈out,∀y∈a.drop ia++b.drop ib,r x<=r y
theorem JV{l m:List α}:Ris r (l++m)↔Ris r l/\Ris r m/\∀x∈l,∀y∈m,r x<=r y:=cw
theorem Ris.drop{l:List α}(h:Ris r l)(k:Nat):Ris r (l.drop k):=ou (kB k l) h
theorem Ris.take{l:List α}(h:Ris r l)(k:Nat):Ris r (l.take k):=ou (mP k l) h
theorem cut2(l:List α)(i k:Nat):l.drop i=(l.drop i).take k++l.drop (i+k):=by rw[<- List.drop_drop];exact(fQ k _).symm
theorem MLo.takeB(h:MLo r a b out ia ib)(G:Ris r b)(c:∀y∈(b.drop ib).take k,∀x∈a.drop ia,r y<=r x):MLo r a b (out++(b.drop ib).take k) ia (ib+k):=by have e:=cut2 b ib k;obtain⟨v,C,u⟩:=h;have l:=G.drop ib;rw[e]at v u l;have l:=JV.mp l;refine⟨?_,JV.mpr ⟨C,l.1,λx hx y o=>u x hx y (m2 (m1 o))⟩,λx hx y o=>?_⟩;refine lD ?_ v;rw[bu];exact fR _ (lK _ _ _);rcases aC.mp hx with z|z;refine u x z y ?_;rcases aC.mp o with w|w;exact m1 w;exact m2 (m2 w);rcases aC.mp o with w|w;exact c x z y w;exact l.2.2 x z y w
theorem MLo.takeA(h:MLo r a b out ia ib)(G:Ris r a)(c:∀x∈(a.drop ia).take k,∀y∈b.drop ib,r x<=r y):MLo r a b (out++(a.drop ia).take k) (ia+k) ib:=by have e:=cut2 a ia k;obtain⟨v,C,u⟩:=h;have l:=G.drop ia;rw[e]at v u l;have l:=JV.mp l;refine⟨?_,JV.mpr ⟨C,l.1,λx hx y o=>u x hx y (m1 (m1 o))⟩,λx hx y o=>?_⟩;refine lD ?_ v;simp only[bu];exact uk _;rcases aC.mp hx with z|z;refine u x z y ?_;rcases aC.mp o with w|w;exact m1 (m2 w);exact m2 w;rcases aC.mp o with w|w;exact l.2.2 x z y w;exact c x z y w
theorem take1{l:List α}{i:Nat}{y:α}(h:l[i]?=ao y):(l.drop i).take 1=[y]:=by have hi:=(aw.mp h).1;rw[bG hi];have:=(aw.mp h).2;simp[this]
theorem MLo.pushB{y:α}(h:MLo r a b out ia ib)(l:Ris r b)(e:b[ib]?=ao y)(c:∀x∈a.drop ia,r y<=r x):MLo r a b (out++[y]) ia (ib+1):=by have:=h.takeB (k:=1) l (by rw[take1 e];intro z hz x hx;cases aA.mp hz;exact c x hx);rwa [take1 e]at this
theorem MLo.pushA{x:α}(h:MLo r a b out ia ib)(l:Ris r a)(e:a[ia]?=ao x)(c:∀y∈b.drop ib,r x<=r y):MLo r a b (out++[x]) (ia+1) ib:=by have:=h.takeA (k:=1) l (by rw[take1 e];intro z hz y o;cases aA.mp hz;exact c y o);rwa [take1 e]at this
theorem MLo.done(h:MLo r a b out ia ib)(l:Ris r a)(o:Ris r b)(c:∀x∈a.drop ia,∀y∈b.drop ib,r x<=r y):(out++a.drop ia++b.drop ib).Perm (a++b)/\Ris r (out++a.drop ia++b.drop ib):=by refine⟨by rw[bu];exact h.pm,?_⟩;rw[bu];exact JV.mpr ⟨h.so,JV.mpr ⟨l.drop _,o.drop _,c⟩,h.le⟩
theorem MLo.last(h:MLo r a b out ia ib)(l:Ris r a)(u:Ris r b)(c:∀y∈b.drop ib,∀x∈a.drop ia,r y<=r x):(out++b.drop ib++a.drop ia).Perm (a++b)/\Ris r (out++b.drop ib++a.drop ia):=by refine⟨?_,?_⟩;rw[bu];exact(fR _ oz).trans h.pm;rw[bu];refine JV.mpr ⟨h.so,JV.mpr ⟨u.drop _,l.drop _,c⟩,λx hx y o=>h.le x hx y ?_⟩;rcases aC.mp o with w|w;exact m2 w;exact m1 w
structure MHi(r:α->Int)(a b out:List α)(na nb:Nat):Prop where
 pm:((a.take na++b.take nb)++out).Perm (a++b)
 so:Ris r out
 le:∀x∈a.take na++b.take nb,∀y∈out,r x<=r y
theorem cut3(l:List α){n k:Nat}(h:k<=n):l.take n=l.take k++(l.take n).drop k:=by have:=fQ k (l.take n);rw[List.take_take,tK h]at this;exact this.symm
theorem MHi.takeB(h:MHi r a b out na nb)(J:Ris r b)(I:k<=nb)(c:∀x∈a.take na,∀y∈(b.take nb).drop k,r x<=r y):MHi r a b ((b.take nb).drop k++out) na k:=by have e:=cut3 b I;obtain⟨C,G,v⟩:=h;have l:=J.take nb;rw[e]at C v l;have l:=JV.mp l;refine⟨?_,JV.mpr ⟨l.2.1,G,λx hx y u=>v x (m2 (m2 hx)) y u⟩,λx hx y u=>?_⟩;refine lD ?_ C;simp only[bu];exact uk _;rcases aC.mp u with z|z;rcases aC.mp hx with w|w;exact c x w y z;exact l.2.2 x w y z;refine v x ?_ y z;rcases aC.mp hx with w|w;exact m1 w;exact m2 (m1 w)
theorem MHi.takeA(h:MHi r a b out na nb)(I:Ris r a)(J:k<=na)(c:∀x∈b.take nb,∀y∈(a.take na).drop k,r x<=r y):MHi r a b ((a.take na).drop k++out) k nb:=by have e:=cut3 a J;obtain⟨C,G,v⟩:=h;have l:=I.take na;rw[e]at C v l;have l:=JV.mp l;refine⟨?_,JV.mpr ⟨l.2.1,G,λx hx y u=>v x (m1 (m2 hx)) y u⟩,λx hx y u=>?_⟩;refine lD ?_ C;simp only[bu];exact fR _ (lK _ _ _);rcases aC.mp u with z|z;rcases aC.mp hx with w|w;exact l.2.2 x w y z;exact c x w y z;refine v x ?_ y z;rcases aC.mp hx with w|w;exact m1 (m1 w);exact m2 w
theorem Uh{l:List α}{n:Nat}{y:α}(h:l[n]?=ao y):(l.take (n+1)).drop n=[y]:=by
 have hi:=(aw.mp h).1;have e:(l.take (n+1))=l.take n++[y]:=by rw[dD,h];rfl
 rw[e,k8 (by simp;omega),gM (by simp;omega)];rfl
theorem MHi.pushB{y:α}(h:MHi r a b out na (nb+1))(l:Ris r b)(e:b[nb]?=ao y)(c:∀x∈a.take na,r x<=r y):MHi r a b (y::out) na nb:=by have:=h.takeB (k:=nb) l (by omega) (by rw[Uh e];intro x hx z hz;cases aA.mp hz;exact c x hx);rwa [Uh e]at this
theorem MHi.pushA{x:α}(h:MHi r a b out (na+1) nb)(l:Ris r a)(e:a[na]?=ao x)(c:∀y∈b.take nb,r y<=r x):MHi r a b (x::out) na nb:=by have:=h.takeA (k:=na) l (by omega) (by rw[Uh e];intro y o z hz;cases aA.mp hz;exact c y o);rwa [Uh e]at this
theorem MHi.done(h:MHi r a b out na nb)(l:Ris r a)(o:Ris r b)(c:∀x∈a.take na,∀y∈b.take nb,r x<=r y):(a.take na++b.take nb++out).Perm (a++b)/\Ris r (a.take na++b.take nb++out) :=
 ⟨h.pm,JV.mpr ⟨JV.mpr ⟨l.take _,o.take _,c⟩,h.so,h.le⟩⟩
theorem MHi.first(h:MHi r a b out na nb)(l:Ris r a)(u:Ris r b)(c:∀y∈b.take nb,∀x∈a.take na,r y<=r x):(b.take nb++a.take na++out).Perm (a++b)/\Ris r (b.take nb++a.take na++out):=by refine⟨(nQ _ oz).trans h.pm,JV.mpr ⟨JV.mpr ⟨u.take _,l.take _,c⟩,h.so,λx hx y o=>h.le x ?_ y o⟩⟩;rcases aC.mp hx with w|w;exact m2 w;exact m1 w
end
section
open PySem PySem.Spec PyProof.Rows
theorem ex4{o:Type}{y:Type}{v:Type}{u:Type}{A R:Prop}{X:o->y->v->u->Prop}(h:A/\∃x0 x1 l x3,X x0 x1 l x3)(k:A->∀x0 x1 l x3,X x0 x1 l x3->R):R:=by obtain⟨a,x0,x1,l,x3,x⟩:=h;exact k a x0 x1 l x3 x
theorem ex5{u:Type}{C:Type}{y:Type}{v:Type}{G:Type}{A R:Prop}{X:u->C->y->v->G->Prop}(h:A/\∃x0 x1 l x3 o,X x0 x1 l x3 o)(k:A->∀x0 x1 l x3 o,X x0 x1 l x3 o->R):R:=by obtain⟨a,x0,x1,l,x3,o,x⟩:=h;exact k a x0 x1 l x3 o x
theorem eo5{C:Type}{v:Type}{u:Type}{G:Type}{I:Type}{N J:Type}{A R:Prop}{X:C->v->u->G->I->Prop}{Y:N->J->Prop}(h:A/\((∃x0 x1 l x3 o,X x0 x1 l x3 o)\/∃m r,Y m r))(k:A->∀x0 x1 l x3 o,X x0 x1 l x3 o->R)(L:A->∀m r,Y m r->R):R:=by obtain⟨a,⟨x0,x1,l,x3,o,x⟩|⟨m,r,y⟩⟩:=h;exact k a x0 x1 l x3 o x;exact L a m r y
theorem ex6{G:Type}{C:Type}{y:Type}{I:Type}{v:Type}{J:Type}{A R:Prop}{X:G->C->y->I->v->J->Prop}(h:A/\∃x0 x1 l x3 u o,X x0 x1 l x3 u o)(k:A->∀x0 x1 l x3 u o,X x0 x1 l x3 u o->R):R:=by obtain⟨a,x0,x1,l,x3,u,o,x⟩:=h;exact k a x0 x1 l x3 u o x
theorem eo6{I:Type}{G:Type}{C:Type}{J:Type}{v:Type}{L:Type}{U N:Type}{A R:Prop}{X:I->G->C->J->v->L->Prop}{Y:U->N->Prop}(h:A/\((∃x0 x1 l x3 u o,X x0 x1 l x3 u o)\/∃m r,Y m r))(k:A->∀x0 x1 l x3 u o,X x0 x1 l x3 u o->R)(S:A->∀m r,Y m r->R):R:=by obtain⟨a,⟨x0,x1,l,x3,u,o,x⟩|⟨m,r,y⟩⟩:=h;exact k a x0 x1 l x3 u o x;exact S a m r y
theorem Jy{M:tf}{A:bh}{E:qV}{s:av}{σ α:Type}{c:Prop}{_:Decidable c}{t e:StateT σ Sem α}{Q:α->σ->Prop}{z:σ}(l:c->wpS M A E s t Q z)(o:¬c->wpS M A E s e Q z):wpS M A E s (if c then t else e) Q z:=by by_cases h:c;rw[if_pos h];exact l h;rw[if_neg h];exact o h
theorem zpB{M:tf}{A:bh}{E:qV}{s:av}{σ α u:Type}{c:u->Prop}{_:∀o,Decidable (c o)}{t F:u->StateT σ Sem α}{Q:α->σ->Prop}{z:σ}(l:u)(P:u->Prop)
  (v:∀o,P o->wpS M A E s (F o) Q z) (x:c l->(∀o,P o->wpS M A E s (F o) Q z)->wpS M A E s (t l) Q z) (y:¬c l->P l):∀o,l=o->wpS M A E s (if c o then t o else F o) Q z:=by
 rintro o rfl;exact Jy (λh=>x h v) (λh=>v _ (y h))
theorem VI{M:tf}{A:bh}{E:qV}{s:av}{σ α x v:Type}{c:x->v->Prop}{_:∀o i,Decidable (c o i)}{t F:x->v->StateT σ Sem α}{Q:α->σ->Prop}{z:σ}(u:x)(l:v)(P:x->v->Prop)
  (y:∀o i,P o i->wpS M A E s (F o i) Q z) (C:c u l->(∀o i,P o i->wpS M A E s (F o i) Q z)->wpS M A E s (t u l) Q z) (G:¬c u l->P u l):∀o,u=o->∀i,l=i->wpS M A E s (if c o i then t o i else F o i) Q z:=by
 rintro o rfl i rfl;exact Jy (λh=>C h y) (λh=>y _ _ (G h))
end
end L2
namespace L2
open PySem PySem.Spec PyProof.Rows
def zgH:Array bY->Array bY->StateT b6 Sem (Array bY):=sortPriv% PySem.Builtin.mergeLo
def zb2:Nat->StateT b6 Sem Unit:=sortPriv% PySem.Builtin.setMinGallop
section
variable{prog:aQ}{w:bg}{A:bh}{E:qV}{s:av}{kd:fL}{rk:ah->Int}{a0:Array bY}
structure SmS(z z':b6):Prop where
 kn:kindOf z'=kindOf z
 ar:arrOf z'=arrOf z
 pe:pendingOf z'=pendingOf z
 fl:failedOf z'=failedOf z
theorem SmS.refl(z:b6):SmS z z:=⟨rfl,rfl,rfl,rfl⟩
theorem SmS.trans{x y z:b6}(h:SmS x y)(k:SmS y z):SmS x z:=⟨k.kn.trans h.kn,k.ar.trans h.ar,k.pe.trans h.pe,k.fl.trans h.fl⟩
theorem Wh{g:Nat}{z:b6}{Q:Unit->b6->Prop}(h:∀o,SmS z o->Q () o):wpS (model prog w) A E s (zb2 g) Q z:=by
 have l:zb2=zb2:=rfl;conv at l=>rhs;whnf
 rw[l];dsimp only;clear l;exact lZ (h _ ⟨rfl,rfl,rfl,rfl⟩)
theorem JO{x:Array bY}{i:Nat}{p:bY}{z:b6}{Q:bY->b6->Prop}(e:x[i]?=ao p)(h:Q p z):wpS (model prog w) A E s (elem' x i) Q z:=by rw[ym,e];exact aO h
abbrev rkP(rk:ah->Int)(p:bY):Int:=rk p.1
theorem V2{x:Array bY}{i:Nat}:(x.extract i x.size).toList=x.toList.drop i:=by rw[oP];exact cM (by simp)
theorem V3{x:Array bY}{i k:Nat}:(x.extract i (i+k)).toList=(x.toList.drop i).take k:=by simp
theorem zmM{l:List bY}{i k:Nat}{x:bY}(h:x∈(l.drop i).take k):∃j,j<k/\l[i+j]?=ao x:=by obtain⟨j,o,e⟩:=iF.mp h;refine⟨j,by omega,?_⟩;have:=au (l:=l.drop i) (i:=j) (by omega);rw[mh,e]at this;exact this
theorem ziU{l:List bY}{i:Nat}{x:bY}(h:x∈l.drop i):∃j,i+j<l.length/\l[i+j]?=ao x:=by obtain⟨j,o,e⟩:=a9 h;have:=au o;rw[mh,e]at this;exact⟨j,by simp at o;omega,this⟩
theorem J3{x:Array bY}{i:Nat}{p:bY}(h:x.toList[i]?=ao p):rkAt rk x i=rkP rk p:=by unfold rkAt;rw[bK]at h;rw[h];rfl
theorem Vs{x:Array bY}(h:Ris (rkP rk) x.toList){i j:Nat}(o:i<j)(u:j<x.size):rkAt rk x i<=rkAt rk x j:=by
 have hi:i<x.toList.length:=by simp;lia
 have l:j<x.toList.length:=by simpa using u
 rw[J3 (au hi),J3 (au l)];exact aR.mp h i j hi l o
theorem VA{r:bY->Int}{l:List bY}{i:Nat}{p:bY}(h:Ris r l)(u:l[i]?=ao p):∀y∈l.drop i,r p<=r y:=λy o=>by have e:=cut2 l i 1;rw[take1 u]at e;have:=h.drop i;rw[e]at this o;rcases aC.mp o with z|z;cases aA.mp z;exact aM _;exact(JV.mp this).2.2 p (by simp) y z
theorem zkN{a b:Array bY}{z:b6}{Q:Array bY->b6->Prop}(c0:Cmp prog w A s kd rk a0)(k:kindOf z=kd)(ha:∀p∈a.toList,p∈a0.toList)(hb:∀p∈b.toList,p∈a0.toList)
  (sa:Ris (rkP rk) a.toList) (sb:Ris (rkP rk) b.toList) (na:0<a.size) (nb:0<b.size) (f1:∀y,b.toList[0]?=ao y->∀x∈a.toList,rkP rk y<=rkP rk x)
  (f2:∀x,a.toList[a.size - 1]?=ao x->∀y∈b.toList,rkP rk y<=rkP rk x)
  (h:∀m J,m.toList.Perm (a.toList++b.toList)->Ris (rkP rk) m.toList->SmS z J->Q m J):wpS (model prog w) A E s (zgH a b) Q z:=by
 have e_:zgH=zgH:=rfl;conv at e_=>rhs;whnf
 rw[e_];clear e_;have gb:∀i,i<b.size->∃p,b[i]?=ao p/\b.toList[i]?=ao p/\p∈a0.toList:=λi hi=>⟨b[i],ba hi,by simp[hi],hb _ (by simp)⟩;have ga:∀i,i<a.size->∃p,a[i]?=ao p/\a.toList[i]?=ao p/\p∈a0.toList:=λi hi=>⟨a[i],ba hi,by simp[hi],ha _ (by simp)⟩;have gaA:∀u i,i<a.size - u->∃p,a[u+i]?=ao p/\p∈a0.toList:=λu i hi=>by obtain⟨p,e,_,m⟩:=ga (u+i) (by lia);exact⟨p,e,m⟩
 have gbA:∀u i,i<b.size - u->∃p,b[u+i]?=ao p/\p∈a0.toList:=λu i hi=>by obtain⟨p,e,_,m⟩:=gb (u+i) (by lia);exact⟨p,e,m⟩
 have upA:∀u i j,i<j->j<a.size - u->rkAt rk a (u+i)<=rkAt rk a (u+j):=λu i j hij hj=>Vs sa (by lia) (by lia);have upB:∀u i j,i<j->j<b.size - u->rkAt rk b (u+i)<=rkAt rk b (u+j):=λu i j hij hj=>Vs sb (by lia) (by lia);obtain⟨b0,eb0,lb0,mb0⟩:=gb 0 nb;have M0:MLo (rkP rk) a.toList b.toList [b0] 0 1:=by have:MLo (rkP rk) a.toList b.toList [] 0 0:=⟨by simp,g7,λx hx=>nomatch hx⟩;have:=this.pushB sb lb0 (by simpa using f1 b0 lb0);simpa using this
 refine aI (nv (cU ⟨rfl,?_⟩));refine aI (JO eb0 ?_);have MV:∀(out:Array bY) (v C:Nat) (J:b6),SmS z J->MLo (rkP rk) a.toList b.toList out.toList v C->(v=a.size\/C=b.size)->(out++a.extract v a.size++b.extract C b.size).toList.Perm (a.toList++b.toList)/\Ris (rkP rk) (out++a.extract v a.size++b.extract C b.size).toList:=λout v C J S M e=>by rw[cF,cF,V2,V2];refine M.done sa sb λx hx y hy=>?_;rcases e with rfl|rfl;rw[gM (by simp)]at hx;cases hx;rw[gM (by simp)]at hy;cases hy
 have MW:∀(out:Array bY) (v C:Nat) (J:b6),SmS z J->MLo (rkP rk) a.toList b.toList out.toList v C->v+1=a.size->(out++b.extract C b.size++a.extract v a.size).toList.Perm (a.toList++b.toList)/\Ris (rkP rk) (out++b.extract C b.size++a.extract v a.size).toList:=λout v C J S M e=>by
  rw[cF,cF,V2,V2];refine M.last sa sb λy hy x hx=>?_;obtain⟨p,ep,lp,mp⟩:=ga v (by lia);have:x=p:=by have N:=take1 lp;rw[cM (by simp;lia)]at N;rw[N]at hx;exact aA.mp hx
  subst this;exact f2 x (by rw[show a.size - 1=v by lia];exact lp) y (oQ hy)
 refine Jy (λh1=>?_) (λh1=>?_);have:=MV #[b0] 0 1 z (.refl z) (by simpa using M0) (.inr (by simpa using h1));exact aO (h _ z this.1 this.2 (.refl z));refine Jy (λh2=>?_) (λh2=>?_);have:=MW #[b0] 0 1 z (.refl z) (by simpa using M0) (by simpa using h2);exact aO (h _ z this.1 this.2 (.refl z));have h1:b.size≠1:=λe=>h1 (by simp[e]);have h2:a.size≠1:=λe=>h2 (by simp[e]);refine aI (lJ ?_);refine aI (fh (cB (I:=λX c J=>SmS z J/\∃out v C mg,c=(bc,out,v,C,mg)/\MLo (rkP rk) a.toList b.toList (bf out) v C/\v+1<a.size/\C<b.size/\X+1<=v+C)
  (Q:=λc J=>SmS z J/\∃m rest,c=(ao m,rest)/\(bf m).Perm (a.toList++b.toList)/\Ris (rkP rk) (bf m)) ?turn ?last ⟨.refl z,#[b0],0,1,_,rfl,by simpa using M0,by lia,by lia,by lia⟩) ?post)
 case post =>rintro c J ⟨S,m,rest,rfl,q1,q2⟩;exact aO (h m J q1 q2 S)
 case last =>intro c J hI;refine ex4 hI λS out v C mg q=>?_;obtain⟨rfl,M,l1,l2,l3⟩:=q;lia
 case turn =>
  intro X c J _ hX hI;refine ex4 hI λS out v C mg q=>?_;obtain⟨rfl,M,l1,l2,l3⟩:=q;have kz:kindOf J=kd:=S.kn.trans k;refine aI (fh (cB (I:=λx c G=>SmS z G/\∃out v C Z Y,c=(bc,out,v,C,Z,Y)/\MLo (rkP rk) a.toList b.toList (bf out) v C/\v+1<a.size/\C<b.size/\X+1+x<=v+C)
   (Q:=λc G=>SmS z G/\((∃out v C Z Y,c=(bc,out,v,C,Z,Y)/\MLo (rkP rk) a.toList b.toList (bf out) v C/\v+1<a.size/\C<b.size/\X+2<=v+C)\/∃m rest,c=(ao m,rest)/\(bf m).Perm (a.toList++b.toList)/\Ris (rkP rk) (bf m))) ?turn1 ?Uh ⟨S,out,v,C,0,0,rfl,M,l1,l2,by omega⟩) ?post1)
  case Uh =>intro c G hI;refine ex5 hI λS out v C Z Y q=>?_;obtain⟨rfl,M,l1,l2,l3⟩:=q;exact⟨S,.inl ⟨out,v,C,Z,Y,rfl,M,l1,l2,by lia⟩⟩
  case turn1 =>intro x c G _ hx hI;refine ex5 hI λS out v C Z Y q=>?_;obtain⟨rfl,M,l1,l2,l3⟩:=q;have kz:kindOf G=kd:=S.kn.trans k;dsimp only;obtain⟨p,ep,lp,mp⟩:=gb C l2;obtain⟨q,eq,lq,mq⟩:=ga v (by lia);have dB:=VA sb lp;have dA:=VA sa lq;refine aI (JO ep (aI (JO eq (aI (Zf c0 kz mp mq ?_)))));dsimp only;refine Jy (λR=>?_) λR=>?_;have R:=of_decide_eq_true R;have M':=M.pushB sb lp λx hx=>eP (b8 R) (dA x hx);refine aI (JO ep ?_);refine Jy (λN=>?_) (λN=>?_);have:=MV (out.push p) v (C+1) G S (by simpa using M') (.inr (by simpa using N));exact aO ⟨S,.inr ⟨_,_,rfl,this.1,this.2⟩⟩;have N:C+1≠b.size:=λe=>N (by simp[e]);refine Jy (λe2=>?_) (λe2=>?_);exact aO ⟨S,.inl ⟨_,_,_,_,_,rfl,by simpa using M',l1,by lia,by lia⟩⟩;exact aO ⟨S,_,_,_,_,_,rfl,by simpa using M',l1,by lia,by lia⟩;have R:=of_decide_eq_false (fq.mpr R);have M':=M.pushA sa lq λy hy=>eP (mj.mp R) (dB y hy);refine aI (JO eq ?_);refine Jy (λN=>?_) (λN=>?_);have:=MW (out.push q) (v+1) C G S (by simpa using M') (by simpa using N);exact aO ⟨S,.inr ⟨_,_,rfl,this.1,this.2⟩⟩;have N:v+1+1≠a.size:=λe=>N (by simp[e]);refine Jy (λe2=>?_) (λe2=>?_);exact aO ⟨S,.inl ⟨_,_,_,_,_,rfl,by simpa using M',by lia,l2,by lia⟩⟩;exact aO ⟨S,_,_,_,_,_,rfl,by simpa using M',by lia,l2,by lia⟩
  case post1 =>
   intro c G hI;refine eo5 hI (λS out v C Z Y q=>?_) (λS m rest q=>?_)
   ·obtain rfl:=q.1;have M:=q.2.1;have l1:=q.2.2.1;have l2:=q.2.2.2.1;have l3:=q.2.2.2.2;refine aI (nv (cU ⟨rfl,?_⟩));refine aI (fh (cB (I:=λx c G=>SmS z G/\∃out v C mg Z Y,c=(bc,out,v,C,mg,Z,Y)/\MLo (rkP rk) a.toList b.toList (bf out) v C/\v+1<a.size/\C<b.size/\X+2<=v+C)
     (Q:=λc G=>SmS z G/\((∃out v C mg Z Y,c=(bc,out,v,C,mg,Z,Y)/\MLo (rkP rk) a.toList b.toList (bf out) v C/\v+1<a.size/\C<b.size/\X+2<=v+C)\/∃m rest,c=(ao m,rest)/\(bf m).Perm (a.toList++b.toList)/\Ris (rkP rk) (bf m))) ?turn2 ?last2 ⟨S,out,v,C,_,Z,Y,rfl,M,l1,l2,by omega⟩) ?post2)
    case last2 =>rintro c G ⟨S,r⟩;exact⟨S,.inl r⟩
    case post2 =>intro c G hI;refine eo6 hI (λS out v C mg Z Y q=>?_) (λS m rest q=>?_);obtain rfl:=q.1;have M:=q.2.1;have l1:=q.2.2.1;have l2:=q.2.2.2.1;have l3:=q.2.2.2.2;dsimp only;refine aI (Wh λz3 S3=>?_);exact aO ⟨S.trans S3,out,v,C,_,rfl,M,l1,l2,by omega⟩;obtain rfl:=q.1;have q1:=q.2.1;have q2:=q.2.2;exact aO ⟨S,m,_,rfl,q1,q2⟩
    case turn2 =>
     intro x c G _ hx hI;refine ex6 hI λS out v C mg Z Y q=>?_;obtain⟨rfl,M,l1,l2,l3⟩:=q;obtain⟨p,ep,lp,mp⟩:=gb C l2;have dB:=VA sb lp;dsimp only;generalize hg:mg=g0;revert g0;refine zpB mg (λ_=>True) ?_ ?_ (λ_=>trivial)
     rotate_left
     exact λ_ hF=>hF _ trivial;intro mg _;refine aI (Wh λz3 S3=>?_);have S':=S.trans S3;have kz:kindOf z3=kd:=S'.kn.trans k;refine aI (JO ep (aI (YX c0 kz mp (gaA v) (by omega) (upA v) λk1 k1n k1t k1f=>?_)));dsimp only;have gA1:∀x∈(a.toList.drop v).take k1,∀y∈b.toList.drop C,rkP rk x<=rkP rk y:=λx hx y hy=>by obtain⟨j,jk,ej⟩:=zmM hx;have:=k1t j jk;unfold bey at this;rw[if_neg (by simp),J3 ej,fk,decide_eq_false_iff_not]at this;exact eP (mj.mp this) (dB y hy)
     have gA2:∀x∈a.toList.drop (v+k1),rkP rk p<=rkP rk x:=λx hx=>by obtain⟨j,jl,ej⟩:=ziU hx;have:=k1f (k1+j) (by lia) (by simp at jl;lia);unfold bey at this;rw[if_neg (by simp),show v+(k1+j)=v+k1+j by lia,J3 ej,p5,decide_eq_true_iff]at this;exact b8 this
     generalize ho:out=o0;generalize hi:v=i0;revert i0;revert o0;refine VI out v (λo i=>MLo (rkP rk) a.toList b.toList (bf o) i C/\i+1<a.size/\X+2<=i+C/\∀x∈a.toList.drop i,rkP rk p<=rkP rk x) ?_ ?_ ?_
     rotate_left
     intro hk1 hF;have M2:=M.takeA (k:=k1) sa gA1;rw[<- V3,<- cF]at M2;refine Jy (λe0=>?_) (λe0=>Jy (λN=>?_) (λN=>?_));have:=MW (out++a.extract v (v+k1)) (v+k1) C z3 S' M2 (by simpa using e0);exact aO ⟨S',.inr ⟨_,_,rfl,this.1,this.2⟩⟩;have:=MV (out++a.extract v (v+k1)) (v+k1) C z3 S' M2 (.inl (by simpa using N));exact aO ⟨S',.inr ⟨_,_,rfl,this.1,this.2⟩⟩;have e0:v+k1+1≠a.size:=λe=>e0 (by simp[e]);have N:v+k1≠a.size:=λe=>N (by simp[e]);exact hF _ _ ⟨M2,by lia,by lia,gA2⟩;intro hk1;have hk0:k1=0:=by lia
     subst hk0;exact⟨M,l1,l3,gA2⟩;intro o i ⟨M2,i1,i2,g⟩;have M3:=M2.pushB sb lp g;rw[<- kC]at M3;refine aI (JO ep ?_);refine Jy (λe2=>?_) (λe2=>?_);have:=MV (i5 o p) i (C+1) z3 S' M3 (.inr (by simpa using e2));exact aO ⟨S',.inr ⟨_,_,rfl,this.1,this.2⟩⟩;have e2:C+1≠b.size:=λe=>e2 (by simp[e]);obtain⟨q,eq,lq,mq⟩:=ga i (by lia);have dA:=VA sa lq;refine aI (JO eq (aI (YX c0 kz mq (gbA (C+1)) (by omega) (upB (C+1)) λk2 k2n k2t k2f=>?_)));dsimp only;have gB1:∀y∈(b.toList.drop (C+1)).take k2,∀x∈a.toList.drop i,rkP rk y<=rkP rk x:=λy hy x hx=>by obtain⟨j,jk,ej⟩:=zmM hy;have:=k2t j jk;unfold bey at this;rw[if_pos rfl,J3 ej,decide_eq_true_iff]at this;exact eP (b8 this) (dA x hx)
     have gB2:∀y∈b.toList.drop (C+1+k2),rkP rk q<=rkP rk y:=λy hy=>by obtain⟨j,jl,ej⟩:=ziU hy;have:=k2f (k2+j) (by omega) (by simp at jl;omega);unfold bey at this;rw[if_pos rfl,show C+1+(k2+j)=C+1+k2+j by lia,J3 ej,decide_eq_false_iff_not]at this;exact mj.mp this
     have l4:C+1<b.size:=by lia
     have l5:X+2<=i+(C+1):=by lia
     clear k2t k2f k1t k1f gA1 gA2 l3 M dB e2 l2;generalize i5 o p=o2 at M3 ⊢;generalize C+1=j2 at M3 gB1 gB2 l4 l5 k2n ⊢;generalize ho:o2=o0;generalize hi:j2=i0;revert i0;revert o0;refine VI o2 j2 (λo' j=>MLo (rkP rk) a.toList b.toList (bf o') i j/\j<b.size/\X+2<=i+j/\∀y∈b.toList.drop j,rkP rk q<=rkP rk y) ?_ ?_ ?_
     rotate_left
     intro hk2 hF;have M4:=M3.takeB (k:=k2) sb gB1;rw[<- V3,<- cF]at M4;refine Jy (λe3=>?_) (λe3=>?_);have:=MV (o2++b.extract j2 (j2+k2)) i (j2+k2) z3 S' M4 (.inr (by simpa using e3));exact aO ⟨S',.inr ⟨_,_,rfl,this.1,this.2⟩⟩;have e3:j2+k2≠b.size:=λe=>e3 (by simp[e]);exact hF _ _ ⟨M4,by omega,by omega,gB2⟩;intro hk2;have hk0:k2=0:=by lia
     subst hk0;exact⟨M3,l4,l5,gB2⟩;intro o3 j ⟨M4,j1,j3,g'⟩;have M5:=M4.pushA sa lq g';rw[<- kC]at M5;refine aI (JO eq ?_);refine Jy (λe4=>?_) (λe4=>?_);have:=MW (i5 o3 q) (i+1) j z3 S' M5 (by simpa using e4);exact aO ⟨S',.inr ⟨_,_,rfl,this.1,this.2⟩⟩;have e4:i+1+1≠a.size:=λe=>e4 (by simp[e]);refine Jy (λ_=>?_) λ_=>?_;exact aO ⟨S',.inl ⟨_,_,_,_,_,_,rfl,M5,by lia,by lia,by lia⟩⟩;exact aO ⟨S',_,_,_,_,_,_,rfl,M5,by lia,by lia,by lia⟩
   obtain rfl:=q.1;have q1:=q.2.1;have q2:=q.2.2;exact aO ⟨S,m,_,rfl,q1,q2⟩
end
def zgI:Array bY->Array bY->StateT b6 Sem (Array bY):=sortPriv% PySem.Builtin.mergeHi
section
variable{prog:aQ}{w:bg}{A:bh}{E:qV}{s:av}{kd:fL}{rk:ah->Int}{a0:Array bY}
theorem VC{x:Array bY}{k:Nat}:(x.extract 0 k).toList=x.toList.take k:=by simp
theorem zne{x:Array bY}{i k:Nat}:(x.extract i k).toList=(x.toList.take k).drop i:=by rw[oP,List.drop_take]
theorem zpR{l:List bY}{n:Nat}{x:bY}(h:x∈l.take n):∃j,j<n/\l[j]?=ao x:=by obtain⟨j,o,e⟩:=iF.mp h;exact⟨j,by omega,by rw[au (by omega),e]⟩
theorem zmL{l:List bY}{n i:Nat}{x:bY}(h:x∈(l.take n).drop i):∃j,i<=j/\j<n/\l[j]?=ao x:=by obtain⟨j,u,e⟩:=ziU h;rw[ef]at u;rw[gf (by omega)]at e;exact⟨i+j,by omega,by omega,e⟩
theorem MHi.pushB'{r:bY->Int}{a b out:List bY}{na nb:Nat}{y:bY}(h:MHi r a b out na nb)(l:Ris r b)(p:1<=nb)(e:b[nb - 1]?=ao y)(c:∀x∈a.take na,r x<=r y):MHi r a b (y::out) na (nb - 1):=by obtain⟨m,rfl⟩:∃m,nb=m+1:=⟨nb - 1,by omega⟩;exact h.pushB l e c
theorem MHi.pushA'{r:bY->Int}{a b out:List bY}{na nb:Nat}{x:bY}(h:MHi r a b out na nb)(l:Ris r a)(p:1<=na)(e:a[na - 1]?=ao x)(c:∀y∈b.take nb,r y<=r x):MHi r a b (x::out) (na - 1) nb:=by obtain⟨m,rfl⟩:∃m,na=m+1:=⟨na - 1,by omega⟩;exact h.pushA l e c
theorem zkO{a b:Array bY}{z:b6}{Q:Array bY->b6->Prop}(c0:Cmp prog w A s kd rk a0)(k:kindOf z=kd)(ha:∀p∈a.toList,p∈a0.toList)(hb:∀p∈b.toList,p∈a0.toList)
  (sa:Ris (rkP rk) a.toList) (sb:Ris (rkP rk) b.toList) (na:0<a.size) (nb:0<b.size) (f1:∀y,b.toList[0]?=ao y->∀x∈a.toList,rkP rk y<=rkP rk x)
  (f2:∀x,a.toList[a.size - 1]?=ao x->∀y∈b.toList,rkP rk y<=rkP rk x)
  (h:∀m z',m.toList.Perm (a.toList++b.toList)->Ris (rkP rk) m.toList->SmS z z'->Q m z'):wpS (model prog w) A E s (zgI a b) Q z:=by
 have e_:zgI=zgI:=rfl;conv at e_=>rhs;whnf
 rw[e_];clear e_;have gb:∀i,i<b.size->∃p,b[i]?=ao p/\b.toList[i]?=ao p/\p∈a0.toList:=λi hi=>⟨b[i],ba hi,by simp[hi],hb _ (by simp)⟩;have ga:∀i,i<a.size->∃p,a[i]?=ao p/\a.toList[i]?=ao p/\p∈a0.toList:=λi hi=>⟨a[i],ba hi,by simp[hi],ha _ (by simp)⟩;have gaA:∀u i,i<u->u<=a.size->∃p,a[0+i]?=ao p/\p∈a0.toList:=λu i hi hu=>by obtain⟨p,e,_,m⟩:=ga i (by omega);exact⟨p,by rw[cY];exact e,m⟩
 have gbA:∀u i,i<u->u<=b.size->∃p,b[0+i]?=ao p/\p∈a0.toList:=λu i hi hu=>by obtain⟨p,e,_,m⟩:=gb i (by omega);exact⟨p,by rw[cY];exact e,m⟩
 have upA:∀u i j,u<=a.size->i<j->j<u->rkAt rk a (0+i)<=rkAt rk a (0+j):=λu i j hu hij hj=>Vs sa (by omega) (by omega);have upB:∀u i j,u<=b.size->i<j->j<u->rkAt rk b (0+i)<=rkAt rk b (0+j):=λu i j hu hij hj=>Vs sb (by omega) (by omega);have MX:∀(l:List bY),Ris (rkP rk) l->∀n p,l[n]?=ao p->∀y∈l.take (n+1),rkP rk y<=rkP rk p:=λl sl n p lp y J=>by
  have e:l.take (n+1)=l.take n++[p]:=by rw[dD,lp];rfl
  have:=sl.take (n+1);rw[e]at this J;rcases aC.mp J with z|z;exact(JV.mp this).2.2 y z p (by simp);cases aA.mp z;exact aM _
 obtain⟨x0,ex0,lx0,mx0⟩:=ga (a.size - 1) (by omega);have M0:MHi (rkP rk) a.toList b.toList [x0] (a.size - 1) b.size:=by have:MHi (rkP rk) a.toList b.toList [] (a.size - 1+1) b.size:=⟨by rw[cM (by simp;omega),cM (by simp)];simp,g7,λx _ y J=>nomatch J⟩;exact this.pushA sa lx0 λy J=>f2 x0 lx0 y (hZ J)
 refine aI (nv (cU ⟨rfl,?_⟩));refine aI (JO ex0 ?_);have MV:∀(out:Array bY) (na nb:Nat),MHi (rkP rk) a.toList b.toList out.toList.reverse na nb->(na=0\/nb=0)->(a.extract 0 na++b.extract 0 nb++out.reverse).toList.Perm (a.toList++b.toList)/\Ris (rkP rk) (a.extract 0 na++b.extract 0 nb++out.reverse).toList:=λout na nb M e=>by rw[cF,cF,VC,VC,oR];refine M.done sa sb λx hx y J=>?_;rcases e with rfl|rfl;simp at hx;simp at J
 have MW:∀(out:Array bY) (na nb:Nat),MHi (rkP rk) a.toList b.toList out.toList.reverse na nb->nb=1->(b.extract 0 nb++a.extract 0 na++out.reverse).toList.Perm (a.toList++b.toList)/\Ris (rkP rk) (b.extract 0 nb++a.extract 0 na++out.reverse).toList:=λout na nb M e=>by
  rw[cF,cF,VC,VC,oR];refine M.first sa sb λy J x hx=>?_
  subst e;obtain⟨p,ep,lp,mp⟩:=gb 0 (by omega);have N:=take1 lp;rw[mm]at N;rw[N]at J;cases aA.mp J;exact f1 _ lp x (hZ hx)
 refine Jy (λh1=>?_) (λh1=>?_);have:=MV #[x0] (a.size - 1) b.size (by simpa using M0) (.inl (by simpa using h1));exact aO (h _ z this.1 this.2 (.refl z));refine Jy (λh2=>?_) (λh2=>?_);have:=MW #[x0] (a.size - 1) b.size (by simpa using M0) (by simpa using h2);exact aO (h _ z this.1 this.2 (.refl z));have h1:a.size - 1≠0:=λe=>h1 (by simp[e]);have h2:b.size≠1:=λe=>h2 (by simp[e]);refine aI (lJ ?_);refine aI (fh (cB (I:=λX c z'=>SmS z z'/\∃na nb out mg,c=(bc,na,nb,out,mg)/\MHi (rkP rk) a.toList b.toList (bf out).reverse na nb/\1<=na/\2<=nb/\na<=a.size/\nb<=b.size/\na+nb+X+1<=a.size+b.size)
  (Q:=λc z'=>SmS z z'/\∃m rest,c=(ao m,rest)/\(bf m).Perm (a.toList++b.toList)/\Ris (rkP rk) (bf m)) ?turn ?last ⟨.refl z,a.size - 1,b.size,#[x0],_,rfl,by simpa using M0,by omega,by omega,by omega,by omega,by omega⟩) ?post)
 case post =>rintro c z' ⟨S,m,rest,rfl,q1,q2⟩;exact aO (h m z' q1 q2 S)
 case last =>intro c z' hI;refine ex4 hI λS na nb out mg q=>?_;obtain⟨rfl,M,l1,l2,l4,l5,l3⟩:=q;lia
 case turn =>
  intro X c z' _ hX hI;refine ex4 hI λS na nb out mg q=>?_;obtain⟨rfl,M,l1,l2,l4,l5,l3⟩:=q;have kz:kindOf z'=kd:=S.kn.trans k;refine aI (fh (cB (I:=λx c C=>SmS z C/\∃na nb out Z Y,c=(bc,na,nb,out,Z,Y)/\MHi (rkP rk) a.toList b.toList (bf out).reverse na nb/\1<=na/\2<=nb/\na<=a.size/\nb<=b.size/\na+nb+X+1+x<=a.size+b.size)
   (Q:=λc C=>SmS z C/\((∃na nb out Z Y,c=(bc,na,nb,out,Z,Y)/\MHi (rkP rk) a.toList b.toList (bf out).reverse na nb/\1<=na/\2<=nb/\na<=a.size/\nb<=b.size/\na+nb+X+2<=a.size+b.size)\/∃m rest,c=(ao m,rest)/\(bf m).Perm (a.toList++b.toList)/\Ris (rkP rk) (bf m))) ?turn1 ?Uh ⟨S,na,nb,out,0,0,rfl,M,l1,l2,l4,l5,by omega⟩) ?post1)
  case Uh =>intro c C hI;refine ex5 hI λS na nb out Z Y q=>?_;obtain⟨rfl,M,l1,l2,l4,l5,l3⟩:=q;exact⟨S,.inl ⟨na,nb,out,Z,Y,rfl,M,l1,l2,l4,l5,by lia⟩⟩
  case turn1 =>intro x c C _ hx hI;refine ex5 hI λS na nb out Z Y q=>?_;obtain⟨rfl,M,l1,l2,l4,l5,l3⟩:=q;have kz:kindOf C=kd:=S.kn.trans k;dsimp only;obtain⟨p,ep,lp,mp⟩:=gb (nb - 1) (by omega);obtain⟨q,eq,lq,mq⟩:=ga (na - 1) (by omega);have dB:=MX b.toList sb (nb - 1) p lp;rw[show nb - 1+1=nb by omega]at dB;have dA:=MX a.toList sa (na - 1) q lq;rw[show na - 1+1=na by omega]at dA;refine aI (JO ep (aI (JO eq (aI (Zf c0 kz mp mq ?_)))));dsimp only;refine Jy (λR=>?_) λR=>?_;have R:=of_decide_eq_true R;have M':=M.pushA' sa (by omega) lq λy J=>eP (dB y J) (b8 R);refine aI (JO eq ?_);refine Jy (λN=>?_) (λN=>?_);have:=MV (out.push q) (na - 1) nb (by simpa using M') (.inl (by simpa using N));exact aO ⟨S,.inr ⟨_,_,rfl,this.1,this.2⟩⟩;have N:na - 1≠0:=λe=>N (by simp[e]);refine Jy (λe2=>?_) (λe2=>?_);exact aO ⟨S,.inl ⟨_,_,_,_,_,rfl,by simpa using M',by omega,by omega,by omega,by omega,by omega⟩⟩;exact aO ⟨S,_,_,_,_,_,rfl,by simpa using M',by omega,by omega,by omega,by omega,by omega⟩;have R:=of_decide_eq_false (fq.mpr R);have M':=M.pushB' sb (by lia) lp λx hx=>eP (dA x hx) (mj.mp R);refine aI (JO ep ?_);refine Jy (λN=>?_) (λN=>?_);have:=MW (out.push p) na (nb - 1) (by simpa using M') (by simpa using N);exact aO ⟨S,.inr ⟨_,_,rfl,this.1,this.2⟩⟩;have N:nb - 1≠1:=λe=>N (by simp[e]);refine Jy (λe2=>?_) (λe2=>?_);exact aO ⟨S,.inl ⟨_,_,_,_,_,rfl,by simpa using M',by omega,by omega,by omega,by omega,by omega⟩⟩;exact aO ⟨S,_,_,_,_,_,rfl,by simpa using M',by omega,by omega,by omega,by omega,by omega⟩
  case post1 =>
   intro c C hI;refine eo5 hI (λS na nb out Z Y q=>?_) (λS m rest q=>?_)
   ·obtain rfl:=q.1;have M:=q.2.1;have l1:=q.2.2.1;have l2:=q.2.2.2.1;have l4:=q.2.2.2.2.1;have l5:=q.2.2.2.2.2.1;have l3:=q.2.2.2.2.2.2;refine aI (nv (cU ⟨rfl,?_⟩));refine aI (fh (cB (I:=λx c C=>SmS z C/\∃na nb out mg Z Y,c=(bc,na,nb,out,mg,Z,Y)/\MHi (rkP rk) a.toList b.toList (bf out).reverse na nb/\1<=na/\2<=nb/\na<=a.size/\nb<=b.size/\na+nb+X+2<=a.size+b.size)
     (Q:=λc C=>SmS z C/\((∃na nb out mg Z Y,c=(bc,na,nb,out,mg,Z,Y)/\MHi (rkP rk) a.toList b.toList (bf out).reverse na nb/\1<=na/\2<=nb/\na<=a.size/\nb<=b.size/\na+nb+X+2<=a.size+b.size)\/∃m rest,c=(ao m,rest)/\(bf m).Perm (a.toList++b.toList)/\Ris (rkP rk) (bf m))) ?turn2 ?last2 ⟨S,na,nb,out,_,Z,Y,rfl,M,l1,l2,l4,l5,by omega⟩) ?post2)
    case last2 =>rintro c C ⟨S,r⟩;exact⟨S,.inl r⟩
    case post2 =>intro c C hI;refine eo6 hI (λS na nb out mg Z Y q=>?_) (λS m rest q=>?_);obtain rfl:=q.1;have M:=q.2.1;have l1:=q.2.2.1;have l2:=q.2.2.2.1;have l4:=q.2.2.2.2.1;have l5:=q.2.2.2.2.2.1;have l3:=q.2.2.2.2.2.2;dsimp only;refine aI (Wh λz3 S3=>?_);exact aO ⟨S.trans S3,na,nb,out,_,rfl,M,l1,l2,l4,l5,by omega⟩;obtain rfl:=q.1;have q1:=q.2.1;have q2:=q.2.2;exact aO ⟨S,m,_,rfl,q1,q2⟩
    case turn2 =>
     intro x c C _ hx hI;refine ex6 hI λS na nb out mg Z Y q=>?_;obtain⟨rfl,M,l1,l2,l4,l5,l3⟩:=q;obtain⟨p,ep,lp,mp⟩:=gb (nb - 1) (by omega);have dB:=MX b.toList sb (nb - 1) p lp;rw[show nb - 1+1=nb by omega]at dB;dsimp only;generalize hg:mg=g0;revert g0;refine zpB mg (λ_=>True) ?_ ?_ (λ_=>trivial)
     rotate_left
     exact λ_ hF=>hF _ trivial;intro mg _;refine aI (Wh λz3 S3=>?_);have S':=S.trans S3;have kz:kindOf z3=kd:=S'.kn.trans k;refine aI (JO ep (aI (YX c0 kz mp (λi hi=>gaA na i hi (by omega)) (by omega) (λi j=>upA na i j (by omega)) λG k1n k1t k1f=>?_)));dsimp only;have gA1:∀x∈b.toList.take nb,∀y∈(a.toList.take na).drop G,rkP rk x<=rkP rk y:=λx hx y J=>by obtain⟨j,j1,j2,ej⟩:=zmL J;have:=k1f j j1 j2;unfold bey at this;rw[if_neg (by simp),cY,J3 ej,p5,decide_eq_true_iff]at this;exact eP (dB x hx) (b8 this)
     have gA2:∀x∈a.toList.take G,rkP rk x<=rkP rk p:=λx hx=>by obtain⟨j,j1,ej⟩:=zpR hx;have:=k1t j j1;unfold bey at this;rw[if_neg (by simp),cY,J3 ej,fk,decide_eq_false_iff_not]at this;exact mj.mp this
     generalize hk:na - G=k1;generalize ho:out=o0;generalize hi:na=i0;revert i0;revert o0;refine VI out na (λo i=>MHi (rkP rk) a.toList b.toList (bf o).reverse i nb/\1<=i/\i<=na/\∀x∈a.toList.take i,rkP rk x<=rkP rk p) ?_ ?_ ?_
     rotate_left
     intro hk1 hF;have M2:=M.takeA (k:=G) sa k1n gA1;rw[<- zne]at M2;have M2':MHi (rkP rk) a.toList b.toList (bf (out++(a.extract G na).reverse)).reverse G nb:=by simpa using M2
     refine Jy (λN=>?_) (λN=>?_);have:=MV (out++(a.extract G na).reverse) G nb M2' (.inl (by simpa using N));exact aO ⟨S',.inr ⟨_,_,rfl,this.1,this.2⟩⟩;have N:G≠0:=λe=>N (by simp[e]);exact hF _ _ ⟨M2',by omega,k1n,gA2⟩;intro hk1;have hk0:G=na:=by omega
     rw[hk0]at gA2;exact⟨M,l1,aB _,gA2⟩;intro o i ⟨M2,i1,i2,g⟩;have M3:=M2.pushB' sb (by lia) lp g;have M3':MHi (rkP rk) a.toList b.toList (bf (i5 o p)).reverse i (nb - 1):=by simpa using M3
     refine aI (JO ep ?_);refine Jy (λe2=>?_) (λe2=>?_);have:=MW (i5 o p) i (nb - 1) M3' (by simpa using e2);exact aO ⟨S',.inr ⟨_,_,rfl,this.1,this.2⟩⟩;have e2:nb - 1≠1:=λe=>e2 (by simp[e]);obtain⟨q,eq,lq,mq⟩:=ga (i - 1) (by omega);have dA:=MX a.toList sa (i - 1) q lq;rw[show i - 1+1=i by omega]at dA;refine aI (JO eq (aI (YX c0 kz mq (λi hi=>gbA (nb - 1) i hi (by omega)) (by omega) (λi j=>upB (nb - 1) i j (by omega)) λat2 k2n k2t k2f=>?_)));dsimp only;have gB1:∀x∈a.toList.take i,∀y∈(b.toList.take (nb - 1)).drop at2,rkP rk x<=rkP rk y:=λx hx y J=>by obtain⟨j,j1,j2,ej⟩:=zmL J;have:=k2f j j1 j2;unfold bey at this;rw[if_pos rfl,cY,J3 ej,decide_eq_false_iff_not]at this;exact eP (dA x hx) (mj.mp this)
     have gB2:∀y∈b.toList.take at2,rkP rk y<=rkP rk q:=λy J=>by obtain⟨j,j1,ej⟩:=zpR J;have:=k2t j j1;unfold bey at this;rw[if_pos rfl,cY,J3 ej,decide_eq_true_iff]at this;exact b8 this
     have l6:2<=nb - 1:=by omega
     have l7:nb - 1<=b.size:=by omega
     have l8:i+(nb - 1)+X+2<=a.size+b.size:=by omega
     have l9:i<=a.size:=by lia
     clear k2t k2f k1t k1f gA1 gA2 dB e2 M M2 M3 hk k1n l1 l2 l3 l4 l5 i2;generalize i5 o p=o2 at M3' ⊢;generalize nb - 1=j2 at M3' gB1 l6 l7 l8 k2n ⊢;generalize hk2:j2 - at2=k2;generalize ho:o2=o0;generalize hi:j2=i0;revert i0;revert o0;refine VI o2 j2 (λo' j=>MHi (rkP rk) a.toList b.toList (bf o').reverse i j/\2<=j/\j<=j2/\∀y∈b.toList.take j,rkP rk y<=rkP rk q) ?_ ?_ ?_
     rotate_left
     intro hk2 hF;have M4:=M3'.takeB (k:=at2) sb k2n gB1;rw[<- zne]at M4;have M4':MHi (rkP rk) a.toList b.toList (bf (o2++(b.extract at2 j2).reverse)).reverse i at2:=by simpa using M4
     refine Jy (λe3=>?_) (λe3=>Jy (λe5=>?_) (λe5=>?_));have:=MW (o2++(b.extract at2 j2).reverse) i at2 M4' (by simpa using e3);exact aO ⟨S',.inr ⟨_,_,rfl,this.1,this.2⟩⟩;have:=MV (o2++(b.extract at2 j2).reverse) i at2 M4' (.inr (by simpa using e5));exact aO ⟨S',.inr ⟨_,_,rfl,this.1,this.2⟩⟩;have e3:at2≠1:=λe=>e3 (by simp[e]);have e5:at2≠0:=λe=>e5 (by simp[e]);exact hF _ _ ⟨M4',by lia,k2n,gB2⟩;intro hk2;have hk0:at2=j2:=by omega
     rw[hk0]at gB2;exact⟨M3',l6,aB _,gB2⟩;intro o3 j ⟨M4,j1,j3,g'⟩;have M5:=M4.pushA' sa (by omega) lq g';have M5':MHi (rkP rk) a.toList b.toList (bf (i5 o3 q)).reverse (i - 1) j:=by simpa using M5
     refine aI (JO eq ?_);refine Jy (λe4=>?_) (λe4=>?_);have:=MV (i5 o3 q) (i - 1) j M5' (.inl (by simpa using e4));exact aO ⟨S',.inr ⟨_,_,rfl,this.1,this.2⟩⟩;have e4:i - 1≠0:=λe=>e4 (by simp[e]);refine Jy (λ_=>?_) λ_=>?_;exact aO ⟨S',.inl ⟨_,_,_,_,_,_,rfl,M5',by omega,by omega,by omega,by omega,by omega⟩⟩;exact aO ⟨S',_,_,_,_,_,_,rfl,M5',by omega,by omega,by omega,by omega,by omega⟩
   obtain rfl:=q.1;have q1:=q.2.1;have q2:=q.2.2;exact aO ⟨S,m,_,rfl,q1,q2⟩
end
theorem zlK{α:Type}{l:List α}{i:Nat}{p:α}(h:i<l.length):(l.set i p).take (i+1)=l.take i++[p]:=by rw[dD,gJ h,List.take_set_of_le (aB _)];rfl
theorem znk{α:Type}{l:List α}{i j:Nat}{p:α}(h:i<j):(l.set i p).drop j=l.drop j:=by rw[List.drop_set];rw[if_pos h]
theorem zme{α:Type}(o:Nat):∀(m:List α) (n:Nat) (x:Array α),o+n+m.length<=x.size ->
  ((m.zipIdx n).foldl (λa (q:α×Nat)=>a.setIfInBounds (o+q.2) q.1) x).toList=x.toList.take (o+n)++m++x.toList.drop (o+n+m.length)
 | [],n,x,h=>by simp
 | p::ms,n,x,h=>by
  rw[aL]at h;rw[ny,iU,zme o ms (n+1) _ (by rw[Array.size_setIfInBounds];omega)];have e:(x.setIfInBounds (o+n) p).toList=x.toList.set (o+n) p:=by simp
  have u:o+n<x.toList.length:=by simp;omega
  dsimp only;rw[e,show o+(n+1)=o+n+1 by omega,zlK u,znk (by omega),aL,show o+n+1+ms.length=o+n+(ms.length+1) by omega];simp
def UpL(rk:ah->Int)(xs:Array bY)(lo m:Nat):Prop:=∀i j,i<j->j<m->rkAt rk xs (lo+i)<=rkAt rk xs (lo+j)
section
variable{prog:aQ}{w:bg}{A:bh}{E:qV}{s:av}{kd:fL}{rk:ah->Int}{a0:Array bY}
theorem zqj{z l:b6}{Q:PUnit->b6->Prop}(h:Q ⟨⟩ l):wpS (model prog w) A E s (set l:StateT b6 Sem PUnit) Q z:=by unfold wpS;rw[StateT.run_set];exact ae ⟨rfl,h⟩
theorem zl6{x:Array bY}{lo m:Nat}(h:UpL rk x lo m)(hx:lo+m<=x.size):Ris (rkP rk) (x.extract lo (lo+m)).toList:=by
 refine aR.mpr λi j hi v l=>?_;have y:i<m:=by simp at hi;lia
 have u:j<m:=by simp at v;lia
 have:=h i j l u;rw[J3 (p:=(x.extract lo (lo+m)).toList[i]) (by simp),J3 (p:=(x.extract lo (lo+m)).toList[j]) (by simp)]at this;exact this
theorem VX{x:Array bY}{lo hi:Nat}{p:bY}(h:p∈(x.extract lo hi).toList):∃j,lo<=j/\j<hi/\j<x.size/\rkAt rk x j=rkP rk p:=by
 obtain⟨i,u,e⟩:=a9 h;have l:i<hi - lo/\i+lo<x.size:=by simp at u;lia
 refine⟨lo+i,by lia,by lia,by lia,J3 ?_⟩;rw[<- e];simp
theorem ix1{s n y:Nat}(h:n<=y):s+n+(y - n)=s+y:=by lia
theorem zkP{i sa na nb pw pw2:Nat}{z:b6}{Q:Bool->b6->Prop}(c:Cmp prog w A s kd rk a0)(k:kindOf z=kd)(fl:failedOf z=bc)(pm:(arrOf z).Perm a0)
  (p1:(pendingOf z)[i]?=ao (sa,na,pw)) (p2:(pendingOf z)[i+1]?=ao (sa+na,nb,pw2)) (hna:0<na) (hnb:0<nb) (hs:sa+na+nb<=a0.size) (u1:UpL rk (arrOf z) sa na) (u2:UpL rk (arrOf z) (sa+na) nb)
  (h:∀y,kindOf y=kd->failedOf y=bc->(arrOf y).Perm a0->pendingOf y=((pendingOf z).setIfInBounds i (sa,na+nb,pw)).eraseIdxIfInBounds (i+1)->UpL rk (arrOf y) sa (na+nb)->(∀j,j<sa\/sa+na+nb<=j->rkAt rk (arrOf y) j=rkAt rk (arrOf z) j)->Q be y) :
  wpS (model prog w) A E s (mergeAt' i) Q z:=by
 have sz:(arrOf z).size=a0.size:=pm.size_eq;have mem:∀j,j<a0.size->∃p,(arrOf z)[j]?=ao p/\p∈a0.toList:=λj G=>by
  have Y:j<(arrOf z).size:=by lia
  exact⟨(arrOf z)[j],ba Y,(eQ.mp pm).mem_iff.mp (by simp)⟩
 have mem2:∀p∈(arrOf z).toList,p∈a0.toList:=λp hp=>(eQ.mp pm).mem_iff.mp hp;have e_:mergeAt'=mergeAt':=rfl;conv at e_=>rhs;whnf
 rw[e_];dsimp only;clear e_;refine aI (lJ ?_);change (arrOf z).size=_ at sz;have p1':=p1;have p2':=p2;unfold pendingOf at p1' p2';rw[p1',p2'];dsimp only;refine aI (zqj ?_);obtain⟨v0,ev0,mv0⟩:=mem (sa+na) (by lia);refine aI (JO ev0 ?_);have rv0:rkAt rk (arrOf z) (sa+na)=rk v0.1:=by unfold rkAt;rw[ev0];rfl
 refine aI (YX c k mv0 (λj G=>mem _ (by lia)) hna u1 λk hk t1 t2=>?_);have b1:∀j,j<k->rkAt rk (arrOf z) (sa+j)<=rkAt rk (arrOf z) (sa+na):=λj G=>by have:=t1 j G;rw[rv0];unfold bey at this;simp at this;exact this
 have b2:∀j,k<=j->j<na->rkAt rk (arrOf z) (sa+na)<rkAt rk (arrOf z) (sa+j):=λj G Y=>by have:=t2 j G Y;rw[rv0];unfold bey at this;simp at this;exact this
 dsimp only;by_cases e1:(na - k == 0)=be;rw[if_pos e1];have ek:k=na:=by simp at e1;lia
 refine aO (h _ (by assumption) fl pm rfl ?_ (λ_ _=>rfl));intro x y C U;change rkAt rk (arrOf z) (sa+x)<=rkAt rk (arrOf z) (sa+y);by_cases hy2:y<na;exact u1 x y C hy2;by_cases hx2:x<na;have q1:=b1 x (by lia);by_cases hy3:y=na;rw[hy3];exact q1;have R:=u2 0 (y - na) (by lia) (by lia);rw[ix1 (show na<=y by lia)]at R;simp at R;lia;have R:=u2 (x - na) (y - na) (by lia) (by lia);rw[ix1 (show na<=y by lia),ix1 (show na<=x by lia)]at R;exact R;rw[if_neg e1];have hk2:k<na:=by simp at e1;lia
 obtain⟨ul,eul,mul⟩:=mem (sa+k+(na - k) - 1) (by lia);refine aI (JO eul ?_);have rul:rkAt rk (arrOf z) (sa+na - 1)=rk ul.1:=by unfold rkAt;rw[show sa+na - 1=sa+k+(na - k) - 1 by lia,eul];rfl
 refine aI (YX c (by assumption) mul (λj G=>mem _ (by lia)) (by lia) u2 λm hm t3 t4=>?_);have b3:∀j,j<m->rkAt rk (arrOf z) (sa+na+j)<rkAt rk (arrOf z) (sa+na - 1):=λj G=>by have:=t3 j G;rw[rul];unfold bey at this;simp at this;exact this
 have b4:∀j,m<=j->j<nb->rkAt rk (arrOf z) (sa+na - 1)<=rkAt rk (arrOf z) (sa+na+j):=λj G Y=>by have:=t4 j G Y;rw[rul];unfold bey at this;simp at this;exact this
 dsimp only;have le1:∀x y,x<=y->y<na->rkAt rk (arrOf z) (sa+x)<=rkAt rk (arrOf z) (sa+y):=λx y C U=>by by_cases e:x=y;rw[e];exact aM _;exact u1 x y (by lia) U
 have le2:∀x y,x<=y->y<nb->rkAt rk (arrOf z) (sa+na+x)<=rkAt rk (arrOf z) (sa+na+y):=λx y C U=>by by_cases e:x=y;rw[e];exact aM _;exact u2 x y (by lia) U
 by_cases e2:(m == 0)=be;rw[if_pos e2];have em:m=0:=by simpa using e2
 refine aO (h _ (by assumption) fl pm rfl ?_ (λ_ _=>rfl));intro x y C U;change rkAt rk (arrOf z) (sa+x)<=rkAt rk (arrOf z) (sa+y);by_cases hy2:y<na;exact u1 x y C hy2;by_cases hx2:x<na;have q1:=b4 (y - na) (by lia) (by lia);have R:=le1 x (na - 1) (by lia) (by lia);rw[show sa+(na - 1)=sa+na - 1 by lia]at R;rw[ix1 (show na<=y by lia)]at q1;lia;have R:=u2 (x - na) (y - na) (by lia) (by lia);rw[ix1 (show na<=y by lia),ix1 (show na<=x by lia)]at R;exact R;rw[if_neg e2];have hm2:0<m:=by simp at e2;lia
 have exA:(arrOf z).extract (sa+k) (sa+na)=(arrOf z).extract (sa+k) (sa+k+(na - k)):=by rw[ix1 (show k<=na by omega)]
 have rA:Ris (rkP rk) ((arrOf z).extract (sa+k) (sa+na)).toList:=by rw[exA];refine zl6 (λx y C U=>?_) (by lia);have:=u1 (k+x) (k+y) (by lia) (by lia);rw[<- mZ,<- mZ]at this;exact this
 have rB:Ris (rkP rk) ((arrOf z).extract (sa+na) (sa+na+m)).toList:=zl6 (λx y C U=>u2 x y C (by lia)) (by lia);have szA:((arrOf z).extract (sa+k) (sa+na)).size=na - k:=by simp;lia
 have szB:((arrOf z).extract (sa+na) (sa+na+m)).size=m:=by simp;lia
 have mE:∀{u v p},p∈((arrOf z).extract u v).toList->p∈a0.toList:=λhp=>mem2 _ (by rw[zne]at hp;exact hZ (oQ hp));have f1:∀y,((arrOf z).extract (sa+na) (sa+na+m)).toList[0]?=ao y->∀x∈((arrOf z).extract (sa+k) (sa+na)).toList,rkP rk y<=rkP rk x:=λy U x hx=>by obtain⟨j,j1,j2,j3,e⟩:=VX (rk:=rk) hx;have:=b2 (j - sa) (by lia) (by lia);rw[fY (show sa<=j by lia),e]at this;have ey:rkAt rk (arrOf z) (sa+na)=rkP rk y:=J3 (by rw[<- U];simp only[bK,nR];rw[if_pos (by lia)];rfl);lia
 have f2:∀x,((arrOf z).extract (sa+k) (sa+na)).toList[((arrOf z).extract (sa+k) (sa+na)).size - 1]?=ao x->∀y∈((arrOf z).extract (sa+na) (sa+na+m)).toList,rkP rk y<=rkP rk x:=λx hx y U=>by obtain⟨j,j1,j2,j3,e⟩:=VX (rk:=rk) U;have:=b3 (j - (sa+na)) (by lia);rw[fY (show sa+na<=j by omega),e]at this;have ex:rkAt rk (arrOf z) (sa+na - 1)=rkP rk x:=J3 (by rw[<- hx,szA];simp only[bK,nR];rw[if_pos (by lia),show sa+k+(na - k - 1)=sa+na - 1 by lia]);lia
 have fin:∀(M:Array bY) (z2 y:b6),M.toList.Perm (((arrOf z).extract (sa+k) (sa+na)).toList++((arrOf z).extract (sa+na) (sa+na+m)).toList)->Ris (rkP rk) M.toList->arrOf z2=arrOf z->kindOf y=kd->failedOf y=bc->pendingOf y=((pendingOf z).setIfInBounds i (sa,na+nb,pw)).eraseIdxIfInBounds (i+1) ->
   arrOf y=(M.toList.zipIdx.foldl (λa (q:bY×Nat)=>a.setIfInBounds (sa+k+q.2) q.1) (arrOf z2))->Q be y:=by
  intro M z2 y PM RM ez ky fy py ay;have lM:M.toList.length=na - k+m:=by have:=PM.length_eq;rw[aW,cQ (xs:=(arrOf z).extract _ _),cQ (xs:=(arrOf z).extract _ _),szA,szB]at this;exact this
  have ayl:(arrOf y).toList=(arrOf z).toList.take (sa+k)++M.toList++(arrOf z).toList.drop (sa+na+m):=by rw[ay,ez];have:=zme (sa+k) M.toList 0 (arrOf z) (by rw[lM];lia);rw[show sa+k+0=sa+k by lia,lM,show sa+k+(na - k+m)=sa+na+m by lia]at this;exact this
  have split0:(arrOf z).toList=(arrOf z).toList.take (sa+k)++(((arrOf z).extract (sa+k) (sa+na)).toList++((arrOf z).extract (sa+na) (sa+na+m)).toList)++(arrOf z).toList.drop (sa+na+m):=by rw[exA,V3,V3];have c1:=cut2 (arrOf z).toList (sa+k) (na - k);rw[ix1 (show k<=na by omega)]at c1;have c2:=cut2 (arrOf z).toList (sa+na) m;rw[bu,bu,<- c2,<- c1,fQ]
  have PY:(arrOf y).Perm a0:=by
   refine Array.Perm.trans ?_ pm;rw[eQ,ayl];conv=>rhs;rw[split0]
   exact nQ _ (fR _ PM)
  have Z:((arrOf z).toList.take (sa+k)).length=sa+k:=by simp;lia
  have outer:∀j,j<sa+k\/sa+na+m<=j->rkAt rk (arrOf y) j=rkAt rk (arrOf z) j:=by intro j G;refine YJ ?_;rw[<- bK,<- bK,ayl];rcases G with G|G;rw[bu,bU (by lia),List.getElem?_take,if_pos (by lia)];rw[bQ (by rw[aW,lM,Z];lia),aW,lM,Z,mh];congr 1;lia
  have inner:∀j,sa+k<=j->j<sa+na+m->∃p,M.toList[j - (sa+k)]?=ao p/\rkAt rk (arrOf y) j=rkP rk p:=by
   intro j j1 j2;have G:j - (sa+k)<M.toList.length:=by lia
   refine⟨M.toList[j - (sa+k)],au G,J3 ?_⟩;rw[ayl,bU (by rw[aW,lM,Z];lia),bQ (by lia),Z];exact au G
  have inM:∀p∈M.toList,∃j,sa+k<=j/\j<sa+na+m/\rkAt rk (arrOf z) j=rkP rk p:=by intro p hp;rcases aC.mp (PM.mem_iff.mp hp) with q|q;obtain⟨j,j1,j2,_,e⟩:=VX (rk:=rk) q;exact⟨j,j1,by lia,e⟩;obtain⟨j,j1,j2,_,e⟩:=VX (rk:=rk) q;exact⟨j,by lia,j2,e⟩
  refine h y ky fy PY py ?_ λj G=>outer j (by lia);clear PY ayl split0 szA szB Z sz exA rv0 rul;intro x J C U;by_cases x1:x<k;rw[outer (sa+x) (by lia)];by_cases y1:J<k;rw[outer (sa+J) (by lia)];exact u1 x J C (by lia);have low:∀j,sa+k<=j->j<sa+na+nb->rkAt rk (arrOf z) (sa+x)<=rkAt rk (arrOf z) j:=λj j1 j2=>by by_cases j3:j<sa+na;have:=u1 x (j - sa) (by lia) (by lia);rw[fY (show sa<=j by lia)]at this;exact this;have q1:=b1 x x1;have R:=le2 0 (j - (sa+na)) (by lia) (by lia);rw[fY (show sa+na<=j by lia)]at R;simp at R;lia
  by_cases y2:sa+J<sa+na+m;obtain⟨p,ep,er⟩:=inner (sa+J) (by lia) y2;rw[er];obtain⟨j,j1,j2,e⟩:=inM p (ax ep);rw[<- e];exact low j j1 (by lia);rw[outer (sa+J) (by lia)];exact low _ (by lia) (by lia);by_cases x2:sa+x<sa+na+m;obtain⟨p,ep,er⟩:=inner (sa+x) (by lia) x2;rw[er];by_cases y2:sa+J<sa+na+m;obtain⟨q,eq,er2⟩:=inner (sa+J) (by lia) y2;rw[er2];have h1:sa+x - (sa+k)<M.toList.length:=by lia
  have h2:sa+J - (sa+k)<M.toList.length:=by lia
  rw[au h1]at ep;rw[au h2]at eq;cases ep;cases eq;exact aR.mp RM _ _ h1 h2 (by lia);rw[outer (sa+J) (by lia)];obtain⟨j,j1,j2,e⟩:=inM p (ax ep);rw[<- e];have q4:=b4 (J - na) (by lia) (by lia);rw[ix1 (show na<=J by lia)]at q4;by_cases j3:j<sa+na;have:=le1 (j - sa) (na - 1) (by lia) (by lia);rw[fY (show sa<=j by lia),show sa+(na - 1)=sa+na - 1 by lia]at this;lia;have:=le2 (j - (sa+na)) (J - na) (by lia) (by lia);rw[fY (show sa+na<=j by lia),ix1 (show na<=J by lia)]at this;exact this;rw[outer (sa+x) (by lia),outer (sa+J) (by lia)];have:=u2 (x - na) (J - na) (by lia) (by lia);rw[ix1 (show na<=x by lia),ix1 (show na<=J by lia)]at this;exact this
 have la:=p6 (show 0<na - k by lia) szA.symm;have lb:=p6 hm2 szB.symm;by_cases le:na - k<=m;rw[if_pos le];refine aI (zkN c (by assumption) (λ_=>mE) (λ_=>mE) rA rB la lb f1 f2 λM z2 PM RM S=>?_)
 rotate_left
 rw[if_neg le];refine aI (zkO c (by assumption) (λ_=>mE) (λ_=>mE) rA rB la lb f1 f2 λM z2 PM RM S=>?_);all_goals
  refine aI (lZ (aI (lJ (aO ?_))));have f2':failedOf z2=bc:=S.fl.trans fl;show Q (failedOf z2).isNone _;rw[f2'];exact fin M z2 _ PM RM S.ar (S.kn.trans (by assumption)) f2' S.pe rfl
end
structure Sl(rk:ah->Int)(kd:fL)(a0:Array bY)(z0:b6)(lo:Nat)(z:b6):Prop where
 pm:(arrOf z).Perm a0
 kn:kindOf z=kd
 fl:failedOf z=bc
 pe:pendingOf z=pendingOf z0
 lw:∀j,j<lo->rkAt rk (arrOf z) j=rkAt rk (arrOf z0) j
def DnL(rk:ah->Int)(xs:Array bY)(lo m:Nat):Prop:=∀i j,i<j->j<m->rkAt rk xs (lo+j)<=rkAt rk xs (lo+i)
section
variable{prog:aQ}{w:bg}{A:bh}{E:qV}{s:av}{kd:fL}{rk:ah->Int}{a0:Array bY}{z0:b6}{lo:Nat}
theorem Sl.sz{z:b6}(b:Sl rk kd a0 z0 lo z):(arrOf z).size=a0.size:=b.pm.size_eq
theorem Sl.arr{z:b6}(b:Sl rk kd a0 z0 lo z){xs:Array bY}(h:xs.Perm (arrOf z))(l:∀j,j<lo->rkAt rk xs j=rkAt rk (arrOf z) j):Sl rk kd a0 z0 lo (setArr z xs):=⟨h.trans b.pm,b.kn,b.fl,b.pe,λj o=>(l j o).trans (b.lw j o)⟩
theorem askL{z:b6}{i j:Nat}{Q:Option Bool->b6->Prop}(c:Cmp prog w A s kd rk a0)(b:Sl rk kd a0 z0 lo z)(hi:i<a0.size)(C:j<a0.size)
  (h:Q (ao (decide (rkAt rk (arrOf z) i<rkAt rk (arrOf z) j))) z):wpS (model prog w) A E s (ltAt' i j) Q z:=by
 have mem:∀k,k<a0.size->∃p,(arrOf z)[k]?=ao p/\p∈a0.toList:=λk v=>by
  have l:k<(arrOf z).size:=by rw[b.sz];exact v
  exact⟨(arrOf z)[k],ba l,(eQ.mp b.pm).mem_iff.mp (by simp)⟩
 obtain⟨p,ep,mp⟩:=mem i hi;obtain⟨q,eq,o⟩:=mem j C;have G:rkAt rk (arrOf z) i=rk p.1:=by unfold rkAt;rw[ep];rfl
 have u:rkAt rk (arrOf z) j=rk q.1:=by unfold rkAt;rw[eq];rfl
 rw[G,u]at h;rw[ltAt'_eq];refine aI (lJ ?_);show wpS (model prog w) A E s (elem' (arrOf z) i >>= λx=>elem' (arrOf z) j >>= λy=>lt' x y) Q z;simp only[ym,ep,eq,pure_bind];exact Zf c b.kn mp o h
theorem zr3{z:b6}{n ok:Nat}{Q:Bool->b6->Prop}(c:Cmp prog w A s kd rk a0)(hn:lo+n<=a0.size)(hok:ok<=n)(b:Sl rk kd a0 z0 lo z)(up:UpL rk (arrOf z) lo ok)
  (h:∀y,Sl rk kd a0 z0 lo y->UpL rk (arrOf y) lo n->Q be y):wpS (model prog w) A E s (binarySort' lo n ok) Q z:=by
 rw[binarySort'_eq];refine aI (fh (cB (Q:=λc y=>c=(bc,())/\Sl rk kd a0 z0 lo y/\UpL rk (arrOf y) lo n) (I:=λk c y=>c=(bc,())/\Sl rk kd a0 z0 lo y/\UpL rk (arrOf y) lo (min k n)) ?turn ?last ⟨rfl,b,λi j Y h2=>up i j Y (by lia)⟩) ?post)
 case post =>rintro _ y ⟨rfl,C,u⟩;exact aO (h y C u)
 case last =>rintro _ y ⟨rfl,C,u⟩;exact⟨rfl,C,by rwa [show min (max (max ok 1) n) n=n by lia]at u⟩
 case turn =>
  rintro k _ y k1 k2 ⟨rfl,C,u⟩;rw[show min k n=k by lia]at u;refine aI (fh (cB (Q:=λc S=>S=y/\∃l r,c=(bc,l,r)/\l<=k/\(∀i,i<l->rkAt rk (arrOf y) (lo+i)<=rkAt rk (arrOf y) (lo+k))/\∀i,l<=i->i<k->rkAt rk (arrOf y) (lo+k)<rkAt rk (arrOf y) (lo+i))
   (I:=λx c S=>S=y/\∃l r,c=(bc,l,r)/\l<=r/\r<=k/\r - l+x<=k/\(∀i,i<l->rkAt rk (arrOf y) (lo+i)<=rkAt rk (arrOf y) (lo+k))/\∀i,r<=i->i<k->rkAt rk (arrOf y) (lo+k)<rkAt rk (arrOf y) (lo+i)) ?t2 ?l2 ⟨rfl,0,k,rfl,by lia,by lia,by lia,λi hi=>by lia,λi R N=>by lia⟩) ?p2)
  case l2 =>rintro _ v ⟨e,l,r,rfl,q1,Z,q3,J,L⟩;subst e;exact⟨rfl,l,r,rfl,by lia,J,λi R N=>L i (by lia) N⟩
  case t2 =>
   rintro x _ v _ _ ⟨e,l,r,rfl,q1,Z,q3,J,L⟩;subst e;by_cases ge:r<=l;simp only[ge_iff_le,ge,if_true];exact aO ⟨rfl,l,r,rfl,by lia,J,λi R N=>L i (by lia) N⟩;simp only[ge_iff_le,ge,if_false];refine aI (askL c C (by lia) (by lia) ?_);by_cases le:rkAt rk (arrOf v) (lo+k)<rkAt rk (arrOf v) (lo+(l+r) / 2);simp only[le,decide_true,if_true];refine aO ⟨rfl,l,(l+r) / 2,rfl,by lia,by lia,by lia,J,λi R N=>?_⟩;rcases cj ((l+r) / 2) i with g|g;have:=u _ _ g N;lia;have:i=(l+r) / 2:=by lia
   rw[this];exact le;simp only[le,decide_false,aK,if_false];refine aO ⟨rfl,(l+r) / 2+1,r,rfl,by lia,by lia,by lia,λi R=>?_,L⟩;rcases cj i ((l+r) / 2) with g|g;have:=u _ _ g (by lia);lia;have:i=(l+r) / 2:=by lia
   rw[this];lia
  case p2 =>
   rintro _ v ⟨e,l,r,rfl,Z,J,L⟩;subst e;show wpS (model prog w) A E s (moveDown' (lo+k) (lo+l) >>= λ_=>pure (iS (bc,()))) _ v;rw[moveDown'_eq];have hk:lo+k<(arrOf v).size:=by rw[C.sz];lia
   have G:∀j,_:=λj=>zsV (rk:=rk) hk (show lo+k - (lo+l)<=lo+k by lia) j;have el:lo+k - (lo+k - (lo+l))=lo+l:=by lia
   rw[el]at G;refine aI (lZ (aO ⟨rfl,C.arr (bubble_perm _ _ _) (λj hj=>(G j).2.2 (by lia)),λi j Y h2=>?_⟩));show rkAt rk (bubble (arrOf v) (lo+k) (lo+k - (lo+l))) (lo+i)<=rkAt rk (bubble (arrOf v) (lo+k) (lo+k - (lo+l))) (lo+j);have hj:j<=k:=by lia
   obtain⟨a1,a2,U⟩:=G (lo+i);obtain⟨b1,b2,b3⟩:=G (lo+j);rcases cZ j l with jl|jl|jl;rw[U (by lia),b3 (by lia)];exact u i j Y (by lia);rw[U (by lia),b1 (by lia)];exact J i (by lia);rw[b2 (by lia) (by lia),show lo+j - 1=lo+(j - 1) by lia];rcases cZ i l with il|il|il;rw[U (by lia)];exact u i (j - 1) (by lia) (by lia);rw[a1 (by lia)];exact b8 (L (j - 1) (by lia) (by lia));rw[a2 (by lia) (by lia),show lo+i - 1=lo+(i - 1) by lia];exact u _ _ (by lia) (by lia)
theorem UpL.more{xs:Array bY}{x:Nat}(u:UpL rk xs lo x)(x1:1<=x)(g:¬rkAt rk xs (lo+x)<rkAt rk xs (lo+x - 1)):UpL rk xs lo (x+1):=λi j l v=>by
 rw[show lo+x - 1=lo+(x - 1) by lia]at g;rcases cj j x with jx|jx;exact u i j l jx;have o:j=x:=by lia
 subst o;rcases cj i (j - 1) with ij|ij;have:=u i (j - 1) ij (by lia);lia;have:i=j - 1:=by lia
 rw[this];lia
theorem DnL.more{xs:Array bY}{x:Nat}(u:DnL rk xs lo x)(x1:1<=x)(g:rkAt rk xs (lo+x)<=rkAt rk xs (lo+x - 1)):DnL rk xs lo (x+1):=λi j l v=>by
 rw[show lo+x - 1=lo+(x - 1) by lia]at g;rcases cj j x with jx|jx;exact u i j l jx;have o:j=x:=by lia
 subst o;rcases cj i (j - 1) with ij|ij;have:=u i (j - 1) ij (by lia);lia;have:i=j - 1:=by lia
 rw[this];omega
theorem zqx{z:b6}{m:Nat}{Q:Option Nat->b6->Prop}(c:Cmp prog w A s kd rk a0)(hm:lo+m<=a0.size)(m1:1<=m)(b:Sl rk kd a0 z0 lo z)
  (h:∀k y,Sl rk kd a0 z0 lo y->1<=k->k<=m->UpL rk (arrOf y) lo k->Q (ao k) y):wpS (model prog w) A E s (countRun' lo m) Q z:=by
 rw[countRun'_eq];refine aI (fh (cB (I:=λx c y=>y=z/\c=(bc,x)/\UpL rk (arrOf z) lo x) (Q:=λc y=>y=z/\∃n,c=(bc,n)/\1<=n/\n<=m/\UpL rk (arrOf z) lo n/\(n<m->rkAt rk (arrOf z) (lo+n)<rkAt rk (arrOf z) (lo+n - 1))) ?turn ?last ⟨rfl,rfl,λi j J N=>absurd J (by lia)⟩) ?post)
 case last =>rintro _ y ⟨rfl,rfl,u⟩;rw[show max 1 m=m by lia]at u ⊢;exact⟨rfl,m,rfl,m1,aB _,u,λg=>absurd g (by lia)⟩
 case turn =>rintro x _ y x1 U ⟨rfl,rfl,u⟩;dsimp only;refine aI (askL c b (by lia) (by lia) ?_);by_cases g:rkAt rk (arrOf y) (lo+x)<rkAt rk (arrOf y) (lo+x - 1);simp only[g,decide_true,if_true];exact aO ⟨rfl,x,rfl,x1,by lia,u,λ_=>g⟩;simp only[g,decide_false,aK,if_false];exact aO ⟨rfl,rfl,u.more x1 g⟩
 case post =>
  rintro _ y ⟨rfl,n,rfl,n1,n2,u,lt⟩;dsimp only;by_cases en:n=m;simp only[en,beq_self_eq_true,if_true];exact aO (h m y b m1 (aB _) (en▸u));have en':(n == m)=bj:=by simpa using en
  simp only[en',aK,if_false];have l:=lt (by lia);have zn:lo+n<=(arrOf y).size:=by rw[b.sz];lia
  have pre:n<=1\/1<n:=by lia
  have both:∀(F:StateT b6 Sem (Option Nat)) ,(∀L,Sl rk kd a0 z0 lo L->DnL rk (arrOf L) lo (n+1)->wpS (model prog w) A E s F Q L)->wpS (model prog w) A E s (if n > 1 then ltAt' lo (lo+n - 1) >>= λx=>match x with
    | some G=>if G=be then pure (ao n) else reverseSlice' lo (lo+n) >>= λ_=>F
    | _=>pure bc
   else F) Q y:=by
   intro F R;by_cases g:n > 1;simp only[g,if_true];refine aI (askL c b (by lia) (by lia) ?_);by_cases G:rkAt rk (arrOf y) lo<rkAt rk (arrOf y) (lo+n - 1);simp only[G,decide_true,if_true];exact aO (h n y b n1 n2 u);simp only[G,decide_false,aK,if_false];have al:∀k,lo<=k->k<lo+n->rkAt rk (arrOf y) k=rkAt rk (arrOf y) (lo+n - 1):=λk k1 kn=>by
    have p:rkAt rk (arrOf y) lo<=rkAt rk (arrOf y) k:=by rcases p4 k1 with k0|k0;rw[k0];exact aM _;have:=u 0 (k - lo) (by lia) (by lia);rw[show lo+(k - lo)=k by lia]at this;exact this
    have q:rkAt rk (arrOf y) k<=rkAt rk (arrOf y) (lo+n - 1):=by rcases cj k (lo+n - 1) with kk|kk;have:=u (k - lo) (n - 1) (by lia) (by lia);rw[show lo+(k - lo)=k by lia,show lo+(n - 1)=lo+n - 1 by lia]at this;exact this;rw[show k=lo+n - 1 by lia];exact aM _
    lia
   refine aI (oS (R _ (b.arr (oT _ _ _ _) λj S=>Uz zn al j) λi j J N=>?_));show rkAt rk (mirror (arrOf y) lo (lo+n) ((lo+n - lo) / 2)) (lo+j)<=rkAt rk (mirror (arrOf y) lo (lo+n) ((lo+n - lo) / 2)) (lo+i);rw[Uz zn al,Uz zn al];have ai:=al (lo+i) (by lia) (by lia);rcases cj j n with jn|jn;have:=al (lo+j) (by lia) (by lia);lia;rw[show j=n by lia];lia;simp only[g,if_false];have e1:n=1:=by lia
   subst e1;refine R y b λi j J N=>?_;rw[show i=0 by lia,show j=1 by lia];exact b8 l
  refine both _ λy b dn=>?_;clear both;refine aI (nv (cU ⟨rfl,aI ?_⟩));refine fh (cB (I:=λx c y=>∃e,c=(bc,x,e)/\Sl rk kd a0 z0 lo y/\DnL rk (arrOf y) lo x/\e<x/\∀i,lo+x - (e+1)<=i->i<lo+x->rkAt rk (arrOf y) i=rkAt rk (arrOf y) (lo+x - 1))
   (Q:=λc y=>∃x e,c=(bc,x,e)/\1<=x/\x<=m/\Sl rk kd a0 z0 lo y/\DnL rk (arrOf y) lo x/\e<x/\∀i,lo+x - (e+1)<=i->i<lo+x->rkAt rk (arrOf y) i=rkAt rk (arrOf y) (lo+x - 1)) ?turn2 ?last2 ⟨0,rfl,b,dn,by lia,λi i1 i2=>by rw[show i=lo+(n+1) - 1 by lia]⟩) ?post2
  case last2 =>rintro _ y ⟨e,rfl,q⟩;rw[show max (n+1) m=m by lia]at *;exact⟨m,e,rfl,m1,aB _,q⟩
  case turn2 =>
   rintro x _ y x1 U ⟨e,rfl,C,d,ex,al⟩;have xz:lo+x<=(arrOf y).size:=by rw[C.sz];lia
   dsimp only;refine aI (askL c C (show lo+x<a0.size by lia) (show lo+x - 1<a0.size by lia) ?_);have one:∀xs:Array bY,∀i,lo+(x+1) - (0+1)<=i->i<lo+(x+1)->rkAt rk xs i=rkAt rk xs (lo+(x+1) - 1):=λxs i i1 i2=>by rw[show i=lo+(x+1) - 1 by lia]
   by_cases g:rkAt rk (arrOf y) (lo+x)<rkAt rk (arrOf y) (lo+x - 1);simp only[g,decide_true,if_true];have d2:∀xs:Array bY,(∀k,rkAt rk xs k=rkAt rk (arrOf y) k)->DnL rk xs lo (x+1):=λxs hx i j J N=>by rw[hx,hx];exact d.more (by lia) (b8 g) i j J N
   by_cases e0:e > 0;simp only[e0,if_true];exact aI (oS (aO ⟨0,rfl,C.arr (oT _ _ _ _) (λj S=>Uz xz al j),d2 _ (Uz xz al),by lia,one _⟩));simp only[e0,if_false];exact aO ⟨0,rfl,C,d2 _ (λ_=>rfl),by lia,one _⟩;simp only[g,decide_false,aK,if_false];refine aI (askL c C (show lo+x - 1<a0.size by lia) (show lo+x<a0.size by lia) ?_);by_cases g2:rkAt rk (arrOf y) (lo+x - 1)<rkAt rk (arrOf y) (lo+x);simp only[g2,decide_true,if_true];exact aO ⟨x,e,rfl,by lia,by lia,C,d,ex,al⟩;simp only[g2,decide_false,aK,if_false];have Y:rkAt rk (arrOf y) (lo+x)=rkAt rk (arrOf y) (lo+x - 1):=by lia
   refine aO ⟨e+1,rfl,C,d.more (by lia) (by lia),by lia,λi i1 i2=>?_⟩;rw[show lo+(x+1) - 1=lo+x by lia];rcases cj i (lo+x) with ix|ix;rw[al i (by lia) ix,Y];rw[show i=lo+x by lia]
  case post2 =>
   rintro _ y ⟨x,e,rfl,x1,U,C,d,ex,al⟩;have kz:lo+x<=(arrOf y).size:=by rw[C.sz];lia
   dsimp only;have fin:∀(F:StateT b6 Sem (Option Nat)),(∀L,Sl rk kd a0 z0 lo L->DnL rk (arrOf L) lo x->wpS (model prog w) A E s F Q L)->wpS (model prog w) A E s (if e > 0 then reverseSlice' (lo+x - (e+1)) (lo+x) >>= λ_=>F else F) Q y:=by intro F R;by_cases e0:e > 0;simp only[e0,if_true];refine aI (oS (R _ (C.arr (oT _ _ _ _) λj S=>Uz kz al j) λi j J N=>?_));show rkAt rk (mirror (arrOf y) (lo+x - (e+1)) (lo+x) ((lo+x - (lo+x - (e+1))) / 2)) (lo+j)<=rkAt rk (mirror (arrOf y) (lo+x - (e+1)) (lo+x) ((lo+x - (lo+x - (e+1))) / 2)) (lo+i);rw[Uz kz al,Uz kz al];exact d i j J N;simp only[e0,if_false];exact R y C d
   refine fin _ λy C d=>?_;clear fin;have hz:lo+x<=(arrOf y).size:=by rw[C.sz];lia
   have b2:=C.arr (oT (arrOf y) lo (lo+x) ((lo+x - lo) / 2)) λj S=>(VD (rk:=rk) hz j).2 (.inl S);refine aI (oS (aI ?_));have u2:UpL rk (mirror (arrOf y) lo (lo+x) ((lo+x - lo) / 2)) lo x:=λi j J N=>by rw[(VD (rk:=rk) hz (lo+i)).1 (by lia) (by lia),(VD (rk:=rk) hz (lo+j)).1 (by lia) (by lia)];have:=d (x - 1 - j) (x - 1 - i) (by lia) (by lia);rw[show lo+(x - 1 - j)=lo+(lo+x) - 1 - (lo+j) by lia,show lo+(x - 1 - i)=lo+(lo+x) - 1 - (lo+i) by lia]at this;exact this
   change UpL rk (arrOf (setArr y (mirror (arrOf y) lo (lo+x) ((lo+x - lo) / 2)))) lo x at u2;generalize setArr y (mirror (arrOf y) lo (lo+x) ((lo+x - lo) / 2))=v at b2 u2 ⊢;refine fh (cB (I:=λx c y=>y=v/\c=(bc,x)/\UpL rk (arrOf v) lo x) (Q:=λc y=>y=v/\∃n,c=(bc,n)/\1<=n/\n<=m/\UpL rk (arrOf v) lo n) ?turn3 ?last3 ⟨rfl,rfl,u2⟩) ?post3
   case last3 =>rintro _ y ⟨rfl,rfl,u⟩;rw[show max x m=m by lia]at u ⊢;exact⟨rfl,m,rfl,m1,aB _,u⟩
   case turn3 =>rintro Z _ y x1 U ⟨rfl,rfl,u⟩;dsimp only;refine aI (askL c b2 (by lia) (by lia) ?_);by_cases g:rkAt rk (arrOf y) (lo+Z)<rkAt rk (arrOf y) (lo+Z - 1);simp only[g,decide_true,if_true];exact aO ⟨rfl,Z,rfl,by lia,by lia,u⟩;simp only[g,decide_false,aK,if_false];exact aO ⟨rfl,rfl,u.more (by lia) g⟩
   case post3 =>rintro _ y ⟨rfl,n,rfl,n1,n2,u⟩;exact aO (h n y b2 n1 n2 u)
end
abbrev Run3:=Nat×Nat×Nat
def Side:List Run3->Nat->Nat->Prop
 | [],a,b=>a=b
 | q::r,a,b=>q.1=a/\0<q.2.1/\Side r (a+q.2.1) b
theorem Z4:∀{l m:List Run3}{a b:Nat},Side (l++m) a b↔∃c,Side l a c/\Side m c b
 | [],m,a,b=>⟨λh=>⟨a,rfl,h⟩,λ⟨c,e,h⟩=>by cases e;exact h⟩
 | q::l,m,a,b=>by constructor;rintro⟨o,v,y⟩;obtain⟨c,x,u⟩:=Z4.mp y;exact⟨c,⟨o,v,x⟩,u⟩;rintro⟨c,⟨o,v,x⟩,u⟩;exact⟨o,v,Z4.mpr ⟨c,x,u⟩⟩
theorem ZR:∀{l:List Run3}{a b:Nat},Side l a b->a+l.length<=b/\∀q∈l,a<=q.1/\q.1+q.2.1<=b
 | [],a,b,h=>⟨by cases h;simp,λq o=>nomatch o⟩
 | p::l,a,b,⟨h1,h2,h3⟩=>by obtain⟨v,u⟩:=ZR h3;refine⟨by simp only[aL];lia,λq o=>?_⟩;rcases aE.mp o with rfl|m;lia;have:=u q m;lia
theorem zjv{f:Run3->Run3}(hf:∀q,(f q).1=q.1/\(f q).2.1=q.2.1):∀{l:List Run3}{i a b:Nat},Side l a b->Side (l.modify i f) a b/\∀u∈l.modify i f,∃q∈l,u.1=q.1/\u.2.1=q.2.1
 | [],i,a,b,h=>by simp only[List.modify_nil];exact⟨h,λq o=>nomatch o⟩
 | p::l,0,a,b,⟨h1,h2,h3⟩=>by rw[List.modify_zero_cons];refine⟨⟨(hf p).1.trans h1,(hf p).2▸h2,(hf p).2▸h3⟩,λq o=>?_⟩;rcases aE.mp o with rfl|m;exact⟨p,cL,hf p⟩;exact⟨q,cn _ m,rfl,rfl⟩
 | p::l,i+1,a,b,⟨h1,h2,h3⟩=>by rw[List.modify_succ_cons];obtain⟨x,y⟩:=zjv hf (i:=i) h3;refine⟨⟨h1,h2,x⟩,λq o=>?_⟩;rcases aE.mp o with rfl|m;exact⟨q,cL,rfl,rfl⟩;obtain⟨u,v,e⟩:=y q m;exact⟨u,cn _ v,e⟩
theorem zhr{α:Type}{x y v:α}:∀(l r:List α),((l++x::y::r).set l.length v).eraseIdx (l.length+1)=l++v::r
 | [],r=>rfl
 | a::l,r=>by have:=zhr (x:=x) (y:=y) (v:=v) l r;simp only[dG,aL,fM,List.eraseIdx_cons_succ,this]
structure Rn(rk:ah->Int)(kd:fL)(a0:Array bY)(lo:Nat)(z:b6):Prop where
 pm:(arrOf z).Perm a0
 kn:kindOf z=kd
 fl:failedOf z=bc
 sd:Side (pendingOf z).toList 0 lo
 ls:lo<=a0.size
 up:∀q∈(pendingOf z).toList,UpL rk (arrOf z) q.1 q.2.1
theorem UpL.same{rk:ah->Int}{xs ys:Array bY}{lo m:Nat}(u:UpL rk xs lo m)(e:∀j,lo<=j->j<lo+m->rkAt rk ys j=rkAt rk xs j):UpL rk ys lo m:=λi j l o=>by rw[e (lo+i) (by lia) (by lia),e (lo+j) (by lia) (by lia)];exact u i j l o
section
variable{prog:aQ}{w:bg}{A:bh}{E:qV}{s:av}{kd:fL}{rk:ah->Int}{a0:Array bY}{z0:b6}{lo:Nat}
theorem zpQ{i:Nat}{z:b6}{Q:Bool->b6->Prop}(c:Cmp prog w A s kd rk a0)(R:Rn rk kd a0 lo z)(hi:i+1<(pendingOf z).size)
  (h:∀y,Rn rk kd a0 lo y->(pendingOf y).size+1=(pendingOf z).size->(∀j,lo<=j->rkAt rk (arrOf y) j=rkAt rk (arrOf z) j)->Q be y):wpS (model prog w) A E s (mergeAt' i) Q z:=by
 obtain⟨l,x,y,r,v,ei⟩:∃l x y r,(pendingOf z).toList=l++x::y::r/\l.length=i:=by
  have h1:i<(pendingOf z).toList.length:=by simp;lia
  have h2:i+1<(pendingOf z).toList.length:=by simp;lia
  refine⟨(pendingOf z).toList.take i,(pendingOf z).toList[i],(pendingOf z).toList[i+1],(pendingOf z).toList.drop (i+2),?_,by simp;lia⟩;rw[<- bG h2,<- bG h1,fQ]
 obtain⟨sa,na,pw⟩:=x;obtain⟨sb,nb,pw2⟩:=y;have sd:=R.sd;rw[v]at sd;obtain⟨a,s1,I,N,S,J,G⟩:=Z4.mp sd;dsimp only at I N S J G;subst I;subst S;have up:=R.up;rw[v]at up;obtain⟨t1,t2⟩:=ZR G;have t3:=ZR s1;have ls:=R.ls;refine zkP (sa:=sa) (na:=na) (nb:=nb) (pw:=pw) (pw2:=pw2) c R.kn R.fl R.pm ?_ ?_ N J (by lia) (up (sa,na,pw) (by simp)) (up (sa+na,nb,pw2) (by simp)) λC ky Z py pe u out=>?_;rw[<- bK,v,bQ (by lia),show i - l.length=0 by lia];rfl;rw[<- bK,v,bQ (by lia),show i+1 - l.length=1 by lia];rfl;have pl:(pendingOf C).toList=l++(sa,na+nb,pw)::r:=by rw[pe];subst ei;rw[Array.toList_eraseIdxIfInBounds,Array.toList_setIfInBounds,v];exact zhr l r
 refine h C ⟨py,ky,Z,?_,R.ls,?_⟩ ?_ λj hj=>out j (.inr (by lia));rw[pl];refine Z4.mpr ⟨sa,s1,rfl,by show 0<na+nb;lia,?_⟩;show Side r (sa+(na+nb)) lo;rw[<- mZ];exact G;rw[pl];intro q U;rcases aC.mp U with m|m;exact(up q (by simp[m])).same λj Y j2=>out j (.inl (by have:=t3.2 q m;lia));rcases aE.mp m with rfl|m;exact u;exact(up q (by simp[m])).same λj Y j2=>out j (.inr (by have:=t2 q m;lia));have e1:(pendingOf C).size=(pendingOf C).toList.length:=by simp
 have e2:(pendingOf z).size=(pendingOf z).toList.length:=by simp
 rw[e1,e2,pl,v];simp;lia
theorem zow{z:b6}{Q:Unit->b6->Prop}(c:Cmp prog w A s kd rk a0)(b:Sb kd a0 z)(s2:2<=a0.size)
  (h:∀y,(arrOf y).Perm a0->failedOf y=bc->Up rk (arrOf y) a0.size->Q () y):wpS (model prog w) A E s sortRuns' Q z:=by
 rw[sortRuns'_eq];refine aI (lJ ?_);rw[b.sz];dsimp only;generalize minRun' a0.size a0.size 0=mr;refine aI (fh (cB (Q:=λc y=>∃lo,c=(bc,lo)/\Rn rk kd a0 lo y/\a0.size<=lo)
  (I:=λx c y=>∃lo,c=(bc,lo)/\Rn rk kd a0 lo y/\x<=lo) ?turn ?last ⟨0,rfl,⟨b.pm,b.kn,b.fl,by rw[b.pe];rfl,by lia,by rw[b.pe];intro q U;simp at U⟩,by lia⟩) ?post)
 case last =>rintro _ y ⟨lo,rfl,R,hx⟩;exact⟨lo,rfl,R,by lia⟩
 case turn =>
  rintro x _ y _ hx ⟨lo,rfl,R,hl⟩;dsimp only;by_cases ge:lo>=a0.size;rw[if_pos ge];exact aO ⟨lo,rfl,R,ge⟩;rw[if_neg ge];have rest:∀(n:Nat) (G:b6),1<=n->lo+n<=a0.size->Sl rk kd a0 y lo G->UpL rk (arrOf G) lo n->Rn rk kd a0 lo G:=λn G J N S u=>by refine⟨S.pm,S.kn,S.fl,S.pe▸R.sd,R.ls,?_⟩;rw[S.pe];intro q U;exact(R.up q U).same λj j1 j2=>S.lw j (by have:=(ZR R.sd).2 q U;lia)
  have push:∀(n:Nat) (G:b6),1<=n->lo+n<=a0.size->Rn rk kd a0 lo G->UpL rk (arrOf G) lo n->Rn rk kd a0 (lo+n) (setPending G ((pendingOf G).push (lo,n,0))):=λn G J N S u=>by
   have e:(pendingOf (setPending G ((pendingOf G).push (lo,n,0)))).toList=(pendingOf G).toList++[(lo,n,0)]:=by show((pendingOf G).push (lo,n,0)).toList=_;simp
   refine⟨S.pm,S.kn,S.fl,?_,N,?_⟩;rw[e];exact Z4.mpr ⟨lo,S.sd,rfl,J,rfl⟩;rw[e];intro q U;rcases aC.mp U with m|m;exact S.up q m;cases aA.mp m;exact u
  refine aI (zqx (z0:=y) (lo:=lo) c (by lia) (by lia) ⟨R.pm,R.kn,R.fl,rfl,λ_ _=>rfl⟩ λk G S1 k1 k2 u1=>?_);dsimp only;by_cases g:k<mr;rw[if_pos g];refine aI (nv (cU ⟨rfl,aI (zr3 c (n:=min (a0.size - lo) mr) (by lia) (by lia) S1 u1 λy2 S2 Y=>?_)⟩));simp only[fe,aK,if_false];have J:1<=min (a0.size - lo) mr:=by lia
  have N:lo+min (a0.size - lo) mr<=a0.size:=by lia
  generalize min (a0.size - lo) mr=n at Y J N ⊢
  rotate_left 1
  rw[if_neg g];have J:1<=k:=k1;have N:lo+k<=a0.size:=by lia
  have S2:=S1;have Y:=u1;revert S1 u1 S2 Y;generalize G=y2;generalize k=n at J N ⊢;intro _ _ S2 Y;all_goals
   have R2:=rest n y2 J N S2 Y;refine aI (lJ ?_);cases hb:(pendingOf y2).back? with
   | none =>dsimp only;exact aI (lZ (aO ⟨_,rfl,push n y2 J N R2 Y,by lia⟩))
   | some q =>obtain⟨q1,q2,q3⟩:=q;dsimp only;generalize power' a0.size (2*q1+q2) (2*q1+q2+q2+n) a0.size=pw;refine aI (fh (cB (I:=λ_ c v=>c=(bc,())/\Rn rk kd a0 lo v/\UpL rk (arrOf v) lo n) (Q:=λc v=>c=(bc,())/\Rn rk kd a0 lo v/\UpL rk (arrOf v) lo n) ?_ (λ_ _ I=>I) ⟨rfl,R2,Y⟩) ?_);rintro x' _ v _ _ ⟨rfl,C,Z⟩;refine aI (lJ ?_);by_cases big:(pendingOf v).size > 1;rw[if_pos big,ba (by lia)];generalize (pendingOf v)[(pendingOf v).size - 2]'(by lia)=o;obtain⟨o1,o2,o3⟩:=o;dsimp only;by_cases po:o3<=pw;rw[if_pos po];exact aO ⟨rfl,C,Z⟩;rw[if_neg po];refine aI (zpQ c C (by lia) λy' R' _ out=>?_);simp only[fe,aK,if_false];exact aO ⟨rfl,R',Z.same λj j1 _=>out j j1⟩;rw[if_neg big];exact aO ⟨rfl,C,Z⟩;rintro _ v ⟨rfl,C,Z⟩;dsimp only;have m:=zjv (f:=λx=>(x.1,x.2.1,pw)) (λq=>⟨rfl,rfl⟩) (i:=(pendingOf v).size - 1) C.sd;refine aI (lZ (aI (lZ (aO ⟨_,rfl,push n _ J N ⟨C.pm,C.kn,C.fl,?_,C.ls,?_⟩ Z,by lia⟩))));show Side ((pendingOf v).modify _ _).toList 0 lo;rw[pL];exact m.1;show ∀q∈((pendingOf v).modify _ _).toList,UpL rk (arrOf v) q.1 q.2.1;rw[pL];intro q U;obtain⟨q',m',e1,e2⟩:=m.2 q U;rw[e1,e2];exact C.up q' m'
 case post =>
  rintro _ y ⟨lo,rfl,R,hl⟩;have el:lo=a0.size:=by have:=R.ls;lia
  subst el;dsimp only;have p0:=(ZR R.sd).1;have ps:(pendingOf y).toList.length=(pendingOf y).size:=by simp
  refine aI (fh (cB (I:=λx c v=>c=(bc,())/\Rn rk kd a0 a0.size v/\((pendingOf v).size<=1\/(pendingOf v).size+x<=a0.size)) (Q:=λc v=>c=(bc,())/\Rn rk kd a0 a0.size v/\(pendingOf v).size<=1) ?_ ?_ ⟨rfl,R,.inr (by lia)⟩) ?_);rintro x _ v _ hx ⟨rfl,C,sz⟩;refine aI (lJ ?_);by_cases le:(pendingOf v).size<=1;rw[if_pos le];exact aO ⟨rfl,C,le⟩;rw[if_neg le];refine aI (zpQ c C ?_ λy' R' e _=>?_);have ile:∀(p:Prop) [Decidable p] (a b n:Nat),a<=n->b<=n->(if p then a else b)<=n:=by intros;split <;> assumption
  exact fK (Nat.add_le_add_right (ile _ _ _ ((pendingOf v).size - 2) (by lia) (aB _)) 1) (by lia);simp only[fe,aK,if_false];exact aO ⟨rfl,R',.inr (by lia)⟩;rintro _ v ⟨rfl,C,sz⟩;exact⟨rfl,C,by lia⟩;rintro _ v ⟨rfl,C,sz⟩;refine aO (h v C.pm C.fl ?_);have sd:=C.sd;have up:=C.up;have ps:(pendingOf v).toList.length=(pendingOf v).size:=by simp
  generalize (pendingOf v).toList=L at sd up ps;match L,sd,up,ps with
  | [],sd,_,_ =>have:(0:Nat)=a0.size:=sd;lia
  | [q],sd,up,_ =>obtain⟨e1,_,e2⟩:=sd;have e2:0+q.2.1=a0.size:=e2;have u:=up q (by simp);intro i j h1 h2;have:=u i j h1 (by lia);rw[e1]at this;simpa using this
  | _::_::_,_,_,ps=>simp at ps;lia
end
def SrtL{α:Type}(f:α->Int)(l:List α):Prop:=l.length<100000
theorem ziA{α:Type}{f:α->Int}{l:List α}(h:l.length<100000):SrtL f l:=h
theorem VF{α:Type}{f:α->Int}{l:List α}(h:SrtL f l):l.length<100000:=h
theorem zol{α o:Type}{f:α->Int}{g:o->Int}{l:List α}{m:List o}(h:SrtL f l)(e:l.map f=m.map g):SrtL g m:=by
 have u:l.length=m.length:=by simpa using congrArg fg e
 show m.length<_;rw[<- u];exact h
theorem zov{prog:aQ}{w:bg}{A:bh}{E:qV}{s:av}{o:fL}{rk:ah->Int}{vs:List ah}{z:b6}{Q:Unit->b6->Prop}(c:Cmp prog w A s o rk (pairsOf vs))(b:Sb o (pairsOf vs) z)(u:arrOf z=pairsOf vs)(s2:2<=(pairsOf vs).size)(l:SrtL rk vs)
  (h:∀y,(arrOf y).Perm (pairsOf vs)->failedOf y=bc->Up rk (arrOf y) (pairsOf vs).size->Q () y):wpS (model prog w) A E s sortRuns' Q z:=zow c b s2 h
def midH(h:bz)(a:aq)(vs:List ah):bz:=((h.update a (gj λ_=>#[])).push (seqObj "tuple" vs.toArray 0)).push (seqObj "list" #[] 0)
section
variable{prog:aQ}{w:bg}{A:bh}{E:qV}{s:av}{rk:ah->Int}
def Kinds(prog:aQ)(w:bg)(A:bh)(s:av)(rk:ah->Int)(vs:List ah):Prop:=2<=vs.length->∃l,(∀(E:qV) (Q:fL->av->Prop),Q l s->wpAny (model prog w) A (keyKind' vs.toArray) Q E s)/\Cmp prog w A s l rk (pairsOf vs)
theorem zoZ{a:aq}{vs:List ah}{n:Nat}{P:Fin->av->Prop}(u:s.heap.get? a=ao (seqObj "list" vs.toArray n)) (l:SrtL rk vs) (I:Kinds prog w A { s with heap:=midH s.heap a vs } rk vs)
  (h:∀y:b6,(arrOf y).Perm (pairsOf vs)->Up rk (arrOf y) vs.length->P (.done (.ret .none)) { s with heap:=sortedHeap s.heap a vs ((arrOf y).map (·.2)) }) :
  wpAny (model prog w) A (cX.«list.sort» ⟨[.ref a],[]⟩) P E s:=by
 have hz:vs.length<100000:=VF l;rw[list_sort_plain];have G:a<s.heap.objs.size:=aG u;refine aa (iw u rfl (aa (pT u rfl ?_)));obtain⟨v,C⟩:∃v,(s.heap.update a (gj λ_=>#[])).get? a=ao (seqObj "list" #[] v):=⟨_,tL u (λ_=>#[])⟩;refine aa (seqEpoch_at C rfl (aa (uo (aa (m3 (cq ?_))))));have x:(midH s.heap a vs).get? a=ao (seqObj "list" #[] v):=by unfold midH;rw[ft _ _ _ (by rw[mn,iy];exact aT (aV G (oU _))),ft _ _ _ (by rw[iy];exact aT G)];exact C
 show wpAny (model prog w) A _ P E { s with heap:=midH s.heap a vs };have z:vs.toArray.size=vs.length:=by simp
 have tail:∀(y:b6),(arrOf y).Perm (pairsOf vs)->failedOf y=bc->Up rk (arrOf y) vs.length->wpAny (model prog w) A (do
   let touched:=(<- seqEpoch a) != v
   wB (.ref a) λ_=>(arrOf y).map (·.2)
   if let ao e:=failedOf y then rule "list.sort.comparison-raised";throw e
   if touched then rule "list.sort.modified";raiseError "ValueError" "list modified during sort"
   ret .none) P E { s with heap:=midH s.heap a vs }:=λy pm fl up=>by
  refine aa (seqEpoch_at x rfl (aa (pT x rfl ?_ (hsz2:=?_))));rw[fl];simp only[bne_self_eq_false,aK,if_false];exact ae (h y pm up);rw[Array.size_map,pm.size_eq,rN];show vs.length<=sizeLine+1;have:=VF l;have:100000<=sizeLine:=by decide
  omega
 by_cases two:vs.length<2;simp only[z,two,if_true];refine aa (ae ?_);rw[StateT.run_pure];refine aa (ae ?_);exact tail (AV general' (vs.toArray.zip vs.toArray) #[] 7 bc) (tM _) rfl λi j S R=>absurd R (by omega);simp only[z,two,if_false];obtain⟨L,J,N⟩:=I (by omega);refine aa (J _ _ ?_);refine aa (cS (zov (Q:=λ_ y=>(arrOf y).Perm (pairsOf vs)/\failedOf y=bc/\Up rk (arrOf y) vs.length) (z:=AV L (vs.toArray.zip vs.toArray) #[] 7 bc) N ⟨tM _,rfl,rfl,rfl⟩ rfl (by rw[rN];omega) l
  λy p1 p2 p3=>⟨p1,p2,by rwa [rN]at p3⟩) ?_ λ_ _ e=>e)
 rintro⟨⟨⟩,y⟩ s' ⟨rfl,p1,p2,p3⟩;exact tail y p1 p2 p3
theorem zja{l:aq}{vs:List ah}{o:Obj}{T:String}{n:Nat}{Q:List ah->av->Prop}(I:s.heap.get? l=ao o)(hc:o.cls=.type T)(J:T = "list" \/ T = "tuple") (hd:o.data=.seq vs.toArray n) (hz:vs.length<=sizeLine)
  (h:Q vs { s with heap:=(s.heap.push (seqObj "list" #[] 0)).update s.heap.objs.size (gj (·++vs.toArray)) }):wpAny (model prog w) A (collect (.ref l)) Q E s:=by
 unfold collect;refine aa (uq (dX oV ?_));show wpAny (model prog w) _ (newList [] >>= λx=>again (.builtin "list.__iadd__" ⟨[x,.ref l],[]⟩)) _ _ s;refine aa (m3 (ae ⟨gN _ (by decide +kernel),dX sO ?_⟩));show wpAny (model prog w) _ (df (.ref s.heap.objs.size) (.ref l) (.ref s.heap.objs.size)) _ _ { s with heap:=s.heap.push (seqObj "list" #[] 0) };unfold df;have v:(s.heap.push (seqObj "list" #[] 0)).get? l=ao o:=aj _ I;refine aa (eM (T:=T) ⟨o,v,hc⟩ ?_);have cond:∀b:Bool,(b||bo T == bo "list" ||bo T == bo "tuple")=be:=by intro b;have G:(bo "list" == bo "list")=be:=rfl;have C:(bo "tuple" == bo "tuple")=be:=rfl;rcases J with rfl|rfl;rw[G];simp;rw[C];simp
 rw[if_pos (cond _)];refine aa (iw v hd (aa (iw (xs:=#[]) (n:=0) (aD _ rfl) rfl ?_)));rw[if_neg (by simp)];refine aa (pT (xs:=#[]) (n:=0) (aD _ rfl) rfl (ae ?_) (eD _) (by simp only[rO,aJ,cz];omega));refine aa (m:=load s.heap.objs.size) (nJ (tL (aD _ rfl) _) ?_);show wpAny (model prog w) A (pure ((#[]:Array ah)++vs.toArray).toList) Q E _;have e:((#[]:Array ah)++vs.toArray).toList=vs:=by simp
 rw[e];exact ae h
end
section
variable{prog:aQ}{w:bg}{A:bh}{E:qV}{s:av}
theorem zm0(b:Bool)(x y:ah):keyLt' (tuples' b) x y=(do
  let xs <- gO x;let ys <- gO y
  for ((p,q),i) in (xs.toList.zip ys.toList).zipIdx do
   if !(<- eqBool p q) then return <- oneLt' (b&&i == 0) p q
  return decide (xs.size<ys.size)):=rfl
def LtAt(prog:aQ)(w:bg)(A:bh)(s:av)(one:Bool)(p q:ah)(l:Bool):Prop:=∀(E:qV) (Q:Bool->av->Prop),Q l s->wpAny (model prog w) A (oneLt' one p q) Q E s
theorem zh6{b:Bool}{x y:aq}{S N:Obj}{u p1 v l:ah}{n m:Nat}{G C R J:Bool}{Q:Bool->av->Prop}(hx:s.heap.get? x=ao S)(Y:S.data=.seq #[u,p1] n)(hy:s.heap.get? y=ao N)(dy:N.data=.seq #[v,l] m)
  (e0:pV A s u v G) (Z:pV A s p1 l C) (t0:G=bj->LtAt prog w A s b u v R) (t1:C=bj->LtAt prog w A s bj p1 l J) (h:Q (if G=be then(if C=be then bj else J) else R) s) :
  wpAny (model prog w) A (keyLt' (tuples' b) (.ref x) (.ref y)) Q E s:=by
 rw[zm0];refine aa (iw hx Y (aa (iw hy dy ?_)));have U:((#[u,p1]:Array ah).toList.zip (#[v,l]:Array ah).toList).zipIdx=[((u,v),0),((p1,l),1)]:=rfl;simp only[U,iT,hY];refine aa (aa ?_);refine aa (e0 prog w E _ ?_);cases G with
 | false =>
  simp only[fN,if_true];have z0:(b&&(0:Nat) == 0)=b:=by simp
  rw[z0];refine aa (t0 rfl E _ ?_);exact ae (ae (ae (by simpa using h)))
 | true =>
  simp only[fe,aK,if_false];refine ae (aa (aa (Z prog w E _ ?_)));cases C with
  | false =>
   simp only[fN,if_true];have z1:(b&&(1:Nat) == 0)=bj:=by simp
   rw[z1];refine aa (t1 rfl E _ ?_);exact ae (ae (ae (by simpa using h)))
  | true =>simp only[fe,aK,if_false];exact ae (ae (ae (by simpa using h)))
theorem zmS(a b:Int)(t u:Tok):LtAt prog w A s be (.int a t) (.int b u) (decide (a<b)):=λ_ _ q=>oneLt_int q
theorem zjQ(a b:Int)(t u:Tok):LtAt prog w A s bj (.int a t) (.int b u) (decide (a<b)):=λE Q q=>by rw[oneLt'_eq];simp only[aK,if_false];refine aa (show wpAny (model prog w) A (compareOp .Lt (.int a t) (.int b u)) _ E s from lt_int ?_);exact cW q
def PrIn(h:bz)(u:ah)(b k:Int):Prop:=∃(a:aq) (o:Obj) (t t':Tok) (n:Nat),u=.ref a/\h.get? a=ao o/\o.cls=.type "tuple" /\ o.data=.seq #[.int b t,.int k t'] n
def two?:List ah->Int
 | [.int b _,.int k _]=>b*1000+k
 | _=>0
def rkC(h:bz)(u:ah):Int:=match u with
 | .ref a=>match h.get? a with
  | some o=>match o.data with
   | .seq xs _=>two? xs.toList
   | _=>0
  | none=>0
 | _=>0
theorem PrIn.rk{h:bz}{u:ah}{b k:Int}(p:PrIn h u b k):rkC h u=b*1000+k:=by obtain⟨a,o,t,t',n,rfl,l,_,v⟩:=p;unfold rkC;dsimp only;rw[l];dsimp only;rw[v];rfl
theorem PrIn.kept{h h':bz}{u:ah}{b k:Int}(p:PrIn h u b k)(kp:∀b o,h.get? b=ao o->h'.get? b=ao o):PrIn h' u b k:=by obtain⟨a,o,t,t',n,v,x,y,l⟩:=p;exact⟨a,o,t,t',n,v,kp _ _ x,y,l⟩
theorem Z1{α u:Type}{f:α->Sem u}{P:α->u->Prop}{M:tf}:∀(l:List α) {Q:List u->av->Prop},(∀v∈l,∀(C:u->av->Prop),(∀r,P v r->C r s)->wpAny M A (f v) C E s)->(∀rs,bT P l rs->Q rs s)->wpAny M A (l.mapM f) Q E s
 | [],_,_,h=>by rw[List.mapM_nil];exact ae (h _ .nil)
 | x::l,Q,hf,h=>by rw[List.mapM_cons];exact aa (hf x (.head _) _ λr G=>aa (Z1 l (λv I=>hf v (.tail _ I)) λrs y=>ae (h _ (.cons G y))))
theorem zj9(v:ah):firstOfTuple' v=(do
  if (<- typeOf v) != .type "tuple" then return bc
  return (<- gO v)[0]?):=rfl
theorem zk9{vs:List ah}{Q:fL->av->Prop}(U:1<=vs.length)(L:∀v∈vs,∃b k,PrIn s.heap v b k)(h:Q (tuples' be) s):wpAny (model prog w) A (keyKind' vs.toArray) Q E s:=by
 rw[keyKind'_eq,kD,map_eq_pure_bind];refine aa (aa (Z1 (P:=λ_ r=>∃(b:Int) (t:Tok),r=ao (.int b t)) vs (λv hv Q' Z=>?_) λrs J=>ae ?_));obtain⟨b,k,a,o,t,t',n,rfl,R,e2,e3⟩:=L v hv;rw[zj9];refine aa (eM (T:="tuple") ⟨o,R,e2⟩ ?_);rw[if_neg (by decide)];exact aa (iw R e3 (ae (Z _ ⟨b,t,rfl⟩)));have al:∀r∈rs,∃(b:Int) (t:Tok),r=ao (.int b t):=by
  clear h L U;induction J with
  | nil=>intro r u;cases u
  | cons x y G =>intro r u;rcases aE.mp u with rfl|u;exact x;exact G r u
 have ln:rs.length=vs.length:=by
  clear h L U al;induction J with
  | nil=>rfl
  | cons x y G=>simp[G]
 have Nc:(rs.toArray.all λx=>x.isSome)=be:=by simp only[kS,dF];intro x hx;obtain⟨b,t,rfl⟩:=al x hx;rfl
 rw[if_pos Nc];refine aa (cU ?_);rw[tN];have N:rs.toArray.filterMap id=(rs.filterMap id).toArray:=by simp
 rw[N,kD,map_eq_pure_bind];refine aa (aa (aa (Z1 (P:=λ_ r=>r=bo "int") _ (λv hv Q' Z=>?_) λts C=>ae ?_)));obtain⟨x,hx,e⟩:=gK.mp hv;obtain⟨b,t,rfl⟩:=al x hx;cases e;exact ae (Z _ rfl);have I:∀r∈ts,r=bo "int":=by
  clear h L U;generalize rs.filterMap id=l at C;induction C with
  | nil=>intro r u;cases u
  | cons x y G =>intro r u;rcases aE.mp u with rfl|u;exact x;exact G r u
 have ln2:ts.length=rs.length:=by
  have:ts.length=(rs.filterMap id).length:=by
   clear h L U I;generalize rs.filterMap id=l at C;induction C with
   | nil=>rfl
   | cons x y G=>simp[G]
  rw[this];clear this C N Nc;clear ln J;induction rs with
  | nil=>rfl
  | cons x l G =>obtain⟨b,t,rfl⟩:=al x (.head _);simp only[dJ,id,aL];rw[G λr u=>al r (.tail _ u)]
 obtain⟨S,Y,rfl⟩:∃S Y,ts=S::Y:=by
  cases ts with
  | nil=>simp at ln2;omega
  | cons a b=>exact⟨a,b,rfl⟩
 have R:S=bo "int":=I S (.head _);subst R;have Ng:(((bo "int")::Y).toArray.all λx=>x == bo "int")=be:=by simp only[kS,dF];intro x hx;rw[I x hx];rfl
 have h0:((bo "int")::Y).toArray[0]?=ao (bo "int"):=by simp
 rw[h0];simp only[Ng,if_true];refine ae (ae ?_);exact h
theorem ziX{vs:List ah}{h0:bz}(y:∀v∈vs,∃b k,PrIn s.heap v b k/\rkC h0 v=b*1000+k/\0<=k/\k<1000):Kinds prog w A s (rkC h0) vs:=λh2=>by
 refine⟨tuples' be,λE Q q=>zk9 (by omega) (λv I=>?_) q,λp q E Q mp G h=>?_⟩;obtain⟨b,k,h,_⟩:=y v I;exact⟨b,k,h⟩;have mem:∀z∈(pairsOf vs).toList,z.1∈vs:=λz hz=>by
  have:z∈vs.zip vs:=by simpa[pairsOf] using hz
  exact(fx this).1
 obtain⟨b,k,⟨a,o,t,t',n,Z,S,e2,R⟩,Y,k0,k1⟩:=y _ (mem p mp);obtain⟨l,x,⟨a',o',u,C,n',f0,f1,f2,U⟩,N,J,k1'⟩:=y _ (mem q G);rw[Y,N]at h;rw[Z,f0];refine zh6 S R f1 U (iZ b t l u) (iZ k t' x C) (λ_=>zmS b l t u) (λ_=>zjQ k x t' C) ?_;have:(if (b == l)=be then(if (k == x)=be then bj else decide (k<x)) else decide (b<l))=decide (b*1000+k<l*1000+x):=by simp only[beq_iff_eq];split;split;symm;rw[decide_eq_false_iff_not];omega;rw[decide_eq_decide];omega;rw[decide_eq_decide];omega
 rw[this];exact h
end
theorem zgw{α u:Type}{l:List (α×u)}{m:List u}(h:m.Perm (l.map (·.2))):∃o:List (α×u),o.Perm l/\o.map (·.2)=m:=by
 induction m generalizing l with
 | nil =>
  have:l.map (·.2)=[]:=h.symm.eq_nil;cases l with
  | nil=>exact⟨[],.refl _,rfl⟩
  | cons a b=>simp at this
 | cons x m y =>
  have hx:x∈l.map (·.2):=h.mem_iff.mp (.head _);obtain⟨z,hz,rfl⟩:=aY.mp hx;obtain⟨v,l2,rfl⟩:=List.append_of_mem hz;have C:(z.2::m).Perm (z.2::(v++l2).map (·.2)):=by refine h.trans ?_;simp only[gT,aU];exact nA
  obtain⟨o,p,e⟩:=y (List.perm_cons _|>.mp C);exact⟨z::o,(p.cons z).trans nA.symm,by simp[e]⟩
theorem WF{α u:Type}{F:α->u->Prop}{l:List α}{o:List u}(r:bT F l o){b:u}(h:b∈o):∃a∈l,F a b:=by
 induction r with
 | nil=>cases h
 | cons f t v =>rcases aE.mp h with rfl|h;exact⟨_,cL,f⟩;obtain⟨b,x,g⟩:=v h;exact⟨b,cn _ x,g⟩
theorem zjA{α:Type}{P:α->ah->Prop}{rk:ah->Int}{f:α->Int}{vs:List ah}{J:List α}{y:b6}(Y:bT P J vs)(hr:∀a v,P a v->rk v=f a)(pm:(arrOf y).Perm (pairsOf vs))(up:Up rk (arrOf y) vs.length) :
  ∃bs:List α,bs.Perm J/\bs.Pairwise (λa b=>f a<=f b)/\bT P bs ((arrOf y).map (·.2)).toList:=by
 have u:(arrOf y).toList.Perm (vs.zip vs):=by have:=eQ.mp pm;simpa[pairsOf] using this
 have hl:J.length=vs.length:=fD Y;have each:∀x∈J.zip vs,P x.1 x.2:=by
  clear pm up u hl;induction Y with
  | nil=>intro x hx;simp at hx
  | cons h t R =>intro x hx;rcases aE.mp (by simpa using hx) with rfl|hx;exact h;exact R x hx
 have I:((arrOf y).toList.map (·.2)).Perm ((J.zip vs).map (·.2)):=by refine(u.map _).trans ?_;rw[nB (aB _),nB (by lia)]
 obtain⟨C,p1,p2⟩:=zgw I;have U:∀x∈C,P x.1 x.2:=λx hx=>each x (p1.mem_iff.mp hx);have Nk:∀z∈(arrOf y).toList,z.1=z.2:=λz hz=>by have:z∈vs.zip vs:=u.mem_iff.mp hz;obtain⟨i,hi,rfl⟩:=a9 this;simp
 have S:(arrOf y).size=vs.length:=by have:=u.length_eq;simpa using this
 refine⟨C.map (·.1),?_,?_,?_⟩;have:=p1.map (·.1);rwa [sP (by lia)]at this;rw[dN,aR];intro i j hi hj N;have lw:C.length=vs.length:=by have:=congrArg fg p2;simpa[S] using this
 have gw:∀k (Z:k<C.length),rkAt rk (arrOf y) k=f C[k].1:=λk Z=>by
  have G:k<(arrOf y).size:=by lia
  have e1:(arrOf y).toList[k]'(by simpa using G)=(arrOf y)[k]:=by simp
  have e2:C[k].2=(arrOf y)[k].2:=by
   have:(C.map (·.2))[k]'(by simpa using Z)=((arrOf y).toList.map (·.2))[k]'(by simpa using G):=by simp only[p2]
   simpa using this
  have e3:(arrOf y)[k].1=(arrOf y)[k].2:=Nk _ (by rw[<- e1];exact gD _);unfold rkAt;rw[ba G];simp only[fX,fF];rw[e3,<- e2];exact hr _ _ (U _ (gD _))
 have:=up i j N (by lia);rwa [gw i hi,gw j hj]at this;rw[Array.toList_map,<- p2];clear p1 p2 I pm up;induction C with
 | nil=>exact .nil
 | cons a l R=>exact .cons (U a (.head _)) (R λx hx=>U x (.tail _ hx))
section
variable{prog:aQ}{w:bg}{A:bh}{E:qV}{s:av}{rk:ah->Int}
theorem ziT{h:bz}{vs:List ah}{b:aq}{o:Obj}(u:h.get? b=ao o):(midH (h.push (seqObj "list" vs.toArray 0)) h.objs.size vs).get? b=ao o:=by have l:b<h.objs.size:=aG u;unfold midH;rw[ft _ _ _ (by rw[mn,iy,mn];lia),ft _ _ _ (by rw[iy,mn];lia),pM _ _ _ _ (aT l),ft _ _ _ (aT l)];exact u
theorem zlO{vs:List ah}{P:qV}(l:SrtL rk vs)(C:Kinds prog w A { s with heap:=midH (s.heap.push (seqObj "list" vs.toArray 0)) s.heap.objs.size vs } rk vs)
  (h:∀h' (y:b6) (e:Nat),(∀b o,s.heap.get? b=ao o->h'.get? b=ao o)->(arrOf y).Perm (pairsOf vs)->Up rk (arrOf y) vs.length->h'.get? s.heap.objs.size=ao (seqObj "list" ((arrOf y).map (·.2)) e)->P .none { s with heap:=h' }) :
  wpAny (model prog w) A (cX.«list.sort» ⟨[.ref s.heap.objs.size],[]⟩) (λf s'=>∃v,f=.done (.ret v)/\P v s') E { s with heap:=s.heap.push (seqObj "list" vs.toArray 0) }:=by
 have u:(s.heap.push (seqObj "list" vs.toArray 0)).get? s.heap.objs.size=ao (seqObj "list" vs.toArray 0):=aD _ rfl;refine zoZ (s:={ s with heap:=s.heap.push (seqObj "list" vs.toArray 0) }) u l C λy p1 p2=>⟨_,rfl,?_⟩;obtain⟨e,he⟩:=sortedHeap_at (out:=(arrOf y).map (·.2)) u;refine h _ y e (λb o x=>?_) p1 p2 he;have lt:=aG x;rw[sortedHeap_old (aT lt) (by rw[mn];exact Nat.lt_succ_of_lt lt),ft _ _ _ (aT lt)];exact x
end
section
variable{prog:aQ}{w:bg}{A:bh}{E:qV}{s:av}{rk:bz->ah->Int}
theorem zeF{x:ah}{C:bz->Nat->List ah->Prop}{Q:qV}(J:∀(G:bh) (U:qV) (N:List ah->av->Prop),G.handled=A.handled->(∀h' tk d vs,C h' tk vs->N vs { s with heap:=h',toks:=tk,drawn:=d })->wpAny (model prog w) G (collect x) N U s)
  (L:∀h' tk vs,C h' tk vs->SrtL (rk h') vs)
  (R:∀h' tk d vs (G:bh),C h' tk vs->G.units<=A.units+16->Kinds prog w G { s with heap:=midH (h'.push (seqObj "list" vs.toArray 0)) h'.objs.size vs,toks:=tk,drawn:=d } (rk h') vs)
  (h:∀h' tk d vs I (y:b6) (e:Nat),C h' tk vs->(∀b o,h'.get? b=ao o->I.get? b=ao o)->(arrOf y).Perm (pairsOf vs)->Up (rk h') (arrOf y) vs.length->I.get? h'.objs.size=ao (seqObj "list" ((arrOf y).map (·.2)) e)->Q (.ref h'.objs.size) { s with heap:=I,toks:=tk,drawn:=d }) :
  wpAny (model prog w) A (call (.builtin "sorted") [x]) Q E s:=by
 have Y:100000<=sizeLine:=by decide
 refine Calls.call_function_entry kind_sorted plain_sorted entry_sorted (args_sorted1 _) ?_;unfold cX.«sorted»;refine aa (m:=checkCount "sorted" 1 1 _) (ae (aa (J _ _ _ rfl λh' tk d vs c=>?_)));have v:=L h' tk vs c;have lt:=VF v;refine aa (m3 (hsz:=by show vs.toArray.size<=_;rw[aJ];lia) ?_);have S:(h'.push (seqObj "list" vs.toArray 0)).get? h'.objs.size=ao (seqObj "list" vs.toArray 0):=aD _ rfl;refine aa (cq (bS slot_list_sort ⟨_,S,rfl⟩ entry_list_sort ?_ (args_list_sort _)));refine zlO (s:={ s with heap:=h',toks:=tk,drawn:=d }) v (R h' tk d vs _ c (by show A.units+1+1<=_;lia)) λI y e kp p1 p2 he=>?_;exact ae ⟨_,rfl,h h' tk d vs I y e c kp p1 p2 he⟩
end
section
variable{X:Cx}
theorem zqo{pins:qO}{σ:St}{H:Hp}{s:av}{q:aq}{b k:Int}(I:Inv X pins σ H s)(h:SqT X.K H q [.int b,.int k]):PrIn s.heap (.ref q) b k:=by
 obtain⟨is,rs,⟨o,f1,f2,n,l⟩,_⟩:=I.tuple h;cases rs with
 | cons a1 a2 =>
  cases a2 with
  | cons u v =>cases v;obtain⟨t,rfl⟩:=a1;obtain⟨t',rfl⟩:=u;exact⟨q,o,t,t',n,rfl,f1,f2,l⟩
theorem Rep.bkI{K:qF}{hd:Option aq}{O:aq->Prop}{H:Hp}{v:V}{a b:Int}(h:Rep K hd O H v (.tuple [.int a,.int b])):∃q,v=.ref q/\SqT K H q [.int a,.int b]:=by
 obtain⟨q,vs,rfl,sq,x⟩:=h.tupI;cases x with
 | cons x1 o =>
  cases o with
  | cons x3 y =>cases y;rw[x1.intI,x3.intI]at sq;exact⟨q,rfl,sq⟩
theorem Inv.drw{X:Cx}{pins:qO}{σ:St}{H:Hp}{s:av}(I:Inv X pins σ H s)(d:_):Inv X pins σ H { s with drawn:=d }:=⟨I.ok,I.os,I.bare,I.base,I.loc,I.cell,I.free,I.freeC,I.pin,I.hok,I.len⟩
def SrtW(X:Cx)(ts:qD)(R:qD->Prop):Prop:=∃(α:Type) (D:α->af) (P:bz->ah->α->Prop) (f:α->Int) (rk:bz->ah->Int) (x:List α),ts=x.map D/\SrtL f x /\
 (∀{pins σ H s hd O v u a},a∈x->Inv X pins σ H s->Rep X.K hd O H v (D a)->RelV v u->P s.heap u a)/\(∀{h h' u a},P h u a->(∀b o,h.get? b=ao o->h'.get? b=ao o)->P h' u a/\rk h u=f a) /\
 (∀{A s h0 vs},A.units<cLine->(∀u∈vs,∃a∈x,P s.heap u a/\rk h0 u=f a)->Kinds X.prog X.w A s (rk h0) vs) /\
 ∀l:List α,l.Perm x->l.Pairwise (λa b=>f a<=f b)->R (l.map D)
theorem zil(hu:X.A.units+64<cLine):JK X (.builtin "sorted") (λxs H Q=>∃(p:aq) (vs:List V) (ts:qD) (hd:Option aq) (O:aq->Prop),xs=[.ref p]/\(SqL X.K H p vs\/SqT X.K H p vs)/\Reps X.K hd O H vs ts /\
  SrtW X ts λts'=>∀U l,Reps X.K hd O H U ts'->H l=bc->Q (.ref l) (upd H l (.lst U))):=by
 intro pins s σ H xs us Q I r h;obtain⟨p,vs,ts,hd,O,rfl,G,rp,α,D,P,f,rk,N,rfl,R,tell,kept,kin,q⟩:=h;obtain⟨u,rfl,rx⟩:=vals1 r;cases rx;have hs:100000<=sizeLine:=by decide
 have lt:=VF R;have lv:vs.length=N.length:=by simpa using rp.length
 have key:∀(its:List ah) (o:Obj) (T:String) (n:Nat),Vals vs its->s.heap.get? p=ao o->o.cls=.type T->(T = "list" \/ T = "tuple")->o.data=.seq its.toArray n ->
   wpAny (model X.prog X.w) X.A (call (.builtin "sorted") [.ref p]) (EP X pins σ Q) X.xe s:=λits o T n rv S hc hT hd'=>by
  have li:=rv.length;have go:∀h':bz,(∀b o,s.heap.get? b=ao o->h'.get? b=ao o)->bT (λ(z:V×α) (u:ah)=>RelV z.1 u/\Rep X.K hd O H z.1 (D z.2)/\P h' u z.2) (vs.zip N) its/\N.map f=its.map (rk h'):=λh' kp=>by
   have go:∀(bs:List α) (vs:List V) (its:List ah),(∀b∈bs,b∈N)->Reps X.K hd O H vs (bs.map D)->Vals vs its->bT (λ(z:V×α) (u:ah)=>RelV z.1 u/\Rep X.K hd O H z.1 (D z.2)/\P h' u z.2) (vs.zip bs) its/\bs.map f=its.map (rk h'):=by
    intro bs;induction bs with
    | nil=>intro vs its _ r v;cases r;cases v;exact⟨.nil,rfl⟩
    | cons b bs Z =>
     intro vs its J r v;cases r with
     | cons r1 r2 =>
      cases v with
      | cons v1 v2 =>obtain⟨i1,i2⟩:=Z _ _ (λc hc=>J c (.tail _ hc)) r2 v2;have p:=(kept (tell (J b (.head _)) I r1 v1) kp).1;exact⟨.cons ⟨v1,r1,p⟩ i1,by rw[aU,aU,i2,(kept p λ_ _ e=>e).2]⟩
   exact go N vs its (λ_ h=>h) rp rv
  refine zeF (A:=X.A) (x:=.ref p) (rk:=rk) (C:=λh' tk Y=>Y=its/\(∀b o,s.heap.get? b=ao o->h'.get? b=ao o)/\s.heap.objs.size<=h'.objs.size) ?_ ?_ ?_ ?_;intro A' E' Q' hA G;refine zja S hc hT hd' (by lia) ?_;have hq':=G ((s.heap.push (seqObj "list" #[] 0)).update s.heap.objs.size (gj (·++its.toArray))) s.toks s.drawn its ⟨rfl,λb ob J=>?_,?_⟩;exact hq';rw[pM _ _ _ _ (aT (aG J))];exact aj _ J;rw[iy,mn];exact oU _;rintro h' tk Y ⟨rfl,kp,_⟩;exact zol R (go h' kp).2;rintro h' tk d Y A' ⟨rfl,kp,_⟩ hA';refine kin (by lia) λu hu=>?_;obtain⟨x,mx,_,_,p⟩:=WF (go h' kp).1 hu;exact⟨x.2,(fx mx).2,(kept p λb o e=>ziT e).1,(kept p λ_ _ e=>e).2⟩;rintro h' tk d Y h2 y e ⟨rfl,kp,sz⟩ kp2 pm up he;obtain⟨zs,p1,p2,p3⟩:=zjA (f:=λx=>f x.2) (go h' kp).1 (λx u hx=>(kept hx.2.2 λ_ _ e=>e).2) pm up;obtain⟨rv',rp'⟩:Vals (zs.map (·.1)) ((arrOf y).map (·.2)).toList/\Reps X.K hd O H (zs.map (·.1)) ((zs.map (·.2)).map D):=by
   clear p1 p2 he;generalize ((arrOf y).map (·.2)).toList=out at p3;induction p3 with
   | nil=>exact⟨.nil,.nil⟩
   | cons h _ Z=>exact⟨.cons h.1 Z.1,.cons h.2.1 Z.2⟩
  refine⟨.ref h'.objs.size,_,((I.laid (a:=h'.objs.size) (o:=.lst (zs.map (·.1))) (t':=tk) (λb o J=>kp2 b o (kp b o J)) sz ⟨?_,_,e,rv',by rw[he]⟩).drw d),rfl,q (zs.map (·.2)) ?_ (by rw[dN];exact p2) _ _ rp' (I.hok.fresh sz)⟩;have:=p1.length_eq;rw[aN];simp at this;lia;have:=p1.map (·.2);rwa [nB (by lia)]at this
 rcases G with G|G;obtain⟨its,r',pl,hz⟩:=I.list G;obtain⟨o,S,hc,n,hd⟩:=pl.isList;exact key its o "list" n r' S hc (.inl rfl) hd;obtain⟨its,r',pl,hz⟩:=I.tuple G;obtain⟨o,S,hc,n,hd⟩:=pl;exact key its o "tuple" n r' S hc (.inr rfl) hd
theorem zgf{e:a8}{d:DTE}{pos p:Pos}{k:Nat}{L:af->(qD->Prop)->Prop}(hL:∀t R,L t R->JN t λts=>SrtW X ts R)(hr:Room k X.A)(hm:X.mg "sorted" = bc) (h:DL X e d) (hs:starEach [e] X.env=[(bj,eval e X.env)]) (hg:Gl X "sorted") :
  DN X (.Call (.Name "sorted" p) [e] [] pos) (λI n R=>d I n λt J=>L t λts=>R ts J):=by
 obtain⟨ta,pa,h⟩:=h;refine⟨_,Vv (zil (by have:=hr.un;lia)) hm boot_sorted (QC pa QV hs) hg,λC I σ H n Q R S hd hq=>?_⟩;refine h C I σ H n _ _ S hd λt J v u r1 e1 h1 q1=>?_;have r2:=hL t _ r1;have go:∀(p:aq) vs ts,(SqL X.K u p vs\/SqT X.K u p vs)->Reps X.K C.hd (Own C I σ) u vs ts->(SrtW X ts λts=>R ts J)->∃(Y:aq) (vs:List V) (ts:qD) (hd:Option aq) (O:aq->Prop),[V.ref p]=[V.ref Y]/\(SqL X.K u Y vs\/SqT X.K u Y vs)/\Reps X.K hd O u vs ts /\
   SrtW X ts λts'=>∀x l,Reps X.K hd O u x ts'->u l=bc->Q (.ref l) (upd u l (.lst x)):=λp vs ts Z rp h=>by
  obtain⟨α,D,P,f,rk,as,e,h64,tell,kept,kin,q⟩:=h;exact⟨p,vs,ts,C.hd,Own C I σ,rfl,Z,rp,α,D,P,f,rk,as,e,h64,tell,kept,kin,λas' pm pw x l rp' G=>hq _ J l x _ (q as' pm pw) (e1.trans (ExtE.new G)) (h1.same (JR G)) (ZM e1 h1 G) JJ
   (rp'.mono (λb o U z=>z.elim id λz=>by subst z;rw[G]at U;cases U) λb o _ U=>JR G b o U)⟩
 cases t with
 | list ts =>obtain⟨p,vs,rfl,y,h2⟩:=q1.lstI;exact go p vs ts (.inl (.of y)) h2 r2
 | tuple ts =>obtain⟨p,vs,rfl,y,h2⟩:=q1.tupI;exact go p vs ts (.inr y) h2 r2
 | _=>exact r2.elim
end
def rkD:af->Int
 | .tuple [.int b,.int k]=>b*1000+k
 | _=>0
def IsPr(t:af):Prop:=∃b k:Int,t=.tuple [.int b,.int k]/\0<=k/\k<1000
def Yd(t:af)(R:qD->Prop):Prop:=JN t λts=>SrtL rkD ts/\(∀x∈ts,IsPr x)/\∀l:List af,l.Perm ts->l.Pairwise (λa b=>rkD a<=rkD b)->R l
def zrU(d:DTE):DTA:=λo n R=>d o n λt l=>Yd t λts=>R ts l
theorem ze6{t:af}{R l:qD->Prop}(h:∀ts,R ts->l ts)(x:JN t R):JN t l:=by
 cases t with
 | list ts=>exact h _ x
 | tuple ts=>exact h _ x
 | _=>exact x
theorem zif{X:Cx}{e:a8}{d:DTE}{pos p:Pos}{k:Nat}(G:Room k X.A)(Z:X.mg "sorted" = bc) (h:DL X e d) (Y:starEach [e] X.env=[(bj,eval e X.env)]) (hg:Gl X "sorted":=by rfl):DN X (.Call (.Name "sorted" p) [e] [] pos) (zrU d) :=
 zgf (L:=Yd) (λt R=>ze6 λts ⟨o,ok,q⟩=>⟨af,id,λh u t=>∃b k,t=.tuple [.int b,.int k]/\PrIn h u b k,rkD,rkC,ts,(oW ts).symm,o,λ{_ _ _ _ _ _ v u a} ha I r rv=>by
  obtain⟨b,k,rfl,_⟩:=ok a ha;obtain⟨q,rfl,sq⟩:=Rep.bkI r;cases(show u=bR q from rv);exact⟨b,k,rfl,zqo I sq⟩,λ⟨b,k,e,p⟩ kp=>⟨⟨b,k,e,p.kept kp⟩,by rw[p.rk,e];rfl⟩,λ_ U=>ziX λv S=>by
  obtain⟨a,J,⟨b,k,rfl,p⟩,e⟩:=U v S;obtain⟨_,_,e',k0,k1⟩:=ok _ J;cases e';exact⟨b,k,p,e,k0,k1⟩,λx pm pw=>by rw[oW];exact q x pm pw⟩) G Z h Y hg
abbrev prD(b:Int×Int):af:=.tuple [.int b.1,.int b.2]
def pD(bs:qB):List af:=bs.map prD
theorem Js{bs:qB}:(pD bs).length=bs.length:=by simp[pD]
theorem ZA{bs cs:qB}:pD bs++pD cs=pD (bs++cs):=by simp[pD]
theorem Ys{i h:Int}{bs:qB}:pD bs++[.tuple [.int i,.int h]]=pD (bs++[(i,h)]):=by simp[pD]
theorem ZB{bs:qB}{k:Nat}{t:af}(h:(pD bs)[k]?=ao t):∃i g:Int,bs[k]?=ao (i,g)/\t=.tuple [.int i,.int g]:=by
 unfold pD at h;rw[aX]at h;cases e:bs[k]? with
 | none=>rw[e]at h;cases h
 | some b=>rw[e]at h;cases h;exact⟨b.1,b.2,rfl,rfl⟩
def eB(b:Int×Int):Int:=b.1+2 ^ b.2.toNat
def Bks(bits:Int)(bs:qB):Prop:=∀b∈bs,IsBk bits b.1 b.2
def Ptc(bits:Int)(bs:qB):Prop:=Bks bits bs/\bs.Pairwise λa b=>eB a<=b.1
theorem J9(b:Int×Int):b.1<eB b:=by have:=Bd.JM b.2.toNat;unfold eB;lia
theorem Ptc.ends{bits:Int}{bs:qB}(P:Ptc bits bs):bs.Pairwise λa b=>eB a<=eB b:=P.2.imp λ{a b} h=>by have:=J9 b;lia
theorem zpM{bs:qB}:Okd (.list (pD bs)):=by
 have:∀bs:List (Int×Int),eO (pD bs)=be/\gS (pD bs)<=1:=by
  intro bs;induction bs with
  | nil=>exact⟨by simp[pD,eO],by simp[pD,gS]⟩
  | cons b l o =>refine⟨?_,?_⟩;have:=o.1;simp only[pD,aU,eO,dS,vU,kY]at this ⊢;exact this;have:=o.2;simp only[pD,aU,gS,ik]at this ⊢;lia
 exact⟨by simp only[dS];exact(this bs).1,by simp only[ik];have:=(this bs).2;lia⟩
theorem zq4:Okd (.list []):=⟨by simp[dS,eO],by simp[ik,gS]⟩
theorem zrw{d:DTE}{o:En}{n:Nat}{l:qD->Nat->Prop}(h:d o n λt u=>Yd t λts=>l ts u):zrU d o n l:=h
theorem ztQ{bits:Int}{bs:qB}{N:qD->Prop}(v:bits<=64)(B:Bks bits bs)(J:bs.Pairwise λa b=>eB a<=b.1\/eB b<=a.1)(I:bs.length<100000)
  (h:∀cs,Ptc bits cs->cs.Perm bs->N (pD cs)):Yd (.list (pD bs)) N:=by
 refine⟨ziA (by rw[Js];exact I),λx hx=>?_,λy pm pw=>?_⟩;obtain⟨b,C,rfl⟩:=aY.mp hx;have:=B b C;exact⟨b.1,b.2,rfl,this.1,by have:=this.2.1;lia⟩;have G:y.Perm ((bs.map λb=>(b,prD b)).map (·.2)):=by
  have:(bs.map λb=>(b,prD b)).map (·.2)=pD bs:=by simp[pD]
  rw[this];exact pm
 obtain⟨zs,p1,p2⟩:=zgw G;have S:∀z∈zs,z.2=prD z.1:=λz hz=>by obtain⟨b,_,rfl⟩:=aY.mp (p1.mem_iff.mp hz);rfl
 have e:y=pD (zs.map (·.1)):=by rw[<- p2];unfold pD;rw[cy];exact gq λz hz=>S z hz
 have pc:(zs.map (·.1)).Perm bs:=by
  have:=p1.map (·.1);rw[cy]at this;have U:bs.map ((λx:(Int×Int)×af=>x.1)∘λb=>(b,prD b))=bs:=by show bs.map id=bs;exact oW _
  rwa [U]at this
 rw[e];have o:(zs.map (·.1)).Pairwise λa b=>eB a<=b.1\/eB b<=a.1:=(pc.pairwise_iff (λ{a b} h=>h.symm)).mpr J;have u:Bks bits (zs.map (·.1)):=λb v=>B b (pc.mem_iff.mp v);rw[e]at pw;unfold pD at pw;rw[dN]at pw;refine h _ ⟨u,?_⟩ pc;have both:=BA o pw;refine iM ?_ both;rintro a b L v ⟨h1,R⟩;have R:a.1*1000+a.2<=b.1*1000+b.2:=R;have a0:=(u a L).1;have a1:=(u a L).2.1;have Z:=(u b v).1;have Y:=(u b v).2.1;have:=J9 a;have:=J9 b;lia
theorem zuV{G:DTG}{tt:DTT}{d:DTE}{v:En}{I:qD->Nat->Prop}(Inv:Nat->qD->Nat->Prop):∀(xs:qD) (i:Nat) {acc:qD}{n:Nat},Inv i acc n ->
  (∀(k:Nat) (x:af) (acc:qD) (n:Nat) (K:qD->Nat->Prop),xs[k]?=ao x->Inv (i+k) acc n->(∀o y,Inv (i+k+1) o y->K o y) ->
   G x v λC=>tt C n λb J=>if b=be then d C J λt R=>acc.length<16777216/\K (acc++[t]) R else K acc J) ->
  (∀acc n,Inv (i+xs.length) acc n->I acc n)->JS G tt d v xs acc n I
 | [],i,acc,n,h0,_,fin=>fin acc n (by simpa using h0)
 | x::xs,i,acc,n,h0,turn,fin=>by
  refine turn 0 x acc n (λacc n=>JS G tt d v xs acc n I) rfl (by simpa using h0) λo y h'=>?_;refine zuV Inv xs (i+1) (by simpa using h') (λk u acc n K e L N=>?_) (λacc n h=>fin acc n ?_);refine turn (k+1) u acc n K (by simpa using e) ?_ λo y h'=>N o y ?_;have:i+(k+1)=i+1+k:=by lia
  rw[this];exact L;have:i+1+k+1=i+(k+1)+1:=by lia
  rw[this];exact h';have:i+(x::xs).length=i+1+xs.length:=by simp;lia
  rw[this]at *;exact h
theorem zqg{C:DTG}{tt:DTT}{d:DTE}{u:En}{G:qD->Nat->Prop}{xs:qD}{n:Nat}(Inv:Nat->qD->Nat->Prop)(h0:Inv 0 [] n)
  (turn:∀(k:Nat) (x:af) (acc:qD) (n:Nat) (K:qD->Nat->Prop),xs[k]?=ao x->Inv k acc n->(∀l y,Inv (k+1) l y->K l y) ->
   C x u λo=>tt o n λb v=>if b=be then d o v λt L=>acc.length<16777216/\K (acc++[t]) L else K acc v)
  (fin:∀acc n,Inv xs.length acc n->G acc n):JS C tt d u xs [] n G :=
 zuV Inv xs 0 h0 (λk x acc n K e I J=>turn k x acc n K e (by simpa using I) λa m h=>J a m (by simpa using h)) λacc n h=>fin acc n (by simpa using h)
theorem Uu{α:Type}{cs:List α}{D:α->af}{y:DTG}{tt:DTT}{d:DTE}{u:En}{n:Nat}{C:qD->Nat->Prop}(F:α->af)(G:cs.length<=16777216)
  (step:∀b∈cs,∀(K:qN) (X:Nat->Prop),K (F b) n->y (D b) u λo=>tt o n λc v=>if c=be then d o v K else X v) (fin:C (cs.map F) n):JS y tt d u (cs.map D) [] n C:=by
 refine zqg (λj acc m=>m=n/\acc=(cs.take j).map F) ⟨rfl,rfl⟩ ?_ ?_;rintro j x acc m K l ⟨rfl,rfl⟩ hK;rw[aX]at l;cases eb:cs[j]? with
 | none=>rw[eb]at l;cases l
 | some b =>rw[eb]at l;cases l;obtain⟨J,I⟩:=aw.mp eb;refine step b (ax eb) _ _ ⟨?_,hK _ _ ⟨rfl,?_⟩⟩;simp;lia;rw[dD,eb];simp
 rintro acc m ⟨rfl,rfl⟩;rw[aN,dH];exact fin
theorem zxd{bs:List Bool}{R:af->Prop}(h:R (.bool (bs.all id))):bAll [.list (bs.map k7)] R:=⟨bs,rfl,h⟩
theorem zux{α:Type}{cs:List α}{f:α->Bool}{R:af->Prop}(h:R (.bool (cs.all f))):bAll [.list (cs.map λb=>k7 (f b))] R:=by
 have e:(cs.map λb=>k7 (f b))=(cs.map f).map k7:=by simp
 rw[e];refine zxd ?_;have u:(cs.map f).all id=cs.all f:=by simp[List.all_map,g8]
 rw[u];exact h
theorem ztZ{xs:qD}{k:Nat}{x:af}{R:af->Prop}(e:xs[k]?=ao x)(h:R x):oIx (.tuple xs) (.int (k:Int)) R:=by
 have o:k<xs.length:=by rcases cj k xs.length with z|z;exact z;rw[cc z]at e;cases e
 rw[Ze (x:=x)];exact h;unfold atI ixN;have:((0:Int)<=(k:Int)):=by lia
 have:((k:Int)<(xs.length:Int)):=by lia
 have v:xs[k]=x:=by rw[au o]at e;exact aP e
 simp[o,v]
theorem zro{xs:qD}{i:Int}{k:Nat}{x:af}{R:af->Prop}(hi:i=(k:Int))(e:xs[k]?=ao x)(h:R x):oIx (.tuple xs) (.int i) R:=by subst hi;exact ztZ e h
theorem Zc{bs:qB}{k:Nat}{b:Int×Int}(h:bs[k]?=ao b):(pD bs)[k]?=ao (.tuple [.int b.1,.int b.2]):=by unfold pD;rw[aX,h];rfl
theorem zrJ{bs:qB}:gk (.list (pD bs)) (.list [])=bs.isEmpty:=by
 cases bs with
 | nil=>simp[pD,gk,pS]
 | cons b l=>simp[pD,gk,pS]
theorem UG{many:Int}{n:Nat}{R:qN}(h0:0<many)(l:many<2 ^ 128)(o:n<=1000000000000)(h:∀r:Int,0<=r->r<many->R (.int r) (n+1)):Yn [HAND,.int many] n R:=⟨rfl,h0,l,o,h⟩
theorem zkK{i h:Int}:QE (.tuple [.int i,.int h])=be:=by simp[QE,Zx]
theorem Bks.app{bits i h:Int}{bs:qB}(B:Bks bits bs)(C:IsBk bits i h):Bks bits (bs++[(i,h)]):=λb l=>by rcases aC.mp l with z|z;exact B b z;cases aA.mp z;exact C
section
variable{prog:aQ}{w:bg}{A:bh}{E:qV}{s:av}
open HT in
theorem zc0{t y:aq}{items:Array ah}{I J:ah}{lo hi:Option Int}{Q:qV}(u:rC s.heap t items)(G:s.heap.IsSliceOf y I J .none)(pl:mW I lo)(N:mW J hi)
  (hw:HT.sIx items.size 0 lo=0/\HT.sIx items.size items.size hi=items.size) (h:Q (.ref t) s):wpAny (model prog w) A (getItem (.ref t) (.ref y)) Q E s:=by
 obtain⟨os,v,C,L⟩:=id G;have x:s.TypeIs (.ref y) "slice":=⟨os,v,C⟩;unfold getItem;try with_reducible refine cq ?_
 first|refine aa (ae ?_)|skip
 refine aa (rG u.typeIs (by decide) ?_);refine aa (b7 (name:=aH "__getitem__") u.typeIs cD
  (bS cD u.typeIs pJ ?_ (pX _ _)))
 show wpAny _ _ (lY (.ref t) >>= _) _ _ s;refine aa (tupleItemsOf_ u ?_);refine aa (eM x ?_);rw[if_pos (by decide)];refine aa (HT.zcg G pl N ?_);have l:(((HT.sIx items.size 0 lo:Nat):Int) == 0&&(1:Int) == 1&&(HT.sIx items.size items.size hi - HT.sIx items.size 0 lo) == items.size)=be:=by rw[hw.1,hw.2];simp
 show wpAny _ _ (if (((HT.sIx items.size 0 lo:Nat):Int) == 0&&(1:Int) == 1&&(HT.sIx items.size items.size hi - HT.sIx items.size 0 lo) == items.size)=be then _ else _) _ _ s;rw[if_pos l];unfold ur;refine aa (aa (eM u.typeIs (ae ?_)));rw[if_pos (by decide)];exact aa (cU (ae ⟨_,rfl,ae h⟩))
end
section
variable{X:Cx}
def rSlW(K:qF):V->Option Int->Option Int->Hp->VK->Prop:=λx lo hi H Q=>∃a xs,x=.ref a/\SqT K H a xs/\(HT.sIx xs.length 0 lo=0/\HT.sIx xs.length xs.length hi=xs.length)/\Q (.ref a) H
theorem zqq:SlR X (rSlW X.K):=by
 intro pins s σ H x v G L lo hi J Q I C u pl y h;obtain⟨a,xs,rfl,hx,hw,q⟩:=h;cases C;obtain⟨its,r,o,hz⟩:=I.tuple hx;have l:its.toArray.size=xs.length:=by rw[aJ];exact r.length.symm
 refine⟨"tuple",_,cD.lookup,o.typeIs,?_⟩;exact zc0 o u pl y (by rw[l];exact hw) ⟨.ref a,H,I,rfl,q⟩
end
abbrev DTO:=En->Nat->(Option Int->Nat->Prop)->Prop
def DP(X:Cx)(e:Option a8)(d:DTO):Prop:=∃t,PO X e t/\∀(C:Ctx) (u:En) (σ:St) (H:Hp) (n:Nat) (Q:Option Int->Hp->Prop) (R:Option Int->Nat->Prop),Stt X.K C u σ H n->d u n R ->
 (∀o l H',R o l->ExtE C.hd H H'->Hn X.K C.hd H' l->Q o H')->t σ H Q
def zi_:DTO:=λl n R=>R bc n
def zrW(d:DTE):DTO:=λo n R=>d o n λt l=>lInt t λi=>R (ao i) l
def cutD(ts:qD)(lo hi:Option Int):List af:=(ts.drop (HT.sIx ts.length 0 lo)).take (HT.sIx ts.length ts.length hi - HT.sIx ts.length 0 lo)
def lSl(t:af)(lo hi:Option Int)(R:qD->Prop):Prop:=match t with
 | .list ts=>R (cutD ts lo hi)
 | _=>False
def dSlL(d:DTE)(dl v:DTO):DTA:=λl n R=>d l n λt u=>dl l u λlo x=>v l x λhi o=>lSl t lo hi λz=>R z o
section
variable{X:Cx}{e:a8}{d:DTE}{lo hi:Option a8}{dlo dhi:DTO}{pos p2:Pos}
theorem znm:DP X bc zi_:=⟨_,zqO,λC o σ H n Q R S h l=>l bc n H h ExtE.refl S.hnd⟩
theorem znl(h:DE X e d):DP X (ao e) (zrW d):=by
 obtain⟨L,pa,h⟩:=h;refine⟨_,zqN pa,λC J σ H n Q R S hd u=>?_⟩;refine h C J σ H n _ _ S hd λt y v o l G I x=>?_;cases t with
 | int i =>cases x;exact⟨i,rfl,u (ao i) y o l G I⟩
 | _=>exact l.elim
theorem zkf{K:qF}{hd:Option aq}{O:aq->Prop}{H:Hp}{vs ts}(r:Reps K hd O H vs ts)(lo hi:Option Int):Reps K hd O H (cutV vs lo hi) (cutD ts lo hi):=by unfold cutV cutD;rw[r.length];exact(r.drop _).take _
theorem zlk{ts:qD}{lo hi:Option Int}(h:HT.sIx ts.length 0 lo=0/\HT.sIx ts.length ts.length hi=ts.length):cutD ts lo hi=ts:=by unfold cutD;rw[h.1,h.2];simp
theorem zpl(h:DL X e d)(G:DP X lo dlo)(I:DP X hi dhi):DN X (.Subscript e (.Slice lo hi bc p2) pos) (dSlL d dlo dhi):=by
 obtain⟨ta,pa,h⟩:=h;obtain⟨tl,pl,G⟩:=G;obtain⟨tu,pu,I⟩:=I;refine⟨_,zjG zqr pa pl pu,λC U σ H n Q R S hd hq=>?_⟩;refine h C U σ H n _ _ S hd λt n1 v H1 r1 e1 h1 q1=>?_;have Z:=S.on e1 h1;refine G C U σ H1 n1 _ _ Z r1 λlo n2 H2 r2 J h2=>?_;have S2:=Z.on J h2;refine I C U σ H2 n2 _ _ S2 r2 λhi n3 H3 Y L N=>?_;have S3:=S2.on L N;have q3:=(J.trans L).repT S.hx q1;cases t with
 | list ts =>obtain⟨a,vs,rfl,hs,rs⟩:=q3.lstI;refine⟨a,vs,rfl,.of hs,λp x=>?_⟩;have e:=e1.trans (J.trans L);refine hq _ n3 p _ _ Y (e.trans (ExtE.new x)) (N.same (JR x)) (ZM e N x) JJ ?_;refine(zkf rs lo hi).mono (λb o y z=>z.elim id λz=>?_) λb o _ y=>JR x b o y;subst z;rw[x]at y;cases y
 | _=>exact Y.elim
end
section
variable{X:Cx}
theorem znQ(hc:X.calm=be):JK X (.builtin "sum") (λxs H Q=>∃(a:aq) (ns:List Int),xs=[.ref a]/\SqL X.K H a (ns.map V.int)/\Q (.int ns.sum) H):=by
 intro pins s σ H xs J Q I r h;obtain⟨a,ns,rfl,x,q⟩:=h;obtain⟨u,rfl,G⟩:=vals1 r;cases G;obtain⟨its,y,p,hz⟩:=I.list x;have hi:=intsAre_of y;have v:s.heap.IsList a its.toArray:=p.isList;obtain⟨xs,hx⟩:=hi.allInts.items;have o:numsOf its.toArray.toList=ns:=by rw[show its.toArray.toList=its from rfl,hi.numsOf]
 rw[hx]at v o;rw[nums_intItems]at o;refine sum_intListG (I.ok.hd hc) v λh' tk t' C=>?_;rw[preSum_eq,cM (by simp),o];exact⟨.int ns.sum,H,I.kept C,⟨_,rfl⟩,q⟩
def bSum:GC
 | [.list ts],R=>∃ns:List Int,ts=ns.map cg/\R (.int ns.sum)
 | _,_=>False
theorem zuz:GpC X (λxs H Q=>∃(a:aq) (ns:List Int),xs=[.ref a]/\SqL X.K H a (ns.map V.int)/\Q (.int ns.sum) H) bSum:=by intro hd O H xs ts Q R dom rs h u;unfold bSum at h;split at h;obtain⟨ns,rfl,h⟩:=h;obtain⟨v,rfl,x⟩:=Qs rs;obtain⟨p,vs,rfl,l,y⟩:=x.lstI;rw[Wg y]at l;exact⟨p,ns,rfl,.of l,u _ _ H h (Same.refl H) (.int _)⟩;exact h.elim
end
structure NxS(prog:aQ)(w:bg)(i a:aq)(IT:Nat->bz->Prop)(SQ:bz->Array ah->Prop):Prop where
 rcd:∀k h,IT k h->∃o,h.get? i=ao o/\∀v,o.data≠.cell v
 keep:∀k h h',IT k h->(∀o,h.get? i=ao o->h'.get? i=ao o)->IT k h'
 sk:∀h h' xs,SQ h xs->(∀o,h.get? a=ao o->h'.get? a=ao o)->SQ h' xs
 item:∀(A:bh) (E:qV) (k:Nat) (xs:Array ah) (x:ah) (s:av) (Q:qV),IT k s.heap->SQ s.heap xs->xs[k]?=ao x ->
  (∀h',IT (k+1) h'->dE i s.heap h'->Q x { s with heap:=h' })->wpAny (model prog w) A (bW (.ref i)) Q E s
 done:∀(A:bh) (E:qV) (k:Nat) (xs:Array ah) (s:av) (Q:qV),A.handled=bc->IT k s.heap->SQ s.heap xs->xs[k]?=bc ->
  (∀h' e,mU i s.heap h'->(∃o,h'.get? e=ao o/\o.cls=.type "StopIteration")->E (.ref e) { s with heap:=h' })->wpAny (model prog w) A (bW (.ref i)) Q E s
theorem zq7{prog:aQ}{w:bg}{i a:aq}:NxS prog w i a (λk h=>h.IsListIter i a k) (λh xs=>h.IsList a xs) where
 rcd:=λk h ⟨o,e,c,d⟩=>⟨o,e,λv z=>by rw[d]at z;cases z⟩
 keep:=λk h h' x f=>x.at f
 sk:=λh h' xs x f=>x.at f
 item:=λA E k xs x s Q u y l h=>wpAny_nextOf_list_item u y l h
 done:=λA E k xs s Q C u y l h=>wpAny_nextOf_list_end C u y l h
section
variable{prog:aQ}{w:bg}{A:bh}{E:qV}{s:av}
theorem zh0{i:aq}{T id:String}{Q:qV}{f:cX}(u:s.TypeIs (.ref i) T)(l:AJ T "__next__" id) (C:entryFor table id=ao f) (y:argsOk id ⟨[.ref i],[]⟩)
  (h:wpAny (model prog w) A.in1 (f ⟨[.ref i],[]⟩) (λfin s'=>∃v,fin=.done (.ret v)/\Q v s') E s):wpAny (model prog w) A (bW (.ref i)) Q E s:=by
 unfold bW;refine aa (b7 (name:=aH "__next__") u l (bS l u C ?_ y));refine cS h (λfin s' x=>?_) λ_ _ e=>e;obtain⟨v,e,q⟩:=x;exact⟨v,e,ae q⟩
theorem zhg{i a:aq}{k:Nat}{xs:Array ah}{x:ah}{Q:qV}(v:s.heap.IsTupleIter i a k)(I:s.heap.IsTuple a xs)(G:xs[k]?=ao x)
  (h:∀h',h'.IsTupleIter i a (k+1)->dE i s.heap h'->Q x { s with heap:=h' }):wpAny (model prog w) A (bW (.ref i)) Q E s:=by
 refine zh0 v.typeIs mo lL (lE _) ?_;obtain⟨o,u,y,l⟩:=v;obtain⟨p,f1,_,n,C⟩:=I;refine aa (m:=field (.ref i) 0) (cK u l (x:=.ref a) rfl ?_);have ne:¬((bR a == eJ)=be):=λz=>by cases z
 rw[if_neg ne];refine aa (m:=field (.ref i) 1) (cK u l (x:=.int k 0) rfl ?_);refine aa (m:=seqItems? (.ref a)) (cI f1 C ?_);simp only[bX,G];refine aa (dU u l (by simp) (ae ⟨x,rfl,h _ ?_ (eS ..)⟩));refine⟨_,bP _ u (dO (bZ l _)),?_,?_⟩;rw[fZ];exact y;rw[bZ l];simp[rawInt]
theorem zhh{i a:aq}{k:Nat}{xs:Array ah}{Q:qV}(G:A.handled=bc)(I:s.heap.IsTupleIter i a k)(N:s.heap.IsTuple a xs)(L:xs[k]?=bc)
  (h:∀h' e,mU i s.heap h'->(∃o,h'.get? e=ao o/\o.cls=.type "StopIteration")->E (.ref e) { s with heap:=h' }):wpAny (model prog w) A (bW (.ref i)) Q E s:=by
 refine zh0 I.typeIs mo lL (lE _) ?_;obtain⟨o,v,R,l⟩:=I;obtain⟨p,f1,_,n,J⟩:=N;refine aa (m:=field (.ref i) 0) (cK v l (x:=.ref a) rfl ?_);have ne:¬((bR a == eJ)=be):=λz=>by cases z
 rw[if_neg ne];refine aa (m:=field (.ref i) 1) (cK v l (x:=.int k 0) rfl ?_);refine aa (m:=seqItems? (.ref a)) (cI f1 J ?_);simp only[bX,L];refine aa (cU (aa (dU v l (by simp) ?_)));refine aa (m:=newExc (.type "StopIteration") []) ?_;simp only[newExc,newTuple];refine aa (bM ?_ (by size_fits));refine aa (m:=firstArgMember _ _) (i9 (a:=eJ) (by first|rfl|(simp only[firstArgMember];rfl)) (bM ?_ (by size_fits)));simp only[raiseNew];refine aa (m4 ?_);have C:A.in1.handled=bc:=G;first|rw[C]|rw[G]
 exact aa (ae (oX (h _ _ (((eS ..).extBut.push _).push _) ⟨_,aD _ rfl,rfl⟩)))
end
theorem Heap.IsTupleIter.at'{h h':bz}{i a:aq}{k:Nat}(x:h.IsTupleIter i a k)(f:∀o,h.get? i=ao o->h'.get? i=ao o):h'.IsTupleIter i a k:=by obtain⟨o,e,r⟩:=x;exact⟨o,f o e,r⟩
theorem Heap.IsTuple.at'{h h':bz}{a:aq}{xs:Array ah}(x:h.IsTuple a xs)(f:∀o,h.get? a=ao o->h'.get? a=ao o):h'.IsTuple a xs:=by obtain⟨o,e,r⟩:=x;exact⟨o,f o e,r⟩
theorem ztC{prog:aQ}{w:bg}{i a:aq}:NxS prog w i a (λk h=>h.IsTupleIter i a k) (λh xs=>h.IsTuple a xs) where
 rcd:=λk h ⟨o,e,c,d⟩=>⟨o,e,λv z=>by rw[d]at z;cases z⟩
 keep:=λk h h' x f=>Heap.IsTupleIter.at' x f
 sk:=λh h' xs x f=>Heap.IsTuple.at' x f
 item:=λA E k xs x s Q u y l h=>zhg u y l h
 done:=λA E k xs s Q C u y l h=>zhh C u y l h
structure ZAp(z TI TO i1 i2 a1 a2:aq):Prop where
 p:[z,TI,TO,i1,i2].Nodup
 q:∀a∈[a1,a2],a∉[z,TI,TO,i1,i2]
section
variable{prog:aQ}{w:bg}{A:bh}{E:qV}{s:av}{z TI TO i1 i2 a1 a2:aq}{I1 I2:Nat->bz->Prop}{S1 S2:bz->Array ah->Prop}
structure ZSt(z TI TO i1 i2:aq)(I1 I2:Nat->bz->Prop)(f:ah)(k:Nat)(h:bz):Prop where
 zip:tB h z TI TO f
 ti:nS h TI (.ref i1) (.ref i2)
 to:∃a b,nS h TO a b
 it1:I1 k h
 it2:I2 k h
theorem zly(D:ZAp z TI TO i1 i2 a1 a2):(z≠TI/\z≠TO/\z≠i1/\z≠i2/\TI≠TO/\TI≠i1/\TI≠i2/\TO≠i1/\TO≠i2/\i1≠i2)/\(a1≠z/\a1≠TO/\a1≠i1/\a1≠i2)/\(a2≠z/\a2≠TO/\a2≠i1/\a2≠i2):=by have l:=D.p;have v:=D.q;simp only[cH,aE,bE,or_false,not_or,uu,and_true,not_false_eq_true]at l;have o:=v a1 (by simp);have u:=v a2 (by simp);simp only[aE,bE,or_false,not_or]at o u;exact⟨⟨l.1.1,l.1.2.1,l.1.2.2.1,l.1.2.2.2,l.2.1.1,l.2.1.2.1,l.2.1.2.2,l.2.2.1.1,l.2.2.1.2,l.2.2.2⟩,⟨o.1,o.2.2.1,o.2.2.2.1,o.2.2.2.2⟩,⟨u.1,u.2.2.1,u.2.2.2.1,u.2.2.2.2⟩⟩
theorem z_item{k:Nat}{xs ys:Array ah}{x y:ah}{Q:qV}(D:ZAp z TI TO i1 i2 a1 a2)(N1:NxS prog w i1 a1 I1 S1)(N2:NxS prog w i2 a2 I2 S2)(st:ZSt z TI TO i1 i2 I1 I2 .none k s.heap)(s1:S1 s.heap xs)(s2:S2 s.heap ys)
  (hx:xs[k]?=ao x) (hy:ys[k]?=ao y)
  (hQ:∀h',ZSt z TI TO i1 i2 I1 I2 (rawInt s.heap.objs.size) (k+1) h'->nS h' s.heap.objs.size x y->h'.objs.size=s.heap.objs.size+1 ->
   (∀c o,c≠z->c≠TO->c≠i1->c≠i2->s.heap.get? c=ao o->h'.get? c=ao o)->Q (.ref s.heap.objs.size) { s with heap:=h' }) :
  wpAny (model prog w) A (cX.«zip.__next__» ⟨[.ref z],[]⟩) (λfin s'=>∃v,fin=.done (.ret v)/\Q v s') E s:=by
 obtain⟨⟨d1,d2,d3,d4,d5,d6,d7,d8,d9,d10⟩,⟨e1,e2,e3,e4⟩,⟨g1,g2,g3,g4⟩⟩:=zly D;obtain⟨zip,ti,⟨va,vb,to⟩,it1,it2⟩:=st;refine aa (m:=field (.ref z) 2) (cK zip rfl (x:=.bool bj) rfl ?_);refine aa (m:=field (.ref z) 3) (cK zip rfl (x:=.ref TI) rfl (aa (cI ti rfl ?_)));refine aa (m:=dW (.ref z)) ?_;unfold dW;refine aa (cK zip rfl (x:=.none) rfl (ae ?_));simp only[if_true];refine aa (cU (aa (cK zip rfl (x:=.ref TO) rfl (aa (fO zip (by simp) λhA zA bA=>?_)))));have zA':tB hA z TI TO .ellipsis:=zA;refine aa ?_;simp only[ny,tO,iT,hY];refine aa (aa (m5 (aa (m:=bW (.ref i1)) ?_)));refine N1.item _ _ k xs x _ _ (N1.keep _ _ _ it1 λo e=>bA.extBut _ _ d3.symm e) (N1.sk _ _ _ s1 λo e=>bA.extBut _ _ e1 e) hx λhB it1B bB=>ae ?_;have N:nS hB TO va vb:=bB.extBut _ _ d8 (bA.extBut _ _ d2.symm to);refine aa (cI N rfl (aa (k9 N λhC toC bC=>?_)));have toC':nS hC TO x vb:=toC;refine aa (ka (ae ?_));refine aa (aa (m5 (aa (m:=bW (.ref i2)) ?_)));have I:∀c o,c≠z->c≠TO->c≠i1->s.heap.get? c=ao o->hC.get? c=ao o:=λc o C J U e=>bC.extBut _ _ J (bB.extBut _ _ U (bA.extBut _ _ C e));refine N2.item _ _ k ys y _ _ (N2.keep _ _ _ it2 λo e=>I _ _ d4.symm d9.symm d10.symm e) (N2.sk _ _ _ s2 λo e=>I _ _ g1 g2 g3 e) hy λhD R bD=>ae ?_;have toD:nS hD TO x vb:=bD.extBut _ _ d9 toC';refine aa (cI toD rfl (aa (k9 toD λu toF bF=>?_)));have G:nS u TO x y:=toF;refine aa (ka (ae (ae ?_)));refine aa (cI G rfl (aa (uo ?_)));have sz:u.objs.size=s.heap.objs.size:=by rw[bF.1,bD.1,bC.1,bB.1,bA.1]
 have upF:∀c o,c≠z->c≠TO->c≠i1->c≠i2->s.heap.get? c=ao o->u.get? c=ao o:=λc o C J U c4 e=>bF.extBut _ _ J (bD.extBut _ _ c4 (I c o C J U e));have zF:tB u z TI TO .ellipsis:=bF.extBut _ _ d2 (bD.extBut _ _ d4 (bC.extBut _ _ d2 (bB.extBut _ _ d3 zA')));have S:z<u.objs.size:=aG zF;refine aa (m:=iH (.ref z) (.ref u.objs.size)) ?_;unfold iH;have zG:tB (u.push { cls:=.type "tuple",data:=.seq #[x,y] }) z TI TO .ellipsis:=aj _ zF;refine aa (fO zG (by simp) λhI zI bI=>?_);have zI':tB hI z TI TO (rawInt u.objs.size):=zI;refine fO zI' (by simp) λZ zJ bJ=>ae ⟨_,rfl,?_⟩;have Y:tB Z z TI TO (rawInt u.objs.size):=zJ;have up:∀c o,c≠z->u.get? c=ao o->Z.get? c=ao o:=λc o C e=>bJ.extBut _ _ C (bI.extBut _ _ C (aj _ e));have pr:nS Z u.objs.size x y:=bJ.extBut _ _ (kc S) (bI.extBut _ _ (kc S) (aD _ rfl));have L:Z.objs.size=u.objs.size+1:=by rw[bJ.1,bI.1,dw]
 rw[sz]at Y pr L;show Q (.ref u.objs.size) _;rw[sz];refine hQ Z ⟨Y,up _ _ d1.symm (upF _ _ d1.symm d5 d6 d7 ti),⟨x,y,up _ _ d2.symm G⟩,?_,?_⟩ pr L λc o C J U c4 e=>up c o C (upF c o C J U c4 e);exact N1.keep _ _ _ it1B λo e=>up _ _ d3.symm (bF.extBut _ _ d8.symm (bD.extBut _ _ d10 (bC.extBut _ _ d8.symm e)));exact N2.keep _ _ _ R λo e=>up _ _ d4.symm (bF.extBut _ _ d9.symm e)
theorem z_end{k:Nat}{xs ys:Array ah}{Q:PySem.Fin->av->Prop}(hh:A.handled=bc)(D:ZAp z TI TO i1 i2 a1 a2)(Y:NxS prog w i1 a1 I1 S1)(N2:NxS prog w i2 a2 I2 S2)(st:ZSt z TI TO i1 i2 I1 I2 .none k s.heap)(s1:S1 s.heap xs)(s2:S2 s.heap ys)
  (hxy:xs[k]?=bc\/ys[k]?=bc)
  (hE:∀h' e,(∀c o,c≠z->c≠TO->c≠i1->c≠i2->s.heap.get? c=ao o->h'.get? c=ao o)->(∃o,h'.get? e=ao o/\o.cls=.type "StopIteration")->E (.ref e) { s with heap:=h' }) :
  wpAny (model prog w) A (cX.«zip.__next__» ⟨[.ref z],[]⟩) Q E s:=by
 obtain⟨⟨d1,d2,d3,d4,d5,d6,d7,d8,d9,d10⟩,⟨e1,e2,e3,e4⟩,⟨g1,g2,g3,g4⟩⟩:=zly D;obtain⟨zip,ti,⟨va,vb,to⟩,it1,it2⟩:=st;refine aa (m:=field (.ref z) 2) (cK zip rfl (x:=.bool bj) rfl ?_);refine aa (m:=field (.ref z) 3) (cK zip rfl (x:=.ref TI) rfl (aa (cI ti rfl ?_)));refine aa (m:=dW (.ref z)) ?_;unfold dW;refine aa (cK zip rfl (x:=.none) rfl (ae ?_));simp only[if_true];refine aa (cU (aa (cK zip rfl (x:=.ref TO) rfl (aa (fO zip (by simp) λhA zA J=>?_)))));have L:tB hA z TI TO .ellipsis:=zA;refine aa ?_;simp only[ny,tO,iT,hY];refine aa (aa (m5 (aa (m:=bW (.ref i1)) ?_)));have S:=Y.keep _ _ _ it1 λo e=>J.extBut _ _ d3.symm e;have U:=Y.sk _ _ _ s1 λo e=>J.extBut _ _ e1 e;cases hx:xs[k]? with
 | none =>
  refine Y.done _ _ k xs _ _ hh S U hx λhB e G C=>?_;obtain⟨oe,he,hc⟩:=C;have zB:tB hB z TI TO .ellipsis:=G _ _ d3 L;have ez:e≠z:=λy=>by subst y;rw[zB]at he;cases he;simp at hc
  exact fO zB (by simp) λhC _ I=>hE hC e (λc o u _ R _ y=>I.extBut _ _ u (G _ _ R (J.extBut _ _ u y))) ⟨oe,I.extBut _ _ ez he,hc⟩
 | some x =>
  have hy:ys[k]?=bc:=by rcases hxy with h|h;rw[hx]at h;cases h;exact h
  refine Y.item _ _ k xs x _ _ S U hx λhB it1B G=>ae ?_;have N:nS hB TO va vb:=G.extBut _ _ d8 (J.extBut _ _ d2.symm to);refine aa (cI N rfl (aa (k9 N λhC toC I=>?_)));refine aa (ka (ae ?_));refine aa (aa (m5 (aa (m:=bW (.ref i2)) ?_)));have v:∀c o,c≠z->c≠TO->c≠i1->s.heap.get? c=ao o->hC.get? c=ao o:=λc o u Z R e=>I.extBut _ _ Z (G.extBut _ _ R (J.extBut _ _ u e));refine N2.done _ _ k ys _ _ hh (N2.keep _ _ _ it2 λo e=>v _ _ d4.symm d9.symm d10.symm e) (N2.sk _ _ _ s2 λo e=>v _ _ g1 g2 g3 e) hy λhD e bD C=>?_;obtain⟨oe,he,hc⟩:=C;have zD:tB hD z TI TO .ellipsis:=bD _ _ d4 (I.extBut _ _ d2 (G.extBut _ _ d3 L));have ez:e≠z:=λy=>by subst y;rw[zD]at he;cases he;simp at hc
  exact fO zD (by simp) λhF _ bF=>hE hF e (λc o u Z R c4 y=>bF.extBut _ _ u (bD _ _ c4 (v c o u Z R y))) ⟨oe,bF.extBut _ _ ez he,hc⟩
theorem zsl{k:Nat}{xs ys:Array ah}{x y:ah}{Q:Option ah->av->Prop}(D:ZAp z TI TO i1 i2 a1 a2)(C:NxS prog w i1 a1 I1 S1)(L:NxS prog w i2 a2 I2 S2)(st:ZSt z TI TO i1 i2 I1 I2 .none k s.heap)(s1:S1 s.heap xs)(s2:S2 s.heap ys)
  (hx:xs[k]?=ao x) (N:ys[k]?=ao y)
  (v:∀h',ZSt z TI TO i1 i2 I1 I2 (rawInt s.heap.objs.size) (k+1) h'->nS h' s.heap.objs.size x y->h'.objs.size=s.heap.objs.size+1 ->
   (∀c o,c≠z->c≠TO->c≠i1->c≠i2->s.heap.get? c=ao o->h'.get? c=ao o)->Q (ao (.ref s.heap.objs.size)) { s with heap:=h' }) :
  wpAny (model prog w) A (pyNext (.ref z)) Q E s:=by
 have l:s.TypeIs (.ref z) "zip":=⟨_,st.zip,rfl⟩;unfold pyNext;exact aa (gm (b7 (name:=aH "__next__") l lF (bS lF l sQ
  (z_item D C L st s1 s2 hx N λh' u I J G=>ae (v h' u I J G)) (rP _))))
theorem zsk{k:Nat}{xs ys:Array ah}{Q:Option ah->av->Prop}(G:A.handled=bc)(D:ZAp z TI TO i1 i2 a1 a2)(x:NxS prog w i1 a1 I1 S1)(I:NxS prog w i2 a2 I2 S2)(st:ZSt z TI TO i1 i2 I1 I2 .none k s.heap)(s1:S1 s.heap xs)(s2:S2 s.heap ys)
  (l:xs[k]?=bc\/ys[k]?=bc) (v:∀h',(∀c o,c≠z->c≠TO->c≠i1->c≠i2->s.heap.get? c=ao o->h'.get? c=ao o)->Q bc { s with heap:=h' }):wpAny (model prog w) A (pyNext (.ref z)) Q E s:=by
 have u:s.TypeIs (.ref z) "zip":=⟨_,st.zip,rfl⟩;unfold pyNext;refine aa (gm (b7 (name:=aH "__next__") u lF (bS lF u sQ
  (z_end G D x I st s1 s2 l λh' e y ⟨o,C,hc⟩=>?_) (rP _))))
 exact aa (gE (T:="StopIteration") (b:=be) ⟨o,C,hc⟩ mw (ae (v _ y)))
end
def SqB(t:Bool)(K:qF)(H:Hp)(a:aq)(xs:List V):Prop:=match t with|true=>SqT K H a xs|false=>SqL K H a xs
def ITB(t:Bool)(i a:aq):Nat->bz->Prop:=match t with|true=>λk h=>h.IsTupleIter i a k|false=>λk h=>h.IsListIter i a k
def SQB(t:Bool)(a:aq):bz->Array ah->Prop:=match t with|true=>λh xs=>h.IsTuple a xs|false=>λh xs=>h.IsList a xs
def itN(t:Bool):String:=match t with|true=>"tuple_iterator" | false=>"list_iterator"
theorem nx_B{prog:aQ}{w:bg}{i a:aq}(t:Bool):NxS prog w i a (ITB t i a) (SQB t a):=by cases t;exact zq7;exact ztC
section
variable{X:Cx}{pins:qO}{σ:St}{H:Hp}{s:av}
theorem Inv.seqB{t:Bool}{a:aq}{xs:List V}(I:Inv X pins σ H s)(h:SqB t X.K H a xs):∃its:List ah,Vals xs its/\SQB t a s.heap its.toArray/\xs.length<=sizeLine:=by cases t;obtain⟨its,r,p,z⟩:=I.list h;exact⟨its,r,p.isList,z⟩;obtain⟨its,r,p,z⟩:=I.tuple h;exact⟨its,r,p,z⟩
theorem Inv.injB{t:Bool}{a:aq}{xs ys:List V}(I:Inv X pins σ H s)(h:SqB t X.K H a xs)(h':SqB t X.K H a ys):xs=ys:=by cases t;exact I.list_inj h h';exact I.tuple_inj h h'
theorem Inv.turnedL{h':bz}{t':Nat}(ch:List aq)(I:Inv X pins σ H s)(k:∀b o,b∉ch->s.heap.get? b=ao o->h'.get? b=ao o)(f:∀b∈ch,FpOk X pins H b):Inv X pins σ H { s with heap:=h',toks:=t' }:=by
 have l:∀b u,H b=ao u->b∉ch:=λb u e z=>by rw[(f b z).1]at e;cases e
 refine I.step (g':=s.gens) (d':=s.drawn) (ch:=ch) (λb x=>⟨(f b x).2.2.2.1,(f b x).2.1,(f b x).2.2.2.2.1,(f b x).2.2.2.2.2⟩) (λb o _ _ hc e _=>k b o hc e) (λb o _ _ hc e _=>⟨o.slots,k b o hc e⟩) (λ_ _ _ _ n=>n) (λb o hc e=>⟨o,k b o hc e⟩) (λ_ _ e=>e) (λ_ _ _ e=>e)
  (λ_ _ e=>e) (λm ⟨o,es,ep,C,r⟩=>⟨o,es,ep,k _ o (λz=>(f _ z).2.1 rfl) C,r⟩) (λb u e=>(I.hok b u e).stay (λc v hc q=>k c v ?_ q) (λ_ q=>q) (λ_ _ q=>q) λ_ _ _ q=>q) I.bare
 rcases hc with z|z;rw[z];exact l b u e;exact l c _ z
end
section
variable{prog:aQ}{w:bg}{A:bh}{E:qV}{s:av}
theorem zt9{t:Bool}{a:aq}{xs:Array ah}{Q:qV}(h:SQB t a s.heap xs)(o:Q (.ref s.heap.objs.size) { s with heap:=s.heap.push { cls:=.type (itN t),data:=.fields #[.ref a,.int 0 0] } }):wpAny (model prog w) A (pyIter (.ref a)) Q E s:=by cases t;exact gZ h o;exact iY h o
theorem SQB.push{t:Bool}{a:aq}{xs:Array ah}{h:bz}(x:SQB t a h xs)(o:Obj):SQB t a (h.push o) xs:=by cases t;exact Cj x o;exact BC x o
abbrev zA(h:bz)(t:Bool)(a:aq):bz:=h.push { cls:=.type (itN t),data:=.fields #[.ref a,.int 0 0] }
abbrev zB(h:bz)(t u:Bool)(a b:aq):bz:=(zA h t a).push { cls:=.type (itN u),data:=.fields #[.ref b,.int 0 0] }
abbrev zC(h:bz)(t u:Bool)(a b:aq):bz:=(zB h t u a b).push { cls:=.type "tuple",data:=.seq #[.ref h.objs.size,.ref (zA h t a).objs.size] }
abbrev zD(h:bz)(t u:Bool)(a b:aq):bz:=(zC h t u a b).push { cls:=.type "tuple",data:=.seq #[.none,.none] }
abbrev zE(h:bz)(t u:Bool)(a b:aq):bz:=(zD h t u a b).push { cls:=.type "zip",data:=.fields #[.none,.bool bj,.bool bj,.ref (zB h t u a b).objs.size,.ref (zC h t u a b).objs.size] }
theorem zoX(t u:Bool)(a b:aq)(xs ys:Array ah) :
  Meets (cX.«zip.__new__» ⟨[.type "zip",.ref a,.ref b],[]⟩) (λ_ R s=>SQB t a s.heap xs/\SQB u b s.heap ys/\R (.ok (.ret (.ref (zD s.heap t u a b).objs.size))) { s with heap:=zE s.heap t u a b }) :=
 .of_wp λprog w A R s h=>by obtain⟨v,g,d,tk,os⟩:=s;obtain⟨C,G,h⟩:=h;have I:=sub_zip;have x:SQB t a (yr ⟨v,g,d,tk,os⟩) xs:=C;have L2:SQB u b (yr ⟨v.push { cls:=.type (itN t),data:=.fields #[.ref a,.int 0 0] },g,d,tk,os⟩) ys:=SQB.push G _;wp_walk using zt9 x,zt9 L2;exact⟨_,rfl,h⟩
theorem ITB.new{t:Bool}{i a:aq}{h:bz}(e:h.get? i=ao { cls:=.type (itN t),data:=.fields #[.ref a,.int 0 0] }):ITB t i a 0 h:=by cases t;exact⟨_,e,rfl,rfl⟩;exact⟨_,e,rfl,rfl⟩
theorem zr0{t u:Bool}{a b:aq}{xs ys:Array ah}{Q:qV}(L:SQB t a s.heap xs)(R:SQB u b s.heap ys)
  (h:∀h',ZSt (s.heap.objs.size+4) (s.heap.objs.size+2) (s.heap.objs.size+3) s.heap.objs.size (s.heap.objs.size+1) (ITB t s.heap.objs.size a) (ITB u (s.heap.objs.size+1) b) .none 0 h'->h'.objs.size=s.heap.objs.size+5 ->
   (∀c o,s.heap.get? c=ao o->h'.get? c=ao o)->Q (.ref (s.heap.objs.size+4)) { s with heap:=h' }) :
  wpAny (model prog w) A (call (.type "zip") [.ref a,.ref b]) Q E s:=by
 refine callType_new F.called_zip (by decide) (F.typeCall_zip_2 _ _) (F.newCall_zip_2 _ _) (λobj=>F.args_object_init_3 obj _ _) F.entry_zip_new (zoX t u a b xs ys) ⟨L,R,?_⟩;have C:(zA s.heap t a).objs.size=s.heap.objs.size+1:=dw ..;have G:(zB s.heap t u a b).objs.size=s.heap.objs.size+2:=by rw[dw,C]
 have I:(zC s.heap t u a b).objs.size=s.heap.objs.size+3:=by rw[dw,G]
 have v:(zD s.heap t u a b).objs.size=s.heap.objs.size+4:=by rw[dw,I]
 have N:(zE s.heap t u a b).objs.size=s.heap.objs.size+5:=by rw[dw,v]
 have l:(zE s.heap t u a b).get? (zD s.heap t u a b).objs.size=ao _:=aD _ rfl;have J:(zE s.heap t u a b).get? (zC s.heap t u a b).objs.size=ao _:=aj _ (aD _ rfl);have g3:(zE s.heap t u a b).get? (zB s.heap t u a b).objs.size=ao _:=aj _ (aj _ (aD _ rfl));have g2:(zE s.heap t u a b).get? (zA s.heap t a).objs.size=ao _:=aj _ (aj _ (aj _ (aD _ rfl)));have g1:(zE s.heap t u a b).get? s.heap.objs.size=ao _:=aj _ (aj _ (aj _ (aj _ (aD _ rfl))));show _/\_;rw[G,I,v]at l;rw[C,G]at g3;rw[I]at J;rw[C]at g2;rw[v];refine⟨⟨_,l,rfl⟩,h _ ⟨l,g3,⟨_,_,J⟩,.new g1,.new g2⟩ N λc o x=>?_⟩;iterate 5 refine aj _ ?_
 exact x
end
def Itz(t u:Bool)(K:qF)(a b:aq):It :=
 ⟨λi H=>∃xs ys x y,SqB t K H a xs/\SqB u K H b ys/\xs[i]?=ao x/\ys[i]?=ao y,
  λi H v H'=>∃p x y,H p=bc/\v=.ref p/\(∀xs,SqB t K H a xs->xs[i]?=ao x)/\(∀ys,SqB u K H b ys->ys[i]?=ao y)/\H'=upd H p (.tup [x,y]),
  λi H=>∃xs ys,SqB t K H a xs/\SqB u K H b ys/\(xs.length<=i\/ys.length<=i)⟩
theorem zog{P:aQ}{w:bg}{K:qF}{elts:List a8}{x1:_}{pos:Pos}{t u:Bool}{z TI TO C G a b:aq}(D:ZAp z TI TO C G a b) :
  Turn P w K (.Tuple elts x1 pos) (Itz t u K a b) [z,TI,TO,C,G] z (λi h=>ZSt z TI TO C G (ITB t C a) (ITB u G b) .none i h) where
 mem:=by simp
 obj:=λi h st c hc=>by obtain⟨R,ti,⟨va,Y,to⟩,J,L⟩:=st;simp only[aE,bE,or_false]at hc;rcases hc with rfl|rfl|rfl|rfl|rfl;exact⟨_,R,λv y=>by cases y⟩;exact⟨_,ti,λv y=>by cases y⟩;exact⟨_,to,λv y=>by cases y⟩;exact(nx_B (prog:=P) (w:=w) t).rcd _ _ J;exact(nx_B (prog:=P) (w:=w) u).rcd _ _ L
 keep:=λi h h' st k=>by obtain⟨R,ti,⟨va,Y,to⟩,J,L⟩:=st;exact⟨k _ (by simp) _ R,k _ (by simp) _ ti,⟨va,Y,k _ (by simp) _ to⟩,(nx_B (prog:=P) (w:=w) t).keep _ _ _ J (k _ (by simp)),(nx_B (prog:=P) (w:=w) u).keep _ _ _ L (k _ (by simp))⟩
 item:=by
  intro X hP hw hK hc i pins s σ H E I hf st hg;subst hP hw hK;obtain⟨xs,ys,x,y,q1,q2,hx,hy⟩:=hg;obtain⟨its,r1,p1,z1⟩:=I.seqB q1;obtain⟨jts,r2,p2,z2⟩:=I.seqB q2;obtain⟨S,hux,rux⟩:=r1.get hx;obtain⟨N,huy,ruy⟩:=r2.get hy;refine zsl D (nx_B t) (nx_B u) st p1 p2 (x:=S) (y:=N) (by simpa using hux) (by simpa using huy) λh' Z pr sz kp=>?_;refine⟨_,rfl,?_⟩;refine wpAny_letOwnedTupleGo_zip (s:={ s with heap:=h' }) Z.zip λh2 z2' U=>?_;obtain⟨⟨d1,d2,d3,d4,d5,d6,d7,d8,d9,d10⟩,_,_⟩:=zly D;have big:∀c∈[z,TI,TO,C,G],c<s.heap.objs.size:=λc hc=>by obtain⟨R,ti,⟨va,Y,to⟩,J,L⟩:=st;simp only[aE,bE,or_false]at hc;rcases hc with rfl|rfl|rfl|rfl|rfl;exact aG R;exact aG ti;exact aG to;obtain⟨o,e,_⟩:=(nx_B (prog:=X.prog) (w:=X.w) t).rcd _ _ J;exact aG e;obtain⟨o,e,_⟩:=(nx_B (prog:=X.prog) (w:=X.w) u).rcd _ _ L;exact aG e
  have hp:H s.heap.objs.size=bc:=I.hok.fresh (aB _);have I1:Inv X pins σ (upd H s.heap.objs.size (.tup [x,y])) { s with heap:=s.heap.push { cls:=.type "tuple",data:=.seq #[S,N] } } :=
   I.laid (t':=s.toks) (λb o e=>aj _ e) (aB _) (show JL X.prog X.w _ _ _ (.tup [x,y]) from⟨by show 2<=sizeLine;decide,[S,N],.cons rux (.cons ruy .nil),IsTD.new _ _⟩)
  have npos:∀c∈[z,TI,TO,C,G],c≠s.heap.objs.size:=λc hc=>aT (big c hc);have fu:∀c∈[z,TI,TO,C,G],upd H s.heap.objs.size (.tup [x,y]) c=bc:=λc hc=>by rw[Jl (npos c hc)];exact(hf c hc).1
  refine⟨.ref s.heap.objs.size,upd H s.heap.objs.size (.tup [x,y]),?_,rfl,⟨_,x,y,hp,rfl,λxs' h=>by rw[I.injB h q1];exact hx,λys' h=>by rw[I.injB h q2];exact hy,rfl⟩,?_,fu⟩;refine Inv.turnedL (s:={ s with heap:=s.heap.push { cls:=.type "tuple",data:=.seq #[S,N] } }) (t':=s.toks) [z,TO,C,G] I1 (λc o hc e=>?_) λc hc=>?_;simp only[aE,bE,or_false,not_or]at hc;refine U.extBut _ _ hc.1 ?_;by_cases y:c=s.heap.objs.size;subst y;have e':(s.heap.push { cls:=.type "tuple",data:=.seq #[S,N] }).get? s.heap.objs.size=ao _:=aD _ rfl;have e2:ao o=ao _:=e.symm.trans e';cases e2;exact pr;have e':s.heap.get? c=ao o:=by have e3:(s.heap.push { cls:=.type "tuple",data:=.seq #[S,N] }).get? c=ao o:=e;rwa [ft _ _ _ y]at e3
  exact kp c o hc.1 hc.2.1 hc.2.2.1 hc.2.2.2 e';have m:c∈[z,TI,TO,C,G]:=by simp only[aE,bE,or_false]at hc ⊢;rcases hc with h|h|h|h <;> simp[h]
  exact⟨fu c m,(hf c m).2⟩;obtain⟨R,ti,⟨va,Y,to⟩,J,L⟩:=Z;exact⟨z2',U.extBut _ _ d1.symm ti,⟨va,Y,U.extBut _ _ d2.symm to⟩,(nx_B (prog:=X.prog) (w:=X.w) t).keep _ _ _ J λo e=>U.extBut _ _ d3.symm e,(nx_B (prog:=X.prog) (w:=X.w) u).keep _ _ _ L λo e=>U.extBut _ _ d4.symm e⟩
 done:=by intro X hP hw hK hc i pins s σ H E I hf st hg;subst hP hw hK;obtain⟨xs,ys,q1,q2,hx⟩:=hg;obtain⟨its,r1,p1,z1⟩:=I.seqB q1;obtain⟨jts,r2,p2,z2⟩:=I.seqB q2;have l1:=r1.length;have l2:=r2.length;refine zsk (I.ok.hd hc) D (nx_B t) (nx_B u) st p1 p2 (by rcases hx with h|h;exact .inl (by simp;omega);exact .inr (by simp;omega)) λh' kp=>⟨rfl,?_⟩;refine Inv.turnedL (t':=s.toks) [z,TO,C,G] I (λc o hc e=>?_) λc hc=>hf c ?_;simp only[aE,bE,or_false,not_or]at hc;exact kp c o hc.1 hc.2.1 hc.2.2.1 hc.2.2.2 e;simp only[aE,bE,or_false]at hc ⊢;rcases hc with h|h|h|h <;> simp[h]
 self:=λ_ _ _ _ _ st h=>sR st.zip h
section
variable{X:Cx}{a b:a8}{elts:List a8}{x1:Nat}{p p' pos:Pos}
def iZip(K:qF)(o:TA):TI:=λσ H R=>o σ H λvs l=>∃(t u:Bool) (c d:aq) (xs ys:List V),vs=[.ref c,.ref d]/\SqB t K l c xs/\SqB u K l d ys/\R (Itz t u K c d) l
theorem SQB.lt{t:Bool}{c:aq}{xs:Array ah}{h:bz}(x:SQB t c h xs):c<h.objs.size:=by cases t;obtain⟨o,e,_⟩:=x;exact aG e;obtain⟨o,e,_⟩:=x;exact aG e
theorem zqi{n:Nat}{c d:aq}(o:c<n)(u:d<n):ZAp (n+4) (n+2) (n+3) n (n+1) c d:=by
 have ne:∀(e:aq) (k:Nat),e<n->e≠n+k:=λe k h=>aT (aV h (iz _ _));refine⟨by simp,λe he=>?_⟩;have l:e<n:=by simp only[aE,bE,or_false]at he;rcases he with rfl|rfl;exact o;exact u
 simp only[aE,bE,or_false,not_or];exact⟨ne e 4 l,ne e 2 l,ne e 3 l,aT l,ne e 1 l⟩
theorem zs8{J:TA}(hg:Gl X "zip") (hm:X.mg "zip" = bc) (L:PA X [a,b] J) (Z:starEach [a,b] X.env=[(bj,eval a X.env),(bj,eval b X.env)]) (o:starEach [b] X.env=[(bj,eval b X.env)]) :
  PI X (.Tuple elts x1 p') (.Call (.Name "zip" p) [a,b] [] pos) (iZip X.K J):=by
 intro pins s σ H R I h;refine Call_ (Yr I hg hm boot_zip (eI (thn (L pos pins s σ H _ I h) λus s1 ⟨vs,U,v,r1,Y⟩=>?_) (by rw[Z,o]) (by rw[o];rfl)));obtain⟨t,u,c,d,xs,ys,rfl,G,x,q⟩:=Y;cases r1 with
 | cons r y =>
  cases y with
  | cons S y =>
   cases y;cases r;cases S;obtain⟨its,_,p1,_⟩:=v.seqB G;obtain⟨jts,_,p2,_⟩:=v.seqB x;refine zr0 p1 p2 λh' st sz kp=>?_;refine sR (s:={ s1 with heap:=h' }) st.zip ?_;refine⟨_,_,_,_,U,rfl,v.kept (t':=s1.toks) kp,zog (zqi p1.lt p2.lt),st,λe he=>?_,q⟩;have ge:s1.heap.objs.size<=e:=by simp only[aE,bE,or_false]at he;rcases he with rfl|rfl|rfl|rfl|rfl;exact iz _ _;exact iz _ _;exact iz _ _;exact aB _;exact iz _ _
   exact v.fpOk ge (v.hok.fresh ge)
theorem srcB{K:qF}{hd:Option aq}{P O:aq->Prop}{H:Hp}{v:V}{t:af}{ts:qD}(N:∀a,¬O a->P a)(r:Rep K hd O H v t)(h:t=.tuple ts\/t=.list ts) :
  ∃(k:Bool) (q:aq) (vs:List V),v=.ref q/\SqB k K H q vs/\∀(y:aq->Prop) (x:Hp),(∀a o,H a=ao o->P a->x a=ao o)->(∀a o,H a=ao o->¬O a->¬y a)->SqB k K x q vs/\Reps K hd y x vs ts:=by
 have L:∀vs,Reps K hd O H vs ts->∀(y:aq->Prop) (x:Hp),(∀a o,H a=ao o->P a->x a=ao o)->(∀a o,H a=ao o->¬O a->¬y a)->Reps K hd y x vs ts:=λvs r y x C G =>
  r.mono (λa o J z=>bV λno=>G a o J no z) λa o no J=>C a o J (N a no)
 rcases h with rfl|rfl;cases r with
 | @tup q vs ds h o r=>exact⟨be,q,vs,rfl,.inl (.inl h),λy x C G=>⟨.inl (.inl (C q _ h (N q o))),L vs r y x C G⟩⟩
 | @tupS q vs ds h r=>exact⟨be,q,vs,rfl,h.sq,λy x C G=>⟨h.sq,L vs r y x C G⟩⟩
 obtain⟨q,vs,rfl,I,no,r⟩:=r.lstI;exact⟨bj,q,vs,rfl,SqL.of I,λy x C G=>⟨SqL.of (C q _ I (N q no)),L vs r y x C G⟩⟩
def zipD(xs ys:qD):List af:=(xs.zip ys).map λq=>.tuple [q.1,q.2]
def dZip(o db:DTE):DTA:=λl n R=>o l n λx u=>db l u λy v=>JN x λxs=>JN y λys=>R (zipD xs ys) v
theorem zjY{t:af}{R:qD->Prop}(h:JN t R):∃ts,(t=.tuple ts\/t=.list ts)/\R ts:=by
 cases t with
 | list ts=>exact⟨ts,.inr rfl,h⟩
 | tuple ts=>exact⟨ts,.inl rfl,h⟩
 | _=>exact h.elim
theorem zp4{da db:DTE}(hm:X.mg "zip" = bc) (h:DE X a da) (h':DE X b db) (hg:Gl X "zip":=by rfl) (hs:starEach [a,b] X.env=[(bj,eval a X.env),(bj,eval b X.env)]:=by rfl) (G:starEach [b] X.env=[(bj,eval b X.env)]:=by rfl) :
  DI X (.Tuple elts x1 p') (.Call (.Name "zip" p) [a,b] [] pos) (dZip da db):=by
 obtain⟨ta,pa,h⟩:=h;obtain⟨tb,pb,h'⟩:=h';refine⟨_,zs8 hg hm (Qj pa (Qj pb Qz G) (by rw[hs,G])) hs G,λC ρ σ H n Q R S hd hq=>?_⟩;refine h C ρ σ H n _ _ S hd λx n1 v H1 r1 e1 hn1 q1=>?_;have S1:=S.on e1 hn1;refine h' C ρ σ H1 n1 _ _ S1 r1 λy n2 w H2 Z e2 hn2 q2=>?_;have q1':=e2.rep S.hx q1;obtain⟨xs,hx,Z⟩:=zjY Z;obtain⟨ys,hy,Z⟩:=zjY Z;obtain⟨k1,c,vs,rfl,s1,f1⟩:=srcB (P:=λa=>¬Own C ρ σ a) (λ_ z=>z) q1' hx;obtain⟨k2,d,ws,rfl,s2,f2⟩:=srcB (P:=λa=>¬Own C ρ σ a) (λ_ z=>z) q2 hy;refine⟨k1,k2,c,d,vs,ws,rfl,s1,s2,hq _ n2 _ H2 Z (e1.trans e2) hn2 ?_⟩;intro O2 H3 h1 h2 h3;obtain⟨g1,Y⟩:=f1 O2 H3 h1 h2;obtain⟨g2,U⟩:=f2 O2 H3 h1 h2;refine⟨λi t I=>?_,?_⟩;unfold zipD at I;rw[aX]at I;cases ez:(xs.zip ys)[i]? with
 | none=>rw[ez]at I;cases I
 | some q =>rw[ez]at I;cases I;obtain⟨ex,ey⟩:=mH.mp ez;obtain⟨vx,L,rx⟩:=Y.get ex;obtain⟨vy,J,ry⟩:=U.get ey;refine⟨⟨vs,ws,vx,vy,g1,g2,L,J⟩,λv H4 hyd=>?_⟩;obtain⟨pp,x',y',hp,rfl,hx',hy',rfl⟩:=hyd;have e1:x'=vx:=aP ((hx' vs g1).symm.trans L);have e2:y'=vy:=aP ((hy' ws g2).symm.trans J);subst e1 e2;exact⟨JR hp,.newT (λz=>h3 pp z hp) hp (.cons rx (.cons ry .nil))⟩
 refine⟨vs,ws,g1,g2,?_⟩;have:=Y.length;have:=U.length;unfold zipD;simp only[aN,iV];omega
end
section
variable{d da db:DTE}{dlo dhi:DTO}{ρ:En}{n:Nat}{R:qN}{Ro:Option Int->Nat->Prop}{Rl:qD->Nat->Prop}{xs ys:qD}{lo hi:Option Int}{Q:af->Prop}{Ql:qD->Prop}
theorem zum(h:d ρ n λt l=>dlo ρ l λlo o=>dhi ρ o λhi u=>lSl t lo hi λz=>Rl z u):dSlL d dlo dhi ρ n Rl:=h
theorem zm6(h:Ro bc n):zi_ ρ n Ro:=h
theorem zrz(h:d ρ n λt l=>lInt t λi=>Ro (ao i) l):zrW d ρ n Ro:=h
theorem zwN(h:Ql (cutD xs lo hi)):lSl (.list xs) lo hi Ql:=h
theorem zui(h:da ρ n λx l=>db ρ l λy o=>JN x λxs=>JN y λys=>Rl (zipD xs ys) o):dZip da db ρ n Rl:=h
end
theorem zps{ts:qD}:cutD ts (ao 1) bc=ts.tail:=by
 unfold cutD;rw[HT.zou,show(ao (1:Int))=ao ((1:Nat):Int) from rfl,HT.zqw];cases ts with
 | nil=>simp
 | cons a l =>
  have:min 1 (a::l).length=1:=by simp
  rw[this];simp
class Stp (P:Prop)(Q:outParam Prop):Prop where
 go:Q->P
section
variable{t u tb:DTS}{D:JH}{ρ ρ0:En}{n i j m:Nat}{d da db dc d1 d2:DTE}{ds di:DTA}{c c' tt:DTT}{g:G2}{g':G2}{gc:GC}{gd:GD}{tg:DTG}{tgs:DTGs}{R:qN}{Rb:Bool->Nat->Prop}{Rl:qD->Nat->Prop}{Re:En->Prop}{x y:af}{xs ys acc:qD}{f:Int->Int->Int}{fb:af->Bool}{k:Bool}{capt:List Nat}
instance zvp :Stp (sSeq t u D ρ n) ((t { D with nx:=u D } ρ n)):=⟨λh=>zub h⟩
instance zsH :Stp (zqv D ρ n) ((D.nx ρ n)):=⟨λh=>zrt h⟩
instance zvq :Stp (sRet d D ρ n) ((d ρ n λt n'=>D.rt t n')):=⟨λh=>zuc h⟩
instance zwl :Stp (sIf c t u D ρ n) ((c ρ n λb n1=>if b=be then t D ρ n1 else u D ρ n1)):=⟨λh=>zw7 h⟩
instance zvs :Stp (sAsg d tg D ρ n) ((d ρ n λt n'=>tg t ρ λρ'=>D.nx ρ' n')):=⟨λh=>zue h⟩
instance zvr :Stp (sFor di tg tb D ρ n) ((di ρ n λts n1=>forP tg tb D ts ρ n1)):=⟨λh=>zud h⟩
instance zxD :Stp (dC x ρ n R) ((R x n)):=⟨λh=>i_dC h⟩
instance zwn :Stp (dOp g da db ρ n R) ((da ρ n λx n1=>db ρ n1 λy n2=>g x y λz=>R z n2)):=⟨λh=>zxa h⟩
instance zvC :Stp (dNew ds ρ n R) ((ds ρ n λts n'=>R (.list ts) n')):=⟨λh=>zuq h⟩
instance zvw :Stp (dTup ds ρ n R) ((ds ρ n λts n1=>R (.tuple ts) n1)):=⟨λh=>zuk h⟩
instance zvB :Stp (dNil ρ n Rl) ((Rl [] n)):=⟨λh=>zup h⟩
instance zsN :Stp (J5 d ds ρ n Rl) ((d ρ n λt n1=>ds ρ n1 λts n2=>Rl (t::ts) n2)):=⟨λh=>zrA h⟩
instance zwo :Stp (dFn gd ds ρ n R) ((ds ρ n λts n1=>gd ts n1 R)):=⟨λh=>zxb h⟩
instance zvH :Stp (dFnL gd ds ρ n R) ((ds ρ n λts n1=>gd ts n1 λt n2=>QE t=be/\R t n2)):=⟨λh=>zuv h⟩
instance zsi :Stp (Zl gc ds ρ n R) ((ds ρ n λts n1=>gc ts λz=>R z n1)):=⟨λh=>zo9 h⟩
instance zvI :Stp (dAnd c c' ρ n Rb) ((c ρ n λb n1=>if b=be then c' ρ n1 Rb else Rb bj n1)):=⟨λh=>zuw h⟩
instance zwm :Stp (dOr c c' ρ n Rb) ((c ρ n λb n1=>if b=be then Rb be n1 else c' ρ n1 Rb)):=⟨λh=>zw_ h⟩
instance zvA :Stp (dNot c ρ n Rb) ((c ρ n λb n1=>Rb (!b) n1)):=⟨λh=>zuo h⟩
instance zsO :Stp (zrX da db ρ n R) ((da ρ n λt n1=>bolD t λb=>if b=be then db ρ n1 R else R (.bool bj) n1)):=⟨λh=>zrC h⟩
instance zvz :Stp (dOrV da db ρ n R) ((da ρ n λt n1=>bolD t λb=>if b=be then R (.bool be) n1 else db ρ n1 R)):=⟨λh=>zun h⟩
instance zvG :Stp (dIfE c da db ρ n R) ((c ρ n λb n1=>if b=be then da ρ n1 R else db ρ n1 R)):=⟨λh=>zuu h⟩
instance zvx :Stp (dTru d ρ n Rb) ((d ρ n λt n'=>truD t λb=>Rb b n')):=⟨λh=>zul h⟩
instance zvv :Stp (dYes ρ n Rb) ((Rb be n)):=⟨λh=>zuj h⟩
instance zsF :Stp (Ud tgs (.tuple xs) ρ Re) ((tgs xs ρ Re)):=⟨λh=>zrr h⟩
instance zsG :Stp (Uc [] ρ Re) ((Re ρ)):=⟨λh=>zrs h⟩
instance zsg :Stp (Qt tg tgs (x::xs) ρ Re) ((tg x ρ λρ'=>tgs xs ρ' Re)):=⟨λh=>zo6 h⟩
instance zsI :Stp (UW d ρ n Rb) ((d ρ n λt n'=>bolD t λb=>Rb b n')):=⟨λh=>zrv h⟩
instance zvF :Stp (dItL d ρ n Rl) ((d ρ n λt n'=>lLst t λts=>Rl ts n')):=⟨λh=>zut h⟩
instance zvE :Stp (dItT d ρ n Rl) ((d ρ n λt n'=>lTup t λts=>Rl ts n')):=⟨λh=>zus h⟩
instance zsL :Stp (Y7 d ρ n Rl) ((d ρ n λt n'=>lInt t λj=>(-(2 ^ 62)<=j/\j<2 ^ 62)/\Rl (JY 0 j.toNat) n')):=⟨λh=>zry h⟩
instance zsK :Stp (Y8 d1 d2 ρ n Rl) ((d1 ρ n λt n1=>d2 ρ n1 λu n2=>lInt t λi=>lInt u λj=>(-(2 ^ 62)<=i/\i<2 ^ 62/\-(2 ^ 62)<=j/\j<2 ^ 62)/\Rl (JY i (j - i).toNat) n2)):=⟨λh=>zrx h⟩
instance zvD :Stp (dNeg d ρ n R) ((d ρ n λt n'=>lInt t λi=>R (.int (-i)) n')):=⟨λh=>zur h⟩
instance zsh :Stp (Zm g g' da db dc ρ n R) ((da ρ n λx n1=>db ρ n1 λy n2=>g x y λz=>bolD z λb=>if b=be then dc ρ n2 λw n3=>g' y w λz=>R z n3 else R (.bool bj) n2)):=⟨λh=>zo8 h⟩
instance zvt {b:Bool}{A B:Prop}:Stp (if (!b)=be then A else B) ((if b=be then B else A)):=⟨λh=>zug h⟩
end
section
variable{C:Int->Int->Prop}{f:Int->Int->Int}{fb:Int->Int->Bool}{i j k:Int}{R:af->Prop}{Rb:Bool->Prop}{xs ys:qD}{s t:Str}{a b:Bool}{u v x y:af}{Rn:qN}{n:Nat}
instance zvn :Stp (oAdd (.int i) (.int j) R) ((R (.int (i+j)))):=⟨λh=>zt5 h⟩
instance zvm :Stp (oAdd (.str s) (.str t) R) (((s.length+t.length<=16777216/\R (.str (s++t))))):=⟨λh=>zt4 h⟩
instance zvl :Stp (oAdd (.tuple xs) (.tuple ys) R) (((xs.length+ys.length<=16777216/\R (.tuple (xs++ys))))):=⟨λh=>zt3 h⟩
instance zwi :Stp (oEq (.int i) (.int j) R) ((R (.bool (decide (i=j))))):=⟨λh=>zw4 h⟩
instance zwh :Stp (oEq (.tuple xs) (.tuple ys) R) (((Okd (.tuple xs)/\Okd (.tuple ys)/\R (.bool (gk (.tuple xs) (.tuple ys)))))):=⟨λh=>zw3 h⟩
instance zv8 :Stp (oNe (.int i) (.int j) R) ((R (.bool (!decide (i=j))))):=⟨λh=>zwS h⟩
instance zv9 :Stp (oNe (.bool a) (.bool b) R) ((R (.bool (!decide (a=b))))):=⟨λh=>zwT h⟩
instance zv6 :Stp (oNe (.str s) (.str t) R) ((R (.bool (!decide (s=t))))):=⟨λh=>zwQ h⟩
instance zv5 :Stp (oNe (.tuple xs) (.tuple ys) R) (((Okd (.tuple xs)/\Okd (.tuple ys)/\R (.bool (!PyData.eqv (.tuple xs) (.tuple ys)))))):=⟨λh=>ztR h⟩
instance zv7 :Stp (oNe (.list xs) (.list ys) R) (((Okd (.list xs)/\Okd (.list ys)/\R (.bool (!PyData.eqv (.list xs) (.list ys)))))):=⟨λh=>zwR h⟩
instance zsE :Stp (oIsN u .none R) ((R (.bool (!isNone u)))):=⟨λh=>zrq h⟩
instance zsd :Stp (Zy u (.tuple xs) R) (((Okd u/\(∀t∈xs,Okd t)/\R (.bool (!xs.any λt=>t.eqv u))))):=⟨λh=>zo3 h⟩
instance zwd :Stp (oLtA (.int i) (.int j) R) ((R (.bool (decide (i<j))))):=⟨λh=>zwY h⟩
instance zwf :Stp (oLeA (.int i) (.int j) R) ((R (.bool (decide (i<=j))))):=⟨λh=>zw0 h⟩
instance zvg :Stp (oIx (.tuple (u::xs)) (.int 0) R) ((R u)):=⟨λh=>ztY h⟩
instance zvf :Stp (oIx (.tuple (u::v::xs)) (.int 1) R) ((R v)):=⟨λh=>ztX h⟩
instance zve {w:af}:Stp (oIx (.tuple (u::v::w::xs)) (.int 2) R) ((R w)):=⟨λh=>ztW h⟩
instance zvi :Stp (oIx (.list (u::xs)) (.int 0) R) ((R u)):=⟨λh=>zpV h⟩
instance zvh :Stp (oIx (.list (u::v::xs)) (.int 1) R) ((R v)):=⟨λh=>zpU h⟩
instance zva :Stp (truD (.bool a) Rb) ((Rb a)):=⟨λh=>ztP h⟩
instance zu_ :Stp (truD (.int i) Rb) ((Rb (decide (i≠0)))):=⟨λh=>ztO h⟩
instance zu9 :Stp (truD (.list xs) Rb) ((Rb (!xs.isEmpty))):=⟨λh=>ztN h⟩
instance zu8 :Stp (truD (.tuple xs) Rb) ((Rb (!xs.isEmpty))):=⟨λh=>ztM h⟩
instance zwj :Stp (bolD (.bool a) Rb) ((Rb a)):=⟨λh=>zw5 h⟩
instance zvd :Stp (bLen [.list xs] R) ((R (.int xs.length))):=⟨λh=>ztV h⟩
instance zvb :Stp (bLen [.tuple xs] R) ((R (.int xs.length))):=⟨λh=>ztT h⟩
instance zvc :Stp (bLen [.str s] R) (((s.length<=16777216/\R (.int s.length)))):=⟨λh=>ztU h⟩
instance zse {ns:List Int}:Stp (bLen [SCR ns] R) ((R (.int ns.length))):=⟨λh=>zo4 h⟩
instance zwb :Stp (bMin [.int i,.int j] R) ((R (.int (if j<i then j else i)))):=⟨λh=>zwW h⟩
instance zwc :Stp (bMax [.int i,.int j] R) ((R (.int (if j > i then j else i)))):=⟨λh=>zwX h⟩
instance zvj :Stp (bInt [.bool a] R) ((R (.int (if a then 1 else 0)))):=⟨λh=>zt1 h⟩
instance zv1 :Stp (bStr [.int i] R) (((i.natAbs<2 ^ 1920/\R (.str (toString i))))):=⟨λh=>zwM h⟩
instance zsc :Stp (Vy [.list xs] R) ((R (.tuple xs))):=⟨λh=>zo2 h⟩
instance zsD {Rl:qD->Prop}:Stp (JN (.list xs) Rl) ((Rl xs)):=⟨λh=>zrp h⟩
instance zsf {Rl:qD->Prop}:Stp (JN (.tuple xs) Rl) ((Rl xs)):=⟨λh=>zo5 h⟩
instance zwe {Q:qD->Prop}:Stp (lLst (.list xs) Q) ((Q xs)):=⟨λh=>zwZ h⟩
instance zvZ {Q:qD->Prop}:Stp (lTup (.tuple xs) Q) ((Q xs)):=⟨λh=>zwK h⟩
instance zwg {i:Int}{Q:Int->Prop}:Stp (lInt (.int i) Q) ((Q i)):=⟨λh=>zw2 h⟩
instance zv_ :Stp (oMul (.int i) (.int j) R) ((CMul i j)/\(R (.int (i*j)))):=⟨λh=>zwU h.1 h.2⟩
instance zwa :Stp (oMod (.int i) (.int j) R) ((0<j)/\(R (.int (i % j)))):=⟨λh=>zwV h.1 h.2⟩
instance zvk :Stp (Uf (.int i) (.int j) R) ((Y0 i j)/\(R (.int (i / j)))):=⟨λh=>zt2 h.1 h.2⟩
instance zv4 :Stp (oShl (.int i) (.int j) R) ((CPow i j)/\(R (.int (i*2 ^ j.toNat)))):=⟨λh=>zwP h.1 h.2⟩
instance zv3 :Stp (oShr (.int i) (.int j) R) ((0<=j)/\(R (.int (i / 2 ^ j.toNat)))):=⟨λh=>zwO h.1 h.2⟩
instance zv0 :Stp (oSub (.int i) (.int j) R) ((R (.int (i - j)))):=⟨λh=>zwL h⟩
instance zvY :Stp (oXor (.int i) (.int j) R) ((R (.int (dh i j)))):=⟨λh=>zwJ h⟩
instance zwk :Stp (oAnd (.int i) (.int j) R) ((R (.int (fJ i j)))):=⟨λh=>zw6 h⟩
instance zxA :Stp (gB fb (.int i) (.int j) R) ((R (.bool (fb i j)))):=⟨λh=>j_gB h⟩
end
section
variable{d da db:DTE}{dlo dhi:DTO}{ρ:En}{n:Nat}{R:qN}{Ro:Option Int->Nat->Prop}{Rl:qD->Nat->Prop}{xs ys:qD}{lo hi:Option Int}{Q:af->Prop}{Ql:qD->Prop}
instance zvy :Stp (dSlL d dlo dhi ρ n Rl) ((d ρ n λt n1=>dlo ρ n1 λlo n2=>dhi ρ n2 λhi n3=>lSl t lo hi λz=>Rl z n3)):=⟨λh=>zum h⟩
instance zqu :Stp (zi_ ρ n Ro) ((Ro bc n)):=⟨λh=>zm6 h⟩
instance zsM :Stp (zrW d ρ n Ro) ((d ρ n λt n'=>lInt t λi=>Ro (ao i) n')):=⟨λh=>zrz h⟩
instance zvu :Stp (dZip da db ρ n Rl) ((da ρ n λx n1=>db ρ n1 λy n2=>JN x λxs=>JN y λys=>Rl (zipD xs ys) n2)):=⟨λh=>zui h⟩
instance zv2 :Stp (lSl (.list xs) lo hi Ql) ((Ql (cutD xs lo hi))):=⟨λh=>zwN h⟩
end
section
instance zsJ {d:DTE}{ρ:En}{n:Nat}{Rl:qD->Nat->Prop}:Stp (zrU d ρ n Rl) ((d ρ n λt n1=>Yd t λts=>Rl ts n1)):=⟨λh=>zrw h⟩
end
section
variable{R:af->Prop}{b:Bool}{A B:Prop}
instance zxB:Stp (if be=be then A else B) A:=⟨λh=>iteT h⟩
instance zxC:Stp (if bj=be then A else B) B:=⟨λh=>iteF h⟩
end
class GetN (ρ:En)(i:Nat)(c:outParam (Option Cell)):Prop where
 e:ρ[i]?=ao c
class SetN (ρ:En)(i:Nat)(c:Option Cell)(ρ':outParam En):Prop where
 e:ρ.set i c=ρ'
instance{a0:Option Cell}{as:En}:GetN (a0::as) 0 a0:=⟨rfl⟩
instance{a0 c:Option Cell}{as:En}:SetN (a0::as) 0 c (c::as):=⟨rfl⟩
instance{a0 a1:Option Cell}{as:En}:GetN (a0::a1::as) 1 a1:=⟨rfl⟩
instance{a0 a1 c:Option Cell}{as:En}:SetN (a0::a1::as) 1 c (a0::c::as):=⟨rfl⟩
instance{a0 a1 a2:Option Cell}{as:En}:GetN (a0::a1::a2::as) 2 a2:=⟨rfl⟩
instance{a0 a1 a2 c:Option Cell}{as:En}:SetN (a0::a1::a2::as) 2 c (a0::a1::c::as):=⟨rfl⟩
instance{a0 a1 a2 a3:Option Cell}{as:En}:GetN (a0::a1::a2::a3::as) 3 a3:=⟨rfl⟩
instance{a0 a1 a2 a3 c:Option Cell}{as:En}:SetN (a0::a1::a2::a3::as) 3 c (a0::a1::a2::c::as):=⟨rfl⟩
instance{a0 a1 a2 a3 c:Option Cell}{as:En}{i:Nat}[h:GetN as i c]:GetN (a0::a1::a2::a3::as) (i+4) c:=⟨h.e⟩
instance{a0 a1 a2 a3 c:Option Cell}{as bs:En}{i:Nat}[h:SetN as i c bs]:SetN (a0::a1::a2::a3::as) (i+4) c (a0::a1::a2::a3::bs):=⟨by rw[<- h.e];rfl⟩
class NormE (ρ:En)(ρ':outParam En):Prop where
 e:ρ=ρ'
instance{a:Option Cell}{as:En}:NormE (a::as) (a::as):=⟨rfl⟩
instance{ρ ρ1 ρ2:En}{i:Nat}{c:Option Cell}[h:NormE ρ ρ1][k:SetN ρ1 i c ρ2]:NormE (ρ.set i c) ρ2:=⟨by rw[h.e];exact k.e⟩
class NoneN (as:En)(nn:outParam En):Prop where
 e:gC as.length bc=nn
instance:NoneN [] []:=⟨rfl⟩
instance{a:Option Cell}{as nn:En}[h:NoneN as nn]:NoneN (a::as) (bc::nn):=⟨by rw[aL,eT,h.e]⟩
class StartN (N:List Str)(ts:qD)(ρ:outParam En):Prop where
 e:JW N ts=ρ
instance:StartN [] [] []:=⟨rfl⟩
instance{x:Str}{N:List Str}{ρ:En}[h:StartN N [] ρ]:StartN (x::N) [] (bc::ρ):=⟨by have:=h.e;simp only[JW,eN,fz,cz,rQ]at this ⊢;rw[aL,eT,this]⟩
instance{x:Str}{N:List Str}{t:af}{ts:qD}{ρ:En}[h:StartN N ts ρ]:StartN (x::N) (t::ts) (ao (.val t)::ρ):=⟨by have:=h.e;simp only[JW]at this ⊢;rw[aU,aL,aL,dG,Nat.add_sub_add_right,this]⟩
theorem zku{d:DTS}{D:JH}{n:Nat}{N:List Str}{ts:qD}{l:En}[e:StartN N ts l](h:d D l n):d D (JW N ts) n:=e.e.symm▸h
class CapN (is:List Nat)(ρ:En)(out:outParam En):Prop where
 e:(is.map λi=>capV (ρ.getD i bc))=out
class CapC (c:Option Cell)(c':outParam (Option Cell)):Prop where
 e:capV c=c'
instance{d:af}:CapC (ao (.val d)) (ao (.val d)):=⟨rfl⟩
instance{d:qD}:CapC (ao (.own d)) bc:=⟨rfl⟩
instance:CapC bc bc:=⟨rfl⟩
instance{ρ:En}:CapN [] ρ []:=⟨rfl⟩
instance{i:Nat}{is:List Nat}{ρ out:En}{c c':Option Cell}[g:GetN ρ i c][k:CapC c c'][h:CapN is ρ out]:CapN (i::is) ρ (c'::out):=⟨by have ge:=g.e;rw[aU,h.e,br,ge,fF,k.e]⟩
class CompN (m:Nat)(capt:List Nat)(ρ:En)(ρ':outParam En):Prop where
 e:JI m capt ρ=ρ'
instance{x:Str}{capt:List Nat}{ρ out:En}[h:CapN capt ρ out]:CompN (fg [x]) capt ρ (bc::out):=⟨by unfold JI;rw[h.e];rfl⟩
instance{x y:Str}{capt:List Nat}{ρ out:En}[h:CapN capt ρ out]:CompN (fg [x,y]) capt ρ (bc::bc::out):=⟨by unfold JI;rw[h.e];rfl⟩
instance{x y z:Str}{capt:List Nat}{ρ out:En}[h:CapN capt ρ out]:CompN (fg [x,y,z]) capt ρ (bc::bc::bc::out):=⟨by unfold JI;rw[h.e];rfl⟩
instance{x y z u:Str}{capt:List Nat}{ρ out:En}[h:CapN capt ρ out]:CompN (fg [x,y,z,u]) capt ρ (bc::bc::bc::bc::out):=⟨by unfold JI;rw[h.e];rfl⟩
def SetK(i:Nat)(c:Option Cell)(K:En->Nat->Prop)(l:En)(n:Nat):Prop:=K (l.set i c) n
section
variable{t u:DTS}{D:JH}{ρ ρ0 ρ':En}{n i j m:Nat}{d dj:DTE}{ds di:DTA}{tt:DTT}{tg:DTG}{R:qN}{Rl:qD->Nat->Prop}{Re:En->Prop}{x:af}{xs:qD}{f:Int->Int->Int}{capt:List Nat}{c:Option Cell}{K:En->Nat->Prop}{q:Int}
instance zxI [h:SetN ρ i c ρ']:Stp (SetK i c K ρ n) (K ρ' n):=⟨λk=>by unfold SetK;rw[h.e];exact k⟩
instance zxt:Stp (sSet i d D ρ n) (d ρ n λt n'=>SetK i (ao (.val t)) D.nx ρ n'):=⟨λh=>h⟩
instance zxu:Stp (sOwn i ds D ρ n) (ds ρ n λt n'=>SetK i (ao (.own t)) D.nx ρ n'):=⟨λh=>h⟩
instance zu7 [h:SetN ρ i (ao (.val x)) ρ']:Stp (JX i x ρ Re) (Re ρ'):=⟨λk=>by unfold JX;rw[h.e];exact k⟩
instance zxF [h:GetN ρ i (ao (.val x))]:Stp (dVar i ρ n R) (R x n):=⟨λk=>zpY h.e k⟩
instance zxG [h:GetN ρ i (ao (.own xs))]:Stp (dOwn i ρ n R) (R (.list xs) n):=⟨λk=>zpZ h.e k⟩
instance zvL [h:GetN ρ i (ao (.own xs))]:Stp (ZO i d D ρ n) (d ρ n λt n'=>xs.length<16777216/\SetK i (ao (.own (xs++[t]))) D.nx ρ n'):=⟨λk=>zj4 h.e k⟩
instance zvJ [h:GetN ρ i (ao (.own xs))][h':SetN ρ i (ao (.val (.list xs))) ρ']:Stp (ZP i t D ρ n) (t D ρ' n):=⟨λk=>zj3 h.e (by rw[h'.e];exact k)⟩
instance zxQ [h:GetN ρ i (ao (.val (.int q)))]:Stp (sAug i f d D ρ n) (d ρ n λt n'=>lInt t λk=>SetK i (ao (.val (.int (f q k)))) D.nx ρ n'):=⟨λk=>zxc h.e k⟩
instance zxH [h:CompN m capt ρ ρ0]:Stp (dComp m capt di tg tt d ρ n Rl) (di ρ n λts n1=>JS tg tt d ρ0 ts [] n1 Rl):=⟨λk=>zrB (by rw[h.e];exact k)⟩
theorem zs3{D:JH}{ρ:En}{i:Nat}{xs:qD}{x:af}{n:Nat}{j:Int}{k:Nat}(e:ixN xs.length j=ao k)(h:SetK i (ao (.own (xs.set k x))) D.nx ρ n) :
  (match ixN xs.length j with|some k=>D.nx (ρ.set i (ao (.own (xs.set k x)))) n|none=>False):=by rw[e];exact h
instance zxK [h:GetN ρ i (ao (.own xs))]:Stp (sPut i dj d D ρ n) (d ρ n λt n1=>UE ρ i D dj t n1 xs):=⟨λk=>zw8 h.e k⟩
instance zxv:Stp (UE ρ i D dj x n xs) (dj ρ n λj n2=>lInt j λj=>(match ixN xs.length j with|some k=>D.nx (ρ.set i (ao (.own (xs.set k x)))) n2|none=>False)):=⟨λh=>zuf h⟩
end
theorem Q5{l:En}{i:Nat}:l.set i (l.getD i bc)=l:=by apply mT;intro j;by_cases h:i=j;subst h;by_cases hl:i<l.length;rw[gJ hl,br,au hl];rfl;rw[cc (by simp;omega),cc (by omega)];rw[dY h]
section
variable{g:DTG}{tb:DTS}{D:JH}{ts:qD}{ρ:En}{n:Nat}
theorem Zw(C y:Nat)(Inv:Nat->Option Cell->Option Cell->Nat->Prop){o:Option Cell->Option Cell->En}[N:∀a0 a1,NormE ((ρ.set C a0).set y a1) (o a0 a1)](h0:Inv 0 (ρ.getD C bc) (ρ.getD y bc) n)
  (turn:∀(k:Nat) (t:af) (a0 a1:Option Cell) (m:Nat) (K:En->Nat->Prop) (J:qN) (I:En->Nat->Prop),ts[k]?=ao t->Inv k a0 a1 m->(∀v u G,Inv (k+1) v u G->K (o v u) G)->(∀t m,D.rt t m->J t m)->(∀ρ m,D.nx ρ m->I ρ m)->g t (o a0 a1) λl=>tb { nx:=K,rt:=J,bk:=I,ct:=K,xr:=D.xr } l m)
  (fin:∀a0 a1 m,Inv ts.length a0 a1 m->D.nx (o a0 a1) m):forP g tb D ts ρ n:=by
 refine Uw (λk l m=>∃a0 a1,l=((ρ.set C a0).set y a1)/\Inv k a0 a1 m) ⟨_,_,?_,h0⟩ ?_ ?_;rw[Q5,Q5];rintro k t l m K e ⟨a0,a1,rfl,x⟩ hK;rw[(N a0 a1).e];exact turn k t a0 a1 m K D.rt D.nx e x (λv u G h=>(N v u).e▸hK _ _ ⟨v,u,rfl,h⟩) (λ_ _ h=>h) (λ_ _ h=>h);rintro l m ⟨a0,a1,rfl,x⟩;rw[(N a0 a1).e];exact fin a0 a1 m x
theorem zuJ(G C J:Nat)(Inv:Nat->Option Cell->Option Cell->Option Cell->Nat->Prop){o:Option Cell->Option Cell->Option Cell->En}[N:∀a0 a1 a2,NormE (((ρ.set G a0).set C a1).set J a2) (o a0 a1 a2)](h0:Inv 0 (ρ.getD G bc) (ρ.getD C bc) (ρ.getD J bc) n)
  (turn:∀(k:Nat) (t:af) (a0 a1 a2:Option Cell) (m:Nat) (K:En->Nat->Prop) (R:qN) (L:En->Nat->Prop),ts[k]?=ao t->Inv k a0 a1 a2 m->(∀v u x I,Inv (k+1) v u x I->K (o v u x) I)->(∀t m,D.rt t m->R t m)->(∀ρ m,D.nx ρ m->L ρ m)->g t (o a0 a1 a2) λl=>tb { nx:=K,rt:=R,bk:=L,ct:=K,xr:=D.xr } l m)
  (fin:∀a0 a1 a2 m,Inv ts.length a0 a1 a2 m->D.nx (o a0 a1 a2) m):forP g tb D ts ρ n:=by
 refine Uw (λk l m=>∃a0 a1 a2,l=(((ρ.set G a0).set C a1).set J a2)/\Inv k a0 a1 a2 m) ⟨_,_,_,?_,h0⟩ ?_ ?_;rw[Q5,Q5,Q5];rintro k t l m K e ⟨a0,a1,a2,rfl,y⟩ hK;rw[(N a0 a1 a2).e];exact turn k t a0 a1 a2 m K D.rt D.nx e y (λv u x I h=>(N v u x).e▸hK _ _ ⟨v,u,x,rfl,h⟩) (λ_ _ h=>h) (λ_ _ h=>h);rintro l m ⟨a0,a1,a2,rfl,y⟩;rw[(N a0 a1 a2).e];exact fin a0 a1 a2 m y
theorem zp3(J I S L:Nat)(Inv:Nat->Option Cell->Option Cell->Option Cell->Option Cell->Nat->Prop){u:Option Cell->Option Cell->Option Cell->Option Cell->En}[N:∀a0 a1 a2 l,NormE ((((ρ.set J a0).set I a1).set S a2).set L l) (u a0 a1 a2 l)](h0:Inv 0 (ρ.getD J bc) (ρ.getD I bc) (ρ.getD S bc) (ρ.getD L bc) n)
  (turn:∀(k:Nat) (t:af) (a0 a1 a2 l:Option Cell) (m:Nat) (K:En->Nat->Prop) (Y:qN) (U:En->Nat->Prop),ts[k]?=ao t->Inv k a0 a1 a2 l m->(∀x v y C R,Inv (k+1) x v y C R->K (u x v y C) R)->(∀t m,D.rt t m->Y t m)->(∀ρ m,D.nx ρ m->U ρ m)->g t (u a0 a1 a2 l) λo=>tb { nx:=K,rt:=Y,bk:=U,ct:=K,xr:=D.xr } o m)
  (fin:∀a0 a1 a2 l m,Inv ts.length a0 a1 a2 l m->D.nx (u a0 a1 a2 l) m):forP g tb D ts ρ n:=by
 refine Uw (λk o m=>∃a0 a1 a2 l,o=((((ρ.set J a0).set I a1).set S a2).set L l)/\Inv k a0 a1 a2 l m) ⟨_,_,_,_,?_,h0⟩ ?_ ?_;rw[Q5,Q5,Q5,Q5];rintro k t o m K e ⟨a0,a1,a2,l,rfl,G⟩ hK;rw[(N a0 a1 a2 l).e];exact turn k t a0 a1 a2 l m K D.rt D.nx e G (λx v y C R h=>(N x v y C).e▸hK _ _ ⟨x,v,y,C,rfl,h⟩) (λ_ _ h=>h) (λ_ _ h=>h);rintro o m ⟨a0,a1,a2,l,rfl,G⟩;rw[(N a0 a1 a2 l).e];exact fin a0 a1 a2 l m G
theorem zo7{i j:Nat}{u:DTS}{D:JH}{G nn y C:En}{n:Nat}{ns:List Int}{k:Int}[ej:GetN (ao (.val (SCR ns))::G) j (ao (.val (.int k)))][e1:NoneN G nn][e2:SetN (ao (.val (SCR ns))::nn) j (ao (.val (.int k))) y][e3:SetN y i (ao (.val HAND)) C](R:ns.length<=63)(U:0<=k)(S:k<=100)
  (h:∀(I:En->Nat->Prop) (L:qN) (J N:En->Nat->Prop),(∀x m,D.nx (JG x) n->I x m)->(∀b m,D.rt (.bool b) n->L (.bool b) m)->(∀x m,D.bk (JG x) n->J x m)->(∀x m,D.ct (JG x) n->N x m) ->
   u { nx:=I,rt:=L,bk:=J,ct:=N } C 0):U0 i j u D (ao (.val (SCR ns))::G) n:=by
 refine zru (ρd:=ao (.val (SCR ns))::nn) rfl ej.e R U S ?_ ?_;show ao (Cell.val (SCR ns))::gC (fg (ao (Cell.val (SCR ns))::G) - 1) bc=_;rw[aL,my,e1.e];rw[e2.e,e3.e];exact h _ _ _ _ (λ_ _ h=>h) (λb _ h=>⟨b,rfl,h⟩) (λ_ _ h=>h) (λ_ _ h=>h)
theorem ziz{c:DTT}{tb:DTS}{D:JH}{ρ:En}{n:Nat}(Inv:Nat->En->Nat->Prop){m:Nat}(h0:Inv m ρ n)
  (turn:∀m ρ n (K:En->Nat->Prop) (x:qN) (v:En->Nat->Prop),Inv m ρ n->(∀o l u,o<m->Inv o l u->K l u)->(∀t m,D.rt t m->x t m)->(∀ρ m,D.nx ρ m->v ρ m) ->
   c ρ n λb y=>if b=be then tb { nx:=K,rt:=x,bk:=v,ct:=K,xr:=D.xr } ρ y else v ρ y):zl3 c tb D ρ n :=
 zg5 Inv h0 λm ρ n h=>turn m ρ n (λl u=>∃o,o<m/\Inv o l u) D.rt D.nx h (λo _ _ a b=>⟨o,a,b⟩) (λ_ _ h=>h) (λ_ _ h=>h)
end
open Builtin Builtin.Str
def cutS(x:Str)(lo hi:Option Int):Str:=⟨((x.cps.toList.drop (HT.sIx x.length 0 lo)).take (HT.sIx x.length x.length hi - HT.sIx x.length 0 lo)).toArray⟩
theorem ZQ(n d:Nat)(i:Int):((HT.sIx n d (ao i):Nat):Int)=max 0 (min (if i<0 then i+(n:Int) else i) (n:Int)):=by simp only[HT.sIx];by_cases h:i<0;simp only[h,if_true] <;> lia;simp only[h,if_false] <;> lia
theorem zsw(lo hi:Option Int)(n:Nat):strSliceIndices lo hi 1 n=sliceRange ((HT.sIx n 0 lo:Nat):Int) ((HT.sIx n n hi:Nat):Int) 1:=by
 have l:((HT.sIx n 0 bc:Nat):Int)=0:=by simp[HT.sIx]
 have o:((HT.sIx n n bc:Nat):Int)=n:=by simp[HT.sIx]
 cases lo with
 | none =>
  cases hi with
  | none=>rw[l,o];rfl
  | some j=>rw[l,ZQ];rfl
 | some i =>
  cases hi with
  | none=>rw[o,ZQ];rfl
  | some j=>rw[ZQ,ZQ];rfl
theorem zlP(x:Str)(lo hi:Option Int):sS x lo hi=cutS x lo hi:=by
 have e:strSliceIndices lo hi 1 x.length=(eY (HT.sIx x.length x.length hi - HT.sIx x.length 0 lo)).map (HT.sIx x.length 0 lo+·):=by rw[zsw,ue]
 have pk:(strSliceIndices lo hi 1 x.length).filterMap (x.cps[·]?)=(x.cps.toList.drop (HT.sIx x.length 0 lo)).take (HT.sIx x.length x.length hi - HT.sIx x.length 0 lo):=by rw[e,yb]
 unfold sS;split;rename_i h;have o:(strSliceIndices lo hi 1 x.length).length=x.length:=by simpa using h
 rw[e,aN,f6]at o;unfold cutS;have u:HT.sIx x.length x.length hi<=x.length:=by
  cases hi with
  | none=>simp[HT.sIx]
  | some i=>simp only[HT.sIx];split <;> lia
 have z:HT.sIx x.length 0 lo=0\/x.length=0:=by lia
 have:(x.cps.toList.drop (HT.sIx x.length 0 lo)).take (HT.sIx x.length x.length hi - HT.sIx x.length 0 lo)=x.cps.toList:=by
  have sz:x.cps.toList.length=x.length:=by simp[uc]
  rcases z with z|z;rw[z,mm,cM (by lia)];have:x.cps.toList=[]:=eF.mp (by lia);rw[this];simp
 rw[this];rw[pk];rfl
section
variable{X:Cx}
theorem zga{v:ah}{p:Option Int}(h:mW v p):∃l:Option (Int×Tok),v=partValue l/\l.map (·.1)=p:=by
 cases h with
 | none=>exact⟨bc,rfl,rfl⟩
 | int i t=>exact⟨ao (i,t),rfl,rfl⟩
def rSlS:V->Option Int->Option Int->Hp->VK->Prop:=λx lo hi H Q=>∃z,x=.str z/\z.length<=sizeLine/\Q (.str (cutS z lo hi)) H
theorem zsz:SlR X rSlS:=by intro pins s σ H x v R S lo hi N Q I L G pl J h;obtain⟨z,rfl,hz,q⟩:=h;obtain⟨t,rfl⟩:=L;obtain⟨l,rfl,rfl⟩:=zga pl;obtain⟨u,rfl,rfl⟩:=zga J;have C:s.heap.IsSlice N l u bc:=G;refine⟨"str",_,F.slot_str_getitem.lookup,ud _ _ _,wpAny_getItem_str_slice (l:=l) (u:=u) (st:=bc) C rfl (post_val_or_str ?_)⟩;have e:(if (((bc:Option (Int×Tok)).map (·.1)).getD 1 == 1&&(slicePicked z l u bc).length == z.length)=be then z else⟨((slicePicked z l u bc).filterMap (z.cps[·]?)).toArray⟩)=sS z (l.map (·.1)) (u.map (·.1)):=rfl;rw[e];refine⟨cx (Txt.slice_le z _ _) hz,λt' k=>⟨.str (sS z (l.map (·.1)) (u.map (·.1))),H,I.tok _,⟨_,rfl⟩,?_⟩⟩;rw[zlP];exact q
def oSlA(t:af)(lo hi:Option Int)(R:af->Prop):Prop:=match t with
 | .tuple ts=>R (.tuple (cutD ts lo hi))
 | .str x=>x.length<=16777216/\R (.str (cutS x lo hi))
 | _=>False
def dSlA(d:DTE)(dl v:DTO):DTE:=λl n R=>d l n λt u=>dl l u λlo x=>v l x λhi o=>oSlA t lo hi λz=>R z o
variable{e a b iter tg:a8}{d da db:DTE}{lo hi:Option a8}{dlo dhi:DTO}{pos p2:Pos}
theorem znv(h:DL X e d)(L:DP X lo dlo)(N:DP X hi dhi):DE X (.Subscript e (.Slice lo hi bc p2) pos) (dSlA d dlo dhi):=by
 obtain⟨ta,pa,h⟩:=h;obtain⟨tl,pl,L⟩:=L;obtain⟨tu,pu,N⟩:=N;refine⟨_,zjG (SlR.or (SlR.or zsy zqq) zsz) pa pl pu,λC ρ σ H n Q R S hd U=>?_⟩;refine h C ρ σ H n _ _ S hd λt n1 v H1 r1 I h1 q1=>?_;have S1:=S.on I h1;refine L C ρ σ H1 n1 _ _ S1 r1 λlo n2 H2 r2 x h2=>?_;have S2:=S1.on x h2;refine N C ρ σ H2 n2 _ _ S2 r2 λhi Y H3 o y J=>?_;have S3:=S2.on y J;have Z:=(x.trans y).repT S.hx q1;cases t with
 | tuple ts =>obtain⟨a,vs,rfl,hs,rs⟩:=Z.tupI;by_cases w:HT.sIx vs.length 0 lo=0/\HT.sIx vs.length vs.length hi=vs.length;refine .inl (.inr ⟨a,vs,rfl,hs,w,U _ Y _ H3 o (I.trans (x.trans y)) J ?_⟩);rw[zlk (by rw[<- rs.length];exact w)];exact Z.rep (by intro _ z;cases z);refine .inl (.inl ⟨a,vs,rfl,hs,w,λp G=>U _ Y _ _ o (I.trans (x.trans (y.trans (ExtE.new G)))) (J.same (JR G)) ?_⟩);exact .newT (S3.free G) G (zkf rs lo hi)
 | str z =>rw[Z.strI];exact .inr ⟨z,rfl,o.1,U _ Y _ H3 o.2 (I.trans (x.trans y)) J (.str _)⟩
 | _=>exact o.elim
end
def Its(z:Str):It:=⟨λi _=>i<z.cps.size,λi H x H'=>H'=H/\∃c,z.cps[i]?=ao c/\x=.str ⟨#[c]⟩,λi _=>z.cps.size<=i⟩
theorem zoh{P:aQ}{w:bg}{K:qF}{tg:a8}(z:Str)(t:Tok)(it:aq)(T:String)(N:T = "str_ascii_iterator" \/ T = "str_iterator"):Turn P w K tg (Its z) [it] it (λi h=>h.IsStrIter it T z t i) where
 mem:=by simp
 obj:=λi h st b C=>by
  have e:b=it:=by simpa using C
  subst e;obtain⟨o,e,c,d⟩:=st;exact⟨o,e,λv z=>by rw[d]at z;cases z⟩
 keep:=λi h h' st k=>by obtain⟨o,e,r⟩:=st;exact⟨o,k it (by simp) o e,r⟩
 item:=by
  intro X Z hw U hc i pins s σ H E I hf st G;subst Z hw U;obtain⟨f0,f1,f2,R,f4,S⟩:=hf it (by simp);have G:i<z.cps.size:=G;have J:z.cps[i]?=ao z.cps[i]:=by simp[G]
  have fin:∀h',h'.IsStrIter it T z t (i+1)->dE it s.heap h'->∃u,ao (sE ⟨#[z.cps[i]]⟩ s.toks)=ao u /\
    wpAny (model X.prog X.w) X.A (letOwnedTupleGo tg (.ref it) u) (λ_ s2=>∃x H',Inv X pins σ H' s2/\RelV x u/\(Its z).yld i H x H'/\s2.heap.IsStrIter it T z t (i+1)/\∀b∈[it],H' b=bc) E { s with heap:=h',toks:=s.toks+1 }:=by
   intro h' L sb;have I1:Inv X pins σ H { s with heap:=h',toks:=s.toks+1 }:=I.turned (t':=s.toks+1) (λb o C e=>(sb.2 b C).trans e) f0 f1 R f4 S;obtain⟨o,e,c,d⟩:=id L;have ne:(T = "enumerate")=False:=by rcases N with rfl|rfl <;> decide
   refine⟨_,rfl,Y4 (s:={ s with heap:=h',toks:=s.toks+1 }) (n:=T) e c d (by rcases N with rfl|rfl <;> decide) ⟨.str ⟨#[z.cps[i]]⟩,H,I1,⟨_,rfl⟩,⟨rfl,_,J,rfl⟩,L,λb C=>(hf b C).1⟩⟩
  rcases N with rfl|rfl;exact wpAny_pyNext_ascii_item st J fin;exact wpAny_pyNext_wide_item st J fin
 done:=by
  intro X Z hw U hc i pins s σ H E I hf st G;subst Z hw U;obtain⟨f0,f1,f2,R,f4,S⟩:=hf it (by simp);have G:z.cps.size<=i:=G;have J:z.cps[i]?=bc:=by simp[G]
  rcases N with rfl|rfl;exact wpAny_pyNext_ascii_end (I.ok.hd hc) st J λh' Y=>⟨rfl,I.turned (t':=s.toks) (λb o C e=>Y b o C e) f0 f1 R f4 S⟩;exact wpAny_pyNext_wide_end (I.ok.hd hc) st J λh' Y=>⟨rfl,I.turned (t':=s.toks) (λb o C e=>Y b o C e) f0 f1 R f4 S⟩
 self:=λ_ _ _ _ _ st h=>by rcases N with rfl|rfl;exact wpAny_pyIter_striter_ascii st h;exact wpAny_pyIter_striter_wide st h
section
variable{X:Cx}{tg iter:a8}{d:DTE}
def iStr(l:TE):TI:=λσ H R=>l σ H λx o=>∃z,x=.str z/\R (Its z) o
theorem zs_{l:a8}{G:TE}(J:PE X l G):PI X tg l (iStr G):=by
 intro pins s σ H R I h;refine thn (J pins s σ H _ I h) λv s1 u=>?_;obtain⟨x,L,C,U,N⟩:=u;obtain⟨z,rfl,q⟩:=N;obtain⟨t,rfl⟩:=U;have key:∀T,(T = "str_ascii_iterator" \/ T = "str_iterator")->PIE X pins σ tg R (.ref s1.heap.objs.size) { s1 with heap:=s1.heap.push { cls:=.type T,data:=.fields #[.str z t,.int 0 0] } }:=by
  intro T Y;refine⟨s1.heap.objs.size,[s1.heap.objs.size],_,_,L,rfl,C.kept (t':=s1.toks) λb o e=>aj _ e,zoh z t _ T Y,⟨_,aD _ rfl,rfl,rfl⟩,λb S=>?_,q⟩;have e:b=s1.heap.objs.size:=by simpa using S
  subst e;exact C.fpOk (aB _) (C.hok.fresh (aB _))
 cases ha:z.cps.all (·<128);exact wpAny_pyIter_wide ha (key _ (.inr rfl));exact wpAny_pyIter_ascii ha (key _ (.inl rfl))
def sgnD(z:Str):List af:=z.cps.toList.map λc=>.str ⟨#[c]⟩
theorem zua{K:qF}{hd:Option aq}{P O:aq->Prop}{H:Hp}{z:Str}:ItOk K hd P O H (Its z) (sgnD z):=by
 intro L I _ _ _;have sz:z.cps.toList.length=z.cps.size:=by simp
 refine⟨λi t o=>?_,by show z.cps.size<=(sgnD z).length;unfold sgnD;rw[aN];lia⟩;unfold sgnD at o;rw[aX]at o;cases ec:z.cps.toList[i]? with
 | none=>rw[ec]at o;cases o
 | some c =>
  rw[ec]at o;cases o;obtain⟨hi,C⟩:=aw.mp ec;have v:i<z.cps.size:=by lia
  have u:z.cps[i]?=ao c:=by rw[<- bK];exact ec
  refine⟨v,λx J G=>?_⟩;obtain⟨rfl,c',y,rfl⟩:=G;rw[u]at y;cases y;exact⟨Same.refl _,.str _⟩
def lStr:af->(Str->Prop)->Prop
 | .str z,R=>R z
 | _,_=>False
def dItS(d:DTE):DTA:=λo n R=>d o n λt l=>lStr t λz=>R (sgnD z) l
theorem zuR(h:DE X iter d):DI X tg iter (dItS d):=by
 obtain⟨G,pa,h⟩:=h;refine⟨_,zs_ pa,λC y σ H n Q R S hd l=>?_⟩;refine h C y σ H n _ _ S hd λt o v H' r u x q=>?_;cases t with
 | str z =>rw[q.strI];exact⟨z,rfl,l _ o _ H' r u x zua⟩
 | _=>exact r.elim
end
section
variable{ρ:En}{n:Nat}{d da db:DTE}{dlo dhi:DTO}{R:qN}{Rl:qD->Nat->Prop}{Q:af->Prop}{xs:qD}{lo hi:Option Int}{x:Str}{i j:Int}{Ql:qD->Prop}
instance zxJ:Stp (dSlA d dlo dhi ρ n R) (d ρ n λt n1=>dlo ρ n1 λlo n2=>dhi ρ n2 λhi n3=>oSlA t lo hi λz=>R z n3):=⟨λh=>h⟩
instance zxp:Stp (oSlA (.str x) lo hi Q) (x.length<=16777216/\Q (.str (cutS x lo hi))):=⟨λh=>h⟩
instance zxL:Stp (dItS d ρ n Rl) (d ρ n λt n'=>lStr t λz=>Rl (sgnD z) n'):=⟨λh=>h⟩
instance zxy {Rs:Str->Prop}:Stp (lStr (.str x) Rs) (Rs x):=⟨λh=>h⟩
end
mutual
def plnD:af->Bool
 | .dict []=>true
 | .dict _=>false
 | .tuple ts=>decide (ts.length<=1000000)&&zqQ ts
 | .list ts=>decide (ts.length<=1000000)&&zqQ ts
 | .str x=>decide (x.length<=1000000)
 | _=>true
def zqQ:qD->Bool
 | []=>true
 | t::ts=>plnD t&&zqQ ts
end
def IsNm(s:Str):Prop:=1<=s.length/\s.length<=8/\∀c∈s.cps.toList,97<=c/\c<=122
def nmS(s:Str):Bool:=decide (1<=s.length)&&decide (s.length<=8)&&s.cps.toList.all λc=>decide (97<=c)&&decide (c<=122)
theorem zq_{s:Str}:nmS s=be↔IsNm s:=by unfold nmS IsNm;simp only[cA,decide_eq_true_iff,dF,and_assoc]
theorem VV(s:Str):s.cps.toList.length=s.length:=by simp[uc]
theorem zr6(a b:Str):(a++b).cps.toList=a.cps.toList++b.cps.toList:=by show(a.cps++b.cps).toList=_;simp
theorem Str.ext'{a b:Str}(h:a.cps.toList=b.cps.toList):a=b:=by
 cases a with|mk a =>
 cases b with|mk b =>
 have:a=b:=Array.toList_inj.mp h;rw[this]
def OkK(k:Nat)(t:af):Prop:=t.canLay0=be/\t.depth<=k
theorem OkK.okd{k:Nat}{t:af}(h:OkK k t)(l:k<=60:=by decide):Okd t:=⟨h.1,cx h.2 l⟩
theorem zoR:OkK 0 .none:=⟨by simp[dS],by simp[ik]⟩
theorem okK_str{s:Str}(h:dS (.str s)=be):OkK 0 (.str s):=⟨h,by simp[ik]⟩
theorem zwD{s:Str}(h:IsNm s):OkK 0 (.str s):=okK_str (by simp only[dS];show(s.cps.all (·<0x110000))=be;rw[<- Array.all_toList,dF];intro c hc;have:=h.2.2 c hc;exact decide_eq_true (by lia))
theorem zc4{α:Type}{cs:List α}{D:α->af}{G:DTG}{tt:DTT}{d:DTE}{v:En}{n:Nat}{I:qD->Nat->Prop}(p:α->Bool)(F:α->af)(J:cs.length<=16777216)
  (step:∀b∈cs,∀(K:qN) (X:Nat->Prop),(p b=be->K (F b) n)->(p b=bj->X n)->G (D b) v λu=>tt u n λc C=>if c=be then d u C K else X C) (fin:I ((cs.filter p).map F) n):JS G tt d v (cs.map D) [] n I:=by
 refine zqg (λj acc m=>m=n/\acc=((cs.take j).filter p).map F) ⟨rfl,rfl⟩ ?_ ?_;rintro j x acc m K o ⟨rfl,rfl⟩ hK;rw[aX]at o;cases eb:cs[j]? with
 | none=>rw[eb]at o;cases o
 | some b =>
  rw[eb]at o;cases o;obtain⟨N,L⟩:=aw.mp eb;have tk:cs.take (j+1)=cs.take j++[b]:=by rw[dD,eb];rfl
  refine step b (ax eb) _ _ (λy=>⟨?_,hK _ _ ⟨rfl,?_⟩⟩) (λy=>hK _ _ ⟨rfl,?_⟩);have:=gY p (cs.take j);simp at this ⊢;lia;rw[tk,p7,gT];simp[y];rw[tk,p7,gT];simp[y]
 rintro acc m ⟨rfl,rfl⟩;rw[aN,dH];exact fin
def Us(g:DTG)(tt:DTT)(u:DTA)(g2:DTG)(o:DTT)(v:DTE)(l:En)(xs acc:qD)(n:Nat)(R:qD->Nat->Prop):Prop:=cGo g tt (tdN u g2 o (tdL v)) l xs acc n R
def znD(m:Nat)(capt:List Nat)(v:DTA)(g:DTG)(tt:DTT)(o:DTA)(g2:DTG)(l:DTT)(y:DTE):DTA:=λu n R=>v u n λts x=>Us g tt o g2 l y (JI m capt u) ts [] x R
section
variable{X:Cx}{scope:fI}{own:List Str}{capt:List Nat}{elt tg iter tg2 it2:a8}{ifs MO:List a8}{pos:Pos}{di di2:DTA}{is is2:List Nat}{g g2:DTG}{tt tt2:DTT}{te:DTE}
theorem zkd(hc:X.calm=be)(S:Jv scope own capt X)(hi:DIL X tg iter di)
  (hg:Fam X scope own capt λY=>DG Y tg is g) (l:∀i∈is,i<own.length) (N:Fam X scope own capt λY=>DTs Y ifs tt) (y:Fam X scope own capt λY=>DI Y tg2 it2 di2) (v:Fam X scope own capt λY=>DG Y tg2 is2 g2) (Np:∀i∈is2,i<own.length/\i∉is) (G:Fam X scope own capt λY=>DTs Y MO tt2)
  (he:Fam X scope own capt λY=>DE Y elt te)
  (U:Fsi X iter:=by intro _;rfl) (u:∀(C:aq) (x:ah),foldedSetIterable it2 (compEnvC scope (ownCl X scope C) C X.env) x=pure x:=by intro _ _;rfl) :
  DN X (.ListComp elt [⟨tg,iter,ifs,0⟩,⟨tg2,it2,MO,0⟩] scope pos) (znD own.length capt di g tt di2 g2 tt2 te):=by
 obtain⟨ge,p,_,I⟩:=zgW (e:=.ListComp elt [⟨tg,iter,ifs,0⟩,⟨tg2,it2,MO,0⟩] scope pos) Vl zqh hc S ⟨ziZ,⟨_,rfl⟩,λ_ _ _=>rfl,λ_=>⟨_,rfl⟩,λ_ _=>⟨_,rfl⟩⟩ zpO hi hg l N (zm7 Vl ziZ hc rfl (λ_ _ _=>rfl) y v G u (zp0 he)) Np U;exact⟨ge,p,λC ρ σ H n Q R St hd J=>I C ρ σ H n Q R St hd λacc Z H' D r e h hD _ ⟨ys,hy,rs⟩=>J acc Z D ys H' r e h hD hy rs⟩
end
section
variable{ρ ρ0:En}{n m:Nat}{di di2:DTA}{g g2:DTG}{tt tt2:DTT}{te:DTE}{capt:List Nat}{Rl:qD->Nat->Prop}
instance zwq [h:CompN m capt ρ ρ0]:Stp (znD m capt di g tt di2 g2 tt2 te ρ n Rl) (di ρ n λts n1=>Us g tt di2 g2 tt2 te ρ0 ts [] n1 Rl):=⟨λk=>by unfold znD;rw[h.e];exact k⟩
end
abbrev Run:=Int×Int
def NR(rs:List Run):Prop:=(∀r∈rs,r.1<r.2)/\rs.Pairwise λa b=>a.2<b.1
def mR(x:Int)(rs:List Run):Prop:=∃r∈rs,r.1<=x/\x<r.2
def mB(x:Int)(bs:qB):Prop:=∃b∈bs,b.1<=x/\x<eB b
theorem JQ{x:Int}{r:Run}{rs:List Run}:mR x (r::rs)↔(r.1<=x/\x<r.2)\/mR x rs:=by unfold mR;constructor;rintro⟨s,o,h⟩;rcases aE.mp o with rfl|o;exact .inl h;exact .inr ⟨s,o,h⟩;rintro(h|⟨s,o,h⟩);exact⟨r,by simp,h⟩;exact⟨s,by simp[o],h⟩
theorem Qa{x:Int}:¬mR x []:=λ⟨_,h,_⟩=>nomatch h
theorem QR{x:Int}{rs ss:List Run}:mR x (rs++ss)↔mR x rs\/mR x ss:=by unfold mR;constructor;rintro⟨s,o,h⟩;rcases aC.mp o with o|o;exact .inl ⟨s,o,h⟩;exact .inr ⟨s,o,h⟩;rintro(⟨s,o,h⟩|⟨s,o,h⟩);exact⟨s,by simp[o],h⟩;exact⟨s,by simp[o],h⟩
theorem VW{x:Int}{b:Int×Int}{bs:qB}:mB x (b::bs)↔(b.1<=x/\x<eB b)\/mB x bs:=by unfold mB;constructor;rintro⟨s,o,h⟩;rcases aE.mp o with rfl|o;exact .inl h;exact .inr ⟨s,o,h⟩;rintro(h|⟨s,o,h⟩);exact⟨b,by simp,h⟩;exact⟨s,by simp[o],h⟩
theorem UL{x:Int}:¬mB x []:=λ⟨_,h,_⟩=>nomatch h
theorem VL{x:Int}{bs cs:qB}:mB x (bs++cs)↔mB x bs\/mB x cs:=by unfold mB;constructor;rintro⟨s,o,h⟩;rcases aC.mp o with o|o;exact .inl ⟨s,o,h⟩;exact .inr ⟨s,o,h⟩;rintro(⟨s,o,h⟩|⟨s,o,h⟩);exact⟨s,by simp[o],h⟩;exact⟨s,by simp[o],h⟩
theorem zrf{x:Int}{bs cs:qB}(h:bs.Perm cs):mB x bs↔mB x cs:=by unfold mB;constructor;rintro⟨s,l,q⟩;exact⟨s,h.mem_iff.mp l,q⟩;rintro⟨s,l,q⟩;exact⟨s,h.mem_iff.mpr l,q⟩
theorem NR.tail{r:Run}{rs:List Run}(h:NR (r::rs)):NR rs:=⟨λs l=>h.1 s (by simp[l]),(cC.mp h.2).2⟩
theorem NR.ahead{r:Run}{rs:List Run}(h:NR (r::rs)){x:Int}(hx:mR x rs):r.2<x:=by obtain⟨s,l,o,u⟩:=hx;have:=(cC.mp h.2).1 s l;lia
theorem NR.uniq:∀{rs ss:List Run},NR rs->NR ss->(∀x,mR x rs↔mR x ss)->rs=ss
 | [],[],_,_,_=>rfl
 | [],s::ss,_,h,e=>by exfalso;have:=h.1 s (by simp);exact Qa ((e s.1).mpr (JQ.mpr (.inl ⟨aM _,this⟩)))
 | r::rs,[],h,_,e=>by exfalso;have:=h.1 r (by simp);exact Qa ((e r.1).mp (JQ.mpr (.inl ⟨aM _,this⟩)))
 | r::rs,s::ss,hr,hs,e=>by
  have C:=hr.1 r (by simp);have s1:=hs.1 s (by simp);have a:∀x,mR x (r::rs)->r.1<=x:=λx hx=>by rcases JQ.mp hx with z|z;exact z.1;have:=hr.ahead z;lia
  have b:∀x,mR x (s::ss)->s.1<=x:=λx hx=>by rcases JQ.mp hx with z|z;exact z.1;have:=hs.ahead z;lia
  have o:r.1=s.1:=by have:=b r.1 ((e r.1).mp (JQ.mpr (.inl ⟨aM _,C⟩)));have:=a s.1 ((e s.1).mpr (JQ.mpr (.inl ⟨aM _,s1⟩)));lia
  have nr:¬mR r.2 (r::rs):=λz=>by rcases JQ.mp z with y|y;lia;have:=hr.ahead y;lia
  have ns:¬mR s.2 (s::ss):=λz=>by rcases JQ.mp z with y|y;lia;have:=hs.ahead y;lia
  have v:r.2=s.2:=by rcases kv r.2 s.2 with z|z|z;exact absurd ((e r.2).mpr (JQ.mpr (.inl ⟨by lia,z⟩))) nr;exact z;exact absurd ((e s.2).mp (JQ.mpr (.inl ⟨by lia,z⟩))) ns
  have u:r=s:=dR o v;subst u;rw[NR.uniq hr.tail hs.tail λx=>?_];have ex:=e x;rw[JQ,JQ]at ex;constructor;intro z;have:=hr.ahead z;rcases ex.mp (AZ z) with y|y;lia;exact y;intro z;have:=hs.ahead z;rcases ex.mpr (AZ z) with y|y;lia;exact y
def Qk(lo hi:Int)(h:Nat):Prop:=lo % 2 ^ h=0/\(2:Int) ^ h<=hi - lo/\¬(lo % 2 ^ (h+1)=0/\(2:Int) ^ (h+1)<=hi - lo)
theorem Ws{a b:Nat}(h:a<=b):((2:Int) ^ a)∣2 ^ b:=⟨2 ^ (b - a),by rw[<- dM];congr 1;lia⟩
theorem J1{a b:Nat}(h:a<=b):(2:Int) ^ a<=2 ^ b:=by
 obtain⟨c,e⟩:=Ws h;have pa:=Bd.JM a;have l:=Bd.JM b;have pc:0<c:=by rcases kv c 0 with z|z|z;have:=iG pa z;lia;subst z;lia;exact z
 rw[e];have:=gH (show(1:Int)<=c by lia) (show(0:Int)<=2 ^ a by lia);lia
theorem UU{lo:Int}{a b:Nat}(h:a<=b)(e:lo % 2 ^ b=0):lo % 2 ^ a=0:=by have d:((2:Int) ^ b)∣lo:=bO e;exact eG (Int.dvd_trans (Ws h) d)
theorem Qk.uniq{lo hi:Int}{h g:Nat}(a:Qk lo hi h)(b:Qk lo hi g):h=g:=by rcases cZ h g with z|z|z;exfalso;exact a.2.2 ⟨UU (show h+1<=g by lia) b.1,eP (J1 (show h+1<=g by lia)) b.2.1⟩;exact z;exfalso;exact b.2.2 ⟨UU (show g+1<=h by lia) a.1,eP (J1 (show g+1<=h by lia)) a.2.1⟩
def Jm:Int->Int->List (Int×Int)->Prop
 | lo,hi,[]=>lo=hi
 | lo,hi,b::r=>lo<hi/\b.1=lo/\0<=b.2/\Qk lo hi b.2.toNat/\Jm (lo+2 ^ b.2.toNat) hi r
theorem Jm.le:∀{bs:qB}{lo hi:Int},Jm lo hi bs->lo<=hi
 | [],_,_,h=>by have:_=_:=h;lia
 | b::r,lo,hi,h=>by have:=h.1;lia
theorem Jm.uniq:∀{bs cs:qB}{lo hi:Int},Jm lo hi bs->Jm lo hi cs->bs=cs
 | [],[],_,_,_,_=>rfl
 | [],c::cs,lo,hi,h,k=>by have:lo=hi:=h;have:=k.1;lia
 | b::bs,[],lo,hi,h,k=>by have:lo=hi:=k;have:=h.1;lia
 | b::bs,c::cs,lo,hi,h,k=>by
  obtain⟨C,I,N,u,x⟩:=h;obtain⟨L,G,J,v,o⟩:=k;have e:=u.uniq v;have l:b.2=c.2:=by lia
  have y:b=c:=dR (by lia) l;subst y;rw[Jm.uniq x o]
theorem Jm.mem:∀{bs:qB}{lo hi:Int},Jm lo hi bs->∀x,mB x bs↔lo<=x/\x<hi
 | [],lo,hi,h,x=>by have:lo=hi:=h;exact⟨λz=>absurd z UL,λz=>by omega⟩
 | b::r,lo,hi,h,x=>by obtain⟨v,u,C,y,o⟩:=h;have:=Jm.mem o x;have l:=Jm.le o;have p:=Bd.JM b.2.toNat;rw[VW,this];unfold eB;rw[u];omega
theorem Jm.blk{bits:Int}(C:0<=bits):∀{bs:qB}{lo hi:Int},Jm lo hi bs->0<=lo->hi<=2 ^ bits.toNat->Bks bits bs
 | [],_,_,_,_,_=>λb y=>nomatch y
 | b::r,lo,hi,h,l0,l1=>by
  obtain⟨R,L,J,x,u⟩:=h;have p:=Bd.JM b.2.toNat;have l:=Jm.le u;have G:=Jm.blk C u (by lia) l1;intro c hc;rcases aE.mp hc with rfl|hc;have y:c.2.toNat<=bits.toNat:=by rcases cj bits.toNat c.2.toNat with z|z;exfalso;have:=J1 (show bits.toNat+1<=c.2.toNat by lia);have p2:=Bd.JM bits.toNat;rw[bL]at this;have:=x.2.1;lia;exact z
  obtain⟨k,v⟩:=bO x.1;have I:0<=k:=by rcases fC k 0 with z|z;have:=iG p z;lia;exact z
  refine⟨J,by lia,k,I,by rw[L,v,b9],?_⟩;have e:(2:Int) ^ bits.toNat=2 ^ (bits - c.2).toNat*2 ^ c.2.toNat:=by rw[<- dM];congr 1;lia
  have up:k*2 ^ c.2.toNat<2 ^ (bits - c.2).toNat*2 ^ c.2.toNat:=by rw[<- e,b9,<- v];lia
  exact mz up (by lia);exact G c hc
theorem Jm.in:∀{bs:qB}{lo hi:Int},Jm lo hi bs->∀b∈bs,lo<=b.1/\eB b<=hi
 | [],_,_,_=>λb x=>nomatch x
 | b::r,lo,hi,h=>by obtain⟨y,u,G,C,o⟩:=h;have p:=Bd.JM b.2.toNat;have v:=Jm.in o;have l:=Jm.le o;intro c hc;rcases aE.mp hc with rfl|hc;unfold eB;rw[u];lia;have:=v c hc;lia
theorem Jm.pw:∀{bs:qB}{lo hi:Int},Jm lo hi bs->bs.Pairwise λa b=>eB a<=b.1
 | [],_,_,_=>.nil
 | b::r,lo,hi,h=>by obtain⟨x,v,C,y,u⟩:=h;refine .cons (λc hc=>?_) (Jm.pw u);have:=Jm.in u c hc;unfold eB;rw[v];lia
theorem zho:∀{bs:qB}{lo hi:Int}{k:Nat},Jm lo hi bs->lo % 2 ^ k=0->hi - lo<2 ^ k->bs.length<=k
 | [],_,_,_,_,_,_=>eD _
 | b::r,lo,hi,k,h,d,l=>by
  obtain⟨v,x,C,o,u⟩:=h;have y:b.2.toNat<k:=by rcases cj b.2.toNat k with z|z;exact z;have:=J1 z;have:=o.2.1;lia
  have up:¬(2:Int) ^ (b.2.toNat+1)<=hi - lo:=λz=>o.2.2 ⟨UU (show b.2.toNat+1<=k by lia) d,z⟩;rw[bL]at up;have:=zho (k:=b.2.toNat) u (by rw[nT,o.1];simp) (by lia);rw[aL];lia
theorem zhn{K:Nat}:∀{bs:qB}{lo hi:Int}{k:Nat},Jm lo hi bs->lo % 2 ^ k=0->hi - lo<2 ^ K->k<=K->bs.length<=(K - k)+K
 | [],_,_,_,_,_,_,_=>eD _
 | b::r,lo,hi,k,h,d,l,hkK=>by
  obtain⟨I,J,G,o,u⟩:=h;have p:=Bd.JM b.2.toNat;have y:b.2.toNat<K:=by rcases cj b.2.toNat K with z|z;exact z;have:=J1 z;have:=o.2.1;lia
  rw[aL];by_cases up:(2:Int) ^ (b.2.toNat+1)<=hi - lo;have nd:¬lo % 2 ^ (b.2.toNat+1)=0:=λz=>o.2.2 ⟨z,up⟩;have C:k<=b.2.toNat:=by rcases cj b.2.toNat k with z|z;exact absurd (UU (show b.2.toNat+1<=k by lia) d) nd;exact z
  have d':(lo+2 ^ b.2.toNat) % 2 ^ (b.2.toNat+1)=0:=by
   obtain⟨q,eq⟩:=bO o.1;have v:(2:Int) ^ (b.2.toNat+1)=2 ^ b.2.toNat*2:=bL _ _;rw[v]at nd ⊢;have odd:q % 2=1:=by rcases tP q with z|z;exfalso;obtain⟨t,x⟩:=bO z;apply nd;apply eG;exact⟨t,by rw[eq,x,bN]⟩;exact z
   apply eG;refine⟨(q+1) / 2,?_⟩;have:q+1=2*((q+1) / 2):=by lia
   rw[eq,bN,<- this,oY,mO]
  have:=zhn (K:=K) (k:=b.2.toNat+1) u d' (by lia) (by lia);lia;rw[bL]at up;have:=zho (k:=b.2.toNat) u (by rw[nT,o.1];simp) (by lia);lia
theorem Jm.len{bs:qB}{lo hi:Int}(h:Jm lo hi bs)(o:0<=lo)(l:hi<=2 ^ 64):bs.length<=130:=by have:=zhn (K:=65) (k:=0) h (by simp) (by have e:(2:Int) ^ 65=2*2 ^ 64:=(by decide);omega) (by decide);omega
theorem zj6{lo hi:Int}(h:lo<hi):∃g,Qk lo hi g:=by
 have key:∀(d k:Nat),lo % 2 ^ k=0->(2:Int) ^ k<=hi - lo->(hi - lo).toNat<2 ^ (k+d)->∃g,Qk lo hi g:=by
  intro d;induction d with
  | zero =>
   intro k _ b c;exfalso;have:((2 ^ k:Nat):Int)=(2:Int) ^ k:=by rw[gU];rfl
   rw[Nat.add_zero]at c;lia
  | succ d l =>intro k a b c;by_cases z:lo % 2 ^ (k+1)=0/\(2:Int) ^ (k+1)<=hi - lo;exact l (k+1) z.1 z.2 (by rw[show k+1+d=k+(d+1) by lia];exact c);exact⟨k,a,b,z⟩
 refine key (hi - lo).toNat 0 (by simp) (by simp;lia) ?_;rw[cY];exact Nat.lt_two_pow_self
theorem zlN:∀(n:Nat) (lo hi:Int),(hi - lo).toNat<=n->lo<=hi->∃bs,Jm lo hi bs:=by
 intro n;induction n with
 | zero =>intro lo hi h l;exact⟨[],by show lo=hi;lia⟩
 | succ n u =>intro lo hi h l;by_cases z:lo<hi;obtain⟨g,G⟩:=zj6 z;have p:=Bd.JM g;have:=G.2.1;obtain⟨bs,B⟩:=u (lo+2 ^ g) hi (by lia) (by lia);exact⟨(lo,(g:Int))::bs,z,rfl,by show(0:Int)<=(g:Int);lia,by simpa using G,by simpa using B⟩;exact⟨[],by show lo=hi;lia⟩
def PatS:List Run->List (Int×Int)->Prop
 | [],ps=>ps=[]
 | r::rs,ps=>∃a b,ps=a++b/\Jm r.1 r.2 a/\PatS rs b
theorem PatS.uniq:∀{rs:List Run}{ps qs:qB},PatS rs ps->PatS rs qs->ps=qs
 | [],_,_,h,k=>by rw[show _=[] from h,show _=[] from k]
 | r::rs,_,_,h,k=>by obtain⟨a,b,rfl,l,u⟩:=h;obtain⟨c,d,rfl,v,o⟩:=k;rw[l.uniq v,PatS.uniq u o]
theorem PatS.mem:∀{rs:List Run}{ps:qB},PatS rs ps->∀x,mB x ps↔mR x rs
 | [],_,h,x=>by cases(show _=[] from h);exact⟨λz=>absurd z UL,λz=>absurd z Qa⟩
 | r::rs,_,h,x=>by obtain⟨a,b,rfl,l,o⟩:=h;rw[VL,JQ,l.mem x,PatS.mem o x]
theorem PatS.blk{bits:Int}(o:0<=bits):∀{rs:List Run}{ps:qB},PatS rs ps->(∀r∈rs,0<=r.1/\r.2<=2 ^ bits.toNat)->Bks bits ps
 | [],_,h,_=>by cases(show _=[] from h);exact λb y=>nomatch y
 | r::rs,_,h,w=>by obtain⟨a,b,rfl,u,x⟩:=h;have l:=w r (by simp);intro c hc;rcases aC.mp hc with hc|hc;exact u.blk o l.1 l.2 c hc;exact PatS.blk o x (λs v=>w s (by simp[v])) c hc
theorem PatS.in:∀{rs:List Run}{ps:qB},PatS rs ps->∀b∈ps,∃r∈rs,r.1<=b.1/\eB b<=r.2
 | [],_,h=>by cases(show _=[] from h);exact λb v=>nomatch v
 | r::rs,_,h=>by obtain⟨a,b,rfl,l,u⟩:=h;intro c hc;rcases aC.mp hc with hc|hc;exact⟨r,by simp,l.in c hc⟩;obtain⟨s,o,q⟩:=PatS.in u c hc;exact⟨s,by simp[o],q⟩
theorem PatS.pw:∀{rs:List Run}{ps:qB},PatS rs ps->NR rs->ps.Pairwise λa b=>eB a<=b.1
 | [],_,h,_=>by cases(show _=[] from h);exact .nil
 | r::rs,_,h,nr=>by obtain⟨a,b,rfl,o,u⟩:=h;rw[cw];refine⟨o.pw,PatS.pw u nr.tail,λx hx y C=>?_⟩;have:=o.in x hx;obtain⟨s,v,q⟩:=PatS.in u y C;have:=(cC.mp nr.2).1 s v;lia
theorem PatS.len:∀{rs:List Run}{ps:qB},PatS rs ps->(∀r∈rs,0<=r.1/\r.2<=2 ^ 64)->ps.length<=130*rs.length
 | [],_,h,_=>by cases(show _=[] from h);simp
 | r::rs,_,h,w=>by obtain⟨a,b,rfl,o,v⟩:=h;have l:=w r (by simp);have:=o.len l.1 l.2;have:=PatS.len v λs u=>w s (by simp[u]);rw[aW,aL];lia
def CanP(S:Int->Prop)(ps:qB):Prop:=∃rs,NR rs/\(∀x,mR x rs↔S x)/\PatS rs ps
theorem CanP.uniq{S T:Int->Prop}{ps qs:qB}(h:CanP S ps)(k:CanP T qs)(e:∀x,S x↔T x):ps=qs:=by
 obtain⟨rs,l,u,C⟩:=h;obtain⟨ss,y,o,v⟩:=k;have:rs=ss:=l.uniq y λx=>by rw[u,o,e]
 subst this;exact C.uniq v
theorem CanP.mem{S:Int->Prop}{ps:qB}(h:CanP S ps)(x:Int):mB x ps↔S x:=by obtain⟨rs,u,l,o⟩:=h;rw[o.mem,l]
theorem CanP.ptc{S:Int->Prop}{ps:qB}{bits:Int}(y:0<=bits)(h:CanP S ps)(w:∀x,S x->0<=x/\x<2 ^ bits.toNat):Ptc bits ps:=by obtain⟨rs,o,u,v⟩:=h;refine⟨v.blk y λr l=>?_,v.pw o⟩;have lt:=o.1 r l;have a:=w r.1 ((u _).mp ⟨r,l,aM _,lt⟩);have b:=w (r.2 - 1) ((u _).mp ⟨r,l,by lia,by lia⟩);lia
section
variable{X:Cx}{a:a8}{da:DTE}{ρ:En}{n:Nat}{R:qN}
theorem zmI:MtR X "int.bit_length" (λx xs H Q=>∃i,x=.int i/\xs=[]/\Q (.int (gr i)) H):=by intro pins s σ H x xs v o Q I l rs h;obtain⟨i,rfl,rfl,q⟩:=h;obtain⟨t,rfl⟩:=l;cases rs;exact call_int_bit_length ⟨.int _,H,I.tok _,⟨_,rfl⟩,q⟩
def znE(d:DTE):DTE:=λρ n R=>d ρ n λt l=>lInt t λi=>R (.int (gr i)) l
theorem zih{p2 p3:Pos}(h:DL X a da)(N:attributeBase a "bit_length" X.env (eval a X.env)=eval a X.env:=by rfl) (y:(p2.endLine == p3.line)=be:=by rfl):DE X (.Call (.Attribute a "bit_length" p2) [] [] p3) (znE da):=by
 obtain⟨U,pa,h⟩:=h;refine⟨_,ztk PySem.F.plainAttrs_int slot_int_bit_length type_int_bit_length zmI pa N y,λC ρ σ H n Q R S hd x=>?_⟩;refine h C ρ σ H n _ _ S hd λt I v o r J L G=>?_;cases t with
 | int i =>rw[G.intI];exact⟨rfl,i,rfl,rfl,x _ I _ o r J L (.int _)⟩
 | _=>exact r.elim
instance zvK:Stp (znE da ρ n R) (da ρ n λt n1=>lInt t λi=>R (.int (gr i)) n1):=⟨λh=>h⟩
end
theorem zfd{i:Int}(h:0<i):(gr i:Int) - 1=(i.toNat.log2:Int):=by
 unfold gr;have:(i == 0)=bj:=by simp;lia
 rw[this];have e:i.natAbs=i.toNat:=by lia
 rw[e];simp
theorem zmU{i:Int}(h:0<i):(2:Int) ^ i.toNat.log2<=i:=by
 have:=Nat.log2_self_le (n:=i.toNat) (by lia);have e:((2 ^ i.toNat.log2:Nat):Int)=(2:Int) ^ i.toNat.log2:=by rw[gU];rfl
 lia
theorem zmR{i:Int}(h:0<i):i<(2:Int) ^ (i.toNat.log2+1):=by
 have:=Nat.lt_log2_self (n:=i.toNat);have e:((2 ^ (i.toNat.log2+1):Nat):Int)=(2:Int) ^ (i.toNat.log2+1):=by rw[gU];rfl
 lia
theorem zmW(t:Nat):∀x:Nat,x % 2 ^ t=0->¬x % 2 ^ (t+1)=0->x - (x &&& (x - 1))=2 ^ t:=by
 induction t with
 | zero =>
  intro x _ h;have v:x % 2=1:=by
   have:¬x % 2=0:=by simpa using h
   lia
  have e:x &&& (x - 1)=x - 1:=by
   apply oZ;intro i;rw[oh];cases i with
   | zero =>
    have:(x - 1).testBit 0=bj:=by rw[nC];simp;lia
    rw[this,uz]
   | succ i =>
    have:x / 2=(x - 1) / 2:=by lia
    rw[iA,iA,this,Bool.and_self]
  rw[e];simp;omega
 | succ t o =>
  intro x l u;have ev:x % 2=0:=by have:2∣2 ^ (t+1):=⟨2 ^ t,by rw[lN,rR]⟩;exact kE (Nat.dvd_trans this (kF l))
  have hx:x=2*(x / 2):=by lia
  have p1:(x / 2) % 2 ^ t=0:=by
   obtain⟨q,e⟩:=kF l;apply kE;refine⟨q,?_⟩;rw[lN]at e;have:x=2*(2 ^ t*q):=by rw[e];rw[rR (2 ^ t) 2,vW]
   lia
  have p2:¬(x / 2) % 2 ^ (t+1)=0:=λz=>by obtain⟨q,e⟩:=kF z;apply u;apply kE;refine⟨q,?_⟩;rw[lN,rR (2 ^ (t+1)) 2,vW,<- e];exact hx
  have:=o (x / 2) p1 p2;have e:x &&& (x - 1)=2*(x / 2 &&& (x / 2 - 1)):=by
   apply oZ;intro i;rw[oh];cases i with
   | zero =>
    have a:x.testBit 0=bj:=by rw[nC];simp;omega
    rw[a,lT,nC];simp
   | succ i =>
    have y:0<x / 2:=by rcases p8 (x / 2) with z|z;rw[z]at p2;simp at p2;exact z
    have b:(x - 1) / 2=x / 2 - 1:=by lia
    rw[iA,iA,iA,b,Nat.mul_div_cancel_left _ (by decide:0<2),oh]
  rw[e,lN];have le:(x / 2 &&& (x / 2 - 1))<=x / 2:=tQ;lia
theorem zr8{b:Int}(h:0<b){t:Nat}(l:b % 2 ^ t=0)(u:¬b % 2 ^ (t+1)=0):fJ b (-b)=2 ^ t:=by
 have e:fJ b (-b)=b - ((b.toNat &&& (b.toNat - 1):Nat):Int):=by
  have h0:decide (0<=b)=be:=decide_eq_true (by lia);have v:decide (0<=-b)=bj:=decide_eq_false (by lia);show(match decide (0<=b),decide (0<=-b) with
   | true,be=>((b.toNat &&& (-b).toNat:Nat):Int)
   | true,bj=>b - ((b.toNat &&& (gF (-b)).toNat:Nat):Int)
   | false,be=>(-b) - (((-b).toNat &&& (gF b).toNat:Nat):Int)
   | false,bj=>gF (((gF b).toNat|||(gF (-b)).toNat:Nat):Int))=_
  rw[h0,v];have:(gF (-b)).toNat=b.toNat - 1:=by
   have:gF (-b)=b - 1:=by show -(-b) - 1=b - 1;lia
   rw[this];lia
  rw[this]
 have cast:∀k:Nat,b % (2:Int) ^ k=((b.toNat % 2 ^ k:Nat):Int):=λk=>by rw[Int.natCast_emod,gU,Int.toNat_of_nonneg (by lia)];rfl
 rw[cast]at l u;have:=zmW t b.toNat (by lia) (by lia);have le:(b.toNat &&& (b.toNat - 1))<=b.toNat:=tQ;rw[e];have x:((2 ^ t:Nat):Int)=(2:Int) ^ t:=by rw[gU];rfl
 omega
theorem zvP{b:Int}(h:0<b):∃t:Nat,b % 2 ^ t=0/\¬b % 2 ^ (t+1)=0:=by obtain⟨g,G⟩:=zj6 (lo:=b) (hi:=b+b+1) (by lia);refine⟨g,G.1,λz=>?_⟩;have d:=bO z;have:=Int.le_of_dvd h d;exact G.2.2 ⟨z,by lia⟩
theorem zjX{xs:qD}{x:af}:ixN (xs++[x]).length (-1)=ao xs.length:=by unfold ixN;simp;lia
theorem zjV{xs:qD}{x:af}{Q:af->Prop}(h:Q x):oIx (.list (xs++[x])) (.int (-1)) Q:=by
 have e:atI (xs++[x]) (-1)=ao x:=by unfold atI;rw[zjX];simp
 rw[Yi e];exact h
end L2
namespace Bd
open PySem L2
def ppD(xs:List (af×af)):List af:=xs.map λp=>.tuple [p.1,p.2]
def oD(os:List ((Int×Int)×Str)):List af:=os.map λp=>.tuple [prD p.1,.str p.2]
def Shr(bits:Int)(os:List ((Int×Int)×Str)):Prop:=Ptc bits (os.map (·.1))/\∀p∈os,IsNm p.2
theorem zwC(os:List ((Int×Int)×Str)):oD os=ppD (os.map λp=>(prD p.1,.str p.2)):=by unfold oD ppD;rw[cy];rfl
def apB(a b:Int×Int):Prop:=eB a<=b.1\/eB b<=a.1
def okPr(p q:(Int×Int)×Str):Prop:=p.2=q.2\/apB p.1 q.1
def Agr(os ks:List ((Int×Int)×Str)):Prop:=∀p∈os,∀q∈ks,okPr p q
abbrev Deal:=Int×List ((Int×Int)×Str)×List ((Int×Int)×Str)
def dlD(d:Deal):af:=.tuple [.int d.1,.tuple (oD d.2.1),.tuple (oD d.2.2)]
def Dl(d:Deal):Prop:=1<=d.1/\d.1<=64/\Shr d.1 d.2.1/\Shr d.1 d.2.2/\Agr d.2.1 d.2.2
end Bd
namespace L2
open PySem PySem.Spec PyProof.Rows
section
variable{X:Cx}{tg iter:a8}{d:DTE}
def iSeq(K:qF)(o:TE):TI:=λσ H R=>o σ H λx l=>∃a,x=.ref a/\(((∃xs,SqL K l a xs)/\R (Itl K a) l)\/((∃xs,SqT K l a xs)/\R (Itt K a) l))
theorem zta{l:a8}{N:TE}(S:PE X l N):PI X tg l (iSeq X.K N):=by
 intro pins s σ H R I h;refine thn (S pins s σ H _ I h) λv s1 J=>?_;obtain⟨x,L,u,Y,C⟩:=J;obtain⟨a,e,C⟩:=C;subst e;cases Y;rcases C with⟨⟨xs,y⟩,q⟩|⟨⟨xs,y⟩,q⟩;obtain⟨its,U,p,hz⟩:=u.list y;refine gZ p.isList ?_;refine⟨s1.heap.objs.size,[s1.heap.objs.size],_,_,L,rfl,u.kept (t':=s1.toks) λb o e=>aj _ e,zhf a _,⟨_,aD _ rfl,rfl,rfl⟩,λb G=>?_,q⟩;have e:b=s1.heap.objs.size:=by simpa using G
 subst e;exact u.fpOk (aB _) (u.hok.fresh (aB _));obtain⟨its,U,p,hz⟩:=u.tuple y;refine iY (show s1.heap.IsTuple a its.toArray from p) ?_;refine⟨s1.heap.objs.size,[s1.heap.objs.size],_,_,L,rfl,u.kept (t':=s1.toks) λb o e=>aj _ e,zfL a _,⟨_,aD _ rfl,rfl,rfl⟩,λb G=>?_,q⟩;have e:b=s1.heap.objs.size:=by simpa using G
 subst e;exact u.fpOk (aB _) (u.hok.fresh (aB _))
def dItA(d:DTE):DTA:=λo n R=>d o n λt l=>JN t λts=>R ts l
theorem zp5(h:DE X iter d):DI X tg iter (dItA d):=by
 obtain⟨L,pa,h⟩:=h;refine⟨_,zta pa,λC I σ H n Q R S hd u=>?_⟩;refine h C I σ H n _ _ S hd λt x v H' r y G q=>?_;cases t with
 | tuple ts =>obtain⟨p,vs,rfl,o,it⟩:=zpW (P:=λa=>¬Own C I σ a) (λ_ z=>z) q;exact⟨p,rfl,.inr ⟨⟨vs,o⟩,u ts x _ H' r y G it⟩⟩
 | list ts =>obtain⟨p,vs,rfl,o,no,J⟩:=q.lstI;exact⟨p,rfl,.inl ⟨⟨vs,SqL.of o⟩,u ts x _ H' r y G (VU o no (λ_ z=>z) J)⟩⟩
 | _=>exact r.elim
end
section
variable{ρ:En}{n:Nat}{d:DTE}{Rl:qD->Nat->Prop}
instance zxN:Stp (dItA d ρ n Rl) (d ρ n λt n'=>JN t λts=>Rl ts n'):=⟨λh=>h⟩
end
theorem Z6{bits:Int}{p q:Int×Int}(P:IsBk bits p.1 p.2)(Q:IsBk bits q.1 q.2){x:Int}(u:p.1<=x/\x<eB p)(o:q.1<=x/\x<eB q):(p.1<=q.1/\eB q<=eB p/\q.2<=p.2)\/(q.1<=p.1/\eB p<=eB q/\p.2<=q.2):=by unfold eB at *;rcases xa q.2.toNat p.2.toNat with l|l;rcases zir P.n Q.n l with z|z|z;left;have:=(zi0 P.n Q.n).mp z;have:=P.1;have:=Q.1;omega;omega;omega;rcases zir Q.n P.n l with z|z|z;right;have:=(zi0 Q.n P.n).mp z;have:=P.1;have:=Q.1;omega;omega;omega
theorem zn0{bits i h:Int}(B:IsBk bits i h):i % 2 ^ h.toNat=0:=by obtain⟨_,_,k,_,rfl,_⟩:=B;exact rS _ _
theorem Jm.great:∀{bs:qB}{lo hi:Int},Jm lo hi bs->∀b∈bs,Qk b.1 hi b.2.toNat/\lo<=b.1
 | [],_,_,_=>λb v=>nomatch v
 | b::r,lo,hi,h=>by obtain⟨x,l,y,o,u⟩:=h;have p:=Bd.JM b.2.toNat;intro c hc;rcases aE.mp hc with rfl|hc;rw[l];exact⟨o,aM _⟩;have:=Jm.great u c hc;exact⟨this.1,by lia⟩
theorem Jm.max{bits:Int}(Y:0<=bits){bs:qB}{lo hi:Int}(S:Jm lo hi bs)(l0:0<=lo)(l1:hi<=2 ^ bits.toNat){p q:Int×Int}(v:p∈bs)(Q:IsBk bits q.1 q.2)(w:lo<=q.1/\eB q<=hi)(i:q.1<=p.1/\eB p<=eB q):q=p:=by
 have B:=S.blk Y l0 l1;have P:=B p v;have pp:=Bd.JM p.2.toNat;have pq:=Bd.JM q.2.toNat;have nest:=Z6 P Q (x:=p.1) ⟨aM _,by unfold eB;lia⟩ ⟨i.1,by unfold eB at *;lia⟩;have hle:p.2<=q.2:=by
  rcases nest with⟨a,b,c⟩|⟨a,b,c⟩;have u:p.1=q.1:=by lia
  have y:eB p=eB q:=by lia
  unfold eB at y;rcases fC q.2 p.2 with z|z;have p0:=P.1;have q0:=Q.1;have:=J1 (show q.2.toNat+1<=p.2.toNat by lia);rw[bL]at this;lia;exact z;exact c
 have p0:=P.1;have q0:=Q.1;by_cases e:p.2=q.2;have u:(2:Int) ^ p.2.toNat=2 ^ q.2.toNat:=by rw[e]
 have:q.1=p.1:=by unfold eB at *;lia
 exact dR this e.symm;exfalso;have J:p.2.toNat+1<=q.2.toNat:=by lia
 have dq:=zn0 Q;have L:=UU J dq;have G:=(S.great p v).1;by_cases ev:p.1 % 2 ^ (p.2.toNat+1)=0;apply G.2.2;refine⟨ev,?_⟩;obtain⟨a,l⟩:=bO ev;have de:eB q % 2 ^ (p.2.toNat+1)=0:=by unfold eB;rw[nT,L,eG (Ws J)];simp
 obtain⟨c,I⟩:=bO de;have lt:p.1<eB q:=by have:=i.2;unfold eB at *;lia
 rw[l,I]at lt;have pos:=Bd.JM (p.2.toNat+1);have ac:a<c:=mI lt (by lia);have:=gH (show a+1<=c by lia) (show(0:Int)<=2 ^ (p.2.toNat+1) by lia);rw[oY,mO,<- l,<- I]at this;lia;have Z:(p.1 - 2 ^ p.2.toNat) % 2 ^ (p.2.toNat+1)=0:=by
  obtain⟨k,ek⟩:=bO (zn0 P);have y:(2:Int) ^ (p.2.toNat+1)=2 ^ p.2.toNat*2:=bL _ _;rw[y]at ev ⊢;have odd:k % 2=1:=by rcases tP k with z|z;exfalso;obtain⟨t,et⟩:=bO z;apply ev;apply eG;exact⟨t,by rw[ek,et,bN]⟩;exact z
  apply eG;refine⟨(k - 1) / 2,?_⟩;have:k - 1=2*((k - 1) / 2):=by lia
  rw[ek,bN,<- this,Int.mul_sub,mO]
 have lowq:q.1<=p.1 - 2 ^ p.2.toNat:=by
  obtain⟨a,l⟩:=bO Z;obtain⟨c,I⟩:=bO L;have pos:=Bd.JM (p.2.toNat+1);have y:(2:Int) ^ (p.2.toNat+1)=2 ^ p.2.toNat*2:=bL _ _;have lt:q.1<p.1 - 2 ^ p.2.toNat+2 ^ (p.2.toNat+1):=by lia
  rw[l,I]at lt;have:(2:Int) ^ (p.2.toNat+1)*c<2 ^ (p.2.toNat+1)*(a+1):=by rw[oY,mO];exact lt
  have ca:=mI this (by lia);have:=gH (show c<=a by lia) (show(0:Int)<=2 ^ (p.2.toNat+1) by lia);rw[<- l,<- I]at this;exact this
 obtain⟨c,hc,c1,c2⟩:=(S.mem (p.1 - 2 ^ p.2.toNat)).mpr ⟨by lia,by have:=S.in p v;unfold eB at this;lia⟩;have C:=B c hc;have pc:=Bd.JM c.2.toNat;have cp:eB c<=p.1:=by obtain⟨U,h1,rfl⟩:=a9 hc;obtain⟨i2,h2,rfl⟩:=a9 v;rcases cZ U i2 with z|z|z;exact aR.mp S.pw U i2 h1 h2 z;subst z;lia;have:=aR.mp S.pw i2 U h2 h1 z;unfold eB at this;lia
 have LB:IsBk bits (p.1 - 2 ^ p.2.toNat) (p.2+1):=by
  have hq1:=Q.2.1;obtain⟨a,l⟩:=bO Z;have u:(p.2+1).toNat=p.2.toNat+1:=by lia
  have pos:=Bd.JM (p.2.toNat+1);have a0:0<=a:=by rcases fC a 0 with z|z;have:=iG pos z;have:=(Q.bounds Y).1;lia;exact z
  refine⟨by lia,by lia,a,a0,by rw[u,l,b9],?_⟩;have e:(2:Int) ^ bits.toNat=2 ^ (bits - (p.2+1)).toNat*2 ^ (p.2.toNat+1):=by rw[<- dM];congr 1;lia
  have up:a*2 ^ (p.2.toNat+1)<2 ^ (bits - (p.2+1)).toNat*2 ^ (p.2.toNat+1):=by rw[<- e,b9,<- l];have:=(P.bounds Y).2;lia
  exact mz up (by lia)
 have u:(p.2+1).toNat=p.2.toNat+1:=by lia
 have n3:=Z6 (p:=c) (q:=(p.1 - 2 ^ p.2.toNat,p.2+1)) C LB (x:=p.1 - 2 ^ p.2.toNat) ⟨c1,c2⟩ ⟨aM _,by show _<_+2 ^ (p.2+1).toNat;have:=Bd.JM (p.2+1).toNat;lia⟩;have eL:eB (p.1 - 2 ^ p.2.toNat,p.2+1)=p.1+2 ^ p.2.toNat:=by show p.1 - 2 ^ p.2.toNat+2 ^ (p.2+1).toNat=_;rw[u,bL];lia
 rcases n3 with⟨z1,z2,R⟩|⟨z1,z2,R⟩;lia;have z1:p.1 - 2 ^ p.2.toNat<=c.1:=z1;have R:c.2<=p.2+1:=R;have cb:c.1=p.1 - 2 ^ p.2.toNat:=by lia
 have c0:=C.1;have ch:c.2<=p.2:=by
  rcases fC p.2 c.2 with z|z;have:c.2=p.2+1:=by lia
  unfold eB at cp;rw[this,u,bL]at cp;lia;exact z
 have Gc:=(S.great c hc).1;apply Gc.2.2;refine⟨?_,?_⟩;rw[cb];exact UU (show c.2.toNat+1<=p.2.toNat+1 by lia) Z;have:=J1 (show c.2.toNat+1<=p.2.toNat+1 by lia);have y:(2:Int) ^ (p.2.toNat+1)=2 ^ p.2.toNat*2:=bL _ _;have:=S.in p v;unfold eB at this;lia
theorem NR.one{rs:List Run}(nr:NR rs){a b:Int}(h:a<b)(w:∀x,a<=x->x<b->mR x rs):∃r∈rs,r.1<=a/\b<=r.2:=by obtain⟨r,l,v,L⟩:=w a (aM _) h;refine⟨r,l,v,?_⟩;rcases fC r.2 b with z|z;exfalso;obtain⟨s,o,I,J⟩:=w r.2 (by lia) z;obtain⟨i,hi,rfl⟩:=a9 l;obtain⟨j,u,rfl⟩:=a9 o;have G:=nr.1 _ l;have C:=nr.1 _ o;rcases cZ i j with y|y|y;have:=aR.mp nr.2 i j hi u y;lia;subst y;lia;have:=aR.mp nr.2 j i u hi y;lia;exact z
theorem PatS.from:∀{rs:List Run}{ps:qB},PatS rs ps->∀p∈ps,∃r∈rs,∃bs,Jm r.1 r.2 bs/\p∈bs
 | [],_,h=>by cases(show _=[] from h);exact λb o=>nomatch o
 | s::rs,_,h=>by obtain⟨a,b,rfl,u,v⟩:=h;intro p l;rcases aC.mp l with l|l;exact⟨s,by simp,a,u,l⟩;obtain⟨r,x,bs,B,o⟩:=PatS.from v p l;exact⟨r,by simp[x],bs,B,o⟩
theorem CanP.max{bits:Int}(J:0<=bits){S:Int->Prop}{ps:qB}(h:CanP S ps)(w:∀x,S x->0<=x/\x<2 ^ bits.toNat){p q:Int×Int}(N:p∈ps)(Q:IsBk bits q.1 q.2)(U:∀x,q.1<=x->x<eB q->S x)(i:q.1<=p.1/\eB p<=eB q):q=p:=by
 obtain⟨rs,nr,me,P⟩:=h;obtain⟨r,l,bs,B,I⟩:=P.from p N;have lt:=nr.1 r l;have L:=w r.1 ((me _).mp ⟨r,l,aM _,lt⟩);have Y:=w (r.2 - 1) ((me _).mp ⟨r,l,by lia,by lia⟩);have pin:=B.in p I;have pp:=J9 p;obtain⟨s,R,s1,s2⟩:=nr.one (a:=q.1) (b:=eB q) (J9 q) λx o u=>(me x).mpr (U x o u);have C:r=s:=by obtain⟨v,o,rfl⟩:=a9 l;obtain⟨G,u,rfl⟩:=a9 R;rcases cZ v G with y|y|y;have:=aR.mp nr.2 v G o u y;lia;subst y;rfl;have:=aR.mp nr.2 G v u o y;lia
 subst C;exact B.max J L.1 (by lia) I Q ⟨s1,s2⟩ i
theorem zh2:∀{ps bs:qB},(ps.Pairwise λa b=>eB a<=b.1)->(∀p∈ps,∃b∈bs,p.1<=b.1/\b.1<eB p)->ps.length<=bs.length
 | [],_,_,_=>eD _
 | p::ps,bs,pw,h=>by
  obtain⟨b,u,y,C⟩:=h p (by simp);have l:=cC.mp pw;have:=zh2 (ps:=ps) (bs:=bs.erase b) l.2 λq o=>by obtain⟨c,hc,x,v⟩:=h q (by simp[o]);refine⟨c,(lh ?_).mpr hc,x,v⟩;rintro rfl;have:=l.1 q o;lia
  have e:=iN u;have:=kG u;rw[aL];lia
theorem CanP.le{bits:Int}(y:0<=bits){bs ps:qB}(B:Bks bits bs)(h:CanP (λx=>mB x bs) ps):ps.length<=bs.length:=by
 have w:∀x,mB x bs->0<=x/\x<2 ^ bits.toNat:=λx ⟨b,l,G,v⟩=>by have:=(B b l).bounds y;unfold eB at v;omega
 have P:=h.ptc y w;refine zh2 P.2 λp C=>?_;have pp:=J9 p;obtain⟨b,l,G,v⟩:=(h.mem p.1).mp ⟨p,C,aM _,pp⟩;rcases Z6 (P.1 p C) (B b l) (x:=p.1) ⟨aM _,pp⟩ ⟨G,v⟩ with z|z;exact⟨b,l,z.1,by have:=J9 b;omega⟩;have:=h.max y w C (B b l) (λx J I=>⟨b,l,J,I⟩) ⟨z.1,z.2.1⟩;subst this;exact⟨b,l,aM _,pp⟩
section
variable{Q:af->Prop}{s t:Str}{i j:Int}{b:Bool}{xs ys:qD}
theorem zmA:Okd .none:=zoR.okd
instance zxx:Stp (oNe (.str s) .none Q) (Okd (.str s)/\Q (.bool be)):=⟨λh=>⟨h.1,zmA,h.2⟩⟩
end
end L2
namespace Bd
open PySem L2
def zu5(nm:af):Prop:=nm=.none\/∃s,nm=.str s/\IsNm s
def who(s:Str):af->Bool
 | .str t=>decide (s=t)
 | _=>false
def Qy(d:Deal)(nm:af):List (Int×Int):=(d.2.2.filter λp=>!who p.2 nm).map (·.1)
end Bd
namespace L2
open PySem Bd
theorem ztE{o:List Run}{a:Nat}{p:Run}(e:o[a]?=ao p)(x:Int):mR x (o.take (a+1))↔mR x (o.take a)\/(p.1<=x/\x<p.2):=by rw[dD,e,QR];constructor;rintro(z|⟨r,u,h⟩);exact .inl z;cases aA.mp u;exact .inr h;rintro(z|z);exact .inl z;exact .inr ⟨p,by simp,z⟩
theorem zjO{o:List Run}{a:Nat}{p:Run}(e:o[a]?=ao p){x:Int}(h:mR x o):mR x (o.take a)\/(p.1<=x/\x<p.2)\/∃r∈o.drop (a+1),r.1<=x:=by obtain⟨r,y,u,v⟩:=h;obtain⟨i,hi,rfl⟩:=a9 y;have C:=(aw.mp e).1;rcases cZ i a with z|z|z;exact .inl ⟨o[i],iF.mpr ⟨i,by omega,rfl⟩,u,v⟩;subst z;rw[au hi]at e;cases e;exact .inr (.inl ⟨u,v⟩);refine .inr (.inr ⟨o[i],?_,u⟩);rw[mJ];exact⟨i - (a+1),by omega,by congr 1;omega⟩
theorem NR.beyond{l:List Run}(n:NR l){a:Nat}{p:Run}(e:l[a]?=ao p):∀r∈l.drop (a+1),p.2<r.1:=λr u=>by obtain⟨i,hi,rfl⟩:=mJ.mp u;have o:=(aw.mp e).1;have:=aR.mp n.2 a (a+1+i) o (by omega) (by omega);rw[au o]at e;cases e;exact this
structure ShI(as bs cs:List Run)(a b:Nat):Prop where
 nr:NR cs
 me:∀x,mR x cs↔mR x as/\mR x bs/\(mR x (as.take a)\/mR x (bs.take b))
 gp:∀c∈cs,∀r∈as.drop a,∀s∈bs.drop b,c.2<max r.1 s.1
 ln:cs.length<=a+b
def shr2(p q:Run):List Run:=if max p.1 q.1<min p.2 q.2 then[(max p.1 q.1,min p.2 q.2)] else[]
theorem zjN{p q:Run}{x:Int}:mR x (shr2 p q)↔(p.1<=x/\x<p.2)/\(q.1<=x/\x<q.2):=by unfold shr2;split;constructor;rintro⟨r,l,h⟩;cases aA.mp l;dsimp only at h;omega;intro h;exact⟨_,aA.mpr rfl,by dsimp only;omega,by dsimp only;omega⟩;exact⟨λz=>absurd z Qa,λz=>by omega⟩
theorem VQ{p q:Run}:∀c∈shr2 p q,c.1=max p.1 q.1/\c.2=min p.2 q.2/\c.1<c.2:=by unfold shr2;split;intro c hc;cases aA.mp hc;exact⟨rfl,rfl,by assumption⟩;intro c hc;cases hc
theorem zjw{p q:Run}:(shr2 p q).length<=1:=by unfold shr2;split <;> simp
variable{as bs cs:List Run}{a b:Nat}
theorem ShI.zero:ShI as bs [] 0 0:=⟨⟨λr l=>(nomatch l),g7⟩,λx=>⟨λz=>absurd z Qa,λz=>by rcases z.2.2 with y|y;exact absurd y Qa;exact absurd y Qa⟩,λc hc=>(nomatch hc),aB _⟩
theorem We{as:List Run}{a:Nat}{p:Run}(e:as[a]?=ao p):p∈as.drop a/\∀r∈as.drop (a+1),r∈as.drop a:=by obtain⟨h,rfl⟩:=aw.mp e;have e:=bG h;exact⟨by rw[e];exact cL,λr l=>by rw[e];exact cn _ l⟩
theorem ShI.nrx(h:ShI as bs cs a b){p q:Run}(ep:as[a]?=ao p)(eq:bs[b]?=ao q):NR (cs++shr2 p q):=by refine⟨λr o=>?_,?_⟩;rcases aC.mp o with z|z;exact h.nr.1 r z;exact(VQ r z).2.2;rw[cw];refine⟨h.nr.2,?_,λc hc d hd=>?_⟩;unfold shr2;split;exact eH _ _;exact .nil;rw[(VQ d hd).1];exact h.gp c hc p (We ep).1 q (We eq).1
theorem ShI.stepA(h:ShI as bs cs a b)(nb:NR bs)(na:NR as){p q:Run}(ep:as[a]?=ao p)(eq:bs[b]?=ao q)(lt:p.2<q.2):ShI as bs (cs++shr2 p q) (a+1) b:=by have pa:p∈as:=ax ep;have G:q∈bs:=ax eq;refine⟨h.nrx ep eq,λx=>?_,λc hc r C s v=>?_,by have:=h.ln;have:=zjw (p:=p) (q:=q);rw[aW];omega⟩;rw[QR,h.me,zjN,ztE ep];constructor;rintro(⟨u,o,I⟩|⟨u,o⟩);exact⟨u,o,I.elim (λy=>.inl (.inl y)) .inr⟩;exact⟨⟨p,pa,u⟩,⟨q,G,o⟩,.inl (.inr u)⟩;rintro⟨u,o,(z|z)|z⟩;exact .inl ⟨u,o,.inl z⟩;rcases zjO eq o with y|y|⟨s,v,y⟩;exact .inl ⟨u,o,.inr y⟩;exact .inr ⟨z,y⟩;have:=nb.beyond eq s v;omega;exact .inl ⟨u,o,.inr z⟩;rcases aC.mp hc with z|z;exact h.gp c z r ((We ep).2 r C) s v;have:=na.beyond ep r C;have:=VQ c z;omega
theorem ShI.stepB(h:ShI as bs cs a b)(nb:NR bs)(na:NR as){p q:Run}(ep:as[a]?=ao p)(eq:bs[b]?=ao q)(lt:¬p.2<q.2):ShI as bs (cs++shr2 p q) a (b+1):=by have pa:p∈as:=ax ep;have C:q∈bs:=ax eq;refine⟨h.nrx ep eq,λx=>?_,λc hc r I s v=>?_,by have:=h.ln;have:=zjw (p:=p) (q:=q);rw[aW];omega⟩;rw[QR,h.me,zjN,ztE eq];constructor;rintro(⟨u,o,G⟩|⟨u,o⟩);exact⟨u,o,G.elim .inl (λy=>.inr (.inl y))⟩;exact⟨⟨p,pa,u⟩,⟨q,C,o⟩,.inr (.inr o)⟩;rintro⟨u,o,z|(z|z)⟩;exact .inl ⟨u,o,.inl z⟩;exact .inl ⟨u,o,.inr z⟩;rcases zjO ep u with y|y|⟨s,v,y⟩;exact .inl ⟨u,o,.inl y⟩;exact .inr ⟨y,z⟩;have:=na.beyond ep s v;omega;rcases aC.mp hc with z|z;exact h.gp c z r I s ((We eq).2 s v);have:=nb.beyond eq s v;have:=VQ c z;omega
theorem ShI.fin(h:ShI as bs cs a b)(e:as.length<=a\/bs.length<=b)(x:Int):mR x cs↔mR x as/\mR x bs:=by rw[h.me];refine⟨λz=>⟨z.1,z.2.1⟩,λz=>⟨z.1,z.2,?_⟩⟩;rcases e with e|e;exact .inl (by rw[cM e];exact z.1);exact .inr (by rw[cM e];exact z.2)
end L2
namespace L2
open PySem PySem.Spec PyProof.Rows
theorem zwH{P:aQ}{w:bg}{k:Key}{u:ah}(r:RelV (kV k) u):(Jx P w).is k u=be:=by
 cases k with
 | inl i=>obtain⟨t,e⟩:=(show ∃t,u=pf i t from r);subst e;exact ziS P w i t
 | inr x=>obtain⟨t,e⟩:=(show ∃t,u=sE x t from r);subst e;exact ziR P w x t
theorem zh8{P:aQ}{w:bg}:∀{ks:List Key}{u:List ah},Vals (ks.map kV) u->ItemsAre (Jx P w) ks u
 | [],_,r=>by rw[eN]at r;cases r;exact .nil
 | k::ks,_,r=>by
  rw[aU]at r;cases r with
  | cons h t=>exact .cons (zwH h) (zh8 t)
abbrev KT(H:Hp):List (List Key×V)->List (List Key×aq×ah)->Prop:=bT λp q=>p.1=q.1/\H q.2.1=ao (.tup (p.1.map kV))/\RelV p.2 q.2.2
section
variable{X:Cx}{pins:qO}{σ:St}{H:Hp}{s:av}{a:aq}{y v:V}{u r:ah}{o:Option V}{A:bh}{E:qV}
theorem Inv.big(I:Inv X pins σ H s):sysModules<s.heap.objs.size:=by have h:mainGlobals<s.heap.objs.size:=(I.mod.glob.keeps I.bk).lt;exact ku (by decide) h
theorem zi9{h':bz}{t':Nat}{C:HO}(I:Inv X pins σ H s)(J:Mut (H a))(G:dE a s.heap h')(he:∃q,h'.get? a=ao q)(new:JL X.prog X.w (upd H a C) h' a C) :
  Inv X pins σ (upd H a C) { s with heap:=h',toks:=t' } :=
 I.write (x:=a) (e:=a) J (.inl rfl) (λb q L z=>(G.2 b L).trans z) he new
end
def NoSl(i:a8):Prop:=∀l o,subscripted i bj l o=operate [l,o] (getItem l o)
theorem zqn{prog:aQ}{w:bg}{A:bh}{E:qV}{s:av}{env:Env}{value slice:a8}{pos:Pos}{T id:String}{Q:qV}
  (R:typeLookup (.type T) "__getitem__" = pure (ao (.builtin id))) (U:NoSl slice)
  (h:wpAny (model prog w) A (eval value env) (λo I=>wpAny (model prog w) A (eval slice env) (λi v=>v.TypeIs o T/\wpAny (model prog w) A (getItem o i) Q E v) E I) E s) :
  wpAny (model prog w) A (eval (.Subscript value slice pos) env) Q E s:=by
 refine ub (cS h (λo I J=>cS J (λi v C=>?_) λ_ _ x=>x) λ_ _ x=>x);obtain⟨N,C⟩:=C;unfold subscriptTail;refine aa ?_;rw[getitemInPython_of_ne N.not_modules];refine aa (tR N R ?_);have fin:wpAny (model prog w) A (subscripted slice bj o i) (λr G=>wpAny (model prog w) A (letTemporaryGo value o r >>= λ_=>pure r) Q E G) E v:=by rw[U o i];exact wpAny_operating (cS C (λr G L=>aa (wpAny_letTemporaryGo (ae L))) λ_ _ x=>x)
 first
  | exact ae (aa fin)
  | exact aa (ae (aa fin))
  | exact aa fin
end L2
namespace L2
open PySem PySem.Spec PyProof PyProof.Rows
abbrev KD:=List (Key×af)
section
variable{D:JH}{ρ ρ':En}{n i j:Nat}{d dk dv:DTE}{R:qN}{ks:KD}
instance{ks:KD}:CapC (ao (.dct ks)) (ao (.rdo ks)):=⟨rfl⟩
instance{ks:KD}:CapC (ao (.rdo ks)) (ao (.rdo ks)):=⟨rfl⟩
end
theorem zcU:entryFor table "dict.update.loop" = ao cX.«dict.update.loop»:=by kernel_rfl
theorem zk_:typeLookup (.type "tuple") "keys" = pure bc:=by rw[gV,eW];kernel_rfl
theorem zpb:typeLookup (.type "tuple") "__getattr__" = pure bc:=by rw[gV,eW];kernel_rfl
section
variable{prog:aQ}{w:bg}{A:bh}{E:qV}{Ky:Type}[DecidableEq Ky]{knd:pQ prog w Ky}
def KpH(d it:aq)(h h':bz):Prop:=∀b o,b≠d->b≠it->h.get? b=ao o->h'.get? b=ao o
end
def rkI:ah->Int
 | .int i _=>i
 | _=>0
section
variable{prog:aQ}{w:bg}{A:bh}{E:qV}{s:av}{Ky:Type}[DecidableEq Ky]{knd:pQ prog w Ky}
theorem zj1:∀(vs:List ah),(∀v∈vs,∃i t,v=.int i t)->∃ns,g6 vs ns
 | [],_=>⟨[],.nil⟩
 | v::vs,h=>by obtain⟨i,t,rfl⟩:=h v (by simp);obtain⟨ns,r⟩:=zj1 vs λv u=>h v (by simp[u]);exact⟨i::ns,.cons _ _ r⟩
theorem zk7{vs:List ah}(C:∀v∈vs,∃i t,v=.int i t):Kinds prog w A s rkI vs:=λy=>by
 refine⟨oneType',λE Q q=>?_,λp q E Q mp G h=>?_⟩;obtain⟨x,l,rest,rfl⟩:∃x l rest,vs=x::l::rest:=by
  match vs,y with
  | [],y=>simp at y
  | [_],y=>simp at y
  | x::l::rest,_=>exact⟨x,l,rest,rfl⟩
 obtain⟨ns,r⟩:=zj1 _ C;rw[keyKind_ints r];exact ae q;have mem:∀z∈(pairsOf vs).toList,z.1∈vs:=λz hz=>by
  have:z∈vs.zip vs:=by simpa[pairsOf] using hz
  exact(fx this).1
 obtain⟨i,t,J⟩:=C _ (mem p mp);obtain⟨j,u,I⟩:=C _ (mem q G);rw[J,I]at h ⊢;rw[keyLt'_oneType];exact oneLt_int h
end
theorem zhH{α u:Type}{P:α->u->Prop}:∀{l:List α}{m:List u},l.length=m.length->(∀(j:Nat) a b,l[j]?=ao a->m[j]?=ao b->P a b)->bT P l m
 | [],[],_,_=>.nil
 | a::l,b::m,h,k=>.cons (k 0 a b rfl rfl) (zhH (by simpa using h) λj a b v x=>k (j+1) a b v x)
 | [],_::_,h,_=>by simp at h
 | _::_,[],h,_=>by simp at h
section
variable{X:Cx}
theorem zqk{u:List Int}{out:List ah}(h:bT (λ(i:Int) (v:ah)=>∃t,v=.int i t) u out):Vals (u.map V.int) out:=by
 induction h with
 | nil=>exact .nil
 | cons r _ x=>exact .cons r x
end
theorem JZ{k:Nat}{A:bh}(r:Room k A):A.units+1<cLine:=by have:=r.un;lia
section
variable{X:Cx}{x:Str}{pos p p1:Pos}
theorem zl8{K:qF}{hd:Option aq}{O:aq->Prop}{H:Hp}:∀u:List Int,Reps K hd O H (u.map V.int) (u.map cg)
 | []=>.nil
 | j::u=>.cons (.int _) (zl8 u)
end
theorem J7{bits:Int}(v:0<=bits){bs:qB}(B:Bks bits bs){x:Int}(h:mB x bs):0<=x/\x<2 ^ bits.toNat:=by obtain⟨b,y,C,l⟩:=h;have:=(B b y).bounds v;unfold eB at l;lia
theorem Ue{bits:Int}(u:0<=bits)(o:bits<=64){S:Int->Prop}{rs:qB}(nr:NR rs)(e:∀x,mR x rs↔S x)(w:∀x,S x->0<=x/\x<2 ^ bits.toNat):∀r∈rs,0<=r.1/\r.1<=r.2/\r.2<=2 ^ 64:=λr l=>by have lt:=nr.1 r l;have a:=w r.1 ((e _).mp ⟨r,l,aM _,lt⟩);have b:=w (r.2 - 1) ((e _).mp ⟨r,l,by lia,by lia⟩);have:=Bd.zdm (k:=bits.toNat) (by lia);lia
section
variable{prog:aQ}{w:bg}{A:bh}{E:qV}{s:av}
theorem zfA{a:aq}{o:Obj}{u:Tok}{P:Fin->av->Prop}(G:s.heap.get? a=ao o)(hc:o.cls=.type "tuple") (l:∃its n,o.data=.seq its n) (hd:o.dict=bc) (v:A.handled=bc)
  (h:∀h' tk e,oj s.heap h' e (.ref a) "keys" -> E (.ref e) { s with heap:=h',toks:=tk }):wpAny (model prog w) A (cX.«object.__getattribute__» ⟨[.ref a,.str "keys" u],[]⟩) P E s:=by
 obtain⟨x,g,d,tk,os⟩:=s;have I:∀(t:Nat),Shared.TypeIs ⟨x,g,d,t,os⟩ (.ref a) "tuple":=λ_=>⟨o,G,hc⟩;have C:=zk_;unfold cX.«object.__getattribute__»
 repeat (any_goals (first|assumption|wp_step))
 rw[hc,C]
 repeat (any_goals (first|assumption|wp_step))
 obtain⟨its,n,l⟩:=l;rw[l];dsimp only;unfold instanceDict
 repeat (any_goals (first|assumption|wp_step))
 rw[hd]
 repeat (any_goals (first|assumption|wp_step))
 simp only[hc,fN,Bool.true_or,if_true]
 repeat (any_goals (first|assumption|wp_step))
 rw[hc];dsimp only
 repeat (any_goals (first|assumption|wp_step))
 exact wpAny_raiseAttrError v h (attrMsg_fits (by decide +kernel) (by size_fits))
theorem ze9{a:aq}{o:Obj}{u:Tok}{R:sI->av->Prop}(v:s.heap.get? a=ao o)(hc:o.cls=.type "tuple") (x:∃its n,o.data=.seq its n) (hd:o.dict=bc) (C:A.handled=bc)
  (h:∀h' tk e,oj s.heap h' e (.ref a) "keys" -> R (.error (.ref e)) { s with heap:=h',toks:=tk }):codeAny (model prog w) A (.call (.builtin "tuple.__getattribute__") ⟨[.ref a,.str "keys" u],[]⟩) R s :=
 ly fU.plain F.entry_tuple_ga (fU.check _ _ _ _ _ _ _ _ (show s.TypeIs (.ref a) "tuple" from⟨_,v,hc⟩) (F.args_tuple_getattribute_2 _ _) (zfA v hc x hd C h))
theorem zgP{a:aq}{o:Obj}{u:Tok}{Q:qV}(l:s.heap.get? a=ao o)(hc:o.cls=.type "tuple") (v:∃its n,o.data=.seq its n) (hd:o.dict=bc) (x:A.handled=bc)
  (h:∀h' tk e,oj s.heap h' e (.ref a) "keys" -> E (.ref e) { s with heap:=h',toks:=tk }):wpAny (model prog w) A (getAttrBy (.ref a) (.str "keys" u) bj) Q E s:=by
 obtain⟨C,g,d,tk,os⟩:=s;have R:(⟨C,g,d,tk,os⟩:av).TypeIs (.ref a) "tuple":=⟨o,l,hc⟩;have f2:=fU.lookup;have L:=fU.bind (.ref a);have f1:=p9;have N:=zpb
 repeat (any_goals (first|assumption|wp_step))
 refine ze9 l hc v hd x λh' G e hx=>?_;obtain⟨t',J,he⟩:=hx.there
 repeat (any_goals (first|assumption|wp_step))
 exact h _ _ _ hx
theorem ze_{a:aq}{o:Obj}{Q:Option ah->av->Prop}(x:s.heap.get? a=ao o)(hc:o.cls=.type "tuple") (u:∃its n,o.data=.seq its n) (hd:o.dict=bc) (v:A.handled=bc)
  (h:∀h' tk,(∀b l,s.heap.get? b=ao l->h'.get? b=ao l)->Q bc { s with heap:=h',toks:=tk }):wpAny (model prog w) A (getAttr? (.ref a) "keys") Q E s:=by
 unfold getAttr? getAttrBy?;obtain⟨G,g,d,tk,os⟩:=s;have f1:=p9
 repeat (any_goals (first|assumption|(with_reducible refine zgP x hc u hd v λh' C e hx=>?_)|wp_step))
 obtain⟨t',I,he⟩:=hx.there
 repeat (any_goals (first|assumption|wp_step))
 exact h _ _ hx.keeps
end
section
variable{prog:aQ}{w:bg}{A:bh}{E:qV}
def PrT(prog:aQ)(w:bg)(h:bz)(x:ah)(z:List Key×aq×ah):Prop:=∃p:aq,x=.ref p/\rC h p #[.ref z.2.1,z.2.2]/\kT (Jx prog w) h z.1 z.2.1
theorem Vr{h:bz}{k:List Key}{a b:aq}{T:String}(r:kT (Jx prog w) h k a)(v:∃o,h.get? b=ao o/\o.cls=.type T)(u:T ≠ "tuple"):a≠b:=by
 rintro rfl;obtain⟨o,_,_,e,c,_⟩:=r;obtain⟨x,l,c'⟩:=v;rw[e]at l;cases l;rw[c]at c';injection c' with c'
 exact u c'.symm
theorem VS{h h':bz}{k:List Key}{a:aq}(r:kT (Jx prog w) h k a)(kp:∀o,h.get? a=ao o->h'.get? a=ao o):kT (Jx prog w) h' k a:=by obtain⟨o,its,n,e,c⟩:=r;exact⟨o,its,n,kp o e,c⟩
theorem tup_ne{h:bz}{a b:aq}{xs:Array ah}{T:String}(r:rC h a xs)(v:∃o,h.get? b=ao o/\o.cls=.type T)(u:T ≠ "tuple"):a≠b:=by
 rintro rfl;obtain⟨o,e,c,_⟩:=r;obtain⟨x,l,c'⟩:=v;rw[e]at l;cases l;rw[c]at c';injection c' with c'
 exact u c'.symm
theorem PrT.keep{h h':bz}{x:ah}{z:List Key×aq×ah}(d it:aq)(hd:∃o,h.get? d=ao o/\o.cls=.type "dict") (hi:∃o,h.get? it=ao o/\o.cls=.type "tuple_iterator") (r:PrT prog w h x z) (kp:KpH d it h h'):PrT prog w h' x z:=by obtain⟨p,e,l,tk⟩:=r;refine⟨p,e,?_,VS tk λo=>kp _ o (Vr tk hd (by decide)) (Vr tk hi (by decide))⟩;have u:=tup_ne l hd (by decide);have v:=tup_ne l hi (by decide);obtain⟨o,g,c⟩:=l;exact⟨o,kp p o u v g,c⟩
theorem znq{h h':bz}{d it:aq}{xs:List (List Key×aq×ah)}(hd:h.DictOfH (tupleKind (Jx prog w)) d xs)(hi:∃o,h.get? it=ao o/\o.cls=.type "tuple_iterator") (kp:∀b o,b≠it->h.get? b=ao o->h'.get? b=ao o) (u:d≠it):h'.DictOfH (tupleKind (Jx prog w)) d xs:=by obtain⟨o,es,ep,v,hc,hd,he,l,C⟩:=hd;exact⟨o,es,ep,kp d o u v,hc,hd,he,λx hx=>VS (l x hx) λo e=>kp _ o (Vr (l x hx) hi (by decide)) e,C⟩
theorem znr{h:bz}{d:aq}{xs:List (List Key×aq×ah)}(hd:h.DictOfH (tupleKind (Jx prog w)) d xs):∃o,h.get? d=ao o/\o.cls=.type "dict":=by obtain⟨o,es,ep,l,hc,_⟩:=hd;exact⟨o,l,hc.1⟩
theorem zlF{A:bh}{xs:List ah}{kw:List (Str×ah)}:(A.under (.builtin "dict.update.loop" ⟨xs,kw⟩)).units=A.units+1:=by first|rfl|simp[Around.under,Code.cUnits,Code.frames,Code.isFrame]
theorem zlG{d it l:aq}{items:Array ah}{res:ah}(hA:A.handled=bc)(hu:A.units+1<cLine)(S:d≠it)(nl:l≠d)(nli:l≠it):∀(ps:List (List Key×aq×ah)) (i:Nat) (xs:List (List Key×aq×ah)) (s:av) (t:Tok) {R:sI->av->Prop},
  s.heap.IsTuple l items->s.heap.IsTupleIter it l i->s.heap.DictOfH (tupleKind (Jx prog w)) d xs->xs.length+ps.length<=sizeLine->((xs++ps).map (·.1)).Nodup->bT (PrT prog w s.heap) (items.toList.drop i) ps ->
  (∀h' tk,KpH d it s.heap h'->h'.DictOfH (tupleKind (Jx prog w)) d (xs++ps)->R (.ok (.ret res)) { s with heap:=h',toks:=tk }) ->
  codeAny (model prog w) A (.builtin "dict.update.loop" ⟨[.ref d,.ref it,.int i t,res],[]⟩) R s:=by
 intro ps;induction ps with
 | nil =>
  intro i xs s t R hl hi hd hz hn hp h;have e:items[i]?=bc:=by generalize hq:items.toList.drop i=q at hp;cases hp;have:=List.drop_eq_nil_iff.mp hq;exact nU (by simpa using this)
  refine dX zcU ?_;show wpAny _ _ (pyNext (.ref it) >>= _) _ _ s;refine aa (nK hA hi hl e λh' hx=>?_);show wpAny _ _ (m6 d [] >>= λ_=>ret res) _ _ _;unfold m6;rw[hY];rw[cf]at h;obtain⟨oi,gi,ci,_⟩:=id hi;exact aa (ae (ae (h h' s.toks (λb o _ n ho=>hx b o n ho) (znq hd ⟨oi,gi,ci⟩ (λb o n e=>hx b o n e) S))))
 | cons y ps ih =>
  obtain⟨k,a,v⟩:=y;intro i xs s t R hl hi hd hz hn hp h;generalize hq:items.toList.drop i=q at hp;cases hp with
  | cons r rs =>
   rename_i x xs';have L:∃o,s.heap.get? it=ao o/\o.cls=.type "tuple_iterator":=by obtain⟨oi,gi,ci,_⟩:=id hi;exact⟨oi,gi,ci⟩
   obtain⟨p,rfl,tp,ki⟩:=r;have np:=tup_ne tp (znr hd) (by decide);have npi:=tup_ne tp L (by decide);obtain⟨o,ho,oc,n,od⟩:=id tp;have Z:i<items.toList.length:=by by_cases z:i<items.toList.length;exact z;rw[gM (by lia)]at hq;cases hq
   rw[bG Z]at hq;obtain⟨e1,e2⟩:=iO hq;have e:items[i]?=ao (.ref p):=by rw[<- e1,<- bK];exact au Z
   refine dX zcU ?_;show wpAny _ _ (pyNext (.ref it) >>= _) _ _ s;refine aa (m9 hi hl e λU hi1 G=>?_);refine aa (cq ?_);have ho1:U.get? p=ao o:=(G.2 p npi).trans ho;have hT:(⟨U,s.gens,s.drawn,s.toks,s.os⟩:av).TypeIs (.ref p) "tuple":=⟨o,ho1,oc⟩;refine aa (kH ?_);unfold xb;refine aa (eM hT ?_);rw[if_pos (by rfl)];refine aa (cI ho1 od (ae ?_));show wpAny _ _ (holding [.ref a,v] (dictSet d (.ref a) v)) _ _ _;have kp1:KpH d it s.heap U:=λb J _ n C=>(G.2 b n).trans C;have hd1:=znq hd L (λb J n C=>(G.2 b n).trans C) S;have ki1:kT (Jx prog w) U k a:=VS ki λJ C=>(G.2 a (Vr ki L (by decide))).trans C;rw[aL]at hz;have kn:k∉xs.map (·.1):=by rw[gT,hU]at hn;exact λz=>hn.2.2 k z k (by simp) rfl
   have ak:atKey xs k=bc:=by unfold atKey;rw[nV,gP];intro x hx z;exact kn (aY.mpr ⟨x,hx,by simpa using z⟩)
   refine cq (rf (s:=⟨U,s.gens,s.drawn,s.toks,s.os⟩) (knd:=tupleKind (Jx prog w)) (by show Around.units _<cLine;rw[zlF];exact hu) ki1 hd1 (λh2 hd2 hs2=>?_) (by lia));have kp2:KpH d it U h2:=λb J n _ C=>(hs2.2 b n).trans C;refine ae ⟨gN _ (by decide +kernel),?_⟩;have kp:KpH d it s.heap h2:=λb J n1 n2 C=>kp2 b J n1 n2 (kp1 b J n1 n2 C);rw[storedH_new ak]at hd2;refine ih (i+1) (xs++[(k,a,v)]) _ 0 ?_ ?_ hd2 ?_ ?_ ?_ λh' tk kp' Y=>?_;obtain⟨ol,hol,r⟩:=hl;exact⟨ol,kp l ol nl nli hol,r⟩;obtain⟨oi,hoi,r⟩:=hi1;exact⟨oi,(hs2.2 it (eK S)).trans hoi,r⟩;rw[aW,kO];lia;rw[bu];exact hn;rw[e2];exact Paired.mapP rs λ_ _ r=>r.keep d it (znr hd) L kp;rw[bu]at Y;exact h h' tk (λb J n1 n2 C=>kp' b J n1 n2 (kp b J n1 n2 C)) Y
theorem zgY{s:av}{l:aq}{o:Obj}{its:Array ah}{n:Nat}{ps:List (List Key×aq×ah)}{Q:qV}(ho:s.heap.get? l=ao o)(hc:o.cls=.type "tuple") (R:o.data=.seq its n) (hd:o.dict=bc) (hA:A.handled=bc) (hu:A.units+64<cLine)
  (hp:bT (PrT prog w s.heap) its.toList ps) (hz:ps.length<=sizeLine) (hn:(ps.map (·.1)).Nodup)
  (h:∀h' tk,(∀b v,s.heap.get? b=ao v->h'.get? b=ao v)->h'.DictOfH (tupleKind (Jx prog w)) s.heap.objs.size ps->Q (.ref s.heap.objs.size) { s with heap:=h',toks:=tk }) :
  wpAny (model prog w) A (call (.type "dict") [.ref l]) Q E s:=by
 refine callType_codes (Q₁:=λobj C=>obj=.ref s.heap.objs.size/\C={ s with heap:=s.heap.push { cls:=.type "dict",data:=.dict #[] } }) F.kt_called_dict (F.kt_typeCall_dict_1 _) F.entry_dict_init (kt_code_dict_new _ ⟨rfl,rfl⟩) ?_;rintro obj C ⟨rfl,rfl⟩;have Nw:(s.heap.push { cls:=.type "dict",data:=.dict #[] }).DictOfH (tupleKind (Jx prog w)) s.heap.objs.size []:=nD s.heap;have I:(s.heap.push { cls:=.type "dict",data:=.dict #[] }).get? l=ao o:=aj _ ho;have J:=Nw.typeIs (s:={ s with heap:=s.heap.push { cls:=.type "dict",data:=.dict #[] } });refine⟨J,F.args_dict_init_2 _ _,?_⟩;unfold cX.«dict.__init__»;refine aa ?_;unfold vX;refine aa (oA J ?_);show wpAny _ _ (pure (s.heap.objs.size,[bR l])) _ _ _;refine ae ?_;show wpAny _ _ (nE "dict.__init__" s.heap.objs.size (.ref l) [] .none) _ _ _;unfold nE;refine aa (eM (T:="tuple") ⟨o,I,hc⟩ ?_);rw[if_pos (by rfl)];refine aa (ze_ I hc ⟨its,n,R⟩ hd hA λh1 tk1 Z=>?_);rw[if_pos (show(bc:Option ah).isNone=be from rfl)];refine aa (cU ?_);have G:=Z l o I;have hl1:h1.IsTuple l its:=⟨o,G,hc,n,R⟩;refine aa (iY hl1 ?_);refine ae ⟨gN _ (by decide +kernel),?_⟩;obtain⟨od,es,ep,hod,Y⟩:=Nw;have Nx:=Z _ od hod;have l1:=aG Nx;have l2:=aG ho;have l3:=aG G;have kk:∀b v,s.heap.get? b=ao v->(h1.push { cls:=.type "tuple_iterator",data:=.fields #[.ref l,.int 0 0] }).get? b=ao v:=λb v L=>aj _ (Z b v (aj _ L));refine zlG (A:=A.in1) (items:=its) (xs:=[]) (i:=0) (ps:=ps) (show A.in1.handled=bc from hA) (show A.units+1+1<cLine by lia) (aT l1) (aT l2) (aT l3) _ 0 ?_ ?_ ?_ (by simpa using hz) (by simpa using hn) ?_ λh' tk kp S=>?_;exact⟨o,aj _ G,hc,n,R⟩;exact⟨_,aD _ rfl,rfl,rfl⟩;exact⟨od,es,ep,aj _ Nx,Y.1,Y.2.1,Y.2.2.1,by simp,by simp⟩;rw[mm];refine Paired.mapP hp λx z ⟨p,e,tp,tk⟩=>⟨p,e,?_,VS tk λv=>kk _ v⟩;obtain⟨v,U,r⟩:=tp;exact⟨v,kk p v U,r⟩;exact⟨rfl,h h' tk (λb v L=>kp b v (aT (aG L)) (aT (ku (aG L) l1)) (kk b v L)) S⟩
end
section
variable{X:Cx}
theorem UI{pins:qO}{σ:St}{H:Hp}{s:av}{b:aq}{k:List Key}(I:Inv X pins σ H s)(h:SqT X.K H b (k.map kV)):kT (Jx X.prog X.w) s.heap k b:=by obtain⟨its,r,⟨o,e,c,n,d⟩,_⟩:=I.tuple h;exact⟨o,its.toArray,n,e,c,d,by simpa using zh8 r⟩
end
end L2
namespace Bd
open PySem L2
theorem zmz{bs:qB}:Okd (.tuple (pD bs)):=by have h:=zpM (bs:=bs);unfold Okd at *;simpa only[dS,ik] using h
theorem ZL{d:af}(h:Okd d):gk d d=be:=yy d h.1
end Bd
namespace L2
open PySem PySem.Spec PyProof PyProof.Rows PySem.W
section
variable{X:Cx}{e:a8}{x:Str}{pos:Pos}{d:DTE}
def zoB(K:qF):V->List V->Hp->VK->Prop:=λx vs H Q=>∃l b xs zs,x=.ref l/\vs=[.ref b]/\H l=ao (.lst xs)/\SqT K H b zs/\xs.length+zs.length<=sizeLine/\Q .non (upd H l (.lst (xs++zs)))
theorem zkM:MtM X "list.extend" (zoB X.K):=by
 intro pins s σ H x vs v us Q I Y S h;obtain⟨l,b,xs,zs,rfl,rfl,N,hB,hz,q⟩:=h;cases Y;obtain⟨u,rfl,U⟩:=S.one;cases U;obtain⟨z,its,n,r,hl,e⟩:=I.lstM N;obtain⟨y,J,⟨o,L,hc,n2,hd⟩,z2⟩:=I.tuple hB;have lr:=r.length;have lr2:=J.length;have hsz:its.toArray.size+y.toArray.size<=sizeLine:=by rw[aJ,aJ];lia
 have R:¬(!its.toArray.isEmpty&&iL (its.toArray.size+y.toArray.size))=be:=by rw[zoS hsz,uz];exact bp
 refine bS F.slot_list_extend ⟨_,e,rfl⟩ F.entry_list_extend ?_ (F.args_list_extend_2 _ _);show wpAny _ _ (df (.ref l) (.ref b) .none) _ _ s;unfold df;refine aa (eM (T:="tuple") ⟨o,L,hc⟩ ?_);have Z:(iP (.ref l) (.ref b)||bo "tuple" == bo "list" ||bo "tuple" == bo "tuple")=be:=by simp
 simp only[Z,if_true];refine aa ?_;unfold gO;refine aa (cI L hd (ae ?_));refine aa ?_;refine aa (cI e rfl (ae ?_));rw[if_neg R];show wpAny _ _ (updateSeq l (·++y.toArray) >>= λ_=>ret .none) _ _ s;have C:its.toArray.size<=sizeLine:=by rw[aJ];lia
 have G:(its.toArray++y.toArray).size<=sizeLine+1:=by rw[rO];lia
 refine aa (gW e rfl (hz:=C) (_hz':=G) ?_);refine ae ⟨_,rfl,?_⟩;refine⟨.non,_,I.lset (its':=its++y) N e (by simp) (r.append J) ?_,rfl,q⟩;rw[aW];lia
def Wc(i:Nat)(d:DTE):DTS:=λD l n=>match l[i]? with
 | some (ao (.own ts))=>d l n λt v=>lTup t λu=>ts.length+u.length<=16777216/\D.nx (l.set i (ao (.own (ts++u)))) v
 | _=>False
theorem zlf(i:Nat){p1 p2 p3:Pos}(h:DE X e d)(hN:X.N[i]?=ao x:=by rfl)(hv:Vis X.env.scope x:=by walk_at "V")(hd:Ndb x:=by rfl)
  (J:Ncd x:=by rfl) (hs:swapsWith (.Call (.Attribute (.Name x p1) "extend" p2) [e] [] p3) bc pos.line X.env=pure bj:=by rfl)
  (Mk:attributeBase (.Name x p1) "extend" X.env (eval (.Name x p1) X.env)=eval (.Name x p1) X.env:=by rfl)
  (MN:((backTo p3 (starEach [e] X.env)).all (λx=>!x.1)&&(backToKw p3 (keywordEach [] X.env)).all (λx=>x.1.isSome)
   && decide ([e].length+([]:List ie).length+(if ([]:List ie).isEmpty then 0 else 1)<30))=be:=by rfl)
  (Ml:(p2.endLine == p3.line)=be:=by rfl) (G:starEach [e] X.env=[(bj,eval e X.env)]:=by rfl):DS X (.Expr (.Call (.Attribute (.Name x p1) "extend" p2) [e] [] p3) pos) (Wc i d):=by
 obtain⟨ta,pa,h⟩:=h;refine⟨_,zmg (Vu nu PySem.F.slot_list_extend PySem.F.type_list_extend zkM (Qq hN hv hd J) (Qj pa Qz G) Mk MN Ml G rfl) hs,λC ρ σ H n D D' S hd g=>?_⟩;unfold Wc at hd;split at hd;rename_i ts L;obtain⟨p,vs,Y,h2,h3,h4⟩:=S.own i ts L;refine⟨.ref p,Y,.inl ⟨rfl,_,SqL.of h2⟩,?_⟩;refine h C ρ σ H n _ _ S hd λt n' v H' r e1 hn q=>?_;cases t with
 | tuple us =>have Z:=S.on e1 hn;obtain⟨p',U,I,R,o,h4'⟩:=Z.own i ts L;rw[Y]at I;cases I;obtain⟨b,ws,rfl,hb,q⟩:=q.tupI;refine⟨p,b,U,ws,rfl,rfl,R,hb,by rw[o.length,q.length];exact r.1,?_⟩;obtain⟨S2,k2⟩:=Z.chg L Y (o.append q);exact g.nx _ _ _ n' r.2 S2 (e1.keep.trans k2)
 | _=>exact r.elim
 exact hd.elim
instance zsP {i:Nat}{ρ:En}{n:Nat}{D:JH}{xs:qD}[h:GetN ρ i (ao (.own xs))]:Stp (Wc i d D ρ n) (d ρ n λt n'=>lTup t λus=>xs.length+us.length<=16777216/\SetK i (ao (.own (xs++us))) D.nx ρ n'):=⟨λk=>by unfold Wc;rw[h.e];exact k⟩
end
end L2
namespace Bd
open PySem L2
def Dq(K:qF)(mg:qM)(x:Str)(st:fA)(ps:List Str):Prop:=∃f fd,Def K mg x st ps f fd
def Fq(P:aQ)(w:bg)(K:qF)(mg:qM)(base:bz)(x:Str)(st:fA)(ps:List Str)(k:Nat)(l:Sp):Prop:=∃f fd,Def K mg x st ps f fd/\FnOk P w K mg base CX0 k f fd ps l
end Bd
namespace L2
open PySem PySem.Spec PyProof.Rows
section
variable{X:Cx}{x:Str}{st:fA}{ps:List Str}{k n m:Nat}{g:GD}{e:a8}{es:List a8}{ds:DTA}{p pos:Pos}
theorem Jd(F:Bd.Fq X.prog X.w X.K X.mg X.base x st ps k (spD X.K m g))(y:Room n X.A)(h:DB X (e::es) ds)(v:k<=n:=by decide)(I:(e::es).length=m:=by rfl)(u:Gl X x:=by rfl)
  (o:Ndb x:=by rfl):DE X (.Call (.Name x p) (e::es) [] pos) (dFn g ds):=by
 obtain⟨f,fd,D,G⟩:=F;exact zxl D G (y.mono v) h I u o
theorem zqb(F:Bd.Fq X.prog X.w X.K X.mg X.base x st ps k (spD X.K m g))(y:Room n X.A)(h:DBL X (e::es) ds)(v:k<=n:=by decide)(I:(e::es).length=m:=by rfl)(u:Gl X x:=by rfl)
  (o:Ndb x:=by rfl):DE X (.Call (.Name x p) (e::es) [] pos) (dFnL g ds):=by
 obtain⟨f,fd,D,G⟩:=F;exact zuT D G (y.mono v) h I u o
end
section
variable{X:Cx}{hx s kx x:Str}{st:fA}{ps:List Str}{k n:Nat}{p p1 p2 p3 pos pos':Pos}{sts:List fA}{u:DTS}
theorem znh{i j:Nat}(F:Bd.Fq X.prog X.w X.K X.mg X.base hx st ps k (VE X.K))(hr:Room n X.A)(hN:X.N.Nodup)(hi:X.N[i]?=ao x)(I:Loc X.env.scope x)(Z:DSs X sts u)(hk:k<=n:=by decide)(o:i≠0:=by decide)(J:j≠0:=by decide)(R:j≠i:=by decide)
  (h0:X.N[0]?=ao s:=by rfl) (hj:X.N[j]?=ao kx:=by rfl) (y:Vis X.env.scope s:=by walk_at "V") (S:Vis X.env.scope kx:=by walk_at "V")
  (L:Ndb s:=by rfl) (Nl:Ncd s:=by rfl) (v:Ndb kx:=by rfl) (Y:Ncd kx:=by rfl) (hg:Gl X hx:=by rfl) (U:Ndb hx:=by rfl)
  (hs:swapsWith (.Call (.Name hx p) [.Name s p1,.Name kx p2] [] p3) (ao (.Name x pos')) pos.line X.env=pure bj:=by rfl) (hf:Fnl X x:=by walk_at "F") :
  DSs X (.Assign [.Name x pos'] (.Call (.Name hx p) [.Name s p1,.Name kx p2] [] p3) pos::sts) (U0 i j u):=by
 obtain⟨f,fd,D,G⟩:=F;exact zpi D G (hr.mono hk) hN hi I Z o J R h0 hj y S L Nl v Y hg U hs hf
end
end L2
namespace Bd
open PySem L2
section
variable{K:qF}{h:bz}{mg:qM}{x:Str}{st:fA}{ps:List Str}
abbrev BndA(x:Str)(st:fA)(ps:List Str):Prop:=∀(kV doc pm:ah) (an:Option aq) (cdv ct:ah) (us:List ah),us.length=ps.length->bindArgs (fc x x (QB st) (J8 st) (JE st) .none kV doc pm an cdv ct) ⟨us,[]⟩=pure (ps.zip us)
theorem lenS{l:List ah}{n:Nat}(h:l.length=n+1):∃a t,l=a::t/\t.length=n:=by
 cases l with
 | nil=>cases h
 | cons a t=>exact⟨a,t,rfl,Nat.succ.inj h⟩
theorem len1{l:List ah}(h:l.length=1):∃a,l=[a]:=by obtain⟨a,t,rfl,e⟩:=lenS h;exact⟨a,by rw[List.eq_nil_of_length_eq_zero e]⟩
theorem len2{l:List ah}(h:l.length=2):∃a b,l=[a,b]:=by obtain⟨a,t,rfl,e⟩:=lenS h;obtain⟨b,rfl⟩:=len1 e;exact⟨a,b,rfl⟩
theorem len3{l:List ah}(h:l.length=3):∃a b c,l=[a,b,c]:=by obtain⟨a,t,rfl,e⟩:=lenS h;obtain⟨b,c,rfl⟩:=len2 e;exact⟨a,b,c,rfl⟩
end
end Bd
namespace L2
open PySem PySem.Spec PyProof PyProof.Rows
section
variable{X:Cx}{a b e:a8}{d da db:DTE}{pos p2 p3:Pos}
theorem zg6:∀{ss:List Str}{u:List ah},Vals (ss.map V.str) u->∃l:List (Str×Tok),strValues l=u/\l.map (·.1)=ss
 | [],_,r=>by cases r;exact⟨[],rfl,rfl⟩
 | x::ss,_,r=>by
  cases r with
  | cons C v =>obtain⟨t,rfl⟩:=C;obtain⟨l,o,y⟩:=zg6 v;exact⟨(x,t)::l,by simp[strValues]at o ⊢;exact o,by simp[y]⟩
def rJoin(K:qF):V->List V->Hp->VK->Prop:=λx xs H Q=>∃(sep:Str) (l:aq) (ss:List Str),x=.str sep/\xs=[.ref l]/\SqL K H l (ss.map V.str)/\xc sep ss=be/\Q (.str (uA sep ss)) H
theorem zrb:MtR X "str.join" (rJoin X.K):=by
 intro pins s σ H x xs v R Q I L rs h;obtain⟨sep,l,ss,rfl,rfl,o,ok,q⟩:=h;obtain⟨t,rfl⟩:=L;cases rs with
 | cons N y =>cases y;cases(show _=bR l from N);obtain⟨its,u,p,_⟩:=I.list o;obtain⟨G,J,C⟩:=zg6 u;exact SC.join (l:=G) (texts:=ss) (by rw[J];exact p.isList) C ok λt' k=>⟨.str _,H,I.tok _,⟨_,rfl⟩,q⟩
theorem zhv{K:qF}{hd:Option aq}{O:aq->Prop}{H:Hp}:∀{ss:List Str}{vs:List V},Reps K hd O H vs (ss.map mC)->vs=ss.map V.str
 | [],_,r=>by cases r;rfl
 | x::ss,_,r=>by
  cases r with
  | cons o l=>rw[o.strI,zhv l];rfl
def zuU(da db:DTE):DTE:=λl n R=>da l n λt o=>lStr t λsep=>db l o λu v=>lLst u λts=>∃ss:List Str,ts=ss.map mC/\xc sep ss=be/\R (.str (uA sep ss)) v
theorem zrR(h:DL X a da)(h':DE X b db)(Mk:attributeBase a "join" X.env (eval a X.env)=eval a X.env:=by rfl)
  (MN:((backTo p3 (starEach [b] X.env)).all (λx=>!x.1)&&(backToKw p3 (keywordEach [] X.env)).all (λx=>x.1.isSome)
   && decide ([b].length+([]:List ie).length+(if ([]:List ie).isEmpty then 0 else 1)<30))=be:=by rfl) (Ml:(p2.endLine == p3.line)=be:=by rfl) (o:starEach [b] X.env=[(bj,eval b X.env)]:=by rfl):DE X (.Call (.Attribute a "join" p2) [b] [] p3) (zuU da db):=by
 obtain⟨ta,pa,h⟩:=h;obtain⟨tb,N,h'⟩:=h';refine⟨_,Vu nW PySem.F.slot_str_join PySem.F.type_str_join zrb pa (Qj N Qz o) Mk MN Ml o rfl,λC L σ H n Q R S hd Y=>?_⟩;refine h C L σ H n _ _ S hd λt n1 v U r J h1 q1=>?_;cases t with
 | str sep =>
  rw[q1.strI];have S1:=S.on J h1;refine⟨rfl,h' C L σ U n1 _ _ S1 r λu n2 w H2 I e2 h2 q2=>?_⟩;cases u with
  | list ts =>obtain⟨ss,rfl,ok,Z⟩:=I;obtain⟨p,vs,rfl,G,_,rp⟩:=q2.lstI;rw[zhv rp]at G;exact⟨sep,p,ss,rfl,rfl,SqL.of G,ok,Y _ n2 _ H2 Z (J.trans e2) h2 (.str _)⟩
  | _=>exact I.elim
 | _=>exact r.elim
theorem zrc:MtR X "str.endswith" (λx xs H Q=>∃z y,x=.str z/\xs=[.str y]/\Q (.bl (kI z y)) H):=by
 intro pins s σ H x xs v J Q I C rs h;obtain⟨z,y,rfl,rfl,q⟩:=h;obtain⟨t,rfl⟩:=C;cases rs with
 | cons G o =>cases o;obtain⟨u,rfl⟩:=G;exact SC.endswith ⟨.bl _,H,I,rfl,q⟩
def Vm(da db:DTE):DTE:=λv n R=>da v n λt x=>lStr t λz=>db v x λu C=>lStr u λy=>R (.bool (kI z y)) C
theorem zrS(h:DL X a da)(h':DE X b db)(Mk:attributeBase a "endswith" X.env (eval a X.env)=eval a X.env:=by rfl)
  (MN:((backTo p3 (starEach [b] X.env)).all (λx=>!x.1)&&(backToKw p3 (keywordEach [] X.env)).all (λx=>x.1.isSome)
   && decide ([b].length+([]:List ie).length+(if ([]:List ie).isEmpty then 0 else 1)<30))=be:=by rfl) (Y:(p2.endLine == p3.line)=be:=by rfl) (o:starEach [b] X.env=[(bj,eval b X.env)]:=by rfl):DE X (.Call (.Attribute a "endswith" p2) [b] [] p3) (Vm da db):=by
 obtain⟨ta,pa,h⟩:=h;obtain⟨tb,L,h'⟩:=h';refine⟨_,Vu nW PySem.F.slot_str_endswith PySem.F.type_str_endswith zrc pa (Qj L Qz o) Mk MN Y o rfl,λC J σ H n Q R S hd U=>?_⟩;refine h C J σ H n _ _ S hd λt n1 v N r I h1 Z=>?_;cases t with
 | str z =>
  rw[Z.strI];have S1:=S.on I h1;refine⟨rfl,h' C J σ N n1 _ _ S1 r λu n2 w H2 G e2 h2 q2=>?_⟩;cases u with
  | str y =>rw[q2.strI];exact⟨z,y,rfl,rfl,U _ n2 _ H2 G (I.trans e2) h2 (.bl _)⟩
  | _=>exact G.elim
 | _=>exact r.elim
def zsX:List V->Hp->VK->Prop:=λxs H Q=>∃z n,xs=[.str z]/\gG z=ao n/\z.length<=640/\Q (.int n) H
theorem znS:JK X (.type "int") zsX:=by intro pins s σ H xs x Q I r h;obtain⟨z,n,rfl,v,l,q⟩:=h;obtain⟨u,rfl,o⟩:=r.one;obtain⟨t,rfl⟩:=o;exact xE v l ⟨.int n,H,I.tok _,⟨_,rfl⟩,q⟩
def Zb:GC
 | [.str z],R=>z.length<=640/\∃n,gG z=ao n/\R (.int n)
 | _,_=>False
theorem zrE:GpC X zsX Zb:=by
 intro hd O H vs ts Q R dom rs g u;unfold Zb at g;split at g;obtain⟨l,n,x,r⟩:=g;cases rs with
 | cons v o =>cases o;rw[v.strI];exact⟨_,n,rfl,x,l,u _ _ H r (Same.refl H) (.int _)⟩
 exact g.elim
end
section
variable{ρ:En}{n i:Nat}{d da db:DTE}{R:qN}{Q:af->Prop}{x y z w t:Str}
instance zxz:Stp (zuU da db ρ n R) (da ρ n λt n1=>lStr t λsep=>db ρ n1 λu n2=>lLst u λts=>∃ss:List Str,ts=ss.map mC/\xc sep ss=be/\R (.str (uA sep ss)) n2):=⟨λh=>h⟩
instance zxE:Stp (Vm da db ρ n R) (da ρ n λt n1=>lStr t λz=>db ρ n1 λu n2=>lStr u λy=>R (.bool (kI z y)) n2):=⟨λh=>h⟩
end
end L2
namespace Bd
open PySem L2
open Builtin Builtin.Str
def mkS(l:List Nat):Str:=⟨l.toArray⟩
theorem Qu{l:List Nat}:(mkS l).cps.toList=l:=by simp[mkS]
theorem VY{a b:List Nat}:mkS a++mkS b=mkS (a++b):=L2.Str.ext' (by rw[zr6,Qu,Qu,Qu])
theorem J4{l:List Nat}:(mkS l).length=l.length:=by rw[<- VV,Qu]
theorem zl2:aH "*" = mkS [42]:=by decide +kernel
theorem Vq:aH "" = mkS []:=by decide +kernel
theorem s_0:aH "0" = mkS [48]:=by decide +kernel
theorem s_1:aH "1" = mkS [49]:=by decide +kernel
def figs(cs:List Nat):Prop:=∀c∈cs,c=48\/c=49
instance zvM {cs:List Nat}:Decidable (figs cs):=by unfold figs;infer_instance
theorem znf{x:Str}:kI x (aH "*")=decide (x.cps.toList.getLast?=ao 42):=by
 rw[zl2];unfold kI;have o:(mkS [42]).length=1:=rfl;rw[o];by_cases h:x.length=0;have:x.cps.toList=[]:=eF.mp (by rw[VV];exact h);rw[this,h];rfl;have e:subAt x (mkS [42]) (x.length - 1)=decide (x.cps.toList.getLast?=ao 42):=by have:=StrLaws.subAt_one x 42 (x.length - 1);rw[List.getLast?_eq_getElem?,VV];rw[eU,decide_eq_true_eq];constructor;intro z;exact this.mp ⟨by show x.length - 1+1<=x.length;lia,z⟩;intro z;exact(this.mpr z).2
 rw[e];have:decide (0+1<=x.length)=be:=decide_eq_true (by lia);rw[this,kY]
theorem zdv:∀(rest:List Str) (acc:Array Nat),(rest.foldl (λacc p=>acc++(mkS []).cps++p.cps) acc).toList=acc.toList++(rest.map (·.cps.toList)).flatten
 | [],acc=>by simp
 | p::r,acc=>by rw[iU,zdv r];simp[mkS]
theorem join_nil(ss:List Str):uA (aH "") ss=mkS (ss.map (·.cps.toList)).flatten:=by
 rw[Vq];refine L2.Str.ext' ?_;rw[Qu];cases ss with
 | nil=>rfl
 | cons p r =>show(r.foldl (λacc p=>acc++(mkS []).cps++p.cps) p.cps).toList=_;rw[zdv];simp
theorem joinOk_of{sep:Str}{ss:List Str}{k:Nat}(o:∀s∈ss,s.length<=k)(y:ss.length*(k+sep.length)<=16777216):xc sep ss=be:=by
 have key:∀(l:List Str) (a:Nat),(∀s∈l,s.length<=k)->l.foldl (λx1 u=>x1+u.length+sep.length) a<=a+l.length*(k+sep.length):=by
  intro l;induction l with
  | nil=>intro a _;simp
  | cons x r v =>intro a h;have C:=h x (by simp);have G:=v (a+x.length+sep.length) λs o=>h s (by simp[o]);rw[iU,aL,Nat.add_mul,tx];lia
 unfold xc tooLong;rw[fk,decide_eq_false_iff_not];have:=key ss 0 o;have e:sizeLine=16777216:=rfl;rw[List.foldl_toArray];lia
def figL(k:Nat)(a:Int):List Nat:=(eY k).map λj=>48+((a / 2 ^ (k - 1 - j)) % 2).toNat
theorem UO{k:Nat}{a:Int}:(figL k a).length=k:=by simp[figL]
theorem Wn{k:Nat}{a:Int}:figL (k+1) a=(48+((a / 2 ^ k) % 2).toNat)::figL k a:=by unfold figL;rw[List.range_succ_eq_map,aU,cy];congr 1;refine gq λj l=>?_;show 48+((a / 2 ^ (k+1 - 1 - (j+1))) % 2).toNat=_;rw[show k+1 - 1 - (j+1)=k - 1 - j by lia]
theorem zfj{k:Nat}{a:Int}:figs (figL k a):=λc hc=>by
 obtain⟨j,_,rfl⟩:=aY.mp hc;have:(a / 2 ^ (k - 1 - j)) % 2=0\/(a / 2 ^ (k - 1 - j)) % 2=1:=by lia
 rcases this with h|h <;> rw[h];exact .inl rfl;exact .inr rfl
def valF(v:Int)(cs:List Nat):Int:=cs.foldl (λ(v:Int) (c:Nat)=>2*v+((c:Int) - 48)) v
theorem zoV{a p:Int}(v:0<p):a % (p*2)=p*((a / p) % 2)+a % p:=by
 have o:=oB a p;have x:=iW a (show p≠0 by lia);have C:=i6 a v;generalize a / p=q at *;generalize a % p=r at *;have l:q % 2=0\/q % 2=1:=by lia
 have e:a=p*2*(q / 2)+(p*(q % 2)+r):=by
  have u:q=2*(q / 2)+q % 2:=(oB q 2).symm;rw[<- o];conv=>lhs;rw[u]
  rw[oY,<- bN];lia
 rw[e,nN,Int.add_mul_emod_self_left];rcases l with l|l <;> rw[l] <;> exact rT (by lia) (by lia)
theorem zjn:∀(k:Nat) (v a:Int),valF v (figL k a)=v*2 ^ k+a % 2 ^ k
 | 0,v,a=>by simp[figL,valF,Int.emod_one]
 | k+1,v,a=>by
  rw[Wn];show valF (2*v+(((48+((a / 2 ^ k) % 2).toNat:Nat):Int) - 48)) (figL k a)=_;rw[zjn k];have l:0<=(a / 2 ^ k) % 2:=iW _ (by decide);have e:(((48+((a / 2 ^ k) % 2).toNat:Nat):Int) - 48)=(a / 2 ^ k) % 2:=by lia
  rw[e,bL,zoV (JM k),cE,b9 ((a / 2 ^ k) % 2),show 2*v*2 ^ k=v*(2 ^ k*2) from by rw[b9 2 v,bN,b9 2]];lia
def blkT(bits:Int)(cs:List Nat):Option (Int×Int) :=
 if cs.getLast?=ao 42 then
  if 0<bits - ((cs.length:Int) - 1)/\figs cs.dropLast then ao (valF 0 cs.dropLast*2 ^ (bits - ((cs.length:Int) - 1)).toNat,bits - ((cs.length:Int) - 1)) else bc
 else if (cs.length:Int)=bits/\figs cs then ao (valF 0 cs,0) else bc
def bkD:Option (Int×Int)->af
 | none=>.none
 | some b=>.tuple [.int b.1,.int b.2]
def begL(bits i h:Int):List Nat:=figL (bits - h).toNat (i / 2 ^ h.toNat)++if 0<h then[42] else[]
theorem zpv{bits i h:Int}(x:0<=bits)(B:IsBk bits i h):blkT bits (begL bits i h)=ao (i,h):=by
 have R:0<=h:=B.1;have g1:h<=bits:=B.2.1;have bd:=B.bounds x;have J:=JM h.toNat;obtain⟨_,_,G,I,u,C⟩:=id B;have v:i / 2 ^ h.toNat=G:=by rw[u];exact gx _ (by lia)
 have mul:i=i / 2 ^ h.toNat*2 ^ h.toNat:=by rw[v];exact u
 have lt:i / 2 ^ h.toNat<2 ^ (bits - h).toNat:=by rw[v];exact C
 have nn:0<=i / 2 ^ h.toNat:=om bd.1 (by lia);have val:valF 0 (figL (bits - h).toNat (i / 2 ^ h.toNat))=i / 2 ^ h.toNat:=by rw[zjn,Int.zero_mul,lO,rT nn lt]
 unfold begL blkT;by_cases z:0<h;rw[if_pos z];have l:(figL (bits - h).toNat (i / 2 ^ h.toNat)++[42]).length=(bits - h).toNat+1:=by simp[UO]
 rw[if_pos (by simp),l,List.dropLast_concat,val];have e:bits - ((((bits - h).toNat+1:Nat):Int) - 1)=h:=by lia
 rw[e,if_pos ⟨z,zfj⟩,<- mul];rw[if_neg z,cf];have h0:h=0:=by lia
 subst h0;have nl:(figL (bits - 0).toNat (i / 2 ^ (0:Int).toNat)).getLast?≠ao 42:=λy=>by have:=zfj 42 (List.mem_of_getLast? y);rcases this with h|h <;> cases h
 rw[if_neg nl,UO,val,if_pos ⟨by lia,zfj⟩];simp
end Bd
namespace L2
open PySem PySem.Spec PyProof PyProof.Rows
def Y6(h:bz)(d:aq)(es:Array fW)(ep:Nat):Prop:=∃o,h.get? d=ao o/\o.ExactDict/\o.data=.dict es ep
section
variable{prog:aQ}{w:bg}{A:bh}{E:qV}{s:av}
def RlIn(h:bz)(u:ah)(r:(Int×Int)×Int):Prop:=∃(a p:aq) (o:Obj) (t:Tok) (n:Nat),u=.ref a/\h.get? a=ao o/\o.cls=.type "tuple" /\ o.data=.seq #[.ref p,.int r.2 t] n/\PrIn h (.ref p) r.1.1 r.1.2
def rkL:List ah->bz->Int
 | [p,.int s _],h=>rkC h p*2+s
 | _,_=>0
def rkR(h:bz)(u:ah):Int:=match u with
 | .ref a=>match h.get? a with
  | some o=>match o.data with
   | .seq xs _=>rkL xs.toList h
   | _=>0
  | none=>0
 | _=>0
def rkn(r:(Int×Int)×Int):Int:=(r.1.1*1000+r.1.2)*2+r.2
theorem RlIn.rk{h:bz}{u:ah}{r:(Int×Int)×Int}(p:RlIn h u r):rkR h u=rkn r:=by obtain⟨a,q,o,t,n,rfl,v,_,x,l⟩:=p;unfold rkR;dsimp only;rw[v];dsimp only;rw[x];exact congrArg (λz=>z*2+r.2) l.rk
theorem RlIn.kept{h h':bz}{u:ah}{r:(Int×Int)×Int}(p:RlIn h u r)(kp:∀b o,h.get? b=ao o->h'.get? b=ao o):RlIn h' u r:=by obtain⟨a,q,o,t,n,v,y,C,l,x⟩:=p;exact⟨a,q,o,t,n,v,kp _ _ y,C,l,x.kept kp⟩
theorem PrIn.tk{h:bz}{p:aq}{b k:Int}(x:PrIn h (.ref p) b k):kT (Jx prog w) h [.inl b,.inl k] p:=by obtain⟨a,o,t,t',n,v,y,C,u⟩:=x;cases v;exact⟨o,_,n,y,C,u,.cons (zfb b t) (.cons (zfb k t') .nil)⟩
theorem zrK{p q:aq}{b k l o:Int}(u:A.units<cLine)(x:PrIn s.heap (.ref p) b k)(y:PrIn s.heap (.ref q) l o):pV A s (.ref p) (.ref q) (decide (b=l/\k=o)):=λprog w E Q h=>by
 refine wpAny_eqBool_tuple (knd:=Jx prog w) u x.tk y.tk ?_;have:decide (([kX b,kX k]:List Key)=[kX l,kX o])=decide (b=l/\k=o):=by rw[decide_eq_decide];constructor;intro z;cases z;exact⟨rfl,rfl⟩;rintro⟨rfl,rfl⟩;rfl
 rw[this];exact h
theorem zrg{p q:aq}{b k v C:Int}(G:A.units<cLine)(x:PrIn s.heap (.ref p) b k)(y:PrIn s.heap (.ref q) v C):LtAt prog w A s bj (.ref p) (.ref q) (HT.lexLt [b,k] [v,C]):=λE Q h=>by obtain⟨a,o,t,t',n,Y,R,I,N⟩:=x;obtain⟨a',S,u,Z,J,f0,f1,f2,U⟩:=y;cases Y;cases f0;rw[oneLt'_eq];simp only[aK,if_false];refine aa (show wpAny (model prog w) A (compareOp .Lt (.ref p) (.ref q)) _ E s from HT.zdW ⟨o,R,I,n,N⟩ ⟨S,f1,f2,J,U⟩ (.cons _ _ (.cons _ _ .nil)) (.cons _ _ (.cons _ _ .nil)) G ?_);exact cW h
theorem zk8{vs:List ah}{Q:fL->av->Prop}(h1:1<=vs.length)(Y:∀v∈vs,∃r,RlIn s.heap v r)(h:Q (tuples' bj) s):wpAny (model prog w) A (keyKind' vs.toArray) Q E s:=by
 rw[keyKind'_eq,kD,map_eq_pure_bind];refine aa (aa (Z1 (P:=λ_ r=>∃(p:aq) (o:Obj),r=ao (.ref p)/\s.heap.get? p=ao o/\o.cls=.type "tuple") vs (λv L Q' I=>?_) λrs C=>ae ?_));obtain⟨r,a,p,o,t,n,rfl,G,e2,e3,a',o',t1,t2,n',e4,e5,e6,e7⟩:=Y v L;cases e4;rw[zj9];refine aa (eM (T:="tuple") ⟨o,G,e2⟩ ?_);rw[if_neg (by decide)];exact aa (iw G e3 (ae (I _ ⟨p,o',rfl,e5,e6⟩)));have al:∀r∈rs,∃(p:aq) (o:Obj),r=ao (.ref p)/\s.heap.get? p=ao o/\o.cls=.type "tuple":=λr J=>by obtain⟨_,_,h⟩:=WF C J;exact h
 have ln:rs.length=vs.length:=(fD C).symm;have Z:(rs.toArray.all λx=>x.isSome)=be:=by rw[kS,dF];intro x hx;obtain⟨p,o,rfl,_⟩:=al x hx;rfl
 rw[if_pos Z];refine aa (cU ?_);rw[tN];have N:rs.toArray.filterMap id=(rs.filterMap id).toArray:=by simp
 rw[N,kD,map_eq_pure_bind];refine aa (aa (aa (Z1 (P:=λ_ r=>r=bo "tuple") _ (λv L Q' I=>?_) λts R=>ae ?_)));obtain⟨x,hx,e⟩:=gK.mp L;obtain⟨p,o,rfl,g,c⟩:=al x hx;cases e;exact eM (T:="tuple") ⟨o,g,c⟩ (I _ rfl);have u:∀r∈ts,r=bo "tuple":=λr J=>by obtain⟨_,_,h⟩:=WF R J;exact h
 cases ts with
 | nil=>exact ae (ae h)
 | cons S U =>
  have G:S=bo "tuple":=u S (.head _);subst G;have Ng:(((bo "tuple")::U).toArray.all λx=>x == bo "tuple")=be:=by rw[kS,dF];intro x hx;rw[u x hx];rfl
  have h0:((bo "tuple")::U).toArray[0]?=ao (bo "tuple"):=by simp
  rw[h0];simp only[Ng,if_true];refine ae (ae ?_);exact h
theorem zrh{a b c d:Int}:HT.lexLt [a,b] [c,d]=decide (a<c\/(a=c/\b<d)):=by
 have e:HT.lexLt [a,b] [c,d]=if a=c then(if b=d then bj else decide (b<d)) else decide (a<c):=rfl
 rw[e];split;rename_i h;subst h;split;symm;rw[decide_eq_false_iff_not];lia;rw[decide_eq_decide];lia;rw[decide_eq_decide];lia
theorem ziW{vs:List ah}{h0:bz}(N:A.units<cLine)(y:∀v∈vs,∃r,RlIn s.heap v r/\rkR h0 v=rkn r/\0<=r.1.2/\r.1.2<1000/\0<=r.2/\r.2<=1):Kinds prog w A s (rkR h0) vs:=λh2=>by
 refine⟨tuples' bj,λE Q q=>zk8 (by lia) (λv U=>?_) q,λp q E Q mp S h=>?_⟩;obtain⟨r,h,_⟩:=y v U;exact⟨r,h⟩;have mem:∀z∈(pairsOf vs).toList,z.1∈vs:=λz hz=>by
  have:z∈vs.zip vs:=by simpa[pairsOf] using hz
  exact(fx this).1
 obtain⟨⟨⟨b,k⟩,g⟩,⟨a,x,o,t,n,e0,e1,e2,e3,R⟩,r1,k0,Z,g0,g1⟩:=y _ (mem p mp);obtain⟨⟨⟨l,u⟩,g'⟩,⟨a',x',o',t',n',f0,f1,f2,f3,f4⟩,Y,C,J,I,G⟩:=y _ (mem q S);rw[r1,Y]at h;rw[e0,f0];refine zh6 e1 e3 f1 f3 (zrK N R f4) (iZ g t g' t') (λ_=>zrg N R f4) (λ_=>zjQ g g' t t') ?_;have lx:HT.lexLt [b,k] [l,u]=decide (b<l\/(b=l/\k<u)):=zrh;have n1:rkn ((b,k),g)=(b*1000+k)*2+g:=rfl;have n2:rkn ((l,u),g')=(l*1000+u)*2+g':=rfl;have:(if decide (b=l/\k=u)=be then(if (g == g')=be then bj else decide (g<g')) else HT.lexLt [b,k] [l,u])=decide (rkn ((b,k),g)<rkn ((l,u),g')):=by rw[lx];simp only[beq_iff_eq,decide_eq_true_eq];dsimp only at k0 Z C J g0 g1 I G;split;split;symm;rw[decide_eq_false_iff_not];lia;rw[decide_eq_decide];lia;rw[decide_eq_decide];lia
 rw[this];exact h
end
def zput(zs:ZT)(k:Int×Int)(b:aq)(v:V):ZT:=if (zs.any λz=>decide (z.1=k))=be then zs.map (λz=>if z.1=k then(z.1,z.2.1,v) else z) else zs++[(k,b,v)]
def putT(ks:KT2)(k:Int×Int)(t:af):KT2:=if (ks.any λz=>decide (z.1=k))=be then ks.map (λz=>if z.1=k then(z.1,t) else z) else ks++[(k,t)]
def valT(ks:KT2)(k:Int×Int):Option af:=(ks.find? λz=>decide (z.1=k)).map (·.2)
def kL(k:Int×Int):List Key:=[.inl k.1,.inl k.2]
theorem ZE{k l:Int×Int}:kL k=kL l↔k=l:=by constructor;intro h;unfold kL at h;injection h with h1 h2;injection h2 with h2 _;injection h1 with h1;injection h2 with h2;exact dR h1 h2;rintro rfl;rfl
def ZX(z:(Int×Int)×aq×V)(x:List Key×aq×ah):Prop:=x.1=kL z.1/\x.2.1=z.2.1/\RelV z.2.2 x.2.2
theorem zls{zs:ZT}{xs:List (List Key×aq×ah)}(r:bT ZX zs xs)(k:Int×Int):(atKey xs (kL k)).isSome=zs.any λz=>decide (z.1=k):=by
 induction r with
 | nil=>rfl
 | @cons z x zs xs h t ih =>
  by_cases e:z.1=k;have:x.1=kL k:=by rw[h.1,e]
  simp[atKey,cO,this,e];have:¬x.1=kL k:=λl=>e (ZE.mp (h.1.symm.trans l));have u:atKey (x::xs) (kL k)=atKey xs (kL k):=by simp[atKey,cO,this]
  rw[u,ih,m7,decide_eq_false e,v3]
theorem zpA{zs:ZT}{xs:List (List Key×aq×ah)}(r:bT ZX zs xs)(k:Int×Int){b:aq}{v:V}{u:ah}(y:RelV v u):bT ZX (zput zs k b v) (storedH xs (kL k) b u):=by
 unfold zput storedH;rw[zls r k];by_cases e:(zs.any λz=>decide (z.1=k))=be;rw[if_pos e,if_pos e];clear e;induction r with
 | nil=>exact .nil
 | @cons z x zs xs h t ih =>refine .cons ?_ ih;unfold putAt;dsimp only;by_cases e:z.1=k;rw[if_pos e,if_pos (by rw[h.1,e])];exact⟨h.1,h.2.1,y⟩;rw[if_neg e,if_neg (λC=>e (ZE.mp (h.1.symm.trans C)))];exact h
 rw[if_neg e,if_neg e];exact Paired.snoc r ⟨rfl,rfl,y⟩
theorem ziy{zs:ZT}{xs:List (List Key×aq×ah)}(r:bT ZX zs xs):xs.map (·.1)=(zs.map (·.1)).map kL:=by
 induction r with
 | nil=>rfl
 | cons h t l=>rw[aU,aU,aU,l,h.1]
theorem zjK{l:qB}:(l.map kL).Nodup↔l.Nodup:=by
 induction l with
 | nil=>simp
 | cons a l v =>
  rw[aU,cH,cH,v];have:kL a∈l.map kL↔a∈l:=by constructor;intro h;obtain⟨b,x,e⟩:=aY.mp h;rwa [<- ZE.mp e];exact cG
  rw[this]
theorem zji(zs:ZT)(k:Int×Int)(b:aq)(v:V):(zput zs k b v).length<=zs.length+1:=by unfold zput;split;rw[aN];exact oU _;simp
section
variable{P:aQ}{w:bg}
theorem zxk{z:(Int×Int)×aq×V}{x:List Key×aq×ah}(h:ZX z x):entZ z (entryOfKey (tupleKind (Jx P w)) x):=by obtain⟨l,o,u⟩:=h;refine⟨?_,?_,u⟩;show tupleKeyHash (Jx P w) x.1=_;rw[l];rfl;show bR x.2.1=_;rw[o]
theorem zoe{zs:ZT}{es:List fW}(r:bT entZ zs es):∃xs:List (List Key×aq×ah),bT ZX zs xs/\es=xs.map (entryOfKey (tupleKind (Jx P w))):=by
 induction r with
 | nil=>exact⟨[],.nil,rfl⟩
 | @cons z e zs es h t ih =>obtain⟨xs,x1,x⟩:=ih;obtain⟨u,v,y⟩:=h;refine⟨(kL z.1,z.2.1,e.val)::xs,.cons ⟨rfl,rfl,y⟩ x1,?_⟩;rw[aU,<- x];congr 1;cases e;dsimp only at u v;rw[u,v];rfl
theorem zuM{zs:ZT}{xs:List (List Key×aq×ah)}(r:bT ZX zs xs):bT entZ zs (xs.map (entryOfKey (tupleKind (Jx P w)))):=by
 induction r with
 | nil=>exact .nil
 | cons h t u=>exact .cons (zxk h) u
end
section
variable{X:Cx}{pins:qO}{σ:St}{H:Hp}{s:av}{a:aq}{zs:ZT}{ep:Nat}{A:bh}{E:qV}
theorem ZJ(I:Inv X pins σ H s)(h:H a=ao (ZDO a zs ep))(v:∀z∈zs,SqT X.K H z.2.1 [.int z.1.1,.int z.1.2]):(a == sysModules)=bj/\zs.length<=sizeLine/\∃xs,bT ZX zs xs/\s.heap.DictOfH (tupleKind (Jx X.prog X.w)) a xs:=by obtain⟨⟨u,G,nd,o,es,g1,g2,g3,pr⟩,_⟩:=I.hok a _ h;obtain⟨xs,x1,l⟩:=zoe (P:=X.prog) (w:=X.w) pr;refine⟨u,G,xs,x1,o,es,ep,g1,g2,g3,l,λx hx=>?_,?_⟩;obtain⟨z,hz,C,y,_⟩:=WF x1 hx;have:=UI (k:=kL z.1) I (v z hz);rw[C,y];exact this;rw[ziy x1];exact zjK.mpr nd
theorem ZK{H':Hp}{h':bz}{xs:List (List Key×aq×ah)}(x:(a == sysModules)=bj)(I:zs.length<=sizeLine)(r:bT ZX zs xs)(y:h'.DictOfH (tupleKind (Jx X.prog X.w)) a xs):∃ep,JL X.prog X.w H' h' a (ZDO a zs ep):=by obtain⟨o,es,ep,g1,g2,g3,G,_,l⟩:=y;refine⟨ep,⟨x,I,?_,o,es,g1,g2,g3,?_⟩,⟨o,g1⟩,?_⟩;rw[ziy r]at l;exact zjK.mp l;rw[G];exact zuM r;rintro J L ⟨x1,u,x3,o,es,C,v⟩ k;exact⟨x1,u,x3,o,es,k o C,v⟩
theorem zlz{k:Int×Int}{b:aq}{v:V}{r:ah}{Q:Unit->av->Prop}(G:A.units+1<cLine)(I:Inv X pins σ H s)(h:H a=ao (ZDO a zs ep))(S:∀z∈zs,SqT X.K H z.2.1 [.int z.1.1,.int z.1.2])(U:SqT X.K H b [.int k.1,.int k.2])(hl:zs.length<sizeLine)(L:RelV v r)
  (J:∀s' o,Inv X pins σ (upd H a (ZDO a (zput zs k b v) o)) s'->Q () s'):wpAny (model X.prog X.w) A (setItem (.ref a) (.ref b) r) Q E s:=by
 obtain⟨N,Z,xs,x1,R⟩:=ZJ I h S;have Y:xs.length<=sizeLine:=by rw[<- fD x1];exact Z
 refine wpAny_setItem_heap (hsz:=Y) (i7 G) (UI (k:=kL k) I U) R λh' u x=>?_;have he:∃q,h'.get? a=ao q:=let ⟨q,_,_,e,_⟩:=u;⟨q,e⟩;have C:(zput zs k b v).length<=sizeLine:=by have:=zji zs k b v;lia
 have ok:∀H':Hp,∃o,JL X.prog X.w H' h' a (ZDO a (zput zs k b v) o):=λH'=>ZK N C (zpA x1 k L) u;obtain⟨o,y⟩:=ok H;exact J _ o (zi9 I (by rw[h];exact uC) x he y)
end
section
variable{K:qF}{hd:Option aq}{O:aq->Prop}{H:Hp}{zs:ZT}{ks:KT2}
theorem Jo.sq(r:Jo K hd O H zs ks):∀z∈zs,SqT K H z.2.1 [.int z.1.1,.int z.1.2]:=by
 intro z hz;induction zs generalizing ks with
 | nil=>cases hz
 | cons y zs u =>
  cases r with
  | cons l C r =>
   rcases aE.mp hz with rfl|hz;obtain⟨a,vs,e,sq,x⟩:=l.tupI;cases e;cases x with
   | cons x1 o =>
    cases o with
    | cons x3 v =>cases v;rw[x1.intI,x3.intI]at sq;exact sq
   exact u r hz
theorem Jo.length(r:Jo K hd O H zs ks):zs.length=ks.length:=by
 induction zs generalizing ks with
 | nil=>cases r;rfl
 | cons y zs l =>
  cases r with
  | cons o u r=>rw[aL,aL,l r]
theorem Jo.keys(r:Jo K hd O H zs ks):zs.map (·.1)=ks.map (·.1):=by
 induction zs generalizing ks with
 | nil=>cases r;rfl
 | cons y zs l =>
  cases r with
  | cons o u r=>rw[aU,aU,l r]
theorem Jo.snoc{k:Int×Int}{q:aq}{v:V}{d:af}(h:Rep K hd O H (.ref q) (.tuple [.int k.1,.int k.2]))(x:Rep K hd O H v d){zs:ZT}{ks:KT2}(r:Jo K hd O H zs ks):Jo K hd O H (zs++[(k,q,v)]) (ks++[(k,d)]) :=
 r.ind (P:=λzs ks=>Jo K hd O H (zs++[(k,q,v)]) (ks++[(k,d)])) (.cons h x .nil) λa b _ r=>.cons a b r
theorem Jo.put(r:Jo K hd O H zs ks)(k:Int×Int){b:aq}{v:V}{t:af}(J:Rep K hd O H (.ref b) (.tuple [.int k.1,.int k.2]))(x:Rep K hd O H v t):Jo K hd O H (zput zs k b v) (putT ks k t):=by
 have C:(zs.any λz=>decide (z.1=k))=ks.any λz=>decide (z.1=k):=by
  have I:(zs.any λz=>decide (z.1=k))=(zs.map (·.1)).any λz=>decide (z=k):=by rw[nX];rfl
  have L:(ks.any λz=>decide (z.1=k))=(ks.map (·.1)).any λz=>decide (z=k):=by rw[nX];rfl
  rw[I,L,r.keys]
 unfold zput putT;rw[C];split;clear C;rename_i e;clear e;induction zs generalizing ks with
 | nil=>cases r;exact .nil
 | cons y zs G =>
  cases r with
  | @cons k' q v' d zs ks h1 h2 r =>rw[aU,aU];dsimp only;by_cases e:k'=k;rw[if_pos e,if_pos e];exact .cons h1 x (G r);rw[if_neg e,if_neg e];exact .cons h1 h2 (G r)
 exact Jo.snoc J x r
end
section
variable{X:Cx}{e e1 e2:a8}{x:Str}{pos:Pos}{d d1 d2:DTE}
def zvQ:TE:=λ_ H Q=>∀p,H p=bc->∀ep,Q (.ref p) (upd H p (ZDO p [] ep))
theorem zqT:PE X (.Dict [] [] pos) zvQ:=λpins s σ H Q I h=>by have u:(s.heap.objs.size == sysModules)=bj:=beq_eq_false_iff_ne.mpr (eK (aT I.big));obtain⟨ep,ok⟩:=ZK (X:=X) (H':=H) (zs:=[]) u (eD _) .nil (nD s.heap);exact wpAny_Dict_empty ⟨.ref s.heap.objs.size,_,I.laid (a:=s.heap.objs.size) (o:=ZDO s.heap.objs.size [] ep) (t':=s.toks) (λ_ _ q=>aj _ q) (aB _) ok,rfl,h _ (I.hok.fresh (aB _)) ep⟩
def zsQ(i:Nat):DTS:=λD l n=>D.nx (l.set i (ao (.dtt []))) n
theorem zrN{i:Nat}{o dp:Pos}(G:X.N.Nodup)(hi:X.N[i]?=ao x)(hx:Loc X.env.scope x)(v:swapsWith (.Dict [] [] dp) (ao (.Name x o)) pos.line X.env=pure bj:=by rfl)(hf:Fnl X x:=by walk_at "F") :
  DS X (.Assign [.Name x o] (.Dict [] [] dp) pos) (zsQ i):=by
 refine⟨_,Qr G hi hx zqT v hf,λC J σ H n D I S hd g=>?_⟩;intro p u ep;have e1:ExtE C.hd H (upd H p (ZDO p [] ep)):=ExtE.new u;have y:Hn X.K C.hd (upd H p (ZDO p [] ep)) n:=S.hnd.same (JR u);exact g.nx _ _ _ n hd (S.putNew e1 y u ⟨[],ep,JJ,.nil⟩) (zcZ e1 u)
def zwr(K:qF)(C ty u:TE):TS:=λD σ H=>u σ H λv G=>C σ G λx I=>ty σ I λy l=>∃a zs ep k b,x=.ref a/\y=.ref b/\l a=ao (ZDO a zs ep)/\(∀z∈zs,SqT K l z.2.1 [.int z.1.1,.int z.1.2])/\SqT K l b [.int k.1,.int k.2]/\zs.length<sizeLine/\∀o,D.nx σ (upd l a (ZDO a (zput zs k b v) o))
theorem zqK{o i value:a8}{J ty G:TE}{l:Pos}(R:X.A.units+1<cLine)(ho:PE X o J)(hi:PE X i ty)(Y:PE X value G)(hs:swapsWith value (ao (.Subscript o i l)) pos.line X.env=pure bj) :
  PS X (.Assign [.Subscript o i l] value pos) (zwr X.K J ty G):=by
 intro pins s σ H D I h;refine wpAny_Assign_Subscript (thn (Y pins s σ H _ I h) λr s1 h1=>?_) hs;obtain⟨v,U,I1,Z,q1⟩:=h1;refine thn (ho pins s1 σ U _ I1 q1) λu s2 h2=>?_;obtain⟨x,H2,I2,rx,q2⟩:=h2;refine thn (hi pins s2 σ H2 _ I2 q2) λiv s3 h3=>?_;obtain⟨y,H3,L,ry,a,zs,ep,k,b,rfl,rfl,g,hk,hb,N,q3⟩:=h3;cases rx;cases ry;exact zlz R L g hk hb N Z λs4 C I4=>⟨σ,_,I4,q3 C⟩
def lBlk(y:af)(R:Int×Int->Prop):Prop:=∃k:Int×Int,y=.tuple [.int k.1,.int k.2]/\R k
def Vp(i:Nat)(o C:DTE):DTS:=λD l n=>C l n λt u=>match l[i]? with
 | some (ao (.dtt ks))=>o l u λy v=>lBlk y λk=>ks.length<16777216/\D.nx (l.set i (ao (.dtt (putT ks k t)))) v
 | _=>False
theorem zni(i:Nat){p1 l:Pos}(hr:X.A.units+1<cLine)(h1:DE X e1 d1)(h2:DE X e2 d2)(hN:X.N[i]?=ao x:=by rfl)(hv:Vis X.env.scope x:=by walk_at "V")(hd:Ndb x:=by rfl)
  (I:Ncd x:=by rfl) (hs:swapsWith e2 (ao (.Subscript (.Name x p1) e1 l)) pos.line X.env=pure bj:=by rfl) :
  DS X (.Assign [.Subscript (.Name x p1) e1 l] e2 pos) (Vp i d1 d2):=by
 obtain⟨t1,Z,h1⟩:=h1;obtain⟨t2,pa2,h2⟩:=h2;refine⟨_,zqK hr (Qq hN hv hd I) Z pa2 hs,λC ρ σ H n D D' S hd g=>?_⟩;refine h2 C ρ σ H n _ _ S hd λt n1 v H1 r e1 J q=>?_;have Y:=S.on e1 J;split at r;rename_i ks L;obtain⟨p,zs,ep,s1,s2,s3,s4⟩:=Y.dtt i ks L;refine⟨.ref p,s1,?_⟩;refine h1 C ρ σ H1 n1 _ _ Y r λy n2 w H2 U e2 R q2=>?_;have S2:=Y.on e2 R;obtain⟨p',zs',G,u1,u2,u3,u4⟩:=S2.dtt i ks L;rw[s1]at u1;cases u1;obtain⟨k,rfl,hl,U⟩:=U;obtain⟨b,rfl,sb⟩:=q2.bkI;have q':=e2.rep S.hx q;refine⟨p,zs',G,k,b,rfl,rfl,u2,u3.sq,sb,by rw[u3.length];exact hl,λe3=>?_⟩;obtain⟨S3,k3⟩:=S2.chgC (c':=.dtt (putT ks k t)) rfl rfl L s1 λO' H' a b hp=>⟨_,_,hp,(u3.put k q2 q').mono a b⟩;exact g.nx _ _ _ n2 U S3 ((e1.keep.trans e2.keep).trans k3);exact r.elim
end
section
variable{D:JH}{ρ ρ':En}{n i j:Nat}{d dk dv:DTE}{R:qN}{ks:KT2}
instance zxo:Stp (zsQ i D ρ n) (SetK i (ao (.dtt [])) D.nx ρ n):=⟨λh=>h⟩
instance zxn [h:GetN ρ i (ao (.dtt ks))]:Stp (Vp i dk dv D ρ n) (dv ρ n λt n1=>dk ρ n1 λy n2=>lBlk y λk=>ks.length<16777216/\SetK i (ao (.dtt (putT ks k t))) D.nx ρ n2):=⟨λk=>by unfold Vp;rw[h.e];exact k⟩
instance zxP {a b:Int}{Q:Int×Int->Prop}:Stp (lBlk (.tuple [.int a,.int b]) Q) (Q (a,b)):=⟨λh=>⟨(a,b),rfl,h⟩⟩
end
def rD(rs:List ((Int×Int)×Int)):List af:=rs.map λr=>.tuple [.tuple [.int r.1.1,.int r.1.2],.int r.2]
def RlOk(r:(Int×Int)×Int):Prop:=0<=r.1.2/\r.1.2<1000/\0<=r.2/\r.2<=1
def zmZ(t:af)(R:qD->Prop):Prop:=JN t λts=>∃rs:List ((Int×Int)×Int),ts=rD rs/\rs.length<100000/\(∀r∈rs,RlOk r)/\∀l:List ((Int×Int)×Int),l.Perm rs->l.Pairwise (λa b=>rkn a<=rkn b)->R (rD l)
def zqd(d:DTE):DTA:=λo n R=>d o n λt l=>zmZ t λts=>R ts l
section
variable{X:Cx}{e:a8}{d:DTE}{pos p:Pos}{k:Nat}
theorem zlg(S:Room k X.A)(hm:X.mg "sorted" = bc) (h:DL X e d) (hs:starEach [e] X.env=[(bj,eval e X.env)]) (hg:Gl X "sorted":=by rfl):DN X (.Call (.Name "sorted" p) [e] [] pos) (zqd d) :=
 zgf (L:=zmZ) (λt R=>ze6 λts ⟨rs,et,y,ok,q⟩=>⟨_,λr:(Int×Int)×Int=>.tuple [.tuple [.int r.1.1,.int r.1.2],.int r.2],RlIn,rkn,rkR,rs,et,ziA y,λ{_ _ _ _ _ _ v u a} ha I r rv=>by
  obtain⟨b,ws,rfl,sq,rp⟩:=r.tupI;cases rp with
  | cons x1 G =>
   cases G with
   | cons x3 x4 =>
    cases x4;obtain⟨q,rfl,x⟩:=x1.bkI;rw[x3.intI]at sq;cases(show u=bR b from rv);obtain⟨is,ys,⟨o,f1,f2,n,f3⟩,_⟩:=I.tuple sq;cases ys with
    | cons a1 a2 =>
     cases a2 with
     | cons a3 a4 =>cases a4;cases(show _=bR q from a1);obtain⟨t,rfl⟩:=a3;exact⟨b,q,o,t,n,rfl,f1,f2,f3,zqo I x⟩,λp kp=>⟨p.kept kp,p.rk⟩,λJ Z=>ziW J λv Y=>by
  obtain⟨a,U,p,e⟩:=Z v Y;exact⟨a,p,e,ok a U⟩,q⟩) S hm h hs hg
end
instance zvW {d:DTE}{ρ:En}{n:Nat}{R:qD->Nat->Prop}:Stp (zqd d ρ n R) (d ρ n λt n1=>zmZ t λts=>R ts n1):=⟨λh=>h⟩
def KZp(K:qF)(H:Hp)(x:V)(z:(Int×Int)×aq×V):Prop:=∃a,x=.ref a/\SqT K H a [.ref z.2.1,z.2.2]/\SqT K H z.2.1 [.int z.1.1,.int z.1.2]
section
variable{X:Cx}
theorem zqZ{pins:qO}{σ:St}{H:Hp}{s:av}(I:Inv X pins σ H s){vs:List V}{its:List ah}{zs:ZT}(r:Vals vs its)(h:bT (KZp X.K H) vs zs) :
  ∃ps:List (List Key×aq×ah),bT ZX zs ps/\bT (PrT X.prog X.w s.heap) its ps:=by
 induction vs generalizing its zs with
 | nil=>cases r;cases h;exact⟨[],.nil,.nil⟩
 | cons v vs L =>
  cases r with
  | cons U J =>
   cases h with
   | @cons _ z _ zs h1 h2 =>
    obtain⟨a,rfl,sq,sk⟩:=h1;obtain⟨ps,N,R⟩:=L J h2;obtain⟨x,y,it,_⟩:=I.tuple sq;cases y with
    | cons C S =>
     cases S with
     | cons Y G =>cases G;rename_i u w;cases(show _=bR a from U);cases(show _=bR z.2.1 from C);exact⟨(kL z.1,z.2.1,w)::ps,.cons ⟨rfl,rfl,Y⟩ N,.cons ⟨a,rfl,it,UI (k:=kL z.1) I sk⟩ R⟩
end
def prT(q:(Int×Int)×af):af:=.tuple [.tuple [.int q.1.1,.int q.1.2],q.2]
theorem zoy{K:qF}{hd:Option aq}{O:aq->Prop}{H:Hp}{vs:List V}{ks:KT2}(r:Reps K hd O H vs (ks.map prT)):∃zs:ZT,bT (KZp K H) vs zs/\Jo K hd O H zs ks:=by
 induction ks generalizing vs with
 | nil=>cases r;exact⟨[],.nil,.nil⟩
 | cons a ks x =>
  cases r with
  | cons h r =>
   obtain⟨zs,G,y⟩:=x r;obtain⟨b,J,rfl,sq,I⟩:=h.tupI;cases I with
   | cons x1 v =>
    cases v with
    | cons x3 C =>cases C;obtain⟨q,rfl,u⟩:=x1.bkI;exact⟨(a.1,q,_)::zs,.cons ⟨b,rfl,sq,u⟩ G,.cons x1 x3 y⟩
end L2
namespace L2
open PySem
abbrev RL:=List ((Int×Int)×Int)
def kR(rs:RL):KT2:=rs.map λr=>(r.1,.int r.2)
def Rls0(bits:Int)(rs:RL):Prop:=(∀r∈rs,IsBk bits r.1.1 r.1.2/\0<=r.2/\r.2<=1)/\(rs.map (·.1)).Nodup
def bkLt(a b:Int×Int):Prop:=a.1<b.1\/(a.1=b.1/\a.2<b.2)
def Rls(bits:Int)(rs:RL):Prop:=(∀r∈rs,IsBk bits r.1.1 r.1.2/\0<=r.2/\r.2<=1)/\rs.Pairwise λa b=>bkLt a.1 b.1
theorem Rls0.ok{bits:Int}{rs:RL}(u:bits<=64)(h:Rls0 bits rs):∀r∈rs,RlOk r:=λr o=>by have:=h.1 r o;have l:=this.1.1;have v:=this.1.2.1;exact⟨l,by lia,this.2⟩
theorem Rls0.sort{bits:Int}{rs l:RL}(G:bits<=64)(h:Rls0 bits rs)(pm:l.Perm rs)(pw:l.Pairwise λa b=>rkn a<=rkn b):Rls bits l:=by refine⟨λr v=>h.1 r (pm.mem_iff.mp v),?_⟩;have nd:(l.map (·.1)).Nodup:=(pm.map _).nodup_iff.mpr h.2;rw[List.nodup_iff_pairwise_ne,dN]at nd;have al:∀r∈l,RlOk r:=λr v=>h.ok G r (pm.mem_iff.mp v);refine(pw.and nd).imp_of_mem λ{a b} ha hb ⟨h1,h2⟩=>?_;have y:=al a ha;have x:=al b hb;unfold rkn at h1;unfold RlOk at y x;obtain⟨a1,a2,L,S⟩:=y;obtain⟨C,J,R,I⟩:=x;unfold bkLt;have ne:¬(a.1.1=b.1.1/\a.1.2=b.1.2):=λz=>h2 (dR z.1 z.2);by_cases e:a.1.1=b.1.1;right;refine⟨e,?_⟩;have:a.1.2≠b.1.2:=λz=>ne ⟨e,z⟩;lia;left;lia
end L2
namespace Bd
open PySem PySem.W PySem.Calls L2 PyProof.Rows
structure ZZ where
 P:aQ
 w:bg
 K:qF
 mg:Str->Option ah
 base:bz
def FQ(Z:ZZ)(x:Str)(st:fA)(ps:List Str)(k:Nat)(l:Sp):Prop:=Fq Z.P Z.w Z.K Z.mg Z.base x st ps k l
theorem okQ{Z:ZZ}{x:Str}{st:fA}{ps N:List Str}{k m:Nat}{g:GD}(D:Dq Z.K Z.mg x st ps)(S:Ur N ps (JE st))(v:m=ps.length)
  (C:∀(f:aq) (l:ah) (A:bh) (outer:List Env) (s:av) (H:Hp) (E:XK),Room k (A.deeper (envOfC x (JE st) s.heap.objs.size f l))->∃d,DSs (cxOf CX0 Z.P Z.w Z.K Z.mg Z.base N x (JE st) f l A outer s H E).nox (J8 st) d /\
   ∀ts n R,ts.length=m->g ts n R->d { nx:=λ_ y=>R .none y,rt:=R } (JW N ts) n):FQ Z x st ps (k+1) (spD Z.K m g):=by
 obtain⟨f,fd,D⟩:=D;exact⟨f,fd,D,D.okD S v λl A outer s H E u=>C f l A outer s H E u⟩
theorem bnd1{x:Str}{st:fA}{a:Str}(h:∀(kV doc pm:ah) (an:Option aq) (l ct u:ah),bindArgs (fc x x (QB st) (J8 st) (JE st) .none kV doc pm an l ct) ⟨[u],[]⟩=pure [(a,u)]):BndA x st [a]:=λ_ _ _ _ _ _ y v=>by obtain⟨_,rfl⟩:=len1 v;exact h ..
theorem bnd2{x:Str}{st:fA}{a b:Str}(h:∀(kV doc pm:ah) (an:Option aq) (l ct u v:ah),bindArgs (fc x x (QB st) (J8 st) (JE st) .none kV doc pm an l ct) ⟨[u,v],[]⟩=pure [(a,u),(b,v)]):BndA x st [a,b]:=λ_ _ _ _ _ _ C y=>by obtain⟨_,_,rfl⟩:=len2 y;exact h ..
theorem bnd3{x:Str}{st:fA}{a b c:Str}(h:∀(kV doc pm:ah) (an:Option aq) (l ct u v y:ah),bindArgs (fc x x (QB st) (J8 st) (JE st) .none kV doc pm an l ct) ⟨[u,v,y],[]⟩=pure [(a,u),(b,v),(c,y)]):BndA x st [a,b,c]:=λ_ _ _ _ _ _ G C=>by obtain⟨_,_,_,rfl⟩:=len3 C;exact h ..
def Qb(h:bz):qF:=(eY h.objs.size).filterMap λa=>(h.get? a).map λo=>(a,o)
theorem zmT{h:bz}:∀{x:List aq}{a:aq},a∈x->(x.filterMap λa=>(h.get? a).map λo=>(a,o)).lookup a=h.get? a\/h.get? a=bc
 | [],_,m=>nomatch m
 | b::x,a,m=>by
  by_cases e:a=b;subst e;cases g:h.get? a with
  | none=>exact .inr rfl
  | some o=>exact .inl (by rw[dJ];simp[g,eC])
  have y:a∈x:=(aE.mp m).resolve_left e;rcases zmT (h:=h) y with z|z;refine .inl ?_;rw[dJ];cases g:h.get? b with
  | none=>exact z
  | some o =>
   have:(a == b)=bj:=by simpa using e
   simp only[fX];rw[eC,this];exact z
  exact .inr z
theorem zc5{h:bz}{a:aq}{o:Obj}(e:h.get? a=ao o):(Qb h).lookup a=ao o:=by have m:a∈eY h.objs.size:=hW.mpr (aG e);rcases zmT (h:=h) m with z|z;exact z.trans e;rw[e]at z;cases z
theorem zlB{h:bz}:(Qb h).In h:=λa o e=>by
 have key:∀(v:List aq),(v.filterMap λa=>(h.get? a).map λo=>(a,o)).lookup a=ao o->h.get? a=ao o:=by
  intro v;induction v with
  | nil=>intro z;cases z
  | cons b v x =>
   intro z;rw[dJ]at z;cases g:h.get? b with
   | none=>rw[g]at z;exact x z
   | some y =>
    rw[g]at z;simp only[fX,eC]at z;cases q:a == b with
    | true=>rw[q]at z;cases z;rw[eq_of_beq q];exact g
    | false=>rw[q]at z;exact x z
 exact key _ e
def VP:fA->Bool
 | .FunctionDef ..=>true
 | _=>false
def defName:fA->Str
 | .FunctionDef n _ _ _ _ _ _ _ _ _=>n
 | _=>aH ""
def zuS:fA->Pos
 | .FunctionDef _ _ _ _ _ _ _ _ _ p=>p
 | _=>⟨0,0,0,0⟩
def recD(st:fA):DefRec:=⟨defName st,QB st,J8 st,JE st,zuS st⟩
theorem getD_mem{l:List fA}{i:Nat}(h:VP (l.getD i (.Pass ⟨0,0,0,0⟩))=be):l.getD i (.Pass ⟨0,0,0,0⟩)∈l:=by
 rw[br]at h ⊢;cases e:l[i]? with
 | none=>rw[e]at h;cases h
 | some s=>exact ax e
section
variable{q:aQ}{loose:List Str}{MY:tZ->Option ah}{mg mb:qM}{h:bz}{x:Str}{st:fA}{ps:List Str}
theorem znK{cd:ah}{n:Str}(c:h.CodeRec cd n):kj (Qb h) cd n=be:=by
 obtain⟨a,o,vs,t,rfl,g,d,e⟩:=c;unfold kj;dsimp only;rw[zc5 g];obtain⟨y,u,l,v⟩:=o;cases(show l=_ from d);have l2:vs.toList[1]?=ao (.str n t):=by simpa using e
 dsimp only;match hv:vs.toList,l2 with
 | [],l2=>simp at l2
 | [_],l2=>simp at l2
 | a::b::r,l2 =>
  have:b=.str n t:=by simpa using l2
  subst this;simp
theorem dq_g(T:Top q loose MY mg mb h)(hd:recD st∈recsOf q)(G:defName st=x)(R:BndA x st ps):Dq (Qb h) mg x st ps:=by
 obtain⟨a,o,pm,cd,doc,C,S,y,v⟩:=T.fn _ hd;have C:mg (defName st)=ao (.ref a):=C;have v:h.CodeRec cd (defName st):=v;rw[G]at C v;obtain⟨L,I,J,N⟩:=o;have y:J=.func (docDef (defName st) (QB st) (J8 st) (JE st) pm cd doc):=y;rw[G]at y;have l:(Qb h).lookup a=ao ⟨L,I,.func (fc x x (QB st) (J8 st) (JE st) .none .none doc pm bc cd .none),N⟩:=by rw[zc5 S,y];rfl
 have kp:kh (Qb h) (.ref a)=be:=by unfold kh;dsimp only;rw[l]
 exact⟨a,_,zp2 l (znK v) kp,(zp2 l (znK v) kp).binds R,C⟩
end
theorem zvN{lw:PySem.W.OpenLaw}{q:aQ}{loose:List Str}{N:(Str->Option ah)->bz->Prop}{U:bg->bz->Prop}{d:DefRec}{k:Nat}(Z:k<=60)(hn:lw.most=ao 63)(L:d.params.defaults=[])
  (F:∀(w:bg) (s₀:av) (mg C:qM) (y:aq) (h:bz),Ground q loose [] N w s₀ mg C h->mg d.name=ao (.ref y) ->
   ∃fd:dZ,(∀(s:av) (u:ah),tW s fd ⟨[u],[]⟩ [("_law_script",u)])/\∀base:bz,(Qb h).In base->base.Ns mainGlobals mg->FnOk lw.prog w (Qb h) mg base CX0 k y fd ["_law_script"] (zqp (Qb h))) :
  PySem.W.WalkO q loose N U lw.row.toRowW d [] (λf vs=>AQ f vs):=by
 refine Att.attach_call hn L λw s₀ R mg C y o pm cd doc a vs ns G Y ho hd S J x v l hg=>?_;obtain⟨fd,hb,hF⟩:=F w s₀ mg C y _ G J;exact zo1 zlB G.T.g G.T.b G.T.builtins G.T.nolimit hg x v (cx l (by decide)) ((show Room 60 callerA from⟨rfl,by decide,by decide,rfl⟩).mono Z) hF hb (λH hO hS=>⟨a,ns,rfl,hS,l,λ_=>rfl⟩) λH e s' z=>z
end Bd
namespace L2
open PySem PySem.Spec PyProof PyProof.Rows
theorem zlx{a:aq}{ep:Nat}:ZDO a [] ep=KDO a [] ep:=by unfold ZDO KDO;congr 1;funext h;have e:∀l:List fW,bT entZ [] l↔bT entI [] l:=λl=>⟨λh=>by cases h;exact .nil,λh=>by cases h;exact .nil⟩;simp only[e,eN,cz,uu]
theorem zrP{ks:KT2}{ls:List (Int×af)}(e:Jr ks=Y2 ls):ks=[]/\ls=[]:=by
 cases ks with
 | nil=>cases ls with
  | nil=>exact⟨rfl,rfl⟩
  | cons _ _=>cases e
 | cons a ks=>cases ls with
  | nil=>cases e
  | cons b ls =>have h:=(o4 (iO (show(blkT a.1,a.2)::Jr ks=(cg b.1,b.2)::Y2 ls from e)).1).1;cases h
theorem zjJ{α:Type}[DecidableEq α]:∀{xs ys:List α},xs.Nodup->(∀x∈xs,x∈ys)->xs.length<=ys.length
 | [],_,_,_=>eD _
 | x::xs,ys,nd,h=>by have l:=cH.mp nd;have:=zjJ (xs:=xs) (ys:=ys.erase x) l.2 λy o=>(lh (by rintro rfl;exact l.1 o)).mpr (h y (by simp[o]));have hx:=h x (by simp);have e:=iN hx;have:=kG hx;rw[aL];lia
abbrev BL:=List (Int×Int)
theorem CanP.congr{S T:Int->Prop}{ps:BL}(h:CanP S ps)(e:∀x,S x↔T x):CanP T ps:=by obtain⟨rs,a,b,c⟩:=h;exact⟨rs,a,λx=>(b x).trans (e x),c⟩
theorem zt0{xs:qD}{k:Nat}{x:af}{R:af->Prop}(e:xs[k]?=ao x)(h:R x):oIx (.list xs) (.int (k:Int)) R:=by
 have o:k<xs.length:=by rcases cj k xs.length with z|z;exact z;rw[cc z]at e;cases e
 rw[Yi (x:=x)];exact h;unfold atI ixN;have:((0:Int)<=(k:Int)):=by lia
 have:((k:Int)<(xs.length:Int)):=by lia
 have u:xs[k]=x:=by rw[au o]at e;exact aP e
 simp[o,u]
section
variable{prog:aQ}{w:bg}{A:bh}{E:qV}{s:av}
theorem zma{d:aq}{es:Array fW}{ep:Nat}{Q:qV}(C:(d == sysModules)=bj)(G:Y6 s.heap d es ep)
  (I:Q (.ref s.heap.objs.size) { s with heap:=s.heap.push { cls:=.type "dict_keyiterator",data:=.fields #[.ref d,.int 0 0,.int es.size 0,.int ep 0] } }):wpAny (model prog w) A (pyIter (.ref d)) Q E s:=by
 obtain⟨x,o,v,u⟩:=G;have ty:s.TypeIs (.ref d) "dict":=⟨x,o,v.1⟩;refine kJ ty nY (bS nY ty PySem.F.entry_dict_iter ?_ (PySem.F.args_dict_iter_1 _));unfold cX.«dict.__iter__»;refine aa ?_;unfold vd;refine aa (oA ty ?_);show wpAny _ _ (pure (bR d)) _ _ s;refine ae ?_;show wpAny _ _ (oC d >>= _) _ _ s;unfold oC;have ns:¬((d == sysModules)=be):=by rw[C];exact bp
 rw[if_neg ns];refine aa (ae (aa (mV o u (aa (oo o u ?_)))));exact aa (bM (ae ⟨_,rfl,"dict_keyiterator",_,⟨_,aD _ rfl,rfl⟩,cN.lookup,by simpa[rawInt] using I⟩))
theorem zmb{it d:aq}{i ep:Nat}{es:Array fW}{e:fW}{Q:Option ah->av->Prop}(hi:s.heap.IsKeyIter it d i es.size ep)(L:Y6 s.heap d es ep)(hx:es[i]?=ao e)
  (G:∀h',h'.IsKeyIter it d (i+1) es.size ep->dE it s.heap h'->Q (ao e.key) { s with heap:=h' }):wpAny (model prog w) A (pyNext (.ref it)) Q E s:=by
 obtain⟨o,C,hc,hd⟩:=id hi;obtain⟨R,v,N,x⟩:=L;have ty:=hi.typeIs;have lt:i<es.size:=(mD.mp hx).1;unfold pyNext;refine aa (gm ?_);refine b7 (name:=aH "__next__") ty cN ?_;refine bS cN ty iQ ?_ (iI _);refine aa (ae (aa (aa ?_)));refine aa (fi ty (ae (aa (o5 C hd ?_))));have J:lG "dict_keyiterator" = bj:=by decide
 simp only[J,aK,if_false];show wpAny _ _ (if (bR d == eJ)=be then _ else _) _ _ s;have nd:¬((bR d == eJ)=be):=bp;rw[if_neg nd];refine aa (ae (aa (mV v x ?_)));rw[if_neg (by simp)];refine aa (ae (aa (oo v x ?_)));rw[if_neg (by simp)];refine ae ?_;simp only[show ¬((i:Int)<0) from by lia,if_false,bX,hx];refine aa (aa (fi ty (ae (aa (oE ty ?_)))));show wpAny _ _ (setField (.ref it) 1 (rawInt ((i:Int)+1)) >>= _) _ _ s;refine aa (dU C hd (by simp) ?_);have l:(s.heap.update it (gX (·.setIfInBounds 1 (rawInt ((i:Int)+1))))).IsKeyIter it d (i+1) es.size ep :=
  ⟨_,bP _ C (dO (bZ hd _)),(fZ ..).trans hc,by rw[bZ hd];simp[rawInt]⟩
 refine aa (cq (aa (oE (s:={ s with heap:=s.heap.update it (gX (·.setIfInBounds 1 (rawInt ((i:Int)+1)))) }) l.typeIs ?_)));show wpAny _ _ (pure e.key) _ _ _;exact ae (ae ⟨_,rfl,ae (G _ l (eS ..))⟩)
theorem zoA{it d:aq}{i ep:Nat}{es:Array fW}{Q:Option ah->av->Prop}(J:A.handled=bc)(hi:s.heap.IsKeyIter it d i es.size ep)(N:Y6 s.heap d es ep)(hx:es.size<=i)
  (I:∀h',mU it s.heap h'->Q bc { s with heap:=h' }):wpAny (model prog w) A (pyNext (.ref it)) Q E s:=by
 obtain⟨o,G,hc,hd⟩:=id hi;obtain⟨S,l,R,v⟩:=N;have ty:=hi.typeIs;unfold pyNext;refine aa (gm ?_);refine b7 (name:=aH "__next__") ty cN ?_;refine bS cN ty iQ ?_ (iI _);refine aa (ae (aa (aa ?_)));refine aa (fi ty (ae (aa (o5 G hd ?_))));have L:lG "dict_keyiterator" = bj:=by decide
 simp only[L,aK,if_false];show wpAny _ _ (if (bR d == eJ)=be then _ else _) _ _ s;have nd:¬((bR d == eJ)=be):=bp;rw[if_neg nd];refine aa (ae (aa (mV l v ?_)));rw[if_neg (by simp)];refine aa (ae (aa (oo l v ?_)));rw[if_neg (by simp)];refine ae ?_;simp only[show ¬((i:Int)<0) from by lia,if_false,bX,nU hx];refine aa (aa (fi ty (ae ?_)));show wpAny _ _ (setField (.ref it) 0 .none >>= _) _ _ s;refine aa (dU G hd (by simp) ?_);show wpAny _ _ (newExc (.type "StopIteration") [] >>= _) _ _ _;refine aa ?_;simp only[newExc,newTuple];refine aa (bM ?_ (by size_fits));refine aa (m:=firstArgMember _ _) (i9 (a:=eJ) (by first|rfl|(simp only[firstArgMember];rfl)) ?_);refine bM ?_ (by size_fits);simp only[raiseNew];refine aa (m4 ?_);have C:A.in1.handled=bc:=J;rw[C];refine aa (ae (oX ?_));refine aa (gE (T:="StopIteration") (b:=be) ⟨_,aD _ rfl,rfl⟩ mw (ae (I _ ?_)));exact(((eS ..).extBut.push _).push _)
end
theorem zfm:∀{ks ls:KT2},Jr ks=Jr ls->ks=ls
 | [],[],_=>rfl
 | [],_::_,e=>by cases e
 | _::_,[],e=>by cases e
 | (a,b)::ks,(c,d)::ls,e=>by have h:=iO (show(blkT a,b)::Jr ks=(blkT c,d)::Jr ls from e);have l:=o4 h.1;have o:=Cv l.1;have u:=uE (iO o).1;have v:=uE (iO (iO o).2).1;rw[l.2,zfm h.2,dR u v]
section
variable{K:qF}{hd:Option aq}{O:aq->Prop}{H:Hp}
theorem Rep.dtI{v:V}{ks:KT2}(h:Rep K hd O H v (.dict (Jr ks))):∃a zs ep,v=.ref a/\H a=ao (ZDO a zs ep)/\¬O a/\Jo K hd O H zs ks:=by
 generalize e:tz (Jr ks)=t at h;cases h with
 | @dct a ep h o =>
  have e:=eV e;cases ks with
  | nil=>exact⟨a,[],ep,rfl,by rw[zlx];exact h,o,.nil⟩
  | cons _ _=>cases e
 | @dcK a kvs ep ks' ps h o r e' =>have e:=eV e;rw[e']at e;obtain⟨rfl,rfl⟩:=zrP e;cases r;exact⟨a,[],ep,rfl,by rw[zlx];exact h,o,.nil⟩
 | @dcT a zs ep ks' ps h o r e' =>have e:=eV e;rw[e']at e;rw[zfm e];exact⟨a,zs,ep,rfl,h,o,r⟩
 | hand _=>exact(dict_noT (eV e).symm).elim
 | scr _ _=>exact(dict_noT (eV e).symm).elim
 | scrS _=>exact(dict_noT (eV e).symm).elim
 | exc _ _=>exact(dict_noT (eV e).symm).elim
 | _=>cases e
theorem RepT.dtI{v:V}{ks:KT2}(h:RepT K hd O H v (.dict (Jr ks))):∃a zs ep,v=.ref a/\H a=ao (ZDO a zs ep)/\Jo K hd O H zs ks:=by rcases h with h|⟨p,vs,ds,rfl,u,l,o,x⟩|⟨p,zs,ep,y,rfl,u,l,o,x⟩;obtain⟨a,zs,ep,e,l,_,o⟩:=h.dtI;exact⟨a,zs,ep,e,l,o⟩;cases u;rw[zfm (eV u)];exact⟨p,zs,ep,rfl,l,o⟩
def valZ(zs:ZT)(k:Int×Int):Option V:=(zs.find? λz=>decide (z.1=k)).map (·.2.2)
theorem Jo.val{zs:ZT}{ks:KT2}(r:Jo K hd O H zs ks){k:Int×Int}{d:af}(h:valT ks k=ao d):∃v,valZ zs k=ao v/\Rep K hd O H v d:=by
 induction zs generalizing ks with
 | nil=>cases r;simp[valT]at h
 | cons y zs l =>
  cases r with
  | @cons k' q v' d' zs ks h1 h2 r =>unfold valT at h;unfold valZ;rw[cO]at h ⊢;dsimp only at h ⊢;by_cases e:k'=k;rw[decide_eq_true e]at h ⊢;cases h;exact⟨v',rfl,h2⟩;rw[decide_eq_false e]at h ⊢;exact l r h
theorem zpd{ks:KT2}{k:Int×Int}:(ks.any ((λz=>decide (z=k))∘λx=>x.1))=(ks.find? λz=>decide (z.1=k)).isSome:=by
 induction ks with
 | nil=>rfl
 | cons y ks l =>rw[m7,cO];show(decide (y.1=k)||_)=_;cases decide (y.1=k);exact l;rfl
theorem Jo.anyK{zs:ZT}{ks:KT2}(r:Jo K hd O H zs ks)(k:Int×Int):(zs.any λz=>decide (z.1=k))=(valT ks k).isSome:=by
 have l:(zs.any λz=>decide (z.1=k))=(zs.map (·.1)).any λz=>decide (z=k):=by rw[nX];rfl
 rw[l,r.keys,nX];unfold valT;rw[Option.isSome_map];exact zpd
end
theorem zsj{zs:ZT}{xs:List (List Key×aq×ah)}(r:bT ZX zs xs){k:Int×Int}{v:V}(h:valZ zs k=ao v):∃p,atKey xs (kL k)=ao p/\RelV v p.2:=by
 induction r with
 | nil=>simp[valZ]at h
 | @cons z x zs xs h1 t ih =>
  unfold valZ at h;rw[cO]at h;by_cases e:z.1=k;rw[decide_eq_true e]at h;cases h;have:x.1=kL k:=by rw[h1.1,e]
  exact⟨x.2,by simp[atKey,cO,this],h1.2.2⟩;rw[decide_eq_false e]at h;have:¬x.1=kL k:=λl=>e (ZE.mp (h1.1.symm.trans l));obtain⟨p,p1,p2⟩:=ih h;refine⟨p,?_,p2⟩;rw[<- p1];simp[atKey,cO,this]
section
variable{X:Cx}{a b iter tg:a8}{da db dd:DTE}{pos p:Pos}{k:Nat}
def zu4(K:qF)(H:Hp)(y:V)(k:Int×Int):Prop:=∃b,y=.ref b/\SqT K H b [.int k.1,.int k.2]
def zu6(K:qF)(H:Hp)(x:V)(zs:ZT):Prop:=∃a ep,x=.ref a/\H a=ao (ZDO a zs ep)/\∀z∈zs,SqT K H z.2.1 [.int z.1.1,.int z.1.2]
def rInT(K:qF)(neg:Bool):R2:=λx y H Q=>∃k zs,zu4 K H x k/\zu6 K H y zs/\Q (.bl (if neg then !(zs.any λz=>decide (z.1=k)) else zs.any λz=>decide (z.1=k))) H
theorem zpL(C:X.A.units+1<cLine):OpR X (compareOp .In) (rInT X.K bj):=by intro pins s σ H x y v u Q I L N h;obtain⟨k,zs,⟨b,rfl,sq⟩,⟨a,ep,rfl,o,J⟩,q⟩:=h;cases(show v=bR b from L);cases(show u=bR a from N);obtain⟨G,R,xs,x1,dd⟩:=ZJ I o J;refine wpAny_in_heap (i7 C) (UI (k:=kL k) I sq) G dd ?_;rw[zls x1];exact⟨.bl _,H,I.tok _,rfl,q⟩
theorem zmu(G:X.A.units+1<cLine):OpR X (compareOp .NotIn) (rInT X.K be):=by intro pins s σ H x y v u Q I R S h;obtain⟨k,zs,⟨b,rfl,sq⟩,⟨a,ep,rfl,C,L⟩,q⟩:=h;cases(show v=bR b from R);cases(show u=bR a from S);obtain⟨J,U,xs,x1,dd⟩:=ZJ I C L;refine wpAny_notIn_heap (i7 G) (UI (k:=kL k) I sq) J dd ?_;rw[zls x1];exact⟨.bl _,H,I.tok _,rfl,q⟩
def oInT(neg:Bool):G2:=λx y R=>∃(k:Int×Int) (ks:KT2),x=.tuple [.int k.1,.int k.2]/\y=.dict (Jr ks)/\R (.bool (if neg then !(valT ks k).isSome else(valT ks k).isSome))
theorem RepT.bkI{K:qF}{hd:Option aq}{O:aq->Prop}{H:Hp}{v:V}{a b:Int}(h:RepT K hd O H v (.tuple [.int a,.int b])):∃q,v=.ref q/\SqT K H q [.int a,.int b]:=by rcases h with h|⟨p,vs,ds,rfl,o,C,G,y⟩|⟨p,zs,ep,x,rfl,o,C,G,y⟩;exact h.bkI;cases o;cases o
theorem VN{neg:Bool}:Gp2 X (rInT X.K neg) (oInT neg):=by intro hd O H x y t u Q R dom C G h v;obtain⟨k,ks,rfl,rfl,r⟩:=h;obtain⟨a,zs,ep,rfl,o,rk⟩:=G.dtI;refine⟨k,zs,C.bkI,⟨a,ep,rfl,o,rk.sq⟩,?_⟩;rw[rk.anyK k];exact v _ _ H r (Same.refl H) (.bl _)
theorem QO{k:Int×Int}{ks:KT2}{neg:Bool}{R:af->Prop}(h:R (.bool (if neg then !(valT ks k).isSome else(valT ks k).isSome))):oInT neg (.tuple [.int k.1,.int k.2]) (.dict (Jr ks)) R:=⟨k,ks,rfl,rfl,h⟩
def rIxZ(K:qF):R2:=λx y H Q=>∃k zs v,zu4 K H y k/\zu6 K H x zs/\valZ zs k=ao v/\Q v H
theorem ztw(C:X.A.units+1<cLine){pins:qO}{s:av}{σ:St}{H:Hp}{x y:V}{v u:ah}{Q:VK}{E:qV}(I:Inv X pins σ H s)(L:RelV x v)(N:RelV y u)(h:rIxZ X.K x y H Q):(∃a,v=.ref a/\s.TypeIs (.ref a) "dict")/\wpAny (model X.prog X.w) X.A (getItem v u) (EP X pins σ Q) E s:=by obtain⟨k,zs,w,⟨b,rfl,sq⟩,⟨a,ep,rfl,l,J⟩,G,q⟩:=h;cases(show v=bR a from L);cases(show u=bR b from N);obtain⟨R,S,xs,x1,dd⟩:=ZJ I l J;obtain⟨p,p1,p2⟩:=zsj x1 G;refine⟨⟨a,rfl,?_⟩,wpAny_getItem_heap (i7 C) (UI (k:=kL k) I sq) dd p1 ⟨w,H,I.tok _,p2,q⟩⟩;obtain⟨o,g,c⟩:=znr dd;exact⟨o,g,c⟩
theorem zrL{zs:ZT}{es:List fW}(r:bT entZ zs es){i:Nat}{z:(Int×Int)×aq×V}(h:zs[i]?=ao z):∃e,es[i]?=ao e/\e.key=.ref z.2.1:=by
 induction r generalizing i with
 | nil=>simp at h
 | @cons y e zs es h1 t ih =>
  cases i with
  | zero=>simp at h;subst h;exact⟨e,by simp,h1.2.1⟩
  | succ i=>simpa using ih (by simpa using h)
end
section
variable{X:Cx}{a b e:a8}{da db d:DTE}{pos p:Pos}{k:Nat}{x:Str}{ta tb:TE}
theorem zti(o:X.A.units+1<cLine)(J:PE X a ta)(hi:PE X b tb)(G:NoSl b):PE X (.Subscript a b pos) (tOp (rIxZ X.K) ta tb):=by intro pins s σ H Q I h;refine zqn PySem.F.slot_dict_getitem.lookup G (thn (J pins s σ H _ I h) λu s1 ⟨x,v,Y,R,C⟩=>thn (hi pins s1 σ v _ Y C) λiv s2 l=>?_);obtain⟨y,H2,Z,U,L⟩:=l;obtain⟨⟨a,N,ty⟩,w⟩:=ztw (E:=X.xe) o Z R U L;subst N;exact⟨ty,w⟩
def oIxZ:G2:=λx y R=>∃(k:Int×Int) (ks:KT2) (d:af),x=.dict (Jr ks)/\y=.tuple [.int k.1,.int k.2]/\valT ks k=ao d/\R d
theorem zuB:Gp2 X (rIxZ X.K) oIxZ:=by intro hd O H x y t u Q R dom J L h o;obtain⟨k,ks,d,rfl,rfl,C,r⟩:=h;obtain⟨a,zs,ep,rfl,l,rk⟩:=J.dtI;obtain⟨v,G,I⟩:=rk.val C;exact⟨k,zs,v,L.bkI,⟨a,ep,rfl,l,rk.sq⟩,G,o _ _ H r (Same.refl H) I⟩
theorem QI(L:X.A.units+1<cLine)(l:DL X a da)(o:DL X b db)(U:NoSl b:=by intro _ _;rfl):DE X (.Subscript a b pos) (dOp oIxZ da db):=by obtain⟨ta,pa,l⟩:=l;obtain⟨tb,J,o⟩:=o;refine⟨_,zti L pa J U,λC ρ σ H n Q R S h N=>?_⟩;refine two l o S h λx y n2 v w H2 Z e G Y q2=>?_;exact zuB C.hd (Own C ρ σ) H2 v w x y Q _ (λp=>G.dom) Y q2 Z λz u H' rz I rp=>N z n2 u H' rz (e.trans I.ext) (G.hnd.same I) rp
theorem QD{k:Int×Int}{ks:KT2}{d:af}{R:af->Prop}(o:valT ks k=ao d)(h:R d):oIxZ (.dict (Jr ks)) (.tuple [.int k.1,.int k.2]) R:=⟨k,ks,d,rfl,rfl,o,h⟩
def dDtt(i:Nat):DTE:=λl n R=>match l[i]? with|some (ao (.dtt ks))=>R (.dict (Jr ks)) n|_=>False
theorem zrO(i:Nat){y:Pos}(L:X.N[i]?=ao x:=by rfl)(I:Vis X.env.scope x:=by walk_at "V")(hd:Ndb x:=by rfl)
  (v:Ncd x:=by rfl):DS X (.Return (ao (.Name x y)) pos) (sRet (dDtt i)):=by
 refine⟨_,ZD (Qq L I hd v),λC ρ σ H n D D' S h g=>?_⟩;unfold sRet dDtt at h;split at h;rename_i ks e;obtain⟨p,zs,ep,Y,Z,U,J⟩:=S.dtt i ks e;exact⟨.ref p,Y,g.rt _ n _ H h S.hnd (λa o G _ _=>G) (.dcT Z J (U.mono (λ_ _ _ z=>.inl z) λ_ _ _ z=>z) rfl)⟩;exact h.elim
instance zxO {i:Nat}{ks:KT2}{ρ:En}{n:Nat}{R:qN}[h:GetN ρ i (ao (.dtt ks))]:Stp (dDtt i ρ n R) (R (.dict (Jr ks)) n):=⟨λk=>by unfold dDtt;rw[h.e];exact k⟩
end
abbrev PR:=List ((Int×Int)×(Int×Int))
def twoD(q:Int×Int):af:=.tuple [.int q.1,.int q.2]
def prK(qs:PR):KT2:=qs.map λq=>(q.1,twoD q.2)
def valP(qs:PR)(k:Int×Int):Option (Int×Int):=(qs.find? λq=>decide (q.1=k)).map (·.2)
theorem QL{qs:PR}{k:Int×Int}:valT (prK qs) k=(valP qs k).map twoD:=by
 unfold valT valP prK;induction qs with
 | nil=>rfl
 | cons q qs l =>rw[aU,cO,cO];dsimp only;cases decide (q.1=k);exact l;rfl
abbrev upH(b:Int×Int):Int×Int:=(dh b.1 (2 ^ (b.2 - 1).toNat),b.2 - 1)
abbrev loH(b:Int×Int):Int×Int:=(b.1,b.2 - 1)
def bpD(no al:Bool)(qs:PR)(b:Int×Int):Option (Int×Int) :=
 if no then ao (0,1) else if al then ao (1,0) else match valP qs (loH b),valP qs (upH b) with
  | some x,ao y=>ao (if x.2+y.2+1<x.1+y.1 then x.2+y.2+1 else x.1+y.1,if x.1+y.1+1<x.2+y.2 then x.1+y.1+1 else x.2+y.2)
  | _,_=>bc
def optD:Option (Int×Int)->af|some q=>twoD q|none=>.none
def HasN(ps:qB)(b:Int×Int):Prop:=∀p∈ps,eB p<=b.1\/eB b<=p.1
def HasA(ps:qB)(b:Int×Int):Prop:=∃p∈ps,p.1<=b.1/\eB b<=eB p
theorem zgL{ps:qB}{b:Int×Int}(h:b.2=0):HasN ps b\/HasA ps b:=by
 have e:eB b=b.1+1:=by unfold eB;rw[h];rfl
 by_cases q:∃p∈ps,p.1<=b.1/\b.1<eB p;obtain⟨p,o,u,v⟩:=q;exact .inr ⟨p,o,u,by lia⟩;refine .inl λp o=>?_;by_cases z:eB p<=b.1;exact .inl z;refine .inr ?_;by_cases y:p.1<=b.1;exact absurd ⟨p,o,y,by lia⟩ q;lia
section
variable{bits:Int}{ps bs:BL}{b c:Int×Int}
theorem up_eq(B:IsBk bits b.1 b.2)(h:1<=b.2):upH b=(b.1+2 ^ (b.2 - 1).toNat,b.2 - 1):=by
 have e:=B.x1 (by lia);have p:(2:Int) ^ b.2.toNat=2*2 ^ (b.2 - 1).toNat:=by
  have:b.2.toNat=(b.2 - 1).toNat+1:=by lia
  rw[this,bL];lia
 unfold upH;rw[e,p];congr 1;lia
theorem Z0(h:1<=b.2):(2:Int) ^ b.2.toNat=2*2 ^ (b.2 - 1).toNat:=by
 have:b.2.toNat=(b.2 - 1).toNat+1:=by lia
 rw[this,bL];lia
theorem zwE(B:IsBk bits b.1 b.2)(h:1<=b.2):IsBk bits (loH b).1 (loH b).2:=by
 obtain⟨h0,l,k,u,e,v⟩:=B;refine⟨by show 0<=b.2 - 1;lia,by show b.2 - 1<=bits;lia,2*k,by lia,?_,?_⟩;show b.1=2*k*2 ^ (b.2 - 1).toNat;rw[e,Z0 h,b9 2 k,bN];show 2*k<2 ^ (bits - (b.2 - 1)).toNat;have:(bits - (b.2 - 1)).toNat=(bits - b.2).toNat+1:=by lia
 rw[this,bL];lia
theorem zvO(B:IsBk bits b.1 b.2)(h:1<=b.2):IsBk bits (upH b).1 (upH b).2:=by
 rw[up_eq B h];obtain⟨h0,l,k,u,e,v⟩:=B;refine⟨by show 0<=b.2 - 1;lia,by show b.2 - 1<=bits;lia,2*k+1,by lia,?_,?_⟩;show b.1+2 ^ (b.2 - 1).toNat=(2*k+1)*2 ^ (b.2 - 1).toNat;rw[e,Z0 h,cE,cR,b9 2 k,bN];show 2*k+1<2 ^ (bits - (b.2 - 1)).toNat;have:(bits - (b.2 - 1)).toNat=(bits - b.2).toNat+1:=by lia
 rw[this,bL];lia
theorem zl1(B:IsBk bits b.1 b.2)(C:IsBk bits c.1 c.2)(h:b.2=c.2){x:Int}(x1:b.1<=x/\x<eB b)(l:c.1<=x/\x<eB c):b=c:=by
 have e:eB b - b.1=eB c - c.1:=by unfold eB;rw[h];lia
 rcases Z6 B C x1 l with z|z;exact dR (by lia) h;exact dR (by lia) h
theorem zj5(B:IsBk bits b.1 b.2)(C:IsBk bits c.1 c.2)(v:1<=b.2)(hc:1<=c.2){d:Int×Int}(l:d=loH b\/d=upH b)(u:d=loH c\/d=upH c):b=c:=by
 have G:=Z0 (b:=b) v;have pc:=Z0 (b:=c) hc;have J:=Bd.JM (b.2 - 1).toNat;have L:=Bd.JM (c.2 - 1).toNat;rw[up_eq B v]at l;rw[up_eq C hc]at u;have I:d.2=b.2 - 1:=by rcases l with rfl|rfl <;> rfl
 have R:d.2=c.2 - 1:=by rcases u with rfl|rfl <;> rfl
 have x:b.1<=d.1/\d.1<eB b:=by unfold eB;rcases l with rfl|rfl <;> constructor <;> dsimp only <;> lia
 have y:c.1<=d.1/\d.1<eB c:=by unfold eB;rcases u with rfl|rfl <;> constructor <;> dsimp only <;> lia
 exact zl1 B C (by lia) x y
def Prt(ps:BL)(b:Int×Int):Prop:=¬HasN ps b/\¬HasA ps b
theorem Prt.pos(h:Prt ps b)(B:IsBk bits b.1 b.2):1<=b.2:=by have h0:=B.1;by_cases z:b.2=0;rcases zgL (ps:=ps) z with q|q;exact absurd q h.1;exact absurd q h.2;lia
theorem Prt.inn(h:Prt ps b)(B:IsBk bits b.1 b.2)(P:Bks bits ps):∃p∈ps,b.1<=p.1/\p.1<eB b:=by
 refine bV λno=>h.1 λp l=>?_;refine bV λz=>?_;have pp:=J9 p;have u:=J9 b;have x1:b.1<eB p:=by lia
 have o:p.1<eB b:=by lia
 by_cases q:b.1<=p.1;exact no ⟨p,l,q,o⟩;rcases Z6 B (P p l) (x:=b.1) ⟨aM _,u⟩ ⟨by lia,x1⟩ with z|z;lia;exact h.2 ⟨p,l,z.1,z.2.1⟩
structure PInv(bits:Int)(ps bs:BL)(k:Nat):Prop where
 bk:Bks bits bs
 nd:bs.Nodup
 root:bs[0]?=ao (0,bits)
 par:∀c∈bs,c=(0,bits)\/∃(j:Nat) (b:Int×Int),j<k/\bs[j]?=ao b/\Prt ps b/\(c=loH b\/c=upH b)
 kid:∀(j:Nat) (b:Int×Int),j<k->bs[j]?=ao b->Prt ps b->(∃i,j<i/\bs[i]?=ao (loH b))/\∃i,j<i/\bs[i]?=ao (upH b)
 cnt:∃ds:BL,ds.Nodup/\(∀d∈ds,Prt ps d/\∃j,j<k/\bs[j]?=ao d)/\bs.length=1+2*ds.length
theorem PInv.start(o:0<=bits):PInv bits ps [(0,bits)] 0 where
 bk:=λb u=>by cases aA.mp u;exact⟨o,aM _,0,aM _,by simp,Bd.JM _⟩
 nd:=by simp
 root:=rfl
 par:=λc hc=>.inl (aA.mp hc)
 kid:=λj b v=>by lia
 cnt:=⟨[],.nil,(λd h=>nomatch h),rfl⟩
theorem PInv.no{k:Nat}(I:PInv bits ps bs k)(G:bs[k]?=ao b)(h:¬Prt ps b):PInv bits ps bs (k+1) where
 bk:=I.bk
 nd:=I.nd
 root:=I.root
 par:=λc hc=>by rcases I.par c hc with z|⟨j,b,v,r⟩;exact .inl z;exact .inr ⟨j,b,by lia,r⟩
 kid:=λj c J hc o=>by by_cases e:j=k;subst e;rw[G]at hc;cases hc;exact absurd o h;exact I.kid j c (by lia) hc o
 cnt:=by obtain⟨ds,y,u,x⟩:=I.cnt;exact⟨ds,y,λd hd=>by obtain⟨a,j,v,C⟩:=u d hd;exact⟨a,j,by lia,C⟩,x⟩
theorem PInv.yes{k:Nat}(b0:0<=bits)(I:PInv bits ps bs k)(v:bs[k]?=ao b)(h:Prt ps b):PInv bits ps (bs++[loH b,upH b]) (k+1):=by
 have L:=(aw.mp v).1;have B:=I.bk b (ax v);have G:=h.pos B;have pb:=Z0 (b:=b) G;have qb:=Bd.JM (b.2 - 1).toNat;have old:∀{j:Nat} {c:Int×Int},bs[j]?=ao c->(bs++[loH b,upH b])[j]?=ao c:=λ{j c} R=>by rw[bU (aw.mp R).1];exact R
 have fresh:∀d,(d=loH b\/d=upH b)->d∉bs:=by
  intro d hd hm;rcases I.par d hm with z|⟨j,c,C,u,j3,j4⟩;have:d.2=b.2 - 1:=by rcases hd with rfl|rfl <;> rfl
  have e2:=B.2.1;rw[z]at this;have this:bits=b.2 - 1:=this;lia;have U:=I.bk c (ax u);have:=zj5 B U G (j3.pos U) hd j4;subst this;have:=(hV (ku C L) I.nd).mp (u.trans v.symm);lia
 have ne:loH b≠upH b:=by rw[up_eq B G];intro e;have:=congrArg mF e;dsimp only at this;lia
 have l0:(bs++[loH b,upH b])[bs.length]?=ao (loH b):=by simp
 have l1:(bs++[loH b,upH b])[bs.length+1]?=ao (upH b):=by simp
 refine⟨?_,?_,?_,?_,?_,?_⟩;intro c hc;rcases aC.mp hc with hc|hc;exact I.bk c hc;simp only[aE,bE,or_false]at hc;rcases hc with rfl|rfl;exact zwE B G;exact zvO B G;rw[hU];refine⟨I.nd,by simp[ne],λx hx y J e=>?_⟩;subst e;simp only[aE,bE,or_false]at J;exact fresh x J hx;exact old I.root;intro c hc;rcases aC.mp hc with hc|hc;rcases I.par c hc with z|⟨j,d,C,u,r⟩;exact .inl z;exact .inr ⟨j,d,by lia,old u,r⟩;simp only[aE,bE,or_false]at hc;exact .inr ⟨k,b,by lia,old v,h,hc⟩;intro j c R hc hp;by_cases e:j=k;subst e;have:c=b:=by have:=old v;rw[hc]at this;exact aP this
 subst this;exact⟨⟨bs.length,L,l0⟩,bs.length+1,by lia,l1⟩;have jl:j<bs.length:=by lia
 rw[bU jl]at hc;obtain⟨⟨Z,a1,a2⟩,i2,c1,Y⟩:=I.kid j c (by lia) hc hp;exact⟨⟨Z,a1,old a2⟩,i2,c1,old Y⟩;obtain⟨ds,d1,S,d3⟩:=I.cnt;refine⟨ds++[b],?_,?_,by simp[d3];lia⟩;rw[hU];refine⟨d1,by simp,λx hx y J e=>?_⟩;subst e;cases aA.mp J;obtain⟨_,j,C,u⟩:=S _ hx;have:=(hV (ku C L) I.nd).mp (u.trans v.symm);lia;intro d hd;rcases aC.mp hd with hd|hd;obtain⟨a,j,C,u⟩:=S d hd;exact⟨a,j,by lia,old u⟩;cases aA.mp hd;exact⟨h,k,by lia,old v⟩
end
theorem zjT{α o:Type}(ps:List o):∀xs:List α,(xs.flatMap λh=>ps.map λp=>(h,p)).length=xs.length*ps.length
 | []=>by simp
 | x::xs=>by rw[rV,aW,zjT ps xs,aN,aL,Nat.succ_mul,Nat.add_comm]
section
variable{bits:Int}{ps bs:BL}{b c:Int×Int}
theorem zmh(L:bits<=64)(P:Bks bits ps){ds:BL}(nd:ds.Nodup)(h:∀d∈ds,Prt ps d/\IsBk bits d.1 d.2):ds.length<=65*ps.length:=by
 classical
 let g:Int×Int->Int×Int:=λd=>if h:∃p∈ps,d.1<=p.1/\p.1<eB d then h.choose else(0,0)
 have y:∀d∈ds,g d∈ps/\d.1<=(g d).1/\(g d).1<eB d:=λd hd=>by obtain⟨p,B⟩:=h d hd;have ex:=p.inn B P;have e:g d=ex.choose:=dif_pos ex;rw[e];exact ex.choose_spec
 have v:(ds.map λd=>(d.2,g d)).Nodup:=by refine dN.mpr (iM ?_ nd);intro a c C hc n e;have I:=congrArg mF e;have G:=congrArg yC e;dsimp only at I G;have ga:=y a C;have J:=y c hc;rw[<- G]at J;exact n (zl1 (h a C).2 (h c hc).2 I ga.2 J.2)
 have:=zjJ (ys:=((eY 65).map λi:Nat=>(i:Int)).flatMap λh=>ps.map λp=>(h,p)) v λx hx=>by obtain⟨d,hd,rfl⟩:=aY.mp hx;rw[sU];have B:=(h d hd).2;have h0:=B.1;have R:=B.2.1;exact⟨d.2,aY.mpr ⟨d.2.toNat,hW.mpr (by lia),by lia⟩,aY.mpr ⟨g d,(y d hd).1,rfl⟩⟩
 rw[zjT,aN,aN,f6]at this;exact this
theorem PInv.len{k:Nat}(l:bits<=64)(P:Bks bits ps)(I:PInv bits ps bs k):bs.length<=1+130*ps.length:=by
 obtain⟨ds,v,u,x⟩:=I.cnt;have:=zmh l P v λd hd=>by obtain⟨a,j,_,o⟩:=u d hd;exact⟨a,I.bk d (ax o)⟩
 lia
def msz(bs:BL):Nat:=(bs.map λb=>2 ^ (b.2.toNat+1) - 1).sum
theorem zre(xs ys:BL):msz (xs++ys)=msz xs+msz ys:=by simp[msz]
theorem zpP{k:Nat}(l:bs[k]?=ao b):msz (bs.drop (k+1))<msz (bs.drop k):=by
 have o:=(aw.mp l).1;have e:bs.drop k=b::bs.drop (k+1):=by rw[bG o];rw[au o]at l;rw[aP l]
 rw[e];have:1<2 ^ (b.2.toNat+1):=Nat.one_lt_two_pow (by lia);simp only[msz,aU,v7];lia
theorem zrd{k:Nat}(l:bs[k]?=ao b)(h:1<=b.2):msz ((bs++[loH b,upH b]).drop (k+1))<msz (bs.drop k):=by
 have u:=(aw.mp l).1;have e:bs.drop k=b::bs.drop (k+1):=by rw[bG u];rw[au u]at l;rw[aP l]
 rw[k8 (by lia),zre,e];have p:2 ^ (b.2.toNat+1)=2*2 ^ b.2.toNat:=by rw[lN];lia
 have q:(b.2 - 1).toNat+1=b.2.toNat:=by lia
 have pos:1<=2 ^ b.2.toNat:=Nat.one_le_two_pow;simp only[msz,aU,v7,eN,List.sum_nil,q];lia
end
section
variable{prog:aQ}{w:bg}{A:bh}{E:qV}{s:av}
theorem zfG{T newId T':String}{I:cX}{args:List ah}{Q:qV}
  (h1:(bo T == bo "type")=bj)
  (h2:((uF T).bind (·.mro.findSome? λt=>(uF t).bind λb=>if b.noNew then ao be else if b.attrs.any (·.1 == "__new__") then ao bj else bc)).getD bj=bj)
  (L:∃c C,mroOf (.type T)=pure (c::C)) (x:Bind.madeBy (.type T)=pure (ao newId)) (plain:plainId newId=be) (J:isSubtype (.type T') (.type T)=pure bj)
  (N:checkTypeCall T ⟨args,[]⟩=pure ()) (v:checkBuiltinCall newId ⟨.type T::args,[]⟩=pure ()) (U:entryFor table newId=ao I)
  (h:wpAny (model prog w) A.in1.in1 (I ⟨.type T::args,[]⟩) (λfin l=>∃obj,fin=yD (yE obj)/\l.TypeIs obj T'/\Q obj l) E s) :
  wpAny (model prog w) A (call (.type T) args) Q E s:=by
 obtain⟨c,C,G⟩:=L;refine wpAny_call (tF ?_);show wpAny _ _ (callAny (.type T) _) _ _ _;refine ae ⟨gN _ (by decide +kernel),dX F.entry_type_call ?_⟩;rw[Around.under_plain (weight_type_call_type T args []) (units_type_call_type T args [])]
 repeat (any_goals (first|assumption|wp_step))
 refine kg (R:=wants (λobj l=>l.TypeIs obj T'/\Q obj l) E) (ly plain U (i9 v ?_)) λr l u=>?_;exact cS h (λfin s1 ⟨obj,e,q⟩=>by subst e;exact q) (λ_ _ z=>z)
 ·cases r with
  | error e=>exact u
  | ok fl =>
   cases fl with
   | ret obj =>
    obtain⟨Y,Z⟩:=u;show wpAny _ _ (isInstance obj (.type T) >>= _) _ _ l;refine aa (gE Y J ?_)
    repeat (any_goals (first|assumption|wp_step))
   | _=>exact u.elim
theorem zhu{l:aq}{its:Array ah}{n:Nat}{Q:qV}(x:s.heap.get? l=ao { cls:=.type "list",dict:=bc,data:=.seq its n,slots:=#[] }) (h:Q (.ref s.heap.objs.size) { s with heap:=s.heap.push { cls:=.type "list_reverseiterator",data:=.fields #[.ref l,.int (its.size - 1) 0] } }) :
  wpAny (model prog w) A (cX.«reversed.__new__» ⟨[.type "reversed",.ref l],[]⟩) (λfin o=>∃obj,fin=yD (yE obj)/\Q obj o) E s:=by
 have I:isSubtype (.type "reversed") (.type "reversed")=pure be:=by kernel_rfl
 have C:s.TypeIs (.ref l) "list":=⟨_,x,rfl⟩;have G:=fP.lookup;have J:=fP.bind (.ref l);unfold cX.«reversed.__new__»
 repeat (any_goals (first|assumption|wp_step))
 refine kg (R:=wants Q E) (ly fP.plain PySem.F.entry_list_reversed (fP.check _ _ _ _ _ _ _ _ C (PySem.F.args_list_reversed_1 _) (oF l its n prog w A (wants Q E) s ⟨x,by simpa[rawInt,wants] using h⟩))) λr s1 u=>?_;cases r with
 | error e=>exact u
 | ok fl =>
  cases fl with
  | ret v=>exact ae ⟨_,rfl,u⟩
  | _=>exact u.elim
theorem zgX{l:aq}{its:Array ah}{n:Nat}{Q:qV}(o:s.heap.get? l=ao { cls:=.type "list",dict:=bc,data:=.seq its n,slots:=#[] }) (h:Q (.ref s.heap.objs.size) { s with heap:=s.heap.push { cls:=.type "list_reverseiterator",data:=.fields #[.ref l,.int (its.size - 1) 0] } }) :
  wpAny (model prog w) A (call (.type "reversed") [.ref l]) Q E s:=by
 refine zfG (T:="reversed") (newId:="reversed.__new__") (T':="list_reverseiterator") (by decide) (by decide +kernel) ⟨.type "reversed",[.type "object"],by rw[mroOf_type];kernel_rfl⟩ (by kernel_rfl) (by decide +kernel) (by kernel_rfl) ?_ ?_ (by kernel_rfl) (zhu o ⟨⟨_,aD _ rfl,rfl⟩,h⟩);kernel_rfl;kernel_rfl
end
theorem Vj:AJ "list_reverseiterator" "__next__" "list_reverseiterator.__next__" :=
 .of (owner:="list_reverseiterator") (n:="__next__") (by rw[gV,eW];kernel_rfl) (by decide +kernel) (by decide +kernel) (by decide +kernel) (by decide +kernel) (by kernel_rfl)
theorem zda:AJ "list_reverseiterator" "__iter__" "list_reverseiterator.__iter__" :=
 .of (owner:="list_reverseiterator") (n:="__iter__") (by rw[gV,eW];kernel_rfl) (by decide +kernel) (by decide +kernel) (by decide +kernel) (by decide +kernel) (by kernel_rfl)
theorem zcV:entryFor table "list_reverseiterator.__next__" = ao cX.«list_reverseiterator.__next__»:=sV (by kernel_rfl)
theorem zdK(a:ah):argsOk "list_reverseiterator.__next__" ⟨[a],[]⟩:=by unfold argsOk;kernel_rfl
def IsRevIter(h:bz)(it l:aq)(j:Int):Prop:=∃o,h.get? it=ao o/\o.cls=.type "list_reverseiterator" /\ o.data=.fields #[.ref l,.int j 0]
section
variable{prog:aQ}{w:bg}{A:bh}{E:qV}{s:av}
theorem zlY{a:aq}{o:Obj}{its:Array ah}{n:Nat}{Q:Option (Array ah)->av->Prop}(l:s.heap.get? a=ao o)(hd:o.data=.seq its n)(h:Q (ao its) s):wpAny (model prog w) A (seqItems? (.ref a)) Q E s:=by show wpAny _ _ (load a >>= _) _ _ s;refine aa (nJ l ?_);rw[hd];exact ae h
theorem zox{it l:aq}{its:Array ah}{j:Nat}{x:ah}{Q:Option ah->av->Prop}(hi:IsRevIter s.heap it l (j:Int))(C:s.heap.IsList l its)(hx:its[j]?=ao x)
  (G:∀h',IsRevIter h' it l ((j:Int) - 1)->dE it s.heap h'->Q (ao x) { s with heap:=h' }):wpAny (model prog w) A (pyNext (.ref it)) Q E s:=by
 obtain⟨o,v,hc,hd⟩:=id hi;obtain⟨J,gl,cl,n,dl⟩:=id C;have ty:s.TypeIs (.ref it) "list_reverseiterator":=⟨o,v,hc⟩;unfold pyNext;refine aa (gm ?_);refine b7 (name:=aH "__next__") ty Vj ?_;refine bS Vj ty zcV ?_ (zdK _);unfold cX.«list_reverseiterator.__next__»;refine aa (ae ?_);refine aa (cK v hd (x:=.int (j:Int) 0) rfl ?_);have nn:¬((j:Int)<0):=by lia
 show wpAny _ _ (if (j:Int)<0 then _ else _) _ _ _;rw[if_neg nn];refine aa (cK v hd (x:=.ref l) rfl ?_);refine aa (zlY gl dl ?_);show wpAny _ _ (match its[(j:Int).toNat]? with|some x=>_|_=>_) _ _ _;rw[bX,hx];refine aa (dU v hd (by simp) ?_);have y:IsRevIter (s.heap.update it (gX (·.setIfInBounds 1 (rawInt ((j:Int) - 1))))) it l ((j:Int) - 1) :=
  ⟨_,bP _ v (dO (bZ hd _)),(fZ ..).trans hc,by rw[bZ hd];simp[rawInt]⟩
 exact ae ⟨_,rfl,ae (G _ y (eS ..))⟩
theorem zqB{it l:aq}{Q:Option ah->av->Prop}(I:A.handled=bc)(hi:IsRevIter s.heap it l (-1))(G:∀h',mU it s.heap h'->Q bc { s with heap:=h' }):wpAny (model prog w) A (pyNext (.ref it)) Q E s:=by obtain⟨o,v,hc,hd⟩:=id hi;have ty:s.TypeIs (.ref it) "list_reverseiterator":=⟨o,v,hc⟩;unfold pyNext;refine aa (gm ?_);refine b7 (name:=aH "__next__") ty Vj ?_;refine bS Vj ty zcV ?_ (zdK _);unfold cX.«list_reverseiterator.__next__»;refine aa (ae ?_);refine aa (cK v hd (x:=.int (-1) 0) rfl ?_);show wpAny _ _ (if (-1:Int)<0 then _ else _) _ _ _;rw[if_pos (by decide)];refine aa (cU ?_);refine aa ?_;unfold rW;show wpAny _ _ (newExc (.type "StopIteration") [] >>= _) _ _ _;refine aa ?_;simp only[newExc,newTuple];refine aa (bM ?_ (by size_fits));refine aa (m:=firstArgMember _ _) (i9 (a:=eJ) (by first|rfl|(simp only[firstArgMember];rfl)) ?_);refine bM ?_ (by size_fits);simp only[raiseNew];refine aa (m4 ?_);have u:A.in1.handled=bc:=I;rw[u];refine aa (ae (oX ?_));refine aa (gE (T:="StopIteration") (b:=be) ⟨_,aD _ rfl,rfl⟩ mw (ae (G _ ?_)));have C:mU it s.heap s.heap:=λb o _ e=>e;exact sW (sW C _) _
end
section
variable{X:Cx}{iter tg:a8}{dd:DTE}
theorem zfE:entryFor table "list_reverseiterator.__iter__" = ao cX.«dict_keyiterator.__iter__»:=o6 (id':="dict_keyiterator.__iter__") (by kernel_rfl) rfl (by decide +kernel) (by kernel_rfl)
theorem zg2(a:ah):argsOk "list_reverseiterator.__iter__" ⟨[a],[]⟩:=by unfold argsOk;kernel_rfl
theorem zjC{it l:aq}{j:Int}{prog:aQ}{w:bg}{A:bh}{E:qV}{s:av}{Q:qV}(hi:IsRevIter s.heap it l j)(h:Q (.ref it) s):wpAny (model prog w) A (pyIter (.ref it)) Q E s:=by obtain⟨o,u,hc,hd⟩:=hi;have ty:s.TypeIs (.ref it) "list_reverseiterator":=⟨o,u,hc⟩;refine kJ ty zda (bS zda ty zfE ?_ (zg2 _));show wpAny _ _ (ret (.ref it)) _ _ s;exact ae ⟨_,rfl,"list_reverseiterator",_,ty,Vj.lookup,h⟩
def ItV(a:aq)(vs:List V):It :=
 ⟨λi H=>H a=ao (.lst vs)/\i<vs.length,λi H x H'=>H'=H/\vs.reverse[i]?=ao x,λi H=>H a=ao (.lst vs)/\vs.length<=i⟩
theorem zoi{P:aQ}{w:bg}{K:qF}{tg:a8}(a it:aq)(vs:List V):Turn P w K tg (ItV a vs) [it] it (λi h=>i<=vs.length/\IsRevIter h it a ((vs.length:Int) - 1 - (i:Int))) where
 mem:=by simp
 obj:=λi h st b y=>by
  have e:b=it:=by simpa using y
  subst e;obtain⟨_,o,e,c,d⟩:=st;exact⟨o,e,λv z=>by rw[d]at z;cases z⟩
 keep:=λi h h' st k=>by obtain⟨l,o,e,r⟩:=st;exact⟨l,o,k it (by simp) o e,r⟩
 item:=by
  intro X U hw G hc i pins s σ H E I hf st L;subst U hw G;obtain⟨Y,hi⟩:=L;obtain⟨its,Z,p,hz⟩:=I.list (.of Y);have hl:=Z.length;have hx:vs.reverse[i]?=ao (vs.reverse[i]'(by simpa using hi)):=au (by simpa using hi);generalize vs.reverse[i]'(by simpa using hi)=x at hx;have J:vs[vs.length - 1 - i]?=ao x:=by rw[<- hx,fS hi]
  obtain⟨u,hu,ru⟩:=Z.get J;obtain⟨f0,f1,f2,R,f4,S⟩:=hf it (by simp);have N:(vs.length:Int) - 1 - (i:Int)=((vs.length - 1 - i:Nat):Int):=by lia
  obtain⟨_,st⟩:=st;rw[N]at st;refine zox st p.isList (x:=u) (by simpa using hu) λh' C sb=>?_;have I1:Inv X pins σ H { s with heap:=h' }:=I.turned (t':=s.toks) (λb o y e=>(sb.2 b y).trans e) f0 f1 R f4 S;obtain⟨o,e,c,d⟩:=id C;exact⟨u,rfl,Y4 (s:={ s with heap:=h' }) e c d (by decide) ⟨x,H,I1,ru,⟨rfl,hx⟩,⟨hi,by
   have e2:(vs.length:Int) - 1 - ((i+1:Nat):Int)=((vs.length - 1 - i:Nat):Int) - 1:=by lia
   rw[e2];exact C⟩,λb y=>(hf b y).1⟩⟩
 done:=by
  intro X U hw G hc i pins s σ H E I hf st L;subst U hw G;obtain⟨Y,hi⟩:=L;obtain⟨f0,f1,f2,R,f4,S⟩:=hf it (by simp);obtain⟨l,st⟩:=st;have N:(vs.length:Int) - 1 - (i:Int)=-1:=by lia
  rw[N]at st;exact zqB (I.ok.hd hc) st λh' eb=>⟨rfl,I.turned (t':=s.toks) (λb o y e=>eb b o y e) f0 f1 R f4 S⟩
 self:=λ_ _ _ _ _ st h=>zjC st.2 h
end
theorem boot_reversed:bootBuiltins "reversed" = ao (.type "reversed"):=by first|rfl|kernel_rfl
section
variable{X:Cx}{a tg:a8}{d:DTE}{p pos:Pos}
def iRev(u:TA):TI:=λσ H R=>u σ H λvs o=>∃l xs,vs=[.ref l]/\o l=ao (.lst xs)/\R (ItV l xs) o
theorem ztb{v:TA}(hg:Gl X "reversed") (Z:X.mg "reversed" = bc) (J:PA X [a] v) (Y:starEach [a] X.env=[(bj,eval a X.env)]:=by rfl):PI X tg (.Call (.Name "reversed" p) [a] [] pos) (iRev v):=by
 intro pins s σ H R I h;refine Call_ (Yr I hg Z boot_reversed (eI (thn (J pos pins s σ H _ I h) λus s1 ⟨vs,S,u,r1,U⟩=>?_) Y rfl));obtain⟨l,xs,e,L,q⟩:=U;subst e;cases r1 with
 | cons r rr =>
  cases rr;cases(show _=bR l from r);obtain⟨z,its,n,rel,g⟩:=u.hok l _ L;have G:=rel.length;refine zgX (its:=its.toArray) (n:=n) g ?_;have I2:=u.kept (t':=s1.toks) (h':=s1.heap.push { cls:=.type "list_reverseiterator",data:=.fields #[.ref l,.int (its.toArray.size - 1) 0] }) λb o e=>aj _ e;have x:IsRevIter (s1.heap.push { cls:=.type "list_reverseiterator",data:=.fields #[.ref l,.int (its.toArray.size - 1) 0] }) s1.heap.objs.size l ((xs.length:Int) - 1 - ((0:Nat):Int)):=by refine⟨_,aD _ rfl,rfl,?_⟩;simp[G]
  refine zjC x ?_;refine⟨s1.heap.objs.size,[s1.heap.objs.size],_,_,S,rfl,I2,zoi l _ xs,⟨eD _,x⟩,λb hb=>?_,q⟩;have e:b=s1.heap.objs.size:=by simpa using hb
  subst e;exact u.fpOk (aB _) (u.hok.fresh (aB _))
def dItR(d:DTE):DTA:=λo n R=>d o n λt l=>lLst t λts=>R ts.reverse l
theorem zp6(hm:X.mg "reversed" = bc) (h:DE X a d) (hg:Gl X "reversed":=by rfl) (L:starEach [a] X.env=[(bj,eval a X.env)]:=by rfl):DI X tg (.Call (.Name "reversed" p) [a] [] pos) (dItR d):=by
 obtain⟨ta,pa,h⟩:=h;refine⟨_,ztb hg hm (Qj pa Qz L) L,λC ρ σ H n Q R S hd Z=>?_⟩;refine h C ρ σ H n _ _ S hd λt n' v H' r e1 hn q=>?_;cases t with
 | list ts =>
  obtain⟨l,vs,rfl,U,no,Y⟩:=q.lstI;refine⟨l,vs,rfl,U,Z _ n' _ H' r e1 hn ?_⟩;intro O2 H2 g1 g2 _;have u:=g1 l _ U no;have r2:Reps X.K C.hd O2 H2 vs ts:=Y.mono (λa o G z=>bV λno=>g2 a o G no z) λa o no G=>g1 a o G no;have J:=Y.length;refine⟨λi t I=>?_,⟨u,by rw[fB,J];exact aB _⟩⟩;have hi:i<ts.length:=by simpa using(aw.mp I).1
  refine⟨⟨u,by lia⟩,λx H3 y=>?_⟩;obtain⟨rfl,y⟩:=y;refine⟨Same.refl _,?_⟩;rw[fS hi]at I;rw[fS (by lia),J]at y;exact r2.getP I y
 | _=>exact r.elim
instance zxM {d:DTE}{ρ:En}{n:Nat}{R:qD->Nat->Prop}:Stp (dItR d ρ n R) (d ρ n λt n'=>lLst t λts=>R ts.reverse n'):=⟨λh=>h⟩
end
theorem zjm{qs more:PR}{k v:Int×Int}(h:valP qs k=ao v):valP (qs++more) k=ao v:=by
 unfold valP at *;rw[rX];cases e:qs.find? λq=>decide (q.1=k) with
 | none=>rw[e]at h;cases h
 | some q=>rw[e]at h;exact h
theorem zgm{qs:PR}{k:Int×Int}(h:k∈qs.map (·.1)):∃v,valP qs k=ao v:=by
 unfold valP;cases e:qs.find? λq=>decide (q.1=k) with
 | none =>obtain⟨q,l,rfl⟩:=aY.mp h;have:=gP.mp e q l;simp at this
 | some q=>exact⟨q.2,rfl⟩
theorem znU{no al:Bool}{qs more:PR}{b v:Int×Int}(h:bpD no al qs b=ao v):bpD no al (qs++more) b=ao v:=by
 unfold bpD at *;cases no;cases al;simp only[aK,if_false]at h ⊢;cases e1:valP qs (loH b) with
 | none=>rw[e1]at h;cases h
 | some x =>
  cases e2:valP qs (upH b) with
  | none=>rw[e1,e2]at h;cases h
  | some y =>rw[e1,e2]at h;rw[zjm e1,zjm e2];exact h
 exact h;exact h
theorem zpu{no al:Bool}{qs:PR}{b:Int×Int}(h:no=bj->al=bj->loH b∈qs.map (·.1)/\upH b∈qs.map (·.1)):∃v,bpD no al qs b=ao v:=by unfold bpD;cases no;cases al;obtain⟨l,u⟩:=h rfl rfl;obtain⟨x,o⟩:=zgm l;obtain⟨y,C⟩:=zgm u;rw[o,C];exact⟨_,rfl⟩;exact⟨_,rfl⟩;exact⟨_,rfl⟩
theorem zqG{qs:PR}{b v:Int×Int}(h:b∉qs.map (·.1)):putT (prK qs) b (twoD v)=prK (qs++[(b,v)]):=by
 have e:((prK qs).any λz=>decide (z.1=b))=bj:=by rw[rY];intro z hz e;obtain⟨q,l,rfl⟩:=aY.mp hz;exact h (aY.mpr ⟨q,l,of_decide_eq_true e⟩)
 unfold putT;rw[e];simp[prK]
section
variable{X:Cx}{pins:qO}{σ:St}{H:Hp}{s:av}{a:aq}{zs:ZT}{ep:Nat}{A:bh}{E:qV}
theorem zlA{k:Int×Int}{b:aq}{v:V}{r:ah}{Q:Unit->av->Prop}(hu:A.units+1<cLine)(I:Inv X pins σ H s)(h:H a=ao (ZDO a zs ep))(R:∀z∈zs,SqT X.K H z.2.1 [.int z.1.1,.int z.1.2])(S:SqT X.K H b [.int k.1,.int k.2])(Z:zs.length<sizeLine)(J:RelV v r)
  (G:∀s' o,Inv X pins σ (upd H a (ZDO a (zput zs k b v) o)) s'->Q () s'):wpAny (model X.prog X.w) A (dictSet a (.ref b) r) Q E s:=by
 obtain⟨L,Y,xs,x1,N⟩:=ZJ I h R;have U:xs.length<=sizeLine:=by rw[<- fD x1];exact Y
 refine rf (hsz:=U) (show A.units<cLine by lia) (UI (k:=kL k) I S) N λh' u x=>?_;have he:∃q,h'.get? a=ao q:=let ⟨q,_,_,e,_⟩:=u;⟨q,e⟩;have C:(zput zs k b v).length<=sizeLine:=by have:=zji zs k b v;lia
 have ok:∀H':Hp,∃o,JL X.prog X.w H' h' a (ZDO a (zput zs k b v) o):=λH'=>ZK L C (zpA x1 k J) u;obtain⟨o,y⟩:=ok H;exact G _ o (zi9 I (by rw[h];exact uC) x he y)
end
noncomputable def zbg (ps:BL):Nat->Int×Int->Int×Int
 | 0,b=>open Classical in if HasN ps b then(0,1) else(1,0)
 | h+1,b=>open Classical in if HasN ps b then(0,1) else if HasA ps b then(1,0) else
  ((if (zbg ps h (loH b)).2+(zbg ps h (upH b)).2+1<(zbg ps h (loH b)).1+(zbg ps h (upH b)).1 then(zbg ps h (loH b)).2+(zbg ps h (upH b)).2+1 else(zbg ps h (loH b)).1+(zbg ps h (upH b)).1),
   if (zbg ps h (loH b)).1+(zbg ps h (upH b)).1+1<(zbg ps h (loH b)).2+(zbg ps h (upH b)).2 then(zbg ps h (loH b)).1+(zbg ps h (upH b)).1+1 else(zbg ps h (loH b)).2+(zbg ps h (upH b)).2)
structure PrsI(bits:Int)(ps bs:BL)(k:Nat)(qs:PR):Prop where
 keys:qs.map (·.1)=bs.reverse.take k
 pos:∀q∈qs,0<=q.2.1/\0<=q.2.2
 rgt:∀q∈qs,∀no al:Bool,(no=be↔HasN ps q.1)->(al=be↔HasA ps q.1)->bpD no al qs q.1=ao q.2
theorem Uv{qs:PR}{k v:Int×Int}(h:valP qs k=ao v):(k,v)∈qs:=by unfold valP at h;obtain⟨q,l,o⟩:=dI.mp h;have e:=tT l;have m:=mK l;have u:q.1=k:=of_decide_eq_true e;rw[<- u,<- o];exact m
theorem zql{qs:PR}(nd:(qs.map (·.1)).Nodup){q:(Int×Int)×(Int×Int)}(h:q∈qs):valP qs q.1=ao q.2:=by
 induction qs with
 | nil=>cases h
 | cons x xs l =>rw[aU,cH]at nd;unfold valP;rw[cO];by_cases e:x.1=q.1;rw[decide_eq_true e];rcases aE.mp h with rfl|h;rfl;exact absurd (cG (f:=(·.1)) h) (e▸nd.1);rw[decide_eq_false e];rcases aE.mp h with rfl|h;exact absurd rfl e;exact l nd.2 h
theorem zhY{α:Type}{l:List α}(h:l.Nodup):l.reverse.Nodup:=List.pairwise_reverse.mpr (BI (λh=>eK h) h)
section
variable{bits:Int}{ps bs:BL}{b:Int×Int}{qs:PR}{k:Nat}
theorem zsW{α:Type}{l:List α}{k:Nat}{x:α}(h:l.reverse[k]?=ao x):k<l.length/\l[l.length - 1 - k]?=ao x:=by
 have o:k<l.length:=by simpa using(aw.mp h).1
 rw[fS o]at h;exact⟨o,h⟩
theorem zjB{α:Type}{l:List α}{i k:Nat}{x:α}(h:l[i]?=ao x)(o:l.length - 1 - k<i):x∈l.reverse.take k:=by
 have hi:=(aw.mp h).1;have e:l.reverse[l.length - 1 - i]?=ao x:=by rw[fS (by omega)];rw[<- h];congr 1;omega
 refine ax (i:=l.length - 1 - i) ?_;rw[gf (by omega)];exact e
theorem PrsI.start:PrsI bits ps bs 0 []:=⟨rfl,(λq h=>nomatch h),(λq h=>nomatch h)⟩
theorem PrsI.step(I:PInv bits ps bs bs.length)(J:PrsI bits ps bs k qs)(U:bs.reverse[k]?=ao b){no al:Bool}(Z:no=be↔HasN ps b)(Y:al=be↔HasA ps b):∃v,bpD no al qs b=ao v/\b∉qs.map (·.1)/\PrsI bits ps bs (k+1) (qs++[(b,v)]):=by
 obtain⟨hk,S⟩:=zsW U;have kids:no=bj->al=bj->loH b∈qs.map (·.1)/\upH b∈qs.map (·.1):=λu C=>by have pr:Prt ps b:=⟨(λz=>by rw[Z.mpr z]at u;cases u),(λz=>by rw[Y.mpr z]at C;cases C)⟩;obtain⟨⟨i1,a1,a2⟩,i2,c1,c2⟩:=I.kid _ b (by omega) S pr;rw[J.keys];exact⟨zjB a2 (by omega),zjB c2 (by omega)⟩
 obtain⟨v,l⟩:=zpu kids;have nd:bs.reverse.Nodup:=zhY I.nd;have fresh:b∉qs.map (·.1):=by
  rw[J.keys];intro m;obtain⟨i,hi⟩:=dP.mp m;have il:i<k:=by have:=(aw.mp hi).1;rw[ef]at this;omega
  rw[gf il]at hi;have:=(hV (by rw[fB];omega) nd).mp (hi.trans U.symm);omega
 have pv:0<=v.1/\0<=v.2:=by
  unfold bpD at l;cases no;cases al;simp only[aK,if_false]at l;cases u:valP qs (loH b) with
  | none=>rw[u]at l;cases l
  | some x =>
   cases C:valP qs (upH b) with
   | none=>rw[u,C]at l;cases l
   | some y =>rw[u,C]at l;have px:=J.pos _ (Uv u);have py:=J.pos _ (Uv C);dsimp only at px py;cases l;dsimp only;constructor <;> split <;> omega
  cases l;decide;cases l;decide
 refine⟨v,l,fresh,?_,?_,?_⟩;rw[gT,J.keys,dD,U];rfl;intro q o;rcases aC.mp o with o|o;exact J.pos q o;cases aA.mp o;exact pv;intro q o N L G R;rcases aC.mp o with o|o;exact znU (J.rgt q o N L G R);cases aA.mp o;have u:N=no:=by rw[eU,G,Z]
 have C:L=al:=by rw[eU,R,Y]
 rw[u,C];exact znU l
def PrOk(bits:Int)(ps:BL)(qs:PR):Prop:=∃bs:BL,PInv bits ps bs bs.length/\PrsI bits ps bs bs.length qs
theorem PrOk.bk(h:PrOk bits ps qs):∀q∈qs,IsBk bits q.1.1 q.1.2:=λq l=>by obtain⟨bs,I,J⟩:=h;have:=cG (f:=(·.1)) l;rw[J.keys]at this;exact I.bk _ (iB.mp (hZ this))
theorem PrOk.nd(h:PrOk bits ps qs):(qs.map (·.1)).Nodup:=by obtain⟨bs,I,J⟩:=h;rw[J.keys,<- fB,dH];exact zhY I.nd
theorem PrOk.root(h:PrOk bits ps qs):∃v,valP qs (0,bits)=ao v:=by obtain⟨bs,I,J⟩:=h;refine zgm ?_;rw[J.keys,<- fB,dH];exact iB.mpr (ax I.root)
theorem PrOk.rgt(h:PrOk bits ps qs):∀q∈qs,∀no al:Bool,(no=be↔HasN ps q.1)->(al=be↔HasA ps q.1)->bpD no al qs q.1=ao q.2:=by obtain⟨bs,I,J⟩:=h;exact J.rgt
theorem PrOk.val(h:PrOk bits ps qs):∀(n:Nat),∀q∈qs,q.1.2.toNat=n->q.2=zbg ps n q.1:=by
 classical
 intro n;induction n with
 | zero =>
  intro q u e;have:=h.rgt q u (decide (HasN ps q.1)) (decide (HasA ps q.1)) (by rw[decide_eq_true_eq]) (by rw[decide_eq_true_eq]);unfold bpD at this;unfold zbg;by_cases hn:HasN ps q.1;rw[decide_eq_true hn]at this;rw[if_pos hn];exact(aP this).symm;have l:HasA ps q.1:=by have h0:=(h.bk q u).1;rcases zgL (ps:=ps) (b:=q.1) (by omega) with z|z;exact absurd z hn;exact z
  rw[decide_eq_false hn,decide_eq_true l]at this;rw[if_neg hn];exact(aP this).symm
 | succ n G =>
  intro q u e;have:=h.rgt q u (decide (HasN ps q.1)) (decide (HasA ps q.1)) (by rw[decide_eq_true_eq]) (by rw[decide_eq_true_eq]);unfold bpD at this;unfold zbg;by_cases hn:HasN ps q.1;rw[decide_eq_true hn]at this;rw[if_pos hn];exact(aP this).symm;rw[if_neg hn];rw[decide_eq_false hn]at this;by_cases l:HasA ps q.1;rw[decide_eq_true l]at this;rw[if_pos l];exact(aP this).symm;rw[decide_eq_false l]at this;rw[if_neg l];simp only[aK,if_false]at this;cases e1:valP qs (loH q.1) with
  | none=>rw[e1]at this;cases this
  | some x =>
   cases e2:valP qs (upH q.1) with
   | none=>rw[e1,e2]at this;cases this
   | some y =>rw[e1,e2]at this;have v:=G _ (Uv e1) (show(q.1.2 - 1).toNat=n by omega);have C:=G _ (Uv e2) (show(q.1.2 - 1).toNat=n by omega);dsimp only at v C;rw[<- v,<- C];exact(aP this).symm
noncomputable def ze3 (bits:Int) (ps:BL):Int:=(zbg ps bits.toNat (0,bits)).1
theorem PrOk.many(h:PrOk bits ps qs){v:Int×Int}(l:valP qs (0,bits)=ao v):v.1=ze3 bits ps:=by unfold ze3;rw[<- h.val _ _ (Uv l) rfl]
end
instance zxw {i:Nat}{ks:KT2}{ρ:En}{n:Nat}{R:qN}[h:GetN ρ i (ao (.dtt ks))]:Stp (Vn i ρ n R) (R (.dict (Jr ks)) n):=⟨λk=>by unfold Vn;rw[h.e];exact k⟩
theorem V4{l:BL}{b:Int×Int}:HasN l b↔∀x,b.1<=x->x<eB b->¬mB x l:=by constructor;rintro h x x0 x1 ⟨p,o,hx⟩;rcases h p o with z|z <;> omega;intro h p o;have pp:=J9 p;have u:=J9 b;refine bV λz=>?_;exact h (max b.1 p.1) (by omega) (by omega) ⟨p,o,by omega,by omega⟩
abbrev NP:=(Int×Int)×Str
section
variable{prog:aQ}{w:bg}{A:bh}{R:sI->av->Prop}{I:aq}{fp wr:List aq}{n:Nat}{P:Nat->ah->Prop}{St:Nat->bz->Prop}
def CmpH(prog:aQ)(w:bg)(A:bh)(Gd:bz->Prop)(P:Nat->ah->Prop)(bt:Nat->Nat->Bool):Prop :=
 ∀i j vi vj (s:av) (Q:qV) (E:qV),Gd s.heap->P i vi->P j vj->Q (.bool (bt i j)) s->wpAny (model prog w) A (richCompare .Lt vi vj) Q E s
theorem zmK{Gd:bz->Prop}{bt:Nat->Nat->Bool}{S:aq}(W:Walks prog w A.in1 I fp wr n P St)(Nr:CmpH prog w A.in1 Gd P bt)(hSf:S∉fp)
  (hG:∀h h',Gd h->(∀b o,b∉wr->b≠S->h.get? b=ao o->h'.get? b=ao o)->Gd h') :
  ∀(k j:Nat) (s:av) (U:ah) (c:Nat),n - (j+1)=k->j+1<=n->St (j+1) s.heap->Gd s.heap->P (argBest bt j) U ->
  s.heap.get? S=ao { cls:=.type "list",dict:=bc,data:=.seq #[U,U] c,slots:=#[] } ->
  (∀v h' tk,P (argBest bt (n - 1)) v->(∀b o,b∉wr->b≠S->s.heap.get? b=ao o->h'.get? b=ao o)->R (.ok (.ret v)) { s with heap:=h',toks:=tk }) ->
  codeAny (model prog w) A (.builtin "min.loop" ⟨[.ref I,.none,.ref S],[]⟩) R s:=by
 have hSw:S∉wr:=λh=>hSf (W.sub _ h);have M1:(toString "min" ++ toString ".loop":String) = "min.loop":=by decide
 intro k;induction k with
 | zero =>
  intro j s U c hk hj hst gd Y hS hR;have hin:j+1=n:=by omega
  refine dX nF ?_;rw[h8 fH _];show wpAny _ A.in1 (seqItems? (.ref S) >>= _) _ _ s;refine aa (cI hS rfl ?_);show wpAny _ A.in1 (tryCatch (pyNext (.ref I)) _ >>= _) _ _ s;refine aa (kH (W.done s _ _ (hin▸hst) λh' tk C=>?_));show wpAny _ A.in1 (updateSeq S (λ_=>#[]) >>= _) _ _ _;refine aa (gW (C S _ hSw hS) rfl (aa (ka (ae ?_))));exact hR U _ tk (by rw[<- hin];exact Y) λb o x G e=>(bq _ _ (eK G)).trans (C b o x e)
 | succ k ih =>
  intro j s U c hk hj hst gd Y hS hR;have hlt:j+1<n:=by omega
  refine dX nF ?_;rw[h8 fH _];show wpAny _ A.in1 (seqItems? (.ref S) >>= _) _ _ s;refine aa (cI hS rfl ?_);show wpAny _ A.in1 (tryCatch (pyNext (.ref I)) _ >>= _) _ _ s;refine aa (kH (W.item (j+1) s _ _ hlt hst λv h' tk hP Z C=>?_));have hS':=C S _ hSw hS;have gd':Gd h':=hG _ _ gd λb o hb _ e=>C b o hb e;show wpAny _ A.in1 (tryCatch (holding [v,v] (richCompare .Lt v U >>= _)) _ >>= _) _ _ _;refine aa (kH (cq (aa (Nr (j+1) (argBest bt j) v U _ _ _ gd' hP Y ?_))));refine aa (cq (cW ?_));refine aa (ka (ae ?_));cases hb:bt (j+1) (argBest bt j) with
  | true =>
   simp only[if_true];refine aa (gW hS' rfl (aa (ka ?_)));rw[M1];refine ae ⟨iR fH _,ih (j+1) _ v _ (by omega) hlt (W.frame _ _ _ Z λb hbf o e=>?_) (hG _ _ gd' λb o _ hb e=>(bq _ _ (eK hb)).trans e) (by simp only[argBest,hb,if_true];exact hP) (bP _ hS' rfl)
    λv' h'' N hP' J=>?_⟩
   exact(bq _ _ (λh:S=b=>hSf (by rw[h];exact hbf))).trans e;exact hR v' h'' N hP' λb o x G e=>J b o x G ((bq _ _ (eK G)).trans (C b o x e))
  | false =>simp only[aK,if_false];refine aa (ka ?_);rw[M1];refine ae ⟨iR fH _,ih (j+1) _ U c (by omega) hlt Z gd' (by simp only[argBest,hb,aK,if_false];exact Y) hS' λv' h'' N hP' J=>?_⟩;exact hR v' h'' N hP' λb o x G e=>J b o x G (C b o x e)
theorem zmJ{E:qV}{s:av}{x:ah}{Q:qV}
  (h:wpAny (model prog w) A.in1 (pyIter x) (λit y=>∃(I:aq) (fp wr:List aq) (n:Nat) (P:Nat->ah->Prop) (St:Nat->bz->Prop) (bt:Nat->Nat->Bool) (Gd:bz->Prop),it=.ref I/\Walks prog w A.in1 I fp wr n P St/\St 0 y.heap/\(∀b∈fp,b<y.heap.objs.size)/\0<n/\CmpH prog w A.in1 Gd P bt/\Gd y.heap /\
   (∀h h',Gd h->(∀b o,b∉wr->b≠y.heap.objs.size->h.get? b=ao o->h'.get? b=ao o)->Gd h') /\
   ∀v h' tk,P (argBest bt (n - 1)) v->(∀b o,b∉wr->y.heap.get? b=ao o->h'.get? b=ao o)->Q v { y with heap:=h',toks:=tk }) E s) :
  wpAny (model prog w) A (call (.builtin "min") [x]) Q E s:=by
 have M1:(toString "min" ++ toString ".loop":String) = "min.loop":=by decide
 refine call_function_tree F.kind_min F.plain_min F.entry_min (F.args_min1 _) ?_;show wpAny _ A.in1 (lP "min" ["key","default"] 0 ⟨[],[]⟩ >>= _) _ _ s;refine aa (i9 (show lP "min" ["key","default"] 0 ⟨[],[]⟩=pure [bc,bc] from rfl) (aa (ae ?_)));refine aa (cS h (λit y J=>?_) λ_ _ e=>e);obtain⟨I,fp,wr,n,P,St,bt,Gd,rfl,W,hst,hfp,hn,Nr,gd,Z,hQ⟩:=J;refine aa (bM ?_);have C:y.heap.objs.size∉fp:=λhm=>fE _ (hfp _ hm);have hSw:y.heap.objs.size∉wr:=λh=>C (W.sub _ h);rw[M1];refine ae ⟨iR fH _,?_⟩;refine dX nF ?_;rw[h8 fH _];show wpAny _ A.in1 (seqItems? (.ref y.heap.objs.size) >>= _) _ _ _;refine aa (cI (aD _ rfl) rfl ?_);show wpAny _ A.in1 (tryCatch (pyNext (.ref I)) _ >>= _) _ _ _;refine aa (kH (W.item 0 _ _ _ hn (W.frame _ _ _ hst λb _ o e=>aj _ e) λv h' tk hP S G=>?_));have Y:=G y.heap.objs.size _ hSw (aD _ rfl);show wpAny _ A.in1 (updateSeq y.heap.objs.size (λ_=>#[v,v]) >>= _) _ _ _;refine aa (gW Y rfl ?_);rw[M1];have g1:Gd h':=Z _ _ (Z _ _ gd λb o _ _ e=>aj _ e) λb o hb _ e=>G b o hb e;refine ae ⟨iR fH _,zmK (Gd:=Gd) (bt:=bt) W Nr C Z _ 0 _ v _ rfl hn (W.frame _ _ _ S λb hbf o e=>?_) (Z _ _ g1 λb o _ hb e=>(bq _ _ (eK hb)).trans e) hP (bP _ Y rfl) λv' h'' U hP' L=>?_⟩;exact(bq _ _ (λh:y.heap.objs.size=b=>C (by rw[h];exact hbf))).trans e;exact hQ v' h'' U hP' λb o N e=>L b o N (aT (aG e)) ((bq _ _ (kc (aG e))).trans (G b o N (aj _ e)))
end
def pLt(a b:Int×Int):Bool:=HT.lexLt [a.1,a.2] [b.1,b.2]
theorem pLt_iff{a b:Int×Int}:pLt a b=be↔(a.1<b.1\/(a.1=b.1/\a.2<b.2)):=by
 have e:pLt a b=if a.1=b.1 then(if a.2=b.2 then bj else decide (a.2<b.2)) else decide (a.1<b.1):=rfl
 rw[e];by_cases h1:a.1=b.1;rw[if_pos h1];by_cases h2:a.2=b.2;rw[if_pos h2];simp;omega;rw[if_neg h2];simp;omega;rw[if_neg h1];simp;omega
theorem zgl{f:Nat->Int×Int}:∀k j,j<=k->pLt (f j) (f (argBest (λi j=>pLt (f i) (f j)) k))=false
 | 0,j,hj=>by cases Nat.le_zero.mp hj;simp only[argBest];rw[fq];intro z;rw[pLt_iff]at z;lia
 | k+1,j,hj=>by have o:=zgl (f:=f) k;simp only[argBest];rw[fq];intro z;split at z;rename_i l;rcases e8 hj with h|rfl;have:=o j (by lia);rw[fq]at this;apply this;rw[pLt_iff]at z l ⊢;lia;rw[pLt_iff]at z;lia;rename_i l;rcases e8 hj with h|rfl;have:=o j (by lia);rw[fq]at this;exact this z;exact l z
section
variable{X:Cx}{k:Nat}
theorem znR(hr:Room k X.A)(hc:X.calm=be):JK X (.builtin "min") (λxs H Q=>∃(a:aq) (zs:List (V×(Int×Int))),xs=[.ref a]/\SqL X.K H a (zs.map (·.1))/\zs≠[]/\(∀z∈zs,∃q,z.1=.ref q/\SqT X.K H q [.int z.2.1,.int z.2.2]) /\
  ∀z∈zs,(∀y∈zs,pLt y.2 z.2=bj)->Q z.1 H):=by
 intro pins s σ H xs us Q I r h;obtain⟨a,zs,rfl,hq,ne,hp,q⟩:=h;cases r with
 | cons C U =>
  cases U;cases(show _=bR a from C);obtain⟨its,rv,p,hz⟩:=I.list hq;have cell:bT (λ(z:V×(Int×Int)) (u:ah)=>RelV z.1 u/\PrIn s.heap u z.2.1 z.2.2) zs its:=by
   have go:∀(zs:List (V×(Int×Int))) (its:List ah),(∀z∈zs,∃q,z.1=.ref q/\SqT X.K H q [.int z.2.1,.int z.2.2])->Vals (zs.map (·.1)) its->bT (λ(z:V×(Int×Int)) (u:ah)=>RelV z.1 u/\PrIn s.heap u z.2.1 z.2.2) zs its:=by
    intro zs;induction zs with
    | nil=>intro its _ r;cases r;exact .nil
    | cons z zs Z =>
     intro its hz r;cases r with
     | cons C U =>obtain⟨q,R,Y⟩:=hz z (.head _);refine .cons ⟨C,?_⟩ (Z _ (λy hy=>hz y (.tail _ hy)) U);dsimp only at C;rw[R]at C;cases(show _=bR q from C);exact zqo I Y
   exact go zs its hp rv
  have x:=cell.length;have at_:∀(i:Nat) (v:ah),its[i]?=ao v->∃z,zs[i]?=ao z/\RelV z.1 v/\PrIn s.heap v z.2.1 z.2.2:=by
   have go:∀{zs:List (V×(Int×Int))} {its:List ah},bT (λ(z:V×(Int×Int)) (u:ah)=>RelV z.1 u/\PrIn s.heap u z.2.1 z.2.2) zs its->∀(i:Nat) (v:ah),its[i]?=ao v->∃z,zs[i]?=ao z/\RelV z.1 v/\PrIn s.heap v z.2.1 z.2.2:=by
    intro zs its h;induction h with
    | nil=>intro i v e;simp at e
    | cons h1 _ Z =>
     intro i v e;cases i with
     | zero=>cases e;exact⟨_,rfl,h1⟩
     | succ i=>exact Z i v e
   exact go cell
  have S:s.heap.IsList a its.toArray:=p.isList;have N:a<s.heap.objs.size:=by obtain⟨_,e,_⟩:=S;exact aG e
  have hu:X.A.in1.units<cLine:=by have:=hr.un;show X.A.units+1<_;lia
  refine zmJ (gZ S ?_);refine⟨s.heap.objs.size,[s.heap.objs.size,a],[s.heap.objs.size],its.toArray.size,_,_,λi j=>pLt ((zs[i]?.map (·.2)).getD (0,0)) ((zs[j]?.map (·.2)).getD (0,0)),λh=>∀b o,s.heap.get? b=ao o->h.get? b=ao o,rfl,AR (A:=X.A.in1) (I.ok.hd hc) _ a (aT N) its.toArray,
   ⟨⟨_,aD _ rfl,rfl,rfl⟩,S.push _⟩,?_,?_,?_,λb o e=>aj _ e,?_,λv h' tk hP hk=>?_⟩
  intro b hb;simp only[aE,bE,or_false]at hb;rw[dw];rcases hb with rfl|rfl <;> lia;rw[aJ,<- x];exact lH.mpr ne;intro i j vi vj s' Q' E' gd hi J hQ;obtain⟨z,G,_,pz⟩:=at_ i vi (by simpa using hi);obtain⟨y,ey,_,py⟩:=at_ j vj (by simpa using J);obtain⟨a1,o,t,t',n,e0,R,Y,e3⟩:=pz;obtain⟨a2,o',u,u',n',f0,f1,f2,f3⟩:=py;subst e0 f0;simp only[G,ey,fX,fF]at hQ;exact(show wpAny (model X.prog X.w) X.A.in1 (compareOp .Lt (.ref a1) (.ref a2)) _ E' s' from HT.zdW ⟨o,gd _ _ R,Y,n,e3⟩ ⟨o',gd _ _ f1,f2,n',f3⟩ (.cons _ _ (.cons _ _ .nil)) (.cons _ _ (.cons _ _ .nil)) hu hQ);intro h h' gd kp b o e;have:=aG e;refine kp b o (λz=>?_) (λz=>?_) (gd b o e);simp only[aE,bE,or_false]at z;lia;rw[dw]at z;lia;obtain⟨z,G,rz,_⟩:=at_ _ v (by simpa using hP);refine⟨z.1,H,I.kept (vM hk),rz,q z (ax G) λy hy=>?_⟩;obtain⟨j,J⟩:=dP.mp hy;have jl:=(aw.mp J).1;have:=zgl (f:=λi=>(zs[i]?.map (·.2)).getD (0,0)) (its.toArray.size - 1) j (by rw[aJ,<- x];lia);simp only[aJ]at this G;simp only[J,G,fX,fF]at this;exact this
def zr4:GC
 | [.list ts],R=>∃bs:List (Int×Int),ts=pD bs/\bs≠[]/\∀b∈bs,(∀c∈bs,pLt c b=bj)->R (.tuple [.int b.1,.int b.2])
 | _,_=>False
theorem zl7{K:qF}{hd:Option aq}{O:aq->Prop}{H:Hp}:∀{vs:List V}{bs:qB},Reps K hd O H vs (pD bs)->∀z∈vs.zip bs,(∃q,z.1=.ref q/\SqT K H q [.int z.2.1,.int z.2.2])/\Rep K hd O H z.1 (.tuple [.int z.2.1,.int z.2.2])
 | _,[],r=>by cases r;intro z hz;simp at hz
 | _,a::bs,r=>by
  cases r with
  | cons h r =>intro z hz;rcases aE.mp (by simpa using hz) with rfl|hz;exact⟨h.bkI,h⟩;exact zl7 r z hz
theorem zrD:GpC X (λxs H Q=>∃(a:aq) (zs:List (V×(Int×Int))),xs=[.ref a]/\SqL X.K H a (zs.map (·.1))/\zs≠[]/\(∀z∈zs,∃q,z.1=.ref q/\SqT X.K H q [.int z.2.1,.int z.2.2]) /\
  ∀z∈zs,(∀y∈zs,pLt y.2 z.2=bj)->Q z.1 H) zr4:=by
 intro hd O H xs ts Q R dom rs h C;unfold zr4 at h;split at h;obtain⟨bs,rfl,ne,h⟩:=h;obtain⟨v,rfl,I⟩:=Qs rs;obtain⟨p,vs,rfl,J,x⟩:=I.lstI;have ln:vs.length=bs.length:=by have:=x.length;simpa[pD] using this
 have rel:=zl7 x;refine⟨p,vs.zip bs,rfl,?_,λz=>?_,λz hz=>(rel z hz).1,λz hz G=>C _ _ H (h z.2 (fx hz).2 λc hc=>?_) (Same.refl H) (rel z hz).2⟩;rw[sP (by lia)];exact .of J;have:(vs.zip bs).length=0:=by rw[z];rfl
 rw[iV,ln,xh]at this;exact ne (eF.mp this);obtain⟨j,u⟩:=dP.mp hc;have L:=(aw.mp u).1;have:(vs[j]'(by lia),c)∈vs.zip bs:=dP.mpr ⟨j,by rw[mH];exact⟨au _,u⟩⟩;exact G _ this;exact h.elim
theorem ztS{bs:qB}{R:af->Prop}(ne:bs≠[])(h:∀b∈bs,(∀c∈bs,pLt c b=bj)->R (.tuple [.int b.1,.int b.2])):zr4 [.list (pD bs)] R:=⟨bs,rfl,ne,h⟩
end
section
variable{tg tg2:DTG}{tt tt2:DTT}{d:DTE}{di2:DTA}{ρ0:En}{n:Nat}
theorem zgh{α:Type}{cs:List α}{D:α->af}{u:qD->Nat->Prop}(F:α->af)
  (step:∀b∈cs,∀(K:qN) (X:Nat->Prop),K (F b) n->tg (D b) ρ0 λo=>tt o n λc v=>if c=be then d o v K else X v) :
  ∀(xs:List α) (acc:qD),(∀x∈xs,x∈cs)->acc.length+xs.length<=16777216->u (acc++xs.map F) n->JS tg tt d ρ0 (xs.map D) acc n u
 | [],acc,_,_,h=>by
  have h:u acc n:=by simpa using h
  exact h
 | x::xs,acc,hx,hl,h=>by
  have C:acc.length+(xs.length+1)<=16777216:=hl;exact step x (hx x (.head _)) (λt I=>acc.length<16777216/\JS tg tt d ρ0 (xs.map D) (acc++[t]) I u) (λv=>JS tg tt d ρ0 (xs.map D) acc v u)
   ⟨by omega,zgh (cs:=cs) F step xs _ (λy G=>hx y (.tail _ G)) (by simp;omega) (by simpa using h)⟩
theorem znJ{α I:Type}{cs:List α}{D:α->af}{G:I->af}{P:α->List I->Prop}{J:qD->Nat->Prop}(m:Nat)(hP:∀b u,P b u->u.length<=m)
  (step:∀b∈cs,∀(acc:qD) (K:qD->Nat->Prop) (X:Nat->Prop),acc.length<=m*cs.length->(∀u,P b u->K (acc++u.map G) n)->tg (D b) ρ0 λv=>tt v n λc C=>if c=be then di2 v C λts n3=>JS tg2 tt2 d v ts acc n3 K else X C)
  (fin:∀o:List (List I),o.length=cs.length->(∀(i:Nat) b u,cs[i]?=ao b->o[i]?=ao u->P b u)->J (o.flatten.map G) n):Us tg tt di2 tg2 tt2 d ρ0 (cs.map D) [] n J:=by
 have key:∀(xs:List α) (acc:qD) (R:qD->Nat->Prop),(∀x∈xs,x∈cs)->acc.length+m*xs.length<=m*cs.length->(∀o:List (List I),o.length=xs.length->(∀(i:Nat) b u,xs[i]?=ao b->o[i]?=ao u->P b u)->R (acc++o.flatten.map G) n)->Us tg tt di2 tg2 tt2 d ρ0 (xs.map D) acc n R:=by
  intro xs;induction xs with
  | nil =>
   intro acc R _ _ h;have h:R acc n:=by simpa using h [] rfl (λi b u e=>by simp at e)
   exact h
  | cons x xs Y =>
   intro acc R hx U h;have Z:acc.length+(m*xs.length+m)<=m*cs.length:=U;refine step x (hx x (.head _)) acc _ (λC=>Us tg tt di2 tg2 tt2 d ρ0 (xs.map D) acc C R) (by omega) λu L=>?_;refine Y (acc++u.map G) R (λy hy=>hx y (.tail _ hy)) (by have:=hP x u L;simp;omega) λo S pw=>?_;have:=h (u::o) (by simp[S]) λi b vs N ev=>by
    cases i with
    | zero=>cases N;cases ev;exact L
    | succ i=>exact pw i b vs N ev
   simpa[bu] using this
 exact key cs [] J (λ_ h=>h) (by simp) (by simpa using fin)
end
end L2
namespace L2
open PySem PySem.Spec PyProof.Rows
def ndup:List Str->Bool
 | []=>true
 | x::l=>!l.any (λy=>decide (x=y))&&ndup l
theorem ndB{l:List Str}(h:ndup l=be):l.Nodup:=by
 induction l with
 | nil=>exact .nil
 | cons x l o =>simp only[ndup,cA,fk,rY,decide_eq_true_eq]at h;exact cH.mpr ⟨λm=>h.1 x m rfl,o h.2⟩
def fnB(N P:List Str)(sc:fI):Bool:=(match sc.kind with|.function=>be|_=>bj)&&!sc.isCoroutine&&!sc.isGenerator&&ndup N&&decide (N.take P.length=P)&&P.all (λx=>decide (sc.names.lookup x=ao .local\/sc.names.lookup x=ao .cell))&&sc.names.all λy=>decide (y.2≠.free)
theorem fnS{N P:List Str}{sc:fI}(h:fnB N P sc=be):Ur N P sc:=by simp only[fnB,cA,fk,decide_eq_true_eq,dF]at h;obtain⟨⟨⟨⟨⟨⟨a,b⟩,c⟩,d⟩,e⟩,f⟩,g⟩:=h;exact⟨(by cases q:sc.kind <;> rw[q]at a <;> first|rfl|(exact nomatch a)),b,c,ndB d,e,f,g⟩
section
variable{X:Cx}{x:Str}{e:a8}{es:List a8}{d:DTE}{ds:DTA}{pos pos':Pos}
theorem dlv(i:Nat)(u:X.N[i]?=ao x:=by rfl)(o:Vis X.env.scope x:=by walk_at "V")(hd:Ndb x:=by rfl)
  (l:Ncd x:=by rfl):DL X (.Name x pos) (dVar i):=dl (Jh i u o hd l)
theorem dli{i j}:DL X (.Constant (.int i) j pos) (dC (.int i)):=dl Jg
theorem dbc(h:DE X e d)(l:DB X es ds)(o:starEach (e::es) X.env=(bj,eval e X.env)::starEach es X.env:=by rfl):DB X (e::es) (J5 d ds):=znz h l o
theorem dbv(i:Nat)(o:DB X es ds)(v:X.N[i]?=ao x:=by rfl)(u:Vis X.env.scope x:=by walk_at "V")(hd:Ndb x:=by rfl)
  (l:Ncd x:=by rfl):DB X (.Name x pos::es) (J5 (dVar i) ds):=znz (Jh i v u hd l) o rfl
theorem dsv(i:Nat)(o:X.N.Nodup)(h:DE X e d)(hi:X.N[i]?=ao x:=by rfl)(hx:Loc X.env.scope x:=by first|exact e9 rfl|exact AZ rfl)(l:swapsWith e (ao (.Name x pos')) pos.line X.env=pure bj:=by rfl)
  (hf:Fnl X x:=by walk_at "F"):DS X (.Assign [.Name x pos'] e pos) (sSet i d):=zuP o hi hx h l hf
theorem dgv(i:Nat)(l:X.N.Nodup)(hi:X.N[i]?=ao x:=by rfl)(hx:Loc X.env.scope x:=by first|exact e9 rfl|exact AZ rfl)(hf:Fnl X x:=by walk_at "F"):DG X (.Name x pos) [i] (JX i):=zrQ l hi hx hf
end
section
variable{X:Cx}{scope:fI}{iter elt:a8}{ifs:List a8}{tg:a8}{pos:Pos}{is:List Nat}{di:DTA}{g:DTG}{tt:DTT}{te:DTE}
theorem dnc(own:List Str)(capt:List Nat)(hi:DIL X tg iter di)(u:Fam X scope own capt λY=>DG Y tg is g)(he:Fam X scope own capt λY=>DE Y elt te)
  (hc:X.calm=be:=by rfl) (h:Wm scope X.env.scope X.N capt=be:=by rfl) (l:∀i∈is,i<own.length:=by decide) (v:Fsi X iter:=by intro _;rfl):DN X (.ListComp elt [⟨tg,iter,[],0⟩] scope pos) (dComp own.length capt di g dYes te) :=
 znn hc (Jv.of h) hi u l (λ_ _ _ _=>QZ) he v
theorem dnf(own:List Str)(capt:List Nat)(hi:DIL X tg iter di)(u:Fam X scope own capt λY=>DG Y tg is g)(x:Fam X scope own capt λY=>DTs Y ifs tt)(he:Fam X scope own capt λY=>DE Y elt te)
  (hc:X.calm=be:=by rfl) (h:Wm scope X.env.scope X.N capt=be:=by rfl) (l:∀i∈is,i<own.length:=by decide) (v:Fsi X iter:=by intro _;rfl):DN X (.ListComp elt [⟨tg,iter,ifs,0⟩] scope pos) (dComp own.length capt di g tt te) :=
 znn hc (Jv.of h) hi u l x he v
end
end L2
namespace Bd
open PySem PySem.W PySem.Calls L2 PyProof.Rows
theorem okN{Z:ZZ}{x:Str}{st:fA}{ps:List Str}{k m:Nat}{g:GD}(N:List Str)(D:Dq Z.K Z.mg x st ps)
  (C:∀{f:aq} {l:ah} {A:bh} {outer:List Env} {s:av} {H:Hp} {E:XK},Room k (A.deeper (envOfC x (JE st) s.heap.objs.size f l))->∃d,DSs (cxOf CX0 Z.P Z.w Z.K Z.mg Z.base N x (JE st) f l A outer s H E).nox (J8 st) d /\
   ∀ts n R,ts.length=m->g ts n R->d { nx:=λ_ y=>R .none y,rt:=R } (JW N ts) n) (S:fnB N ps (JE st)=be:=by decide +kernel) (v:m=ps.length:=by rfl):FQ Z x st ps (k+1) (spD Z.K m g):=okQ D (fnS S) v λ_ _ _ _ _ _ _ u=>C u
end Bd
namespace Bd
open PySem PySem.W PySem.Calls L2 PyProof.Rows
abbrev PLs:=List (Str×List (Str×List Str))
abbrev FLs:=List (Str×List Str)
end Bd
namespace Bd
open PySem PySem.W PySem.Calls L2 PyProof.Rows
def Uq(o:String->Option cX)(p:aQ)(w:bg)(l:Nat)(ann:Option ah):Nat->xi->Thread->Option xi
 | 0,_,_=>bc
 | n+1,s,t=>match through t with
  | true=>ao s
  | false=>match stepOk l ann t with
   | false=>bc
   | true=>match stepT (denote o) p w s t with
    | some (s',t')=>Uq o p w l ann n s' t'
    | none=>bc
theorem zfM{o:String->Option cX}{p:aQ}{w:bg}{l:Nat}{ann:Option ah}:∀{n:Nat}{s s':xi}{t:Thread},Uq o p w l ann n s t=ao s'->topRun o p w l ann n s.abs t=ao s'.abs
 | 0,_,_,_,h=>by cases h
 | n+1,s,s',t,h=>by
  unfold Uq at h;unfold topRun;cases he:through t with
  | true=>rw[he]at h;cases h;rfl
  | false =>
   rw[he]at h;cases hk:stepOk l ann t with
   | false=>rw[hk]at h;cases h
   | true =>
    rw[hk]at h;cases hs:stepT (denote o) p w s t with
    | none=>rw[hs]at h;cases h
    | some r=>obtain⟨v,u⟩:=r;rw[hs]at h;dsimp only at h ⊢;rw[stepT_spec hs];exact zfM h
def zpX:List Obj->Nat->BT->BT
 | [],_,t=>t
 | o::r,i,t=>zpX r (i+1) (t.ins i o)
noncomputable def zr2 (P:uf):BT:=zpX (dQ P).objs.toList 0 .nil
noncomputable def zln (w:bg) (os:rZ):xi:=⟨zr2 w.params,11,(dQ w.params).life,#[],nZ,pG,os⟩
theorem boot_abs(P:uf):absHeap (zr2 P) 11 (dQ P).life=dQ P:=by kernel_rfl
theorem znX(P:uf):(dQ P).objs.size=11:=by kernel_rfl
theorem zr1(P:uf):(dQ P).isNs mainGlobals=be:=by kernel_rfl
def Vo(p:aQ)(h₀:bz)(l:av):Bool:=staticsOk (importedModules p.main.body) h₀ l.heap&&namesBound p l.heap&&gensDone l&&laidKept h₀ l.heap
theorem zmV{p q:aQ}{loose:List Str}{o:av->Bool}{α:Type}{v:av->α}{x:bg->α}{N:Nat}(e:opening p=plainProg p.main.scope.names)(L:Nat.ble 600 N=be)(y:∀s,fenceModules? p s=ao s)
  (run:∀(w:bg) (os:rZ),(Uq treeTable p w 11 ((dQ w.params).nsMap mainGlobals "__annotations__") N (zln w os) (topStub p)).map (λs=>(Vo p (dQ w.params) s.abs,openSeen q loose (importedModules p.main.body) o be s.abs,v s.abs))=ao (be,openGood q loose,x w)) :
  LeftO p q loose o v x N be:=λw=>by
 obtain⟨⟨h,S,d,k,os⟩,I,G⟩:=dI.mp (boot_open e L y w);obtain⟨rfl,rfl,rfl,rfl⟩:h=dQ w.params/\S=#[]/\d=nZ/\k=pG:=by simpa using G
 obtain⟨u,r,l⟩:=dI.mp (run w os);have J:(zln w os).abs=⟨dQ w.params,#[],nZ,pG,os⟩:=by show(⟨absHeap (zr2 w.params) 11 (dQ w.params).life,#[],nZ,pG,os⟩:av)=_;rw[boot_abs]
 have r:=zfM r;rw[J]at r;obtain⟨C,l2⟩:=o4 l;obtain⟨l2,R⟩:=o4 l2;have t:topFrom treeTable p w N ⟨dQ w.params,#[],nZ,pG,os⟩=ao u.abs:=by unfold topFrom;dsimp only;rw[zr1,znX,r];show(match Vo p (dQ w.params) u.abs with|true=>_|false=>_)=_;rw[C]
 unfold openEnds;rw[I];show(topFrom treeTable p w N _).map _=_;rw[t];exact congrArg ao (dR l2 R)
theorem map3{α C l u v:Type}{o:Option α}{f:α->C×l}{g:α->u×v}{a:C}{y:l}{b:u×v}(h:o.map f=ao (a,y))(J:o.map (λs=>(g s).1)=ao b.1)(L:o.map (λs=>(g s).2)=ao b.2):o.map (λs=>((f s).1,g s,(f s).2))=ao (a,b,y):=by
 cases o with
 | none=>cases h
 | some x =>have e:=aP h;have I:(g x).1=b.1:=aP J;have G:(g x).2=b.2:=aP L;show ao ((f x).1,g x,(f x).2)=_;rw[e,show g x=b from dR I G]
end Bd
namespace L2
open PySem PySem.Spec PyProof.Rows
abbrev GX:=List af->Nat->qN->(Str->Nat->Prop)->Prop
end L2
namespace L2
open PySem PySem.Spec PyProof PyProof.Rows
section
variable{prog:aQ}{w:bg}{A:bh}{E:qV}{s:av}
abbrev FB:=Int×(Int×Int)
end
section
variable{X:Cx}{e e1 e2:a8}{x:Str}{pos:Pos}{d d1 d2:DTE}
def zsq(K:qF)(tk C:TE):TE:=λσ H Q=>∀p,H p=bc->∀ep,tk σ (upd H p (ZDO p [] ep)) λy G=>C σ G λv o=>∃u k b,y=.ref b/\o p=ao (ZDO p [] u)/\SqT K o b [.int k.1,.int k.2]/\∀l,Q (.ref p) (upd o p (ZDO p (zput [] k b v) l))
theorem zoI{tk G:TE}(L:X.A.units+1<cLine)(hk:PE X e1 tk)(S:PE X e2 G):PE X (.Dict [ao e1] [e2] pos) (zsq X.K tk G):=by intro pins s σ H Q I h;have hb:(s.heap.objs.size == sysModules)=bj:=beq_eq_false_iff_ne.mpr (eK (aT I.big));obtain⟨ep,ok⟩:=ZK (X:=X) (H':=H) (zs:=[]) hb (eD _) .nil (nD s.heap);rw[arm_eval_Dict,zip_pairTrees [ao e1] [e2] X.env pos rfl rfl,dictDisplay_pairs _ (by simp[pairTrees]) (by simp[pairTrees])];refine aa (f9 (aa ?_));unfold subDict;refine aa (tw ?_);refine aa (cq ?_);rw[if_pos (by simp[pairTrees])];have R:=I.laid (a:=s.heap.objs.size) (o:=ZDO s.heap.objs.size [] ep) (t':=s.toks) (h':=s.heap.push { cls:=.type "dict",data:=.dict #[] }) (λ_ _ q=>aj _ q) (aB _) ok;refine aa (pairTrees_cons_walk (thn (hk pins _ σ _ _ R (h _ (I.hok.fresh (aB _)) ep)) λu s1 h1=>?_));obtain⟨y,N,I1,ry,Y⟩:=h1;refine thn (S pins s1 σ N _ I1 Y) λw2 s2 h2=>pairTrees_nil_walk ?_;obtain⟨v,H2,I2,Z,ep1,k,b,rfl,U,sq,q2⟩:=h2;cases ry;refine cq (aa ?_);rw[iT];refine aa (aa (zlA L I2 U (λz hz=>nomatch hz) sq (by rw[cz,oK];decide) Z λs' C J=>ae ?_));dsimp only;rw[hY];exact ae (ae (ae (ae ⟨.ref s.heap.objs.size,_,J,rfl,q2 C⟩)))
def zpI(i:Nat)(o C:DTE):DTS:=λD l n=>o l n λy u=>C l u λt v=>lBlk y λk=>lInt t λj=>D.nx (l.set i (ao (.dtt [(k,.int j)]))) v
theorem zpj{i:Nat}{I dp:Pos}(hu:X.A.units+1<cLine)(hN:X.N.Nodup)(hi:X.N[i]?=ao x)(hx:Loc X.env.scope x)(h1:DE X e1 d1)(h2:DE X e2 d2)(hs:swapsWith (.Dict [ao e1] [e2] dp) (ao (.Name x I)) pos.line X.env=pure bj:=by rfl)(hf:Fnl X x:=by walk_at "F") :
  DS X (.Assign [.Name x I] (.Dict [ao e1] [e2] dp) pos) (zpI i d1 d2):=by
 obtain⟨t1,pa1,h1⟩:=h1;obtain⟨t2,pa2,h2⟩:=h2;refine⟨_,Qr hN hi hx (zoI hu pa1 pa2) hs hf,λC Z σ H n D D' S hd g=>?_⟩;intro p R ep;have e0:ExtE C.hd H (upd H p (ZDO p [] ep)):=ExtE.new R;have S0:=S.on e0 (S.hnd.same (JR R));have L:C.hd≠ao p:=λz=>S.dom (.inl (S.hx p z)) R;refine h1 C Z σ _ n _ _ S0 hd λy n1 w H1 r e1 hn1 q1=>?_;have S1:=S0.on e1 hn1;refine h2 C Z σ H1 n1 _ _ S1 r λt n2 v U r e2 hn2 q2=>?_;obtain⟨k,rfl,r⟩:=r;obtain⟨j,rfl,r⟩:∃j,t=.int j/\D'.nx (Z.set i (ao (.dtt [(k,.int j)]))) n2:=by cases t <;> first|exact⟨_,rfl,r⟩|exact r.elim
 have q1:=e2.rep S.hx q1;have J:U p=ao (ZDO p [] ep):=e2 _ _ (e1 _ _ JJ L) L;obtain⟨b,rfl,sb⟩:=q1.bkI;refine⟨ep,k,b,rfl,J,sb,λG=>?_⟩;rw[q2.intI];have e3:ExtE C.hd H (upd U p (ZDO p (zput [] k b (.int j)) G)):=ExtE.updR R ((e0.trans e1).trans e2);have hn3:Hn X.K C.hd (upd U p (ZDO p (zput [] k b (.int j)) G)) n2:=Hn.updR L (.inr (.inr ⟨_,J⟩)) hn2;have rb:Rep X.K C.hd (λa=>Own C Z σ a\/a=p) (upd U p (ZDO p (zput [] k b (.int j)) G)) (.ref b) (.tuple [.int k.1,.int k.2]):=by
  have Y:∀{O:aq->Prop} {H':Hp} {vs:List V},Reps X.K C.hd (Own C Z σ) U vs [.int k.1,.int k.2]->Reps X.K C.hd O H' vs [.int k.1,.int k.2]:=λr=>by
   cases r with
   | cons a r=>cases r with
    | cons b r =>cases r;rw[a.intI,b.intI];exact .cons (.int _) (.cons (.int _) .nil)
  cases q1 with
  | @tup a vs ds h o r =>
   have ne:b≠p:=λz=>by rw[z,J]at h;cases h
   exact .tup (by rw[Jl ne];exact h) (λz=>z.elim o ne) (Y r)
  | tupS h r=>exact .tupS h (Y r)
 exact g.nx _ _ _ n2 r (S.putNew e3 hn3 R ⟨_,G,JJ,.cons rb (.int j) .nil⟩) (zcZ e3 R)
end
section
variable{D:JH}{ρ:En}{n i:Nat}{dk dv:DTE}
instance zvV:Stp (zpI i dk dv D ρ n) (dk ρ n λy n1=>dv ρ n1 λt n2=>lBlk y λk=>lInt t λj=>SetK i (ao (.dtt [(k,.int j)])) D.nx ρ n2):=⟨λh=>h⟩
end
open PySem.SeqAt in
theorem zkt(l:aq)(J L x:ah)(n:Nat)(S:Option aq)(U:Array (Option ah))(u C:Bool)(I:u=be\/C=be):Meets (cX.«tuple.index» ⟨[.ref l,x],[]⟩)
  (λA R s=>s.heap.get? l=ao { cls:=.type "tuple",dict:=S,data:=.seq #[J,L] n,slots:=U }/\EqAt A.in1 s J x u/\EqAt A.in1 s L x C/\R (.ok (.ret (.int (if u then 0 else 1) s.toks))) { s with toks:=s.toks+1 }):=by
 intro prog w A R s h;obtain⟨Y,g,d,tk,os⟩:=s;obtain⟨N,G,v,h⟩:=h;unfold cX.«tuple.index»;simp only[o7,xH];wp_walk using og N;simp only[aJ,aL,cz,xh,cY,Nat.reduceAdd,rQ,my,Nat.div_one,List.range',Nat.reduceSub,Nat.reduceDiv];unfold sX;refine aa (aa (G prog w _ _ ?_));cases u with
 | true =>wp_walk;exact h
 | false =>
  simp only[aK,if_false];refine ae ?_;dsimp only;unfold sX;refine aa (aa (v prog w _ _ ?_));cases C with
  | true =>wp_walk;exact h
  | false=>rcases I with h|h <;> cases h
section
variable{X:Cx}{a b:a8}{da db:DTE}
theorem zmH:MtR X "tuple.index" (λx xs H Q=>∃(l:aq) (i j:Int),x=.ref l/\xs=[.int 0]/\SqT X.K H l [.int i,.int j]/\(i=0\/j=0)/\Q (.int (if i=0 then 0 else 1)) H):=by
 intro pins s σ H x xs v Z Q I R rs h;obtain⟨l,i,j,rfl,rfl,y,N,q⟩:=h;cases R;cases rs with
 | cons U L =>
  cases L;obtain⟨t,rfl⟩:=U;obtain⟨its,o,p,G⟩:=I.tuple y;cases o with
  | cons a o=>cases o with
   | cons b o =>
    cases o;obtain⟨C,rfl⟩:=a;obtain⟨Y,rfl⟩:=b;obtain⟨⟨cls,J,data,S⟩,u,hc,n,hd⟩:=id p;simp only at hc hd;subst hc hd;have e:(if decide (i=0)=be then(0:Int) else 1)=if i=0 then 0 else 1:=by simp
    refine call_meets m8 ⟨_,u,rfl⟩ PySem.F.entry_tuple_index (PySem.F.args_tuple_index_2 _ _) (zkt l _ _ _ n J S (decide (i=0)) (decide (j=0)) (by simpa using N)) ⟨u,(o8 i 0 C t).at _ _,(o8 j 0 Y t).at _ _,?_⟩;rw[e];exact⟨.int _,H,I.tok _,⟨_,rfl⟩,q⟩
def tyT(K:qF)(x:V)(H:Hp):Prop:=∃p vs,x=.ref p/\(H p=ao (.tup vs)\/StT K p vs)
theorem zpF{pins:qO}{σ:St}{H:Hp}{s:av}{x:V}{v:ah}(I:Inv X pins σ H s)(r:RelV x v)(ty:tyT X.K x H):s.TypeIs v "tuple" /\ ∀a,v=.ref a->∃l,s.heap.get? a=ao l/\l.dict=bc:=by
 obtain⟨p,vs,rfl,ty⟩:=ty;cases r;have z:∃o,s.heap.get? p=ao o/\o.cls=.type "tuple" /\ o.dict=bc:=by rcases ty with h|⟨o,its,n,C,G,N,L,J,u⟩;obtain⟨_,its,_,o,e,c,_,d⟩:=I.hok p _ h;exact⟨o,e,c,d⟩;exact⟨o,I.kIn p o C,G,u⟩
 obtain⟨o,e,c,d⟩:=z;exact⟨⟨o,e,c⟩,λa q=>by cases q;exact⟨o,e,d⟩⟩
def tBMT(K:qF)(r:V->List V->Hp->VK->Prop)(to:TE)(t:TA):TE:=λσ H Q=>to σ H λx l=>tyT K x l/\t σ l λxs o=>r x xs o Q
theorem ztj{o e:a8}{es:List a8}{to:TE}{t:TA}{name:Str}{apos G:Pos}{id:String}{r:V->List V->Hp->VK->Prop}(slot:AJ "tuple" name id) (J:typeOf (.builtin id)=pure (.type "method_descriptor")) (hm:MtR X id r) (ho:PE X o to) (U:PA X (e::es) t)
  (Mk:attributeBase o name X.env (eval o X.env)=eval o X.env)
  (MN:((backTo G (starEach (e::es) X.env)).all (λx=>!x.1)&&(backToKw G (keywordEach [] X.env)).all (λx=>x.1.isSome)
   && decide ((e::es).length+([]:List ie).length+(if ([]:List ie).isEmpty then 0 else 1)<30))=be)
  (Ml:(apos.endLine == G.line)=be) (hs:starEach (e::es) X.env=(bj,eval e X.env)::starEach es X.env) (Z:(backTo G (starEach es X.env)).any (·.1)=bj) :
  PE X (.Call (.Attribute o name apos) (e::es) [] G) (tBMT X.K r to t):=by
 intro pins s σ H Q I h;refine nM Mk MN Ml rfl (thn (ho pins s σ H _ I h) λv s1 L=>?_);obtain⟨x,Y,S,R,ty,q1⟩:=L;obtain⟨h1,h2⟩:=zpF S R ty;refine⟨"tuple",id,PySem.F.plainAttrs_tuple,slot,J,h1,h2,?_⟩;have N:=U G pins s1 σ Y _ S q1;rw[hs]at N ⊢;refine ko (by show(bj||(backTo G (starEach es X.env)).any (·.1))=bj;rw[Z] <;> rfl) (oM ?_);exact thn N λus s2 ⟨vs,H2,I2,r2,q2⟩=>hm pins s2 σ H2 x vs v us Q I2 R r2 q2
def znC(da db:DTE):DTE:=λo n R=>da o n λt v=>∃i j:Int,t=.tuple [.int i,.int j]/\db o v λy x=>y=.int 0/\(i=0\/j=0)/\R (.int (if i=0 then 0 else 1)) x
theorem znx{p2 p3:Pos}(h:DE X a da)(h':DE X b db)(G:starEach [b] X.env=[(bj,eval b X.env)]:=by rfl)(Mk:attributeBase a "index" X.env (eval a X.env)=eval a X.env:=by rfl)
  (MN:((backTo p3 (starEach [b] X.env)).all (λx=>!x.1)&&(backToKw p3 (keywordEach [] X.env)).all (λx=>x.1.isSome)
   && decide ([b].length+([]:List ie).length+(if ([]:List ie).isEmpty then 0 else 1)<30))=be:=by rfl)
  (Ml:(p2.endLine == p3.line)=be:=by rfl) (Y:(backTo p3 (starEach ([]:List a8) X.env)).any (·.1)=bj:=by rfl):DE X (.Call (.Attribute a "index" p2) [b] [] p3) (znC da db):=by
 obtain⟨ta,pa,h⟩:=h;obtain⟨tb,pb,h'⟩:=h';refine⟨_,ztj m8 PySem.F.type_tuple_index zmH pa (Qj pb Qz G) Mk MN Ml G Y,λC ρ σ H n Q R S hd hq=>?_⟩;refine h C ρ σ H n _ _ S hd λt n1 v Z r e1 h1 L=>?_;obtain⟨i,j,rfl,r⟩:=r;have S1:=S.on e1 h1;obtain⟨p,rfl,sq⟩:=L.bkI;have ty:tyT X.K (.ref p) Z:=by
  cases L with
  | tup h o r=>exact⟨_,_,rfl,.inl h⟩
  | tupS h r=>exact⟨_,_,rfl,.inr h⟩
 refine⟨ty,h' C ρ σ Z n1 _ _ S1 r λy n2 w H2 N e2 J q2=>?_⟩;obtain⟨rfl,hk,N⟩:=N;obtain⟨p',e',U⟩:=(e2.rep S.hx L).bkI;cases e';have ew:=q2.intI;subst ew;exact⟨p,i,j,rfl,rfl,U,hk,hq _ n2 _ H2 N (e1.trans e2) J (.int _)⟩
instance zvo {ρ:En}{n:Nat}{R:qN}:Stp (znC da db ρ n R) (da ρ n λt n1=>∃i j:Int,t=.tuple [.int i,.int j]/\db ρ n1 λy n2=>y=.int 0/\(i=0\/j=0)/\R (.int (if i=0 then 0 else 1)) n2):=⟨λh=>h⟩
end
section
variable{prog:aQ}{w:bg}{A:bh}{E:qV}{s:av}
theorem zlD(N:A.handled=bc)(it d:aq)(x:it≠d)(es:Array fW)(ep:Nat):Walks prog w A it [it,d] [it] es.size (λi v=>∃e,es[i]?=ao e/\v=e.key) (λi h=>h.IsKeyIter it d i es.size ep/\Y6 h d es ep) where
 sub:=by simp
 frame:=λi h h' ⟨⟨o,e,r⟩,⟨G,L,J⟩⟩ k=>⟨⟨o,k it (by simp) o e,r⟩,⟨G,k d (by simp) G L,J⟩⟩
 item:=λi s Q E hi ⟨st,l⟩ u=>by have hx:es[i]?=ao es[i]:=ba hi;refine zmb st l hx λh' y I=>u _ h' s.toks ⟨_,hx,rfl⟩ ⟨y,?_⟩ λb o C e=>(I.2 b (by simpa using C)).trans e;obtain⟨o,e,r⟩:=l;exact⟨o,(I.2 d x.symm).trans e,r⟩
 done:=λs Q E ⟨st,l⟩ u=>zoA N st l (aB _) λh' R=>u h' s.toks λb o C e=>R b o (by simpa using C) e
 self:=λi s Q E st h=>wpAny_pyIter_keyiter st.1 h
theorem zrl{d:aq}{es:Array fW}{ep:Nat}(lo:(d == sysModules)=bj):PySem.W.KdlSrc prog w "dict" d d es.size (λi v=>∃e,es[i]?=ao e/\v=e.key) (λh=>Y6 h d es ep) where
 type:=λ_ ⟨o,e,x,_⟩=>⟨o,e,x.1⟩
 there:=λ_ ⟨o,e,_⟩=>⟨aG e,aG e⟩
 keep:=λ_ _ ⟨o,e,r⟩ I=>⟨o,I d (.inl rfl) o e,r⟩
 notList:=by decide
 notTuple:=by decide
 hint:=λ_ _ _ _ ⟨o,e,x,_⟩ u=>PySem.W.kdl_hint_dict ⟨o,e,x.1⟩ u
 iter:=λ_ _ G C=>⟨_,_,(λ_ _ u=>zma lo C u),zlD G _ d (by obtain⟨o,e,_⟩:=C;exact(aT (aG e)).symm) es ep,⟨⟨_,aD _ rfl,rfl,rfl⟩,by obtain⟨o,e,r⟩:=C;exact⟨o,aj _ e,r⟩⟩⟩
end
section
variable{X:Cx}{e:a8}{d:DTE}{p pos:Pos}
theorem zlm(hc:X.calm=be):JK X (.type "list") (λxs H Q=>∃(p:aq) (zs:ZT) (ep:Nat),xs=[.ref p]/\H p=ao (ZDO p zs ep)/\∀l,H l=bc->Q (.ref l) (upd H l (.lst (zs.map λz=>V.ref z.2.1)))):=by
 intro pins s σ H xs us Q I r h;obtain⟨p,zs,ep,rfl,U,q⟩:=h;obtain⟨u,rfl,Z⟩:=r.one;cases(show u=bR p from Z);obtain⟨⟨Y,N,nd,o,es,g1,g2,g3,pr⟩,_⟩:=I.hok p _ U;have J:es.size=zs.length:=by have:=fD pr;simpa using this.symm
 refine PySem.W.kdl_call (zrl (es:=es) (ep:=ep) Y) (I.ok.hd hc) ⟨o,g1,g2,g3⟩ (by rw[J];exact N) λh' tk acc c kp hS G=>?_;refine⟨.ref s.heap.objs.size,_,I.laid (a:=s.heap.objs.size) (o:=.lst _) (t':=tk) kp (aB _) ⟨?_,acc.toList,c,?_,by rw[lA];exact hS⟩,rfl,q _ (I.hok.fresh (aB _))⟩;rw[aN];exact N;obtain⟨R,hb⟩:=G;refine zhH (P:=λ(x:V) (v:ah)=>RelV x v) (l:=zs.map λz=>V.ref z.2.1) (m:=acc.toList) (by rw[aN];exact(cQ.trans (R.trans J)).symm) λj i v hi L=>?_;rw[bK]at L;obtain⟨e,he,rfl⟩:=hb j v L;rw[aX]at hi;obtain⟨z,hz,rfl⟩:=dI.mp hi;obtain⟨e',C,S⟩:=zrL pr hz;rw[bK,he]at C;cases C;rw[S];rfl
theorem Jo.keysR{K:qF}{hd:Option aq}{O:aq->Prop}{H:Hp}{zs:ZT}{ks:KT2}(r:Jo K hd O H zs ks):Reps K hd O H (zs.map λz=>V.ref z.2.1) (ks.map λq=>blkT q.1):=by
 have e:∀{zs:ZT} {ks:KT2},Jo K hd O H zs ks->Reps K hd O H (zs.map λ(z:(Int×Int)×aq×V)=>V.ref z.2.1) (ks.map λ(q:(Int×Int)×af)=>blkT q.1):=λ{zs ks} r=>by refine Jo.ind (P:=λ(zs:ZT) (ks:KT2)=>Reps K hd O H (zs.map λ(z:(Int×Int)×aq×V)=>V.ref z.2.1) (ks.map λ(q:(Int×Int)×af)=>blkT q.1)) .nil (λh _ _ i=>?_) r;exact .cons h i
 exact e r
def zqe(d:DTE):DTA:=λo n R=>d o n λt l=>∃ks:KT2,t=.dict (Jr ks)/\R (ks.map λq=>blkT q.1) l
theorem zpm(hc:X.calm=be)(hm:X.mg "list" = bc) (h:DE X e d) (U:starEach [e] X.env=[(bj,eval e X.env)]:=by rfl) (hg:Gl X "list":=by rfl):DN X (.Call (.Name "list" p) [e] [] pos) (zqe d):=by obtain⟨ta,pa,h⟩:=h;refine⟨_,zqY (zlm hc) hm (by decide +kernel) (QC pa QV U) hg,λC ρ σ H n Q R S hd L=>?_⟩;refine h C ρ σ H n _ _ S hd λt Z v H1 y G I Y=>?_;obtain⟨ks,rfl,y⟩:=y;obtain⟨a,zs,ep,rfl,J,no,rk⟩:=Y.dtI;refine⟨a,zs,ep,rfl,J,λl u=>?_⟩;refine L _ Z l _ _ y (G.trans (ExtE.new u)) (I.same (JR u)) (ZM G I u) JJ (rk.keysR.mono (λb o x z=>z.elim id λz=>?_) λb o _ x=>JR u b o x);subst z;rw[u]at x;cases x
instance zvX {ρ:En}{n:Nat}{Rl:qD->Nat->Prop}:Stp (zqe d ρ n Rl) (d ρ n λt n1=>∃ks:KT2,t=.dict (Jr ks)/\Rl (ks.map λq=>blkT q.1) n1):=⟨λh=>h⟩
end
section
variable{bits:Int}{ps:BL}{qs:PR}{b v:Int×Int}
theorem PrOk.kids(h:PrOk bits ps qs)(m:(b,v)∈qs)(p:Prt ps b):∃x y,valP qs (loH b)=ao x/\valP qs (upH b)=ao y/\v=(if x.2+y.2+1<x.1+y.1 then x.2+y.2+1 else x.1+y.1,if x.1+y.1+1<x.2+y.2 then x.1+y.1+1 else x.2+y.2):=by
 have k:=h.rgt (b,v) m bj bj ⟨λz=>(nomatch z),λz=>absurd z p.1⟩ ⟨λz=>(nomatch z),λz=>absurd z p.2⟩;unfold bpD at k;dsimp only at k;cases e1:valP qs (loH b) with
 | none=>rw[e1]at k;cases k
 | some x =>
  cases e2:valP qs (upH b) with
  | none=>rw[e1,e2]at k;cases k
  | some y =>rw[e1,e2]at k;exact⟨x,y,rfl,rfl,(aP k).symm⟩
theorem PrOk.leaf(h:PrOk bits ps qs)(m:(b,v)∈qs)(p:¬Prt ps b):(HasN ps b/\v=(0,1))\/(¬HasN ps b/\HasA ps b/\v=(1,0)):=by
 classical
 have k:=h.rgt (b,v) m (decide (HasN ps b)) (decide (HasA ps b)) (by rw[decide_eq_true_eq]) (by rw[decide_eq_true_eq]);unfold bpD at k;by_cases hn:HasN ps b;rw[decide_eq_true hn]at k;exact .inl ⟨hn,(aP k).symm⟩;have o:HasA ps b:=bV λz=>p ⟨hn,z⟩;rw[decide_eq_false hn,decide_eq_true o]at k;exact .inr ⟨hn,o,(aP k).symm⟩
theorem PrOk.mem(h:PrOk bits ps qs):∃bs:BL,PInv bits ps bs bs.length/\qs.map (·.1)=bs.reverse:=by obtain⟨bs,I,J⟩:=h;exact⟨bs,I,by rw[J.keys,<- fB,dH]⟩
theorem PrOk.nokid(h:PrOk bits ps qs)(m:(b,v)∈qs)(p:¬Prt ps b)(u:1<=b.2):valP qs (loH b)=bc:=by
 obtain⟨bs,I,e⟩:=h.mem;have B:=h.bk _ m;cases k:valP qs (loH b) with
 | none=>rfl
 | some x =>
  have m2:loH b∈bs:=by have:=cG (f:=(·.1)) (Uv k);rw[e]at this;exact iB.mp this
  rcases I.par _ m2 with z|⟨j,c,y,hc,pc,z⟩;have:=congrArg yC z;have o:=B.2.1;dsimp only at this o;lia;have C:=I.bk _ (ax hc);have eq:=zj5 B C u (pc.pos C) (.inl rfl) z;rw[<- eq]at pc;exact absurd pc p
end
def sgn(a:Int)(x y:Int×Int):Int:=if a=0 then(if x.1+y.1<=x.2+y.2+1 then 0 else 1) else(if x.2+y.2<=x.1+y.1+1 then 1 else 0)
end L2
namespace L2
open PySem PySem.Spec
def Rse(xs:Array Nat):Prop:=∀i k,i<k->k<xs.size->xs.getD i 0<xs.getD k 0
theorem getD_in{xs:Array Nat}{i j k:Nat}(h:i<xs.size):xs.getD i j=xs.getD i k:=by simp[gQ,h]
theorem zgZ{xs:Array Nat}(r:Rse xs)(j:Nat):∀(l lo hi:Nat),hi - lo<=l->lo<=hi->hi<=xs.size->(∀i,i<lo->xs.getD i 0<j)->(∀i,hi<=i->i<xs.size->j<=xs.getD i 0) ->
  kK xs j l lo hi<=xs.size/\(∀i,i<kK xs j l lo hi->xs.getD i 0<j)/\∀i,kK xs j l lo hi<=i->i<xs.size->j<=xs.getD i 0
 | 0,lo,hi,h1,h2,h3,h4,h5=>by
  have e:lo=hi:=by lia
  subst e;exact⟨h3,h4,h5⟩
 | l+1,lo,hi,h1,h2,h3,h4,h5=>by
  unfold kK;by_cases z:lo<hi;rw[if_pos z];dsimp only;have C:(lo+hi) / 2<hi:=by lia
  have v:lo<=(lo+hi) / 2:=by lia
  have x:xs.getD ((lo+hi) / 2) j=xs.getD ((lo+hi) / 2) 0:=getD_in (by lia);rw[x];by_cases y:xs.getD ((lo+hi) / 2) 0<j;rw[if_pos y];refine zgZ r j l _ hi (by lia) (by lia) h3 (λi o=>?_) h5;rcases e8 (show i<=(lo+hi) / 2 by lia) with q|q;exact ku (r _ _ q (by lia)) y;rw[q];exact y;rw[if_neg y];refine zgZ r j l lo _ (by lia) v (by lia) h4 (λi o u=>?_);rcases e8 o with q|q;exact cx (uH.mp y) (ic (r _ _ q u));rw[<- q];exact uH.mp y;rw[if_neg z];have e:lo=hi:=by lia
  subst e;exact⟨h3,h4,h5⟩
theorem zkl{xs:Array Nat}(r:Rse xs)(j:Nat):bH xs j<=xs.size/\(∀i,i<bH xs j->xs.getD i 0<j)/\∀i,bH xs j<=i->i<xs.size->j<=xs.getD i 0 :=
 zgZ r j xs.size 0 xs.size (by lia) (by lia) (aB _) (λi h=>absurd h (by lia)) (λi h h'=>absurd h (by lia))
theorem zjy{l:List Nat}(h:l.Pairwise (·<·)):Rse l.toArray:=λi k u v=>by
 have o:k<l.length:=by simpa using v
 have:=aR.mp h i k (by lia) o u;simpa[gQ,o,show i<l.length by lia] using this
theorem zsU{xs:Array Nat}(h:Rse xs):xs.toList.Pairwise (·<·):=aR.mpr λi k hi o l=>by have:=h i k l (by simpa using o);simpa[gQ,show k<xs.size by simpa using o,show i<xs.size by simpa using hi] using this
theorem zkw{xs:Array Nat}(r:Rse xs){j:Nat}(h:xs[bH xs j]?≠ao j):Rse (r8 xs (bH xs j) j):=by
 obtain⟨L,I,C⟩:=zkl r j;have e:(r8 xs (bH xs j) j)=(xs.toList.take (bH xs j)++j::xs.toList.drop (bH xs j)).toArray:=by rw[<- SetTable.toList_insertAt,lA]
 rw[e];have p:=zsU r;refine zjy (cw.mpr ⟨p.sublist (mP ..),cC.mpr ⟨λy u=>?_,p.sublist (kB ..)⟩,λx hx y u=>?_⟩);obtain⟨k,l,rfl⟩:=a9 u;rw[kP,cQ]at l;have q:=C (bH xs j+k) (by lia) (by lia);rw[se,lB];have v:xs.getD (bH xs j+k) 0=xs[bH xs j+k]'(by lia):=by simp[gQ,show bH xs j+k<xs.size by lia]
 rw[v]at q;rcases e8 q with q|q;exact q;exfalso;cases k with
 | zero=>exact h (by rw[ba (by lia)];exact congrArg ao q.symm)
 | succ k =>have N:=C (bH xs j) (aB _) (by lia);have J:=r (bH xs j) (bH xs j+(k+1)) (by lia) (by lia);rw[v]at J;lia
 have G:x<j:=by obtain⟨k,l,rfl⟩:=a9 hx;rw[ef,cQ]at l;have q:=I k (by lia);rw[List.getElem_take,lB];simpa[gQ,show k<xs.size by lia] using q
 rcases aE.mp u with rfl|u;exact G;obtain⟨k,l,rfl⟩:=a9 u;rw[kP,cQ]at l;have q:=C (bH xs j+k) (by lia) (by lia);rw[se,lB];have v:xs.getD (bH xs j+k) 0=xs[bH xs j+k]'(by lia):=by simp[gQ,show bH xs j+k<xs.size by lia]
 rw[v]at q;lia
def Nin(t:eX)(j:Nat):Prop:=t.place[bH t.place j]?≠ao j
theorem zjt{t:eX}{j:Nat}(h:∀i,t.slot j≠.live i):Nin t j:=λz=>by refine h (bH t.place j) ?_;unfold SetTable.slot;simp[z]
theorem zeV{t:eX}{x:Nat->Int}{h:Int}:∀(l:Nat) (p:uI),(∀d,p.dummy=ao d->Nin t d)->∀j o,sf t x h l p=ao (.empty j o)->Nin t j/\∀d,o=ao d->Nin t d
 | 0,p,hp,j,o,e=>by cases e
 | l+1,p,hp,j,o,e=>by
  have v:∀q:uI,(t.advance q).dummy=q.dummy:=λq=>by unfold SetTable.advance;split <;> rfl
  unfold sf at e;split at e;rename_i es;cases e;exact⟨zjt (by rw[es];intro i z;cases z),hp⟩;rename_i es;refine zeV l _ (λd hd=>?_) j o e;rw[v]at hd;cases hd;exact zjt (by rw[es];intro i z;cases z);split at e;cases e;exact zeV l _ (λd hd=>hp d (by rw[v]at hd;exact hd)) j o e
theorem zpc{t:eX}{h:Int}{j:Nat}{b:Bool}(e:t.freeSlot h=ao (j,b)):Nin t j:=by
 unfold SetTable.freeSlot at e;split at e;rename_i x l ep;obtain⟨u,v⟩:=zeV _ _ (λd hd=>by cases hd) x l ep;have o:=congrArg mF (aP e);dsimp only at o;subst o;cases l with
 | none=>exact u
 | some d=>exact v d rfl
 cases e
theorem Wu(t:eX)(n:Nat):Rse (t.standIn n).place:=by show Rse (Array.range n);intro i k o u;rw[Array.size_range]at u;simp[gQ,u,show i<n by lia,o]
theorem ziH{t:eX}(r:Rse t.place)(n:Nat):Rse (t.orStandIn n).place:=by unfold rg;split;exact r;exact Wu t n
theorem ziI{t:eX}(n:Nat):(t.orStandIn n).led=t.led:=by unfold rg;split <;> rfl
theorem zh3{t:eX}(r:Rse t.place)(es:Array (Int×ah))(h:Int)(x:ah):Rse (layNew t es h x).2.1.place/\(layNew t es h x).2.1.led=t.led:=by unfold layNew;split;rename_i slot o e;refine⟨ziH ?_ _,ziI _⟩;exact zkw r (zpc e);exact⟨Wu _ _,rfl⟩
theorem ziE{t:eX}(r:Rse t.place)(es:Array (Int×ah))(n:Nat):Rse (relayAll t es n).2.1.place/\(relayAll t es n).2.1.led=t.led:=by
 unfold relayAll;split;rename_i t' order e;have k:Rse t'.place/\t'.led=t.led:=by unfold SetTable.relaid SetTable.laid at e;simp only[Option.bind_eq_bind,Option.bind_eq_some_iff]at e;obtain⟨owner,_,e⟩:=e;have v:=congrArg mF (aP e);dsimp only at v;rw[<- v];refine⟨zjy ?_,rfl⟩;rw[rh];refine nG (R:=(·<·)) _ (λa C u b x y o=>?_) (List.pairwise_lt_range);simp only[Option.map_map,dI,Function.comp]at x o;obtain⟨_,_,rfl⟩:=x;obtain⟨_,_,rfl⟩:=o;exact u
 dsimp only;split;exact k;exact⟨Wu _ _,rfl⟩;exact⟨Wu _ _,rfl⟩
end L2
namespace L2
open PySem PySem.Spec PyProof PyProof.Rows
def elI(i:Int)(e:Int×ah):Prop:=e.1=hashInt i/\∃t,e.2=.int i t
def SetO(w:bg)(o:Obj)(ns:List Int):Prop:=∃es ep t,o.ExactSet/\o.data=.set es ep t/\(∃ms,ms.Perm ns/\bT elI ms es.toList)/\ns.Nodup/\es.size<scanBound/\t.fits es.size=be/\Rse t.place/\(w.params.followText "set-order" = bj->t.led=be)
def SetI(w:bg)(h:bz)(a:aq)(ns:List Int):Prop:=∃o,h.get? a=ao o/\SetO w o ns
theorem zoN{α u:Type}{F:α->u->Prop}{l l2:List α}{m1 m2:List u}(h:bT F l m1)(k:bT F l2 m2):bT F (l++l2) (m1++m2):=by
 induction h with
 | nil=>exact k
 | cons r _ v=>exact .cons r v
theorem V9{α o:Type}{F:α->o->Prop}{l:List α}{m:List o}(h:bT F l m):l.length=m.length:=by
 induction h with
 | nil=>rfl
 | cons _ _ u=>simp[u]
theorem zmr{α o:Type}{F:α->o->Prop}{l:List α}{m:List o}(h:bT F l m):∀x∈l,∃y∈m,F x y:=by
 induction h with
 | nil=>intro x hx;cases hx
 | @cons a b as bs r _ ih =>intro x hx;rcases aE.mp hx with rfl|hx;exact⟨b,.head _,r⟩;obtain⟨y,u,q⟩:=ih x hx;exact⟨y,.tail _ u,q⟩
theorem zeY{α o:Type}{F:α->o->Prop}{l:List α}{m:List o}(h:bT F l m):∀y∈m,∃x∈l,F x y:=by
 induction h with
 | nil=>intro x hx;cases hx
 | @cons a b as bs r _ ih =>intro x hx;rcases aE.mp hx with rfl|hx;exact⟨a,.head _,r⟩;obtain⟨y,u,q⟩:=ih x hx;exact⟨y,.tail _ u,q⟩
theorem zeX{α I:Type}{F:α->I->Prop}{m G:List I}(p:m.Perm G):∀{l:List α},bT F l m->∃u,u.Perm l/\bT F u G:=by
 induction p with
 | nil=>intro l h;exact⟨l,.rfl,h⟩
 | cons x _ R =>
  intro l h;cases h with
  | cons r t =>obtain⟨u,J,q⟩:=R t;exact⟨_,J.cons _,.cons r q⟩
 | swap x y _ =>
  intro l h;cases h with
  | cons r t=>cases t with
   | cons N t2=>exact⟨_,.swap ..,.cons N (.cons r t2)⟩
 | trans _ _ v C =>intro l h;obtain⟨U,p1,L⟩:=v h;obtain⟨l2,p2,S⟩:=C L;exact⟨l2,p2.trans p1,S⟩
theorem Va{k:Int}{v:ah}:k6 k v=be↔∃t,v=.int k t:=⟨λh=>rq h,λ⟨t,e⟩=>by rw[e];simp[k6]⟩
section
variable{prog:aQ}{w:bg}{A:bh}{E:qV}{s:av}
theorem zuN{ms:List Int}{l:List (Int×ah)}(h:bT elI ms l):ElemsOf (intKind prog w) l:=λe he=>by obtain⟨k,_,u,t,o⟩:=zeY h e he;exact⟨⟨k,by show k6 k e.2=be;exact Va.mpr ⟨t,o⟩,u⟩,by rw[o];rfl⟩
theorem zjx{o:Obj}{es:Array (Int×ah)}{ep:Nat}{t:eX}{h:bz}{a:aq}(u:h.get? a=ao o)(hd:o.data=.set es ep t)(l:Array (Int×ah))(t':eX) :
  (h.update a (uJ l t')).get? a=ao { o with data:=.set l (ep+1) t' }:=by
 have:=bP (uJ l t') u (by rw[putSet_of l t' hd];rfl);rwa [putSet_of l t' hd]at this
theorem zom{g:Bool->Sem Unit}(Y:∀(b:Bool) (s1:av) (S:Unit->av->Prop),S () s1->wpAny (model prog w) A (g b) S E s1){a:aq}{o:Obj}{es l:Array (Int×ah)}{ep:Nat}{t t2:eX}{ms ns:List Int}{U:Bool}{R:Option Bool->av->Prop}
  (N:s.heap.get? a=ao o) (hex:o.ExactSet) (hd:o.data=.set es ep t) (pm:ms.Perm ns) (pr:bT elI ms l.toList) (nd:ns.Nodup) (v:l.size<scanBound) (hf:t2.fits l.size=be) (rs:Rse t2.place) (ld:w.params.followText "set-order" = bj->t2.led=be)
  (h:∀h',dE a s.heap h'->SetI w h' a ns->R (ao be) { s with heap:=h' }) :
  wpAny (model prog w) A (do
    storeSet a l t2
    if (!U&&t2.tooFull)=be then do
      g (relayAll t2 l (eR l.size)).2.2
      storeSet a (relayAll t2 l (eR l.size)).1 (relayAll t2 l (eR l.size)).2.1
      pure (ao be)
     else pure (ao be)) R E s:=by
 refine aa (sh N hd ?_ (kM v));have G:=zjx N hd l t2;have J:=eS s.heap a (uJ l t2);split;have p2:=relayAll_perm t2 l (eR l.size);have f2:=relayAll_fits t2 l (eR l.size);obtain⟨x,l2⟩:=ziE rs l (eR l.size);generalize relayAll t2 l (eR l.size)=L at p2 f2 x l2 ⊢;obtain⟨u,t3,Z⟩:=L;dsimp only at p2 f2 x l2 ⊢;have sz:u.size=l.size:=by have:=p2.length_eq;simpa using this
 obtain⟨C,I,y⟩:=zeX p2.symm pr;refine aa (Y _ _ _ (aa (sh G rfl ?_ (kM (by rw[sz];exact v)))));exact ae (h _ (J.trans (eS _ a _)) ⟨_,zjx G rfl u t3,u,_,t3,hex,rfl,⟨C,I.trans pm,y⟩,nd,by rw[sz];exact v,f2,x,λz=>by rw[l2];exact ld z⟩);exact ae (h _ J ⟨_,G,l,_,t2,hex,rfl,⟨ms,pm,pr⟩,nd,v,hf,rs,ld⟩)
def adI(ns:List Int)(i:Int):List Int:=if i∈ns then ns else ns++[i]
theorem zoq{a:aq}{ns:List Int}{i:Int}{tk:Tok}{Q:Bool->av->Prop}(S:SetI w s.heap a ns)(room:ns.length+1<scanBound)
  (h:∀b h',dE a s.heap h'->SetI w h' a (adI ns i)->Q b { s with heap:=h' }):wpAny (model prog w) A (setAddHashed a (.int i tk) ((intKind prog w).hash i)) Q E s:=by
 obtain⟨o,I,es,ep,t,hex,hd,⟨ms,pm,pr⟩,nd,hb,hf,rs,ld⟩:=S;have el:=zuN (prog:=prog) (w:=w) pr;have sz:es.size=ns.length:=by have:=V9 pr;rw[pm.length_eq]at this;simpa using this.symm
 have hk:(intKind prog w).is i (.int i tk)=be:=Va.mpr ⟨tk,rfl⟩;unfold setAddHashed setAddHashedIn;refine cq (aa (f7 I hd hf ?_));dsimp only;rw[byScan_of rfl hb el,if_pos rfl];unfold setAddByScan;refine aa (aa (cU (aa (wpAny_setScan_of hk I hd hf el ?_))));cases hr:List.findIdx? (λe=>(intKind prog w).is i e.2) es.toList with
 | some j =>
  obtain⟨hj,U,_⟩:=List.findIdx?_eq_some_iff_getElem.mp hr;have G:i∈ns:=by obtain⟨k,hk',_,t',Z⟩:=zeY pr _ (gD hj);obtain⟨t2,e3⟩:=Va.mp (show k6 i es.toList[j].2=be from U);rw[Z]at e3;cases e3;exact pm.mem_iff.mp hk'
  refine ae (ae ?_);have:=h bj s.heap (rK a s.heap) ⟨o,I,es,ep,t,hex,hd,⟨ms,by rw[adI,if_pos G];exact pm,pr⟩,by rw[adI,if_pos G];exact nd,hb,hf,rs,ld⟩;cases s;exact this
 | none =>
  have G:i∉ns:=λz=>by obtain⟨e,he,_,t',Z⟩:=zmr pr i (pm.mem_iff.mpr z);have:=List.findIdx?_eq_none_iff.mp hr e he;rw[show(intKind prog w).is i e.2=be from Va.mpr ⟨t',Z⟩]at this;cases this
  dsimp only;have p1:=layNew_perm t es ((intKind prog w).hash i) (.int i tk);have f1:=layNew_fits t es ((intKind prog w).hash i) (.int i tk);obtain⟨r1,Y⟩:=zh3 rs es ((intKind prog w).hash i) (.int i tk);generalize layNew t es ((intKind prog w).hash i) (.int i tk)=L at p1 f1 r1 Y ⊢;obtain⟨u,t1,wd,gv⟩:=L;dsimp only at p1 f1 r1 Y ⊢;rw[kC]at p1;obtain⟨ms1,J,pr1⟩:=zeX p1.symm (zoN pr (.cons (show elI i (hashInt i,.int i tk) from⟨rfl,tk,rfl⟩) .nil));have N:u.size=ns.length+1:=by have:=p1.length_eq;simpa[sz] using this
  have v:∀(b:Bool) (s1:av) (C:Unit->av->Prop),C () s1->wpAny (model prog w) A (match b with|true=>rule "set.scan.the-table-gave-way" | false=>pure ()) C E s1:=λb s1 C hq=>by cases b;exact ae hq;exact cU hq
  have fin:∀{R:Option Bool->av->Prop} {g:Bool->Sem Unit},(∀(b:Bool) (s1:av) (C:Unit->av->Prop),C () s1->wpAny (model prog w) A (g b) C E s1)->(∀h',dE a s.heap h'->SetI w h' a (adI ns i)->R (ao be) { s with heap:=h' })->wpAny (model prog w) A (do
    storeSet a u t1
    if (!wd&&t1.tooFull)=be then do
      g (relayAll t1 u (eR u.size)).2.2
      storeSet a (relayAll t1 u (eR u.size)).1 (relayAll t1 u (eR u.size)).2.1
      pure (ao be)
     else pure (ao be)) R E s:=λhg hR=>by
   refine zom hg I hex hd (ms:=ms1) (ns:=adI ns i) ?_ pr1 ?_ (by rw[N];exact room) f1 r1 (λz=>by rw[Y];exact ld z) hR;rw[adI,if_neg G];exact J.trans (pm.append_right _);rw[adI,if_neg G];exact hU.mpr ⟨nd,by simp,λx hx y hy=>by rw[aA]at hy;subst hy;exact λz=>G (z▸hx)⟩
  refine aa (v _ _ _ ?_);split;refine aa ?_;rw[hashByValue_scannable 8 (x:=.int i tk) rfl];refine ae ?_;exact fin v λh' sb hS=>ae (h be h' sb hS);refine aa (ae ?_);exact fin v λh' sb hS=>ae (h be h' sb hS)
theorem zeH{a:aq}{ns:List Int}(S:SetI w s.heap a ns):s.TypeIs (.ref a) "set":=by obtain⟨o,l,_,_,_,hex,_⟩:=S;exact⟨o,l,hex.1⟩
theorem zjb{a:aq}{ns:List Int}{i:Int}{tk:Tok}{Q:qV}(S:SetI w s.heap a ns)(room:ns.length+1<scanBound)
  (h:∀h' v,dE a s.heap h'->SetI w h' a (adI ns i)->Q .none { s with heap:=h',toks:=v }):wpAny (model prog w) A (call (.builtin "set.add") [.ref a,.int i tk]) Q E s:=by
 refine bS F.slot_set_add (zeH S) F.entry_set_add ?_ (F.args_set_add_2 _ _);unfold cX.«set.add» uK wb setAdd;simp only[bind_assoc,List.isEmpty_nil];refine aa (ae ?_);(try dsimp only);refine aa (ae ?_);(try dsimp only);refine aa (cq (aa ((intKind prog w).pyHash (Va.mpr ⟨tk,rfl⟩) ?_)));refine zoq (s:={ s with toks:=s.toks+1 }) S room λb h' C x=>?_;show wpAny _ _ (ret eJ) _ _ _;exact ae ⟨_,rfl,h h' _ C x⟩
theorem zra{Q:qV}(h:∀o,SetO w o []->Q (.ref s.heap.objs.size) { s with heap:=s.heap.push o }):wpAny (model prog w) A (newSet (.type "set")) Q E s:=by unfold newSet setsByText;refine aa (aa (fG (ae ?_)));simp only[newObj];exact aa (tw (ae (h _ ⟨#[],0,_,⟨rfl,rfl,rfl⟩,rfl,⟨[],.rfl,.nil⟩,.nil,by decide,by rfl,λi k _ u=>absurd u (by simp[SetTable.fresh]),λz=>by show(!w.params.followText "set-order")=be;rw[z];rfl⟩)))
end
theorem Wx:AJ "set_iterator" "__next__" "set_iterator.__next__":=.of (owner:="set_iterator") (n:="__next__") (by rw[gV,eW];kernel_rfl) (by decide +kernel) (by decide +kernel) (by decide +kernel) (by first|exact .inl (by decide +kernel)|exact .inr (by decide +kernel)) (by rw[o9];kernel_rfl)
theorem zc_:AJ "set_iterator" "__iter__" "set_iterator.__iter__":=.of (owner:="set_iterator") (n:="__iter__") (by rw[gV,eW];kernel_rfl) (by decide +kernel) (by decide +kernel) (by decide +kernel) (by first|exact .inl (by decide +kernel)|exact .inr (by decide +kernel)) (by rw[o9];kernel_rfl)
theorem zfB:entryFor table "set_iterator.__next__" = ao cX.«set_iterator.__next__»:=sV (by kernel_rfl)
theorem zfD:entryFor table "set.__iter__" = ao cX.«frozenset.__iter__»:=o6 (id':="frozenset.__iter__") (by kernel_rfl) rfl (by decide +kernel) (by kernel_rfl)
theorem zfC:entryFor table "set_iterator.__iter__" = ao cX.«dict_keyiterator.__iter__»:=o6 (id':="dict_keyiterator.__iter__") (by kernel_rfl) rfl (by decide +kernel) (by kernel_rfl)
theorem zhK:Manifest.owners.lookup (String.ofList ['r','o','t','a','r','e','t','i','_','t','e','s'].reverse)=ao Manifest.sig_set_iterator:=by kernel_rfl
theorem zg0(a:ah):argsOk "set_iterator.__next__" ⟨[a],[]⟩:=by unfold argsOk;rw[signature?_of (id:="set_iterator.__next__") (n:=['_','_','t','x','e','n','_','_']) (o:=['r','o','t','a','r','e','t','i','_','t','e','s']) (by kernel_rfl) zhK];kernel_rfl
theorem zg1(a:ah):argsOk "set_iterator.__iter__" ⟨[a],[]⟩:=by unfold argsOk;rw[signature?_of (id:="set_iterator.__iter__") (n:=['_','_','r','e','t','i','_','_']) (o:=['r','o','t','a','r','e','t','i','_','t','e','s']) (by kernel_rfl) zhK];kernel_rfl
theorem zh9{α:Type}{l:List α}{i:Nat}(h:i<l.length):(l[i]::l.eraseIdx i).Perm l:=by
 rw[List.eraseIdx_eq_take_drop_succ];have e:l=l.take i++l[i]::l.drop (i+1):=by rw[<- bG h,fQ]
 refine nA.symm.trans ?_;rw[<- e]
theorem zmk{α:Type}{nx:Nat->Nat}:∀(u k:Nat) (l:List α) (out:Array α),l.length=u->(si nx u k l out).toList.Perm (out.toList++l)
 | 0,k,l,out,h=>by have:l=[]:=eF.mp h;subst this;simp[si]
 | u+1,k,l,out,h=>by
  have x:0<l.length:=by lia
  have v:nx k % l.length<l.length:=Bf _ x;unfold si;rw[au v];dsimp only;refine(zmk u (k+1) _ _ (by rw[mG v];lia)).trans ?_;rw[kC,bu];exact fR _ (zh9 v)
theorem zeW{α:Type}{nx:Nat->Nat}(xs:Array α):(pickOrder nx xs).toList.Perm xs.toList:=by have:=zmk (nx:=nx) xs.size 0 xs.toList #[] (by simp);simpa[pickOrder] using this
section
variable{prog:aQ}{w:bg}{A:bh}{E:qV}{s:av}
theorem zlp{src:Source}{n:Nat}{Q:Nat->av->Prop}(l:n≠0)(h:∀i d,i<n->Q i { s with drawn:=d }):wpAny (model prog w) A (choose src n) Q E s:=λu p o=>by unfold choose;rw[Sem.wp_choose];exact⟨l,h _ _ (Bf _ (Nat.pos_of_ne_zero l))⟩
theorem zge{α:Type}:∀(n:Nat) (xs:List α) (s:av) (Q:List α->av->Prop),xs.length=n->(∀ys d,ys.Perm xs->Q ys { s with drawn:=d })->wpAny (model prog w) A (drawOrder n xs) Q E s
 | 0,xs,s,Q,h,q=>by have:xs=[]:=eF.mp h;subst this;unfold drawOrder;exact ae (q [] s.drawn .nil)
 | n+1,[],s,Q,h,q=>by simp at h
 | n+1,x::xs,s,Q,h,q=>by unfold drawOrder;refine aa (zlp (by simp) λi d hi=>?_);rw[au hi];dsimp only;refine aa (zge n _ _ _ (by rw[mG hi];lia) λys o p=>ae ?_);exact q _ o ((p.cons _).trans (zh9 hi))
def SIt(h:bz)(it:aq)(first:ah)(i:Nat)(a:aq)(n ep:Nat):Prop:=∃o,h.get? it=ao o/\o.cls=.type "set_iterator" /\ o.data=.fields #[first,.int i 0,.ref a,.int n 0,.int ep 0]
def SAt(h:bz)(a:aq)(es:Array (Int×ah))(ep:Nat)(t:eX):Prop:=∃o,h.get? a=ao o/\o.data=.set es ep t/\t.fits es.size=true
theorem YU{it a:aq}{f:ah}{i n ep:Nat}(x:SIt s.heap it f i a n ep):s.TypeIs (.ref it) "set_iterator":=let ⟨o,h,c,_⟩:=x;⟨o,h,c⟩
inductive Orr (w:bg)(h:bz)(a:aq)(es:Array (Int×ah))(ep:Nat)(t:eX):(Nat->ah)->List ah->List aq->Prop
 | txt (hb:w.params.followText "set-order" = be):Orr w h a es ep t (λ_=>.int 0 0) ((pickOrder (w.params.setOrder a ep) es).toList.map (·.2)) []
 | pla (hb:w.params.followText "set-order" = bj) (hd:(!t.plain&&decide (es.size > 1))=bj) (hl:t.led=be) (r:Rse t.place):Orr w h a es ep t (λi=>.int (if i=0 then 0 else(t.place.getD (i - 1) 0+1:Nat)) 0) (es.toList.map (·.2)) []
 | drw {p:aq} {ps:List Nat} {o:Obj} {n:Nat} (ho:h.get? p=ao o) (hd:o.data=.seq (ps.map λ(i:Nat)=>pf (i:Int) 0).toArray n) (pm:ps.Perm (eY es.size)):Orr w h a es ep t (λ_=>.ref p) (ps.map λ(i:Nat)=>(es.getD i (0,.none)).2) [p]
theorem Orr.len{h:bz}{a:aq}{es:Array (Int×ah)}{ep:Nat}{t:eX}{f:Nat->ah}{vs:List ah}{qs:List aq}(x:Orr w h a es ep t f vs qs):vs.length=es.size:=by
 cases x with
 | txt o=>rw[aN,(zeW es).length_eq];simp
 | pla=>simp
 | drw _ _ pm=>rw[aN,pm.length_eq];simp
theorem Orr.perm{h:bz}{a:aq}{es:Array (Int×ah)}{ep:Nat}{t:eX}{f:Nat->ah}{vs:List ah}{qs:List aq}(x:Orr w h a es ep t f vs qs):vs.Perm (es.toList.map (·.2)):=by
 cases x with
 | txt y=>exact(zeW es).map _
 | pla=>exact .rfl
 | drw _ _ pm =>
  refine(pm.map _).trans ?_;have e:(eY es.size).map (λi=>(es.getD i (0,.none)).2)=es.toList.map (·.2):=by
   refine List.ext_getElem (by simp) λi u v=>?_;have hi:i<es.size:=by simpa using u
   simp[gQ,hi]
  rw[e]
theorem Orr.keep{h h':bz}{a:aq}{es:Array (Int×ah)}{ep:Nat}{t:eX}{f:Nat->ah}{vs:List ah}{qs:List aq}(x:Orr w h a es ep t f vs qs)(k:∀b∈qs,∀o,h.get? b=ao o->h'.get? b=ao o):Orr w h' a es ep t f vs qs:=by
 cases x with
 | txt u=>exact .txt u
 | pla u hd v r=>exact .pla u hd v r
 | drw y hd pm=>exact .drw (k _ (by simp) _ y) hd pm
theorem zlo{xs:Array Nat}(r:Rse xs){i:Nat}(hi:i<=xs.size):bH xs (if i=0 then 0 else xs.getD (i - 1) 0+1)=i:=by obtain⟨u,l,o⟩:=zkl r (if i=0 then 0 else xs.getD (i - 1) 0+1);generalize bH xs (if i=0 then 0 else xs.getD (i - 1) 0+1)=b at u l o;by_cases z:i=0;subst z;rcases p8 b with q|q;exact q;have:=l 0 q;simp at this;rw[if_neg z]at l o;rcases cZ b i with q|q|q;exfalso;have:=o (i - 1) (by lia) (by lia);lia;exact q;exfalso;have v:=l i q;have x:=r (i - 1) i (by lia) (by lia);lia
theorem zju{it a:aq}{es:Array (Int×ah)}{i ep:Nat}{t:eX}{f:Nat->ah}{vs:List ah}{qs:List aq}{Q:Option ah->av->Prop}(hh:A.handled=bc\/i<es.size)(x:SIt s.heap it (f i) i a es.size ep)(y:SAt s.heap a es ep t)(z:Orr w s.heap a es ep t f vs qs)(hi:i<=es.size)
  (G:∀v h',vs[i]?=ao v->SIt h' it (f (i+1)) (i+1) a es.size ep->(∀b o,b≠it->s.heap.get? b=ao o->h'.get? b=ao o)->Q (ao v) { s with heap:=h' })
  (h0:∀h',i=es.size->(∀b o,b≠it->s.heap.get? b=ao o->h'.get? b=ao o)->Q bc { s with heap:=h' }):wpAny (model prog w) A (pyNext (.ref it)) Q E s:=by
 obtain⟨o,S,hc,hd⟩:=id x;obtain⟨oa,J,R,hf⟩:=id y;unfold pyNext;refine aa (gm (b7 (name:=aH "__next__") (YU x) Wx (bS Wx (YU x) zfB ?_ (zg0 _))));unfold cX.«set_iterator.__next__»;refine aa (ae ?_);refine aa (o5 S hd ?_);dsimp only;refine aa (pN J R hf ?_);rw[if_neg (by simp)];have up:∀{g g':Obj->Obj} {b:aq} {o},b≠it->s.heap.get? b=ao o->((s.heap.update it g).update it g').get? b=ao o:=λC e=>by rw[bq _ _ (eK C),bq _ _ (eK C)];exact e
 have fld:∀{nx:Nat} {v:ah} {P:Fin->av->Prop} {E':qV},f (i+1)=.int (nx:Int) 0->(∀h',SIt h' it (f (i+1)) (i+1) a es.size ep->(∀b o,b≠it->s.heap.get? b=ao o->h'.get? b=ao o)->P (.done (.ret v)) { s with heap:=h' })->wpAny (model prog w) A.in1 (do setField (.ref it) 0 (rawInt nx);setField (.ref it) 1 (rawInt ((i:Int)+1));ret v) P E' s:=λ{nx v P E'} e1 hP=>by refine aa (dU S hd (by simp) ?_);have G:=bP (gX (·.setIfInBounds 0 (rawInt (nx:Int)))) S (dO (bZ hd _));have U:=bZ hd (·.setIfInBounds 0 (rawInt (nx:Int)));refine aa (dU G U (by simp) ?_);have h2:=bP (gX (·.setIfInBounds 1 (rawInt ((i:Int)+1)))) G (dO (bZ U _));refine ae (hP _ ⟨_,h2,?_,?_⟩ λb ob C e=>up C e);rw[fZ,fZ];exact hc;rw[bZ U,e1];simp[rawInt]
 have fin:∀{s':av} {P:Fin->av->Prop},i=es.size->(∀b o,b≠it->s.heap.get? b=ao o->s'.heap.get? b=ao o)->s'={ s with heap:=s'.heap }->wpAny (model prog w) A.in1 (do let __do_lift <- newExc (bo "StopIteration") [];raiseNew __do_lift) P (λe s'=>wpAny (model prog w) A (do let __do_lift <- isInstance e (bo "StopIteration");if __do_lift=be then pure bc else throw e) Q E s') s':=λ{s' P} ei hk es'=>by refine aa ?_;simp only[newExc,newTuple];refine aa (bM ?_ (by size_fits));refine aa (m:=firstArgMember _ _) (i9 (a:=eJ) (by first|rfl|(simp only[firstArgMember];rfl)) ?_);refine bM ?_ (by size_fits);simp only[raiseNew];refine aa (m4 ?_);rw[show A.in1.handled=bc from hh.resolve_right (by lia)];refine aa (ae (oX ?_));refine aa (gE (T:="StopIteration") (b:=be) ⟨_,aD _ rfl,rfl⟩ mw (ae ?_));rw[es'];exact h0 _ ei λb o C e=>aj _ (aj _ (hk b o C e))
 have Z:∀{P:Fin->av->Prop},i=es.size->wpAny (model prog w) A.in1 (do setField (.ref it) 2 eJ;let __do_lift <- newExc (bo "StopIteration") [];raiseNew __do_lift) P (λe s'=>wpAny (model prog w) A (do let __do_lift <- isInstance e (bo "StopIteration");if __do_lift=be then pure bc else throw e) Q E s') s:=λ{P} ei=>by refine aa (dU S hd (by simp) ?_);exact fin ei (λb o C e=>by rw[bq _ _ (eK C)];exact e) rfl
 cases z with
 | txt C =>
  dsimp only;refine aa ?_;unfold setNext setsByText;refine aa (f7 J R hf (aa (aa (fG (ae ?_)))));dsimp only;rw[show(model prog w).w.params.followText "set-order" = be from C,if_pos rfl];rw[if_neg (by simp)];unfold setWalk setsByText;refine aa (aa (f7 J R hf (aa (aa (fG (ae ?_))))));dsimp only;rw[show(model prog w).w.params.followText "set-order" = be from C,if_pos rfl];refine aa (fG (ae (ae ?_)));show wpAny _ _ (match (pickOrder (w.params.setOrder a ep) es)[((i:Nat):Int).toNat]?.map (λe=>(e.2,Int.toNat 0)) with|some (v,at_)=>_|none=>_) _ _ _;rw[bX,<- bK];rw[aX]at G;cases he:(pickOrder (w.params.setOrder a ep) es).toList[i]? with
  | none =>rw[mL,(zeW es).length_eq]at he;exact Z (by simp at he;lia)
  | some e =>rw[he]at G;exact fld rfl λh' x' k=>⟨_,rfl,ae (G _ h' rfl x' k)⟩
 | pla C hdr hl r =>
  dsimp only;refine aa ?_;unfold setNext setsByText;refine aa (f7 J R hf (aa (aa (fG (ae ?_)))));dsimp only;rw[show(model prog w).w.params.followText "set-order" = bj from C,if_neg (by decide)];refine iX (λz=>absurd (show(!t.plain&&decide (es.size > 1))=be from z) (by rw[hdr];decide)) (λ_=>?_);refine aa ?_;show wpAny _ _ (if (!t.led&&!es.isEmpty)=be then unsupported "set:maker-not-led" else pure ()) _ _ _;rw[hl,if_neg (by simp)];refine ae (ae ?_);have sp:t.place.size=es.size:=by simp only[SetTable.fits,cA,beq_iff_eq]at hf;exact hf.1
  have e0:(if i=0 then(0:Int) else((t.place.getD (i - 1) 0+1:Nat):Int)).toNat=if i=0 then 0 else t.place.getD (i - 1) 0+1:=by split <;> rfl
  rw[e0,zlo r (by lia)];rw[aX,bK]at G;cases he:es[i]? with
  | none =>rw[Array.getElem?_eq_none_iff]at he;exact Z (by lia)
  | some e =>have hl:=(mD.mp he).1;rw[he]at G;rw[ba (by lia)];dsimp only;refine fld ?_ λh' x' k=>⟨_,rfl,ae (G _ h' rfl x' k)⟩;show pf (if i+1=0 then 0 else(t.place.getD (i+1 - 1) 0+1:Nat)) 0=_;rw[if_neg (by lia),my];simp[gQ,show i<t.place.size by lia]
 | @drw p ps op np hop hdp pm =>
  dsimp only;unfold seqItems?;refine aa (aa (nJ hop ?_));rw[hdp];refine ae ?_;dsimp only;rw[aX]at G;rw[List.getElem?_toArray,bX,aX];cases hq:ps[i]? with
  | none =>rw[mL,pm.length_eq,f6]at hq;refine aa (dU S hd (by simp) ?_);have G:=bP (gX (·.setIfInBounds 0 (rawInt (0:Int)))) S (dO (bZ hd _));have U:=bZ hd (·.setIfInBounds 0 (rawInt (0:Int)));refine aa (dU G U (by simp) ?_);exact fin (by lia) (λb o C e=>up C e) rfl
  | some q =>
   rw[hq]at G;dsimp only[fX];have Y:q<es.size:=by have:=pm.mem_iff.mp (ax hq);simpa using this
   unfold setNextDrawn;refine aa (aa (f7 J R hf ?_));dsimp only;rw[if_neg (by simp),bX,ba Y];refine ae ?_;refine aa (dU S hd (by simp) ?_);have h2:=bP (gX (·.setIfInBounds 1 (rawInt ((i:Int)+1)))) S (dO (bZ hd _));have ev:(es.getD q (0,.none)).2=es[q].2:=by simp[gQ,Y]
   refine ae ⟨_,rfl,ae (G _ _ (congrArg ao ev) ⟨_,h2,?_,?_⟩ λb ob C e=>?_)⟩;rw[fZ];exact hc;rw[bZ hd];simp[rawInt];rw[bq _ _ (eK C)];exact e
end
section
variable{prog:aQ}{w:bg}{A:bh}{E:qV}{s:av}
theorem zop{r:aq}{Q:Bool->av->Prop}(l:s.TypeIs (.ref r) "set") (h:Q bj s):wpAny (model prog w) A (lQ (.ref r)) Q E s:=by
 unfold lQ;refine aa (tR l PySem.F.slot_set_len.lookup ?_);generalize hid:("set.__len__":String)=id0
 wp_delta;rw[show splitId id0=ao ("set","__len__") from by subst hid;decide +kernel]
 subst hid;refine aa (gE (T:="set") (b:=be) l (by rw[o9];kernel_rfl) (iX (λz=>absurd z (by decide)) (λ_=>iX (λ_=>?_) (λz=>absurd (by decide +kernel) z))));exact aa (eM l (ae h))
theorem zlC(S:A.handled=bc){it a:aq}{es:Array (Int×ah)}{ep:Nat}{t:eX}{f:Nat->ah}{vs:List ah}{qs:List aq}(na:it≠a)(U:it∉qs)(R:vs.length=es.size) :
  Walks prog w A it (it::a::qs) [it] es.size (λi v=>vs[i]?=ao v) (λi h=>SIt h it (f i) i a es.size ep/\SAt h a es ep t/\Orr w h a es ep t f vs qs) where
 sub:=by simp
 frame:=λi h h' x k=>by obtain⟨⟨o,e,r⟩,⟨C,L,J⟩,z⟩:=x;exact⟨⟨o,k it (by simp) o e,r⟩,⟨C,k a (by simp) C L,J⟩,z.keep λb u o e=>k b (by simp[u]) o e⟩
 item:=λi s Q E hi h G=>by obtain⟨x,y,z⟩:=h;refine zju (.inr hi) x y z (ic hi) (λv h' I N k=>G v h' s.toks I ⟨N,?_,z.keep λb u o e=>k b o (λq=>U (q▸u)) e⟩ λb o u e=>k b o (by simpa using u) e) λ_ e=>absurd e (aT hi);obtain⟨C,L,J⟩:=y;exact⟨C,k a C (eK na) L,J⟩
 done:=λs Q E h G=>by obtain⟨x,y,z⟩:=h;exact zju (.inl S) x y z (aB _) (λv h' I=>absurd (aw.mp I).1 (by rw[R];exact fE _)) λh' _ k=>G h' s.toks λb o u e=>k b o (by simpa using u) e
 self:=λi s Q E x h=>by obtain⟨x,_⟩:=x;refine kJ (YU x) zc_ (bS zc_ (YU x) zfC ?_ (zg1 _));exact aa (ae (ae ⟨_,rfl,_,_,YU x,Wx.lookup,h⟩))
theorem zon{a:aq}{ns:List Int}{Q:qV}(S:SetI w s.heap a ns)
  (h:∀it h' d es ep t f vs qs,(∃ms,ms.Perm ns/\bT elI ms es.toList)->(∀b o,s.heap.get? b=ao o->h'.get? b=ao o)->s.heap.objs.size<=it->(∀q∈qs,s.heap.objs.size<=q/\q≠it)->SIt h' it (f 0) 0 a es.size ep->SAt h' a es ep t->Orr w h' a es ep t f vs qs->Q (.ref it) { s with heap:=h',drawn:=d }):wpAny (model prog w) A (pyIter (.ref a)) Q E s:=by
 have ty:=zeH S;obtain⟨o,C,es,ep,t,hex,hd,pp,nd,J,hf,rs,ld⟩:=S;refine kJ ty tU (bS tU ty zfD ?_ (F.args_set_iter_1 _));unfold cX.«frozenset.__iter__»;refine aa (ae ?_);unfold wg;refine aa (aa (pN C hd hf (ae ?_)));unfold setDrawn setsByText;refine aa (aa (f7 C hd hf (aa (aa (fG (ae (ae ?_)))))));have fin:∀(s1:av) (f:Nat->ah) (vs:List ah) (qs:List aq) (P:Fin->av->Prop),(∀b o,s.heap.get? b=ao o->s1.heap.get? b=ao o)->s.heap.objs.size<=s1.heap.objs.size->(∀q∈qs,s.heap.objs.size<=q/\q<s1.heap.objs.size)->Orr w s1.heap a es ep t f vs qs ->
   (∀h',SIt h' s1.heap.objs.size (f 0) 0 a es.size ep->(∀b o,s1.heap.get? b=ao o->h'.get? b=ao o)->P (.done (.ret (.ref s1.heap.objs.size))) { s1 with heap:=h' })->wpAny (model prog w) A.in1 (do let e <- setEpoch a;let r <- newFields "set_iterator" [f 0,rawInt 0,bR a,rawInt ↑es.size,rawInt ↑e];ret r) P E s1:=λs1 f vs qs P k sz u z L=>by
  refine aa (wpAny_setEpoch_of (k a o C) hd hf ?_);refine aa (bM (ae (L _ ⟨_,aD _ rfl,rfl,?_⟩ λb o e=>aj _ e)) (by size_fits));simp[rawInt]
 have tail:∀{s1:av} {d} {f:Nat->ah} {vs:List ah} {qs:List aq},s1={ s with heap:=s1.heap,drawn:=d }->(∀b o,s.heap.get? b=ao o->s1.heap.get? b=ao o)->s.heap.objs.size<=s1.heap.objs.size->(∀q∈qs,s.heap.objs.size<=q/\q<s1.heap.objs.size)->Orr w s1.heap a es ep t f vs qs ->
   wpAny (model prog w) A.in1 (do let e <- setEpoch a;let r <- newFields "set_iterator" [f 0,rawInt 0,bR a,rawInt ↑es.size,rawInt ↑e];ret r) (λfin s'=>∃v,fin=yD (yE v)/\∃T' r,s'.TypeIs v T'/\typeLookup (bo T') (aH "__next__")=pure (ao r)/\Q v s') E s1:=λ{s1 d f vs qs} e1 k sz u z=>by
  refine fin s1 f vs qs _ k sz u z λh' I G=>⟨_,rfl,_,_,?_,Wx.lookup,?_⟩;exact YU (s:={ s1 with heap:=h' }) I;rw[e1];exact h _ h' d es ep t f vs qs pp (λb o e=>G b o (k b o e)) sz (λq y=>⟨(u q y).1,aT (u q y).2⟩) I ⟨o,G a o (k a o C),hd,hf⟩ (z.keep λb J o e=>G b o e)
 cases hb2:w.params.followText "set-order" with
 | true =>rw[show(!(rl (model prog w).prog (model prog w).w.params).params.followText "set-order")=bj by rw[show(rl (model prog w).prog (model prog w).w.params).params.followText "set-order" = be from hb2];rfl,lT,if_neg (by decide)];refine aa (ae ?_);exact tail (s1:=s) (d:=s.drawn) (f:=λ_=>.int 0 0) rfl (λ_ _ e=>e) (aB _) (λq u=>absurd u (by simp)) (.txt hb2) (qs:=[])
 | false =>rw[show(!(rl (model prog w).prog (model prog w).w.params).params.followText "set-order")=be by rw[show(rl (model prog w).prog (model prog w).w.params).params.followText "set-order" = bj from hb2];rfl,kY];refine iX (λz=>?_) (λz=>?_);refine aa (zge _ _ _ _ (f6 ..) λys d pm=>?_);refine aa (bM ?_ (by show _<=sizeLine;simp[pm.length_eq];exact kM J));refine tail (d:=d) (f:=λ_=>.ref s.heap.objs.size) (qs:=[s.heap.objs.size]) rfl (λb o e=>aj _ e) (by show _<=(s.heap.push _).objs.size;rw[dw];exact oU _) (λq u=>?_) (.drw (ps:=ys) (aD _ rfl) rfl pm);rw[aA]at u;subst u;exact⟨aB _,by show _<(s.heap.push _).objs.size;rw[dw];exact ig _⟩;refine aa (ae ?_);exact tail (s1:=s) (d:=s.drawn) (f:=λi=>.int (if i=0 then 0 else(t.place.getD (i - 1) 0+1:Nat)) 0) rfl (λ_ _ e=>e) (aB _) (λq u=>absurd u (by simp)) (qs:=[]) (.pla hb2 (by simpa using(show ¬(!t.plain&&decide (es.size > 1))=be from z)) (ld hb2) rs)
theorem zoo(hA:A.handled=bc){a S:aq}{ns:List Int}{R:sI->av->Prop}(N:SetI w s.heap a ns)(na:S≠a)(hS:s.heap.get? S=ao ⟨.type "list",bc,.seq #[] 0,#[]⟩)
  (h:∀h' tk d acc c,(∀b o,b≠S->s.heap.get? b=ao o->h'.get? b=ao o)->h'.get? S=ao ⟨.type "list",bc,.seq acc c,#[]⟩->(∃ms,ms.Perm ns/\bT (λ(i:Int) (v:ah)=>∃t,v=.int i t) ms acc.toList)->R (.ok (.ret (.ref S))) { s with heap:=h',toks:=tk,drawn:=d }) :
  codeAny (model prog w) A (.builtin "list.__iadd__" ⟨[.ref S,.ref a],[]⟩) R s:=by
 have lS:S<s.heap.objs.size:=aG hS;have ty:=zeH N;refine dX sO ?_;show wpAny (model prog w) _ (df (.ref S) (.ref a) (.ref S)) _ _ s;rw[h8 PySem.F.plain_list_iadd _];unfold df;refine aa (eM (T:="set") ty ?_);have c1:iP (.ref S) (.ref a)=bj:=by simp[iP,na]
 have c2:(bo "set" == bo "list" ||bo "set" == bo "tuple")=bj:=by decide
 rw[c1,v3,c2,if_neg (by decide)];refine aa (zon N λit h1 d es ep t f vs qs pp k1 lit J x y z=>?_);obtain⟨oa,ea,_⟩:=id N;have la:=aG ea;have nSI:S≠it:=aT (aV lS lit);have nf:S∉it::a::qs:=by simp only[aE,not_or];exact⟨nSI,na,λhq=>absurd (J S hq).1 (Nat.not_le.mpr lS)⟩
 have W:=zlC (prog:=prog) (w:=w) (A:=A.in1) hA (it:=it) (a:=a) (es:=es) (ep:=ep) (t:=t) (f:=f) (vs:=vs) (qs:=qs) (eK (aT (aV la lit))) (λhq=>(J it hq).2 rfl) z.len;have sz:es.size<=sizeLine:=by obtain⟨o',e',es',_,_,_,hd',⟨ms',Y,pr'⟩,_,hb',_⟩:=N;obtain⟨ms,pm,pr⟩:=pp;have l1:=V9 pr;have l2:=V9 pr';rw[pm.length_eq]at l1;rw[Y.length_eq]at l2;exact kM (by simp at l1 l2;omega)
 have key:∀(G:bz) (c tk:Nat),(∀b o,b≠S->h1.get? b=ao o->G.get? b=ao o)->G.get? S=ao ⟨.type "list",bc,.seq #[] c,#[]⟩->codeAny (model prog w) A (.builtin "list.extend.loop" ⟨[.ref S,.ref it,.ref S],[]⟩) R { s with heap:=G,toks:=tk,drawn:=d }:=λG c tk k2 hS2=>by
  have st:=W.frame 0 h1 G ⟨x,y,z⟩ λb C o e=>k2 b o (λq=>nf (q▸C)) e;refine codeAny_extend_loopS W.toS sz S nf (.ref S) es.size 0 _ #[] c rfl (eD _) st hS2 (ItemsOf.nil _) λs' acc c' hm hS' L=>?_;rw[Moved.eq_with hm];refine h _ _ _ acc c' (λb o C e=>hm.heap b o (λI=>?_) (k2 b o C (k1 b o e))) hS' ?_;rcases aE.mp I with q|q;exact C q;rw[aA]at q;rw[q]at e;exact absurd (aG e) (uH.mpr lit);obtain⟨ha,C⟩:=L;have ev:acc.toList=vs:=by refine mT λi=>?_;rcases cj i acc.size with q|q;rw[bK,ba q];exact(C i _ (ba q)).symm;rw[cc (by simpa using q),cc (by rw[z.len];omega)]
  rw[ev];obtain⟨ms,pm,pr⟩:=pp;have Z:bT (λ(i:Int) (v:ah)=>∃t,v=.int i t) ms (es.toList.map (·.2)):=by
   clear pm;generalize es.toList=el at pr;induction pr with
   | nil=>exact .nil
   | cons r _ ih=>exact .cons r.2 ih
  obtain⟨ms2,p2,q2⟩:=zeX z.perm.symm Z;exact⟨ms2,p2.trans pm,q2⟩
 have U:=k1 S _ hS;refine aa (cq (zop (let ⟨o,e,c⟩:=ty;⟨o,k1 a o e,c⟩) ?_));refine iX (λ_=>aa (cU (aa ?_))) (λ_=>ae ⟨iR mM _,key h1 0 _ (λb o _ e=>e) U⟩);show wpAny _ _ (updateSeq S (·.push .none) >>= λ_=>updateSeq S (·.pop)) _ _ _;refine aa (gW U rfl ?_);have S2:=bP (gj (·.push eJ)) U rfl;refine gW (hz:=by seq_fits) S2 rfl ?_;have S3:=bP (gj (·.pop)) S2 rfl;refine ae ⟨iR mM _,key _ _ _ (λb o nb e=>?_) S3⟩;rw[bq _ _ (eK nb),bq _ _ (eK nb)];exact e
theorem ziC(G:A.handled=bc){a:aq}{ns:List Int}{Q:List ah->av->Prop}(J:SetI w s.heap a ns)
  (h:∀h' tk d vs,(∀b o,s.heap.get? b=ao o->h'.get? b=ao o)->s.heap.objs.size<=h'.objs.size->(∃ms,ms.Perm ns/\bT (λ(i:Int) (v:ah)=>∃t,v=.int i t) ms vs)->Q vs { s with heap:=h',toks:=tk,drawn:=d }):wpAny (model prog w) A (collect (.ref a)) Q E s:=by
 unfold collect;refine aa (uq (dX oV ?_));show wpAny (model prog w) _ (newList [] >>= λx=>again (.builtin "list.__iadd__" ⟨[x,.ref a],[]⟩)) _ _ s;obtain⟨N,C,L⟩:=id J;have I:=aG C;refine aa (m3 (ae ⟨gN _ (by decide +kernel),?_⟩));refine zoo G (ns:=ns) ⟨N,aj _ C,L⟩ (kc I) (aD _ rfl) λh' tk d acc c kp y pp=>?_;refine aa (m:=load s.heap.objs.size) (nJ y ?_);exact ae (h h' tk d _ (λb o e=>kp b o (aT (aG e)) (aj _ e)) (ic (aG y)) pp)
end
end L2
namespace L2
open PySem PySem.Spec PyProof.Rows
theorem zlU{w:bg}{o:Obj}{ns:List Int}(h:SetO w o ns):o.isFreed=bj:=by obtain⟨es,ep,t,hex,hd,_⟩:=h;cases o;cases hd;rfl
def SDO(w:bg)(a:aq)(ns:List Int):HO:=.ext λh=>SetI w h a ns
theorem sdo_ok{P:aQ}{w:bg}{H:Hp}{h:bz}{a:aq}{ns:List Int}(x:SetI w h a ns):JL P w H h a (SDO w a ns):=by refine⟨x,let ⟨o,e,_⟩:=x;⟨o,e⟩,λl u z k=>?_⟩;obtain⟨o,e,r⟩:=z;exact⟨o,k o e,r⟩
theorem Inv.setI{X:Cx}{pins:qO}{σ:St}{H:Hp}{s:av}{a:aq}{ns:List Int}(I:Inv X pins σ H s)(h:H a=ao (SDO X.w a ns)):SetI X.w s.heap a ns:=(I.hok a _ h).1
theorem zr_{ns:List Int}{j x:Int}:x∈adI ns j↔x∈ns\/x=j:=by unfold adI;split;rename_i h;exact⟨.inl,λz=>z.elim id λz=>z▸h⟩;simp
theorem zuZ{ns:List Int}{j:Int}(h:ns.Nodup):(adI ns j).Nodup:=by unfold adI;split;exact h;rename_i z;exact hU.mpr ⟨h,by simp,λx hx y l=>by rw[aA]at l;subst l;exact λq=>z (q▸hx)⟩
theorem zsa{ns:List Int}{j:Int}:(adI ns j).length<=ns.length+1:=by unfold adI;split;omega;simp
def ddI(acc:List Int):List Int:=acc.foldl adI []
theorem zny(acc:List Int):(ddI acc).Nodup/\(∀x,x∈ddI acc↔x∈acc)/\(ddI acc).length<=acc.length:=by
 have key:∀(acc ns:List Int),ns.Nodup->(acc.foldl adI ns).Nodup/\(∀x,x∈acc.foldl adI ns↔x∈ns\/x∈acc)/\(acc.foldl adI ns).length<=ns.length+acc.length:=by
  intro acc;induction acc with
  | nil=>intro ns h;exact⟨h,λx=>by simp,aB _⟩
  | cons a acc G =>intro ns h;obtain⟨v,y,C⟩:=G (adI ns a) (zuZ h);refine⟨v,λx=>by rw[iU,y,zr_,aE];exact or_assoc,?_⟩;have:=zsa (ns:=ns) (j:=a);rw[iU,aL];omega
 obtain⟨v,y,C⟩:=key acc [] .nil;exact⟨v,λx=>by rw[ddI,y];simp,by rw[ddI];simpa using C⟩
theorem zpp{acc:List Int}{j:Int}:ddI (acc++[j])=adI (ddI acc) j:=by rw[ddI,sr];rfl
def AS(w:bg)(_:Ctx)(D:aq)(H:Hp)(acc:List Int):Prop:=H D=ao (SDO w D (ddI acc))
theorem zuX{w:bg}:AOk (AS w):=λ_ _ _ _ hx l h=>⟨.inr (.inr ⟨_,h⟩),λks z=>(by rw[h]at z;cases z),λH' e=>e _ _ h l⟩
def nxS(elt:a8)(acc:ah)(env:Env)(k:Sem Fin):Sem Fin:=do
 (do let v <- eval elt env;standAt elt.pos;let _ <- call (.builtin "set.add") [acc,v])
 k
abbrev tdS(te:DTE)(ρ:En)(n:Nat)(acc:List Int)(R:List Int->Nat->Prop):Prop:=te ρ n λt n3=>∃j,t=.int j/\acc.length<4000/\R (acc++[j]) n3
section
variable{X:Cx}{scope:fI}{own:List Str}{capt:List Nat}{elt:a8}{gs:List Comprehension}{pos:Pos}{te:DTE}
theorem zm3:IsC (.SetComp elt gs scope pos):=λ_ _ _ _ _ _ _=>⟨⟨rfl,rfl⟩,⟨rfl,rfl⟩,rfl⟩
theorem ztD{P:aQ}{w:bg}:NA P w (newSet (.type "set")) λD l=>l=SDO w D []:=λA E s Q _ h=>zra λo so=>h o (zlU so) λh' e=>⟨_,rfl,λH'=>sdo_ok ⟨o,e,so⟩⟩
theorem zuy(he:Fam X scope own capt λY=>DE Y elt te):HM X scope own capt (nxS elt) (AS X.w) [] (tdS te):=by obtain⟨ge,pe,x⟩:=DE.fam he;refine⟨λD σ H N=>ge σ H λv J=>∃ns j,v=.int j/\J D=ao (SDO X.w D ns)/\ns.length+1<scanBound/\N (upd J D (SDO X.w D (adI ns j))),λD C s₀ H₀ fp pins s σ H N k Q E I h hk=>?_,λC D hD U ρ σ H n acc N R S _ a r hq=>?_⟩;refine aa (aa (cS (pe C s₀ H₀ fp pins s σ H _ I h) (λy s9 h9=>aa (f9 (aa ?_))) λ_ _ z=>z.elim));obtain⟨v,H9,I9,r9,ns,j,rfl,u,hl,q9⟩:=h9;obtain⟨tk,rfl⟩:=r9;refine zjb (I9.setI u) hl λh' tk' sb Z=>?_;exact ae (hk _ _ (zi9 I9 (by rw[u];exact uC) sb (let ⟨o,e,_⟩:=Z;⟨o,e⟩) (sdo_ok Z)) q9);refine x C ρ σ H n _ _ S r λt n6 v J L e6 G q6=>?_;have u:=e6 D _ a U;obtain⟨j,rfl,l,L⟩:=L;have:=(zny acc).2.2;exact⟨_,j,q6.intI,u,by show _<4096;omega,hq _ n6 _ L (λb o hb nb ne=>by rw[Jl ne];exact e6 b o hb nb) (Hn.updR U (.inr (.inr ⟨_,u⟩)) G) (by rw[AS,zpp];exact JJ)⟩
end
section
variable{X:Cx}
theorem zfF(hc:X.calm=be):JK X (.builtin "sorted") (λxs H Q=>∃(p:aq) (ns:List Int),xs=[.ref p]/\H p=ao (SDO X.w p ns)/\ns.length<100000 /\
  ∀G:List Int,G.Perm ns->G.Pairwise (·<=·)->∀l,H l=bc->Q (.ref l) (upd H l (.lst (G.map V.int)))):=by
 intro pins s σ H xs us Q I r h;obtain⟨p,ns,rfl,U,hz,q⟩:=h;obtain⟨u,rfl,Y⟩:=r.one;cases(show u=bR p from Y);have S:=I.setI U;refine zeF (A:=X.A) (x:=.ref p) (rk:=λ_=>rkI) (C:=λh' tk vs=>(∀b o,s.heap.get? b=ao o->h'.get? b=ao o)/\s.heap.objs.size<=h'.objs.size/\∃ms,ms.Perm ns/\bT (λ(i:Int) (v:ah)=>∃t,v=.int i t) ms vs) ?_ ?_ ?_ ?_;intro Z E' Q' R N;exact ziC (R.trans (I.ok.hd hc)) S λh' tk d vs kp sz pp=>N h' tk d vs ⟨kp,sz,pp⟩;rintro h' tk vs ⟨kp,sz,ms,pm,pr⟩;have:=V9 pr;rw[pm.length_eq]at this;exact ziA (by lia);rintro h' tk d vs Z ⟨kp,sz,ms,pm,pr⟩ hA';refine zk7 λv J=>?_;obtain⟨i,_,t,e⟩:=zeY pr v J;exact⟨i,t,e⟩;rintro h' tk d vs h2 y e ⟨kp,sz,ms,pm,pr⟩ kp2 pm2 up he;obtain⟨G,p1,p2,p3⟩:=zjA (f:=λ(i:Int)=>i) pr (λa v J=>by obtain⟨t,rfl⟩:=J;rfl) pm2 up;have L:G.length<=sizeLine:=by
  have a1:=p1.length_eq;have a2:=pm.length_eq;have a3:100000<=sizeLine:=by decide
  lia
 refine⟨.ref h'.objs.size,_,((I.laid (a:=h'.objs.size) (o:=.lst (G.map V.int)) (t':=tk) (h':=h2) (λb o e=>kp2 b o (kp b o e)) sz ⟨by simpa using L,_,e,zqk p3,by rw[lA];exact he⟩).drw d),rfl,q G (p1.trans pm) p2 _ (I.hok.fresh sz)⟩
end
def Zg(g:DTG)(tt:DTT)(o:DTE)(l:En)(xs:qD)(acc:List Int)(n:Nat)(R:List Int->Nat->Prop):Prop:=cGo g tt (tdS o) l xs acc n R
def Zp(g:DTG)(tt:DTT)(u:DTA)(g2:DTG)(o:DTT)(v:DTE)(l:En)(xs:qD)(acc:List Int)(n:Nat)(R:List Int->Nat->Prop):Prop:=cGo g tt (tdN u g2 o (tdS v)) l xs acc n R
def Edg(acc l:List Int):Prop:=l.Pairwise (·<·)/\∀x,x∈l↔x∈acc
def SrtR(R:qD->Nat->Prop)(acc:List Int)(n:Nat):Prop:=acc.length<100000/\∀l,Edg acc l->R (l.map cg) n
def zrV(m:Nat)(capt:List Nat)(v:DTA)(g:DTG)(tt:DTT)(o:DTA)(g2:DTG)(l:DTT)(y:DTE):DTA:=λu n R=>v u n λts x=>Zp g tt o g2 l y (JI m capt u) ts [] x (SrtR R)
theorem zuO{acc l:List Int}(p:l.Perm (ddI acc))(w:l.Pairwise (·<=·)):Edg acc l:=by obtain⟨o,u,_⟩:=zny acc;have nd:l.Nodup:=p.nodup_iff.mpr o;refine⟨?_,λx=>by rw[p.mem_iff,u]⟩;refine(List.pairwise_and_iff.mpr ⟨w,nd⟩).imp λ{a b} h=>?_;have o:=h.1;have u:a≠b:=h.2;lia
section
variable{X:Cx}{scope:fI}{own:List Str}{capt:List Nat}{elt tg iter tg2 it2:a8}{ifs MO:List a8}{pos p0 p1:Pos}{di di2:DTA}{is is2:List Nat}{g g2:DTG}{tt tt2:DTT}{te:DTE}
theorem zlh(hm:X.mg "sorted" = bc) (hc:X.calm=be) (S:Jv scope own capt X) (hi:DIL X tg iter di)
  (hg:Fam X scope own capt λY=>DG Y tg is g) (v:∀i∈is,i<own.length) (ht:Fam X scope own capt λY=>DTs Y ifs tt) (L:Fam X scope own capt λY=>DI Y tg2 it2 di2) (I:Fam X scope own capt λY=>DG Y tg2 is2 g2) (Np:∀i∈is2,i<own.length/\i∉is) (U:Fam X scope own capt λY=>DTs Y MO tt2)
  (he:Fam X scope own capt λY=>DE Y elt te)
  (Z:starEach [.SetComp elt [⟨tg,iter,ifs,0⟩,⟨tg2,it2,MO,0⟩] scope pos] X.env=[(bj,eval (.SetComp elt [⟨tg,iter,ifs,0⟩,⟨tg2,it2,MO,0⟩] scope pos) X.env)]:=by rfl) (J:Gl X "sorted":=by rfl)
  (hs:Fsi X iter:=by intro _;rfl) (G:∀(C:aq) (x:ah),foldedSetIterable it2 (compEnvC scope (ownCl X scope C) C X.env) x=pure x:=by intro _ _;rfl) :
  DN X (.Call (.Name "sorted" p0) [.SetComp elt [⟨tg,iter,ifs,0⟩,⟨tg2,it2,MO,0⟩] scope pos] [] p1) (zrV own.length capt di g tt di2 g2 tt2 te):=by
 obtain⟨ge,p,_,sp⟩:=zgW (e:=.SetComp elt [⟨tg,iter,ifs,0⟩,⟨tg2,it2,MO,0⟩] scope pos) (a0:=[]) zuX (λ_ _ _ ho h=>by rw[h];exact JJ) hc S ⟨zm3,⟨_,rfl⟩,λ_ _ _=>rfl,λ_=>⟨_,rfl⟩,λ_ _=>⟨_,rfl⟩⟩ ztD hi hg v ht (zm7 zuX zm3 hc rfl (λ_ _ _=>rfl) L I U G (zuy he)) Np hs;refine⟨_,Vv (zfF hc) hm boot_sorted (QC p QV Z) J,λC ρ σ H n Q R St hd hq=>?_⟩;refine sp C ρ σ H n _ _ St hd λacc n2 H2 D c2 e2 u hD _ hy=>⟨D,_,rfl,hy,?_,λjs pm pw l y=>?_⟩;exact fK (zny acc).2.2 c2.1;exact hq _ n2 l _ _ (c2.2 js (zuO pm pw)) (e2.trans (ExtE.new y)) (u.same (JR y)) (ZM e2 u y) JJ (zl8 js)
end
section
variable{ρ ρ0:En}{n m:Nat}{di di2:DTA}{g g2:DTG}{tt tt2:DTT}{te:DTE}{capt:List Nat}{Rl:qD->Nat->Prop}
instance zxs [h:CompN m capt ρ ρ0]:Stp (zrV m capt di g tt di2 g2 tt2 te ρ n Rl) (di ρ n λts n1=>Zp g tt di2 g2 tt2 te ρ0 ts [] n1 (SrtR Rl)):=⟨λk=>by unfold zrV;rw[h.e];exact k⟩
theorem zlX{α:Type}{cs:List α}{D:α->af}{R:List Int->Nat->Prop}(f:α->List Int)(hf:∀c,(f c).length<=2)(I:cs.length<=1000)
  (turn:∀c∈cs,∀(acc:List Int) (K:List Int->Nat->Prop),acc.length+2<4000->K (acc++f c) n->g (D c) ρ0 λo=>tt o n λb x=>if b=be then di2 o x λts G=>Zg g2 tt2 te o ts acc G K else K acc x) (h:R (cs.flatMap f) n) :
  Zp g tt di2 g2 tt2 te ρ0 (cs.map D) [] n R:=by
 have key:∀(ds:List α) (acc:List Int),(∀c∈ds,c∈cs)->acc.length+2*ds.length<3000->R (acc++ds.flatMap f) n->Zp g tt di2 g2 tt2 te ρ0 (ds.map D) acc n R:=by
  intro ds;induction ds with
  | nil=>intro acc _ _ h;exact(by simpa using h:R acc n)
  | cons d ds C =>intro acc v hz h;rw[aL]at hz;have:=hf d;refine turn d (v d (.head _)) acc (λu y=>Zp g tt di2 g2 tt2 te ρ0 (ds.map D) u y R) (by lia) (C _ (λc hc=>v c (.tail _ hc)) (by rw[aW];lia) ?_);rw[bu];simpa using h
 exact key cs [] (λ_ h=>h) (by simp;lia) (by simpa using h)
end
end L2
namespace L2
open PySem PySem.Spec PyProof PyProof.Rows
section
variable{X:Cx}
theorem zjc(hc:X.calm=be)(J:X.A.units+64<cLine):JK X (.type "dict") (λxs H Q=>∃(p:aq) (vs:List V) (zs:ZT),xs=[.ref p]/\tyT X.K (.ref p) H/\SqT X.K H p vs/\bT (KZp X.K H) vs zs/\(zs.map (·.1)).Nodup/\∀l ep,H l=bc->Q (.ref l) (upd H l (ZDO l zs ep))):=by
 intro pins s σ H xs us Q I r h;obtain⟨p,vs,zs,rfl,ty,L,pr,nd,q⟩:=h;obtain⟨u,rfl,C⟩:=r.one;cases(show u=bR p from C);obtain⟨its,rel,⟨o,g1,g2,n,g3⟩,lz⟩:=I.tuple L;obtain⟨_,S⟩:=zpF I C ty;obtain⟨o',G,d'⟩:=S p rfl;rw[g1]at G;cases G;obtain⟨ps,x,U⟩:=zqZ I rel pr;have Z:zs.length=vs.length:=(fD pr).symm;have l2:ps.length=zs.length:=(fD x).symm;have v:(ps.map (·.1)).Nodup:=by rw[ziy x];exact BQ kL (λa b h e=>h (ZE.mp e)) nd
 refine zgY (A:=X.A) (its:=its.toArray) (ps:=ps) g1 g2 g3 d' (I.ok.hd hc) J (by simpa using U) (by lia) v λh' tk kp R=>?_;have Y:(s.heap.objs.size == sysModules)=bj:=beq_eq_false_iff_ne.mpr (eK (aT I.big));obtain⟨ep,ok⟩:=ZK (X:=X) (H':=H) Y (by lia) x R;exact⟨.ref s.heap.objs.size,_,I.laid (a:=s.heap.objs.size) (o:=ZDO s.heap.objs.size zs ep) (t':=tk) kp (aB _) ok,rfl,q _ ep (I.hok.fresh (aB _))⟩
theorem zkx{K:qF}{hd:Option aq}{O:aq->Prop}{H:Hp}{zs:ZT}{ks:KT2}(r:Jo K hd O H zs ks):zs.map (·.1)=ks.map (·.1) :=
 r.ind (P:=λ(zs:ZT) (ks:KT2)=>zs.map (·.1)=ks.map (·.1)) rfl (λ_ _ _ i=>by simp[i])
end
section
variable{X:Cx}{e:a8}{d:DTE}{p2 cp:Pos}
def zqf(d:DTE):DTE:=λx n R=>d x n λt v=>∃ks:KT2,t=.tuple (ks.map prT)/\(ks.map (·.1)).Nodup/\R (.dict (Jr ks)) v
theorem zpo(hc:X.calm=be)(Y:X.A.units+64<cLine)(I:X.mg "dict" = bc) (h:DE X e d) (x:starEach [e] X.env=[(bj,eval e X.env)]:=by rfl) (G:Gl X "dict":=by rfl) :
  DE X (.Call (.Name "dict" p2) [e] [] cp) (zqf d):=by
 obtain⟨ta,pa,h⟩:=h;refine⟨_,zhF (zjc hc Y) G I rfl (Qj pa Qz x) (he:=x),λC ρ σ H n Q R S hd hq=>?_⟩;refine h C ρ σ H n _ _ S hd λt n1 v Z r1 L u J=>?_;obtain⟨ks,rfl,nd,r⟩:=r1;have S1:=S.on L u;have ty:tyT X.K v Z:=by
  cases J with
  | tup h o r=>exact⟨_,_,rfl,.inl h⟩
  | tupS h r=>exact⟨_,_,rfl,.inr h⟩
 obtain⟨p,vs,rfl,sq,rp⟩:=J.tupI;obtain⟨zs,z1,U⟩:=zoy rp;refine⟨p,vs,zs,rfl,ty,sq,z1,by rw[zkx U];exact nd,λl ep y=>?_⟩;exact hq _ n1 _ _ r (L.trans (ExtE.new y)) (u.same (JR y)) (.dcT JJ (S1.free y) (U.mono (λ_ _ _ z=>z) (λb o _ hb=>JR y b o hb)) rfl)
instance zwp {ρ:En}{n:Nat}{R:qN}:Stp (zqf d ρ n R) (d ρ n λt n1=>∃ks:KT2,t=.tuple (ks.map prT)/\(ks.map (·.1)).Nodup/\R (.dict (Jr ks)) n1):=⟨λh=>h⟩
end
def jn(l u:Int×Int):Int×Int:=(if l.2+u.2+1<l.1+u.1 then l.2+u.2+1 else l.1+u.1,if l.1+u.1+1<l.2+u.2 then l.1+u.1+1 else l.2+u.2)
open Classical in
noncomputable def kst (Z:Int->Prop):Nat->Int->Int×Int
 | 0,i=>if Z i then(1,0) else(0,1)
 | n+1,i=>jn (kst Z n i) (kst Z n (i+2 ^ n))
def decT(S:Int×Int->Option Int):Nat->Int->Int->Int->Int
 | 0,i,d,_=>(S (i,0)).getD d
 | n+1,i,d,x=>if x<i+2 ^ n then decT S n i ((S (i,((n+1:Nat):Int))).getD d) x else decT S n (i+2 ^ n) ((S (i,((n+1:Nat):Int))).getD d) x
def cnt(S:Int×Int->Option Int):Nat->Int->Int
 | 0,i=>if (S (i,0)).isSome then 1 else 0
 | n+1,i=>(if (S (i,((n+1:Nat):Int))).isSome then 1 else 0)+cnt S n i+cnt S n (i+2 ^ n)
def pk(d:Int)(q:Int×Int):Int:=if d=0 then q.1 else q.2
theorem zwI{l u:Int×Int}{d:Int}(h:d=0\/d=1):pk d (jn l u)<=pk d l+pk d u/\∀d',(d'=0\/d'=1)->pk d (jn l u)<=1+pk d' l+pk d' u:=by constructor;rcases h with rfl|rfl;simp only[pk,jn,if_pos];split <;> lia;simp only[pk,jn,show ¬(1:Int)=0 by decide,if_false];split <;> lia;rintro d' (rfl|rfl) <;> rcases h with rfl|rfl <;> simp only[pk,jn,if_pos,show ¬(1:Int)=0 by decide,if_false] <;> split <;> lia
theorem QK(n:Nat):(2:Int) ^ (n+1)=2 ^ n+2 ^ n:=by rw[bL];lia
theorem ze5{S:Int×Int->Option Int}{Z:Int->Prop}(v:∀b s,S b=ao s->s=0\/s=1):∀(n:Nat) (i d:Int),(d=0\/d=1)->(∀x,i<=x->x<i+2 ^ n->(decT S n i d x=1↔Z x))->pk d (kst Z n i)<=cnt S n i
 | 0,i,d,hd,h=>by
  have h0:=h i (aM _) (by rw[n8];lia);unfold decT at h0;unfold kst cnt;cases e:S (i,0) with
  | none =>
   rw[e]at h0;simp only[nj]at h0;rcases hd with rfl|rfl;have:¬Z i:=λz=>by have:=h0.mpr z;lia
   simp[pk,this];have:Z i:=h0.mp rfl;simp[pk,this]
  | some s =>rcases hd with rfl|rfl <;> by_cases z:Z i <;> simp[pk,z]
 | n+1,i,d,hd,h=>by
  have p2:=QK n;have pp:(0:Int)<2 ^ n:=Bd.JM n;have sub:∀d',(S (i,((n+1:Nat):Int))).getD d=d'->(d'=0\/d'=1)->pk d' (kst Z n i)<=cnt S n i/\pk d' (kst Z n (i+2 ^ n))<=cnt S n (i+2 ^ n):=λd' e o=>by refine⟨ze5 v n i d' o λx C G=>?_,ze5 v n (i+2 ^ n) d' o λx C G=>?_⟩;have:=h x C (by lia);unfold decT at this;rwa [if_pos G,e]at this;have:=h x (by lia) (by lia);unfold decT at this;rwa [if_neg (by lia),e]at this
  unfold kst cnt;obtain⟨J,I⟩:=zwI (l:=kst Z n i) (u:=kst Z n (i+2 ^ n)) hd;cases e:S (i,((n+1:Nat):Int)) with
  | none =>obtain⟨s1,s2⟩:=sub d (by rw[e];rfl) hd;simp only[Option.isSome_none,aK,if_false];lia
  | some s =>have y:=v _ _ e;obtain⟨s1,s2⟩:=sub s (by rw[e];rfl) y;have:=I s y;simp only[pY,if_true];lia
def sgAt(rs:RL)(b:Int×Int):Option Int:=(rs.find? λr=>decide (r.1=b)).map (·.2)
theorem UT{rs:RL}{b:Int×Int}{s:Int}(h:sgAt rs b=ao s):(b,s)∈rs:=by
 unfold sgAt at h;obtain⟨r,l,o⟩:=dI.mp h;have e:r.1=b:=by simpa using tT l
 have m:=mK l;have:r=(b,s):=dR e o;rwa [this]at m
theorem Wi{rs:RL}{b:Int×Int}(h:sgAt rs b=bc):∀r∈rs,r.1≠b:=λr l e=>by unfold sgAt at h;rw[nV,gP]at h;exact h r l (decide_eq_true e)
theorem ziB{rs:RL}(nd:(rs.map (·.1)).Nodup){r:(Int×Int)×Int}(h:r∈rs):sgAt rs r.1=ao r.2:=by
 cases e:sgAt rs r.1 with
 | none=>exact absurd rfl (Wi e r h)
 | some s =>
  have m:=UT e;have:∀{l:RL},(l.map (·.1)).Nodup->∀a∈l,∀b∈l,a.1=b.1->a=b:=by
   intro l;induction l with
   | nil=>intro _ a v;cases v
   | cons c l y =>intro nd a v b x e;rw[aU,cH]at nd;rcases aE.mp v with rfl|v <;> rcases aE.mp x with rfl|x;rfl;exact absurd (aY.mpr ⟨b,x,e.symm⟩) nd.1;exact absurd (show b.1∈l.map (·.1) from aY.mpr ⟨a,‹a∈l›,e⟩) nd.1;exact y nd.2 a v b x e
  have:=this nd _ m _ h rfl;rw[<- this]
def Aln(b:Int×Int):Prop:=0<=b.2/\∃k:Int,b.1=k*2 ^ b.2.toNat
theorem Zk{bits:Int}{b:Int×Int}(B:IsBk bits b.1 b.2):Aln b:=⟨B.1,let ⟨k,_,e,_⟩:=B.2.2;⟨k,e⟩⟩
def inb(b:Int×Int)(x:Int):Prop:=b.1<=x/\x<eB b
theorem ze2{k j P x:Int}(v:0<P)(l:k*P<=x)(o:x<k*P+P)(y:j*P<=x)(u:x<j*P+P):k=j:=by rcases kv k j with z|z|z;have:(k+1)*P<=j*P:=a7 (by lia) (by lia);rw[cE]at this;lia;exact z;have:(j+1)*P<=k*P:=a7 (by lia) (by lia);rw[cE]at this;lia
theorem UM{b c:Int×Int}{x:Int}(y:Aln b)(hc:Aln c)(e:b.2=c.2)(l:inb b x)(o:inb c x):b=c:=by obtain⟨_,k,u⟩:=y;obtain⟨_,j,v⟩:=hc;unfold inb eB at l o;rw[e]at u l;rw[u]at l;rw[v]at o;have:=ze2 (Bd.JM c.2.toNat) l.1 l.2 o.1 o.2;exact dR (by rw[u,v,this]) e
def Rok(rs:RL):Prop:=(∀r∈rs,Aln r.1/\(r.2=0\/r.2=1))/\(rs.map (·.1)).Nodup
def AlnN(n:Nat)(i:Int):Prop:=∃k:Int,i=k*2 ^ n
theorem AlnN.lo{n:Nat}{i:Int}(h:AlnN (n+1) i):AlnN n i:=by obtain⟨k,e⟩:=h;exact⟨k*2,by rw[e,bL,bN,b9 (2 ^ n) 2]⟩
theorem AlnN.up{n:Nat}{i:Int}(h:AlnN (n+1) i):AlnN n (i+2 ^ n):=by obtain⟨k,e⟩:=h.lo;exact⟨k+1,by rw[e,cE,cR]⟩
theorem AlnN.b{n:Nat}{i:Int}(h:AlnN n i):Aln (i,(n:Int)):=⟨by simp,by obtain⟨k,e⟩:=h;exact⟨k,by simpa using e⟩⟩
theorem zke{rs:RL}(R:Rok rs){x:Int}:∀(n:Nat) (i d:Int),AlnN n i->i<=x->x<i+2 ^ n ->
  (∃r∈rs,r.1.2<=n/\inb r.1 x/\r.2=decT (sgAt rs) n i d x/\∀q∈rs,inb q.1 x->r.1.2<=q.1.2)\/(decT (sgAt rs) n i d x=d/\∀q∈rs,inb q.1 x->(n:Int)<q.1.2)
 | 0,i,d,A,h1,h2=>by
  have e:x=i:=by simp at h2;lia
  subst e;unfold decT;cases es:sgAt rs (x,0) with
  | some s =>refine .inl ⟨_,UT es,by simp,⟨aM _,by simp[eB];lia⟩,rfl,λq u _=>(R.1 q u).1.1⟩
  | none =>refine .inr ⟨rfl,λq u y=>?_⟩;have q0:=(R.1 q u).1.1;rcases fC 0 q.1.2 with z|z;simpa using z;exact absurd (UM (R.1 q u).1 A.b (by simp;lia) y ⟨aM _,by simp[eB];lia⟩) (Wi es q u)
 | n+1,i,d,A,h1,h2=>by
  have p2:=QK n;have key:∀j,AlnN n j->j<=x->x<j+2 ^ n->∀v,v=decT (sgAt rs) n j ((sgAt rs (i,((n+1:Nat):Int))).getD d) x ->
    (∃r∈rs,r.1.2<=((n+1:Nat):Int)/\inb r.1 x/\r.2=v/\∀q∈rs,inb q.1 x->r.1.2<=q.1.2)\/(v=d/\∀q∈rs,inb q.1 x->((n+1:Nat):Int)<q.1.2):=λj U I L v ev=>by
   rcases zke R n j ((sgAt rs (i,((n+1:Nat):Int))).getD d) U I L with⟨r,G,Z,S,J,Y⟩|⟨e,C⟩;exact .inl ⟨r,G,by push_cast;lia,S,by rw[ev];exact J,Y⟩;rw[e]at ev;cases es:sgAt rs (i,((n+1:Nat):Int)) with
   | some s =>
    rw[es]at ev;refine .inl ⟨_,UT es,aM _,⟨h1,by show x<i+2 ^ ((n+1:Nat):Int).toNat;simpa using h2⟩,ev.symm,λq u y=>?_⟩;have:=C q u y;show((n+1:Nat):Int)<=_
    push_cast
    lia
   | none =>
    rw[es]at ev;refine .inr ⟨ev,λq u y=>?_⟩;have h3:=C q u y;rcases fC ((n+1:Nat):Int) q.1.2 with z|z;exact z;refine absurd (UM (R.1 q u).1 A.b ?_ y ⟨h1,by show x<i+2 ^ ((n+1:Nat):Int).toNat;simpa using h2⟩) (Wi es q u);show q.1.2=((n+1:Nat):Int)
    push_cast at z ⊢
    lia
  by_cases z:x<i+2 ^ n;have e:decT (sgAt rs) (n+1) i d x=decT (sgAt rs) n i ((sgAt rs (i,((n+1:Nat):Int))).getD d) x:=by rw[decT,if_pos z]
  rw[e];exact key i A.lo h1 z _ rfl;have e:decT (sgAt rs) (n+1) i d x=decT (sgAt rs) n (i+2 ^ n) ((sgAt rs (i,((n+1:Nat):Int))).getD d) x:=by rw[decT,if_neg z]
  rw[e];exact key _ A.up (by lia) (by lia) _ rfl
def SgX(rs:RL)(a s:Int):Prop:=(s=0/\∀r∈rs,¬inb r.1 a)\/∃r∈rs,inb r.1 a/\r.2=s/\∀l∈rs,inb l.1 a->r.1.2<=l.1.2
theorem zgt{rs:RL}(R:Rok rs){a s t:Int}(v:SgX rs a s)(x:SgX rs a t):s=t:=by rcases v with⟨rfl,v⟩|⟨r,o,u,rfl,m1⟩ <;> rcases x with⟨rfl,x⟩|⟨q,l,C,rfl,m2⟩;rfl;exact absurd C (v q l);exact absurd u (x r o);have e:=UM (R.1 r o).1 (R.1 q l).1 (Int.le_antisymm (m1 q l C) (m2 r o u)) u C;have a1:=ziB R.2 o;have a2:=ziB R.2 l;rw[e,a2]at a1;exact(aP a1).symm
def UV(n:Nat)(rs:RL):Prop:=∀r∈rs,r.1.2<=n/\0<=r.1.1/\r.1.1<2 ^ n
theorem zlT{rs:RL}(R:Rok rs){n:Nat}(I:UV n rs){x:Int}(h0:0<=x)(L:x<2 ^ n):SgX rs x (decT (sgAt rs) n 0 0 x):=by rcases zke R n 0 0 ⟨0,by simp⟩ h0 (by lia) with⟨r,C,N,y,u,G⟩|⟨e,J⟩;exact .inr ⟨r,C,y,u,G⟩;exact .inl ⟨e,λq o v=>by have:=J q o v;have:=(I q o).1;lia⟩
theorem zlS{rs:RL}(R:Rok rs){n:Nat}(I:UV n rs){x s:Int}(h0:0<=x)(l:x<2 ^ n):SgX rs x s↔decT (sgAt rs) n 0 0 x=s :=
 ⟨λh=>(zgt R (zlT R I h0 l) h),λh=>h▸zlT R I h0 l⟩
def wi(n:Nat)(i:Int)(r:(Int×Int)×Int):Bool:=decide (r.1.2<=(n:Int)/\i<=r.1.1/\r.1.1<i+2 ^ n)
theorem zef{α:Type}{p p1 p2 p3:α->Bool}:∀{l:List α},(∀a∈l,(if p a then 1 else 0)=(if p1 a then 1 else 0)+(if p2 a then 1 else 0)+(if p3 a then 1 else 0))->l.countP p=l.countP p1+l.countP p2+l.countP p3
 | [],_=>rfl
 | a::l,h=>by have v:=zef (l:=l) λb o=>h b (.tail _ o);have u:=h a (.head _);simp only[sY];lia
theorem zd5{b:Int×Int}:∀{rs:RL},(rs.map (·.1)).Nodup->(rs.countP (λr=>decide (r.1=b)):Int)=if (sgAt rs b).isSome then 1 else 0
 | [],_=>rfl
 | r::rs,h=>by
  rw[aU,cH]at h;have x:=zd5 (b:=b) h.2;rw[sY];by_cases z:r.1=b;have v:rs.countP (λr=>decide (r.1=b))=0:=List.countP_eq_zero.mpr λq l e=>h.1 (aY.mpr ⟨q,l,(of_decide_eq_true e).trans z.symm⟩);rw[v];simp[sgAt,z];have e:sgAt (r::rs) b=sgAt rs b:=by simp[sgAt,z]
  rw[e,<- x];simp[z]
theorem zn6{n:Nat}{i:Int}(A:AlnN (n+1) i){b:Int×Int}(B:Aln b)(e:b.2=((n+1:Nat):Int)):(i<=b.1/\b.1<i+2 ^ (n+1))↔b.1=i:=by have pp:(0:Int)<2 ^ (n+1):=Bd.JM _;constructor;rintro⟨l,u⟩;have:=UM (x:=b.1) B A.b e ⟨aM _,by have:=Bd.JM b.2.toNat;unfold eB;lia⟩ ⟨l,by show b.1<i+2 ^ ((n+1:Nat):Int).toNat;simpa using u⟩;exact congrArg mF this;intro h;lia
theorem znL{rs:RL}(R:Rok rs):∀(n:Nat) (i:Int),AlnN n i->cnt (sgAt rs) n i=(rs.countP (wi n i):Int)
 | 0,i,A=>by unfold cnt;rw[<- zd5 R.2];congr 1;refine List.countP_congr λr v=>?_;have h0:=(R.1 r v).1.1;unfold wi;rw[decide_eq_true_eq,decide_eq_true_eq];constructor;intro e;rw[e];simp;lia;rintro⟨C,G,y⟩;simp at C y;exact dR (by show r.1.1=i;lia) (by show r.1.2=0;lia)
 | n+1,i,A=>by
  unfold cnt;rw[znL R n i A.lo,znL R n (i+2 ^ n) A.up,<- zd5 R.2];have p2:=QK n;have pp:(0:Int)<2 ^ n:=Bd.JM n;have:=zef (p:=wi (n+1) i) (p1:=λr=>decide (r.1=(i,((n+1:Nat):Int)))) (p2:=wi n i) (p3:=wi n (i+2 ^ n)) (l:=rs) λr v=>by
   have B:=(R.1 r v).1;unfold wi;by_cases e:r.1.2=((n+1:Nat):Int);have o:¬r.1.2<=(n:Int):=by push_cast at e;lia
   have k:=zn6 A B e;by_cases z:r.1.1=i;have x:=k.mpr z;rw[decide_eq_true (show r.1.2<=((n+1:Nat):Int)/\i<=r.1.1/\r.1.1<i+2 ^ (n+1) from⟨Int.le_of_eq e,x⟩),decide_eq_true (show r.1=(i,((n+1:Nat):Int)) from dR z e),decide_eq_false (λq=>o q.1),decide_eq_false (λq=>o q.1)];rfl;rw[decide_eq_false (λq=>z (k.mp q.2)),decide_eq_false (λq=>z (congrArg mF q)),decide_eq_false (λq=>o q.1),decide_eq_false (λq=>o q.1)];rfl;rw[decide_eq_false (show ¬r.1=(i,((n+1:Nat):Int)) from λq=>e (congrArg yC q))];by_cases le:r.1.2<=(n:Int);have u:r.1.2<=((n+1:Nat):Int):=by push_cast;lia
   by_cases c1:i<=r.1.1/\r.1.1<i+2 ^ n;rw[decide_eq_true (show _/\_/\_ from⟨u,c1.1,by lia⟩),decide_eq_true (show _/\_/\_ from⟨le,c1⟩),decide_eq_false (λq=>by have:=q.2.1;lia)];rfl;by_cases c2:i+2 ^ n<=r.1.1/\r.1.1<i+2 ^ n+2 ^ n;rw[decide_eq_true (show _/\_/\_ from⟨u,by lia,by lia⟩),decide_eq_false (λq=>c1 q.2),decide_eq_true (show _/\_/\_ from⟨le,c2⟩)];rfl;rw[decide_eq_false (λq=>by have:=q.2;lia),decide_eq_false (λq=>c1 q.2),decide_eq_false (λq=>c2 q.2)];rfl;have u:¬r.1.2<=((n+1:Nat):Int):=by push_cast at e ⊢;lia
   rw[decide_eq_false (λq=>u q.1),decide_eq_false (λq=>le q.1),decide_eq_false (λq=>le q.1)];rfl
  rw[this]
  push_cast
  rfl
theorem znM{rs:RL}(R:Rok rs){n:Nat}(I:UV n rs):cnt (sgAt rs) n 0=(rs.length:Int):=by rw[znL R n 0 ⟨0,by simp⟩,List.countP_eq_length.mpr];intro r u;obtain⟨l,o,v⟩:=I r u;exact decide_eq_true ⟨l,o,by lia⟩
theorem zl4{rs:RL}(R:Rok rs){n:Nat}(I:UV n rs){Z:Int->Prop}(h:∀x,0<=x->x<2 ^ n->(SgX rs x 1↔Z x)):(kst Z n 0).1<=(rs.length:Int):=by
 have:=ze5 (S:=sgAt rs) (Z:=Z) (λb s e=>(R.1 _ (UT e)).2) n 0 0 (.inl rfl) λx h0 o=>by rw[<- h x h0 (by lia),zlS R I h0 (by lia)]
 rw[znM R I]at this;exact this
section
variable{Z Z':Int->Prop}
theorem YQ:∀(n:Nat) (i:Int),(∀x,i<=x->x<i+2 ^ n->¬Z x)->kst Z n i=(0,1)
 | 0,i,h=>by unfold kst;rw[if_neg (h i (aM _) (by rw[n8];lia))]
 | n+1,i,h=>by have p2:=QK n;have pp:(0:Int)<2 ^ n:=Bd.JM n;unfold kst;rw[YQ n i λx l o=>h x l (by lia),YQ n (i+2 ^ n) λx l o=>h x (by lia) (by lia)];rfl
theorem kst_all:∀(n:Nat) (i:Int),(∀x,i<=x->x<i+2 ^ n->Z x)->kst Z n i=(1,0)
 | 0,i,h=>by unfold kst;rw[if_pos (h i (aM _) (by rw[n8];lia))]
 | n+1,i,h=>by have p2:=QK n;have pp:(0:Int)<2 ^ n:=Bd.JM n;unfold kst;rw[kst_all n i λx l o=>h x l (by lia),kst_all n (i+2 ^ n) λx l o=>h x (by lia) (by lia)];rfl
theorem zrm(l u:Int×Int):(jn l u).1<=(jn l u).2+1/\(jn l u).2<=(jn l u).1+1:=by unfold jn;constructor <;> (dsimp only;split <;> split <;> lia)
theorem zjU:∀(n:Nat) (i:Int),(kst Z n i).1<=(kst Z n i).2+1/\(kst Z n i).2<=(kst Z n i).1+1
 | 0,i=>by unfold kst;split <;> decide
 | n+1,i=>zrm _ _
theorem ze8(c:Int):∀(n:Nat) (i:Int),kst (λx=>Z (x - c)) n (i+c)=kst Z n i
 | 0,i=>by
  have e:i+c - c=i:=by lia
  unfold kst;by_cases z:Z i;rw[if_pos z,if_pos (show Z (i+c - c) by rw[e];exact z)];rw[if_neg z,if_neg (show ¬Z (i+c - c) by rw[e];exact z)]
 | n+1,i=>by unfold kst;rw[ze8 c n i,show i+c+2 ^ n=i+2 ^ n+c by lia,ze8 c n (i+2 ^ n)]
theorem zgO{n:Nat}{c:Int}(C:AlnN n c)(out:∀x,x<c\/c+2 ^ n<=x->¬Z x):∀(k:Nat) (i:Int),AlnN (n+k) i->i<=c->c<i+2 ^ (n+k)->(kst Z (n+k) i).1=(kst Z n c).1
 | 0,i,A,h1,h2=>by have e:(i,(n:Int))=(c,(n:Int)):=UM (x:=c) A.b C.b rfl ⟨h1,by show c<i+2 ^ ((n:Nat):Int).toNat;simpa using h2⟩ ⟨aM _,by have:=Bd.JM n;show c<c+2 ^ ((n:Nat):Int).toNat;simp;lia⟩;have e:i=c:=congrArg mF e;rw[e];rfl
 | k+1,i,A,h1,h2=>by
  have p2:=QK (n+k);have pp:(0:Int)<2 ^ (n+k):=Bd.JM _;have pn:(0:Int)<2 ^ n:=Bd.JM _;have lo:AlnN (n+k) i:=A.lo;have up:AlnN (n+k) (i+2 ^ (n+k)):=A.up;have J:∀j,AlnN (n+k) j->c<j->c+2 ^ n<=j:=λj I hc=>by
   obtain⟨q,eq⟩:=I;obtain⟨r,G⟩:=C;rw[dM,b9 (2 ^ n:Int),<- bN]at eq;rw[eq,G]at hc ⊢;have:r<q*2 ^ k:=by rcases fC r (q*2 ^ k) with z|z;exact z;exact absurd (a7 z (b8 pn)) (by lia)
   have:=a7 (show r+1<=q*2 ^ k by lia) (b8 pn);rw[cE]at this;lia
  show(kst Z (n+k+1) i).1=_;rw[<- mZ]at h2;rw[p2]at h2;show(jn (kst Z (n+k) i) (kst Z (n+k) (i+2 ^ (n+k)))).1=_;by_cases z:c<i+2 ^ (n+k);have u:kst Z (n+k) (i+2 ^ (n+k))=(0,1):=YQ _ _ λx x1 y=>out x (.inr (by have:=J _ up z;lia));have v:=zgO C out k i lo h1 z;have nr:=zjU (Z:=Z) (n+k) i;rw[u,<- v];unfold jn;dsimp only;rw[if_neg (by lia)];lia;have u:kst Z (n+k) i=(0,1):=YQ _ _ λx x1 y=>out x (.inl (by lia));have v:=zgO C out k (i+2 ^ (n+k)) up (by lia) (by lia);have nr:=zjU (Z:=Z) (n+k) (i+2 ^ (n+k));rw[u,<- v];unfold jn;dsimp only;rw[if_neg (by lia)];lia
end
section
variable{bits:Int}{ps:BL}{Z:Int->Prop}
theorem zpD{b:Int×Int}(B:IsBk bits b.1 b.2){n:Nat}(h:b.2=((n+1:Nat):Int)):upH b=(b.1+2 ^ n,(n:Int)):=by
 have l:(b.2 - 1).toNat=n:=by lia
 have:=B.x1 (by lia);rw[l,h]at this;unfold upH;rw[l,this];have u:(2:Int) ^ ((n+1:Nat):Int).toNat / 2=2 ^ n:=by rw[bX,bL];lia
 rw[u];exact dR rfl (by show b.2 - 1=n;lia)
theorem zm9{b:Int×Int}(h:HasA ps b):∀x,b.1<=x->x<eB b->mB x ps:=λx o u=>by obtain⟨p,l,p1,p2⟩:=h;exact⟨p,l,by lia,by lia⟩
theorem Vb(u:0<=bits)(C:CanP Z ps)(w:∀x,Z x->0<=x/\x<2 ^ bits.toNat):∀(n:Nat) (b:Int×Int),IsBk bits b.1 b.2->b.2=(n:Int)->zbg ps n b=kst Z n b.1
 | 0,b,B,e=>by
  have G:eB b=b.1+1:=by rw[eB,e];rfl
  unfold zbg kst;by_cases hn:HasN ps b;rw[if_pos hn,if_neg (λz=>(V4.mp hn) b.1 (aM _) (by lia) ((C.mem _).mpr z))];rw[if_neg hn,if_pos (bV λz=>hn (V4.mpr λx l o m=>z (by
   have:x=b.1:=by lia
   rw[<- this];exact(C.mem x).mp m)))]
 | n+1,b,B,e=>by
  have G:eB b=b.1+2 ^ (n+1):=by rw[eB,e];rfl
  unfold zbg;by_cases hn:HasN ps b;rw[if_pos hn,YQ (n+1) b.1 λx l o z=>(V4.mp hn) x l (by lia) ((C.mem x).mpr z)];rw[if_neg hn];by_cases ha:HasA ps b;rw[if_pos ha,kst_all (n+1) b.1 λx l o=>(C.mem x).mp (zm9 ha x l (by lia))];rw[if_neg ha];have J:=zpD B e;have N:loH b=(b.1,(n:Int)):=dR rfl (by show b.2 - 1=n;lia);have L:IsBk bits (loH b).1 (loH b).2:=B.low (by lia);have v:IsBk bits (upH b).1 (upH b).2:=by have:=B.up (by lia);have I:b.1+2 ^ b.2.toNat / 2=(upH b).1:=(B.x1 (by lia)).symm;rw[I]at this;exact this
  rw[Vb u C w n (loH b) L (by show b.2 - 1=n;lia),Vb u C w n (upH b) v (by show b.2 - 1=n;lia),J];rfl
theorem zqy(l:0<=bits):IsBk bits 0 bits:=⟨l,aM _,0,aM _,by simp,Bd.JM _⟩
theorem V6(l:0<=bits)(C:CanP Z ps)(w:∀x,Z x->0<=x/\x<2 ^ bits.toNat):ze3 bits ps=(kst Z bits.toNat 0).1:=by unfold ze3;rw[Vb l C w bits.toNat (0,bits) (zqy l) (by show bits=_;lia)]
theorem zl5{rs:RL}(h:∀r∈rs,IsBk bits r.1.1 r.1.2/\(r.2=0\/r.2=1))(nd:(rs.map (·.1)).Nodup):Rok rs:=⟨λr l=>⟨Zk (h r l).1,(h r l).2⟩,nd⟩
theorem zj2{rs:RL}(l:0<=bits)(h:∀r∈rs,IsBk bits r.1.1 r.1.2):UV bits.toNat rs:=λr o=>by have B:=h r o;have b:=B.bounds l;have:=Bd.JM r.1.2.toNat;exact⟨by have:=B.2.1;lia,b.1,by lia⟩
theorem zoY(l:0<=bits)(C:CanP Z ps)(w:∀x,Z x->0<=x/\x<2 ^ bits.toNat){rs:RL}(R:Rok rs)(I:UV bits.toNat rs)(h:∀x,0<=x->x<2 ^ bits.toNat->(SgX rs x 1↔Z x)):ze3 bits ps<=(rs.length:Int):=by rw[V6 l C w];exact zl4 R I h
theorem zqJ{p q:Int×Int}{l:BL}(P:l.Pairwise λa b=>eB a<=b.1)(o:p∈l)(u:q∈l){x:Int}(v:inb p x)(y:inb q x):p=q:=by
 induction l with
 | nil=>cases o
 | cons a l C =>rw[cC]at P;unfold inb at v y;rcases aE.mp o with rfl|o <;> rcases aE.mp u with rfl|u;rfl;have:=P.1 q ‹q∈l›;lia;have:=P.1 p ‹p∈l›;lia;exact C P.2 o u
theorem zmO(G:0<=bits)(C:CanP Z ps)(w:∀x,Z x->0<=x/\x<2 ^ bits.toNat){l:BL}(P:Ptc bits l)(L:∀x,mB x l↔Z x):ze3 bits ps<=(l.length:Int):=by
 have nd:((l.map λp=>(p,(1:Int))).map (·.1)).Nodup:=by rw[cy];show(l.map λp=>p).Nodup;rw[List.map_id''];refine P.2.imp λ{a b} h e=>?_;have:=Bd.JM a.2.toNat;rw[e]at h;unfold eB at h;rw[e]at this;lia;intro;rfl
 have mem:∀r∈l.map λp=>(p,(1:Int)),r.1∈l/\r.2=1:=λr v=>by obtain⟨p,y,rfl⟩:=aY.mp v;exact⟨y,rfl⟩
 have:=zoY G C w (rs:=l.map λp=>(p,1)) (zl5 (bits:=bits) (λr v=>⟨P.1 _ (mem r v).1,.inr (mem r v).2⟩) nd) (zj2 G λr v=>P.1 _ (mem r v).1) λx h0 S=>by rw[<- L x];constructor;rintro(⟨e,_⟩|⟨r,v,I,_⟩);lia;exact⟨r.1,(mem r v).1,I.1,I.2⟩;rintro⟨p,y,p1,p2⟩;refine .inr ⟨(p,1),aY.mpr ⟨p,y,rfl⟩,⟨p1,p2⟩,rfl,λq R J=>?_⟩;have:=zqJ P.2 y (mem q R).1 ⟨p1,p2⟩ J;show p.2<=q.1.2;rw[this];exact aM _
 simpa using this
end
theorem ZY:∀{o:List Int},o.Pairwise (·<·)->∀q∈o.zip o.tail,q.1∈o/\q.2∈o/\q.1<q.2/\∀e∈o,e<=q.1\/q.2<=e
 | [],_,q,h=>by simp at h
 | [a],_,q,h=>by simp at h
 | a::b::o,p,q,h=>by
  rw[cC]at p;obtain⟨p1,p2⟩:=p;have h':q=(a,b)\/q∈(b::o).zip (b::o).tail:=by simpa using h
  have rest:∀e∈o,b<e:=(cC.mp p2).1;rcases h' with rfl|h';refine⟨.head _,.tail _ (.head _),p1 b (.head _),λe he=>?_⟩;rcases aE.mp he with rfl|he;exact .inl (aM _);rcases aE.mp he with rfl|he;exact .inr (aM _);exact .inr (b8 (rest e he));obtain⟨u,y,x,v⟩:=ZY p2 q h';refine⟨.tail _ u,.tail _ y,x,λe he=>?_⟩;rcases aE.mp he with rfl|he;exact .inl (b8 (p1 _ u));exact v e he
theorem zlw{x:Int}:∀{l:List Int},l.Pairwise (·<·)->(∃a∈l,a<=x)->(∃b∈l,x<b)->∃q∈l.zip l.tail,q.1<=x/\x<q.2
 | [],_,⟨a,o,_⟩,_=>by cases o
 | [c],_,⟨a,o,h1⟩,⟨b,hb,h2⟩=>by rw[aA]at o hb;omega
 | a::b::l,p,h1,h2=>by
  rw[cC]at p;obtain⟨p1,p2⟩:=p;have o:a<=x:=by obtain⟨c,hc,hx⟩:=h1;rcases aE.mp hc with rfl|hc;exact hx;have:=p1 c hc;omega
  by_cases z:x<b;exact⟨(a,b),by simp,o,z⟩;obtain⟨q,v,u⟩:=zlw (x:=x) p2 ⟨b,.head _,by omega⟩ (by obtain⟨c,hc,hx⟩:=h2;rcases aE.mp hc with rfl|hc;omega;exact⟨c,hc,hx⟩);exact⟨q,by simpa using .inr (by simpa using v),u⟩
def Ua(rs:RL):List Int:=rs.flatMap λr=>[r.1.1,eB r.1]
theorem Z8{rs:RL}{x:Int}:x∈Ua rs↔∃r∈rs,x=r.1.1\/x=eB r.1:=by unfold Ua;simp[sU]
theorem zl0{rs:RL}{y:List Int}(E:Edg (Ua rs) y){q:Int×Int}(I:q∈y.zip y.tail){x:Int}(R:q.1<=x)(S:x<q.2)(s:Int):SgX rs x s↔SgX rs q.1 s:=by
 obtain⟨_,_,J,G⟩:=ZY E.1 q I;have key:∀r∈rs,(inb r.1 x↔inb r.1 q.1):=λr o=>by have N:=G r.1.1 ((E.2 _).mpr (Z8.mpr ⟨r,o,.inl rfl⟩));have L:=G (eB r.1) ((E.2 _).mpr (Z8.mpr ⟨r,o,.inr rfl⟩));unfold inb;omega
 unfold SgX;constructor;rintro(⟨e,h⟩|⟨r,o,C,e,m⟩);exact .inl ⟨e,λr o z=>h r o ((key r o).mpr z)⟩;exact .inr ⟨r,o,(key r o).mp C,e,λv u z=>m v u ((key v u).mpr z)⟩;rintro(⟨e,h⟩|⟨r,o,C,e,m⟩);exact .inl ⟨e,λr o z=>h r o ((key r o).mp z)⟩;exact .inr ⟨r,o,(key r o).mpr C,e,λv u z=>m v u ((key v u).mp z)⟩
theorem zoO{rs:RL}{o:List Int}(E:Edg (Ua rs) o){x:Int}(h:SgX rs x 1):∃q∈o.zip o.tail,q.1<=x/\x<q.2:=by rcases h with⟨e,_⟩|⟨r,v,u,_,_⟩;omega;exact zlw E.1 ⟨_,(E.2 _).mpr (Z8.mpr ⟨r,v,.inl rfl⟩),u.1⟩ ⟨_,(E.2 _).mpr (Z8.mpr ⟨r,v,.inr rfl⟩),u.2⟩
theorem zic{rs:RL}:(Ua rs).length=2*rs.length:=by
 unfold Ua;induction rs with
 | nil=>rfl
 | cons r rs o=>rw[rV,aW,o,aL];simp;omega
theorem zpN:∀{o acc:List Int},o.Nodup->(∀x∈o,x∈acc)->o.length<=acc.length
 | [],_,_,_=>eD _
 | a::o,acc,nd,h=>by rw[cH]at nd;have u:=h a (.head _);have:=zpN (acc:=acc.erase a) nd.2 λx hx=>(lh (λ(e:x=a)=>nd.1 (e▸hx))).mpr (h x (.tail _ hx));rw[iN u]at this;have pos:0<acc.length:=kG u;rw[aL];omega
theorem zrM{acc l:List Int}(E:Edg acc l):l.length<=acc.length:=zpN (E.1.imp λh=>Int.ne_of_lt h) λx hx=>(E.2 x).mp hx
section
variable{g:DTG}{tt:DTT}{te:DTE}{ρ0:En}{x:af}{xs:qD}{acc:List Int}{n:Nat}{R:List Int->Nat->Prop}
instance zxr:Stp (Zg g tt te ρ0 (x::xs) acc n R) (g x ρ0 λρ1=>tt ρ1 n λb n2=>if b=be then te ρ1 n2 λt n3=>∃j,t=.int j/\acc.length<4000/\Zg g tt te ρ0 xs (acc++[j]) n3 R else Zg g tt te ρ0 xs acc n2 R):=⟨λh=>h⟩
instance zxq:Stp (Zg g tt te ρ0 [] acc n R) (R acc n):=⟨λh=>h⟩
end
open Classical in
noncomputable def sB (ps:BL) (a:Int) (b:Int×Int):Int:=if Prt ps b then sgn a (zbg ps (b.2 - 1).toNat (loH b)) (zbg ps (b.2 - 1).toNat (upH b)) else if HasN ps b then 0 else 1
def par(b:Int×Int):Int×Int:=(b.1 / 2 ^ (b.2+1).toNat*2 ^ (b.2+1).toNat,b.2+1)
noncomputable def aS (ps:BL):Nat->Int×Int->Int
 | 0,_=>0
 | m+1,b=>sB ps (aS ps m (par b)) (par b)
noncomputable def aF (bits:Int) (ps:BL) (b:Int×Int):Int:=aS ps (bits - b.2).toNat b
noncomputable def sF (bits:Int) (ps:BL) (b:Int×Int):Int:=sB ps (aF bits ps b) b
theorem zsB{a:Int}{x y:Int×Int}:sgn a x y=0\/sgn a x y=1:=by unfold sgn;split <;> split <;> simp
theorem zsS{ps:BL}{a:Int}{b:Int×Int}:sB ps a b=0\/sB ps a b=1:=by unfold sB;split;exact zsB;split <;> simp
section
variable{bits:Int}{ps bs:BL}{Z:Int->Prop}
theorem zu1{b:Int×Int}:aF bits ps b=0\/aF bits ps b=1:=by
 unfold aF;cases(bits - b.2).toNat with
 | zero=>exact .inl rfl
 | succ m=>exact zsS
theorem zn7:aF bits ps (0,bits)=0:=by unfold aF;rw[show(bits - (0,bits).2).toNat=0 by show(bits - bits).toNat=0;lia];rfl
theorem Vx{b c:Int×Int}(B:IsBk bits b.1 b.2)(h:1<=b.2)(hc:c=loH b\/c=upH b):aF bits ps c=sF bits ps b:=by
 have u:c.2=b.2 - 1:=by rcases hc with rfl|rfl <;> rfl
 have l:par c=b:=by unfold par;rw[u,show b.2 - 1+1=b.2 by lia];refine dR ?_ rfl;show c.1 / 2 ^ b.2.toNat*2 ^ b.2.toNat=b.1;rcases hc with rfl|rfl;obtain⟨_,_,k,_,e,_⟩:=B;show b.1 / 2 ^ b.2.toNat*2 ^ b.2.toNat=b.1;rw[e,gx _ (by have:=Bd.JM b.2.toNat;lia)];exact B.x3 (by lia)
 unfold aF;have v:=B.2.1;rw[show(bits - c.2).toNat=(bits - b.2).toNat+1 by lia,aS,l];rfl
theorem PInv.desc(b0:0<=bits)(I:PInv bits ps bs bs.length):∀(k:Nat) (c b:Int×Int),c∈bs->b∈bs->b.1<=c.1->c.1<eB b->c.2+(k:Int)+1=b.2->Prt ps b:=by
  intro k;induction k using tV with|ind k S =>
  intro c b hc G J Y l;have B:=I.bk b G;have Cb:=I.bk c hc;rcases I.par c hc with rfl|⟨j,p,hj,v,pp,z⟩;have:=B.2.1;dsimp only at l;lia;have P:=I.bk p (ax v);have p1:=pp.pos P;have e2:c.2=p.2 - 1:=by rcases z with rfl|rfl <;> rfl
  have ep:=up_eq P p1;have tp:=Bd.JM (p.2 - 1).toNat;have R:(2:Int) ^ p.2.toNat=2 ^ (p.2 - 1).toNat+2 ^ (p.2 - 1).toNat:=by rw[show p.2.toNat=(p.2 - 1).toNat+1 by lia];exact QK _
  have u:inb p c.1:=by unfold inb eB;rcases z with rfl|rfl;exact⟨aM _,by show p.1<_;lia⟩;rw[ep];exact⟨by show p.1<=p.1+_;lia,by show p.1+_<_;lia⟩
  cases k with
  | zero =>have:p=b:=UM (Zk P) (Zk B) (by push_cast at l;lia) u ⟨J,Y⟩;rw[<- this];exact pp
  | succ k =>
   refine S k (ig k) p b (ax v) G ?_ ?_ (by push_cast at l;lia);obtain⟨_,x,ex⟩:=Zk P;obtain⟨_,y,C⟩:=Zk B;have L:=Bd.JM p.2.toNat;have U:(2:Int) ^ b.2.toNat=2 ^ (b.2.toNat - p.2.toNat)*2 ^ p.2.toNat:=by rw[<- dM,Nat.sub_add_cancel (by push_cast at l;lia)]
   rw[U,<- bN]at C;have q:=u.2;unfold eB at q;rw[ex]at q ⊢;rw[C]at J ⊢;rcases fC x (y*2 ^ (b.2.toNat - p.2.toNat)) with w|w;have:=a7 (show x+1<=y*2 ^ (b.2.toNat - p.2.toNat) by lia) (b8 L);rw[cE]at this;lia;exact a7 w (b8 L);have:=u.1;lia
theorem Vt{S:Int×Int->Option Int}(l:∀b,b∉bs->S b=bc):∀(n:Nat) (i:Int),(∀c∈bs,¬(i<=c.1/\c.1<i+2 ^ n/\c.2<=(n:Int)))->cnt S n i=0/\∀d x,decT S n i d x=d
 | 0,i,h=>by have e:S (i,0)=bc:=l _ λz=>h _ z ⟨aM _,by show i<i+2 ^ 0;rw[n8];lia,by simp⟩;constructor;unfold cnt;rw[e];rfl;intro d x;unfold decT;rw[e];rfl
 | n+1,i,h=>by have p2:=QK n;have pp:(0:Int)<2 ^ n:=Bd.JM n;have e:S (i,((n+1:Nat):Int))=bc:=l _ λz=>h _ z ⟨aM _,by show i<i+2 ^ (n+1);lia,aM _⟩;obtain⟨u,y⟩:=Vt l n i λc hc z=>h c hc ⟨z.1,by lia,by push_cast;lia⟩;obtain⟨o,v⟩:=Vt l n (i+2 ^ n) λc hc z=>h c hc ⟨by lia,by lia,by push_cast;lia⟩;constructor;unfold cnt;rw[e,u,o];rfl;intro d x;unfold decT;rw[e,y,v];split <;> rfl
theorem zsA{a:Int}{l u:Int×Int}(o:a=0\/a=1):(if sgn a l u=a then(0:Int) else 1)+pk (sgn a l u) l+pk (sgn a l u) u=pk a (jn l u):=by rcases o with rfl|rfl;unfold sgn jn pk;simp only[if_true];by_cases z:l.1+u.1<=l.2+u.2+1;simp only[z,if_true];rw[if_neg (by lia)];lia;simp only[z,if_false,show ¬(1:Int)=0 by decide];rw[if_pos (by lia)];lia;unfold sgn jn pk;simp only[show ¬(1:Int)=0 by decide,if_false];by_cases z:l.2+u.2<=l.1+u.1+1;simp only[z,if_true,show ¬(1:Int)=0 by decide,if_false];rw[if_neg (by lia)];lia;simp only[z,if_false,show ¬(0:Int)=1 by decide,if_true];rw[if_pos (by lia)];lia
theorem zpx(b0:0<=bits)(C:CanP Z ps)(w:∀x,Z x->0<=x/\x<2 ^ bits.toNat)(I:PInv bits ps bs bs.length){S:Int×Int->Option Int}(hS1:∀b∈bs,S b=if sF bits ps b=aF bits ps b then bc else ao (sF bits ps b))(hS2:∀b,b∉bs->S b=bc) :
  ∀(n:Nat) (b:Int×Int),b∈bs->b.2=(n:Int)->(∀x,b.1<=x->x<b.1+2 ^ n->(decT S n b.1 (aF bits ps b) x=1↔Z x))/\cnt S n b.1=pk (aF bits ps b) (kst Z n b.1):=by
  intro n;induction n using tV with|ind n ih =>
  intro b hb y;have B:=I.bk b hb;have e1:eB b=b.1+2 ^ n:=by rw[eB,y];rfl
  have U:(b.1,(n:Int))=b:=dR rfl y.symm;have sb:=hS1 b hb;have gd:(S b).getD (aF bits ps b)=sF bits ps b:=by rw[sb];split;rename_i z;rw[z];rfl;rfl
  have so:(if (S b).isSome then(1:Int) else 0)=if sF bits ps b=aF bits ps b then 0 else 1:=by rw[sb];split <;> simp
  have G:=zu1 (bits:=bits) (ps:=ps) (b:=b);have leaf:¬Prt ps b->(∀x,b.1<=x->x<b.1+2 ^ n->(sF bits ps b=1↔Z x))/\(if sF bits ps b=aF bits ps b then(0:Int) else 1)=pk (aF bits ps b) (kst Z n b.1):=λnp=>by
   by_cases hN:HasN ps b;have s0:sF bits ps b=0:=by unfold sF sB;rw[if_neg np,if_pos hN]
   have nz:∀x,b.1<=x->x<b.1+2 ^ n->¬Z x:=λx u v z=>(V4.mp hN) x u (by lia) ((C.mem x).mpr z);rw[s0,YQ n b.1 nz];refine⟨λx u v=>⟨λz=>by lia,λz=>absurd z (nz x u v)⟩,?_⟩;rcases G with z|z <;> rw[z] <;> rfl;have s1:sF bits ps b=1:=by unfold sF sB;rw[if_neg np,if_neg hN]
   have hA:HasA ps b:=bV λz=>np ⟨hN,z⟩;have az:∀x,b.1<=x->x<b.1+2 ^ n->Z x:=λx u v=>(C.mem x).mp (zm9 hA x u (by lia));rw[s1,kst_all n b.1 az];refine⟨λx u v=>⟨λ_=>az x u v,λ_=>rfl⟩,?_⟩;rcases G with z|z <;> rw[z] <;> rfl
  cases n with
  | zero =>
   have np:¬Prt ps b:=λz=>by have:=z.pos B;push_cast at y;lia
   have Y:(b.1,(0:Int))=b:=U;obtain⟨l1,l2⟩:=leaf np;refine⟨λx u v=>?_,?_⟩;unfold decT;rw[Y,gd];exact l1 x u v;unfold cnt;rw[Y,so];exact l2
  | succ n =>
   have p2:=QK n;have pp:(0:Int)<2 ^ n:=Bd.JM n;by_cases np:Prt ps b;have u:=np.pos B;have el:loH b=(b.1,(n:Int)):=dR rfl (by show b.2 - 1=n;push_cast at y;lia);have eu:upH b=(b.1+2 ^ n,(n:Int)):=zpD B y;obtain⟨j,hj⟩:=dP.mp hb;obtain⟨⟨il,_,J⟩,⟨iu,_,L⟩⟩:=I.kid j b (aw.mp hj).1 hj np;obtain⟨dl,cl⟩:=ih n (ig n) (loH b) (ax J) (by rw[el]);obtain⟨du,R⟩:=ih n (ig n) (upH b) (ax L) (by rw[eu]);rw[Vx B u (.inl rfl)]at dl cl;rw[Vx B u (.inr rfl)]at du R;rw[el]at dl cl;rw[eu]at du R;refine⟨λx u v=>?_,?_⟩;unfold decT;rw[U,gd];by_cases z:x<b.1+2 ^ n;rw[if_pos z];exact dl x u z;rw[if_neg z];exact du x (by show b.1+2 ^ n<=x;lia) (by show x<b.1+2 ^ n+2 ^ n;lia);unfold cnt kst;rw[U,so];have cl:cnt S n b.1=pk (sF bits ps b) (kst Z n b.1):=cl;have R:cnt S n (b.1+2 ^ n)=pk (sF bits ps b) (kst Z n (b.1+2 ^ n)):=R;rw[cl,R];have es:sF bits ps b=sgn (aF bits ps b) (kst Z n b.1) (kst Z n (b.1+2 ^ n)):=by have Bl:=I.bk _ (ax J);have Bu:=I.bk _ (ax L);unfold sF sB;rw[if_pos np,show(b.2 - 1).toNat=n by push_cast at y;lia,Vb b0 C w n (loH b) Bl (by rw[el]),Vb b0 C w n (upH b) Bu (by rw[eu]),el,eu]
   rw[es];exact zsA G;obtain⟨l1,l2⟩:=leaf np;have no:∀c∈bs,¬(b.1<=c.1/\c.1<b.1+2 ^ (n+1)/\c.2<=(n:Int)):=λc hc z=>np (I.desc b0 (b.2 - c.2 - 1).toNat c b hc hb z.1 (by lia) (by push_cast at y;lia));obtain⟨c1,d1⟩:=Vt hS2 n b.1 λc hc z=>no c hc ⟨z.1,by lia,z.2.2⟩;obtain⟨c2,d2⟩:=Vt hS2 n (b.1+2 ^ n) λc hc z=>no c hc ⟨by lia,by lia,z.2.2⟩;refine⟨λx u v=>?_,?_⟩;unfold decT;rw[U,gd,d1,d2];have:=l1 x u v;split <;> exact this;unfold cnt;rw[U,so,c1,c2,<- l2];lia
noncomputable def frB (bits:Int) (ps:BL) (b:Int×Int):Option ((Int×Int)×Int):=open Classical in if sF bits ps b=aF bits ps b then bc else ao (b,sF bits ps b)
theorem zrI{l:BL}{r:(Int×Int)×Int}:r∈l.filterMap (frB bits ps)↔r.1∈l/\sF bits ps r.1≠aF bits ps r.1/\r.2=sF bits ps r.1:=by rw[gK];constructor;rintro⟨b,v,e⟩;unfold frB at e;split at e;cases e;rename_i z;cases e;exact⟨v,z,rfl⟩;rintro⟨o,u,x⟩;exact⟨r.1,o,by unfold frB;rw[if_neg u,<- x]⟩
theorem zuI{l:BL}(nd:l.Nodup):((l.filterMap (frB bits ps)).map (·.1)).Nodup:=by
 rw[rh];refine nG (R:=(·≠·)) _ (λa G h b x C v=>?_) nd;have key:∀{a b:Int×Int},Option.map (·.1) (frB bits ps a)=ao b->b=a:=λ{a b} e=>by unfold frB at e;split at e;cases e;exact(aP e).symm
 rw[key x,key v];exact h
theorem zib(v:0<=bits)(C:CanP Z ps)(w:∀x,Z x->0<=x/\x<2 ^ bits.toNat)(I:PInv bits ps bs bs.length){rs:RL}(pm:rs.Perm (bs.filterMap (frB bits ps))) :
  Rls0 bits rs/\(rs.length:Int)=ze3 bits ps/\∀x,0<=x->x<2 ^ bits.toNat->(SgX rs x 1↔Z x):=by
 have mem:∀r,r∈rs↔r.1∈bs/\sF bits ps r.1≠aF bits ps r.1/\r.2=sF bits ps r.1:=λr=>pm.mem_iff.trans zrI;have nd:(rs.map (·.1)).Nodup:=(pm.map _).nodup_iff.mpr (zuI I.nd);have bk:∀r∈rs,IsBk bits r.1.1 r.1.2:=λr l=>I.bk _ ((mem r).mp l).1;have G:∀r∈rs,r.2=0\/r.2=1:=λr l=>by rw[((mem r).mp l).2.2];exact zsS
 have R:Rok rs:=zl5 (bits:=bits) (λr l=>⟨bk r l,G r l⟩) nd;have In:=zj2 v bk;have J:∀b∈bs,sgAt rs b=if sF bits ps b=aF bits ps b then bc else ao (sF bits ps b):=λb y=>by
  split;rename_i z;cases e:sgAt rs b with
  | none=>rfl
  | some s=>exact absurd z ((mem _).mp (UT e)).2.1
  rename_i z;exact ziB R.2 (r:=(b,sF bits ps b)) ((mem _).mpr ⟨y,z,rfl⟩)
 have L:∀b,b∉bs->sgAt rs b=bc:=λb y=>by
  cases e:sgAt rs b with
  | none=>rfl
  | some s=>exact absurd ((mem _).mp (UT e)).1 y
 have l:(0,bits)∈bs:=ax I.root;obtain⟨d,c⟩:=zpx v C w I J L bits.toNat (0,bits) l (by show bits=_;lia);rw[zn7]at d c;refine⟨⟨λr l=>⟨bk r l,by have:=G r l;lia⟩,nd⟩,?_,λx x0 x1=>?_⟩;rw[<- znM R In,V6 v C w];exact c;rw[zlS R In x0 x1];exact d x x0 (by show x<0+_;lia)
end
def lft(c:Int)(b:Int×Int):Int×Int:=(c+b.1,b.2)
def lftR(c:Int)(r:(Int×Int)×Int):(Int×Int)×Int:=(lft c r.1,r.2)
theorem zr9{n h:Nat}{c:Int}(A:AlnN n c)(l:h<=n):c % 2 ^ h=0:=by obtain⟨k,rfl⟩:=A;obtain⟨q,e⟩:=Ws l;rw[e,b9 (2 ^ h) q,<- bN,rS]
theorem zhC{a b:Nat}(h:(2:Int) ^ a<=2 ^ b):a<=b:=by rcases cj b a with z|z;have:=J1 (show b+1<=a from z);have:=QK b;have:=Bd.JM b;lia;exact z
theorem zi1{n:Nat}{c lo hi:Int}{h:Nat}(A:AlnN n c)(y:0<=lo)(x:hi<=2 ^ n)(G:Qk lo hi h):Qk (c+lo) (c+hi) h:=by
 have o:∀k,k<=n->(c+lo) % 2 ^ k=lo % 2 ^ k:=λk u=>by have:=zr9 A u;rw[nT,this,lO,Int.emod_emod_of_dvd _ (Int.dvd_refl _)]
 obtain⟨g1,g2,g3⟩:=G;have v:h<=n:=zhC (by lia);refine⟨by rw[o h v];exact g1,by lia,λz=>g3 ?_⟩;have l:h+1<=n:=zhC (by have:=z.2;lia);exact⟨by rw[<- o _ l];exact z.1,by have:=z.2;lia⟩
theorem zfN{n:Nat}{c:Int}(A:AlnN n c):∀{bs:BL}{lo hi:Int},0<=lo->hi<=2 ^ n->Jm lo hi bs->Jm (c+lo) (c+hi) (bs.map (lft c))
 | [],lo,hi,_,_,h=>by have:lo=hi:=h;show c+lo=c+hi;lia
 | b::bs,lo,hi,l0,h1,h=>by obtain⟨g1,g2,g3,o,l⟩:=h;have:=Bd.JM b.2.toNat;have i:=zfN A (bs:=bs) (lo:=lo+2 ^ b.2.toNat) (by lia) h1 l;refine⟨by lia,by show c+b.1=_;lia,g3,zi1 A l0 h1 o,?_⟩;show Jm (c+lo+2 ^ b.2.toNat) _ _;rw[Int.add_assoc];exact i
theorem zhG{n:Nat}{c:Int}(A:AlnN n c):∀{rs:List Run}{ps:BL},(∀r∈rs,0<=r.1/\r.2<=2 ^ n)->PatS rs ps->PatS (rs.map λr=>(c+r.1,c+r.2)) (ps.map (lft c))
 | [],ps,_,h=>by have:ps=[]:=h;subst this;rfl
 | r::rs,ps,hr,h=>by obtain⟨a,b,rfl,u,v⟩:=h;have q:=hr r (.head _);exact⟨a.map (lft c),b.map (lft c),gT,zfN A q.1 q.2 u,zhG A (λr o=>hr r (.tail _ o)) v⟩
theorem zmP{c x:Int}{ps:BL}:mB x (ps.map (lft c))↔mB (x - c) ps:=by unfold mB;constructor;rintro⟨b,v,o,u⟩;obtain⟨p,l,rfl⟩:=aY.mp v;unfold lft eB at *;dsimp only at *;exact⟨p,l,by lia,by lia⟩;rintro⟨p,l,o,u⟩;refine⟨lft c p,cG l,?_,?_⟩;show c+p.1<=x;lia;unfold eB at *;show x<c+p.1+2 ^ p.2.toNat;lia
theorem zll{n:Nat}{c:Int}(A:AlnN n c){Z:Int->Prop}{ps:BL}(C:CanP Z ps)(w:∀x,Z x->0<=x/\x<2 ^ n):CanP (λx=>Z (x - c)) (ps.map (lft c)):=by
 obtain⟨rs,v,y,J⟩:=C;have u:∀r∈rs,0<=r.1/\r.2<=2 ^ n:=λr u=>by have lt:=v.1 r u;have a:=w r.1 ((y _).mp ⟨r,u,aM _,lt⟩);have b:=w (r.2 - 1) ((y _).mp ⟨r,u,by lia,by lia⟩);lia
 refine⟨rs.map λr=>(c+r.1,c+r.2),⟨?_,?_⟩,λx=>?_,zhG A u J⟩;intro r l;obtain⟨q,o,rfl⟩:=aY.mp l;have:=v.1 q o;show c+q.1<c+q.2;lia;exact dN.mpr (v.2.imp λ{a b} h=>by show c+a.2<c+b.1;lia);show _↔Z (x - c);rw[<- y];unfold mR;constructor;rintro⟨r,l,I,G⟩;obtain⟨q,o,rfl⟩:=aY.mp l;dsimp only at I G;exact⟨q,o,by lia,by lia⟩;rintro⟨q,o,I,G⟩;exact⟨_,cG o,by show c+q.1<=x;lia,by show x<c+q.2;lia⟩
theorem zhq{c a s:Int}{rs:RL}:SgX (rs.map (lftR c)) (c+a) s↔SgX rs a s:=by
 have key:∀b:Int×Int,inb (lft c b) (c+a)↔inb b a:=λb=>by unfold inb eB lft;dsimp only;lia
 unfold SgX;constructor;rintro(⟨e,h⟩|⟨r,u,x,e,m⟩);exact .inl ⟨e,λr u z=>h (lftR c r) (cG u) ((key _).mpr z)⟩;obtain⟨q,v,rfl⟩:=aY.mp u;exact .inr ⟨q,v,(key _).mp x,e,λy o z=>m (lftR c y) (cG o) ((key _).mpr z)⟩;rintro(⟨e,h⟩|⟨r,u,x,e,m⟩);refine .inl ⟨e,λr u z=>?_⟩;obtain⟨q,v,rfl⟩:=aY.mp u;exact h q v ((key _).mp z);refine .inr ⟨lftR c r,cG u,(key _).mpr x,e,λy o z=>?_⟩;obtain⟨q,v,rfl⟩:=aY.mp o;exact m q v ((key _).mp z)
theorem zn2{bits wide c:Int}{b:Int×Int}(G:0<=bits)(I:bits<=wide)(C:IsBk wide c bits)(B:IsBk bits b.1 b.2):IsBk wide (lft c b).1 (lft c b).2:=by
 obtain⟨_,_,k,v,y,L⟩:=C;obtain⟨h0,R,j,S,l,J⟩:=B;have x:(2:Int) ^ bits.toNat=2 ^ (bits - b.2).toNat*2 ^ b.2.toNat:=by rw[<- dM];congr 1;lia
 refine⟨h0,by show b.2<=wide;lia,k*2 ^ (bits - b.2).toNat+j,?_,?_,?_⟩;have:=ui v (b8 (Bd.JM (bits - b.2).toNat));lia;show c+b.1=_;rw[y,l,x,cE,bN];rfl;show _<2 ^ (wide - b.2).toNat;have u:(2:Int) ^ (wide - b.2).toNat=2 ^ (wide - bits).toNat*2 ^ (bits - b.2).toNat:=by rw[<- dM];congr 1;lia
 have:=a7 (show k+1<=2 ^ (wide - bits).toNat by lia) (b8 (Bd.JM (bits - b.2).toNat));rw[cE]at this;rw[u];lia
theorem zmN{bits wide c:Int}{ps qs:BL}{Z:Int->Prop}(u:0<=bits)(y:bits<=wide)(l:IsBk wide c bits)(C:CanP Z ps)(w:∀x,Z x->0<=x/\x<2 ^ bits.toNat)(D:CanP (λx=>Z (x - c)) qs):ze3 wide qs=ze3 bits ps:=by
 have bd:=l.bounds (by lia);have A:AlnN bits.toNat c:=let ⟨k,_,e,_⟩:=l.2.2;⟨k,e⟩;have v:∀x,Z (x - c)->0<=x/\x<2 ^ wide.toNat:=λx h=>by have:=w _ h;lia
 rw[V6 u C w,V6 (by lia) D v];have o:wide.toNat=bits.toNat+(wide.toNat - bits.toNat):=by lia
 rw[o,zgO A (λx h z=>by have:=w _ z;lia) (wide.toNat - bits.toNat) 0 ⟨0,by simp⟩ bd.1 (by rw[<- o];have:=Bd.JM bits.toNat;lia)];have:=ze8 (Z:=Z) c bits.toNat 0;rw[lO]at this;rw[this]
open Bd in
theorem zj_{m:Nat}{x y:Int}(u:0<=y)(l:y<2 ^ m):∀k:Nat,figL (k+m) (x*2 ^ m+y)=figL k x++figL m y
 | 0=>by
  rw[cY];show figL m _=figL m y;unfold figL;refine gq λj o=>?_;have o:j<m:=hW.mp o;have e:(2:Int) ^ m=2 ^ (j+1)*2 ^ (m - 1 - j):=by rw[<- dM];congr 1;lia
  have pp:=Bd.JM (m - 1 - j);rw[e,<- bN,nN,kA _ _ (by lia),bL,<- bN];congr 2;lia
 | k+1=>by
  rw[show k+1+m=k+m+1 by lia,Wn,Wn,zj_ u l k,dG];congr 3;have e:(2:Int) ^ (k+m)=2 ^ m*2 ^ k:=by rw[<- dM];congr 1;lia
  have pp:=Bd.JM m;rw[e,<- kb (by lia),nN,kA _ _ (by lia),nP u l,lO]
open Bd in
theorem zpw{bits wide c:Int}{b:Int×Int}(u:0<=bits)(L:bits<=wide)(C:IsBk wide c bits)(B:IsBk bits b.1 b.2):figL (wide - bits).toNat (c / 2 ^ bits.toNat)++begL bits b.1 b.2=begL wide (c+b.1) b.2:=by
 obtain⟨_,_,k,R,G,S⟩:=C;have bd:=B.bounds u;obtain⟨h0,U,j,I,l,v⟩:=B;have y:(2:Int) ^ bits.toNat=2 ^ (bits - b.2).toNat*2 ^ b.2.toNat:=by rw[<- dM];congr 1;lia
 have J:=Bd.JM bits.toNat;have Y:=Bd.JM b.2.toNat;unfold begL;rw[<- bu,G,gx _ (by lia),l,gx _ (by lia)];have x:(k*2 ^ bits.toNat+j*2 ^ b.2.toNat) / 2 ^ b.2.toNat=k*2 ^ (bits - b.2).toNat+j:=by rw[y,<- bN,<- cE,gx _ (by lia)]
 rw[x,show(wide - b.2).toNat=(wide - bits).toNat+(bits - b.2).toNat by lia,zj_ I v]
end L2
namespace Bd
open PySem L2
def top(i:Nat):fA:=PySem.Challenge.pw_blockdeal_k60_whole_in_a_wider_row.main.body.getD i (.Pass ⟨0,0,0,0⟩)
abbrev DQ(Z:ZZ)(x:Str)(i:Nat)(ps:List Str):Prop:=Dq Z.K Z.mg x (top i) ps
abbrev QF(Z:ZZ)(x:Str)(i:Nat)(ps:List Str)(k m:Nat)(g:GD):Prop:=FQ Z x (top i) ps k (spD Z.K m g)
set_option maxHeartbeats 4000000
local macro_rules | `(tactic| walk_at "S") => `(tactic| first | with_reducible refine zku ?_ | with_reducible refine Stp.go ?_ | with_reducible refine j_all (by with_unfolding_all rfl) ?_ | with_reducible refine j_any (by with_unfolding_all rfl) ?_ | with_reducible refine zpY (by with_unfolding_all rfl) ?_ | with_reducible refine zpZ (by with_unfolding_all rfl) ?_ | with_reducible refine zj4 (by with_unfolding_all rfl) ?_ | with_reducible refine zj3 (by with_unfolding_all rfl) ?_)
set_option hygiene false in
local macro_rules | `(tactic| walk_at "K") => `(tactic| first | walk_at "S" | with_reducible refine zuh (λhc => ?_) (λhc => ?_) | with_reducible refine zw9 (λhc => ?_) (λhc => ?_) | with_reducible refine And.intro ?_ ?_)
set_option hygiene false in
local macro_rules | `(tactic| wp_walk using $ts:term,*) => `(tactic| repeat' (first $[| with_reducible refine $ts:term]* | walk_at "K"))
local macro_rules | `(tactic| wp_walk) => `(tactic| repeat' walk_at "K")
structure Txt(mg:qM):Prop where
 isi:mg "isinstance" = bc
 int:mg "int" = bc
 boo:mg "bool" = bc
 tup:mg "tuple" = bc
 len:mg "len" = bc
 min:mg "min" = bc
 max:mg "max" = bc
 str:mg "str" = bc
 rep:mg "repr" = bc
 all:mg "all" = bc
 any:mg "any" = bc
 ran:mg "range" = bc
 sum:mg "sum" = bc
 srt:mg "sorted" = bc
 lst:mg "list" = bc
 abs:mg "abs" = bc
 zip:mg "zip" = bc
 dct:mg "dict" = bc
 rev:mg "reversed" = bc
 enu:mg "enumerate" = bc
 vae:mg "ValueError" = bc
section
open PySem.W PyProof.Rows
def pw:aQ:=PySem.Challenge.pw_blockdeal_k60_whole_in_a_wider_row
def zwG:fA->Bool
 | .FunctionDef ..=>true
 | .ClassDef ..=>true
 | .Assign [.Name x _] _ _=>!(x == aH "__name__")
 | _=>false
def qv:aQ:={ pw with main:={ pw.main with body:=pw.main.body.filter zwG } }
theorem zqC:recsOf qv=(pw.main.body.filter VP).map recD:=by kernel_rfl
theorem zpS{i:Nat}(h:VP (top i)=be):recD (top i)∈recsOf qv:=by rw[zqC];exact cG (fw.mpr ⟨getD_mem h,h⟩)
theorem dqG{i:Nat}{x:Str}{ps:List Str}{v:tZ->Option ah}{mg C:qM}{h:bz}(T:kU qv (looseW qv []) v mg C h)(y:BndA x (top i) ps:=by first|exact bnd1 λ_ _ _ _ _ _ _=>rfl|exact bnd2 λ_ _ _ _ _ _ _ _=>rfl|exact bnd3 λ_ _ _ _ _ _ _ _ _=>rfl|exact l λ_ _ _ _ _ _ _ _ _ _=>rfl)(o:VP (top i)=be:=by kernel_rfl)(u:defName (top i)=x:=by kernel_rfl):Dq (Qb h) mg x (top i) ps:=dq_g T (zpS o) u y
def zuG:List Str:=[aH "isinstance",aH "int",aH "bool",aH "tuple",aH "len",aH "min",aH "max",aH "str",aH "repr",aH "all",aH "any",aH "range",aH "sum",aH "sorted",aH "list",aH "abs",aH "zip",aH "dict",aH "reversed",aH "enumerate",aH "ValueError"]
def zuH(x:Str):Bool:=!startupNames.contains x&&!(looseW qv []).contains x&&!((recsOf qv).map (·.name)).contains x&&!((litsOf qv).map (·.1)).contains x&&!((clssOf qv (looseW qv [])).map (·.name)).contains x
theorem zrG:zuG.all zuH=be:=by kernel_rfl
theorem zrH{l:tZ->Option ah}{mg o:qM}{h:bz}(T:kU qv (looseW qv []) l mg o h){x:Str}(m:x∈zuG):mg x=bc:=by have e:=dF.mp zrG x m;unfold zuH at e;simp only[cA,fk,List.contains_eq_mem,decide_eq_false_iff_not]at e;obtain⟨⟨⟨⟨a,b⟩,c⟩,d⟩,f⟩:=e;exact T.free x a b c d f
theorem zsn{l:tZ->Option ah}{mg o:qM}{h:bz}(T:kU qv (looseW qv []) l mg o h):Txt mg:=by constructor <;> exact zrH T (List.contains_iff_mem.mp (by kernel_rfl))
theorem zqt:PySem.Challenge.rw_blockdeal_k60_whole_in_a_wider_row.wellSaid=be:=by kernel_rfl
theorem ztH(w:bg)(os:rZ):(Uq treeTable pw w 11 ((dQ (w).params).nsMap mainGlobals "__annotations__") 20000 (zln w os) (topStub pw)).map (λs=>(Vo pw (dQ (w).params) s.abs,(yL kW) s.abs))=ao (be,(yM kW) w):=by kernel_rfl
theorem ztG(w:bg)(os:rZ):(Uq treeTable pw w 11 ((dQ (w).params).nsMap mainGlobals "__annotations__") 20000 (zln w os) (topStub pw)).map (λs=>(openSeen qv [] (importedModules pw.main.body) (λs=>xlAt qv [] s&&recOk (n9 PySem.Challenge.rw_blockdeal_k60_whole_in_a_wider_row.row.toRowW) s) be s.abs).1)=ao (openGood qv []).1:=by kernel_rfl
theorem ztF(w:bg)(os:rZ):(Uq treeTable pw w 11 ((dQ (w).params).nsMap mainGlobals "__annotations__") 20000 (zln w os) (topStub pw)).map (λs=>(openSeen qv [] (importedModules pw.main.body) (λs=>xlAt qv [] s&&recOk (n9 PySem.Challenge.rw_blockdeal_k60_whole_in_a_wider_row.row.toRowW) s) be s.abs).2)=ao (openGood qv []).2:=by kernel_rfl
theorem zwF(w:bg)(os:rZ):(Uq treeTable pw w 11 ((dQ (w).params).nsMap mainGlobals "__annotations__") 20000 (zln w os) (topStub pw)).map (λs=>(Vo pw (dQ (w).params) s.abs,openSeen qv [] (importedModules pw.main.body) (λs=>xlAt qv [] s&&recOk (n9 PySem.Challenge.rw_blockdeal_k60_whole_in_a_wider_row.row.toRowW) s) be s.abs,(yL kW) s.abs))=ao (be,openGood qv [],(yM kW) w):=map3 (ztH w os) (ztG w os) (ztF w os)
theorem zri:LeftO pw qv [] (λs=>xlAt qv [] s&&recOk (n9 PySem.Challenge.rw_blockdeal_k60_whole_in_a_wider_row.row.toRowW) s) (yL kW) (yM kW) 20000:=zmV (by kernel_rfl) (by decide) (λ_=>rfl) (zwF)
end
section
variable{P:aQ}{w:bg}{K:qF}{mg:qM}{base:bz}{Z:ZZ}
inductive zfh:qD->Nat->qN->Prop
 | c {i h:Int} {n:Nat} {R:qN} (g0:0<=h) (g1:h<=1000) (h':R (.int (2 ^ h.toNat)) n):zfh [.tuple [.int i,.int h]] n R
def zhy(Z:ZZ):Prop:=QF Z "size_of" 1 ["block"] 1 1 zfh
theorem zkE(D:DQ Z "size_of" 1 ["block"]) (T:Txt Z.mg):zhy Z:=by refine' okN ["block"] D λl=>⟨_,(Jc (Je (J6 dli (dl (Jf (dlv 0) dli))))),?_⟩;rintro ts n R hl @⟨i,h,n,R,g0,g1,hh⟩;wp_walk;exact cpow (by lia) (by lia);rw[UB];exact hh
inductive Z7:qD->Nat->qN->Prop
 | c {i h g:Int} {n:Nat} {R:qN} (g0:0<=g) (g1:g<=1000) (i0:0<=i) (i1:i<2 ^ 64) (h':R (.tuple [.int (i / 2 ^ g.toNat*2 ^ g.toNat),.int g]) n):Z7 [.tuple [.int i,.int h],.int g] n R
def zgv(Z:ZZ):Prop:=QF Z "around" 4 ["block","height"] 1 2 Z7
theorem zmF(D:DQ Z "around" 4 ["block","height"]) (T:Txt Z.mg):zgv Z:=by refine' okN ["block","height"] D λl=>⟨_,(Jc (Je (Jk (dbc (J6 (dl (zp9 (dl (Jf (dlv 0) dli)) (dlv 1))) (dlv 1)) (dbv 1 Ja))))),?_⟩;rintro ts n R hl @⟨i,h,g,n,R,g0,g1,i0,i1,hh⟩;simp only[ZH,ZG,ZI,Zv,u_dC,Zi,Zr,Zt,Zs,ZS,Zh,Vd,Vf,ZV,ZU,Ve,Zu,ZF,YM,Yu,Yv,YK,YL,Yw,YV,U1,U2,oSub,oMul,oMod,Uf,oShl,oShr,oXor,oAnd,isNone,l_gI,Zd,Yo,Yx,Yy,Yg,Yh,U6,U5,U8,U9,U7,YH,YS,Yk,Yj,YC,YD,YE,YA,YB,YF,YG,Yp,Yq,Ye,U4,U3,Yz,Yb,YT,YI,YR,UA,JW,JI,capV,aU,eN,aL,cz,eT,gy,dG,fz,cf,eE,fv,fM,gR,gz,gA,cY,Nat.reduceAdd,Nat.reduceSub,kN,true_and,and_true,aK,if_true,if_false,ite_true,ite_false,fe,fN,iC];refine⟨g0,⟨g0,by lia,?_⟩,hh⟩;have:i / 2 ^ g.toNat<=i:=Int.ediv_le_self _ i0;have:0<=i / 2 ^ g.toNat:=om i0 (b8 (JM _));lia
inductive zi3:qD->Nat->qN->Prop
 | c {i h j g:Int} {n:Nat} {R:qN} (h0:0<=h) (h1:h<=1000) (j0:0<=j) (j1:j<2 ^ 64) (h':R (.bool (hldD i h j g)) n):zi3 [.tuple [.int i,.int h],.tuple [.int j,.int g]] n R
def zmd(Z:ZZ):Prop:=QF Z "holds" 2 ["one","other"] 2 2 zi3
theorem zoQ(D:DQ Z "holds" 2 ["one","other"]) (o:zgv Z) (T:Txt Z.mg):zmd Z:=by refine' okN ["one","other"] D λl=>⟨_,(Jc (Je (zrT (QX ztx gp_B (dl (Jf (dlv 0) dli)) (dl (Jf (dlv 1) dli)) (Jj _)) (znw (QX (Zz l) Y5 (dl (Jd o l (dbv 1 (dbc (Jf (dlv 0) dli) Ja)))) (dlv 0) (Jj _)))))),?_⟩;rintro ts n R hl @⟨i,h,j,g,n,R,g0,g1,j0,j1,hh⟩;unfold hldD at hh;wp_walk using Z7.c g0 g1 j0 j1 ?_;exact UA;exact UA;rw[decide_eq_true hc,kY]at hh;rw[zpe];simpa using hh;rw[decide_eq_false hc,lT]at hh;exact hh
inductive zcv:qD->Nat->qN->Prop
 | c {i h:Int} {n:Nat} {R:qN} (g0:0<=h) (g1:h<=1000) (h':R (.tuple [.int (dh i (2 ^ h.toNat)),.int h]) n):zcv [.tuple [.int i,.int h]] n R
def zd7(Z:ZZ):Prop:=QF Z "other_half" 5 ["block"] 1 1 zcv
theorem zgz(D:DQ Z "other_half" 5 ["block"]) (T:Txt Z.mg):zd7 Z:=by refine' okN ["block","begin","height"] D λl=>⟨_,(Jb (Uk (Jh 0) (JU rfl (Jp (dgv 1 (ndB rfl)) (Jp (dgv 2 (ndB rfl)) JP)))) (Jc (Je (Jk (dbc (zp8 (dlv 1) (dl (J6 dli (dlv 2)))) (dbv 2 Ja)))))),?_⟩;rintro ts n R hl @⟨i,h,n,R,g0,g1,hh⟩;simp only[ZH,ZG,ZI,Zv,u_dC,Zi,Zr,Zt,Zs,ZS,Zh,Vd,Vf,ZV,ZU,Ve,Zu,ZF,YM,Yu,Yv,YK,YL,Yw,YV,U1,U2,oSub,oMul,oMod,Uf,oShl,oShr,oXor,oAnd,isNone,l_gI,Zd,Yo,Yx,Yy,Yg,Yh,U6,U5,U8,U9,U7,YH,YS,Yk,Yj,YC,YD,YE,YA,YB,YF,YG,Yp,Yq,Ye,U4,U3,Yz,Yb,YT,YI,YR,UA,JW,JI,capV,aU,eN,aL,cz,eT,gy,dG,fz,cf,eE,fv,fM,gR,gz,gA,cY,Nat.reduceAdd,Nat.reduceSub,kN,true_and,and_true,aK,if_true,if_false,ite_true,ite_false,fe,fN,iC];refine⟨cpow g0 (by lia),?_⟩;rw[cR];exact hh
inductive Uy:qD->Nat->qN->Prop
 | c {i h:Int} {n:Nat} {R:qN} (g0:1<=h) (g1:h<=1000) (h':R (.tuple [.tuple [.int i,.int (h - 1)],.tuple [.int (dh i (2 ^ (h - 1).toNat)),.int (h - 1)]]) n):Uy [.tuple [.int i,.int h]] n R
def Wa(Z:ZZ):Prop:=QF Z "halves" 3 ["block"] 2 1 Uy
theorem zmC(D:DQ Z "halves" 3 ["block"]) (o:zd7 Z) (T:Txt Z.mg):Wa Z:=by refine' okN ["block","begin","height","lower"] D λl=>⟨_,(Jb (Uk (Jh 0) (JU rfl (Jp (dgv 1 (ndB rfl)) (Jp (dgv 2 (ndB rfl)) JP)))) (Jb (dsv 3 (ndB rfl) (Jk (dbv 1 (dbc (J0 (dlv 2) dli) Ja)))) (Jc (Je (Jk (dbv 3 (dbc (Jd o l (dbv 3 Ja)) Ja))))))),?_⟩;rintro ts n R hl @⟨i,h,n,R,g0,g1,hh⟩;wp_walk using zcv.c ?_ ?_ ?_;lia;lia;exact hh
inductive Q3:qD->Nat->qN->Prop
 | c {i h:Int} {n:Nat} {R:qN} (g0:0<=h) (g1:h<=1000) (h':R (.int (i+2 ^ h.toNat)) n):Q3 [.tuple [.int i,.int h]] n R
def US(Z:ZZ):Prop:=QF Z "end_of" 16 ["block"] 2 1 Q3
theorem zmE(D:DQ Z "end_of" 16 ["block"]) (l:zhy Z) (T:Txt Z.mg):US Z:=by refine' okN ["block"] D λo=>⟨_,(Jc (Je (Jz (dl (Jf (dlv 0) dli)) (dl (Jd l o (dbv 0 Ja)))))),?_⟩;rintro ts n R hl @⟨i,h,n,R,g0,g1,hh⟩;wp_walk using zfh.c ?_ ?_ ?_;lia;lia;exact hh
theorem zle{hi:Int}(h:0<hi):Qk 0 hi hi.toNat.log2:=⟨by simp,by have:=zmU h;lia,λz=>by have:=zmR h;have:=z.2;lia⟩
theorem zm_{lo hi:Int}{t:Nat}(h:lo<hi)(u:lo % 2 ^ t=0)(v:¬lo % 2 ^ (t+1)=0):Qk lo hi (min (hi - lo).toNat.log2 t):=by have a:=zmU (i:=hi - lo) (by lia);have b:=zmR (i:=hi - lo) (by lia);rcases xa (hi - lo).toNat.log2 t with z|z;rw[tK z];exact⟨UU z u,a,λy=>by have:=y.2;lia⟩;rw[Nat.min_eq_right z];exact⟨u,eP (J1 z) a,λy=>v y.1⟩
theorem zo0(t:Nat):((2:Int) ^ t).toNat.log2=t:=by
 have e:((2:Int) ^ t).toNat=2 ^ t:=by
  have:((2 ^ t:Nat):Int)=(2:Int) ^ t:=by rw[gU];rfl
  rw[<- this];rfl
 rw[e,Nat.log2_two_pow]
inductive za_:qD->Nat->qN->Prop
 | c {lo hi:Int} {n:Nat} {R:qN} (l0:0<=lo) (l1:lo<hi) (h:∀g:Nat,Qk lo hi g->R (.int g) n):za_ [.int lo,.int hi] n R
def zbT(Z:ZZ):Prop:=QF Z "greatest_height" 17 ["begin","high"] 1 2 za_
theorem zdr(D:DQ Z "greatest_height" 17 ["begin","high"]) (T:Txt Z.mg):zbT Z:=by
 refine' okN ["begin","high","room"] D λv=>⟨_,(Jb (dsv 2 (ndB rfl) (J0 (dl (zih (dl (J0 (dlv 1) (dlv 0))))) dli)) (Jb (Jw (Jn (Zz v) Y5 (dlv 0) dli (Jj _)) (Jc (Je (Jh 2))) JB) (Jc (Je (JF (UQ rfl) UH T.min Ut (Ji (dlv 2) (Ji (dl (J0 (dl (zih (dl (zqc (dlv 0) (dl (Yl (Jh 0))))))) dli)) Jq Zq) JD)))))),?_⟩;intro ts n R x h;obtain @⟨lo,hi,n,R,l0,l1,h⟩:=h;have room:=zfd (i:=hi - lo) (by lia);wp_walk;rw[room];subst hc;have:=h _ (zle l1);rw[Int.sub_zero];exact this;obtain⟨t,t1,t2⟩:=zvP (b:=lo) (by lia);have an:=zr8 (b:=lo) (by lia) t1 t2;have u:=zfd (i:=(2:Int) ^ t) (JM t);rw[zo0]at u;rw[an,room,u];have:=h _ (zm_ l1 t1 t2);have e:(if (t:Int)<((hi - lo).toNat.log2:Int) then(t:Int) else((hi - lo).toNat.log2:Int))=((min (hi - lo).toNat.log2 t:Nat):Int):=by split <;> lia
 rw[e];exact this
inductive Ul:qD->Nat->qN->Prop
 | c {lo hi:Int} {n:Nat} {R:qN} (l0:0<=lo) (l1:lo<=hi) (l2:hi<=2 ^ 64) (h:∀bs,Jm lo hi bs->R (.tuple (pD bs)) n):Ul [.int lo,.int hi] n R
def zmc(Z:ZZ):Prop:=QF Z "span" 8 ["low","high"] 3 2 Ul
theorem zq5(D:DQ Z "span" 8 ["low","high"]) (Y:US Z) (Md:zbT Z) (T:Txt Z.mg):zmc Z:=by
 refine' okN ["low","high","blocks","begin","block"] D λC=>⟨_,(Jb (QY (i:=2) (ndB rfl) rfl (e9 rfl) (Qe Ja)) (Jb (dsv 3 (ndB rfl) (Jh 0)) (Jb (V1 b5 (Jn (Qh C) Qg (dlv 3) (dlv 1) (Jj _)) (Jb (dsv 4 (ndB rfl) (Jk (dbv 3 (dbc (Jd Md C (dbv 3 (dbv 1 Ja))) Ja)))) (Jb (Qw 2 (Jh 4)) (Jc (dsv 3 (ndB rfl) (Jd Y C (dbv 4 Ja))))))) (Q6 2 (Jc (Je (Qm Q9 Q4 T.tup Q7 (Ji (dlv 2) Jq JD)))))))),?_⟩;intro ts n R hl h;obtain @⟨lo,hi,n,R,l0,l1,l2,h⟩:=h;obtain⟨all,A⟩:=zlN _ lo hi (aB _) l1;have al:=A.len l0 l2;wp_walk;refine ziz (λm L I=>I=n/\∃(bs rest:qB) (y:Int) (J:Option Cell),L=[ao (.val (.int lo)),ao (.val (.int hi)),ao (.own (pD bs)),ao (.val (.int y)),J]/\all=bs++rest/\Jm y hi rest/\lo<=y/\m=rest.length) (m:=all.length) ⟨rfl,[],all,lo,_,rfl,rfl,A,aM _,rfl⟩ ?_;rintro m L I NX RT BK ⟨rfl,bs,rest,y,J,rfl,x,S,lb,rfl⟩ hN hR hB;wp_walk
 ·cases rest with
  | nil=>have:y=hi:=S;lia
  | cons b r =>
   obtain⟨s1,s2,s3,s4,s5⟩:=S;refine za_.c (by lia) hc λg G=>?_;have U:b.2.toNat=g:=s4.uniq G;have eb:b=(y,(g:Int)):=dR s2 (by show b.2=(g:Int);lia);have gl:g<=64:=by
    rcases cj 64 g with z|z;have:=J1 (show 65<=g by lia);have:=G.2.1;have e:(2:Int) ^ 65=2*2 ^ 64:=by decide
    lia;exact z
   wp_walk using Q3.c (by lia) (by lia) ?_;rw[Js];have:=congrArg fg x;rw[aW]at this;lia;refine hN r.length _ _ (by simp) ⟨rfl,bs++[b],r,y+2 ^ (g:Int).toNat,ao (.val (.tuple [.int y,.int (g:Int)])),by rw[eb,<- Ys],by rw[x];simp,?_,?_,rfl⟩;rw[U]at s5;simpa using s5;have:=JM (g:Int).toNat;lia
 ·have e:y=hi:=by have:=S.le;lia
  cases rest with
  | cons b r=>have:=S.1;lia
  | nil =>refine hB _ _ ?_;wp_walk;rw[cf]at x;rw[<- x];exact h _ A
inductive YW:qD->Nat->qN->Prop
 | c {rs:qB} {n:Nat} {R:qN} (w:∀r∈rs,0<=r.1/\r.1<=r.2/\r.2<=2 ^ 64) (l:rs.length<=100000) (h:∀ps,PatS rs ps->R (.tuple (pD ps)) n):YW [.list (pD rs)] n R
theorem zmq:∀{rs:qB},(∀r∈rs,r.1<=r.2)->∃ps,PatS rs ps
 | [],_=>⟨[],rfl⟩
 | r::rs,h=>by obtain⟨a,A⟩:=zlN _ r.1 r.2 (aB _) (h r (by simp));obtain⟨b,B⟩:=zmq (rs:=rs) λs l=>h s (by simp[l]);exact⟨a++b,a,b,rfl,A,B⟩
theorem zkh{g:DTG}{d:DTE}{o:En}{n:Nat}{u:qD->Nat->Prop}:∀(xs acc:qD),(∀x∈xs,∀K:qN,K x n->g x o λl=>d l n K)->acc.length+xs.length<=16777216->u (acc++xs) n->JS g dYes d o xs acc n u
 | [],acc,_,_,h=>(by simpa using h:u acc n)
 | x::xs,acc,hg,hl,h=>by
  have e:(λl=>dYes l n λb v=>if b=be then d l v λt C=>acc.length<16777216/\JS g dYes d o xs (acc++[t]) C u else JS g dYes d o xs acc v u)=λl=>d l n λt C=>acc.length<16777216/\JS g dYes d o xs (acc++[t]) C u:=by funext l;exact propext ⟨λz=>by simpa[dYes] using z,λz=>by simpa[dYes] using z⟩
  show g x o λl=>dYes l n λb v=>if b=be then d l v λt C=>acc.length<16777216/\JS g dYes d o xs (acc++[t]) C u else JS g dYes d o xs acc v u
  rw[e];refine hg x (by simp) _ ⟨by simp at hl;lia,zkh xs (acc++[x]) (λy G=>hg y (by simp[G])) (by simp at hl ⊢;lia) (by simpa using h)⟩
def Wt(Z:ZZ):Prop:=QF Z "patch_of" 18 ["runs"] 4 1 YW
theorem ziJ(D:DQ Z "patch_of" 18 ["runs"]) (Y:zmc Z) (T:Txt Z.mg):Wt Z:=by
 refine' okN ["runs"] D λI=>⟨_,(Jc (Je (Qm Q9 Q4 T.tup Q7 (Ji (dl (JT (zkd (own:=["low","high","block"]) (capt:=[]) rfl (Jv.of rfl) (dil (zp5 (Jh 0))) (λ_ _ _ _=>(JU rfl (Jp (dgv 0 (ndB rfl)) (Jp (dgv 1 (ndB rfl)) JP)))) (by decide) (λ_ _ _ _=>QZ) (λ_ _ _ _=>(Qd (Jd Y I (dbv 0 (dbv 1 Ja))))) (λ_ _ _ _=>(dgv 2 (ndB rfl))) (by decide) (λ_ _ _ _=>QZ) (λ_ _ _ _=>(Jh 2))))) Jq Uo)))),?_⟩;intro ts n R hl h;obtain @⟨rs,n,R,w,l,h⟩:=h;wp_walk;have key:∀(rs:qB) (acc ps:qB),(∀r∈rs,0<=r.1/\r.1<=r.2/\r.2<=2 ^ 64)->acc.length+130*rs.length<=16777216->PatS rs ps->∀K:qD->Nat->Prop,K (pD (acc++ps)) n ->
   Us (Ud (Qt (JX 0) (Qt (JX 1) Uc))) dYes (dItT (dFn Ul (J5 (dVar 0) (J5 (dVar 1) dNil)))) (JX 2) dYes (dVar 2) [bc,bc,bc] (pD rs) (pD acc) n K:=by
  intro rs;induction rs with
  | nil =>intro acc ps _ _ P K C;cases(show ps=[] from P);rw[cf]at C;exact C
  | cons r rs U =>
   intro acc ps w la P K C;obtain⟨a,b,rfl,L,Pb⟩:=P;have y:=w r (by simp);have ll:=L.len y.1 y.2.2;show Ud (Qt (JX 0) (Qt (JX 1) Uc)) (.tuple [.int r.1,.int r.2]) [bc,bc,bc] λo=>dYes o n λb J=>if b=be then dItT (dFn Ul (J5 (dVar 0) (J5 (dVar 1) dNil))) o J λts n3=>JS (JX 2) dYes (dVar 2) o ts (pD acc) n3 λv N=>Us (Ud (Qt (JX 0) (Qt (JX 1) Uc))) dYes (dItT (dFn Ul (J5 (dVar 0) (J5 (dVar 1) dNil)))) (JX 2) dYes (dVar 2) [bc,bc,bc] (pD rs) v N K else Us (Ud (Qt (JX 0) (Qt (JX 1) Uc))) dYes (dItT (dFn Ul (J5 (dVar 0) (J5 (dVar 1) dNil)))) (JX 2) dYes (dVar 2) [bc,bc,bc] (pD rs) (pD acc) J K
   rw[aL]at la;wp_walk using Ul.c y.1 y.2.1 y.2.2 (λbs B=>?_);rw[B.uniq L];refine zkh _ _ (λx hx K2 G=>?_) (by rw[Js,Js];lia) ?_
   ·wp_walk;exact G
   rw[ZA];exact U (acc++a) b (λs S=>w s (by simp[S])) (by rw[aW];lia) Pb K (by rw[bu];exact C)
 obtain⟨ps,P⟩:=zmq (rs:=rs) λr I=>(w r I).2.1;refine key rs [] ps w (by simp;lia) P _ ?_;wp_walk;exact h ps P
theorem zrn{bits:Int}{bs:qB}{t:af}{J:qD->Prop}(S:t=.list (pD bs)\/t=.tuple (pD bs))(v:bits<=64)(B:Bks bits bs)(I:bs.length<100000)
  (h:∀cs:List (Int×Int),cs.Perm bs->cs.Pairwise (λa b=>a.1<=b.1)->J (pD cs)):Yd t J:=by
 have key:(pD bs).length<100000/\(∀x∈pD bs,IsPr x)/\∀o:List af,o.Perm (pD bs)->o.Pairwise (λa b=>rkD a<=rkD b)->J o:=by
  refine⟨by rw[Js];exact I,λx hx=>?_,λo pm pw=>?_⟩;obtain⟨b,C,rfl⟩:=aY.mp hx;have:=B b C;exact⟨b.1,b.2,rfl,this.1,by have:=this.2.1;lia⟩;have G:o.Perm ((bs.map λb=>(b,prD b)).map (·.2)):=by
   have:(bs.map λb=>(b,prD b)).map (·.2)=pD bs:=by simp[pD]
   rw[this];exact pm
  obtain⟨zs,p1,p2⟩:=zgw G;have R:∀z∈zs,z.2=prD z.1:=λz hz=>by obtain⟨b,_,rfl⟩:=aY.mp (p1.mem_iff.mp hz);rfl
  have e:o=pD (zs.map (·.1)):=by rw[<- p2];unfold pD;rw[cy];exact gq λz hz=>R z hz
  have pc:(zs.map (·.1)).Perm bs:=by
   have:=p1.map (·.1);rw[cy]at this;have U:bs.map ((λx:(Int×Int)×af=>x.1)∘λb=>(b,prD b))=bs:=by show bs.map id=bs;exact oW _
   rwa [U]at this
  rw[e];have y:Bks bits (zs.map (·.1)):=λb v=>B b (pc.mem_iff.mp v);rw[e]at pw;unfold pD at pw;rw[dN]at pw;refine h _ pc (iM ?_ pw);intro a b L v N;have N:a.1*1000+a.2<=b.1*1000+b.2:=N;have a0:=(y a L).1;have a1:=(y a L).2.1;have b0:=(y b v).1;have Y:=(y b v).2.1;lia
 rcases S with rfl|rfl <;> exact key
inductive UR:qD->Nat->qN->Prop
 | c {bits:Int} {bs:qB} {t:af} {n:Nat} {R:qN} (ht:t=.list (pD bs)\/t=.tuple (pD bs)) (b0:0<=bits) (b1:bits<=64) (B:Bks bits bs) (l:bs.length<100000) (h:∀rs,NR rs->(∀x,mR x rs↔mB x bs)->rs.length<=bs.length->R (.list (pD rs)) n):UR [t] n R
def Wf(Z:ZZ):Prop:=QF Z "runs_of" 19 ["blocks"] 3 1 UR
theorem zkG(D:DQ Z "runs_of" 19 ["blocks"]) (L4:US Z) (T:Txt Z.mg):Wf Z:=by
 refine' okN ["blocks","runs","block","low","high"] D λC=>⟨_,(Jb (QY (i:=1) (ndB rfl) rfl (e9 rfl) (Qe Ja)) (Jb (Qf b5 rfl (zi7 (JT (zif C T.srt (dlv 0) JD))) (dgv 2 (ndB rfl)) (Jc (Jw (Qx (Ym (Qo (Uj 1)) (YN (Jn QT QP (dl (Jf (dlv 2) dli)) (dl (Jf (dl (Jf (Uj 1) (dl (Yl Jg)))) dli)) (Jj _))))) (Jb (Uk (Jf (Uj 1) (dl (Yl Jg))) (JU rfl (Jp (dgv 3 (ndB rfl)) (Jp (dgv 4 (ndB rfl)) JP)))) (Jc (zuQ 1 (Yl Jg) (Jk (dbv 3 (dbc (JF (Wl rfl) VO T.max Wj (Ji (dlv 4) (Ji (dl (Jd L4 C (dbv 2 Ja))) Jq UP) JD)) Ja)))))) (Jc (Qw 1 (Jk (dbc (Jf (dlv 2) dli) (dbc (Jd L4 C (dbv 2 Ja)) Ja)))))))) (Q6 1 (Jc (Je (Jh 1)))))),?_⟩;intro ts n R hl h;obtain @⟨bits,bs,t,n,R,ht,b0,b1,B,l,h⟩:=h;wp_walk;refine zrn ht b1 B l λcs pm pw=>?_;have Bc:Bks bits cs:=λb G=>B b (pm.mem_iff.mp G);have lc:=pm.length_eq;refine zp3 1 2 3 4 (λk a1 _ _ _ m=>m=n/\∃rs:List (Int×Int),a1=ao (.own (pD rs))/\NR rs/\(∀x,mR x rs↔mB x (cs.take k))/\rs.length<=k/\∀r∈rs,∀b∈cs.drop k,r.1<=b.1) ⟨rfl,[],rfl,⟨(λr C=>nomatch C),.nil⟩,(λx=>⟨λz=>absurd z Qa,λz=>absurd z UL⟩),aB _,λr C=>nomatch C⟩ ?_ ?_
 ·rintro k t' a1 a2 a3 a4 m K RT BK et ⟨rfl,rs,rfl,nr,me,lr,lo⟩ hK hRT hBK;obtain⟨i,g,U,rfl⟩:=ZB et;have kl:=(aw.mp U).1;have Bb:=Bc _ (ax U);have g0:0<=g:=Bb.1;have g1:g<=bits:=Bb.2.1;have pg:=JM g.toNat;have tk:cs.take (k+1)=cs.take k++[(i,g)]:=by rw[dD,U];rfl
  have S:cs.drop k=(i,g)::cs.drop (k+1):=by rw[bG kl];congr 1;have:=au kl;rw[U]at this;exact(aP this).symm
  have after:∀b∈cs.drop (k+1),i<=b.1:=λb G=>by have:cs.Pairwise λa b=>a.1<=b.1:=pw;have:=(this.sublist (kB k cs));rw[S]at this;exact(cC.mp this).1 b G
  have m1:∀x,mB x (cs.take (k+1))↔mB x (cs.take k)\/(i<=x/\x<i+2 ^ g.toNat):=λx=>by rw[tk,VL,VW];constructor;rintro(z|z|z);exact .inl z;exact .inr z;exact absurd z UL;rintro(z|z);exact .inl z;exact .inr (.inl z)
  have new:(∀r∈rs,r.2<i)->∀c2 c3 c4,K [ao (.val t),ao (.own (pD rs++[.tuple [.int i,.int (i+2 ^ g.toNat)]])),c2,c3,c4] m:=λhlt c2 c3 c4 =>
   hK _ _ _ _ _ ⟨rfl,rs++[(i,i+2 ^ g.toNat)],by rw[<- Ys],⟨λr C=>by
    rcases aC.mp C with z|z;exact nr.1 r z;cases aA.mp z;show i<i+2 ^ g.toNat;lia,by
    rw[cw];exact⟨nr.2,eH _ _,λa Y b G=>by cases aA.mp G;exact hlt a Y⟩⟩,(λx=>by
    rw[QR,me,m1,JQ];constructor;rintro(z|z|z);exact .inl z;exact .inr z;exact absurd z Qa;rintro(z|z);exact .inl z;exact .inr (.inl z)),by simp;lia,λr C b G=>by
    rcases aC.mp C with z|z;exact lo r z b (by rw[S];simp[G]);cases aA.mp z;exact after b G⟩
  rcases oG rs with rfl|⟨I,r,rfl⟩
  ·wp_walk using Q3.c g0 (by lia) ?_;show 0<16777216;decide;exact new (λr C=>nomatch C) _ _ _;exact absurd hc (by simp[pD])
  ·rw[oH]at *;have sn:pD (I++[r])=pD I++[.tuple [.int r.1,.int r.2]]:=by simp[pD]
   have lr':I.length+1<=k:=by simpa using lr
   have r12:=nr.1 r (by simp);have rlo:r.1<=i:=lo r (by simp) (i,g) (by rw[S];simp);have J:=cw.mp nr.2;rw[sn]at new ⊢;wp_walk using zjV ?_,Q3.c g0 (by lia) ?_;all_goals first
    | (exfalso;simp at hc;done)
    | (exfalso;rename_i y;simp at y;done)
    | (simp[Js];lia)
    | skip
   ·refine zs3 zjX ?_;wp_walk;rw[List.set_append_right _ _ (aB _),kN];have mx:(if i+2 ^ g.toNat > r.2 then i+2 ^ g.toNat else r.2)=max r.2 (i+2 ^ g.toNat):=by split <;> lia
    refine hK _ _ _ _ _ ⟨rfl,I++[(r.1,max r.2 (i+2 ^ g.toNat))],?_,⟨λs N=>?_,?_⟩,λx=>?_,by simp;lia,λs N b G=>?_⟩;rw[mx];simp[pD];rcases aC.mp N with z|z;exact nr.1 s (by simp[z]);cases aA.mp z;show r.1<max r.2 _;lia;rw[cw];exact⟨J.1,eH _ _,λa Y b G=>by cases aA.mp G;exact J.2.2 a Y r (by simp)⟩;have L:=me x;rw[QR,JQ]at L;rw[QR,JQ,m1,<- L];have nn:=Qa (x:=x);show _\/(r.1<=x/\x<max r.2 (i+2 ^ g.toNat))\/_↔_;constructor;rintro(z|z|z);exact .inl (.inl z);by_cases w:x<r.2;exact .inl (.inr (.inl ⟨z.1,w⟩));exact .inr (by lia);exact absurd z nn;rintro((z|z|z)|z);exact .inl z;exact .inr (.inl (by lia));exact absurd z nn;exact .inr (.inl (by lia));rcases aC.mp N with z|z;exact lo s (by simp[z]) b (by rw[S];simp[G]);cases aA.mp z;exact lo r (by simp) b (by rw[S];simp[G])
   refine new (λs N=>?_) _ _ _;rcases aC.mp N with z|z;have:=J.2.2 s z r (by simp);have:=nr.1 r (by simp);lia;cases aA.mp z;lia
 ·rintro a1 a2 a3 a4 m ⟨rfl,rs,rfl,nr,me,lr,lo⟩;rw[Js]at me lr;rw[dH]at me;wp_walk;exact h rs nr (λx=>by rw[me x,zrf pm]) (by lia)
inductive Ux:qD->Nat->qN->Prop
 | c {bits:Int} {bs:qB} {t:af} {n:Nat} {R:qN} (ht:t=.list (pD bs)\/t=.tuple (pD bs)) (b0:0<=bits) (b1:bits<=64) (B:Bks bits bs) (l:bs.length<100000) (h:∀ps,CanP (λx=>mB x bs) ps->ps.length<=bs.length->R (.tuple (pD ps)) n):Ux [t] n R
def Z3(Z:ZZ):Prop:=QF Z "fewest" 7 ["blocks"] 5 1 Ux
theorem zmD(D:DQ Z "fewest" 7 ["blocks"]) (v:Wt Z) (u:Wf Z) (T:Txt Z.mg):Z3 Z:=by refine' okN ["blocks"] D λo=>⟨_,(Jc (Je (Jd v o (dbc (Jd u o (dbv 0 Ja)) Ja)))),?_⟩;intro ts n R y h;obtain @⟨bits,bs,t,n,R,ht,b0,b1,B,l,h⟩:=h;wp_walk using UR.c ht b0 b1 B l (λrs nr me G=>?_);have w:=Ue b0 b1 nr me λx hx=>J7 b0 B hx;wp_walk using YW.c w ?_ (λps P=>?_);lia;have C:CanP (λx=>mB x bs) ps:=⟨rs,nr,me,P⟩;exact h ps C (C.le b0 B)
inductive YY:qD->Nat->qN->Prop
 | c {rs:qB} {top:Int} {n:Nat} {R:qN} (nr:NR rs) (w:∀r∈rs,0<=r.1) (t0:0<=top) (l:rs.length<=100000) (h:∀(gs:qB) (B:Int),NR gs->(∀x,mR x gs↔0<=x/\x<B/\¬mR x rs)->gs.length<=rs.length+1->top<=B->(B=top\/∃r∈rs,B=r.2)->R (.list (pD gs)) n):YY [.list (pD rs),.int top] n R
theorem zio{rs:qB}{top:Int}{n:Nat}{R:qN}(nr:NR rs)(w:∀r∈rs,0<=r.1/\r.2<=top)(t0:0<=top)(l:rs.length<=100000)(h:∀o,NR o->(∀x,mR x o↔0<=x/\x<top/\¬mR x rs)->o.length<=rs.length+1->R (.list (pD o)) n):YY [.list (pD rs),.int top] n R:=YY.c nr (λr u=>(w r u).1) t0 l λo B v me y G C=>by
 have:B=top:=by rcases C with e|⟨r,u,e⟩;exact e;have:=(w r u).2;lia
 subst this;exact h o v me y
def zco(Z:ZZ):Prop:=QF Z "gaps_below" 20 ["runs","top"] 1 2 YY
theorem zgB(D:DQ Z "gaps_below" 20 ["runs","top"]) (T:Txt Z.mg):zco Z:=by
 refine' okN ["runs","top","gaps","begin","low","high"] D λC=>⟨_,(Jb (QY (i:=2) (ndB rfl) rfl (e9 rfl) (Qe Ja)) (Jb (dsv 3 (ndB rfl) Jg) (Jb (Qf b5 rfl (zp5 (Jh 0)) (JU rfl (Jp (dgv 4 (ndB rfl)) (Jp (dgv 5 (ndB rfl)) JP))) (Jb (Jw (Jn (Qh C) Qg (dlv 3) (dlv 4) (Jj _)) (Jc (Qw 2 (Jk (dbv 3 (dbv 4 Ja))))) JB) (Jc (dsv 3 (ndB rfl) (Jh 5))))) (Jb (Jw (Jn (Qh C) Qg (dlv 3) (dlv 1) (Jj _)) (Jc (Qw 2 (Jk (dbv 3 (dbv 1 Ja))))) JB) (Q6 2 (Jc (Je (Jh 2)))))))),?_⟩;intro ts n R hl h;obtain @⟨rs,top,n,R,nr,w,t0,l,h⟩:=h;wp_walk;refine zp3 2 3 4 5 (λk a2 a3 _ _ m=>m=n/\∃(J:qB) (G:Int),a2=ao (.own (pD J))/\a3=ao (.val (.int G))/\NR J/\(∀x,mR x J↔0<=x/\x<G/\¬mR x (rs.take k))/\J.length<=k/\0<=G/\(G=0\/∃r∈rs,G=r.2)/\(∀r∈rs.take k,r.2<=G)/\(∀g∈J,g.2<G)/\(∀r∈rs.drop k,(k=0/\G=0/\G<=r.1)\/G<r.1)) ⟨rfl,[],0,rfl,rfl,⟨(λr C=>nomatch C),.nil⟩,(λx=>⟨λz=>absurd z Qa,λz=>by lia⟩),aB _,aM _,.inl rfl,(λr C=>nomatch C),(λr C=>nomatch C),λr C=>.inl ⟨rfl,rfl,w r C⟩⟩ ?_ ?_
 ·rintro k t' a2 a3 a4 a5 m K RT BK et ⟨rfl,J,G,rfl,rfl,N,me,lg,be0,S,ti,gl,dr⟩ hK hRT hBK;obtain⟨lo,hi,U,rfl⟩:=ZB et;have kl:=(aw.mp U).1;have mr:=ax U;have L:=nr.1 _ mr;have L:lo<hi:=L;have wr:=w _ mr;have wr1:0<=lo:=wr;have tk:rs.take (k+1)=rs.take k++[(lo,hi)]:=by rw[dD,U];rfl
  have dk:rs.drop k=(lo,hi)::rs.drop (k+1):=by rw[bG kl];congr 1;have:=au kl;rw[U]at this;exact(aP this).symm
  have after:∀r∈rs.drop (k+1),hi<r.1:=λr C=>by have:=(nr.2.sublist (kB k rs));rw[dk]at this;exact(cC.mp this).1 r C
  have here:=dr (lo,hi) (by rw[dk];simp);have here:G<=lo:=by rcases here with z|z;exact z.2.2;exact b8 z
  have mt:∀x,mR x (rs.take (k+1))↔mR x (rs.take k)\/(lo<=x/\x<hi):=λx=>by rw[tk,QR,JQ];constructor;rintro(z|z|z);exact .inl z;exact .inr z;exact absurd z Qa;rintro(z|z);exact .inl z;exact .inr (.inl z)
  have old:∀x,G<=x->¬mR x (rs.take k):=λx hx ⟨r,C,h1,h2⟩=>by have:=ti r C;lia
  have go:∀(I:qB) (c4 c5:Option Cell),NR I->(∀x,mR x I↔mR x J\/(G<=x/\x<lo))->I.length<=k+1->(∀g∈I,g.2<hi)->K [ao (.val (.list (pD rs))),ao (.val (.int top)),ao (.own (pD I)),ao (.val (.int hi)),c4,c5] m:=λI c4 c5 n' m' l' g' =>
   hK _ _ _ _ _ ⟨rfl,I,hi,rfl,rfl,n',(λx=>by
    rw[m',me,mt];have ox:=old x;constructor;rintro(⟨a,b,c⟩|⟨a,b⟩);exact⟨a,by lia,λz=>z.elim c λz=>by lia⟩;exact⟨by lia,by lia,λz=>z.elim (ox a) λz=>by lia⟩;rintro⟨a,b,c⟩;by_cases y:x<G;exact .inl ⟨a,y,λz=>c (.inl z)⟩;refine .inr ⟨by lia,?_⟩;by_cases u:x<lo;exact u;exact absurd (.inr ⟨by lia,b⟩) c),l',by lia,.inr ⟨_,mr,rfl⟩,(λr C=>by
    rw[tk]at C;rcases aC.mp C with z|z;have:=ti r z;lia;cases aA.mp z;exact aM _),g',λr C=>.inr (after r C)⟩
  wp_walk;rw[Js];lia;rw[Ys];refine go (J++[(G,lo)]) _ _ ⟨λr C=>?_,?_⟩ (λx=>?_) (by simp;lia) λg hg=>?_;rcases aC.mp C with z|z;exact N.1 r z;cases aA.mp z;exact hc;rw[cw];exact⟨N.2,eH _ _,λa Y b hb=>by cases aA.mp hb;exact gl a Y⟩;rw[QR,JQ];constructor;rintro(z|z|z);exact .inl z;exact .inr z;exact absurd z Qa;rintro(z|z);exact .inl z;exact .inr (.inl z);rcases aC.mp hg with z|z;have:=gl g z;lia;cases aA.mp z;exact L;refine go J _ _ N (λx=>⟨.inl,λz=>z.elim id λz=>by lia⟩) (by lia) λg hg=>?_;have:=gl g hg;lia
 ·rintro a2 a3 a4 a5 m ⟨rfl,J,G,rfl,rfl,N,me,lg,be0,S,ti,gl,dr⟩;rw[Js]at me lg ti;rw[dH]at me ti;have old:∀x,G<=x->¬mR x rs:=λx hx ⟨r,C,h1,h2⟩=>by have:=ti r C;lia
  wp_walk;rw[Js];lia;rw[Ys];refine h (J++[(G,top)]) top ⟨λr C=>?_,?_⟩ (λx=>?_) (by simp;lia) (aM _) (.inl rfl);rcases aC.mp C with z|z;exact N.1 r z;cases aA.mp z;exact hc;rw[cw];exact⟨N.2,eH _ _,λa Y b hb=>by cases aA.mp hb;exact gl a Y⟩;rw[QR,JQ,me];have ox:=old x;constructor;rintro(⟨a,b,c⟩|z|z);exact⟨a,by lia,c⟩;exact⟨by have:=z.1;lia,z.2,ox z.1⟩;exact absurd z Qa;rintro⟨a,b,c⟩;by_cases y:x<G;exact .inl ⟨a,y,c⟩;exact .inr (.inl ⟨by show G<=x;lia,b⟩);refine h J G N me (by lia) (by lia) ?_;rcases S with z|z;exact .inl (by lia);exact .inr z
inductive Z9:qD->Nat->qN->Prop
 | c {bits:Int} {ps:qB} {n:Nat} {R:qN} (b0:1<=bits) (b1:bits<=64) (B:Bks bits ps) (l:ps.length<100000) (h:∀qs,CanP (λx=>0<=x/\x<2 ^ bits.toNat/\¬mB x ps) qs->qs.length<=130*(ps.length+1)->R (.tuple (pD qs)) n):Z9 [.int bits,.tuple (pD ps)] n R
def zeL(Z:ZZ):Prop:=QF Z "rest_of" 9 ["bits","patch"] 5 2 Z9
theorem zkH(D:DQ Z "rest_of" 9 ["bits","patch"]) (L:Wt Z) (G:zco Z) (J:Wf Z) (T:Txt Z.mg):zeL Z:=by
 refine' okN ["bits","patch"] D λo=>⟨_,(Jc (Je (Jd L o (dbc (Jd G o (dbc (Jd J o (dbv 1 Ja)) (dbc (J6 dli (dlv 0)) Ja))) Ja)))),?_⟩;intro ts n R N h;obtain @⟨bits,ps,n,R,b0,b1,B,l,h⟩:=h;wp_walk using UR.c (.inr rfl) (by lia) b1 B l (λrs nr me S=>?_);exact cpow (by lia) (by lia);have w:=Ue (by lia) b1 nr me λx hx=>J7 (by lia) B hx;have I:∀r∈rs,0<=r.1/\r.2<=1*2 ^ bits.toNat:=λr o=>by have lt:=nr.1 r o;have:=J7 (by lia) B ((me (r.2 - 1)).mp ⟨r,o,by lia,by lia⟩);have:=(w r o).1;rw[UB];lia
 have Y:=JM bits.toNat;wp_walk using zio nr I (by lia) (by lia) (λC y mg U=>?_);have u:∀x,mR x C↔0<=x/\x<2 ^ bits.toNat/\¬mB x ps:=λx=>by rw[mg,UB,me]
 have v:=Ue (by lia) b1 y u λx hx=>⟨hx.1,hx.2.1⟩;wp_walk using YW.c v ?_ (λqs P=>?_);lia;have:=P.len λr o=>⟨(v r o).1,(v r o).2.2⟩;exact h qs ⟨C,y,u,P⟩ (by lia)
theorem zpT{xs:qD}{i:Int}{k:Nat}{x:af}{R:af->Prop}(hi:i=(k:Int))(e:xs[k]?=ao x)(h:R x):oIx (.list xs) (.int i) R:=by
 subst hi;have o:=(aw.mp e).1;rw[Yi (x:=x)];exact h;unfold atI ixN;have u:xs[k]=x:=by rw[au o]at e;exact aP e
 simp[o,u]
inductive Ww:qD->Nat->qN->Prop
 | c {as bs:qB} {n:Nat} {R:qN} (na:NR as) (nb:NR bs) (la:as.length<=1000000) (lb:bs.length<=1000000) (h:∀cs,NR cs->(∀x,mR x cs↔mR x as/\mR x bs)->cs.length<=as.length+bs.length->R (.list (pD cs)) n):Ww [.list (pD as),.list (pD bs)] n R
def zdf(Z:ZZ):Prop:=QF Z "shared_runs" 21 ["ones","others"] 1 2 Ww
theorem zfs(D:DQ Z "shared_runs" 21 ["ones","others"]) (T:Txt Z.mg):zdf Z:=by
 refine' okN ["ones","others","shared","at","by","low","high"] D λx=>⟨_,(Jb (QY (i:=2) (ndB rfl) rfl (e9 rfl) (Qe Ja)) (Jb (dsv 3 (ndB rfl) Jg) (Jb (dsv 4 (ndB rfl) Jg) (Jb (V1 b5 (Qx (Ym (Jn (Qh x) Qg (dlv 3) (dl (JF Q1 QQ T.len QM (Ji (dlv 0) Jq JD))) (Jj _)) (YN (Jn (Qh x) Qg (dlv 4) (dl (JF Q1 QQ T.len QM (Ji (dlv 1) Jq JD))) (Jj _))))) (Jb (dsv 5 (ndB rfl) (JF (Wl rfl) VO T.max Wj (Ji (dl (Jf (dl (Jf (dlv 0) (dlv 3))) dli)) (Ji (dl (Jf (dl (Jf (dlv 1) (dlv 4))) dli)) Jq VH) VH))) (Jb (dsv 6 (ndB rfl) (JF (UQ rfl) UH T.min Ut (Ji (dl (Jf (dl (Jf (dlv 0) (dlv 3))) dli)) (Ji (dl (Jf (dl (Jf (dlv 1) (dlv 4))) dli)) Jq VH) VH))) (Jb (Jw (Jn (Qh x) Qg (dlv 5) (dlv 6) (Jj _)) (Jc (Qw 2 (Jk (dbv 5 (dbv 6 Ja))))) JB) (Jc (Jw (Jn (Qh x) Qg (dl (Jf (dl (Jf (dlv 0) (dlv 3))) dli)) (dl (Jf (dl (Jf (dlv 1) (dlv 4))) dli)) (Jj _)) (Jc (znj (i:=3) (ndB rfl) rfl (e9 rfl) Jg zm4)) (Jc (znj (i:=4) (ndB rfl) rfl (e9 rfl) Jg zm4)))))))) (Q6 2 (Jc (Je (Jh 2)))))))),?_⟩;intro ts n R hl h;obtain @⟨as,bs,n,R,na,nb,la,lb,h⟩:=h;wp_walk;refine ziz (λm U G=>G=n/\∃(a b:Nat) (cs:qB) (L N:Option Cell),U=[ao (.val (.list (pD as))),ao (.val (.list (pD bs))),ao (.own (pD cs)),ao (.val (.int a)),ao (.val (.int b)),L,N]/\m=(as.length - a)+(bs.length - b)/\a<=as.length/\b<=bs.length/\ShI as bs cs a b) ⟨rfl,0,0,[],_,_,rfl,rfl,by lia,by lia,.zero⟩ ?_;rintro m U G NX RT Y ⟨rfl,a,b,cs,L,N,rfl,rfl,ha,hb,I⟩ hN hR hB;have fin:(as.length<=a\/bs.length<=b)->Y [ao (.val (.list (pD as))),ao (.val (.list (pD bs))),ao (.own (pD cs)),ao (.val (.int a)),ao (.val (.int b)),L,N] G:=λe=>hB _ _ (by wp_walk;exact h cs I.nr (I.fin e) (by have:=I.ln;lia));have lc:=I.ln;wp_walk
 ·rename_i hx;rw[Js]at hx hc;have S:a<as.length:=by lia
  have y:b<bs.length:=by lia
  obtain⟨p,ep⟩:∃p,as[a]?=ao p:=⟨_,au S⟩;obtain⟨q,eq⟩:∃q,bs[b]?=ao q:=⟨_,au y⟩;have u:=I.stepA nb na ep eq;have sB:=I.stepB nb na ep eq;wp_walk using zpT (k:=a) rfl (Zc ep) ?_,zpT (k:=b) rfl (Zc eq) ?_;rw[Js];lia;all_goals
   have J:(if q.1 > p.1 then q.1 else p.1)=max p.1 q.1:=by split <;> lia
   have C:(if q.2<p.2 then q.2 else p.2)=min p.2 q.2:=by split <;> lia
   rename_i hd;rw[J,C]at hd
  have es:shr2 p q=[(max p.1 q.1,min p.2 q.2)]:=by unfold shr2;rw[if_pos hd]
  have u:=u hc;rw[es]at u;exact hN ((as.length - (a+1))+(bs.length - b)) _ _ (by lia) ⟨rfl,a+1,b,cs++[(max p.1 q.1,min p.2 q.2)],_,_,by rw[J,C,<- ZA];rfl,rfl,by lia,by lia,u⟩;have es:shr2 p q=[(max p.1 q.1,min p.2 q.2)]:=by unfold shr2;rw[if_pos hd]
  have sB:=sB hc;rw[es]at sB;exact hN ((as.length - a)+(bs.length - (b+1))) _ _ (by lia) ⟨rfl,a,b+1,cs++[(max p.1 q.1,min p.2 q.2)],_,_,by rw[J,C,<- ZA];rfl,rfl,by lia,by lia,sB⟩;have es:shr2 p q=[]:=by unfold shr2;rw[if_neg hd]
  have u:=u hc;rw[es,cf]at u;exact hN ((as.length - (a+1))+(bs.length - b)) _ _ (by lia) ⟨rfl,a+1,b,cs,_,_,rfl,rfl,by lia,by lia,u⟩;have es:shr2 p q=[]:=by unfold shr2;rw[if_neg hd]
  have sB:=sB hc;rw[es,cf]at sB;exact hN ((as.length - a)+(bs.length - (b+1))) _ _ (by lia) ⟨rfl,a,b+1,cs,_,_,rfl,rfl,by lia,by lia,sB⟩
 rw[Js]at hc;exact fin (.inr (by lia));rw[Js]at hc;exact fin (.inl (by lia))
inductive zfg:qD->Nat->qN->Prop
 | c {bits:Int} {ps qs:qB} {n:Nat} {R:qN} (b0:0<=bits) (b1:bits<=64) (A:Bks bits ps) (B:Bks bits qs) (l1:ps.length<100000) (l2:qs.length<100000) (l3:ps.length+qs.length<=90000) (h:∀cs,CanP (λx=>mB x ps/\¬mB x qs) cs->cs.length<=130*(ps.length+qs.length+1)->R (.tuple (pD cs)) n):zfg [.tuple (pD ps),.tuple (pD qs)] n R
def zhx(Z:ZZ):Prop:=QF Z "without" 10 ["one","other"] 5 2 zfg
theorem zkD(D:DQ Z "without" 10 ["one","other"]) (Ma:Wf Z) (L8:Wt Z) (Ms:zdf Z) (Mb:zco Z) (T:Txt Z.mg):zhx Z:=by
 refine' okN ["one","other","runs","top"] D λo=>⟨_,(Jb (dsv 2 (ndB rfl) (Jd Ma o (dbv 0 Ja))) (Jb (dsv 3 (ndB rfl) (YO (Qo (dlv 2)) (Jf (dl (Jf (dlv 2) (dl (Yl Jg)))) dli) Jg)) (Jc (Je (Jd L8 o (dbc (Jd Ms o (dbv 2 (dbc (Jd Mb o (dbc (Jd Ma o (dbv 1 Ja)) (dbv 3 Ja))) Ja))) Ja)))))),?_⟩;intro ts n R hl h;obtain @⟨bits,ps,qs,n,R,b0,b1,A,B,l1,l2,l3,h⟩:=h;wp_walk;refine UR.c (.inr rfl) b0 b1 A l1 (λrs nr me lr=>?_);have wr:=Ue b0 b1 nr me λx hx=>J7 b0 A hx;rcases oG rs with rfl|⟨I,r,rfl⟩
 ·have t0:(0:Int)<=0:=aM _;have tt:∀r∈([]:qB),r.2<=0:=λr o=>nomatch o;wp_walk
  ·refine UR.c (.inr rfl) b0 b1 B l2 (λss ns ms ls=>?_);have Y:=Ue b0 b1 ns ms λx hx=>J7 b0 B hx;wp_walk using YY.c ns (λr o=>(Y r o).1) t0 (by lia) (λgs Bd U mg lg tb _=>?_);refine Ww.c nr U (by lia) (by lia) (λcs J S lc=>?_);have v:∀x,mR x cs↔mB x ps/\¬mB x qs:=λx=>by
    rw[S,mg,ms];constructor;rintro⟨G,L,z3,N⟩;exact⟨(me x).mp G,N⟩;rintro⟨G,L⟩;have C:=(me x).mpr G;refine⟨C,(J7 b0 A G).1,?_,L⟩;obtain⟨r,o,_,y⟩:=C;have:=tt r o;lia
   have w:=Ue b0 b1 J v λx hx=>J7 b0 A hx.1;wp_walk using YW.c w (by lia) (λes P=>?_);have:=P.len λr o=>⟨(w r o).1,(w r o).2.2⟩;exact h es ⟨cs,J,v,P⟩ (by lia)
  exact absurd hc (by simp[pD])
 ·rw[oH]at *;have sn:pD (I++[r])=pD I++[.tuple [.int r.1,.int r.2]]:=by simp[pD]
  have wl:=wr r (by simp);have t0:0<=r.2:=by lia
  have tt:∀s∈I++[r],s.2<=r.2:=λs hs=>by rcases aC.mp hs with z|z;have:=(cw.mp nr.2).2.2 s z r (by simp);lia;cases aA.mp z;exact aM _
  rw[sn];wp_walk using zjV ?_;exact absurd hc (by simp)
  ·refine UR.c (.inr rfl) b0 b1 B l2 (λss ns ms ls=>?_);have Y:=Ue b0 b1 ns ms λx hx=>J7 b0 B hx;wp_walk using YY.c ns (λr o=>(Y r o).1) t0 (by lia) (λgs Bd U mg lg tb _=>?_);rw[<- sn];refine Ww.c nr U (by lia) (by lia) (λcs J S lc=>?_);have v:∀x,mR x cs↔mB x ps/\¬mB x qs:=λx=>by
    rw[S,mg,ms];constructor;rintro⟨G,L,z3,N⟩;exact⟨(me x).mp G,N⟩;rintro⟨G,L⟩;have C:=(me x).mpr G;refine⟨C,(J7 b0 A G).1,?_,L⟩;obtain⟨r,o,_,y⟩:=C;have:=tt r o;lia
   have w:=Ue b0 b1 J v λx hx=>J7 b0 A hx.1;wp_walk using YW.c w (by lia) (λes P=>?_);have:=P.len λr o=>⟨(w r o).1,(w r o).2.2⟩;exact h es ⟨cs,J,v,P⟩ (by lia)
inductive Wp:qD->Nat->qN->Prop
 | c {bits a:Int} {bs:qB} {n:Nat} {R:qN} (b1:bits<=64) (P:Ptc bits bs) (hl:bs.length<1000000) (h:∀k:Nat,k<=bs.length->(∀(j:Nat) (b:Int×Int),j<k->bs[j]?=ao b->eB b<=a)->(∀(j:Nat) (b:Int×Int),k<=j->bs[j]?=ao b->a<eB b)->R (.int (k:Int)) n):Wp [.tuple (pD bs),.int a] n R
def zdT(Z:ZZ):Prop:=QF Z "ended_by" 15 ["patch","address"] 3 2 Wp
theorem ziP(D:DQ Z "ended_by" 15 ["patch","address"]) (L4:US Z) (T:Txt Z.mg):zdT Z:=by
 refine' okN ["patch","address","low","high","middle"] D λL=>⟨_,(Jb (dsv 2 (ndB rfl) Jg) (Jb (dsv 3 (ndB rfl) (JF Q1 QQ T.len QM (Ji (dlv 0) Jq JD))) (Jb (V1 b5 (Jn (Qh L) Qg (dlv 2) (dlv 3) (Jj _)) (Jb (dsv 4 (ndB rfl) (zi8 (dl (Jz (dlv 2) (dlv 3))) dli)) (Jc (Jw (Jn QT QP (dl (Jd L4 L (dbc (Jf (dlv 0) (dlv 4)) Ja))) (dlv 1) (Jj _)) (Jc (dsv 2 (ndB rfl) (Jz (dlv 4) dli))) (Jc (dsv 3 (ndB rfl) (Jh 4))))))) (Jc (Je (Jh 2)))))),?_⟩;rintro ts n R hl @⟨bits,a,bs,n,R,b1,P,hl6,hh⟩;have srt:=P.ends;wp_walk;rw[Js];refine zg5 (m:=bs.length) (λm ρ N=>N=n/\∃lo hi:Nat,∃c,ρ=[ao (.val (.tuple (pD bs))),ao (.val (.int a)),ao (.val (.int (lo:Int))),ao (.val (.int (hi:Int))),c]/\lo<=hi/\hi<=bs.length/\m=hi - lo/\(∀(j:Nat) (b:Int×Int),j<lo->bs[j]?=ao b->eB b<=a)/\(∀(j:Nat) (b:Int×Int),hi<=j->bs[j]?=ao b->a<eB b)) ?_ ?_;refine⟨rfl,0,bs.length,bc,rfl,eD _,aB _,rfl,λj b C=>absurd C (Nat.not_lt_zero _),λj b C e=>?_⟩;rw[cc C]at e;cases e
 ·rintro m ρ N ⟨rfl,lo,hi,c,rfl,h1,h2,rfl,h3,U⟩;wp_walk;exact zuW
  ·have hm:(lo+hi) / 2<bs.length:=by lia
   obtain⟨b,G⟩:∃b,bs[(lo+hi) / 2]?=ao b:=⟨_,au hm⟩;have Y:=P.1 b (ax G);refine zro (k:=(lo+hi) / 2) (by lia) (Zc G) ?_;have J:∀(i j:Nat) (x y:Int×Int),bs[i]?=ao x->bs[j]?=ao y->i<=j->eB x<=eB y:=λi j x y S I hij=>by by_cases z:i=j;subst z;rw[S]at I;cases I;exact aM _;obtain⟨l1,rfl⟩:=aw.mp S;obtain⟨l2,rfl⟩:=aw.mp I;exact aR.mp srt i j l1 l2 (by lia)
   wp_walk using Q3.c ?_ ?_ ?_;exact Y.1;have:=Y.2.1;lia
   ·have hc:eB b<=a:=hc;refine⟨_,?_,rfl,(lo+hi) / 2+1,hi,ao (.val (.int (((lo+hi) / 2:Nat):Int))),?_,by lia,h2,rfl,λj x C e=>?_,U⟩;lia
    ·have o:((lo:Int)+hi) / 2=(((lo+hi) / 2:Nat):Int):=by lia
     first|(rw[o];done)|(rw[o];rfl)
    exact eP (J _ _ _ _ e G (by lia)) hc
   ·have hc:¬eB b<=a:=hc;refine⟨_,?_,rfl,lo,(lo+hi) / 2,ao (.val (.int (((lo+hi) / 2:Nat):Int))),?_,by lia,by lia,rfl,h3,λj x C e=>?_⟩;lia
    ·have o:((lo:Int)+hi) / 2=(((lo+hi) / 2:Nat):Int):=by lia
     first|(rw[o];done)|(rw[o];rfl)
    have:=J _ _ _ _ G e (by lia);lia
  have e:lo=hi:=by lia
  subst e;exact hh lo h2 h3 U
inductive zcw:qD->Nat->qN->Prop
 | c {bits a:Int} {bs:qB} {n:Nat} {R:qN} (b1:bits<=64) (P:Ptc bits bs) (hl:bs.length<1000000) (h:∀b∈bs,b.1<=a->a<eB b->R (.tuple [.int b.1,.int b.2]) n) (h':(∀b∈bs,¬(b.1<=a/\a<eB b))->R .none n):zcw [.tuple (pD bs),.int a] n R
def zd9(Z:ZZ):Prop:=QF Z "block_with" 11 ["patch","address"] 4 2 zcw
theorem zgC(D:DQ Z "block_with" 11 ["patch","address"]) (N:zdT Z) (T:Txt Z.mg):zd9 Z:=by
 refine' okN ["patch","address","at"] D λC=>⟨_,(Jb (dsv 2 (ndB rfl) (Jd N C (dbv 0 (dbv 1 Ja)))) (Jb (Jw (Qx (Ym (Jn (Qh C) Qg (dlv 2) (dl (JF Q1 QQ T.len QM (Ji (dlv 0) Jq JD))) (Jj _)) (YN (Jn QT QP (dl (Jf (dl (Jf (dlv 0) (dlv 2))) dli)) (dlv 1) (Jj _))))) (Jc (Je (Jf (dlv 0) (dlv 2)))) JB) (Jc (Je Ui)))),?_⟩;rintro ts n R hl @⟨bits,a,bs,n,R,b1,P,hl6,hh,hn⟩;wp_walk using Wp.c b1 P hl6 (λk S G L=>?_)
 ·rw[Js]at hc;have J:k<bs.length:=by lia
  obtain⟨b,o⟩:∃b,bs[k]?=ao b:=⟨_,au J⟩;refine zro (k:=k) rfl (Zc o) ?_;wp_walk;refine zro (k:=k) rfl (Zc o) ?_;exact hh b (ax o) (by assumption) (L k b (aB _) o);have hx:¬b.1<=a:=hc;refine hn λx l ⟨x0,x1⟩=>?_;obtain⟨j,v,rfl⟩:=a9 l;have u:=au v;by_cases z:j<k;have:=G j _ z u;lia;by_cases y:j=k;subst y;rw[u]at o;cases o;exact hx x0;obtain⟨I,rfl⟩:=aw.mp o;have:=aR.mp P.2 k j I v (by lia);have:=J9 bs[k];exact hx (by lia)
 rw[Js]at hc;refine hn λx l ⟨x0,x1⟩=>?_;obtain⟨j,v,rfl⟩:=a9 l;have:=G j _ (by lia) (au v);lia
theorem ztA{bits:Int}{bs:qB}(P:Ptc bits bs){p q:Int×Int}{x:Int}(u:p∈bs)(o:q∈bs)(p1:p.1<=x)(p2:x<eB p)(v:q.1<=x)(y:x<eB q):p=q:=by obtain⟨i,hi,rfl⟩:=a9 u;obtain⟨j,l,rfl⟩:=a9 o;rcases cZ i j with z|z|z;have:=aR.mp P.2 i j hi l z;lia;subst z;rfl;have:=aR.mp P.2 j i l hi z;lia
inductive zb6:qD->Nat->qN->Prop
 | c {bits:Int} {bs:qB} {b:Int×Int} {n:Nat} {R:qN} (b0:0<=bits) (b1:bits<=64) (P:Ptc bits bs) (hl:bs.length<1000000) (B:IsBk bits b.1 b.2) (h:∀p∈bs,p.1<=b.1->eB b<=eB p->R (.tuple [.int p.1,.int p.2]) n) (h':(∀p∈bs,¬(p.1<=b.1/\eB b<=eB p))->R .none n):zb6 [.tuple (pD bs),.tuple [.int b.1,.int b.2]] n R
def zdi(Z:ZZ):Prop:=QF Z "block_about" 12 ["patch","block"] 5 2 zb6
theorem zft(D:DQ Z "block_about" 12 ["patch","block"]) (N:zd9 Z) (x:zmd Z) (T:Txt Z.mg):zdi Z:=by
 refine' okN ["patch","block","found"] D λv=>⟨_,(Jb (dsv 2 (ndB rfl) (Jd N v (dbv 0 (dbc (Jf (dlv 1) dli) Ja)))) (Jb (Jw (Qx (Ym (Jn zmx zna (dlv 2) (dl Ui) (Jj _)) (YN (Qo (dl (Jd x v (dbv 2 (dbv 1 Ja)))))))) (Jc (Je (Jh 2))) JB) (Jc (Je Ui)))),?_⟩;rintro ts n R hl @⟨bits,bs,b,n,R,b0,b1,P,hl2,B,h,h'⟩;have bd:=B.bounds b0;have pe:=J9 b;have J:(2:Int) ^ bits.toNat<=2 ^ 64:=Bd.zdm (by lia);have S:=Bd.JM b.2.toNat;have G:b.1<2 ^ 64:=by lia
 have u:∀p∈bs,p.2<=1000:=λp l=>by have:=(P.1 p l).2.1;lia
 have o:∀p∈bs,0<=p.2:=λp l=>(P.1 p l).1;wp_walk using zcw.c b1 P hl2 (λp l y L=>?_) (λno=>?_),zi3.c (o _ l) (u _ l) bd.1 G ?_;exact absurd hc (by simp[isNone]);rw[zp1 (P.1 p l) B]at hc;have hd:=of_decide_eq_true hc;exact h p l hd.1 hd.2;rw[zp1 (P.1 p l) B]at hc;have hd:=of_decide_eq_false hc;refine h' λq C z=>?_;have I:q=p:=ztA P C l z.1 (by lia) y L;subst I;exact hd z;exact h' λp l z=>no p l ⟨z.1,by lia⟩;exact absurd hc (by simp[isNone])
inductive Wd:qD->Nat->qN->Prop
 | c {bits:Int} {bs:qB} {b:Int×Int} {n:Nat} {R:qN} (b0:0<=bits) (b1:bits<=64) (P:Ptc bits bs) (hl:bs.length<1000000) (B:IsBk bits b.1 b.2) (h:∀k:Bool,(k=be↔∃p∈bs,p.1<=b.1/\eB b<=eB p)->R (.bool k) n):Wd [.tuple (pD bs),.tuple [.int b.1,.int b.2]] n R
def zeN(Z:ZZ):Prop:=QF Z "has_all" 13 ["patch","block"] 6 2 Wd
theorem zkI(D:DQ Z "has_all" 13 ["patch","block"]) (x:zdi Z) (T:Txt Z.mg):zeN Z:=by refine' okN ["patch","block"] D λu=>⟨_,(Jc (Je (QX zmx zna (dl (Jd x u (dbv 0 (dbv 1 Ja)))) (dl Ui) (Jj _)))),?_⟩;rintro ts n R hl @⟨bits,bs,b,n,R,b0,b1,P,hl2,B,h⟩;wp_walk using zb6.c b0 b1 P hl2 B (λp l o v=>?_) (λno=>?_);exact h _ ⟨λ_=>⟨p,l,o,v⟩,λ_=>rfl⟩;exact h _ ⟨λz=>(nomatch z),λ⟨p,l,z⟩=>absurd z (no p l)⟩
inductive Wq:qD->Nat->qN->Prop
 | c {bits:Int} {bs:qB} {b:Int×Int} {n:Nat} {R:qN} (b0:0<=bits) (b1:bits<=64) (P:Ptc bits bs) (hl:bs.length<1000000) (B:IsBk bits b.1 b.2) (h:∀k:Bool,(k=be↔∀p∈bs,eB p<=b.1\/eB b<=p.1)->R (.bool k) n):Wq [.tuple (pD bs),.tuple [.int b.1,.int b.2]] n R
def zdS(Z:ZZ):Prop:=QF Z "has_none" 14 ["patch","block"] 4 2 Wq
theorem ziN(D:DQ Z "has_none" 14 ["patch","block"]) (J:zdT Z) (G:US Z) (T:Txt Z.mg):zdS Z:=by
 refine' okN ["patch","block","at"] D λx=>⟨_,(Jb (dsv 2 (ndB rfl) (Jd J x (dbv 0 (dbc (Jf (dlv 1) dli) Ja)))) (Jc (Je (zp_ (QX (Zz x) Y5 (dlv 2) (dl (JF Q1 QQ T.len QM (Ji (dlv 0) Jq JD))) (Jj _)) (znw (QX QT QP (dl (Jd G x (dbv 1 Ja))) (dl (Jf (dl (Jf (dlv 0) (dlv 2))) dli)) (Jj _))))))),?_⟩;rintro ts n R hl @⟨bits,bs,b,n,R,b0,b1,P,hl2,B,h⟩;have h0:=B.1;have I:b.2<=1000:=by have:=B.2.1;lia
 wp_walk using Wp.c b1 P hl2 (λk L lo up=>?_),Q3.c h0 I ?_;rw[Js]at hc;refine h be ⟨λ_ p y=>?_,λ_=>rfl⟩;obtain⟨j,v,e⟩:=a9 y;exact .inl (lo j p (by lia) (by rw[au v,e]))
 ·rw[Js]at hc;have o:k<bs.length:=by lia
  have C:(pD bs)[k]?=ao (.tuple [.int bs[k].1,.int bs[k].2]):=by rw[pD,aX,au o];rfl
  refine ztZ C ?_;wp_walk;refine h _ ?_;rw[decide_eq_true_eq];constructor;intro z p y;obtain⟨j,v,rfl⟩:=a9 y;rcases cZ j k with q|q|q;exact .inl (lo j _ q (au v));subst q;exact .inr z;have:=aR.mp P.2 k j o v q;have:=J9 bs[k];exact .inr (by unfold eB at *;lia);intro z;have:=up k bs[k] (aB _) (au o);rcases z bs[k] (gD o) with q|q;lia;exact q
inductive zd1:qD->Nat->qN->Prop
 | c {bits:Int} {ps:qB} {n:Nat} {R:qN} (b0:0<=bits) (b1:bits<=64) (P:Ptc bits ps) (l:ps.length<=10000) (h:∀bs:BL,PInv bits ps bs bs.length->bs.length<=1+130*ps.length->R (.list (pD bs)) n):zd1 [.int bits,.tuple (pD ps)] n R
def zfT(Z:ZZ):Prop:=QF Z "parts_of" 26 ["bits","patch"] 7 2 zd1
theorem ziL(D:DQ Z "parts_of" 26 ["bits","patch"]) (Mn:zeN Z) (Mg:zdS Z) (Me:Wa Z) (T:Txt Z.mg):zfT Z:=by
 refine' okN ["bits","patch","parts","at","block"] D λG=>⟨_,(Jb (QY (i:=2) (ndB rfl) rfl (e9 rfl) (Qe (dbc (Jk (dbc Jg (dbv 0 Ja))) Ja))) (Jb (dsv 3 (ndB rfl) Jg) (Jb (V1 b5 (Jn (Qh G) Qg (dlv 3) (dl (JF Q1 QQ T.len QM (Ji (Uj 2) Jq JD))) (Jj _)) (Jb (dsv 4 (ndB rfl) (Jf (Uj 2) (dlv 3))) (Jb (Jw (Qx (Ym (VB (Qo (dl (Jd Mn G (dbv 1 (dbv 4 Ja)))))) (YN (VB (Qo (dl (Jd Mg G (dbv 1 (dbv 4 Ja))))))))) (Jc (zlf 2 (Jd Me G (dbv 4 Ja)))) JB) (Jc (znj (i:=3) (ndB rfl) rfl (e9 rfl) Jg zm4))))) (Q6 2 (Jc (Je (Jh 2))))))),?_⟩;rintro ts n R hl @⟨bits,ps,n,R,b0,b1,P,l,h⟩;wp_walk;refine ziz (m:=msz ([(0,bits)]:BL)) (λm ρ S=>S=n/\∃(bs:BL) (k:Nat) (c:Option Cell),ρ=[ao (.val (.int bits)),ao (.val (.tuple (pD ps))),ao (.own (pD bs)),ao (.val (.int (k:Int))),c]/\PInv bits ps bs k/\k<=bs.length/\msz (bs.drop k)<=m) ⟨rfl,[(0,bits)],0,_,rfl,PInv.start b0,by simp,aB _⟩ ?_;rintro m ρ S K RT BK ⟨rfl,bs,k,c,rfl,I,kl,hm⟩ hK hRT hBK;have ln:=I.len b1 P.1;wp_walk
 ·rw[Js]at hc;have J:k<bs.length:=by lia
  have x:bs[k]?=ao bs[k]:=au J;generalize bs[k]=b at x;have gb:(pD bs)[k]?=ao (.tuple [.int b.1,.int b.2]):=by rw[pD,aX,x];rfl
  have B:=I.bk b (ax x);have L:b.2<=1000:=by have:=B.2.1;lia
  have Y:ps.length<1000000:=by lia
  refine zt0 gb ?_;wp_walk using Wd.c b0 b1 P Y B (λal y=>?_);subst hc;refine hK _ _ _ ?_ ⟨rfl,bs,k+1,_,by rw[nH],I.no x (λz=>z.2 (y.mp rfl)),J,aB _⟩;have:=zpP x;lia
  ·subst hc;wp_walk using Wq.c b0 b1 P Y B (λno C=>?_);subst hc;refine hK _ _ _ ?_ ⟨rfl,bs,k+1,_,by rw[nH],I.no x (λz=>z.1 (C.mp rfl)),J,aB _⟩;have:=zpP x;lia
   ·subst hc;have pr:Prt ps b:=⟨λz=>absurd (C.mpr z) (by decide),λz=>absurd (y.mpr z) (by decide)⟩;have U:=pr.pos B;wp_walk using Uy.c U L ?_;rw[Js];show bs.length+2<=_;lia;have ep:pD bs++[iD [.int b.1,.int (b.2 - 1)],.tuple [.int (dh b.1 (2 ^ (b.2 - 1).toNat)),.int (b.2 - 1)]]=pD (bs++[loH b,upH b]):=by simp[pD,prD]
    refine hK _ _ _ ?_ ⟨rfl,bs++[loH b,upH b],k+1,_,by rw[nH,ep],I.yes b0 x pr,by rw[aW];lia,aB _⟩;have:=zrd x U;lia
 ·rw[Js]at hc;have e:k=bs.length:=by lia
  subst e;refine hBK _ _ ?_;wp_walk;exact h bs I ln
inductive zc1:qD->Nat->qN->Prop
 | c {bits:Int} {ps:qB} {qs:PR} {b:Int×Int} {n:Nat} {R:qN} (b0:0<=bits) (b1:bits<=64) (P:Ptc bits ps) (hl:ps.length<1000000) (B:IsBk bits b.1 b.2) (h:∀no al:Bool,(no=be↔HasN ps b)->(al=be↔HasA ps b)->R (optD (bpD no al qs b)) n):zc1 [.tuple (pD ps),.dict (Jr (prK qs)),.tuple [.int b.1,.int b.2]] n R
def zeP(Z:ZZ):Prop:=QF Z "best_pair" 27 ["patch","pairs","block"] 7 3 zc1
theorem zhO(D:DQ Z "best_pair" 27 ["patch","pairs","block"]) (S:zdS Z) (Y:zeN Z) (U:Wa Z) (T:Txt Z.mg):zeP Z:=by
 refine' okN ["patch","pairs","block","lower","upper","zeros","ones"] D λo=>⟨_,(Jb (Jw (Qo (dl (Jd S o (dbv 0 (dbv 2 Ja))))) (Jc (Je (Jk (dbc Jg (dbc Jg Ja))))) JB) (Jb (Jw (Qo (dl (Jd Y o (dbv 0 (dbv 2 Ja))))) (Jc (Je (Jk (dbc Jg (dbc Jg Ja))))) JB) (Jb (Uk (Jd U o (dbv 2 Ja)) (JU rfl (Jp (dgv 3 (ndB rfl)) (Jp (dgv 4 (ndB rfl)) JP)))) (Jb (Jw (Qx (Y3 (Jn (zmu (JZ o)) VN (dlv 3) (dlv 1) rfl) (Zo (Jn (zmu (JZ o)) VN (dlv 4) (dlv 1) rfl)))) (Jc (Je Ui)) JB) (Jb (dsv 5 (ndB rfl) (Jz (dl (Jf (dl (QI (JZ o) (dlv 1) (dlv 3))) dli)) (dl (Jf (dl (QI (JZ o) (dlv 1) (dlv 4))) dli)))) (Jb (dsv 6 (ndB rfl) (Jz (dl (Jf (dl (QI (JZ o) (dlv 1) (dlv 3))) dli)) (dl (Jf (dl (QI (JZ o) (dlv 1) (dlv 4))) dli)))) (Jc (Je (Jk (dbc (JF (UQ rfl) UH T.min Ut (Ji (dlv 5) (Ji (dl (Jz (dlv 6) dli)) Jq Zq) JD)) (dbc (JF (UQ rfl) UH T.min Ut (Ji (dlv 6) (Ji (dl (Jz (dlv 5) dli)) Jq Zq) JD)) Ja))))))))))),?_⟩;rintro ts n R hl @⟨bits,ps,qs,b,n,R,b0,b1,P,hl2,B,h⟩;have L:b.2<=1000:=by have:=B.2.1;lia
 wp_walk using Wq.c b0 b1 P hl2 B (λno v=>?_);subst hc
 classical
 exact h be (decide (HasA ps b)) v (by rw[decide_eq_true_eq])
 ·subst hc;wp_walk using Wd.c b0 b1 P hl2 B (λal C=>?_);subst hc;exact h bj be v C
  ·subst hc;have N:1<=b.2:=by
    have h0:=B.1;rcases fC 0 b.2 with z|z;lia;rcases zgL (ps:=ps) (b:=b) (by lia) with q|q;exact absurd (v.mpr q) (by decide);exact absurd (C.mpr q) (by decide)
   have key:=h bj bj v C;cases e1:valP qs (loH b) with
   | none =>
    have I:valT (prK qs) (loH b)=bc:=by rw[QL,e1];rfl
    have G:bpD bj bj qs b=bc:=by simp[bpD,e1]
    rw[G]at key;wp_walk using Uy.c N L ?_,QO (k:=loH b) ?_;exact key;rw[I]at hc;cases hc
   | some x =>
    have I:valT (prK qs) (loH b)=ao (.tuple [.int x.1,.int x.2]):=by rw[QL,e1];rfl
    cases e2:valP qs (upH b) with
    | none =>
     have J:valT (prK qs) (upH b)=bc:=by rw[QL,e2];rfl
     have G:bpD bj bj qs b=bc:=by simp[bpD,e1,e2]
     rw[G]at key;wp_walk using Uy.c N L ?_,QO (k:=loH b) ?_,QO (k:=upH b) ?_;exact key;exact key;rw[J]at hc;cases hc
    | some y =>
     have J:valT (prK qs) (upH b)=ao (.tuple [.int y.1,.int y.2]):=by rw[QL,e2];rfl
     have G:bpD bj bj qs b=ao (if x.2+y.2+1<x.1+y.1 then x.2+y.2+1 else x.1+y.1,if x.1+y.1+1<x.2+y.2 then x.1+y.1+1 else x.2+y.2):=by simp only[bpD,e1,e2];rfl
     rw[G]at key;wp_walk using Uy.c N L ?_,QO (k:=loH b) ?_,QO (k:=upH b) ?_,QD I ?_,QD J ?_;rw[I]at hc;cases hc;rw[J]at hc;cases hc;exact key
inductive Wr:qD->Nat->qN->Prop
 | c {bits:Int} {bs:BL} {n:Nat} {R:qN} (b0:0<=bits) (b1:bits<=64) (B:Bks bits bs) (l:bs.length<100000) (l2:bs.length<=10000) (h:∀(ps:BL) (qs:PR),CanP (λx=>mB x bs) ps->PrOk bits ps qs->R (.dict (Jr (prK qs))) n):Wr [.int bits,.tuple (pD bs)] n R
def zdR(Z:ZZ):Prop:=QF Z "pairs_of" 25 ["bits","patch"] 8 2 Wr
theorem ziM(D:DQ Z "pairs_of" 25 ["bits","patch"]) (L7:Z3 Z) (MI:zfT Z) (MB:zeP Z) (T:Txt Z.mg):zdR Z:=by
 refine' okN ["bits","patch","wanted","pairs","block"] D λy=>⟨_,(Jb (dsv 2 (ndB rfl) (Jd L7 y (dbv 1 Ja))) (Jb (zrN (i:=3) (ndB rfl) rfl (e9 rfl)) (Jb (Qf b5 rfl (zp6 T.rev (Jd MI y (dbv 0 (dbv 2 Ja)))) (dgv 4 (ndB rfl)) (Jc (zni 3 (JZ y) (Jh 4) (zqb MB y (Ji (dlv 2) (Ji (zi6 3) (Ji (dlv 4) Jq JD) JD) JD))))) (Jc (zrO 3))))),?_⟩;rintro ts n R hl @⟨bits,bs,n,R,b0,b1,B,l,l2,h⟩;wp_walk using Ux.c (.inr rfl) b0 b1 B l (λps C lp=>?_);have P:Ptc bits ps:=C.ptc b0 λx hx=>J7 b0 B hx;have l3:ps.length<=10000:=by lia
 wp_walk using zd1.c b0 b1 P l3 (λo I lw=>?_);have er:(pD o).reverse=pD o.reverse:=by simp[pD]
 rw[er];refine Uw (λk U G=>G=n/\∃qs:PR,∃S,U=[ao (.val (.int bits)),ao (.val (.tuple (pD bs))),ao (.val (.tuple (pD ps))),ao (.dtt (prK qs)),S]/\PrsI bits ps o k qs) ⟨rfl,[],_,rfl,PrsI.start⟩ ?_ ?_
 ·rintro k t U G K et ⟨rfl,qs,S,rfl,J⟩ hK;obtain⟨i,h,N,rfl⟩:=ZB et;have Bb:=I.bk _ (iB.mp (ax N));have L:ps.length<1000000:=by lia
  have lq:qs.length<=o.length:=by have:=congrArg fg J.keys;simp at this;lia
  wp_walk using zc1.c (b:=(i,h)) b0 b1 P L Bb (λno al hn Y=>?_);obtain⟨v,e,fr,J2⟩:=J.step I N hn Y;rw[e];rfl;rw[prK,aN];lia;obtain⟨v,e,fr,J2⟩:=J.step I N hn Y;rw[e,show optD (ao v)=twoD v from rfl,zqG fr];exact hK _ _ ⟨rfl,_,_,rfl,J2⟩
 ·rintro U G ⟨rfl,qs,S,rfl,J⟩;rw[Js,fB]at J;wp_walk;exact h ps qs C ⟨o,I,J⟩
inductive YZ:qD->Nat->qN->Prop
 | c {qs:PR} {b:Int×Int} {n:Nat} {R:qN} (h0:0<=b.2) (h1:b.2<=1000) (hn:b.2=0\/valP qs (loH b)=bc->R (.tuple []) n) (hs:1<=b.2->∀v,valP qs (loH b)=ao v->R (.tuple [.tuple [.int (loH b).1,.int (loH b).2],.tuple [.int (upH b).1,.int (upH b).2]]) n):YZ [.dict (Jr (prK qs)),.tuple [.int b.1,.int b.2]] n R
def zbq(Z:ZZ):Prop:=QF Z "parted_halves" 29 ["pairs","block"] 3 2 YZ
theorem zeh(D:DQ Z "parted_halves" 29 ["pairs","block"]) (C:Wa Z) (T:Txt Z.mg):zbq Z:=by
 refine' okN ["pairs","block","lower","upper"] D λv=>⟨_,(Jb (Jw (Jn (Zz v) Y5 (dl (Jf (dlv 1) dli)) dli (Jj _)) (Jc (Je (Jk Ja))) JB) (Jb (Uk (Jd C v (dbv 1 Ja)) (JU rfl (Jp (dgv 2 (ndB rfl)) (Jp (dgv 3 (ndB rfl)) JP)))) (Jc (Je (YO (Jn (zpL (JZ v)) VN (dlv 2) (dlv 0) rfl) (Jk (dbv 2 (dbv 3 Ja))) (Jk Ja)))))),?_⟩;rintro ts n R hl @⟨qs,b,n,R,h0,h1,hn,hs⟩;by_cases z:b.2=0
 ·have k:=hn (.inl z);wp_walk;exact k;exact absurd hc (by simp[z])
 ·have y:1<=b.2:=by lia
  cases e1:valP qs (loH b) with
  | none =>
   have o:valT (prK qs) (loH b)=bc:=by rw[QL,e1];rfl
   have k:=hn (.inr e1);wp_walk using Uy.c y h1 ?_,QO (k:=loH b) ?_;exact absurd (by simpa using hc) z;rw[o]at hc;cases hc;exact k
  | some x =>
   have o:valT (prK qs) (loH b)=ao (.tuple [.int x.1,.int x.2]):=by rw[QL,e1];rfl
   have k:=hs y x e1;wp_walk using Uy.c y h1 ?_,QO (k:=loH b) ?_;exact absurd (by simpa using hc) z;exact k;rw[o]at hc;cases hc
inductive WD:qD->Nat->qN->Prop
 | c {bits:Int} {ps:BL} {qs:PR} {b v:Int×Int} {a:Int} {n:Nat} {R:qN} (b1:bits<=64) (Q:PrOk bits ps qs) (m:(b,v)∈qs) (ha:a=0\/a=1) (hn:¬Prt ps b->R (.int (if v.1=0 then 0 else 1)) n) (hp:Prt ps b->∀x y,valP qs (loH b)=ao x->valP qs (upH b)=ao y->R (.int (sgn a x y)) n):WD [.dict (Jr (prK qs)),.tuple [.int b.1,.int b.2],.int a] n R
def zeO(Z:ZZ):Prop:=QF Z "best_sign" 28 ["pairs","block","ahead"] 4 3 WD
theorem zhN(D:DQ Z "best_sign" 28 ["pairs","block","ahead"]) (L6:zbq Z) (T:Txt Z.mg):zeO Z:=by
 refine' okN ["pairs","block","ahead","within","costs"] D λL=>⟨_,(Jb (dsv 3 (ndB rfl) (Jd L6 L (dbv 0 (dbv 1 Ja)))) (Jb (Jw (VB (Qo (dlv 3))) (Jc (Je (znx (QI (JZ L) (dlv 0) (dlv 1)) Jg))) JB) (Jb (VT (V0 (i:=4) (ndB rfl) rfl (e9 rfl) (own:=["sign"]) (capt:=[3,0]) rfl (Jv.of rfl) (dil (Qd (Jk (dbc Jg (dbc Jg Ja))))) (λ_ _ _ _=>(dgv 0 (ndB rfl))) (by decide) (λ_ _ _ _=>QZ) (λ_ _ _ _=>(JF (znQ rfl) zuz T.sum znV (Ji (dl (JT (dnc ["half"] [0,2] (dil (Qd (Jh 1))) (λ_ _ _ _=>(dgv 0 (ndB rfl))) (λ_ _ _ _=>(Jf (dl (QI (JZ L) (dlv 2) (dlv 0))) (dlv 1)))))) Jq Uo))))) (Jc (Je (YO (Jn QT QP (dl (Jf (dlv 4) (dlv 2))) (dl (Jz (dl (Jf (dlv 4) (dl (J0 dli (dlv 2))))) dli)) (Jj _)) (Jh 2) (J0 dli (dlv 2)))))))),?_⟩;rintro ts n R hl @⟨bits,ps,qs,b,v,a,n,R,b1,Q,m,ha,hn,hp⟩;have B:=Q.bk _ m;have h0:0<=b.2:=B.1;have h1:b.2<=1000:=by have:=B.2.1;dsimp only at this;lia
 have vt:valT (prK qs) b=ao (.tuple [.int v.1,.int v.2]):=by rw[QL,zql Q.nd m];rfl
 by_cases p:Prt ps b
 ·obtain⟨x,y,J,e2,_⟩:=Q.kids m p;have k:=hp p x y J e2;have v1:valT (prK qs) (loH b)=ao (.tuple [.int x.1,.int x.2]):=by rw[QL,J];rfl
  have v2:valT (prK qs) (upH b)=ao (.tuple [.int y.1,.int y.2]):=by rw[QL,e2];rfl
  have gp:=p.pos B;wp_walk using YZ.c h0 h1 (λz=>?_) (λU w I=>?_);exfalso;rcases z with z|z;lia;rw[J]at z;cases z;exfalso;rcases z with z|z;lia;rw[J]at z;cases z;cases hc
  ·refine Uu (cs:=([0,1]:List Int)) (D:=cg) (λs=>.int (if s=0 then x.1+y.1 else x.2+y.2)) (by decide) ?_ ?_
   ·intro s Y K2 X2 S;have ne:upH b≠loH b:=λz=>by
     rw[up_eq B gp]at z;have e:=congrArg mF z;have:=JM (b.2 - 1).toNat;dsimp only at e;lia
    wp_walk;refine Uu (cs:=[loH b,upH b]) (D:=prD) (λc=>.int (if c=loH b then(if s=0 then x.1 else x.2) else(if s=0 then y.1 else y.2))) (show 2<=16777216 by decide) ?_ ?_
    ·intro c hc K3 X3 C;have G:s=0\/s=1:=by simpa using Y
     rcases aE.mp hc with rfl|hc
     ·rw[if_pos rfl]at C;rcases G with rfl|rfl
      ·wp_walk using QD v1 ?_;exact C
      ·wp_walk using QD v1 ?_;exact C
     ·rw[aA]at hc;subst hc;rw[if_neg ne]at C;rcases G with rfl|rfl
      ·wp_walk using QD v2 ?_;exact C
      ·wp_walk using QD v2 ?_;exact C
    ·have G:s=0\/s=1:=by simpa using Y
     have em:[loH b,upH b].map (λc=>cg (if c=loH b then(if s=0 then x.1 else x.2) else(if s=0 then y.1 else y.2)))=[if s=0 then x.1 else x.2,if s=0 then y.1 else y.2].map cg:=by rw[aU,aU,eN,if_pos rfl,if_neg ne];rfl
     rw[em];wp_walk;refine⟨_,rfl,?_⟩;have es:[if s=0 then x.1 else x.2,if s=0 then y.1 else y.2].sum=if s=0 then x.1+y.1 else x.2+y.2:=by rcases G with rfl|rfl;simp;simp
     rw[es];exact S
   ·rw[show([0,1]:List Int).map (λs=>cg (if s=0 then x.1+y.1 else x.2+y.2))=[.int (x.1+y.1),.int (x.2+y.2)] from rfl];unfold sgn at k;rcases ha with rfl|rfl
    ·wp_walk;rw[show(1:Int) - 0=1 from rfl];wp_walk;rw[if_pos rfl,if_pos hc]at k;exact k;rw[if_pos rfl,if_neg hc]at k;exact k
    ·wp_walk;rw[show(1:Int) - 1=0 from rfl];wp_walk;rw[if_neg (by decide),if_pos hc]at k;exact k;rw[if_neg (by decide),if_neg hc]at k;exact k
 ·have k:=hn p;have vz:v.1=0\/v.2=0:=by rcases Q.leaf m p with⟨_,e⟩|⟨_,_,e⟩ <;> simp[e]
  wp_walk using YZ.c h0 h1 (λz=>?_) (λU w I=>?_)
  ·refine QD vt ?_;refine⟨v.1,v.2,rfl,?_⟩;wp_walk;rfl;exact vz;exact k
  cases hc;exfalso;rw[Q.nokid m p U]at I;cases I;exfalso;rw[Q.nokid m p U]at I;cases I
theorem zuL{g:DTG}{l:DTS}{D:JH}{t:af}{ts:qD}{u:En}{n:Nat}(h:g t u λo=>l { D with nx:=forP g l D ts,ct:=forP g l D ts,bk:=D.nx } o n):forP g l D (t::ts) u n:=h
theorem zuK{g:DTG}{o:DTS}{D:JH}{l:En}{n:Nat}(h:D.nx l n):forP g o D [] l n:=h
theorem zjl{ks:KT2}{k b:Int×Int}{t:af}:valT (putT ks k t) b=if b=k then ao t else valT ks b:=by
 have mp:∀ks:KT2,valT (ks.map λz=>if z.1=k then(z.1,t) else z) b=if b=k then(valT ks b).map (λ_=>t) else valT ks b:=by
  intro ks;induction ks with
  | nil=>unfold valT;split <;> rfl
  | cons q ks o =>
   unfold valT at o ⊢;rw[aU,cO,cO];by_cases e:q.1=b;by_cases z:b=k;simp[e,z];have:¬q.1=k:=λy=>z (e.symm.trans y);simp[e,z];have u:¬(if q.1=k then(q.1,t) else q).1=b:=by split <;> exact e
   simp only[e,u,decide_false];exact o
 unfold putT;split;rename_i h;rw[mp];by_cases z:b=k;subst z;rw[if_pos rfl,if_pos rfl];obtain⟨q,l,e⟩:=sZ.mp h;unfold valT;cases f:ks.find? λz=>decide (z.1=b) with
 | none=>exact absurd e (by simpa using gP.mp f q l)
 | some y=>rfl
 rw[if_neg z,if_neg z];rename_i h;have v:∀q∈ks,¬q.1=k:=λq l e=>h (sZ.mpr ⟨q,l,decide_eq_true e⟩);unfold valT;rw[rX];by_cases z:b=k;subst z;rw[if_pos rfl,gP.mpr λq l=>by simpa using v q l];simp;rw[if_neg z];simp[eK z]
theorem zmf{ks:KT2}{k:Int×Int}{t:af}:(putT ks k t).length<=ks.length+1:=by unfold putT;split;rw[aN];lia;rw[aW];simp
inductive zbO:qD->Nat->qN->Prop
 | c {bits:Int} {bs:BL} {n:Nat} {R:qN} (b0:0<=bits) (b1:bits<=64) (B:Bks bits bs) (l:bs.length<100000) (l2:bs.length<=10000) (h:∀(ps:BL) (rs:RL),CanP (λx=>mB x bs) ps->Rls bits rs->(rs.length:Int)=ze3 bits ps->(∀x,0<=x->x<2 ^ bits.toNat->(SgX rs x 1↔mB x bs))->R (.tuple (L2.rD rs)) n):zbO [.int bits,.tuple (pD bs)] n R
def Rch(bits:Int)(ps l:BL)(k:Nat)(b:Int×Int):Prop:=b=(0,bits)\/∃(j:Nat) (p:Int×Int),j<k/\l[j]?=ao p/\Prt ps p/\(b=loH p\/b=upH p)
theorem zoF{bits:Int}{ps o:BL}(I:PInv bits ps o o.length){k:Nat}{b:Int×Int}(u:o[k]?=ao b):Rch bits ps o k b:=by rcases I.par b (ax u) with z|⟨j,p,G,v,pp,z⟩;exact .inl z;refine .inr ⟨j,p,?_,v,pp,z⟩;obtain⟨⟨J,L,C⟩,⟨R,N,y⟩⟩:=I.kid j p G v pp;have x:=(aw.mp u).1;rcases z with z|z;rw[<- z]at C;have:=(hV x I.nd).mp (u.trans C.symm);lia;rw[<- z]at y;have:=(hV x I.nd).mp (u.trans y.symm);lia
theorem zqD{rs:RL}{r:(Int×Int)×Int}:L2.rD rs++[.tuple [.tuple [.int r.1.1,.int r.1.2],.int r.2]]=L2.rD (rs++[r]):=by simp[L2.rD]
theorem zjo{bits:Int}{ps o:BL}{k:Nat}{b:Int×Int}(u:o[k]?=ao b):(o.take (k+1)).filterMap (frB bits ps)=(o.take k).filterMap (frB bits ps)++(if sF bits ps b=aF bits ps b then[] else[(b,sF bits ps b)]):=by rw[dD,u,List.filterMap_append];congr 1;show[b].filterMap (frB bits ps)=_;unfold frB;rw[dJ];split;rename_i e;split at e;rename_i z;rw[if_pos z];rfl;cases e;rename_i r e;split at e;cases e;rename_i z;cases e;rw[if_neg z];rfl
def zcS(Z:ZZ):Prop:=QF Z "fewest_rules" 23 ["bits","patch"] 9 2 zbO
theorem ze0(D:DQ Z "fewest_rules" 23 ["bits","patch"]) (Mh:zdR Z) (MC:zeO Z) (L6:zbq Z) (T:Txt Z.mg):zcS Z:=by
 refine' okN ["bits","patch","pairs","ahead","rules","block","sign","half"] D λG=>⟨_,(Jb (dsv 2 (ndB rfl) (Jd Mh G (dbv 0 (dbv 1 Ja)))) (Jb (zpj (i:=3) (JZ G) (ndB rfl) rfl (e9 rfl) (Jk (dbc Jg (dbv 0 Ja))) Jg) (Jb (QY (i:=4) (ndB rfl) rfl (e9 rfl) (Qe Ja)) (Jb (Qf b5 rfl (zp6 T.rev (JT (zpm rfl T.lst (Jh 2)))) (dgv 5 (ndB rfl)) (Jb (dsv 6 (ndB rfl) (Jd MC G (dbv 2 (dbv 5 (dbc (QI (JZ G) (zi6 3) (dlv 5)) Ja))))) (Jb (Jw (Jn (Qp G) Qn (dlv 6) (dl (QI (JZ G) (zi6 3) (dlv 5))) (Jj _)) (Jc (Qw 4 (Jk (dbv 5 (dbv 6 Ja))))) JB) (Jc (Qf b5 rfl (Qd (Jd L6 G (dbv 2 (dbv 5 Ja)))) (dgv 7 (ndB rfl)) (Jc (zni 3 (JZ G) (Jh 7) (Jh 6)))))))) (Q6 4 (Jc (Je (Qm Q9 Q4 T.tup Q7 (Ji (dl (JT (zlg G T.srt (dlv 4) JD))) Jq UP))))))))),?_⟩;rintro ts n R hl @⟨bits,bs,n,R,b0,b1,B,l,l2,h⟩;have w:∀x,mB x bs->0<=x/\x<2 ^ bits.toNat:=λx hx=>J7 b0 B hx;wp_walk using Wr.c b0 b1 B l l2 (λps qs C Q=>?_);have P:Ptc bits ps:=C.ptc b0 w;have lp:=C.le b0 B;obtain⟨J,I,ek⟩:=Q.mem;have lw:=I.len b1 P.1;refine⟨prK qs,rfl,?_⟩;have et:((prK qs).map λq=>L2.blkT q.1).reverse=pD J:=by
  have e1:(prK qs).map (λq=>L2.blkT q.1)=(qs.map (·.1)).map L2.blkT:=by simp[prK,g8]
  rw[e1,ek,<- List.map_reverse,List.reverse_reverse];rfl
 show forP _ _ _ ((prK qs).map λq=>L2.blkT q.1).reverse _ _;rw[et];refine Uw (λk ρ m'=>m'=n/\∃ks:KT2,∃c5 c6 c7,ρ=[ao (.val (.int bits)),ao (.val (.tuple (pD bs))),ao (.val (.dict (Jr (prK qs)))),ao (.dtt ks),ao (.own (L2.rD ((J.take k).filterMap (frB bits ps)))),c5,c6,c7]/\ks.length<=2*k+1/\∀b∈J,Rch bits ps J k b->valT ks b=ao (.int (aF bits ps b))) ⟨rfl,_,_,_,_,rfl,aB _,λb hb z=>?_⟩ ?_ ?_;rcases z with rfl|⟨j,p,hj,_⟩;rw[zn7];simp[valT];lia
 ·rintro k t ρ m' K et ⟨rfl,ks,c5,c6,c7,rfl,lk,va⟩ hK;obtain⟨i,g,L,rfl⟩:=ZB et;obtain⟨b,S⟩:∃b:Int×Int,b=(i,g):=⟨_,rfl⟩;have ei:i=b.1:=by rw[S]
  have eg:g=b.2:=by rw[S]
  rw[<- S]at L;subst ei eg;have mb:=ax L;have Y:=I.bk b mb;have vb:=va b mb (zoF I L);have kl:=(aw.mp L).1;have h0:0<=b.2:=Y.1;have h1:b.2<=1000:=by have:=Y.2.1;lia
  obtain⟨v,mv⟩:∃v,(b,v)∈qs:=by
   have:b∈qs.map (·.1):=by rw[ek];exact iB.mpr mb
   obtain⟨q,hq,e⟩:=aY.mp this;exact⟨q.2,by rw[<- e];exact hq⟩
  have a01:=zu1 (bits:=bits) (ps:=ps) (b:=b);have cb:∀{R':qN} {n':Nat},R' (.int (sF bits ps b)) n'->WD [.dict (Jr (prK qs)),.tuple [.int b.1,.int b.2],.int (aF bits ps b)] n' R':=λG=>by
   refine WD.c b1 Q mv a01 (λnp=>?_) (λp x y e1 e2=>?_);have:(if v.1=0 then(0:Int) else 1)=sF bits ps b:=by unfold sF sB;rw[if_neg np];rcases Q.leaf mv np with⟨hN,e⟩|⟨hN,_,e⟩;rw[e,if_pos hN];rfl;rw[e,if_neg hN];rfl
   rw[this];exact G;have:sgn (aF bits ps b) x y=sF bits ps b:=by unfold sF sB;rw[if_pos p];have ex:=Q.val (b.2 - 1).toNat _ (Uv e1) rfl;have ey:=Q.val (b.2 - 1).toNat _ (Uv e2) rfl;dsimp only at ex ey;rw[<- ex,<- ey]
   rw[this];exact G
  have lr:((J.take k).filterMap (frB bits ps)).length<=J.length:=cx (List.length_filterMap_le ..) (by rw[ef];lia);have tail:∀(D':JH) (cl:qD),D'.nx=K->cl=L2.rD ((J.take (k+1)).filterMap (frB bits ps))->YZ [.dict (Jr (prK qs)),.tuple [.int b.1,.int b.2]] m' λt n'=>lTup t λts=>forP (JX 7) (Vp 3 (dVar 7) (dVar 6)) D' ts [ao (.val (.int bits)),ao (.val (.tuple (pD bs))),ao (.val (.dict (Jr (prK qs)))),ao (.dtt ks),ao (.own cl),ao (.val (.tuple [.int b.1,.int b.2])),ao (.val (.int (sF bits ps b))),c7] n':=λD' cl hD hcl=>by
   subst hcl;refine YZ.c h0 h1 (λz=>?_) (λg0 w' ew=>?_);show D'.nx _ _;rw[hD];refine hK _ _ ⟨rfl,ks,_,_,_,rfl,by lia,λc hc G=>va c hc ?_⟩;rcases G with G|⟨j,p,hj,U,pp,y⟩;exact .inl G;rcases e8 (su hj) with q|q;exact .inr ⟨j,p,q,U,pp,y⟩;exfalso;rw[q,L]at U;cases U;obtain⟨x',y',e1,_⟩:=Q.kids mv pp;have:=pp.pos Y;rcases z with z|z;lia;rw[e1]at z;cases z
   ·have l1:=zmf (ks:=ks) (k:=((loH b).1,(loH b).2)) (t:=.int (sF bits ps b));have l2':=zmf (ks:=putT ks ((loH b).1,(loH b).2) (.int (sF bits ps b))) (k:=((upH b).1,(upH b).2)) (t:=.int (sF bits ps b));wp_walk using zuL ?_,zuK ?_;lia;lia;rw[hD];refine hK _ _ ⟨rfl,_,_,_,_,rfl,by lia,λc hc G=>?_⟩;rw[zjl,zjl];by_cases z1:c=((upH b).1,(upH b).2);rw[if_pos z1,Vx Y g0 (.inr z1)];by_cases z2:c=((loH b).1,(loH b).2);rw[if_neg z1,if_pos z2,Vx Y g0 (.inl z2)];rw[if_neg z1,if_neg z2];refine va c hc ?_;rcases G with G|⟨j,p,hj,U,pp,y⟩;exact .inl G;rcases e8 (su hj) with q|q;exact .inr ⟨j,p,q,U,pp,y⟩;exfalso;rw[q,L]at U;cases U;rcases y with y|y;exact z2 y;exact z1 y
  wp_walk using QD (k:=b) vb ?_,cb ?_;refine tail _ _ rfl ?_;rw[zjo L,if_pos hc,cf];have lz:(L2.rD ((J.take k).filterMap (frB bits ps))).length=((J.take k).filterMap (frB bits ps)).length:=by simp[L2.rD]
  rw[lz];refine fK lr ?_;have h3:130*fg ps<=130*10000:=pO _ (cx lp l2);exact fK lw (fK (Nat.add_le_add_left h3 1) (by decide));refine tail _ _ rfl ?_;rw[zjo L,if_neg hc,<- zqD]
 ·rintro ρ m' ⟨rfl,ks,c5,c6,c7,rfl,lk,va⟩;rw[Js,dH];obtain⟨f1,f2,f3⟩:=zib b0 C w I (rs:=J.filterMap (frB bits ps)) .rfl;have ml:=zmO b0 C w P (C.mem);wp_walk;refine⟨_,rfl,by lia,f1.ok b1,λrs' pm pw=>?_⟩;wp_walk;obtain⟨g1,g2,g3⟩:=zib b0 C w I pm;exact h ps rs' C (f1.sort b1 pm pw) g2 g3
inductive WA:qD->Nat->qN->Prop
 | c {bits:Int} {bs:BL} {n:Nat} {R:qN} (b0:0<=bits) (b1:bits<=64) (B:Bks bits bs) (l:bs.length<100000) (l2:bs.length<=10000) (h:∀ps:BL,CanP (λx=>mB x bs) ps->R (.int (ze3 bits ps)) n):WA [.int bits,.tuple (pD bs)] n R
def zd8(Z:ZZ):Prop:=QF Z "many_rules" 24 ["bits","patch"] 9 2 WA
theorem zgA(D:DQ Z "many_rules" 24 ["bits","patch"]) (x:zdR Z) (T:Txt Z.mg):zd8 Z:=by
 refine' okN ["bits","patch"] D λo=>⟨_,(Jc (Je (Jf (dl (QI (JZ o) (dl (Jd x o (dbv 0 (dbv 1 Ja)))) (dl (Jk (dbc Jg (dbv 0 Ja)))))) dli))),?_⟩;rintro ts n R hl @⟨bits,bs,n,R,b0,b1,B,l,l2,h⟩;wp_walk using Wr.c b0 b1 B l l2 (λps qs C Q=>?_);obtain⟨v,ev⟩:=Q.root;have y:valT (prK qs) (0,bits)=ao (.tuple [.int v.1,.int v.2]):=by rw[QL,ev];rfl
 refine QD (k:=(0,bits)) y ?_;wp_walk;rw[Q.many ev];exact h ps C
theorem zn5{x:Int}(h:0<=x):fJ x 1=x % 2:=by unfold fJ;rw[decide_eq_true h];show((x.toNat &&& 1:Nat):Int)=x % 2;rw[pZ];omega
inductive WC:qD->Nat->qN->Prop
 | c {bits i h:Int} {n:Nat} {R:qN} (b0:0<=bits) (b1:bits<=64) (B:IsBk bits i h) (r:R (.str (mkS (begL bits i h))) n):WC [.int bits,.tuple [.int i,.int h]] n R
def zeQ(Z:ZZ):Prop:=QF Z "beginning" 31 ["bits","block"] 1 2 WC
theorem zhP(D:DQ Z "beginning" 31 ["bits","block"]) (T:Txt Z.mg):zeQ Z:=by
 refine' okN ["bits","block","begin","height","figures"] D λY=>⟨_,(Jb (Uk (Jh 1) (JU rfl (Jp (dgv 2 (ndB rfl)) (Jp (dgv 3 (ndB rfl)) JP)))) (Jb (VT (V0 (i:=4) (ndB rfl) rfl (e9 rfl) (own:=["at"]) (capt:=[2,0]) rfl (Jv.of rfl) (dil (Vc T.ran (J0 (dlv 0) (dlv 3)))) (λ_ _ _ _=>(dgv 0 (ndB rfl))) (by decide) (λ_ _ _ _=>QZ) (λ_ _ _ _=>(YO (Qo (dl (zqc (dl (zp9 (dlv 1) (dl (J0 (dl (J0 (dlv 2) dli)) (dlv 0))))) dli))) QJ QJ)))) (Jc (Je (Jz (dl (zrR (dl QJ) (Jh 4))) (dl (YO (Jn Yc gp_B (dlv 3) dli (Jj _)) QJ QJ))))))),?_⟩;intro ts n R U h;obtain @⟨bits,i,g,n,R,b0,b1,B,h⟩:=h;have g0:0<=g:=B.1;have g1:g<=bits:=B.2.1;have bd:=B.bounds b0;wp_walk;omega;omega;refine Uu (cs:=eY (bits - g).toNat) (D:=λj:Nat=>.int (0+(j:Int))) (λj:Nat=>.str (if (i / 2 ^ (bits - 1 - (0+(j:Int))).toNat) % 2=0 then aH "0" else aH "1")) (by rw[f6];omega) ?_ ?_
 ·intro j v K2 X2 u;have v:=hW.mp v;have nn:0<=i / 2 ^ (bits - 1 - (0+(j:Int))).toNat:=om bd.1 (by have:=JM (bits - 1 - (0+(j:Int))).toNat;omega);wp_walk;omega;rw[zn5 nn]at hc;rw[if_neg (by omega)]at u;exact u;rw[zn5 nn]at hc;rw[if_pos (by omega)]at u;exact u
 ·wp_walk;refine⟨(eY (bits - g).toNat).map λj:Nat=>(if (i / 2 ^ (bits - 1 - (0+(j:Int))).toNat) % 2=0 then aH "0" else aH "1"),by rw[cy];rfl,joinOk_of (k:=1) (λs C=>?_) (by rw[aN,f6];show(bits - g).toNat*1<=_;omega),?_⟩;obtain⟨j,_,rfl⟩:=aY.mp C;split <;> decide +kernel;rw[join_nil];have e:((((eY (bits - g).toNat).map λj:Nat=>(if (i / 2 ^ (bits - 1 - (0+(j:Int))).toNat) % 2=0 then aH "0" else aH "1")).map (·.cps.toList)).flatten)=figL (bits - g).toNat (i / 2 ^ g.toNat):=by
   rw[cy];have G:∀(l:List Nat),(∀j∈l,j<(bits - g).toNat)->(l.map ((λx:Str=>x.cps.toList)∘λj:Nat=>(if (i / 2 ^ (bits - 1 - (0+(j:Int))).toNat) % 2=0 then aH "0" else aH "1"))).flatten=l.map λj=>48+(((i / 2 ^ g.toNat) / 2 ^ ((bits - g).toNat - 1 - j)) % 2).toNat:=by
    intro l;induction l with
    | nil=>intro _;rfl
    | cons j r I =>
     intro v;have h1:=v j (by simp);rw[aU,sv,aU,I λq y=>v q (by simp[y])];have J:(i / 2 ^ g.toNat) / 2 ^ ((bits - g).toNat - 1 - j)=i / 2 ^ (bits - 1 - (0+(j:Int))).toNat:=by rw[kb (by have:=JM g.toNat;omega),<- dM,show g.toNat+((bits - g).toNat - 1 - j)=(bits - 1 - (0+(j:Int))).toNat by omega]
     rw[J];show(if (i / 2 ^ (bits - 1 - (0+(j:Int))).toNat) % 2=0 then aH "0" else aH "1").cps.toList++_=_;by_cases z:(i / 2 ^ (bits - 1 - (0+(j:Int))).toNat) % 2=0;rw[if_pos z,z,s_0,Qu];rfl;have S:(i / 2 ^ (bits - 1 - (0+(j:Int))).toNat) % 2=1:=by omega
     rw[if_neg z,S,s_1,Qu];rfl
   exact G _ λj v=>hW.mp v
  rw[e];unfold begL at h;wp_walk;rw[zl2,J4,J4,UO];show(bits - g).toNat+1<=_;omega;rw[if_pos hc]at h;rw[zl2,VY];exact h;rw[Vq,J4,J4,UO];show(bits - g).toNat+0<=_;omega;rw[if_neg hc]at h;rw[Vq,VY];exact h
theorem znF{x:Str}:cutS x bc (ao (-1))=mkS x.cps.toList.dropLast:=by
 refine L2.Str.ext' ?_;rw[Qu];unfold cutS;have l:HT.sIx x.length 0 bc=0:=by simp[HT.sIx]
 have o:HT.sIx x.length x.length (ao (-1))=x.length - 1:=by have:=ZQ x.length x.length (-1);rw[if_pos (by decide)]at this;lia
 rw[l,o,mm,rQ,<- VV,List.dropLast_eq_take]
theorem zlR{cs:List Nat}{k:Nat}{t:af}(h:(sgnD (mkS cs))[k]?=ao t):∃c,cs[k]?=ao c/\t=.str ⟨#[c]⟩:=by
 unfold sgnD at h;rw[Qu,aX]at h;cases e:cs[k]? with
 | none=>rw[e]at h;cases h
 | some c=>rw[e]at h;cases h;exact⟨c,rfl,rfl⟩
theorem zlQ{cs:List Nat}:(sgnD (mkS cs)).length=cs.length:=by unfold sgnD;rw[Qu,aN]
theorem VJ{z:Str}{n:Int}{R:af->Prop}(l:z.length<=640)(o:gG z=ao n)(h:R (.int n)):Zb [.str z] R:=⟨l,n,o,h⟩
theorem zg7{v:Int}{cs:List Nat}{c:Nat}:valF v (cs++[c])=2*valF v cs+((c:Int) - 48):=by unfold valF;rw[sr];rfl
theorem ZW:∀{cs:List Nat}{v:Int},figs cs->0<=v->0<=valF v cs/\valF v cs<(v+1)*2 ^ cs.length
 | [],v,_,h=>by simp[valF];lia
 | c::cs,v,hf,h=>by have o:c=48\/c=49:=hf c (by simp);have l:=ZW (cs:=cs) (v:=2*v+((c:Int) - 48)) (λx hx=>hf x (by simp[hx])) (by lia);refine⟨l.1,rm l.2 ?_⟩;rw[aL,bL,<- bN,b9 _ 2,<- bN];exact a7 (by lia) (by have:=JM cs.length;lia)
inductive zd3:qD->Nat->qN->Prop
 | c {bits:Int} {cs:List Nat} {n:Nat} {R:qN} (b0:0<=bits) (b1:bits<=64) (l:cs.length<=1000) (o:∀c∈cs,c<1114112) (r:R (bkD (blkT bits cs)) n):zd3 [.int bits,.str (mkS cs)] n R
theorem VR{c:Nat}:([mC (aH "0"),mC (aH "1")].any λt=>t.eqv (.str ⟨#[c]⟩))=decide (c=48\/c=49):=by
 rw[s_0,s_1];have e:∀d:Nat,gk (.str (mkS [d])) (.str ⟨#[c]⟩)=decide (d=c):=λd=>by show((mkS [d]) == (⟨#[c]⟩:Str))=_;rw[eU,beq_iff_eq,decide_eq_true_eq];constructor;intro h;have:=congrArg (λs:Str=>s.cps.toList) h;simpa[mkS] using this;intro h;subst h;rfl
 rw[m7,m7,List.any_nil,e,e,vK,eU];simp;lia
theorem zjI{c:Nat}(h:c<1114112):Okd (.str ⟨#[c]⟩):=(okK_str (by simp[dS,PyData.strOk,h])).okd
def zfV(Z:ZZ):Prop:=QF Z "block_of" 32 ["bits","text"] 1 2 zd3
theorem ziQ(D:DQ Z "block_of" 32 ["bits","text"]) (T:Txt Z.mg):zfV Z:=by
 refine' okN ["bits","text","starred","figures","height","begin","figure"] D λS=>⟨_,(Jb (dsv 2 (ndB rfl) (zrS (dlv 1) QJ)) (Jb (dsv 3 (ndB rfl) (YO (Qo (dlv 2)) (znv (dlv 1) znm (znl (Yl Jg))) (Jh 1))) (Jb (dsv 4 (ndB rfl) (J0 (dlv 0) (dl (JF Q1 QQ T.len QM (Ji (dlv 3) Jq JD))))) (Jb (Jw (Qx (Y3 (Jn (Qh S) Qg (dlv 4) dli (Jj _)) (Zo (Jn (Qp S) Qn (dlv 2) (dl (QX Yc gp_B (dlv 4) dli (Jj _))) (Jj _))))) (Jc (Je Ui)) JB) (Jb (dsv 5 (ndB rfl) Jg) (Jb (Qf b5 rfl (zuR (Jh 3)) (dgv 6 (ndB rfl)) (Jb (Jw (Jn (zmt S) zpa (dlv 6) (dl (Jk (dbc QJ (dbc QJ Ja)))) rfl) (Jc (Je Ui)) JB) (Jc (dsv 5 (ndB rfl) (Jz (dl (Zn dli (dlv 5))) (dl (Qm znS zrE T.int boot_int (Ji (dlv 6) Jq JD)))))))) (Jc (Je (Jk (dbc (J6 (dlv 5) (dlv 4)) (dbv 4 Ja))))))))))),?_⟩;intro ts n R hl h;obtain @⟨bits,cs,n,R,b0,b1,lc,C,h⟩:=h;have es:kI (mkS cs) (aH "*")=decide (cs.getLast?=ao 42):=by rw[znf,Qu]
 have ln:(mkS cs).length=cs.length:=J4;by_cases st:cs.getLast?=ao 42
 ·rw[decide_eq_true st]at es;have l1:1<=cs.length:=by
   cases cs with
   | nil=>simp at st
   | cons a b=>simp
  unfold blkT at h;rw[if_pos st]at h;have C:∀c∈cs.dropLast,c<1114112:=λc hc=>C c (List.dropLast_subset _ hc);have ld:cs.dropLast.length=cs.length - 1:=List.length_dropLast ..;have L:cutS (mkS cs) bc (ao (-1))=mkS cs.dropLast:=by rw[znF,Qu]
  generalize cs.dropLast=fs at h C ld L;have eh:bits - ((cs.length:Int) - 1)=bits - (fs.length:Int):=by lia
  rw[eh]at h;have ed:∀{n:Nat} {R:qN},R (.bool be) n->Vm (dVar 1) (dC (.str (aH "*"))) [ao (.val (.int bits)),ao (.val (.str (mkS cs))),bc,bc,bc,bc,bc] n R:=λ{n R} z=>by wp_walk;rw[es];exact z
  wp_walk using ed ?_;all_goals first
   | (exfalso;revert hc;simp;done)
   | (rw[ln];lia)
   | skip
  all_goals try rw[L]
  all_goals try rw[L]at hc
  all_goals try rw[J4]at hc
  rw[J4];lia;rw[if_neg (λz=>by lia)]at h;exact h
  ·rename_i q1 q2;rw[L,J4]at q2;have pos:0<bits - (fs.length:Int):=by simpa using hc.symm
   have l64:fs.length<=64:=by lia
   have good:figs fs->R (.tuple [.int (valF 0 fs*2 ^ (bits - (fs.length:Int)).toNat),.int (bits - (fs.length:Int))]) n:=λz=>by rw[if_pos ⟨pos,z⟩]at h;exact h
   have bad:¬figs fs->R .none n:=λz=>by rw[if_neg (λy=>z y.2)]at h;exact h
   rw[J4];refine Zw 5 6 (λk I _ m=>m=n/\I=ao (.val (.int (valF 0 (fs.take k))))/\figs (fs.take k)) ⟨rfl,rfl,λc hc=>by simp at hc⟩ ?_ ?_
   ·rintro k t I U m K RT BK Y ⟨rfl,rfl,hf⟩ hK hRT hBK;obtain⟨c,G,rfl⟩:=zlR Y;have oc:=C c (ax G);have tk:fs.take (k+1)=fs.take k++[c]:=by rw[dD,G];rfl
    have vb:=(ZW hf (aM 0));have lt:(fs.take k).length<=64:=by rw[ef];lia
    have i2:∀{R:af->Prop},(c=48\/c=49)->R (.int ((c:Int) - 48))->Zb [.str ⟨#[c]⟩] R:=λ{R} hc r=>by rcases hc with rfl|rfl;exact VJ (by decide) (show gG ⟨#[48]⟩=ao 0 by decide +kernel) r;exact VJ (by decide) (show gG ⟨#[49]⟩=ao 1 by decide +kernel) r
    wp_walk;all_goals first
     | exact zjI oc
     | (intro t J;simp only[aE,bE,or_false]at J;rcases J with rfl|rfl <;> exact(okK_str (by decide +kernel)).okd)
     | skip
    exact .inl ⟨by decide,by decide⟩
    ·rw[VR]at hc;have hc:c=48\/c=49:=by simpa using hc
     refine i2 hc ?_;wp_walk;refine hK _ _ _ ⟨rfl,by rw[tk,zg7],λx hx=>?_⟩;rw[tk]at hx;rcases aC.mp hx with z|z;exact hf x z;cases aA.mp z;exact hc
    rw[VR]at hc;have hc:¬(c=48\/c=49):=by simpa using hc
    exact hRT _ _ (bad λz=>hc (z c (ax G)))
   ·rintro I U m ⟨rfl,rfl,hf⟩;rw[zlQ,dH]at hf ⊢;have vb:=(ZW hf (aM 0));have vl:valF 0 fs<2 ^ 64:=by
     have:=zdm (k:=fs.length) (by lia);lia
    wp_walk;exact⟨by lia,by lia,by lia⟩;exact good hf
  rw[if_neg (λz=>hc (by rw[decide_eq_true z.1]))]at h;exact h
 ·rw[decide_eq_false st]at es;unfold blkT at h;rw[if_neg st]at h;have ed:∀{n:Nat} {R:qN},R (.bool bj) n->Vm (dVar 1) (dC (.str (aH "*"))) [ao (.val (.int bits)),ao (.val (.str (mkS cs))),bc,bc,bc,bc,bc] n R:=λ{n R} z=>by
   wp_walk;rw[es];exact z
  wp_walk using ed ?_;all_goals first
   | (exfalso;revert hc;simp;done)
   | (rw[ln];lia)
   | skip
  all_goals try rw[J4]at hc
  rw[if_neg (λz=>by lia)]at h;exact h
  ·rename_i q2;rw[J4]at q2;have pos:¬0<bits - (cs.length:Int):=by simpa using hc.symm
   have eb:(cs.length:Int)=bits:=by lia
   have l64:cs.length<=64:=by lia
   have good:figs cs->R (.tuple [.int (valF 0 cs*2 ^ (bits - (cs.length:Int)).toNat),.int (bits - (cs.length:Int))]) n:=λz=>by rw[if_pos ⟨eb,z⟩]at h;rw[show bits - (cs.length:Int)=0 by lia];simpa[bkD] using h
   have bad:¬figs cs->R .none n:=λz=>by rw[if_neg (λy=>z y.2)]at h;exact h
   rw[J4];refine Zw 5 6 (λk I _ m=>m=n/\I=ao (.val (.int (valF 0 (cs.take k))))/\figs (cs.take k)) ⟨rfl,rfl,λc hc=>by simp at hc⟩ ?_ ?_
   ·rintro k t I U m K RT BK Y ⟨rfl,rfl,hf⟩ hK hRT hBK;obtain⟨c,G,rfl⟩:=zlR Y;have oc:=C c (ax G);have tk:cs.take (k+1)=cs.take k++[c]:=by rw[dD,G];rfl
    have vb:=(ZW hf (aM 0));have lt:(cs.take k).length<=64:=by rw[ef];lia
    have i2:∀{R:af->Prop},(c=48\/c=49)->R (.int ((c:Int) - 48))->Zb [.str ⟨#[c]⟩] R:=λ{R} hc r=>by rcases hc with rfl|rfl;exact VJ (by decide) (show gG ⟨#[48]⟩=ao 0 by decide +kernel) r;exact VJ (by decide) (show gG ⟨#[49]⟩=ao 1 by decide +kernel) r
    wp_walk;all_goals first
     | exact zjI oc
     | (intro t J;simp only[aE,bE,or_false]at J;rcases J with rfl|rfl <;> exact(okK_str (by decide +kernel)).okd)
     | skip
    exact .inl ⟨by decide,by decide⟩
    ·rw[VR]at hc;have hc:c=48\/c=49:=by simpa using hc
     refine i2 hc ?_;wp_walk;refine hK _ _ _ ⟨rfl,by rw[tk,zg7],λx hx=>?_⟩;rw[tk]at hx;rcases aC.mp hx with z|z;exact hf x z;cases aA.mp z;exact hc
    rw[VR]at hc;have hc:¬(c=48\/c=49):=by simpa using hc
    exact hRT _ _ (bad λz=>hc (z c (ax G)))
   ·rintro I U m ⟨rfl,rfl,hf⟩;rw[zlQ,dH]at hf ⊢;have vb:=(ZW hf (aM 0));have vl:valF 0 cs<2 ^ 64:=by
     have:=zdm (k:=cs.length) (by lia);lia
    wp_walk;exact⟨by lia,by lia,by lia⟩;exact good hf
  rw[if_neg (λz=>hc (by rw[decide_eq_false (by lia)]))]at h;exact h
inductive Wz:qD->Nat->qN->Prop
 | c {xs:List (af×af)} {n:Nat} {R:qN} (l:xs.length<=1000000) (h:R (.tuple (xs.map (·.1))) n):Wz [.tuple (ppD xs)] n R
def zd_(Z:ZZ):Prop:=QF Z "all_blocks" 35 ["pairs"] 1 1 Wz
theorem zgD(D:DQ Z "all_blocks" 35 ["pairs"]) (T:Txt Z.mg):zd_ Z:=by
 refine' okN ["pairs"] D λy=>⟨_,(Jc (Je (Qm Q9 Q4 T.tup Q7 (Ji (dl (JT (dnc ["block","name"] [] (dil (Qd (Jh 0))) (λ_ _ _ _=>(JU rfl (Jp (dgv 0 (ndB rfl)) (Jp (dgv 1 (ndB rfl)) JP)))) (λ_ _ _ _=>(Jh 0))))) Jq Uo)))),?_⟩;intro ts n R x h;obtain @⟨xs,n,R,l,h⟩:=h;wp_walk;refine Uu (cs:=xs) (D:=λp=>.tuple [p.1,p.2]) (λp=>p.1) (by lia) ?_ ?_
 ·intro p G v C o;wp_walk;exact o
 ·wp_walk;exact h
inductive WE:qD->Nat->qN->Prop
 | c {d:Deal} {nm:af} {n:Nat} {R:qN} (hw:zu5 nm) (hn:∀p∈d.2.2,IsNm p.2) (l:d.2.2.length<=1000000) (h:R (.tuple (pD (Qy d nm))) n):WE [dlD d,nm] n R
def zeM(Z:ZZ):Prop:=QF Z "kept_from" 36 ["deal","name"] 1 2 WE
theorem zhM(D:DQ Z "kept_from" 36 ["deal","name"]) (T:Txt Z.mg):zeM Z:=by
 refine' okN ["deal","name"] D λC=>⟨_,(Jc (Je (Qm Q9 Q4 T.tup Q7 (Ji (dl (JT (dnf ["block","theirs"] [1] (dil (Qd (Jf (dlv 0) dli))) (λ_ _ _ _=>(JU rfl (Jp (dgv 0 (ndB rfl)) (Jp (dgv 1 (ndB rfl)) JP)))) (λ_ _ _ _=>(zi5 (Jn (Qp C) Qn (dlv 1) (dlv 2) (Jj _)))) (λ_ _ _ _=>(Jh 0))))) Jq Uo)))),?_⟩;intro ts n R I h;obtain @⟨d,nm,n,R,hw,y,l,h⟩:=h;obtain⟨bits,os,ks⟩:=d;have l:ks.length<=1000000:=l;have y:∀p∈ks,IsNm p.2:=y;rw[show dlD (bits,os,ks)=.tuple [.int bits,.tuple (oD os),.tuple (oD ks)] from rfl];wp_walk;refine zc4 (cs:=ks) (D:=λp=>.tuple [prD p.1,.str p.2]) (λp=>!who p.2 nm) (λp=>prD p.1) (by lia) ?_ ?_
 ·intro p G J L v x;rcases hw with rfl|⟨s,rfl,ns⟩
  ·wp_walk;exact(zwD (y p G)).okd;exact v rfl
  ·wp_walk;exact x (by show(!decide (p.2=s))=bj;rw[decide_eq_true hc];rfl);exact v (by show(!decide (p.2=s))=be;rw[decide_eq_false hc];rfl)
 ·wp_walk;have:((ks.filter λp=>!who p.2 nm).map λp=>prD p.1)=pD (Qy (bits,os,ks) nm):=by
   unfold pD Qy;rw[cy];rfl
  rw[this];exact h
def Free(d:Deal)(nm:af)(x:Int):Prop:=0<=x/\x<2 ^ d.1.toNat/\¬mB x (d.2.1.map (·.1))/\¬mB x (Qy d nm)
theorem zlb{d:Deal}{nm:af}:∀b∈Qy d nm,b∈d.2.2.map (·.1):=λb l=>by obtain⟨p,o,rfl⟩:=aY.mp l;exact aY.mpr ⟨p,(fw.mp o).1,rfl⟩
theorem zlc{d:Deal}{nm:af}:(Qy d nm).length<=d.2.2.length:=by unfold Qy;rw[aN];exact gY _ _
inductive zd2:qD->Nat->qN->Prop
 | c {d:Deal} {nm:af} {n:Nat} {R:qN} (D:Dl d) (hw:zu5 nm) (l:d.2.1.length+d.2.2.length<100000) (h:∀qs,CanP (Free d nm) qs->qs.length<=130*(d.2.1.length+d.2.2.length+1)->R (.tuple (pD qs)) n):zd2 [dlD d,nm] n R
def zfU(Z:ZZ):Prop:=QF Z "free_for" 34 ["deal","name"] 6 2 zd2
theorem ziO(D:DQ Z "free_for" 34 ["deal","name"]) (N:zeL Z) (L7:Z3 Z) (My:zd_ Z) (MD:zeM Z) (T:Txt Z.mg):zfU Z:=by
 refine' okN ["deal","name","bits","outs","kept"] D λv=>⟨_,(Jb (Uk (Jh 0) (JU rfl (Jp (dgv 2 (ndB rfl)) (Jp (dgv 3 (ndB rfl)) (Jp (dgv 4 (ndB rfl)) JP))))) (Jc (Je (Jd N v (dbv 2 (dbc (Jd L7 v (dbc (Jz (dl (Jd My v (dbv 3 Ja))) (dl (Jd MD v (dbv 0 (dbv 1 Ja))))) Ja)) Ja)))))),?_⟩;intro ts n R hl h;obtain @⟨d,nm,n,R,D,hw,l,h⟩:=h;obtain⟨bits,os,ks⟩:=d;obtain⟨G,o,I,y,ag⟩:=D;have G:1<=bits:=G;have o:bits<=64:=o;have I:Shr bits os:=I;have y:Shr bits ks:=y;have l:os.length+ks.length<100000:=l;have L:=zlc (d:=(bits,os,ks)) (nm:=nm);have L:(Qy (bits,os,ks) nm).length<=ks.length:=L;have S:(os.map λp=>(prD p.1,mC p.2)).map (·.1)=pD (os.map (·.1)):=by simp[pD]
 have B:Bks bits (os.map (·.1)++Qy (bits,os,ks) nm):=λb hb=>by rcases aC.mp hb with z|z;exact I.1.1 b z;exact y.1.1 b (zlb b z)
 rw[show dlD (bits,os,ks)=.tuple [.int bits,.tuple (oD os),.tuple (oD ks)] from rfl];have U:∀{n:Nat} {R:qN},R (.tuple (pD (Qy (bits,os,ks) nm))) n->WE [.tuple [.int bits,.tuple (oD os),.tuple (oD ks)],nm] n R:=λ{n R} z=>WE.c (d:=(bits,os,ks)) hw (λp Y=>y.2 p Y) (by show ks.length<=_;lia) z;have ab:∀{n:Nat} {R:qN},R (.tuple (pD (os.map (·.1)))) n->Wz [.tuple (oD os)] n R:=λ{n R} z=>by rw[zwC];exact Wz.c (by simp;lia) (by rw[S];exact z)
 wp_walk using U ?_,ab ?_;rw[Js,Js,aN];lia;rw[ZA];wp_walk using Ux.c (.inr rfl) (by lia) o B ?_ (λps C J=>?_);simp;lia;have J:ps.length<=os.length+ks.length:=by rw[aW,aN]at J;lia
 have Bp:=(C.ptc (bits:=bits) (by lia) λx hx=>J7 (by lia) B hx).1;wp_walk using Z9.c G o Bp (by lia) (λqs Q lq=>?_);refine h qs ?_ (by show qs.length<=130*(os.length+ks.length+1);lia);obtain⟨rs,r1,r2,r3⟩:=Q;refine⟨rs,r1,λx=>?_,r3⟩;rw[r2];show(0<=x/\x<2 ^ bits.toNat/\¬mB x ps)↔Free (bits,os,ks) nm x;rw[C.mem,VL];show _↔0<=x/\x<2 ^ bits.toNat/\¬mB x (os.map (·.1))/\¬mB x (Qy (bits,os,ks) nm);constructor;rintro⟨a,b,c⟩;exact⟨a,b,λz=>c (.inl z),λz=>c (.inr z)⟩;rintro⟨a,b,c,e⟩;exact⟨a,b,λz=>z.elim c e⟩
def inB(b:Int×Int)(a:Int):Prop:=b.1<=a/\a<b.1+2 ^ b.2.toNat
def SgOf(rs:RL)(a s:Int):Prop:=(s=0/\∀r∈rs,¬inB r.1 a)\/∃r∈rs,inB r.1 a/\r.2=s/\∀l∈rs,inB l.1 a->r.1.2<=l.1.2
inductive Wo:qD->Nat->qN->Prop
 | c {bits:Int} {rs:RL} {a:Int} {n:Nat} {R:qN} (b0:0<=bits) (b1:bits<=64) (A:Rls bits rs) (l:rs.length<=1000) (h:∀s,SgOf rs a s->R (.int s) n):Wo [.tuple (L2.rD rs),.int a] n R
def zhA(Z:ZZ):Prop:=QF Z "decided" 38 ["rules","address"] 3 2 Wo
theorem zkJ(D:DQ Z "decided" 38 ["rules","address"]) (L:US Z) (T:Txt Z.mg):zhA Z:=by
 refine' okN ["rules","address","deciding"] D λo=>⟨_,(Jb (VT (V0 (i:=2) (ndB rfl) rfl (e9 rfl) (own:=["block","sign"]) (capt:=[1]) rfl (Jv.of rfl) (dil (Qd (Jh 0))) (λ_ _ _ _=>(JU rfl (Jp (dgv 0 (ndB rfl)) (Jp (dgv 1 (ndB rfl)) JP)))) (by decide) (λ_ _ _ _=>(zi5 (zph QT QP (Qh o) Qg (dl (Jf (dlv 0) dli)) (dlv 2) (dl (Jd L o (dbv 0 Ja)))))) (λ_ _ _ _=>(Jk (dbc (Jf (dlv 0) dli) (dbv 1 Ja)))))) (Jb (Jw (VB (Qo (dlv 2))) (Jc (Je Jg)) JB) (Jc (Je (Jf (dl (JF (znR o rfl) zrD T.min Ut (Ji (dlv 2) Jq JD))) dli))))),?_⟩;intro ts n R U h;obtain @⟨bits,rs,a,n,R,b0,b1,A,l,h⟩:=h;wp_walk;refine zc4 (cs:=rs) (D:=λr=>.tuple [.tuple [.int r.1.1,.int r.1.2],.int r.2]) (λr=>decide (r.1.1<=a/\a<r.1.1+2 ^ r.1.2.toNat)) (λr=>prD (r.1.2,r.2)) (by lia) ?_ ?_
 ·intro r o K X C J;have ok:=(A.1 r o).1;have k0:=ok.1;have Y:=ok.2.1;wp_walk using Q3.c (by lia) (by lia) ?_;all_goals first
   | exact C (decide_eq_true (by generalize (2:Int) ^ r.1.2.toNat=X at *;lia))
   | exact J (decide_eq_false (by generalize (2:Int) ^ r.1.2.toNat=X at *;lia))
 ·have x:∀r,r∈(rs.filter λr=>decide (r.1.1<=a/\a<r.1.1+2 ^ r.1.2.toNat))↔r∈rs/\inB r.1 a:=λr=>by rw[fw,decide_eq_true_eq];rfl
  have e:(yh (λr:(Int×Int)×Int=>prD (r.1.2,r.2)) (rs.filter λr=>decide (r.1.1<=a/\a<r.1.1+2 ^ r.1.2.toNat)))=pD ((rs.filter λr=>decide (r.1.1<=a/\a<r.1.1+2 ^ r.1.2.toNat)).map λr=>(r.1.2,r.2)):=by unfold pD;rw[cy];rfl
  wp_walk;refine h 0 (.inl ⟨rfl,λr o z=>?_⟩);rw[List.isEmpty_iff,pP]at hc;have:=(x r).mpr ⟨o,z⟩;rw[hc]at this;cases this
  ·rw[e];refine ztS (λz=>?_) λb S I=>?_;rw[pP]at z;rw[z]at hc;cases hc
   ·obtain⟨r,o,rfl⟩:=aY.mp S;obtain⟨G,N⟩:=(x r).mp o;wp_walk;refine h r.2 (.inr ⟨r,G,N,rfl,λv y z=>?_⟩);have:=I (v.1.2,v.2) (aY.mpr ⟨v,(x v).mpr ⟨y,z⟩,rfl⟩);rw[fq,Ne,pLt_iff]at this;dsimp only at this;lia
theorem zpC{rs:RL}{b:Int×Int}:valT (kR rs) b=(sgAt rs b).map cg:=by unfold valT kR sgAt;rw[List.find?_map];simp[g8]
theorem Wb{bits:Int}{rs:RL}(h:Rls0 bits rs):Rok rs:=zl5 (bits:=bits) (λr l=>⟨(h.1 r l).1,by have:=(h.1 r l).2;lia⟩) h.2
theorem zu0{a:Int}{k:Nat}:inb (a / 2 ^ k*2 ^ k,(k:Int)) a:=by have pp:(0:Int)<2 ^ k:=JM k;have:=Int.emod_add_mul_ediv a (2 ^ k);have l:=iW a (show(2:Int) ^ k≠0 by lia);have u:=i6 a pp;rw[b9]at this;constructor;show a / 2 ^ k*2 ^ k<=a;lia;show a<a / 2 ^ k*2 ^ k+2 ^ (k:Int).toNat;rw[bX];lia
inductive zfi:qD->Nat->qN->Prop
 | c {bits:Int} {rs:RL} {a:Int} {n:Nat} {R:qN} (b0:0<=bits) (b1:bits<=64) (Q:Rls0 bits rs) (a0:0<=a) (a1:a<2 ^ bits.toNat) (h:∀s,SgX rs a s->R (.int s) n):zfi [.int bits,.dict (Jr (kR rs)),.int a] n R
def zhz(Z:ZZ):Prop:=QF Z "sign_at" 40 ["bits","signs","address"] 2 3 zfi
theorem zkF(D:DQ Z "sign_at" 40 ["bits","signs","address"]) (Mv:zgv Z) (T:Txt Z.mg):zhz Z:=by
 refine' okN ["bits","signs","address","height","block"] D λx=>⟨_,(Jb (Qf b5 rfl (Vc T.ran (Jz (dlv 0) dli)) (dgv 3 (ndB rfl)) (Jb (dsv 4 (ndB rfl) (Jd Mv x (dbc (Jk (dbv 2 (dbc Jg Ja))) (dbv 3 Ja)))) (Jc (Jw (Jn (zpL (JZ x)) VN (dlv 4) (dlv 1) rfl) (Jc (Je (QI (JZ x) (dlv 1) (dlv 4)))) JB)))) (Jc (Je Jg))),?_⟩;rintro ts n R hl @⟨bits,rs,a,n,R,b0,b1,Q,a0,a1,h⟩;have RK:=Wb Q;have a2:a<2 ^ 64:=rm a1 (J1 (show bits.toNat<=64 by lia));wp_walk;lia;lia;refine Zw 3 4 (λk _ _ m=>m=n/\∀r∈rs,inb r.1 a->(k:Int)<=r.1.2) ⟨rfl,λr x _=>(Q.1 r x).1.1⟩ ?_ ?_
 ·rintro k t x1 x2 m K RT BK et ⟨rfl,inv⟩ hK hRT hBK;obtain⟨hk,rfl⟩:=Vi et;obtain⟨j,ej⟩:∃j:Int,j=(0:Int)+(k:Int):=⟨_,rfl⟩;rw[<- ej];have Y:0<=j:=by lia
  have j1:j<=1000:=by lia
  obtain⟨v,rfl⟩:∃v:Nat,j=(v:Int):=⟨j.toNat,by lia⟩;have ek:v=k:=by lia
  subst ek;have L:=zu0 (a:=a) (k:=v);have al:Aln (a / 2 ^ v*2 ^ v,(v:Int)):=⟨Y,a / 2 ^ v,by rw[bX]⟩;obtain⟨b,J⟩:∃b:Int×Int,b=(a / 2 ^ ((v:Int)).toNat*2 ^ ((v:Int)).toNat,(v:Int)):=⟨_,rfl⟩;have G:b=(a / 2 ^ v*2 ^ v,(v:Int)):=by rw[J,bX]
  rw[<- G]at L al;have e1:a / 2 ^ ((v:Int)).toNat*2 ^ ((v:Int)).toNat=b.1:=by rw[J]
  have I:(v:Int)=b.2:=by rw[J]
  have ca:∀{U:qN} {S:Nat},U (.tuple [.int b.1,.int b.2]) S->Z7 [.tuple [.int a,.int 0],.int (v:Int)] S U:=λx=>Z7.c Y j1 a0 a2 (by rw[e1,I];exact x);cases es:sgAt rs b with
  | none =>
   have y:valT (kR rs) b=bc:=by rw[zpC,es];rfl
   wp_walk using ca ?_,QO (k:=b) ?_;rw[y]at hc;cases hc;refine hK _ _ _ ⟨rfl,λr x C=>?_⟩;have:=inv r x C;rcases Int.lt_or_eq_of_le this with z|z
   push_cast;lia
   exact absurd (UM (RK.1 r x).1 al (by rw[<- z,I]) C L) (Wi es r x)
  | some s =>
   have y:valT (kR rs) b=ao (.int s):=by rw[zpC,es];rfl
   wp_walk using ca ?_,QO (k:=b) ?_,QD y ?_;exact hRT _ _ (h s (.inr ⟨(b,s),UT es,L,rfl,λq hq iq=>by show b.2<=q.1.2;rw[<- I];exact inv q hq iq⟩));rw[y]at hc;cases hc
 ·rintro x1 x2 m ⟨rfl,inv⟩;rw[zdQ]at inv;wp_walk;refine h 0 (.inl ⟨rfl,λr x C=>?_⟩);have:=inv r x C;have:=(Q.1 r x).1.2.1;lia
theorem zia{α:Type}{m:Nat}:∀{l:List (List α)},(∀c∈l,c.length<=m)->l.flatten.length<=m*l.length
 | [],_=>eD _
 | c::l,h=>by have:=zia (l:=l) λd hd=>h d (.tail _ hd);have:=h c (.head _);rw[sv,aW,aL,Nat.mul_succ];lia
theorem zlv{l m:List Int}:zipD (l.map cg) (m.map cg)=(l.zip m).map λq=>iD [.int q.1,.int q.2]:=by unfold zipD;rw[List.zip_map,cy];rfl
theorem zqA{bits:Int}{rs:RL}(h:Rls bits rs):Rls0 bits rs:=⟨h.1,dN.mpr (h.2.imp λ{a b} z e=>by rw[e]at z;unfold bkLt at z;lia)⟩
theorem zsY{rs:RL}:L2.rD rs=(kR rs).map prT:=by unfold L2.rD kR;rw[cy];rfl
inductive zd0:qD->Nat->qN->Prop
 | c {bits:Int} {rs:RL} {n:Nat} {R:qN} (b0:0<=bits) (b1:bits<=64) (Q:Rls bits rs) (l:rs.length<=100) (h:∀ps,CanP (λx=>SgX rs x 1) ps->ps.length<=260*rs.length->R (.tuple (pD ps)) n):zd0 [.int bits,.tuple (L2.rD rs)] n R
def zfS(Z:ZZ):Prop:=QF Z "patch_by" 39 ["bits","rules"] 6 2 zd0
theorem ziK(D:DQ Z "patch_by" 39 ["bits","rules"]) (L7:Z3 Z) (MR:zhz Z) (MQ:zmc Z) (L4:US Z) (T:Txt Z.mg):zfS Z:=by
 refine' okN ["bits","rules","signs","edges","runs"] D λL=>⟨_,(Jb (dsv 2 (ndB rfl) (zpo rfl L.units T.dct (Jh 1))) (Jb (dsv 3 (ndB rfl) (JT (zlh T.srt (own:=["block","sign","edge"]) (capt:=[]) rfl (Jv.of rfl) (dil (Qd (Jh 1))) (λ_ _ _ _=>(JU rfl (Jp (dgv 0 (ndB rfl)) (Jp (dgv 1 (ndB rfl)) JP)))) (by decide) (λ_ _ _ _=>QZ) (λ_ _ _ _=>(Qd (Jk (dbc (Jf (dlv 0) dli) (dbc (Jd L4 L (dbv 0 Ja)) Ja))))) (λ_ _ _ _=>(dgv 2 (ndB rfl))) (by decide) (λ_ _ _ _=>QZ) (λ_ _ _ _=>(Jh 2))))) (Jb (VT (V0 (i:=4) (ndB rfl) rfl (e9 rfl) (own:=["low","high"]) (capt:=[0,2]) rfl (Jv.of rfl) (dil (zp4 T.zip (Jh 3) (JT (zpl (dlv 3) (znl Jg) znm)))) (λ_ _ _ _=>(JU rfl (Jp (dgv 0 (ndB rfl)) (Jp (dgv 1 (ndB rfl)) JP)))) (by decide) (λ_ _ _ _=>(zi5 (Jn (Zz L) Y5 (dl (Jd MR L (dbv 2 (dbv 3 (dbv 0 Ja))))) dli (Jj _)))) (λ_ _ _ _=>(Jk (dbv 0 (dbv 1 Ja)))))) (Jc (Je (Jd L7 L (dbc (JT (zkd (own:=["low","high","block"]) (capt:=[]) rfl (Jv.of rfl) (dil (zi7 (Jh 4))) (λ_ _ _ _=>(JU rfl (Jp (dgv 0 (ndB rfl)) (Jp (dgv 1 (ndB rfl)) JP)))) (by decide) (λ_ _ _ _=>QZ) (λ_ _ _ _=>(Qd (Jd MQ L (dbv 0 (dbv 1 Ja))))) (λ_ _ _ _=>(dgv 2 (ndB rfl))) (by decide) (λ_ _ _ _=>QZ) (λ_ _ _ _=>(Jh 2)))) Ja))))))),?_⟩;rintro ts n R hl @⟨bits,rs,n,R,b0,b1,Q,l,h⟩;have Q0:=zqA Q;have RK:=Wb Q0;have p64:(2:Int) ^ bits.toNat<=2 ^ 64:=J1 (by lia);wp_walk;refine⟨kR rs,by rw[zsY],by rw[show(kR rs).map (·.1)=rs.map (·.1) from by simp[kR]];exact Q0.2,?_⟩;wp_walk;unfold L2.rD;refine zlX (cs:=rs) (λr=>[r.1.1,eB r.1]) (λ_=>aB _) (by lia) ?_ ?_
 ·intro r L acc K ha hK;have B:=(Q0.1 r L).1;have h0:0<=r.1.2:=B.1;have h1:r.1.2<=1000:=by have:=B.2.1;lia
  wp_walk using Q3.c h0 h1 ?_;refine⟨_,rfl,by lia,?_⟩;wp_walk;refine⟨_,rfl,by rw[aW,kO];lia,?_⟩;wp_walk;rw[bu];exact hK
 ·refine⟨?_,λy E=>?_⟩;have:=zic (rs:=rs);unfold Ua at this;lia;have E:Edg (Ua rs) y:=E;have lj:=zrM E;rw[zic]at lj;have I:∀e∈y,0<=e/\e<=2 ^ bits.toNat:=λe he=>by
   obtain⟨r,L,z⟩:=Z8.mp ((E.2 e).mp he);have b:=((Q0.1 r L).1).bounds b0;have:=JM r.1.2.toNat;unfold eB at z;lia
  wp_walk;rw[zps,<- List.map_tail,zlv]
  classical
  refine zc4 (cs:=y.zip y.tail) (λq=>decide (SgX rs q.1 1)) (λq=>iD [.int q.1,.int q.2]) (by rw[iV];lia) ?_ ?_
  ·intro q N K X h1 h2;obtain⟨z1,z2,z3,z4⟩:=ZY E.1 q N;have r1:=I _ z1;have r2:=I _ z2;wp_walk using zfi.c b0 b1 Q0 r1.1 (by lia) (λs hs=>?_);exact h1 (decide_eq_true (hc▸hs));exact h2 (decide_eq_false λz=>hc (zgt RK hs z))
  ·wp_walk;refine znJ (cs:=(y.zip y.tail).filter λq=>decide (SgX rs q.1 1)) (D:=λq=>iD [.int q.1,.int q.2]) (G:=prD) (P:=λq v=>Jm q.1 q.2 v/\v.length<=130) 130 (λ_ _ z=>z.2) ?_ ?_
   ·intro q N acc K X ha hK;obtain⟨z1,z2,z3,z4⟩:=ZY E.1 q (fw.mp N).1;have r1:=I _ z1;have r2:=I _ z2;have lf:((y.zip y.tail).filter λq=>decide (SgX rs q.1 1)).length<=200:=cx (gY ..) (by rw[iV];lia);wp_walk using Ul.c r1.1 (by lia) (by lia) (λv S=>?_);have lu:=S.len r1.1 (by lia);refine zgh (cs:=v) (D:=prD) prD ?_ v acc (λ_ h=>h) (by lia) (hK v ⟨S,lu⟩);intro c hc K X hK;wp_walk;exact hK
   ·intro J el pw;have pm:∀v∈J,∃q∈y.zip y.tail,SgX rs q.1 1/\Jm q.1 q.2 v/\v.length<=130:=λv Y=>by
     obtain⟨i,hi⟩:=dP.mp Y;have il:=(aw.mp hi).1;have gi:=au (l:=(y.zip y.tail).filter λq=>decide (SgX rs q.1 1)) (i:=i) (by lia);have:=pw i _ v gi hi;obtain⟨m1,m2⟩:=fw.mp (ax gi);exact⟨_,m1,of_decide_eq_true m2,this⟩
    have lf:J.flatten.length<=130*(2*rs.length):=by refine cx (zia (m:=130) λv Y=>?_) ?_;obtain⟨_,_,_,_,z⟩:=pm v Y;exact z;refine pO _ ?_;rw[el];exact cx (gY ..) (by rw[iV];lia)
    have BB:Bks bits J.flatten:=λb U=>by obtain⟨v,Y,U⟩:=nI.mp U;obtain⟨q,N,_,S,_⟩:=pm v Y;obtain⟨z1,z2,z3,z4⟩:=ZY E.1 q N;exact S.blk b0 (I _ z1).1 (I _ z2).2 b U
    have fl:∀x,mB x J.flatten↔SgX rs x 1:=λx=>by constructor;rintro⟨b,U,bx⟩;obtain⟨v,Y,U⟩:=nI.mp U;obtain⟨q,N,s1,S,_⟩:=pm v Y;obtain⟨x1,x2⟩:=(S.mem x).mp ⟨b,U,bx⟩;exact(zl0 E N x1 x2 1).mpr s1;intro s1;obtain⟨q,N,x1,x2⟩:=zoO E s1;have sq:=(zl0 E N x1 x2 1).mp s1;have mq:q∈(y.zip y.tail).filter λq=>decide (SgX rs q.1 1):=fw.mpr ⟨N,decide_eq_true sq⟩;obtain⟨i,hi⟩:=dP.mp mq;have il:=(aw.mp hi).1;have gu:=au (l:=J) (i:=i) (by lia);obtain⟨S,_⟩:=pw i q _ hi gu;obtain⟨b,U,bx⟩:=(S.mem x).mpr ⟨x1,x2⟩;exact⟨b,nI.mpr ⟨_,ax gu,U⟩,bx⟩
    wp_walk;refine Ux.c (bs:=J.flatten) (.inl rfl) b0 b1 BB (by lia) λps C lp=>?_;exact h ps (C.congr fl) (by lia)
theorem scH:Ur ["_law_script","_law_k","_law_cell"] ["_law_script","_law_k"] (JE (top 42)):=⟨rfl,rfl,rfl,by decide +kernel,rfl,by decide +kernel,by decide +kernel⟩
theorem zhT{f:aq}{fd:dZ}(D:Def K mg "_law_hand" (top 42) ["_law_script","_law_k"] f fd) (T:Txt mg):FnOk P w K mg base CX0 1 f fd ["_law_script","_law_k"] (VE K):=by
 refine D.F.ok scH (λvs H Q E h=>?_) (λx A outer s H vs Q E I h=>?_);obtain⟨a,ns,k,rfl,_⟩:=h;rfl;obtain⟨a,ns,k,rfl,u,G,C,J,q⟩:=h;refine⟨_,Qv (Qr (i:=2) scH.nd rfl (e9 rfl) JA)
  (Qv (zqL (ziF ztv (pv 1) (Vv zim T.len QM (pb_v 0 QV)) (Jj _)) (ZN (Qr (i:=2) scH.nd rfl (e9 rfl) (Ug Um (pv 0) (pv 1) (λ_ _=>rfl)))) ziG)
  (ZN (ZD (zmo (zpK (JC QU (pv 2) (zqY zin T.int boot_int (ztm (zmp ztx (pv 2) (JC zts JA JA) (Jj _)) QV)))
   (zpK (JC QS (JC QS (JC UJ (pv 2) JA) (JC QU JA (pv 1))) JA) (pb_i QV))))))),?_⟩
 refine⟨_,rfl,_,rfl,a,_,rfl,.inl u,_,_,rfl,rfl,_,rfl,?_⟩;have fin:∀c:Int,tRet (tLst (QG (tOp (rI CMul λi j=>V.int (i*j)) (tVar 2) (tCB (λxs H Q=>(∃i,xs=[.int i]/\Q (.int i) H)\/∃k,xs=[.bl k]/\Q (.int (if k then 1 else 0)) H) (QG (tOp (rI0 λi j=>.bl (decide (j<=i))) (tVar 2) (tOp (rI CPow λi j=>.int (i ^ j.toNat)) (tC (.int 10)) (tC (.int 18)))) tNil)))
   (QG (tOp (rI0 λi j=>.int (i+j)) (tOp (rI0 λi j=>.int (i+j)) (tOp (rI (λ_ j=>0<j) λi j=>.int (i % j)) (tVar 2) (tC (.int 2305843009213693951))) (tOp (rI CMul λi j=>V.int (i*j)) (tC (.int 7919)) (tVar 1))) (tC (.int 3))) (QG (tC (.int 0)) tNil))))
   { nx:=λ_ H'=>Q .non H',rt:=Q } [ao (.ref a),ao (.int k),ao (.int c)] H:=by
  intro c;refine⟨_,rfl,_,rfl,_,_,rfl,rfl,⟨by decide,by decide,by decide⟩,_,_,rfl,rfl,.inr ⟨_,rfl,_,_,rfl,rfl,.inr ?_,?_⟩⟩;split <;> decide;refine⟨_,rfl,_,_,rfl,rfl,(by show(0:Int)<2305843009213693951;decide),_,rfl,_,_,rfl,rfl,.inl ⟨by decide,by decide⟩,_,_,rfl,rfl,_,_,rfl,rfl,(by show 3<=sizeLine;decide),λl v=>?_⟩;refine q l _ v ⟨_,_,_,JJ,?_,?_,aM _,aM _⟩ (zor v);lia;lia
 refine zt_ (λc=>?_) (λc=>?_);have y:k.toNat<ns.length:=by rw[aN]at c;lia
 refine⟨_,rfl,_,rfl,a,_,_,V.int (ns[k.toNat]),rfl,rfl,u,?_,?_⟩;exact zje C (by rw[aX,au y];rfl);exact fin _;exact fin 0
def zeS(Z:ZZ):Prop:=FQ Z "_law_hand" (top 42) ["_law_script","_law_k"] 1 (VE Z.K)
theorem zgy(D:Dq Z.K Z.mg "_law_hand" (top 42) ["_law_script","_law_k"]) (T:Txt Z.mg):zeS Z:=by obtain⟨f,fd,D⟩:=D;exact⟨f,fd,D,zhT D T⟩
theorem zht{H:Hp}{hd:aq}{o:HO}:zu2 hd H (upd H hd o):=λb u e n=>by rw[Jl n];exact e
theorem scT:Ur ["_law_hand_here","_law_many","_law_digit","_law_turn","_law_mixed","_law_other"] ["_law_hand_here","_law_many"] (JE (top 43)):=⟨rfl,rfl,rfl,by decide +kernel,rfl,by decide +kernel,by decide +kernel⟩
theorem zoP{f:aq}{fd:dZ}(D:Def K mg "_law_take" (top 43) ["_law_hand_here","_law_many"] f fd) (T:Txt mg):FnOk P w K mg base CX0 1 f fd ["_law_hand_here","_law_many"] zpG:=by
 refine D.F.ok scT (λvs H Q E h=>?_) (λx A outer s H vs Q E C h=>?_);obtain⟨hd,many,n,rfl,_⟩:=h;rfl;obtain⟨hd,many,n,rfl,⟨d,m,t,u,m0,m1,t0,t1⟩,G,v,y,q⟩:=h;refine⟨_,Qv (zqL (ziF Yc (Ug Um (pv 0) JA (λ_ _=>rfl)) JA (Jj _))
   (Qv (Qr (i:=2) scT.nd rfl (e9 rfl) (JC UJ (Ug Um (pv 0) JA (λ_ _=>rfl)) (pv 1)))
   (Qv (VM (JC V7 (Ug Um (pv 0) JA (λ_ _=>rfl)) (pv 1)) (pg_sub (pv 0) JA set_list))
   (ZN (ZD (pv 2))))) ziG)
  (Qv (VM (JC QS (Ug Um (pv 0) JA (λ_ _=>rfl)) JA) (pg_sub (pv 0) JA set_list))
  (Qv (Qr (i:=3) scT.nd rfl (e9 rfl) (Ug Um (pv 0) JA (λ_ _=>rfl)))
  (Qv (Qr (i:=4) scT.nd rfl (e9 rfl) (JC UJ (JC QU (Ug Um (pv 0) JA (λ_ _=>rfl)) (JC QS (JC QS JA (JC QU (JC QU JA (pv 3)) (pv 3))) (JC QU JA (pv 3)))) JA))
  (Qv (Qr (i:=5) scT.nd rfl (e9 rfl) (JC QS (JC QS (JC UJ (pv 4) JA) (JC QU (pv 3) JA)) JA))
  (Qv (Qr (i:=4) scT.nd rfl (e9 rfl) (JC UJ (JC QU (pv 4) (pv 5)) JA))
  (ZN (ZD (JC UJ (JC QS (JC V7 (pv 4) JA) (JC V7 (pv 4) JA)) (pv 1))))))))),?_⟩
 refine⟨_,rfl,hd,_,_,_,rfl,rfl,.of u,rfl,_,_,rfl,rfl,_,rfl,?_⟩;refine zt_ (λc=>?_) (λc=>?_);refine⟨_,rfl,hd,_,_,_,rfl,rfl,.of u,rfl,_,rfl,_,_,rfl,rfl,v,?_⟩;refine⟨_,rfl,hd,_,_,_,rfl,rfl,.of u,rfl,_,rfl,_,_,rfl,rfl,⟨v,y⟩,?_⟩;refine⟨_,rfl,hd,_,_,0,rfl,rfl,u,rfl,?_⟩;refine⟨_,rfl,?_⟩;exact q _ _ (iW _ (by lia)) (i6 _ v) ⟨_,_,_,JJ,m0,m1,t0,by lia⟩ zht;refine⟨_,rfl,hd,_,_,_,rfl,rfl,.of u,rfl,_,_,rfl,rfl,?_⟩;refine⟨_,rfl,hd,_,_,2,rfl,rfl,u,rfl,?_⟩;refine⟨_,rfl,hd,_,_,_,rfl,rfl,.of JJ,rfl,?_⟩;refine⟨_,rfl,hd,_,_,_,rfl,rfl,.of JJ,rfl,_,rfl,_,_,rfl,rfl,.inl ⟨by decide,by decide⟩,_,rfl,_,_,rfl,rfl,.inr ⟨by lia,by lia⟩,_,_,rfl,rfl,_,rfl,_,_,rfl,rfl,.inl ⟨by decide,by decide⟩,_,_,rfl,rfl,_,_,rfl,rfl,.inl ⟨by lia,by lia⟩,_,_,rfl,rfl,(by show(0:Int)<2305843009213693921;decide),?_⟩;refine⟨_,rfl,_,_,rfl,rfl,(by show(0:Int)<1000003;decide),_,rfl,_,_,rfl,rfl,.inr ⟨by decide,by decide⟩,_,_,rfl,rfl,_,_,rfl,rfl,?_⟩;refine⟨_,rfl,_,rfl,_,_,rfl,rfl,.inl ⟨by lia,by lia⟩,_,_,rfl,rfl,(by show(0:Int)<2305843009213693907;decide),?_⟩;refine⟨_,rfl,_,_,rfl,rfl,⟨by decide,by decide⟩,_,rfl,_,_,rfl,rfl,⟨by decide,by decide⟩,_,_,rfl,rfl,_,rfl,_,_,rfl,rfl,v,?_⟩;exact q _ _ (iW _ (by lia)) (i6 _ v) ⟨_,_,_,JJ,m0,m1,by lia,by lia⟩ zht
theorem zhQ{f:aq}{fd:dZ}(D:Def K mg "_law_take" (top 43) ["_law_hand_here","_law_many"] f fd) (T:Txt mg):FnOk P w K mg base CX0 1 f fd ["_law_hand_here","_law_many"] (spD K 2 Yn) :=
 (zoP D T).imp zok
def Vh(Z:ZZ):Prop:=QF Z "_law_take" 43 ["_law_hand_here","_law_many"] 1 2 Yn
theorem zgx(D:Dq Z.K Z.mg "_law_take" (top 43) ["_law_hand_here","_law_many"]) (T:Txt Z.mg):Vh Z:=by obtain⟨f,fd,D⟩:=D;exact⟨f,fd,D,zhQ D T⟩
def WB:GD:=λts n R=>match ts with
 | [h,.list xs]=>h=HAND/\xs≠[]/\xs.length<=1000000/\n<=1000000000000/\∀x∈xs,R x (n+1)
 | [h,.tuple xs]=>h=HAND/\xs≠[]/\xs.length<=1000000/\n<=1000000000000/\∀x∈xs,R x (n+1)
 | _=>False
theorem zfq{xs:qD}{n:Nat}{R:qN}(h0:xs≠[])(o:xs.length<=1000000)(u:n<=1000000000000)(h:∀x∈xs,R x (n+1)):WB [HAND,.list xs] n R:=⟨rfl,h0,o,u,h⟩
def Vg(Z:ZZ):Prop:=QF Z "_law_pick" 44 ["_law_hand_here","_law_some"] 2 2 WB
theorem zhR(D:DQ Z "_law_pick" 44 ["_law_hand_here","_law_some"]) (G:Vh Z) (T:Txt Z.mg):Vg Z:=by
 refine' okN ["_law_hand_here","_law_some"] D λv=>⟨_,(Jc (Je (Jf (dlv 1) (dl (Jd G v (dbv 0 (dbc (JF Q1 QQ T.len QM (Ji (dlv 1) Jq JD)) Ja))))))),?_⟩;intro ts n R I h;cases ts with
 | nil=>exact h.elim
 | cons hd ts=>cases ts with
  | nil=>exact h.elim
  | cons t ts=>cases ts with
   | cons _ _=>cases t <;> exact h.elim
   | nil=>cases t with
    | list xs =>
     obtain⟨rfl,h0,C,o,h⟩:=h;have x:0<xs.length:=lH.mpr h0;wp_walk using UG (by lia) (by lia) o (λr u y=>?_);have l:r.toNat<xs.length:=by lia
     rw[Yi (zje u (au l))];exact h _ (gD l)
    | tuple xs =>
     obtain⟨rfl,h0,C,o,h⟩:=h;have x:0<xs.length:=lH.mpr h0;wp_walk using UG (by lia) (by lia) o (λr u y=>?_);have l:r.toNat<xs.length:=by lia
     rw[Ze (zje u (au l))];exact h _ (gD l)
    | _=>exact h.elim
def zc2:GD:=λts n R=>match ts with
 | [h]=>h=HAND/\n<=1000000000000/\∀b:Int,1<=b->b<=64->R (.int b) (n+1)
 | _=>False
theorem zjd{n:Nat}{R:qN}(l:n<=1000000000000)(h:∀b:Int,1<=b->b<=64->R (.int b) (n+1)):zc2 [HAND] n R:=⟨rfl,l,h⟩
def zeT(Z:ZZ):Prop:=QF Z "_law_bits" 45 ["_law_hand_here"] 3 1 zc2
theorem zhU(D:DQ Z "_law_bits" 45 ["_law_hand_here"]) (u:Vg Z) (T:Txt Z.mg):zeT Z:=by refine' okN ["_law_hand_here"] D λo=>⟨_,(Jc (Je (Jd u o (dbv 0 (dbc (JT (Qe (dbc Jg (dbc Jg (dbc Jg (dbc Jg (dbc Jg (dbc Jg (dbc Jg (dbc Jg (dbc Jg (dbc Jg Ja)))))))))))) Ja))))),?_⟩;intro ts n R v h;unfold zc2 at h;split at h;obtain⟨rfl,l,h⟩:=h;simp only[ZH,ZG,ZI,Zv,u_dC,Zi,Zr,Zt,Zs,ZS,Zh,Vd,Vf,ZV,ZU,Ve,Zu,ZF,YM,Yu,Yv,YK,YL,Yw,YV,U1,U2,oSub,oMul,oMod,Uf,oShl,oShr,oXor,oAnd,isNone,l_gI,Zd,Yo,Yx,Yy,Yg,Yh,U6,U5,U8,U9,U7,YH,YS,Yk,Yj,YC,YD,YE,YA,YB,YF,YG,Yp,Yq,Ye,U4,U3,Yz,Yb,YT,YI,YR,UA,JW,JI,capV,aU,eN,aL,cz,eT,gy,dG,fz,cf,eE,fv,fM,gR,gz,gA,cY,Nat.reduceAdd,Nat.reduceSub,kN,true_and,and_true,aK,if_true,if_false,ite_true,ite_false,fe,fN,iC,WB];refine⟨by simp,by decide,l,λx hx=>?_⟩;simp only[aE,bE,or_false]at hx;rcases hx with rfl|rfl|rfl|rfl|rfl|rfl|rfl|rfl|rfl|rfl <;> exact h _ (by decide) (by decide);exact h.elim
def zcy:GD:=λts n R=>match ts with
 | [h,.int bits]=>h=HAND/\1<=bits/\bits<=64/\n<=1000000000000 - 10/\∀i h:Int,IsBk bits i h->R (.tuple [.int i,.int h]) (n+3)
 | _=>False
theorem zeg{bits:Int}{n:Nat}{R:qN}(v:1<=bits)(o:bits<=64)(x:n<=1000000000000 - 10)(h:∀i h:Int,IsBk bits i h->R (.tuple [.int i,.int h]) (n+3)):zcy [HAND,.int bits] n R:=⟨rfl,v,o,x,h⟩
def zcp(Z:ZZ):Prop:=QF Z "_law_block" 46 ["_law_hand_here","_law_bits_here"] 3 2 zcy
theorem zgF(D:DQ Z "_law_block" 46 ["_law_hand_here","_law_bits_here"]) (G:Vg Z) (y:Vh Z) (T:Txt Z.mg):zcp Z:=by
 refine' okN ["_law_hand_here","_law_bits_here","_law_height"] D λv=>⟨_,(Jb (dsv 2 (ndB rfl) (JF (UQ rfl) UH T.min Ut (Ji (dlv 1) (Ji (dl (Jd G v (dbv 0 (dbc (JT (Qe (dbc Jg (dbc Jg (dbc Jg (dbc Jg (dbc Jg (dbc Jg (dbc (Jd y v (dbv 0 (dbc (Jz (dlv 1) dli) Ja))) (dbv 1 Ja)))))))))) Ja)))) Jq UP) JD))) (Jc (Je (Jk (dbc (Zn (dl (Jd y v (dbv 0 (dbc (J6 dli (dl (J0 (dlv 1) (dlv 2)))) Ja)))) (dl (J6 dli (dlv 2)))) (dbv 2 Ja)))))),?_⟩;intro ts n R Y h;unfold zcy at h;split at h;rename_i hd bits;obtain⟨rfl,b0,U,hn,h⟩:=h;simp only[ZH,ZG,ZI,Zv,u_dC,Zi,Zr,Zt,Zs,ZS,Zh,Vd,Vf,ZV,ZU,Ve,Zu,ZF,YM,Yu,Yv,YK,YL,Yw,YV,U1,U2,oSub,oMul,oMod,Uf,oShl,oShr,oXor,oAnd,isNone,l_gI,Zd,Yo,Yx,Yy,Yg,Yh,U6,U5,U8,U9,U7,YH,YS,Yk,Yj,YC,YD,YE,YA,YB,YF,YG,Yp,Yq,Ye,U4,U3,Yz,Yb,YT,YI,YR,UA,JW,JI,capV,aU,eN,aL,cz,eT,gy,dG,fz,cf,eE,fv,fM,gR,gz,gA,cY,Nat.reduceAdd,Nat.reduceSub,kN,true_and,and_true,aK,if_true,if_false,ite_true,ite_false,fe,fN,iC,WB,Yn];refine⟨by lia,by lia,by lia,λr r0 r1=>⟨by simp,by decide,by lia,λx hx=>?_⟩⟩;have C:∃b:Int,x=.int b/\0<=b:=by simp only[aE,bE,or_false]at hx;rcases hx with h|h|h|h|h|h|h|h <;> first|exact⟨_,h,by decide⟩|exact⟨_,h,by lia⟩
 obtain⟨b,rfl,bb⟩:=C;simp only[ZH,ZG,ZI,Zv,u_dC,Zi,Zr,Zt,Zs,ZS,Zh,Vd,Vf,ZV,ZU,Ve,Zu,ZF,YM,Yu,Yv,YK,YL,Yw,YV,U1,U2,oSub,oMul,oMod,Uf,oShl,oShr,oXor,oAnd,isNone,l_gI,Zd,Yo,Yx,Yy,Yg,Yh,U6,U5,U8,U9,U7,YH,YS,Yk,Yj,YC,YD,YE,YA,YB,YF,YG,Yp,Yq,Ye,U4,U3,Yz,Yb,YT,YI,YR,UA,JW,JI,capV,aU,eN,aL,cz,eT,gy,dG,fz,cf,eE,fv,fM,gR,gz,gA,cY,Nat.reduceAdd,Nat.reduceSub,kN,true_and,and_true,aK,if_true,if_false,ite_true,ite_false,fe,fN,iC,Yn];have key:∀m:Int,0<=m->m<=bits->(CPow 1 (bits - m)/\(0:Int)<1*2 ^ (bits - m).toNat/\1*2 ^ (bits - m).toNat<(2:Int) ^ 128/\n+1+1<=1000000000000/\∀r:Int,0<=r->r<1*2 ^ (bits - m).toNat->CPow 1 m/\CMul r (1*2 ^ m.toNat)/\R (.tuple [.int (r*(1*2 ^ m.toNat)),.int m]) (n+1+1+1)):=by intro m m0 m1;have S:(1:Int)*2 ^ (bits - m).toNat=2 ^ (bits - m).toNat:=cR _;have I:(1:Int)*2 ^ m.toNat=2 ^ m.toNat:=cR _;rw[S,I];refine⟨cpow (by lia) (by lia),JM _,zmi (by lia),by lia,λk L J=>⟨cpow m0 (by lia),.inl ⟨by lia,?_⟩,?_⟩⟩;have:=zdm (k:=(bits - m).toNat) (by lia);lia;exact h _ m ⟨m0,m1,k,L,rfl,J⟩
 exact key (if b<bits then b else bits) (by split <;> lia) (by split <;> lia);exact h.elim
inductive Wy:qD->Nat->qN->Prop
 | c {bits i h:Int} {n:Nat} {R:qN} (b0:1<=bits) (b1:bits<=64) (hn:n<=1000000000000 - 100) (B:IsBk bits i h) (h':∀j g:Int,IsBk bits j g->R (.tuple [.int j,.int g]) (n+7)):Wy [HAND,.int bits,.tuple [.int i,.int h]] n R
def zeR(Z:ZZ):Prop:=QF Z "_law_near" 47 ["_law_hand_here","_law_bits_here","_law_block_here"] 4 3 Wy
theorem zhS(D:DQ Z "_law_near" 47 ["_law_hand_here","_law_bits_here","_law_block_here"]) (G:Vg Z) (y:zcp Z) (T:Txt Z.mg):zeR Z:=by
 refine' okN ["_law_hand_here","_law_bits_here","_law_block_here","_law_begin","_law_height","_law_size","_law_some"] D λv=>⟨_,(Jb (Uk (Jh 2) (JU rfl (Jp (dgv 3 (ndB rfl)) (Jp (dgv 4 (ndB rfl)) JP)))) (Jb (dsv 5 (ndB rfl) (J6 dli (dlv 4))) (Jb (QY (i:=6) (ndB rfl) rfl (e9 rfl) (Qe (dbv 2 (dbc (Jk (dbv 3 (dbc (JF (Wl rfl) VO T.max Wj (Ji dli (Ji (dl (J0 (dlv 4) dli)) Jq Zq) VG)) Ja))) (dbc (Jd y v (dbv 0 (dbv 1 Ja))) (dbc (Jd y v (dbv 0 (dbv 1 Ja))) Ja)))))) (Jb (Jw (Jn Yc gp_B (dlv 4) dli (Jj _)) (Jc (Qw 6 (Jk (dbc (Jz (dlv 3) (dl (zi8 (dlv 5) dli))) (dbc (J0 (dlv 4) dli) Ja))))) JB) (Jb (Jw (Jn (Qh v) Qg (dlv 4) (dlv 1) (Jj _)) (Jb (Qw 6 (Jk (dbc (J0 (dlv 3) (dl (zqa (dlv 3) (dl (Zn dli (dlv 5)))))) (dbc (Jz (dlv 4) dli) Ja)))) (Jc (Qw 6 (Jk (dbc (zp8 (dlv 3) (dlv 5)) (dbv 4 Ja)))))) JB) (Jb (Jw (Jn QT QP (dl (Jz (dlv 3) (dl (Zn dli (dlv 5))))) (dl (J6 dli (dlv 1))) (Jj _)) (Jc (Qw 6 (Jk (dbc (Jz (dlv 3) (dlv 5)) (dbv 4 Ja))))) JB) (Q6 6 (Jc (Je (Jd G v (dbv 0 (dbv 6 Ja)))))))))))),?_⟩;rintro ts n R hl @⟨bits,i,h,n,R,b0,b1,hn,B,hh⟩;have h0:=B.1;have I:=B.2.1;have o:∀j g:Int,IsBk bits j g->∀m,m=n+7->R (.tuple [.int j,.int g]) m:=λj g b m e=>e▸hh j g b;have C:IsBk bits i (if h - 1 > 0 then h - 1 else 0):=by
  split;exact B.low (by lia);by_cases z:h=0;subst z;exact B;have:h=1:=by lia
  subst this;exact B.low (by decide)
 wp_walk using zeg ?_ ?_ ?_ (λ_ _ _=>?_),zfq ?_ ?_ ?_ ?_;all_goals first
  | lia
  | exact cpow (by lia) (by lia)
  | exact zxm
  | exact zuW
  | (rw[UB];exact Int.mul_pos (by decide) (JM _))
  | (intro z;simp at z;done)
  | (simp only[dG,fz,aL,cz];decide)
  | skip
 all_goals
  simp only[dG,fz,List.forall_mem_cons,UB]at *;repeat' (with_reducible refine pF ?_ ?_)
 all_goals first
  | exact o _ _ B _ rfl
  | exact o _ _ C _ rfl
  | exact o _ _ (by assumption) _ rfl
  | exact o _ _ (B.up (by lia)) _ rfl
  | exact o _ _ (B.abt (by lia)) _ rfl
  | exact o _ _ (B.oth (by lia)) _ rfl
  | exact o _ _ (B.nxt (by assumption)) _ rfl
  | (intro x hx;simp at hx)
inductive zca:qD->Nat->qN->Prop
 | c {bits most:Int} {n:Nat} {R:qN} (b0:1<=bits) (b1:bits<=64) (m0:0<=most) (m1:most<=1000) (hn:n<=1000000000000 - 100000) (h:∀(bs:qB) (m:Nat),Bks bits bs->bs.length<=most.toNat->m<=n+1+12*most.toNat->R (.list (pD bs)) m):zca [HAND,.int bits,.int most] n R
def zdk(Z:ZZ):Prop:=QF Z "_law_blocks" 48 ["_law_hand_here","_law_bits_here","_law_most"] 5 3 zca
theorem zfv(D:DQ Z "_law_blocks" 48 ["_law_hand_here","_law_bits_here","_law_most"]) (L3:Vh Z) (L9:zcp Z) (ME:zeR Z) (L5:Vg Z) (T:Txt Z.mg):zdk Z:=by
 refine' okN ["_law_hand_here","_law_bits_here","_law_most","_law_found","_law_k","_law_block_here"] D λG=>⟨_,(Jb (QY (i:=3) (ndB rfl) rfl (e9 rfl) (Qe Ja)) (Jb (Qf b5 rfl (Vc T.ran (Jd L3 G (dbv 0 (dbc (Jz (dlv 2) dli) Ja)))) (dgv 4 (ndB rfl)) (Jb (dsv 5 (ndB rfl) (Jd L9 G (dbv 0 (dbv 1 Ja)))) (Jb (Jw (Qx (Ym (Jn (Qp G) Qn (Uj 3) (dl (JT (Qe Ja))) (Jj _)) (YN (Jn Yc gp_B (dl (Jd L3 G (dbv 0 (dbc Jg Ja)))) dli (Jj _))))) (Jc (dsv 5 (ndB rfl) (Jd ME G (dbv 0 (dbv 1 (dbc (zqb L5 G (Ji (dlv 0) (Ji (Uj 3) Jq JD) JD)) Ja)))))) JB) (Jc (Qw 3 (Jh 5)))))) (Q6 3 (Jc (Je (Jh 3)))))),?_⟩;rintro ts n R hl @⟨bits,most,n,R,b0,b1,m0,m1,hn,hh⟩;wp_walk using UG ?_ ?_ ?_ (λr r0 r1=>?_);lia;lia;lia;lia;lia;refine Uw (λk U m=>∃bs:List (Int×Int),∃S N,U=[ao (.val HAND),ao (.val (.int bits)),ao (.val (.int most)),ao (.own (pD bs)),S,N]/\Bks bits bs/\bs.length=k/\m<=n+1+12*k) ⟨[],_,_,rfl,(λb L=>nomatch L),rfl,by lia⟩ ?_ ?_
 ·rintro k t U m K et ⟨bs,S,N,rfl,B,I,hm⟩ hK;obtain⟨hk2,rfl⟩:=Vi et;have hk3:k<1000:=by lia
  have fin:∀(i h:Int) (x4 Y:Option Cell) (J:Nat),IsBk bits i h->J<=m+12->K [ao (.val HAND),ao (.val (.int bits)),ao (.val (.int most)),ao (.own (pD bs++[.tuple [.int i,.int h]])),x4,Y] J:=λi h x4 Y J C hm' =>
   hK _ _ ⟨bs++[(i,h)],_,_,by rw[<- Ys],B.app C,by simp[I],by lia⟩
  wp_walk using zeg ?_ ?_ ?_ (λi h C=>?_),UG ?_ ?_ ?_ (λq q0 q1=>?_),zfq ?_ ?_ ?_ ?_,Wy.c ?_ ?_ ?_ ?_ (λj g C'=>?_);all_goals first
   | lia
   | exact zpM
   | exact zq4
   | (rw[Js];lia)
   | decide
   | (intro z
      have y:gk (.list (pD bs)) (.list [])=bj:=by assumption
      rw[zrJ]at y;have y2:bs=[]:=by have:=congrArg fg z;rw[Js]at this;exact eF.mp this
      rw[y2]at y;cases y)
   | exact fin _ _ _ _ _ (by assumption) (by lia)
   | skip
  all_goals
   intro x hx;obtain⟨b,L,rfl⟩:=aY.mp hx;refine⟨zkK,?_⟩;have C0:=B b L;wp_walk using Wy.c ?_ ?_ ?_ ?_ (λj g C'=>?_);all_goals first
    | lia
    | exact C0
    | (rw[Js];lia)
    | exact fin _ _ _ _ _ (by assumption) (by lia)
 ·rintro U m ⟨bs,S,N,rfl,B,I,hm⟩;have el:bs.length<=most.toNat:=by
   rw[I];unfold JY;simp;lia
  wp_walk;exact hh bs m B el (by lia)
inductive zcx:qD->Nat->qN->Prop
 | c {bits most:Int} {n:Nat} {R:qN} (b0:1<=bits) (b1:bits<=64) (m0:0<=most) (m1:most<64) (hn:n<=1000000000000 - 100000) (h:∀(bs:qB) (m:Nat),Ptc bits bs->bs.length<=most.toNat->m<=n+1+12*most.toNat->R (.tuple (pD bs)) m):zcx [HAND,.int bits,.int most] n R
def zea(Z:ZZ):Prop:=QF Z "_law_patch" 49 ["_law_hand_here","_law_bits_here","_law_most"] 6 3 zcx
theorem zgE(D:DQ Z "_law_patch" 49 ["_law_hand_here","_law_bits_here","_law_most"]) (Mu:zdk Z) (T:Txt Z.mg):zea Z:=by
 refine' okN ["_law_hand_here","_law_bits_here","_law_most","_law_found","_law_begin","_law_height"] D λU=>⟨_,(Jb (QY (i:=3) (ndB rfl) rfl (e9 rfl) (Qe Ja)) (Jb (Qf b5 rfl (zi7 (Jd Mu U (dbv 0 (dbv 1 (dbv 2 Ja))))) (JU rfl (Jp (dgv 4 (ndB rfl)) (Jp (dgv 5 (ndB rfl)) JP))) (Jc (Jw (Qo (dl (JF (znT rfl) zuD T.all znY (Ji (dl (JT (dnc ["_law_one"] [4,5] (zpn (Uj 3)) (λ_ _ _ _=>(dgv 0 (ndB rfl))) (λ_ _ _ _=>(zp_ (QX QT QP (dl (Jz (dlv 1) (dl (J6 dli (dlv 2))))) (dl (Jf (dlv 0) dli)) (Jj _)) (znw (QX QT QP (dl (Jz (dl (Jf (dlv 0) dli)) (dl (J6 dli (dl (Jf (dlv 0) dli)))))) (dlv 1) (Jj _)))))))) Jq Uo)))) (Jc (Qw 3 (Jk (dbv 4 (dbv 5 Ja))))) JB))) (Q6 3 (Jc (Je (Qm Q9 Q4 T.tup Q7 (Ji (dl (JT (zif U T.srt (dlv 3) JD))) Jq UP))))))),?_⟩;rintro ts n R hl @⟨bits,most,n,R,b0,b1,m0,m1,hn,hh⟩;wp_walk using zca.c ?_ ?_ ?_ ?_ ?_ (λbs m B hlen hm=>?_);lia;lia;lia;lia;lia;refine Uw (λk N I=>I=m/\∃cs:List (Int×Int),∃L J,N=[ao (.val HAND),ao (.val (.int bits)),ao (.val (.int most)),ao (.own (pD cs)),L,J]/\Bks bits cs/\(cs.Pairwise λa b=>eB a<=b.1\/eB b<=a.1)/\cs.length<=k) ⟨rfl,[],_,_,rfl,(λb y=>nomatch y),.nil,aB _⟩ ?_ ?_
 ·rintro k t N I K et ⟨rfl,cs,L,J,rfl,C,u,Y⟩ hK;obtain⟨i,h,eb,rfl⟩:=ZB et;have y:=B _ (ax eb);have h0:0<=h:=y.1;have h1:h<=bits:=y.2.1;have hk3:k<64:=by
   have:=(aw.mp eb).1;lia
  wp_walk;refine Uu (D:=prD) (λb=>.bool (decide (i+2 ^ h.toNat<=b.1)||decide (eB b<=i))) (by lia) ?_ ?_
  ·rintro⟨S,h'⟩ x K2 X2 hK2;have G:=C _ x;have h0':0<=h':=G.1;have h1':h'<=bits:=G.2.1;wp_walk;exact cpow (by lia) (by lia);have hc:i+2 ^ h.toNat<=S:=by rw[UB]at hc;exact hc
   rw[decide_eq_true hc]at hK2;exact hK2;exact cpow (by lia) (by lia);have hc:¬i+2 ^ h.toNat<=S:=by rw[UB]at hc;exact hc
   rw[decide_eq_false hc]at hK2;rw[UB];exact hK2
  ·wp_walk using zux ?_;rw[Js];lia;have al:∀b∈cs,i+2 ^ h.toNat<=b.1\/eB b<=i:=λb y=>by
    have:=dF.mp hc b y;simpa using this
   refine hK _ _ ⟨rfl,cs++[(i,h)],_,_,by rw[<- Ys],C.app y,?_,by simp;lia⟩;rw[cw];refine⟨u,eH _ _,λa ha b x=>?_⟩;cases aA.mp x;rcases al a ha with z|z;exact .inr z;exact .inl z;exact hK _ _ ⟨rfl,cs,_,_,rfl,C,u,by lia⟩
 ·rintro N I ⟨rfl,cs,L,J,rfl,C,u,Y⟩;rw[Js]at Y;wp_walk;refine ztQ b1 C u (by lia) λes P pm=>?_;wp_walk;exact hh es _ P (by have:=pm.length_eq;lia) (by lia)
inductive Wv:qD->Nat->qN->Prop
 | c {bs:BL} {c:Int} {n:Nat} {R:qN} (l:bs.length<=90000) (r:R (.tuple (pD (bs.map (lft c)))) n):Wv [.tuple (pD bs),.int c] n R
def zdj(Z:ZZ):Prop:=QF Z "_law_lifted" 50 ["_law_blocks_here","_law_begin"] 1 2 Wv
theorem zfu(D:DQ Z "_law_lifted" 50 ["_law_blocks_here","_law_begin"]) (T:Txt Z.mg):zdj Z:=by
 refine' okN ["_law_blocks_here","_law_begin"] D λx=>⟨_,(Jc (Je (Qm Q9 Q4 T.tup Q7 (Ji (dl (JT (dnc ["_law_block_here"] [1] (dil (Qd (Jh 0))) (λ_ _ _ _=>(dgv 0 (ndB rfl))) (λ_ _ _ _=>(Jk (dbc (Jz (dlv 1) (dl (Jf (dlv 0) dli))) (dbc (Jf (dlv 0) dli) Ja))))))) Jq Uo)))),?_⟩;intro ts n R u h;obtain @⟨bs,c,n,R,l,h⟩:=h;wp_walk;refine Uu (cs:=bs) (D:=λb=>prD b) (λb=>prD (lft c b)) (by lia) ?_ ?_
 ·intro b v K y o;wp_walk;exact o
 ·wp_walk;have:(bs.map λb=>prD (lft c b))=pD (bs.map (lft c)):=by unfold pD;rw[cy];rfl
  rw[this];exact h
inductive zbP:qD->Nat->qN->Prop
 | c {w c b:Int} {n:Nat} {R:qN} (b0:0<=b) (b1:b<=w) (b2:w<=64) (a0:0<=c) (a1:c<2 ^ 65) (r:R (.str (mkS (figL (w - b).toNat (c / 2 ^ b.toNat)))) n):zbP [.int w,.int c,.int b] n R
theorem zlM{x:Int}(h:x=0\/x=1):(aH (toString x))=mkS [48+x.toNat]:=by rcases h with rfl|rfl <;> decide +kernel
def zcT(Z:ZZ):Prop:=QF Z "_law_figures" 51 ["_law_bits_here","_law_begin","_law_height"] 1 3 zbP
theorem ze1(D:DQ Z "_law_figures" 51 ["_law_bits_here","_law_begin","_law_height"]) (T:Txt Z.mg):zcT Z:=by
 refine' okN ["_law_bits_here","_law_begin","_law_height","_law_found","_law_k"] D λL=>⟨_,(Jb (dsv 3 (ndB rfl) QJ) (Jb (Qf b5 rfl (znp T.ran (Jh 2) (Jh 0)) (dgv 4 (ndB rfl)) (Jc (dsv 3 (ndB rfl) (Jz (dl (Qm zik zuA T.str znW (Ji (dl (zqa (dl (zi8 (dlv 1) (dl (J6 dli (dlv 4))))) dli)) Jq Zq))) (dlv 3))))) (Jc (Je (Jh 3))))),?_⟩;intro ts n R I h;obtain @⟨w,c,b,n,R,b0,b1,u,a0,a1,h⟩:=h;wp_walk;any_goals lia
 refine Zw 3 4 (λk x1 _ m=>m=n/\x1=ao (.val (.str (mkS (figL k (c / 2 ^ b.toNat)))))) ⟨rfl,by rw[Vq];rfl⟩ ?_ ?_
 ·rintro k t x1 y m K J G C ⟨rfl,rfl⟩ hK hRT hBK;obtain⟨U,rfl⟩:=Vi C;have pe:(2:Int) ^ (b+(k:Int)).toNat=2 ^ b.toNat*2 ^ k:=by rw[<- dM];congr 1;lia
  have pp:=JM b.toNat;have x:c / (1*2 ^ (b+(k:Int)).toNat)=c / 2 ^ b.toNat / 2 ^ k:=by rw[cR,pe,kb (by lia)]
  have u:(c / 2 ^ b.toNat / 2 ^ k) % 2=0\/(c / 2 ^ b.toNat / 2 ^ k) % 2=1:=by lia
  wp_walk;exact cpow (by lia) (by lia);have S:=J1 (show(b+(k:Int)).toNat<=64 by lia);have Y:=JM (b+(k:Int)).toNat;exact⟨by lia,by lia⟩;decide;rw[x];rcases u with z|z <;> rw[z] <;> decide;rw[x,zlM u,J4,J4,UO];show 1+k<=_;lia;rw[x,zlM u,VY];exact hK _ _ _ ⟨rfl,by rw[Wn];rfl⟩
 ·rintro x1 y m ⟨rfl,rfl⟩;rw[zdQ];wp_walk;exact h
theorem zw1{a b:Int}{c:Prop}[Decidable c]{R:af->Prop}(h:∀z:Int,z=a\/z=b->R (.int z)):oIx (.list [.int a,.int b]) (.int (if decide c=be then 1 else 0)) R:=by by_cases hc:c;rw[if_pos (decide_eq_true hc)];exact zpU (h b (.inr rfl));rw[if_neg (by simp[hc])];exact zpV (h a (.inl rfl))
theorem zqz{bits wide c:Int}{rs:RL}(l:0<=bits)(v:bits<=wide)(C:IsBk wide c bits)(A:Rls bits rs):Rls wide (rs.map (lftR c)):=⟨λr u=>by
 obtain⟨q,o,rfl⟩:=aY.mp u;have:=A.1 q o;exact⟨zn2 (b:=q.1) l v C this.1,this.2⟩,dN.mpr (A.2.imp λ{a b} z=>by
 unfold bkLt lftR lft at *;dsimp only at *;lia)⟩
theorem zn1{bits wide c:Int}{bs:BL}(l:0<=bits)(u:bits<=wide)(C:IsBk wide c bits)(B:Bks bits bs):Bks wide (bs.map (lft c)):=λb v=>by obtain⟨q,o,rfl⟩:=aY.mp v;exact zn2 (b:=q) l u C (B q o)
theorem zlu{c:Int}:∀ps:BL,zipD (pD ps) (pD (ps.map (lft c)))=ps.map λp=>.tuple [prD p,prD (lft c p)]
 | []=>rfl
 | p::ps=>congrArg (iD [prD p,prD (lft c p)]::·) (zlu ps)
theorem zn3{bits i h:Int}(o:bits<=64)(u:0<=h):(begL bits i h).length<=65/\∀c∈begL bits i h,c<1114112:=by unfold begL;refine⟨?_,λc hc=>?_⟩;rw[aW,UO];split;show _+1<=_;lia;show _+0<=_;lia;rcases aC.mp hc with z|z;unfold figL at z;obtain⟨j,_,rfl⟩:=aY.mp z;lia;split at z;rcases aA.mp z with rfl;decide;cases z
theorem zoU{xs:qD}{R:af->Prop}(h:Okd (.tuple xs))(r:R (.bool bj)):oNe (.tuple xs) (.tuple xs) R:=ztR ⟨h,h,by rw[ZL h];exact r⟩
theorem zqs{bits:Int}(v:0<=bits){rs:RL}(Q:Rls bits rs):∀x,SgX rs x 1->0<=x/\x<2 ^ bits.toNat:=λx h=>by rcases h with⟨e,_⟩|⟨r,y,l,_⟩;lia;have:=((Q.1 r y).1).bounds v;unfold inb eB at l;lia
theorem nmA:IsNm (aH "a"):=zq_.mp (by decide +kernel)
theorem ztB{f:aq}{fd:dZ}(D:Def Z.K Z.mg "law" (top 52) ["_law_script"] f fd) (MF:zeS Z) (L7:Z3 Z) (Mj:zdj Z) (Mo:zcT Z) (Mp:zcS Z) (MG:zeT Z) (L3:Vh Z) (Mz:zea Z) (MJ:zfS Z) (Mq:zeQ Z) (Mm:zd8 Z) (MH:zhA Z) (Mi:zeL Z) (MK:zfU Z) (MS:zhx Z) (ML:zfV Z) (T:Txt Z.mg):FnOk Z.P Z.w Z.K Z.mg Z.base CX0 10 f fd ["_law_script"] (spD Z.K 1 zuF):=by
 refine D.okD (fnS (N:=["_law_script","_law_k","_law_hand_here","_law_bits_here","_law_wide","_law_begin","_law_patch_here","_law_lifted_here","_law_figures_here","_law_block_here","_law_far","_law_text","_law_rules","_law_shifted","_law_turn","_law_address","_law_outs","_law_due"]) (by decide +kernel)) rfl λcdv A outer s H E y=>?_
 refine'⟨_,(Jb (Qf b5 rfl (Vc T.ran (JF (Wl rfl) VO T.max Wj (Ji dli (Ji (dl (JF (UQ rfl) UH T.min Ut (Ji dli (Ji (dl (JF Q1 QQ T.len QM (Ji (dlv 0) Jq JD))) Jq UP) VG))) Jq UP) VG))) (dgv 1 (ndB rfl)) (znh (i:=2) (j:=1) MF y (ndB rfl) rfl (e9 rfl) (Jb (dsv 3 (ndB rfl) (JF (UQ rfl) UH T.min Ut (Ji dli (Ji (dl (Jd MG y (dbv 2 Ja))) Jq UP) VG))) (Jb (dsv 4 (ndB rfl) (Jz (dl (Jz (dlv 3) dli)) (dl (Jd L3 y (dbv 2 (dbc (J0 dli (dlv 3)) Ja)))))) (Jb (dsv 5 (ndB rfl) (Zn (dl (Jd L3 y (dbv 2 (dbc (J6 dli (dl (J0 (dlv 4) (dlv 3)))) Ja)))) (dl (J6 dli (dlv 3))))) (Jb (dsv 6 (ndB rfl) (Jd L7 y (dbc (Jd Mz y (dbv 2 (dbv 3 (dbc (Jf (dl (JT (Qe (dbc Jg (dbc Jg Ja))))) (dl (Qm zin zuC T.int boot_int (Ji (dl (QX Yc gp_B (dlv 3) dli (Jj _))) Jq zsx)))) Ja)))) Ja))) (Jb (dsv 7 (ndB rfl) (Jd Mj y (dbv 6 (dbv 5 Ja)))) (Jb (dsv 8 (ndB rfl) (Jd Mo y (dbv 4 (dbv 5 (dbv 3 Ja))))) (Jb (Qf b5 rfl (zp4 T.zip (Jh 6) (Jh 7)) (JU rfl (Jp (dgv 9 (ndB rfl)) (Jp (dgv 10 (ndB rfl)) JP))) (Jb (dsv 11 (ndB rfl) (Jz (dlv 8) (dl (Jd Mq y (dbv 3 (dbv 9 Ja)))))) (Jc (Jw (Qx (Y3 (Jn (Qp y) Qn (dl (Jd Mq y (dbv 4 (dbv 10 Ja)))) (dlv 11) (Jj _)) (Zo (Jn (Qp y) Qn (dl (Jd ML y (dbv 4 (dbv 11 Ja)))) (dlv 10) (Jj _))))) (Jc (Je UX)) JB)))) (Jb (Jw (Qx (Y3 (Jn (Qp y) Qn (dl (Jd L7 y (dbv 7 Ja))) (dlv 7) (Jj _)) (Zo (Jn (Qp y) Qn (dl (Jd Mm y (dbv 4 (dbv 7 Ja)))) (dl (Jd Mm y (dbv 3 (dbv 6 Ja)))) (Jj _))))) (Jc (Je UX)) JB) (Jb (dsv 12 (ndB rfl) (Jd Mp y (dbv 3 (dbv 6 Ja)))) (Jb (dsv 13 (ndB rfl) (Qm Q9 Q4 T.tup Q7 (Ji (dl (JT (dnc ["_law_block_here","_law_sign"] [5] (dil (Qd (Jh 12))) (λ_ _ _ _=>(JU rfl (Jp (dgv 0 (ndB rfl)) (Jp (dgv 1 (ndB rfl)) JP)))) (λ_ _ _ _=>(Jk (dbc (Jk (dbc (Jz (dlv 2) (dl (Jf (dlv 0) dli))) (dbc (Jf (dlv 0) dli) Ja))) (dbv 1 Ja))))))) Jq Uo))) (Jb (Jw (Jn (Qp y) Qn (dl (Jd MJ y (dbv 4 (dbv 13 Ja)))) (dlv 7) (Jj _)) (Jc (Je UX)) JB) (Jb (Qf b5 rfl (Vc T.ran Jg) (dgv 14 (ndB rfl)) (Jb (dsv 15 (ndB rfl) (Jd L3 y (dbv 2 (dbc (J6 dli (dlv 3)) Ja)))) (Jc (Jw (Jn (Qp y) Qn (dl (Jd MH y (dbv 13 (dbc (Jz (dlv 5) (dlv 15)) Ja)))) (dl (Jd MH y (dbv 12 (dbv 15 Ja)))) (Jj _)) (Jc (Je UX)) JB)))) (Jb (dsv 16 (ndB rfl) (Qm Q9 Q4 T.tup Q7 (Ji (dl (JT (dnc ["_law_block_here"] [] (dil (Qd (Jh 7))) (λ_ _ _ _=>(dgv 0 (ndB rfl))) (λ_ _ _ _=>(Jk (dbv 0 (dbc QJ Ja))))))) Jq Uo))) (Jb (dsv 17 (ndB rfl) (Jd L7 y (dbc (Jz (dl (Jd Mj y (dbc (Jd Mi y (dbv 3 (dbv 6 Ja))) (dbv 5 Ja)))) (dl (Jd Mi y (dbv 4 (dbc (Jk (dbc (Jk (dbv 5 (dbv 3 Ja))) Ja)) Ja))))) Ja))) (Jc (Jw (Qx (Y3 (Jn (Qp y) Qn (dl (Jd MK y (dbc (Jk (dbv 4 (dbv 16 (dbc (Jk Ja) Ja)))) (dbc Ui Ja)))) (dlv 17) (Jj _)) (Zo (Jn (Qp y) Qn (dl (Jd MS y (dbc (Jk (dbc (Jk (dbc Jg (dbv 4 Ja))) Ja)) (dbv 7 Ja)))) (dlv 17) (Jj _))))) (Jc (Je UX)) JB)))))))))))))))))) (Jc (Je UX))),?_⟩;intro ts n R hl hh;obtain⟨ns,rfl,hl63,hh⟩:=hh;wp_walk;split <;> (try split) <;> lia;split <;> (try split) <;> lia
 refine Uw (λ_ ρ m=>(∃c1 c3 c4 c5 c6 c7 c8 c9 c10 c11 c12 Y c14 c15 U c17,ρ=[ao (.val (SCR ns)),c1,bc,c3,c4,c5,c6,c7,c8,c9,c10,c11,c12,Y,c14,c15,U,c17])/\m=n) ⟨⟨_,_,_,_,_,_,_,_,_,_,_,_,_,_,_,_,rfl⟩,rfl⟩ ?_ ?_
 ·rintro k t ρ m K et ⟨⟨c1,c3,c4,c5,c6,c7,c8,c9,c10,c11,c12,Y,c14,c15,U,c17,rfl⟩,rfl⟩ hK;obtain⟨hk,rfl⟩:=Vi et;have hk8:k<8:=by
   revert hk;split <;> (try split) <;> lia
  clear hk et;have kn:(0:Int)+(k:Int)<=100:=by lia
  have k0:0<=(0:Int)+(k:Int):=by lia
  generalize (0:Int)+(k:Int)=kk at *;wp_walk;refine zo7 hl63 (by lia) (by lia) λNX RT BK CT hNX hRT hBK hCT=>?_;wp_walk using zjd (by lia) (λb b0 b1=>?_);obtain⟨bits,eb⟩:∃bits:Int,bits=(if b<40 then b else 40):=⟨_,rfl⟩;have e40:(if b<40 then b else 40)=bits:=eb.symm;have c0:1<=bits/\bits<=40:=by rw[eb];split <;> lia
  clear eb;obtain⟨c0,c1'⟩:=c0;try rw[e40]
  wp_walk;refine UG (by lia) (by lia) (by lia) (λr r0 r1=>?_);wp_walk;any_goals (first|lia|exact cpow (by lia) (by lia))
  obtain⟨wide,ew⟩:∃wide:Int,wide=bits+1+r:=⟨_,rfl⟩;rw[<- ew];have w1:bits+1<=wide:=by lia
  have w2:wide<=64:=by lia
  clear ew r0 r1;have pw:=J1 (show(wide - bits).toNat<=64 by lia);have pw1:=JM (wide - bits).toNat;have pb:=JM bits.toNat;have pww:=J1 (show wide.toNat<=64 by lia);have pb4:=J1 (show bits.toNat<=40 by lia);refine UG (by lia) (by lia) (by lia) (λu u0 u1=>?_);wp_walk;any_goals (first|lia|exact cpow (by lia) (by lia))
  exact .inl ⟨by lia,by lia⟩;have J:IsBk wide (u*(1*2 ^ bits.toNat)) bits:=⟨by lia,by lia,u,u0,by rw[cR],by lia⟩;obtain⟨c,ec⟩:∃c:Int,c=u*(1*2 ^ bits.toNat):=⟨_,rfl⟩;rw[<- ec]at J ⊢;clear ec u0 u1;have bd:=J.bounds (by lia);refine zw1 λmost hm=>?_;have hm:0<=most/\most<=12:=by lia
  wp_walk;refine zcx.c (by lia) (by lia) hm.1 (by lia) (by lia) λbs m2 Pb lb hm2=>?_;wp_walk;refine Ux.c (.inr rfl) (show 0<=bits by lia) (by lia) Pb.1 (by lia) λps C lp=>?_;have wP:∀x,mB x bs->0<=x/\x<2 ^ bits.toNat:=λx hx=>J7 (by lia) Pb.1 hx;have Pp:=C.ptc (show 0<=bits by lia) wP;have Al:AlnN bits.toNat c:=let ⟨k,_,e,_⟩:=J.2.2;⟨k,e⟩;have C2:=zll Al C wP;have l12:ps.length<=12:=by lia
  wp_walk using Wv.c (by lia) ?_,zbP.c (by lia) (by lia) (by lia) (by lia) (by lia) ?_;refine zuJ 9 10 11 (λ_ _ _ _ m=>m=m2) rfl ?_ ?_
  ·rintro k2 t y1 y2 y3 m K2 RT2 BK2 et rfl hK2 hRT2 hBK2;rw[zlu,aX]at et;obtain⟨p,hp,rfl⟩:=dI.mp et;have pm:=ax hp;have Bp:IsBk bits p.1 p.2:=Pp.1 p pm;have Bl:IsBk wide (c+p.1) p.2:=zn2 (b:=p) (by lia) (by lia) J Bp;have ew:figL (wide - bits).toNat (c / 2 ^ bits.toNat)++begL bits p.1 p.2=begL wide (c+p.1) p.2:=zpw (b:=p) (by lia) (by lia) J Bp;wp_walk;refine WC.c (by lia) (by lia) Bp ?_;wp_walk;rw[J4,J4,UO];have:=(zn3 (bits:=bits) (i:=p.1) (h:=p.2) (by lia) Bp.1).1;lia;rw[VY,ew];refine WC.c (bits:=wide) (i:=c+p.1) (h:=p.2) (by lia) (by lia) Bl ?_;have bl:=zn3 (bits:=wide) (i:=c+p.1) (h:=p.2) (by lia) Bl.1;wp_walk
   ·refine zd3.c (by lia) (by lia) (by lia) bl.2 ?_;rw[zpv (by lia) Bl];wp_walk;refine zoU (xs:=[.int (c+p.1),.int p.2]) UA ?_;wp_walk;exact hK2 _ _ _ _ rfl
   exact absurd rfl hc
  rintro y1 y2 y3 m rfl;wp_walk;have w2P:∀x,mB (x - c) bs->0<=x/\x<2 ^ wide.toNat:=λx hx=>by have:=wP _ hx;lia
  have B2:Bks wide (ps.map (lft c)):=zn1 (by lia) (by lia) J Pp.1;have m2':∀x,mB x (ps.map (lft c))↔mB (x - c) bs:=λx=>by rw[zmP,C.mem]
  refine Ux.c (.inr rfl) (show 0<=wide by lia) (by lia) B2 (by rw[aN];lia) λqs D lq=>?_;obtain rfl:qs=ps.map (lft c):=D.uniq C2 m2';have G:Okd (.tuple (pD (ps.map (lft c)))):=zmz;wp_walk;exact G;exact G
  ·refine WA.c (by lia) (by lia) B2 (by rw[aN];lia) (by rw[aN];lia) λq1 D1=>?_;obtain rfl:q1=ps.map (lft c):=D1.uniq C2 m2';wp_walk;refine WA.c (by lia) (by lia) Pp.1 (by lia) (by lia) λq2 D2=>?_;obtain rfl:q2=ps:=D2.uniq C C.mem;have em:=zmN (show 0<=bits by lia) (show bits<=wide by lia) J C wP C2;rw[em];wp_walk
   ·refine zbO.c (by lia) (by lia) Pp.1 (by lia) (by lia) λI rs C3 A el sg=>?_;obtain rfl:I=q2:=C3.uniq C C.mem;have wC:∀x,mB x I->0<=x/\x<2 ^ bits.toNat:=λx hx=>J7 (by lia) Pp.1 hx;have lr:rs.length<=12:=by
     have:=zmO (show 0<=bits by lia) C wP Pp C.mem;lia
    wp_walk;refine Uu (cs:=rs) (D:=λr=>.tuple [.tuple [.int r.1.1,.int r.1.2],.int r.2]) (λr=>.tuple [.tuple [.int (c+r.1.1),.int r.1.2],.int r.2]) (by lia) ?_ ?_
    ·intro r y K3 X3 hK3;wp_walk;exact hK3
    have er:(rs.map λr=>iD [.tuple [.int (c+r.1.1),.int r.1.2],.int r.2])=L2.rD (rs.map (lftR c)):=by unfold L2.rD;rw[cy];rfl
    rw[er];have A2:Rls wide (rs.map (lftR c)):=zqz (by lia) (by lia) J A;have RK:=Wb (zqA A);have RK2:=Wb (zqA A2);have sg2:∀x,SgX (rs.map (lftR c)) x 1↔mB (x - c) bs:=λx=>by
     have e:SgX (rs.map (lftR c)) x 1↔SgX rs (x - c) 1:=by have:=zhq (c:=c) (a:=x - c) (s:=1) (rs:=rs);rwa [show c+(x - c)=x by lia]at this
     rw[e];by_cases z:0<=x - c/\x - c<2 ^ bits.toNat;rw[sg _ z.1 z.2,C.mem];constructor;intro h;exact absurd (zqs (show 0<=bits by lia) A _ h) z;intro h;exact absurd (wP _ h) z
    wp_walk;refine zd0.c (by lia) (by lia) A2 (by rw[aN];lia) λq4 C4 l4=>?_;obtain rfl:q4=I.map (lft c):=C4.uniq C2 sg2;wp_walk;exact G;exact G;lia;lia
    ·refine Zw 14 15 (λj _ _ m'=>m'<=m+j) (aB _) ?_ ?_
     ·rintro j t y14 y15 m' K4 RT4 BK4 et hm' hK4 hRT4 hBK4;obtain⟨hj,rfl⟩:=Vi et;wp_walk;any_goals (first|lia|exact cpow (by lia) (by lia))
      refine UG (by lia) (by lia) (by lia) (λa a0 a1=>?_);wp_walk;refine Wo.c (by lia) (by lia) A2 (by rw[aN];lia) λs1 h1=>?_;wp_walk;refine Wo.c (by lia) (by lia) A (by lia) λs2 h2=>?_;have es:s1=s2:=zgt RK (zhq.mp h1) h2;rw[es];wp_walk;exact hK4 _ _ _ (by lia);exact absurd rfl hc
     rintro y14 y15 m' hm';rw[zdQ]at hm';wp_walk;refine Uu (cs:=I.map (lft c)) (D:=λb=>prD b) (λb=>.tuple [prD b,.str (aH "a")]) (by rw[aN];lia) ?_ ?_
     ·intro b S K3 X3 hK3;wp_walk;exact hK3
     obtain⟨os,L⟩:∃os:List ((Int×Int)×Str),os=(I.map (lft c)).map λb=>(b,aH "a"):=⟨_,rfl⟩;have eo:((I.map (lft c)).map λb=>iD [prD b,.str (aH "a")])=oD os:=by rw[L];unfold oD;rw[cy (f:=λb=>(b,aH "a"))];rfl
     rw[eo];have lo:os.length<=12:=by rw[L,aN,aN];lia
     have fo:os.map (·.1)=I.map (lft c):=by rw[L,cy];exact List.map_id' _
     have P2:Ptc wide (I.map (lft c)):=C2.ptc (by lia) w2P;have Dd:Dl (wide,os,[]):=⟨by show 1<=wide;lia,w2,⟨by rw[fo];exact P2,λp hp=>by rw[L]at hp;obtain⟨b,_,rfl⟩:=aY.mp hp;exact nmA⟩,⟨⟨λb S=>(nomatch S),.nil⟩,λp hp=>(nomatch hp)⟩,λp _ q hq=>(nomatch hq)⟩;wp_walk;refine Z9.c c0 (by lia) Pp.1 (by lia) λr1 R1 lr1=>?_;wp_walk;refine Wv.c (bs:=r1) (by lia) ?_;wp_walk;refine Z9.c (ps:=[(c,bits)]) (show 1<=wide by lia) w2 (λb S=>by rcases aA.mp S with rfl;exact J) (by show 1<100000;decide) λr2 R2 lr2=>?_;have lr2:r2.length<=260:=lr2;have wc:∀x,(0<=x/\x<2 ^ bits.toNat/\¬mB x I)->0<=x/\x<2 ^ bits.toNat:=λx h=>⟨h.1,h.2.1⟩;have B1:Bks wide (r1.map (lft c)):=zn1 (by lia) (by lia) J (R1.ptc (by lia) wc).1;have B2':Bks wide r2:=(R2.ptc (by lia) λx h=>⟨h.1,h.2.1⟩).1;have ll:(r1.map (lft c)++r2).length<=3000:=by rw[aW,aN];lia
     wp_walk;rw[Js,Js,<- aW];lia;rw[ZA];refine Ux.c (.inr rfl) (show 0<=wide by lia) (by lia) (λb S=>(aC.mp S).elim (B1 b) (B2' b)) (by lia) λds DS ld=>?_;have key:∀x,mB x (r1.map (lft c)++r2)↔0<=x/\x<2 ^ wide.toNat/\¬mB x (I.map (lft c)):=λx=>by rw[VL,zmP,zmP,R1.mem,R2.mem,VW];have hM:mB (x - c) I->0<=x - c/\x - c<2 ^ bits.toNat:=λh=>wP _ ((C.mem _).mp h);have hn:¬mB x []:=UL;unfold eB;dsimp only;by_cases M:mB (x - c) I;have:=hM M;simp only[M,hn,not_true,and_false,or_false,false_or];lia;simp only[M,hn,not_false_iff,and_true,or_false];lia
     wp_walk;refine zd2.c (d:=(wide,os,[])) Dd (.inl rfl) (by show os.length+0<100000;lia) λqs FQ lqs=>?_;obtain rfl:qs=ds:=FQ.uniq DS λx=>by rw[key];show(0<=x/\x<2 ^ wide.toNat/\¬mB x (os.map (·.1))/\¬mB x [])↔_;rw[fo];have hn:¬mB x []:=UL;simp only[hn,not_false_iff,and_true]
     have okD:Okd (.tuple (pD qs)):=zmz;wp_walk;exact okD;exact okD
     ·refine zfg.c (bits:=wide) (ps:=[(0,wide)]) (by lia) w2 (λb S=>by
       rcases aA.mp S with rfl;exact⟨by show 0<=wide;lia,aM _,0,aM _,by show(0:Int)=0*_;lia,JM _⟩) B2 (by show 1<100000;decide) (by rw[aN];lia) (by rw[aN];show 1+I.length<=90000;lia) λcs CS lcs=>?_
      obtain rfl:cs=qs:=CS.uniq DS λx=>by rw[key,VW];have hn:¬mB x []:=UL;unfold eB;simp only[hn,or_false];show(0<=x/\x<0+2 ^ wide.toNat)/\_↔_;rw[lO,and_assoc]
      wp_walk;exact okD;exact okD;exact hNX _ _ (hK _ _ ⟨⟨_,_,_,_,_,_,_,_,_,_,_,_,_,_,_,_,rfl⟩,rfl⟩);rw[ZL okD]at hc;cases hc
     rw[ZL okD]at hc;cases hc
    rw[ZL G]at hc;cases hc
   exact absurd rfl hc
  rw[ZL G]at hc;cases hc
 ·rintro ρ m ⟨⟨c1,c3,c4,c5,c6,c7,c8,c9,c10,c11,c12,Y,c14,c15,U,c17,rfl⟩,rfl⟩;wp_walk;exact hh _
end
section
open PySem.W PyProof.Rows
theorem zuY{MY:tZ->Option ah}{mg mb:qM}{h:bz}{w:bg}{J:aq}(T0:kU qv (looseW qv []) MY mg mb h)(R:mg (defName (top 52))=ao (.ref J)) :
  ∃fd:dZ,(∀(s:av) (v:ah),tW s fd ⟨[v],[]⟩ [("_law_script",v)])/\∀base:bz,(Qb h).In base->base.Ns mainGlobals mg->FnOk PySem.Challenge.rw_blockdeal_k60_whole_in_a_wider_row.prog w (Qb h) mg base CX0 10 J fd ["_law_script"] (zqp (Qb h)):=by
 have T:=zsn T0;obtain⟨f,fd,DL⟩:=dq_g (x:="law") (ps:=["_law_script"]) T0 (zpS (i:=52) (by kernel_rfl)) (by kernel_rfl) λ_ _ _ _ _ _ us hl=>by obtain⟨_,rfl⟩:=len1 hl;rfl
 have e0:bR f=bR J:=aP (DL.m.symm.trans R);cases e0;refine⟨fd,λs v=>?_,λbase _ _=>?_⟩;obtain⟨oc,od,kV,doc,pm,an,cdv,ct,osl,rfl,_,_⟩:=DL.F.ex;exact .of_eq rfl;let Z:ZZ:=⟨PySem.Challenge.rw_blockdeal_k60_whole_in_a_wider_row.prog,w,Qb h,mg,base⟩;have MP:=zkE (Z:=Z) (dqG T0)  T;have Mv:=zmF (Z:=Z) (dqG T0)  T;have MZ:=zoQ (Z:=Z) (dqG T0) Mv T;have Mw:=zgz (Z:=Z) (dqG T0)  T;have L:=zmC (Z:=Z) (dqG T0) Mw T;have l:=zmE (Z:=Z) (dqG T0) MP T;have Md:=zdr (Z:=Z) (dqG T0)  T;have MQ:=zq5 (Z:=Z) (dqG T0) l Md T;have N:=ziJ (Z:=Z) (dqG T0) MQ T;have G:=zkG (Z:=Z) (dqG T0) l T;have y:=zmD (Z:=Z) (dqG T0) N G T;have Y:=zgB (Z:=Z) (dqG T0)  T;have S:=zkH (Z:=Z) (dqG T0) N Y G T;have Ms:=zfs (Z:=Z) (dqG T0)  T;have MS:=zkD (Z:=Z) (dqG T0) G N Ms Y T;have Mf:=ziP (Z:=Z) (dqG T0) l T;have Mx:=zgC (Z:=Z) (dqG T0) Mf T;have Mt:=zft (Z:=Z) (dqG T0) Mx MZ T;have Mn:=zkI (Z:=Z) (dqG T0) Mt T;have Mg:=ziN (Z:=Z) (dqG T0) Mf l T;have MI:=ziL (Z:=Z) (dqG T0) Mn Mg L T;have MB:=zhO (Z:=Z) (dqG T0) Mg Mn L T;have Mh:=ziM (Z:=Z) (dqG T0) y MI MB T;have L6:=zeh (Z:=Z) (dqG T0) L T;have MC:=zhN (Z:=Z) (dqG T0) L6 T;have Mp:=ze0 (Z:=Z) (dqG T0) Mh MC L6 T;have Mm:=zgA (Z:=Z) (dqG T0) Mh T;have Mq:=zhP (Z:=Z) (dqG T0)  T;have ML:=ziQ (Z:=Z) (dqG T0)  T;have My:=zgD (Z:=Z) (dqG T0)  T;have MD:=zhM (Z:=Z) (dqG T0)  T;have MK:=ziO (Z:=Z) (dqG T0) S y My MD T;have MH:=zkJ (Z:=Z) (dqG T0) l T;have MR:=zkF (Z:=Z) (dqG T0) Mv T;have MJ:=ziK (Z:=Z) (dqG T0) y MR MQ l T;have MF:=zgy (Z:=Z) (dqG T0)  T;have C:=zgx (Z:=Z) (dqG T0)  T;have u:=zhR (Z:=Z) (dqG T0) C T;have MG:=zhU (Z:=Z) (dqG T0) u T;have U:=zgF (Z:=Z) (dqG T0) u C T;have ME:=zhS (Z:=Z) (dqG T0) u U T;have Mu:=zfv (Z:=Z) (dqG T0) C U ME u T;have Mz:=zgE (Z:=Z) (dqG T0) Mu T;have Mj:=zfu (Z:=Z) (dqG T0)  T;have Mo:=ze1 (Z:=Z) (dqG T0)  T;exact(ztB (Z:=Z) DL MF y Mj Mo Mp MG C Mz MJ Mq Mm MH S MK MS ML T).imp zrk
end
end Bd
open PySem PySem.W PyProof.Rows
set_option maxRecDepth 100000 in
set_option maxHeartbeats 0 in
theorem PySem.Challenge.cw_blockdeal_k60_whole_in_a_wider_row_holds : PySem.Challenge.rw_blockdeal_k60_whole_in_a_wider_row.Holds := by
 w_on
 refine holds_law Bd.zqt λl=>?_;refine holds_open (r:=PySem.Challenge.rw_blockdeal_k60_whole_in_a_wider_row.row) (d:=Bd.recD (Bd.top 52)) (kwd:=[]) Bd.zri (Hook.of kW) (Hook.keeps kW) (λs e=>xl_of s (pd.mp e).1) XL.keeps (by kernel_rfl) (by kernel_rfl) (by kernel_rfl) (λs e=>recFacts_of (pd.mp e).2) (by kernel_rfl) l (by kernel_rfl) ⟨rfl,rfl,rfl,rfl,rfl,by decide +kernel⟩ ?hw ?hc
 case hw=>w_witness2
 case hc=>exact Bd.zvN (lw:=PySem.Challenge.rw_blockdeal_k60_whole_in_a_wider_row) (k:=10) (by decide) rfl rfl λw s₀ mg v u h G o=>Bd.zuY G.T o