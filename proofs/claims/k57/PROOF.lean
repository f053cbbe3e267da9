import PyProof.Rows.All
import Wide.All
import OpenK.AllK
import Wide.FinOn
import Lean
import PyProof.EqAt
import PyProof.EqKinds
import PyProof.TupleCall
import PySem.Challenge.RW_blockdeal_k57_whole_rules_of_what_is_out
open PySem renaming wpAny_bind->aa,PyData->ae,wpAny_pure->af,Value->ah,Addr->aq,Shared->au,Program->aL,World->aV,Expr->aX,Heap->bh,wpAny_newObj_type->bp,Around->bq,wpAny_call_entry->bw,Paired->bN,wpAny_holding->bO,wpAny_callSpecial?_slot->bP,wpAny_mono->cn,wpAny_truthy_bool->cw,wpAny_seqItems->cA,wpAny_field->cD,Builtin->cI,wpAny_rule->dh,wpAny_setField->dE,codeAny_builtin->dJ,FuncData->dO,OsState->dW,wpAny_typeOf->dY,builtinLookup_eq_fast->eG,SetTable->eH,wpAny_standAt->eR,NameKind->eU,wpAny_typeNameOfWhole_keyiter->eV,Stmt->eW,Scope->fv,DictEntry->fy,wpAny_askSetting->fA,wpAny_setField_rec->fI,wpAny_passesOwn->fO,Keyword->fR,wpAny_setState_of->fW,wpAny_attempt->gf,mem_of_lookup->gh,wpAny_isInstance->gA,typeLookup_type->gT,wpAny_updateSeq->gU,wpAny_pyIter_list->gZ,wpAny_letGo->ia,intText?->ic,plainId_quiet->iS,wpAny_ite_split->iV,wpAny_pyIter_tuple->iW,tupleKind_room_in1->i4,wpAny_of_eq->i6,codeAny_mono->ka,wpAny_tryCatch->kE,wpAny_dictEntries->kF,wpAny_pyIter_slot->kG,fits_of_scanBound->kI,typeIs_str->kO,IsTupleKey->kS,wpAny_updateSeq_pair->k8,codeAny_call_builtin->lh,wpAny_execs_nil->lB,wpAny_Call_Name_kw->lT,call_meets->lW,isSubtype_stop->l8,sizeLine_eq->mK,IsPart->mU,wpAny_comprehension_free->mV,wpAny_newList->mW,wpAny_handled->mX,wpAny_onRaise->mY,wpAny_pyNext_tuple_item->m7,noFill_tuple_add->m8,wpAny_load->nI,wpAny_pyNext_tuple_end->nJ,wpAny_Call_method_late->nL,IsPair->nQ,wpAny_loadPart'->nZ,wpAny_dictEpoch->oh,wpAny_notOrdered_dict->om,wpAny_isOneOf_keyiter->oz,wpAny_loadName_local->oH,wpAny_throw->oT,wpAny_fieldsOf->oY,wpAny_pyIter_keyiter->oZ,entryFor_alias->o4,isSubtype_type->o8,wpAny_loadName_cell->pG,wpAny_setEntries_of->pL,KeyKind->pP,seq_tuple_add->pQ,Comprehension->pS,sub_AttributeError->p9,wpAny_dictSet_heap->rf,wpAny_assign_Name->rB,concat_meets->rG,wpAny_sequenceKey->rH,seqIndex_neg->rJ,slot_list_getitem->rK,wpAny_storeSet_of->se,wpAny_execs_cons->sE,PassesOwn->sG,Result->sI,wpAny_pyIter_zip->sR,entryFor_of_tree->sV,seqIndex_of->tq,wpAny_alloc->tw,IsZip->tF,codeAny_of_tree->tJ,pushCells_keeps->tK,wpAny_specialOf->tW,BindsTo->t8,CellsOk->t9,ExcName->ub,wpAny_Name->ud,Operator->ue,wpAny_bindName->uf,sliceRange_one->uo,Params->uq,repr_of_reads'->uv,wpAny_newTuple->uA,wpAny_runValue->uB,JoinOk->uF,CmpOp->wI,PyData->w5,Within->w6,Value->yB,Model->yG,pick_run->yO,ReadsAll->yU,Slot->Bs,call->Bx
open PySem.Expr renaming Name->bn,Subscript->d0,Call->ee,BoolOp->hX,Attribute->h7,ListComp->im,Constant->i3,Tuple->jb,Compare->jc,BinOp->je,DictComp->jp,UnaryOp->jt,SetComp->ju,FormattedValue->jv,Dict->jA
open Eq renaming symm->bv,trans->b3
open PySem.Scope renaming names->ce
open PySem.Env renaming scope->cu,locals->g5,cells->hJ,kindOf->ip
open PySem.Data renaming fields->ed,seq->f9,dict->jk,func->jw
open List.Mem renaming head->hH,tail->io
open PySem.Stmt renaming Assign->h6,FunctionDef->jd
open PySem.Pos renaming line->ib
open PySem.ScopeKind renaming function->ir
open List.Perm renaming trans->ji,symm->jz
open PySem.Heap renaming get?_push_of_some->aj,get?_push_size->aA,lt_size->aB,get?_update_other->bf,get?_update_self->bK,size_push->cR,SameBut->cY,get?_push_ne->eY,size_update->iy,ExtBut->mQ,NewAttrErr->og,get?_update_ne->pK,get?->be,objs->bi,push->dL
open PySem.Str renaming ofString->ar,empty->gW,length->kN
open Nat renaming le_refl->av,ne_of_lt->aO,lt_of_lt_of_le->aP,le_trans->bu,lt_or_ge->bM,lt_trichotomy->cC,zero_le->dw,lt_or_eq_of_le->eP,zero_add->eS,lt_irrefl->ft,lt_of_le_of_lt->fE,le_of_lt->ig,lt_succ_self->ik,le_add_right->iz,testBit_succ->iA,ne_of_gt->i8,lt_trans->kj,sub_zero->ku,mod_eq_zero_of_dvd->kB,dvd_of_mod_eq_zero->kC,sub_self->kJ,pow_succ->lK,eq_zero_or_pos->lZ,add_sub_cancel->mh,le_of_succ_le->mM,le_succ->mP,shiftLeft_eq->nj,testBit_zero->ny,mul_comm->nR,testBit_and->n9,eq_of_testBit_eq->oV,mul_le_mul_left->pN,and_one_is_mod->p7,min_self->rP,le_of_lt_succ->sA,le_of_not_lt->sL,one_mul->tB,min_eq_left->tT,and_le_left->tV,strongRecOn->t5,not_lt->uL,mul_assoc->wa,le_total->xy,log2_lt->yR,mod_lt->BU
open List renaming getElem?_eq_some_iff->aw,mem_cons->ax,getElem?_eq_getElem->ay,mem_of_getElem?->aC,size_toArray->aD,mem_singleton->aE,length_cons->aH,length_map->aI,map_cons->aK,pairwise_iff_getElem->aM,mem_map->aR,getElem?_map->aT,not_mem_nil->aU,mem_append->aW,length_append->a9,pairwise_cons->ba,getElem_of_mem->bc,getD_eq_getElem?_getD->bo,getElem?_eq_none->bV,length_nil->bX,getElem?_append_left->bY,map_map->b6,append_nil->b8,replicate->cc,length_eq_zero_iff->cf,replicate_succ->cm,drop_eq_getElem_cons->cq,nodup_cons->cz,find?_cons->cH,all_eq_true->cJ,mem_append_right->cK,mem_cons_of_mem->cO,getElem?_append_right->cQ,pairwise_append->cU,mem_filter->cW,take_length->cZ,range->c9,filterMap_cons->df,pairwise_map->dz,mem_iff_getElem?->dB,map_nil->dH,getElem?_set_ne->dN,length->dP,lookup_cons->dQ,getElem?_cons_succ->dR,pairwise_singleton->dU,append_assoc->dZ,of_mem_zip->eE,mem_cons_self->eI,getElem_mem->eK,cons_append->eM,getElem?_replicate->eX,getElem?_cons_zero->e8,map_append->e9,nil_append->fc,foldl_cons->fh,length_reverse->fk,mem_flatten->fC,take_succ->fH,length_filter_le->fK,getElem?_reverse->fL,length_range->fT,nodup_append->fV,mem_map_of_mem->gn,replicate_zero->gq,getD_cons_succ->gr,getD_cons_zero->gx,length_take->gy,length_drop->gz,mem_filterMap->gE,take_of_length_le->gK,find?_eq_none->gL,set_cons_succ->gP,set_cons_zero->gQ,length_zip->gR,getElem?_inj->hU,mem_range->hW,forIn_nil->hZ,mem_reverse->iB,map_congr_left->iF,getElem?_take_of_lt->iK,length_erase_of_mem->iO,forIn_cons->iU,lookup_append->iZ,getElem?_set_self->i7,any_eq_false->i9,mapM_toArray->ky,flatten_cons->kA,length_pos_of_mem->kD,length_replicate->kK,length_singleton->kM,all_toArray->kQ,mem_erase_of_ne->k9,length_pos_iff->lF,drop_zero->mj,length_eraseIdx_of_lt->my,getElem?_zip_eq_some->mD,mem_of_find?_eq_some->mF,getElem?_eq_none_iff->mG,getElem?_set->mN,ext_getElem?->mO,drop_sublist->mS,any_cons->m3,perm_middle->nu,map_snd_zip->nv,any_map->nV,eq_nil_or_concat->oC,concat_eq_append->oE,mem_append_left->oG,map->oM,map_id->oS,mem_of_mem_take->o5,getElem?_range->pJ,map_eq_nil_iff->pO,sum_cons->pX,zip_cons_cons->p4,filter_append->p8,map_filterMap->rh,take_sublist->rF,flatMap_cons->rW,find?_append->rY,getElem_drop->r8,foldl_append->su,drop_length->sM,map_fst_zip->sO,zipIdx_cons->sP,mem_flatMap->sU,countP_cons->sY,isEmpty_iff->sZ,any_eq_true->tf,zipIdx_nil->tS,find?_some->tY,nodup_nil->uD,take_nil->vW,drop_nil->vX,map_tail->wC,zip_map->xN,lookup->yQ,take->Dj,drop->Dk,toArray->bm,set->cr,isEmpty->dy,reverse->fm
open Option.some renaming inj->aG
open Bool renaming false_eq_true->aJ,false_ne_true->a8,and_eq_true->bT,eq_iff_iff->eD,not_true->fx,not_false->fG,true_and->gX,not_eq_true'->g7,eq_false_iff->hV,false_and->hY,or_eq_true->n8,beq_eq_decide_eq->oj,or_eq_false_iff->oN,and_false->oW,and_eq_true_iff->o9,and_true->pU,or_false->vS,false_or->wg
open Int renaming le_refl->aN,mul_le_mul_of_nonneg_right->bz,dvd_of_emod_eq_zero->bG,pow_succ->bH,toNat_natCast->bS,mul_comm->b7,mul_assoc->cj,add_mul->cS,one_mul->cT,emod_eq_zero_of_dvd->dS,emod_lt_of_pos->eO,le_of_lt->eT,emod_nonneg->fi,lt_or_le->fU,mul_le_mul_of_nonneg_left->gD,natCast_pow->gS,pow_add->h8,natCast_zero->iC,mul_neg_of_pos_of_neg->iE,mul_ediv_cancel->iI,lt_trichotomy->ko,pow_zero->lN,natCast_nonneg->lQ,fdiv_eq_ediv_of_nonneg->lR,lt_of_mul_lt_mul_right->mn,lt_of_mul_lt_mul_left->mE,mul_one->mJ,eq_ofNat_of_zero_le->ni,natCast_succ->nG,le_ediv_iff_mul_le->nM,ediv_lt_iff_lt_mul->nN,le_trans->nS,mul_ediv_add_emod->oo,emod_add_mul_ediv->oF,mul_add->oU,lt_of_lt_of_le->rm,add_emod->rS,mul_emod_left->rT,emod_eq_of_lt->rV,emod_two_eq->tU,le_antisymm->t4,ediv_nonneg->t7,add_comm->xl,le_of_eq->xH,zero_add->xM,sub_mul->yW,toNat->mu
open Iff renaming rfl->aQ
open PySem.Value renaming type->aY,ref->aZ,none->dM,isInt->kZ,int->m6,bool->nH,str->ph,isInt_shape->rq,isStrOf->vA,float->yC,builtin->b4,ellipsis->jo
open Classical renaming byContradiction->bg,choose_spec->cL,choose->kP
open PySem.SetTable renaming below->br,grown->eh,orStandIn->rg,insertAt->rZ,Probe->uM
open PyProof.Rows renaming wpS_bind->bE,slot_tuple_getitem->cy,wpS_pure->cG,callWith_type1->fq,wpS_forRange->gG,IntsAre->g6,listItems_at->iw,Top->kU,SortKind->k7,AllBare->lG,wpS_get->lH,pairsOf_size->lI,assignInOrder_cons->lP,SortSt->lX,size_push'->l5,subscriptTail_builtinR->nK,wpS_modify->nP,wpS_mono->oO,wpS_reverse->oP,mirror_perm->oQ,entry_proto_collect'->oR,entry_tuple_getitem->pI,Keyed->pV,listUpdate_at->pW,args_tuple_getitem->p5,IsTup->rA,assignInOrder_nil->rC,callWith_builtin1->sJ,entry_list_iadd'->sN,get?_update_seq->tP,oneTypeOnly'_eq->tR,slicePart_none->uk,Subscript_->um,wpS_lift->uz,lt_int->AC
open PySem.PyData renaming hasDict_of_canLay->bL,canLay0->bR,int->b5,canLayAll0->cx,hasDict->cF,depthAll->cX,depth->dI,str->eN,eqv->fF,tuple->fX,hasDictAll->g9,shown->km,bool->k6,none->oK,eqvAll->pT,noDict_hsm->rO,dict->tD,list->tE,showable->tM
open PySem.Builtin.SmallTypes renaming nextOf->bQ,ownedTupleIsFree->dF,ownedTupleHandOut->iG,stopIteration->rX
open PySem.Obj renaming data_mapFields->bU,isFreed_of_fields->dA,cls_mapFields->fS,mapSeq->fZ,mapFields->gY,putSet->uN,data->f7,cls->jg
open PySem.W renaming kia_one->bW,fnOf->dX,boot_heap->eQ,kitx_dict->fQ,cellsFrom_some->gF,keepIn->kb,codeIn->kc,methodObj->mI,boot_drawn->nX,instObj->nY,lookIn->oI,boot_toks->pF,kitx_tuple->pY,kitx_list->rE,plainGet->sH,findIn->uh,kitOne->ui,SharedT->xF
open Array renaming getElem?_eq_getElem->bZ,length_toList->cg,getElem?_toList->cM,getD->gO,toArray_toList->ly,getElem_toList->lA,perm_iff_toList_perm->lY,getElem?_eq_some_iff->mw,getElem?_eq_none->nT,toList_append->pM,size_append->rQ,toList_push->sf,toList->w9,size->ap
open PySem.PassesOwn renaming never->b9
open PySem.NameKind renaming free->cB,cell->kY
open PySem.F renaming slot_dict_keyiterator_next->cE,plain_min_loop->fB,slot_list_reversed->fJ,slot_tuple_getattribute->fN,plainAttrs_str->gM,args_dict_keyiterator_next_1->iH,args_tuple_add_2->iL,entry_dict_keyiterator_next->iR,entry_tuple_add->i5,slot_tuple_add->kg,args_tuple_iterator_next_1->lC,slot_zip_next->lD,entry_tuple_iterator_next->lJ,slot_tuple_iterator_next->l6,args_str_split_2->mz,plain_extend_loop->mH,entry_str_split->mT,slot_tuple_index->m5,plainAttrs_list->nt,entry_min_loop->nC,slot_str_split->nF,slot_dict_iter->nW,slot_dict_len->oq,args_zip_next_1->rR,entry_zip_next->sQ,slot_set_iter->tZ
open PySem.Builtin.List renaming listExtendWith->cN,listItems->gJ,listTooLong->iM,listSameRef->iQ,listLengthHint->lM,listUpdate->wN
open PySem.Builtin renaming bitXor->cP,bitAnd->fD,bitNot->gC
open PySem.Paired renaming length->cV,cons->f6,nil->ja
open Option renaming map_eq_some_iff->c8,getD_some->fz,map_some->fP,isSome_iff_exists->iJ,getD_none->m9,map_eq_none_iff->nU,isSome_some->p6,isSome->eA
open Prod renaming ext->dD,fst->nB,snd->Ae
open Ne renaming symm->dG
open PySem.Heap.SameBut renaming update->eC,refl->rL
open PySem.PyData.dict renaming inj->eF,injEq->rM
open False renaming elim->eJ
open PySem.Txt renaming split->eZ,endswith->gN,join->gV,slice->sS
open Or renaming inl->fj,inr->xw,elim->ii,resolve_left->jj
open PySem.Builtin.Str renaming strKind->fo
open PySem.Builtin.Slice renaming slicePlaces->fM,sliceAdjust->iD,sliceApplied->lU,slicePartIndex->tI,sliceFields->u7
open PySem.Builtin.Tuple renaming tupleExact->fY,tupleItemsOf->lV,tupleCompareSizes->sC,tupleIsExact->uC,tupleHashOf->vc
open PySem.Builtin.Int renaming intBits->gm
open PySem.Code renaming quiet_builtin->gH,compLoop->jf,builtin->jm,compStart->jq
open Function renaming comp_def->g8
open PySem.Around renaming under_plainId->ie
open List.Pairwise renaming imp_of_mem->iN,nil->mL,filterMap->nE,and->Cp,imp->Cw,map->CD
open List.cons renaming inj->iP,injEq->tL
open ForInStep renaming yield->iT
open True renaming intro->iX
open PySem.SeqAt.EqAt renaming int_int->iY
open PySem.Calls renaming callWith_builtin->kh,Name_function_global->lO,call_function_entry->mC,evalArgs_plain->oJ,call_len_list->pH
open PySem.SetTable.below renaming go->kH
open PySem.Heap.DictOfH renaming new->kT
open PySem.W.Hook renaming none->kW,obs->Ao,val->Ap
open Sum renaming inl->kX,inr->pd
open PySem.Builtin.Dict_items renaming ownsTuple->lE
open PySem.Builtin.Builtins renaming bindParams->lL
open PySem.Builtin.Dict renaming addKeywords->mZ,updateFrom->nA,showsAll->ou,pendingCount->vk,dictSlotNone->vm,selfAndRest->wb,pairItems->xB
open PySem.AutoListH renaming list___reversed___list_0->oA
open PySem.StrLaws renaming strSub_toList->oB,At->B1
open Prod.mk renaming inj->oX,injEq->pR
open Std.Legacy.Range renaming forIn_eq_forIn_range'->o6,size->yi
open PySem.MeetsSeq.EqGives renaming int->o7
open And renaming intro->pE
open PySem.SeqAt renaming EqAt->pZ,eqv_refl->Ac
open PySem.Setting renaming mk->rl
open PySem.PyData.list renaming injEq->rN
open PySem.SetTable.probe renaming go->sd
open PySem.pickOrder renaming go->sr
open PySem.W.RowW renaming records->sy
open PySem.Heap.ExtBut renaming push->sW
open List.forIn' renaming loop->sX
open Array.Perm renaming refl->tQ
open PySem.PyData.int renaming inj->uI
open PySem.Manifest renaming find?->uJ
open PySem.Builtin.Frozenset renaming oneOther->uO,addrOf->wy,sizeOf->wA
open PySem.EqNone renaming eq_none_none->uT,eq_none_bool->uU,eq_bool_none->uV,ne_none_none->uY,ne_none_bool->uZ,ne_bool_none->u0,eq_none_int->vD,eq_none_str->vE,eq_int_none->vF,eq_str_none->vH,ne_none_int->vJ,ne_none_str->vK,ne_int_none->vL,ne_str_none->vN
open PySem.EqMixed renaming eq_bool_str->uW,eq_str_bool->uX,ne_bool_str->u5,ne_str_bool->u6,eq_int_str->vG,eq_str_int->vI,ne_int_str->vM,ne_str_int->vO
open PyProof.Rows.LSm renaming kept_iter->vU
open PySem.Builtin.Range renaming rangeSize->wH
open PySem.W.KIN renaming call_text->ye
open PySem.Shared renaming heap->y4,toks->dn,gens->jh,drawn->jr
open PySem.Fin renaming done->Af
open PySem.Flow renaming ret->Ag,next->CP
open PySem.Heap.IsSliceOf renaming new->Bm
open PySem.W.WShape renaming has->Bw
open PySem.Walks renaming list->By
open PyProof.Rows.SortSt renaming mk'->BA
open PySem.Heap.IsTuple renaming push->Cq
open PySem.W.WData renaming int->Dc,bool->jy
open PySem.Heap.IsList renaming push->Dg
open PySem.PyData.tuple renaming inj->Dw
open Option renaming some->ai,none->ao
open Bool renaming true->bj,false->bA
local macro_rules | `(tactic| walk_at "V") => `(tactic| first | exact Or.inl rfl | exact Or.inr (Or.inl rfl) | exact Or.inr (Or.inr rfl))
local macro_rules | `(tactic| walk_at "F") => `(tactic| first | exact .inl rfl | exact .inr rfl | assumption)
abbrev qF:=PySem.W.Frag
abbrev qB:=List (Int×Int)
abbrev qN:=w5->Nat->Prop
abbrev qM:=PySem.Str->Option yB
abbrev qV:=yB->PySem.Shared->Prop
abbrev qD:=List w5
abbrev qO:=List (PySem.Addr×PySem.Obj)
set_option Elab.async false
set_option linter.all false
set_option maxRecDepth 100000
set_option maxHeartbeats 4000000
namespace L2
open PySem PySem.Spec PyProof.Rows
abbrev Ndb(x:Str):Prop:=(x == ("__debug__":Str))=false
abbrev Ncd(x:Str):Prop:=(x == ("__classdict__":Str))=false
abbrev Key:=Sum Int Str
def U8:Key->ah->Bool
 | kX k,v=>kZ k v
 | pd x,v=>vA x v
def keyH(w:aV):Key->Int
 | kX k=>hashInt k
 | pd x=>hashStr w x
theorem Ui:∀{k:Key}{v:ah},U8 k v=bj->(∃i t,k=kX i/\v=m6 i t)\/(∃x t,k=pd x/\v=ph x t)
 | kX i,v,h=>by obtain⟨t,e⟩:=rq (k:=i) (v:=v) h;exact fj ⟨i,t,rfl,e⟩
 | pd x,v,h=>by obtain⟨t,e⟩:=Value.isStrOf_shape (x:=x) (v:=v) h;exact xw ⟨x,t,rfl,e⟩
theorem zfK(i:Int)(t:Tok):U8 (kX i) (m6 i t)=bj:=by simp[U8,kZ]
theorem zoj(x:Str)(t:Tok):U8 (pd x) (ph x t)=bj:=by simp[U8,vA]
theorem zwe(a b:Int):decide ((kX a:Key)=kX b)=(a == b):=by by_cases e:a=b;subst e;simp;have h:¬(kX a:Key)=kX b:=λq=>e (Sum.inl.inj q);rw[decide_eq_false h];exact(beq_eq_false_iff_ne.mpr e).symm
theorem zwb(a b:Str):decide ((pd a:Key)=pd b)=decide (a=b):=by by_cases e:a=b;subst e;simp;have h:¬(pd a:Key)=pd b:=λq=>e (Sum.inr.inj q);rw[decide_eq_false h,decide_eq_false e]
theorem zwd(a:Int)(b:Str):decide ((kX a:Key)=pd b)=bA:=decide_eq_false (λq=>nomatch q)
theorem zwc(a:Str)(b:Int):decide ((pd a:Key)=kX b)=bA:=decide_eq_false (λq=>nomatch q)
def JA(prog:aL)(w:aV):pP prog w Key where
 is:=U8
 hash:=keyH w
 inj:=λv a b C o=>by rcases Ui C with⟨i,t,rfl,rfl⟩|⟨x,t,rfl,rfl⟩;rcases Ui o with⟨j,u,rfl,e⟩|⟨y,u,rfl,e⟩;injection e with e1 _;rw[e1];exact nomatch e;rcases Ui o with⟨j,u,rfl,e⟩|⟨y,u,rfl,e⟩;exact nomatch e;injection e with e1 _;rw[e1]
 byValue:=λk v h=>by rcases Ui h with⟨i,t,rfl,rfl⟩|⟨x,t,rfl,rfl⟩ <;> rfl
 pyHash:=λl h=>by rcases Ui l with⟨i,t,rfl,rfl⟩|⟨x,t,rfl,rfl⟩;exact wpAny_pyHash_int h;exact wpAny_pyHash_str h
 eqBool:=λG l h=>by rcases Ui G with⟨i,t,rfl,rfl⟩|⟨x,t,rfl,rfl⟩;rcases Ui l with⟨j,u,rfl,rfl⟩|⟨y,u,rfl,rfl⟩;rw[zwe]at h;exact wpAny_eqBool_int h;rw[zwd]at h;exact SeqAt.EqAt.int_str i t y u _ _ _ _ h;rcases Ui l with⟨j,u,rfl,rfl⟩|⟨y,u,rfl,rfl⟩;rw[zwc]at h;exact SeqAt.EqAt.str_int x t j u _ _ _ _ h;rw[zwb]at h;exact wpAny_eqBool_str h
 «strs»:=λk x t v h=>by rcases Ui h with⟨i,u,rfl,e⟩|⟨y,u,rfl,e⟩;exact nomatch e;injection e with e1 _;subst e1;cases v <;> rfl
theorem zj0(prog:aL)(w:aV)(i:Int)(t:Tok):(JA prog w).is (kX i) (m6 i t)=bj:=zfK i t
theorem zjZ(prog:aL)(w:aV)(x:Str)(t:Tok):(JA prog w).is (pd x) (ph x t)=bj:=zoj x t
inductive V where
 | non|bl (b:Bool)|int (i:Int)|str (x:Str)|byt (b:Array UInt8)|flt (b:UInt64)|ref (a:aq)|ty (n:String)
 deriving DecidableEq
def RelV:V->ah->Prop
 | .non,u=>u=dM
 | .bl b,u=>u=nH b
 | .int i,u=>∃t,u=m6 i t
 | .str x,u=>∃t,u=ph x t
 | .byt b,u=>∃t,u=Value.bytes b t
 | .flt b,u=>∃t,u=yC b t
 | .ref a,u=>u=aZ a
 | .ty n,u=>u=aY n
abbrev Vals:List V->List ah->Prop:=bN RelV
theorem Vals.length{xs:List V}{us:List ah}(r:Vals xs us):dP xs=dP us:=cV r
theorem Vals.get:∀{xs:List V}{us:List ah}{i:Nat}{x:V},Vals xs us->xs[i]?=ai x->∃u,us[i]?=ai u/\RelV x u
 | _,_,_,_,ja,e=>by simp at e
 | _,_,0,_,f6 r _,e=>by simp at e;subst e;exact⟨_,rfl,r⟩
 | _,_,i+1,x,f6 _ t,e=>by obtain⟨u,C,v⟩:=Vals.get (i:=i) (x:=x) t (by simpa using e);exact⟨u,by simpa using C,v⟩
theorem Vals.set{x:V}{u:ah}(r:RelV x u):∀{xs:List V}{us:List ah} (i:Nat),Vals xs us->Vals (cr xs i x) (cr us i u)
 | _,_,_,ja=>ja
 | _,_,0,f6 _ t=>f6 r t
 | _,_,i+1,f6 q t=>f6 q (Vals.set r i t)
theorem Vals.append{xs ys:List V}{us l:List ah}(h:Vals xs us)(s:Vals ys l):Vals (xs++ys) (us++l):=by
 induction h with
 | nil=>exact s
 | cons r _ u=>exact f6 r u
theorem Vals.take:∀{xs:List V}{us:List ah} (n:Nat),Vals xs us->Vals (xs.take n) (us.take n)
 | _,_,0,_=>ja
 | _,_,_+1,ja=>ja
 | _,_,n+1,f6 r t=>f6 r (Vals.take n t)
theorem Vals.drop:∀{xs:List V}{us:List ah} (n:Nat),Vals xs us->Vals (xs.drop n) (us.drop n)
 | _,_,0,r=>r
 | _,_,_+1,ja=>ja
 | _,_,n+1,f6 _ t=>Vals.drop n t
def RelO:Option V->Option ah->Prop
 | some v,ai u=>RelV v u
 | none,ao=>True
 | _,_=>False
def KV{l:Type}:List (l×V)->List (l×ah)->Prop:=bN λ(p:l×V) (q:l×ah)=>p.1=q.1/\RelV p.2 q.2
def kV:Key->V
 | kX i=>.int i
 | pd x=>.str x
inductive HO where
 | lst (xs:List V)
 | tup (xs:List V)
 | dK (kvs:List (Key×V))|dT (kvs:List (List Key×V))
 | set (S:Int->Bool) (n:Nat)
 | ins (C dx:aq) (fs:List (Str×V))
 | own (x:aq)
 | xd (fs:List (Str×V))
 | met (f x:aq)
 | rng (lo hi:Int)
 | frz (o:Obj) (u:HO)
 | tbl (q:Str)
 | ext (φ:bh->Prop)
abbrev Hp:=aq->Option HO
def upd(H:Hp)(a:aq)(o:HO):Hp:=λb=>if b=a then ai o else H b
theorem JJ{H:Hp}{a:aq}{o:HO}:upd H a o a=ai o:=by unfold upd;rw[if_pos rfl]
theorem Jo{H:Hp}{a b:aq}{o:HO}(h:b≠a):upd H a o b=H b:=by unfold upd;rw[if_neg h]
theorem Qz{H:Hp}{a b:aq}{o:HO}(h:H a=ai o)(h':H b=ao):a≠b:=by intro e;subst e;rw[h]at h';cases h'
def IsTD(h:bh)(a:aq)(items:Array ah):Prop:=∃o,be h a=ai o/\jg o=aY "tuple" /\ (∃n,f7 o=f9 items n)/\o.dict=ao
theorem IsTD.tup{h:bh}{a:aq}{items:Array ah}(x:IsTD h a items):rA h a items:=by obtain⟨o,e,c,d,_⟩:=x;exact⟨o,e,c,d⟩
theorem IsTD.lt{h:bh}{a:aq}{items:Array ah}(x:IsTD h a items):a<ap h.objs:=x.tup.lt
theorem IsTD.new(h:bh)(items:Array ah):IsTD (dL h { cls:=aY "tuple",data:=f9 items }) h.objs.size items:=⟨_,aA _ rfl,rfl,⟨_,rfl⟩,rfl⟩
def TabOk(H:Hp)(q:Str)(ps:Array ah):Prop:=TriplesOk (w9 ps)/\∀(pos:Pos) (v:ah),codeAmong pos (w9 ps)=ai v->∃(c:aq) (o:Obj) (u:HO) (vs:Array ah) (t:Tok),v=aZ c/\H c=ai (.frz o u)/\f7 o=ed vs/\vs[1]?=ai (ph q t)
section
variable(P:aL)(w:aV)
def JE(H:Hp)(h:bh)(a:aq):HO->Prop
 | .lst xs=>dP xs<=sizeLine/\∃(its:List ah) (n:Nat),Vals xs its/\be h a=ai { cls:=aY "list",data:=f9 (bm its) n }
 | .tup xs=>dP xs<=sizeLine/\∃its:List ah,Vals xs its/\IsTD h a (bm its)
 | .dK G=>dP G<=sizeLine/\(a == sysModules)=bA/\∃vs,KV G vs/\h.DictOf (JA P w) a vs
 | .dT G=>dP G<=sizeLine/\(a == sysModules)=bA/\∃xs:List (List Key×aq×ah),
   bN (λ(p:List Key×V) (q:List Key×aq×ah)=>p.1=q.1/\H q.2.1=ai (.tup (p.1.map kV))/\RelV p.2 q.2.2) G xs /\
   ∃o es ep,be h a=ai o/\o.ExactDict/\f7 o=jk es ep/\w9 es=xs.map (entryOfKey (tupleKind (JA P w)))/\(xs.map (·.1)).Nodup
 | .set S n=>h.SetOf (intKind P w) a S n
 | .ins C J fs=>H J=ai (.own a)/\dP fs<=1000/\J≠a/\be h a=ai (nY C J) /\
   ∃I,h.Ns1 J I/\(∀f,RelO (fs.lookup f) (I f))/\w6 I (fs.map (·.1))
 | .own _=>∃o,be h a=ai o
 | .xd fs=>∃I,h.Ns1 a I/\∀f,RelO (fs.lookup f) (I f)
 | .rng lo hi=>∃t u v,be h a=ai { cls:=aY "range",data:=ed #[m6 lo t,m6 hi u,m6 1 v] }
 | .frz o u=>be h a=ai o/\JE H h a u
 | .tbl q=>∃ps:Array ah,be h a=ai { cls:=dM,data:=ed ps }/\TabOk H q ps
 | .met f x=>be h a=ai (mI (aZ f) (aZ x))
 | .ext L=>L h/\(∃o,be h a=ai o)/\∀U R:bh,L U->(∀o,be U a=ai o->be R a=ai o)->L R
def HOk(H:Hp)(h:bh):Prop:=∀a o,H a=ai o->JE P w H h a o
end
section
variable{P:aL}{w:aV}{H H':Hp}{h h':bh}{a:aq}{o:HO}
theorem JE.lt(x:JE P w H h a o):a<ap h.objs:=by
 cases o with
 | lst xs=>obtain⟨_,_,_,_,e⟩:=x;exact aB e
 | tup xs=>obtain⟨_,_,_,p⟩:=x;exact p.lt
 | dK l=>obtain⟨_,_,_,_,o,_,_,e,_⟩:=x;exact aB e
 | dT l=>obtain⟨_,_,_,_,o,_,_,e,_⟩:=x;exact aB e
 | set S n=>obtain⟨o,_,_,_,e,_⟩:=x;exact aB e
 | ins C G fs=>obtain⟨_,_,_,e,_⟩:=x;exact aB e
 | own y=>obtain⟨_,e⟩:=x;exact aB e
 | xd fs=>obtain⟨_,⟨_,_,_,e,_⟩,_⟩:=x;exact aB e
 | rng lo hi=>obtain⟨_,_,_,e⟩:=x;exact aB e
 | frz v u=>obtain⟨e,_⟩:=x;exact aB e
 | tbl q=>obtain⟨_,e,_⟩:=x;exact aB e
 | met f y=>exact aB (show be h a=ai _ from x)
 | ext I=>obtain⟨_,⟨_,e⟩,_⟩:=x;exact aB e
theorem Paired.mapP{α x:Type}{F G:α->x->Prop}{u:List α}{v:List x}(h:bN F u v)(f:∀a b,F a b->G a b):bN G u v:=by
 induction h with
 | nil=>exact ja
 | cons r _ C=>exact f6 (f _ _ r) C
theorem JE.stay(x:JE P w H h a o)(k:∀b u,(b=a\/H b=ai (.own a))->be h b=ai u->be h' b=ai u)
  (U:∀b,H b=ai (.own a)->H' b=ai (.own a)) (Y:∀b xs,H b=ai (.tup xs)->H' b=ai (.tup xs)) (hf:∀b G u,H b=ai (.frz G u)->H' b=ai (.frz G u)):JE P w H' h' a o:=by
 induction o with
 | lst xs=>obtain⟨z,its,n,r,e⟩:=x;exact⟨z,its,n,r,k _ _ (fj rfl) e⟩
 | tup xs=>obtain⟨z,its,r,G,e,c⟩:=x;exact⟨z,its,r,G,k _ _ (fj rfl) e,c⟩
 | dK N=>obtain⟨z,y,vs,r,G,es,ep,e,c⟩:=x;exact⟨z,y,vs,r,G,es,ep,k _ _ (fj rfl) e,c⟩
 | dT N =>obtain⟨z,y,xs,r,G,es,ep,e,c⟩:=x;exact⟨z,y,xs,Paired.mapP r λp q z=>⟨z.1,Y _ _ z.2.1,z.2.2⟩,G,es,ep,k _ _ (fj rfl) e,c⟩
 | set S n=>obtain⟨G,es,ep,t,e,c⟩:=x;exact⟨G,es,ep,t,k _ _ (fj rfl) e,c⟩
 | ins C dx fs =>obtain⟨d,z,ne,e,I,⟨J,es,ep,L,c⟩,r⟩:=x;exact⟨U _ d,z,ne,k _ _ (fj rfl) e,I,⟨J,es,ep,k _ _ (xw d) L,c⟩,r⟩
 | own y=>obtain⟨G,e⟩:=x;exact⟨G,k _ _ (fj rfl) e⟩
 | xd fs=>obtain⟨I,⟨J,es,ep,e,c⟩,r⟩:=x;exact⟨I,⟨J,es,ep,k _ _ (fj rfl) e,c⟩,r⟩
 | rng lo hi=>obtain⟨t,u,v,e⟩:=x;exact⟨t,u,v,k _ _ (fj rfl) e⟩
 | frz G u Z=>obtain⟨e,q⟩:=x;exact⟨k _ _ (fj rfl) e,Z q⟩
 | tbl q =>obtain⟨ps,e,z,r⟩:=x;refine⟨ps,k a _ (fj rfl) e,z,λpos cv m=>?_⟩;obtain⟨c,o,u,vs,t,R,L,e3⟩:=r pos cv m;exact⟨c,o,u,vs,t,R,hf _ _ _ L,e3⟩
 | met f y =>have e:be h a=ai (mI (aZ f) (aZ y)):=x;show be h' a=ai (mI (aZ f) (aZ y));exact k a _ (fj rfl) e
 | ext φ=>obtain⟨p,⟨o,e⟩,st⟩:=x;exact⟨st _ _ p λo q=>k _ _ (fj rfl) q,⟨o,k _ _ (fj rfl) e⟩,st⟩
theorem HOk.lt(x:HOk P w H h)(e:H a=ai o):a<ap h.objs:=(x a o e).lt
theorem HOk.fresh(x:HOk P w H h)(e:ap h.objs<=a):H a=ao:=by
 cases q:H a with
 | none=>rfl
 | some u=>exact absurd (aP (x.lt q) e) (ft _)
theorem HOk.kept(x:HOk P w H h)(k:∀b u,be h b=ai u->be h' b=ai u):HOk P w H h':=λa o e =>
 (x a o e).stay (λb u _ q=>k b u q) (λ_ q=>q) (λ_ _ q=>q) λ_ _ _ q=>q
theorem HOk.laid(x:HOk P w H h)(k:∀b u,be h b=ai u->be h' b=ai u)(C:ap h.objs<=a)(new:JE P w (upd H a o) h' a o):HOk P w (upd H a o) h':=λb u e=>by have l:=x.fresh C;by_cases hb:b=a;subst hb;rw[JJ]at e;cases e;exact new;rw[Jo hb]at e;exact(x b u e).stay (λc v _ q=>k c v q) (λc q=>by rw[Jo (Qz q l)];exact q) (λc xs q=>by rw[Jo (Qz q l)];exact q) λc G xs q=>by rw[Jo (Qz q l)];exact q
end
def Rd(H:Hp)(a:aq)(u:HO):Prop:=H a=ai u\/∃o,H a=ai (.frz o u)
theorem Rd.ok{P:aL}{w:aV}{H:Hp}{h:bh}{a:aq}{u:HO}(r:Rd H a u)(x:HOk P w H h):JE P w H h a u:=by rcases r with r|⟨o,r⟩;exact x a u r;obtain⟨_,q⟩:=x a _ r;exact q
def Mut:Option HO->Prop
 | some (.lst _)=>True
 | some (.dK _)=>True
 | some (.dT _)=>True
 | some (.set _ _)=>True
 | some (.ins _ _ _)=>True
 | some (.ext _)=>True
 | _=>False
section
variable{P:aL}{w:aV}{H:Hp}{h h':bh}{x e:aq}{o':HO}
theorem HOk.write(ok:HOk P w H h)(l:Mut (H x))(he:e=x\/H e=ai (.own x))(k:∀b u,b≠e->be h b=ai u->be h' b=ai u)(J:∃u,be h' e=ai u)
  (new:JE P w (upd H x o') h' x o'):HOk P w (upd H x o') h':=λb u q=>by
 have N:∀c y,H c=ai (.own y)->c≠x:=λc y r z=>by subst z;rw[r]at l;exact l
 have G:∀c xs,H c=ai (.tup xs)->c≠x:=λc xs r z=>by subst z;rw[r]at l;exact l
 have C:∀c I xs,H c=ai (.frz I xs)->c≠x:=λc I xs r z=>by subst z;rw[r]at l;exact l
 by_cases hb:b=x;subst hb;rw[JJ]at q;cases q;exact new;rw[Jo hb]at q;by_cases hbe:b=e;have L:H b=ai (.own x):=by rcases he with z|z;exact absurd (b3 hbe z) hb;rw[hbe];exact z
 rw[q]at L;cases L;obtain⟨v,R⟩:=J;exact⟨v,by rw[hbe];exact R⟩;refine(ok b u q).stay (λc v hc r=>k c v ?_ r) (λc r=>by rw[Jo (N c b r)];exact r) (λc xs r=>by rw[Jo (G c xs r)];exact r) λc I xs r=>by rw[Jo (C c I xs r)];exact r
 rcases hc with rfl|hc;exact hbe;rintro rfl;rcases he with z|z;exact N c b hc z;rw[hc]at z;cases z;exact hb rfl
end
structure Un(fs ex:List aq)(H H':Hp)(h h':bh):Prop where
 keep:∀b o,be h b=ai o->H b=ao->b∉fs->b∉ex->be h' b=ai o
 slot:∀b o,be h b=ai o->H b=ao->b∈fs->b∉ex->∃sl,be h' b=ai { o with slots:=sl }
 free:∀b o,be h b=ai o->H b=ao->b∉ex->H' b=ao
 there:∀b o,be h b=ai o->b∉ex->∃o',be h' b=ai o'
 tups:∀b xs,H b=ai (.tup xs)->H' b=ai (.tup xs)
 frzs:∀b o u,H b=ai (.frz o u)->H' b=ai (.frz o u)
 tbls:∀b q,H b=ai (.tbl q)->H' b=ai (.tbl q)
section
variable{fs ex:List aq}{H H1:Hp}{h h1 h':bh}{a x e:aq}{o:HO}
theorem Un.any(u:Un fs ex H H1 h h1){b:aq}{l:Obj}(q:be h b=ai l)(n:H b=ao)(hx:b∉ex):∃v,be h1 b=ai { l with slots:=v }:=by by_cases hb:b∈fs;exact u.slot b l q n hb hx;exact⟨l.slots,u.keep b l q n hb hx⟩
theorem Un.kept(k:∀b u,be h b=ai u->be h' b=ai u):Un fs ex H H h h' :=
 ⟨λb l q _ _ _=>k b l q,λb l q _ _ _=>⟨l.slots,k b l q⟩,λ_ _ _ n _=>n,λb l q _=>⟨l,k b l q⟩,λ_ _ q=>q,λ_ _ _ q=>q,λ_ _ q=>q⟩
theorem Un.refl:Un fs ex H H h h:=Un.kept λ_ _ q=>q
theorem Un.laid(k:∀b u,be h b=ai u->be h' b=ai u)(v:ap h.objs<=a)(l:H a=ao):Un fs ex H (upd H a o) h h' where
 keep:=λb u q _ _ _=>k b u q
 slot:=λb u q _ _ _=>⟨u.slots,k b u q⟩
 free:=λb u q n _=>by rw[Jo (aO (aP (aB q) v))];exact n
 there:=λb u q _=>⟨u,k b u q⟩
 tups:=λb xs q=>by rw[Jo (Qz q l)];exact q
 frzs:=λb u xs q=>by rw[Jo (Qz q l)];exact q
 tbls:=λb ps q=>by rw[Jo (Qz q l)];exact q
theorem Un.write(l:Mut (H x))(he:e=x\/H e=ai (.own x))(k:∀b u,b≠e->be h b=ai u->be h' b=ai u)(C:∃u,be h' e=ai u):Un fs ex H (upd H x o) h h':=by
 have hx:∀b,H b=ao->b≠x:=λb n z=>by subst z;rw[n]at l;exact l
 have G:∀b,H b=ao->b≠e:=λb n z=>by subst z;rcases he with r|r;exact hx b n r;rw[n]at r;cases r
 have v:∀b u,H b=ai u->¬Mut (ai u)->b≠x:=λb u q nm z=>by subst z;rw[q]at l;exact nm l
 refine⟨λb u q n _ _=>k b u (G b n) q,λb u q n _ _=>⟨u.slots,k b u (G b n) q⟩,λb u q n _=>by rw[Jo (hx b n)];exact n,λb u q _=>?_,
  λb xs q=>by rw[Jo (v b _ q λz=>z)];exact q,λb u xs q=>by rw[Jo (v b _ q λz=>z)];exact q,λb ps q=>by rw[Jo (v b _ q λz=>z)];exact q⟩
 by_cases hbe:b=e;subst hbe;exact C;exact⟨u,k b u hbe q⟩
end
def trk(h:bh)(H:Hp):List aq:=(c9 h.objs.size).filter λa=>eA (H a)
def hidT(h:bh)(H:Hp):bh:=PySem.W.hideAll h (trk h H)
theorem zot(h:bh)(H:Hp):(hidT h H).objs.size=ap h.objs:=PySem.W.hideAll_size _ _
theorem zqJ{h:bh}{H:Hp}{b:aq}{o:Obj}(e:be h b=ai o)(n:H b=ao):be (hidT h H) b=ai o :=
 PySem.W.hideAll_get _ e λl=>by have q:eA (H b)=bj:=(cW.mp l).2;rw[n]at q;simp at q
theorem zs3{h:bh}{H:Hp}{b:aq}{o:Obj}(e:be (hidT h H) b=ai o):be h b=ai o/\H b=ao:=by
 have l:be h b=ai o:=PySem.W.of_hideAll (trk h H) e;refine⟨l,?_⟩;cases q:H b with
 | none=>rfl
 | some x =>have u:b∈trk h H:=cW.mpr ⟨hW.mpr (aB l),by simp[q]⟩;have z:be (hidT h H) b=ao:=PySem.W.hideAll_none (trk h H) u;rw[z]at e;cases e
structure Mod(K:qF)(mg:qM)(base:bh):Prop where
 kin:K.In base
 glob:base.Ns mainGlobals mg
 blt:∃mb,base.Ns builtinsNs mb/\∀x:Str,x ≠ "__name__" -> mb x=bootBuiltins x
 nolimit:base.NoLimit
structure Cx where
 prog:aL
 w:aV
 K:qF
 mg:Str->Option ah
 base:bh
 A:bq
 N:List Str
 s₀:au
 H₀:Hp
 env:Env
 outer:List Env
 stack:List Env
 ex:List aq
 fn:Str->Bool
 calm:Bool
 pn:List (aq×Obj)
 xe:ah->au->Prop
abbrev Fsi(X:Cx)(e:aX):Prop:=∀x,foldedSetIterable e X.env x=pure x
abbrev Fnl(X:Cx)(x:Str):Prop:=X.fn x=bj\/X.env.scope.names.lookup x=ai .local
def frs(l:List Env):List aq:=l.filterMap (·.frame)
abbrev Cx.fs(X:Cx):List aq:=frs X.outer
def Vis(sc:fv)(x:Str):Prop:=sc.names.lookup x=ai .local\/sc.names.lookup x=ai kY\/sc.names.lookup x=ai cB
def Loc(sc:fv)(x:Str):Prop:=sc.names.lookup x=ai .local\/sc.names.lookup x=ai kY
def Look(env:Env)(h:bh)(m:qM)(x:Str)(u:ah):Prop :=
 (ip env x=ai .local/\m x=ai u)\/((ip env x=ai kY\/ip env x=ai cB)/\∃c,env.cells.lookup x=ai c/\h.IsCell c (ai u))
structure Cx.Ok(X:Cx):Prop where
 mod:Mod X.K X.mg X.base
 kind:X.env.scope.kind=ir
 glob:X.env.globals=mainGlobals
 blt:X.env.builtins=builtinsNs
 above:ap X.s₀.heap.objs<=g5 X.env
 inj:∀x y c,X.env.cells.lookup x=ai c->X.env.cells.lookup y=ai c->x=y
 has:∀x,(ip X.env x=ai kY\/ip X.env x=ai cB)->∃c,X.env.cells.lookup x=ai c
 cab:∀x c,X.fn x=bj->X.env.cells.lookup x=ai c->ap X.s₀.heap.objs<=c
 hd:X.calm=bj->X.A.handled=ao
 frames:X.A.frames=ai X.stack
 stk:X.stack=X.outer\/(X.stack=X.env::X.outer/\X.env.frame=ai (g5 X.env))
 exf:∀b∈X.ex,b≠g5 X.env/\∀x c,X.env.cells.lookup x=ai c->c≠b
 bs:∀b o,be X.base b=ai o->be X.s₀.heap b=ai o/\X.H₀ b=ao
 bsz:ap X.base.objs<=ap X.s₀.heap.objs
 noex:∀b o,be X.base b=ai o->b∉X.ex
 exfs:∀b∈X.ex,b∉X.fs
 funs:X.s₀.heap.FunFrames X.base X.outer
 frf:∀b∈X.fs,X.H₀ b=ao
structure Inv(X:Cx)(pins:qO)(σ:List (Option V))(H:Hp)(s:au):Prop where
 ok:X.Ok
 os:s.os=X.s₀.os
 bare:lG s.gens
 base:Un X.fs X.ex X.H₀ H X.s₀.heap s.heap
 loc:∃m,s.heap.Ns (g5 X.env) m/\∀(i:Nat) (x:Str) (v:V),X.N[i]?=ai x->σ[i]?=ai (ai v)->Vis (cu X.env) x->∃u,RelV v u/\Look X.env s.heap m x u
 cell:∀x c,X.env.cells.lookup x=ai c->∃v,s.heap.IsCell c v
 free:H (g5 X.env)=ao
 freeC:∀x c,X.env.cells.lookup x=ai c->H c=ao
 pin:∀p∈X.pn++pins,be s.heap p.1=ai p.2/\H p.1=ao/\p.1≠g5 X.env/\p.1∉X.fs/\∀v,f7 p.2≠.cell v
 hok:HOk X.prog X.w H s.heap
 len:dP σ=dP X.N
section
variable{X:Cx}{pins:qO}{σ:List (Option V)}{H H':Hp}{s:au}{h':bh}
theorem Cx.Ok.nofr(ok:X.Ok){b:aq}{o:Obj}(e:be X.base b=ai o):b∉X.fs:=λl=>by have:=(ok.funs.mem l).1;rw[e]at this;cases this
theorem Inv.bs(I:Inv X pins σ H s):∀b o,be X.base b=ai o->be s.heap b=ai o/\H b=ao:=λb o e =>
 ⟨I.base.keep b o (I.ok.bs b o e).1 (I.ok.bs b o e).2 (I.ok.nofr e) (I.ok.noex b o e),I.base.free b o (I.ok.bs b o e).1 (I.ok.bs b o e).2 (I.ok.noex b o e)⟩
theorem Inv.bk(I:Inv X pins σ H s):∀b o,be X.base b=ai o->be s.heap b=ai o:=λb o e=>(I.bs b o e).1
theorem Inv.mod(I:Inv X pins σ H s):Mod X.K X.mg X.base:=I.ok.mod
theorem Inv.kIn(I:Inv X pins σ H s):X.K.In s.heap:=I.ok.mod.kin.keeps I.bk
theorem Inv.lt(I:Inv X pins σ H s):g5 X.env<ap s.heap.objs:=let ⟨_,hn,_⟩:=I.loc;hn.lt
theorem Inv.sz(I:Inv X pins σ H s):ap X.s₀.heap.objs<=ap s.heap.objs:=bu I.ok.above (ig I.lt)
theorem Inv.nofs(I:Inv X pins σ H s){a:aq}(h:ap s.heap.objs<=a):a∉X.fs:=λl=>by obtain⟨_,o,u,_⟩:=I.ok.funs.mem l;exact absurd (aP (aB u) (bu I.sz h)) (ft _)
theorem Inv.cne(I:Inv X pins σ H s):∀x c,X.env.cells.lookup x=ai c->c≠g5 X.env:=λx c e z=>by obtain⟨v,o,C,hd⟩:=I.cell x c e;obtain⟨m,⟨G,es,ep,l,u,_⟩,_⟩:=I.loc;rw[z,l]at C;cases C;rw[u]at hd;cases hd
theorem Inv.funs(I:Inv X pins σ H s):s.heap.FunFrames X.base X.outer:=by
 have all:∀(l:List Env),(∀b∈frs l,b∈X.fs)->X.s₀.heap.FunFrames X.base l->s.heap.FunFrames X.base l:=by
  intro l;induction l with
  | nil=>intro _ _;trivial
  | cons env r N =>intro x C;obtain⟨S,⟨L,o,hf,R,J,hd⟩,G⟩:=C;have v:L∈X.fs:=x L (by unfold frs;rw[df,hf];exact eI);obtain⟨U,e⟩:=I.base.slot L o J (I.ok.frf L v) v λz=>I.ok.exfs L z v;exact⟨S,⟨L,_,hf,R,e,hd⟩,N (λb u=>x b (by unfold frs;rw[df,hf];exact cO _ u)) G⟩
 exact all X.outer (λ_ u=>u) I.ok.funs
theorem Inv.stack(I:Inv X pins σ H s):s.heap.FunFrames X.base X.stack:=by rcases I.ok.stk with e|⟨e,hf⟩;rw[e];exact I.funs;rw[e];obtain⟨m,l,_⟩:=I.loc;refine .cons (by rw[I.ok.kind];decide) hf l ?_ I.funs;exact Heap.get?_none_of_le (bu I.ok.bsz I.ok.above)
theorem Inv.stkSub(I:Inv X pins σ H s):∀b∈frs X.stack,b∈g5 X.env::X.fs:=λb l=>by rcases I.ok.stk with e|⟨e,hf⟩;rw[e]at l;exact cO _ l;rw[e]at l;unfold frs at l;rw[df,hf]at l;exact l
theorem Inv.stkFree(I:Inv X pins σ H s):∀b∈frs X.stack,H b=ao:=λb l=>by rcases ax.mp (I.stkSub b l) with e|l;rw[e];exact I.free;obtain⟨_,o,u,_⟩:=I.ok.funs.mem l;exact I.base.free b o u (I.ok.frf b l) λz=>I.ok.exfs b z l
theorem Inv.step{g':Array GenState}{t':Nat}{d':Drawn}{ch:List aq}(I:Inv X pins σ H s)
  (G:∀b∈ch,(b∈X.ex\/ap X.s₀.heap.objs<=b)/\b≠g5 X.env/\(∀x c,X.env.cells.lookup x=ai c->c≠b)/\∀p∈X.pn++pins,p.1≠b)
  (keep:∀b o,b≠g5 X.env->b∉X.fs->b∉ch->be s.heap b=ai o->H b=ao->be h' b=ai o)
  (slot:∀b o,b≠g5 X.env->b∈X.fs->b∉ch->be s.heap b=ai o->H b=ao->∃sl,be h' b=ai { o with slots:=sl }) (free:∀b o,b∉ch->be s.heap b=ai o->H b=ao->H' b=ao)
  (there:∀b o,b∉ch->be s.heap b=ai o->∃S,be h' b=ai S)
  (tups:∀b xs,H b=ai (.tup xs)->H' b=ai (.tup xs)) (frzs:∀b o u,H b=ai (.frz o u)->H' b=ai (.frz o u)) (tbls:∀b q,H b=ai (.tbl q)->H' b=ai (.tbl q))
  (ns:∀m,s.heap.Ns (g5 X.env) m->h'.Ns (g5 X.env) m) (hok:HOk X.prog X.w H' h') (hg:lG g') :
  Inv X pins σ H' { s with heap:=h',gens:=g',drawn:=d',toks:=t' }:=by
 have U:∀b o,be X.s₀.heap b=ai o->b≠g5 X.env:=λb o e=>aO (aP (aB e) I.ok.above);have J:∀b o,be X.s₀.heap b=ai o->b∉X.ex->b∉ch:=λb o e hx L=>by rcases(G b L).1 with z|z;exact hx z;exact absurd (aP (aB e) z) (ft _)
 have cellK:∀x c,X.env.cells.lookup x=ai c->∀v,s.heap.IsCell c v->h'.IsCell c v:=λx c e v ⟨o,R,hd⟩=>by have C:c∉ch:=λz=>(G c z).2.2.1 x c e rfl;by_cases hc:c∈X.fs;obtain⟨sl,q⟩:=slot c o (I.cne x c e) hc C R (I.freeC x c e);exact⟨_,q,hd⟩;exact⟨o,keep c o (I.cne x c e) hc C R (I.freeC x c e),hd⟩
 refine⟨I.ok,I.os,hg,⟨λb o e n L hx=>?_,λb o e n L hx=>?_,λb o e n hx=>?_,λb o e hx=>?_,λb xs e=>tups b xs (I.base.tups b xs e),λb o xs e=>frzs b o xs (I.base.frzs b o xs e),λb ps e=>?_⟩,?_,λx c e=>?_,?_,λx c e=>?_,λp hp=>?_,hok,I.len⟩;exact keep b o (U b o e) L (J b o e hx) (I.base.keep b o e n L hx) (I.base.free b o e n hx);obtain⟨sl,N⟩:=I.base.slot b o e n L hx;obtain⟨Y,Z⟩:=slot b _ (U b o e) L (J b o e hx) N (I.base.free b o e n hx);exact⟨Y,Z⟩;obtain⟨S,N⟩:=I.base.there b o e hx;exact free b S (J b o e hx) N (I.base.free b o e n hx);obtain⟨S,N⟩:=I.base.there b o e hx;exact there b S (J b o e hx) N;exact tbls b ps (I.base.tbls b ps e);obtain⟨m,hn,hl⟩:=I.loc;refine⟨m,ns m hn,λi x v N Z e3=>?_⟩;obtain⟨u,r,l⟩:=hl i x v N Z e3;refine⟨u,r,?_⟩;rcases l with l|⟨k,c,e,z⟩;exact fj l;exact xw ⟨k,c,e,cellK x c e _ z⟩;obtain⟨v,z⟩:=I.cell x c e;exact⟨v,cellK x c e v z⟩;obtain⟨m,⟨o,_,_,R,_⟩,_⟩:=I.loc;exact free _ o (λz=>(G _ z).2.1 rfl) R I.free;obtain⟨v,o,R,hd⟩:=I.cell x c e;exact free c o (λz=>(G c z).2.2.1 x c e rfl) R (I.freeC x c e);obtain⟨e,n,ne,nf,d⟩:=I.pin p hp;have C:p.1∉ch:=λz=>(G p.1 z).2.2.2 p hp rfl;exact⟨keep p.1 p.2 ne nf C e n,free p.1 p.2 C e n,ne,nf,d⟩
theorem Inv.un{t':Nat}(I:Inv X pins σ H s)(u:Un X.fs [] H H' s.heap h')(hok:HOk X.prog X.w H' h'):Inv X pins σ H' { s with heap:=h',toks:=t' }:=by obtain⟨m,⟨o,es,ep,G,r⟩,_⟩:=id I.loc;obtain⟨S,L⟩:=u.any G I.free (by simp);exact I.step (g':=jh s) (d':=jr s) (ch:=[]) (λ_ z=>nomatch z) (λb o _ v _ e n=>u.keep b o e n v (by simp)) (λb o _ v _ e n=>u.slot b o e n v (by simp)) (λb o _ e n=>u.free b o e n (by simp)) (λb o _ e=>u.there b o e (by simp)) u.tups u.frzs u.tbls (λR J=>by obtain⟨U,C,x,l,N⟩:=J;rw[G]at l;cases l;exact⟨_,C,x,L,N⟩) hok I.bare
theorem Inv.call{g':Array GenState}{t':Nat}{d':Drawn}{ch:List aq}(I:Inv X pins σ H s)(u:Un (frs X.stack) ch H H' s.heap h')(hok:HOk X.prog X.w H' h')(S:lG g')
  (C:∀b∈ch,(b∈X.ex\/ap X.s₀.heap.objs<=b)/\b≠g5 X.env/\(∀x c,X.env.cells.lookup x=ai c->c≠b)/\∀p∈X.pn++pins,p.1≠b) :
  Inv X pins σ H' { s with heap:=h',gens:=g',drawn:=d',toks:=t' }:=by
 obtain⟨m,⟨o,es,ep,N,r⟩,_⟩:=id I.loc;obtain⟨sl,L⟩:=u.any N I.free λz=>(C _ z).2.1 rfl;exact I.step (ch:=ch) C (λb o L R hc e n=>u.keep b o e n (λz=>ii (ax.mp (I.stkSub b z)) L R) hc) (λb o _ _ hc e n=>u.any e n hc) (λb o hc e n=>u.free b o e n hc) (λb o hc e=>u.there b o e hc) u.tups u.frzs u.tbls (λZ U=>by obtain⟨o',J,G,v,Y⟩:=U;rw[N]at v;cases v;exact⟨_,J,G,L,Y⟩) hok S
theorem Inv.turned{t':Nat}{it:aq}(I:Inv X pins σ H s)(k:∀b o,b≠it->be s.heap b=ai o->be h' b=ai o)(U:H it=ao)(C:it≠g5 X.env)
  (N:it∈X.ex\/ap X.s₀.heap.objs<=it) (J:∀x c,X.env.cells.lookup x=ai c->c≠it) (L:∀p∈X.pn++pins,p.1≠it):Inv X pins σ H { s with heap:=h',toks:=t' }:=by
 have l:∀b u,H b=ai u->b≠it:=λb u e z=>by rw[z,U]at e;cases e
 refine I.step (g':=jh s) (d':=jr s) (ch:=[it]) (λb G=>?_) (λb o _ _ hc e _=>k b o (λz=>hc (by simp[z])) e) (λb o _ _ hc e _=>⟨o.slots,k b o (λz=>hc (by simp[z])) e⟩) (λ_ _ _ _ n=>n)
  (λb o hc e=>⟨o,k b o (λz=>hc (by simp[z])) e⟩) (λ_ _ e=>e) (λ_ _ _ e=>e) (λ_ _ e=>e) (λm S=>?_) (λb u e=>?_) I.bare
 have e:b=it:=by simpa using G
 subst e;exact⟨N,C,J,L⟩;obtain⟨o,es,ep,R,r⟩:=S;exact⟨o,es,ep,k _ o (dG C) R,r⟩;refine(I.hok b u e).stay (λc v hc q=>k c v ?_ q) (λ_ q=>q) (λ_ _ q=>q) λ_ _ _ q=>q;rcases hc with z|z;rw[z];exact l b u e;exact l c _ z
theorem Inv.tok(I:Inv X pins σ H s)(t:Nat):Inv X pins σ H { s with toks:=t }:=I.un (h':=y4 s) (t':=t) Un.refl I.hok
theorem Inv.kept{t':Nat}(I:Inv X pins σ H s)(k:∀b u,be s.heap b=ai u->be h' b=ai u):Inv X pins σ H { s with heap:=h',toks:=t' }:=I.un (Un.kept k) (I.hok.kept k)
theorem Inv.laid{a:aq}{o:HO}{t':Nat}(I:Inv X pins σ H s)(k:∀b u,be s.heap b=ai u->be h' b=ai u)(l:ap s.heap.objs<=a)(new:JE X.prog X.w (upd H a o) h' a o) :
  Inv X pins σ (upd H a o) { s with heap:=h',toks:=t' }:=I.un (Un.laid k l (I.hok.fresh l)) (I.hok.laid k l new)
theorem Inv.write{x e:aq}{o:HO}{t':Nat}(I:Inv X pins σ H s)(v:Mut (H x))(he:e=x\/H e=ai (.own x))(k:∀b u,b≠e->be s.heap b=ai u->be h' b=ai u)(l:∃u,be h' e=ai u)
  (new:JE X.prog X.w (upd H x o) h' x o):Inv X pins σ (upd H x o) { s with heap:=h',toks:=t' }:=I.un (Un.write v he k l) (I.hok.write v he k l new)
theorem Inv.weak{σ':List (Option V)}(I:Inv X pins σ H s)(u:dP σ'=dP σ)(w:∀(i:Nat) v,σ'[i]?=ai (ai v)->σ[i]?=ai (ai v)):Inv X pins σ' H s :=
 ⟨I.ok,I.os,I.bare,I.base,let ⟨m,hn,hl'⟩:=I.loc;⟨m,hn,λi x v l o C=>hl' i x v l (w i v o) C⟩,I.cell,I.free,I.freeC,I.pin,I.hok,b3 u I.len⟩
theorem Inv.pins_of{o:qO}(I:Inv X pins σ H s)(h:∀p∈o,be s.heap p.1=ai p.2/\H p.1=ao/\p.1≠g5 X.env/\p.1∉X.fs/\∀v,f7 p.2≠.cell v):Inv X o σ H s :=
 ⟨I.ok,I.os,I.bare,I.base,I.loc,I.cell,I.free,I.freeC,λp u=>ii (aW.mp u) (λz=>I.pin p (oG _ z)) (h p),I.hok,I.len⟩
theorem zkS{N:List Str}(u:N.Nodup){i j:Nat}{x:Str}(a:N[i]?=ai x)(b:N[j]?=ai x):i=j:=by obtain⟨C,l⟩:=aw.mp a;obtain⟨v,o⟩:=aw.mp b;exact(List.getElem_inj u).mp (b3 l o.symm)
theorem zh5{M:yG}{A:bq}{E:qV}{i:Nat}{x:Str}{v:V}{u:ah}{Q:Unit->au->Prop}(I:Inv X pins σ H s)(hN:X.N.Nodup)(hi:X.N[i]?=ai x)(hx:Loc (cu X.env) x)(r:RelV v u)
  (h:∀s',Inv X pins (cr σ i (ai v)) H s'->(∃a,cY a s.heap s'.heap/\(a=g5 X.env\/X.env.cells.lookup x=ai a))->Q () s') (hf:Fnl X x:=by walk_at "F"):wpAny M A (storeName X.env x u) Q E s:=by
 obtain⟨m,hn,hl⟩:=id I.loc;have Z:(X.env.scope.kind == .class||(X.env.scope.kind == .module&&g5 X.env != X.env.globals))=bA:=by rw[I.ok.kind];rfl
 have L:i<dP σ:=by rw[I.len];exact(aw.mp hi).1
 have cne:=I.cne;have tracked:∀{a:aq} {h':bh},(∃o,be s.heap a=ai o/\H a=ao)->cY a s.heap h'->HOk X.prog X.w H h':=λ{a h'} ha C b ob e=>by obtain⟨_,_,Ou⟩:=ha;refine(I.hok b ob e).stay (λc w' hc q=>b3 (C.2 c ?_) q) (λ_ q=>q) (λ_ _ q=>q) λ_ _ _ q=>q;rintro rfl;rcases hc with rfl|hc;rw[Ou]at e;cases e;rw[Ou]at hc;cases hc
 rcases hx with hk|hk;refine wpAny_storeName_local hk hn (λh' hn' C=>?_) Z;obtain⟨oL,_,_,hoL,_⟩:=id hn;refine h _ ⟨I.ok,I.os,I.bare,⟨λb o e n N hx=>?_,λb o e n N hx=>?_,I.base.free,λb o e hx=>?_,I.base.tups,I.base.frzs,I.base.tbls⟩,⟨_,hn',λj y v' G J e3=>?_⟩,λy c e=>?_,I.free,I.freeC,λp hp=>?_,tracked ⟨oL,hoL,I.free⟩ C,by simpa using I.len⟩ ⟨_,C,fj rfl⟩;exact(C.2 b (aO (aP (aB e) I.ok.above))).trans (I.base.keep b o e n N hx);obtain⟨sl,G⟩:=I.base.slot b o e n N hx;exact⟨sl,b3 (C.2 b (aO (aP (aB e) I.ok.above))) G⟩;obtain⟨o',G⟩:=I.base.there b o e hx;exact⟨o',b3 (C.2 b (aO (aP (aB e) I.ok.above))) G⟩;by_cases hj:j=i;subst hj;rw[hi]at G;cases G;rw[i7 L]at J;cases J;exact⟨u,r,fj ⟨hk,by simp⟩⟩;rw[dN (dG hj)]at J;obtain⟨u',r',q⟩:=hl j y v' G J e3;refine⟨u',r',?_⟩;rcases q with⟨k,e⟩|⟨k,c,e,z⟩;refine fj ⟨k,?_⟩;have:y≠x:=λe=>hj (zkS hN G (e▸hi));simp[this,e];exact xw ⟨k,c,e,z.sameBut C (cne y c e)⟩;obtain⟨w',z⟩:=I.cell y c e;exact⟨w',z.sameBut C (cne y c e)⟩;obtain⟨e,n,ne,nf,d⟩:=I.pin p hp;exact⟨b3 (C.2 p.1 ne) e,n,ne,nf,d⟩;have R:X.fn x=bj:=by rcases hf with z|z;exact z;rw[z]at hk;cases hk
 obtain⟨c,hc⟩:=I.ok.has x (fj hk);obtain⟨w',z⟩:=I.cell x c hc;refine wpAny_storeName_cell I.ok.kind hk hc z (λh' Y C=>?_);obtain⟨oc,U,S⟩:=id z;refine h { s with heap:=h' } ⟨I.ok,I.os,I.bare,⟨λb o e n N hx=>?_,λb o e n N hx=>?_,I.base.free,λb o e hx=>?_,I.base.tups,I.base.frzs,I.base.tbls⟩,⟨m,hn.sameBut C (dG (cne x c hc)),λj y v' G J e3=>?_⟩,λy c' e=>?_,I.free,I.freeC,λp hp=>?_,tracked ⟨oc,U,I.freeC x c hc⟩ C,by simpa using I.len⟩ ⟨c,C,xw hc⟩;exact(C.2 b (aO (aP (aB e) (I.ok.cab x c R hc)))).trans (I.base.keep b o e n N hx);obtain⟨sl,G⟩:=I.base.slot b o e n N hx;exact⟨sl,b3 (C.2 b (aO (aP (aB e) (I.ok.cab x c R hc)))) G⟩;obtain⟨o',G⟩:=I.base.there b o e hx;exact⟨o',b3 (C.2 b (aO (aP (aB e) (I.ok.cab x c R hc)))) G⟩;by_cases hj:j=i;subst hj;rw[hi]at G;cases G;rw[i7 L]at J;cases J;exact⟨u,r,xw ⟨fj hk,c,hc,Y⟩⟩;rw[dN (dG hj)]at J;obtain⟨u',r',q⟩:=hl j y v' G J e3;refine⟨u',r',?_⟩;rcases q with q|⟨k,c',e,z'⟩;exact fj q;refine xw ⟨k,c',e,z'.sameBut C ?_⟩;rintro rfl;exact hj (zkS hN G (I.ok.inj _ _ _ e hc▸hi));by_cases hcc:c'=c;subst hcc;exact⟨_,Y⟩;obtain⟨w2,z2⟩:=I.cell y c' e;exact⟨w2,z2.sameBut C hcc⟩;obtain⟨e,n,ne,nf,d⟩:=I.pin p hp;refine⟨b3 (C.2 p.1 ?_) e,n,ne,nf,d⟩;intro q;rw[q,U]at e;have q':oc=p.2:=aG e;exact d w' (by rw[<- q'];exact S)
theorem VD{M:yG}{A:bq}{E:qV}{i:Nat}{x:Str}{v:V}{u:ah}{Q:Unit->au->Prop}(I:Inv X pins σ H s)(o:X.N.Nodup)(hi:X.N[i]?=ai x)(hx:Loc (cu X.env) x)(r:RelV v u)
  (h:∀s',Inv X pins (cr σ i (ai v)) H s'->Q () s') (hf:Fnl X x:=by walk_at "F"):wpAny M A (storeName X.env x u) Q E s :=
 zh5 I o hi hx r (λs' l _=>h s' l) hf
theorem Inv.call'{s':au}{ch:List aq}(I:Inv X pins σ H s)(v:s'.os=s.os)(u:Un (frs X.stack) ch H H' s.heap s'.heap)(hok:HOk X.prog X.w H' s'.heap)(o:lG s'.gens)
  (l:∀b∈ch,(b∈X.ex\/ap X.s₀.heap.objs<=b)/\b≠g5 X.env/\(∀x c,X.env.cells.lookup x=ai c->c≠b)/\∀p∈X.pn++pins,p.1≠b):Inv X pins σ H' s':=by
 obtain⟨h',g',d',t',C⟩:=s';have e:C=s.os:=v;subst e;exact I.call (g':=g') (t':=t') (d':=d') u hok o l
end
abbrev XK:=ah->Option aq->Hp->Prop
abbrev St:=List (Option V)
abbrev VK:=V->Hp->Prop
abbrev TE:=St->Hp->VK->Prop
abbrev TT:=St->Hp->(Bool->Hp->Prop)->Prop
abbrev TA:=St->Hp->(List V->Hp->Prop)->Prop
structure Ends where
 nx:St->Hp->Prop
 rt:VK
 bk:St->Hp->Prop:=λ_ _=>False
 ct:St->Hp->Prop:=λ_ _=>False
abbrev TS:=Ends->St->Hp->Prop
def EP(X:Cx)(pins:qO)(σ:St)(Q:VK)(u:ah)(s':au):Prop:=∃v H',Inv X pins σ H' s'/\RelV v u/\Q v H'
def TP(X:Cx)(pins:qO)(σ:St)(Q:Bool->Hp->Prop)(b:Bool)(s':au):Prop:=∃H',Inv X pins σ H' s'/\Q b H'
def AP(X:Cx)(pins:qO)(σ:St)(Q:List V->Hp->Prop)(us:List ah)(s':au):Prop:=∃vs H',Inv X pins σ H' s'/\Vals vs us/\Q vs H'
def SP(X:Cx)(pins:qO)(D:Ends)(f:Flow)(s':au):Prop :=
 match f with
 | CP=>∃σ' H',Inv X pins σ' H' s'/\D.nx σ' H'
 | .brk=>∃σ' H',Inv X pins σ' H' s'/\D.bk σ' H'
 | .cont=>∃σ' H',Inv X pins σ' H' s'/\D.ct σ' H'
 | Ag u=>∃v σ' H',Inv X pins σ' H' s'/\RelV v u/\D.rt v H'
def PE(X:Cx)(e:aX)(t:TE):Prop :=
 ∀(pins:qO) (s:au) (σ:St) (H:Hp) (Q:VK),Inv X pins σ H s->t σ H Q->wpAny (model X.prog X.w) X.A (eval e X.env) (EP X pins σ Q) X.xe s
def PT(X:Cx)(e:aX)(t:TT):Prop :=
 ∀(pins:qO) (s:au) (σ:St) (H:Hp) (Q:Bool->Hp->Prop),Inv X pins σ H s->t σ H Q->wpAny (model X.prog X.w) X.A (isTrue e X.env (eval e X.env)) (TP X pins σ Q) X.xe s
def PW(X:Cx)(e:aX)(t:TT):Prop :=
 ∀(whole:Sem ah) (pins:qO) (s:au) (σ:St) (H:Hp) (Q:Bool->Hp->Prop),Inv X pins σ H s->t σ H Q->wpAny (model X.prog X.w) X.A (isTrue e X.env whole) (TP X pins σ Q) X.xe s
theorem PW.pt{X:Cx}{e:aX}{t:TT}(h:PW X e t):PT X e t:=h _
def PA(X:Cx)(es:List aX)(t:TA):Prop :=
 ∀(pos:Pos) (pins:qO) (s:au) (σ:St) (H:Hp) (Q:List V->Hp->Prop),Inv X pins σ H s->t σ H Q->wpAny (model X.prog X.w) X.A (spliced (backTo pos (starEach es X.env))) (AP X pins σ Q) X.xe s
def PS(X:Cx)(st:eW)(t:TS):Prop :=
 ∀(pins:qO) (s:au) (σ:St) (H:Hp) (D:Ends),Inv X pins σ H s->t D σ H->wpAny (model X.prog X.w) X.A (exec st X.env) (SP X pins D) X.xe s
def PSs(X:Cx)(st:List eW)(t:TS):Prop :=
 ∀(pins:qO) (s:au) (σ:St) (H:Hp) (D:Ends),Inv X pins σ H s->t D σ H->wpAny (model X.prog X.w) X.A (execs st X.env) (SP X pins D) X.xe s
theorem thn{α:Type}{t:Sem α}{Q l:α->au->Prop}{M:yG}{A:bq}{E:qV}{s:au}(h:wpAny M A t Q E s)(o:∀a s,Q a s->l a s):wpAny M A t l E s:=cn h o λ_ _ x=>x
section
variable{X:Cx}
def tVar(i:Nat):TE:=λσ H Q=>∃v,σ[i]?=ai (ai v)/\Q v H
def tC(v:V):TE:=λ_ H Q=>Q v H
theorem QJ{i:Nat}{x:Str}{pos:Pos}(S:X.N[i]?=ai x)(U:Vis (cu X.env) x)(hd:Ndb x:=by decide)(G:Ncd x:=by decide):PE X (bn x pos) (tVar i):=by intro pins s σ H Q I h;obtain⟨v,e,h⟩:=h;obtain⟨m,R,J⟩:=I.loc;obtain⟨u,r,l⟩:=J i x v S e U;have fin:EP X pins σ Q u s:=⟨v,H,I,r,h⟩;rcases l with⟨C,L⟩|⟨C,c,hc,o⟩;exact ud (oH I.ok.kind C R L fin) hd;rcases C with C|C;exact ud (pG I.ok.kind C hc o fin) hd;exact ud (wpAny_loadName_free I.ok.kind C hc o fin G) hd
theorem JD{i j pos}:PE X (i3 (.int i) j pos) (tC (.int i)):=λ_ _ _ H _ I h=>wpAny_Constant_int ⟨.int i,H,I.tok _,⟨_,rfl⟩,h⟩
theorem zzC{b j pos}:PE X (i3 (.bool b) j pos) (tC (.bl b)):=λ_ _ _ H _ I h=>Constant_bool ⟨.bl b,H,I,rfl,h⟩
theorem zvt{j pos}:PE X (i3 .none j pos) (tC .non):=λ_ _ _ H _ I h=>Constant_none ⟨.non,H,I,rfl,h⟩
theorem zvq{x j pos}:PE X (i3 (.str x) j pos) (tC (.str x)):=λ_ _ _ H _ I h=>Calls.Constant_str ⟨.str x,H,I.tok _,⟨_,rfl⟩,h⟩
def Gl(X:Cx)(x:Str):Prop:=ip X.env x=ai .globalImplicit
theorem zth{E:qV}{pins:qO}{s:au}{σ:St}{H:Hp}{x:Str}{u:ah}{pos:Pos}{Q:qV}(I:Inv X pins σ H s)(l:Gl X x)(o:X.mg x=ai u)(h:Q u s)
  (hd:Ndb x:=by decide):wpAny (model X.prog X.w) X.A (eval (bn x pos) X.env) Q E s :=
 lO I.ok.kind l (Calls.loadGlobal_global (by rw[I.ok.glob];exact I.mod.glob.keeps I.bk) o h) hd
theorem YZ{E:qV}{pins:qO}{s:au}{σ:St}{H:Hp}{x:Str}{u:ah}{pos:Pos}{Q:qV}(I:Inv X pins σ H s)(v:Gl X x)(C:X.mg x=ao)(J:bootBuiltins x=ai u)(h:Q u s)
  (G:x ≠ "__name__":=by decide) (hd:Ndb x:=by decide):wpAny (model X.prog X.w) X.A (eval (bn x pos) X.env) Q E s:=by
 obtain⟨L,o,l⟩:=I.mod.blt;exact lO I.ok.kind v (Calls.loadGlobal_builtin (by rw[I.ok.glob];exact I.mod.glob.keeps I.bk) C (by rw[I.ok.blt];exact o.keeps I.bk) (b3 (l x G) J) h) hd
theorem zsR{x:Str}{v:V}{u:ah}{pos:Pos}(l:Gl X x)(C:X.mg x=ao)(G:bootBuiltins x=ai u)(r:RelV v u)(o:x ≠ "__name__":=by decide) (hd:Ndb x:=by decide):PE X (bn x pos) (tC v) :=
 λ_ _ _ H _ I h=>YZ I l C G ⟨v,H,I,r,h⟩ o hd
variable{a b:aX}{ta tb:TE}{pos:Pos}
variable{tA tB':TT}{rest:List aX}
def tAnd(t u:TT):TT:=λσ H Q=>t σ H λc l=>if c=bj then u σ l Q else Q bA l
def tOr(t u:TT):TT:=λσ H Q=>t σ H λc l=>if c=bj then Q bj l else u σ l Q
def tNot(t:TT):TT:=λσ H Q=>t σ H λc l=>Q (!c) l
theorem zsy(u:PT X a tA):PW X (hX .And [a] pos) tA:=by
 intro v pins s σ H Q I h;refine isTrue_and (thn (u pins s σ H Q I h) λc s1 e=>?_);cases c with
 | true=>exact isTrue_and_nil e
 | false=>exact e
theorem zvb(u:PT X a tA):PW X (hX .Or [a] pos) tA:=by
 intro v pins s σ H Q I h;refine isTrue_or (thn (u pins s σ H Q I h) λc s1 e=>?_);cases c with
 | false=>exact isTrue_or_nil e
 | true=>exact e
theorem zvc(J:PT X a tA)(G:PW X (hX .And (b::rest) pos) tB'):PW X (hX .And (a::b::rest) pos) (tAnd tA tB'):=by
 intro L pins s σ H Q I h;refine isTrue_and (thn (J pins s σ H _ I h) λc s1 u=>?_);obtain⟨v,x,C⟩:=u;cases c with
 | true=>exact G L pins s1 σ v Q x C
 | false=>exact⟨v,x,C⟩
theorem zzy(J:PT X a tA)(G:PW X (hX .Or (b::rest) pos) tB'):PW X (hX .Or (a::b::rest) pos) (tOr tA tB'):=by
 intro L pins s σ H Q I h;refine isTrue_or (thn (J pins s σ H _ I h) λc s1 u=>?_);obtain⟨v,x,C⟩:=u;cases c with
 | true=>exact⟨v,x,C⟩
 | false=>exact G L pins s1 σ v Q x C
theorem zve(l:PT X a tA):PT X (jt .Not a pos) (tNot tA):=by intro pins s σ H Q I h;exact isTrue_not (l pins s σ H (λc u=>Q (!c) u) I h)
def zyO(ta tb:TE):TE:=λσ H Q=>ta σ H λx o=>∃c,x=.bl c/\if c=bj then tb σ o Q else Q (.bl bA) o
def tOrV(ta tb:TE):TE:=λσ H Q=>ta σ H λx o=>∃c,x=.bl c/\if c=bj then Q (.bl bj) o else tb σ o Q
def zyL(ta:TE):TE:=λσ H Q=>ta σ H λx o=>∃c,x=.bl c/\Q (.bl (!c)) o
theorem zvr{op}{t:TE}(h:PE X a t):PE X (hX op [a] pos) t:=λpins s σ H Q I hw=>BoolOp_one (h pins s σ H Q I hw)
theorem zvz(R:PE X a ta)(L:PE X (hX .And (b::rest) pos) tb):PE X (hX .And (a::b::rest) pos) (zyO ta tb):=by
 intro pins s σ H Q I h;refine BoolOp_and (thn (R pins s σ H _ I h) λv s1 C=>?_);obtain⟨x,G,J,N,u⟩:=C;obtain⟨c,rfl,u⟩:=u;cases N;refine cw ?_;cases c with
 | true=>exact L pins s1 σ G Q J u
 | false=>exact⟨.bl bA,G,J,rfl,u⟩
theorem zzB(R:PE X a ta)(L:PE X (hX .Or (b::rest) pos) tb):PE X (hX .Or (a::b::rest) pos) (tOrV ta tb):=by
 intro pins s σ H Q I h;refine BoolOp_or (thn (R pins s σ H _ I h) λv s1 C=>?_);obtain⟨x,G,J,N,u⟩:=C;obtain⟨c,rfl,u⟩:=u;cases N;refine cw ?_;cases c with
 | false=>exact L pins s1 σ G Q J u
 | true=>exact⟨.bl bj,G,J,rfl,u⟩
theorem zvs(G:PE X a ta):PE X (jt .Not a pos) (zyL ta):=by intro pins s σ H Q I h;refine UnaryOp_ (thn (G pins s σ H _ I h) λv s1 u=>?_);obtain⟨x,L,R,J,C⟩:=u;obtain⟨c,rfl,C⟩:=C;cases J;exact not_of (cw ⟨.bl (!c),L,R,rfl,C⟩)
def tIf(t:TT)(ta tb:TE):TE:=λσ H Q=>t σ H λc l=>if c=bj then ta σ l Q else tb σ l Q
theorem zqe{c:aX}(hc:PT X c tA)(G:PE X a ta)(C:PE X b tb):PE X (.IfExp c a b pos) (tIf tA ta tb):=by
 intro pins s σ H Q I h;refine wpAny_IfExp (thn (hc pins s σ H _ I h) λd s1 l=>?_);obtain⟨o,u,v⟩:=l;cases d with
 | true=>exact G pins s1 σ o Q u v
 | false=>exact C pins s1 σ o Q u v
end
def SqL(K:qF)(H:Hp)(a:aq)(xs:List V):Prop :=
 Rd H a (.lst xs) \/
  ∃(o:Obj) (its:Array ah) (n:Nat),K.lookup a=ai o/\jg o=aY "list" /\ o.dict=ao/\f7 o=f9 its n/\ap its<=sizeLine/\Vals xs (w9 its)
def SqT(K:qF)(H:Hp)(a:aq)(xs:List V):Prop :=
 Rd H a (.tup xs) \/
  ∃(o:Obj) (its:Array ah) (n:Nat),K.lookup a=ai o/\jg o=aY "tuple" /\ f7 o=f9 its n/\ap its<=sizeLine/\Vals xs (w9 its)
def absV:ah->Option V
 | dM=>ai .non
 | nH b=>ai (.bl b)
 | m6 i _=>ai (.int i)
 | ph x _=>ai (.str x)
 | .bytes b _=>ai (.byt b)
 | yC b _=>ai (.flt b)
 | aZ a=>ai (.ref a)
 | aY n=>ai (.ty n)
 | _=>ao
theorem RelV.abs{x:V}{u:ah}(r:RelV x u):absV u=ai x:=by
 cases x with
 | non=>cases r;rfl
 | bl _=>cases r;rfl
 | int _=>obtain⟨t,rfl⟩:=r;rfl
 | str _=>obtain⟨t,rfl⟩:=r;rfl
 | byt _=>obtain⟨t,rfl⟩:=r;rfl
 | flt _=>obtain⟨t,rfl⟩:=r;rfl
 | ref _=>cases r;rfl
 | ty _=>cases r;rfl
theorem RelV.inj{x y:V}{u:ah}(r:RelV x u)(q:RelV y u):x=y:=aG (b3 r.abs.symm q.abs)
theorem Vals.inj{xs ys:List V}{us:List ah}(h:Vals xs us)(k:Vals ys us):xs=ys:=by
 induction h generalizing ys with
 | nil=>cases k;rfl
 | cons r t l =>
  cases k with
  | cons o t'=>rw[r.inj o,l t']
section
variable{X:Cx}{pins:qO}{σ:St}{H:Hp}{s:au}{a:aq}{xs ys:List V}
theorem SqL.of{K:qF}(h:H a=ai (.lst xs)):SqL K H a xs:=fj (fj h)
theorem Inv.list(I:Inv X pins σ H s)(h:SqL X.K H a xs):∃its:List ah,Vals xs its/\PlainL s.heap a (bm its)/\dP xs<=sizeLine:=by rcases h with h|⟨o,its,n,l,hc,hd,u,hz,r⟩;obtain⟨z,its,n,r,e⟩:=h.ok I.hok;exact⟨its,r,⟨_,n,e,rfl,rfl,rfl⟩,z⟩;refine⟨w9 its,r,⟨o,n,I.kIn a o l,hc,hd,by simpa using u⟩,?_⟩;have e:=r.length;simp only[cg]at e;lia
theorem Inv.tuple(I:Inv X pins σ H s)(h:SqT X.K H a xs):∃its:List ah,Vals xs its/\rA s.heap a (bm its)/\dP xs<=sizeLine:=by rcases h with h|⟨o,its,n,l,hc,u,hz,r⟩;obtain⟨z,its,r,p⟩:=h.ok I.hok;exact⟨its,r,p.tup,z⟩;refine⟨w9 its,r,⟨o,I.kIn a o l,hc,n,by simpa using u⟩,?_⟩;have e:=r.length;simp only[cg]at e;lia
theorem Inv.list_inj(I:Inv X pins σ H s)(h:SqL X.K H a xs)(h':SqL X.K H a ys):xs=ys:=by
 obtain⟨its,r,⟨o,n,e,_,_,d⟩,_⟩:=I.list h;obtain⟨its',u,⟨x,v,l,_,_,d'⟩,_⟩:=I.list h';rw[e]at l;cases l;rw[d]at d';injection d' with d1 _
 have:its=its':=by simpa using congrArg w9 d1
 subst this;exact r.inj u
theorem Inv.tuple_inj(I:Inv X pins σ H s)(h:SqT X.K H a xs)(h':SqT X.K H a ys):xs=ys:=by
 obtain⟨its,r,⟨o,e,_,n,d⟩,_⟩:=I.tuple h;obtain⟨its',u,⟨x,l,_,v,d'⟩,_⟩:=I.tuple h';rw[e]at l;cases l;rw[d]at d';injection d' with d1 _
 have:its=its':=by simpa using congrArg w9 d1
 subst this;exact r.inj u
end
abbrev Cx.wish(X:Cx)(E:qV):Cx:={ X with xe:=E }
abbrev Cx.nox(X:Cx):Cx:=X.wish λ_ _=>False
theorem Cx.Ok.wish{X:Cx}(ok:X.Ok)(E:qV):(X.wish E).Ok :=
 ⟨ok.mod,ok.kind,ok.glob,ok.blt,ok.above,ok.inj,ok.has,ok.cab,ok.hd,ok.frames,ok.stk,ok.exf,ok.bs,ok.bsz,ok.noex,ok.exfs,ok.funs,ok.frf⟩
theorem Cx.Ok.unwish{X:Cx}{E:qV}(ok:(X.wish E).Ok):X.Ok :=
 ⟨ok.mod,ok.kind,ok.glob,ok.blt,ok.above,ok.inj,ok.has,ok.cab,ok.hd,ok.frames,ok.stk,ok.exf,ok.bs,ok.bsz,ok.noex,ok.exfs,ok.funs,ok.frf⟩
section
variable{X:Cx}{pins:qO}{σ:St}{H:Hp}{s:au}{E:qV}
theorem Inv.wish(I:Inv X pins σ H s)(E:qV):Inv (X.wish E) pins σ H s:=⟨I.ok.wish E,I.os,I.bare,I.base,I.loc,I.cell,I.free,I.freeC,I.pin,I.hok,I.len⟩
theorem Inv.unwish(I:Inv (X.wish E) pins σ H s):Inv X pins σ H s:=⟨I.ok.unwish,I.os,I.bare,I.base,I.loc,I.cell,I.free,I.freeC,I.pin,I.hok,I.len⟩
theorem SP.unwish{D:Ends}{f:Flow}{s':au}(h:SP (X.wish E) pins D f s'):SP X pins D f s':=by
 cases f with
 | next=>obtain⟨σ',H',I,q⟩:=h;exact⟨σ',H',I.unwish,q⟩
 | brk=>obtain⟨σ',H',I,q⟩:=h;exact⟨σ',H',I.unwish,q⟩
 | cont=>obtain⟨σ',H',I,q⟩:=h;exact⟨σ',H',I.unwish,q⟩
 | ret u=>obtain⟨v,σ',H',I,r,q⟩:=h;exact⟨v,σ',H',I.unwish,r,q⟩
theorem PSs.nox{st:List eW}{t:TS}(h:PSs X.nox st t):PSs X st t:=λpins s σ H D I hw =>
 cn (h pins s σ H D (I.wish _) hw) (λ_ _ q=>q.unwish) λ_ _ z=>eJ z
end
section
variable{X:Cx}{st:eW}{rest:List eW}{t u:TS}{e:aX}{te:TE}{pos:Pos}
def zyM:TS:=λD σ H=>D.nx σ H
def tSeq(t u:TS):TS:=λD σ H=>t { D with nx:=u D } σ H
theorem zjI:PSs X [] zyM:=λ_ _ σ H _ I h=>lB ⟨σ,H,I,h⟩
theorem QP(x:PS X st t)(o:PSs X rest u):PSs X (st::rest) (tSeq t u):=by
 intro pins s σ H D I h;refine sE (thn (x pins s σ H { D with nx:=u D } I h) λf s1 q=>?_);cases f with
 | next =>obtain⟨σ',H',l,q⟩:=q;exact o pins s1 σ' H' D l q
 | ret v=>exact q
 | brk=>exact q
 | cont=>exact q
theorem Vf(l:PS X st t):PSs X [st] t:=by
 intro pins s σ H D I h;refine sE (thn (l pins s σ H D I h) λf s1 q=>?_);cases f with
 | next=>exact lB q
 | ret v=>exact q
 | brk=>exact q
 | cont=>exact q
theorem Inv.quiet{pins:qO}{σ:St}{H:Hp}{s:au}(I:Inv X pins σ H s):interactive X.env=bA:=by simp[interactive,I.ok.kind]
def zyN(te:TE):TS:=λD σ H=>te σ H λ_ l=>D.nx σ l
theorem znz(he:PE X e te)(G:swapsWith e ao pos.line X.env=pure bA:=by rfl):PS X (.Expr e pos) (zyN te):=by intro pins s σ H D I h;exact wpAny_Expr_any (thn (he pins s σ H _ I h) λv s1 ⟨x,l,o,J,C⟩=>⟨σ,l,o,C⟩) I.quiet G
def tRet(te:TE):TS:=λD σ H=>te σ H D.rt
theorem ZR(he:PE X e te):PS X (.Return (ai e) pos) (tRet te):=by intro pins s σ H D I h;exact wpAny_Return_some (thn (he pins s σ H _ I h) λv s1 ⟨x,o,C,l,G⟩=>⟨x,σ,o,C,l,G⟩)
def tIfS(c:TT)(t u:TS):TS:=λD σ H=>c σ H λb l=>if b=bj then t D σ l else u D σ l
theorem zsD{c:aX}{a b:List eW}{v:TT}(hc:PT X c v)(J:PSs X a t)(G:PSs X b u):PS X (.If c a b pos) (tIfS v t u):=by
 intro pins s σ H D I h;refine wpAny_If (thn (hc pins s σ H _ I h) λd s1 l=>?_);obtain⟨o,x,C⟩:=l;cases d with
 | true=>exact J pins s1 σ o D x C
 | false=>exact G pins s1 σ o D x C
def zuA:TS:=λ_ _ _=>False
theorem zp_:PS X st zuA:=λ_ _ _ _ _ _ h=>eJ h
end
abbrev TG:=V->St->Hp->(St->Hp->Prop)->Prop
abbrev TGs:=List V->St->Hp->(St->Hp->Prop)->Prop
def PG(X:Cx)(target:aX)(t:TG):Prop :=
 ∀(pins:qO) (s:au) (σ:St) (H:Hp) (v:V) (u:ah) (Q:St->Hp->Prop),Inv X pins σ H s->RelV v u->t v σ H Q ->
  wpAny (model X.prog X.w) X.A (assign target X.env u) (λ_ s'=>∃σ' H',Inv X pins σ' H' s'/\Q σ' H') X.xe s
def PGs(X:Cx)(ts:List aX)(t:TGs):Prop :=
 ∀(pins:qO) (s:au) (σ:St) (H:Hp) (vs:List V) (us:List ah) (Q:St->Hp->Prop),Inv X pins σ H s->Vals vs us->t vs σ H Q ->
  wpAny (model X.prog X.w) X.A (assignInOrder ((assignEach ts X.env).map (·.2)) us) (λ_ s'=>∃σ' H',Inv X pins σ' H' s'/\Q σ' H') X.xe s
abbrev TSet:=V->V->V->Hp->(Hp->Prop)->Prop
def PSet(X:Cx)(t:TSet):Prop :=
 ∀(pins:qO) (s:au) (σ:St) (H:Hp) (o i v:V) (x l u:ah) (Q:Hp->Prop),Inv X pins σ H s->RelV o x->RelV i l->RelV v u->t o i v H Q ->
  wpAny (model X.prog X.w) X.A (setItem x l u) (λ_ s'=>∃H',Inv X pins σ H' s'/\Q H') X.xe s
abbrev TIp:=V->V->Hp->VK->Prop
def PIp(X:Cx)(op:ue)(t:TIp):Prop :=
 ∀(pins:qO) (s:au) (σ:St) (H:Hp) (x y:V) (v u:ah) (Q:VK),Inv X pins σ H s->RelV x v->RelV y u->t x y H Q ->
  wpAny (model X.prog X.w) X.A (inplaceOp op v u) (EP X pins σ Q) X.xe s
section
variable{X:Cx}{pos:Pos}
def Um(i:Nat):TG:=λv σ H Q=>Q (cr σ i (ai v)) H
theorem zsK{i:Nat}{x:Str}(o:X.N.Nodup)(hi:X.N[i]?=ai x)(hx:Loc (cu X.env) x)(hf:Fnl X x:=by walk_at "F"):PG X (bn x pos) (Um i):=by intro pins s σ H v u Q I r h;exact rB (VD I o hi hx r (λs' l=>⟨_,H,l,h⟩) hf)
def gNil:TGs:=λvs σ H Q=>vs=[]/\Q σ H
def zAs(t:TG)(u:TGs):TGs:=λvs σ H Q=>∃v r,vs=v::r/\t v σ H λσ' H'=>u r σ' H' Q
theorem zsJ:PGs X [] gNil:=by intro pins s σ H vs us Q I r h;obtain⟨e,h⟩:=h;subst e;cases r;exact rC ⟨σ,H,I,h⟩
theorem zqc{e:aX}{es:List aX}{t:TG}{u:TGs}(J:PG X e t)(C:PGs X es u)
  (L:(assignEach (e::es) X.env).map (·.2)=assign e X.env::(assignEach es X.env).map (·.2):=by rfl):PGs X (e::es) (zAs t u):=by
 intro pins s σ H vs us Q I r h;obtain⟨v,U,G,h⟩:=h;subst G;cases r with
 | cons r S =>rw[L];refine lP (thn (J pins s σ H _ _ _ I r h) λ_ s1 l=>?_);obtain⟨o,x,N,R⟩:=l;exact C pins s1 o x _ _ Q N S R
def gTup(K:qF)(n:Nat)(t:TGs):TG:=λv σ H Q=>∃a xs,v=.ref a/\SqT K H a xs/\dP xs=n/\t xs σ H Q
theorem zvo{es:List aX}{k:Nat}{t:TGs}{n:Nat}(hc:X.calm=bj)(h:PGs X es t)
  (U:dP (assignEach es X.env)=n:=by rfl) (C:(assignEach es X.env).findIdx? (·.1)=ao:=by rfl):PG X (jb es k pos) (gTup X.K n t):=by
 intro pins s σ H v u Q I r hw;obtain⟨a,xs,L,N,J,hw⟩:=hw;subst L;cases r;obtain⟨its,G,R,hz⟩:=I.tuple N;refine assign_Tuple_tuple (I.ok.hd hc) R (by simp[U,<- J,G.length]) C λh' hx=>?_;have S:Inv X pins σ H { s with heap:=h' }:=I.kept (t':=dn s) λb o e=>hx b o (aO (aB e)) e;exact h pins _ σ H xs _ Q S (by simpa using G) hw
def gSub(to ti:TE)(t:TSet):TG:=λv σ H Q=>to σ H λo l=>ti σ l λi u=>t o i v u λx=>Q σ x
theorem pg_sub{o i:aX}{to ti:TE}{t:TSet}(ho:PE X o to)(hi:PE X i ti)(hs:PSet X t)
  (ha:∀v,assign (d0 o i pos) X.env v=(do
   let C <- holding [v] (eval o X.env);let G <- holding [v,C] (eval i X.env)
   standAt pos
   holding [v,C,G] (setItem C G v)
   release [v,C,G] []):=by intro _;rfl):PG X (d0 o i pos) (gSub to ti t):=by
 intro pins s σ H v u Q I r h;rw[ha];refine aa (bO (thn (ho pins s σ H _ I h) λC s1 l=>?_));obtain⟨x,L,I1,J,q1⟩:=l;refine aa (bO (thn (hi pins s1 σ L _ I1 q1) λG s2 l=>?_));obtain⟨y,H2,N,Z,q2⟩:=l;refine aa (eR (aa (bO (thn (hs pins s2 σ H2 x y v C G u _ N J Z r q2) λ_ s3 l=>?_))));obtain⟨Y,R,U⟩:=l;exact wpAny_release ⟨σ,Y,R,U⟩
def tAsg(l:TE)(g:TG):TS:=λD σ H=>l σ H λx o=>g x σ o D.nx
theorem Wc{l e:aX}{o:TE}{g:TG}(he:PE X e o)(J:PG X l g)(L:swapsWithSole [l] e pos.line X.env=pure bA:=by rfl)(hw:swappedStores [l] e X.env=pure ao:=by rfl)
  (G:(assignEach [l] X.env).map (·.2)=[assign l X.env]:=by rfl):PS X (h6 [l] e pos) (tAsg o g):=by
 intro pins s σ H D I h;refine wpAny_Assign_stores (thn (he pins s σ H _ I h) λv s1 ⟨x,C,N,u,R⟩=>?_) L hw;rw[G];exact thn (J pins s1 σ C x v _ N u R) λ_ s2 q=>q
theorem QK{i:Nat}{x:Str}{e:aX}{o:TE}{l:Pos}(S:X.N.Nodup)(hi:X.N[i]?=ai x)(hx:Loc (cu X.env) x)(he:PE X e o)(J:swapsWith e (ai (bn x l)) pos.line X.env=pure bA:=by rfl)(hf:Fnl X x:=by walk_at "F") :
  PS X (h6 [bn x l] e pos) (tAsg o (Um i)):=by
 intro pins s σ H D I h;refine wpAny_Assign_Name (thn (he pins s σ H _ I h) λv s1 ⟨y,C,L,u,R⟩=>?_) J;exact VD L S hi hx u (λs2 G=>⟨_,C,G,R⟩) hf
def tPar(i j:Nat)(l:TA):TS:=λD σ H=>l σ H λvs o=>∃v w,vs=[v,w]/\D.nx (cr (cr σ i (ai v)) j (ai w)) o
theorem zvf{i j:Nat}{x y:Str}{a b:aX}{ta:TA}{J py pt:Pos}{kt k2 pt2}(hc:X.calm=bj)(hN:X.N.Nodup)(hi:X.N[i]?=ai x)(hj:X.N[j]?=ai y)(Y:i≠j)
  (hx:X.env.scope.names.lookup x=ai .local) (hy:X.env.scope.names.lookup y=ai .local) (ha:PA X [a,b] ta)
  (hw:swappedStores [jb [bn x J,bn y py] kt pt] (jb [a,b] k2 pt2) X.env=pure (ai [x,y]))
  (hs:swapsWithSole [jb [bn x J,bn y py] kt pt] (jb [a,b] k2 pt2) pos.line X.env=pure bA:=by rfl) :
  PS X (h6 [jb [bn x J,bn y py] kt pt] (jb [a,b] k2 pt2) pos) (tPar i j ta):=by
 intro pins s σ H D I h;rw[exec_Assign_arm];refine aa (eR ?_);rw[hs];refine aa (af ?_);rw[if_neg (by decide)];refine aa (Tuple_ (thn (ha _ pins s σ H _ I h) λus s1 L=>?_));obtain⟨vs,Z,I1,r1,U⟩:=L;obtain⟨v,w,e1,U⟩:=U;subst e1;obtain⟨G,C,rfl,rv,R⟩:∃G C,us=[G,C]/\RelV v G/\RelV w C:=by
  cases r1 with
  | cons p q =>
   cases q with
   | cons p' q' =>cases q';exact⟨_,_,rfl,p,p'⟩
 refine bp ?_ (by show 2<=sizeLine;decide);have I2:Inv X pins σ Z { s1 with heap:=dL s1.heap { cls:=aY "tuple",data:=f9 [G,C].toArray } }:=I1.kept (t':=dn s1) λb o e=>aj _ e;rw[hw];refine aa (af ?_);show wpAny (model X.prog X.w) X.A (do rule "assign.swapped-stores";let items <- unpackItems (aZ s1.heap.objs.size) 2 ao;assignInOrder [λv=>bindName X.env y v,λv=>bindName X.env x v] (fm items);pure CP) _ _ _;refine aa (dh (aa (unpackItems_tuple (items:=#[G,C]) (I.ok.hd hc) (IsTup.new s1.heap _) λh' S=>?_)));have I3:=I2.kept (h':=h') (t':=dn s1) λb o e=>S b o (aO (aB e)) e;show wpAny _ _ (assignInOrder [λv=>bindName X.env y v,λv=>bindName X.env x v] [C,G] >>= λ_=>pure CP) _ _ _;refine aa (lP (uf (VD I3 hN hj (fj hy) R (λs2 I4=>?_) (xw hy))));refine lP (uf (VD I4 hN hi (fj hx) rv (λs3 I5=>rC (af ?_)) (xw hx)));rw[List.set_comm _ _ (dG Y)]at I5;exact⟨_,Z,I5,U⟩
def tAug(i:Nat)(l:TE)(ti:TIp):TS:=λD σ H=>∃x,σ[i]?=ai (ai x)/\l σ H λy o=>ti x y o λz u=>D.nx (cr σ i (ai z)) u
theorem zvh{i:Nat}{x:Str}{e:aX}{U:TE}{op:ue}{ti:TIp}{L:Pos}(hN:X.N.Nodup)(hi:X.N[i]?=ai x)(hx:Loc (cu X.env) x)(he:PE X e U)(ho:PIp X op ti)(hf:Fnl X x:=by walk_at "F") :
  PS X (.AugAssign (bn x L) op e pos) (tAug i U ti):=by
 intro pins s σ H D I h;obtain⟨v,e1,h⟩:=h;obtain⟨m,hn,hl⟩:=I.loc;have S:Vis (cu X.env) x:=by rcases hx with k|k;exact fj k;exact xw (fj k)
 obtain⟨u,r,l⟩:=hl i x v hi e1 S;refine wpAny_AugAssign_Name ?_;have go:wpAny (model X.prog X.w) X.A (eval e X.env) (λw J=>wpAny (model X.prog X.w) X.A (inplaceOp op u w) (λr R=>wpAny (model X.prog X.w) X.A (storeName X.env x r) (λ_=>SP X pins D CP) X.xe R) X.xe J) X.xe s:=by refine thn (he pins s σ H _ I h) λw s1 C=>?_;obtain⟨y,Z,I1,r1,q1⟩:=C;refine thn (ho pins s1 σ Z v y u w _ I1 r r1 q1) λz s2 C=>?_;obtain⟨zv,H2,I2,r2,q2⟩:=C;exact VD I2 hN hi hx r2 (λs3 Y=>⟨_,H2,Y,q2⟩) hf
 rcases l with⟨o,hm⟩|⟨o,c,hc,G⟩;exact oH I.ok.kind o hn hm go;rcases o with o|o;exact pG I.ok.kind o hc G go;rcases hx with k|k;have:X.env.scope.names.lookup x=ai cB:=o;rw[k]at this;cases this;have:X.env.scope.names.lookup x=ai cB:=o;rw[k]at this;cases this
def ipI(f:Int->Int->Int):TIp:=λx y H Q=>∃i j,x=.int i/\y=.int j/\Q (.int (f i j)) H
theorem zwK:PIp X .Add (ipI λi j=>i+j):=by intro pins s σ H x y v u Q I l o h;obtain⟨i,j,C,G,q⟩:=h;subst C;subst G;obtain⟨t,rfl⟩:=l;obtain⟨t',rfl⟩:=o;exact iadd_int ⟨.int _,H,I.tok _,⟨_,rfl⟩,q⟩
def zuy(c:TT)(u:TS):TS:=λD σ H=>∃W:Nat->St->Hp->Prop,(∃m,W m σ H)/\∀m σ H,W m σ H ->
 c σ H λb l=>if b=bj then ∃N:St->Hp->Prop,(∀σ' H',N σ' H'->∃o,o<m/\W o σ' H')/\u { D with nx:=N,ct:=N,bk:=D.nx } σ l else D.nx σ l
theorem zp9{c:aX}{body:List eW}{tc:TT}{Z:TS}(hp:sG (model X.prog X.w) X.A X.env X.xe)(hc:PT X c tc)(hb:PSs X body Z):PS X (.While c body [] pos) (zuy tc Z):=by
 intro pins s σ H D I h;obtain⟨W,⟨m0,w0⟩,turn⟩:=h;refine wpAny_While (codeAny_whileLoop (λn s'=>∃σ' H',Inv X pins σ' H' s'/\W n σ' H') ?_ m0 ⟨σ,H,I,w0⟩);rintro n s1 ⟨u,H1,I1,w1⟩;refine fO hp (thn (hc pins s1 u H1 _ I1 (turn n u H1 w1)) λb s2 R=>?_);obtain⟨H2,I2,G⟩:=R;cases b with
 | true =>
  obtain⟨N,hN,G⟩:=G;rw[if_pos rfl];refine fO hp (thn (hb pins s2 u H2 _ I2 G) λf s3 C=>?_);cases f with
  | next =>obtain⟨o,x,J,Y⟩:=C;obtain⟨S,U,L⟩:=hN o x Y;exact⟨S,U,o,x,J,L⟩
  | cont =>obtain⟨o,x,J,Y⟩:=C;obtain⟨S,U,L⟩:=hN o x Y;exact⟨S,U,o,x,J,L⟩
  | brk=>exact C
  | ret v=>exact C
 | false =>rw[if_neg a8];exact lB ⟨u,H2,I2,G⟩
end
structure It where
 go:Nat->Hp->Prop
 yld:Nat->Hp->V->Hp->Prop
 stop:Nat->Hp->Prop
def FpOk(X:Cx)(pins:qO)(H:Hp)(b:aq):Prop :=
 H b=ao/\b≠g5 X.env/\b∉X.fs/\(b∈X.ex\/ap X.s₀.heap.objs<=b)/\(∀x c,X.env.cells.lookup x=ai c->c≠b)/\∀p∈X.pn++pins,p.1≠b
theorem Inv.fpOk{X:Cx}{pins:qO}{σ:St}{H H':Hp}{s:au}{b:aq}(I:Inv X pins σ H s)(l:ap s.heap.objs<=b)(u:H' b=ao):FpOk X pins H' b:=by refine⟨u,i8 (aP I.lt l),I.nofs l,xw (bu I.sz l),λx c e z=>?_,λp o z=>?_⟩;obtain⟨v,q⟩:=I.cell x c e;exact absurd (aP q.lt (by rw[z];exact l)) (ft _);exact absurd (aP (aB (I.pin p o).1) (by rw[z];exact l)) (ft _)
structure Turn(P:aL)(w:aV)(K:qF)(tg:aX)(J:It)(fp:List aq)(it:aq)(tn:Nat->bh->Prop):Prop where
 mem:it∈fp
 obj:∀i h,tn i h->∀b∈fp,∃o,be h b=ai o/\∀v,f7 o≠.cell v
 keep:∀i h h',tn i h->(∀b∈fp,∀o,be h b=ai o->be h' b=ai o)->tn i h'
 item:∀(X:Cx),X.prog=P->X.w=w->X.K=K->X.calm=bj->∀(i:Nat) (pins:qO) (s:au) (σ:St) (H:Hp) (E:qV),Inv X pins σ H s->(∀b∈fp,FpOk X pins H b)->tn i s.heap->J.go i H ->
  wpAny (model P w) X.A (pyNext (aZ it)) (λr s1=>∃u,r=ai u /\
   wpAny (model P w) X.A (letOwnedTupleGo tg (aZ it) u) (λ_ s2=>∃x H',Inv X pins σ H' s2/\RelV x u/\J.yld i H x H'/\tn (i+1) s2.heap/\∀b∈fp,H' b=ao) E s1) E s
 done:∀(X:Cx),X.prog=P->X.w=w->X.K=K->X.calm=bj->∀(i:Nat) (pins:qO) (s:au) (σ:St) (H:Hp) (E:qV),Inv X pins σ H s->(∀b∈fp,FpOk X pins H b)->tn i s.heap->J.stop i H ->
  wpAny (model P w) X.A (pyNext (aZ it)) (λr s1=>r=ao/\Inv X pins σ H s1) E s
 self:∀(A:bq) (i:Nat) (s:au) (Q:qV) (E:qV),tn i s.heap->Q (aZ it) s->wpAny (model P w) A (pyIter (aZ it)) Q E s
abbrev TI:=St->Hp->(It->Hp->Prop)->Prop
def PIE(X:Cx)(pins:qO)(σ:St)(v:aX)(R:It->Hp->Prop)(l:ah)(s2:au):Prop :=
 ∃(it:aq) (o:List aq) (u:Nat->bh->Prop) (J:It) (H':Hp),l=aZ it/\Inv X pins σ H' s2/\Turn X.prog X.w X.K v J o it u/\u 0 s2.heap/\(∀b∈o,FpOk X pins H' b)/\R J H'
def PI(X:Cx)(l iter:aX)(wi:TI):Prop :=
 ∀(pins:qO) (s:au) (σ:St) (H:Hp) (R:It->Hp->Prop),Inv X pins σ H s->wi σ H R ->
  wpAny (model X.prog X.w) X.A (eval iter X.env) (λv s1=>wpAny (model X.prog X.w) X.A (pyIter v) (PIE X pins σ l R) X.xe s1) X.xe s
theorem U7{M:yG}{A:bq}{E:qV}{s:au}{x:aX}{it:aq}{u:ah}{o:Obj}{n:String}{vs:Array ah}{Q:Unit->au->Prop}(C:be s.heap it=ai o)(hc:jg o=aY n)(hd:f7 o=ed vs)
  (G:["enumerate","zip","dict_itemiterator","dict_reverseitemiterator","odict_iterator","itertools.zip_longest","itertools.pairwise"].contains n=bA) (v:Q () s):wpAny M A (letOwnedTupleGo x (aZ it) u) Q E s:=by
 unfold letOwnedTupleGo;cases x <;> first
  | exact af v
  | (cases u <;> first
    | exact af v
    | (refine aa (nI C ?_)
       rw[hc,hd];show wpAny M A (if (["enumerate","zip","dict_itemiterator","dict_reverseitemiterator","odict_iterator","itertools.zip_longest","itertools.pairwise"].contains n&&vs[0]? == ai (rawInt _))=bj then _ else _) Q E s;rw[if_neg (by intro h;rw[G,hY]at h;cases h)];exact af v))
def Itl(K:qF)(a:aq):It :=
 ⟨λi H=>∃xs x,SqL K H a xs/\xs[i]?=ai x,λi H x H'=>H'=H/\∀xs,SqL K H a xs->xs[i]?=ai x,λi H=>∃xs,SqL K H a xs/\dP xs<=i⟩
def Itt(K:qF)(a:aq):It :=
 ⟨λi H=>∃xs x,SqT K H a xs/\xs[i]?=ai x,λi H x H'=>H'=H/\∀xs,SqT K H a xs->xs[i]?=ai x,λi H=>∃xs,SqT K H a xs/\dP xs<=i⟩
def Itr(lo:Int)(n:Nat):It:=⟨λi _=>i<n,λi H x H'=>H'=H/\x=.int (lo+i),λi _=>n<=i⟩
theorem zh0{P:aL}{w:aV}{K:qF}{tg:aX}(a it:aq):Turn P w K tg (Itl K a) [it] it (λi h=>h.IsListIter it a i) where
 mem:=by simp
 obj:=λi h st b l=>by
  have e:b=it:=by simpa using l
  subst e;obtain⟨o,e,c,d⟩:=st;exact⟨o,e,λv z=>by rw[d]at z;cases z⟩
 keep:=λi h h' st k=>st.at λo e=>k it (by simp) o e
 item:=by intro X U hw N hc i pins s σ H E I hf st R;subst U hw N;obtain⟨xs,x,G,hx⟩:=R;obtain⟨its,S,p,hz⟩:=I.list G;obtain⟨u,hu,ru⟩:=S.get hx;obtain⟨f0,f1,f2,J,f4,L⟩:=hf it (by simp);refine wpAny_pyNext_list_item st p.isList (x:=u) (by simpa using hu) λh' C Y=>?_;have I1:Inv X pins σ H { s with heap:=h' }:=I.turned (t':=dn s) (λb o l e=>b3 (Y.2 b l) e) f0 f1 J f4 L;obtain⟨o,e,c,d⟩:=id C;exact⟨u,rfl,U7 (s:={ s with heap:=h' }) e c d (by decide) ⟨x,H,I1,ru,⟨rfl,λys Z=>by rw[I.list_inj Z G];exact hx⟩,C,λb l=>(hf b l).1⟩⟩
 done:=by intro X U hw N hc i pins s σ H E I hf st R;subst U hw N;obtain⟨xs,G,hx⟩:=R;obtain⟨its,S,p,hz⟩:=I.list G;obtain⟨f0,f1,f2,J,f4,L⟩:=hf it (by simp);have hl:=S.length;exact wpAny_pyNext_list_end (I.ok.hd hc) st p.isList (by simp;lia) λh' eb=>⟨rfl,I.turned (t':=dn s) (λb o l e=>eb b o l e) f0 f1 J f4 L⟩
 self:=λ_ _ _ _ _ st h=>wpAny_pyIter_listiter st h
theorem zgo{P:aL}{w:aV}{K:qF}{tg:aX}(a it:aq):Turn P w K tg (Itt K a) [it] it (λi h=>h.IsTupleIter it a i) where
 mem:=by simp
 obj:=λi h st b l=>by
  have e:b=it:=by simpa using l
  subst e;obtain⟨o,e,c,d⟩:=st;exact⟨o,e,λv z=>by rw[d]at z;cases z⟩
 keep:=λi h h' st k=>st.at λo e=>k it (by simp) o e
 item:=by intro X U hw N hc i pins s σ H E I hf st R;subst U hw N;obtain⟨xs,x,G,hx⟩:=R;obtain⟨its,S,p,hz⟩:=I.tuple G;obtain⟨u,hu,ru⟩:=S.get hx;obtain⟨f0,f1,f2,J,f4,L⟩:=hf it (by simp);refine m7 st (show s.heap.IsTuple a (bm its) from p) (x:=u) (by simpa using hu) λh' C Y=>?_;have I1:Inv X pins σ H { s with heap:=h' }:=I.turned (t':=dn s) (λb o l e=>b3 (Y.2 b l) e) f0 f1 J f4 L;obtain⟨o,e,c,d⟩:=id C;exact⟨u,rfl,U7 (s:={ s with heap:=h' }) e c d (by decide) ⟨x,H,I1,ru,⟨rfl,λys Z=>by rw[I.tuple_inj Z G];exact hx⟩,C,λb l=>(hf b l).1⟩⟩
 done:=by intro X U hw N hc i pins s σ H E I hf st R;subst U hw N;obtain⟨xs,G,hx⟩:=R;obtain⟨its,S,p,hz⟩:=I.tuple G;obtain⟨f0,f1,f2,J,f4,L⟩:=hf it (by simp);have hl:=S.length;exact nJ (I.ok.hd hc) st (show s.heap.IsTuple a (bm its) from p) (by simp;lia) λh' eb=>⟨rfl,I.turned (t':=dn s) (λb o l e=>eb b o l e) f0 f1 J f4 L⟩
 self:=λ_ _ _ _ _ st h=>wpAny_pyIter_tupleiter st h
theorem zlv{P:aL}{w:aV}{K:qF}{Y:aX}(it:aq)(lo:Int)(n:Nat):Turn P w K Y (Itr lo n) [it] it (λi h=>IsRangeIter h it (lo+(i:Nat)*1) ((n:Int) - (i:Nat)) 1) where
 mem:=by simp
 obj:=λi h st b l=>by
  have e:b=it:=by simpa using l
  subst e;exact⟨_,st,λv z=>by have N:Data.fields _=Data.cell v:=z;cases N⟩
 keep:=λi h h' st k=>k it (by simp) _ st
 item:=by intro X L hw G hc i pins s σ H E I hf st J;subst L hw G;obtain⟨f0,f1,f2,x,f4,C⟩:=hf it (by simp);have W:=Walks.range (prog:=X.prog) (w:=X.w) (I.ok.hd hc) it lo 1 n;refine W.item i s _ _ J st λv h' tk Z u R=>?_;obtain⟨t,rfl⟩:=Z;have U:Inv X pins σ H { s with heap:=h',toks:=tk }:=I.turned (λb o l e=>R b o (by simpa using l) e) f0 f1 x f4 C;refine⟨_,rfl,U7 (s:={ s with heap:=h',toks:=tk }) (n:="range_iterator") u rfl rfl (by decide) ⟨.int (lo+i),H,U,⟨t,?_⟩,⟨rfl,rfl⟩,u,λb l=>(hf b l).1⟩⟩;rw[mJ]
 done:=by intro X L hw G hc i pins s σ H E I hf st J;subst L hw G;obtain⟨f0,f1,f2,x,f4,C⟩:=hf it (by simp);exact wpAny_pyNext_range_end (I.ok.hd hc) st (by have:n<=i:=J;lia) λh' S=>⟨rfl,I.turned (t':=dn s) (λb o l e=>S b o l e) f0 f1 x f4 C⟩
 self:=λ_ _ _ _ _ st h=>wpAny_pyIter_rangeiter st h
section
variable{X:Cx}{tg:aX}
def zAo(K:qF)(o:TE):TI:=λσ H R=>o σ H λx l=>∃a,x=.ref a/\(∃xs,SqL K l a xs)/\R (Itl K a) l
def iTup(K:qF)(o:TE):TI:=λσ H R=>o σ H λx l=>∃a,x=.ref a/\(∃xs,SqT K l a xs)/\R (Itt K a) l
theorem znF{l:aX}{G:TE}(S:PE X l G):PI X tg l (zAo X.K G):=by
 intro pins s σ H R I h;refine thn (S pins s σ H _ I h) λv s1 C=>?_;obtain⟨x,N,u,L,Y⟩:=C;obtain⟨a,e,⟨xs,U⟩,q⟩:=Y;subst e;cases L;obtain⟨its,Z,p,hz⟩:=u.list U;refine gZ p.isList ?_;refine⟨ap s1.heap.objs,[ap s1.heap.objs],_,_,N,rfl,u.kept (t':=dn s1) λb o e=>aj _ e,zh0 a _,⟨_,aA _ rfl,rfl,rfl⟩,λb J=>?_,q⟩;have e:b=ap s1.heap.objs:=by simpa using J
 subst e;exact u.fpOk (av _) (u.hok.fresh (av _))
theorem zvk{l:aX}{G:TE}(S:PE X l G):PI X tg l (iTup X.K G):=by
 intro pins s σ H R I h;refine thn (S pins s σ H _ I h) λv s1 C=>?_;obtain⟨x,N,u,L,Y⟩:=C;obtain⟨a,e,⟨xs,U⟩,q⟩:=Y;subst e;cases L;obtain⟨its,Z,p,hz⟩:=u.tuple U;refine iW (show s1.heap.IsTuple a (bm its) from p) ?_;refine⟨ap s1.heap.objs,[ap s1.heap.objs],_,_,N,rfl,u.kept (t':=dn s1) λb o e=>aj _ e,zgo a _,⟨_,aA _ rfl,rfl,rfl⟩,λb J=>?_,q⟩;have e:b=ap s1.heap.objs:=by simpa using J
 subst e;exact u.fpOk (av _) (u.hok.fresh (av _))
theorem zp5{pins:qO}{σ:St}{H:Hp}{s:au}{R:It->Hp->Prop}{E:qV}{lo hi:Int}{t u v:Tok}{tk:Nat}(I:Inv X pins σ H s)(U:-(2 ^ 62)<=lo)(J:lo<2 ^ 62)(L:-(2 ^ 62)<=hi)(C:hi<2 ^ 62)
  (q:R (Itr lo (mu (hi - lo))) H):wpAny (model X.prog X.w) X.A (pyIter (aZ s.heap.objs.size)) (PIE X pins σ tg R) E { s with heap:=dL s.heap { cls:=aY "range",data:=ed #[m6 lo t,m6 hi u,m6 1 v] },toks:=tk }:=by
 refine wpAny_pyIter_range (IsRange.new ..) (small_one U J L C) ?_;have x:Inv X pins σ H { s with heap:=dL s.heap { cls:=aY "range",data:=ed #[m6 lo t,m6 hi u,m6 1 v] },toks:=tk }:=I.kept λb o e=>aj _ e;refine⟨(dL s.heap { cls:=aY "range",data:=ed #[m6 lo t,m6 hi u,m6 1 v] }).objs.size,[(dL s.heap { cls:=aY "range",data:=ed #[m6 lo t,m6 hi u,m6 1 v] }).objs.size],_,_,H,rfl,
  x.kept (t':=tk) λb o e=>aj _ e,zlv _ lo (mu (hi - lo)),?_,λb G=>?_,q⟩
 have S:lo+((0:Nat):Int)*1=lo:=by simp
 have Y:((mu (hi - lo):Nat):Int) - ((0:Nat):Int)=wH lo hi 1:=by rw[rangeSize_one];split <;> lia
 show IsRangeIter _ _ (lo+((0:Nat):Int)*1) (((mu (hi - lo):Nat):Int) - ((0:Nat):Int)) 1;rw[S,Y];exact aA _ rfl;have e:b=(dL s.heap { cls:=aY "range",data:=ed #[m6 lo t,m6 hi u,m6 1 v] }).objs.size:=by simpa using G
 subst e;exact x.fpOk (av _) (x.hok.fresh (av _))
def zAn(l:TA):TI:=λσ H R=>l σ H λvs o=>∃j:Int,vs=[.int j]/\-(2 ^ 62)<=j/\j<2 ^ 62/\R (Itr 0 (mu j)) o
theorem znE{a:aX}{u:TA}{p pos:Pos}(G:Gl X "range") (J:X.mg "range" = ao) (S:PA X [a] u) (L:starEach [a] X.env=[(bA,eval a X.env)]:=by rfl):PI X tg (ee (bn "range" p) [a] [] pos) (zAn u):=by
 intro pins s σ H R I h;refine Call_ (YZ I G J boot_range (fq (thn (S pos pins s σ H _ I h) λus s1 ⟨vs,Z,U,v,o⟩=>?_) L rfl));obtain⟨j,e,o,x,q⟩:=o;subst e;cases v with
 | cons r Y =>cases Y;obtain⟨t,rfl⟩:=r;exact call_range_1 (zp5 U (by lia) (by lia) o x (by simpa using q))
def tFor(wi:TI)(g:TG)(u:TS):TS:=λD σ H=>wi σ H λJ v=>∃W:Nat->Nat->St->Hp->Prop,(∃m,W 0 m σ v)/\∀i m σ H,W i m σ H ->
 (J.stop i H/\D.nx σ H)\/(J.go i H/\∃N:St->Hp->Prop,(∀σ' H',N σ' H'->∃o,o<m/\W (i+1) o σ' H')/\∀x H',J.yld i H x H'->g x σ H' λl C=>u { D with nx:=N,ct:=N,bk:=D.nx } l C)
def ZQ(l:List aq)(h:bh):List (aq×Obj):=l.filterMap λb=>(be h b).map λo=>(b,o)
theorem zeg{l:List aq}{h:bh}{b:aq}{o:Obj}(u:b∈l)(e:be h b=ai o):(b,o)∈ZQ l h:=gE.mpr ⟨b,u,by rw[e];rfl⟩
theorem znZ{l:List aq}{h:bh}{p:aq×Obj}(u:p∈ZQ l h):p.1∈l/\be h p.1=ai p.2:=by
 obtain⟨b,x,e⟩:=gE.mp u;cases q:be h b with
 | none=>rw[q]at e;cases e
 | some o =>rw[q]at e;have v:(b,o)=p:=aG e;subst v;exact⟨x,q⟩
theorem Inv.pinned{pins:qO}{σ:St}{H:Hp}{s:au}{u:List aq}(I:Inv X pins σ H s)(hf:∀b∈u,FpOk X pins H b)(G:∀b∈u,∃o,be s.heap b=ai o/\∀v,f7 o≠.cell v):Inv X (pins++ZQ u s.heap) σ H s :=
 I.pins_of λp J=>ii (aW.mp J) (λz=>I.pin p (cK _ z)) λz=>by obtain⟨C,e⟩:=znZ z;obtain⟨f0,f1,f2,_⟩:=hf p.1 C;obtain⟨o,x,d⟩:=G p.1 C;rw[e]at x;cases x;exact⟨e,f0,f1,f2,d⟩
theorem Inv.unpinned{pins pl:qO}{σ:St}{H:Hp}{s:au}(I:Inv X (pins++pl) σ H s):Inv X pins σ H s:=I.pins_of λp l=>I.pin p (cK _ (oG _ l))
theorem zvg{iter:aX}{body:List eW}{wi:TI}{g:TG}{tb:TS}{pos:Pos}(Z:sG (model X.prog X.w) X.A X.env X.xe)(hc:X.calm=bj)(hi:PI X tg iter wi)(hg:PG X tg g)(G:PSs X body tb)
  (hs:Fsi X iter:=by intro _;rfl):PS X (.For tg iter body [] pos) (tFor wi g tb):=by
 intro pins s σ H D I h;refine wpAny_For (thn (hi pins s σ H _ I h) λv s1 h1=>thn h1 λitv s2 h2=>?_) hs;obtain⟨it,fp,tn,J,H2,e,I2,T,st2,f2,W,⟨m0,w0⟩,turn⟩:=h2;subst e;have Oz:∀{H':Hp},(∀b∈fp,H' b=ao)->∀b∈fp,FpOk X pins H' b:=λhn b G=>⟨hn b G,(f2 b G).2⟩;refine codeAny_forLoop_any (λn s'=>∃i σ' H',Inv X pins σ' H' s'/\tn i s'.heap/\(∀b∈fp,H' b=ao)/\W i n σ' H') ?_ m0 ⟨0,σ,H2,I2,st2,λb G=>(f2 b G).1,w0⟩;rintro n s3 ⟨i,L,H3,I3,st3,fr3,w3⟩;rcases turn i n L H3 w3 with⟨stop,qn⟩|⟨go,N,hN,step⟩
 ·refine fO Z (thn (T.done X rfl rfl rfl hc i pins s3 L H3 X.xe I3 (Oz fr3) st3 stop) λr s4 C=>?_);obtain⟨hr,I4⟩:=C;subst hr;exact lB ⟨L,H3,I4,qn⟩
 ·refine fO Z (thn (T.item X rfl rfl rfl hc i pins s3 L H3 X.xe I3 (Oz fr3) st3 go) λr s4 C=>?_);obtain⟨u,hr,h4⟩:=C;subst hr;refine fO Z (thn h4 λ_ s5 C=>?_);obtain⟨x,H5,I5,r5,y5,Y,fr5⟩:=C;have I5':=I5.pinned (Oz fr5) (T.obj _ _ Y);refine fO Z (thn (hg _ s5 L H5 x u _ I5' r5 (step x H5 y5)) λ_ s6 C=>?_);obtain⟨σ6,H6,I6,q6⟩:=C;refine fO Z (thn (G _ s6 σ6 H6 _ I6 q6) λf s7 U=>?_);have again:∀{l:St} {R:Hp},Inv X (pins++ZQ fp s5.heap) l R s7->N l R->∃m,m<n/\∃i σ' H',Inv X pins σ' H' s7/\tn i s7.heap/\(∀b∈fp,H' b=ao)/\W i m σ' H':=λ{l R} S n7=>by
   obtain⟨m',hm,w7⟩:=hN l R n7;refine⟨m',hm,i+1,l,R,S.unpinned,T.keep _ _ _ Y λb G o e=>(S.pin (b,o) (cK _ (cK _ (zeg G e)))).1,λb G=>?_,w7⟩;obtain⟨o,e,d⟩:=T.obj _ _ Y b G;exact(S.pin (b,o) (cK _ (cK _ (zeg G e)))).2.1
  cases f with
  | next=>obtain⟨l,R,S,n7⟩:=U;exact again S n7
  | cont=>obtain⟨l,R,S,n7⟩:=U;exact again S n7
  | brk=>obtain⟨l,R,S,U⟩:=U;exact⟨l,R,S.unpinned,U⟩
  | ret v=>obtain⟨x7,l,R,S,r7,U⟩:=U;exact⟨x7,l,R,S.unpinned,r7,U⟩
end
abbrev R2:=V->V->Hp->VK->Prop
def OpR(X:Cx)(f:ah->ah->Sem ah)(r:R2):Prop :=
 ∀(pins:qO) (s:au) (σ:St) (H:Hp) (x y:V) (v u:ah) (Q:VK),Inv X pins σ H s->RelV x v->RelV y u->r x y H Q ->
  wpAny (model X.prog X.w) X.A (f v u) (EP X pins σ Q) X.xe s
def UnR(X:Cx)(f:ah->Sem ah)(r:V->Hp->VK->Prop):Prop :=
 ∀(pins:qO) (s:au) (σ:St) (H:Hp) (x:V) (v:ah) (Q:VK),Inv X pins σ H s->RelV x v->r x H Q ->
  wpAny (model X.prog X.w) X.A (f v) (EP X pins σ Q) X.xe s
def JK(X:Cx)(f:ah)(r:List V->Hp->VK->Prop):Prop :=
 ∀(pins:qO) (s:au) (σ:St) (H:Hp) (xs:List V) (us:List ah) (Q:VK),Inv X pins σ H s->Vals xs us->r xs H Q ->
  wpAny (model X.prog X.w) X.A (call f us) (EP X pins σ Q) X.xe s
def TruR(X:Cx)(r:V->Hp->(Bool->Hp->Prop)->Prop):Prop :=
 ∀(pins:qO) (s:au) (σ:St) (H:Hp) (x:V) (v:ah) (Q:Bool->Hp->Prop),Inv X pins σ H s->RelV x v->r x H Q ->
  wpAny (model X.prog X.w) X.A (truthy v) (TP X pins σ Q) X.xe s
def tOp(r:R2)(o l:TE):TE:=λσ H Q=>o σ H λx u=>l σ u λy v=>r x y v Q
def tUn(r:V->Hp->VK->Prop)(l:TE):TE:=λσ H Q=>l σ H λx o=>r x o Q
def rI(C:Int->Int->Prop)(g:Int->Int->V):R2:=λx y H Q=>∃i j,x=.int i/\y=.int j/\C i j/\Q (g i j) H
def rI0(g:Int->Int->V):R2:=λx y H Q=>∃i j,x=.int i/\y=.int j/\Q (g i j) H
def rU(g:Int->V):V->Hp->VK->Prop:=λx H Q=>∃i,x=.int i/\Q (g i) H
section
variable{X:Cx}{a b:aX}{ta tb:TE}{pos:Pos}
theorem binT(Z:PE X a ta)(L:PE X b tb){pins:qO}{s:au}{σ:St}{H:Hp}{R:V->V->Hp->Prop}(I:Inv X pins σ H s)
  (h:ta σ H λx J=>tb σ J λy o=>R x y o) {Q:qV} {f:ah->ah->Sem ah}
  (hf:∀v u s2 x y o,Inv X pins σ o s2->RelV x v->RelV y u->R x y o->wpAny (model X.prog X.w) X.A (f v u) Q X.xe s2) :
  wpAny (model X.prog X.w) X.A (eval a X.env) (λv C=>wpAny (model X.prog X.w) X.A (eval b X.env) (λu G=>wpAny (model X.prog X.w) X.A (f v u) Q X.xe G) X.xe C) X.xe s:=by
 refine thn (Z pins s σ H _ I h) λv s1 l=>?_;obtain⟨x,J,I1,N,q1⟩:=l;refine thn (L pins s1 σ J _ I1 q1) λu s2 l=>?_;obtain⟨y,o,S,U,Y⟩:=l;exact hf v u s2 x y o S N U Y
theorem JF{op:ue}{r:R2}(G:OpR X (binaryOp op) r)(N:PE X a ta)(l:PE X b tb):PE X (je a op b pos) (tOp r ta tb):=by intro pins s σ H Q I h;exact wpAny_BinOp (binT N l I h λv u s2 x y J o C L q=>G pins s2 σ J x y v u Q o C L q)
theorem zzz{op:UnaryOp}{r:V->Hp->VK->Prop}(C:UnR X (unaryOp op) r)(l:PE X a ta):PE X (jt op a pos) (tUn r ta):=by intro pins s σ H Q I h;exact UnaryOp_ (thn (l pins s σ H _ I h) λv s1 ⟨x,u,G,o,J⟩=>C pins s1 σ u x v Q G o J)
theorem opI{f:ah->ah->Sem ah}{C:Int->Int->Prop}{g:Int->Int->Int}
  (rule:∀(i j:Int) (t u:Tok) (s:au) (Q:qV) (E:qV),C i j->Q (m6 (g i j) s.toks) { s with toks:=dn s+1 }->wpAny (model X.prog X.w) X.A (f (m6 i t) (m6 j u)) Q E s) :
  OpR X f (rI C λi j=>.int (g i j)):=by
 intro pins s σ H x y v u Q I l o h;obtain⟨i,j,rfl,rfl,hc,q⟩:=h;obtain⟨t,rfl⟩:=l;obtain⟨t',rfl⟩:=o;exact rule i j t t' s _ _ hc ⟨.int (g i j),H,I.tok _,⟨_,rfl⟩,q⟩
theorem opI0{f:ah->ah->Sem ah}{g:Int->Int->Int}
  (rule:∀(i j:Int) (t u:Tok) (s:au) (Q:qV) (E:qV),Q (m6 (g i j) s.toks) { s with toks:=dn s+1 }->wpAny (model X.prog X.w) X.A (f (m6 i t) (m6 j u)) Q E s) :
  OpR X f (rI0 λi j=>.int (g i j)):=by
 intro pins s σ H x y v u Q I l o h;obtain⟨i,j,rfl,rfl,q⟩:=h;obtain⟨t,rfl⟩:=l;obtain⟨t',rfl⟩:=o;exact rule i j t t' s _ _ ⟨.int (g i j),H,I.tok _,⟨_,rfl⟩,q⟩
theorem opB0{f:ah->ah->Sem ah}{g:Int->Int->Bool}
  (rule:∀(i j:Int) (t u:Tok) (s:au) (Q:qV) (E:qV),Q (nH (g i j)) s->wpAny (model X.prog X.w) X.A (f (m6 i t) (m6 j u)) Q E s) :
  OpR X f (rI0 λi j=>.bl (g i j)):=by
 intro pins s σ H x y v u Q I C G h;obtain⟨i,j,rfl,rfl,q⟩:=h;obtain⟨t,rfl⟩:=C;obtain⟨t',rfl⟩:=G;exact rule i j t t' s _ _ ⟨.bl (g i j),H,I,rfl,q⟩
def CPow(i j:Int):Prop:=0<=j/\j<=1000000/\i.natAbs<2 ^ 64
def CMul(i j:Int):Prop:=(-(2 ^ 64)<i/\i<2 ^ 64)\/(-(2 ^ 64)<j/\j<2 ^ 64)
theorem CMul.ok{i j:Int}(h:CMul i j):IntMulOk i j:=by rcases h with⟨v,u⟩|⟨v,u⟩;exact .of_left (intBits_le_64 v u);exact .of_right (intBits_le_64 v u)
theorem zlu(k:Nat):(0:Int)<=2 ^ k:=by rw[two_pow_cast];exact lQ _
theorem Uc:OpR X (binaryOp .Add) (rI0 λi j=>.int (i+j)):=opI0 λ_ _ _ _ _ _ _ q=>add_int q
theorem zvD:OpR X (binaryOp .Sub) (rI0 λi j=>.int (i - j)):=opI0 λ_ _ _ _ _ _ _ q=>sub_int q
theorem Q9:OpR X (binaryOp .Mult) (rI CMul λi j=>.int (i*j)):=opI λ_ _ _ _ _ _ _ hc q=>mul_int q hc.ok
theorem UN:OpR X (binaryOp .Mod) (rI (λ_ j=>0<j) λi j=>.int (i % j)):=opI λi j _ _ _ _ _ hc q=>by have l:(0:Int)<j:=hc;exact mod_int' (by lia) (by rw[Int.fmod_eq_emod_of_nonneg i (by lia)];exact q)
theorem zvG:OpR X (binaryOp .Pow) (rI CPow λi j=>.int (i ^ mu j)):=opI λ_ _ _ _ _ _ _ hc q=>pow_int_small hc.1 hc.2.1 hc.2.2 q
theorem zvF:OpR X (binaryOp .LShift) (rI CPow λi j=>.int (i*2 ^ mu j)):=opI λ_ _ _ _ _ _ _ hc q=>lshift_int_small hc.1 hc.2.1 hc.2.2 q
theorem zvE:OpR X (binaryOp .RShift) (rI (λ_ j=>0<=j) λi j=>.int (i / 2 ^ mu j)):=opI λi j _ _ _ _ _ hc q =>
 rshift_int hc (by rw[lR i (zlu _)];exact q)
theorem zvQ:OpR X (binaryOp .BitAnd) (rI0 λi j=>.int (fD i j)):=opI0 λ_ _ _ _ _ _ _ q=>and_int q
theorem zvC:OpR X (binaryOp .BitXor) (rI0 λi j=>.int (cP i j)):=opI0 λ_ _ _ _ _ _ _ q=>xor_int q
theorem unI{f:ah->Sem ah}{g:Int->Int}
  (rule:∀(i:Int) (t:Tok) (s:au) (Q:qV) (E:qV),Q (m6 (g i) s.toks) { s with toks:=dn s+1 }->wpAny (model X.prog X.w) X.A (f (m6 i t)) Q E s) :
  UnR X f (rU λi=>.int (g i)):=by
 intro pins s σ H x v Q I l h;obtain⟨i,rfl,q⟩:=h;obtain⟨t,rfl⟩:=l;exact rule i t s _ _ ⟨.int (g i),H,I.tok _,⟨_,rfl⟩,q⟩
theorem zut:UnR X (unaryOp .USub) (rU λi=>.int (-i)):=unI λ_ _ _ _ _ q=>neg_int q
end
def scal:V->V->Bool
 | .non,.non=>bj|.non,.int _=>bj|.int _,.non=>bj|.non,.bl _=>bj|.bl _,.non=>bj|.non,.str _=>bj|.str _,.non=>true
 | .int _,.int _=>bj|.bl _,.bl _=>bj|.str _,.str _=>bj|.byt _,.byt _=>true
 | .int _,.str _=>bj|.str _,.int _=>bj|.bl _,.str _=>bj|.str _,.bl _=>true
 | _,_=>false
def rEq:R2:=λx y H Q=>scal x y=bj/\Q (.bl (decide (x=y))) H
def rNe:R2:=λx y H Q=>scal x y=bj/\Q (.bl (!decide (x=y))) H
theorem zoO{i j:Int}:decide (V.int i=V.int j)=(i == j):=by rw[eD];simp
theorem zrV{i j:Bool}:decide (V.bl i=V.bl j)=(i == j):=by rw[eD];simp
theorem zoN{i j:Str}:decide (V.str i=V.str j)=(i == j):=by rw[eD];simp
theorem zoP{i j:Array UInt8}:decide (V.byt i=V.byt j)=(w9 i == w9 j):=by rw[eD];cases i;cases j;simp
section
variable{X:Cx}{a b c:aX}{ta tb tc:TE}{pos:Pos}
theorem Jx{pins:qO}{σ:St}{H:Hp}{s:au}{Q:VK}{k u:Bool}(I:Inv X pins σ H s)(q:Q (.bl k) H)(e:k=u):EP X pins σ Q (nH u) s:=by subst e;exact⟨.bl k,H,I,rfl,q⟩
theorem zzG:OpR X (compareOp .Eq) rEq:=by
 intro pins s σ H x y v u Q I C l h;obtain⟨o,q⟩:=h;cases x with
 | non =>
  cases C;cases y with
  | non=>cases l;exact uT (Jx I q (by simp))
  | bl j=>cases l;exact uU (Jx I q (by simp))
  | int j=>obtain⟨t',rfl⟩:=l;exact vD (Jx I q (by simp))
  | str j=>obtain⟨t',rfl⟩:=l;exact vE (Jx I q (by simp))
  | _=>exact absurd (show bA=bj from o) a8
 | bl i =>
  cases C;cases y with
  | non=>cases l;exact uV (Jx I q (by simp))
  | bl j=>cases l;exact eq_bool (Jx I q zrV)
  | str j=>obtain⟨t',rfl⟩:=l;exact uW (Jx I q (by simp))
  | _=>exact absurd (show bA=bj from o) a8
 | int i =>
  obtain⟨t,rfl⟩:=C;cases y with
  | non=>cases l;exact vF (Jx I q (by simp))
  | int j=>obtain⟨t',rfl⟩:=l;exact eq_int (Jx I q zoO)
  | str j=>obtain⟨t',rfl⟩:=l;exact vG (Jx I q (by simp))
  | _=>exact absurd (show bA=bj from o) a8
 | str i =>
  obtain⟨t,rfl⟩:=C;cases y with
  | non=>cases l;exact vH (Jx I q (by simp))
  | bl j=>cases l;exact uX (Jx I q (by simp))
  | int j=>obtain⟨t',rfl⟩:=l;exact vI (Jx I q (by simp))
  | str j=>obtain⟨t',rfl⟩:=l;exact eq_str (Jx I q zoN)
  | _=>exact absurd (show bA=bj from o) a8
 | byt i =>
  obtain⟨t,rfl⟩:=C;cases y with
  | byt j=>obtain⟨t',rfl⟩:=l;exact PySem.W.eq_bytes (Jx I q zoP)
  | _=>exact absurd (show bA=bj from o) a8
 | _=>cases y <;> exact absurd (show bA=bj from o) a8
theorem zzE:OpR X (compareOp .NotEq) rNe:=by
 intro pins s σ H x y v u Q I G l h;obtain⟨C,q⟩:=h;cases x with
 | non =>
  cases G;cases y with
  | non=>cases l;exact uY (Jx I q (by simp))
  | bl j=>cases l;exact uZ (Jx I q (by simp))
  | int j=>obtain⟨t',rfl⟩:=l;exact vJ (Jx I q (by simp))
  | str j=>obtain⟨t',rfl⟩:=l;exact vK (Jx I q (by simp))
  | _=>exact absurd (show bA=bj from C) a8
 | bl i =>
  cases G;cases y with
  | non=>cases l;exact u0 (Jx I q (by simp))
  | bl j=>cases l;exact ne_bool (Jx I q (congrArg not zrV))
  | str j=>obtain⟨t',rfl⟩:=l;exact u5 (Jx I q (by simp))
  | _=>exact absurd (show bA=bj from C) a8
 | int i =>
  obtain⟨t,rfl⟩:=G;cases y with
  | non=>cases l;exact vL (Jx I q (by simp))
  | int j=>obtain⟨t',rfl⟩:=l;exact ne_int (Jx I q (congrArg not zoO))
  | str j=>obtain⟨t',rfl⟩:=l;exact vM (Jx I q (by simp))
  | _=>exact absurd (show bA=bj from C) a8
 | str i =>
  obtain⟨t,rfl⟩:=G;cases y with
  | non=>cases l;exact vN (Jx I q (by simp))
  | bl j=>cases l;exact u6 (Jx I q (by simp))
  | int j=>obtain⟨t',rfl⟩:=l;exact vO (Jx I q (by simp))
  | str j=>obtain⟨t',rfl⟩:=l;exact ne_str (Jx I q (congrArg not zoN))
  | _=>exact absurd (show bA=bj from C) a8
 | byt i =>
  obtain⟨t,rfl⟩:=G;cases y with
  | byt j=>obtain⟨t',rfl⟩:=l;exact PySem.W.ne_bytes (Jx I q (congrArg not zoP))
  | _=>exact absurd (show bA=bj from C) a8
 | _=>cases y <;> exact absurd (show bA=bj from C) a8
theorem zvJ:OpR X (compareOp .Lt) (rI0 λi j=>.bl (decide (i<j))):=opB0 λ_ _ _ _ _ _ _ q=>lt_int q
theorem zzF:OpR X (compareOp .LtE) (rI0 λi j=>.bl (decide (i<=j))):=opB0 λ_ _ _ _ _ _ _ q=>le_int q
theorem QQ:OpR X (compareOp .Gt) (rI0 λi j=>.bl (decide (j<i))):=opB0 λ_ _ _ _ _ _ _ q=>gt_int q
theorem zsY:OpR X (compareOp .GtE) (rI0 λi j=>.bl (decide (j<=i))):=opB0 λ_ _ _ _ _ _ _ q=>ge_int q
theorem znN:OpR X (compareOp .Lt) (λx y H Q=>∃i j,x=.str i/\y=.str j/\Q (.bl (decide (w9 i.cps<w9 j.cps))) H):=by intro pins s σ H x y v u Q I o C h;obtain⟨i,j,rfl,rfl,q⟩:=h;obtain⟨t,rfl⟩:=o;obtain⟨t',rfl⟩:=C;exact lt_str (Jx I q rfl)
theorem zvL:OpR X (compareOp .Is) (λx y H Q=>y=.non/\Q (.bl (decide (x=.non))) H):=by
 intro pins s σ H x y v u Q I C G h;obtain⟨rfl,q⟩:=h;cases G;refine is_none_gen (Jx I q ?_);cases x <;> first
  | (cases C;rfl)
  | (obtain⟨t,rfl⟩:=C;rfl)
theorem zsV:OpR X (compareOp .IsNot) (λx y H Q=>y=.non/\Q (.bl (!decide (x=.non))) H):=by
 intro pins s σ H x y v u Q I C G h;obtain⟨rfl,q⟩:=h;cases G;refine isnot_none_gen (Jx I q ?_);cases x <;> first
  | (cases C;rfl)
  | (obtain⟨t,rfl⟩:=C;rfl)
theorem OpR.or{f:ah->ah->Sem ah}{r o:R2}(h:OpR X f r)(h':OpR X f o):OpR X f (λx y H Q=>r x y H Q\/o x y H Q):=by intro pins s σ H x y v u Q I l C q;rcases q with q|q;exact h pins s σ H x y v u Q I l C q;exact h' pins s σ H x y v u Q I l C q
theorem Jf(b:aX){op:wI}(h:op≠.In:=by decide)(v:op≠.NotIn:=by decide):behindInMarks op b=bA:=by
 have l:(op == CmpOp.In)=bA:=by cases op <;> first|rfl|exact absurd rfl h
 have u:(op == CmpOp.NotIn)=bA:=by cases op <;> first|rfl|exact absurd rfl v
 cases b <;> simp[behindInMarks,l,u]
theorem znH{op:wI}{r:R2}(L:OpR X (compareOp op) r)(U:PE X a ta)(l:PE X b tb)(R:behindInMarks op b=bA):PE X (jc a [op] [b] pos) (tOp r ta tb):=by intro pins s σ H Q I h;exact wpAny_Compare1 (binT U l I h λv u s2 x y N G J S q=>L pins s2 σ N x y v u Q G J S q) R
def zuz(t:TE):TT:=λσ H Q=>t σ H λx H'=>∃k,x=.bl k/\Q k H'
theorem zjH{op:wI}{r:R2}(ho:OpR X (compareOp op) r)(ha:PE X a ta)(G:PE X b tb)(hm:behindInMarks op b=bA):PT X (jc a [op] [b] pos) (zuz (tOp r ta tb)):=by
 intro pins s σ H Q I h;refine wpAny_isTrue_Compare1 (thn (ha pins s σ H _ I h) λv s1 ⟨x,L,I1,J,q1⟩=>thn (G pins s1 σ L _ I1 q1) λu s2 ⟨y,H2,R,Y,Z⟩ =>
  thn (ho pins s2 σ H2 x y v u _ R J Y Z) λc s3 ⟨z,U,N,l,k,e,S⟩=>?_) hm
 subst e;cases l;exact cw ⟨U,N,S⟩
def zrj(r I:R2)(ta tb tc:TE):TE:=λσ H Q=>ta σ H λx C=>tb σ C λy G=>r x y G λz o=>∃k,z=.bl k /\
 (if k=bj then tc σ o λv u=>I y v u Q else Q (.bl bA) o)
theorem zqf{op G:wI}{r U:R2}(ho:OpR X (compareOp op) r)(J:OpR X (compareOp G) U)(ha:PE X a ta)(Z:PE X b tb)(hc:PE X c tc)
  (hm:lastMarks [op,G] [b,c]=bA:=by with_unfolding_all rfl):PE X (jc a [op,G] [b,c] pos) (zrj r U ta tb tc):=by
 intro pins s σ H Q I h;refine Compare_chain (thn (ha pins s σ H _ I h) λv s1 ⟨x,H1,I1,r1,q1⟩=>chain_link (thn (Z pins s1 σ H1 _ I1 q1) λu s2 ⟨y,H2,I2,S,q2⟩ =>
  thn (ho pins s2 σ H2 x y v u _ I2 r1 S q2) λd s3 ⟨z,R,L,Y,k,e,N⟩=>?_)) hm
 subst e;cases Y;refine cw ?_;cases k with
 | false=>exact ite_ff ⟨.bl bA,R,L,rfl,N⟩
 | true=>exact ite_tt (chain_last (thn (hc pins s3 σ R _ L N) λw' s4 ⟨z',H4,I4,r4,q4⟩=>J pins s4 σ H4 y z' u w' Q I4 S r4 q4))
theorem zp8{op l:wI}{r U:R2}(ho:OpR X (compareOp op) r)(G:OpR X (compareOp l) U)(ha:PE X a ta)(hb:PE X b tb)(hc:PE X c tc)
  (hm:lastMarks [op,l] [b,c]=bA:=by with_unfolding_all rfl):PT X (jc a [op,l] [b,c] pos) (zuz (zrj r U ta tb tc)):=by
 intro pins s σ H Q I h;refine isTrue_chain (thn (ha pins s σ H _ I h) λv s1 ⟨x,H1,I1,r1,q1⟩=>test_link (thn (hb pins s1 σ H1 _ I1 q1) λu s2 ⟨y,H2,I2,S,q2⟩ =>
  thn (ho pins s2 σ H2 x y v u _ I2 r1 S q2) λd s3 ⟨z,R,L,Y,k,e,N⟩=>?_)) hm
 subst e;cases Y;refine cw ?_;cases k with
 | false =>obtain⟨k',Z,q'⟩:=N;cases Z;exact ite_ff ⟨R,L,q'⟩
 | true =>refine ite_tt (test_last (thn (hc pins s3 σ R _ L N) λw' s4 ⟨z',H4,I4,r4,q4⟩=>thn (G pins s4 σ H4 y z' u w' _ I4 S r4 q4) λd' s5 J=>?_));obtain⟨z2,H5,I5,r5,k2,e2,q5⟩:=J;subst e2;cases r5;exact cw ⟨H5,I5,q5⟩
def TruV(K:qF)(x:V)(H:Hp)(k:Bool):Prop :=
 match x with
 | .non=>k=false
 | .bl b=>k=b
 | .int i=>k=(i != 0)
 | .str y=>kN y<=sizeLine/\k=((kN y:Int) != 0)
 | .byt y=>ap y<=sizeLine/\k=((ap y:Int) != 0)
 | .ref p=>(∃xs,SqL K H p xs/\k=!(dy xs))\/(∃xs,SqT K H p xs/\k=!(dy xs))\/∃u,H p=ai (.dK u)/\k=!(dy u)
 | _=>False
theorem zml{o:Type}{l:List (o×V)}{vs:List (o×ah)}(r:KV l vs):(!(dy vs))=!(dy l):=by cases r <;> rfl
theorem zgW{xs:List V}{its:List ah}(r:Vals xs its):(!its.toArray.isEmpty)=!(dy xs):=by cases r <;> simp
theorem UQ:(sizeLine:Nat)<2 ^ 63:=by rw[mK];decide
theorem zuv:TruR X (λx H Q=>∃k,TruV X.K x H k/\Q k H):=by
 intro pins s σ H x v Q I G h;obtain⟨k,e,q⟩:=h;have N:=UQ;have R:sizeLine=16777216:=mK;cases x with
 | non =>cases G;have o:k=bA:=e;subst o;exact truthy_none ⟨H,I,q⟩
 | bl b =>cases G;have o:k=b:=e;subst o;exact cw ⟨H,I,q⟩
 | int i =>obtain⟨t,rfl⟩:=G;have o:k=(i != 0):=e;subst o;exact PySem.P.truthy_int ⟨H,I,q⟩
 | str y =>obtain⟨t,rfl⟩:=G;obtain⟨J,o⟩:kN y<=sizeLine/\k=((kN y:Int) != 0):=e;subst o;exact PySem.P.truthy_str (by lia) ⟨H,I.tok _,q⟩
 | byt y =>obtain⟨t,rfl⟩:=G;obtain⟨J,o⟩:ap y<=sizeLine/\k=((ap y:Int) != 0):=e;subst o;exact PySem.W.truthy_bytes (by lia) ⟨H,I.tok _,q⟩
 | ref p =>cases G;have o:(∃xs,SqL X.K H p xs/\k=!(dy xs))\/(∃xs,SqT X.K H p xs/\k=!(dy xs))\/∃u,H p=ai (.dK u)/\k=!(dy u):=e;rcases o with⟨xs,hx,o⟩|⟨xs,hx,o⟩|⟨u,hx,o⟩;subst o;obtain⟨its,r,pl,hz⟩:=I.list hx;have C:=r.length;exact wpAny_truthy_list pl.isList (by simp only[aD];lia) ⟨H,I.tok _,by rw[zgW r];exact q⟩;subst o;obtain⟨its,r,pl,hz⟩:=I.tuple hx;have C:=r.length;exact truthy_tuple pl (by simp only[aD];lia) ⟨H,I.tok _,by rw[zgW r];exact q⟩;subst o;obtain⟨hz,L,vs,r,m⟩:dP u<=sizeLine/\(p == sysModules)=bA/\∃vs,KV u vs/\s.heap.DictOf (JA X.prog X.w) p vs:=I.hok p _ hx;have C:dP u=dP vs:=cV r;exact wpAny_truthy_dict L m (by lia) ⟨H,I.tok _,by rw[zml r];exact q⟩
 | _=>exact(show False from e).elim
theorem zp7(u:PE X a ta)(he:∀whole,isTrue a X.env whole=(do let v <- whole;standAt a.pos;holding [v] (truthy v))) :
  PT X a (λσ H Q=>ta σ H λx H'=>∃k,TruV X.K x H' k/\Q k H'):=by
 intro pins s σ H Q I h;exact isTrue_plain (thn (u pins s σ H _ I h) λv s1 ⟨x,o,C,l,G⟩=>zuv pins s1 σ o x v Q C l G) (he _)
theorem zlI:OpR X (binaryOp .Add) (λx y H Q=>∃i j,x=.str i/\y=.str j/\kN i+kN j<=sizeLine/\Q (.str (i++j)) H):=by intro pins s σ H x y v u Q I l o h;obtain⟨i,j,rfl,rfl,hz,q⟩:=h;obtain⟨t,rfl⟩:=l;obtain⟨t',rfl⟩:=o;exact add_str (λt' tk=>⟨.str (i++j),H,I.tok _,⟨_,rfl⟩,q⟩) hz
theorem vals1{x:V}{us:List ah}(r:Vals [x] us):∃u,us=[u]/\RelV x u:=by
 cases r with
 | cons l o=>cases o;exact⟨_,rfl,l⟩
theorem vals2{x y:V}{us:List ah}(r:Vals [x,y] us):∃u l,us=[u,l]/\RelV x u/\RelV y l:=by
 cases r with
 | cons v G =>
  cases G with
  | cons o C=>cases C;exact⟨_,_,rfl,v,o⟩
theorem zq4:JK X (b4 "abs") (λxs H Q=>∃i,xs=[.int i]/\Q (.int (if i<0 then -i else i)) H):=by intro pins s σ H xs us Q I r h;obtain⟨i,rfl,q⟩:=h;obtain⟨u,rfl,t,rfl⟩:=vals1 r;exact call_abs_int λu tk=>⟨.int (if i<0 then -i else i),H,I.tok _,⟨_,rfl⟩,q⟩
theorem zf0(hc:X.calm=bj):JK X (b4 "max") (λxs H Q=>∃i j,xs=[.int i,.int j]/\Q (.int (if j > i then j else i)) H):=by intro pins s σ H xs us Q I r h;obtain⟨i,j,rfl,q⟩:=h;obtain⟨u,o,rfl,⟨t,rfl⟩,⟨t',rfl⟩⟩:=vals2 r;refine max_two_ints (I.ok.hd hc) λh' tk k=>⟨_,H,I.kept k,?_,q⟩;by_cases hj:j > i;rw[if_pos hj,if_pos hj];exact⟨_,rfl⟩;rw[if_neg hj,if_neg hj];exact⟨_,rfl⟩
theorem VM(hc:X.calm=bj):JK X (b4 "min") (λxs H Q=>∃i j,xs=[.int i,.int j]/\Q (.int (if j<i then j else i)) H):=by intro pins s σ H xs us Q I r h;obtain⟨i,j,rfl,q⟩:=h;obtain⟨u,o,rfl,⟨t,rfl⟩,⟨t',rfl⟩⟩:=vals2 r;refine min_two_ints (I.ok.hd hc) λh' tk k=>⟨_,H,I.kept k,?_,q⟩;by_cases hj:j<i;rw[if_pos hj,if_pos hj];exact⟨_,rfl⟩;rw[if_neg hj,if_neg hj];exact⟨_,rfl⟩
theorem zf1:JK X (aY "int") (λxs H Q=>(∃i,xs=[.int i]/\Q (.int i) H)\/∃k,xs=[.bl k]/\Q (.int (if k then 1 else 0)) H):=by intro pins s σ H xs us Q I r h;rcases h with⟨i,rfl,q⟩|⟨k,rfl,q⟩;obtain⟨u,rfl,t,rfl⟩:=vals1 r;exact call_int_int ⟨.int i,H,I,⟨_,rfl⟩,q⟩;obtain⟨u,rfl,o⟩:=vals1 r;cases o;exact call_int_bool ⟨.int (if k then 1 else 0),H,I.tok _,⟨_,rfl⟩,q⟩
def LenV(K:qF)(x:V)(H:Hp)(n:Nat):Prop :=
 match x with
 | .str y=>kN y<=sizeLine/\n=kN y
 | .byt y=>ap y<=sizeLine/\n=ap y
 | .ref p=>(∃xs,SqL K H p xs/\n=dP xs)\/∃xs,SqT K H p xs/\n=dP xs
 | _=>False
theorem Qi:JK X (b4 "len") (λxs H Q=>∃x n,xs=[x]/\LenV X.K x H n/\Q (.int n) H):=by
 intro pins s σ H xs us Q I r h;obtain⟨x,n,rfl,e,q⟩:=h;obtain⟨u,rfl,C⟩:=vals1 r;have L:=UQ;have N:sizeLine=16777216:=mK;cases x with
 | str y =>obtain⟨t,rfl⟩:=C;obtain⟨J,v⟩:kN y<=sizeLine/\n=kN y:=e;subst v;exact len_str (by lia) ⟨.int _,H,I.tok _,⟨_,rfl⟩,q⟩
 | byt y =>obtain⟨t,rfl⟩:=C;obtain⟨J,v⟩:ap y<=sizeLine/\n=ap y:=e;subst v;exact PySem.W.len_bytes (by lia) ⟨.int _,H,I.tok _,⟨_,rfl⟩,q⟩
 | ref p =>cases C;have v:(∃xs,SqL X.K H p xs/\n=dP xs)\/∃xs,SqT X.K H p xs/\n=dP xs:=e;rcases v with⟨xs,hx,v⟩|⟨xs,hx,v⟩;subst v;obtain⟨its,G,pl,hz⟩:=I.list hx;have o:=G.length;exact pH pl.isList (by simp only[aD];lia) ⟨.int (dP xs),H,I.tok _,⟨_,by simp only[aD];rw[o]⟩,q⟩;subst v;obtain⟨its,G,pl,hz⟩:=I.tuple hx;have o:=G.length;exact len_tuple pl (by simp only[aD];lia) ⟨.int (dP xs),H,I.tok _,⟨_,by simp only[aD];rw[o]⟩,q⟩
 | _=>exact(show False from e).elim
end
structure ObjM(h:bh)(x dx C:aq)(mA:qM):Prop where
 obj:be h x=ai (nY C dx)
 ns:h.Ns1 dx mA
 ne:dx≠x
theorem zn9{h:bh}{v:aq}{u:qM}(n:h.Ns1 v u):∃x,be h v=ai x/\∀name,oI name x=ai (u name):=by
 obtain⟨o,es,ep,I,hd,L,_,J⟩:=n;refine⟨o,I,λname=>?_⟩;have e:=J name;unfold nsFind findBy at e;rw[<- Array.find?_toList]at e;unfold oI;rw[hd];dsimp only;split;rename_i y q;rw[q]at e;exact congrArg ai e;rename_i q;rw[q]at e;have a:es.toList.any (·.refKey)=bA:=by rw[i9];intro y G;obtain⟨z,t,l⟩:=L y (Array.mem_toList_iff.mp G);simp[DictEntry.refKey,l]
 have C:¬es.toList.any (·.refKey)=bj:=by rw[a];exact a8
 rw[if_neg C];exact congrArg ai e
theorem ObjM.look{h:bh}{x o C:aq}{u:qM}(I:ObjM h x o C u):∃l,PySem.W.InstAt h x (nY C o) C (ai l)/\∀name,oI name l=ai (u name) :=
 let ⟨l,ho,hl⟩:=zn9 I.ns
 ⟨l,⟨I.obj,rfl,rfl,ho⟩,hl⟩
section
variable{P:aL}{w:aV}{H:Hp}{h:bh}{a C dx:aq}{fs:List (Str×V)}
theorem ztr(hok:HOk P w H h)(e:H a=ai (.ins C dx fs)):∃l,ObjM h a dx C l/\(∀f,RelO (fs.lookup f) (l f))/\w6 l (fs.map (·.1))/\dP fs<=1000/\H dx=ai (.own a):=by obtain⟨d,z,ne,u,l,n,r,q⟩:=(show JE P w H h a (.ins C dx fs) from hok a _ e);exact⟨l,⟨u,n,ne⟩,r,q,z,d⟩
end
structure Cls(K:qF)(C:aq):Prop where
 pg:sH K C gW=true
 hd:PySem.W.hasDictIn K C=true
 po:PySem.W.plainOver K C=true
 sa:uh K (aZ C) "__setattr__" = ai (ai (b4 "object.__setattr__"))
theorem Cls.get{K:qF}{C:aq}(c:Cls K C)(f:Str):sH K C f=bj:=c.pg
section
variable{X:Cx}{pins:qO}{σ:St}{H:Hp}{s:au}{A:bq}{E:qV}{Q:qV}{c:ah}{b:Bool}
inductive TyOf (K:qF)(H:Hp):V->ah->Prop where
 | non:TyOf K H .non (aY "NoneType")
 | bl (x:Bool):TyOf K H (.bl x) (aY "bool")
 | int (i:Int):TyOf K H (.int i) (aY "int")
 | str (x:Str):TyOf K H (.str x) (aY "str")
 | flt (x:UInt64):TyOf K H (.flt x) (aY "float")
 | lst {a:aq} {xs:List V} (e:H a=ai (.lst xs)):TyOf K H (.ref a) (aY "list")
 | frz {a:aq} {o:Obj} {xs:List V} (e:H a=ai (.frz o (.lst xs))):TyOf K H (.ref a) (aY "list")
 | tup {a:aq} {xs:List V} (e:H a=ai (.tup xs)):TyOf K H (.ref a) (aY "tuple")
 | dK {a:aq} {kvs:List (Key×V)} (e:H a=ai (.dK kvs)):TyOf K H (.ref a) (aY "dict")
 | dT {a:aq} {kvs:List (List Key×V)} (e:H a=ai (.dT kvs)):TyOf K H (.ref a) (aY "dict")
 | ins {a C dx:aq} {fs:List (Str×V)} (e:H a=ai (.ins C dx fs)) (cl:Cls K C) (ha:uh K (aZ C) "__class__" = ai (ai (b4 "object.__class__")))
   (hn:PySem.W.specialIn K (b4 "object.__class__") "__get__" = ai (ai (b4 "getset_descriptor.__get__"))) (htk:PySem.W.takesIn K (b4 "object.__class__")=ai bj)
   (hm:PySem.W.mroIn K C (aY "object")=ai bj):TyOf K H (.ref a) (aZ C)
theorem zoo{x:V}{u t:ah}(I:Inv X pins σ H s)(v:RelV x u)(ty:TyOf X.K H x t)(e:ui X.K t c=ai b)(h:∀tk,Q (nH b) { s with toks:=tk }) :
  wpAny (model X.prog X.w) A (call (b4 "isinstance") [u,c]) Q E s:=by
 cases ty with
 | non=>cases(show u=dM from v);exact bW PySem.W.kitx_none I.kIn iX e (λz=>nomatch z) h
 | bl y=>cases(show u=nH y from v);exact bW PySem.W.kitx_bool I.kIn iX e (λz=>nomatch z) h
 | int i=>obtain⟨t,q⟩:=(show ∃t,u=m6 i t from v);cases q;exact bW PySem.W.kitx_int I.kIn iX e (λz=>nomatch z) h
 | str y=>obtain⟨t,q⟩:=(show ∃t,u=ph y t from v);cases q;exact bW PySem.W.kitx_str I.kIn iX e (λz=>nomatch z) h
 | flt y=>obtain⟨t,q⟩:=(show ∃t,u=yC y t from v);cases q;exact bW PySem.W.kitx_float I.kIn iX e (λz=>nomatch z) h
 | @lst a xs ea =>cases(show u=aZ a from v);obtain⟨_,_,n,_,G⟩:=(show JE X.prog X.w H s.heap a (.lst xs) from I.hok a _ ea);exact bW rE I.kIn ⟨_,G,rfl⟩ e (λz=>nomatch z) h
 | @frz a ob xs ea =>cases(show u=aZ a from v);obtain⟨_,_,_,n,_,G⟩:=(show JE X.prog X.w H s.heap a (.frz ob (.lst xs)) from I.hok a _ ea);exact bW rE I.kIn ⟨_,G,rfl⟩ e (λz=>nomatch z) h
 | @tup a xs ea =>cases(show u=aZ a from v);obtain⟨_,_,_,p⟩:=(show JE X.prog X.w H s.heap a (.tup xs) from I.hok a _ ea);obtain⟨o,G,L,_⟩:=p;exact bW pY I.kIn ⟨o,G,L⟩ e (λz=>nomatch z) h
 | @dK a kvs ea =>cases(show u=aZ a from v);obtain⟨_,_,vs,_,p⟩:=(show JE X.prog X.w H s.heap a (.dK kvs) from I.hok a _ ea);obtain⟨o,es,ep,G,L,_⟩:=p;exact bW fQ I.kIn ⟨o,G,L.1⟩ e (λz=>nomatch z) h
 | @dT a kvs ea =>cases(show u=aZ a from v);obtain⟨_,_,xs,_,o,es,ep,G,L,_⟩:=(show JE X.prog X.w H s.heap a (.dT kvs) from I.hok a _ ea);exact bW fQ I.kIn ⟨o,G,L.1⟩ e (λz=>nomatch z) h
 | @ins a C dx fs ea cl ha hn htk hm =>cases(show u=aZ a from v);obtain⟨N,O,_⟩:=ztr I.hok ea;obtain⟨R,J,_⟩:=O.look;exact bW (PySem.W.kitx_own (cl.get _) cl.hd ha hn htk hm) I.kIn J e (λz=>nomatch z) h
end
structure Room(k:Nat)(A:bq):Prop where
 hd:A.handled=ao
 dp:A.depth+3*k+5<recursionLimit
 un:A.units+16*k+200<cLine
 gd:A.guards=ai []
theorem Room.mono{j k:Nat}{A:bq}(r:Room k A)(h:j<=k):Room j A:=⟨r.hd,by have:=r.dp;lia,by have:=r.un;lia,r.gd⟩
theorem Room.deeper{k:Nat}{A:bq}(r:Room (k+1) A)(env:Env):Room k (A.deeper env) :=
 ⟨r.hd,by have:=r.dp;show A.depth+1+3*k+5<_;lia,by have:=r.un;show A.units+3+16*k+200<_;lia,r.gd⟩
theorem Room.depth{k:Nat}{A:bq}(r:Room k A):A.depth<recursionLimit:=by have:=r.dp;lia
theorem Room.units{k:Nat}{A:bq}(r:Room k A):A.units+64<cLine:=by have:=r.un;lia
theorem Room.units0{k:Nat}{A:bq}(r:Room k A):A.units<cLine:=by have:=r.un;lia
def tNil:TA:=λ_ H Q=>Q [] H
def QR(l:TE)(v:TA):TA:=λσ H Q=>l σ H λx o=>v σ o λxs u=>Q (x::xs) u
section
variable{X:Cx}{e:aX}{es:List aX}{te:TE}{t:TA}{pos:Pos}
theorem QI:PA X [] tNil:=λ_ _ _ _ H Q I h=>Calls.spliced_nil ⟨[],H,I,ja,h⟩
theorem Qu(U:PE X e te)(N:PA X es t)(S:starEach (e::es) X.env=(bA,eval e X.env)::starEach es X.env:=by rfl):PA X (e::es) (QR te t):=by intro pos pins s σ H Q I h;rw[S];show wpAny _ _ (spliced ((bA,eval e X.env)::backTo pos (starEach es X.env))) _ _ s;refine Calls.spliced_cons (thn (U pins s σ H _ I h) λu s1 l=>?_);obtain⟨x,C,Y,v,Z⟩:=l;exact thn (N pos pins s1 σ C _ Y Z) λus s2 ⟨xs,R,G,J,L⟩=>⟨x::xs,R,G,f6 v J,L⟩
def tTup(t:TA):TE:=λσ H Q=>t σ H λxs l=>dP xs<=sizeLine/\∀p,l p=ao->Q (.ref p) (upd l p (.tup xs))
def tLst(t:TA):TE:=λσ H Q=>t σ H λxs o=>dP xs<=sizeLine/\∀p,o p=ao->Q (.ref p) (upd o p (.lst xs))
theorem zvp{x1}(h:PA X es t):PE X (jb es x1 pos) (tTup t):=by intro pins s σ H Q I x;refine wpAny_Tuple_spliced (thn (h pos pins s σ H _ I x) λus s1 ⟨xs,o,v,r,z,q⟩=>⟨by rw[<- r.length];exact z,?_⟩);have hf:o s1.heap.objs.size=ao:=v.hok.fresh (av _);refine⟨.ref s1.heap.objs.size,upd o s1.heap.objs.size (.tup xs),v.laid (t':=dn s1) (λb u e=>aj _ e) (av _) ?_,rfl,q _ hf⟩;exact⟨z,us,r,⟨_,aA _ rfl,rfl,⟨_,rfl⟩,rfl⟩⟩
theorem zvu(h:PA X es t):PE X (.List es pos) (tLst t):=by intro pins s σ H Q I x;refine wpAny_List_spliced (thn (h pos pins s σ H _ I x) λus s1 ⟨xs,o,v,r,z,q⟩=>⟨by rw[<- r.length];exact z,?_⟩);have hf:o s1.heap.objs.size=ao:=v.hok.fresh (av _);refine⟨.ref s1.heap.objs.size,upd o s1.heap.objs.size (.lst xs),v.laid (t':=dn s1) (λb u e=>aj _ e) (av _) ?_,rfl,q _ hf⟩;exact⟨z,us,0,r,aA _ rfl⟩
end
abbrev Sp:=List V->Hp->VK->XK->Prop
abbrev CXT:=List Env->Hp->au->XK->ah->au->Prop
structure Env0(P:aL)(w:aV)(K:qF)(mg:qM)(base:bh)(A:bq)(outer:List Env)(s:au)(H:Hp):Prop where
 frames:A.frames=ai outer
 mod:Mod K mg base
 bs:∀b o,be base b=ai o->be s.heap b=ai o/\H b=ao
 bsz:ap base.objs<=ap s.heap.objs
 funs:s.heap.FunFrames base outer
 frf:∀b∈frs outer,H b=ao
 hok:HOk P w H s.heap
 bare:lG s.gens
def CE(outer:List Env)(P:aL)(w:aV)(H:Hp)(s:au)(Q:VK)(u:ah)(s':au):Prop :=
 ∃v H',s'.os=s.os/\lG s'.gens/\Un (frs outer) [] H H' s.heap s'.heap/\HOk P w H' s'.heap/\RelV v u/\Q v H'
def CR(l:CXT)(outer:List Env)(P:aL)(w:aV)(H:Hp)(s:au)(Q:VK)(E:XK)(r:sI)(s':au):Prop :=
 match r with
 | .ok (Ag u)=>CE outer P w H s Q u s'
 | .ok _=>False
 | .error e=>l outer H s E e s'
structure FnOk(P:aL)(w:aV)(K:qF)(mg:qM)(base:bh)(CX:CXT)(k:Nat)(f:aq)(fd:dO)(ps:List Str)(sp:Sp):Prop where
 len:∀vs H Q E,sp vs H Q E->dP vs=dP ps
 run:∀(A:bq) (outer:List Env) (s:au) (H:Hp) (args:Args) (us:List ah) (vs:List V) (Q:VK) (E:XK),Room k A->Env0 P w K mg base A outer s H->t8 s fd args (ps.zip us)->Vals vs us->sp vs H Q E ->
  codeAny (model P w) A (.call (aZ f) args) (CR CX outer P w H s Q E) s
theorem FnOk.imp{P:aL}{w:aV}{K:qF}{mg:qM}{base:bh}{u:CXT}{k:Nat}{f:aq}{fd:dO}{ps:List Str}{o l:Sp}(F:FnOk P w K mg base u k f fd ps o)
  (h:∀vs H Q E,l vs H Q E->o vs H Q E):FnOk P w K mg base u k f fd ps l :=
 ⟨λvs H Q E q=>F.len vs H Q E (h _ _ _ _ q),λA outer s H args us vs Q E x he v G C=>F.run A outer s H args us vs Q E x he v G (h _ _ _ _ C)⟩
section
variable{X:Cx}{pins:qO}{σ:St}{H:Hp}{s s':au}
theorem Inv.env0(I:Inv X pins σ H s):Env0 X.prog X.w X.K X.mg X.base X.A X.stack s H :=
 ⟨I.ok.frames,I.ok.mod,I.bs,bu I.ok.bsz I.sz,I.stack,I.stkFree,I.hok,I.bare⟩
theorem Inv.after{Q:VK}{u:ah}(I:Inv X pins σ H s)(h:CE X.stack X.prog X.w H s Q u s'):EP X pins σ Q u s':=by obtain⟨v,H',os,bare,un,hok,r,q⟩:=h;obtain⟨o,g,d,t,l⟩:=s';obtain rfl:l=s.os:=os;exact⟨v,H',I.call (h':=o) (g':=g) (d':=d) (t':=t) (ch:=[]) un hok bare (λb z=>absurd z (by simp)),r,q⟩
end
def zuC(u:Sp)(l:List V)(E:XK)(t:TA):TE:=λσ H Q=>t σ H λvs o=>u (vs++l) o Q E
def Binds(K:qF)(fd:dO)(ps:List Str)(ds:List ah):Prop :=
 ∀(s:au) (us:List ah),K.In s.heap->dP (us++ds)=dP ps->t8 s fd ⟨us,[]⟩ (ps.zip (us++ds))
theorem Binds.all{K:qF}{fd:dO}{ps:List Str}(h:∀us:List ah,dP us=dP ps->bindArgs fd ⟨us,[]⟩=pure (ps.zip us)):Binds K fd ps []:=λs us _ l=>by rw[b8]at l ⊢;exact .of_eq (h us l)
def zpv(l:CXT)(X:Cx)(E:XK):Prop:=∀(pins:qO) (σ:St) (H:Hp) (s:au) (e:ah) (s':au),Inv X pins σ H s->l X.stack H s E e s'->X.xe e s'
section
variable{X:Cx}{CX:CXT}{k:Nat}{f:aq}{fd:dO}{ps:List Str}{sp:Sp}{dvs:List V}{ds:List ah}{E:XK}{x:Str}{p pos:Pos}{e:aX}{es:List aX}{t:TA}
theorem zu3{pins:qO}{σ:St}{H:Hp}{s:au}{Q:VK}{us:List ah}{vs:List V}(F:FnOk X.prog X.w X.K X.mg X.base CX k f fd ps sp)(N:Room k X.A)(J:Binds X.K fd ps ds)(hd:Vals dvs ds)(hx:zpv CX X E)
  (I:Inv X pins σ H s) (r:Vals vs us) (h:sp (vs++dvs) H Q E):wpAny (model X.prog X.w) X.A (call (aZ f) us) (EP X pins σ Q) X.xe s:=by
 have G:Vals (vs++dvs) (us++ds):=r.append hd;have L:dP (us++ds)=dP ps:=by rw[<- G.length];exact F.len _ _ _ _ h
 refine wpAny_call (ka (F.run X.A X.stack s H ⟨us,[]⟩ (us++ds) (vs++dvs) Q E N I.env0 (J s us I.kIn L) G h) λr s' v=>?_);cases r with
 | error e=>exact hx pins σ H s e s' I v
 | ok fl =>
  cases fl with
  | ret u=>exact I.after v
  | next=>exact eJ v
  | brk=>exact eJ v
  | cont=>exact eJ v
theorem zsP(F:FnOk X.prog X.w X.K X.mg X.base CX k f fd ps sp)(L:Room k X.A)(R:Gl X x)(S:X.mg x=ai (aZ f))(Y:kb X.K (aZ f)=bj)(J:Binds X.K fd ps ds)(hd:Vals dvs ds)(hx:zpv CX X E)
  (U:PA X (e::es) t) (u:Ndb x:=by decide) (he:starEach (e::es) X.env=(bA,eval e X.env)::starEach es X.env:=by rfl) (v:(backTo pos (starEach es X.env)).any (·.1)=bA:=by rfl) :
  PE X (ee (bn x p) (e::es) [] pos) (zuC sp dvs E t):=by
 intro pins s σ H Q I h;refine lT (zth I R S ?_ u);refine PySem.W.callWith_K (h₀:=X.base) I.ok.mod.kin Y (thn (U pos pins s σ H _ I h) λus s1 ⟨vs,Z,G,r,q⟩=>⟨G.kIn,?_⟩) he v;exact zu3 F L J hd hx G r q
end
structure Uy(N P:List Str)(sc:fv):Prop where
 kind:sc.kind=ir
 co:sc.isCoroutine=false
 gen:sc.isGenerator=false
 nd:N.Nodup
 pre:N.take (dP P)=P
 par:∀x∈P,sc.names.lookup x=ai .local\/sc.names.lookup x=ai kY
 nofree:∀y∈ce sc,y.2≠cB
theorem zjr{kindOf:Str->Option eU}{x:Str}:∀{binds:List (Str×ah)}{m:qM},(∀v,(x,v)∉binds)->bindL kindOf binds m x=m x
 | [],_,_=>rfl
 | (n,v)::r,m,h=>by
  unfold bindL;rw[zjr λw hw=>h w (cO _ hw)];split;have:x≠n:=by rintro rfl;exact h v eI
  simp[this];rfl
theorem zjt{kindOf:Str->Option eU}{x:Str}:∀{binds:List (Str×ah)}{m:qM},(∀v,(x,v)∉binds)->bindC kindOf binds m x=m x
 | [],_,_=>rfl
 | (n,v)::r,m,h=>by
  unfold bindC;rw[zjt λw hw=>h w (cO _ hw)];split;rfl;have:x≠n:=by rintro rfl;exact h v eI
  simp[this]
theorem zjs{kindOf:Str->Option eU}{x:Str}{v:ah}:∀{P:List Str}{vs:List ah}{i:Nat}{m:qM},P.Nodup->P[i]?=ai x->vs[i]?=ai v->kindOf x=ai .local ->
  bindL kindOf (P.zip vs) m x=ai v
 | [],_,_,_,_,h,_,_=>by simp at h
 | _::_,[],_,_,_,_,h,_=>by simp at h
 | p::P,w::vs,0,m,nd,h1,h2,hk=>by simp at h1 h2;subst h1;subst h2;show bindL kindOf ((p,w)::P.zip vs) m p=_;unfold bindL;rw[zjr λv u=>(cz.mp nd).1 (eE u).1,if_pos hk];simp
 | p::P,w::vs,i+1,m,nd,h1,h2,hk=>by show bindL kindOf ((p,w)::P.zip vs) m x=_;unfold bindL;exact zjs (i:=i) (cz.mp nd).2 (by simpa using h1) (by simpa using h2) hk
theorem zju{kindOf:Str->Option eU}{x:Str}{v:ah}:∀{P:List Str}{vs:List ah}{i:Nat}{m:qM},P.Nodup->P[i]?=ai x->vs[i]?=ai v->kindOf x≠ai .local ->
  bindC kindOf (P.zip vs) m x=ai v
 | [],_,_,_,_,h,_,_=>by simp at h
 | _::_,[],_,_,_,_,h,_=>by simp at h
 | p::P,w::vs,0,m,nd,h1,h2,hk=>by simp at h1 h2;subst h1;subst h2;show bindC kindOf ((p,w)::P.zip vs) m p=_;unfold bindC;rw[zjt λv u=>(cz.mp nd).1 (eE u).1,if_neg hk];simp
 | p::P,w::vs,i+1,m,nd,h1,h2,hk=>by show bindC kindOf ((p,w)::P.zip vs) m x=_;unfold bindC;exact zju (i:=i) (cz.mp nd).2 (by simpa using h1) (by simpa using h2) hk
def start(N:List Str)(vs:List V):St:=vs.map ai++cc (dP N - dP vs) ao
def cxOf(o:CXT)(P:aL)(w:aV)(K:qF)(mg:qM)(base:bh)(N:List Str)(qual:Str)(scope:fv)(f:aq)(cd:ah)(A:bq)(outer:List Env)(s:au)(H:Hp)(E:XK):Cx where
 prog:=P
 w:=w
 K:=K
 mg:=mg
 base:=base
 A:=A.deeper (envOfC qual scope s.heap.objs.size f cd)
 N:=N
 s₀:=s
 H₀:=H
 env:=envOfC qual scope s.heap.objs.size f cd
 outer:=outer
 stack:=envOfC qual scope s.heap.objs.size f cd::outer
 ex:=[]
 calm:=true
 fn:=λ_=>true
 pn:=[]
 xe:=λe s'=>wpAny (model P w) (A.deeper (envOfC qual scope s.heap.objs.size f cd)) (leaving (envOfC qual scope s.heap.objs.size f cd) e) (λ_ l=>o outer H s E e l) (λu l=>o outer H s E u l) s'
theorem zll{sc:fv}{n:Nat}{x:Str}(h:sc.names.lookup x=ai kY):∃c,(cellsFrom n (ce sc) []).lookup x=ai c:=by have q:=gF (ce sc) n [] (fj h);exact iJ.mp q
theorem zoq{U:CXT}{P:aL}{w:aV}{K:qF}{mg:qM}{base:bh}{N ps:List Str}{qual:Str}{scope:fv}{f:aq}{cd:ah}{A:bq}{outer:List Env}{s s1:au}{H:Hp}{E:XK}{us:List ah}{vs:List V}
  (S:Uy N ps scope) (hd:A.handled=ao) (C:Env0 P w K mg base A outer s H) (hl:dP vs=dP ps) (r:Vals vs us)
  (x:InCallC s s.heap.objs.size (bindL (ip (envOfC qual scope s.heap.objs.size f cd)) (ps.zip us) λ_=>ao) (cellsFrom (ap s.heap.objs+1) (ce scope) []) (bindC (ip (envOfC qual scope s.heap.objs.size f cd)) (ps.zip us) λ_=>ao) s1) :
  Inv (cxOf U P w K mg base N qual scope f cd A outer s H E) [] (start N vs) H s1:=by
 have hpl:dP ps<=dP N:=by have:=congrArg dP S.pre;rw[gy]at this;lia
 obtain⟨R,tk,rfl,Z⟩:=x.done;have I:∀b:aq,b∉(cxOf U P w K mg base N qual scope f cd A outer s H E).ex:=λb z=>absurd (show b∈([]:List aq) from z) (by simp);refine⟨⟨C.mod,S.kind,rfl,rfl,av _,λy z c R o=>?_,λy G=>?_,λy c _ h=>?_,λ_=>hd,Around.frames_deeper C.frames,xw ⟨rfl,rfl⟩,λb z=>absurd z (I b),C.bs,C.bsz,λb _ _=>I b,λb z=>absurd z (I b),C.funs,C.frf⟩,
  rfl,C.bare,Un.kept Z,⟨_,x.toInCall.ns,λi y v R o h3=>?_⟩,λy c h=>⟨_,x.cell y c h⟩,C.hok.fresh (av _),λy c h=>?_,λp J=>absurd (show p∈([]:qO) from J) (by simp),C.hok.kept Z,?_⟩
 exact name_of_addr x.apart (gh R) (gh o);have G:scope.names.lookup y=ai kY\/scope.names.lookup y=ai cB:=G;rcases G with G|G;exact zll G;exact absurd rfl (S.nofree _ (gh G));exact ig (x.above y c (gh h));have hi:i<dP vs:=by unfold start at o;by_cases hi:i<dP vs;exact hi;rw[cQ (by simpa using hi)]at o;rw[eX]at o;split at o <;> cases o
 have ha:vs[i]?=ai v:=by
  unfold start at o;rw[bY (by simpa using hi),aT]at o;cases e:vs[i]? with
  | none=>rw[e]at o;cases o
  | some a=>rw[e]at o;cases o;rfl
 obtain⟨u,Y,rv⟩:=r.get ha;have J:ps[i]?=ai y:=by rw[<- S.pre,iK (by lia)];exact R
 have L:ps.Nodup:=by rw[<- S.pre];exact S.nd.sublist (rF _ _)
 refine⟨u,rv,?_⟩;rcases S.par y (aC J) with k|k;exact fj ⟨k,zjs L J Y k⟩;obtain⟨c,e⟩:=zll (n:=ap s.heap.objs+1) k;refine xw ⟨fj k,c,e,?_⟩;have q:=x.cell y c e;rw[zju L J Y (by show scope.names.lookup y≠_;rw[k];decide)]at q;exact q;exact C.hok.fresh (ig (x.above y c (gh h)));unfold start;show _=dP N;rw[a9,aI,kK];lia
theorem zAt{U:CXT}{P:aL}{w:aV}{K:qF}{mg:qM}{base:bh}{k:Nat}{f:aq}{name qual:Str}{params:Arguments}{body:List eW}{scope:fv}{dV kV doc pm C ct oc:ah}{an od:Option aq}
  {Z:Array (Option ah)} {N ps:List Str} {sp:Sp} (lk:K.lookup f=ai ⟨oc,od,jw (dX name qual params body scope dV kV doc pm an C ct),Z⟩) (Y:kc K C qual=bj) (S:Uy N ps scope)
  (len:∀vs H Q E,sp vs H Q E->dP vs=dP ps)
  (OH:∀(A:bq) (outer:List Env) (s:au) (H:Hp) (vs:List V) (Q:VK) (E:XK),Room k (A.deeper (envOfC qual scope s.heap.objs.size f C))->sp vs H Q E ->
   ∃t,PSs (cxOf U P w K mg base N qual scope f C A outer s H E) body t/\t { nx:=λ_ H'=>Q .non H',rt:=Q } (start N vs) H) :
  FnOk P w K mg base U (k+1) f (dX name qual params body scope dV kV doc pm an C ct) ps sp:=by
 refine⟨len,λA outer s H args us vs Q E hr L hb r R=>?_⟩;have hl:=len _ _ _ _ R;have KX:K.In s.heap:=L.mod.kin.keeps λb o e=>(L.bs b o e).1;have lim:s.heap.NoLimit:=L.mod.nolimit.keeps λb o e=>(L.bs b o e).1;have OC:∀y∈ps.zip us,scope.names.lookup y.1=ai .local\/(scope.names.lookup y.1=ai kY/\eA ((cellsFrom (ap s.heap.objs+1) (ce scope) []).lookup y.1)=bj):=λ⟨n,v⟩ hy=>by rcases S.par n (eE hy).1 with q|q;exact fj q;exact xw ⟨q,gF _ _ _ (fj q)⟩
 refine codeAny_call_function hr.depth (KX _ _ lk) rfl S.co S.gen rfl (PySem.W.codeRec_of KX Y) (hb _ _ _ _ ?_);refine wpAny_newFunctionEnv_cells S.kind OC λenv he s1 x=>?_;subst he;refine⟨lim.keeps x.toInCall.keep,codeAny_func ?_⟩;obtain⟨t,ht,hq⟩:=OH A outer s H vs Q E (hr.deeper _) R;have I:Inv (cxOf U P w K mg base N qual scope f C A outer s H E) [] (start N vs) H s1:=zoq S hr.hd L hl r x;refine cn (ht [] s1 (start N vs) H _ I hq) (λfl s' G=>?_) λe s' G=>G;have fin:∀{σ':St} {H':Hp} {v:V} {u:ah},Inv (cxOf U P w K mg base N qual scope f C A outer s H E) [] σ' H' s'->RelV v u->Q v H'->CE outer P w H s Q u s' :=
  λ{σ' H' v u} J rv q=>⟨v,H',J.os,J.bare,J.base,J.hok,rv,q⟩
 cases fl with
 | ret u =>obtain⟨v,σ',H',J,rv,q⟩:=G;exact fin J rv q
 | next =>obtain⟨σ',H',J,q⟩:=G;exact fin (v:=V.non) (u:=dM) J rfl q
 | brk =>obtain⟨_,_,_,q⟩:=G;exact eJ q
 | cont =>obtain⟨_,_,_,q⟩:=G;exact eJ q
section
variable{X:Cx}{x:Str}{p pos:Pos}{e:aX}{es:List aX}{t:TA}{id T:String}{r:List V->Hp->VK->Prop}
def tCB(r:List V->Hp->VK->Prop)(t:TA):TE:=λσ H Q=>t σ H λvs l=>r vs l Q
theorem zqg(hc:JK X (b4 id) r)(L:Gl X x)(R:X.mg x=ao)(hv:bootBuiltins x=ai (b4 id))(S:PA X (e::es) t)(Y:x ≠ "__name__":=by decide) (o:Ndb x:=by decide)
  (he:starEach (e::es) X.env=(bA,eval e X.env)::starEach es X.env:=by rfl) (v:(backTo pos (starEach es X.env)).any (·.1)=bA:=by rfl):PE X (ee (bn x p) (e::es) [] pos) (tCB r t):=by
 intro pins s σ H Q I h;refine lT (YZ I L R hv ?_ Y o);exact sJ (thn (S pos pins s σ H _ I h) λus s1 ⟨vs,G,U,J,Z⟩=>hc pins s1 σ G vs us Q U J Z) he v
theorem zir(hc:JK X (aY T) r)(J:Gl X x)(L:X.mg x=ao)(Z:bootBuiltins x=ai (aY T))(R:PA X (e::es) t)(U:x ≠ "__name__":=by decide) (o:Ndb x:=by decide)
  (he:starEach (e::es) X.env=(bA,eval e X.env)::starEach es X.env:=by rfl) (u:(backTo pos (starEach es X.env)).any (·.1)=bA:=by rfl):PE X (ee (bn x p) (e::es) [] pos) (tCB r t):=by
 intro pins s σ H Q I h;refine lT (YZ I J L Z ?_ U o);exact fq (thn (R pos pins s σ H _ I h) λus s1 ⟨vs,v,S,G,Y⟩=>hc pins s1 σ v vs us Q S G Y) he u
end
end L2
namespace HT
open PySem PyProof.Rows
def lexLt:List Int->List Int->Bool
 | [],[]=>false
 | [],_::_=>true
 | _::_,[]=>false
 | x::xs,y::ys=>if x=y then lexLt xs ys else decide (x<y)
theorem zlX(x y:Int)(xs ys:List Int):lexLt (x::xs) (y::ys)=if x=y then lexLt xs ys else decide (x<y):=rfl
theorem zhy:lexLt [] []=bA:=rfl
theorem zf7(y:Int)(ys:List Int):lexLt [] (y::ys)=bj:=rfl
theorem zf8(x:Int)(xs:List Int):lexLt (x::xs) []=bA:=rfl
theorem zqP(A:bq)(s:au)(a:Int)(t:Tok)(c:Int)(u:Tok):∃e,pZ A s (m6 a t) (m6 c u) e/\(e=bj↔a=c) :=
 ⟨(a == c),iY a t c u,by simp⟩
theorem zp4(A:bq)(s:au)(a:Int)(t:Tok)(c:Int)(u:Tok)(prog:aL)(w:aV)(E:qV)(Q:qV)(h:Q (nH (decide (a<c))) s) :
  wpAny (model prog w) A (richCompare .Lt (m6 a t) (m6 c u)) Q E s :=
 (AC h:wpAny (model prog w) A (compareOp .Lt (m6 a t) (m6 c u)) Q E s)
section
open PySem.SeqAt
open PySem.AutoSeq1 (wpAny_loadPart')
open PySem.MeetsSeq PySem.MeetsSeq2 PySem.MeetsSeq3
theorem zhb(l b:aq)(items U:Array ah)(n n2:Nat)(dd dd2:Option aq)(sl sl2:Array (Option ah))(ns ms:List Int)(hi:g6 (w9 items) ns)(hj:g6 (w9 U) ms) :
  Meets (cI.«tuple.__lt__» ⟨[aZ l,aZ b],[]⟩)
   (λ_ R s=>be s.heap l=ai { cls:=aY "tuple",dict:=dd,data:=f9 items n,slots:=sl }/\be s.heap b=ai { cls:=aY "tuple",dict:=dd2,data:=f9 U n2,slots:=sl2 } /\
    R (.ok (Ag (nH (lexLt ns ms)))) s) :=
 .of_wp λprog w A R s h=>by
  obtain⟨hp,g,d,tk,os⟩:=s;obtain⟨hl,hb,h⟩:=h;have f2:=AutoSeq1.sub_tuple_tuple;have z1:ap items=dP ns:=by rw[<- hi.length];simp
  have z2:ap U=dP ms:=by rw[<- hj.length];simp
  wp_walk using nZ hl,nZ hb,wpAny_forIn_list _ (λrest b s'=>b.1=ao/\s'=⟨hp,g,d,tk,os⟩/\∃(vs ws:List ah) (C G:List Int),rest=vs.zip ws /\
   g6 vs C/\g6 ws G/\dP C+ap U=dP G+ap items/\R (.ok (Ag (nH (lexLt C G)))) ⟨hp,g,d,tk,os⟩) _
  case turn =>
   rintro⟨y,x⟩ rest b s' ⟨N,rfl,vs,ws,C,G,hz,S,I,v,J⟩;cases S with
   | nil=>rw[List.zip_nil_left]at hz;cases hz
   | cons a t Y =>
    cases I with
    | nil=>rw[List.zip_nil_right]at hz;cases hz
    | cons c u Z =>
     rw[p4]at hz;injection hz with hyx hrest;injection hyx with hy hx;subst hy hx;rw[zlX]at J;simp only[aH]at v;obtain⟨e,he,L⟩:=zqP A.in1 ⟨hp,g,d,tk,os⟩ a t c u;refine aa (he prog w _ _ ?_);cases e with
     | true =>rw[if_pos (L.mp rfl)]at J;wp_walk;exact⟨rfl,rfl,_,_,_,_,hrest,Y,Z,by lia,J⟩
     | false =>rw[if_neg (λq=>absurd (L.mpr q) a8)]at J;have hri:=zp4 A.in1 ⟨hp,g,d,tk,os⟩ a t c u prog w;wp_walk using hri;exact⟨_,rfl,by simpa using J⟩
  case fin =>
   rintro⟨b1,b2⟩ s' ⟨N,rfl,vs,ws,C,G,hz,S,I,v,J⟩;simp only at N;subst N;have hv:lexLt C G=decide (ap items<ap U):=by
    cases S with
    | nil =>
     cases I with
     | nil =>simp only[bX]at v;rw[zhy];exact(decide_eq_false (by lia)).symm
     | cons c u hw =>simp only[bX,aH]at v;rw[zf7];exact(decide_eq_true (by lia)).symm
    | cons a t hv =>
     cases I with
     | nil =>simp only[bX,aH]at v;rw[zf8];exact(decide_eq_false (by lia)).symm
     | cons c u hw =>rw[p4]at hz;cases hz
   rw[hv]at J;wp_walk;exact⟨_,rfl,by simpa[sC] using J⟩
  case h =>exact⟨rfl,rfl,w9 items,w9 U,ns,ms,rfl,hi,hj,by lia,h⟩
end
section
variable{prog:aL}{w:aV}{A:bq}{E:qV}{s:au}
theorem zeh{l b:aq}{items G:Array ah}{ns ms:List Int}{Q:qV}(S:rA s.heap l items)(R:rA s.heap b G)(hi:g6 (w9 items) ns)(Z:g6 (w9 G) ms)
  (hu:A.units<cLine) (h:Q (nH (lexLt ns ms)) s):wpAny (model prog w) A (compareOp .Lt (aZ l) (aZ b)) Q E s:=by
 obtain⟨⟨cls,Y,data,sl⟩,N,hc,n,hd⟩:=id S;obtain⟨⟨J,I,data2,C⟩,u,v,U,hd2⟩:=id R;simp only at hc hd v hd2;subst hc hd v hd2;exact richCompare_meets_room (op:=.Lt) ⟨_,N,rfl⟩ ⟨_,u,rfl⟩ PySem.F.slot_tuple_lt PySem.F.entry_tuple_lt (PySem.F.args_tuple_lt_2 _ _) (zhb l b items G n U Y I sl C ns ms hi Z)
  ⟨N,u,show nH (lexLt ns ms)≠Value.notImplemented/\Q (nH (lexLt ns ms)) s from⟨(λx=>nomatch x),h⟩⟩ hu
theorem zt7{t b:aq}{vs l:List ah}{Q:qV}(Z:rA s.heap t (bm vs))(S:rA s.heap b (bm l))(R:vs≠[])
  (Y:l=[]->Q (aZ t) s) (U:l≠[]->Q (aZ s.heap.objs.size) { s with heap:=dL s.heap { cls:=aY "tuple",data:=f9 (bm (vs++l)) } })
  (hsz:dP vs+dP l<=sizeLine):wpAny (model prog w) A (binaryOp .Add (aZ t) (aZ b)) Q E s:=by
 obtain⟨⟨cls,L,data,N⟩,G,hc,n,hd⟩:=id Z;obtain⟨⟨I,C,data2,v⟩,u,x,J,hd2⟩:=id S;simp only at hc hd x hd2;subst hc hd x hd2;have e:bm vs++bm l=bm (vs++l):=by simp
 by_cases hw:l=[];exact rG ⟨_,G,rfl⟩ ⟨_,u,rfl⟩ m8 pQ kg i5 (iL _ _)
  (tuple_addW1 t b (bm vs) (bm l) n J L C N v (by simpa using R) (by simp[hw])) ⟨G,u,Y hw⟩
 refine rG ⟨_,G,rfl⟩ ⟨_,u,rfl⟩ m8 pQ kg i5 (iL _ _)
  (tuple_addW2 t b (bm vs) (bm l) n J L C N v (by simpa using R) (by simpa using hw) (by rw[aD,aD];exact hsz)) ⟨G,u,?_⟩
 rw[e];exact U hw
def sIx(n d:Nat):Option Int->Nat
 | none=>d
 | some v=>if v<0 then(v+(n:Int)).toNat else min (mu v) n
theorem zhe(n d:Nat):sIx n d ao=d:=rfl
theorem zjE(n d k:Nat):sIx n d (ai (k:Int))=min k n:=by show(if (k:Int)<0 then((k:Int)+(n:Int)).toNat else min (mu (k:Int)) n)=min k n;rw[if_neg (by lia),bS]
theorem zuZ(n d:Nat)(hd:d<=n)(o:Option Int):sIx n d o<=n:=by
 cases o with
 | none=>exact hd
 | some v =>show(if v<0 then(v+(n:Int)).toNat else min (mu v) n)<=n;by_cases hv:v<0;rw[if_pos hv];lia;rw[if_neg hv];exact Nat.min_le_right _ _
theorem zo9(v:Int)(n d:Nat):(if v<0 then max (v+(n:Int)) 0 else min v (n:Int))=((sIx n d (ai v):Nat):Int):=by show(if v<0 then max (v+(n:Int)) 0 else min v (n:Int))=(((if v<0 then(v+(n:Int)).toNat else min (mu v) n):Nat):Int);by_cases hv:v<0;simp only[if_pos hv];lia;simp only[if_neg hv];lia
theorem zmz(lo hi:Option Int)(n:Nat):iD lo hi 1 (n:Int)=(((sIx n 0 lo:Nat):Int),((sIx n n hi:Nat):Int)):=by
 have l:¬((1:Int)<0):=by lia
 unfold iD;simp only[l,if_false];refine dD ?_ ?_;cases lo with
 | none=>rfl
 | some v=>exact zo9 v n 0
 cases hi with
 | none=>rfl
 | some v=>exact zo9 v n n
theorem zlG(i j:Nat):fM (i:Int) (j:Int) 1=j - i:=by
 unfold fM;have l:(1:Int) > 0:=by lia
 simp only[l,if_true,Int.ediv_one];split <;> lia
theorem zgq{v:ah}{o:Option Int}{Q:Option Int->au->Prop}(p:mU v o)(h:Q o s):wpAny (model prog w) A (tI v) Q E s:=by
 cases p with
 | none=>exact uk h
 | int i t=>exact slicePart_int h
theorem zct{G:aq}{C v:ah}{lo hi:Option Int}{n:Nat}{Q:Int×Int×Nat->au->Prop}(J:s.heap.IsSliceOf G C v dM)(pl:mU C lo)(I:mU v hi)
  (h:Q (((sIx n 0 lo:Nat):Int),1,sIx n n hi - sIx n 0 lo) s):wpAny (model prog w) A (lU (aZ G) (pure (n:Int))) Q E s:=by
 obtain⟨os,u,L,l⟩:=id J;unfold lU u7;refine aa (aa (cD u l (x:=C) rfl (aa (cD u l (x:=v) rfl (aa (cD u l (x:=dM) rfl (af ?_)))))));refine aa (uk ?_);show wpAny _ _ (if ((1:Int) == 0)=bj then _ else _) _ _ s;rw[if_neg (by decide)];refine aa (zgq pl (aa (zgq I (aa (af ?_)))));show wpAny _ _ (match iD lo hi 1 (n:Int) with|(lo,hi)=>pure (lo,(1:Int),fM lo hi 1)) _ _ s;rw[zmz lo hi n];show wpAny _ _ (pure (((sIx n 0 lo:Nat):Int),(1:Int),fM ((sIx n 0 lo:Nat):Int) ((sIx n n hi:Nat):Int) 1)) _ _ s;rw[zlG];exact af h
theorem zqb(xs:Array ah)(i k:Nat):bm ((c9 k).filterMap λ(m:Nat)=>xs[mu ((i:Int)+(m:Int)*1)]?)=bm ((xs.toList.drop i).take k):=by
 have e:(λ(m:Nat)=>xs[mu ((i:Int)+(m:Int)*1)]?)=λm=>xs[i+m]?:=by
  funext m;have:mu ((i:Int)+(m:Int)*1)=i+m:=by lia
  rw[this]
 rw[e];have:=yO xs i k;rw[List.filterMap_map]at this;have u:((λx=>xs[x]?)∘λx=>i+x)=λm=>xs[i+m]?:=rfl;rw[u]at this;rw[this]
theorem zeo{t C:aq}{items:Array ah}{L J:ah}{lo hi:Option Int}{Q:qV}(l:rA s.heap t items)(N:s.heap.IsSliceOf C L J dM)(pl:mU L lo)(R:mU J hi)
  (hw:¬(sIx items.size 0 lo=0/\sIx items.size items.size hi=ap items))
  (h:Q (aZ s.heap.objs.size) { s with heap:=dL s.heap { cls:=aY "tuple",data:=f9 (bm ((items.toList.drop (sIx items.size 0 lo)).take (sIx items.size items.size hi - sIx items.size 0 lo))) } })
  (hsz:ap items<=sizeLine):wpAny (model prog w) A (getItem (aZ t) (aZ C)) Q E s:=by
 have u:sizeOk (f9 (bm ((items.toList.drop (sIx items.size 0 lo)).take (sIx items.size items.size hi - sIx items.size 0 lo)))):=by show((items.toList.drop (sIx items.size 0 lo)).take (sIx items.size items.size hi - sIx items.size 0 lo)).toArray.size<=sizeLine;rw[aD,gy,gz,cg];lia
 have Y:sIx items.size items.size hi<=ap items:=zuZ _ _ (av _) hi;obtain⟨os,v,I,S⟩:=id N;have G:s.TypeIs (aZ C) "slice":=⟨os,v,I⟩;unfold getItem;try with_reducible refine bO ?_
 first|refine aa (af ?_)|skip
 refine aa (rH l.typeIs (by decide) ?_);refine aa (bP (name:=ar "__getitem__") l.typeIs cy
  (bw cy l.typeIs pI ?_ (p5 _ _)))
 show wpAny _ _ (lV (aZ t) >>= _) _ _ s;refine aa (tupleItemsOf_ l ?_);refine aa (dY G ?_);rw[if_pos (by decide)];refine aa (zct N pl R ?_);have x:¬((((sIx items.size 0 lo:Nat):Int) == 0&&(1:Int) == 1&&(sIx items.size items.size hi - sIx items.size 0 lo) == ap items)=bj):=by intro q;rw[bT,bT]at q;have Z:((sIx items.size 0 lo:Nat):Int)=0:=eq_of_beq q.1.1;have U:sIx items.size items.size hi - sIx items.size 0 lo=ap items:=eq_of_beq q.2;exact hw ⟨by lia,by lia⟩
 show wpAny _ _ (if (((sIx items.size 0 lo:Nat):Int) == 0&&(1:Int) == 1&&(sIx items.size items.size hi - sIx items.size 0 lo) == ap items)=bj then _ else _) _ _ s;rw[if_neg x,zqb];first
  | exact aa (m:=fY _) (bp (af ⟨_,rfl,af h⟩) u)
  | exact aa (m:=fY _) (bp (aa (af (af ⟨_,rfl,af h⟩))) u)
  | exact aa (aa (m:=fY _) (bp (af (af ⟨_,rfl,af h⟩)) u))
  | exact aa (aa (m:=fY _) (bp (af ⟨_,rfl,af h⟩) u))
end
end HT
namespace L2
open PySem PySem.Spec PyProof.Rows
abbrev TO:=St->Hp->(Option Int->Hp->Prop)->Prop
def PO(X:Cx)(e:Option aX)(t:TO):Prop :=
 ∀(pins:qO) (s:au) (σ:St) (H:Hp) (Q:Option Int->Hp->Prop),Inv X pins σ H s->t σ H Q ->
  wpAny (model X.prog X.w) X.A (evalPart e X.env) (λu s'=>∃o H',Inv X pins σ H' s'/\mU u o/\Q o H') X.xe s
def zsa:TO:=λ_ H Q=>Q ao H
def zyK(t:TE):TO:=λσ H Q=>t σ H λx l=>∃i,x=.int i/\Q (ai i) l
theorem intsAre_of{ns:List Int}:∀{us:List ah},Vals (ns.map V.int) us->g6 us ns:=by
 induction ns with
 | nil=>intro us r;rw[dH]at r;cases r;exact .nil
 | cons n ns u =>
  intro us r;rw[aK]at r;cases r with
  | cons v x =>obtain⟨t,e⟩:=v;subst e;exact .cons n t (u x)
section
variable{X:Cx}{e:aX}{te:TE}{lo hi:Option aX}{tl th:TO}{pos p2:Pos}
theorem zsG:PO X ao zsa:=by intro pins s σ H Q I h;rw[evalPart_none];exact af ⟨ao,H,I,.none,h⟩
theorem zsF(h:PE X e te):PO X (ai e) (zyK te):=by intro pins s σ H Q I hw;rw[evalPart_some];refine thn (h pins s σ H _ I hw) λu s1 l=>?_;obtain⟨x,v,C,o,G⟩:=l;obtain⟨i,rfl,q⟩:=G;obtain⟨t,rfl⟩:=o;exact⟨ai i,v,C,.int i t,q⟩
def SlR(X:Cx)(r:V->Option Int->Option Int->Hp->VK->Prop):Prop :=
 ∀(pins:qO) (s:au) (σ:St) (H:Hp) (x:V) (v G C:ah) (lo hi:Option Int) (I:aq) (Q:VK),Inv X pins σ H s->RelV x v->s.heap.IsSliceOf I G C dM->mU G lo->mU C hi->r x lo hi H Q ->
  ∃T id,typeLookup (aY T) "__getitem__" = pure (ai (b4 id))/\s.TypeIs v T/\wpAny (model X.prog X.w) X.A (getItem v (aZ I)) (EP X pins σ Q) X.xe s
theorem SlR.or{r L:V->Option Int->Option Int->Hp->VK->Prop}(h:SlR X r)(h':SlR X L):SlR X (λx lo hi H Q=>r x lo hi H Q\/L x lo hi H Q):=by intro pins s σ H x v u o lo hi J Q I C G pl l q;rcases q with q|q;exact h pins s σ H x v u o lo hi J Q I C G pl l q;exact h' pins s σ H x v u o lo hi J Q I C G pl l q
def tSl(r:V->Option Int->Option Int->Hp->VK->Prop)(te:TE)(tl th:TO):TE:=λσ H Q=>te σ H λx o=>tl σ o λl v=>th σ v λu C=>r x l u C Q
theorem zkO{r:V->Option Int->Option Int->Hp->VK->Prop}(hr:SlR X r)(he:PE X e te)(hl:PO X lo tl)(hu:PO X hi th):PE X (d0 e (.Slice lo hi ao p2) pos) (tSl r te tl th):=by intro pins s σ H Q I h;refine um (thn (he pins s σ H _ I h) λv s1 C=>?_);obtain⟨x,R,I1,N,q1⟩:=C;refine wpAny_Slice (thn (hl pins s1 σ R _ I1 q1) λJ s2 ⟨l,H2,Y,pl,q2⟩=>thn (hu pins s2 σ H2 _ Y q2) λG s3 C=>?_);obtain⟨u,L,U,Z,q3⟩:=C;rw[evalPart_none];refine af ?_;have I4:Inv X pins σ L { s3 with heap:=dL s3.heap { cls:=aY "slice",data:=ed #[J,G,dM] } }:=U.kept (t':=dn s3) λb ob q=>aj _ q;obtain⟨T,id,hT,ht,hg⟩:=hr pins { s3 with heap:=dL s3.heap { cls:=aY "slice",data:=ed #[J,G,dM] } } σ L x v J G l u s3.heap.objs.size Q I4 N (Bm ..) pl Z q3;show wpAny (model X.prog X.w) X.A (subscriptTail e (.Slice lo hi ao p2) v (aZ s3.heap.objs.size)) (EP X pins σ Q) X.xe { s3 with heap:=dL s3.heap { cls:=aY "slice",data:=ed #[J,G,dM] } };exact tail_any (ops:=[aZ s3.heap.objs.size,v]) ht hT hg (by with_unfolding_all rfl)
def cutV(xs:List V)(lo hi:Option Int):List V:=(xs.drop (HT.sIx (dP xs) 0 lo)).take (HT.sIx (dP xs) (dP xs) hi - HT.sIx (dP xs) 0 lo)
theorem zfX(xs:List V)(lo hi:Option Int):dP (cutV xs lo hi)<=dP xs:=by unfold cutV;rw[gy,gz];lia
def rSlT(K:qF):V->Option Int->Option Int->Hp->VK->Prop:=λx lo hi H Q=>∃a xs,x=.ref a/\SqT K H a xs /\
 ¬(HT.sIx (dP xs) 0 lo=0/\HT.sIx (dP xs) (dP xs) hi=dP xs)/\∀p,H p=ao->Q (.ref p) (upd H p (.tup (cutV xs lo hi)))
theorem zuF:SlR X (rSlT X.K):=by
 intro pins s σ H x v S R lo hi U Q I J L pl G h;obtain⟨a,xs,rfl,hx,hw,q⟩:=h;cases J;obtain⟨its,r,C,hz⟩:=I.tuple hx;have l:ap its.toArray=dP xs:=by rw[aD];exact bv r.length
 refine⟨"tuple",_,cy.lookup,C.typeIs,?_⟩;refine HT.zeo C L pl G (by rw[l];exact hw) ?_ (by rw[l];exact hz);rw[l];refine⟨.ref s.heap.objs.size,_,I.laid (t':=dn s) (o:=.tup (cutV xs lo hi)) (λb N q=>aj _ q) (av _) ?_,rfl,q _ (I.hok.fresh (av _))⟩;exact⟨bu (zfX xs lo hi) hz,_,(r.drop (HT.sIx (dP xs) 0 lo)).take (HT.sIx (dP xs) (dP xs) hi - HT.sIx (dP xs) 0 lo),IsTD.new _ _⟩
def rLtT(K:qF):R2:=λx y H Q=>∃a b ns ms,x=.ref a/\y=.ref b/\SqT K H a (ns.map V.int)/\SqT K H b (ms.map V.int)/\Q (.bl (HT.lexLt ns ms)) H
theorem zvI(Z:X.A.units<cLine):OpR X (compareOp .Lt) (rLtT X.K):=by intro pins s σ H x y v u Q I N U h;obtain⟨a,b,ns,ms,rfl,rfl,Y,C,q⟩:=h;cases N;cases U;obtain⟨its,G,p1,_⟩:=I.tuple Y;obtain⟨o,J,p2,_⟩:=I.tuple C;have R:g6 (w9 its.toArray) ns:=intsAre_of G;have S:g6 (w9 o.toArray) ms:=intsAre_of J;exact HT.zeh p1 p2 R S Z ⟨.bl (HT.lexLt ns ms),H,I,rfl,q⟩
def zzx(K:qF):R2:=λx y H Q=>∃a b xs ys,x=.ref a/\y=.ref b/\SqT K H a xs/\SqT K H b ys/\xs≠[]/\dP xs+dP ys<=sizeLine /\
 (ys=[]->Q (.ref a) H)/\(ys≠[]->∀p,H p=ao->Q (.ref p) (upd H p (.tup (xs++ys))))
theorem Vals.nil_iff{xs:List V}{us:List ah}(r:Vals xs us):us=[]↔xs=[]:=by
 cases r with
 | nil=>simp
 | cons _ _=>simp
theorem zsZ:OpR X (binaryOp .Add) (zzx X.K):=by intro pins s σ H x y v u Q I N R h;obtain⟨a,b,xs,ys,rfl,rfl,S,J,hx,hz,U,L⟩:=h;cases N;cases R;obtain⟨its,C,p1,_⟩:=I.tuple S;obtain⟨G,l,p2,_⟩:=I.tuple J;refine HT.zt7 p1 p2 (λz=>hx (C.nil_iff.mp z)) (λz=>⟨.ref a,H,I,rfl,U (l.nil_iff.mp z)⟩) (λz=>?_) (by rw[<- C.length,<- l.length];exact hz);refine⟨.ref s.heap.objs.size,_,I.laid (t':=dn s) (o:=.tup (xs++ys)) (λb Y q=>aj _ q) (av _) ?_,rfl,L (λw=>z (l.nil_iff.mpr w)) _ (I.hok.fresh (av _))⟩;exact⟨by rw[a9];exact hz,_,C.append l,IsTD.new _ _⟩
end
def ixN(n:Nat)(i:Int):Option Nat:=if 0<=i then(if i<n then ai (mu i) else ao) else if -(n:Int)<=i then ai (mu (i+n)) else ao
def atI{α:Type}(xs:List α)(i:Int):Option α:=(ixN (dP xs) i).bind λj=>xs[j]?
theorem zon{n:Nat}{i:Int}{j:Nat}(h:ixN n i=ai j):seqIndex? i n=ai j/\j<n/\-(n:Int)<=i/\i<n:=by unfold ixN at h;by_cases h0:0<=i;rw[if_pos h0]at h;by_cases h1:i<n;rw[if_pos h1]at h;have e:mu i=j:=aG h;exact⟨by rw[tq h0 h1,e],by lia,by lia,h1⟩;rw[if_neg h1]at h;cases h;rw[if_neg h0]at h;by_cases h1:-(n:Int)<=i;rw[if_pos h1]at h;have e:mu (i+n)=j:=aG h;exact⟨by rw[rJ (by lia) h1,e],by lia,h1,by lia⟩;rw[if_neg h1]at h;cases h
theorem zko{α:Type}{xs:List α}{i:Int}{v:α}(h:atI xs i=ai v):∃j,seqIndex? i (dP xs)=ai j/\xs[j]?=ai v/\j<dP xs/\-(dP xs:Int)<=i/\i<dP xs:=by
 unfold atI at h;cases e:ixN (dP xs) i with
 | none=>rw[e]at h;cases h
 | some j =>rw[e]at h;obtain⟨x,o,u,l⟩:=zon e;exact⟨j,x,h,o,u,l⟩
theorem zud{α:Type}{xs:List α}{j:Nat}{v:α}(h:xs[j]?=ai v):atI xs (j:Int)=ai v:=by
 have l:j<dP xs:=(aw.mp h).1;have e:ixN (dP xs) (j:Int)=ai j:=by unfold ixN;rw[if_pos (by lia),if_pos (by lia)];simp
 unfold atI;rw[e];exact h
def zpu(b:aX):Prop:=∀o i,subscripted b bA o i=operate [o,i] (getItem o i)
def IxR(X:Cx)(r:R2):Prop :=
 ∀(value slice:aX) (pins:qO) (s:au) (σ:St) (H:Hp) (x y:V) (v u:ah) (Q:VK),Inv X pins σ H s->RelV x v->RelV y u->r x y H Q ->
  subscripted slice bA v u=operate [v,u] (getItem v u)->wpAny (model X.prog X.w) X.A (subscriptTail value slice v u) (EP X pins σ Q) X.xe s
def MtR(X:Cx)(id:String)(r:V->List V->Hp->VK->Prop):Prop :=
 ∀(pins:qO) (s:au) (σ:St) (H:Hp) (x:V) (xs:List V) (v:ah) (us:List ah) (Q:VK),Inv X pins σ H s->RelV x v->Vals xs us->r x xs H Q ->
  wpAny (model X.prog X.w) X.A (call (b4 id) (v::us)) (EP X pins σ Q) X.xe s
section
variable{X:Cx}{a b:aX}{ta tb:TE}{pos:Pos}
theorem IxR.or{r G:R2}(h:IxR X r)(h':IxR X G):IxR X (λx y H Q=>r x y H Q\/G x y H Q):=by intro value slice pins s σ H x y v u Q I l o q C;rcases q with q|q;exact h value slice pins s σ H x y v u Q I l o q C;exact h' value slice pins s σ H x y v u Q I l o q C
theorem Uk{r:R2}(G:IxR X r)(R:PE X a ta)(l:PE X b tb)(N:zpu b):PE X (d0 a b pos) (tOp r ta tb):=by intro pins s σ H Q I h;exact um (binT R l I h λv u s2 x y J o C L q=>G a b pins s2 σ J x y v u Q o C L q (N _ _))
def rIxL(K:qF):R2:=λx y H Q=>∃p xs i v,x=.ref p/\y=.int i/\SqL K H p xs/\atI xs i=ai v/\Q v H
def rIxT(K:qF):R2:=λx y H Q=>∃p xs i v,x=.ref p/\y=.int i/\SqT K H p xs/\atI xs i=ai v/\Q v H
def rIxS:R2:=λx y H Q=>∃z i c,x=.str z/\y=.int i/\kN z<=sizeLine/\atI (w9 z.cps) i=ai c/\Q (.str ⟨#[c]⟩) H
theorem UB:IxR X (rIxL X.K):=by
 intro value slice pins s σ H x y v u Q I Y ry h L;obtain⟨p,xs,i,z,rfl,rfl,Z,he,q⟩:=h;cases Y;obtain⟨t,rfl⟩:=ry;obtain⟨its,r,pl,hz⟩:=I.list Z;obtain⟨j,l,S,h3,R,h5⟩:=zko he;obtain⟨w,J,C⟩:=r.get S;have U:=r.length;have hn:=UQ;have fin:EP X pins σ Q w s:=⟨z,H,I,C,q⟩;by_cases h0:0<=i;have G:mu i=j:=by rw[tq h0 h5]at l;exact aG l
 exact item_listR pl.isList h0 (by lia) (by rw[G];simpa using J) fin L;have G:mu (i+(ap its.toArray:Int))=j:=by rw[rJ (by lia) R]at l;rw[aD,<- U];exact aG l
 exact nK (x:=w) pl.isList.typeIs rK.lookup
  (wpAny_getItem_list_neg (Q:=λr s'=>r=w/\EP X pins σ Q r s') pl.isList (by lia) (by rw[aD] <;> lia) (by lia) (by rw[G];simpa using J) ⟨rfl,fin⟩) L
theorem zwE:IxR X (rIxT X.K):=by
 intro value slice pins s σ H x y v u Q I G R h S;obtain⟨p,xs,i,z,rfl,rfl,L,he,q⟩:=h;cases G;obtain⟨t,rfl⟩:=R;obtain⟨its,r,pl,hz⟩:=I.tuple L;obtain⟨j,J,o,Y,U,Z⟩:=zko he;obtain⟨w,N,l⟩:=r.get o;have C:=r.length;have hn:=UQ;have fin:EP X pins σ Q w s:=⟨z,H,I,l,q⟩;exact nK (x:=w) pl.typeIs slot_tuple_getitem.lookup
  (getItem_tuple (j:=j) (Q:=λr s'=>r=w/\EP X pins σ Q r s') pl (by lia) (by lia) (by rw[aD,<- C];exact J) (by simpa using N) ⟨rfl,fin⟩) S
theorem zwF:IxR X rIxS:=by
 intro value slice pins s σ H x y v u Q I L R h S;obtain⟨z,i,c,rfl,rfl,hz,he,q⟩:=h;obtain⟨t,rfl⟩:=L;obtain⟨t',rfl⟩:=R;obtain⟨j,l,C,Y,o,N⟩:=zko he;have G:dP z.cps.toList=kN z:=by simp[kN]
 rw[G]at l o N;have Z:=UQ;exact tail_any (kO s z t) slot_str_getitem.lookup (getItem_str (c:=c) (by have J:decide (i < -(2 ^ 63:Int))=bA:=decide_eq_false (by lia);have U:decide (i>=2 ^ 63)=bA:=decide_eq_false (by lia);rw[J,U,vS]) (by rw[l];simpa using C) ⟨.str ⟨#[c]⟩,H,I.tok _,⟨_,rfl⟩,q⟩) S
def rIx(K:qF):R2:=λx y H Q=>rIxL K x y H Q\/rIxT K x y H Q\/rIxS x y H Q
theorem zwG:IxR X (rIx X.K):=UB.or (zwE.or zwF)
theorem zlW(its:List ah)(n j:Nat)(u:ah):fZ (·.setIfInBounds j u) { cls:=aY "list",data:=f9 (bm its) n }={ cls:=aY "list",data:=f9 (bm (cr its j u)) n }:=by simp[fZ]
theorem Inv.lst{pins:qO}{σ:St}{H:Hp}{s:au}{p:aq}{xs:List V}(I:Inv X pins σ H s)(h:H p=ai (.lst xs)) :
  ∃(its:List ah) (n:Nat),Vals xs its/\be s.heap p=ai { cls:=aY "list",data:=f9 (bm its) n }/\dP xs<=sizeLine:=by
 obtain⟨z,its,n,r,e⟩:=I.hok p _ h;exact⟨its,n,r,e,z⟩
theorem Inv.lstUpd{pins:qO}{σ:St}{H:Hp}{s:au}{p:aq}{xs ys:List V}{its its':List ah}{n o:Nat}{f:Obj->Obj}(I:Inv X pins σ H s)(h:H p=ai (.lst xs))
  (C:be s.heap p=ai { cls:=aY "list",data:=f9 (bm its) n }) (hf:f { cls:=aY "list",data:=f9 (bm its) n }={ cls:=aY "list",data:=f9 (bm its') o }) (r:Vals ys its') (hz:dP ys<=sizeLine) (t:Nat) :
  Inv X pins σ (upd H p (.lst ys)) { s with heap:=s.heap.update p f,toks:=t }:=by
 have e:be (s.heap.update p f) p=ai { cls:=aY "list",data:=f9 (bm its') o }:=by rw[bK f C (by rw[hf] <;> rfl),hf]
 refine I.write (x:=p) (e:=p) (by rw[h];trivial) (fj rfl) (λb u v q=>b3 (bf _ _ (dG v)) q) ⟨_,e⟩ ?_;exact⟨hz,its',o,r,e⟩
def zzv:V->V->V->Hp->(Hp->Prop)->Prop:=λo i v H Q=>∃p xs k j,o=.ref p/\i=.int k/\H p=ai (.lst xs)/\ixN (dP xs) k=ai j/\Q (upd H p (.lst (cr xs j v)))
theorem set_list:PSet X zzv:=by
 intro pins s σ H o i v ov iv u Q I Y ri rv h;obtain⟨p,xs,k,j,rfl,rfl,U,Z,q⟩:=h;cases Y;obtain⟨t,rfl⟩:=ri;obtain⟨its,n,r,G,hz⟩:=I.lst U;obtain⟨x,h2,S,L⟩:=zon Z;have C:=r.length;have hn:=UQ;have R:Inv X pins σ (upd H p (.lst (cr xs j v))) { s with heap:=s.heap.update p (fZ (·.setIfInBounds j u)) } :=
  I.lstUpd U G (zlW its n j u) (r.set rv j) (by rw[List.length_set];exact hz) s.toks
 by_cases h0:0<=k;have J:mu k=j:=by rw[tq h0 L]at x;exact aG x
 exact PySem.W.ki_setAt G h0 (by lia) (by rw[aD,<- C];exact L) (by rw[J];exact⟨_,R,q⟩);have J:mu (k+(ap its.toArray:Int))=j:=by rw[rJ (by lia) S]at x;rw[aD,<- C];exact aG x
 exact PySem.W.ki_setBack G (by lia) (by rw[aD,<- C];exact S) (by lia) (by rw[J];exact⟨_,R,q⟩)
theorem zh_(lo hi:Option Int)(n:Nat):(sliceBounds lo hi ao n).1=((HT.sIx n 0 lo:Nat):Int)/\(sliceBounds lo hi ao n).2.1=((HT.sIx n n hi:Nat):Int)/\(sliceBounds lo hi ao n).2.2=1:=by
 refine⟨?_,?_,rfl⟩;cases lo with
 | none=>simp[sliceBounds,HT.sIx]
 | some i =>simp only[sliceBounds,HT.sIx,m9,show(1:Int) > 0 by decide,if_true];by_cases h:i<0;simp only[h,if_true] <;> lia;simp only[h,if_false] <;> lia
 cases hi with
 | none=>simp[sliceBounds,HT.sIx]
 | some i =>simp only[sliceBounds,HT.sIx,m9,show(1:Int) > 0 by decide,if_true];by_cases h:i<0;simp only[h,if_true] <;> lia;simp only[h,if_false] <;> lia
theorem zhd(its:List ah)(lo hi:Option Int):slicePick (bm its) lo hi ao=bm ((its.drop (HT.sIx (dP its) 0 lo)).take (HT.sIx (dP its) (dP its) hi - HT.sIx (dP its) 0 lo)):=by obtain⟨v,l,u⟩:=zh_ lo hi its.toArray.size;unfold slicePick;rw[v,l,u];simp only[uo,yO,aD] <;> rfl
def rSlL(K:qF):V->Option Int->Option Int->Hp->VK->Prop:=λx lo hi H Q=>∃a xs,x=.ref a/\SqL K H a xs/\∀p,H p=ao->Q (.ref p) (upd H p (.lst (cutV xs lo hi)))
theorem zsf:SlR X (rSlL X.K):=by intro pins s σ H x v S R lo hi U Q I J L pl G h;obtain⟨a,xs,rfl,hx,q⟩:=h;cases J;obtain⟨its,r,C,hz⟩:=I.list hx;have u:=r.length;refine⟨"list",_,rK.lookup,C.isList.typeIs,?_⟩;refine wpAny_getItem_list_slice C.isList L pl G .none (by simp) ?_ (by rw[aD] <;> lia);rw[zhd,<- u];refine⟨.ref s.heap.objs.size,_,I.laid (t':=dn s) (o:=.lst (cutV xs lo hi)) (λb N q=>aj _ q) (av _) ?_,rfl,q _ (I.hok.fresh (av _))⟩;exact⟨bu (zfX xs lo hi) hz,_,0,(r.drop (HT.sIx (dP xs) 0 lo)).take (HT.sIx (dP xs) (dP xs) hi - HT.sIx (dP xs) 0 lo),aA _ rfl⟩
theorem zjm:JK X (b4 "len") (λxs H Q=>∃p ys,xs=[.ref p]/\(SqL X.K H p ys\/SqT X.K H p ys)/\Q (.int (dP ys)) H):=by intro pins s σ H xs us Q I r h;obtain⟨p,ys,rfl,v,q⟩:=h;obtain⟨u,rfl,C⟩:=vals1 r;cases C;have G:=UQ;rcases v with v|v;obtain⟨its,x,pl,hz⟩:=I.list v;have o:=x.length;exact pH pl.isList (by simp only[aD] <;> lia) ⟨.int (dP ys),H,I.tok _,⟨dn s+1,by rw[aD,o]⟩,q⟩;obtain⟨its,x,pl,hz⟩:=I.tuple v;have o:=x.length;exact len_tuple pl (by simp only[aD] <;> lia) ⟨.int (dP ys),H,I.tok _,⟨dn s+1,by rw[aD,o]⟩,q⟩
theorem QW:JK X (aY "tuple") (λxs H Q=>∃p ys,xs=[.ref p]/\((SqL X.K H p ys/\∀l,H l=ao->Q (.ref l) (upd H l (.tup ys)))\/(SqT X.K H p ys/\Q (.ref p) H))):=by
 intro pins s σ H xs us Q I r h;obtain⟨p,ys,rfl,h⟩:=h;obtain⟨u,rfl,L⟩:=vals1 r;cases L;rcases h with⟨v,q⟩|⟨v,q⟩;obtain⟨its,x,pl,hz⟩:=I.list v;have C:=x.length;refine call_tuple_list pl.isList (λh' kp=>?_) (by simp only[aD] <;> lia);have G:Inv X pins σ H { s with heap:=h' }:=I.kept (t':=dn s) kp;have J:Inv X pins σ (upd H h'.objs.size (.tup ys)) { s with heap:=dL h' { cls:=aY "tuple",data:=f9 (bm its) } } :=
  G.laid (t':=dn s) (λb o e=>aj _ e) (av _) (show JE X.prog X.w _ _ _ (.tup ys) from⟨hz,its,x,IsTD.new _ _⟩)
 exact⟨.ref h'.objs.size,_,J,rfl,q _ (G.hok.fresh (av _))⟩;obtain⟨its,x,pl,hz⟩:=I.tuple v;exact call_tuple_same pl ⟨.ref p,H,I,rfl,q⟩
def tyV(K:qF)(T:String)(x:V)(H:Hp):Prop:=match x with
 | .str _=>T = "str"
 | .int _=>T = "int"
 | .ref p=>(T = "list" /\ ∃xs,SqL K H p xs)\/(T = "tuple" /\ ∃o,K.lookup p=ai o/\jg o=aY "tuple" /\ o.dict=ao) \/
   (T = "dict" /\ ((∃l,H p=ai (.dK l))\/∃l,H p=ai (.dT l)))\/(T = "set" /\ ∃S n,H p=ai (.set S n))
 | _=>False
theorem zrh{pins:qO}{σ:St}{H:Hp}{s:au}{T:String}{x:V}{v:ah}(I:Inv X pins σ H s)(r:RelV x v)(ty:tyV X.K T x H) :
  s.TypeIs v T/\∀a,v=aZ a->∃G,be s.heap a=ai G/\G.dict=ao:=by
 cases x with
 | str z =>obtain⟨t,rfl⟩:=r;cases(show T = "str" from ty);exact⟨kO s z t,λ_ e=>nomatch e⟩
 | int i =>obtain⟨t,rfl⟩:=r;cases(show T = "int" from ty);exact⟨typeIs_int s i t,λ_ e=>nomatch e⟩
 | ref p =>
  cases r;rcases ty with⟨rfl,xs,J⟩|⟨rfl,o,l,hc,hd⟩|⟨rfl,l⟩|⟨rfl,S,n,l⟩;obtain⟨its,_,pl,_⟩:=I.list J;refine⟨pl.isList.typeIs,λa e=>?_⟩;cases e;obtain⟨o,n,e,c,hd,_⟩:=pl;exact⟨o,e,hd⟩;refine⟨⟨o,I.kIn p o l,hc⟩,λa e=>?_⟩;cases e;exact⟨o,I.kIn _ o l,hd⟩;have z:∃o,be s.heap p=ai o/\o.ExactDict:=by rcases l with⟨C,l⟩|⟨C,l⟩;obtain⟨_,_,_,_,o,_,_,e,ex,_⟩:=I.hok p _ l;exact⟨o,e,ex⟩;obtain⟨_,_,_,_,o,_,_,e,ex,_⟩:=I.hok p _ l;exact⟨o,e,ex⟩
  obtain⟨o,e,ex⟩:=z;refine⟨⟨o,e,ex.1⟩,λa u=>?_⟩;cases u;exact⟨o,e,ex.2.1⟩;obtain⟨o,_,_,_,e,ex,_⟩:=I.hok p _ l;refine⟨⟨o,e,ex.1⟩,λa u=>?_⟩;cases u;exact⟨o,e,ex.2.1⟩
 | _=>exact eJ ty
def tBM0(K:qF)(T:String)(r:V->List V->Hp->VK->Prop)(to:TE):TE:=λσ H Q=>to σ H λx l=>tyV K T x l/\r x [] l Q
def tBM(K:qF)(T:String)(r:V->List V->Hp->VK->Prop)(to:TE)(t:TA):TE:=λσ H Q=>to σ H λx l=>tyV K T x l/\t σ l λxs o=>r x xs o Q
variable{o e:aX}{es:List aX}{to:TE}{t:TA}{name:Str}{apos N3:Pos}{T id:String}{r:V->List V->Hp->VK->Prop}
theorem zvy(pa:PlainAttrs T)(slot:Bs T name id)(J:typeOf (b4 id)=pure (aY "method_descriptor")) (hm:MtR X id r) (Z:PE X o to)
  (U:attributeBase o name X.env (eval o X.env)=eval o X.env:=by rfl) (Np:(apos.endLine == ib N3)=bj:=by rfl):PE X (ee (h7 o name apos) [] [] N3) (tBM0 X.K T r to):=by
 intro pins s σ H Q I h;refine wpAny_Call_method0_late U Np (thn (Z pins s σ H _ I h) λv s1 G=>?_);obtain⟨x,R,N,L,ty,q1⟩:=G;obtain⟨Y,S⟩:=zrh N L ty;exact⟨T,id,pa,slot,J,Y,S,kh rfl (PySem.evalArgs_none (hm pins s1 σ R x [] v [] Q N L ja q1))⟩
theorem Yn(pa:PlainAttrs T)(slot:Bs T name id)(J:typeOf (b4 id)=pure (aY "method_descriptor")) (hm:MtR X id r) (ho:PE X o to) (ha:PA X (e::es) t)
  (Nn:attributeBase o name X.env (eval o X.env)=eval o X.env:=by rfl)
  (Z:((backTo N3 (starEach (e::es) X.env)).all (λx=>!x.1)&&(backToKw N3 (keywordEach [] X.env)).all (λx=>eA x.1)
   && decide (dP (e::es)+dP ([]:List fR)+(if dy ([]:List fR) then 0 else 1)<30))=bj:=by rfl)
  (Np:(apos.endLine == ib N3)=bj:=by rfl) (hs:starEach (e::es) X.env=(bA,eval e X.env)::starEach es X.env:=by rfl) (OA:(backTo N3 (starEach es X.env)).any (·.1)=bA:=by rfl) :
  PE X (ee (h7 o name apos) (e::es) [] N3) (tBM X.K T r to t):=by
 intro pins s σ H Q I h;refine nL Nn Z Np rfl (thn (ho pins s σ H _ I h) λv s1 G=>?_);obtain⟨x,S,R,L,ty,q1⟩:=G;obtain⟨h1,Y⟩:=zrh R L ty;refine⟨T,id,pa,slot,J,h1,Y,?_⟩;have N:=ha N3 pins s1 σ S _ R q1;rw[hs]at N ⊢;refine kh (by show(bA||(backTo N3 (starEach es X.env)).any (·.1))=bA;rw[OA] <;> rfl) (oJ ?_);exact thn N λus s2 ⟨vs,H2,U,r2,q2⟩=>hm pins s2 σ H2 x vs v us Q U L r2 q2
end
def MtM(X:Cx)(id:String)(r:V->List V->Hp->VK->Prop):Prop :=
 ∀(pins:qO) (s:au) (σ:St) (H:Hp) (x:V) (xs:List V) (v:ah) (us:List ah) (Q:VK),Inv X pins σ H s->RelV x v->Vals xs us->r x xs H Q ->
  wpAny (model X.prog X.w) X.A (call (b4 id) (v::us)) (EP X pins σ Q) X.xe s
theorem Vals.one{x:V}{us:List ah}(h:Vals [x] us):∃u,us=[u]/\RelV x u:=by
 cases h with
 | cons r t=>cases t;exact⟨_,rfl,r⟩
section
variable{X:Cx}{pins:qO}{σ:St}{H:Hp}{s:au}{l:aq}{xs ys:List V}
theorem Inv.lset{its its':List ah}{n:Nat}{f:Array ah->Array ah}{t':Nat}(I:Inv X pins σ H s)(G:H l=ai (.lst xs))
  (e:be s.heap l=ai { cls:=aY "list",data:=f9 (bm its) n }) (hf:f (bm its)=bm its') (v:Vals ys its') (hz:dP ys<=sizeLine) :
  Inv X pins σ (upd H l (.lst ys)) { s with heap:=s.heap.update l (fZ f),toks:=t' }:=by
 have q:=PySem.IsL.update e f;rw[hf]at q;refine I.write (x:=l) (e:=l) (by rw[G];exact trivial) (fj rfl) (λJ u o C=>b3 (bf s.heap (fZ f) (dG o)) C) ⟨_,q⟩ ?_;exact⟨hz,its',_,v,q⟩
theorem Inv.lstM(I:Inv X pins σ H s)(o:H l=ai (.lst xs)):dP xs<=sizeLine/\∃(its:List ah) (n:Nat),Vals xs its/\dP xs=dP its/\be s.heap l=ai { cls:=aY "list",data:=f9 (bm its) n }:=by obtain⟨z,its,n,r,e⟩:=I.hok l _ o;exact⟨z,its,n,r,r.length,e⟩
theorem zqo{n:Nat}(h:n<=sizeLine):iM n=bA:=by unfold iM;exact decide_eq_false (by lia)
end
section
variable{X:Cx}
def zsx:V->List V->Hp->VK->Prop:=λx vs H Q=>∃l xs y,x=.ref l/\vs=[y]/\H l=ai (.lst xs)/\dP xs<sizeLine/\Q .non (upd H l (.lst (xs++[y])))
theorem ziM:MtM X "list.append" zsx:=by intro pins s σ H x vs v us Q I G J h;obtain⟨l,xs,y,rfl,rfl,C,hz,q⟩:=h;cases G;obtain⟨u,rfl,L⟩:=J.one;obtain⟨z,its,n,r,N,e⟩:=I.lstM C;refine lW F.slot_list_append ⟨_,e,rfl⟩ F.entry_list_append (F.args_list_append_2 _ _) (PySem.list_append l (bm its) n u (by rw[aD];lia)) ⟨e,?_⟩;refine⟨.non,_,I.lset (its':=its++[u]) C e (by simp) (r.append (f6 L ja)) ?_,rfl,q⟩;rw[a9,kM];lia
end
end L2
namespace Att
open PySem PySem.W PySem.Calls PyProof.Rows
theorem zfL{P:uq}{h:bh}:∀(ns:List Int) (vs:List ah),WellAll P h vs (ns.map Dc)->g6 vs ns:=by
 intro ns;induction ns with
 | nil =>intro vs w;rw[dH]at w;cases w;exact .nil
 | cons n ns u =>
  intro vs w;rw[aK]at w;cases w with
  | cons a b =>cases a;exact .cons _ _ (u _ b)
theorem zm9{l:OpenLaw}{n:Nat}(Z:l.most=ai n){P:uq}{h:bh}{args:List WData}{vals:List ah}
  (I:l.row.toRowW.claim.pre args=bj) (G:WellAll P h vals args) :
  ∃a vs ns,vals=[aZ a]/\args=[WData.list (ns.map Dc)]/\be h a=ai { cls:=aY "list",data:=f9 (bm vs) }/\g6 vs ns/\dP ns<=n:=by
 have C:WShape.hasAll [] args [.list .int]=bj:=(pre_splitW I).1;have hc:l.pre.holds [] { args:=args }=bj:=(pre_splitW I).2;obtain⟨d,r,rfl,U,J⟩:=hasAllW_cons C;obtain rfl:=hasAllW_nil J;obtain⟨xs,rfl,N⟩:=hasW_list U;obtain⟨ns,rfl⟩:=items_int N;have u:dP ns<=n:=by
  unfold OpenLaw.pre at hc;have v:(WTm.not (.lt (.lit (Dc (n:Int))) (.len (.arg 0)))).holds [] { args:=[.list (ns.map Dc)] }=bj:=by have v:=(holds_andW hc).1;rw[Z]at v;exact v
  have x:=condW_of v (w_not (w_lt w_lit (w_len_list (w_arg rfl))));rw[aI]at x;refine sL λq=>?_;have L:(n:Int)<((dP ns:Nat):Int):=by lia
  first
   | (rw[decide_eq_true L]at x;exact absurd x (by decide))
   | (simp at x;lia)
 cases G with
 | cons S w2 =>
  cases w2;cases S with
  | list Y R=>exact⟨_,_,ns,rfl,rfl,Y,zfL ns _ R,u⟩
theorem znC(l:OpenLaw)(args:List WData):l.row.toRowW.claim.post args (jy bj) args=bj :=
 postW_of (r:=l.row.toRowW) (X:=(bj == bj))
  (show Bw [] (jy bj) .bool=bj by first|rfl|decide|simp[Bw,WShape.arms,WShape.armsAll])
  (show(WTm.eq .res (.lit (jy bj))).value [] { args:=args,res:=ai (jy bj),after:=args }=ai (jy (bj == bj)) from w_eq_bool (w_res rfl) w_lit) rfl
theorem attach_call{l:OpenLaw}{n:Nat}{q:aL}{loose:List Str}{XP:(Str->Option ah)->bh->Prop}{YP:aV->bh->Prop}{d:DefRec}
  (hn:l.most=ai n) (S:d.params.defaults=[])
  (call:∀(w:aV) (s₀ v:au) (mg N:qM) (C:aq) (o:Obj) (pm cd doc:ah) (a:aq) (vs:List ah) (ns:List Int),
   Ground q loose [] XP w s₀ mg N v.heap->YP w v.heap ->
   be v.heap C=ai o->f7 o=jw (docDef d.name d.params d.body d.scope pm cd doc)->v.heap.CodeRec cd d.name->mg d.name=ai (aZ C) ->
   be v.heap a=ai { cls:=aY "list",data:=f9 (bm vs) }->g6 vs ns->dP ns<=n->jh v=#[] ->
   codeAny (model l.prog w) callerA (.call (aZ C) ⟨[aZ a],[]⟩) (λr s'=>r=.ok (Ag (nH bj))/\OldK v.heap s'.heap/\s'.os=v.os/\lG s'.gens) v) :
  WalkO q loose XP YP l.row.toRowW d [] (λf vs=>Bx f vs):=by
 intro w s₀ v mg N G Y C o pm cd doc dV kV ho hd L hD R hg args vals as OK Z hrd U hlo;obtain rfl:dV=dM:=Dflts.none hD S;obtain rfl:kV=dM:=Dflts.noKw hD;obtain⟨a,vs,ns,rfl,rfl,I,x,J⟩:=zm9 hn OK U;refine enter_call (ka (call w s₀ v mg N C o pm cd doc a vs ns G Y ho (fd_plain hd) L R I x J hg) λr s' hq=>?_);obtain⟨rfl,h2,h3,h4⟩:=hq;exact⟨fj ⟨nH bj,jy bj,[],rfl,λ_=>rfl,.bool bj,znC l _,λ_=>⟨mL,λ_ hm=>(nomatch hm)⟩⟩,h2,h3,h4⟩
end Att
namespace L2
open PySem PySem.Spec PyProof.Rows
theorem zmM{vs:List ah}{ns:List Int}(h:g6 vs ns):Vals (ns.map V.int) vs:=by
 induction h with
 | nil=>exact ja
 | cons n t h u=>exact f6 ⟨t,rfl⟩ u
def Only(H:Hp):Prop:=∀b,H b=ao\/∃o xs,H b=ai (.frz o (.lst xs))
theorem zqx{P:aL}{w:aV}{K:qF}{mg mb:qM}{CX:CXT}{k:Nat}{fa a:aq}{fd:dO}{x:Str}{sp:Sp}{C:au}{vs:List ah}{ns:List Int}
  (KX:K.In C.heap) (U:C.heap.Ns mainGlobals mg) (G:C.heap.Ns builtinsNs mb) (hbb:∀x:Str,x ≠ "__name__" -> mb x=bootBuiltins x) (S:C.heap.NoLimit) (hg:jh C=#[])
  (Z:be C.heap a=ai { cls:=aY "list",data:=f9 (bm vs) }) (hi:g6 vs ns) (hl:dP ns<=sizeLine) (hr:Room k callerA)
  (F:∀base:bh,K.In base->base.Ns mainGlobals mg->FnOk P w K mg base CX k fa fd [x] sp) (OV:∀(s:au) (u:ah),t8 s fd ⟨[u],[]⟩ [(x,u)])
  (hsp:∀H:Hp,Only H->SqL K H a (ns.map V.int)->sp [.ref a] H (λv _=>v=.bl bj) λ_ _ _=>False)
  (hCX:∀H e s',CX [] H C (λ_ _ _=>False) e s'->False) :
  codeAny (model P w) callerA (.call (aZ fa) ⟨[aZ a],[]⟩) (λr s'=>r=.ok (Ag (nH bj))/\OldK C.heap s'.heap/\s'.os=C.os/\lG s'.gens) C:=by
 have rv:=zmM hi;have R:=hi.length;have core:∀H:Hp,Only H->SqL K H a (ns.map V.int)->HOk P w H C.heap->(∀b,H b≠ao->b=a)->(H a≠ao->K.lookup a=ao) ->
   codeAny (model P w) callerA (.call (aZ fa) ⟨[aZ a],[]⟩) (λr s'=>r=.ok (Ag (nH bj))/\OldK C.heap s'.heap/\s'.os=C.os/\lG s'.gens) C:=by
  intro H hO hS hok hA hK;have OE:∀{b:aq} {o:Obj},be C.heap b=ai o->H b=ao->be (hidT C.heap H) b=ai o:=λe n=>zqJ e n;have noA:∀{b:aq} {o:Obj} {es:Array fy} {ep:Nat},be C.heap b=ai o->f7 o=jk es ep->H b=ao:=λ{b o es ep} e d=>by
   cases q:H b with
   | none=>rfl
   | some u =>have e':b=a:=hA b (by rw[q];simp);subst e';rw[Z]at e;cases e;have d':Data.seq (bm vs) _=Data.dict es ep:=d;cases d'
  have I:∀{b:aq} {m:qM},C.heap.Ns b m->(hidT C.heap H).Ns b m:=λ{b m} ⟨o,es,ep,e,d,r⟩=>⟨o,es,ep,OE e (noA e d),d,r⟩;have L:K.In (hidT C.heap H):=λb o e=>OE (KX b o e) (by
   cases q:H b with
   | none=>rfl
   | some u =>have e':b=a:=hA b (by rw[q];simp);subst e';rw[hK (by rw[q];simp)]at e;cases e)
  have hM:Mod K mg (hidT C.heap H):=⟨L,I U,⟨mb,I G,hbb⟩,let ⟨mc,h1,h2⟩:=S;⟨mc,I h1,h2⟩⟩;have e0:Env0 P w K mg (hidT C.heap H) callerA [] C H:=⟨rfl,hM,λb o e=>zs3 e,Nat.le_of_eq (zot _ _),trivial,λb G=>absurd (show b∈([]:List aq) from G) (by simp),hok,.of_eq hg⟩;refine ka ((F _ L (I U)).run callerA [] C H ⟨[aZ a],[]⟩ [aZ a] [.ref a] _ _ hr e0 (OV C (aZ a)) (f6 rfl ja) (hsp H hO hS)) λr s' h=>?_;cases r with
  | error e=>exact(hCX H e s' h).elim
  | ok fl =>
   cases fl with
   | next=>exact eJ h
   | brk=>exact eJ h
   | cont=>exact eJ h
   | ret u =>
    obtain⟨v,H',os,bare,un,Y,r',q⟩:=h;have q':v=.bl bj:=q;subst q';obtain rfl:u=nH bj:=r';refine⟨rfl,OldK.of_keep λb o e=>?_,os,bare⟩;cases q:H b with
    | none=>exact un.keep b o e q (by intro z;exact absurd (show b∈([]:List aq) from z) (by simp)) (by simp)
    | some u =>rcases hO b with z|⟨ob,xs,z⟩;rw[q]at z;cases z;have z2:=un.frzs b ob _ z;obtain⟨e1,_⟩:=hok b _ z;obtain⟨e2,_⟩:=Y b _ z2;rw[e]at e1;cases e1;exact e2
 cases hk:K.lookup a with
 | some o =>have e:=KX a o hk;rw[Z]at e;cases e;refine core (λ_=>ao) (λ_=>fj rfl) (xw ⟨_,bm vs,_,hk,rfl,rfl,rfl,by rw[aD,R];exact hl,by simpa using rv⟩) (λb u z=>by have J:(ao:Option HO)=ai u:=z;cases J) (λb z=>absurd rfl z) λz=>absurd rfl z
 | none =>refine core (λb=>if b=a then ai (.frz { cls:=aY "list",data:=f9 (bm vs) } (.lst (ns.map V.int))) else ao) (λb=>?_) (fj (xw ⟨{ cls:=aY "list",data:=f9 (bm vs) },if_pos rfl⟩)) (λb u z=>?_) (λb z=>?_) λ_=>hk;by_cases G:b=a;exact xw ⟨_,_,if_pos G⟩;exact fj (if_neg G);by_cases G:b=a;have J:=(if_pos G).symm.trans z;cases J;subst G;exact⟨Z,by rw[aI];exact hl,vs,_,rv,Z⟩;have J:=(if_neg G).symm.trans z;cases J;by_cases G:b=a;exact G;exact absurd (if_neg G) z
def QN(s:eW):Arguments:=match s with
 | jd _ a _ _ _ _ _ _ _ _=>a
 | _=>{ posonlyargs:=[],args:=[],vararg:=ao,kwonlyargs:=[],kw_defaults:=[],kwarg:=ao,defaults:=[] }
def J9(s:eW):List eW:=match s with
 | jd _ _ b _ _ _ _ _ _ _=>b
 | _=>[]
def JI(s:eW):fv:=match s with
 | jd _ _ _ _ _ _ sc _ _ _=>sc
 | _=>{ kind:=ir,names:=[],isGenerator:=bA,isCoroutine:=bA }
abbrev CX0:CXT:=λ_ _ _ _ _ _=>False
abbrev E0:XK:=λ_ _ _=>False
theorem zzD{X:Cx}:zpv CX0 X E0:=λ_ _ _ _ _ _ _ h=>eJ h
structure Fun(K:qF)(x qual:Str)(st:eW)(f:aq)(fd:dO):Prop where
 ex:∃(oc:ah) (od:Option aq) (kV doc pm:ah) (an:Option aq) (cdv ct:ah) (osl:Array (Option ah)),
  fd=dX x qual (QN st) (J9 st) (JI st) dM kV doc pm an cdv ct/\K.lookup f=ai ⟨oc,od,jw fd,osl⟩/\kc K cdv qual=true
 kp:kb K (aZ f)=true
section
variable{P:aL}{w:aV}{K:qF}{mg:qM}{base:bh}
theorem Fun.ok{x qual:Str}{st:eW}{f:aq}{fd:dO}{N ps:List Str}{k:Nat}{v:Sp}(F:Fun K x qual st f fd)(S:Uy N ps (JI st))(len:∀vs H Q E,v vs H Q E->dP vs=dP ps)
  (I:∀(l:ah) (A:bq) (outer:List Env) (s:au) (H:Hp) (vs:List V) (Q:VK) (E:XK),Room k (A.deeper (envOfC qual (JI st) s.heap.objs.size f l))->v vs H Q E ->
   ∃t,PSs (cxOf CX0 P w K mg base N qual (JI st) f l A outer s H E).nox (J9 st) t/\t { nx:=λ_ H'=>Q .non H',rt:=Q } (start N vs) H):FnOk P w K mg base CX0 (k+1) f fd ps v:=by
 obtain⟨U,R,kV,doc,pm,an,l,ct,G,rfl,J,u⟩:=F.ex;refine zAt J u S len λA outer s H vs Q E L C=>?_;obtain⟨t,h,q⟩:=I l A outer s H vs Q E L C;exact⟨t,h.nox,q⟩
theorem Fun.binds{x qual:Str}{st:eW}{f:aq}{fd:dO}{ps:List Str}(F:Fun K x qual st f fd)
  (h:∀(kV doc pm:ah) (an:Option aq) (u ct:ah) (us:List ah),dP us=dP ps->bindArgs (dX x qual (QN st) (J9 st) (JI st) dM kV doc pm an u ct) ⟨us,[]⟩=pure (ps.zip us)):Binds K fd ps []:=by
 obtain⟨J,I,kV,doc,pm,an,u,ct,C,rfl,G,v⟩:=F.ex;exact .all (h kV doc pm an u ct)
theorem zrO{x qual:Str}{st:eW}{f:aq}{G:ah}{I an:Option aq}{C:Array (Option ah)}{kV doc pm v ct:ah}(l:K.lookup f=ai ⟨G,I,jw (dX x qual (QN st) (J9 st) (JI st) dM kV doc pm an v ct),C⟩)
  (c:kc K v qual=bj) (k:kb K (aZ f)=bj):Fun K x qual st f (dX x qual (QN st) (J9 st) (JI st) dM kV doc pm an v ct):=⟨⟨G,I,kV,doc,pm,an,v,ct,C,rfl,l,c⟩,k⟩
variable{X:Cx}
theorem pv(i:Nat){x:Str}{pos:Pos}(o:X.N[i]?=ai x:=by rfl)(u:Vis (cu X.env) x:=by walk_at "V")(hd:Ndb x:=by decide)
  (l:Ncd x:=by decide):PE X (bn x pos) (tVar i):=QJ o u hd l
end
theorem iteF{A B:Prop}(h:B):if bA=bj then A else B:=by rw[if_neg a8];exact h
theorem iteT{A B:Prop}(h:A):if bj=bj then A else B:=by rw[if_pos rfl];exact h
def Same(H H':Hp):Prop:=∀b o,H b=ai o->H' b=ai o
theorem Same.refl(H:Hp):Same H H:=λ_ _ h=>h
end L2
namespace L2
open PySem PySem.Spec PyProof PyProof.Rows
def closed(env:Env):List (Str×eU)->List (Str×aq)->List (Str×aq)
 | [],acc=>acc
 | (n,k)::r,acc=>closed env r (if (k == cB)=bj then(n,(env.cells.lookup n).getD 0)::acc else acc)
theorem zfZ{env:Env}:∀(l:List (Str×eU)) (acc:List (Str×aq)),(∀x∈l,x.2=cB->∃c,env.cells.lookup x.1=ai c) ->
  (forIn l acc λx __s=>if (x.snd == cB)=bj then do
    let c <- cellOf env x.fst
    pure (iT ((x.fst,c)::__s))
   else pure (iT __s):Sem (List (Str×aq)))=pure (closed env l acc)
 | [],acc,_=>rfl
 | (n,k)::r,acc,h=>by
  have u:=λa=>zfZ (env:=env) r a λx hx=>h x (cO _ hx);rw[iU];by_cases e:(k == cB)=bj;obtain⟨c,hc⟩:=h (n,k) eI (by simpa using e);have o:yQ n (hJ env)=ai c:=hc;have C:cellOf env n=pure c:=by unfold cellOf;rw[o]
  simp only[e,if_true,C,pure_bind];rw[u];conv=>rhs;unfold closed
  simp only[e,if_true,o,fz];have v:(k == cB)=bA:=by simpa using e
  simp only[v,aJ,if_false,pure_bind];rw[u];conv=>rhs;unfold closed
  simp only[v,aJ,if_false]
theorem zb8{scope:fv}{env:Env}(h:∀x∈ce scope,x.2=cB->∃c,env.cells.lookup x.1=ai c):closureFor scope env=pure (closed env (ce scope) []):=by simp only[closureFor];rw[zfZ (ce scope) [] h];rfl
theorem zg4{env:Env}:∀(l:List (Str×eU)) (acc:List (Str×aq)),(∀x∈l,x.2=cB->∃c,env.cells.lookup x.1=ai c) ->
  (∀x c,acc.lookup x=ai c->env.cells.lookup x=ai c)->∀x c,(closed env l acc).lookup x=ai c->env.cells.lookup x=ai c
 | [],acc,_,ha=>ha
 | (n,k)::r,acc,h,ha=>by
  unfold closed;refine zg4 r _ (λx hx=>h x (cO _ hx)) λx c=>?_;by_cases e:(k == cB)=bj;obtain⟨d,hd⟩:=h (n,k) eI (by simpa using e);have v:yQ n (hJ env)=ai d:=hd;simp only[e,if_true,v,fz];intro q;rw[dQ]at q;by_cases ex:(x == n)=bj;simp only[ex]at q;have C:x=n:=by simpa using ex
  cases q;rw[C];exact v;have G:(x == n)=bA:=by simpa using ex
  simp only[G]at q;exact ha x c q;have I:(k == cB)=bA:=by simpa using e
  simp only[I,aJ,if_false];exact ha x c
theorem zg6{env:Env}:∀(l:List (Str×eU)) (acc:List (Str×aq)) (x:Str),(∃c,acc.lookup x=ai c)->∃c,(closed env l acc).lookup x=ai c
 | [],_,_,h=>h
 | (n,k)::r,acc,x,h=>by
  unfold closed;refine zg6 r _ x ?_;by_cases e:(k == cB)=bj;simp only[e,if_true];rw[dQ];cases(x == n) with
  | true=>exact⟨_,rfl⟩
  | false=>exact h
  have v:(k == cB)=bA:=by simpa using e
  simp only[v,aJ,if_false];exact h
theorem zg5{env:Env}:∀(l:List (Str×eU)) (acc:List (Str×aq)) (x:Str),(x,cB)∈l->∃c,(closed env l acc).lookup x=ai c
 | [],_,_,h=>nomatch h
 | (n,k)::r,acc,x,h=>by unfold closed;rcases ax.mp h with e|h;cases e;refine zg6 r _ _ ?_;have v:(cB == cB)=bj:=rfl;simp only[v,if_true];rw[dQ];simp;exact zg5 r _ x h
theorem lookup_mem{α:Type}{l:List (Str×α)}{x:Str}{v:α}(h:l.lookup x=ai v):(x,v)∈l:=by
 induction l with
 | nil=>simp at h
 | cons p r u =>
  obtain⟨n,w⟩:=p;rw[dQ]at h;by_cases e:(x == n)=bj;simp only[e]at h;cases h;have o:x=n:=by simpa using e
  rw[o];exact eI;have C:(x == n)=bA:=by simpa using e
  simp only[C]at h;exact cO _ (u h)
def Ul(env:Env)(p:Str×eU):Str×eU:=if (p.2 == cB&&env.scope.kind == ir&&ip env p.1 == ai kY)=bj then(p.1,kY) else p
theorem zns(env:Env)(p:Str×eU):(Ul env p).1=p.1:=by unfold Ul;by_cases c:(p.2 == cB&&env.scope.kind == ir&&ip env p.1 == ai kY)=bj;rw[if_pos c];rw[if_neg c]
def kin(env:Env)(x:Str):Option eU->Option eU
 | some cB=>if (env.scope.kind == ir&&ip env x == ai kY)=bj then ai kY else ai cB
 | o=>o
theorem znr(env:Env)(x:Str)(k:eU):ai (Ul env (x,k)).2=kin env x (ai k):=by
 unfold Ul;by_cases c:(k == cB&&env.scope.kind == ir&&ip env x == ai kY)=bj;rw[if_pos c];rw[bT,bT]at c;have v:k=cB:=by simpa using c.1.1
 subst v;unfold kin;rw[if_pos (by rw[bT];exact⟨c.1.2,c.2⟩)];rw[if_neg c];cases k with
 | free =>have:¬(env.scope.kind == ir&&ip env x == ai kY)=bj:=λz=>c (by have C:(cB == cB)=bj:=rfl;rw[C,gX];exact z);unfold kin;rw[if_neg this]
 | _=>rfl
theorem zhg(scope:fv)(env:Env):ce (relabel scope env)=scope.names.map (Ul env):=by show scope.names.map _=_;refine iF λp _=>?_;obtain⟨n,k⟩:=p;rfl
theorem zgt(env:Env):∀(l:List (Str×eU)) (x:Str),(l.map (Ul env)).lookup x=kin env x (l.lookup x)
 | [],_=>rfl
 | (n,k)::r,x=>by
  have v:=zgt env r x;have I:Ul env (n,k)=(n,(Ul env (n,k)).2):=dD (zns env (n,k)) rfl;rw[aK,I,dQ,dQ];by_cases e:(x == n)=bj;have C:x=n:=by simpa using e
  subst C;simp only[beq_self_eq_true];exact znr env x k;have G:(x == n)=bA:=by simpa using e
  simp only[G];exact v
theorem zex(scope:fv)(env:Env)(x:Str):(relabel scope env).names.lookup x=kin env x (scope.names.lookup x):=by rw[zhg];exact zgt env _ x
def tbH(A B:Hp):Hp:=λb=>match A b with
 | some (.tbl q)=>ai (.tbl q)
 | _=>B b
theorem zmU{A B:Hp}(h:∀b q,A b=ai (.tbl q)->B b=ai (.tbl q)):tbH A B=B:=funext λb=>by unfold tbH;split;rename_i q e;exact(h b q e).symm;rfl
abbrev capN(X:Cx)(capt:List Nat):List Str:=capt.map λi=>X.N.getD i gW
abbrev capS(capt:List Nat)(σ:St):St:=capt.map λi=>σ.getD i ao
abbrev Qt(own:List Str):St:=own.map λ_=>ao
def celO(scope:fv)(C:aq):List (Str×aq):=cellsFrom (C+1) (ce scope) []
def ownCl(X:Cx)(scope:fv)(C:aq):List (Str×aq):=celO scope C++closed X.env (ce scope) []
abbrev Q8(X:Cx)(scope:fv)(own:List Str)(capt:List Nat)(C:aq)(s₀:au)(H₀:Hp)(fp:List aq):Cx :=
 { X with N:=own++capN X capt,s₀:=s₀,H₀:=tbH X.H₀ H₀,env:=compEnvC scope (ownCl X scope C) C X.env,outer:=X.stack,stack:=X.stack,ex:=fp,fn:=λy=>scope.names.lookup y == ai kY,pn:=[],xe:=λ_ _=>False }
abbrev Fam(X:Cx)(scope:fv)(own:List Str)(capt:List Nat)(P:Cx->Prop):Prop:=∀C s₀ H₀ fp,P (Q8 X scope own capt C s₀ H₀ fp)
theorem zpa{cl:List (Str×aq)}(names:List (Str×eU)):∀(n:Nat) (acc:List (Str×aq)),cellsFrom n names (acc++cl)=cellsFrom n names acc++cl:=by
 induction names with
 | nil=>exact λ_ _=>rfl
 | cons a r l =>obtain⟨x,k⟩:=a;intro n acc;unfold cellsFrom;by_cases z:(k == kY)=bj;rw[if_pos z,if_pos z];exact l (n+1) ((x,n)::acc);rw[if_neg z,if_neg z];exact l n acc
theorem zo_{x:Str}{c:aq}(names:List (Str×eU)):∀(n:Nat) (acc:List (Str×aq)),(x,c)∈cellsFrom n names acc->(x,kY)∈names\/(x,c)∈acc:=by
 induction names with
 | nil=>exact λ_ _ h=>xw h
 | cons a r o =>obtain⟨y,k⟩:=a;intro n acc h;unfold cellsFrom at h;by_cases z:(k == kY)=bj;rw[if_pos z]at h;rcases o _ _ h with h|h;exact fj (io _ h);rcases ax.mp h with e|h;cases e;rw[eq_of_beq z];exact fj (hH _);exact xw h;rw[if_neg z]at h;exact(o _ _ h).imp (io _) id
theorem V9{scope:fv}{h':bh}{C n b c:Nat}{x:Str}(u:t9 h' (C+1) (celO scope C))(l:n<=C)(z:(x,c)∈celO scope C)(o:b<n):c≠b:=λe=>by subst e;exact ft _ (aP (aP o l) (mM (u.empty _ _ z).2))
structure Jv(scope:fv)(own:List Str)(capt:List Nat)(X:Cx):Prop where
 kind:scope.kind=ir
 nov:∀y∈ce scope,y.2=cB->(y.1,kY)∉ce scope
 names:∀y∈ce scope,y.2=.local->scope.names.lookup y.1=ai .local
 frees:∀y∈ce scope,y.2=cB->ip X.env y.1=ai kY\/ip X.env y.1=ai cB
 caps:∀k∈capt,scope.names.lookup (X.N.getD k gW)=ai cB
theorem getD_some{α:Type}{l:List (Option α)}{k:Nat}{v:α}(h:l.getD k ao=ai v):l[k]?=ai (ai v):=by
 rw[bo]at h;cases e:l[k]? with
 | none=>rw[e]at h;cases h
 | some o=>rw[e]at h;simp at h;rw[h]
section
variable{X:Cx}{scope:fv}{own:List Str}{capt:List Nat}
theorem Jv.cells(S:Jv scope own capt X)(ok:X.Ok):∀x∈ce scope,x.2=cB->∃c,X.env.cells.lookup x.1=ai c:=λx hx hf=>ok.has x.1 (S.frees x hx hf)
theorem Jv.sub(S:Jv scope own capt X)(ok:X.Ok):∀x c,(closed X.env (ce scope) []).lookup x=ai c->X.env.cells.lookup x=ai c :=
 zg4 (ce scope) [] (S.cells ok) (λx c h=>nomatch (show(ao:Option aq)=ai c from h))
theorem Jv.cell(S:Jv scope own capt X)(ok:X.Ok){C:aq}{x:Str}{c:aq}(h:(ownCl X scope C).lookup x=ai c):(x,c)∈celO scope C\/X.env.cells.lookup x=ai c:=by
 rw[ownCl,iZ]at h;cases e:(celO scope C).lookup x with
 | some d =>rw[e]at h;cases h;exact fj (mem_of_lookup e)
 | none =>rw[e]at h;exact xw (S.sub ok x c h)
theorem Jv.free(S:Jv scope own capt X){C:aq}{x:Str}(h:scope.names.lookup x=ai cB):∃d,(closed X.env (ce scope) []).lookup x=ai d/\(ownCl X scope C).lookup x=ai d:=by
 obtain⟨d,hd⟩:=zg5 (env:=X.env) (ce scope) [] x (lookup_mem h);refine⟨d,hd,?_⟩;rw[ownCl,iZ];cases e:(celO scope C).lookup x with
 | none=>exact hd
 | some q =>rcases zo_ _ _ _ (mem_of_lookup e) with z|z;exact absurd z (S.nov _ (lookup_mem h) rfl);cases z
theorem zlD{x:Str}(h:(relabel scope X.env).names.lookup x=ai kY\/(relabel scope X.env).names.lookup x=ai cB):scope.names.lookup x=ai kY\/scope.names.lookup x=ai cB:=by
 rw[zex]at h;cases q:scope.names.lookup x with
 | none=>rw[q]at h;rcases h with z|z <;> cases z
 | some k =>
  rw[q]at h;cases k with
  | free=>exact xw rfl
  | cell=>exact fj rfl
  | _=>rcases h with z|z <;> cases z
theorem zt6{pins:qO}{σ:St}{H₀:Hp}{s₀:au}{C:aq}{L:List aq}{h':bh}(S:Jv scope own capt X)(I:Inv X pins σ H₀ s₀)(hf:∀b∈L,FpOk X pins H₀ b)(R:∀b∈L,b<ap s₀.heap.objs)(G:ap s₀.heap.objs<=C)(J:t9 h' (C+1) (celO scope C)) :
  (Q8 X scope own capt C s₀ H₀ L).Ok:=by
 have old:∀{x y c},(x,c)∈celO scope C->X.env.cells.lookup y=ai c->False:=λh hz=>by obtain⟨w,q⟩:=I.cell _ _ hz;exact V9 J G h q.lt rfl
 unfold Q8;rw[zmU I.base.tbls];refine⟨I.ok.mod,S.kind,I.ok.glob,I.ok.blt,G,λx y c h1 Z=>?_,λx hk=>?_,λx c z h=>?_,I.ok.hd,I.ok.frames,fj rfl,λb v=>?_,I.bs,bu I.ok.bsz I.sz,λb o e v=>?_,λb v z=>?_,I.stack,I.stkFree⟩;rcases S.cell I.ok h1 with a|a <;> rcases S.cell I.ok Z with b|b;exact name_of_addr J.apart a b;exact(old a b).elim;exact(old b a).elim;exact I.ok.inj x y c a b;rcases zlD hk with q|q;have:=gF (ce scope) (C+1) [] (fj q);show ∃c,(ownCl X scope C).lookup x=ai c;rw[ownCl,iZ];obtain⟨d,hd⟩:=iJ.mp this;exact⟨d,by rw[celO,hd];rfl⟩;exact let ⟨d,_,e⟩:=S.free q;⟨d,e⟩;have q:=gF (ce scope) (C+1) [] (fj (eq_of_beq z));obtain⟨d,hd⟩:=iJ.mp q;have h:(ownCl X scope C).lookup x=ai c:=h;rw[ownCl,iZ,celO,hd]at h;cases h;have:=(J.empty _ _ (mem_of_lookup hd)).2;exact bu G (mM this);obtain⟨f0,f1,f2,N,f4,U⟩:=hf b v;have Y:=R b v;refine⟨aO (aP Y G),λx c e=>?_⟩;rcases S.cell I.ok e with z|z;exact V9 J G z Y;exact f4 x c z;obtain⟨f0,f1,f2,N,f4,U⟩:=hf b v;rcases N with z|z;exact I.ok.noex b o e z;exact absurd (aP (aB (I.ok.bs b o e).1) z) (ft _);obtain⟨f0,f1,f2,N,f4,U⟩:=hf b v;rcases ax.mp (I.stkSub b z) with q|q;exact f1 q;exact f2 q
theorem zo3{J:HO}{pins:qO}{σ:St}{H₀:Hp}{s₀:au}{fp:List aq}{h':bh}{D C:aq}(S:Jv scope own capt X)(I:Inv X pins σ H₀ s₀)(hf:∀b∈fp,FpOk X pins H₀ b)(hfp:∀b∈fp,b<ap s₀.heap.objs)
  (hD:ap s₀.heap.objs<=D) (U:D<C) (old:∀b o,be s₀.heap b=ai o->be h' b=ai o) (hns:h'.Ns C (λ_=>ao)) (ck:t9 h' (C+1) (celO scope C)) (R:JE X.prog X.w (upd H₀ D J) h' D J) :
  Inv (Q8 X scope own capt C s₀ H₀ fp) [] (Qt own++capS capt σ) (upd H₀ D J) { s₀ with heap:=h' }:=by
 have hC:ap s₀.heap.objs<=C:=ig (fE hD U);have ok:=zt6 (own:=own) (capt:=capt) S I hf hfp hC ck;have hn:H₀ D=ao:=I.hok.fresh hD;unfold Q8 at ok ⊢;rw[zmU I.base.tbls]at ok ⊢;refine⟨ok,rfl,I.bare,Un.laid old hD hn,⟨_,hns,λi x v e1 L e3=>?_⟩,λx c e=>?_,?_,λx c e=>?_,λp hp=>absurd (show p∈([]:qO) from hp) (by simp),I.hok.laid (o:=J) old hD R,(by show(Qt own++capS capt σ).length=dP (own++capN X capt);simp[Qt,capS,capN])⟩;have N:dP (Qt own)=dP own:=aI ..;by_cases hi:i<dP own;rw[bY (by rw[N];exact hi)]at L;unfold Qt at L;rw[aT]at L;cases q:own[i]? with
 | none=>rw[q]at L;cases L
 | some z=>rw[q]at L;cases L
 have Y:dP own<=i:=sL hi;have G:(own++capN X capt)[i]?=ai x:=e1;rw[cQ Y]at G;rw[cQ (by rw[N];exact Y),N]at L;unfold capN at G;unfold capS at L;rw[aT]at G L;cases q:capt[i - dP own]? with
 | none=>rw[q]at G;cases G
 | some k =>
  rw[q]at G L;have ex:X.N.getD k gW=x:=aG G;have ev:σ.getD k ao=ai v:=aG L;have hv:=getD_some ev;have Z:k<dP X.N:=by rw[<- I.len];exact(aw.mp hv).1
  have hx:X.N[k]?=ai x:=by rw[bo,ay Z]at ex;rw[ay Z];exact congrArg ai ex
  have Ou:=S.caps k (aC q);rw[ex]at Ou;have OC:=S.frees _ (lookup_mem Ou) rfl;obtain⟨m,hm,hl⟩:=I.loc;obtain⟨u,r,l⟩:=hl k x v hx hv (ii OC (λz=>xw (fj z)) λz=>xw (xw z));refine⟨u,r,xw ⟨?_,?_⟩⟩;have e:=zex scope X.env x;rw[Ou]at e;show(relabel scope X.env).names.lookup x=ai kY\/(relabel scope X.env).names.lookup x=ai cB;rw[e];unfold kin;by_cases c:(X.env.scope.kind == ir&&ip X.env x == ai kY)=bj;rw[if_pos c];exact fj rfl;rw[if_neg c];exact xw rfl;rcases l with⟨z,_⟩|⟨_,c,hc,o,R,hod⟩;rcases OC with y|y <;> (have y':ip X.env x=_:=y;rw[z]at y';cases y');obtain⟨d,hd,hd2⟩:=S.free (C:=C) Ou;have:=S.sub I.ok x d hd;rw[hc]at this;cases this;exact⟨c,hd2,o,old _ _ R,hod⟩
 rcases S.cell I.ok e with z|z;exact⟨ao,(ck.empty _ _ z).1⟩;obtain⟨v,o,R,hd⟩:=I.cell x c z;exact⟨v,o,old _ _ R,hd⟩;show upd H₀ D J C=ao;rw[Jo (i8 U)];exact I.hok.fresh hC;show upd H₀ D J c=ao;rcases S.cell I.ok e with z|z;rw[Jo (V9 ck (av _) z U)];exact I.hok.fresh (bu hC (mM (ck.empty _ _ z).2));obtain⟨v,o,R,hd⟩:=I.cell x c z;rw[Jo (aO (aP (aB R) hD))];exact I.freeC x c z
theorem zq2{pins Ot:qO}{σ σ':St}{H₀ H':Hp}{s₀ s':au}{N:List aq}{l:bh}{C:aq}(I:Inv X pins σ H₀ s₀)(hf:∀b∈N,FpOk X pins H₀ b)(hC:ap s₀.heap.objs<=C)
  (J:Inv (Q8 X scope own capt C s₀ H₀ N) Ot σ' H' s') (R:cY C s'.heap l):Inv X pins σ H' { s' with heap:=l }:=by
 have G:H' C=ao:=J.free;have x:∀b o,be s₀.heap b=ai o->b≠C:=λb o e=>aO (aP (aB e) hC);have u:Un (frs X.stack) N (tbH X.H₀ H₀) H' s₀.heap s'.heap:=J.base;rw[zmU I.base.tbls]at u;have u2:Un (frs X.stack) N H₀ H' s₀.heap l:=by refine⟨λb o q n S L=>b3 (R.2 b (x b o q)) (u.keep b o q n S L),λb o q n S L=>?_,u.free,λb o q L=>?_,u.tups,u.frzs,u.tbls⟩;obtain⟨sl,e⟩:=u.slot b o q n S L;exact⟨sl,b3 (R.2 b (x b o q)) e⟩;obtain⟨o',e⟩:=u.there b o q L;exact⟨o',b3 (R.2 b (x b o q)) e⟩
 have hok:HOk X.prog X.w H' l:=λb ob e=>by refine(J.hok b ob e).stay (λc v hc q=>b3 (R.2 c ?_) q) (λ_ q=>q) (λ_ _ q=>q) λ_ _ _ q=>q;rintro rfl;rcases hc with z|z;subst z;rw[G]at e;cases e;rw[G]at z;cases z
 refine I.call' (s':={ s' with heap:=l }) J.os u2 hok J.bare λb U=>?_;obtain⟨f0,f1,f2,Y,f4,Z⟩:=hf b U;exact⟨Y,f1,f4,Z⟩
end
def PTs(Y:Cx)(ifs:List aX)(t:TT):Prop :=
 ∀(pins:qO) (s:au) (σ:St) (H:Hp) (Q:Bool->Hp->Prop),Inv Y pins σ H s->t σ H Q ->
  wpAny (model Y.prog Y.w) Y.A (forIn ifs bj λc r=>if r=bj then do let ok <- isTrue c Y.env (eval c Y.env);pure (iT ok) else pure (iT r)) (TP Y pins σ Q) Y.xe s
def tYes:TT:=λ_ H Q=>Q bj H
theorem zsA{Y:Cx}:PTs Y [] tYes:=λ_ _ _ H _ I h=>wpAny_tests_nil ⟨H,I,h⟩
theorem zsz{Y:Cx}{c:aX}{t:TT}(h:PT Y c t):PTs Y [c] t:=λpins s σ H Q I q=>wpAny_tests_one (h pins s σ H Q I q)
abbrev NoX:ah->au->Prop:=λ_ _=>False
def Wk:St->St->Prop
 | [],[]=>True
 | none::r,_::r'=>Wk r r'
 | some v::r,o::r'=>o=ai v/\Wk r r'
 | _,_=>False
theorem Wk.weak:∀{σ σ':St},Wk σ σ'->dP σ=dP σ'/\∀(i:Nat) v,σ[i]?=ai (ai v)->σ'[i]?=ai (ai v)
 | [],[],_=>⟨rfl,λ_ _ h=>by simp at h⟩
 | none::r,o::r',h=>by
  obtain⟨a,b⟩:=Wk.weak (σ:=r) (σ':=r') h;refine⟨by simp[a],λi v e=>?_⟩;cases i with
  | zero=>simp at e
  | succ i=>simpa using b i v (by simpa using e)
 | some w::r,o::r',h=>by
  obtain⟨h0,l⟩:o=ai w/\Wk r r':=h;obtain⟨a,b⟩:=Wk.weak l;refine⟨by simp[a],λi v e=>?_⟩;cases i with
  | zero=>rw[h0];simpa using e
  | succ i=>simpa using b i v (by simpa using e)
 | none::_,[],h=>eJ h
 | some _::_,[],h=>eJ h
 | [],_::_,h=>eJ h
abbrev TM:=St->Hp->(Hp->Prop)->Prop
def V6(e:aX)(d:Nat)(l iter:aX)(ifs:List aX)(acc:ah)(env:Env)(nx:Sem Fin->Sem Fin):Prop:=∀it,compTurn e d it acc env=(do
 standAt iter.pos
 match <- pyNext it with
 | none=>pure (Af CP)
 | some v =>
  letOwnedTupleGo l it v
  assign l env v
  let mut ok:=true
  for c in ifs do
   if ok then ok <- isTrue c env (eval c env)
  if ok then nx (again (jf e d it acc env)) else again (jf e d it acc env))
def IsC(e:aX):Prop:=∀(A:bq) (P:aL) (w:aV) (d:Nat) (it acc:ah) (env:Env),(A.under (jf e d it acc env)=A/\(model P w).den (jf e d it acc env)=(compTurn e d it acc env).onRaise λx=>do noteFrame x env;theTreesLotGoes x) /\
 (A.under (jq e d it acc env)=A/\(model P w).den (jq e d it acc env)=(compStart e d it acc env).onRaise λx=>do noteFrame x env;standAt theWindowsPlace)/\(Code.compLoop e d it acc env).quiet=true
def PM(Y:Cx)(nx:Sem Fin->Sem Fin)(l:TM):Prop:=∀(pins:qO) (s:au) (σ:St) (H:Hp) (N:Hp->Prop) (k:Sem Fin) (Q:Fin->au->Prop) (E:qV),Inv Y pins σ H s->l σ H N ->
 (∀s' H',Inv Y pins σ H' s'->N H'->wpAny (model Y.prog Y.w) Y.A k Q E s')->wpAny (model Y.prog Y.w) Y.A (nx k) Q E s
def Zx(g:TG)(tt:TT)(C:TM)(σ:St)(J:It)(I:Hp)(Q:Hp->Prop):Prop:=∃(n:Nat) (W:Nat->Hp->Prop),W 0 I/\∀i o,W i o ->
 (i=n->J.stop i o/\Q o)/\(i<n->J.go i o/\∀x u,J.yld i o x u->g x σ u λl G=>Wk σ l/\tt l G λb v=>if b=bj then C l v (W (i+1)) else W (i+1) v)
section
variable{Y:Cx}{e:aX}{d:Nat}{tg iter:aX}{ifs:List aX}{acc:ah}{nx:Sem Fin->Sem Fin}{g:TG}{tt:TT}{te:TM}{pins:qO}{σ:St}{s:au}{H1:Hp}{Q:Hp->Prop}{R:sI->au->Prop}
theorem zkW(hC:IsC e)(Z:Y.xe=NoX)(hc:Y.calm=bj)(hT:V6 e d tg iter ifs acc Y.env nx)(hg:PG Y tg g)(ht:PTs Y ifs tt)(hm:PM Y nx te){it:aq}{v:List aq}{tn:Nat->bh->Prop}{J:It}(T:Turn Y.prog Y.w Y.K tg J v it tn)
  (Oz:∀{H':Hp},(∀b∈v,H' b=ao)->∀b∈v,FpOk Y pins H' b) (I:Inv Y pins σ H1 s) (st:tn 0 s.heap) (fr:∀b∈v,H1 b=ao) (h:Zx g tt te σ J H1 Q) (hR:∀s' H',Inv Y pins σ H' s'->Q H'->R (.ok CP) s') :
  codeAny (model Y.prog Y.w) Y.A (jf e d (aZ it) acc Y.env) R s:=by
 obtain⟨n,W,w0,turn⟩:=h;refine codeAny_loop (hC Y.A Y.prog Y.w _ _ _ _).2.2 (λm s'=>∃i H',i+m=n/\Inv Y pins σ H' s'/\tn i s'.heap/\(∀b∈v,H' b=ao)/\W i H') ?_ n ⟨0,H1,eS _,I,st,fr,w0⟩;rintro m s4 ⟨i,H4,him,I4,st4,fr4,w4⟩;rw[(hC Y.A Y.prog Y.w _ _ _ _).1.1,(hC Y.A Y.prog Y.w _ _ _ _).1.2];refine wpAny_noted (cn (E:=NoX) ?_ (λ_ _ q=>q) λ_ _ z=>eJ z);rw[hT];refine aa (eR (aa ?_));obtain⟨t1,t2⟩:=turn i H4 w4;by_cases hi:i=n
 ·obtain⟨stop,qn⟩:=t1 hi;refine thn (T.done Y rfl rfl rfl hc i pins s4 _ H4 NoX I4 (Oz fr4) st4 stop) λr s5 l=>?_;obtain⟨hr,I5⟩:=l;subst hr;exact af (hR _ _ I5 qn)
 obtain⟨go,step⟩:=t2 (by omega);refine thn (T.item Y rfl rfl rfl hc i pins s4 _ H4 NoX I4 (Oz fr4) st4 go) λr s5 l=>?_;obtain⟨u,hr,h5⟩:=l;subst hr;refine aa (thn h5 λ_ s6 l=>aa ?_);obtain⟨x,H6,I6,r6,y6,C,fr6⟩:=l;have a1:=hg _ s6 _ H6 x u _ (I6.pinned (Oz fr6) (T.obj _ _ C)) r6 (step x H6 y6);rw[Z]at a1;refine thn a1 λ_ s7 l=>aa ?_;obtain⟨G,H7,I7,wk,q7⟩:=l;obtain⟨wl,wv⟩:=wk.weak;have again:∀{U:au} {N:Hp},Inv Y (pins++ZQ v s6.heap) G N U->W (i+1) N->∃m',m'<m/\∃i H',i+m'=n/\Inv Y pins σ H' U/\tn i U.heap/\(∀b∈v,H' b=ao)/\W i H':=λ{U N} I8 w8=>by have pn:∀{b o},b∈v->be s6.heap b=ai o->_:=λ{b o} S e=>I8.pin (b,o) (cK _ (cK _ (zeg S e)));refine⟨m - 1,by omega,i+1,N,by omega,(I8.unpinned).weak wl wv,T.keep _ _ _ C λb S o e=>(pn S e).1,λb S=>?_,w8⟩;obtain⟨o,e,d⟩:=T.obj _ _ C b S;exact(pn S e).2.1
 have a2:=ht _ s7 G H7 _ I7 q7;rw[Z]at a2;refine thn a2 λok U l=>?_;obtain⟨N,I8,q8⟩:=l;cases ok with
 | false=>exact af ⟨rfl,again I8 (by simpa using q8)⟩
 | true=>exact hm _ U G N _ _ _ _ I8 (by simpa using q8) λs' H' I' w'=>af ⟨rfl,again I' w'⟩
theorem zh6{prog:aL}{w:aV}{A:bq}{it:ah}{env:Env}(u:IsC e)(v:(clausesOf e)[d]?=ai ⟨tg,iter,ifs,0⟩)
  (h0:codeAny (model prog w) A (jf e d it acc env) R s)
  (h:wpAny (model prog w) A (pyIter it) (λl s'=>codeAny (model prog w) A (jf e d l acc env) R s') (notedBy (model prog w) A env λx s'=>R (.error x) s') s) :
  codeAny (model prog w) A (jq e d it acc env) R s:=by
 refine tJ ?_;rw[(u A prog w _ _ _ _).2.1.1,(u A prog w _ _ _ _).2.1.2];refine wpAny_notedAt ?_;unfold compStart;rw[v];show wpAny _ _ (PySem.ask >>= _) _ _ s;refine aa (fA (wpAny_ite ?_));split;first
  | exact aa (af (af (pE (u A prog w _ _ _ _).2.2 h0)))
  | exact af (pE (u A prog w _ _ _ _).2.2 h0)
 first
  | exact aa (dh (aa (eR (aa (cn h (λl s' h'=>af (pE (u A prog w _ _ _ _).2.2 h')) λ_ _ x=>x)))))
  | (refine aa (dh ?_);show wpAny _ _ (standAt iter.pos >>= _) _ _ s;exact aa (eR (aa (cn h (λl s' h'=>af (pE (u A prog w _ _ _ _).2.2 h')) λ_ _ x=>x))))
def nxN(e:aX)(d:Nat)(it2:aX)(acc:ah)(env:Env)(k:Sem Fin):Sem Fin:=do
 let x <- eval it2 env
 standAt it2.pos
 let x <- foldedSetIterable it2 env x;let _ <- runOwn (jq e d (<- holding [x] (pyIter x)) acc env) env
 k
theorem zsH{wi:TI}(S:IsC e)(l:Y.xe=NoX)(hc:Y.calm=bj)(G:(clausesOf e)[d]?=ai ⟨tg,iter,ifs,0⟩)(hT:V6 e d tg iter ifs acc Y.env nx)(hs:Fsi Y iter)(hi:PI Y tg iter wi)(hg:PG Y tg g)(ht:PTs Y ifs tt)(hm:PM Y nx te) :
  PM Y (nxN e d iter acc Y.env) (λσ H N=>wi σ H λJ H1=>Zx g tt te σ J H1 N):=by
 intro pins s σ H N k Q E I h hk;have a:=hi pins s σ H _ I h;rw[l]at a;unfold nxN;refine aa (cn a (λx s1 h1=>aa (eR (aa (i6 (hs x) (aa (bO (cn h1 (λitv s2 Z=>?_) λ_ _ z=>eJ z))))))) λ_ _ z=>eJ z);obtain⟨it,fp,tn,J,H2,rfl,I2,T,u,f2,lw⟩:=Z;have loop:codeAny (model Y.prog Y.w) Y.A (jf e d (aZ it) acc Y.env) (λr s'=>r=.ok CP/\wpAny (model Y.prog Y.w) Y.A k Q E s') s2 :=
  zkW S l hc hT hg ht hm T (λhn b v=>⟨hn b v,(f2 b v).2⟩) I2 u (λb v=>(f2 b v).1) lw λs' H' U q=>⟨rfl,hk s' H' U q⟩
 refine aa (wpAny_runOwn (ka (zh6 S G loop (T.self Y.A 0 _ _ _ u loop)) λr s7 C=>?_));obtain⟨rfl,C⟩:=C;exact C
end
def NA(P:aL)(w:aV)(u:Sem ah)(z:aq->HO->Prop):Prop:=∀(A:bq) (E:qV) (s:au) (Q:qV),sysModules<ap s.heap.objs ->
 (∀l:Obj,l.isFreed=bA->(∀h':bh,be h' s.heap.objs.size=ai l->∃o,z s.heap.objs.size o/\∀H',JE P w H' h' s.heap.objs.size o)->Q (aZ s.heap.objs.size) { s with heap:=dL s.heap l })->wpAny (model P w) A u Q E s
structure VW(e tg iter:aX)(ifs:List aX)(scope:fv)(Nq:Sem ah)(nx:ah->Env->Sem Fin->Sem Fin):Prop where
 nof:IsC e
 cl:∃gs,clausesOf e=⟨tg,iter,ifs,0⟩::gs
 turn:∀acc env,V6 e 0 tg iter ifs acc env (nx acc env)
 ev:∀env,∃p,eval e env=comprehension e scope env p Nq bA (eval iter env) ao
 ev2:∀env u,∃p,evalThenUse e env u=do let _ <- comprehension e scope env p Nq bA (eval iter env) (ai u)
section
theorem zlU{M:yG}{A:bq}{E:qV}{s:au}{scope:fv}{globals:aq}{cl:List (Str×aq)}{qual:Str}{outer:Env}{Q:Env->au->Prop}
  (l:∀h',h'.Ns s.heap.objs.size (λ_=>ao)->(∀b o,be s.heap b=ai o->be h' b=ai o)->t9 h' (ap s.heap.objs+1) (celO scope s.heap.objs.size) ->
   Q { scope,locals:=ap s.heap.objs,globals,cells:=celO scope s.heap.objs.size++cl,qual,func:=ao,code:=outer.code,frame:=outer.frame,builtins:=outer.builtins } { s with heap:=h' }) :
  wpAny M A (newFunctionEnv scope globals cl [] qual ao dM (ai outer)) Q E s:=by
 simp only[newFunctionEnv,p6,if_true];refine aa (tw (aa (wpAny_layCells _ (λname kind cells=>by cases hkc:kind == kY <;> simp[hkc]) _ _ _ _ ?_)));have sz:(dL s.heap { cls:=aY "dict",data:=jk #[] }).objs.size=ap s.heap.objs+1:=cR ..;have ok:=cellsFrom_ok (ce scope) (dL s.heap { cls:=aY "dict",data:=jk #[] }) (ap s.heap.objs+1) [] ⟨λ_ _ u=>(nomatch u),mL⟩ (by rw[sz];exact av _);dsimp only;rw[show cellsFrom (dL s.heap { cls:=aY "dict",data:=jk #[] }).objs.size (ce scope) cl=celO scope s.heap.objs.size++cl by rw[sz];exact zpa (cl:=cl) (ce scope) _ []];rw[sz]at ok;rw[hZ];refine aa (af (af (l _ ?_ (λb o e=>tK _ _ b o (aj _ e)) ok)));exact(Heap.Ns.new s.heap (aY "dict")).keeps (tK _ _)
variable{X:Cx}{e tg iter:aX}{ifs:List aX}{scope:fv}{Nq:Sem ah}{nx:ah->Env->Sem Fin->Sem Fin}{z:aq->HO->Prop}{own:List Str}{capt:List Nat}{wi:TI}{g:TG}{tt:TT}{te:aq->TM}
theorem zo2(S:Jv scope own capt X){pins:qO}{σ:St}{G:Hp}{s2:au}{o:List aq}{C:aq}{h':bh}(I:Inv X pins σ G s2)(f2:∀b∈o,FpOk X pins G b)(v:∀b∈o,b<ap s2.heap.objs)(L:ap s2.heap.objs<=C)(N:t9 h' (C+1) (celO scope C)){H':Hp}(U:∀b∈o,H' b=ao):∀b∈o,FpOk (Q8 X scope own capt C s2 G o) [] H' b:=λb u=>by obtain⟨g0,g1,g2,g3,Y,Z⟩:=f2 b u;have J:=v b u;refine⟨U b u,aO (aP J L),λz=>?_,fj u,λx c e=>?_,λp R=>absurd (show p∈([]:qO) from R) (by simp)⟩;rcases ax.mp (I.stkSub b z) with q|q;exact g1 q;exact g2 q;rcases S.cell I.ok e with z|z;exact V9 N L z J;exact Y x c z
def zuB(z:aq->HO->Prop)(own:List Str)(capt:List Nat)(wi:TI)(g:TG)(tt:TT)(te:aq->TM):TE:=λσ H Q=>wi σ H λJ l=>∀D o,l D=ao->z D o->Zx g tt (te D) (Qt own++capS capt σ) J (upd l D o) (Q (.ref D))
theorem zli(hc:X.calm=bj)(S:Jv scope own capt X)(k:VW e tg iter ifs scope Nq nx)(na:NA X.prog X.w Nq z)(hg:Fam X scope own capt λY=>PG Y tg g)(ht:Fam X scope own capt λY=>PTs Y ifs tt)(hm:∀D,Fam X scope own capt λY=>PM Y (nx (aZ D) Y.env) (te D))
  {pins:qO} {σ:St} {Q:VK} {itv:ah} {s2:au} {E:qV} {RR:ah->aq->sI->au->Prop}
  (h2:PIE X pins σ tg (λJ H1=>∀D ho,H1 D=ao->z D ho->Zx g tt (te D) (Qt own++capS capt σ) J (upd H1 D ho) (Q (.ref D))) itv s2)
  (hR:∀D C s' H',(∃m,s'.heap.Ns C m)->(∀U,cY C s'.heap U->Inv X pins σ H' { s' with heap:=U })->H' C=ao->FpOk X pins H' C->Q (.ref D) H'->RR (aZ D) C (.ok CP) s') :
  wpAny (model X.prog X.w) X.A Nq (λacc s₃=>wpAny (model X.prog X.w) X.A (newFunctionEnv scope X.env.globals (closed X.env (ce scope) []) [] X.env.qual ao dM (ai X.env)) (λv s₄ =>
   codeAny (model X.prog X.w) X.A (jq e 0 itv acc { v with scope:=relabel scope X.env }) (RR acc (g5 v)) s₄) E s₃) E s2:=by
 obtain⟨it,fp,tn,J,H2,rfl,I,T,st2,f2,rd⟩:=h2;have N:∀b∈fp,b<ap s2.heap.objs:=λb Z=>by obtain⟨o,e,_⟩:=T.obj 0 _ st2 b Z;exact aB e
 refine na _ _ _ _ (kj (by decide) (I.mod.glob.keeps I.bk).lt) λob lv hob=>zlU λu G hk ck=>?_;have g0:be (dL s2.heap ob) s2.heap.objs.size=ai ob:=aA _ lv;have hC:(dL s2.heap ob).objs.size=ap s2.heap.objs+1:=cR ..;have old:∀b o,be s2.heap b=ai o->be u b=ai o:=λb o e=>hk b o (aj _ e);obtain⟨ho,hz,hok⟩:=hob u (hk _ _ g0);dsimp only at G ck ⊢;generalize hCe:(dL s2.heap ob).objs.size=C at G hC ck ⊢;have R:ap s2.heap.objs<=C:=by omega
 have st1:=T.keep _ _ _ st2 λb Z o e=>old b o e;have loop:codeAny (model X.prog X.w) X.A (jf e 0 (aZ it) (aZ s2.heap.objs.size) (compEnvC scope (ownCl X scope C) C X.env)) (RR (aZ s2.heap.objs.size) C) { s2 with heap:=u } :=
  zkW (Y:=Q8 X scope own capt C s2 H2 fp) k.nof rfl hc (k.turn _ _) (hg _ _ _ _) (ht _ _ _ _) (hm _ _ _ _ _) T (zo2 S I f2 N R ck) (zo3 (D:=ap s2.heap.objs) S I f2 N (av _) (by rw[hC];exact ik _) old G ck (hok _)) st1 (λb Z=>by rw[Jo (aO (N b Z))];exact(f2 b Z).1)
   (rd _ ho (I.hok.fresh (av _)) hz) λs5 H4 I5 q=>by obtain⟨m,hn,_⟩:=I5.loc;exact hR _ _ s5 H4 ⟨m,hn⟩ (λU sb=>zq2 I f2 R I5 sb) I5.free (I.fpOk R I5.free) q
 obtain⟨gs,hcl⟩:=k.cl;exact zh6 k.nof (by rw[hcl];rfl) loop (T.self X.A 0 _ _ _ st1 loop)
theorem zsO(hc:X.calm=bj)(S:Jv scope own capt X)(k:VW e tg iter ifs scope Nq nx)(na:NA X.prog X.w Nq z)(hi:PI X tg iter wi)(N:Fam X scope own capt λY=>PG Y tg g)(R:Fam X scope own capt λY=>PTs Y ifs tt)(U:∀D,Fam X scope own capt λY=>PM Y (nx (aZ D) Y.env) (te D))
  (Z:Fsi X iter):PE X e (zuB z own capt wi g tt te):=by
 intro pins s σ H Q I h;obtain⟨gs,l⟩:=k.cl;obtain⟨p,ev⟩:=k.ev X.env;rw[ev];refine mV (use:=ao) l Z (zb8 (S.cells I.ok)) S.kind S.names (thn (hi pins s σ H _ I h) λv s1 L=>thn L λitv s2 x=>?_);refine zli (RR:=λacc C=>compPost (model X.prog X.w) X.A X.xe ao (EP X pins σ Q) acc C) hc S k na N R U x λD C s' H' o J _ _ q=>?_;obtain⟨m,o⟩:=o;exact⟨m,o,λu G=>⟨.ref D,H',J u G,rfl,q⟩⟩
theorem zsE(hc:X.calm=bj)(S:Jv scope own capt X)(k:VW e tg iter ifs scope Nq nx)(na:NA X.prog X.w Nq z)(hi:PI X tg iter wi)(hg:Fam X scope own capt λY=>PG Y tg g)(ht:Fam X scope own capt λY=>PTs Y ifs tt)(hm:∀D,Fam X scope own capt λY=>PM Y (nx (aZ D) Y.env) (te D))
  (hs:Fsi X iter) {i:Nat} {x:Str} {l N5:Pos} (hN:X.N.Nodup) (G:X.N[i]?=ai x) (hx:Loc (cu X.env) x) (hsw:swapsWith e (ai (bn x l)) N5.line X.env=pure bj)
  (hf:Fnl X x):PS X (h6 [bn x l] e N5) (tAsg (zuB z own capt wi g tt te) (Um i)):=by
 intro pins s σ H D I h;obtain⟨gs,Z⟩:=k.cl;obtain⟨p,ev⟩:=k.ev2 X.env (assign (bn x l) X.env);rw[exec_Assign_Name_used _ _ _ _ hsw];refine aa (eR (aa ?_));rw[ev];refine aa (cn (mV (use:=ai (assign (bn x l) X.env)) (Q:=λ_ s'=>SP X pins D CP s') Z hs (zb8 (S.cells I.ok)) S.kind S.names (thn (hi pins s σ H _ I h) λv s1 h1=>thn h1 λitv s2 h2=>?_)) (λ_ s' hq=>af (af hq)) λ_ _ e=>e);refine zli (RR:=λacc C=>compPost (model X.prog X.w) X.A X.xe (ai (assign (bn x l) X.env)) (λ_ s'=>SP X pins D CP s') acc C) (Q:=λv H'=>Um i v σ H' D.nx) hc S k na hg ht hm h2 λD' C s' H' hn J hCn fp q=>?_;obtain⟨m,hn⟩:=hn;obtain⟨f0,f1,f2,f3,f4,f5⟩:=fp;have Is:Inv X pins σ H' s':=J s'.heap (rL _ _);refine rB (zh5 Is hN G hx (show RelV (.ref D') (aZ D') from rfl) (λs'' L R=>?_) hf);obtain⟨a,R,ha⟩:=R;have U:C≠a:=by rcases ha with rfl|ha;exact f1;exact λz=>f4 x a ha z.symm
 exact⟨m,hn.sameBut R U,λh' u=>⟨_,H',L.turned (t':=dn s'') (λb o hb e=>b3 (u.2 b hb) e) f0 f1 f3 f4 f5,q⟩⟩
end
def WD(scope outer:fv)(N:List Str)(capt:List Nat):Bool :=
 scope.kind == ir&&scope.names.all (λy=>!(y.2 == cB)||!scope.names.contains (y.1,kY))&&scope.names.all (λy=>!(y.2 == .local)||scope.names.lookup y.1 == ai .local) &&
 scope.names.all (λy=>!(y.2 == cB)||(outer.names.lookup y.1 == ai kY||outer.names.lookup y.1 == ai cB))&&capt.all (λk=>scope.names.lookup (N.getD k gW) == ai cB)
theorem Jv.of{X:Cx}{scope:fv}{own:List Str}{capt:List Nat}(h:WD scope (cu X.env) X.N capt=bj):Jv scope own capt X:=by simp only[WD,bT,cJ,n8,g7,beq_iff_eq,beq_eq_false_iff_ne]at h;obtain⟨⟨⟨⟨C,G⟩,J⟩,x⟩,I⟩:=h;refine⟨C,λy u e=>?_,λy u e=>jj (J y u) λz=>z e,λy u e=>jj (x y u) λz=>z e,I⟩;have:=jj (G y u) λz=>z e;simpa using this
end L2
namespace L2
open PySem PySem.Spec PyProof.Rows
section
variable{X:Cx}
theorem zvM:OpR X (compareOp .Is) (λx y H Q=>∃a b,x=.bl a/\y=.bl b/\Q (.bl (a == b)) H):=by intro pins s σ H x y v u Q I o C h;obtain⟨a,b,rfl,rfl,q⟩:=h;cases o;cases C;exact is_bool ⟨.bl (a == b),H,I,rfl,q⟩
theorem znP:OpR X (compareOp .IsNot) (λx y H Q=>∃a b,x=.bl a/\y=.bl b/\Q (.bl (a != b)) H):=by intro pins s σ H x y v u Q I C G h;obtain⟨a,b,rfl,rfl,q⟩:=h;cases C;cases G;exact isnot_bool ⟨.bl (a != b),H,I,rfl,q⟩
def kitB(t T:String):Option Bool:=if (aY t == aY T)=bj then ai bj else if PySem.W.kitMeta T=bj then(fastBuiltinMro t).map (·.contains (aY T)) else ao
theorem YI(K:qF)(t T:String):ui K (aY t) (aY T)=kitB t T:=rfl
inductive Ty (H:Hp):V->String->Prop where
 | non:Ty H .non "NoneType"
 | bl (x:Bool):Ty H (.bl x) "bool"
 | int (i:Int):Ty H (.int i) "int"
 | str (x:Str):Ty H (.str x) "str"
 | lst {a:aq} {xs:List V} (e:H a=ai (.lst xs)):Ty H (.ref a) "list"
 | tup {a:aq} {xs:List V} (e:H a=ai (.tup xs)):Ty H (.ref a) "tuple"
 | dK {a:aq} {kvs:List (Key×V)} (e:H a=ai (.dK kvs)):Ty H (.ref a) "dict"
theorem Ty.of{K:qF}{H:Hp}{v:V}{t:String}(h:Ty H v t):TyOf K H v (aY t):=by
 cases h with
 | non=>exact .non
 | bl x=>exact .bl x
 | int i=>exact .int i
 | str x=>exact .str x
 | lst e=>exact .lst e
 | tup e=>exact .tup e
 | dK e=>exact .dK e
theorem zq7:bootBuiltins "isinstance" = ai (b4 "isinstance"):=by decide +kernel
theorem boot_int:bootBuiltins "int" = ai (aY "int"):=by decide +kernel
theorem zmv:bootBuiltins "bool" = ai (aY "bool"):=by decide +kernel
theorem J8:bootBuiltins "tuple" = ai (aY "tuple"):=by decide +kernel
theorem zph:bootBuiltins "str" = ai (aY "str"):=by decide +kernel
theorem VJ:bootBuiltins "all" = ai (b4 "all"):=by decide +kernel
theorem zg8:bootBuiltins "repr" = ai (b4 "repr"):=by decide +kernel
theorem Zr:bootBuiltins "min" = ai (b4 "min"):=by decide +kernel
theorem zf2:bootBuiltins "max" = ai (b4 "max"):=by decide +kernel
theorem J4:bootBuiltins "len" = ai (b4 "len"):=by decide +kernel
theorem zpg:bootBuiltins "sum" = ai (b4 "sum"):=by decide +kernel
theorem zjp:∀{bs:List Bool}{us:List ah},Vals (bs.map V.bl) us->LSm.BoolsAre us bs
 | [],_,h=>by cases h;exact .nil
 | b::bs,_,h=>by
  cases h with
  | cons r t =>cases(show _=nH b from r);exact .cons b (zjp t)
theorem VL(hc:X.calm=bj):JK X (b4 "all") (λxs H Q=>∃(a:aq) (bs:List Bool),xs=[.ref a]/\SqL X.K H a (bs.map V.bl)/\Q (.bl (bs.all id)) H):=by
 intro pins s σ H xs us Q I r h;obtain⟨a,bs,rfl,N,q⟩:=h;cases r with
 | cons J L =>
  cases L;cases(show _=aZ a from J);obtain⟨its,R,p,hz⟩:=I.list N;have C:=zjp R;have o:s.heap.IsList a (bm its):=p.isList;have x:a<ap s.heap.objs:=by obtain⟨_,e,_⟩:=o;exact aB e
  refine call_all_walk (gZ o ?_);refine⟨ap s.heap.objs,[ap s.heap.objs,a],[ap s.heap.objs],ap its.toArray,_,_,λi=>(bs[i]?).getD bj,rfl,By (A:=X.A.in1) (I.ok.hd hc) _ a (aO x) (bm its),
   ⟨⟨_,aA _ rfl,rfl,rfl⟩,o.push _⟩,λi v s' Y Z S G=>?_,λh' tk U=>?_⟩
  obtain⟨b,e,rfl⟩:=C.get i v (by simpa using S);simp only[e,fz]at G;exact cw G;have e:((c9 its.toArray.size).all λi=>(bs[i]?).getD bj)=bs.all id:=by rw[aD,C.length];exact LSm.range_all bs
  rw[e];exact⟨.bl _,H,I.kept (vU U),rfl,q⟩
mutual
inductive UL (H:Hp):V->ae->Prop
 | non:UL H .non oK
 | bl (b:Bool):UL H (.bl b) (k6 b)
 | int (i:Int):UL H (.int i) (b5 i)
 | str (x:Str):UL H (.str x) (eN x)
 | lst {a:aq} {xs:List V} {ds:qD}:H a=ai (.lst xs)->VG H xs ds->UL H (.ref a) (tE ds)
 | tup {a:aq} {xs:List V} {ds:qD}:H a=ai (.tup xs)->VG H xs ds->UL H (.ref a) (fX ds)
inductive VG (H:Hp):List V->qD->Prop
 | nil:VG H [] []
 | cons {v:V} {vs:List V} {d:ae} {ds:qD}:UL H v d->VG H vs ds->VG H (v::vs) (d::ds)
end
def Zw(i j:Int):Prop:=0<j/\j<2 ^ 128
theorem Wi:OpR X (binaryOp .FloorDiv) (rI Zw λi j=>.int (i / j)):=opI λi j _ _ _ _ _ hc q=>by
 have G:(0:Int)<j:=hc.1;have C:j<2 ^ 128:=hc.2;refine floordiv_int (by omega) (by rw[lR i (by omega)];exact q) (fj (PyProof.noPylong_of_log2 ?_));have u:j.natAbs<2 ^ 128:=by omega
 have x:j.natAbs.log2<128:=(yR (by omega)).mpr u;omega
end
def Pl(X:Cx)(es:List aX):Prop:=∀pos,(backTo pos (starEach es X.env)).any (·.1)=false
def Hd(X:Cx):List aX->Prop
 | []=>True
 | e::r=>starEach (e::r) X.env=(bA,eval e X.env)::starEach r X.env/\Pl X r
structure PB(X:Cx)(es:List aX)(t:TA):Prop where
 pa:PA X es t
 pl:Pl X es
 hd:Hd X es
section
variable{X:Cx}{es:List aX}{t:TA}{te:TE}
theorem Ua:PB X [] tNil:=⟨QI,λ_=>rfl,trivial⟩
theorem Qv(h:PE X e te)(l:PB X es t)(o:starEach (e::es) X.env=(bA,eval e X.env)::starEach es X.env):PB X (e::es) (QR te t) :=
 ⟨Qu h l.pa o,λpos=>by rw[o];have:(backTo pos ((bA,eval e X.env)::starEach es X.env)).any (·.1)=(bA||(backTo pos (starEach es X.env)).any (·.1)):=rfl;rw[this,l.pl pos];rfl,o,l.pl⟩
theorem pb_i{j pos}(l:PB X es t):PB X (i3 (.int i) j pos::es) (QR (tC (.int i)) t):=Qv JD l rfl
theorem pb_v(i:Nat){x:Str}{pos:Pos}(o:PB X es t)(u:X.N[i]?=ai x:=by rfl)(v:Vis (cu X.env) x:=by walk_at "V")(hd:Ndb x:=by rfl)
  (l:Ncd x:=by rfl):PB X (bn x pos::es) (QR (tVar i) t):=Qv (QJ u v hd l) o rfl
theorem zsS(h:PE X (bn x pos) te)(l:PB X es t):PB X (bn x pos::es) (QR te t):=Qv h l rfl
theorem zry{a b c d}(h:PE X (je a b c d) te)(l:PB X es t):PB X (je a b c d::es) (QR te t):=Qv h l rfl
theorem zvA{a b c d}(h:PE X (jc a b c d) te)(l:PB X es t):PB X (jc a b c d::es) (QR te t):=Qv h l rfl
variable{e:aX}{x:Str}{p pos:Pos}
theorem zsM{x1}(h:PB X es t):PE X (jb es x1 pos) (tTup t):=zvp h.pa
theorem znG(h:PB X es t):PE X (.List es pos) (tLst t):=zvu h.pa
theorem ZI{id:String}{r:List V->Hp->VK->Prop}(hc:JK X (b4 id) r)(I:X.mg x=ao)(J:bootBuiltins x=ai (b4 id))(h:PB X (e::es) t)(v:Gl X x:=by rfl)(G:x ≠ "__name__":=by decide) (o:Ndb x:=by rfl) :
  PE X (ee (bn x p) (e::es) [] pos) (tCB r t):=zqg hc v I J h.pa G o h.hd.1 (h.hd.2 pos)
theorem zsQ(hc:JK X (aY T) r)(G:X.mg x=ao)(I:bootBuiltins x=ai (aY T))(h:PB X (e::es) t)(u:Gl X x:=by rfl)(v:x ≠ "__name__":=by decide) (o:Ndb x:=by rfl) :
  PE X (ee (bn x p) (e::es) [] pos) (tCB r t):=zir hc u G I h.pa v o h.hd.1 (h.hd.2 pos)
end
end L2
namespace Bd
open PySem L2
structure Def(K:qF)(mg:qM)(x:Str)(st:eW)(ps:List Str)(f:aq)(fd:dO):Prop where
 F:Fun K x x st f fd
 b:Binds K fd ps []
 m:mg x=ai (aZ f)
section
variable{X:Cx}{k:Nat}{f:aq}{fd:dO}{ps:List Str}{sp:Sp}{x:Str}{p pos:Pos}{e:aX}{es:List aX}{t:TA}{st:eW}
theorem zsN(D:Def X.K X.mg x st ps f fd)(G:FnOk X.prog X.w X.K X.mg X.base CX0 k f fd ps sp)(v:Room k X.A)(h:PB X (e::es) t)(u:Gl X x:=by rfl)
  (o:Ndb x:=by rfl):PE X (ee (bn x p) (e::es) [] pos) (zuC sp [] E0 t):=zsP G v u D.m D.F.kp D.b ja zzD h.pa o h.hd.1 (h.hd.2 pos)
theorem zzA(u:X.mg x=ao)(v:bootBuiltins x=ai (aY T))(l:Gl X x:=by rfl)(o:x ≠ "__name__":=by decide) (hd:Ndb x:=by rfl):PE X (bn x p) (tC (.ty T)) :=
 zsR l u v rfl o hd
end
theorem iteP{c A B:Prop}[Decidable c](hc:c)(h:A):if decide c=bj then A else B:=by rw[decide_eq_true hc];exact iteT h
theorem iteN{c A B:Prop}[Decidable c](hc:¬c)(h:B):if decide c=bj then A else B:=by rw[decide_eq_false hc];exact iteF h
theorem zwI{c A B:Prop}[Decidable c](o:c->A)(l:¬c->B):if decide c=bj then A else B:=by by_cases h:c;exact iteP h (o h);exact iteN h (l h)
theorem zhK{α:Type}{xs:List α}{k:Int}{v:α}(h0:0<=k)(h:xs[mu k]?=ai v):atI xs k=ai v:=by obtain⟨n,rfl⟩:=ni h0;exact zud h
theorem JT(k:Nat):(0:Int)<2 ^ k:=by
 have:(0:Nat)<2 ^ k:=Nat.two_pow_pos k;have e:((2 ^ k:Nat):Int)=(2:Int) ^ k:=by simp
 omega
theorem znB(h:k<=64):(2:Int) ^ k<2 ^ 128:=by
 have:(2:Nat) ^ k<2 ^ 128:=Nat.pow_lt_pow_right (by decide) (by omega);have e:((2 ^ k:Nat):Int)=(2:Int) ^ k:=by simp
 omega
theorem zdO(h:k<=64):(2:Int) ^ k<=2 ^ 64:=by
 have:(2:Nat) ^ k<=2 ^ 64:=Nat.pow_le_pow_right (by decide) (by omega);have e:((2 ^ k:Nat):Int)=(2:Int) ^ k:=by simp
 omega
theorem zpS(h:H p=ao):Same H (upd H p o):=λb u e=>by rw[Jo (Qz e h)];exact e
end Bd
namespace L2
open PySem PySem.Spec PyProof.Rows
theorem zue(k h:Nat):(k*2 ^ h) &&& (2 ^ h)=(k % 2)*2 ^ h:=by
 have l:k*2 ^ h=k <<< h:=bv (nj k h);have o:(2:Nat) ^ h=1 <<< h:=by rw[nj,tB]
 have u:(k &&& 1) <<< h=k <<< h &&& 1 <<< h:=Nat.shiftLeft_and_distrib;rw[l];conv=>lhs;rw[o]
 rw[<- u,p7,nj]
theorem zks(h:Nat)(x:0<=k):cP (k*2 ^ h) (2 ^ h)=if k % 2=0 then k*2 ^ h+2 ^ h else k*2 ^ h - 2 ^ h:=by
 obtain⟨n,rfl⟩:=ni x;have l:((2 ^ h:Nat):Int)=(2:Int) ^ h:=by simp
 have u:((n:Int)*2 ^ h)=((n*2 ^ h:Nat):Int):=by rw[Int.natCast_mul,l]
 rw[bitXor_and,u,<- l,bitAnd_pp (lQ _) (lQ _)];have v:mu ((n*2 ^ h:Nat):Int) &&& mu ((2 ^ h:Nat):Int)=(n % 2)*2 ^ h:=by rw[bS,bS];exact zue n h
 rw[v];rcases Nat.mod_two_eq_zero_or_one n with z|z;have:((n:Int)) % 2=0:=by lia
 rw[if_pos this,z];simp;have:¬((n:Int)) % 2=0:=by lia
 rw[if_neg this,z,tB];lia
def HAND:ae:=tD [(oK,oK)]
def SCR(ns:List Int):ae:=tD [(oK,tE (ns.map b5))]
def ZM(H:Hp)(hd:aq)(n:Int):Prop:=∃d m t:Int,H hd=ai (.lst [.int d,.int m,.int t])/\0<=m/\m<2 ^ 62/\0<=t/\t<=n
def StT(K:qF)(a:aq)(xs:List V):Prop :=
 ∃(o:Obj) (its:Array ah) (n:Nat),K.lookup a=ai o/\jg o=aY "tuple" /\ f7 o=f9 its n/\ap its<=sizeLine/\Vals xs (w9 its)/\o.dict=ao
theorem StT.sq{K:qF}{H:Hp}{a:aq}{xs:List V}(h:StT K a xs):SqT K H a xs:=by obtain⟨o,its,n,C,u,x,l,v,_⟩:=h;exact xw ⟨o,its,n,C,u,x,l,v⟩
def hsT(k:Int×Int):Int:=reduceHash (vc [hashInt k.1,hashInt k.2])
def entZ(z:(Int×Int)×aq×V)(e:fy):Prop:=e.hash=hsT z.1/\e.key=aZ z.2.1/\RelV z.2.2 e.val
abbrev ZT:=List ((Int×Int)×aq×V)
def ZDO(a:aq)(zs:ZT)(ep:Nat):HO:=.ext λh=>(a == sysModules)=bA/\dP zs<=sizeLine/\(zs.map (·.1)).Nodup/\∃o es,be h a=ai o/\o.ExactDict/\f7 o=jk es ep/\bN entZ zs (w9 es)
abbrev KT2:=List ((Int×Int)×ae)
def entI(z:Int×V)(e:fy):Prop:=e.hash=hashInt z.1/\(∃t,e.key=m6 z.1 t)/\RelV z.2 e.val
def KDO(a:aq)(zs:List (Int×V))(ep:Nat):HO:=.ext λh=>(a == sysModules)=bA/\dP zs<=sizeLine/\(zs.map (·.1)).Nodup/\∃o es,be h a=ai o/\o.ExactDict/\f7 o=jk es ep/\bN entI zs (w9 es)
def blkT(k:Int×Int):ae:=fX [b5 k.1,b5 k.2]
def ZG(ks:List (Int×ae)):List (ae×ae):=ks.map λq=>(b5 q.1,q.2)
def Js(ks:KT2):List (ae×ae):=ks.map λq=>(blkT q.1,q.2)
def EXC(C:aq):ae:=tD [(oK,b5 (C:Int))]
def EXO(a C:aq):HO:=.ext λh=>∃o,be h a=ai o/\jg o=aZ C/\∃vs,f7 o=ed vs
mutual
inductive Rep (K:qF)(hd:Option aq)(O:aq->Prop)(H:Hp):V->ae->Prop
 | non:Rep K hd O H .non oK
 | bl (b:Bool):Rep K hd O H (.bl b) (k6 b)
 | int (i:Int):Rep K hd O H (.int i) (b5 i)
 | str (x:Str):Rep K hd O H (.str x) (eN x)
 | tup {a vs ds} (h:H a=ai (.tup vs)) (o:¬O a) (r:Reps K hd O H vs ds):Rep K hd O H (.ref a) (fX ds)
 | tupS {a vs ds} (h:StT K a vs) (r:Reps K hd O H vs ds):Rep K hd O H (.ref a) (fX ds)
 | lst {a vs ds} (h:H a=ai (.lst vs)) (o:¬O a) (r:Reps K hd O H vs ds):Rep K hd O H (.ref a) (tE ds)
 | dct {a ep} (h:H a=ai (KDO a [] ep)) (o:¬O a):Rep K hd O H (.ref a) (tD [])
 | dcK {a kvs ep ks ps} (h:H a=ai (KDO a kvs ep)) (o:¬O a) (r:Zz K hd O H kvs ks) (e:ps=ZG ks):Rep K hd O H (.ref a) (tD ps)
 | dcT {a zs ep ks ps} (h:H a=ai (ZDO a zs ep)) (o:¬O a) (r:Jn K hd O H zs ks) (e:ps=Js ks):Rep K hd O H (.ref a) (tD ps)
 | hand {a} (h:hd=ai a):Rep K hd O H (.ref a) HAND
 | scr {a ns} (h:Rd H a (.lst (ns.map V.int))) (o:¬O a):Rep K hd O H (.ref a) (SCR ns)
 | scrS {a} {ns:List Int} (h:∀H':Hp,SqL K H' a (ns.map V.int)):Rep K hd O H (.ref a) (SCR ns)
 | exc {a C} (h:H a=ai (EXO a C)) (o:¬O a):Rep K hd O H (.ref a) (EXC C)
inductive Reps (K:qF)(hd:Option aq)(O:aq->Prop)(H:Hp):List V->qD->Prop
 | nil:Reps K hd O H [] []
 | cons {v d vs ds} (h:Rep K hd O H v d) (r:Reps K hd O H vs ds):Reps K hd O H (v::vs) (d::ds)
inductive Zz (K:qF)(hd:Option aq)(O:aq->Prop)(H:Hp):List (Int×V)->List (Int×ae)->Prop
 | nil:Zz K hd O H [] []
 | cons {k v d kvs ks} (h:Rep K hd O H v d) (r:Zz K hd O H kvs ks):Zz K hd O H ((k,v)::kvs) ((k,d)::ks)
inductive Jn (K:qF)(hd:Option aq)(O:aq->Prop)(H:Hp):ZT->KT2->Prop
 | nil:Jn K hd O H [] []
 | cons {k q v d zs ks} (h:Rep K hd O H (.ref q) (fX [b5 k.1,b5 k.2])) (h2:Rep K hd O H v d) (r:Jn K hd O H zs ks):Jn K hd O H ((k,q,v)::zs) ((k,d)::ks)
end
section
variable{K:qF}{hd:Option aq}{O O':aq->Prop}{H H':Hp}
theorem Rep.mono(C:∀a o,H a=ai o->O' a->O a)(G:∀a o,¬O a->H a=ai o->H' a=ai o)(q:Rep K hd O H v d):Rep K hd O' H' v d :=
 Rep.rec (motive_1:=λv d _=>Rep K hd O' H' v d) (motive_2:=λv d _=>Reps K hd O' H' v d) (motive_3:=λv d _=>Zz K hd O' H' v d) (motive_4:=λv d _=>Jn K hd O' H' v d)
  .non .bl .int .str (λh o _ r=>.tup (G _ _ o h) (λz=>o (C _ _ h z)) r) (λh _ r=>.tupS h r) (λh o _ r=>.lst (G _ _ o h) (λz=>o (C _ _ h z)) r) (λh o=>.dct (G _ _ o h) (λz=>o (C _ _ h z))) (λh o _ e r=>.dcK (G _ _ o h) (λz=>o (C _ _ h z)) r e) (λh o _ e r=>.dcT (G _ _ o h) (λz=>o (C _ _ h z)) r e) .hand
  (λh o=>ii h (λh=>.scr (fj (G _ _ o h)) λz=>o (C _ _ h z)) λh=>h.elim λu h=>.scr (xw ⟨u,G _ _ o h⟩) λz=>o (C _ _ h z)) .scrS (λh o=>.exc (G _ _ o h) (λz=>o (C _ _ h z)))
  .nil (λ_ _ h r=>.cons h r) .nil (λ_ _ h r=>.cons h r) .nil (λ_ _ _ h k r=>.cons h k r) q
theorem Reps.ind{P:List V->qD->Prop}(n:P [] [])(c:∀{v d vs ds},Rep K hd O H v d->Reps K hd O H vs ds->P vs ds->P (v::vs) (d::ds))(q:Reps K hd O H vs ds):P vs ds:=by refine Reps.rec (motive_1:=λ_ _ _=>True) (motive_2:=λv d _=>P v d) (motive_3:=λ_ _ _=>True) (motive_4:=λ_ _ _=>True) ?_ ?_ ?_ ?_ ?_ ?_ ?_ ?_ ?_ ?_ ?_ ?_ ?_ ?_ n (λh r _ i=>c h r i) ?_ ?_ ?_ ?_ q <;> intros <;> trivial
theorem Jn.ind{P:ZT->KT2->Prop}(n:P [] [])(c:∀{k q v d vs ds},Rep K hd O H (.ref q) (fX [b5 k.1,b5 k.2])->Rep K hd O H v d->Jn K hd O H vs ds->P vs ds->P ((k,q,v)::vs) ((k,d)::ds))(q:Jn K hd O H vs ds):P vs ds:=by refine Jn.rec (motive_1:=λ_ _ _=>True) (motive_4:=λv d _=>P v d) (motive_2:=λ_ _ _=>True) (motive_3:=λ_ _ _=>True) ?_ ?_ ?_ ?_ ?_ ?_ ?_ ?_ ?_ ?_ ?_ ?_ ?_ ?_ ?_ ?_ ?_ ?_ n (λh k r _ _ i=>c h k r i) q <;> intros <;> trivial
theorem Reps.mono(u:∀a o,H a=ai o->O' a->O a)(v:∀a o,¬O a->H a=ai o->H' a=ai o)(q:Reps K hd O H vs ds):Reps K hd O' H' vs ds:=q.ind .nil λh _ r=>.cons (h.mono u v) r
theorem Jn.mono(u:∀a o,H a=ai o->O' a->O a)(v:∀a o,¬O a->H a=ai o->H' a=ai o)(q:Jn K hd O H vs ds):Jn K hd O' H' vs ds:=q.ind .nil λh k _ r=>.cons (h.mono u v) (k.mono u v) r
theorem Wp(e:(oK,v)::r=ZG ks):False:=by
 cases ks with
 | nil=>cases e
 | cons q ks=>cases e
theorem dict_noT(e:(oK,v)::r=Js ks):False:=by
 cases ks with
 | nil=>cases e
 | cons q ks=>cases e
theorem Reps.length(q:Reps K hd O H vs ds):dP vs=dP ds:=q.ind (P:=λa b=>dP a=dP b) rfl λ_ _ e=>congrArg (·+1) e
theorem Reps.get{i:Nat}(q:Reps K hd O H vs ds):ds[i]?=ai d->∃v,vs[i]?=ai v/\Rep K hd O H v d :=
 q.ind (P:=λvs ds=>∀(i:Nat),ds[i]?=ai d->∃v,vs[i]?=ai v/\Rep K hd O H v d) (λ_ e=>nomatch e) (λ{v _ _ _} h _ r i=>i.casesOn (λe=>⟨v,rfl,aG e▸h⟩) λi e=>r i e) i
theorem Reps.append(q:Reps K hd O H vs ds)(s:Reps K hd O H ws es):Reps K hd O H (vs++ws) (ds++es):=q.ind (P:=λa b=>Reps K hd O H (a++ws) (b++es)) s λh _ r=>.cons h r
theorem Reps.take(n:Nat)(q:Reps K hd O H vs ds):Reps K hd O H (vs.take n) (ds.take n) :=
 q.ind (P:=λvs ds=>∀n:Nat,Reps K hd O H (vs.take n) (ds.take n)) (λn=>by rw[vW,vW];exact .nil) (λh _ r n=>n.casesOn .nil λn=>.cons h (r n)) n
theorem Reps.drop(n:Nat)(q:Reps K hd O H vs ds):Reps K hd O H (vs.drop n) (ds.drop n) :=
 q.ind (P:=λvs ds=>∀n:Nat,Reps K hd O H (vs.drop n) (ds.drop n)) (λn=>by rw[vX,vX];exact .nil) (λh k r n=>n.casesOn (.cons h k) λn=>r n) n
theorem Reps.set{v d}(h:Rep K hd O H v d)(n:Nat)(q:Reps K hd O H vs ds):Reps K hd O H (cr vs n v) (cr ds n d) :=
 q.ind (P:=λvs ds=>∀n:Nat,Reps K hd O H (cr vs n v) (cr ds n d)) (λn=>.nil) (λk s r n=>n.casesOn (.cons h s) λn=>.cons k (r n)) n
theorem Rep.tupI(h:Rep K hd O H v (fX ds)):∃a vs,v=.ref a/\SqT K H a vs/\Reps K hd O H vs ds:=by
 cases h with
 | tup h o r=>exact⟨_,_,rfl,fj (fj h),r⟩
 | tupS h r=>exact⟨_,_,rfl,h.sq,r⟩
theorem Rep.lstI(h:Rep K hd O H v (tE ds)):∃a vs,v=.ref a/\H a=ai (.lst vs)/\¬O a/\Reps K hd O H vs ds:=by
 cases h with
 | lst h o r=>exact⟨_,_,rfl,h,o,r⟩
theorem Rep.intI(h:Rep K hd O H v (b5 i)):v=.int i:=by cases h;rfl
theorem Rep.blI(h:Rep K hd O H v (k6 b)):v=.bl b:=by cases h;rfl
theorem Rep.strI(h:Rep K hd O H v (eN x)):v=.str x:=by cases h;rfl
theorem Rep.nonI(h:Rep K hd O H v oK):v=.non:=by cases h;rfl
theorem Rep.handI(h:Rep K hd O H v HAND):∃a,v=.ref a/\hd=ai a:=by
 generalize e:HAND=d at h;cases h with
 | hand h=>exact⟨_,rfl,h⟩
 | dct _ _=>cases e
 | dcK _ _ _ o=>cases e;exact(Wp o).elim
 | dcT _ _ _ o=>cases e;exact(dict_noT o).elim
 | scr _ _=>simp[HAND,SCR]at e
 | scrS _=>simp[HAND,SCR]at e
 | exc _ _=>simp[HAND,EXC]at e
 | _=>cases e
theorem Rep.scrI(h:Rep K hd O H v (SCR ns)):∃a,v=.ref a/\SqL K H a (ns.map V.int):=by
 generalize e:SCR ns=d at h;cases h with
 | hand h=>simp[HAND,SCR]at e
 | dct _ _=>cases e
 | dcK _ _ _ u=>cases e;exact(Wp u).elim
 | dcT _ _ _ u=>cases e;exact(dict_noT u).elim
 | @scr a ms h o =>
  have:ns=ms:=by
   have u:(ns.map b5)=ms.map b5:=by simpa[SCR] using e
   have:=congrArg (oM λx=>match x with|b5 i=>i|_=>0) u;simpa[b6,g8] using this
  subst this;exact⟨_,rfl,fj h⟩
 | @scrS a ms h =>
  have:ns=ms:=by
   have u:(ns.map b5)=ms.map b5:=by simpa[SCR] using e
   have:=congrArg (oM λx=>match x with|b5 i=>i|_=>0) u;simpa[b6,g8] using this
  subst this;exact⟨_,rfl,h H⟩
 | exc _ _=>simp[SCR,EXC]at e
 | _=>cases e
end
mutual
def Q6:ae->Bool
 | tE _=>false
 | fX ts=>ZY ts
 | tD [(oK,oK)]=>true
 | tD _=>false
 | _=>true
def ZY:qD->Bool
 | []=>true
 | t::ts=>Q6 t&&ZY ts
end
section
variable{K:qF}{hd:Option aq}{O O':aq->Prop}{H:Hp}
theorem zs7(e:Q6 (tD (ZG ks))=bj):False:=by cases ks <;> exact nomatch e
theorem zs6(e:Q6 (tD (Js ks))=bj):False:=by cases ks <;> exact nomatch e
def MutO(o:Option HO):Prop:=(∃xs,o=ai (.lst xs))\/(∃ks,o=ai (.dK ks))\/∃u,o=ai (.ext u)
theorem Rep.up(C:∀a,O a->MutO (H a))(q:Rep K hd O' H v d):Q6 d=bj->Rep K hd O H v d:=by
 refine Rep.rec (motive_1:=λv d _=>Q6 d=bj->Rep K hd O H v d) (motive_2:=λv d _=>ZY d=bj->Reps K hd O H v d) (motive_3:=λ_ _ _=>True) (motive_4:=λ_ _ _=>True)
  (λ_=>.non) (λb _=>.bl b) (λb _=>.int b) (λb _=>.str b) (λh _ _ r e=>.tup h (λz=>by rcases C _ z with⟨xs,q⟩|⟨xs,q⟩|⟨b,q⟩ <;> (rw[h]at q;cases q)) (r e)) (λh _ r e=>.tupS h (r e))
  (λ_ _ _ _ e=>nomatch e) (λ_ _ e=>nomatch e) (λ_ _ _ x _ e=>by subst x;exact(zs7 e).elim) (λ_ _ _ x _ e=>by subst x;exact(zs6 e).elim) (λh _=>.hand h) (λ_ _ e=>nomatch e) (λ_ e=>nomatch e) (λ_ _ e=>nomatch e)
  (λ_=>.nil) (λ_ _ h r e=>by rw[ZY,bT]at e;exact .cons (h e.1) (r e.2)) trivial ?_ trivial ?_ q <;> intros <;> trivial
variable{X:Cx}{pins:qO}{σ:St}{s:au}
theorem Rep.reads(I:Inv X pins σ H s){u:ah}(q:Rep X.K hd O H v d):RelV v u->d.hasDict=bA->∃G,Reads s.heap u d G:=by
 refine Rep.rec (motive_1:=λv d _=>∀u,RelV v u->d.hasDict=bA->∃G,Reads s.heap u d G) (motive_2:=λv d _=>∀u,Vals v u->g9 d=bA->∃G,yU s.heap u d G) (motive_3:=λ_ _ _=>True) (motive_4:=λ_ _ _=>True)
  (λ_ r _=>by cases r;exact⟨_,.none⟩) (λb _ r _=>by cases r;exact⟨_,.bool b⟩) (λi _ r _=>by obtain⟨t,rfl⟩:=r;exact⟨_,.int i t⟩) (λx _ r _=>by obtain⟨t,rfl⟩:=r;exact⟨_,.str x t⟩)
  (λ{_ vs _} h _ _ q _ r e=>?_) (λ{_ vs _} h _ q _ r e=>?_) (λ{_ vs _} h _ _ q _ r e=>?_) (λ_ _ _ _ e=>by simp[cF]at e) (λ_ _ _ _ _ _ _ e=>by simp[cF]at e) (λ_ _ _ _ _ _ _ e=>by simp[cF]at e)
  (λ_ _ _ e=>by simp[HAND,cF]at e) (λ_ _ _ _ e=>by simp[SCR,cF]at e) (λ_ _ _ e=>by simp[SCR,cF]at e) (λ_ _ _ _ e=>by simp[EXC,cF]at e)
  (λ_ r _=>by cases r;exact⟨_,.nil⟩) (λ_ _ h q _ r e=>?_) trivial (by intros;trivial) trivial (by intros;trivial) q u
 cases r;obtain⟨its,N,p,_⟩:=I.tuple (xs:=vs) (fj (fj h));obtain⟨o,L,hc,n,C⟩:=p;obtain⟨G,J⟩:=q _ N (by simpa[cF] using e);exact⟨_,.tuple L hc C (by simpa using J)⟩;cases r;obtain⟨its,N,p,_⟩:=I.tuple (xs:=vs) h.sq;obtain⟨o,L,hc,n,C⟩:=p;obtain⟨G,J⟩:=q _ N (by simpa[cF] using e);exact⟨_,.tuple L hc C (by simpa using J)⟩;cases r;obtain⟨its,N,p,_⟩:=I.list (xs:=vs) (fj (fj h));obtain⟨o,n,L,hc,_,C⟩:=p;obtain⟨G,J⟩:=q _ N (by simpa[cF] using e);exact⟨_,.list L hc C (by simpa using J)⟩;cases r with
 | cons R S =>rw[g9,oN]at e;obtain⟨G,J⟩:=h _ R e.1;obtain⟨bs,U⟩:=q _ S e.2;exact⟨_,.cons J U⟩
theorem Reps.reads(I:Inv X pins σ H s){us:List ah}(q:Reps X.K hd O H vs ds):Vals vs us->g9 ds=bA->∃u,yU s.heap us ds u :=
 q.ind (P:=λvs ds=>∀us,Vals vs us->g9 ds=bA->∃u,yU s.heap us ds u) (λ_ r _=>by cases r;exact⟨_,.nil⟩) (λh _ q _ r e=>by
  cases r with
  | cons C v =>rw[g9,oN]at e;obtain⟨u,x⟩:=h.reads I C e.1;obtain⟨bs,G⟩:=q _ v e.2;exact⟨_,.cons x G⟩) us
end
inductive Cell where
 | val (d:ae)
 | own (ds:qD)
 | dct (ks:List (Key×ae))
 | rdo (ks:List (Key×ae))
 | dtt (ks:KT2)
def Cell.mine:Cell->Bool
 | .val _=>false
 | .own _=>true
 | .dct _=>true
 | .rdo _=>false
 | .dtt _=>true
def UK(K:qF)(hd:Option aq)(O:aq->Prop)(H:Hp)(l:List (Key×V))(ks:List (Key×ae)):Prop:=bN (λ(p:Key×V) (q:Key×ae)=>p.1=q.1/\Rep K hd O H p.2 q.2) l ks
theorem UK.mono{K:qF}{hd:Option aq}{O u:aq->Prop}{H H':Hp}(v:∀a o,H a=ai o->u a->O a)(x:∀a o,¬O a->H a=ai o->H' a=ai o){l:List (Key×V)}{ks:List (Key×ae)}(r:UK K hd O H l ks):UK K hd u H' l ks :=
 Paired.mapP r λ_ _ z=>⟨z.1,z.2.mono v x⟩
abbrev En:=List (Option Cell)
structure Ctx where
 hd:Option aq
 ext:aq->Prop
def OwnS(l:En)(σ:St)(a:aq):Prop:=∃(i:Nat) (c:Cell),c.mine=bj/\l[i]?=ai (ai c)/\σ[i]?=ai (ai (V.ref a))
def Own(C:Ctx)(l:En)(σ:St)(a:aq):Prop:=C.ext a\/OwnS l σ a
mutual
def papD:ae->Bool
 | fX ts=>decide (dP ts<=1000000)&&zvB ts
 | eN x=>decide (kN x<=1000000)
 | b5 _=>true
 | oK=>true
 | k6 _=>true
 | _=>false
def zvB:qD->Bool
 | []=>true
 | t::ts=>papD t&&zvB ts
end
def pap(t:ae):Bool:=papD t&&t.canLay0&&decide (t.depth<=40)
def Q1(K:qF)(H:Hp)(a:aq)(m:Nat):Prop:=∃(vs:List V) (ts:qD),H a=ai (.lst vs)/\dP vs<=m/\Reps K ao (λb=>MutO (H b)) H vs ts/\∀t∈ts,pap t=true
def Hn(K:qF)(hd:Option aq)(H:Hp)(n:Nat):Prop:=∀a,hd=ai a->(ZM H a n/\n<10000000000000)\/(10000000000000<=n/\Q1 K H a (n - 10000000000000))
theorem Hn.lst{K:qF}{hd:Option aq}{H:Hp}{n:Nat}{a:aq}(h:Hn K hd H n)(e:hd=ai a):∃vs,H a=ai (.lst vs):=by rcases h a e with⟨⟨_,_,_,q,_⟩,_⟩|⟨_,_,_,q,_⟩;exact⟨_,q⟩;exact⟨_,q⟩
theorem Q1.to{K:qF}{H H':Hp}{a:aq}{w:Nat}(h:Q1 K H a w)(u:H' a=H a)(k:∀b o,¬MutO (H b)->H b=ai o->H' b=ai o)(m:∀b o,H b=ai o->MutO (H' b)->MutO (H b)):Q1 K H' a w:=by obtain⟨vs,ts,q,l,r,p⟩:=h;exact⟨vs,ts,b3 u q,l,r.mono m k,p⟩
theorem Q1.upd{K:qF}{H:Hp}{a p:aq}{o:HO}{m:Nat}(h:Q1 K H a m)(ne:a≠p)(l:MutO (H p)):Q1 K (upd H p o) a m:=by refine h.to (Jo ne) (λb u nb e=>?_) λb u e z=>?_;rw[Jo (show b≠p from λz=>nb (by rw[z];exact l))];exact e;by_cases y:b=p;rw[y];exact l;rw[Jo y]at z;exact z
theorem Q1.same{K:qF}{H H':Hp}{a:aq}{m:Nat}(h:Q1 K H a m)(s:∀b o,H b=ai o->H' b=ai o):Q1 K H' a m:=by obtain⟨vs,ts,q,l,r,p⟩:=id h;exact h.to (by rw[q];exact s _ _ q) (λb o _ e=>s b o e) λb o e z=>by rw[s b o e]at z;rw[e];exact z
structure Stt(K:qF)(C:Ctx)(ρ:En)(σ:St)(H:Hp)(n:Nat):Prop where
 len:dP ρ=dP σ
 val:∀(i:Nat) (d:ae),ρ[i]?=ai (ai (Cell.val d))->∃v,σ[i]?=ai (ai v)/\Rep K C.hd (Own C ρ σ) H v d
 own:∀(i:Nat) (ds:qD),ρ[i]?=ai (ai (Cell.own ds))->∃a vs,σ[i]?=ai (ai (V.ref a))/\H a=ai (.lst vs)/\Reps K C.hd (Own C ρ σ) H vs ds/\¬C.ext a
 dct:∀(i:Nat) (ks:List (Key×ae)),ρ[i]?=ai (ai (Cell.dct ks))->∃a kvs,σ[i]?=ai (ai (V.ref a))/\H a=ai (.dK kvs)/\UK K C.hd (Own C ρ σ) H kvs ks/\¬C.ext a
 rdo:∀(i:Nat) (ks:List (Key×ae)),ρ[i]?=ai (ai (Cell.rdo ks))->∃a kvs,σ[i]?=ai (ai (V.ref a))/\H a=ai (.dK kvs)/\UK K C.hd (Own C ρ σ) H kvs ks/\C.ext a/\C.hd≠ai a
 dtt:∀(i:Nat) (ks:KT2),ρ[i]?=ai (ai (Cell.dtt ks))->∃a zs ep,σ[i]?=ai (ai (V.ref a))/\H a=ai (ZDO a zs ep)/\Jn K C.hd (Own C ρ σ) H zs ks/\¬C.ext a
 dif:∀(i j:Nat) (c e:Cell) (a:aq),c.mine=bj->e.mine=bj->ρ[i]?=ai (ai c)->ρ[j]?=ai (ai e)->σ[i]?=ai (ai (V.ref a))->σ[j]?=ai (ai (V.ref a))->i=j
 hnd:Hn K C.hd H n
 ext:∀a,C.ext a->MutO (H a)
 hx:∀a,C.hd=ai a->C.ext a
def ExtE(hd:Option aq)(H H':Hp):Prop:=∀a o,H a=ai o->hd≠ai a->H' a=ai o
theorem ExtE.refl:ExtE hd H H:=λ_ _ h _=>h
theorem ExtE.trans(a:ExtE hd H H1)(b:ExtE hd H1 H2):ExtE hd H H2:=λc o h n=>b c o (a c o h n) n
theorem ExtE.new(h:H p=ao):ExtE hd H (upd H p o):=λb u e _=>by rw[Jo (Qz e h)];exact e
section
variable{K:qF}{C:Ctx}{ρ:En}{σ:St}{H H':Hp}{n n':Nat}
theorem MutO.ne(h:MutO o):o≠ao:=by rcases h with⟨_,rfl⟩|⟨_,rfl⟩|⟨_,rfl⟩ <;> exact λz=>by cases z
theorem Stt.at(S:Stt K C ρ σ H n){i:Nat}{c:Cell}(m:c.mine=bj)(x:ρ[i]?=ai (ai c)):∃a:aq,σ[i]?=ai (ai (V.ref a))/\MutO (H a)/\¬C.ext a:=by
 cases c with
 | val d=>cases m
 | own ds =>obtain⟨a,vs,u,v,_,o⟩:=S.own i ds x;exact⟨a,u,fj ⟨_,v⟩,o⟩
 | dct ks =>obtain⟨a,vs,u,v,_,o⟩:=S.dct i ks x;exact⟨a,u,xw (fj ⟨_,v⟩),o⟩
 | rdo ks=>cases m
 | dtt ks =>obtain⟨a,vs,ep,u,v,_,o⟩:=S.dtt i ks x;exact⟨a,u,xw (xw ⟨_,v⟩),o⟩
theorem Stt.lst(S:Stt K C ρ σ H n){a:aq}(h:Own C ρ σ a):MutO (H a):=by rcases h with h|⟨i,c,m,v,u⟩;exact S.ext a h;obtain⟨b,l,o,_⟩:=S.at m v;rw[u]at l;cases l;exact o
theorem Stt.dom(S:Stt K C ρ σ H n)(h:Own C ρ σ a):H a≠ao:=(S.lst h).ne
theorem Stt.free(S:Stt K C ρ σ H n)(h:H a=ao):¬Own C ρ σ a:=λz=>S.dom z h
theorem ExtE.rep(e:ExtE C.hd H H')(hx:∀a,C.hd=ai a->C.ext a){v d}(r:Rep K C.hd (Own C ρ σ) H v d):Rep K C.hd (Own C ρ σ) H' v d :=
 r.mono (λ_ _ _ z=>z) λa o no h=>e a o h λz=>no (fj (hx a z))
theorem ExtE.reps(e:ExtE C.hd H H')(hx:∀a,C.hd=ai a->C.ext a){v d}(r:Reps K C.hd (Own C ρ σ) H v d):Reps K C.hd (Own C ρ σ) H' v d :=
 r.mono (λ_ _ _ z=>z) λa o no h=>e a o h λz=>no (fj (hx a z))
theorem Stt.onX(S:Stt K C ρ σ H n)(k:∀a o,H a=ai o->¬C.ext a->H' a=ai o)(L:∀a,C.ext a->MutO (H' a))(N:∀a ks,H a=ai (.dK ks)->C.ext a->C.hd≠ai a->H' a=ai (.dK ks))(R:Hn K C.hd H' n'):Stt K C ρ σ H' n' where
 len:=S.len
 val:=λi d hi=>by obtain⟨v,G,x⟩:=S.val i d hi;exact⟨v,G,x.mono (λ_ _ _ z=>z) λa o no h=>k a o h λz=>no (fj z)⟩
 own:=λi ds hi=>by obtain⟨a,vs,G,x,I,u⟩:=S.own i ds hi;exact⟨a,vs,G,k a _ x u,I.mono (λ_ _ _ z=>z) (λa o no h=>k a o h λz=>no (fj z)),u⟩
 dct:=λi ds hi=>by obtain⟨a,vs,G,x,I,u⟩:=S.dct i ds hi;exact⟨a,vs,G,k a _ x u,I.mono (λ_ _ _ z=>z) (λa o no h=>k a o h λz=>no (fj z)),u⟩
 rdo:=λi ds hi=>by obtain⟨a,vs,G,x,I,u,J⟩:=S.rdo i ds hi;exact⟨a,vs,G,N a _ x u J,I.mono (λ_ _ _ z=>z) (λa o no h=>k a o h λz=>no (fj z)),u,J⟩
 dtt:=λi ds hi=>by obtain⟨a,vs,ep,G,x,I,u⟩:=S.dtt i ds hi;exact⟨a,vs,ep,G,k a _ x u,I.mono (λ_ _ _ z=>z) (λa o no h=>k a o h λz=>no (fj z)),u⟩
 dif:=S.dif
 hnd:=R
 ext:=L
 hx:=S.hx
theorem Stt.mut(S:Stt K C ρ σ H n){a:aq}(v:C.ext a)(h:Hn K C.hd H' n')(e:∀o,H a=ai o->C.hd≠ai a->H' a=ai o):MutO (H' a):=by by_cases z:C.hd=ai a;exact fj (h.lst z);have q:=S.ext a v;obtain⟨o,u⟩:=Option.ne_none_iff_exists'.mp q.ne;rw[e o u z,<- u];exact q
theorem Stt.on(S:Stt K C ρ σ H n)(e:ExtE C.hd H H')(h:Hn K C.hd H' n'):Stt K C ρ σ H' n' :=
 S.onX (λa o l no=>e a o l λz=>no (S.hx a z)) (λa l=>S.mut l h (e a)) (λa ks l _ u=>e a _ l u) h
end
abbrev DTE:=En->Nat->qN->Prop
abbrev DTT:=En->Nat->(Bool->Nat->Prop)->Prop
abbrev DTA:=En->Nat->(qD->Nat->Prop)->Prop
def DE(X:Cx)(e:aX)(d:DTE):Prop:=∃o,PE X e o/\∀(C:Ctx) (l:En) (σ:St) (H:Hp) (n:Nat) (Q:VK) (R:qN),Stt X.K C l σ H n->d l n R ->
 (∀t u v H',R t u->ExtE C.hd H H'->Hn X.K C.hd H' u->Rep X.K C.hd (Own C l σ) H' v t->Q v H')->o σ H Q
def RepT(K:qF)(hd:Option aq)(O:aq->Prop)(H:Hp)(v:V)(t:ae):Prop :=
 Rep K hd O H v t\/(∃a vs ds,v=.ref a/\t=tE ds/\H a=ai (.lst vs)/\Reps K hd O H vs ds/\hd≠ai a)\/∃a zs ep ks,v=.ref a/\t=tD (Js ks)/\H a=ai (ZDO a zs ep)/\Jn K hd O H zs ks/\hd≠ai a
def DL(X:Cx)(e:aX)(d:DTE):Prop:=∃o,PE X e o/\∀(C:Ctx) (l:En) (σ:St) (H:Hp) (n:Nat) (Q:VK) (R:qN),Stt X.K C l σ H n->d l n R ->
 (∀t u v H',R t u->ExtE C.hd H H'->Hn X.K C.hd H' u->RepT X.K C.hd (Own C l σ) H' v t->Q v H')->o σ H Q
def DN(X:Cx)(e:aX)(d:DTA):Prop:=∃u,PE X e u/\∀(C:Ctx) (o:En) (σ:St) (H:Hp) (n:Nat) (Q:VK) (R:qD->Nat->Prop),Stt X.K C o σ H n->d o n R ->
 (∀ts v p vs H',R ts v->ExtE C.hd H H'->Hn X.K C.hd H' v->H p=ao->H' p=ai (.lst vs)->Reps X.K C.hd (λa=>Own C o σ a\/a=p) H' vs ts->Q (.ref p) H')->u σ H Q
def DT(X:Cx)(e:aX)(d:DTT):Prop:=∃l,PT X e l/\∀(C:Ctx) (u:En) (σ:St) (H:Hp) (n:Nat) (Q:Bool->Hp->Prop) (R:Bool->Nat->Prop),Stt X.K C u σ H n->d u n R ->
 (∀b o H',R b o->ExtE C.hd H H'->Hn X.K C.hd H' o->Q b H')->l σ H Q
def DW(X:Cx)(e:aX)(d:DTT):Prop:=∃l,PW X e l/\∀(C:Ctx) (u:En) (σ:St) (H:Hp) (n:Nat) (Q:Bool->Hp->Prop) (R:Bool->Nat->Prop),Stt X.K C u σ H n->d u n R ->
 (∀b o H',R b o->ExtE C.hd H H'->Hn X.K C.hd H' o->Q b H')->l σ H Q
def DB(X:Cx)(es:List aX)(d:DTA):Prop:=∃o,PB X es o/\∀(C:Ctx) (l:En) (σ:St) (H:Hp) (n:Nat) (Q:List V->Hp->Prop) (R:qD->Nat->Prop),Stt X.K C l σ H n->d l n R ->
 (∀ts u vs H',R ts u->ExtE C.hd H H'->Hn X.K C.hd H' u->Reps X.K C.hd (Own C l σ) H' vs ts->dP ts=dP es->Q vs H')->o σ H Q
section
variable{X:Cx}{e b:aX}{d:DTE}{pos:Pos}
theorem dl(h:DE X e d):DL X e d:=by obtain⟨G,p,h⟩:=h;exact⟨G,p,λC J σ H n Q R S hd I=>h C J σ H n Q R S hd λt u v H' r e x o=>I t u v H' r e x (fj o)⟩
def dNew(d:DTA):DTE:=λu n R=>d u n λts o=>R (tE ts) o
theorem Jz{d:DTA}(h:DN X e d):DE X e (dNew d):=by obtain⟨I,p,h⟩:=h;refine⟨I,p,λC L σ H n Q R S hd J=>h C L σ H n Q _ S hd λts x p vs H' r e G u v o=>J _ x _ H' r e G (.lst v (S.free u) (o.mono (λ_ _ _ z=>fj z) λ_ _ _ z=>z))⟩
def dVar(i:Nat):DTE:=λl n R=>match l[i]? with|some (ai (Cell.val d))=>R d n|_=>False
def dOwn(i:Nat):DTE:=λo n R=>match o[i]? with|some (ai (Cell.own d))=>R (tE d) n|_=>False
def dC(t:ae):DTE:=λ_ n R=>R t n
theorem Jh(i:Nat)(I:X.N[i]?=ai x:=by rfl)(J:Vis (cu X.env) x:=by walk_at "V")(hd:Ndb x:=by rfl)
  (l:Ncd x:=by rfl):DE X (bn x pos) (dVar i):=by
 refine⟨_,QJ I J hd l,λC L σ H n Q R S h G=>?_⟩;unfold dVar at h;split at h;rename_i d e;obtain⟨v,u,o⟩:=S.val i d e;exact⟨v,u,G d n v H h ExtE.refl S.hnd o⟩;exact eJ h
theorem Uu(i:Nat)(L:X.N[i]?=ai x:=by rfl)(U:Vis (cu X.env) x:=by walk_at "V")(hd:Ndb x:=by rfl)
  (o:Ncd x:=by rfl):DL X (bn x pos) (dOwn i):=by
 refine⟨_,QJ L U hd o,λC Y σ H n Q R S h J=>?_⟩;unfold dOwn at h;split at h;rename_i ds e;obtain⟨p,vs,I,v,G,u⟩:=S.own i ds e;exact⟨.ref p,I,J _ n _ H h ExtE.refl S.hnd (xw (fj ⟨p,vs,ds,rfl,rfl,v,G,λz=>u (S.hx p z)⟩))⟩;exact eJ h
def V3(i:Nat):DTE:=λl n R=>match l[i]? with|some (ai (Cell.dtt ks))=>R (tD (Js ks)) n|_=>False
theorem zkg(i:Nat)(J:X.N[i]?=ai x:=by rfl)(L:Vis (cu X.env) x:=by walk_at "V")(hd:Ndb x:=by rfl)
  (l:Ncd x:=by rfl):DL X (bn x pos) (V3 i):=by
 refine⟨_,QJ J L hd l,λC U σ H n Q R S h I=>?_⟩;unfold V3 at h;split at h;rename_i ks e;obtain⟨p,zs,ep,G,u,v,o⟩:=S.dtt i ks e;exact⟨.ref p,G,I _ n _ H h ExtE.refl S.hnd (xw (xw ⟨p,zs,ep,ks,rfl,rfl,u,v,λz=>o (S.hx p z)⟩))⟩;exact eJ h
theorem Jg{i j pos}:DE X (i3 (.int i) j pos) (dC (b5 i)):=⟨_,JD,λ_ _ _ H n _ _ S h l=>l _ n _ H h ExtE.refl S.hnd (.int i)⟩
theorem JR{b j pos}:DE X (i3 (.bool b) j pos) (dC (k6 b)):=⟨_,zzC,λ_ _ _ H n _ _ S h u=>u _ n _ H h ExtE.refl S.hnd (.bl b)⟩
theorem QM{j pos}:DE X (i3 .none j pos) (dC oK):=⟨_,zvt,λ_ _ _ H n _ _ S h l=>l _ n _ H h ExtE.refl S.hnd .non⟩
theorem Qe{x j pos}:DE X (i3 (.str x) j pos) (dC (eN x)):=⟨_,zvq,λ_ _ _ H n _ _ S h l=>l _ n _ H h ExtE.refl S.hnd (.str x)⟩
end
section
variable{K:qF}{hd:Option aq}{O:aq->Prop}{H H':Hp}{v:V}{t:ae}{n:Nat}
theorem Same.ext(h:Same H H'):ExtE hd H H':=λa o e _=>h a o e
theorem Hn.same(h:Hn K hd H n)(s:Same H H'):Hn K hd H' n:=λa e=>by rcases h a e with⟨⟨d,m,t,q,r⟩,l⟩|⟨l,p⟩;exact fj ⟨⟨d,m,t,s _ _ q,r⟩,l⟩;exact xw ⟨l,p.same s⟩
theorem Reps.same{vs ts}(s:Same H H')(r:Reps K hd O H vs ts):Reps K hd O H' vs ts:=r.mono (λ_ _ _ z=>z) λa o _ h=>s a o h
theorem ExtE.repT(e:ExtE C.hd H H')(hx:∀a,C.hd=ai a->C.ext a)(r:RepT K C.hd (Own C ρ σ) H v t):RepT K C.hd (Own C ρ σ) H' v t:=by rcases r with r|⟨a,vs,ds,J,G,I,x,u⟩|⟨a,zs,ep,ks,J,G,I,x,u⟩;exact fj (e.rep hx r);exact xw (fj ⟨a,vs,ds,J,G,e _ _ I u,e.reps hx x,u⟩);exact xw (xw ⟨a,zs,ep,ks,J,G,e _ _ I u,x.mono (λ_ _ _ z=>z) (λa o no h=>e a o h λz=>no (fj (hx a z))),u⟩)
theorem RepT.lstI{ds}(h:RepT K hd O H v (tE ds)):∃a vs,v=.ref a/\H a=ai (.lst vs)/\Reps K hd O H vs ds:=by rcases h with h|⟨a,vs,es,x,o,u,C,_⟩|⟨a,vs,ep,es,x,o,u,C,_⟩;obtain⟨a,vs,x,o,_,u⟩:=h.lstI;exact⟨a,vs,x,o,u⟩;cases o;exact⟨a,vs,x,u,C⟩;cases o
theorem RepT.tupI{ds}(h:RepT K hd O H v (fX ds)):∃a vs,v=.ref a/\SqT K H a vs/\Reps K hd O H vs ds:=by rcases h with h|⟨a,vs,es,G,o,C,x,_⟩|⟨a,vs,ep,es,G,o,C,x,_⟩;exact h.tupI;cases o;cases o
theorem RepT.rep(h:RepT K hd O H v t)(nl:∀ds,t≠tE ds)(nd:∀ks,t≠tD (Js ks):=by intro ks z;first|cases z|exact dict_noT (eF z)):Rep K hd O H v t:=by rcases h with h|⟨a,vs,es,C,o,x,u,_⟩|⟨a,vs,ep,es,C,o,x,u,_⟩;exact h;exact absurd o (nl es);exact absurd o (nd es)
theorem RepT.intI{i}(h:RepT K hd O H v (b5 i)):v=.int i:=(h.rep (by intro _ z;cases z)).intI
theorem RepT.blI{i}(h:RepT K hd O H v (k6 i)):v=.bl i:=(h.rep (by intro _ z;cases z)).blI
theorem RepT.strI{i}(h:RepT K hd O H v (eN i)):v=.str i:=(h.rep (by intro _ z;cases z)).strI
theorem RepT.nonI(h:RepT K hd O H v oK):v=.non:=(h.rep (by intro _ z;cases z)).nonI
theorem Rep.newT{vs ts}(no:¬O p)(h:H p=ao)(r:Reps K hd O H vs ts):Rep K hd O (upd H p (.tup vs)) (.ref p) (fX ts) :=
 .tup JJ no (r.same (λb u e=>by rw[Jo (Qz e h)];exact e))
end
theorem JS(h:H p=ao):Same H (upd H p o):=λb u e=>by rw[Jo (Qz e h)];exact e
abbrev G2:=ae->ae->(ae->Prop)->Prop
def dOp(g:G2)(o db:DTE):DTE:=λl n R=>o l n λx u=>db l u λy v=>g x y λz=>R z v
def Gp2(X:Cx)(r:R2)(g:G2):Prop:=∀(hd:Option aq) (O:aq->Prop) (H:Hp) (x y:V) (t u:ae) (Q:VK) (R:ae->Prop),(∀p,O p->H p≠ao)->RepT X.K hd O H x t->RepT X.K hd O H y u->g t u R ->
 (∀z v H',R z->Same H H'->Rep X.K hd O H' v z->Q v H')->r x y H Q
section
variable{X:Cx}{a b:aX}{da db dc:DTE}{pos:Pos}{r:R2}{g g':G2}
theorem two{C:Ctx}{l:En}{σ:St}{H:Hp}{n:Nat}{Z U:TE}(ha:∀(C:Ctx) (l:En) (σ:St) (H:Hp) (n:Nat) (Q:VK) (R:qN),Stt X.K C l σ H n->da l n R ->
  (∀t I v H',R t I->ExtE C.hd H H'->Hn X.K C.hd H' I->RepT X.K C.hd (Own C l σ) H' v t->Q v H')->Z σ H Q)
  (hb:∀(C:Ctx) (l:En) (σ:St) (H:Hp) (n:Nat) (Q:VK) (R:qN),Stt X.K C l σ H n->db l n R ->
  (∀t I v H',R t I->ExtE C.hd H H'->Hn X.K C.hd H' I->RepT X.K C.hd (Own C l σ) H' v t->Q v H')->U σ H Q)
  {Q2:V->V->Hp->Prop} {R2:ae->qN} (S:Stt X.K C l σ H n) (h:da l n λx L=>db l L λy G=>R2 x y G)
  (hq:∀x y G v w o,R2 x y G->ExtE C.hd H o->Stt X.K C l σ o G->RepT X.K C.hd (Own C l σ) o v x->RepT X.K C.hd (Own C l σ) o w y->Q2 v w o) :
  Z σ H λv J=>U σ J λw o=>Q2 v w o:=by
 refine ha C l σ H n _ _ S h λt L v J r1 e1 h1 q1=>?_;have Y:=S.on e1 h1;refine hb C l σ J L _ _ Y r1 λu G w o r2 N h2 q2=>?_;exact hq t u G v w o r2 (e1.trans N) (Y.on N h2) (N.repT S.hx q1) q2
theorem Q4{op:ue}(ho:OpR X (binaryOp op) r)(hg:Gp2 X r g)(o:DL X a da)(l:DL X b db):DE X (je a op b pos) (dOp g da db):=by obtain⟨ta,pa,o⟩:=o;obtain⟨tb,pb,l⟩:=l;refine⟨_,JF ho pa pb,λC ρ σ H n Q R S h Z=>?_⟩;refine two o l S h λx y Y v w H2 N e G q1 U=>?_;exact hg C.hd (Own C ρ σ) H2 v w x y Q _ (λp=>G.dom) q1 U N λz u H' L I J=>Z z Y u H' L (e.trans I.ext) (G.hnd.same I) J
theorem J5{op:wI}(ho:OpR X (compareOp op) r)(hg:Gp2 X r g)(G:DL X a da)(l:DL X b db)(hm:behindInMarks op b=bA):DE X (jc a [op] [b] pos) (dOp g da db):=by obtain⟨ta,pa,G⟩:=G;obtain⟨tb,pb,l⟩:=l;refine⟨_,znH ho pa pb hm,λC ρ σ H n Q R S h hq=>?_⟩;refine two G l S h λx y Z v w H2 U e I q1 Y=>?_;exact hg C.hd (Own C ρ σ) H2 v w x y Q _ (λp=>I.dom) q1 Y U λz u H' N J L=>hq z Z u H' N (e.trans J.ext) (I.hnd.same J) L
def U6(d:DTE):DTT:=λv n R=>d v n λt u=>match t with|k6 k=>R k u|_=>False
theorem Jl{op:wI}(ho:OpR X (compareOp op) r)(hg:Gp2 X r g)(G:DL X a da)(l:DL X b db)(hm:behindInMarks op b=bA):DT X (jc a [op] [b] pos) (U6 (dOp g da db)):=by
 obtain⟨ta,pa,G⟩:=G;obtain⟨tb,pb,l⟩:=l;refine⟨_,zjH ho pa pb hm,λC ρ σ H n Q R S h hq=>?_⟩;refine two G l S h λx y Z v w H2 U e I q1 Y=>?_;refine hg C.hd (Own C ρ σ) H2 v w x y _ _ (λp=>I.dom) q1 Y U λz u H' J L N=>?_;cases z with
 | bool k =>cases N;exact⟨k,rfl,hq k Z H' J (e.trans L.ext) (I.hnd.same L)⟩
 | _=>exact eJ J
def Y3(g g':G2)(da db dc:DTE):DTE:=λu n R=>da u n λx G=>db u G λy v=>g x y λz=>match z with
 | k6 bj=>dc u v λw C=>g' y w λz=>R z C
 | k6 bA=>R (k6 bA) v
 | _=>False
def gI(C:Int->Int->Prop)(f:Int->Int->Int):G2
 | b5 i,b5 j,R=>C i j/\R (b5 (f i j))
 | _,_,_=>False
def gB(f:Int->Int->Bool):G2
 | b5 i,b5 j,R=>R (k6 (f i j))
 | _,_,_=>False
theorem gp_I:Gp2 X (rI C λi j=>.int (f i j)) (gI C f):=by intro hd O H x y t u Q R dom o v h l;unfold gI at h;split at h;rename_i i j;exact⟨i,j,o.intI,v.intI,h.1,l _ _ H h.2 (Same.refl H) (.int _)⟩;exact eJ h
def gI0(f:Int->Int->Int):G2
 | b5 i,b5 j,R=>R (b5 (f i j))
 | _,_,_=>False
theorem ztJ:Gp2 X (rI0 λi j=>.int (f i j)) (gI0 f):=by intro hd O H x y t u Q R dom o v h l;unfold gI0 at h;split at h;rename_i i j;exact⟨i,j,o.intI,v.intI,l _ _ H h (Same.refl H) (.int _)⟩;exact eJ h
theorem gp_B:Gp2 X (rI0 λi j=>.bl (f i j)) (gB f):=by intro hd O H x y t u Q R dom v C h o;unfold gB at h;split at h;rename_i i j;exact⟨i,j,v.intI,C.intI,o _ _ H h (Same.refl H) (.bl _)⟩;exact eJ h
def oSub:=gI0 λi j=>i - j
def oMod:=gI (λ_ j=>0<j) λi j=>i % j
def Uo:=gI Zw λi j=>i / j
def oShl:=gI CPow λi j=>i*2 ^ mu j
def oShr:=gI (λ_ j=>0<=j) λi j=>i / 2 ^ mu j
def oXor:=gI0 cP
def oAnd:=gI0 fD
theorem J6(o:DL X a da)(l:DL X b db):DE X (je a .Sub b pos) (dOp oSub da db):=Q4 zvD ztJ o l
theorem zoQ(u:DL X a da)(l:DL X b db):DE X (je a .Mod b pos) (dOp oMod da db):=Q4 UN gp_I u l
theorem zoT(x:DL X a da)(u:DL X b db):DE X (je a .FloorDiv b pos) (dOp Uo da db):=Q4 Wi gp_I x u
theorem Qd(o:DL X a da)(l:DL X b db):DE X (je a .LShift b pos) (dOp oShl da db):=Q4 zvF gp_I o l
theorem zrX(o:DL X a da)(l:DL X b db):DE X (je a .RShift b pos) (dOp oShr da db):=Q4 zvE gp_I o l
theorem zrW(u:DL X a da)(l:DL X b db):DE X (je a .BitXor b pos) (dOp oXor da db):=Q4 zvC ztJ u l
theorem zr1(o:DL X a da)(l:DL X b db):DE X (je a .BitAnd b pos) (dOp oAnd da db):=Q4 zvQ ztJ o l
end
section
variable{X:Cx}{pins:qO}{σ:St}{H:Hp}{s:au}{hd:Option aq}{O:aq->Prop}
theorem RepT.reads(I:Inv X pins σ H s)(h:RepT X.K hd O H v d)(r:RelV v u)(e:d.hasDict=bA):∃J,Reads s.heap u d J:=by
 rcases h with h|⟨a,vs,ds,rfl,rfl,G,C,_⟩|⟨a,zs,ep,ks,rfl,rfl,G,C,_⟩
 rotate_left 2
 simp[cF]at e;exact h.reads I r e;cases r;obtain⟨its,R,p,_⟩:=I.list (xs:=vs) (fj (fj G));obtain⟨o,n,N,hc,_,x⟩:=p;obtain⟨J,L⟩:=Reps.reads I C R (by simpa[cF] using e);exact⟨_,.list N hc x (by simpa using L)⟩
end
def Okd(t:ae):Prop:=t.canLay0=bj/\t.depth<=60
section
variable{X:Cx}{a b c:aX}{da db dc:DTE}{pos:Pos}{k:Nat}
def rEqD(K:qF)(neg:Bool):R2:=λx y H Q=>∃hd O t u,RepT K hd O H x t/\RepT K hd O H y u/\Okd t/\Okd u/\Q (.bl (if neg then !t.eqv u else t.eqv u)) H
theorem zvP(N:Room k X.A):OpR X (compareOp .Eq) (rEqD X.K bA):=by intro pins s σ H x y v u Q I L U h;obtain⟨hd,O,t,w,S,J,o,C,q⟩:=h;obtain⟨Y,G⟩:=S.reads I L (bL _ o.1);obtain⟨bs,R⟩:=J.reads I U (bL _ C.1);refine SeqAt.compareEq_reads G R o.1 C.1 ?_ ⟨.bl _,H,I,rfl,q⟩;have:=N.un;have:=o.2;omega
theorem zvH(S:Room k X.A):OpR X (compareOp .NotEq) (rEqD X.K bj):=by intro pins s σ H x y v u Q I R Z h;obtain⟨hd,O,t,w,Y,L,C,G,q⟩:=h;obtain⟨as,J⟩:=Y.reads I R (bL _ C.1);obtain⟨bs,U⟩:=L.reads I Z (bL _ G.1);refine SeqAt.compareNe_reads J U C.1 G.1 ?_ ⟨.bl _,H,I,rfl,q⟩;have:=S.un;have:=C.2;omega
theorem UH:Okd oK:=⟨by simp[bR],by simp[dI]⟩
def oEq:G2
 | b5 i,b5 j,R=>R (k6 (decide (i=j)))
 | eN i,eN j,R=>R (k6 (decide (i=j)))
 | k6 i,k6 j,R=>R (k6 (decide (i=j)))
 | t,u,R=>Okd t/\Okd u/\R (k6 (t.eqv u))
def oNe:G2
 | b5 i,b5 j,R=>R (k6 (!decide (i=j)))
 | eN i,eN j,R=>R (k6 (!decide (i=j)))
 | k6 i,k6 j,R=>R (k6 (!decide (i=j)))
 | t,u,R=>Okd t/\Okd u/\R (k6 (!t.eqv u))
def rEqA(K:qF):R2:=λx y H Q=>rEq x y H Q\/rEqD K bA x y H Q
def rNeA(K:qF):R2:=λx y H Q=>rNe x y H Q\/rEqD K bj x y H Q
theorem Ux(l:Room k X.A):OpR X (compareOp .Eq) (rEqA X.K):=OpR.or zzG (zvP l)
theorem QH(l:Room k X.A):OpR X (compareOp .NotEq) (rNeA X.K):=OpR.or zzE (zvH l)
theorem Uq:Gp2 X (rEqA X.K) oEq:=by
 intro hd O H x y t u Q R dom v G h C;have D:Okd t/\Okd u/\R (k6 (t.eqv u))->rEqA X.K x y H Q:=λh=>xw ⟨hd,O,_,_,v,G,h.1,h.2.1,C _ _ H h.2.2 (Same.refl H) (.bl _)⟩;cases t with
 | int i=>cases u with
  | int j =>rw[v.intI,G.intI];refine fj ⟨rfl,?_⟩;have e:decide (V.int i=V.int j)=decide (i=j):=decide_eq_decide.mpr ⟨λz=>by cases z;rfl,λz=>by rw[z]⟩;rw[e];exact C _ _ H h (Same.refl H) (.bl _)
  | _=>exact D h
 | str i=>cases u with
  | str j =>rw[v.strI,G.strI];refine fj ⟨rfl,?_⟩;have e:decide (V.str i=V.str j)=decide (i=j):=decide_eq_decide.mpr ⟨λz=>by cases z;rfl,λz=>by rw[z]⟩;rw[e];exact C _ _ H h (Same.refl H) (.bl _)
  | _=>exact D h
 | bool i=>cases u with
  | bool j =>rw[v.blI,G.blI];refine fj ⟨rfl,?_⟩;have e:decide (V.bl i=V.bl j)=decide (i=j):=decide_eq_decide.mpr ⟨λz=>by cases z;rfl,λz=>by rw[z]⟩;rw[e];exact C _ _ H h (Same.refl H) (.bl _)
  | _=>exact D h
 | _=>exact D h
theorem QB:Gp2 X (rNeA X.K) oNe:=by
 intro hd O H x y t u Q R dom v G h C;have D:Okd t/\Okd u/\R (k6 (!t.eqv u))->rNeA X.K x y H Q:=λh=>xw ⟨hd,O,_,_,v,G,h.1,h.2.1,C _ _ H h.2.2 (Same.refl H) (.bl _)⟩;cases t with
 | int i=>cases u with
  | int j =>rw[v.intI,G.intI];refine fj ⟨rfl,?_⟩;have e:decide (V.int i=V.int j)=decide (i=j):=decide_eq_decide.mpr ⟨λz=>by cases z;rfl,λz=>by rw[z]⟩;rw[e];exact C _ _ H h (Same.refl H) (.bl _)
  | _=>exact D h
 | str i=>cases u with
  | str j =>rw[v.strI,G.strI];refine fj ⟨rfl,?_⟩;have e:decide (V.str i=V.str j)=decide (i=j):=decide_eq_decide.mpr ⟨λz=>by cases z;rfl,λz=>by rw[z]⟩;rw[e];exact C _ _ H h (Same.refl H) (.bl _)
  | _=>exact D h
 | bool i=>cases u with
  | bool j =>rw[v.blI,G.blI];refine fj ⟨rfl,?_⟩;have e:decide (V.bl i=V.bl j)=decide (i=j):=decide_eq_decide.mpr ⟨λz=>by cases z;rfl,λz=>by rw[z]⟩;rw[e];exact C _ _ H h (Same.refl H) (.bl _)
  | _=>exact D h
 | _=>exact D h
def isNone:ae->Bool
 | oK=>true
 | _=>false
def oIs:G2
 | k6 a,k6 b,R=>R (k6 (a == b))
 | t,oK,R=>R (k6 (isNone t))
 | _,_,_=>False
def oIsN:G2
 | k6 a,k6 b,R=>R (k6 (a != b))
 | t,oK,R=>R (k6 (!isNone t))
 | _,_,_=>False
def rIs:R2:=λx y H Q=>(y=.non/\Q (.bl (decide (x=.non))) H)\/∃a b,x=.bl a/\y=.bl b/\Q (.bl (a == b)) H
def rIsN:R2:=λx y H Q=>(y=.non/\Q (.bl (!decide (x=.non))) H)\/∃a b,x=.bl a/\y=.bl b/\Q (.bl (a != b)) H
theorem zvN:OpR X (compareOp .Is) rIs:=OpR.or zvL zvM
theorem Zd:OpR X (compareOp .IsNot) rIsN:=OpR.or zsV znP
theorem RepT.isN{K:qF}{hd:Option aq}{O:aq->Prop}{H:Hp}{v:V}{t:ae}(h:RepT K hd O H v t):decide (v=.non)=(isNone t):=by rcases h with h|⟨a,vs,ds,rfl,rfl,u,l,_⟩|⟨a,zs,ep,ks,rfl,rfl,u,l,_⟩;cases h <;> simp[HAND,SCR,EXC,isNone];simp[isNone];simp[isNone]
theorem zxf:Gp2 X rIs oIs:=by intro hd O H x y t u Q R dom v C h o;unfold oIs at h;split at h;rename_i i j;exact xw ⟨i,j,v.blI,C.blI,o _ _ H h (Same.refl H) (.bl _)⟩;refine fj ⟨C.nonI,?_⟩;rw[v.isN];exact o _ _ H h (Same.refl H) (.bl _);exact eJ h
theorem Y8:Gp2 X rIsN oIsN:=by intro hd O H x y t u Q R dom v C h o;unfold oIsN at h;split at h;rename_i i j;exact xw ⟨i,j,v.blI,C.blI,o _ _ H h (Same.refl H) (.bl _)⟩;refine fj ⟨C.nonI,?_⟩;rw[v.isN];exact o _ _ H h (Same.refl H) (.bl _);exact eJ h
def rInD(K:qF)(neg:Bool):R2:=λx y H Q=>∃hd O t ts,RepT K hd O H x t/\(RepT K hd O H y (fX ts)\/RepT K hd O H y (tE ts))/\Okd t/\(∀u∈ts,Okd u)/\Q (.bl (if neg then !ts.any (λu=>u.eqv t) else ts.any (λu=>u.eqv t))) H
theorem zjM:∀{ts:qD},(∀u∈ts,Okd u)->cx ts=true
 | [],_=>by simp[cx]
 | t::ts,h=>by simp only[cx,bT];exact⟨(h t (by simp)).1,zjM λu l=>h u (by simp[l])⟩
theorem zvO(U:Room k X.A):OpR X (compareOp .In) (rInD X.K bA):=by
 intro pins s σ H x y v u Q I S L h;obtain⟨hd,O,t,ts,Y,o,C,R,q⟩:=h;obtain⟨Z,J⟩:=Y.reads I S (bL _ C.1);have cl:=zjM R;have N:X.A.units+1+min (cX ts) t.depth<cLine:=by have:=U.un;have:=C.2;omega
 rcases o with o|o;obtain⟨bs,G⟩:=o.reads I L (bL _ (by simpa[bR] using cl));exact SeqAt.in_tuple_reads G J cl C.1 N ⟨.bl _,H,I,rfl,q⟩;obtain⟨bs,G⟩:=o.reads I L (bL _ (by simpa[bR] using cl));exact SeqAt.in_list_reads G J cl C.1 N ⟨.bl _,H,I,rfl,q⟩
theorem ziu(Z:Room k X.A):OpR X (compareOp .NotIn) (rInD X.K bj):=by
 intro pins s σ H x y v u Q I Y R h;obtain⟨hd,O,t,ts,h1,C,G,U,q⟩:=h;obtain⟨as,L⟩:=h1.reads I Y (bL _ G.1);have cl:=zjM U;have S:X.A.units+1+min (cX ts) t.depth<cLine:=by have:=Z.un;have:=G.2;omega
 rcases C with C|C;obtain⟨bs,J⟩:=C.reads I R (bL _ (by simpa[bR] using cl));exact SeqAt.notIn_tuple_reads J L cl G.1 S ⟨.bl _,H,I,rfl,q⟩;obtain⟨bs,J⟩:=C.reads I R (bL _ (by simpa[bR] using cl));exact SeqAt.notIn_list_reads J L cl G.1 S ⟨.bl _,H,I,rfl,q⟩
def oIn:G2
 | t,fX ts,R=>Okd t/\(∀u∈ts,Okd u)/\R (k6 (ts.any λu=>u.eqv t))
 | t,tE ts,R=>Okd t/\(∀u∈ts,Okd u)/\R (k6 (ts.any λu=>u.eqv t))
 | _,_,_=>False
def Z0:G2
 | t,fX ts,R=>Okd t/\(∀u∈ts,Okd u)/\R (k6 (!ts.any λu=>u.eqv t))
 | t,tE ts,R=>Okd t/\(∀u∈ts,Okd u)/\R (k6 (!ts.any λu=>u.eqv t))
 | _,_,_=>False
theorem zAr:Gp2 X (rInD X.K bA) oIn:=by intro hd O H x y t u Q R dom v C h o;unfold oIn at h;split at h;exact⟨hd,O,_,_,v,fj C,h.1,h.2.1,o _ _ H h.2.2 (Same.refl H) (.bl _)⟩;exact⟨hd,O,_,_,v,xw C,h.1,h.2.1,o _ _ H h.2.2 (Same.refl H) (.bl _)⟩;exact eJ h
theorem zk9:Gp2 X (rInD X.K bj) Z0:=by intro hd O H x y t u Q R dom v C h o;unfold Z0 at h;split at h;exact⟨hd,O,_,_,v,fj C,h.1,h.2.1,o _ _ H h.2.2 (Same.refl H) (.bl _)⟩;exact⟨hd,O,_,_,v,xw C,h.1,h.2.1,o _ _ H h.2.2 (Same.refl H) (.bl _)⟩;exact eJ h
def oLtA:G2
 | b5 i,b5 j,R=>R (k6 (decide (i<j)))
 | eN i,eN j,R=>R (k6 (decide (w9 i.cps<w9 j.cps)))
 | fX xs,fX ys,R=>∃ns ms,xs=ns.map b5/\ys=ms.map b5/\R (k6 (HT.lexLt ns ms))
 | _,_,_=>False
def rLtA(K:qF):R2:=λx y H Q=>(rI0 λi j=>.bl (decide (i<j))) x y H Q\/(∃i j,x=.str i/\y=.str j/\Q (.bl (decide (w9 i.cps<w9 j.cps))) H)\/rLtT K x y H Q
theorem Qm(l:Room k X.A):OpR X (compareOp .Lt) (rLtA X.K):=OpR.or zvJ (OpR.or znN (zvI l.units0))
theorem WA{K:qF}{hd:Option aq}{O:aq->Prop}{H:Hp}:∀{ns:List Int}{vs:List V},Reps K hd O H vs (ns.map b5)->vs=ns.map V.int
 | [],_,h=>by cases h;rfl
 | n::ns,_,h=>by
  cases h with
  | cons h r=>rw[h.intI,WA r];rfl
theorem Qk:Gp2 X (rLtA X.K) oLtA:=by
 intro hd O H x y t u Q R dom o C h v;cases t with
 | int i=>cases u with
  | int j=>exact fj ⟨_,_,o.intI,C.intI,v _ _ H h (Same.refl H) (.bl _)⟩
  | _=>exact eJ h
 | str i=>cases u with
  | str j=>exact xw (fj ⟨_,_,o.strI,C.strI,v _ _ H h (Same.refl H) (.bl _)⟩)
  | _=>exact eJ h
 | tuple i=>cases u with
  | tuple j =>obtain⟨ns,ms,rfl,rfl,h⟩:=h;obtain⟨p,vs,J,s1,G⟩:=o.tupI;obtain⟨q,N,L,s2,I⟩:=C.tupI;rw[WA G]at s1;rw[WA I]at s2;exact xw (xw ⟨p,q,ns,ms,J,L,s1,s2,v _ _ H h (Same.refl H) (.bl _)⟩)
  | _=>exact eJ h
 | _=>exact eJ h
def oLeA:G2
 | b5 i,b5 j,R=>R (k6 (decide (i<=j)))
 | eN i,eN j,R=>R (k6 (!decide (w9 j.cps<w9 i.cps)))
 | _,_,_=>False
def rLeA:R2:=λx y H Q=>(rI0 λi j=>.bl (decide (i<=j))) x y H Q\/(∃i j,x=.str i/\y=.str j/\Q (.bl (!decide (w9 j.cps<w9 i.cps))) H)
theorem znO:OpR X (compareOp .LtE) (λx y H Q=>∃i j,x=.str i/\y=.str j/\Q (.bl (!decide (w9 j.cps<w9 i.cps))) H):=by intro pins s σ H x y v u Q I o C h;obtain⟨i,j,rfl,rfl,q⟩:=h;obtain⟨t,rfl⟩:=o;obtain⟨t',rfl⟩:=C;exact PySem.P.le_str ⟨.bl _,H,I,rfl,q⟩
theorem Qh:OpR X (compareOp .LtE) rLeA:=OpR.or zzF znO
theorem Qf:Gp2 X rLeA oLeA:=by
 intro hd O H x y t u Q R dom v C h o;cases t with
 | int i=>cases u with
  | int j=>exact fj ⟨_,_,v.intI,C.intI,o _ _ H h (Same.refl H) (.bl _)⟩
  | _=>exact eJ h
 | str i=>cases u with
  | str j=>exact xw ⟨_,_,v.strI,C.strI,o _ _ H h (Same.refl H) (.bl _)⟩
  | _=>exact eJ h
 | _=>exact eJ h
variable{r r':R2}{g g':G2}
theorem zlf(ho:OpR X (compareOp op) r)(hg:Gp2 X r g)(Y:OpR X (compareOp op') r')(hg':Gp2 X r' g')(ha:DL X a da)(U:DL X b db)(hc:DL X c dc)
  (hm:lastMarks [op,op'] [b,c]=bA:=by with_unfolding_all rfl):DE X (jc a [op,op'] [b,c] pos) (Y3 g g' da db dc):=by
 obtain⟨ta,pa,ha⟩:=ha;obtain⟨tb,pb,U⟩:=U;obtain⟨tc,pc,hc⟩:=hc;refine⟨_,zqf ho Y pa pb pc hm,λC ρ σ H n Q R S h hq=>?_⟩;refine two ha U S h λx y n2 v w H2 r2 e L q1 q2=>?_;refine hg C.hd (Own C ρ σ) H2 v w x y _ _ (λp=>L.dom) q1 q2 r2 λz u H' G J Z=>?_;have N:=L.on J.ext (L.hnd.same J);cases z with
 | bool k =>
  cases Z;refine⟨k,rfl,?_⟩;cases k with
  | false=>exact iteF (hq _ n2 _ H' G (e.trans J.ext) N.hnd (.bl _))
  | true =>refine iteT (hc C ρ σ H' n2 _ _ N G λz2 n3 w2 H4 r4 e4 h4 q4=>?_);have S4:=N.on e4 h4;have q2':=e4.repT S.hx ((Same.ext J:ExtE C.hd H2 H').repT S.hx q2);exact hg' C.hd (Own C ρ σ) H4 w w2 y z2 Q _ (λp=>S4.dom) q2' q4 r4 λz u H' G I Z=>hq z n3 u H' G (((e.trans J.ext).trans e4).trans I.ext) (S4.hnd.same I) Z
 | _=>exact eJ G
end
section
variable{X:Cx}{a b c e:aX}{es rest:List aX}{d da db:DTE}{t u:DTT}{pos p:Pos}{k:Nat}
def truD:ae->(Bool->Prop)->Prop
 | oK,R=>R false
 | k6 b,R=>R b
 | b5 i,R=>R (decide (i≠0))
 | eN x,R=>kN x<=16777216/\R (decide (kN x≠0))
 | tE ts,R=>R (!(dy ts))
 | fX ts,R=>R (!(dy ts))
 | _,_=>False
def dTru(d:DTE):DTT:=λo n R=>d o n λt l=>truD t λb=>R b l
theorem zuw{K:qF}{hd:Option aq}{O:aq->Prop}{H:Hp}{v:V}{t:ae}{Q:Bool->Hp->Prop}{R:Bool->Prop}(r:RepT K hd O H v t)(h:truD t R)(C:∀b,R b->Q b H):∃k,TruV K v H k/\Q k H:=by
 cases t with
 | none=>exact⟨bA,by rw[r.nonI];rfl,C _ h⟩
 | bool b=>exact⟨b,by rw[r.blI];rfl,C _ h⟩
 | int i=>exact⟨decide (i≠0),by rw[r.intI];show _=(i != 0);by_cases z:i=0 <;> simp[z],C _ h⟩
 | str x =>refine⟨decide (kN x≠0),by rw[r.strI];exact⟨h.1,by by_cases z:kN x=0 <;> simp[z]⟩,C _ h.2⟩
 | list ts =>obtain⟨p,vs,e,I,G⟩:=r.lstI;subst e;refine⟨!(dy ts),fj ⟨vs,.of I,?_⟩,C _ h⟩;cases G <;> rfl
 | tuple ts =>obtain⟨p,vs,e,I,G⟩:=r.tupI;subst e;refine⟨!(dy ts),xw (fj ⟨vs,I,?_⟩),C _ h⟩;cases G <;> rfl
 | dict _=>exact eJ h
theorem JM(l:DL X a da)(he:∀whole,isTrue a X.env whole=(do let v <- whole;standAt a.pos;holding [v] (truthy v)):=by intro _;rfl):DT X a (dTru da):=by obtain⟨N,pa,l⟩:=l;refine⟨_,zp7 pa he,λC L σ H n Q R S h J=>?_⟩;refine l C L σ H n _ _ S h λt x v H' r o I q=>?_;exact zuw q r λb G=>J b x H' G o I
def dAnd(t u:DTT):DTT:=λl n R=>t l n λb o=>if b=bj then u l o R else R bA o
def dOr(t u:DTT):DTT:=λl n R=>t l n λb o=>if b=bj then R bj o else u l o R
def dNot(t:DTT):DTT:=λl n R=>t l n λb o=>R (!b) o
theorem JV(h:DW X a t):DT X a t:=by obtain⟨l,pa,h⟩:=h;exact⟨_,pa.pt,h⟩
theorem Y7(h:DT X a t):DW X (hX .And [a] pos) t:=by obtain⟨v,pa,h⟩:=h;exact⟨_,zsy pa,h⟩
theorem Qx(h:DT X a t):DW X (hX .Or [a] pos) t:=by obtain⟨v,pa,h⟩:=h;exact⟨_,zvb pa,h⟩
theorem YG(h:DT X a t)(h':DW X (hX .And (b::rest) pos) u):DW X (hX .And (a::b::rest) pos) (dAnd t u):=by
 obtain⟨ta,pa,h⟩:=h;obtain⟨tb,pb,h'⟩:=h';refine⟨_,zvc pa pb,λC J σ H n Q R S hd I=>?_⟩;refine h C J σ H n _ _ S hd λb L x r v G=>?_;cases b with
 | true=>exact iteT (h' C J σ x L Q R (S.on v G) (by simpa using r) λb U Y r Z N=>I b U Y r (v.trans Z) N)
 | false=>exact iteF (I _ L x (by simpa using r) v G)
theorem Qc(h:DT X a t)(h':DW X (hX .Or (b::rest) pos) u):DW X (hX .Or (a::b::rest) pos) (dOr t u):=by
 obtain⟨ta,pa,h⟩:=h;obtain⟨tb,pb,h'⟩:=h';refine⟨_,zzy pa pb,λC J σ H n Q R S hd I=>?_⟩;refine h C J σ H n _ _ S hd λb L x r v G=>?_;cases b with
 | false=>exact iteF (h' C J σ x L Q R (S.on v G) (by simpa using r) λb U Y r Z N=>I b U Y r (v.trans Z) N)
 | true=>exact iteT (I _ L x (by simpa using r) v G)
theorem J7(h:DT X a t):DT X (jt .Not a pos) (dNot t):=by obtain⟨L,pa,h⟩:=h;refine⟨_,zve pa,λC I σ H n Q R S hd G=>?_⟩;exact h C I σ H n _ _ S hd λb J l r v x=>G _ J l r v x
def bolD:ae->(Bool->Prop)->Prop
 | k6 b,R=>R b
 | _,_=>False
def zt5(da db:DTE):DTE:=λv n R=>da v n λt x=>bolD t λb=>if b=bj then db v x R else R (k6 bA) x
def dOrV(da db:DTE):DTE:=λv n R=>da v n λt x=>bolD t λb=>if b=bj then R (k6 bj) x else db v x R
def zt4(da:DTE):DTE:=λv n R=>da v n λt x=>bolD t λb=>R (k6 (!b)) x
theorem Ue{op}(h:DE X a d):DE X (hX op [a] pos) d:=by obtain⟨v,pa,h⟩:=h;exact⟨_,zvr pa,h⟩
theorem Uf(h:DE X a da)(h':DE X (hX .And (b::rest) pos) db):DE X (hX .And (a::b::rest) pos) (zt5 da db):=by
 obtain⟨ta,pa,h⟩:=h;obtain⟨tb,pb,h'⟩:=h';refine⟨_,zvz pa pb,λC L σ H n Q R S hd J=>?_⟩;refine h C L σ H n _ _ S hd λt N v G r x I q1=>?_;cases t with
 | bool b =>
  cases q1;refine⟨b,rfl,?_⟩;cases b with
  | true=>exact iteT (h' C L σ G N Q R (S.on x I) (by simpa[bolD] using r) λt Z v H2 r e2 U Y=>J t Z v H2 r (x.trans e2) U Y)
  | false=>exact iteF (J _ N _ G (by simpa[bolD] using r) x I (.bl _))
 | _=>exact eJ r
theorem zrY(h:DE X a da)(h':DE X (hX .Or (b::rest) pos) db):DE X (hX .Or (a::b::rest) pos) (dOrV da db):=by
 obtain⟨ta,pa,h⟩:=h;obtain⟨tb,pb,h'⟩:=h';refine⟨_,zzB pa pb,λC L σ H n Q R S hd J=>?_⟩;refine h C L σ H n _ _ S hd λt N v G r x I q1=>?_;cases t with
 | bool b =>
  cases q1;refine⟨b,rfl,?_⟩;cases b with
  | false=>exact iteF (h' C L σ G N Q R (S.on x I) (by simpa[bolD] using r) λt Z v H2 r e2 U Y=>J t Z v H2 r (x.trans e2) U Y)
  | true=>exact iteT (J _ N _ G (by simpa[bolD] using r) x I (.bl _))
 | _=>exact eJ r
theorem ztX(h:DE X a da):DE X (jt .Not a pos) (zt4 da):=by
 obtain⟨ta,pa,h⟩:=h;refine⟨_,zvs pa,λC L σ H n Q R S hd J=>?_⟩;refine h C L σ H n _ _ S hd λt Y v x r G I Z=>?_;cases t with
 | bool b =>cases Z;exact⟨b,rfl,J _ Y _ x r G I (.bl _)⟩
 | _=>exact eJ r
def dIfE(t:DTT)(da db:DTE):DTE:=λl n R=>t l n λb o=>if b=bj then da l o R else db l o R
theorem Zf(hc:DT X c t)(h:DE X a da)(h':DE X b db):DE X (.IfExp c a b pos) (dIfE t da db):=by
 obtain⟨tc,pc,hc⟩:=hc;obtain⟨ta,pa,h⟩:=h;obtain⟨tb,pb,h'⟩:=h';refine⟨_,zqe pc pa pb,λC N σ H n Q R S hd hq=>?_⟩;refine hc C N σ H n _ _ S hd λb n1 Y r l Z=>?_;cases b with
 | true=>exact iteT (h C N σ Y n1 Q R (S.on l Z) (by simpa using r) λt J v L r U o G=>hq t J v L r (l.trans U) o G)
 | false=>exact iteF (h' C N σ Y n1 Q R (S.on l Z) (by simpa using r) λt J v L r U o G=>hq t J v L r (l.trans U) o G)
def dNil:DTA:=λ_ n R=>R [] n
def Qa(d:DTE)(ds:DTA):DTA:=λl n R=>d l n λt o=>ds l o λts v=>R (t::ts) v
theorem Ja:DB X [] dNil:=⟨_,Ua,λC v σ H n Q R S h o=>o [] n [] H h ExtE.refl S.hnd .nil rfl⟩
theorem zoV(h:DE X e d)(l:DB X es ds)(hs:starEach (e::es) X.env=(bA,eval e X.env)::starEach es X.env):DB X (e::es) (Qa d ds):=by obtain⟨ta,pa,h⟩:=h;obtain⟨tb,pb,l⟩:=l;refine⟨_,Qv pa pb hs,λC G σ H n Q R S hd hq=>?_⟩;refine h C G σ H n _ _ S hd λt n1 v J r x Z q1=>?_;refine l C G σ J n1 _ _ (S.on x Z) r λts Y vs H2 N I L U l2=>?_;exact hq _ Y _ H2 N (x.trans I) L (.cons (I.rep S.hx q1) U) (by simp[l2])
def Zy(K:qF)(hd:Option aq)(O:aq->Prop)(H:Hp):List V->qD->Prop:=bN (RepT K hd O H)
def DBL(X:Cx)(es:List aX)(d:DTA):Prop:=∃o,PB X es o/\∀(C:Ctx) (l:En) (σ:St) (H:Hp) (n:Nat) (Q:List V->Hp->Prop) (R:qD->Nat->Prop),Stt X.K C l σ H n->d l n R ->
 (∀ts v vs H',R ts v->ExtE C.hd H H'->Hn X.K C.hd H' v->Zy X.K C.hd (Own C l σ) H' vs ts->dP ts=dP es->Q vs H')->o σ H Q
theorem Jm:DBL X [] dNil:=⟨_,Ua,λC v σ H n Q R S h o=>o [] n [] H h ExtE.refl S.hnd ja rfl⟩
theorem Ji(h:DL X e d)(l:DBL X es ds)(hs:starEach (e::es) X.env=(bA,eval e X.env)::starEach es X.env):DBL X (e::es) (Qa d ds):=by obtain⟨ta,pa,h⟩:=h;obtain⟨tb,pb,l⟩:=l;refine⟨_,Qv pa pb hs,λC G σ H n Q R S hd hq=>?_⟩;refine h C G σ H n _ _ S hd λt n1 v J r x Z q1=>?_;refine l C G σ J n1 _ _ (S.on x Z) r λts Y vs H2 N I L U l2=>?_;exact hq _ Y _ H2 N (x.trans I) L (f6 (I.repT S.hx q1) U) (by simp[l2])
def dTup(ds:DTA):DTE:=λo n R=>ds o n λts v=>R (fX ts) v
theorem Jq(h:DB X es ds)(I:dP es<=sizeLine:=by decide):DE X (jb es x1 pos) (dTup ds):=by obtain⟨ta,pa,h⟩:=h;refine⟨_,zsM pa,λC U σ H n Q R S hd N=>?_⟩;refine h C U σ H n _ _ S hd λts Y vs Z r v x G L=>⟨by rw[G.length,L];exact I,λp o=>?_⟩;have J:=S.on v x;exact N _ Y _ _ r (v.trans (ExtE.new o)) (x.same (JS o)) (.newT (J.free o) o G)
theorem J0(h:DB X es ds)(N:dP es<=sizeLine:=by decide):DN X (.List es pos) ds:=by
 obtain⟨ta,pa,h⟩:=h;refine⟨_,znG pa,λC Z σ H n Q R S hd Y=>?_⟩;refine h C Z σ H n _ _ S hd λts n1 vs H1 r x G J U=>⟨by rw[J.length,U];exact N,λp l=>?_⟩;have S1:=S.on x G;have I:H p=ao:=by
  cases z:H p with
  | none=>rfl
  | some o =>by_cases y:C.hd=ai p;obtain⟨vs,q⟩:=G.lst y;rw[l]at q;cases q;rw[x p o z y]at l;cases l
 refine Y ts n1 p vs _ r (x.trans (ExtE.new l)) (G.same (JS l)) I JJ ?_;refine J.mono (λb o v z=>ii z id λz=>?_) λb o _ v=>JS l b o v;subst z;rw[l]at v;cases v
end
section
variable{X:Cx}{a b e:aX}{es:List aX}{d:DTE}{ds:DTA}{pos p:Pos}{k:Nat}{x:Str}
abbrev GC:=List ae->(ae->Prop)->Prop
def ZO(g:GC)(ds:DTA):DTE:=λl n R=>ds l n λts o=>g ts λz=>R z o
def GpC(X:Cx)(r:List V->Hp->VK->Prop)(g:GC):Prop:=∀(hd:Option aq) (O:aq->Prop) (H:Hp) (xs:List V) (ts:qD) (Q:VK) (R:ae->Prop),(∀p,O p->H p≠ao)->Zy X.K hd O H xs ts->g ts R ->
 (∀z v H',R z->Same H H'->Rep X.K hd O H' v z->Q v H')->r xs H Q
theorem Jw{id:String}{r:List V->Hp->VK->Prop}{g:GC}(hc:JK X (b4 id) r)(v:GpC X r g)(hm:X.mg x=ao)(hv:bootBuiltins x=ai (b4 id))(h:DBL X (e::es) ds)(hg:Gl X x:=by rfl)(hn:x ≠ "__name__":=by decide) (o:Ndb x:=by rfl) :
  DE X (ee (bn x p) (e::es) [] pos) (ZO g ds):=by
 obtain⟨ta,pa,h⟩:=h;refine⟨_,ZI hc hm hv pa hg hn o,λC J σ H n Q R S hd hq=>?_⟩;refine h C J σ H n _ _ S hd λts n1 vs U Y G I q1 _=>?_;have S1:=S.on G I;exact v C.hd (Own C J σ) U vs ts Q _ (λp=>S1.dom) q1 Y λz u H' rz L Z=>hq z n1 u H' rz (G.trans L.ext) (I.same L) Z
theorem Qb(hc:JK X (aY T) r)(v:GpC X r g)(hm:X.mg x=ao)(hv:bootBuiltins x=ai (aY T))(h:DBL X (e::es) ds)(hg:Gl X x:=by rfl)(hn:x ≠ "__name__":=by decide) (o:Ndb x:=by rfl) :
  DE X (ee (bn x p) (e::es) [] pos) (ZO g ds):=by
 obtain⟨ta,pa,h⟩:=h;refine⟨_,zsQ hc hm hv pa hg hn o,λC J σ H n Q R S hd hq=>?_⟩;refine h C J σ H n _ _ S hd λts n1 vs U Y G I q1 _=>?_;have S1:=S.on G I;exact v C.hd (Own C J σ) U vs ts Q _ (λp=>S1.dom) q1 Y λz u H' rz L Z=>hq z n1 u H' rz (G.trans L.ext) (I.same L) Z
theorem Qn{K:qF}{hd:Option aq}{O:aq->Prop}{H:Hp}{xs:List V}{t:ae}(h:Zy K hd O H xs [t]):∃v,xs=[v]/\RepT K hd O H v t:=by
 cases h with
 | cons h r=>cases r;exact⟨_,rfl,h⟩
theorem zrr{K:qF}{hd:Option aq}{O:aq->Prop}{H:Hp}{xs:List V}{t u:ae}(h:Zy K hd O H xs [t,u]):∃v w,xs=[v,w]/\RepT K hd O H v t/\RepT K hd O H w u:=by
 cases h with
 | cons h r=>cases r with|cons l r=>cases r;exact⟨_,_,rfl,h,l⟩
def bLen:GC:=λl R=>(∃ts,l=[tE ts]/\R (b5 (dP ts)))\/(∃ts,l=[fX ts]/\R (b5 (dP ts)))\/(∃x:Str,l=[eN x]/\kN x<=16777216/\R (b5 (kN x)))\/∃ts,l=[tD [(oK,tE ts)]]/\R (b5 (dP ts))
def rLen(K:qF):List V->Hp->VK->Prop:=λxs H Q=>∃x n,xs=[x]/\LenV K x H n/\Q (.int n) H
theorem Qg:GpC X (rLen X.K) bLen:=by
 intro hd O H xs ts Q R dom rs h C;rcases h with⟨ts,rfl,h⟩|⟨ts,rfl,h⟩|⟨x,rfl,h⟩|⟨ts,rfl,h⟩;obtain⟨v,rfl,r⟩:=Qn rs;obtain⟨p,vs,rfl,u,I⟩:=r.lstI;exact⟨_,_,rfl,fj ⟨vs,.of u,rfl⟩,by rw[I.length];exact C _ _ H h (Same.refl H) (.int _)⟩;obtain⟨v,rfl,r⟩:=Qn rs;obtain⟨p,vs,rfl,u,I⟩:=r.tupI;exact⟨_,_,rfl,xw ⟨vs,u,rfl⟩,by rw[I.length];exact C _ _ H h (Same.refl H) (.int _)⟩;obtain⟨v,rfl,r⟩:=Qn rs;rw[r.strI];exact⟨_,_,rfl,⟨h.1,rfl⟩,C _ _ H h.2 (Same.refl H) (.int _)⟩;obtain⟨v,rfl,r⟩:=Qn rs;have r:=r.rep (by intro _ z;cases z);generalize e:(tD [(oK,tE ts)])=t at r;cases r with
 | scr u o =>simp only[SCR,rM,tL,pR,rN,true_and,and_true]at e;subst e;exact⟨_,_,rfl,fj ⟨_,fj u,rfl⟩,by simpa using C _ _ H h (Same.refl H) (.int _)⟩
 | scrS u =>simp only[SCR,rM,tL,pR,rN,true_and,and_true]at e;subst e;exact⟨_,_,rfl,fj ⟨_,u H,rfl⟩,by simpa using C _ _ H h (Same.refl H) (.int _)⟩
 | hand _=>simp[HAND]at e
 | exc _ _=>simp[EXC]at e
 | dct _ _=>cases e
 | dcK _ _ _ G=>cases e;exact(Wp G).elim
 | dcT _ _ _ G=>cases e;exact(dict_noT G).elim
 | _=>cases e
def bMin:GC
 | [b5 i,b5 j],R=>R (b5 (if j<i then j else i))
 | _,_=>False
def bMax:GC
 | [b5 i,b5 j],R=>R (b5 (if j > i then j else i))
 | _,_=>False
theorem Z3:GpC X (λxs H Q=>∃i j,xs=[.int i,.int j]/\Q (.int (if j<i then j else i)) H) bMin:=by
 intro hd O H xs ts Q R dom rs h C;cases ts with
 | nil=>exact eJ h
 | cons t ts=>cases t with
  | int i=>cases ts with
   | nil=>exact eJ h
   | cons u ts=>cases u with
    | int j=>cases ts with
     | nil =>obtain⟨v,w,rfl,l,o⟩:=zrr rs;rw[l.intI,o.intI];exact⟨_,_,rfl,C _ _ H h (Same.refl H) (.int _)⟩
     | cons _ _=>exact eJ h
    | _=>exact eJ h
  | _=>exact eJ h
theorem zox:GpC X (λxs H Q=>∃i j,xs=[.int i,.int j]/\Q (.int (if j > i then j else i)) H) bMax:=by
 intro hd O H xs ts Q R dom rs h C;cases ts with
 | nil=>exact eJ h
 | cons t ts=>cases t with
  | int i=>cases ts with
   | nil=>exact eJ h
   | cons u ts=>cases u with
    | int j=>cases ts with
     | nil =>obtain⟨v,w,rfl,l,o⟩:=zrr rs;rw[l.intI,o.intI];exact⟨_,_,rfl,C _ _ H h (Same.refl H) (.int _)⟩
     | cons _ _=>exact eJ h
    | _=>exact eJ h
  | _=>exact eJ h
def bAbs:GC
 | [b5 i],R=>R (b5 (if i<0 then -i else i))
 | _,_=>False
theorem zxh:GpC X (λxs H Q=>∃i,xs=[.int i]/\Q (.int (if i<0 then -i else i)) H) bAbs:=by
 intro hd O H xs ts Q R dom rs h l;cases ts with
 | nil=>exact eJ h
 | cons t ts=>cases t with
  | int i=>cases ts with
   | nil =>obtain⟨v,rfl,o⟩:=Qn rs;rw[o.intI];exact⟨_,rfl,l _ _ H h (Same.refl H) (.int _)⟩
   | cons _ _=>exact eJ h
  | _=>exact eJ h
def bInt:GC
 | [b5 i],R=>R (b5 i)
 | [k6 k],R=>R (b5 (if k then 1 else 0))
 | _,_=>False
theorem zrN:GpC X (λxs H Q=>(∃i,xs=[.int i]/\Q (.int i) H)\/∃k,xs=[.bl k]/\Q (.int (if k then 1 else 0)) H) bInt:=by
 intro hd O H xs ts Q R dom rs h u;cases ts with
 | nil=>exact eJ h
 | cons t ts=>cases t with
  | int i=>cases ts with
   | nil =>obtain⟨v,rfl,o⟩:=Qn rs;rw[o.intI];exact fj ⟨_,rfl,u _ _ H h (Same.refl H) (.int _)⟩
   | cons _ _=>exact eJ h
  | bool i=>cases ts with
   | nil =>obtain⟨v,rfl,o⟩:=Qn rs;rw[o.blI];exact xw ⟨_,rfl,u _ _ H h (Same.refl H) (.int _)⟩
   | cons _ _=>exact eJ h
  | _=>exact eJ h
def bAll:GC
 | [tE ts],R=>∃bs:List Bool,ts=bs.map k6/\R (k6 (bs.all id))
 | _,_=>False
theorem zgs{K:qF}{hd:Option aq}{O:aq->Prop}{H:Hp}:∀{ns:List Bool}{vs:List V},Reps K hd O H vs (ns.map k6)->vs=ns.map V.bl
 | [],_,h=>by cases h;rfl
 | n::ns,_,h=>by
  cases h with
  | cons h r=>rw[h.blI,zgs r];rfl
theorem Z1:GpC X (λxs H Q=>∃(a:aq) (bs:List Bool),xs=[.ref a]/\SqL X.K H a (bs.map V.bl)/\Q (.bl (bs.all id)) H) bAll:=by intro hd O H xs ts Q R dom rs h I;unfold bAll at h;split at h;obtain⟨bs,rfl,h⟩:=h;obtain⟨v,rfl,C⟩:=Qn rs;obtain⟨p,vs,rfl,u,G⟩:=C.lstI;rw[zgs G]at u;exact⟨p,bs,rfl,.of u,I _ _ H h (Same.refl H) (.bl _)⟩;exact eJ h
def V8:GC
 | [tE ts],R=>R (fX ts)
 | [fX ts],R=>R (fX ts)
 | _,_=>False
theorem QU:GpC X (λxs H Q=>∃p ys,xs=[.ref p]/\((SqL X.K H p ys/\∀l,H l=ao->Q (.ref l) (upd H l (.tup ys)))\/(SqT X.K H p ys/\Q (.ref p) H))) V8:=by
 intro hd O H xs ts Q R dom rs h N;cases ts with
 | nil=>exact eJ h
 | cons t ts=>cases t with
  | list J=>cases ts with
   | nil =>obtain⟨v,rfl,C⟩:=Qn rs;obtain⟨p,vs,rfl,I,L⟩:=C.lstI;refine⟨p,vs,rfl,fj ⟨.of I,λl G=>?_⟩⟩;exact N _ _ _ h (JS G) (.newT (λz=>dom l z G) G L)
   | cons _ _=>exact eJ h
  | tuple J=>cases ts with
   | nil =>obtain⟨v,rfl,C⟩:=Qn rs;obtain⟨p,vs,rfl,I,L⟩:=C.tupI;exact⟨p,vs,rfl,xw ⟨I,N _ _ H h (Same.refl H) (C.rep (by intro _ z;cases z))⟩⟩
   | cons _ _=>exact eJ h
  | _=>exact eJ h
def JU:ae->(qD->Prop)->Prop
 | tE ts,R=>R ts
 | fX ts,R=>R ts
 | _,_=>False
def tyN:ae->Option String
 | oK=>ai "NoneType"
 | k6 _=>ai "bool"
 | b5 _=>ai "int"
 | eN _=>ai "str"
 | tE _=>ai "list"
 | fX _=>ai "tuple"
 | tD []=>ai "dict"
 | tD _=>ao
def rIsi(K:qF):List V->Hp->VK->Prop:=λxs H Q=>∃x hd O t T y b,xs=[x,.ty T]/\RepT K hd O H x t/\tyN t=ai y/\kitB y T=ai b/\Q (.bl b) H
theorem zpe:JK X (b4 "isinstance") (rIsi X.K):=by
 intro pins s σ H xs us Q I r h;obtain⟨x,hd,O,t,T,y,b,rfl,G,ty,e,q⟩:=h;cases r with
 | cons C S =>
  cases S with
  | cons N U =>
   cases U;cases(show _=aY T from N);have fin:∀J,tyN t=ai J->J=y:=λJ h=>aG (b3 h.symm ty);have go:Ty H x y->wpAny (model X.prog X.w) X.A (call (b4 "isinstance") [_,aY T]) (EP X pins σ Q) X.xe s:=λty=>zoo I C ty.of (b3 (YI X.K y T) e) λtk=>⟨.bl b,H,I.tok tk,rfl,q⟩;rcases G with G|⟨a,vs,ds,rfl,rfl,L,R,_⟩|⟨a,zs,ep,ks,rfl,rfl,L,R,_⟩;cases G with
   | non=>cases ty;exact go .non
   | bl b=>cases ty;exact go (.bl b)
   | int i=>cases ty;exact go (.int i)
   | str i=>cases ty;exact go (.str i)
   | tup h o r=>cases ty;exact go (.tup h)
   | lst h o r=>cases ty;exact go (.lst h)
   | @dct a ep h o =>cases ty;cases(show _=aZ a from C);obtain⟨⟨_,_,_,v,es,g1,g2,_⟩,_⟩:=I.hok a _ h;exact bW fQ I.kIn ⟨v,g1,g2.1⟩ (b3 (YI X.K "dict" T) e) (λz=>nomatch z) λtk=>⟨.bl b,H,I.tok tk,rfl,q⟩
   | @dcK a kvs ep ks ps h o r e' =>
    cases ps with
    | nil =>cases ty;cases(show _=aZ a from C);obtain⟨⟨_,_,_,v,es,g1,g2,_⟩,_⟩:=I.hok a _ h;exact bW fQ I.kIn ⟨v,g1,g2.1⟩ (b3 (YI X.K "dict" T) e) (λz=>nomatch z) λtk=>⟨.bl b,H,I.tok tk,rfl,q⟩
    | cons _ _=>simp[tyN]at ty
   | @dcT a zs ep ks ps h o r e' =>
    cases ps with
    | nil =>cases ty;cases(show _=aZ a from C);obtain⟨⟨_,_,_,v,es,g1,g2,_⟩,_⟩:=I.hok a _ h;exact bW fQ I.kIn ⟨v,g1,g2.1⟩ (b3 (YI X.K "dict" T) e) (λz=>nomatch z) λtk=>⟨.bl b,H,I.tok tk,rfl,q⟩
    | cons _ _=>simp[tyN]at ty
   | hand h=>simp[HAND,tyN]at ty
   | scr h o=>simp[SCR,tyN]at ty
   | scrS h=>simp[SCR,tyN]at ty
   | exc h o=>simp[EXC,tyN]at ty
   | @tupS a vs ds h r =>cases ty;cases(show _=aZ a from C);obtain⟨o,its,n,Y,hc,_⟩:=h;exact bW pY I.kIn ⟨o,I.kIn a o Y,hc⟩ (b3 (YI X.K "tuple" T) e) (λz=>nomatch z) λtk=>⟨.bl b,H,I.tok tk,rfl,q⟩
   cases ty;exact go (.lst L);cases ks with
   | nil =>cases ty;cases(show _=aZ a from C);obtain⟨⟨_,_,_,v,es,g1,g2,_⟩,_⟩:=I.hok a _ L;exact bW fQ I.kIn ⟨v,g1,g2.1⟩ (b3 (YI X.K "dict" T) e) (λz=>nomatch z) λtk=>⟨.bl b,H,I.tok tk,rfl,q⟩
   | cons _ _=>simp[tyN,Js]at ty
def Shd(t:ae):Prop:=t.showable=bj/\t.hasDict=bA/\t.depth<=60/\kN t.shown<=16777216
def zu7(K:qF):List V->Hp->VK->Prop:=λxs H Q=>∃x hd O d,xs=[x]/\RepT K hd O H x d/\Shd d/\Q (.str d.shown) H
theorem zg7(J:Room k X.A):JK X (b4 "repr") (zu7 X.K):=by
 intro pins s σ H xs us Q I r h;obtain⟨x,hd,O,d,rfl,Y,⟨R,C,h3,L⟩,q⟩:=h;cases r with
 | cons U Z =>
  cases Z;have fin:∀h' tk u,(∀b o,be s.heap b=ai o->be h' b=ai o)->EP X pins σ Q (ph d.shown u) { s with heap:=h',toks:=tk }:=λh' tk u v=>⟨.str d.shown,H,I.kept v,⟨_,rfl⟩,q⟩;have G:∀tk u,EP X pins σ Q (ph d.shown u) { s with toks:=tk }:=λtk u=>⟨.str d.shown,H,I.tok tk,⟨_,rfl⟩,q⟩;obtain⟨as,rd⟩:=Y.reads I U C;cases rd with
  | none=>exact P.repr_of_none (by simpa only[km] using G _ _)
  | bool b=>exact P.repr_of_bool (by simpa only[km] using G _ _)
  | int i=>exact P.repr_of_int (by simpa[tM] using R) (by simpa only[km] using G _ _)
  | str x=>exact P.repr_of_str (by simpa only[km] using G _ _) (by have h5:_<=sizeLine:=L;simpa only[km] using h5)
  | list a1 a2 N S=>exact uv (.list a1 a2 N S) R (rO C) J.gd (by have:=J.units;omega) (λ_ _ e=>e) (λh' u tk v=>fin h' tk u v) L
  | tuple a1 a2 N S=>exact uv (.tuple a1 a2 N S) R (rO C) J.gd (by have:=J.units;omega) (λ_ _ e=>e) (λh' u tk v=>fin h' tk u v) L
  | dict _ _ _ _ _=>simp[cF]at C
def ZA:GC
 | [t],R=>Shd t/\R (eN t.shown)
 | _,_=>False
theorem zow:GpC X (zu7 X.K) ZA:=by intro hd O H xs ts Q R dom rs h l;unfold ZA at h;split at h;obtain⟨v,rfl,o⟩:=Qn rs;exact⟨v,hd,O,_,rfl,o,h.1,l _ _ H h.2 (Same.refl H) (.str _)⟩;exact eJ h
variable{c:aX}{da db:DTE}
theorem Reps.atI{K:qF}{hd:Option aq}{O:aq->Prop}{H:Hp}{vs ts}{i:Int}{t}(r:Reps K hd O H vs ts)(h:L2.atI ts i=ai t):∃v,L2.atI vs i=ai v/\Rep K hd O H v t:=by
 unfold L2.atI at h ⊢;rw[r.length];cases e:ixN (dP ts) i with
 | none=>rw[e]at h;cases h
 | some j =>rw[e]at h;have h:ts[j]?=ai t:=h;exact r.get h
def oIx:G2
 | tE ts,b5 i,R=>match atI ts i with|some t=>R t|none=>False
 | fX ts,b5 i,R=>match atI ts i with|some t=>R t|none=>False
 | eN x,b5 i,R=>kN x<=16777216/\match atI (w9 x.cps) i with|some c=>R (eN ⟨#[c]⟩)|none=>False
 | _,_,_=>False
theorem zAq:Gp2 X (rIx X.K) oIx:=by
 intro hd O H x y t u Q R dom I S h L;cases t with
 | list ts=>cases u with
  | int i =>obtain⟨p,vs,rfl,J,C⟩:=I.lstI;replace h:(match atI ts i with|some t=>R t|none=>False):=h;split at h;rename_i t G;obtain⟨v,ev,N⟩:=C.atI G;exact fj ⟨p,vs,i,v,rfl,S.intI,.of J,ev,L _ _ H h (Same.refl H) N⟩;exact eJ h
  | _=>exact eJ h
 | tuple ts=>cases u with
  | int i =>obtain⟨p,vs,rfl,J,C⟩:=I.tupI;replace h:(match atI ts i with|some t=>R t|none=>False):=h;split at h;rename_i t G;obtain⟨v,ev,N⟩:=C.atI G;exact xw (fj ⟨p,vs,i,v,rfl,S.intI,J,ev,L _ _ H h (Same.refl H) N⟩);exact eJ h
  | _=>exact eJ h
 | str z=>cases u with
  | int i =>obtain⟨h0,h⟩:=h;split at h;rename_i c U;exact xw (xw ⟨z,i,c,I.strI,S.intI,h0,U,L _ _ H h (Same.refl H) (.str _)⟩);exact eJ h
  | _=>exact eJ h
 | _=>exact eJ h
theorem Jk(o:DL X a da)(l:DL X b db)(hs:zpu b:=by intro _ _;rfl):DE X (d0 a b pos) (dOp oIx da db):=by obtain⟨ta,pa,o⟩:=o;obtain⟨tb,pb,l⟩:=l;refine⟨_,Uk zwG pa pb hs,λC ρ σ H n Q R S h Z=>?_⟩;refine two o l S h λx y Y v w H2 N e G q1 U=>?_;exact zAq C.hd (Own C ρ σ) H2 v w x y Q _ (λp=>G.dom) q1 U N λz u H' L I J=>Z z Y u H' L (e.trans I.ext) (G.hnd.same I) J
def dNeg(d:DTE):DTE:=λl n R=>d l n λt o=>match t with|b5 i=>R (b5 (-i)) o|_=>False
theorem Y4(h:DE X a da):DE X (jt .USub a pos) (dNeg da):=by
 obtain⟨Y,pa,h⟩:=h;refine⟨_,zzz zut pa,λC J σ H n Q R S hd I=>?_⟩;refine h C J σ H n _ _ S hd λt L v l r o G N=>?_;cases t with
 | int i=>rw[N.intI];exact⟨i,rfl,I _ L _ l r o G (.int _)⟩
 | _=>exact eJ r
def zu_(K:qF):R2:=λx y H Q=>∃a b xs ys,x=.ref a/\y=.ref b/\SqT K H a xs/\SqT K H b ys/\dP xs+dP ys<=sizeLine /\
 (xs=[]->Q (.ref b) H)/\(ys=[]->Q (.ref a) H)/\∀p,H p=ao->Q (.ref p) (upd H p (.tup (xs++ys)))
theorem zs0:OpR X (binaryOp .Add) (zu_ X.K):=by
 intro pins s σ H x y v u Q I R U h;obtain⟨a,b,xs,ys,rfl,rfl,Y,L,hz,q0,q1,q2⟩:=h;by_cases hx:xs=[];cases R;cases U;obtain⟨its,Z,p1,_⟩:=I.tuple Y;obtain⟨l,r2,p2,_⟩:=I.tuple L;have hv:its=[]:=Z.nil_iff.mpr hx;obtain⟨⟨cls,dd,data,sl⟩,S,hc,n,hd⟩:=id p1;obtain⟨⟨N,J,data2,G⟩,o,C,n2,hd2⟩:=id p2;simp only at hc hd C hd2;subst hc hd C hd2;exact rG ⟨_,S,rfl⟩ ⟨_,o,rfl⟩ m8 pQ kg i5 (iL _ _)
  (tuple_addW0 a b (bm its) (bm l) n n2 dd J sl G (by simp[hv])) ⟨S,o,⟨.ref b,H,I,rfl,q0 hx⟩⟩
 exact zsZ pins s σ H _ _ v u Q I R U ⟨a,b,xs,ys,rfl,rfl,Y,L,hx,hz,q1,λ_=>q2⟩
def oAdd:G2
 | b5 i,b5 j,R=>R (b5 (i+j))
 | eN i,eN j,R=>kN i+kN j<=16777216/\R (eN (i++j))
 | fX xs,fX ys,R=>dP xs+dP ys<=16777216/\R (fX (xs++ys))
 | _,_,_=>False
def zva(K:qF):R2:=λx y H Q=>(rI0 λi j=>.int (i+j)) x y H Q\/(∃i j,x=.str i/\y=.str j/\kN i+kN j<=sizeLine/\Q (.str (i++j)) H)\/zu_ K x y H Q
theorem zs1:OpR X (binaryOp .Add) (zva X.K):=OpR.or Uc (OpR.or zlI zs0)
theorem zxg:Gp2 X (zva X.K) oAdd:=by intro hd O H x y t u Q R dom v C h o;unfold oAdd at h;split at h;exact fj ⟨_,_,v.intI,C.intI,o _ _ H h (Same.refl H) (.int _)⟩;exact xw (fj ⟨_,_,v.strI,C.strI,h.1,o _ _ H h.2 (Same.refl H) (.str _)⟩);rename_i xs ys;obtain⟨p,vs,rfl,N,I⟩:=v.tupI;obtain⟨q,S,rfl,L,G⟩:=C.tupI;refine xw (xw ⟨p,q,vs,S,rfl,rfl,N,L,by rw[I.length,G.length];exact h.1,λe=>?_,λe=>?_,λl J=>?_⟩);subst e;cases I;exact o _ _ H h.2 (Same.refl H) (C.rep (by intro _ z;cases z));subst e;cases G;exact o _ _ H h.2 (Same.refl H) (by rw[b8];exact v.rep (by intro _ z;cases z));exact o _ _ _ h.2 (JS J) (.newT (λz=>dom l z J) J (I.append G));exact eJ h
theorem JC(o:DL X a da)(l:DL X b db):DE X (je a .Add b pos) (dOp oAdd da db):=Q4 zs1 zxg o l
theorem Y9{K:qF}{C:Ctx}{H u:Hp}{G:Nat}{p:aq}(v:ExtE C.hd H u)(I:Hn K C.hd u G)(l:u p=ao):H p=ao:=by
 cases z:H p with
 | none=>rfl
 | some o =>by_cases y:C.hd=ai p;obtain⟨vs,q⟩:=I.lst y;rw[l]at q;cases q;rw[v p o z y]at l;cases l
def oMul:=gI CMul λi j=>i*j
theorem ZP(v:DL X a da)(o:DL X b db):DE X (je a .Mult b pos) (dOp oMul da db):=Q4 Q9 gp_I v o
abbrev GD:=List ae->Nat->qN->Prop
def spD(K:qF)(m:Nat)(g:GD):Sp:=λvs H Q _=>∃(hd:Option aq) (O:aq->Prop) (ts:qD) (n:Nat) (R:qN),Reps K hd O H vs ts/\Hn K hd H n/\(∀a,O a->MutO (H a))/\(∀a,hd=ai a->O a)/\dP ts=m/\g ts n R /\
 ∀t l v H',R t l->ExtE hd H H'->Hn K hd H' l->Rep K hd O H' v t->Q v H'
def dFn(g:GD)(ds:DTA):DTE:=λl n R=>ds l n λts o=>g ts o R
theorem zAv{st:eW}{ps:List Str}{f:aq}{fd:dO}{g:GD}{m:Nat}(D:Bd.Def X.K X.mg x st ps f fd)(G:FnOk X.prog X.w X.K X.mg X.base CX0 k f fd ps (spD X.K m g))(hr:Room k X.A)(h:DB X (e::es) ds)(hm:dP (e::es)=m:=by rfl)(hg:Gl X x:=by rfl)
  (o:Ndb x:=by rfl):DE X (ee (bn x p) (e::es) [] pos) (dFn g ds):=by
 obtain⟨ta,pa,h⟩:=h;refine⟨_,Bd.zsN D G hr pa hg o,λC J σ H n Q R S hd hq=>?_⟩;refine h C J σ H n _ _ S hd λts n1 vs H1 L u I q1 l1=>?_;have Z:=S.on u I;rw[b8];exact⟨C.hd,Own C J σ,ts,n1,R,q1,I,λa=>Z.lst,λa z=>fj (S.hx a z),b3 l1 hm,L,λt n' v H' rt e2 U Y=>hq t n' v H' rt (u.trans e2) U Y⟩
def dFnL(g:GD)(ds:DTA):DTE:=λl n R=>ds l n λts o=>g ts o λt u=>Q6 t=bj/\R t u
theorem zxB{st:eW}{ps:List Str}{f:aq}{fd:dO}{g:GD}{m:Nat}(D:Bd.Def X.K X.mg x st ps f fd)(G:FnOk X.prog X.w X.K X.mg X.base CX0 k f fd ps (spD X.K m g))(hr:Room k X.A)(h:DBL X (e::es) ds)(hm:dP (e::es)=m:=by rfl)(hg:Gl X x:=by rfl)
  (I:Ndb x:=by rfl):DE X (ee (bn x p) (e::es) [] pos) (dFnL g ds):=by
 obtain⟨ta,pa,h⟩:=h;refine⟨_,Bd.zsN D G hr pa hg I,λC ρ σ H n Q R S hd hq=>?_⟩;refine h C ρ σ H n _ _ S hd λts n1 vs Y r1 e1 L q1 l1=>?_;have S1:=S.on e1 L;rw[b8];have lend:∀{vs ts},Zy X.K C.hd (Own C ρ σ) Y vs ts->Reps X.K C.hd (λa=>C.hd=ai a) Y vs ts:=by
  intro vs ts q;induction q with
  | nil=>exact .nil
  | cons r _ ih =>refine .cons ?_ ih;rcases r with r|⟨a,ws,us,rfl,rfl,J,u,U⟩|⟨a,zs,ep,ks,rfl,rfl,J,u,U⟩;exact r.mono (λa o _ z=>fj (S.hx a z)) λ_ _ _ z=>z;exact .lst J U (u.mono (λa o _ z=>fj (S.hx a z)) λ_ _ _ z=>z);exact .dcT J U (u.mono (λa o _ z=>fj (S.hx a z)) λ_ _ _ z=>z) rfl
 refine⟨C.hd,λa=>C.hd=ai a,ts,n1,_,lend q1,L,λa z=>?_,λa z=>z,b3 l1 hm,r1,λt n' v H' rt e2 Z q2=>?_⟩;obtain⟨vs,q⟩:=L.lst z;exact fj ⟨_,q⟩;exact hq t n' v H' rt.2 (e1.trans e2) Z (q2.up (λa z=>(S1.on e2 Z).lst z) rt.1)
end
section
variable{X:Cx}{H H':Hp}{s s':au}{C e:aq}
def Fly1(P:aL)(w:aV)(l:List Env)(H H':Hp)(h:bh)(C e:aq)(h':bh):Prop :=
 ∃B a0,Heap.FlyingW B l e (aZ C) a0 h'/\H' e=ao/\be h e=ao/\∀o,B.StaysIn o->h'.UpToSlots o->Un (frs l) [] H H' h o/\HOk P w H' o
inductive FlyX (X:Cx)(C:aq)(H':Hp)(e:aq)(s':au):Prop
 | made {Ot:qO} {σ':St} {s h1} (I:Inv X Ot σ' H' s) (m:Heap.MadeExcOf s.heap h1 e (aZ C) []) (hs:s'={ s with heap:=h1 })
 | on {Ot:qO} {σ':St} {H1:Hp} {s} (I:Inv X Ot σ' H1 s) (os:s'.os=s.os) (bare:lG s'.gens) (f:Fly1 X.prog X.w X.stack H1 H' s.heap C e s'.heap)
def XW(X:Cx)(C:aq)(H':Hp):Prop:=∀e s',FlyX X C H' e s'->X.xe (aZ e) s'
end
def Keep(C:Ctx)(u:En)(σ:St)(H:Hp)(l:En)(σ':St)(H':Hp):Prop:=∀a o,H a=ai o->C.hd≠ai a->¬OwnS u σ a->H' a=ai o/\¬OwnS l σ' a
structure JN where
 nx:En->Nat->Prop
 rt:qN
 bk:En->Nat->Prop:=λ_ _=>False
 ct:En->Nat->Prop:=λ_ _=>False
 xr:Str->Nat->Prop:=λ_ _=>False
abbrev DTS:=JN->En->Nat->Prop
def XN(X:Cx)(c:Str)(H':Hp):Prop:=∀C,X.mg c=ai (aZ C)->XW X C H'
structure Good(X:Cx)(C:Ctx)(ρ:En)(σ:St)(H:Hp)(D:Ends)(D':JN):Prop where
 nx:∀ρ' σ' H' n',D'.nx ρ' n'->Stt X.K C ρ' σ' H' n'->Keep C ρ σ H ρ' σ' H'->D.nx σ' H'
 rt:∀t n' v H',D'.rt t n'->Hn X.K C.hd H' n'->(∀a o,H a=ai o->C.hd≠ai a->¬OwnS ρ σ a->H' a=ai o)->Rep X.K C.hd C.ext H' v t->D.rt v H'
 bk:∀ρ' σ' H' n',D'.bk ρ' n'->Stt X.K C ρ' σ' H' n'->Keep C ρ σ H ρ' σ' H'->D.bk σ' H'
 ct:∀ρ' σ' H' n',D'.ct ρ' n'->Stt X.K C ρ' σ' H' n'->Keep C ρ σ H ρ' σ' H'->D.ct σ' H'
 xr:∀c n' H',D'.xr c n'->Hn X.K C.hd H' n'->(∀a o,H a=ai o->C.hd≠ai a->¬OwnS ρ σ a->H' a=ai o)->XN X c H'
def DS(X:Cx)(st:eW)(d:DTS):Prop:=∃ts,PS X st ts/\∀(C:Ctx) (l:En) (σ:St) (H:Hp) (n:Nat) (D:Ends) (o:JN),Stt X.K C l σ H n->d o l n->Good X C l σ H D o->ts D σ H
def DSs(X:Cx)(st:List eW)(d:DTS):Prop:=∃ts,PSs X st ts/\∀(C:Ctx) (l:En) (σ:St) (H:Hp) (n:Nat) (D:Ends) (o:JN),Stt X.K C l σ H n->d o l n->Good X C l σ H D o->ts D σ H
section
variable{K:qF}{C:Ctx}{ρ ρ1 ρ2:En}{σ σ1 σ2:St}{H H1 H2:Hp}{n n1:Nat}{D:Ends}{D':JN}
theorem Keep.refl:Keep C ρ σ H ρ σ H:=λ_ _ h _ no=>⟨h,no⟩
theorem Keep.trans(v:Keep C ρ σ H ρ1 σ1 H1)(G:Keep C ρ1 σ1 H1 ρ2 σ2 H2):Keep C ρ σ H ρ2 σ2 H2:=λa o h u no=>by obtain⟨x,l⟩:=v a o h u no;exact G a o x u l
theorem ExtE.keep(e:ExtE C.hd H H1):Keep C ρ σ H ρ σ H1:=λa o h l no=>⟨e a o h l,no⟩
theorem Good.on{X:Cx}(g:Good X C ρ σ H D D')(k:Keep C ρ σ H ρ1 σ1 H1):Good X C ρ1 σ1 H1 D D' where
 nx:=λl σ' H' x h S u=>g.nx l σ' H' x h S (k.trans u)
 rt:=λt x v H' h N u r=>g.rt t x v H' h N (λa o L I no=>by obtain⟨J,G⟩:=k a o L I no;exact u a o J I G) r
 bk:=λl σ' H' x h S u=>g.bk l σ' H' x h S (k.trans u)
 ct:=λl σ' H' x h S u=>g.ct l σ' H' x h S (k.trans u)
 xr:=λc x H' h N u=>g.xr c x H' h N λa o L I no=>by obtain⟨J,G⟩:=k a o L I no;exact u a o J I G
theorem Keep.rep(k:Keep C ρ σ H ρ1 σ1 H1)(hx:∀a,C.hd=ai a->C.ext a){v t}(r:Rep K C.hd (Own C ρ σ) H v t):Rep K C.hd (Own C ρ1 σ1) H1 v t :=
 Rep.mono (O:=Own C ρ σ) (λa o h z=>by by_cases q:Own C ρ σ a;exact q;rcases z with z|z;exact fj z;exact absurd z (k a o h (λy=>q (fj (hx a y))) λy=>q (xw y)).2) (λa o no h=>(k a o h (λy=>no (fj (hx a y))) λy=>no (xw y)).1) r
theorem Keep.reps(k:Keep C ρ σ H ρ1 σ1 H1)(hx:∀a,C.hd=ai a->C.ext a){v t}(r:Reps K C.hd (Own C ρ σ) H v t):Reps K C.hd (Own C ρ1 σ1) H1 v t :=
 Reps.mono (O:=Own C ρ σ) (λa o h z=>by by_cases q:Own C ρ σ a;exact q;rcases z with z|z;exact fj z;exact absurd z (k a o h (λy=>q (fj (hx a y))) λy=>q (xw y)).2) (λa o no h=>(k a o h (λy=>no (fj (hx a y))) λy=>no (xw y)).1) r
theorem Jy{α:Type}{l:List (Option α)}{i j:Nat}{v w:α}(h:(cr l i (ai v))[j]?=ai (ai w)):(i=j/\v=w)\/(i≠j/\l[j]?=ai (ai w)):=by by_cases e:i=j;subst e;rw[mN]at h;simp only[↓reduceIte]at h;split at h;simp at h;exact fj ⟨rfl,h⟩;cases h;rw[dN e]at h;exact xw ⟨e,h⟩
theorem YA{α:Type}{l:List (Option α)}{i j:Nat}{v w:α}(e:i≠j)(h:l[j]?=ai (ai w)):(cr l i (ai v))[j]?=ai (ai w):=by rw[dN e];exact h
theorem zrn{α:Type}{l:List (Option α)}{i j:Nat}{v:α}{w:Option α}(h:(cr l i (ai v))[j]?=ai w)(e:i=j):i<dP l:=by subst e;rw[mN]at h;simp only[↓reduceIte]at h;split at h;assumption;cases h
theorem zm5{α:Type}{l:List (Option α)}{i:Nat}{v:α}(h:i<dP l):(cr l i (ai v))[i]?=ai (ai v):=by rw[mN];simp[h]
theorem Wj{i:Nat}{t:ae}{v:V}{a:aq}(h:OwnS (cr ρ i (ai (.val t))) (cr σ i (ai v)) a):OwnS ρ σ a:=by obtain⟨j,c,m,u,o⟩:=h;rcases Jy u with⟨_,z⟩|⟨e,u⟩;subst z;cases m;rcases Jy o with⟨z,_⟩|⟨_,o⟩;exact absurd z e;exact⟨j,c,m,u,o⟩
def QS(K:qF)(hd:Option aq)(O:aq->Prop)(H:Hp)(a:aq):Cell->Prop
 | .val _=>False
 | .rdo _=>False
 | .own ts=>∃vs,H a=ai (.lst vs)/\Reps K hd O H vs ts
 | .dct ks=>∃u,H a=ai (.dK u)/\UK K hd O H u ks
 | .dtt ks=>∃zs ep,H a=ai (ZDO a zs ep)/\Jn K hd O H zs ks
theorem QS.mono(x:QS K hd O H a c)(G:∀a o,H a=ai o->O' a->O a)(I:∀a o,¬O a->H a=ai o->H' a=ai o)(v:∀o,H a=ai o->H' a=ai o):QS K hd O' H' a c:=by
 cases c with
 | val _=>exact eJ x
 | rdo _=>exact eJ x
 | own ts=>obtain⟨vs,u,l⟩:=x;exact⟨vs,v _ u,l.mono G I⟩
 | dct ks=>obtain⟨vs,u,l⟩:=x;exact⟨vs,v _ u,l.mono G I⟩
 | dtt ks=>obtain⟨vs,ep,u,l⟩:=x;exact⟨vs,ep,v _ u,l.mono G I⟩
theorem QS.some(x:QS K hd O H a c):∃o,H a=ai o:=by
 cases c with
 | val _=>exact eJ x
 | rdo _=>exact eJ x
 | own ts=>obtain⟨vs,l,u⟩:=x;exact⟨_,l⟩
 | dct ks=>obtain⟨vs,l,u⟩:=x;exact⟨_,l⟩
 | dtt ks=>obtain⟨vs,ep,l,u⟩:=x;exact⟨_,l⟩
theorem QS.mine(x:QS K hd O H a c):c.mine=bj:=by
 cases c with
 | val _=>exact eJ x
 | rdo _=>exact eJ x
 | own ts=>rfl
 | dct ks=>rfl
 | dtt ks=>rfl
theorem Stt.cell(S:Stt K C ρ σ H n){i:Nat}{c:Cell}(m:c.mine=bj)(h:ρ[i]?=ai (ai c)):∃a:aq,σ[i]?=ai (ai (V.ref a))/\QS K C.hd (Own C ρ σ) H a c/\¬C.ext a:=by
 cases c with
 | val _=>cases m
 | rdo _=>cases m
 | own ts=>obtain⟨a,vs,v,o,u,l⟩:=S.own i ts h;exact⟨a,v,⟨vs,o,u⟩,l⟩
 | dct ks=>obtain⟨a,vs,v,o,u,l⟩:=S.dct i ks h;exact⟨a,v,⟨vs,o,u⟩,l⟩
 | dtt ks=>obtain⟨a,vs,ep,v,o,u,l⟩:=S.dtt i ks h;exact⟨a,v,⟨vs,ep,o,u⟩,l⟩
def zui(K:qF)(C:Ctx)(ρ:En)(σ:St)(H:Hp):Prop:=∀(i:Nat) (ks:List (Key×ae)),ρ[i]?=ai (ai (Cell.rdo ks))->∃a l,σ[i]?=ai (ai (V.ref a))/\H a=ai (.dK l)/\UK K C.hd (Own C ρ σ) H l ks/\C.ext a/\C.hd≠ai a
theorem Stt.mk'(len:dP ρ=dP σ)(val:∀(i:Nat) (d:ae),ρ[i]?=ai (ai (Cell.val d))->∃v,σ[i]?=ai (ai v)/\Rep K C.hd (Own C ρ σ) H v d)
  (cell:∀(i:Nat) (c:Cell),c.mine=bj->ρ[i]?=ai (ai c)->∃a:aq,σ[i]?=ai (ai (V.ref a))/\QS K C.hd (Own C ρ σ) H a c/\¬C.ext a)
  (rdo:zui K C ρ σ H) (dif:∀(i j:Nat) (c e:Cell) (a:aq),c.mine=bj->e.mine=bj->ρ[i]?=ai (ai c)->ρ[j]?=ai (ai e)->σ[i]?=ai (ai (V.ref a))->σ[j]?=ai (ai (V.ref a))->i=j)
  (hnd:Hn K C.hd H n) (ext:∀a,C.ext a->MutO (H a)) (hx:∀a,C.hd=ai a->C.ext a):Stt K C ρ σ H n where
 len:=len
 val:=val
 own:=λi ts h=>by obtain⟨a,x,⟨vs,o,u⟩,l⟩:=cell i _ rfl h;exact⟨a,vs,x,o,u,l⟩
 dct:=λi ts h=>by obtain⟨a,x,⟨vs,o,u⟩,l⟩:=cell i _ rfl h;exact⟨a,vs,x,o,u,l⟩
 rdo:=rdo
 dtt:=λi ts h=>by obtain⟨a,x,⟨vs,ep,o,u⟩,l⟩:=cell i _ rfl h;exact⟨a,vs,ep,x,o,u,l⟩
 dif:=dif
 hnd:=hnd
 ext:=ext
 hx:=hx
theorem Stt.put(S:Stt K C ρ σ H n){i:Nat}{t:ae}{v:V}(r:Rep K C.hd (Own C ρ σ) H v t):Stt K C (cr ρ i (ai (.val t))) (cr σ i (ai v)) H n:=by
 have sub:∀a o,H a=ai o->Own C (cr ρ i (ai (.val t))) (cr σ i (ai v)) a->Own C ρ σ a:=λa o _ z=>ii z fj λz=>xw (Wj z);have mono:∀{w u},Rep K C.hd (Own C ρ σ) H w u->Rep K C.hd (Own C (cr ρ i (ai (.val t))) (cr σ i (ai v))) H w u:=λq=>q.mono sub λ_ _ _ z=>z;refine .mk' (by simp[S.len]) (λj d h=>?_) (λj c m h=>?_) (λj ks h=>?_) (λj k c e a Y Z G x J h4=>?_) S.hnd S.ext S.hx
 rotate_left 2
 rcases Jy h with⟨_,z⟩|⟨e,h'⟩;cases z;obtain⟨a,U,q1,q2,q3,q4⟩:=S.rdo j ks h';exact⟨a,U,YA e q1,q2,q3.mono sub λ_ _ _ z=>z,q4⟩
 rotate_left 1
 rcases Jy h with⟨e,z⟩|⟨e,h'⟩;cases z;have:=zrn h e;subst e;exact⟨v,zm5 (by rw[<- S.len];exact this),mono r⟩;obtain⟨w,G,x⟩:=S.val j d h';exact⟨w,YA e G,mono x⟩;rcases Jy h with⟨e,z⟩|⟨e,h'⟩;subst z;cases m;obtain⟨a,G,x,J⟩:=S.cell m h';exact⟨a,YA e G,x.mono sub (λ_ _ _ z=>z) λ_ z=>z,J⟩;rcases Jy G with⟨e,z⟩|⟨e,N⟩;subst z;cases Y;rcases Jy x with⟨e2,z⟩|⟨e2,L⟩;subst z;cases Z;rcases Jy J with⟨z,_⟩|⟨_,I⟩;exact absurd z e;rcases Jy h4 with⟨z,_⟩|⟨_,R⟩;exact absurd z e2;exact S.dif j k c _ a Y Z N L I R
theorem UU:Keep C ρ σ H (cr ρ i (ai (.val t))) (cr σ i (ai v)) H:=λa o h _ no=>⟨h,λz=>no (Wj z)⟩
theorem zkP{i:Nat}{c:Cell}{p a:aq}(h:OwnS (cr ρ i (ai c)) (cr σ i (ai (.ref p))) a):OwnS ρ σ a\/a=p:=by obtain⟨j,ds,m,u,o⟩:=h;rcases Jy o with⟨e,z⟩|⟨e,o⟩;cases z;exact xw rfl;rcases Jy u with⟨z,_⟩|⟨_,u⟩;exact absurd z e;exact fj ⟨j,ds,m,u,o⟩
theorem Stt.putNew(S:Stt K C ρ σ H n){i:Nat}{c:Cell}{p:aq}{H':Hp}(e:ExtE C.hd H H')(h:Hn K C.hd H' n1)(hp:H p=ao)(r:QS K C.hd (λa=>Own C ρ σ a\/a=p) H' p c) :
  Stt K C (cr ρ i (ai c)) (cr σ i (ai (.ref p))) H' n1:=by
 have S':=S.on e h;have mc:=r.mine;have sub:∀a,Own C (cr ρ i (ai c)) (cr σ i (ai (.ref p))) a->Own C ρ σ a\/a=p:=λa z=>ii z (λz=>fj (fj z)) λz=>ii (zkP z) (λz=>fj (xw z)) xw;have npx:¬C.ext p:=λz=>S.dom (fj z) hp;have sb:∀a o,H a=ai o->Own C (cr ρ i (ai c)) (cr σ i (ai (.ref p))) a->Own C ρ σ a:=λa o N z=>ii (sub a z) id λz=>by subst z;rw[hp]at N;cases N
 have kp:∀a o,¬Own C ρ σ a->H a=ai o->H' a=ai o:=λa o no N=>e a o N λz=>no (fj (S.hx a z));have OW:∀(j:Nat) (d:Cell),d.mine=bj->ρ[j]?=ai (ai d)->σ[j]?≠ai (ai (V.ref p)):=λj d m G v=>by obtain⟨a,e1,Z,_⟩:=S.cell m G;rw[v]at e1;cases e1;obtain⟨o,Z⟩:=Z.some;rw[hp]at Z;cases Z
 refine .mk' (by simp[S.len]) (λj d L=>?_) (λj d m L=>?_) (λj ks L=>?_) (λj k c1 c2 a m1 m2 G v h3 R=>?_) h S'.ext S.hx
 rotate_left 2
 rcases Jy L with⟨_,z⟩|⟨u,h'⟩;subst z;cases mc;obtain⟨a,kvs,q1,q2,q3,q4,q5⟩:=S.rdo j ks h';exact⟨a,kvs,YA u q1,e a _ q2 q5,q3.mono sb kp,q4,q5⟩
 rotate_left 1
 rcases Jy L with⟨_,z⟩|⟨u,h'⟩;subst z;cases mc;obtain⟨w,G,v⟩:=S.val j d h';exact⟨w,YA u G,v.mono sb kp⟩;rcases Jy L with⟨u,z⟩|⟨u,h'⟩;subst z;have:=zrn L u;subst u;exact⟨p,zm5 (by rw[<- S.len];exact this),r.mono (λa o _ z=>sub a z) (λ_ _ _ z=>z) λ_ z=>z,npx⟩;obtain⟨a,G,v,R⟩:=S.cell m h';exact⟨a,YA u G,v.mono sb kp (λo N=>e a o N λz=>R (S.hx a z)),R⟩;rcases Jy h3 with⟨e3,z3⟩|⟨e3,U⟩;cases z3;rcases Jy R with⟨J,_⟩|⟨J,I⟩;rw[<- e3,<- J];rcases Jy v with⟨z,_⟩|⟨_,x⟩;exact absurd z J;exact absurd I (OW k _ m2 x);rcases Jy G with⟨z,_⟩|⟨_,Y⟩;exact absurd z e3;rcases Jy R with⟨J,z4⟩|⟨J,I⟩;cases z4;exact absurd U (OW j _ m1 Y);rcases Jy v with⟨z,_⟩|⟨_,x⟩;exact absurd z J;exact S.dif j k _ _ a m1 m2 Y x U I
theorem Stt.putOwn(S:Stt K C ρ σ H n)(e:ExtE C.hd H H')(h:Hn K C.hd H' n1)(v:H p=ao)(u:H' p=ai (.lst vs))(r:Reps K C.hd (λa=>Own C ρ σ a\/a=p) H' vs ts) :
  Stt K C (cr ρ i (ai (.own ts))) (cr σ i (ai (.ref p))) H' n1:=S.putNew e h v ⟨vs,u,r⟩
theorem zdp(e:ExtE C.hd H H')(u:H p=ao):Keep C ρ σ H (cr ρ i (ai c)) (cr σ i (ai (.ref p))) H':=λa o h v no =>
 ⟨e a o h v,λz=>ii (zkP z) no λz=>by subst z;rw[u]at h;cases h⟩
theorem zj7(e:ExtE C.hd H H')(l:H p=ao):Keep C ρ σ H (cr ρ i (ai (.own ts))) (cr σ i (ai (.ref p))) H':=zdp e l
theorem Stt.chgC(S:Stt K C ρ σ H n){i:Nat}{c c':Cell}{p:aq}{U:HO}(m:c.mine=bj)(m':c'.mine=bj)(Y:ρ[i]?=ai (ai c))(L:σ[i]?=ai (ai (.ref p)))
  (r:∀(O':aq->Prop) (H':Hp),(∀a o,H a=ai o->O' a->Own C ρ σ a)->(∀a o,¬Own C ρ σ a->H a=ai o->H' a=ai o)->H' p=ai U->QS K C.hd O' H' p c') :
  Stt K C (cr ρ i (ai c')) σ (upd H p U) n/\Keep C ρ σ H (cr ρ i (ai c')) σ (upd H p U):=by
 have op:OwnS ρ σ p:=⟨i,c,m,Y,L⟩;obtain⟨p',e1,hp,x⟩:=S.cell m Y;rw[L]at e1;cases e1;have OG:∀a,OwnS (cr ρ i (ai c')) σ a->OwnS ρ σ a:=λa ⟨j,d,I,u,v⟩=>by rcases Jy u with⟨e,_⟩|⟨e,u⟩;subst e;rw[L]at v;cases v;exact op;exact⟨j,d,I,u,v⟩
 have sub:∀a o,H a=ai o->Own C (cr ρ i (ai c')) σ a->Own C ρ σ a:=λa o _ z=>ii z fj λz=>xw (OG a z);have kp:∀a o,¬Own C ρ σ a->H a=ai o->upd H p U a=ai o:=λa o no ho=>by rw[Jo (show a≠p from λz=>no (by rw[z];exact xw op))];exact ho
 have rd:zui K C (cr ρ i (ai c')) σ (upd H p U):=λj ks N=>by rcases Jy N with⟨_,z⟩|⟨J,h'⟩;subst z;cases m';obtain⟨a,kvs,u,v,q3,G,q5⟩:=S.rdo j ks h';exact⟨a,kvs,u,by rw[Jo (show a≠p from λz=>x (by rw[<- z];exact G))];exact v,q3.mono sub kp,G,q5⟩
 refine⟨.mk' (by simp[S.len]) (λj d N=>?_) (λj d I N=>?_) rd (λj k c1 c2 a m1 m2 u v q3 G=>?_) (λa R=>?_) (λa R=>?_) S.hx,λa o h nh no=>⟨by rw[Jo (show a≠p from λz=>no (by rw[z];exact op))];exact h,λz=>no (OG a z)⟩⟩;rcases Jy N with⟨_,z⟩|⟨J,h'⟩;subst z;cases m';obtain⟨w,u,v⟩:=S.val j d h';exact⟨w,u,v.mono sub kp⟩;rcases Jy N with⟨J,z⟩|⟨J,h'⟩;subst z;subst J;exact⟨p,L,r _ _ sub kp JJ,x⟩;obtain⟨a,u,v,G⟩:=S.cell I h';have:a≠p:=λz=>by subst z;exact J (S.dif i j c d a m I Y h' L u)
 exact⟨a,u,v.mono sub kp (λo ho=>by rw[Jo this];exact ho),G⟩;have get:∀(j:Nat) (d:Cell),d.mine=bj->(cr ρ i (ai c'))[j]?=ai (ai d)->∃d':Cell,d'.mine=bj/\ρ[j]?=ai (ai d'):=λj d I q=>by rcases Jy q with⟨e,_⟩|⟨_,q⟩;subst e;exact⟨_,m,Y⟩;exact⟨_,I,q⟩
 obtain⟨d1,Z,g1⟩:=get j c1 m1 u;obtain⟨d2,md2,g2⟩:=get k c2 m2 v;exact S.dif j k d1 d2 a Z md2 g1 g2 q3 G;have ne:a≠p:=λz=>x (by rw[<- z];exact S.hx a R);rcases S.hnd a R with⟨⟨d,m,t,q,rest⟩,l⟩|⟨l,q⟩;exact fj ⟨⟨d,m,t,by rw[Jo ne];exact q,rest⟩,l⟩;exact xw ⟨l,q.upd ne (S.lst (xw op))⟩;by_cases z:a=p;subst z;exact absurd R x;rw[Jo z];exact S.ext a R
theorem Stt.chg(S:Stt K C ρ σ H n)(x:ρ[i]?=ai (ai (.own ts)))(v:σ[i]?=ai (ai (.ref p)))(r:Reps K C.hd (Own C ρ σ) H ws us) :
  Stt K C (cr ρ i (ai (.own us))) σ (upd H p (.lst ws)) n/\Keep C ρ σ H (cr ρ i (ai (.own us))) σ (upd H p (.lst ws)):=S.chgC rfl rfl x v λ_ _ a b u=>⟨ws,u,r.mono a b⟩
theorem Stt.freeze(S:Stt K C ρ σ H n){i:Nat}{ts:qD}(h1:ρ[i]?=ai (ai (.own ts))):Stt K C (cr ρ i (ai (.val (tE ts)))) σ H n/\Keep C ρ σ H (cr ρ i (ai (.val (tE ts)))) σ H:=by
 obtain⟨p,vs,Y,hp,hr,U⟩:=S.own i ts h1;have N:∀a,OwnS (cr ρ i (ai (.val (tE ts)))) σ a->OwnS ρ σ a/\a≠p:=λa ⟨j,ds,m,u,x⟩=>by rcases Jy u with⟨_,z⟩|⟨e,u⟩;subst z;cases m;exact⟨⟨j,ds,m,u,x⟩,λz=>by subst z;exact e (S.dif i j (.own ts) ds a rfl m h1 u Y x)⟩
 have sub:∀a o,H a=ai o->Own C (cr ρ i (ai (.val (tE ts)))) σ a->Own C ρ σ a:=λa o _ z=>ii z fj λz=>xw (N a z).1;have rd:zui K C (cr ρ i (ai (.val (tE ts)))) σ H:=λj ks J=>by rcases Jy J with⟨_,z⟩|⟨L,h'⟩;cases z;obtain⟨a,R,u,x,I,G⟩:=S.rdo j ks h';exact⟨a,R,u,x,I.mono sub λ_ _ _ z=>z,G⟩
 refine⟨.mk' (by simp[S.len]) (λj d J=>?_) (λj d m J=>?_) rd (λj k c1 c2 a Z m2 u x I G=>?_) S.hnd S.ext S.hx,λa o h _ no=>⟨h,λz=>no (N a z).1⟩⟩;rcases Jy J with⟨L,z⟩|⟨L,h'⟩;cases z;subst L;exact⟨.ref p,Y,.lst hp (λz=>ii z U λz=>(N p z).2 rfl) (hr.mono sub λ_ _ _ z=>z)⟩;obtain⟨w,u,x⟩:=S.val j d h';exact⟨w,u,x.mono sub λ_ _ _ z=>z⟩;rcases Jy J with⟨_,z⟩|⟨L,h'⟩;subst z;cases m;obtain⟨a,u,I,G⟩:=S.cell m h';exact⟨a,u,I.mono sub (λ_ _ _ z=>z) λ_ z=>z,G⟩;rcases Jy u with⟨_,z⟩|⟨_,g1⟩;subst z;cases Z;rcases Jy x with⟨_,z⟩|⟨_,g2⟩;subst z;cases m2;exact S.dif j k _ _ a Z m2 g1 g2 I G
end
section
variable{X:Cx}{a b c e:aX}{es:List aX}{d:DTE}{ds:DTA}{dt:DTT}{t u:DTS}{st:eW}{sts sa sb:List eW}{pos p:Pos}{k:Nat}{x:Str}
def zsp:DTS:=λD l n=>D.nx l n
def sSeq(t u:DTS):DTS:=λD l n=>t { D with nx:=u D } l n
theorem Jt:DSs X [] zsp:=⟨_,zjI,λC l σ H n D o S h g=>g.nx l σ H n h S Keep.refl⟩
theorem Jb(o:DS X st t)(l:DSs X sts u):DSs X (st::sts) (sSeq t u):=by obtain⟨Y,pa,o⟩:=o;obtain⟨U,R,l⟩:=l;refine⟨_,QP pa R,λC J σ H n D G S h g=>?_⟩;exact o C J σ H n _ _ S h ⟨λv σ' H' I L N k=>l C v σ' H' I D G N L (g.on k),g.rt,g.bk,g.ct,g.xr⟩
theorem Jc(l:DS X st t):DSs X [st] t:=by obtain⟨o,pa,l⟩:=l;exact⟨_,Vf pa,l⟩
def Vj(i:Nat)(t:DTS):DTS:=λD C n=>match C[i]? with|some (ai (.own ts))=>t D (cr C i (ai (.val (tE ts)))) n|_=>False
theorem UJ(i:Nat)(l:DSs X sts t):DSs X sts (Vj i t):=by obtain⟨I,pa,l⟩:=l;refine⟨_,pa,λC J σ H n D o S h g=>?_⟩;unfold Vj at h;split at h;rename_i ts v;obtain⟨G,kp⟩:=S.freeze v;exact l C _ σ H n D o G h (g.on kp);exact eJ h
def sRet(d:DTE):DTS:=λD o n=>d o n λt l=>D.rt t l
theorem Je(h:DE X e d):DS X (.Return (ai e) pos) (sRet d):=by obtain⟨Y,pa,h⟩:=h;refine⟨_,ZR pa,λC N σ H n D Z S hd g=>?_⟩;refine h C N σ H n _ _ S hd λt J v H' r I L q=>?_;exact g.rt t J v H' r L (λa o U G _=>I a o U G) (q.mono (λ_ _ _ z=>fj z) λ_ _ _ z=>z)
def sIf(c:DTT)(t u:DTS):DTS:=λD l n=>c l n λb o=>if b=bj then t D l o else u D l o
theorem Jp(hc:DT X c dt)(v:DSs X sa t)(o:DSs X sb u):DS X (.If c sa sb pos) (sIf dt t u):=by
 obtain⟨Z,pc,hc⟩:=hc;obtain⟨ta,pa,v⟩:=v;obtain⟨Y,U,o⟩:=o;refine⟨_,zsD pc pa U,λC G σ H n D L S hd g=>?_⟩;refine hc C G σ H n _ _ S hd λb N J r l R=>?_;cases b with
 | true=>exact iteT (v C G σ J N D L (S.on l R) (by simpa using r) (g.on l.keep))
 | false=>exact iteF (o C G σ J N D L (S.on l R) (by simpa using r) (g.on l.keep))
def sSet(i:Nat)(d:DTE):DTS:=λD o n=>d o n λt C=>D.nx (cr o i (ai (.val t))) C
theorem zxt(L:X.N.Nodup)(hi:X.N[i]?=ai x)(hx:Loc (cu X.env) x)(h:DE X e d)(J:swapsWith e (ai (bn x pos')) pos.line X.env=pure bA:=by rfl)(hf:Fnl X x:=by walk_at "F") :
  DS X (h6 [bn x pos'] e pos) (sSet i d):=by
 obtain⟨R,pa,h⟩:=h;refine⟨_,QK L hi hx pa J hf,λC I σ H n D U S hd g=>?_⟩;refine h C I σ H n _ _ S hd λt o v H' r l G q=>?_;exact g.nx _ _ H' o r ((S.on l G).put q) (l.keep.trans UU)
def sOwn(i:Nat)(d:DTA):DTS:=λD l n=>d l n λts v=>D.nx (cr l i (ai (.own ts))) v
theorem Uv(R:X.N.Nodup)(hi:X.N[i]?=ai x)(hx:Loc (cu X.env) x)(h:DN X e ds)(L:swapsWith e (ai (bn x pos')) pos.line X.env=pure bA:=by rfl)(hf:Fnl X x:=by walk_at "F") :
  DS X (h6 [bn x pos'] e pos) (sOwn i ds):=by
 obtain⟨U,pa,h⟩:=h;refine⟨_,QK R hi hx pa L hf,λC J σ H n D Y S hd g=>?_⟩;refine h C J σ H n _ _ S hd λts G p vs H' r o I v l q=>?_;exact g.nx _ _ H' G r (S.putOwn o I v l q) (zj7 o v)
def sAug(i:Nat)(f:Int->Int->Int)(d:DTE):DTS:=λD o n=>match o[i]? with
 | some (ai (.val (b5 j)))=>d o n λt C=>match t with|b5 k=>D.nx (cr o i (ai (.val (b5 (f j k))))) C|_=>False
 | _=>False
theorem zxw(U:X.N.Nodup)(hi:X.N[i]?=ai x)(hx:Loc (cu X.env) x)(h:DE X e d)(L:PIp X op (ipI f))(hf:Fnl X x:=by walk_at "F") :
  DS X (.AugAssign (bn x pos') op e pos) (sAug i f d):=by
 obtain⟨Z,pa,h⟩:=h;refine⟨_,zvh U hi hx pa L hf,λC R σ H n D D' S hd g=>?_⟩;unfold sAug at hd;split at hd;rename_i j I;obtain⟨v,J,o⟩:=S.val i _ I;refine⟨v,J,h C R σ H n _ _ S hd λt G w H' r l Y q=>?_⟩;cases t with
 | int k=>exact⟨j,k,o.intI,q.intI,g.nx _ _ H' G r ((S.on l Y).put (.int _)) (l.keep.trans UU)⟩
 | _=>exact eJ r
 exact eJ hd
abbrev DTG:=ae->En->(En->Prop)->Prop
abbrev DTGs:=List ae->En->(En->Prop)->Prop
def DG(X:Cx)(G:aX)(is:List Nat)(d:DTG):Prop:=(∀t o R,d t o R->∃l,R l)/\∃g,PG X G g/\∀(C:Ctx) (o:En) (σ:St) (H:Hp) (n:Nat) (v:V) (t:ae) (Q:St->Hp->Prop) (R:En->Prop),Stt X.K C o σ H n->Rep X.K C.hd (Own C o σ) H v t->d t o R ->
 (∀l σ',R l->Stt X.K C l σ' H n->Keep C o σ H l σ' H->(∀j,j∉is->σ'[j]?=σ[j]?)->dP σ'=dP σ->Q σ' H)->g v σ H Q
def DGs(X:Cx)(v:List aX)(is:List Nat)(d:DTGs):Prop:=(∀ts o R,d ts o R->dP ts=dP v)/\(∀t o R,d t o R->∃l,R l)/\∃g,PGs X v g/\∀(C:Ctx) (o:En) (σ:St) (H:Hp) (n:Nat) (vs:List V) (ts:qD) (Q:St->Hp->Prop) (R:En->Prop),Stt X.K C o σ H n->Reps X.K C.hd (Own C o σ) H vs ts->d ts o R ->
 (∀l σ',R l->Stt X.K C l σ' H n->Keep C o σ H l σ' H->(∀j,j∉is->σ'[j]?=σ[j]?)->dP σ'=dP σ->Q σ' H)->g vs σ H Q
def JY(i:Nat):DTG:=λt o R=>R (cr o i (ai (.val t)))
def Ur:DTGs:=λts l R=>match ts with|[]=>R l|_=>False
def QL(d:DTG)(ds:DTGs):DTGs:=λts o R=>match ts with|t::ts=>d t o λl=>ds ts l R|[]=>False
def Us(ds:DTGs):DTG:=λt o R=>match t with|fX ts=>ds ts o R|_=>False
theorem ztU(I:X.N.Nodup)(hi:X.N[i]?=ai x)(hx:Loc (cu X.env) x)(hf:Fnl X x:=by walk_at "F"):DG X (bn x pos) [i] (JY i):=by refine⟨λt G R h=>⟨_,h⟩,_,zsK I hi hx hf,λC G σ H n v t Q R S r hd o=>?_⟩;exact o _ _ hd (S.put r) UU (λj l=>by rw[dN (λz=>l (by simp[z]))]) (by simp)
theorem JG:DGs X [] [] Ur:=by
 refine⟨λts l R h=>?_,λts l R h=>?_,_,zsJ,λC l σ H n vs ts Q R S r hd o=>?_⟩;cases ts with
 | nil=>rfl
 | cons _ _=>exact eJ h
 cases ts with
 | nil=>exact⟨_,h⟩
 | cons _ _=>exact eJ h
 cases r with
 | nil=>exact⟨rfl,o _ _ hd S Keep.refl (λ_ _=>rfl) rfl⟩
 | cons _ _=>exact eJ hd
theorem Jj(J:DG X e is g)(G:DGs X es js gs)(hs:(assignEach (e::es) X.env).map (·.2)=assign e X.env::(assignEach es X.env).map (·.2):=by rfl):DGs X (e::es) (is++js) (QL g gs):=by
 obtain⟨w1,ga,pa,J⟩:=J;obtain⟨l2,w2,gb,pb,G⟩:=G;refine⟨λts v R h=>?_,λts v R h=>?_,_,zqc pa pb hs,λC v σ H n vs ts Q R S r hd hq=>?_⟩;cases ts with
 | nil=>exact eJ h
 | cons t ts =>obtain⟨l,h'⟩:=w1 t v _ h;simp[l2 ts l R h']
 cases ts with
 | nil=>exact eJ h
 | cons t ts =>obtain⟨l,h'⟩:=w1 t v _ h;exact w2 ts l R h'
 cases r with
 | nil=>exact eJ hd
 | cons r rs =>refine⟨_,_,rfl,J C v σ H n _ _ _ _ S r hd λl σ' hr S' kp hj hl=>?_⟩;refine G C l σ' H n _ _ _ _ S' (kp.reps S.hx rs) hr λN Z Y S2 U I L=>?_;exact hq N Z Y S2 (kp.trans U) (λj o=>by rw[I j (λz=>o (by simp[z])),hj j (λz=>o (by simp[z]))]) (b3 L hl)
theorem JH(hc:X.calm=bj)(h:DGs X es is gs)(U:dP (assignEach es X.env)=dP es:=by rfl)(G:(assignEach es X.env).findIdx? (·.1)=ao:=by rfl):DG X (jb es k pos) is (Us gs):=by
 obtain⟨l,w,g,pg,h⟩:=h;refine⟨λt o R h=>?_,_,zvo hc pg U G,λC o σ H n v t Q R S r hd N=>?_⟩;cases t with
 | tuple ts=>exact w ts o R h
 | _=>exact eJ h
 cases t with
 | tuple ts =>obtain⟨p,vs,rfl,L,J⟩:=r.tupI;exact⟨p,vs,rfl,L,by rw[J.length];exact l ts o R hd,h C o σ H n vs ts Q R S J hd N⟩
 | _=>exact eJ hd
def sAsg(d:DTE)(g:DTG):DTS:=λD o n=>d o n λt v=>g t o λl=>D.nx l v
theorem Qq(h:DE X e d)(l:DG X tg is g)(R:swapsWithSole [tg] e pos.line X.env=pure bA:=by rfl)(hw:swappedStores [tg] e X.env=pure ao:=by rfl)
  (N:(assignEach [tg] X.env).map (·.2)=[assign tg X.env]:=by rfl):DS X (h6 [tg] e pos) (sAsg d g):=by
 obtain⟨ta,pa,h⟩:=h;obtain⟨w,gb,Z,l⟩:=l;refine⟨_,Wc pa Z R hw N,λC J σ H n D D' S hd gd=>?_⟩;refine h C J σ H n _ _ S hd λt I v H' r G U q=>?_;exact l C J σ H' I v t _ _ (S.on G U) q r λo σ' L Y kp _ _=>gd.nx o σ' H' I L Y (G.keep.trans kp)
def sPar(i j:Nat)(ds:DTA):DTS:=λD o n=>ds o n λts C=>match ts with|[t,u]=>D.nx (cr (cr o i (ai (.val t))) j (ai (.val u))) C|_=>False
theorem zxv{kt k2 pt2}(hc:X.calm=bj)(hN:X.N.Nodup)(hi:X.N[i]?=ai x)(Y:X.N[j]?=ai y)(G:i≠j)
  (hx:X.env.scope.names.lookup x=ai .local) (Z:X.env.scope.names.lookup y=ai .local) (h:DB X [a,b] ds)
  (hw:swappedStores [jb [bn x px,bn y py] kt pt] (jb [a,b] k2 pt2) X.env=pure (ai [x,y]):=by rfl)
  (hs:swapsWithSole [jb [bn x px,bn y py] kt pt] (jb [a,b] k2 pt2) pos.line X.env=pure bA:=by rfl) :
  DS X (h6 [jb [bn x px,bn y py] kt pt] (jb [a,b] k2 pt2) pos) (sPar i j ds):=by
 obtain⟨ta,pa,h⟩:=h;refine⟨_,zvf hc hN hi Y G hx Z pa.pa hw hs,λC ρ σ H n D D' S hd g=>?_⟩;refine h C ρ σ H n _ _ S hd λts n1 vs L r I h1 v _=>?_;cases v with
 | nil=>exact eJ r
 | cons J v =>
  cases v with
  | nil=>exact eJ r
  | cons R v =>
   cases v with
   | cons _ _=>exact eJ r
   | nil =>have U:=(S.on I h1).put (i:=i) J;exact⟨_,_,rfl,g.nx _ _ L n1 r (U.put (Keep.rep UU S.hx R)) ((I.keep.trans UU).trans UU)⟩
def Vi(i:Nat)(d:DTE):DTS:=λD l n=>match l[i]? with
 | some (ai (.own ts))=>d l n λt v=>dP ts<16777216/\D.nx (cr l i (ai (.own (ts++[t])))) v
 | _=>False
theorem QX(i:Nat){p1 p2 p3:Pos}(h:DE X e d)(hN:X.N[i]?=ai x:=by rfl)(hv:Vis (cu X.env) x:=by walk_at "V")(hd:Ndb x:=by rfl)
  (L:Ncd x:=by rfl) (hs:swapsWith (ee (h7 (bn x p1) "append" p2) [e] [] p3) ao pos.line X.env=pure bA:=by rfl)
  (Nn:attributeBase (bn x p1) "append" X.env (eval (bn x p1) X.env)=eval (bn x p1) X.env:=by rfl)
  (N4:((backTo p3 (starEach [e] X.env)).all (λx=>!x.1)&&(backToKw p3 (keywordEach [] X.env)).all (λx=>eA x.1)
   && decide ([e].length+dP ([]:List fR)+(if dy ([]:List fR) then 0 else 1)<30))=bj:=by rfl)
  (Np:(p2.endLine == ib p3)=bj:=by rfl) (J:starEach [e] X.env=[(bA,eval e X.env)]:=by rfl):DS X (.Expr (ee (h7 (bn x p1) "append" p2) [e] [] p3) pos) (Vi i d):=by
 obtain⟨ta,pa,h⟩:=h;refine⟨_,znz (Yn nt PySem.F.slot_list_append PySem.F.type_list_append ziM (QJ hN hv hd L) (Qu pa QI J) Nn N4 Np J rfl) hs,λC ρ σ H n D D' S hd g=>?_⟩;unfold Vi at hd;split at hd;rename_i ts U;obtain⟨p,vs,Z,h2,h3,h4⟩:=S.own i ts U;refine⟨.ref p,Z,fj ⟨rfl,_,SqL.of h2⟩,?_⟩;refine h C ρ σ H n _ _ S hd λt n' v H' r e1 hn q=>?_;have S1:=S.on e1 hn;obtain⟨p',R,I,Y,G,h4'⟩:=S1.own i ts U;rw[Z]at I;cases I;refine⟨p,R,v,rfl,rfl,Y,by rw[G.length];exact r.1,?_⟩;obtain⟨S2,k2⟩:=S1.chg U Z (G.append (.cons q .nil));exact g.nx _ _ _ n' r.2 S2 (e1.keep.trans k2);exact eJ hd
def sPut(i:Nat)(v d:DTE):DTS:=λD l n=>d l n λt C=>match l[i]? with
 | some (ai (.own ts))=>v l C λj G=>match j with|b5 j=>(match ixN (dP ts) j with|some k=>D.nx (cr l i (ai (.own (cr ts k t)))) G|none=>False)|_=>False
 | _=>False
theorem zxu(i:Nat){dj:DTE}{p1 p2:Pos}(hj:DE X b dj)(h:DE X e d)(hN:X.N[i]?=ai x:=by rfl)(hv:Vis (cu X.env) x:=by walk_at "V")(hd:Ndb x:=by rfl)
  (L:Ncd x:=by rfl) (hs:swapsWithSole [d0 (bn x p1) b p2] e pos.line X.env=pure bA:=by rfl) (hw:swappedStores [d0 (bn x p1) b p2] e X.env=pure ao:=by rfl)
  (G:(assignEach [d0 (bn x p1) b p2] X.env).map (·.2)=[assign (d0 (bn x p1) b p2) X.env]:=by rfl)
  (OM:PG X (d0 (bn x p1) b p2)=PG X (d0 (bn x p1) b p2):=rfl) (pg:∀{to ti:TE} {t:TSet},PE X (bn x p1) to->PE X b ti->PSet X t->PG X (d0 (bn x p1) b p2) (L2.gSub to ti t):=by intro _ _ _ G h2 h3;exact pg_sub G h2 h3) :
  DS X (h6 [d0 (bn x p1) b p2] e pos) (sPut i dj d):=by
 obtain⟨ta,pa,h⟩:=h;obtain⟨tj,pj,hj⟩:=hj;refine⟨_,Wc pa (pg (QJ hN hv hd L) pj set_list) hs hw G,λC ρ σ H n D D' S hd g=>?_⟩;refine h C ρ σ H n _ _ S hd λt n1 v H1 r e1 hn q=>?_;have Y:=S.on e1 hn;split at r;rename_i ts U;obtain⟨p,vs,G,h2,h3,h4⟩:=Y.own i ts U;refine⟨.ref p,G,hj C ρ σ H1 n1 _ _ Y r λj n2 w H2 l e2 hn2 q2=>?_⟩;have S2:=Y.on e2 hn2;cases j with
 | int j =>
  have l:(match ixN (dP ts) j with|some k=>D'.nx (cr ρ i (ai (.own (cr ts k t)))) n2|none=>False):=l;cases ek:ixN (dP ts) j with
  | none=>rw[ek]at l;exact eJ l
  | some m =>rw[ek]at l;obtain⟨p',R,J,Z,I,h4'⟩:=S2.own i ts U;rw[G]at J;cases J;refine⟨p,R,j,m,rfl,q2.intI,Z,by rw[I.length];exact ek,?_⟩;obtain⟨S3,k3⟩:=S2.chg U G (I.set (e2.rep S.hx q) m);exact g.nx _ _ _ n2 l S3 ((e1.trans e2).keep.trans k3)
 | _=>exact eJ l
 exact eJ r
def zng(c:DTT)(I:DTS):DTS:=λD o n=>∃W:Nat->En->Nat->Prop,(∃m,W m o n)/\∀m o n,W m o n ->
 c o n λb G=>if b=bj then I { D with nx:=λl C=>∃v,v<m/\W v l C,ct:=λl C=>∃v,v<m/\W v l C,bk:=D.nx } o G else D.nx o G
theorem zhF(hp:sG (model X.prog X.w) X.A X.env X.xe)(hc:DT X c dt)(hb:DSs X sa t):DS X (.While c sa [] pos) (zng dt t):=by
 obtain⟨tc,pc,hc⟩:=hc;obtain⟨tb,pb,hb⟩:=hb;refine⟨_,zp9 hp pc pb,λC ρ σ H n D D' S hd g=>?_⟩;obtain⟨W,⟨m0,w0⟩,turn⟩:=hd;refine⟨λm N H1=>∃I n1,W m I n1/\Stt X.K C I N H1 n1/\Keep C ρ σ H I N H1,⟨m0,ρ,n,w0,S,Keep.refl⟩,?_⟩;rintro m N H1 ⟨I,n1,w1,S1,k1⟩;refine hc C I N H1 n1 _ _ S1 (turn m I n1 w1) λb n2 H2 r e2 hn2=>?_;have S2:=S1.on e2 hn2;have U:=k1.trans e2.keep;cases b with
 | true =>refine iteT ⟨λσ' H'=>∃L,L<m/\∃G J,W L G J/\Stt X.K C G σ' H' J/\Keep C ρ σ H G σ' H',λσ' H' ⟨L,Z,z⟩=>⟨L,Z,z⟩,?_⟩;refine hb C I N H2 n2 _ { D' with nx:=λG J=>∃L,L<m/\W L G J,ct:=λG J=>∃L,L<m/\W L G J,bk:=D'.nx } S2 (by simpa using r) ⟨?_,λt J v H' h hn R r=>g.rt t J v H' h hn (λa o ha Y no=>?_) r,?_,?_,λc J H' h hn R=>g.xr c J H' h hn λa o ha Y no=>R a o (U a o ha Y no).1 Y (U a o ha Y no).2⟩;rintro G σ' H' J ⟨L,Z,w'⟩ S' R;exact⟨L,Z,G,J,w',S',U.trans R⟩;obtain⟨q1,q2⟩:=U a o ha Y no;exact R a o q1 Y q2;intro G σ' H' J h' S' R;exact g.nx G σ' H' J h' S' (U.trans R);rintro G σ' H' J ⟨L,Z,w'⟩ S' R;exact⟨L,Z,G,J,w',S',U.trans R⟩
 | false=>exact iteF (g.nx I N H2 n2 (by simpa using r) S2 U)
end
def ItOk(K:qF)(hd:Option aq)(P O:aq->Prop)(H:Hp)(J:It)(ts:qD):Prop:=∀(v:aq->Prop) (l:Hp),(∀a o,H a=ai o->P a->l a=ai o)->(∀a o,H a=ai o->¬O a->¬v a)->(∀a,v a->l a≠ao) ->
 (∀i t,ts[i]?=ai t->J.go i l/\∀x u,J.yld i l x u->Same l u/\Rep K hd v u x t)/\J.stop (dP ts) l
def DI(X:Cx)(u iter:aX)(d:DTA):Prop:=∃wi,PI X u iter wi/\∀(C:Ctx) (l:En) (σ:St) (H:Hp) (n:Nat) (Q:It->Hp->Prop) (R:qD->Nat->Prop),Stt X.K C l σ H n->d l n R ->
 (∀ts o J H',R ts o->ExtE C.hd H H'->Hn X.K C.hd H' o->ItOk X.K C.hd (λa=>¬Own C l σ a) (Own C l σ) H' J ts->Q J H')->wi σ H Q
def DIL(X:Cx)(u iter:aX)(d:DTA):Prop:=∃wi,PI X u iter wi/\∀(C:Ctx) (l:En) (σ:St) (H:Hp) (n:Nat) (Q:It->Hp->Prop) (R:qD->Nat->Prop),Stt X.K C l σ H n->d l n R ->
 (∀ts o J H',R ts o->ExtE C.hd H H'->Hn X.K C.hd H' o->ItOk X.K C.hd (λa=>C.hd≠ai a) (Own C l σ) H' J ts->Q J H')->wi σ H Q
section
variable{X:Cx}{a c e tg iter:aX}{es:List aX}{d:DTE}{ds di:DTA}{t:DTS}{sa:List eW}{pos p:Pos}{x:Str}
theorem dil(h:DI X tg iter di):DIL X tg iter di:=by obtain⟨wi,pi,h⟩:=h;refine⟨wi,pi,λC ρ σ H n Q R S hd Y=>h C ρ σ H n Q R S hd λts L J H' r I hn it=>Y ts L J H' r I hn ?_⟩;exact λN Z U v G=>it N Z (λa o ha no=>U a o ha λz=>no (fj (S.hx a z))) v G
theorem Reps.getP{K:qF}{hd:Option aq}{O:aq->Prop}{H:Hp}{vs ts}{i:Nat}{t}{x:V}(r:Reps K hd O H vs ts)(h:ts[i]?=ai t)(hx:vs[i]?=ai x):Rep K hd O H x t:=by obtain⟨v,l,o⟩:=r.get h;rw[hx]at l;cases l;exact o
theorem Wg{K:qF}{hd:Option aq}{P O:aq->Prop}{H:Hp}{q:aq}{vs ts}(U:H q=ai (.lst vs))(hP:P q)(Z:∀a,¬O a->P a)(r:Reps K hd O H vs ts):ItOk K hd P O H (Itl K q) ts:=by intro S Y N R _;have C:=N q _ U hP;have J:Reps K hd S Y vs ts:=r.mono (λa o I z=>bg λno=>R a o I no z) λa o no I=>N a o I (Z a no);refine⟨λi t L=>?_,⟨vs,.of C,by rw[r.length];exact av _⟩⟩;obtain⟨v,ev,rv⟩:=J.get L;refine⟨⟨vs,v,.of C,ev⟩,λx H3 G=>?_⟩;obtain⟨rfl,G⟩:=G;exact⟨Same.refl _,J.getP L (G vs (.of C))⟩
theorem zrH{K:qF}{hd:Option aq}{P O:aq->Prop}{H:Hp}{v:V}{ts}(Y:∀a,¬O a->P a)(r:Rep K hd O H v (fX ts)):∃q vs,v=.ref q/\SqT K H q vs/\ItOk K hd P O H (Itt K q) ts:=by
 have key:∀q vs,Reps K hd O H vs ts->(∀(I:aq->Prop) (C:Hp),(∀a o,H a=ai o->P a->C a=ai o)->(∀a o,H a=ai o->¬O a->¬I a)->SqT K C q vs)->ItOk K hd P O H (Itt K q) ts:=by intro q vs r Z I C J R _;have G:=Z I C J R;have S:Reps K hd I C vs ts:=r.mono (λa o N z=>bg λno=>R a o N no z) λa o no N=>J a o N (Y a no);refine⟨λi t U=>?_,⟨vs,G,by rw[r.length];exact av _⟩⟩;obtain⟨v,ev,rv⟩:=S.get U;refine⟨⟨vs,v,G,ev⟩,λx H3 L=>?_⟩;obtain⟨rfl,L⟩:=L;exact⟨Same.refl _,S.getP U (L vs G)⟩
 cases r with
 | @tup q vs ds h o r=>exact⟨q,vs,rfl,fj (fj h),key q vs r λI C J _=>fj (fj (J q _ h (Y q o)))⟩
 | @tupS q vs ds h r=>exact⟨q,vs,rfl,h.sq,key q vs r λI C _ _=>h.sq⟩
def dItL(d:DTE):DTA:=λv n R=>d v n λt o=>match t with|tE ts=>R ts o|_=>False
def dItT(d:DTE):DTA:=λv n R=>d v n λt o=>match t with|fX ts=>R ts o|_=>False
theorem Vl(h:DE X iter d):DI X tg iter (dItL d):=by
 obtain⟨Y,pa,h⟩:=h;refine⟨_,znF pa,λC N σ H n Q R S hd L=>?_⟩;refine h C N σ H n _ _ S hd λt J v H' r I U q=>?_;cases t with
 | list ts =>obtain⟨p,vs,rfl,l,no,G⟩:=q.lstI;exact⟨p,rfl,⟨vs,.of l⟩,L ts J _ H' r I U (Wg l no (λ_ z=>z) G)⟩
 | _=>exact eJ r
theorem zqX(h:DL X iter d):DIL X tg iter (dItL d):=by
 obtain⟨ta,pa,h⟩:=h;refine⟨_,znF pa,λC ρ σ H n Q R S hd Y=>?_⟩;refine h C ρ σ H n _ _ S hd λt U v H' r N Z q=>?_;cases t with
 | list ts =>
  rcases q with q|⟨p,vs,ds,rfl,J,G,I,L⟩|⟨p,zs,ep,ks,rfl,J,G,I,L⟩
  rotate_left 2
  cases J;obtain⟨p,vs,rfl,G,no,I⟩:=q.lstI;exact⟨p,rfl,⟨vs,.of G⟩,Y ts U _ H' r N Z (Wg G (λz=>no (fj (S.hx p z))) (λa no z=>no (fj (S.hx a z))) I)⟩;cases J;exact⟨p,rfl,⟨vs,.of G⟩,Y ts U _ H' r N Z (Wg G L (λa no z=>no (fj (S.hx a z))) I)⟩
 | _=>exact eJ r
theorem JZ(h:DE X iter d):DI X tg iter (dItT d):=by
 obtain⟨N,pa,h⟩:=h;refine⟨_,zvk pa,λC l σ H n Q R S hd J=>?_⟩;refine h C l σ H n _ _ S hd λt G v H' r o L q=>?_;cases t with
 | tuple ts =>obtain⟨p,vs,rfl,I,it⟩:=zrH (P:=λa=>¬Own C l σ a) (λ_ z=>z) q;exact⟨p,rfl,⟨vs,I⟩,J ts G _ H' r o L it⟩
 | _=>exact eJ r
def Qy(lo:Int)(n:Nat):List ae:=(c9 n).map λ(i:Nat)=>b5 (lo+(i:Int))
theorem zqE{K:qF}{hd:Option aq}{P O:aq->Prop}{H:Hp}{lo:Int}{m:Nat}:ItOk K hd P O H (Itr lo m) (Qy lo m):=by intro I G _ _ _;refine⟨λi t o=>?_,by show m<=dP (Qy lo m);simp[Qy]⟩;unfold Qy at o;rw[aT]at o;by_cases hi:i<m;rw[pJ hi]at o;cases o;refine⟨hi,λx C v=>?_⟩;obtain⟨rfl,rfl⟩:=v;exact⟨Same.refl _,.int _⟩;rw[bV (by simp;omega)]at o;cases o
def ZF(d:DTE):DTA:=λo n R=>d o n λt l=>match t with|b5 j=>(-(2 ^ 62)<=j/\j<2 ^ 62)/\R (Qy 0 (mu j)) l|_=>False
theorem Zs(U:X.mg "range" = ao) (h:DE X a d) (L:Gl X "range":=by rfl) (o:starEach [a] X.env=[(bA,eval a X.env)]:=by rfl):DI X tg (ee (bn "range" p) [a] [] pos) (ZF d):=by
 obtain⟨ta,pa,h⟩:=h;refine⟨_,znE L U (Qu pa QI o) o,λC Y σ H n Q R S hd J=>?_⟩;refine h C Y σ H n _ _ S hd λt I v H' r G Z q=>?_;cases t with
 | int j =>rw[q.intI];exact⟨j,rfl,r.1.1,r.1.2,J _ I _ H' r.2 G Z zqE⟩
 | _=>exact eJ r
def forP(g:DTG)(o:DTS)(D:JN):qD->En->Nat->Prop
 | [],ρ,n=>D.nx ρ n
 | t::ts,ρ,n=>g t ρ λl=>o { D with nx:=forP g o D ts,ct:=forP g o D ts,bk:=D.nx } l n
def sFor(di:DTA)(g:DTG)(o:DTS):DTS:=λD l n=>di l n λts v=>forP g o D ts l v
theorem QE(hp:sG (model X.prog X.w) X.A X.env X.xe)(hc:X.calm=bj)(hi:DI X tg iter di)(hg:DG X tg is g)(hb:DSs X sa t)
  (hs:Fsi X iter:=by intro _;rfl):DS X (.For tg iter sa [] pos) (sFor di g t):=by
 obtain⟨wi,pi,hi⟩:=hi;obtain⟨_,gg,pg,hg⟩:=hg;obtain⟨tb,pb,hb⟩:=hb;refine⟨_,zvg hp hc pi pg pb hs,λC ρ σ H n D D' S hd gd=>?_⟩;refine hi C ρ σ H n _ _ S hd λts n1 J H1 r e1 hn it=>?_;have S1:=S.on e1 hn;refine⟨λi m L Z=>m=dP ts - i/\i<=dP ts/\∃I n2,forP g t D' (ts.drop i) I n2/\Stt X.K C I L Z n2/\Keep C ρ σ H1 I L Z,⟨dP ts,by simp,dw _,ρ,n1,by simpa using r,S1,Keep.refl⟩,?_⟩;rintro i m L Z ⟨rfl,hi',I,n2,f2,S2,k2⟩;have itq:=it (Own C I L) Z (λa o U no=>(k2 a o U (λz=>no (fj (S.hx a z))) λz=>no (xw z)).1) (λa o U no z=>ii z (λz=>no (fj z)) λz=>(k2 a o U (λy=>no (fj (S.hx a y))) λy=>no (xw y)).2 z) (λa=>S2.dom);by_cases hlt:i<dP ts;have et:ts[i]?=ai ts[i]:=ay hlt;obtain⟨go,yl⟩:=itq.1 i _ et;rw[cq hlt]at f2;refine xw ⟨go,λσ' H'=>∃G N,forP g t D' (ts.drop (i+1)) G N/\Stt X.K C G σ' H' N/\Keep C ρ σ H1 G σ' H',λσ' H' z=>⟨dP ts - (i+1),by omega,rfl,hlt,z⟩,λx H3 hy=>?_⟩;obtain⟨sm,rx⟩:=yl x H3 hy;have S3:=S2.on sm.ext (S2.hnd.same sm);have k3:Keep C ρ σ H1 I L H3:=k2.trans (Same.ext sm:ExtE C.hd Z H3).keep;refine hg C I L H3 n2 x _ _ _ S3 rx f2 λρ4 σ4 r4 S4 k4 _ _=>?_;have k5:=k3.trans k4;refine hb C ρ4 σ4 H3 n2 _ { D' with nx:=forP g t D' (ts.drop (i+1)),ct:=forP g t D' (ts.drop (i+1)),bk:=D'.nx } S4 r4 ⟨λG σ' H' N h' S' R=>⟨G,N,h',S',k5.trans R⟩,λt N v H' h Y R rp=>gd.rt t N v H' h Y (λa o U nh no=>?_) rp,λG σ' H' N h' S' R=>gd.nx G σ' H' N h' S' (e1.keep.trans (k5.trans R)),λG σ' H' N h' S' R=>⟨G,N,h',S',k5.trans R⟩,λc N H' h Y R=>gd.xr c N H' h Y λa o U nh no=>R a o ((e1.keep.trans k5) a o U nh no).1 nh ((e1.keep.trans k5) a o U nh no).2⟩;obtain⟨q1,q2⟩:=(e1.keep.trans k5) a o U nh no;exact R a o q1 nh q2;have e:i=dP ts:=by omega
 subst e;rw[sM]at f2;exact fj ⟨itq.2,gd.nx I L Z n2 f2 S2 (e1.keep.trans k2)⟩
def JX(N:List Str)(ts:qD):En:=ts.map (λt=>ai (.val t))++cc (dP N - dP ts) ao
theorem zmW{K:qF}{hd:Option aq}{O:aq->Prop}{H:Hp}{n:Nat}{N:List Str}{vs:List V}{ts:qD}(r:Reps K hd O H vs ts)(J:Hn K hd H n)(dom:∀a,O a->MutO (H a))(hx:∀a,hd=ai a->O a) :
  Stt K ⟨hd,O⟩ (JX N ts) (start N vs) H n/\∀a,¬OwnS (JX N ts) (start N vs) a:=by
 have get:∀(i:Nat) c,(JX N ts)[i]?=ai (ai c)->∃t,c=.val t/\ts[i]?=ai t:=λi c h=>by
  unfold JX at h;by_cases hi:i<dP ts;rw[bY (by simpa using hi),aT]at h;cases e:ts[i]? with
  | none=>rw[e]at h;cases h
  | some t=>rw[e]at h;cases h;exact⟨t,rfl,rfl⟩
  rw[cQ (by simpa using hi),eX]at h;split at h <;> cases h
 have no:∀a,¬OwnS (JX N ts) (start N vs) a:=λa ⟨i,ds,m,G,_⟩=>by obtain⟨t,e,_⟩:=get i _ G;subst e;cases m
 refine⟨.mk' (by unfold JX start;simp[r.length]) (λi d h=>?_) (λi ds m h=>?_) (λi ks h=>by obtain⟨t,e,_⟩:=get i _ h;cases e) (λi j ds es a m _ h=>?_) J dom hx,no⟩;obtain⟨t,e,C⟩:=get i _ h;cases e;obtain⟨v,ev,I⟩:=r.get C;refine⟨v,?_,I.mono (λa o _ z=>ii z id λz=>absurd z (no a)) λ_ _ _ z=>z⟩;unfold start;have hi:i<dP vs:=by rcases bM i (dP vs) with z|z;exact z;rw[bV z]at ev;cases ev
 rw[bY (by simpa using hi),aT,ev];rfl;obtain⟨t,e,_⟩:=get i _ h;subst e;cases m;obtain⟨t,e,_⟩:=get i _ h;subst e;cases m
end
end L2
namespace Bd
open PySem L2 PyProof.Rows
theorem Def.okD{P:aL}{w:aV}{K:qF}{mg:qM}{base:bh}{x:Str}{st:eW}{ps N:List Str}{f:aq}{fd:dO}{k m:Nat}{g:GD}(D:Def K mg x st ps f fd)(S:Uy N ps (JI st))(hm:m=dP ps)
  (Z:∀(l:ah) (A:bq) (outer:List Env) (s:au) (H:Hp) (E:XK),Room k (A.deeper (envOfC x (JI st) s.heap.objs.size f l))->∃d,DSs (cxOf CX0 P w K mg base N x (JI st) f l A outer s H E).nox (J9 st) d /\
   ∀ts n R,dP ts=m->g ts n R->d { nx:=λ_ u=>R oK u,rt:=R } (JX N ts) n):FnOk P w K mg base CX0 (k+1) f fd ps (spD K m g):=by
 refine D.F.ok S (λvs H Q E h=>?_) (λl A outer s H vs Q E hr h=>?_);obtain⟨hd,O,ts,n,R,r,_,_,_,C,_⟩:=h;rw[r.length,C,hm];obtain⟨hd,O,ts,n,R,r,hn,dom,hx,C,hg,Y⟩:=h;obtain⟨d,⟨t,pt,ht⟩,L⟩:=Z l A outer s H E hr;obtain⟨S0,no⟩:=zmW (N:=N) r hn dom hx;refine⟨t,pt,ht ⟨hd,O⟩ _ _ H n _ _ S0 (L ts n R C hg) ⟨λρ' σ' H' u h S' J=>?_,λt u v H' h I J rp=>?_,λ_ _ _ _ h=>eJ h,λ_ _ _ _ h=>eJ h,λ_ _ _ h=>eJ h⟩⟩;exact Y oK u .non H' h (λa o U G=>(J a o U G (no a)).1) S'.hnd .non;exact Y t u v H' h (λa o U G=>J a o U G (no a)) I rp
end Bd
namespace L2
open PySem PySem.Spec PyProof.Rows
def DTs(Y:Cx)(ifs:List aX)(d:DTT):Prop:=∃l,PTs Y ifs l/\∀(C:Ctx) (u:En) (σ:St) (H:Hp) (n:Nat) (Q:Bool->Hp->Prop) (R:Bool->Nat->Prop),Stt Y.K C u σ H n->d u n R ->
 (∀b o H',R b o->ExtE C.hd H H'->Hn Y.K C.hd H' o->Q b H')->l σ H Q
def dYes:DTT:=λ_ n R=>R bj n
section
variable{Y:Cx}{c:aX}{d:DTT}
theorem QV:DTs Y [] dYes:=⟨_,zsA,λC o σ H n Q R S h l=>l bj n H h ExtE.refl S.hnd⟩
theorem Vo(h:DT Y c d):DTs Y [c] d:=by obtain⟨l,p,h⟩:=h;exact⟨_,zsz p,h⟩
end
def SpE(K:qF)(u:TE)(d:DTE):Prop:=∀(C:Ctx) (l:En) (σ:St) (H:Hp) (n:Nat) (Q:VK) (R:qN),Stt K C l σ H n->d l n R ->
 (∀t o v H',R t o->ExtE C.hd H H'->Hn K C.hd H' o->Rep K C.hd (Own C l σ) H' v t->Q v H')->u σ H Q
def SpT(K:qF)(u:TT)(d:DTT):Prop:=∀(C:Ctx) (o:En) (σ:St) (H:Hp) (n:Nat) (Q:Bool->Hp->Prop) (R:Bool->Nat->Prop),Stt K C o σ H n->d o n R ->
 (∀b l H',R b l->ExtE C.hd H H'->Hn K C.hd H' l->Q b H')->u σ H Q
def SpG(K:qF)(is:List Nat)(u:TG)(d:DTG):Prop:=∀(C:Ctx) (o:En) (σ:St) (H:Hp) (n:Nat) (v:V) (t:ae) (Q:St->Hp->Prop) (R:En->Prop),Stt K C o σ H n->Rep K C.hd (Own C o σ) H v t->d t o R ->
 (∀l σ',R l->Stt K C l σ' H n->Keep C o σ H l σ' H->(∀j,j∉is->σ'[j]?=σ[j]?)->dP σ'=dP σ->Q σ' H)->u v σ H Q
def SpI(K:qF)(wi:TI)(d:DTA):Prop:=∀(C:Ctx) (l:En) (σ:St) (H:Hp) (n:Nat) (Q:It->Hp->Prop) (R:qD->Nat->Prop),Stt K C l σ H n->d l n R ->
 (∀ts o J H',R ts o->ExtE C.hd H H'->Hn K C.hd H' o->ItOk K C.hd (λa=>¬Own C l σ a) (Own C l σ) H' J ts->Q J H')->wi σ H Q
section
variable{X:Cx}{scope:fv}{own:List Str}{capt:List Nat}{e tg:aX}{es:List aX}{is:List Nat}{d:DTE}{dt:DTT}{dg:DTG}{di:DTA}
theorem DE.fam(h:Fam X scope own capt λY=>DE Y e d):∃o:TE,(Fam X scope own capt λY=>PE Y e o)/\SpE X.K o d :=
 ⟨λσ H Q=>∀C s₀ H₀ l,kP (h C s₀ H₀ l) σ H Q,λC s₀ H₀ l pins s σ H Q I hw=>(cL (h C s₀ H₀ l)).1 pins s σ H Q I (hw C s₀ H₀ l),λC v σ H n Q R S hd u x s₀ H₀ l=>(cL (h x s₀ H₀ l)).2 C v σ H n Q R S hd u⟩
theorem DTs.fam(h:Fam X scope own capt λY=>DTs Y es dt):∃o:TT,(Fam X scope own capt λY=>PTs Y es o)/\SpT X.K o dt :=
 ⟨λσ H Q=>∀C s₀ H₀ l,kP (h C s₀ H₀ l) σ H Q,λC s₀ H₀ l pins s σ H Q I hw=>(cL (h C s₀ H₀ l)).1 pins s σ H Q I (hw C s₀ H₀ l),λC v σ H n Q R S hd u x s₀ H₀ l=>(cL (h x s₀ H₀ l)).2 C v σ H n Q R S hd u⟩
theorem DG.fam(h:Fam X scope own capt λY=>DG Y tg is dg):∃o:TG,(Fam X scope own capt λY=>PG Y tg o)/\SpG X.K is o dg :=
 ⟨λv σ H Q=>∀C s₀ H₀ l,kP (h C s₀ H₀ l).2 v σ H Q,λC s₀ H₀ l pins s σ H v u Q I r hw=>(cL (h C s₀ H₀ l).2).1 pins s σ H v u Q I r (hw C s₀ H₀ l),λC G σ H n v t Q R S r hd x J s₀ H₀ l=>(cL (h J s₀ H₀ l).2).2 C G σ H n v t Q R S r hd x⟩
theorem DI.fam(h:Fam X scope own capt λY=>DI Y tg e di):∃wi:TI,(Fam X scope own capt λY=>PI Y tg e wi)/\SpI X.K wi di :=
 ⟨λσ H Q=>∀C s₀ H₀ l,kP (h C s₀ H₀ l) σ H Q,λC s₀ H₀ l pins s σ H R I hw=>(cL (h C s₀ H₀ l)).1 pins s σ H R I (hw C s₀ H₀ l),λC u σ H n Q R S hd o v s₀ H₀ l=>(cL (h v s₀ H₀ l)).2 C u σ H n Q R S hd o⟩
end
theorem Wk.of:∀{σ σ':St},dP σ=dP σ'->(∀(i:Nat) v,σ[i]?=ai (ai v)->σ'[i]?=ai (ai v))->Wk σ σ'
 | [],[],_,_=>trivial
 | [],_::_,h,_=>by simp at h
 | _::_,[],h,_=>by simp at h
 | none::r,o::r',h,k=>Wk.of (σ:=r) (σ':=r') (by simpa using h) λi v e=>by simpa using k (i+1) v (by simpa using e)
 | some w::r,o::r',h,k=>⟨by simpa using k 0 w rfl,Wk.of (by simpa using h) λi v e=>by simpa using k (i+1) v (by simpa using e)⟩
def capV:Option Cell->Option Cell
 | some (.val d)=>ai (.val d)
 | some (.dct ks)=>ai (.rdo ks)
 | some (.rdo ks)=>ai (.rdo ks)
 | _=>ao
def JL(m:Nat)(capt:List Nat)(l:En):En:=cc m ao++capt.map λi=>capV (l.getD i ao)
def cGo{α:Type}(g:DTG)(tt:DTT)(v:En->Nat->α->(α->Nat->Prop)->Prop)(l:En):qD->α->Nat->(α->Nat->Prop)->Prop
 | [],acc,n,R=>R acc n
 | x::xs,acc,n,R=>g x l λu=>tt u n λb C=>if b=bj then v u C acc λo G=>cGo g tt v l xs o G R else cGo g tt v l xs acc C R
abbrev tdL(te:DTE)(ρ:En)(n:Nat)(acc:qD)(R:qD->Nat->Prop):Prop:=te ρ n λt n3=>dP acc<16777216/\R (acc++[t]) n3
abbrev tdN{α:Type}(di:DTA)(g:DTG)(tt:DTT)(te:En->Nat->α->(α->Nat->Prop)->Prop)(ρ:En)(n:Nat)(acc:α)(R:α->Nat->Prop):Prop:=di ρ n λts n3=>cGo g tt te ρ ts acc n3 R
def JW(g:DTG)(tt:DTT)(o:DTE)(l:En)(xs acc:qD)(n:Nat)(R:qD->Nat->Prop):Prop:=cGo g tt (tdL o) l xs acc n R
def dComp(m:Nat)(capt:List Nat)(v:DTA)(g:DTG)(tt:DTT)(o:DTE):DTA:=λl n R=>v l n λts u=>JW g tt o (JL m capt l) ts [] u R
theorem ExtE.updR{hd:Option aq}{l x:Hp}{D:aq}{o:HO}(G:l D=ao)(e:ExtE hd l x):ExtE hd l (upd x D o):=λa u v C=>by rw[Jo (Qz v G)];exact e a u v C
theorem Hn.updR{K:qF}{hd:Option aq}{u:Hp}{D:aq}{o:HO}{n:Nat}(v:hd≠ai D)(C:MutO (u D))(h:Hn K hd u n):Hn K hd (upd u D o) n:=λa x=>by have ne:a≠D:=λz=>v (by rw[<- z];exact x);rcases h a x with⟨⟨d,m,t,q,rest⟩,l⟩|⟨l,p⟩;exact fj ⟨⟨d,m,t,by rw[Jo ne];exact q,rest⟩,l⟩;exact xw ⟨l,p.upd ne C⟩
section
variable{X:Cx}{scope:fv}{own:List Str}{capt:List Nat}{elt tg iter:aX}{ifs:List aX}{pos:Pos}{di:DTA}{is:List Nat}{g:DTG}{tt:DTT}{te:DTE}
theorem zhE{u:En}{i:Nat}{c:Cell}(h:capV (u.getD i ao)=ai c):(∃d,c=.val d/\u[i]?=ai (ai (.val d)))\/∃ks,c=.rdo ks/\(u[i]?=ai (ai (.dct ks))\/u[i]?=ai (ai (.rdo ks))):=by
 rw[bo]at h;cases e:u[i]? with
 | none=>rw[e]at h;cases h
 | some o =>
  rw[e]at h;cases o with
  | none=>cases h
  | some c' =>
   cases c' with
   | val d'=>simp[capV]at h;exact fj ⟨d',bv h,rfl⟩
   | own _=>simp[capV]at h
   | dct ks=>simp[capV]at h;exact xw ⟨ks,bv h,fj rfl⟩
   | dtt ks=>simp[capV]at h
   | rdo ks=>simp[capV]at h;exact xw ⟨ks,bv h,xw rfl⟩
theorem zo1{K:qF}{C:Ctx}{u:En}{σ:St}{H Y:Hp}{n n2:Nat}{D:aq}(S:Stt K C u σ H n)(e:ExtE C.hd H Y)(hn:Hn K C.hd Y n2)(hD:H D=ao)(hy:MutO (Y D)) :
  Stt K ⟨C.hd,λa=>Own C u σ a\/a=D⟩ (JL (dP own) capt u) (Qt own++capS capt σ) Y n2/\∀a,¬OwnS (JL (dP own) capt u) (Qt own++capS capt σ) a:=by
 have get:∀(i:Nat) c,(JL (dP own) capt u)[i]?=ai (ai c)->∃j,capV (u.getD j ao)=ai c/\dP own<=i/\capt[i - dP own]?=ai j:=λi c h=>by
  unfold JL at h;by_cases hi:i<dP own;rw[bY (by simpa using hi),eX]at h;split at h <;> cases h;rw[cQ (by simpa using hi),kK,aT]at h;cases ej:capt[i - dP own]? with
  | none=>rw[ej]at h;cases h
  | some j =>rw[ej]at h;exact⟨j,by simpa using h,by omega,rfl⟩
 have slot:∀(i j:Nat) (v:V),dP own<=i->capt[i - dP own]?=ai j->σ[j]?=ai (ai v)->(Qt own++capS capt σ)[i]?=ai (ai v):=λi j v hi L x=>by rw[cQ (by simpa using hi)];simp only[aI,aT,L,fP];rw[bo,x];rfl
 have nm:∀(i:Nat) (c:Cell),c.mine=bj->(JL (dP own) capt u)[i]?=ai (ai c)->False:=λi c m h=>by obtain⟨j,U,_⟩:=get i c h;rcases zhE U with⟨d,rfl,_⟩|⟨ks,rfl,_⟩ <;> cases m
 have no:∀a,¬OwnS (JL (dP own) capt u) (Qt own++capS capt σ) a:=λa ⟨i,c,m,x,_⟩=>nm i c m x;have S2:=S.on e hn;have sub:∀a o,H a=ai o->Own ⟨C.hd,λa=>Own C u σ a\/a=D⟩ (JL (dP own) capt u) (Qt own++capS capt σ) a->Own C u σ a:=λa o G z=>by rcases z with z|z;rcases z with z|z;exact z;subst z;rw[hD]at G;cases G;exact absurd z (no a)
 have kp:∀a o,¬Own C u σ a->H a=ai o->Y a=ai o:=λa o nO G=>e a o G λz=>nO (fj (S.hx a z));refine⟨.mk' (by unfold JL;simp) (λi d h=>?_) (λi ds m h=>eJ (nm i _ m h)) (λi ks h=>?_) (λi j ds es a m _ h=>eJ (nm i _ m h)) hn (λa G=>?_) (λa G=>fj (fj (S.hx a G))),no⟩;obtain⟨j,U,hi,L⟩:=get i _ h;rcases zhE U with⟨d',z,I⟩|⟨ks,z,_⟩;cases z;obtain⟨v,x,N⟩:=S.val j d I;exact⟨v,slot i j v hi L x,N.mono sub kp⟩;cases z;obtain⟨j,U,hi,L⟩:=get i _ h;rcases zhE U with⟨d',z,I⟩|⟨ks',z,I⟩;cases z;cases z;rcases I with I|I;obtain⟨a,J,x,N,h3,Z⟩:=S.dct j ks I;have R:C.hd≠ai a:=λz=>Z (S.hx a z);exact⟨a,J,slot i j _ hi L x,e a _ N R,h3.mono sub kp,fj (xw ⟨j,.dct ks,rfl,I,x⟩),R⟩;obtain⟨a,J,x,N,h3,Z,R⟩:=S.rdo j ks I;exact⟨a,J,slot i j _ hi L x,e a _ N R,h3.mono sub kp,fj (fj Z),R⟩;rcases G with G|rfl;exact S2.lst G;exact hy
def ExtD(hd:Option aq)(D:aq)(H H':Hp):Prop:=∀a o,H a=ai o->hd≠ai a->a≠D->H' a=ai o
theorem ExtE.transD{hd:Option aq}{D:aq}{H l u:Hp}(a:ExtE hd H l)(b:ExtD hd D l u):ExtD hd D H u:=λc o h n m=>b c o (a c o h n) n m
def SpM{α:Type}(K:qF)(C:Ctx)(D:aq)(A:Hp->α->Prop)(G:List Nat)(te:TM)(x:En->Nat->α->(α->Nat->Prop)->Prop):Prop:=∀(u:En) (σ:St) (H:Hp) (n:Nat) (acc:α) (N:Hp->Prop) (R:α->Nat->Prop),Stt K C u σ H n->(∀j∈G,∀v,σ[j]?≠ai (ai v))->A H acc->x u n acc R ->
 (∀l o H',R l o->ExtD C.hd D H H'->Hn K C.hd H' o->A H' l->N H')->te σ H N
def AOk{α:Type}(A:Ctx->aq->Hp->α->Prop):Prop:=∀(C:Ctx) (D:aq) (H:Hp) (acc:α),(∀a,C.hd=ai a->C.ext a)->C.hd≠ai D->A C D H acc->MutO (H D)/\(∀ks,H D≠ai (.dK ks))/\∀H',ExtE C.hd H H'->A C D H' acc
section
variable{α:Type}{K:qF}{C:Ctx}{D:aq}{A:Ctx->aq->Hp->α->Prop}{is js:List Nat}{gg:TG}{gt:TT}{tm:TM}{td:En->Nat->α->(α->Nat->Prop)->Prop}{ρ:En}{σ:St}{H1:Hp}{n1:Nat}{acc:α}{R:α->Nat->Prop}
theorem zkX(hD:C.ext D)(nh:C.hd≠ai D)(am:AOk A)(sg:SpG K is gg g)(st:SpT K gt tt)(sm:SpM K C D (A C D) js tm td)(S:Stt K C ρ σ H1 n1)(his:∀j∈is,∀v,σ[j]?≠ai (ai v))(hjs:∀j∈js,j∉is/\∀v,σ[j]?≠ai (ai v))(a1:A C D H1 acc){J:It}{ts:qD}{Q:Hp->Prop}
  (it:∀u,ExtD C.hd D H1 u->(∀a,Own C ρ σ a->u a≠ao)->(∀(i:Nat) t,ts[i]?=ai t->J.go i u/\∀x I,J.yld i u x I->Same u I/\Rep K C.hd (Own C ρ σ) I x t)/\J.stop (dP ts) u)
  (r:cGo g tt td ρ ts acc n1 R) (hq:∀l n' H',R l n'->ExtD C.hd D H1 H'->Hn K C.hd H' n'->A C D H' l->Q H'):Zx gg gt tm σ J H1 Q:=by
 refine⟨dP ts,λi u=>∃acc n2,cGo g tt td ρ (ts.drop i) acc n2 R/\A C D u acc/\ExtD C.hd D H1 u/\Hn K C.hd u n2,⟨acc,n1,r,a1,λ_ _ h _ _=>h,S.hnd⟩,?_⟩;rintro i u ⟨G,n2,c2,a2,U,h2⟩;have S2:=S.onX (λa o N no=>U a o N (λz=>no (S.hx a z)) λz=>no (z▸hD)) (λa N=>by by_cases z:a=D;rw[z];exact(am _ _ _ _ S.hx nh a2).1;exact S.mut N h2 λo ho nh=>U a o ho nh z) (λa ks N _ nh2=>U a _ N nh2 λz=>(am _ _ _ _ S.hx nh a1).2.1 ks (z▸N)) h2;have itq:=it u U λa=>S2.dom;refine⟨λhi=>?_,λhi=>?_⟩;subst hi;rw[sM]at c2;exact⟨itq.2,hq _ _ _ c2 U h2 a2⟩;rw[cq hi]at c2;obtain⟨go,yl⟩:=itq.1 i _ (ay hi);refine⟨go,λx I hyd=>?_⟩;obtain⟨L,rx⟩:=yl x I hyd;refine sg C ρ σ I n2 x ts[i] _ _ (S2.on (Same.ext L) (h2.same L)) rx c2 λρ4 Y r4 S4 k4 hj hl=>⟨Wk.of hl.symm λj v ej=>?_,?_⟩;by_cases z:j∈is;exact absurd ej (his j z v);rw[hj j z];exact ej;refine st C ρ4 Y I n2 _ _ S4 r4 λb n5 H5 r5 e5 Z=>?_;have e25:ExtE C.hd u H5:=(Same.ext L).trans e5;have a5:=(am _ _ _ _ S.hx nh a2).2.2 _ e25;have e15:ExtD C.hd D H1 H5:=λa o h n m=>e25 a o (U a o h n m) n;cases b with
 | false=>exact iteF ⟨G,n5,by simpa using r5,a5,e15,Z⟩
 | true=>exact iteT (sm ρ4 Y H5 n5 G _ _ (S4.on e5 Z) (λj hj' v=>by rw[hj j (hjs j hj').1];exact(hjs j hj').2 v) a5 (by simpa using r5) λl n' H' r' e' h' a'=>⟨l,n',r',a',λa o h n m=>e' a o (e15 a o h n m) n m,h'⟩)
end
def HM{α:Type}(X:Cx)(scope:fv)(own:List Str)(capt:List Nat)(nx:ah->Env->Sem Fin->Sem Fin)(A:Ctx->aq->Hp->α->Prop)(o:List Nat)(l:En->Nat->α->(α->Nat->Prop)->Prop):Prop :=
 ∃te:aq->TM,(∀D,Fam X scope own capt λY=>PM Y (nx (aZ D) Y.env) (te D))/\∀(C:Ctx) D,C.ext D->C.hd≠ai D->SpM X.K C D (A C D) o (te D) l
section
variable{α:Type}{A:Ctx->aq->Hp->α->Prop}{a0:α}{js is2:List Nat}{e tg2 it2:aX}{Oj:List aX}{Nq:Sem ah}{nx:ah->Env->Sem Fin->Sem Fin}{z:aq->HO->Prop}{td:En->Nat->α->(α->Nat->Prop)->Prop}{di2:DTA}{g2:DTG}{tt2:DTT}
theorem zos(am:AOk A)(hC:IsC e)(hc:X.calm=bj)(hcl:(clausesOf e)[1]?=ai ⟨tg2,it2,Oj,0⟩)(hT:∀acc env,V6 e 1 tg2 it2 Oj acc env (nx acc env))(U:Fam X scope own capt λY=>DI Y tg2 it2 di2)(L:Fam X scope own capt λY=>DG Y tg2 is2 g2)(I:Fam X scope own capt λY=>DTs Y Oj tt2)
  (hs2:∀(C:aq) (x:ah),foldedSetIterable it2 (compEnvC scope (ownCl X scope C) C X.env) x=pure x) (hm:HM X scope own capt nx A [] td):HM X scope own capt (nxN e 1 it2) A is2 (tdN di2 g2 tt2 td):=by
 obtain⟨wi,pi,hi⟩:=DI.fam U;obtain⟨gg,pg,hg⟩:=DG.fam L;obtain⟨gt,pt,ht⟩:=DTs.fam I;obtain⟨te,pm,hm⟩:=hm;refine⟨_,λD C s₀ H₀ v=>zsH hC rfl hc hcl (hT _ _) (hs2 C) (pi C s₀ H₀ v) (pg C s₀ H₀ v) (pt C s₀ H₀ v) (pm D C s₀ H₀ v),λC D Z G ρ σ H n acc N R S hjs a r hq=>?_⟩;refine hi C ρ σ H n _ _ S r λts n3 J H6 r6 e6 hn6 it6=>?_;have S6:=S.on e6 hn6;exact zkX Z G am hg ht (hm C D Z G) S6 hjs (λj hj=>absurd hj (by simp)) ((am _ _ _ _ S.hx G a).2.2 _ e6) (λH2 e dm=>it6 (Own C ρ σ) H2 (λa o ha no=>e a o ha (λz=>no (fj (S.hx a z))) λz=>no (fj (z▸Z))) (λ_ _ _ z=>z) dm) r6 λu n' H' r' e' h' a'=>hq u n' H' r' (e6.transD e') h' a'
theorem Wo(am:AOk A)(az:∀C D H ho,z D ho->A C D (upd H D ho) a0)(hc:X.calm=bj)(S:Jv scope own capt X)(k:VW e tg iter ifs scope Nq nx)(na:NA X.prog X.w Nq z)(hi:DIL X tg iter di)(hg:Fam X scope own capt λY=>DG Y tg is g)(hin:∀i∈is,i<dP own)(ht:Fam X scope own capt λY=>DTs Y ifs tt)
  (hm:HM X scope own capt nx A js td) (hjs:∀j∈js,j<dP own/\j∉is) (hs:Fsi X iter) :
  ∃te,PE X e te/\(∀{i:Nat} {x:Str} {L N5:Pos},X.N.Nodup->X.N[i]?=ai x->Loc (cu X.env) x->swapsWith e (ai (bn x L)) N5.line X.env=pure bj->(Fnl X x)->PS X (h6 [bn x L] e N5) (tAsg te (Um i))) /\
   ∀(C:Ctx) (u:En) (σ:St) (H:Hp) (n:Nat) (Q:VK) (R:α->Nat->Prop),Stt X.K C u σ H n->(di u n λts n1=>cGo g tt td (JL (dP own) capt u) ts a0 n1 R) ->
    (∀acc n' H' D,R acc n'->ExtE C.hd H H'->Hn X.K C.hd H' n'->H D=ao->¬Own C u σ D->A ⟨C.hd,λa=>Own C u σ a\/a=D⟩ D H' acc->Q (.ref D) H')->te σ H Q:=by
 obtain⟨wi,pi,hi⟩:=hi;obtain⟨gg,pg,hgg⟩:=DG.fam hg;obtain⟨gt,pt,hgt⟩:=DTs.fam ht;obtain⟨te,pm,hte⟩:=hm;refine⟨_,zsO hc S k na pi pg pt pm hs,λhN hxi hx hsw hf=>zsE hc S k na pi pg pt pm hs hN hxi hx hsw hf,λC u σ H n Q R St hd hq=>?_⟩;refine hi C u σ H n _ _ St hd λts n1 J H1 r e1 hn it=>λD ho G hz=>?_;have hD:H D=ao:=Y9 e1 hn G;have nO:¬Own C u σ D:=λz=>St.dom z hD;have U:C.hd≠ai D:=λz=>nO (fj (St.hx D z));have a1:=az ⟨C.hd,λa=>Own C u σ a\/a=D⟩ D H1 ho hz;have hx':∀a,C.hd=ai a->Own C u σ a\/a=D:=λa z=>fj (fj (St.hx a z));have up:∀{a o},H1 a=ai o->a≠D/\upd H1 D ho a=ai o:=λI=>⟨Qz I G,by rw[Jo (Qz I G)];exact I⟩;obtain⟨I3,no3⟩:=zo1 (own:=own) (capt:=capt) (D:=D) St (e1.trans (ExtE.new G)) (hn.same (JS G)) hD (am ⟨C.hd,λa=>Own C u σ a\/a=D⟩ D _ _ hx' U a1).1;have sn:∀j,j<dP own->∀v,(Qt own++capS capt σ)[j]?≠ai (ai v):=λj Z v ej=>by
  rw[bY (by simpa using Z),aT]at ej;cases z:own[j]? with
  | none=>rw[z]at ej;cases ej
  | some q=>rw[z]at ej;cases ej
 refine zkX (C:=⟨C.hd,λa=>Own C u σ a\/a=D⟩) (xw rfl) U am hgg hgt (hte _ D (xw rfl) U) I3 (λj Z=>sn j (hin j Z)) (λj Z=>⟨(hjs j Z).2,sn j (hjs j Z).1⟩) a1 (λH2 e dm=>?_) r λacc' n' H' r' e' h' a'=>hq acc' n' H' D r' (λa o I nh=>e' a o (up (e1 a o I nh)).2 nh (up (e1 a o I nh)).1) h' hD nO a';have itq:=it (λa=>Own C u σ a\/a=D) H2 (λa o I nh=>e a o (up I).2 nh (up I).1) (λa o I no z=>ii z no (up I).1) λa z=>dm a (fj z);refine⟨λi t ht=>?_,itq.2⟩;obtain⟨go,yl⟩:=itq.1 i t ht;refine⟨go,λx H3 y=>?_⟩;obtain⟨sm,rx⟩:=yl x H3 y;exact⟨sm,rx.mono (λa o _ z=>ii z id λz=>absurd z (no3 a)) λ_ _ _ z=>z⟩
end
def AL(K:qF)(C:Ctx)(D:aq)(H:Hp)(acc:qD):Prop:=∃ys,H D=ai (.lst ys)/\Reps K C.hd C.ext H ys acc
theorem V0{K:qF}:AOk (AL K):=λ_ _ _ _ hx x ⟨ys,u,r⟩ =>
 ⟨fj ⟨_,u⟩,λks z=>(by rw[u]at z;cases z),λH' e=>⟨ys,e _ _ u x,r.mono (λ_ _ _ z=>z) λa o no v=>e a o v λz=>no (hx a z)⟩⟩
def nxL(elt:aX)(acc:ah)(env:Env)(k:Sem Fin):Sem Fin:=do
 (do let _ <- call (b4 "list.append") [acc,<- eval elt env])
 k
theorem zkc{l:List pS}:IsC (im elt l scope pos):=λ_ _ _ _ _ _ _=>⟨⟨rfl,rfl⟩,⟨rfl,rfl⟩,rfl⟩
theorem zrD{P:aL}{w:aV}:NA P w (newList []) λ_ o=>o=.lst []:=λA E s Q _ h=>bp (h _ rfl λh' e=>⟨_,rfl,λH'=>⟨dw _,[],0,ja,e⟩⟩)
theorem zr8{K:qF}(C:Ctx)(D:aq)(H:Hp)(o:HO)(h:o=.lst []):AL K C D (upd H D o) []:=⟨[],by rw[h];exact JJ,.nil⟩
theorem zrL(he:Fam X scope own capt λY=>DE Y elt te):HM X scope own capt (nxL elt) (AL X.K) [] (tdL te):=by obtain⟨ge,pe,L⟩:=DE.fam he;refine⟨λD σ H N=>ge σ H λv x=>∃ys,x D=ai (.lst ys)/\dP ys<sizeLine/\N (upd x D (.lst (ys++[v]))),λD C s₀ H₀ fp pins s σ H N k Q E I h hk=>?_,λC D hD nh ρ σ H n acc N R S _ a r hq=>?_⟩;refine aa (aa (cn (pe C s₀ H₀ fp pins s σ H _ I h) (λy s9 h9=>aa ?_) λ_ _ z=>eJ z));obtain⟨v,Z,I9,r9,ys,u,hl,q9⟩:=h9;refine cn (ziM (X:=Q8 X scope own capt C s₀ H₀ fp) _ s9 σ Z (.ref D) [v] _ [y] (λ_ H'=>H'=upd Z D (.lst (ys++[v]))) I9 rfl (f6 r9 ja) ⟨_,ys,v,rfl,rfl,u,hl,rfl⟩) (λ_ s10 G=>?_) λ_ _ z=>eJ z;obtain⟨_,H10,J,_,rfl⟩:=G;exact af (hk _ _ J q9);refine L C ρ σ H n _ _ S r λt n6 v x r6 e6 U q6=>?_;obtain⟨ys,u,rs⟩:=(V0 _ _ _ _ S.hx nh a).2.2 _ e6;refine⟨ys,u,by rw[rs.length];exact r6.1,hq _ n6 _ r6.2 (λb o hb nb ne=>by rw[Jo ne];exact e6 b o hb nb) (Hn.updR nh (fj ⟨_,u⟩) U) ⟨_,JJ,?_⟩⟩;exact(rs.append (.cons (q6.mono (λ_ _ _ z=>fj z) λ_ _ _ z=>z) .nil)).mono (λ_ _ _ z=>z) λa o no ha=>by rw[Jo (show a≠D from λz=>no (z▸hD))];exact ha
def zxQ(K:qF)(te:TE)(d:DTA):Prop:=∀(C:Ctx) (o:En) (σ:St) (H:Hp) (n:Nat) (Q:VK) (R:qD->Nat->Prop),Stt K C o σ H n->d o n R ->
 (∀ts u p vs H',R ts u->ExtE C.hd H H'->Hn K C.hd H' u->H p=ao->H' p=ai (.lst vs)->Reps K C.hd (λa=>Own C o σ a\/a=p) H' vs ts->Q (.ref p) H')->te σ H Q
theorem zlk(hc:X.calm=bj)(S:Jv scope own capt X)(hi:DIL X tg iter di)
  (hg:Fam X scope own capt λY=>DG Y tg is g) (u:∀i∈is,i<dP own) (ht:Fam X scope own capt λY=>DTs Y ifs tt) (he:Fam X scope own capt λY=>DE Y elt te) (hs:Fsi X iter) :
  ∃ge,PE X (im elt [⟨tg,iter,ifs,0⟩] scope pos) ge/\(∀{i:Nat} {x:Str} {l v:Pos},X.N.Nodup->X.N[i]?=ai x->Loc (cu X.env) x->swapsWith (im elt [⟨tg,iter,ifs,0⟩] scope pos) (ai (bn x l)) v.line X.env=pure bj->(Fnl X x)->PS X (h6 [bn x l] (im elt [⟨tg,iter,ifs,0⟩] scope pos) v) (tAsg ge (Um i)))/\zxQ X.K ge (dComp (dP own) capt di g tt te):=by
 obtain⟨ge,p,q,I⟩:=Wo (e:=im elt [⟨tg,iter,ifs,0⟩] scope pos) V0 zr8 hc S ⟨zkc,⟨_,rfl⟩,λ_ _ _=>rfl,λ_=>⟨_,rfl⟩,λ_ _=>⟨_,rfl⟩⟩ zrD hi hg u ht (zrL he) (λj J=>absurd J (by simp)) hs;exact⟨ge,p,q,λC ρ σ H n Q R St hd Z=>I C ρ σ H n Q R St hd λacc G H' D r e h hD _ ⟨ys,U,rs⟩=>Z acc G D ys H' r e h hD U rs⟩
theorem zoI(hc:X.calm=bj)(S:Jv scope own capt X)(hi:DIL X tg iter di)
  (u:Fam X scope own capt λY=>DG Y tg is g) (l:∀i∈is,i<dP own) (v:Fam X scope own capt λY=>DTs Y ifs tt) (he:Fam X scope own capt λY=>DE Y elt te)
  (G:Fsi X iter:=by intro _;rfl):DN X (im elt [⟨tg,iter,ifs,0⟩] scope pos) (dComp (dP own) capt di g tt te):=by
 obtain⟨_,p,_,x⟩:=zlk hc S hi u l v he G;exact⟨_,p,x⟩
def DNA(X:Cx)(x:Str)(l:Pos)(e:aX)(pos:Pos)(i:Nat)(d:DTA):Prop:=∃te,PS X (h6 [bn x l] e pos) (tAsg te (Um i))/\zxQ X.K te d
theorem Zg{x:Str}{l I:Pos}{i:Nat}(hN:X.N.Nodup)(u:X.N[i]?=ai x)(hx:Loc (cu X.env) x)(hc:X.calm=bj)(S:Jv scope own capt X)(hi:DIL X tg iter di)
  (R:Fam X scope own capt λY=>DG Y tg is g) (v:∀i∈is,i<dP own) (U:Fam X scope own capt λY=>DTs Y ifs tt) (he:Fam X scope own capt λY=>DE Y elt te)
  (Z:Fsi X iter:=by intro _;rfl) (G:swapsWith (im elt [⟨tg,iter,ifs,0⟩] scope pos) (ai (bn x l)) I.line X.env=pure bj:=by rfl)
  (hf:Fnl X x:=by walk_at "F") :
  DNA X x l (im elt [⟨tg,iter,ifs,0⟩] scope pos) I i (dComp (dP own) capt di g tt te):=by
 obtain⟨_,_,q,J⟩:=zlk hc S hi R v U he Z;exact⟨_,q hN u hx G hf,J⟩
theorem Y6{x:Str}{o G:Pos}{e:aX}{i:Nat}{d:DTA}(h:DNA X x o e G i d):DS X (h6 [bn x o] e G) (sSet i (dNew d)):=by obtain⟨Z,pa,h⟩:=h;refine⟨_,pa,λC Y σ H n D D' S hd g=>?_⟩;refine h C Y σ H n _ _ S hd λts R p vs H' r v U J L I=>?_;exact g.nx _ _ H' R r ((S.on v U).put (.lst L (S.free J|> λz=>z) (I.mono (λ_ _ _ z=>fj z) λ_ _ _ z=>z))) (v.keep.trans UU)
end
def Wa(K:qF):Sp:=λvs H Q _=>∃(a:aq) (ns:List Int) (k:Int),vs=[.ref a,.int k]/\SqL K H a (ns.map V.int)/\dP ns<=63/\0<=k/\k<=100 /\
 ∀hd H',H hd=ao->ZM H' hd 0->Same H H'->Q (.ref hd) H'
def zxP(hd:aq)(H H':Hp):Prop:=∀b o,H b=ai o->b≠hd->H' b=ai o
def zrm:Sp:=λvs H Q _=>∃(hd:aq) (many n:Int),vs=[.ref hd,.int many]/\ZM H hd n/\n<=1000000000000/\0<many/\many<2 ^ 128 /\
 ∀(r:Int) H',0<=r->r<many->ZM H' hd (n+1)->zxP hd H H'->Q (.int r) H'
def YH:GD:=λts n R=>match ts with
 | [h,b5 many]=>h=HAND/\0<many/\many<2 ^ 128/\n<=1000000000000/\∀r:Int,0<=r->r<many->R (b5 r) (n+1)
 | _=>False
theorem zpM{K:qF}(vs:List V)(H:Hp)(Q:VK)(E:XK)(h:spD K 2 YH vs H Q E):zrm vs H Q E:=by
 obtain⟨hd,O,ts,n,R,r,Y,dom,hx,hl,g,N⟩:=h;cases ts with
 | nil=>exact eJ g
 | cons x ts=>cases ts with
  | nil=>exact eJ g
  | cons t ts=>cases t with
   | int many=>cases ts with
    | nil =>
     obtain⟨rfl,m0,L,hn',g⟩:=g;cases r with
     | cons G r =>
      cases r with
      | cons I r =>
       cases r;obtain⟨a,rfl,u⟩:=G.handI;rw[I.intI];have Z:ZM H a n:=ii (Y a u) (·.1) λz=>by have:=z.1;omega
       refine⟨a,many,n,rfl,Z,by omega,m0,L,λq H' S U x J=>?_⟩;refine N _ (n+1) _ H' (g q S U) (λb o C nb=>J b o C λz=>nb (by rw[u,z])) (λb v=>?_) (.int _);rw[u]at v;cases v;exact fj ⟨x,by omega⟩
    | cons _ _=>exact eJ g
   | _=>exact eJ g
def scrD:Option (Option Cell)->Option qD
 | some (ai (.val (tD [(oK,tE ts)])))=>ai ts
 | _=>ao
theorem zjD{z:Option (Option Cell)}{ts:qD}(h:scrD z=ai ts):z=ai (ai (.val (tD [(oK,tE ts)]))):=by unfold scrD at h;split at h;cases h;rfl;cases h
def zuK(z:Option (Option Cell))(R:qD->Prop):Prop:=match scrD z with
 | some ts=>R ts
 | none=>False
def JO(u:En):En:=match scrD (u[(0:Nat)]?:Option (Option Cell)) with
 | some ts=>ai (.val (tD [(oK,tE ts)]))::cc (dP u - 1) ao
 | none=>cc (dP u) ao
def intOf:Option (Option Cell)->(Int->Prop)->Prop
 | some (ai (.val (b5 k))),R=>R k
 | _,_=>False
def Yh(i j:Nat)(u:DTS):DTS:=λD C n=>zuK C[0]? λts=>intOf C[j]? λk=>(∃ns:List Int,ts=ns.map b5/\dP ns<=63)/\0<=k/\k<=100 /\
 u { nx:=λx _=>D.nx (JO x) n,rt:=λt _=>∃b,t=k6 b/\D.rt t n,bk:=λx _=>D.bk (JO x) n,ct:=λx _=>D.ct (JO x) n } (cr (cr (JO C) j (ai (.val (b5 k)))) i (ai (.val HAND))) 0
theorem US(h:(JO ρ)[i]?=ai (ai c)):i=0/\ρ[0]?=ai (ai c)/\∃ts,c=.val (tD [(oK,tE ts)]):=by
 unfold JO at h;split at h;rename_i ts e;replace e:=zjD e;cases i with
 | zero=>simp at h;subst h;exact⟨rfl,e,ts,rfl⟩
 | succ i =>rw[dR,eX]at h;split at h <;> cases h
 rw[eX]at h;split at h <;> cases h
theorem zqT:dP (JO ρ)=dP ρ:=by
 unfold JO;split;rename_i ts e;replace e:=zjD e;cases ρ with
 | nil=>simp at e
 | cons a r=>simp
 simp
theorem zhG:¬OwnS (JO ρ) σ a:=λ⟨i,ds,m,h,_⟩=>by obtain⟨_,_,ts,e⟩:=US h;subst e;cases m
theorem Rep.scrHd{K:qF}{hd I:Option aq}{O J:aq->Prop}{H H':Hp}{v:V}{ts:qD}(h:Rep K hd O H v (tD [(oK,tE ts)]))(G:∀a o,H a=ai o->¬O a->H' a=ai o/\¬J a):Rep K I J H' v (tD [(oK,tE ts)])/\∃ns:List Int,ts=ns.map b5:=by
 generalize e:(tD [(oK,tE ts)])=t at h;cases h with
 | @scr a ns x o =>
  have C:ts=ns.map b5:=by simpa[SCR] using e
  subst C;refine⟨?_,ns,rfl⟩;rcases x with x|⟨u,x⟩;exact .scr (fj (G a _ x o).1) (G a _ x o).2;exact .scr (xw ⟨u,(G a _ x o).1⟩) (G a _ x o).2
 | @scrS a ns x =>
  have C:ts=ns.map b5:=by simpa[SCR] using e
  subst C;exact⟨.scrS x,ns,rfl⟩
 | hand _=>simp[HAND]at e
 | dct _ _=>cases e
 | dcK _ _ _ C=>cases e;exact(Wp C).elim
 | dcT _ _ _ C=>cases e;exact(dict_noT C).elim
 | _=>cases e
theorem Stt.drop{K:qF}{C I:Ctx}{l:En}{σ:St}{H H':Hp}{n u:Nat}(S:Stt K I l σ H n)(Y:Hn K C.hd H' u)(L:∀a,C.ext a->MutO (H' a))(hx:∀a,C.hd=ai a->C.ext a)
  (x:∀a o,H a=ai o->¬Own I l σ a->H' a=ai o/\¬C.ext a):Stt K C (JO l) σ H' u where
 len:=by rw[zqT];exact S.len
 val:=λi d h=>by obtain⟨rfl,N,ts,R⟩:=US h;cases R;obtain⟨v,U,J⟩:=S.val 0 _ N;exact⟨v,U,(J.scrHd λa o G no=>⟨(x a o G no).1,λz=>ii z (x a o G no).2 zhG⟩).1⟩
 own:=λi ds h=>by obtain⟨_,_,ts,e⟩:=US h;cases e
 dct:=λi ds h=>by obtain⟨_,_,ts,e⟩:=US h;cases e
 rdo:=λi ds h=>by obtain⟨_,_,ts,e⟩:=US h;cases e
 dtt:=λi ds h=>by obtain⟨_,_,ts,e⟩:=US h;cases e
 dif:=λi j ds es a m _ h=>by obtain⟨_,_,ts,e⟩:=US h;subst e;cases m
 hnd:=Y
 ext:=L
 hx:=hx
section
variable{X:Cx}{st:eW}{sts:List eW}{ps:List Str}{f:aq}{fd:dO}{u:DTS}{x s kx hx:Str}{pos pos' p p1 p2 p3:Pos}{k:Nat}
theorem zqR{i j:Nat}(D:Bd.Def X.K X.mg hx st ps f fd)(G:FnOk X.prog X.w X.K X.mg X.base CX0 k f fd ps (Wa X.K))(hr:Room k X.A)(hN:X.N.Nodup)(hi:X.N[i]?=ai x)(hlx:Loc (cu X.env) x)(hu:DSs X sts u)(hij:i≠0:=by decide)(hj0:j≠0:=by decide)(hji:j≠i:=by decide)
  (h0:X.N[0]?=ai s:=by rfl) (hj:X.N[j]?=ai kx:=by rfl) (hv0:Vis (cu X.env) s:=by walk_at "V") (hvj:Vis (cu X.env) kx:=by walk_at "V")
  (hd0:Ndb s:=by rfl) (OO:Ncd s:=by rfl) (hdj:Ndb kx:=by rfl) (OP:Ncd kx:=by rfl) (hg:Gl X hx:=by rfl) (hdb:Ndb hx:=by rfl)
  (hs:swapsWith (ee (bn hx p) [bn s p1,bn kx p2] [] p3) (ai (bn x pos')) pos.line X.env=pure bA:=by rfl) (hf:Fnl X x:=by walk_at "F") :
  DSs X (h6 [bn x pos'] (ee (bn hx p) [bn s p1,bn kx p2] [] p3) pos::sts) (Yh i j u):=by
 obtain⟨tu,pu,hu⟩:=hu;refine⟨_,QP (QK hN hi hlx (Bd.zsN D G hr (Qv (QJ h0 hv0 hd0 OO) (Qv (QJ hj hvj hdj OP) Ua rfl) rfl) hg hdb) hs hf) pu,λC ρ σ H n Dn D' S hd g=>?_⟩;unfold Yh zuK at hd;split at hd;rename_i ts e0;replace e0:=zjD e0;unfold intOf at hd;split at hd;rename_i Y ej;obtain⟨⟨ns,rfl,hl⟩,k0,k1,hd⟩:=hd;obtain⟨v0,s0,r0⟩:=S.val 0 _ e0;obtain⟨vj,sj,rj⟩:=S.val j _ ej;obtain⟨a0,rfl,sq0⟩:=r0.scrI;rw[rj.intI]at sj;refine⟨_,s0,_,sj,?_⟩;refine⟨a0,ns,Y,rfl,sq0,hl,k0,k1,λh H1 Z hok R=>?_⟩;have S1:=S.on (Same.ext R:ExtE C.hd H H1) (S.hnd.same R);have nx:¬Own C ρ σ h:=λz=>S.dom z Z;have Sd:Stt X.K ⟨ai h,λa=>C.ext a\/a=h⟩ (JO ρ) σ H1 0:=S.drop (λa ea=>by cases ea;exact fj ⟨hok,by decide⟩) (λa z=>ii z (λz=>S1.ext a z) λz=>by subst z;obtain⟨_,_,_,q,_⟩:=hok;exact fj ⟨_,q⟩) (λa ea=>xw (by cases ea;rfl))
  (λa o J no=>⟨R a o J,λz=>ii z (λz=>no (fj z)) λz=>by subst z;rw[Z]at J;cases J⟩)
 have Sd2:=(Sd.put (i:=j) (t:=b5 Y) (v:=.int Y) (.int Y)).put (i:=i) (t:=HAND) (v:=.ref h) (.hand rfl);have OQ:∀a,¬OwnS (cr (cr (JO ρ) j (ai (.val (b5 Y)))) i (ai (.val HAND))) (cr (cr σ j (ai (.int Y))) i (ai (.ref h))) a:=λa z=>zhG (Wj (Wj z));have es:(cr σ j (ai (V.int Y)))=σ:=by
  apply mO;intro q;by_cases z:j=q;subst z;have:j<dP σ:=by rcases bM j (dP σ) with w|w;exact w;rw[bV w]at sj;cases sj
  rw[zm5 this,sj];rw[dN z]
 rw[es]at Sd2 OQ;refine hu _ _ _ H1 0 _ _ Sd2 hd ?_;have back:∀{I σ' H' n'},Stt X.K ⟨ai h,λa=>C.ext a\/a=h⟩ I σ' H' n'->(∀a o,H1 a=ai o->ai h≠ai a->H' a=ai o)->Stt X.K C (JO I) σ' H' n:=λ{I σ' H' n'} S' kp =>
  S'.drop (λa ea=>by
    rcases S.hnd a ea with⟨⟨d,m,t,q,rest⟩,l⟩|⟨l,q⟩;exact fj ⟨⟨d,m,t,kp a _ (R _ _ q) (λz=>by cases z;rw[Z]at q;cases q),rest⟩,l⟩;exact xw ⟨l,q.same λb o e=>kp b _ (R _ _ e) (λz=>by cases z;rw[Z]at e;cases e)⟩)
   (λa z=>by rcases S.ext a z with⟨xs,q⟩|⟨xs,q⟩|⟨b,q⟩;exact fj ⟨xs,kp a _ (R _ _ q) (λz=>by cases z;rw[Z]at q;cases q)⟩;exact xw (fj ⟨xs,kp a _ (R _ _ q) (λz=>by cases z;rw[Z]at q;cases q)⟩);exact xw (xw ⟨b,kp a _ (R _ _ q) (λz=>by cases z;rw[Z]at q;cases q)⟩)) S.hx (λa o J no=>⟨J,λz=>no (fj (fj z))⟩)
 have U:∀{I σ' H'},Keep ⟨ai h,λa=>C.ext a\/a=h⟩ (cr (cr (JO ρ) j (ai (.val (b5 Y)))) i (ai (.val HAND))) (cr σ i (ai (.ref h))) H1 I σ' H'->∀a o,H1 a=ai o->ai h≠ai a->H' a=ai o:=λk a o J na=>(k a o J na (OQ a)).1;have kp2:∀{I σ' H'},Keep ⟨ai h,λa=>C.ext a\/a=h⟩ (cr (cr (JO ρ) j (ai (.val (b5 Y)))) i (ai (.val HAND))) (cr σ i (ai (.ref h))) H1 I σ' H'->Keep C ρ σ H (JO I) σ' H':=λk a o J _ _=>⟨U k a o (R a o J) (λz=>by cases z;rw[Z]at J;cases J),zhG⟩;refine⟨λI σ' H' n' h' S' L=>g.nx _ _ H' n h' (back S' (U L)) (kp2 L),λt n' v H' h' hn' L rp=>?_,λI σ' H' n' h' S' L=>g.bk _ _ H' n h' (back S' (U L)) (kp2 L),λI σ' H' n' h' S' L=>g.ct _ _ H' n h' (back S' (U L)) (kp2 L),λ_ _ _ h=>eJ h⟩;obtain⟨b,rfl,h'⟩:=h';rw[rp.blI];have kq:∀a o,H a=ai o->H' a=ai o:=λa o J=>L a o (R a o J) (λz=>by cases z;rw[Z]at J;cases J) (OQ a);refine g.rt _ n _ H' h' (λa ea=>?_) (λa o J _ _=>kq a o J) (.bl b);rcases S.hnd a ea with⟨⟨d,m,t,q,rest⟩,l⟩|⟨l,q⟩;exact fj ⟨⟨d,m,t,kq a _ q,rest⟩,l⟩;exact xw ⟨l,q.same kq⟩;exact eJ hd;exact eJ hd
end
def zsd(K:qF):Sp:=λvs H Q _=>∃(a:aq) (ns:List Int),vs=[.ref a]/\SqL K H a (ns.map V.int)/\dP ns<=63/\∀H',Q (.bl bj) H'
def zxi:GD:=λts n R=>∃ns:List Int,ts=[SCR ns]/\dP ns<=63/\∀u,R (k6 bj) u
theorem zti{K:qF}(vs:List V)(H:Hp)(Q:VK)(E:XK)(h:zsd K vs H Q E):spD K 1 zxi vs H Q E:=by obtain⟨a,ns,rfl,sq,x,q⟩:=h;refine⟨ao,λ_=>False,[SCR ns],0,λt _=>t=k6 bj,.cons ?_ .nil,(λa e=>by cases e),(λa z=>eJ z),(λa e=>by cases e),rfl,⟨ns,rfl,x,λ_=>rfl⟩,λt G v H' C _ _ u=>?_⟩;rcases sq with sq|sq;exact .scr sq (λz=>z);exact .scrS λ_=>xw sq;subst C;rw[u.blI];exact q H'
section
variable{env:Env}{es:List aX}{a b:aX}{l1:List aX}{p:Pos}{x:Str}
theorem Jr:starEach (bn x p::es) env=(bA,eval (bn x p) env)::starEach es env:=rfl
theorem zmX{j}:starEach (i3 (.int i) j p::es) env=(bA,eval (i3 (.int i) j p) env)::starEach es env:=rfl
theorem UE{c d}:starEach (ee a l1 c d::es) env=(bA,eval (ee a l1 c d) env)::starEach es env:=rfl
theorem Ve{o}:starEach (je a o b p::es) env=(bA,eval (je a o b p) env)::starEach es env:=rfl
theorem zrk{o}:starEach (jc a o l1 p::es) env=(bA,eval (jc a o l1 p) env)::starEach es env:=rfl
theorem QO{g s}:starEach (im a g s p::es) env=(bA,eval (im a g s p) env)::starEach es env:=rfl
end
section
variable{X:Cx}{a b c e:aX}{da db dc:DTE}{pos p:Pos}{r r':R2}{g g':G2}
theorem zlc(ho:OpR X (compareOp op) r)(hg:Gp2 X r g)(U:OpR X (compareOp op') r')(hg':Gp2 X r' g')(ha:DL X a da)(N:DL X b db)(hc:DL X c dc)
  (hm:lastMarks [op,op'] [b,c]=bA:=by with_unfolding_all rfl):DT X (jc a [op,op'] [b,c] pos) (U6 (Y3 g g' da db dc)):=by
 obtain⟨ta,pa,ha⟩:=ha;obtain⟨tb,pb,N⟩:=N;obtain⟨tc,pc,hc⟩:=hc;refine⟨_,zp8 ho U pa pb pc hm,λC ρ σ H n Q R S h hq=>?_⟩;refine two ha N S h λx y n2 v w H2 r2 e J q1 q2=>?_;refine hg C.hd (Own C ρ σ) H2 v w x y _ _ (λp=>J.dom) q1 q2 r2 λz u H' l I Y=>?_;have L:=J.on I.ext (J.hnd.same I);cases z with
 | bool k =>
  cases Y;refine⟨k,rfl,?_⟩;cases k with
  | false=>exact iteF ⟨bA,rfl,hq _ n2 H' l (e.trans I.ext) L.hnd⟩
  | true =>
   refine iteT (hc C ρ σ H' n2 _ _ L l λz2 n3 w2 H4 r4 Z h4 q4=>?_);have S4:=L.on Z h4;have q2':=Z.repT S.hx ((Same.ext I:ExtE C.hd H2 H').repT S.hx q2);refine hg' C.hd (Own C ρ σ) H4 w w2 y z2 _ _ (λp=>S4.dom) q2' q4 r4 λz u H' l G Y=>?_;cases z with
   | bool k=>cases Y;exact⟨k,rfl,hq _ n3 H' l (((e.trans I.ext).trans Z).trans G.ext) (S4.hnd.same G)⟩
   | _=>exact eJ l
 | _=>exact eJ l
end
section
variable{C:Int->Int->Prop}{f:Int->Int->Int}{i j:Int}{R:ae->Prop}{Rb:Bool->Prop}{xs ys:qD}{s t:Str}{a b:Bool}{u v:ae}
theorem l_gI:gI C f (b5 i) (b5 j) R=(C i j/\R (b5 (f i j))):=propext aQ
theorem ZC:gI0 f (b5 i) (b5 j) R=R (b5 (f i j)):=propext aQ
theorem YJ:oAdd (b5 i) (b5 j) R=R (b5 (i+j)):=propext aQ
theorem YK:oAdd (eN s) (eN t) R=(kN s+kN t<=16777216/\R (eN (s++t))):=propext aQ
theorem YL:oAdd (fX xs) (fX ys) R=(dP xs+dP ys<=16777216/\R (fX (xs++ys))):=propext aQ
theorem Yd:oEq (b5 i) (b5 j) R=R (k6 (decide (i=j))):=propext aQ
theorem Yk:oEq (eN s) (eN t) R=R (k6 (decide (s=t))):=propext aQ
theorem Yq:oEq (fX xs) (fX ys) R=(Okd (fX xs)/\Okd (fX ys)/\R (k6 (fF (fX xs) (fX ys)))):=propext aQ
theorem Yy:oNe (b5 i) (b5 j) R=R (k6 (!decide (i=j))):=propext aQ
theorem Yx:oNe (k6 a) (k6 b) R=R (k6 (!decide (a=b))):=propext aQ
theorem Yl:oNe (eN s) (eN t) R=R (k6 (!decide (s=t))):=propext aQ
theorem Ym:oNe (fX xs) (fX ys) R=(Okd (fX xs)/\Okd (fX ys)/\R (k6 (!PyData.eqv (fX xs) (fX ys)))):=propext aQ
theorem Yz:oNe (tE xs) (tE ys) R=(Okd (tE xs)/\Okd (tE ys)/\R (k6 (!PyData.eqv (tE xs) (tE ys)))):=propext aQ
theorem Ys:oIs u oK R=R (k6 (isNone u)):=by cases u <;> exact propext aQ
theorem Za:oIsN (k6 a) (k6 b) R=R (k6 (a != b)):=propext aQ
theorem Zb:oIsN u oK R=R (k6 (!isNone u)):=by cases u <;> exact propext aQ
theorem Yr:oIn u (tE xs) R=(Okd u/\(∀t∈xs,Okd t)/\R (k6 (xs.any λt=>t.eqv u))):=by cases u <;> exact propext aQ
theorem Zn:Z0 u (fX xs) R=(Okd u/\(∀t∈xs,Okd t)/\R (k6 (!xs.any λt=>t.eqv u))):=by cases u <;> exact propext aQ
theorem Yu:oLtA (b5 i) (b5 j) R=R (k6 (decide (i<j))):=propext aQ
theorem Yt:oLeA (b5 i) (b5 j) R=R (k6 (decide (i<=j))):=propext aQ
theorem ZD(h:atI xs i=ai x):oIx (tE xs) (b5 i) R=R x:=by show(match atI xs i with|some t=>R t|none=>False)=_;rw[h]
theorem ZE(h:atI xs i=ai x):oIx (fX xs) (b5 i) R=R x:=by show(match atI xs i with|some t=>R t|none=>False)=_;rw[h]
theorem YQ:oIx (fX (u::xs)) (b5 0) R=R u:=ZE (by unfold atI ixN;simp)
theorem YR:oIx (fX (u::v::xs)) (b5 1) R=R v:=ZE (by unfold atI ixN;simp;rw[if_pos (by omega)];rfl)
theorem YS:oIx (fX (u::v::w::xs)) (b5 2) R=R w:=ZE (by unfold atI ixN;simp;rw[if_pos (by omega)];rfl)
theorem YN:oIx (tE (u::xs)) (b5 0) R=R u:=ZD (by unfold atI ixN;simp)
theorem YO:oIx (tE (u::v::xs)) (b5 1) R=R v:=ZD (by unfold atI ixN;simp;rw[if_pos (by omega)];rfl)
theorem YU:truD (k6 a) Rb=Rb a:=propext aQ
theorem YV:truD (b5 i) Rb=Rb (decide (i≠0)):=propext aQ
theorem YX:truD (eN s) Rb=(kN s<=16777216/\Rb (decide (kN s≠0))):=propext aQ
theorem YW:truD (tE xs) Rb=Rb (!(dy xs)):=propext aQ
theorem YY:truD (fX xs) Rb=Rb (!(dy xs)):=propext aQ
theorem Yc:bolD (k6 a) Rb=Rb a:=propext aQ
theorem Yw:bMin [b5 i,b5 j] R=R (b5 (if j<i then j else i)):=propext aQ
theorem Yv:bMax [b5 i,b5 j] R=R (b5 (if j > i then j else i)):=propext aQ
theorem Yb:bAbs [b5 i] R=R (b5 (if i<0 then -i else i)):=propext aQ
theorem YM:bInt [k6 a] R=R (b5 (if a then 1 else 0)):=propext aQ
theorem Zo:V8 [tE xs] R=R (fX xs):=propext aQ
theorem YT:ZA [u] R=(Shd u/\R (eN u.shown)):=propext aQ
theorem Zc:JU (tE xs) Rl=Rl xs:=propext aQ
theorem Zm:JU (fX xs) Rl=Rl xs:=propext aQ
theorem zwg(y:String)(h:y∈["NoneType","bool","int","str","list","tuple","dict"]):kitB y "int" = ai (decide (y = "int")||decide (y = "bool")):=by simp only[ax,aU,or_false]at h;rcases h with rfl|rfl|rfl|rfl|rfl|rfl|rfl <;> decide +kernel
theorem ztk(y:String)(h:y∈["NoneType","bool","int","str","list","tuple","dict"]):kitB y "bool" = ai (decide (y = "bool")):=by simp only[ax,aU,or_false]at h;rcases h with rfl|rfl|rfl|rfl|rfl|rfl|rfl <;> decide +kernel
theorem zqz(y:String)(h:y∈["NoneType","bool","int","str","list","tuple","dict"]):kitB y "tuple" = ai (decide (y = "tuple")):=by simp only[ax,aU,or_false]at h;rcases h with rfl|rfl|rfl|rfl|rfl|rfl|rfl <;> decide +kernel
theorem zwf(y:String)(h:y∈["NoneType","bool","int","str","list","tuple","dict"]):kitB y "str" = ai (decide (y = "str")):=by simp only[ax,aU,or_false]at h;rcases h with rfl|rfl|rfl|rfl|rfl|rfl|rfl <;> decide +kernel
def Pln(t:ae):Prop:=tyN t≠ao
def isInt:ae->Bool|b5 _=>bj|k6 _=>bj|_=>false
def isBool:ae->Bool|k6 _=>bj|_=>false
def isTup:ae->Bool|fX _=>bj|_=>false
def isStr:ae->Bool|eN _=>bj|_=>false
variable{d:DTE}{ρ:En}{n:Nat}
theorem Wf(h:tyN u=ai y):y∈["NoneType","bool","int","str","list","tuple","dict"]:=by unfold tyN at h;split at h <;> cases h <;> simp
def isiD(f:ae->Bool)(d:DTE):DTE:=λρ n R=>d ρ n λt x=>Pln t/\R (k6 (f t)) x
end
section
variable{X:Cx}{e:aX}{d:DTE}{p p2 pos:Pos}
theorem UA(hk:∀t y,tyN t=ai y->kitB y T=ai (f t))(hm:X.mg "isinstance" = ao) (o:X.mg y=ao) (J:bootBuiltins y=ai (aY T)) (h:DL X e d) (hs:starEach (e::[bn y p2]) X.env=(bA,eval e X.env)::starEach [bn y p2] X.env) (Z:Gl X "isinstance":=by rfl) (u:Gl X y:=by rfl) (hn:y ≠ "__name__":=by decide) (hd:Ndb y:=by rfl) :
  DE X (ee (bn "isinstance" p) [e,bn y p2] [] pos) (isiD f d):=by
 obtain⟨ta,pa,h⟩:=h;refine⟨_,ZI zpe hm zq7 (Qv pa (zsS (Bd.zzA o J u hn hd) Ua) hs) Z,λC G σ H n Q R S hd Y=>?_⟩;refine h C G σ H n _ _ S hd λt n1 v I x L U q1=>?_;cases et:tyN t with
 | none=>exact absurd et x.1
 | some z=>exact⟨v,C.hd,Own C G σ,t,T,z,f t,rfl,q1,et,hk t z et,Y _ n1 _ I x.2 L U (.bl _)⟩
theorem zxc:∀t y,tyN t=ai y->kitB y "int" = ai (isInt t):=λt y e=>by rw[zwg y (Wf e)];unfold tyN at e;split at e <;> cases e <;> rfl
theorem ztF:∀t y,tyN t=ai y->kitB y "bool" = ai (isBool t):=λt y e=>by rw[ztk y (Wf e)];unfold tyN at e;split at e <;> cases e <;> rfl
theorem Vx:∀t y,tyN t=ai y->kitB y "tuple" = ai (isTup t):=λt y e=>by rw[zqz y (Wf e)];unfold tyN at e;split at e <;> cases e <;> rfl
theorem zxb:∀t y,tyN t=ai y->kitB y "str" = ai (isStr t):=λt y e=>by rw[zwf y (Wf e)];unfold tyN at e;split at e <;> cases e <;> rfl
theorem UC:Pln (b5 i):=by simp[Pln,tyN]
theorem UI:Pln (k6 i):=by simp[Pln,tyN]
theorem UD:Pln (eN i):=by simp[Pln,tyN]
theorem U2:Pln (fX i):=by simp[Pln,tyN]
theorem UX:Pln (tE i):=by simp[Pln,tyN]
theorem UY:Pln oK:=by simp[Pln,tyN]
theorem UW:Pln (tD []):=by simp[Pln,tyN]
end
abbrev blk(i h:Int):ae:=fX [b5 i,b5 h]
theorem UV:Okd (fX [b5 i,b5 h]):=⟨by simp[bR,cx],by simp[dI,cX]⟩
theorem zqN:fF (fX [b5 i,b5 h]) (fX [b5 j,b5 g])=(decide (i=j)&&decide (h=g)):=by simp only[fF,pT,pU];rw[oj,oj]
def IsBk(bits i h:Int):Prop:=0<=h/\h<=bits/\∃k:Int,0<=k/\i=k*2 ^ mu h/\k<2 ^ mu (bits - h)
theorem VB(k:Nat):(0:Int)<2 ^ k:=Bd.JT k
theorem zkN:(2:Int) ^ (a+b)=2 ^ a*2 ^ b:=h8 2 a b
theorem IsBk.bounds(v:0<=bits)(H:IsBk bits i h):0<=i/\i+2 ^ mu h<=2 ^ mu bits:=by
 obtain⟨h0,x,k,l,rfl,u⟩:=H;have p:=VB (mu h);refine⟨Int.mul_nonneg l (eT p),?_⟩;have e:mu bits=mu (bits - h)+mu h:=by lia
 rw[e,zkN];have:(k+1)*2 ^ mu h<=2 ^ mu (bits - h)*2 ^ mu h:=bz (by lia) (eT p);rw[cS,cT]at this;exact this
theorem cpow(h0:0<=j)(l:j<=1000000):CPow 1 j:=⟨h0,l,by decide⟩
section
variable{t u:DTS}{D:JN}{ρ:En}{n i j:Nat}{d da db dc:DTE}{ds:DTA}{c:DTT}{g:G2}{g':G2}{gc:GC}{gd:GD}{tg:DTG}{tgs:DTGs}{R:qN}{Rb:Bool->Nat->Prop}{Rl:qD->Nat->Prop}{Re:En->Prop}{x y:ae}{xs:qD}{f:Int->Int->Int}{k:Bool}
theorem Vb:(sSeq t u D ρ n)=(t { D with nx:=u D } ρ n):=propext aQ
theorem Va:(sRet d D ρ n)=(d ρ n λt l=>D.rt t l):=propext aQ
theorem Vc:(sSet i d D ρ n)=(d ρ n λt o=>D.nx (cr ρ i (ai (.val t))) o):=propext aQ
theorem Z9:(sAsg d tg D ρ n)=(d ρ n λt o=>tg t ρ λl=>D.nx l o):=propext aQ
theorem u_dC:(dC x ρ n R)=(R x n):=propext aQ
theorem ZK:(dOp g da db ρ n R)=(da ρ n λx l=>db ρ l λy o=>g x y λz=>R z o):=propext aQ
theorem Z5:(dNew ds ρ n R)=(ds ρ n λts o=>R (tE ts) o):=propext aQ
theorem Z7:(dTup ds ρ n R)=(ds ρ n λts o=>R (fX ts) o):=propext aQ
theorem Z6:(dNil ρ n Rl)=(Rl [] n):=propext aQ
theorem Vr:(Qa d ds ρ n Rl)=(d ρ n λt l=>ds ρ l λts o=>Rl (t::ts) o):=propext aQ
theorem ZJ:(dFn gd ds ρ n R)=(ds ρ n λts l=>gd ts l R):=propext aQ
theorem VE:(ZO gc ds ρ n R)=(ds ρ n λts l=>gc ts λz=>R z l):=propext aQ
theorem Vv:(JY i x ρ Re)=(Re (cr ρ i (ai (.val x)))):=propext aQ
theorem Vt:(Us tgs (fX xs) ρ Re)=(tgs xs ρ Re):=propext aQ
theorem Vs:(Ur [] ρ Re)=(Re ρ):=propext aQ
theorem VF:(QL tg tgs (x::xs) ρ Re)=(tg x ρ λl=>tgs xs l Re):=propext aQ
def cVal:Option Cell->(ae->Prop)->Prop
 | some (.val d),R=>R d
 | _,_=>False
def cOwn:Option Cell->(qD->Prop)->Prop
 | some (.own d),R=>R d
 | _,_=>False
theorem ZV:cVal (ai (.val x)) Q=Q x:=propext aQ
theorem Z8:dVar i ρ n R=cVal (ρ.getD i ao) λd=>R d n:=by
 unfold dVar;rw[bo];cases e:ρ[i]? with
 | none=>exact propext aQ
 | some o=>cases o with
  | none=>exact propext aQ
  | some c=>cases c <;> exact propext aQ
theorem Zj:U6 d ρ n Rb=(d ρ n λt l=>bolD t λb=>Rb b l):=by unfold U6;congr 1;funext t l;cases t <;> exact propext aQ
def lLst:ae->(qD->Prop)->Prop
 | tE xs,R=>R xs
 | _,_=>False
def lTup:ae->(qD->Prop)->Prop
 | fX xs,R=>R xs
 | _,_=>False
theorem YB:dItL d ρ n Rl=(d ρ n λt l=>lLst t λts=>Rl ts l):=by unfold dItL;congr 1;funext t l;cases t <;> exact propext aQ
theorem YC:dItT d ρ n Rl=(d ρ n λt l=>lTup t λts=>Rl ts l):=by unfold dItT;congr 1;funext t l;cases t <;> exact propext aQ
def lInt:ae->(Int->Prop)->Prop
 | b5 i,R=>R i
 | _,_=>False
theorem Zi:ZF d ρ n Rl=(d ρ n λt l=>lInt t λj=>(-(2 ^ 62)<=j/\j<2 ^ 62)/\Rl (Qy 0 (mu j)) l):=by unfold ZF;congr 1;funext t l;cases t <;> exact propext aQ
theorem YD:dNeg d ρ n R=(d ρ n λt l=>lInt t λi=>R (b5 (-i)) l):=by unfold dNeg;congr 1;funext t l;cases t <;> exact propext aQ
def ZB:qD->(ae->ae->Prop)->Prop
 | [x,y],R=>R x y
 | _,_=>False
theorem YE:sPar i j ds D ρ n=(ds ρ n λts o=>ZB ts λt u=>D.nx (cr (cr ρ i (ai (.val t))) j (ai (.val u))) o):=by unfold sPar;congr 1;funext ts o;rcases ts with _|⟨a,_|⟨b,_|⟨c,r⟩⟩⟩ <;> exact propext aQ
theorem Yi:sAug i f d D ρ n=cVal (ρ.getD i ao) λv=>lInt v λq=>d ρ n λt C=>lInt t λk=>D.nx (cr ρ i (ai (.val (b5 (f q k))))) C:=by
 unfold sAug;rw[bo];cases e:ρ[i]? with
 | none=>exact propext aQ
 | some o=>cases o with
  | none=>exact propext aQ
  | some c=>cases c with
   | own _=>exact propext aQ
   | dct _=>exact propext aQ
   | dtt _=>exact propext aQ
   | rdo _=>exact propext aQ
   | val v=>cases v with
    | int q =>show(d ρ n λt C=>_)=(d ρ n λt C=>_);congr 1;funext t C;cases t <;> exact propext aQ
    | _=>exact propext aQ
theorem Zl:Y3 g g' da db dc ρ n R=(da ρ n λx C=>db ρ C λy v=>g x y λz=>bolD z λb=>if b=bj then dc ρ v λw G=>g' y w λz=>R z G else R (k6 bA) v):=by
 unfold Y3;congr 1;funext x C;congr 1;funext y v;congr 1;funext z;cases z with
 | bool b=>cases b <;> simp[bolD]
 | _=>exact propext aQ
def UM(ρ:En)(i:Nat)(D:JN)(l:DTE)(t:ae)(v:Nat)(ts:qD):Prop:=l ρ v λj C=>lInt j λj=>(match ixN (dP ts) j with|some k=>D.nx (cr ρ i (ai (.own (cr ts k t)))) C|none=>False)
theorem Yj:sPut i dj d D ρ n=(d ρ n λt l=>cOwn (ρ.getD i ao) λxs=>UM ρ i D dj t l xs):=by
 unfold sPut;congr 1;funext t l;rw[bo];cases e:ρ[i]? with
 | none=>exact propext aQ
 | some o=>cases o with
  | none=>exact propext aQ
  | some c=>cases c with
   | val _=>exact propext aQ
   | dct _=>exact propext aQ
   | dtt _=>exact propext aQ
   | rdo _=>exact propext aQ
   | own xs =>show(dj ρ l λj v=>_)=UM ρ i D dj t l xs;unfold UM;congr 1;funext j v;cases j <;> exact propext aQ
variable{tb:DTS}{m:Nat}{di:DTA}{c' tt:DTT}{fb:ae->Bool}{capt:List Nat}
theorem zwL(h:t { D with nx:=u D } ρ n):sSeq t u D ρ n:=h
theorem ztv(h:D.nx ρ n):zsp D ρ n:=h
theorem zwM(h:d ρ n λt l=>D.rt t l):sRet d D ρ n:=h
theorem zAf(h:c ρ n λb l=>if b=bj then t D ρ l else u D ρ l):sIf c t u D ρ n:=h
theorem zwP(h:d ρ n λt o=>tg t ρ λl=>D.nx l o):sAsg d tg D ρ n:=h
theorem zwO(h:di ρ n λts l=>forP tg tb D ts ρ l):sFor di tg tb D ρ n:=h
theorem i_dC(h:R x n):dC x ρ n R:=h
theorem zAj(h:da ρ n λx l=>db ρ l λy o=>g x y λz=>R z o):dOp g da db ρ n R:=h
theorem zw3(h:ds ρ n λts o=>R (tE ts) o):dNew ds ρ n R:=h
theorem zwX(h:ds ρ n λts o=>R (fX ts) o):dTup ds ρ n R:=h
theorem zw2(h:Rl [] n):dNil ρ n Rl:=h
theorem ztC(h:d ρ n λt l=>ds ρ l λts o=>Rl (t::ts) o):Qa d ds ρ n Rl:=h
theorem zAk(h:ds ρ n λts l=>gd ts l R):dFn gd ds ρ n R:=h
theorem zw8(h:ds ρ n λts l=>gd ts l λt o=>Q6 t=bj/\R t o):dFnL gd ds ρ n R:=h
theorem zqI(h:ds ρ n λts l=>gc ts λz=>R z l):ZO gc ds ρ n R:=h
theorem zw9(h:c ρ n λb l=>if b=bj then c' ρ l Rb else Rb bA l):dAnd c c' ρ n Rb:=h
theorem zAi(h:c ρ n λb l=>if b=bj then Rb bj l else c' ρ l Rb):dOr c c' ρ n Rb:=h
theorem zw1(h:c ρ n λb l=>Rb (!b) l):dNot c ρ n Rb:=h
theorem ztE(h:da ρ n λt v=>bolD t λb=>if b=bj then db ρ v R else R (k6 bA) v):zt5 da db ρ n R:=h
theorem zw0(h:da ρ n λt v=>bolD t λb=>if b=bj then R (k6 bj) v else db ρ v R):dOrV da db ρ n R:=h
theorem ztB(h:da ρ n λt v=>bolD t λb=>R (k6 (!b)) v):zt4 da ρ n R:=h
theorem zw7(h:c ρ n λb l=>if b=bj then da ρ l R else db ρ l R):dIfE c da db ρ n R:=h
theorem zwY(h:d ρ n λt l=>truD t λb=>Rb b l):dTru d ρ n Rb:=h
theorem ztD(h:di ρ n λts l=>JW tg tt d (JL m capt ρ) ts [] l Rl):dComp m capt di tg tt d ρ n Rl:=h
theorem zwW(h:Rb bj n):dYes ρ n Rb:=h
theorem ztt(h:tgs xs ρ Re):Us tgs (fX xs) ρ Re:=h
theorem ztu(h:Re ρ):Ur [] ρ Re:=h
theorem zqF(h:tg x ρ λl=>tgs xs l Re):QL tg tgs (x::xs) ρ Re:=h
theorem ztx(h:d ρ n λt l=>bolD t λb=>Rb b l):U6 d ρ n Rb:=bv Zj▸h
theorem zw6(h:d ρ n λt l=>lLst t λts=>Rl ts l):dItL d ρ n Rl:=bv YB▸h
theorem zw5(h:d ρ n λt l=>lTup t λts=>Rl ts l):dItT d ρ n Rl:=bv YC▸h
theorem ztz(h:d ρ n λt l=>lInt t λj=>(-(2 ^ 62)<=j/\j<2 ^ 62)/\Rl (Qy 0 (mu j)) l):ZF d ρ n Rl:=bv Zi▸h
theorem zw4(h:d ρ n λt l=>lInt t λi=>R (b5 (-i)) l):dNeg d ρ n R:=bv YD▸h
theorem zqH(h:da ρ n λx G=>db ρ G λy v=>g x y λz=>bolD z λb=>if b=bj then dc ρ v λw C=>g' y w λz=>R z C else R (k6 bA) v):Y3 g g' da db dc ρ n R:=bv Zl▸h
theorem zwN(h:ds ρ n λts o=>ZB ts λt u=>D.nx (cr (cr ρ i (ai (.val t))) j (ai (.val u))) o):sPar i j ds D ρ n:=bv YE▸h
def lIsi(fb:ae->Bool)(t:ae)(R:ae->Prop):Prop:=Pln t/\R (k6 (fb t))
theorem zwU(h:d ρ n λt l=>lIsi fb t λz=>R z l):isiD fb d ρ n R:=h
theorem zrJ(e:ρ[i]?=ai (ai (.val x)))(h:R x n):dVar i ρ n R:=by unfold dVar;rw[e];exact h
theorem zrK(e:ρ[i]?=ai (ai (.own xs)))(h:R (tE xs) n):dOwn i ρ n R:=by unfold dOwn;rw[e];exact h
theorem zk6(e:ρ[i]?=ai (ai (.own xs)))(h:d ρ n λt l=>dP xs<16777216/\D.nx (cr ρ i (ai (.own (xs++[t])))) l):Vi i d D ρ n:=by unfold Vi;rw[e];exact h
theorem zk5(e:ρ[i]?=ai (ai (.own xs)))(h:t D (cr ρ i (ai (.val (tE xs)))) n):Vj i t D ρ n:=by unfold Vj;rw[e];exact h
theorem zAl(e:ρ[i]?=ai (ai (.val (b5 q))))(h:d ρ n λt o=>lInt t λk=>D.nx (cr ρ i (ai (.val (b5 (f q k))))) o):sAug i f d D ρ n:=by rw[Yi,bo,e];exact h
theorem zAg(e:ρ[i]?=ai (ai (.own xs)))(h:d ρ n λt l=>UM ρ i D dj t l xs):sPut i dj d D ρ n:=by rw[Yj,bo,e];exact h
theorem zwQ(h:dj ρ n λj l=>lInt j λj=>(match ixN (dP xs) j with|some k=>D.nx (cr ρ i (ai (.own (cr xs k x)))) l|none=>False)):UM ρ i D dj x n xs:=h
theorem zAh{A B:Prop}(o:b=bj->A)(l:b=bA->B):if b=bj then A else B:=by cases b with|true=>exact iteT (o rfl)|false=>exact iteF (l rfl)
theorem zwT{p:Prop}[Decidable p]{A B:Prop}(o:p->A)(l:¬p->B):if decide p=bj then A else B:=by by_cases h:p;rw[decide_eq_true h];exact iteT (o h);rw[decide_eq_false h];exact iteF (l h)
theorem zwS{A B:Prop}(h:if b=bj then B else A):if (!b)=bj then A else B:=by cases b with|true=>exact iteF h|false=>exact iteT h
end
section
variable{fb:Int->Int->Bool}{i j:Int}{R:ae->Prop}{Rb:Bool->Prop}{xs ys:qD}{s t:Str}{a b:Bool}{u v x y:ae}
theorem zwD(h:R (b5 (i+j))):oAdd (b5 i) (b5 j) R:=bv YJ▸h
theorem zwC(h:(kN s+kN t<=16777216/\R (eN (s++t)))):oAdd (eN s) (eN t) R:=bv YK▸h
theorem zwB(h:(dP xs+dP ys<=16777216/\R (fX (xs++ys)))):oAdd (fX xs) (fX ys) R:=bv YL▸h
theorem zAb(h:R (k6 (decide (i=j)))):oEq (b5 i) (b5 j) R:=bv Yd▸h
theorem zAa(h:R (k6 (decide (s=t)))):oEq (eN s) (eN t) R:=bv Yk▸h
theorem zz_(h:(Okd (fX xs)/\Okd (fX ys)/\R (k6 (fF (fX xs) (fX ys))))):oEq (fX xs) (fX ys) R:=bv Yq▸h
theorem zzX(h:R (k6 (!decide (i=j)))):oNe (b5 i) (b5 j) R:=bv Yy▸h
theorem zzY(h:R (k6 (!decide (a=b)))):oNe (k6 a) (k6 b) R:=bv Yx▸h
theorem zzV(h:R (k6 (!decide (s=t)))):oNe (eN s) (eN t) R:=bv Yl▸h
theorem zzU(h:(Okd (fX xs)/\Okd (fX ys)/\R (k6 (!PyData.eqv (fX xs) (fX ys))))):oNe (fX xs) (fX ys) R:=bv Ym▸h
theorem zzW(h:(Okd (tE xs)/\Okd (tE ys)/\R (k6 (!PyData.eqv (tE xs) (tE ys))))):oNe (tE xs) (tE ys) R:=bv Yz▸h
theorem zz7(h:R (k6 (isNone u))):oIs u oK R:=bv Ys▸h
theorem zol(h:R (k6 (a != b))):oIsN (k6 a) (k6 b) R:=bv Za▸h
theorem ztp(h:R (k6 (!isNone u))):oIsN u oK R:=bv Zb▸h
theorem zz9(h:(Okd u/\(∀t∈xs,Okd t)/\R (k6 (xs.any λt=>t.eqv u)))):oIn u (tE xs) R:=bv Yr▸h
theorem zqB(h:(Okd u/\(∀t∈xs,Okd t)/\R (k6 (!xs.any λt=>t.eqv u)))):Z0 u (fX xs) R:=bv Zn▸h
theorem zz3(h:R (k6 (decide (i<j)))):oLtA (b5 i) (b5 j) R:=bv Yu▸h
theorem zz5(h:R (k6 (decide (i<=j)))):oLeA (b5 i) (b5 j) R:=bv Yt▸h
theorem zwv(h:R u):oIx (fX (u::xs)) (b5 0) R:=bv YQ▸h
theorem zwu(h:R v):oIx (fX (u::v::xs)) (b5 1) R:=bv YR▸h
theorem zwt(h:R w):oIx (fX (u::v::w::xs)) (b5 2) R:=bv YS▸h
theorem zok(h:R u):oIx (tE (u::xs)) (b5 0) R:=bv YN▸h
theorem zrG(h:R v):oIx (tE (u::v::xs)) (b5 1) R:=bv YO▸h
theorem zwl(h:Rb a):truD (k6 a) Rb:=bv YU▸h
theorem zwk(h:Rb (decide (i≠0))):truD (b5 i) Rb:=bv YV▸h
theorem zwi(h:(kN s<=16777216/\Rb (decide (kN s≠0)))):truD (eN s) Rb:=bv YX▸h
theorem zwj(h:Rb (!(dy xs))):truD (tE xs) Rb:=bv YW▸h
theorem zwh(h:Rb (!(dy xs))):truD (fX xs) Rb:=bv YY▸h
theorem zAc(h:Rb a):bolD (k6 a) Rb:=bv Yc▸h
theorem zws(h:R (b5 (dP xs))):bLen [tE xs] R:=fj ⟨xs,rfl,h⟩
theorem zwq(h:R (b5 (dP xs))):bLen [fX xs] R:=xw (fj ⟨xs,rfl,h⟩)
theorem zwr(h:(kN s<=16777216/\R (b5 (kN s)))):bLen [eN s] R:=xw (xw (fj ⟨s,rfl,h⟩))
theorem zqC(h:R (b5 (dP ns))):bLen [SCR ns] R:=xw (xw (xw ⟨_,rfl,by rw[aI];exact h⟩))
theorem zz1(h:R (b5 (if j<i then j else i))):bMin [b5 i,b5 j] R:=bv Yw▸h
theorem zz2(h:R (b5 (if j > i then j else i))):bMax [b5 i,b5 j] R:=bv Yv▸h
theorem zAe(h:R (b5 (if i<0 then -i else i))):bAbs [b5 i] R:=bv Yb▸h
theorem zwz(h:R (b5 (if a then 1 else 0))):bInt [k6 a] R:=bv YM▸h
theorem zqA(h:R (fX xs)):V8 [tE xs] R:=bv Zo▸h
theorem zwn(h:(Shd u/\R (eN u.shown))):ZA [u] R:=bv YT▸h
theorem zto(h:Rl xs):JU (tE xs) Rl:=bv Zc▸h
theorem zqD(h:Rl xs):JU (fX xs) Rl:=bv Zm▸h
theorem zz4(h:Q xs):lLst (tE xs) Q:=h
theorem zzP(h:Q xs):lTup (fX xs) Q:=h
theorem zz8(h:Q i):lInt (b5 i) Q:=h
theorem zwo(h:Q x y):ZB [x,y] Q:=h
theorem zzZ(c:CMul i j)(h:R (b5 (i*j))):oMul (b5 i) (b5 j) R:=⟨c,h⟩
theorem zz0(c:0<j)(h:R (b5 (i % j))):oMod (b5 i) (b5 j) R:=⟨c,h⟩
theorem zwA(c:Zw i j)(h:R (b5 (i / j))):Uo (b5 i) (b5 j) R:=⟨c,h⟩
theorem zzT(c:CPow i j)(h:R (b5 (i*2 ^ mu j))):oShl (b5 i) (b5 j) R:=⟨c,h⟩
theorem zzS(c:0<=j)(h:R (b5 (i / 2 ^ mu j))):oShr (b5 i) (b5 j) R:=⟨c,h⟩
theorem zzQ(h:R (b5 (i - j))):oSub (b5 i) (b5 j) R:=h
theorem zzO(h:R (b5 (cP i j))):oXor (b5 i) (b5 j) R:=h
theorem zAd(h:R (b5 (fD i j))):oAnd (b5 i) (b5 j) R:=h
theorem j_gB(h:R (k6 (fb i j))):gB fb (b5 i) (b5 j) R:=h
theorem zkb(h:R (k6 bj)):lIsi isInt (b5 i) R:=⟨UC,h⟩
theorem zi1(h:R (k6 bj)):lIsi isInt (k6 a) R:=⟨UI,h⟩
theorem zka(h:R (k6 bA)):lIsi isInt (eN s) R:=⟨UD,h⟩
theorem zhB(h:R (k6 bA)):lIsi isInt (fX xs) R:=⟨U2,h⟩
theorem ziZ(h:R (k6 bA)):lIsi isInt (tE xs) R:=⟨UX,h⟩
theorem ziY(h:R (k6 bA)):lIsi isInt (oK) R:=⟨UY,h⟩
theorem zi0(h:R (k6 bA)):lIsi isInt (tD []) R:=⟨UW,h⟩
theorem zi2(h:R (k6 bA)):lIsi isBool (b5 i) R:=⟨UC,h⟩
theorem zhC(h:R (k6 bj)):lIsi isBool (k6 a) R:=⟨UI,h⟩
theorem zj9(h:R (k6 bA)):lIsi isTup (b5 i) R:=⟨UC,h⟩
theorem ziX(h:R (k6 bA)):lIsi isTup (k6 a) R:=⟨UI,h⟩
theorem zj8(h:R (k6 bA)):lIsi isTup (eN s) R:=⟨UD,h⟩
theorem zhA(h:R (k6 bj)):lIsi isTup (fX xs) R:=⟨U2,h⟩
theorem ziV(h:R (k6 bA)):lIsi isTup (tE xs) R:=⟨UX,h⟩
theorem ziU(h:R (k6 bA)):lIsi isTup (oK) R:=⟨UY,h⟩
theorem ziW(h:R (k6 bA)):lIsi isTup (tD []) R:=⟨UW,h⟩
theorem zj_(h:R (k6 bj)):lIsi isStr (eN s) R:=⟨UD,h⟩
end
theorem Yp{h:Int}(h0:0<h):(2:Int) ^ mu h=2*2 ^ mu (h - 1):=by
 have e:mu h=mu (h - 1)+1:=by lia
 rw[e,bH,b7]
theorem zvi{h:Int}(h0:0<=h):(2:Int) ^ mu (h+1)=2*2 ^ mu h:=by have:=Yp (h:=h+1) (by lia);rw[this];simp
theorem IsBk.low{bits i h:Int}(B:IsBk bits i h)(l:0<h):IsBk bits i (h - 1):=by
 obtain⟨h0,x,k,u,rfl,v⟩:=B;refine⟨by lia,by lia,2*k,by lia,?_,?_⟩;rw[Yp l,<- cj,b7 k 2];have e:mu (bits - (h - 1))=mu (bits - h)+1:=by lia
 rw[e,bH];lia
theorem IsBk.up{bits i h:Int}(B:IsBk bits i h)(l:0<h):IsBk bits (i+2 ^ mu h / 2) (h - 1):=by
 obtain⟨h0,x,k,u,rfl,v⟩:=B;refine⟨by lia,by lia,2*k+1,by lia,?_,?_⟩;rw[Yp l];have:2*(2:Int) ^ mu (h - 1) / 2=2 ^ mu (h - 1):=by lia
 rw[this,cS,cT,<- cj,b7 k 2];have e:mu (bits - (h - 1))=mu (bits - h)+1:=by lia
 rw[e,bH];lia
theorem zqs(P:Int)(l:0<P):k*P % (2*P)=(k % 2)*P:=by rw[b7 2 P,b7 k P,Int.mul_emod_mul_of_pos _ _ l,b7]
theorem IsBk.abt{bits i h:Int}(B:IsBk bits i h)(x:h<bits):IsBk bits (i - i % (2*2 ^ mu h)) (h+1):=by
 obtain⟨h0,v,k,u,rfl,l⟩:=B;refine⟨by lia,by lia,k / 2,by lia,?_,?_⟩;rw[zqs _ (VB _),zvi h0,<- yW];have:k - k % 2=k / 2*2:=by lia
 rw[this,cj];have e:mu (bits - h)=mu (bits - (h+1))+1:=by lia
 rw[e,bH]at l;lia
theorem IsBk.oth(B:IsBk bits i h)(x:h<bits):IsBk bits (cP i (2 ^ mu h)) h:=by
 obtain⟨h0,l,k,u,rfl,v⟩:=B;rw[zks _ u];have e:mu (bits - h)=mu (bits - (h+1))+1:=by lia
 split;refine⟨h0,l,k+1,by lia,by rw[cS,cT],?_⟩;rw[e,bH]at v ⊢;lia;refine⟨h0,l,k - 1,by lia,by rw[yW,cT],by lia⟩
theorem IsBk.nxt(B:IsBk bits i h)(l:i+2*2 ^ mu h<=2 ^ mu bits):IsBk bits (i+2 ^ mu h) h:=by
 obtain⟨h0,u,k,v,rfl,x⟩:=B;refine⟨h0,u,k+1,by lia,by rw[cS,cT],?_⟩;have e:mu bits=mu (bits - h)+mu h:=by lia
 rw[e,zkN]at l;have p:=VB (mu h);have:(k+2)*2 ^ mu h<=2 ^ mu (bits - h)*2 ^ mu h:=by rw[cS];exact l
 have:=Int.le_of_mul_le_mul_right this p;lia
theorem zAw:CMul 2 j:=fj ⟨by decide,by decide⟩
theorem zxG:Zw j 2:=⟨by decide,by decide⟩
theorem QA(h:Nat):(1:Int)*2 ^ h=2 ^ h:=cT _
def BlkN(bits i:Int)(h:Nat):Prop:=(h:Int)<=bits/\∃k:Int,0<=k/\i=k*2 ^ h/\k<2 ^ (mu bits - h)
theorem IsBk.n(B:IsBk bits i h):BlkN bits i (mu h):=by
 obtain⟨h0,v,k,u,e,l⟩:=B;refine⟨by lia,k,u,e,?_⟩;have:mu (bits - h)=mu bits - mu h:=by lia
 rw[<- this];exact l
theorem zpk(b:BlkN bits j g)(l:g<=h):j / 2 ^ h*2 ^ h<=j/\j+2 ^ g<=(j / 2 ^ h+1)*2 ^ h:=by
 obtain⟨_,m,m0,rfl,_⟩:=b;have C:=Bd.JT h;have u:=Bd.JT g;have v:=Bd.JT (h - g);have o:(2:Int) ^ h=2 ^ (h - g)*2 ^ g:=by rw[<- h8];congr 1;lia
 refine⟨Int.ediv_mul_le _ (by lia),?_⟩;have eq:(m*2 ^ g) / 2 ^ h=m / 2 ^ (h - g):=by rw[o];exact Int.mul_ediv_mul_of_pos_left m _ u
 rw[eq,o,<- cj];have x:m*2 ^ g+2 ^ g=(m+1)*2 ^ g:=by rw[cS,cT]
 rw[x];refine bz ?_ (by lia);have:=Int.lt_ediv_add_one_mul_self m v;lia
theorem zkT{a b A:Int}(p:0<A)(l:a<b):(a+1)*A<=b*A:=bz (by lia) (by lia)
theorem zkd(v:BlkN bits i h)(x:BlkN bits j g):(g<=h/\j / 2 ^ h*2 ^ h=i)↔(i<=j/\j+2 ^ g<=i+2 ^ h):=by
 have o:=Bd.JT h;have C:=Bd.JT g;constructor;rintro⟨l,e⟩;have t:=zpk x l;rw[e,cS,cT,e]at t;exact t;rintro⟨u,l2⟩;have l:g<=h:=by
  by_cases z:g<=h;exact z;exfalso;have:(2:Int) ^ h<2 ^ g:=by
   have e:(2:Int) ^ g=2 ^ (g - h)*2 ^ h:=by rw[<- h8];congr 1;lia
   have p2:(2:Int)<=2 ^ (g - h):=by obtain⟨d,hd⟩:∃d,g - h=d+1:=⟨g - h - 1,by lia⟩;rw[hd,bH];have:=Bd.JT d;lia
   rw[e];have:=bz p2 (show(0:Int)<=2 ^ h by lia);lia
  lia
 refine⟨l,?_⟩;obtain⟨_,k,G,rfl,_⟩:=v;have e:j / 2 ^ h=k:=by have a1:k<=j / 2 ^ h:=(nM o).mpr u;have a2:j / 2 ^ h<k+1:=(nN o).mpr (by rw[cS,cT];lia);lia
 rw[e]
theorem zjq{bits i j:Int}{h g:Nat}(u:BlkN bits i h)(v:BlkN bits j g)(l:g<=h):(g<=h/\j / 2 ^ h*2 ^ h=i)\/j+2 ^ g<=i\/i+2 ^ h<=j:=by have o:=Bd.JT h;have t:=zpk v l;obtain⟨_,k,x,rfl,_⟩:=u;rcases ko (j / 2 ^ h) k with z|z|z;have:=zkT o z;exact xw (fj (by lia));exact fj ⟨l,by rw[z]⟩;have:=zkT o z;rw[cS,cT]at this;exact xw (xw (by lia))
def hldD(i h j g:Int):Bool:=decide (g<=h)&&decide (j / 2 ^ mu h*2 ^ mu h=i)
theorem zrM(A:IsBk bits i h)(B:IsBk bits j g):hldD i h j g=decide (i<=j/\j+2 ^ mu g<=i+2 ^ mu h):=by have:=zkd A.n B.n;unfold hldD;rw[<- Bool.decide_and];refine decide_eq_decide.mpr ⟨λz=>this.mp ⟨by have:=A.1;have:=B.1;omega,z.2⟩,λz=>?_⟩;obtain⟨l,e⟩:=this.mpr z;exact⟨by have:=A.1;have:=B.1;omega,e⟩
theorem zoB(Inv:Nat->En->Nat->Prop):∀(ts:qD) (i:Nat) {o:En}{n:Nat},Inv i o n ->
  (∀(k:Nat) (t:ae) (o:En) (n:Nat) (K:En->Nat->Prop),ts[k]?=ai t->Inv (i+k) o n->(∀v x,Inv (i+k+1) v x->K v x)->g t o λv=>tb { D with nx:=K,ct:=K,bk:=D.nx } v n) ->
  (∀o n,Inv (i+dP ts) o n->D.nx o n)->forP g tb D ts o n
 | [],i,o,n,h0,_,fin=>fin o n (by simpa using h0)
 | t::ts,i,o,n,h0,turn,fin=>by
  refine turn 0 t o n _ rfl (by simpa using h0) λv x h'=>?_;refine zoB Inv ts (i+1) (by simpa using h') (λk u o n K e C G=>?_) (λo n h=>fin o n ?_);refine turn (k+1) u o n K (by simpa using e) ?_ λv x h'=>G v x ?_;have:i+(k+1)=i+1+k:=by lia
  rw[this];exact C;have:i+1+k+1=i+(k+1)+1:=by lia
  rw[this];exact h';have:i+dP (t::ts)=i+1+dP ts:=by simp;lia
  rw[this]at *;exact h
theorem Uh(Inv:Nat->En->Nat->Prop)(h0:Inv 0 o n)
  (turn:∀(k:Nat) (t:ae) (o:En) (n:Nat) (K:En->Nat->Prop),ts[k]?=ai t->Inv k o n->(∀l u,Inv (k+1) l u->K l u)->g t o λl=>tb { D with nx:=K,ct:=K,bk:=D.nx } l n)
  (fin:∀o n,Inv (dP ts) o n->D.nx o n):forP g tb D ts o n:=by
 refine zoB Inv ts 0 h0 (λk t o n K e v x=>turn k t o n K e (by simpa using v) λl u h'=>x l u (by simpa using h')) λo n h=>fin o n (by simpa using h)
theorem WQ{lo:Int}{m i:Nat}{t:ae}(h:(Qy lo m)[i]?=ai t):i<m/\t=b5 (lo+(i:Int)):=by unfold Qy at h;rw[aT]at h;by_cases hi:i<m;rw[pJ hi]at h;cases h;exact⟨hi,rfl⟩;rw[bV (by simp;lia)]at h;cases h
theorem zgu{lo:Int}{m:Nat}:dP (Qy lo m)=m:=by simp[Qy]
theorem zhQ(Inv:Nat->En->Nat->Prop)(h0:Inv m o n)
  (turn:∀m o n,Inv m o n->c o n λb x=>if b=bj then tb { D with nx:=λl v=>∃u,u<m/\Inv u l v,ct:=λl v=>∃u,u<m/\Inv u l v,bk:=D.nx } o x else D.nx o x):zng c tb D o n :=
 ⟨Inv,⟨m,h0⟩,turn⟩
structure Sm(w k:Nat)(d:ae):Prop where
 ls:d.leavesShort 41=true
 sh:d.showable=true
 cl:d.canLay0=true
 dp:d.depth<=k
 wt:d.weight<=w
theorem Sm.shd(h:Sm w k d)(hw:w<=380000)(l:k<=60):Shd d:=by refine⟨h.sh,bL _ h.cl,bu h.dp l,?_⟩;have:=PyData.shown_le 41 (by decide) d h.ls;have:=h.wt;lia
theorem zuE(h:i.natAbs<10 ^ 40):Sm 140 0 (b5 i):=by
 have v:i.natAbs<2 ^ 139:=aP h (by decide);have o:i.natAbs≠0->i.natAbs.log2<139:=λz=>(yR z).mpr v;refine⟨?_,?_,by simp[bR],by simp[dI],?_⟩;have e:=int_text_length_le10 (k:=40) (by decide) h;have u:kN (km (b5 i))<=41:=by show(ar (toString i)).length<=41;rw[PySem.ofString_length];exact e
 simp only[PyData.leavesShort];exact decide_eq_true u;simp only[tM,decide_eq_true_eq];by_cases z:i.natAbs=0;rw[z];decide;have:=o z;lia;simp only[PyData.weight];split;lia;rename_i z;have:i.natAbs≠0:=λy=>z (by simp;lia);have:=o this;lia
theorem IsBk.x1(B:IsBk bits i h)(l:0<h):cP i (2 ^ mu (h - 1))=i+2 ^ mu h / 2:=by
 obtain⟨h0,x,k,u,rfl,v⟩:=B;have e:k*2 ^ mu h=(2*k)*2 ^ mu (h - 1):=by rw[Yp l,<- cj,b7 k 2]
 rw[e,zks _ (by lia),if_pos (by lia),Yp l];lia
theorem IsBk.x3(B:IsBk bits i h)(l:0<h):cP i (2 ^ mu (h - 1)) / 2 ^ mu h*2 ^ mu h=i:=by
 rw[B.x1 l];obtain⟨h0,x,k,u,rfl,v⟩:=B;have p:=VB (mu h);have p2:=VB (mu (h - 1));have e:=Yp l;have:(k*2 ^ mu h+2 ^ mu h / 2) / 2 ^ mu h=k:=by rw[xl,Int.add_mul_ediv_right _ _ (by lia)];have:(2:Int) ^ mu h / 2 / 2 ^ mu h=0:=Int.ediv_eq_zero_of_lt (by lia) (by lia);lia
 rw[this]
theorem ztw(I:ρ[0]?=ai (ai (.val (SCR ns))))(L:ρ[j]?=ai (ai (.val (b5 k))))(G:dP ns<=63)(N:0<=k)(C:k<=100)(J:JO ρ=ρd)
  (h:u { nx:=λx _=>D.nx (JO x) n,rt:=λt _=>∃b,t=k6 b/\D.rt t n,bk:=λx _=>D.bk (JO x) n,ct:=λx _=>D.ct (JO x) n } (cr (cr ρd j (ai (.val (b5 k)))) i (ai (.val HAND))) 0):Yh i j u D ρ n:=by
 subst J;unfold Yh;rw[I,L];exact⟨⟨ns,rfl,G⟩,N,C,h⟩
def rkAt(rk:ah->Int)(xs:Array pV)(i:Nat):Int:=((xs[i]?).map λp=>rk p.1).getD 0
theorem Vg(h:xs[i]?=ys[j]?):rkAt rk xs i=rkAt rk ys j:=by unfold rkAt;rw[h]
theorem zrq(o:u<ap xs)(hd:d<=u)(k:Nat) :
  (k=u - d->rkAt rk (bubble xs u d) k=rkAt rk xs u)/\(u - d<k->k<=u->rkAt rk (bubble xs u d) k=rkAt rk xs (k - 1))/\(k<u - d\/u<k->rkAt rk (bubble xs u d) k=rkAt rk xs k):=by
 have e:=getElem?_bubble o d hd k;refine⟨λh=>?_,λv l=>?_,λh=>?_⟩;rw[if_pos h]at e;exact Vg e;rw[if_neg (by lia),if_pos ⟨v,l⟩]at e;exact Vg e;rw[if_neg (by lia),if_neg (by lia)]at e;exact Vg e
theorem znn(o:j<=ap xs)(k:Nat) :
  (i<=k->k<j->rkAt rk (mirror xs i j ((j - i) / 2)) k=rkAt rk xs (i+j - 1 - k))/\(k<i\/j<=k->rkAt rk (mirror xs i j ((j - i) / 2)) k=rkAt rk xs k):=by
 have e:=getElem?_mirror_all (i:=i) o k;refine⟨λu l=>?_,λh=>?_⟩;rw[if_pos ⟨u,l⟩]at e;exact Vg e;rw[if_neg (by lia)]at e;exact Vg e
structure Sb(kd:k7)(a0:Array pV)(z:lX):Prop where
 pm:(arrOf z).Perm a0
 kn:kindOf z=kd
 fl:failedOf z=ao
 pe:pendingOf z=#[]
def Up(rk:ah->Int)(xs:Array pV)(m:Nat):Prop:=∀i j,i<j->j<m->rkAt rk xs i<=rkAt rk xs j
def Dn(rk:ah->Int)(xs:Array pV)(m:Nat):Prop:=∀i j,i<j->j<m->rkAt rk xs j<=rkAt rk xs i
section
variable{prog:aL}{w:aV}{A:bq}{E:qV}{s:au}{kd:k7}{rk:ah->Int}{a0:Array pV}
def Cmp(prog:aL)(w:aV)(A:bq)(s:au)(kd:k7)(rk:ah->Int)(a0:Array pV):Prop :=
 ∀(p q:pV) (E:qV) (Q:Bool->au->Prop),p∈w9 a0->q∈w9 a0->Q (decide (rk p.1<rk q.1)) s->wpAny (model prog w) A (keyLt' kd p.1 q.1) Q E s
theorem Sb.sz(b:Sb kd a0 z):ap (arrOf z)=ap a0:=b.pm.size_eq
theorem Sb.arr(b:Sb kd a0 z)(h:xs.Perm (arrOf z)):Sb kd a0 (setArr z xs):=⟨h.trans b.pm,b.kn,b.fl,b.pe⟩
theorem ask(c:Cmp prog w A s kd rk a0)(b:Sb kd a0 z)(hi:i<ap a0)(C:j<ap a0)
  (h:Q (ai (decide (rkAt rk (arrOf z) i<rkAt rk (arrOf z) j))) z):wpS (model prog w) A E s (ltAt' i j) Q z:=by
 have mem:∀k,k<ap a0->∃p,(arrOf z)[k]?=ai p/\p∈w9 a0:=λk G=>by
  have l:k<ap (arrOf z):=by rw[b.sz];exact G
  exact⟨(arrOf z)[k],bZ l,(lY.mp b.pm).mem_iff.mp (by simp)⟩
 obtain⟨p,ep,mp⟩:=mem i hi;obtain⟨q,eq,v⟩:=mem j C;have o:rkAt rk (arrOf z) i=rk p.1:=by unfold rkAt;rw[ep];rfl
 have u:rkAt rk (arrOf z) j=rk q.1:=by unfold rkAt;rw[eq];rfl
 rw[o,u]at h;rw[ltAt'_eq];refine bE (lH ?_);show wpS (model prog w) A E s (elem' (arrOf z) i >>= λx=>elem' (arrOf z) j >>= λy=>lt' x y) Q z;simp only[elem'_eq,ep,eq,pure_bind];rw[lt'_eq];refine bE (lH (bE (uz (gf ?_))));rw[b.kn];exact c p q _ _ mp v ⟨rfl,cG h⟩
theorem zr7(c:Cmp prog w A s kd rk a0)(hn:n<=ap a0)(hok:ok<=n)(b:Sb kd a0 z)(up:Up rk (arrOf z) ok)
  (h:∀y,Sb kd a0 y->Up rk (arrOf y) n->Q bj y):wpS (model prog w) A E s (binarySort' 0 n ok) Q z:=by
 rw[binarySort'_eq];simp only[eS];refine bE (oO (gG (Q:=λc y=>c=(ao,())/\Sb kd a0 y/\Up rk (arrOf y) n) (I:=λk c y=>c=(ao,())/\Sb kd a0 y/\Up rk (arrOf y) (min k n)) ?turn ?last ⟨rfl,b,λi j U h2=>up i j U (by lia)⟩) ?post)
 case post =>rintro _ y ⟨rfl,C,u⟩;exact cG (h y C u)
 case last =>rintro _ y ⟨rfl,C,u⟩;exact⟨rfl,C,by rwa [show min (max (max ok 1) n) n=n by lia]at u⟩
 case turn =>
  rintro k _ y k1 k2 ⟨rfl,C,u⟩;rw[show min k n=k by lia]at u;refine bE (oO (gG (Q:=λc S=>S=y/\∃l r,c=(ao,l,r)/\l<=k/\(∀i,i<l->rkAt rk (arrOf y) i<=rkAt rk (arrOf y) k)/\∀i,l<=i->i<k->rkAt rk (arrOf y) k<rkAt rk (arrOf y) i)
   (I:=λx c S=>S=y/\∃l r,c=(ao,l,r)/\l<=r/\r<=k/\r - l+x<=k/\(∀i,i<l->rkAt rk (arrOf y) i<=rkAt rk (arrOf y) k)/\∀i,r<=i->i<k->rkAt rk (arrOf y) k<rkAt rk (arrOf y) i) ?t2 ?l2 ⟨rfl,0,k,rfl,by lia,by lia,by lia,λi hi=>by lia,λi R J=>by lia⟩) ?p2)
  case l2 =>rintro _ v ⟨e,l,r,rfl,q1,Y,q3,G,L⟩;subst e;exact⟨rfl,l,r,rfl,by lia,G,λi R J=>L i (by lia) J⟩
  case t2 =>
   rintro x _ v _ _ ⟨e,l,r,rfl,q1,Y,q3,G,L⟩;subst e;by_cases ge:r<=l;simp only[ge_iff_le,ge,if_true];exact cG ⟨rfl,l,r,rfl,by lia,G,λi R J=>L i (by lia) J⟩;simp only[ge_iff_le,ge,if_false];refine bE (ask c C (by lia) (by lia) ?_);by_cases le:rkAt rk (arrOf v) k<rkAt rk (arrOf v) ((l+r) / 2);simp only[le,decide_true,if_true];refine cG ⟨rfl,l,(l+r) / 2,rfl,by lia,by lia,by lia,G,λi R J=>?_⟩;rcases bM ((l+r) / 2) i with g|g;have:=u _ _ g J;lia;have:i=(l+r) / 2:=by lia
   rw[this];exact le;simp only[le,decide_false,aJ,if_false];refine cG ⟨rfl,(l+r) / 2+1,r,rfl,by lia,by lia,by lia,λi R=>?_,L⟩;rcases bM i ((l+r) / 2) with g|g;have:=u _ _ g (by lia);lia;have:i=(l+r) / 2:=by lia
   rw[this];lia
  case p2 =>
   rintro _ v ⟨e,l,r,rfl,Y,G,L⟩;subst e;show wpS (model prog w) A E s (moveDown' k l >>= λ_=>pure (iT (ao,()))) _ v;rw[moveDown'_eq];have hk:k<ap (arrOf v):=by rw[C.sz];lia
   refine bE (nP (cG ⟨rfl,C.arr (bubble_perm _ _ _),λi j U h2=>?_⟩));show rkAt rk (bubble (arrOf v) k (k - l)) i<=rkAt rk (bubble (arrOf v) k (k - l)) j;have hj:j<=k:=by lia
   obtain⟨a1,a2,N⟩:=zrq (rk:=rk) hk (show k - l<=k by lia) i;obtain⟨b1,b2,Z⟩:=zrq (rk:=rk) hk (show k - l<=k by lia) j;have el:k - (k - l)=l:=by lia
   rw[el]at a1 a2 N b1 b2 Z;rcases cC j l with jl|jl|jl;rw[N (by lia),Z (by lia)];exact u i j U (by lia);rw[N (by lia),b1 jl];exact G i (by lia);rw[b2 jl hj];rcases cC i l with il|il|il;rw[N (by lia)];rcases bM i (j - 1) with g|g;exact u i (j - 1) g (by lia);exact absurd g (by lia);rw[a1 il];exact eT (L (j - 1) (by lia) (by lia));rw[a2 il (by lia)];rcases bM (i - 1) (j - 1) with g|g;exact u _ _ g (by lia);exact absurd g (by lia)
theorem zpo(c:Cmp prog w A s kd rk a0)(J:m<=ap a0)(a1:1<=a)(l:a<=m)(b:Sb kd a0 z)(up:Up rk (arrOf z) a)
  (h:∀n,a<=n->n<=m->Up rk (arrOf z) n->(n<m->rkAt rk (arrOf z) n<rkAt rk (arrOf z) (n - 1))->Q (ao,n) z):wpS (model prog w) A E s (ascLoop a m) Q z:=by
 unfold ascLoop;refine gG (I:=λx c y=>y=z/\c=(ao,x)/\Up rk (arrOf z) x) (λx _ y x1 G I=>?_) (λ_ y I=>?_) ⟨rfl,rfl,up⟩;obtain⟨e,rfl,u⟩:=I;subst e;refine bE (ask c b (by lia) (by lia) ?_);by_cases g:rkAt rk (arrOf y) x<rkAt rk (arrOf y) (x - 1);simp only[g,decide_true,if_true];exact cG (h x x1 (by lia) u λ_=>g);simp only[g,decide_false,aJ,if_false];refine cG ⟨rfl,rfl,λi j v C=>?_⟩;rcases bM j x with jx|jx;exact u i j v jx;have o:j=x:=by lia
 subst o;rcases bM i (j - 1) with ij|ij;have:=u i (j - 1) ij (by lia);lia;have:i=j - 1:=by lia
 rw[this];lia;obtain⟨e,rfl,u⟩:=I;subst e;rw[show max a m=m by lia]at u ⊢;exact h m l (av _) u λg=>absurd g (by lia)
theorem zmV(c:Cmp prog w A s kd rk a0)(x:m<=ap a0)(C:1<=n)(nm:n<=m)(b:Sb kd a0 z)(v:Dn rk (arrOf z) n)
  (h:∀k y,Sb kd a0 y->1<=k->k<=m->Up rk (arrOf y) k->Q (ai k) y):wpS (model prog w) A E s (tail3 n m) Q z:=by
 unfold tail3;have hz:n<=ap (arrOf z):=by rw[b.sz];omega
 refine bE (oP (bE ?_));have l:=b.arr (oQ (arrOf z) 0 n ((n - 0) / 2));refine zpo c x C nm l (λi j I o=>?_) λk J G u _=>cG (h k _ l (by omega) G u);show rkAt rk (mirror (arrOf z) 0 n ((n - 0) / 2)) i<=rkAt rk (mirror (arrOf z) 0 n ((n - 0) / 2)) j;rw[(znn (rk:=rk) hz i).1 (by omega) (by omega),(znn (rk:=rk) hz j).1 (by omega) o];exact v _ _ (by omega) (by omega)
theorem VA(l:j<=ap xs)(al:∀k,i<=k->k<j->rkAt rk xs k=rkAt rk xs (j - 1))(k:Nat):rkAt rk (mirror xs i j ((j - i) / 2)) k=rkAt rk xs k:=by obtain⟨p,q⟩:=znn (rk:=rk) (i:=i) l k;by_cases g:i<=k/\k<j;rw[p g.1 g.2,al _ (by omega) (by omega),al k g.1 g.2];exact q (by omega)
theorem ztV(c:Cmp prog w A s kd rk a0)(S:m<=ap a0)(U:1<=n)(nm:n<=m)(b:Sb kd a0 z)(N:Dn rk (arrOf z) n)
  (h:∀k e y,Sb kd a0 y->n<=k->k<=m->Dn rk (arrOf y) k->e<k->(∀i,k - (e+1)<=i->i<k->rkAt rk (arrOf y) i=rkAt rk (arrOf y) (k - 1))->Q (ao,k,e) y) :
  wpS (model prog w) A E s (descLoop n m) Q z:=by
 unfold descLoop;refine gG (I:=λx c y=>∃e,c=(ao,x,e)/\Sb kd a0 y/\Dn rk (arrOf y) x/\e<x/\∀i,x - (e+1)<=i->i<x->rkAt rk (arrOf y) i=rkAt rk (arrOf y) (x - 1)) (λx _ y x1 R I=>?_) (λ_ y I=>?_)
  ⟨0,rfl,b,N,by lia,λi C G=>by rw[show i=n - 1 by lia]⟩
 obtain⟨e,rfl,l,d,ex,al⟩:=I;have xz:x<=ap (arrOf y):=by rw[l.sz];lia
 refine bE (ask c l (show x<ap a0 by lia) (show x - 1<ap a0 by lia) ?_);by_cases g:rkAt rk (arrOf y) x<rkAt rk (arrOf y) (x - 1);simp only[g,decide_true,if_true];have J:∀xs:Array pV,(∀k,rkAt rk xs k=rkAt rk (arrOf y) k)->Dn rk xs (x+1):=λxs hx i j u L=>by
  rw[hx,hx];rcases bM j x with jx|jx;exact d i j u jx;have o:j=x:=by lia
  subst o;rcases bM i (j - 1) with ij|ij;have:=d i (j - 1) ij (by lia);lia;have:i=j - 1:=by lia
  rw[this];lia
 have one:∀xs:Array pV,∀i,x+1 - (0+1)<=i->i<x+1->rkAt rk xs i=rkAt rk xs (x+1 - 1):=λxs i C G=>by rw[show i=x+1 - 1 by lia]
 by_cases e0:e > 0;simp only[e0,if_true];exact bE (oP (cG ⟨0,rfl,l.arr (oQ _ _ _ _),J _ (VA xz al),by lia,one _⟩));simp only[e0,if_false];exact cG ⟨0,rfl,l,J _ (λ_=>rfl),by lia,one _⟩;simp only[g,decide_false,aJ,if_false];refine bE (ask c l (show x - 1<ap a0 by lia) (show x<ap a0 by lia) ?_);by_cases g2:rkAt rk (arrOf y) (x - 1)<rkAt rk (arrOf y) x;simp only[g2,decide_true,if_true];exact cG (h x e y l x1 (by lia) d ex al);simp only[g2,decide_false,aJ,if_false];have v:rkAt rk (arrOf y) x=rkAt rk (arrOf y) (x - 1):=by lia
 refine cG ⟨e+1,rfl,l,λi j u L=>?_,by lia,λi C G=>?_⟩;rcases bM j x with jx|jx;exact d i j u jx;have o:j=x:=by lia
 subst o;rcases bM i (j - 1) with ij|ij;have:=d i (j - 1) ij (by lia);lia;have:i=j - 1:=by lia
 rw[this];lia;rw[show x+1 - 1=x by lia];rcases bM i x with ix|ix;rw[al i (by lia) ix,v];rw[show i=x by lia];obtain⟨e,rfl,l,d,ex,al⟩:=I;rw[show max n m=m by lia]at *;exact h m e y l nm (av _) d ex al
theorem znK(c:Cmp prog w A s kd rk a0)(o:m<=ap a0)(nm:n+1<=m)(b:Sb kd a0 z)(C:Dn rk (arrOf z) (n+1))
  (h:∀k y,Sb kd a0 y->1<=k->k<=m->Up rk (arrOf y) k->Q (ai k) y):wpS (model prog w) A E s (descPart n m) Q z:=by
 unfold descPart;refine bE (uz (dh ⟨rfl,bE ?_⟩));refine ztV c o (by lia) nm b C λk e y l I v d J al=>?_;have u:k<=ap (arrOf y):=by rw[l.sz];lia
 by_cases e0:e > 0;simp only[e0,if_true];refine bE (oP (zmV c o (by lia) v (l.arr (oQ _ _ _ _)) (λi j G x=>?_) h));show rkAt rk (mirror (arrOf y) (k - (e+1)) k ((k - (k - (e+1))) / 2)) j<=rkAt rk (mirror (arrOf y) (k - (e+1)) k ((k - (k - (e+1))) / 2)) i;rw[VA u al,VA u al];exact d i j G x;simp only[e0,if_false];exact zmV c o (by lia) v l d h
theorem zu2(c:Cmp prog w A s kd rk a0)(x:m<=ap a0)(G:1<=m)(b:Sb kd a0 z)
  (h:∀k y,Sb kd a0 y->1<=k->k<=m->Up rk (arrOf y) k->Q (ai k) y):wpS (model prog w) A E s (countRun' 0 m) Q z:=by
 rw[countRun0_eq];refine bE (zpo c x (av 1) G b (λi j v C=>absurd v (by lia)) λn L I u lt=>?_);by_cases en:n=m;simp only[en,beq_self_eq_true,if_true];exact cG (h m z b G (av _) (en▸u));have o:(n == m)=bA:=by simpa using en
 simp only[o,aJ,if_false];have l:=lt (by lia);by_cases g:n > 1;simp only[g,if_true];refine bE (ask c b (by lia) (by lia) ?_);by_cases rose:rkAt rk (arrOf z) 0<rkAt rk (arrOf z) (n - 1);simp only[rose,decide_true,if_true];exact cG (h n z b L I u);simp only[rose,decide_false,aJ,if_false];have zn:n<=ap (arrOf z):=by rw[b.sz];lia
 have al:∀k,0<=k->k<n->rkAt rk (arrOf z) k=rkAt rk (arrOf z) (n - 1):=λk _ kn=>by
  have p:rkAt rk (arrOf z) 0<=rkAt rk (arrOf z) k:=by rcases lZ k with k0|k0;rw[k0];exact aN _;exact u 0 k k0 kn
  have q:rkAt rk (arrOf z) k<=rkAt rk (arrOf z) (n - 1):=by rcases bM k (n - 1) with kk|kk;exact u k (n - 1) kk (by lia);rw[show k=n - 1 by lia];exact aN _
  lia
 refine bE (oP (znK c x (by lia) (b.arr (oQ _ _ _ _)) (λi j v C=>?_) h));show rkAt rk (mirror (arrOf z) 0 n ((n - 0) / 2)) j<=rkAt rk (mirror (arrOf z) 0 n ((n - 0) / 2)) i;rw[VA zn al,VA zn al];have N:=al i (by lia) (by lia);rcases bM j n with jn|jn;have:=al j (by lia) jn;lia;rw[show j=n by lia];lia;simp only[g,if_false];have J:n=1:=by lia
 subst J;refine znK c x (by lia) b (λi j v C=>?_) h;rw[show i=0 by lia,show j=1 by lia];exact eT l
theorem zsr(c:Cmp prog w A s kd rk a0)(b:Sb kd a0 z)(s2:2<=ap a0)(s64:ap a0<64)
  (h:∀y,(arrOf y).Perm a0->failedOf y=ao->Up rk (arrOf y) a0.size->Q () y):wpS (model prog w) A E s sortRuns' Q z:=by
 rw[sortRuns'_eq];refine bE (lH ?_);have mr:minRun' a0.size a0.size 0=ap a0:=by
  obtain⟨q,hq⟩:∃q,ap a0=q+1:=⟨ap a0 - 1,by lia⟩;conv=>lhs;rw[hq]
  rw[minRun'_succ,if_pos (by lia)];lia
 simp only[b.sz,mr];refine bE (oO (gG (Q:=λc y=>c=(ao,ap a0)/\(arrOf y).Perm a0/\failedOf y=ao/\pendingOf y=#[(0,ap a0,0)]/\Up rk (arrOf y) a0.size)
  (I:=λx c y=>(x=0/\c=(ao,0)/\Sb kd a0 y)\/(0<x/\c=(ao,ap a0)/\(arrOf y).Perm a0/\failedOf y=ao/\pendingOf y=#[(0,ap a0,0)]/\Up rk (arrOf y) a0.size)) ?turn ?last (fj ⟨rfl,rfl,b⟩)) ?post)
 case last =>rintro _ y (⟨x0,_⟩|⟨_,q⟩);lia;exact q
 case turn =>
  rintro x _ y _ _ (⟨rfl,rfl,J⟩|⟨x1,rfl,q⟩);simp only[ge_iff_le,show ¬ap a0<=0 by lia,if_false,ku,rP,eS];have fin:∀C,Sb kd a0 C->Up rk (arrOf C) a0.size->(arrOf (setPending C ((pendingOf C).push (0,ap a0,0)))).Perm a0/\failedOf (setPending C ((pendingOf C).push (0,ap a0,0)))=ao/\pendingOf (setPending C ((pendingOf C).push (0,ap a0,0)))=#[(0,ap a0,0)]/\Up rk (arrOf (setPending C ((pendingOf C).push (0,ap a0,0)))) a0.size :=
   λC G N=>⟨G.pm,G.fl,by show(pendingOf C).push (0,ap a0,0)=_;rw[G.pe];rfl,N⟩
  refine bE (zu2 c (av _) (by lia) J λk S L k1 k2 U=>?_);by_cases g:k<ap a0;simp only[g,if_true];refine bE (uz (dh ⟨rfl,bE ?_⟩));refine zr7 c (av _) k2 L U λC G N=>?_;simp only[fx,aJ,if_false];refine bE (lH ?_);have R:(pendingOf C).back?=ao:=by rw[G.pe];rfl
  simp only[R];exact bE (nP (cG (xw ⟨by lia,rfl,fin C G N⟩)));simp only[g,if_false];have ek:k=ap a0:=by lia
  subst ek;refine bE (lH ?_);have R:(pendingOf S).back?=ao:=by rw[L.pe];rfl
  simp only[R];exact bE (nP (cG (xw ⟨by lia,rfl,fin S L U⟩)));simp only[ge_iff_le,av,if_true];exact cG ⟨rfl,q⟩
 case post =>rintro _ y ⟨rfl,q1,q2,Z,Y⟩;refine bE (oO (gG (Q:=λc v=>v=y/\c=(ao,())) (I:=λ_ c v=>v=y/\c=(ao,())) (λx _ v _ _ I=>?_) (λ_ _ I=>I) ⟨rfl,rfl⟩) λ_ v I=>?_);obtain⟨e,rfl⟩:=I;subst e;refine bE (lH ?_);simp only[Z,aD,aH,bX,av,if_true];exact cG ⟨rfl,rfl⟩;obtain⟨e,rfl⟩:=I;subst e;exact cG (h v q1 q2 Y)
theorem zu1{z:lX}{m:Nat}{Q:Option Nat->lX->Prop}(c:Cmp prog w A s kd rk a0)(C:m<=ap a0)(o:1<=m)(b:Sb kd a0 z)(up:Up rk (arrOf z) m)
  (h:Q (ai m) z):wpS (model prog w) A E s (countRun' 0 m) Q z:=by
 rw[countRun0_eq];refine bE (zpo c C (av 1) o b (λi j x G=>absurd x (by omega)) λn J I u lt=>?_);have v:n=m:=by rcases bM n m with g|g;have l:=lt g;have:=up (n - 1) n (by omega) g;omega;omega
 simp only[v,beq_self_eq_true,if_true];exact cG h
theorem zsq{z:lX}{Q:Unit->lX->Prop}(c:Cmp prog w A s kd rk a0)(b:Sb kd a0 z)(s2:2<=ap a0)(up:Up rk (arrOf z) a0.size)
  (h:∀y,(arrOf y).Perm a0->failedOf y=ao->Up rk (arrOf y) a0.size->Q () y):wpS (model prog w) A E s sortRuns' Q z:=by
 rw[sortRuns'_eq];refine bE (lH ?_);simp only[b.sz];generalize minRun' a0.size a0.size 0=mr;refine bE (oO (gG (Q:=λc y=>c=(ao,ap a0)/\(arrOf y).Perm a0/\failedOf y=ao/\pendingOf y=#[(0,ap a0,0)]/\Up rk (arrOf y) a0.size)
  (I:=λx c y=>(x=0/\c=(ao,0)/\y=z)\/(0<x/\c=(ao,ap a0)/\(arrOf y).Perm a0/\failedOf y=ao/\pendingOf y=#[(0,ap a0,0)]/\Up rk (arrOf y) a0.size)) ?turn ?last (fj ⟨rfl,rfl,rfl⟩)) ?post)
 case last =>rintro _ y (⟨x0,_⟩|⟨_,q⟩);omega;exact q
 case turn =>
  rintro x _ y _ _ (⟨rfl,rfl,rfl⟩|⟨x1,rfl,q⟩);simp only[ge_iff_le,show ¬ap a0<=0 by omega,if_false,ku,eS];have fin:∀C,Sb kd a0 C->Up rk (arrOf C) a0.size->(arrOf (setPending C ((pendingOf C).push (0,ap a0,0)))).Perm a0/\failedOf (setPending C ((pendingOf C).push (0,ap a0,0)))=ao/\pendingOf (setPending C ((pendingOf C).push (0,ap a0,0)))=#[(0,ap a0,0)]/\Up rk (arrOf (setPending C ((pendingOf C).push (0,ap a0,0)))) a0.size :=
   λC G J=>⟨G.pm,G.fl,by show(pendingOf C).push (0,ap a0,0)=_;rw[G.pe];rfl,J⟩
  refine bE (zu1 c (av _) (by omega) b up ?_);by_cases g:ap a0<mr;simp only[g,if_true,show min a0.size mr=ap a0 by omega];refine bE (uz (dh ⟨rfl,bE ?_⟩));refine zr7 c (av _) (av _) b up λC G J=>?_;simp only[fx,aJ,if_false];refine bE (lH ?_);have L:(pendingOf C).back?=ao:=by rw[G.pe];rfl
  simp only[L];exact bE (nP (cG (xw ⟨by omega,rfl,fin C G J⟩)));simp only[g,if_false];refine bE (lH ?_);have L:(pendingOf y).back?=ao:=by rw[b.pe];rfl
  simp only[L];exact bE (nP (cG (xw ⟨by omega,rfl,fin y b up⟩)));simp only[ge_iff_le,av,if_true];exact cG ⟨rfl,q⟩
 case post =>rintro _ y ⟨rfl,U,S,R,N⟩;refine bE (oO (gG (Q:=λc v=>v=y/\c=(ao,())) (I:=λ_ c v=>v=y/\c=(ao,())) (λx _ v _ _ I=>?_) (λ_ _ I=>I) ⟨rfl,rfl⟩) λ_ v I=>?_);obtain⟨e,rfl⟩:=I;subst e;refine bE (lH ?_);simp only[R,aD,aH,bX,av,if_true];exact cG ⟨rfl,rfl⟩;obtain⟨e,rfl⟩:=I;subst e;exact cG (h v U S N)
end
def SrtL{α:Type}(f:α->Int)(l:List α):Prop:=dP l<100000/\(dP l<64\/l.Pairwise λa b=>f a<=f b)
theorem Zh{α:Type}{f:α->Int}{l:List α}(h:dP l<64):SrtL f l:=⟨by omega,fj h⟩
theorem UO{α:Type}{f:α->Int}{l:List α}(h:SrtL f l):dP l<100000:=h.1
theorem zrl{α:Type}{f:α->Int}{l:List α}(h:l.Pairwise λa b=>f a<=f b)(z:dP l<100000):SrtL f l:=⟨z,xw h⟩
theorem zky{α u:Type}{f:α->Int}{g:u->Int}{l:List α}{m:List u}(h:SrtL f l)(e:l.map f=m.map g):SrtL g m:=by
 have o:dP l=dP m:=by simpa using congrArg dP e
 refine⟨o▸h.1,h.2.imp (λz=>o▸z) λz=>?_⟩;have:=dz.mpr z;rw[e]at this;exact dz.mp this
theorem zpZ{prog:aL}{w:aV}{A:bq}{E:qV}{s:au}{v:k7}{rk:ah->Int}{vs:List ah}{z:lX}{Q:Unit->lX->Prop}(c:Cmp prog w A s v rk (pairsOf vs))(b:Sb v (pairsOf vs) z)(C:arrOf z=pairsOf vs)(s2:2<=ap (pairsOf vs))(l:SrtL rk vs)
  (h:∀y,(arrOf y).Perm (pairsOf vs)->failedOf y=ao->Up rk (arrOf y) (pairsOf vs).size->Q () y):wpS (model prog w) A E s sortRuns' Q z:=by
 rcases l.2 with l|l;exact zsr c b s2 (by rw[lI];exact l) h;refine zsq c b s2 ?_ h;rw[C,lI];intro i j o u;have g:∀k (x:k<dP vs),rkAt rk (pairsOf vs) k=rk vs[k]:=λk x=>by unfold rkAt pairsOf;rw[bZ (by simpa using x)];simp
 rw[g i (by omega),g j u];exact aM.mp l i j (by omega) u o
def midH(h:bh)(a:aq)(vs:List ah):bh:=dL (dL (h.update a (fZ λ_=>#[])) (seqObj "tuple" (bm vs) 0)) (seqObj "list" #[] 0)
section
variable{prog:aL}{w:aV}{A:bq}{E:qV}{s:au}{rk:ah->Int}
def Kinds(prog:aL)(w:aV)(A:bq)(s:au)(rk:ah->Int)(vs:List ah):Prop:=2<=dP vs->∃l,(∀(E:qV) (Q:k7->au->Prop),Q l s->wpAny (model prog w) A (keyKind' (bm vs)) Q E s)/\Cmp prog w A s l rk (pairsOf vs)
theorem zqv{a:aq}{vs:List ah}{n:Nat}{P:Fin->au->Prop}(v:be s.heap a=ai (seqObj "list" (bm vs) n)) (l:SrtL rk vs) (N:Kinds prog w A { s with heap:=midH s.heap a vs } rk vs)
  (h:∀y:lX,(arrOf y).Perm (pairsOf vs)->Up rk (arrOf y) (dP vs)->P (Af (Ag dM)) { s with heap:=sortedHeap s.heap a vs ((arrOf y).map (·.2)) }) :
  wpAny (model prog w) A (cI.«list.sort» ⟨[aZ a],[]⟩) P E s:=by
 have hz:dP vs<100000:=UO l;rw[list_sort_plain];have C:a<ap s.heap.objs:=aB v;refine aa (iw v rfl (aa (pW v rfl ?_)));obtain⟨u,G⟩:∃u,be (s.heap.update a (fZ λ_=>#[])) a=ai (seqObj "list" #[] u):=⟨_,tP v (λ_=>#[])⟩;refine aa (seqEpoch_at G rfl (aa (uA (aa (mW (bO ?_))))));have x:be (midH s.heap a vs) a=ai (seqObj "list" #[] u):=by unfold midH;rw[eY _ _ _ (by rw[l5,iy];exact aO (aP C (mP _))),eY _ _ _ (by rw[iy];exact aO C)];exact G
 show wpAny (model prog w) A _ P E { s with heap:=midH s.heap a vs };have z:ap vs.toArray=dP vs:=by simp
 have tail:∀(y:lX),(arrOf y).Perm (pairsOf vs)->failedOf y=ao->Up rk (arrOf y) (dP vs)->wpAny (model prog w) A (do
   let touched:=(<- seqEpoch a) != u
   wN (aZ a) λ_=>(arrOf y).map (·.2)
   if let ai e:=failedOf y then rule "list.sort.comparison-raised";throw e
   if touched then rule "list.sort.modified";raiseError "ValueError" "list modified during sort"
   ret dM) P E { s with heap:=midH s.heap a vs }:=λy pm fl up=>by
  refine aa (seqEpoch_at x rfl (aa (pW x rfl ?_ (hsz2:=?_))));rw[fl];simp only[bne_self_eq_false,aJ,if_false];exact af (h y pm up);rw[Array.size_map,pm.size_eq,lI];show dP vs<=sizeLine+1;have:=UO l;have:100000<=sizeLine:=by decide
  omega
 by_cases two:dP vs<2;simp only[z,two,if_true];refine aa (af ?_);rw[StateT.run_pure];refine aa (af ?_);exact tail (BA general' (vs.toArray.zip (bm vs)) #[] 7 ao) (tQ _) rfl λi j S I=>absurd I (by omega);simp only[z,two,if_false];obtain⟨J,L,R⟩:=N (by omega);refine aa (L _ _ ?_);refine aa (cn (zpZ (Q:=λ_ y=>(arrOf y).Perm (pairsOf vs)/\failedOf y=ao/\Up rk (arrOf y) (dP vs)) (z:=BA J (vs.toArray.zip (bm vs)) #[] 7 ao) R ⟨tQ _,rfl,rfl,rfl⟩ rfl (by rw[lI];omega) l
  λy p1 p2 p3=>⟨p1,p2,by rwa [lI]at p3⟩) ?_ λ_ _ e=>e)
 rintro⟨⟨⟩,y⟩ s' ⟨rfl,p1,p2,p3⟩;exact tail y p1 p2 p3
theorem zkk{l:aq}{vs:List ah}{o:Obj}{T:String}{n:Nat}{Q:List ah->au->Prop}(J:be s.heap l=ai o)(hc:jg o=aY T)(C:T = "list" \/ T = "tuple") (hd:f7 o=f9 (bm vs) n) (hz:dP vs<=sizeLine)
  (h:Q vs { s with heap:=(dL s.heap (seqObj "list" #[] 0)).update s.heap.objs.size (fZ (·++bm vs)) }):wpAny (model prog w) A (collect (aZ l)) Q E s:=by
 unfold collect;refine aa (uB (dJ oR ?_));show wpAny (model prog w) _ (newList [] >>= λx=>again (jm "list.__iadd__" ⟨[x,aZ l],[]⟩)) _ _ s;refine aa (mW (af ⟨gH _ (by decide +kernel),dJ sN ?_⟩));show wpAny (model prog w) _ (cN (aZ s.heap.objs.size) (aZ l) (aZ s.heap.objs.size)) _ _ { s with heap:=dL s.heap (seqObj "list" #[] 0) };unfold cN;have v:be (dL s.heap (seqObj "list" #[] 0)) l=ai o:=aj _ J;refine aa (dY (T:=T) ⟨o,v,hc⟩ ?_);have cond:∀b:Bool,(b||aY T == aY "list" ||aY T == aY "tuple")=bj:=by intro b;have I:(aY "list" == aY "list")=bj:=rfl;have G:(aY "tuple" == aY "tuple")=bj:=rfl;rcases C with rfl|rfl;rw[I];simp;rw[G];simp
 rw[if_pos (cond _)];refine aa (iw v hd (aa (iw (xs:=#[]) (n:=0) (aA _ rfl) rfl ?_)));rw[if_neg (by simp)];refine aa (pW (xs:=#[]) (n:=0) (aA _ rfl) rfl (af ?_) (dw _) (by simp only[rQ,aD,bX];omega));refine aa (m:=load s.heap.objs.size) (nI (tP (aA _ rfl) _) ?_);show wpAny (model prog w) A (pure (w9 ((#[]:Array ah)++bm vs))) Q E _;have e:w9 ((#[]:Array ah)++bm vs)=vs:=by simp
 rw[e];exact af h
end
section
variable{prog:aL}{w:aV}{A:bq}{E:qV}{s:au}
theorem zoi(b:Bool)(x y:ah):keyLt' (tuples' b) x y=(do
  let xs <- gJ x;let ys <- gJ y
  for ((p,q),i) in (xs.toList.zip (w9 ys)).zipIdx do
   if !(<- eqBool p q) then return <- oneLt' (b&&i == 0) p q
  return decide (ap xs<ap ys)):=rfl
def LtAt(prog:aL)(w:aV)(A:bq)(s:au)(one:Bool)(p q:ah)(l:Bool):Prop:=∀(E:qV) (Q:Bool->au->Prop),Q l s->wpAny (model prog w) A (oneLt' one p q) Q E s
theorem ziS{b:Bool}{x y:aq}{J N:Obj}{v p1 l u:ah}{n m:Nat}{G C S R:Bool}{Q:Bool->au->Prop}(hx:be s.heap x=ai J)(dx:f7 J=f9 #[v,p1] n)(hy:be s.heap y=ai N)(Z:f7 N=f9 #[l,u] m)
  (U:pZ A s v l G) (e1:pZ A s p1 u C) (t0:G=bA->LtAt prog w A s b v l S) (t1:C=bA->LtAt prog w A s bA p1 u R) (h:Q (if G=bj then(if C=bj then bA else R) else S) s) :
  wpAny (model prog w) A (keyLt' (tuples' b) (aZ x) (aZ y)) Q E s:=by
 rw[zoi];refine aa (iw hx dx (aa (iw hy Z ?_)));have Y:((#[v,p1]:Array ah).toList.zip (w9 (#[l,u]:Array ah))).zipIdx=[((v,l),0),((p1,u),1)]:=rfl;simp only[Y,iU,hZ];refine aa (aa ?_);refine aa (U prog w E _ ?_);cases G with
 | false =>
  simp only[fG,if_true];have z0:(b&&(0:Nat) == 0)=b:=by simp
  rw[z0];refine aa (t0 rfl E _ ?_);exact af (af (af (by simpa using h)))
 | true =>
  simp only[fx,aJ,if_false];refine af (aa (aa (e1 prog w E _ ?_)));cases C with
  | false =>
   simp only[fG,if_true];have z1:(b&&(1:Nat) == 0)=bA:=by simp
   rw[z1];refine aa (t1 rfl E _ ?_);exact af (af (af (by simpa using h)))
  | true =>simp only[fx,aJ,if_false];exact af (af (af (by simpa using h)))
theorem zn7(a b:Int)(t u:Tok):LtAt prog w A s bj (m6 a t) (m6 b u) (decide (a<b)):=λ_ _ q=>oneLt_int q
theorem zkV(a b:Int)(t u:Tok):LtAt prog w A s bA (m6 a t) (m6 b u) (decide (a<b)):=λE Q q=>by rw[oneLt'_eq];simp only[aJ,if_false];refine aa (show wpAny (model prog w) A (compareOp .Lt (m6 a t) (m6 b u)) _ E s from lt_int ?_);exact cw q
def PrIn(h:bh)(u:ah)(b k:Int):Prop:=∃(a:aq) (o:Obj) (t t':Tok) (n:Nat),u=aZ a/\be h a=ai o/\jg o=aY "tuple" /\ f7 o=f9 #[m6 b t,m6 k t'] n
def two?:List ah->Int
 | [m6 b _,m6 k _]=>b*1000+k
 | _=>0
def rkC(h:bh)(u:ah):Int:=match u with
 | aZ a=>match be h a with
  | some o=>match f7 o with
   | f9 xs _=>two? (w9 xs)
   | _=>0
  | none=>0
 | _=>0
theorem PrIn.rk{h:bh}{u:ah}{b k:Int}(p:PrIn h u b k):rkC h u=b*1000+k:=by obtain⟨a,o,t,t',n,rfl,l,_,v⟩:=p;unfold rkC;dsimp only;rw[l];dsimp only;rw[v];rfl
theorem PrIn.kept{h h':bh}{u:ah}{b k:Int}(p:PrIn h u b k)(kp:∀b o,be h b=ai o->be h' b=ai o):PrIn h' u b k:=by obtain⟨a,o,t,t',n,x,l,v,C⟩:=p;exact⟨a,o,t,t',n,x,kp _ _ l,v,C⟩
theorem Vz{α u:Type}{f:α->Sem u}{P:α->u->Prop}{M:yG}:∀(l:List α) {Q:List u->au->Prop},(∀v∈l,∀(G:u->au->Prop),(∀r,P v r->G r s)->wpAny M A (f v) G E s)->(∀rs,bN P l rs->Q rs s)->wpAny M A (l.mapM f) Q E s
 | [],_,_,h=>by rw[List.mapM_nil];exact af (h _ ja)
 | x::l,Q,hf,h=>by rw[List.mapM_cons];exact aa (hf x (hH _) _ λr I=>aa (Vz l (λv J=>hf v (io _ J)) λrs C=>af (h _ (f6 I C))))
theorem zlb(v:ah):firstOfTuple' v=(do
  if (<- typeOf v) != aY "tuple" then return ao
  return (<- gJ v)[0]?):=rfl
theorem zmg{vs:List ah}{Q:k7->au->Prop}(U:1<=dP vs)(N:∀v∈vs,∃b k,PrIn s.heap v b k)(h:Q (tuples' bj) s):wpAny (model prog w) A (keyKind' (bm vs)) Q E s:=by
 rw[keyKind'_eq,ky,map_eq_pure_bind];refine aa (aa (Vz (P:=λ_ r=>∃(b:Int) (t:Tok),r=ai (m6 b t)) vs (λv hv Q' Z=>?_) λrs J=>af ?_));obtain⟨b,k,a,o,t,t',n,rfl,S,e2,e3⟩:=N v hv;rw[zlb];refine aa (dY (T:="tuple") ⟨o,S,e2⟩ ?_);rw[if_neg (by decide)];exact aa (iw S e3 (af (Z _ ⟨b,t,rfl⟩)));have al:∀r∈rs,∃(b:Int) (t:Tok),r=ai (m6 b t):=by
  clear h N U;induction J with
  | nil=>intro r u;cases u
  | cons x y G =>intro r u;rcases ax.mp u with rfl|u;exact x;exact G r u
 have ln:dP rs=dP vs:=by
  clear h N U al;induction J with
  | nil=>rfl
  | cons x y G=>simp[G]
 have OF:(rs.toArray.all λx=>eA x)=bj:=by simp only[kQ,cJ];intro x hx;obtain⟨b,t,rfl⟩:=al x hx;rfl
 rw[if_pos OF];refine aa (dh ?_);rw[tR];have L:rs.toArray.filterMap id=bm (rs.filterMap id):=by simp
 rw[L,ky,map_eq_pure_bind];refine aa (aa (aa (Vz (P:=λ_ r=>r=aY "int") _ (λv hv Q' Z=>?_) λts C=>af ?_)));obtain⟨x,hx,e⟩:=gE.mp hv;obtain⟨b,t,rfl⟩:=al x hx;cases e;exact af (Z _ rfl);have I:∀r∈ts,r=aY "int":=by
  clear h N U;generalize rs.filterMap id=l at C;induction C with
  | nil=>intro r u;cases u
  | cons x y G =>intro r u;rcases ax.mp u with rfl|u;exact x;exact G r u
 have ln2:dP ts=dP rs:=by
  have:dP ts=dP (rs.filterMap id):=by
   clear h N U I;generalize rs.filterMap id=l at C;induction C with
   | nil=>rfl
   | cons x y G=>simp[G]
  rw[this];clear this C L OF;clear ln J;induction rs with
  | nil=>rfl
  | cons x l G =>obtain⟨b,t,rfl⟩:=al x (hH _);simp only[df,id,aH];rw[G λr u=>al r (io _ u)]
 obtain⟨R,Y,rfl⟩:∃R Y,ts=R::Y:=by
  cases ts with
  | nil=>simp at ln2;omega
  | cons a b=>exact⟨a,b,rfl⟩
 have S:R=aY "int":=I R (hH _);subst S;have OI:(((aY "int")::Y).toArray.all λx=>x == aY "int")=bj:=by simp only[kQ,cJ];intro x hx;rw[I x hx];rfl
 have h0:((aY "int")::Y).toArray[0]?=ai (aY "int"):=by simp
 rw[h0];simp only[OI,if_true];refine af (af ?_);exact h
theorem zj6{vs:List ah}{h0:bh}(C:∀v∈vs,∃b k,PrIn s.heap v b k/\rkC h0 v=b*1000+k/\0<=k/\k<1000):Kinds prog w A s (rkC h0) vs:=λh2=>by
 refine⟨tuples' bj,λE Q q=>zmg (by omega) (λv hv=>?_) q,λp q E Q mp Y h=>?_⟩;obtain⟨b,k,h,_⟩:=C v hv;exact⟨b,k,h⟩;have mem:∀z∈w9 (pairsOf vs),z.1∈vs:=λz hz=>by
  have:z∈vs.zip vs:=by simpa[pairsOf] using hz
  exact(eE this).1
 obtain⟨b,k,⟨a,o,t,t',n,R,U,e2,e3⟩,I,k0,k1⟩:=C _ (mem p mp);obtain⟨l,x,⟨a',o',u,G,n',f0,f1,f2,N⟩,S,J,Z⟩:=C _ (mem q Y);rw[I,S]at h;rw[R,f0];refine ziS U e3 f1 N (iY b t l u) (iY k t' x G) (λ_=>zn7 b l t u) (λ_=>zkV k x t' G) ?_;have:(if (b == l)=bj then(if (k == x)=bj then bA else decide (k<x)) else decide (b<l))=decide (b*1000+k<l*1000+x):=by simp only[beq_iff_eq];split;split;symm;rw[decide_eq_false_iff_not];omega;rw[decide_eq_decide];omega;rw[decide_eq_decide];omega
 rw[this];exact h
end
theorem zhi{α u:Type}{l:List (α×u)}{m:List u}(h:m.Perm (l.map (·.2))):∃o:List (α×u),o.Perm l/\o.map (·.2)=m:=by
 induction m generalizing l with
 | nil =>
  have:l.map (·.2)=[]:=h.symm.eq_nil;cases l with
  | nil=>exact⟨[],.refl _,rfl⟩
  | cons a b=>simp at this
 | cons x m G =>
  have hx:x∈l.map (·.2):=h.mem_iff.mp (hH _);obtain⟨z,hz,rfl⟩:=aR.mp hx;obtain⟨C,l2,rfl⟩:=List.append_of_mem hz;have v:(z.2::m).Perm (z.2::(C++l2).map (·.2)):=by refine ji h ?_;simp only[e9,aK];exact nu
  obtain⟨o,p,e⟩:=G (List.perm_cons _|>.mp v);exact⟨z::o,ji (p.cons z) nu.symm,by simp[e]⟩
theorem WJ{α u:Type}{F:α->u->Prop}{l:List α}{o:List u}(r:bN F l o){b:u}(h:b∈o):∃a∈l,F a b:=by
 induction r with
 | nil=>cases h
 | cons f t v =>rcases ax.mp h with rfl|h;exact⟨_,eI,f⟩;obtain⟨b,x,g⟩:=v h;exact⟨b,cO _ x,g⟩
theorem zkG{α:Type}{P:α->ah->Prop}{rk:ah->Int}{f:α->Int}{vs:List ah}{J:List α}{y:lX}(Z:bN P J vs)(hr:∀a v,P a v->rk v=f a)(pm:(arrOf y).Perm (pairsOf vs))(up:Up rk (arrOf y) (dP vs)) :
  ∃bs:List α,bs.Perm J/\bs.Pairwise (λa b=>f a<=f b)/\bN P bs (w9 ((arrOf y).map (·.2))):=by
 have u:(arrOf y).toList.Perm (vs.zip vs):=by have:=lY.mp pm;simpa[pairsOf] using this
 have hl:dP J=dP vs:=cV Z;have each:∀x∈J.zip vs,P x.1 x.2:=by
  clear pm up u hl;induction Z with
  | nil=>intro x hx;simp at hx
  | cons h t N =>intro x hx;rcases ax.mp (by simpa using hx) with rfl|hx;exact h;exact N x hx
 have I:((arrOf y).toList.map (·.2)).Perm ((J.zip vs).map (·.2)):=by refine(u.map _).trans ?_;rw[nv (av _),nv (by lia)]
 obtain⟨C,p1,p2⟩:=zhi I;have U:∀x∈C,P x.1 x.2:=λx hx=>each x (p1.mem_iff.mp hx);have ON:∀z∈w9 (arrOf y),z.1=z.2:=λz hz=>by have:z∈vs.zip vs:=u.mem_iff.mp hz;obtain⟨i,hi,rfl⟩:=bc this;simp
 have R:ap (arrOf y)=dP vs:=by have:=u.length_eq;simpa using this
 refine⟨C.map (·.1),?_,?_,?_⟩;have:=p1.map (·.1);rwa [sO (by lia)]at this;rw[dz,aM];intro i j hi hj S;have lw:dP C=dP vs:=by have:=congrArg dP p2;simpa[R] using this
 have gw:∀k (Y:k<dP C),rkAt rk (arrOf y) k=f C[k].1:=λk Y=>by
  have G:k<ap (arrOf y):=by lia
  have e1:(arrOf y).toList[k]'(by simpa using G)=(arrOf y)[k]:=by simp
  have e2:C[k].2=(arrOf y)[k].2:=by
   have:(C.map (·.2))[k]'(by simpa using Y)=((arrOf y).toList.map (·.2))[k]'(by simpa using G):=by simp only[p2]
   simpa using this
  have e3:(arrOf y)[k].1=(arrOf y)[k].2:=ON _ (by rw[<- e1];exact eK _);unfold rkAt;rw[bZ G];simp only[fP,fz];rw[e3,<- e2];exact hr _ _ (U _ (eK _))
 have:=up i j S (by lia);rwa [gw i hi,gw j hj]at this;rw[Array.toList_map,<- p2];clear p1 p2 I pm up;induction C with
 | nil=>exact ja
 | cons a l N=>exact f6 (U a (hH _)) (N λx hx=>U x (io _ hx))
section
variable{prog:aL}{w:aV}{A:bq}{E:qV}{s:au}{rk:ah->Int}
theorem zj1{h:bh}{vs:List ah}{b:aq}{o:Obj}(u:be h b=ai o):be (midH (dL h (seqObj "list" (bm vs) 0)) h.objs.size vs) b=ai o:=by have l:b<ap h.objs:=aB u;unfold midH;rw[eY _ _ _ (by rw[l5,iy,l5];lia),eY _ _ _ (by rw[iy,l5];lia),pK _ _ _ _ (aO l),eY _ _ _ (aO l)];exact u
theorem zmZ{vs:List ah}{P:qV}(l:SrtL rk vs)(C:Kinds prog w A { s with heap:=midH (dL s.heap (seqObj "list" (bm vs) 0)) s.heap.objs.size vs } rk vs)
  (h:∀h' (y:lX) (e:Nat),(∀b o,be s.heap b=ai o->be h' b=ai o)->(arrOf y).Perm (pairsOf vs)->Up rk (arrOf y) (dP vs)->be h' s.heap.objs.size=ai (seqObj "list" ((arrOf y).map (·.2)) e)->P dM { s with heap:=h' }) :
  wpAny (model prog w) A (cI.«list.sort» ⟨[aZ s.heap.objs.size],[]⟩) (λf s'=>∃v,f=Af (Ag v)/\P v s') E { s with heap:=dL s.heap (seqObj "list" (bm vs) 0) }:=by
 have x:be (dL s.heap (seqObj "list" (bm vs) 0)) s.heap.objs.size=ai (seqObj "list" (bm vs) 0):=aA _ rfl;refine zqv (s:={ s with heap:=dL s.heap (seqObj "list" (bm vs) 0) }) x l C λy p1 p2=>⟨_,rfl,?_⟩;obtain⟨e,he⟩:=sortedHeap_at (out:=(arrOf y).map (·.2)) x;refine h _ y e (λb o u=>?_) p1 p2 he;have lt:=aB u;rw[sortedHeap_old (aO lt) (by rw[l5];exact Nat.lt_succ_of_lt lt),eY _ _ _ (aO lt)];exact u
end
section
variable{prog:aL}{w:aV}{A:bq}{E:qV}{s:au}{rk:bh->ah->Int}
theorem zfc{x:ah}{C:bh->Nat->List ah->Prop}{Q:qV}(G:∀(v:bq) (S:qV) (N:List ah->au->Prop),v.handled=A.handled->(∀h' tk d vs,C h' tk vs->N vs { s with heap:=h',toks:=tk,drawn:=d })->wpAny (model prog w) v (collect x) N S s)
  (L:∀h' tk vs,C h' tk vs->SrtL (rk h') vs)
  (U:∀h' tk d vs (v:bq),C h' tk vs->v.units<=A.units+16->Kinds prog w v { s with heap:=midH (dL h' (seqObj "list" (bm vs) 0)) h'.objs.size vs,toks:=tk,drawn:=d } (rk h') vs)
  (h:∀h' tk d vs I (y:lX) (e:Nat),C h' tk vs->(∀b o,be h' b=ai o->be I b=ai o)->(arrOf y).Perm (pairsOf vs)->Up (rk h') (arrOf y) (dP vs)->be I h'.objs.size=ai (seqObj "list" ((arrOf y).map (·.2)) e)->Q (aZ h'.objs.size) { s with heap:=I,toks:=tk,drawn:=d }) :
  wpAny (model prog w) A (call (b4 "sorted") [x]) Q E s:=by
 have Y:100000<=sizeLine:=by decide
 refine mC kind_sorted plain_sorted entry_sorted (args_sorted1 _) ?_;unfold cI.«sorted»;refine aa (m:=checkCount "sorted" 1 1 _) (af (aa (G _ _ _ rfl λh' tk d vs c=>?_)));have J:=L h' tk vs c;have lt:=UO J;refine aa (mW (hsz:=by show ap vs.toArray<=_;rw[aD];lia) ?_);have R:be (dL h' (seqObj "list" (bm vs) 0)) h'.objs.size=ai (seqObj "list" (bm vs) 0):=aA _ rfl;refine aa (bO (bw slot_list_sort ⟨_,R,rfl⟩ entry_list_sort ?_ (args_list_sort _)));refine zmZ (s:={ s with heap:=h',toks:=tk,drawn:=d }) J (U h' tk d vs _ c (by show A.units+1+1<=_;lia)) λI y e kp p1 p2 he=>?_;exact af ⟨_,rfl,h h' tk d vs I y e c kp p1 p2 he⟩
end
section
variable{X:Cx}
theorem zsc{pins:qO}{σ:St}{H:Hp}{s:au}{q:aq}{b k:Int}(I:Inv X pins σ H s)(h:SqT X.K H q [.int b,.int k]):PrIn s.heap (aZ q) b k:=by
 obtain⟨is,rs,⟨o,f1,f2,n,l⟩,_⟩:=I.tuple h;cases rs with
 | cons a1 a2 =>
  cases a2 with
  | cons u v =>cases v;obtain⟨t,rfl⟩:=a1;obtain⟨t',rfl⟩:=u;exact⟨q,o,t,t',n,rfl,f1,f2,l⟩
theorem Rep.bkI{K:qF}{hd:Option aq}{O:aq->Prop}{H:Hp}{v:V}{a b:Int}(h:Rep K hd O H v (fX [b5 a,b5 b])):∃q,v=.ref q/\SqT K H q [.int a,.int b]:=by
 obtain⟨q,vs,rfl,sq,o⟩:=h.tupI;cases o with
 | cons x1 x =>
  cases x with
  | cons x3 C =>cases C;rw[x1.intI,x3.intI]at sq;exact⟨q,rfl,sq⟩
theorem Inv.drw{X:Cx}{pins:qO}{σ:St}{H:Hp}{s:au}(I:Inv X pins σ H s)(d:_):Inv X pins σ H { s with drawn:=d }:=⟨I.ok,I.os,I.bare,I.base,I.loc,I.cell,I.free,I.freeC,I.pin,I.hok,I.len⟩
def SrtW(X:Cx)(ts:qD)(R:qD->Prop):Prop:=∃(α:Type) (D:α->ae) (P:bh->ah->α->Prop) (f:α->Int) (rk:bh->ah->Int) (x:List α),ts=x.map D/\SrtL f x /\
 (∀{pins σ H s hd O v u a},a∈x->Inv X pins σ H s->Rep X.K hd O H v (D a)->RelV v u->P s.heap u a)/\(∀{h h' u a},P h u a->(∀b o,be h b=ai o->be h' b=ai o)->P h' u a/\rk h u=f a) /\
 (∀{A s h0 vs},A.units<cLine->(∀u∈vs,∃a∈x,P s.heap u a/\rk h0 u=f a)->Kinds X.prog X.w A s (rk h0) vs) /\
 ∀l:List α,l.Perm x->l.Pairwise (λa b=>f a<=f b)->R (l.map D)
theorem zjl(hu:X.A.units+64<cLine):JK X (b4 "sorted") (λxs H Q=>∃(p:aq) (vs:List V) (ts:qD) (hd:Option aq) (O:aq->Prop),xs=[.ref p]/\(SqL X.K H p vs\/SqT X.K H p vs)/\Reps X.K hd O H vs ts /\
  SrtW X ts λts'=>∀N l,Reps X.K hd O H N ts'->H l=ao->Q (.ref l) (upd H l (.lst N))):=by
 intro pins s σ H xs us Q I r h;obtain⟨p,vs,ts,hd,O,rfl,J,rp,α,D,P,f,rk,U,rfl,S,tell,kept,kin,q⟩:=h;obtain⟨u,rfl,rx⟩:=vals1 r;cases rx;have hs:100000<=sizeLine:=by decide
 have lt:=UO S;have lv:dP vs=dP U:=by simpa using rp.length
 have key:∀(its:List ah) (o:Obj) (T:String) (n:Nat),Vals vs its->be s.heap p=ai o->jg o=aY T->(T = "list" \/ T = "tuple")->f7 o=f9 (bm its) n ->
   wpAny (model X.prog X.w) X.A (call (b4 "sorted") [aZ p]) (EP X pins σ Q) X.xe s:=λits o T n rv R hc hT hd'=>by
  have li:=rv.length;have go:∀h':bh,(∀b o,be s.heap b=ai o->be h' b=ai o)->bN (λ(z:V×α) (u:ah)=>RelV z.1 u/\Rep X.K hd O H z.1 (D z.2)/\P h' u z.2) (vs.zip U) its/\U.map f=its.map (rk h'):=λh' kp=>by
   have go:∀(bs:List α) (vs:List V) (its:List ah),(∀b∈bs,b∈U)->Reps X.K hd O H vs (bs.map D)->Vals vs its->bN (λ(z:V×α) (u:ah)=>RelV z.1 u/\Rep X.K hd O H z.1 (D z.2)/\P h' u z.2) (vs.zip bs) its/\bs.map f=its.map (rk h'):=by
    intro bs;induction bs with
    | nil=>intro vs its _ r v;cases r;cases v;exact⟨ja,rfl⟩
    | cons b bs Z =>
     intro vs its G r v;cases r with
     | cons r1 r2 =>
      cases v with
      | cons v1 v2 =>obtain⟨i1,i2⟩:=Z _ _ (λc hc=>G c (io _ hc)) r2 v2;have p:=(kept (tell (G b (hH _)) I r1 v1) kp).1;exact⟨f6 ⟨v1,r1,p⟩ i1,by rw[aK,aK,i2,(kept p λ_ _ e=>e).2]⟩
   exact go U vs its (λ_ h=>h) rp rv
  refine zfc (A:=X.A) (x:=aZ p) (rk:=rk) (C:=λh' tk Y=>Y=its/\(∀b o,be s.heap b=ai o->be h' b=ai o)/\ap s.heap.objs<=ap h'.objs) ?_ ?_ ?_ ?_;intro A' E' Q' hA J;refine zkk R hc hT hd' (by lia) ?_;have hq':=J ((dL s.heap (seqObj "list" #[] 0)).update s.heap.objs.size (fZ (·++bm its))) s.toks (jr s) its ⟨rfl,λb ob G=>?_,?_⟩;exact hq';rw[pK _ _ _ _ (aO (aB G))];exact aj _ G;rw[iy,l5];exact mP _;rintro h' tk Y ⟨rfl,kp,_⟩;exact zky S (go h' kp).2;rintro h' tk d Y A' ⟨rfl,kp,_⟩ hA';refine kin (by lia) λu hu=>?_;obtain⟨x,mx,_,_,p⟩:=WJ (go h' kp).1 hu;exact⟨x.2,(eE mx).2,(kept p λb o e=>zj1 e).1,(kept p λ_ _ e=>e).2⟩;rintro h' tk d Y h2 y e ⟨rfl,kp,sz⟩ kp2 pm up he;obtain⟨zs,p1,p2,p3⟩:=zkG (f:=λx=>f x.2) (go h' kp).1 (λx u hx=>(kept hx.2.2 λ_ _ e=>e).2) pm up;obtain⟨rv',rp'⟩:Vals (zs.map (·.1)) (w9 ((arrOf y).map (·.2)))/\Reps X.K hd O H (zs.map (·.1)) ((zs.map (·.2)).map D):=by
   clear p1 p2 he;generalize w9 ((arrOf y).map (·.2))=out at p3;induction p3 with
   | nil=>exact⟨ja,.nil⟩
   | cons h _ Z=>exact⟨f6 h.1 Z.1,.cons h.2.1 Z.2⟩
  refine⟨.ref h'.objs.size,_,((I.laid (a:=ap h'.objs) (o:=.lst (zs.map (·.1))) (t':=tk) (λb o G=>kp2 b o (kp b o G)) sz ⟨?_,_,e,rv',by rw[he]⟩).drw d),rfl,q (zs.map (·.2)) ?_ (by rw[dz];exact p2) _ _ rp' (I.hok.fresh sz)⟩;have:=p1.length_eq;rw[aI];simp at this;lia;have:=p1.map (·.2);rwa [nv (by lia)]at this
 rcases J with J|J;obtain⟨its,r',pl,hz⟩:=I.list J;obtain⟨o,R,hc,n,hd⟩:=pl.isList;exact key its o "list" n r' R hc (fj rfl) hd;obtain⟨its,r',pl,hz⟩:=I.tuple J;obtain⟨o,R,hc,n,hd⟩:=pl;exact key its o "tuple" n r' R hc (xw rfl) hd
theorem zg0{e:aX}{d:DTE}{pos p:Pos}{k:Nat}{L:ae->(qD->Prop)->Prop}(hL:∀t R,L t R->JU t λts=>SrtW X ts R)(hr:Room k X.A)(hm:X.mg "sorted" = ao) (h:DL X e d) (hs:starEach [e] X.env=[(bA,eval e X.env)]) (hg:Gl X "sorted") :
  DN X (ee (bn "sorted" p) [e] [] pos) (λJ n R=>d J n λt Y=>L t λts=>R ts Y):=by
 obtain⟨ta,pa,h⟩:=h;refine⟨_,ZI (zjl (by have:=hr.un;lia)) hm boot_sorted (Qv pa Ua hs) hg,λC J σ H n Q R S hd hq=>?_⟩;refine h C J σ H n _ _ S hd λt Y v x r1 e1 h1 q1=>?_;have r2:=hL t _ r1;have go:∀(p:aq) vs ts,(SqL X.K x p vs\/SqT X.K x p vs)->Reps X.K C.hd (Own C J σ) x vs ts->(SrtW X ts λts=>R ts Y)->∃(p':aq) (vs:List V) (ts:qD) (hd:Option aq) (O:aq->Prop),[V.ref p]=[V.ref p']/\(SqL X.K x p' vs\/SqT X.K x p' vs)/\Reps X.K hd O x vs ts /\
   SrtW X ts λts'=>∀u l,Reps X.K hd O x u ts'->x l=ao->Q (.ref l) (upd x l (.lst u)):=λp vs ts hq' rp h=>by
  obtain⟨α,D,P,f,rk,as,e,h64,tell,kept,kin,q⟩:=h;exact⟨p,vs,ts,C.hd,Own C J σ,rfl,hq',rp,α,D,P,f,rk,as,e,h64,tell,kept,kin,λas' pm pw u l rp' I=>hq _ Y l u _ (q as' pm pw) (e1.trans (ExtE.new I)) (h1.same (JS I)) (Y9 e1 h1 I) JJ
   (rp'.mono (λb o U z=>ii z id λz=>by subst z;rw[I]at U;cases U) λb o _ U=>JS I b o U)⟩
 cases t with
 | list ts =>obtain⟨p,vs,rfl,G,Z⟩:=q1.lstI;exact go p vs ts (fj (.of G)) Z r2
 | tuple ts =>obtain⟨p,vs,rfl,G,Z⟩:=q1.tupI;exact go p vs ts (xw G) Z r2
 | _=>exact eJ r2
end
def rkD:ae->Int
 | fX [b5 b,b5 k]=>b*1000+k
 | _=>0
def IsPr(t:ae):Prop:=∃b k:Int,t=fX [b5 b,b5 k]/\0<=k/\k<1000
def U9(t:ae)(R:qD->Prop):Prop:=JU t λts=>SrtL rkD ts/\(∀x∈ts,IsPr x)/\∀l:List ae,l.Perm ts->l.Pairwise (λa b=>rkD a<=rkD b)->R l
def zt1(d:DTE):DTA:=λl n R=>d l n λt o=>U9 t λts=>R ts o
theorem zfE{t:ae}{R l:qD->Prop}(h:∀ts,R ts->l ts)(x:JU t R):JU t l:=by
 cases t with
 | list ts=>exact h _ x
 | tuple ts=>exact h _ x
 | _=>exact x
theorem zjg{X:Cx}{e:aX}{d:DTE}{pos p:Pos}{k:Nat}(J:Room k X.A)(U:X.mg "sorted" = ao) (h:DL X e d) (Z:starEach [e] X.env=[(bA,eval e X.env)]) (S:Gl X "sorted":=by rfl):DN X (ee (bn "sorted" p) [e] [] pos) (zt1 d) :=
 zg0 (L:=U9) (λt R=>zfE λts ⟨o,ok,q⟩=>⟨ae,id,λh u t=>∃b k,t=fX [b5 b,b5 k]/\PrIn h u b k,rkD,rkC,ts,bv (oS ts),o,λ{_ _ _ _ _ _ v u a} ha I r rv=>by
  obtain⟨b,k,rfl,_⟩:=ok a ha;obtain⟨q,rfl,sq⟩:=Rep.bkI r;cases(show u=aZ q from rv);exact⟨b,k,rfl,zsc I sq⟩,λ⟨b,k,e,p⟩ kp=>⟨⟨b,k,e,p.kept kp⟩,by rw[p.rk,e];rfl⟩,λ_ hp=>zj6 λv hv=>by
  obtain⟨a,ma,⟨b,k,rfl,p⟩,e⟩:=hp v hv;obtain⟨_,_,G,Y,k1⟩:=ok _ ma;cases G;exact⟨b,k,p,e,Y,k1⟩,λx pm pw=>by rw[oS];exact q x pm pw⟩) J U h Z S
abbrev prD(b:Int×Int):ae:=fX [b5 b.1,b5 b.2]
def pD(bs:qB):List ae:=bs.map prD
theorem JB{bs:qB}:dP (pD bs)=dP bs:=by simp[pD]
theorem zrz{bs cs:qB}:pD bs++pD cs=pD (bs++cs):=by simp[pD]
theorem Y2{i h:Int}{bs:qB}:pD bs++[fX [b5 i,b5 h]]=pD (bs++[(i,h)]):=by simp[pD]
theorem Y1{bs:qB}{k:Nat}{t:ae}(h:(pD bs)[k]?=ai t):∃i g:Int,bs[k]?=ai (i,g)/\t=fX [b5 i,b5 g]:=by
 unfold pD at h;rw[aT]at h;cases e:bs[k]? with
 | none=>rw[e]at h;cases h
 | some b=>rw[e]at h;cases h;exact⟨b.1,b.2,rfl,rfl⟩
def eB(b:Int×Int):Int:=b.1+2 ^ mu b.2
def Bks(bits:Int)(bs:qB):Prop:=∀b∈bs,IsBk bits b.1 b.2
def Ptc(bits:Int)(bs:qB):Prop:=Bks bits bs/\bs.Pairwise λa b=>eB a<=b.1
theorem Qj(b:Int×Int):b.1<eB b:=by have:=Bd.JT (mu b.2);unfold eB;lia
theorem Ptc.ends{bits:Int}{bs:qB}(P:Ptc bits bs):bs.Pairwise λa b=>eB a<=eB b:=P.2.imp λ{a b} h=>by have:=Qj b;lia
theorem znR{bs:qB}:Okd (tE (pD bs)):=by
 have:∀bs:List (Int×Int),cx (pD bs)=bj/\cX (pD bs)<=1:=by
  intro bs;induction bs with
  | nil=>exact⟨by simp[pD,cx],by simp[pD,cX]⟩
  | cons b l o =>refine⟨?_,?_⟩;have:=o.1;simp only[pD,aK,cx,bR,pU,gX]at this ⊢;exact this;have:=o.2;simp only[pD,aK,cX,dI]at this ⊢;lia
 exact⟨by simp only[bR];exact(this bs).1,by simp only[dI];have:=(this bs).2;lia⟩
theorem znS:Okd (tE []):=⟨by simp[bR,cx],by simp[dI,cX]⟩
theorem zty{d:DTE}{o:En}{n:Nat}{l:qD->Nat->Prop}(h:d o n λt u=>U9 t λts=>l ts u):zt1 d o n l:=h
theorem zwm{bits:Int}{bs:qB}{R:qD->Prop}(o:bits<=64)(B:Bks bits bs)(L:bs.Pairwise λa b=>eB a<=b.1\/eB b<=a.1)(J:dP bs<64)
  (h:∀cs,Ptc bits cs->cs.Perm bs->R (pD cs)):U9 (tE (pD bs)) R:=by
 refine⟨Zh (by rw[JB];exact J),λx hx=>?_,λC pm pw=>?_⟩;obtain⟨b,G,rfl⟩:=aR.mp hx;have:=B b G;exact⟨b.1,b.2,rfl,this.1,by have:=this.2.1;lia⟩;have I:C.Perm ((bs.map λb=>(b,prD b)).map (·.2)):=by
  have:(bs.map λb=>(b,prD b)).map (·.2)=pD bs:=by simp[pD]
  rw[this];exact pm
 obtain⟨zs,p1,p2⟩:=zhi I;have U:∀z∈zs,z.2=prD z.1:=λz hz=>by obtain⟨b,_,rfl⟩:=aR.mp (p1.mem_iff.mp hz);rfl
 have e:C=pD (zs.map (·.1)):=by rw[<- p2];unfold pD;rw[b6];exact iF λz hz=>U z hz
 have pc:(zs.map (·.1)).Perm bs:=by
  have:=p1.map (·.1);rw[b6]at this;have Y:bs.map ((λx:(Int×Int)×ae=>x.1)∘λb=>(b,prD b))=bs:=by show bs.map id=bs;exact oS _
  rwa [Y]at this
 rw[e];have v:(zs.map (·.1)).Pairwise λa b=>eB a<=b.1\/eB b<=a.1:=(pc.pairwise_iff (λ{a b} h=>h.symm)).mpr L;have u:Bks bits (zs.map (·.1)):=λb o=>B b (pc.mem_iff.mp o);rw[e]at pw;unfold pD at pw;rw[dz]at pw;refine h _ ⟨u,?_⟩ pc;have both:=Cp v pw;refine iN ?_ both;rintro a b S o ⟨h1,N⟩;have N:a.1*1000+a.2<=b.1*1000+b.2:=N;have a0:=(u a S).1;have a1:=(u a S).2.1;have Z:=(u b o).1;have b1:=(u b o).2.1;have:=Qj a;have:=Qj b;lia
theorem zxF{J:DTG}{tt:DTT}{d:DTE}{v:En}{I:qD->Nat->Prop}(Inv:Nat->qD->Nat->Prop):∀(xs:qD) (i:Nat) {acc:qD}{n:Nat},Inv i acc n ->
  (∀(k:Nat) (x:ae) (acc:qD) (n:Nat) (K:qD->Nat->Prop),xs[k]?=ai x->Inv (i+k) acc n->(∀o C,Inv (i+k+1) o C->K o C) ->
   J x v λG=>tt G n λb L=>if b=bj then d G L λt S=>dP acc<16777216/\K (acc++[t]) S else K acc L) ->
  (∀acc n,Inv (i+dP xs) acc n->I acc n)->JW J tt d v xs acc n I
 | [],i,acc,n,h0,_,fin=>fin acc n (by simpa using h0)
 | x::xs,i,acc,n,h0,turn,fin=>by
  refine turn 0 x acc n (λacc n=>JW J tt d v xs acc n I) rfl (by simpa using h0) λo C h'=>?_;refine zxF Inv xs (i+1) (by simpa using h') (λk u acc n K e N R=>?_) (λacc n h=>fin acc n ?_);refine turn (k+1) u acc n K (by simpa using e) ?_ λo C h'=>R o C ?_;have:i+(k+1)=i+1+k:=by lia
  rw[this];exact N;have:i+1+k+1=i+(k+1)+1:=by lia
  rw[this];exact h';have:i+dP (x::xs)=i+1+dP xs:=by simp;lia
  rw[this]at *;exact h
theorem zo4{I:DTG}{tt:DTT}{d:DTE}{u:En}{G:qD->Nat->Prop}{xs:qD}{n:Nat}(Inv:Nat->qD->Nat->Prop)(h0:Inv 0 [] n)
  (turn:∀(k:Nat) (x:ae) (acc:qD) (n:Nat) (K:qD->Nat->Prop),xs[k]?=ai x->Inv k acc n->(∀l C,Inv (k+1) l C->K l C) ->
   I x u λo=>tt o n λb v=>if b=bj then d o v λt N=>dP acc<16777216/\K (acc++[t]) N else K acc v)
  (fin:∀acc n,Inv (dP xs) acc n->G acc n):JW I tt d u xs [] n G :=
 zxF Inv xs 0 h0 (λk x acc n K e J L=>turn k x acc n K e (by simpa using J) λa m h=>L a m (by simpa using h)) λacc n h=>fin acc n (by simpa using h)
theorem Qr{α:Type}{cs:List α}{D:α->ae}{G:DTG}{tt:DTT}{d:DTE}{u:En}{n:Nat}{C:qD->Nat->Prop}(F:α->ae)(I:dP cs<=16777216)
  (step:∀b∈cs,∀(K:qN) (X:Nat->Prop),K (F b) n->G (D b) u λo=>tt o n λc v=>if c=bj then d o v K else X v) (fin:C (cs.map F) n):JW G tt d u (cs.map D) [] n C:=by
 refine zo4 (λj acc m=>m=n/\acc=(cs.take j).map F) ⟨rfl,rfl⟩ ?_ ?_;rintro j x acc m K l ⟨rfl,rfl⟩ hK;rw[aT]at l;cases eb:cs[j]? with
 | none=>rw[eb]at l;cases l
 | some b =>rw[eb]at l;cases l;obtain⟨J,L⟩:=aw.mp eb;refine step b (aC eb) _ _ ⟨?_,hK _ _ ⟨rfl,?_⟩⟩;simp;lia;rw[fH,eb];simp
 rintro acc m ⟨rfl,rfl⟩;rw[aI,cZ];exact fin
theorem zAm{bs:List Bool}{R:ae->Prop}(h:R (k6 (bs.all id))):bAll [tE (bs.map k6)] R:=⟨bs,rfl,h⟩
theorem Z4{α:Type}{cs:List α}{f:α->Bool}{R:ae->Prop}(h:R (k6 (cs.all f))):bAll [tE (cs.map λb=>k6 (f b))] R:=by
 have e:(cs.map λb=>k6 (f b))=(cs.map f).map k6:=by simp
 rw[e];refine zAm ?_;have u:(cs.map f).all id=cs.all f:=by simp[List.all_map,g8]
 rw[u];exact h
theorem zwx{xs:qD}{k:Nat}{x:ae}{R:ae->Prop}(e:xs[k]?=ai x)(h:R x):oIx (fX xs) (b5 (k:Int)) R:=by
 have o:k<dP xs:=by rcases bM k (dP xs) with z|z;exact z;rw[bV z]at e;cases e
 rw[ZE (x:=x)];exact h;unfold atI ixN;have:((0:Int)<=(k:Int)):=by lia
 have:((k:Int)<(dP xs:Int)):=by lia
 have v:xs[k]=x:=by rw[ay o]at e;exact aG e
 simp[o,v]
theorem ztn{xs:qD}{i:Int}{k:Nat}{x:ae}{R:ae->Prop}(hi:i=(k:Int))(e:xs[k]?=ai x)(h:R x):oIx (fX xs) (b5 i) R:=by subst hi;exact zwx e h
theorem zsU{bs:qB}{k:Nat}{b:Int×Int}(h:bs[k]?=ai b):(pD bs)[k]?=ai (fX [b5 b.1,b5 b.2]):=by unfold pD;rw[aT,h];rfl
theorem ztO{bs:qB}:fF (tE (pD bs)) (tE [])=dy bs:=by
 cases bs with
 | nil=>simp[pD,fF,pT]
 | cons b l=>simp[pD,fF,pT]
theorem Ut{many:Int}{n:Nat}{R:qN}(h0:0<many)(o:many<2 ^ 128)(l:n<=1000000000000)(h:∀r:Int,0<=r->r<many->R (b5 r) (n+1)):YH [HAND,b5 many] n R:=⟨rfl,h0,o,l,h⟩
theorem zlT{i h:Int}:Q6 (fX [b5 i,b5 h])=bj:=by simp[Q6,ZY]
theorem Bks.app{bits i h:Int}{bs:qB}(B:Bks bits bs)(C:IsBk bits i h):Bks bits (bs++[(i,h)]):=λb l=>by rcases aW.mp l with z|z;exact B b z;cases aE.mp z;exact C
section
variable{prog:aL}{w:aV}{A:bq}{E:qV}{s:au}
open HT in
theorem zdq{t C:aq}{items:Array ah}{J I:ah}{lo hi:Option Int}{Q:qV}(l:rA s.heap t items)(L:s.heap.IsSliceOf C J I dM)(pl:mU J lo)(N:mU I hi)
  (hw:HT.sIx items.size 0 lo=0/\HT.sIx items.size items.size hi=ap items) (h:Q (aZ t) s):wpAny (model prog w) A (getItem (aZ t) (aZ C)) Q E s:=by
 obtain⟨os,v,G,R⟩:=id L;have x:s.TypeIs (aZ C) "slice":=⟨os,v,G⟩;unfold getItem;try with_reducible refine bO ?_
 first|refine aa (af ?_)|skip
 refine aa (rH l.typeIs (by decide) ?_);refine aa (bP (name:=ar "__getitem__") l.typeIs cy
  (bw cy l.typeIs pI ?_ (p5 _ _)))
 show wpAny _ _ (lV (aZ t) >>= _) _ _ s;refine aa (tupleItemsOf_ l ?_);refine aa (dY x ?_);rw[if_pos (by decide)];refine aa (HT.zct L pl N ?_);have u:(((HT.sIx items.size 0 lo:Nat):Int) == 0&&(1:Int) == 1&&(HT.sIx items.size items.size hi - HT.sIx items.size 0 lo) == ap items)=bj:=by rw[hw.1,hw.2];simp
 show wpAny _ _ (if (((HT.sIx items.size 0 lo:Nat):Int) == 0&&(1:Int) == 1&&(HT.sIx items.size items.size hi - HT.sIx items.size 0 lo) == ap items)=bj then _ else _) _ _ s;rw[if_pos u];unfold uC;refine aa (aa (dY l.typeIs (af ?_)));rw[if_pos (by decide)];exact aa (dh (af ⟨_,rfl,af h⟩))
end
section
variable{X:Cx}
def rSlW(K:qF):V->Option Int->Option Int->Hp->VK->Prop:=λx lo hi H Q=>∃a xs,x=.ref a/\SqT K H a xs/\(HT.sIx (dP xs) 0 lo=0/\HT.sIx (dP xs) (dP xs) hi=dP xs)/\Q (.ref a) H
theorem zse:SlR X (rSlW X.K):=by
 intro pins s σ H x v L J lo hi N Q I C G pl u h;obtain⟨a,xs,rfl,hx,hw,q⟩:=h;cases C;obtain⟨its,r,o,hz⟩:=I.tuple hx;have l:ap its.toArray=dP xs:=by rw[aD];exact bv r.length
 refine⟨"tuple",_,cy.lookup,o.typeIs,?_⟩;exact zdq o G pl u (by rw[l];exact hw) ⟨.ref a,H,I,rfl,q⟩
end
abbrev DTO:=En->Nat->(Option Int->Nat->Prop)->Prop
def DP(X:Cx)(e:Option aX)(d:DTO):Prop:=∃t,PO X e t/\∀(C:Ctx) (u:En) (σ:St) (H:Hp) (n:Nat) (Q:Option Int->Hp->Prop) (R:Option Int->Nat->Prop),Stt X.K C u σ H n->d u n R ->
 (∀o l H',R o l->ExtE C.hd H H'->Hn X.K C.hd H' l->Q o H')->t σ H Q
def zkj:DTO:=λl n R=>R ao n
def zt3(d:DTE):DTO:=λo n R=>d o n λt l=>lInt t λi=>R (ai i) l
def cutD(ts:qD)(lo hi:Option Int):List ae:=(ts.drop (HT.sIx (dP ts) 0 lo)).take (HT.sIx (dP ts) (dP ts) hi - HT.sIx (dP ts) 0 lo)
def lSl(t:ae)(lo hi:Option Int)(R:qD->Prop):Prop:=match t with
 | tE ts=>R (cutD ts lo hi)
 | _=>False
def dSlL(d:DTE)(dl o:DTO):DTA:=λl n R=>d l n λt v=>dl l v λlo x=>o l x λhi u=>lSl t lo hi λz=>R z u
section
variable{X:Cx}{e:aX}{d:DTE}{lo hi:Option aX}{dlo dhi:DTO}{pos p2:Pos}
theorem Vm:DP X ao zkj:=⟨_,zsG,λC o σ H n Q R S h l=>l ao n H h ExtE.refl S.hnd⟩
theorem Vn(h:DE X e d):DP X (ai e) (zt3 d):=by
 obtain⟨N,pa,h⟩:=h;refine⟨_,zsF pa,λC I σ H n Q R S hd G=>?_⟩;refine h C I σ H n _ _ S hd λt J v o l u x L=>?_;cases t with
 | int i =>cases L;exact⟨i,rfl,G (ai i) J o l u x⟩
 | _=>exact eJ l
theorem zlh{K:qF}{hd:Option aq}{O:aq->Prop}{H:Hp}{vs ts}(r:Reps K hd O H vs ts)(lo hi:Option Int):Reps K hd O H (cutV vs lo hi) (cutD ts lo hi):=by unfold cutV cutD;rw[r.length];exact(r.drop _).take _
theorem zms{ts:qD}{lo hi:Option Int}(h:HT.sIx (dP ts) 0 lo=0/\HT.sIx (dP ts) (dP ts) hi=dP ts):cutD ts lo hi=ts:=by unfold cutD;rw[h.1,h.2];simp
theorem zqV(h:DL X e d)(J:DP X lo dlo)(Y:DP X hi dhi):DN X (d0 e (.Slice lo hi ao p2) pos) (dSlL d dlo dhi):=by
 obtain⟨ta,pa,h⟩:=h;obtain⟨tl,pl,J⟩:=J;obtain⟨tu,pu,Y⟩:=Y;refine⟨_,zkO zsf pa pl pu,λC L σ H n Q R S hd hq=>?_⟩;refine h C L σ H n _ _ S hd λt n1 v H1 r1 e1 h1 q1=>?_;have S1:=S.on e1 h1;refine J C L σ H1 n1 _ _ S1 r1 λlo n2 H2 r2 N h2=>?_;have S2:=S1.on N h2;refine Y C L σ H2 n2 _ _ S2 r2 λhi n3 H3 Z U I=>?_;have S3:=S2.on U I;have q3:=(N.trans U).repT S.hx q1;cases t with
 | list ts =>obtain⟨a,vs,rfl,hs,rs⟩:=q3.lstI;refine⟨a,vs,rfl,.of hs,λp x=>?_⟩;have e:=e1.trans (N.trans U);refine hq _ n3 p _ _ Z (e.trans (ExtE.new x)) (I.same (JS x)) (Y9 e I x) JJ ?_;refine(zlh rs lo hi).mono (λb o G z=>ii z id λz=>?_) λb o _ G=>JS x b o G;subst z;rw[x]at G;cases G
 | _=>exact eJ Z
end
section
variable{X:Cx}
theorem zpb(hc:X.calm=bj):JK X (b4 "sum") (λxs H Q=>∃(a:aq) (ns:List Int),xs=[.ref a]/\SqL X.K H a (ns.map V.int)/\Q (.int ns.sum) H):=by
 intro pins s σ H xs us Q I r h;obtain⟨a,ns,rfl,C,q⟩:=h;obtain⟨u,rfl,x⟩:=vals1 r;cases x;obtain⟨its,G,p,hz⟩:=I.list C;have hi:=intsAre_of G;have v:s.heap.IsList a (bm its):=p.isList;obtain⟨xs,hx⟩:=hi.allInts.items;have o:numsOf (w9 its.toArray)=ns:=by rw[show w9 its.toArray=its from rfl,hi.numsOf]
 rw[hx]at v o;rw[nums_intItems]at o;refine sum_intListG (I.ok.hd hc) v λh' tk t' J=>?_;rw[preSum_eq,gK (by simp),o];exact⟨.int ns.sum,H,I.kept J,⟨_,rfl⟩,q⟩
def bSum:GC
 | [tE ts],R=>∃ns:List Int,ts=ns.map b5/\R (b5 ns.sum)
 | _,_=>False
theorem zxd:GpC X (λxs H Q=>∃(a:aq) (ns:List Int),xs=[.ref a]/\SqL X.K H a (ns.map V.int)/\Q (.int ns.sum) H) bSum:=by intro hd O H xs ts Q R dom rs h C;unfold bSum at h;split at h;obtain⟨ns,rfl,h⟩:=h;obtain⟨v,rfl,u⟩:=Qn rs;obtain⟨p,vs,rfl,l,x⟩:=u.lstI;rw[WA x]at l;exact⟨p,ns,rfl,.of l,C _ _ H h (Same.refl H) (.int _)⟩;exact eJ h
end
structure NxS(prog:aL)(w:aV)(i a:aq)(IT:Nat->bh->Prop)(SQ:bh->Array ah->Prop):Prop where
 rcd:∀k h,IT k h->∃o,be h i=ai o/\∀v,f7 o≠.cell v
 keep:∀k h h',IT k h->(∀o,be h i=ai o->be h' i=ai o)->IT k h'
 sk:∀h h' xs,SQ h xs->(∀o,be h a=ai o->be h' a=ai o)->SQ h' xs
 item:∀(A:bq) (E:qV) (k:Nat) (xs:Array ah) (x:ah) (s:au) (Q:qV),IT k s.heap->SQ s.heap xs->xs[k]?=ai x ->
  (∀h',IT (k+1) h'->cY i s.heap h'->Q x { s with heap:=h' })->wpAny (model prog w) A (bQ (aZ i)) Q E s
 done:∀(A:bq) (E:qV) (k:Nat) (xs:Array ah) (s:au) (Q:qV),A.handled=ao->IT k s.heap->SQ s.heap xs->xs[k]?=ao ->
  (∀h' e,mQ i s.heap h'->(∃o,be h' e=ai o/\jg o=aY "StopIteration")->E (aZ e) { s with heap:=h' })->wpAny (model prog w) A (bQ (aZ i)) Q E s
theorem zs4{prog:aL}{w:aV}{i a:aq}:NxS prog w i a (λk h=>h.IsListIter i a k) (λh xs=>h.IsList a xs) where
 rcd:=λk h ⟨o,e,c,d⟩=>⟨o,e,λv z=>by rw[d]at z;cases z⟩
 keep:=λk h h' x f=>x.at f
 sk:=λh h' xs x f=>x.at f
 item:=λA E k xs x s Q C l u h=>wpAny_nextOf_list_item C l u h
 done:=λA E k xs s Q G C l u h=>wpAny_nextOf_list_end G C l u h
section
variable{prog:aL}{w:aV}{A:bq}{E:qV}{s:au}
theorem ziL{i:aq}{T id:String}{Q:qV}{f:cI}(u:s.TypeIs (aZ i) T)(l:Bs T "__next__" id) (G:entryFor table id=ai f) (C:argsOk id ⟨[aZ i],[]⟩)
  (h:wpAny (model prog w) A.in1 (f ⟨[aZ i],[]⟩) (λfin s'=>∃v,fin=Af (Ag v)/\Q v s') E s):wpAny (model prog w) A (bQ (aZ i)) Q E s:=by
 unfold bQ;refine aa (bP (name:=ar "__next__") u l (bw l u G ?_ C));refine cn h (λfin s' x=>?_) λ_ _ e=>e;obtain⟨v,e,q⟩:=x;exact⟨v,e,af q⟩
theorem zh1{i a:aq}{k:Nat}{xs:Array ah}{x:ah}{Q:qV}(v:s.heap.IsTupleIter i a k)(C:s.heap.IsTuple a xs)(G:xs[k]?=ai x)
  (h:∀h',h'.IsTupleIter i a (k+1)->cY i s.heap h'->Q x { s with heap:=h' }):wpAny (model prog w) A (bQ (aZ i)) Q E s:=by
 refine ziL v.typeIs l6 lJ (lC _) ?_;obtain⟨o,u,J,l⟩:=v;obtain⟨p,f1,_,n,I⟩:=C;refine aa (m:=field (aZ i) 0) (cD u l (x:=aZ a) rfl ?_);have ne:¬((aZ a == dM)=bj):=λz=>by cases z
 rw[if_neg ne];refine aa (m:=field (aZ i) 1) (cD u l (x:=m6 k 0) rfl ?_);refine aa (m:=seqItems? (aZ a)) (cA f1 I ?_);simp only[bS,G];refine aa (dE u l (by simp) (af ⟨x,rfl,h _ ?_ (eC ..)⟩));refine⟨_,bK _ u (dA (bU l _)),?_,?_⟩;rw[fS];exact J;rw[bU l];simp[rawInt]
theorem zh2{i a:aq}{k:Nat}{xs:Array ah}{Q:qV}(I:A.handled=ao)(G:s.heap.IsTupleIter i a k)(J:s.heap.IsTuple a xs)(L:xs[k]?=ao)
  (h:∀h' e,mQ i s.heap h'->(∃o,be h' e=ai o/\jg o=aY "StopIteration")->E (aZ e) { s with heap:=h' }):wpAny (model prog w) A (bQ (aZ i)) Q E s:=by
 refine ziL G.typeIs l6 lJ (lC _) ?_;obtain⟨o,l,R,C⟩:=G;obtain⟨p,f1,_,n,N⟩:=J;refine aa (m:=field (aZ i) 0) (cD l C (x:=aZ a) rfl ?_);have ne:¬((aZ a == dM)=bj):=λz=>by cases z
 rw[if_neg ne];refine aa (m:=field (aZ i) 1) (cD l C (x:=m6 k 0) rfl ?_);refine aa (m:=seqItems? (aZ a)) (cA f1 N ?_);simp only[bS,L];refine aa (dh (aa (dE l C (by simp) ?_)));refine aa (m:=newExc (aY "StopIteration") []) ?_;simp only[newExc,newTuple];refine aa (bp ?_ (by size_fits));refine aa (m:=firstArgMember _ _) (i6 (a:=dM) (by first|rfl|(simp only[firstArgMember];rfl)) (bp ?_ (by size_fits)));simp only[raiseNew];refine aa (mX ?_);have v:A.in1.handled=ao:=I;first|rw[v]|rw[I]
 exact aa (af (oT (h _ _ (((eC ..).extBut.push _).push _) ⟨_,aA _ rfl,rfl⟩)))
end
theorem Heap.IsTupleIter.at'{h h':bh}{i a:aq}{k:Nat}(x:h.IsTupleIter i a k)(f:∀o,be h i=ai o->be h' i=ai o):h'.IsTupleIter i a k:=by obtain⟨o,e,r⟩:=x;exact⟨o,f o e,r⟩
theorem Heap.IsTuple.at'{h h':bh}{a:aq}{xs:Array ah}(x:h.IsTuple a xs)(f:∀o,be h a=ai o->be h' a=ai o):h'.IsTuple a xs:=by obtain⟨o,e,r⟩:=x;exact⟨o,f o e,r⟩
theorem zvU{prog:aL}{w:aV}{i a:aq}:NxS prog w i a (λk h=>h.IsTupleIter i a k) (λh xs=>h.IsTuple a xs) where
 rcd:=λk h ⟨o,e,c,d⟩=>⟨o,e,λv z=>by rw[d]at z;cases z⟩
 keep:=λk h h' x f=>Heap.IsTupleIter.at' x f
 sk:=λh h' xs x f=>Heap.IsTuple.at' x f
 item:=λA E k xs x s Q C l u h=>zh1 C l u h
 done:=λA E k xs s Q G C l u h=>zh2 G C l u h
structure ZAp(z TI TO i1 i2 a1 a2:aq):Prop where
 p:[z,TI,TO,i1,i2].Nodup
 q:∀a∈[a1,a2],a∉[z,TI,TO,i1,i2]
section
variable{prog:aL}{w:aV}{A:bq}{E:qV}{s:au}{z TI TO i1 i2 a1 a2:aq}{I1 I2:Nat->bh->Prop}{S1 S2:bh->Array ah->Prop}
structure ZSt(z TI TO i1 i2:aq)(I1 I2:Nat->bh->Prop)(f:ah)(k:Nat)(h:bh):Prop where
 zip:tF h z TI TO f
 ti:nQ h TI (aZ i1) (aZ i2)
 to:∃a b,nQ h TO a b
 it1:I1 k h
 it2:I2 k h
theorem zmG(D:ZAp z TI TO i1 i2 a1 a2):(z≠TI/\z≠TO/\z≠i1/\z≠i2/\TI≠TO/\TI≠i1/\TI≠i2/\TO≠i1/\TO≠i2/\i1≠i2)/\(a1≠z/\a1≠TO/\a1≠i1/\a1≠i2)/\(a2≠z/\a2≠TO/\a2≠i1/\a2≠i2):=by have l:=D.p;have v:=D.q;simp only[cz,ax,aU,or_false,not_or,uD,and_true,not_false_eq_true]at l;have o:=v a1 (by simp);have u:=v a2 (by simp);simp only[ax,aU,or_false,not_or]at o u;exact⟨⟨l.1.1,l.1.2.1,l.1.2.2.1,l.1.2.2.2,l.2.1.1,l.2.1.2.1,l.2.1.2.2,l.2.2.1.1,l.2.2.1.2,l.2.2.2⟩,⟨o.1,o.2.2.1,o.2.2.2.1,o.2.2.2.2⟩,⟨u.1,u.2.2.1,u.2.2.2.1,u.2.2.2.2⟩⟩
theorem z_item{k:Nat}{xs ys:Array ah}{x y:ah}{Q:qV}(D:ZAp z TI TO i1 i2 a1 a2)(N1:NxS prog w i1 a1 I1 S1)(N2:NxS prog w i2 a2 I2 S2)(st:ZSt z TI TO i1 i2 I1 I2 dM k s.heap)(s1:S1 s.heap xs)(s2:S2 s.heap ys)
  (hx:xs[k]?=ai x) (hy:ys[k]?=ai y)
  (hQ:∀h',ZSt z TI TO i1 i2 I1 I2 (rawInt s.heap.objs.size) (k+1) h'->nQ h' s.heap.objs.size x y->ap h'.objs=ap s.heap.objs+1 ->
   (∀c o,c≠z->c≠TO->c≠i1->c≠i2->be s.heap c=ai o->be h' c=ai o)->Q (aZ s.heap.objs.size) { s with heap:=h' }) :
  wpAny (model prog w) A (cI.«zip.__next__» ⟨[aZ z],[]⟩) (λfin s'=>∃v,fin=Af (Ag v)/\Q v s') E s:=by
 obtain⟨⟨d1,d2,d3,d4,d5,d6,d7,d8,d9,L⟩,⟨e1,e2,e3,e4⟩,⟨g1,g2,g3,g4⟩⟩:=zmG D;obtain⟨zip,ti,⟨va,vb,to⟩,it1,it2⟩:=st;refine aa (m:=field (aZ z) 2) (cD zip rfl (x:=nH bA) rfl ?_);refine aa (m:=field (aZ z) 3) (cD zip rfl (x:=aZ TI) rfl (aa (cA ti rfl ?_)));refine aa (m:=dF (aZ z)) ?_;unfold dF;refine aa (cD zip rfl (x:=dM) rfl (af ?_));simp only[if_true];refine aa (dh (aa (cD zip rfl (x:=aZ TO) rfl (aa (fI zip (by simp) λhA zA Y=>?_)))));have zA':tF hA z TI TO jo:=zA;refine aa ?_;simp only[sP,tS,iU,hZ];refine aa (aa (mY (aa (m:=bQ (aZ i1)) ?_)));refine N1.item _ _ k xs x _ _ (N1.keep _ _ _ it1 λo e=>Y.extBut _ _ d3.symm e) (N1.sk _ _ _ s1 λo e=>Y.extBut _ _ e1 e) hx λhB S bB=>af ?_;have toB:nQ hB TO va vb:=bB.extBut _ _ d8 (Y.extBut _ _ d2.symm to);refine aa (cA toB rfl (aa (k8 toB λhC toC bC=>?_)));have toC':nQ hC TO x vb:=toC;refine aa (ia (af ?_));refine aa (aa (mY (aa (m:=bQ (aZ i2)) ?_)));have I:∀c o,c≠z->c≠TO->c≠i1->be s.heap c=ai o->be hC c=ai o:=λc o C J c3 e=>bC.extBut _ _ J (bB.extBut _ _ c3 (Y.extBut _ _ C e));refine N2.item _ _ k ys y _ _ (N2.keep _ _ _ it2 λo e=>I _ _ d4.symm d9.symm L.symm e) (N2.sk _ _ _ s2 λo e=>I _ _ g1 g2 g3 e) hy λhD it2D bD=>af ?_;have toD:nQ hD TO x vb:=bD.extBut _ _ d9 toC';refine aa (cA toD rfl (aa (k8 toD λu toF bF=>?_)));have G:nQ u TO x y:=toF;refine aa (ia (af (af ?_)));refine aa (cA G rfl (aa (uA ?_)));have sz:ap u.objs=ap s.heap.objs:=by rw[bF.1,bD.1,bC.1,bB.1,Y.1]
 have U:∀c o,c≠z->c≠TO->c≠i1->c≠i2->be s.heap c=ai o->be u c=ai o:=λc o C J c3 c4 e=>bF.extBut _ _ J (bD.extBut _ _ c4 (I c o C J c3 e));have zF:tF u z TI TO jo:=bF.extBut _ _ d2 (bD.extBut _ _ d4 (bC.extBut _ _ d2 (bB.extBut _ _ d3 zA')));have R:z<ap u.objs:=aB zF;refine aa (m:=iG (aZ z) (aZ u.objs.size)) ?_;unfold iG;have zG:tF (dL u { cls:=aY "tuple",data:=f9 #[x,y] }) z TI TO jo:=aj _ zF;refine aa (fI zG (by simp) λhI zI bI=>?_);have zI':tF hI z TI TO (rawInt u.objs.size):=zI;refine fI zI' (by simp) λN zJ bJ=>af ⟨_,rfl,?_⟩;have Z:tF N z TI TO (rawInt u.objs.size):=zJ;have up:∀c o,c≠z->be u c=ai o->be N c=ai o:=λc o C e=>bJ.extBut _ _ C (bI.extBut _ _ C (aj _ e));have pr:nQ N u.objs.size x y:=bJ.extBut _ _ (i8 R) (bI.extBut _ _ (i8 R) (aA _ rfl));have szJ:ap N.objs=ap u.objs+1:=by rw[bJ.1,bI.1,cR]
 rw[sz]at Z pr szJ;show Q (aZ u.objs.size) _;rw[sz];refine hQ N ⟨Z,up _ _ d1.symm (U _ _ d1.symm d5 d6 d7 ti),⟨x,y,up _ _ d2.symm G⟩,?_,?_⟩ pr szJ λc o C J c3 c4 e=>up c o C (U c o C J c3 c4 e);exact N1.keep _ _ _ S λo e=>up _ _ d3.symm (bF.extBut _ _ d8.symm (bD.extBut _ _ L (bC.extBut _ _ d8.symm e)));exact N2.keep _ _ _ it2D λo e=>up _ _ d4.symm (bF.extBut _ _ d9.symm e)
theorem z_end{k:Nat}{xs ys:Array ah}{Q:PySem.Fin->au->Prop}(hh:A.handled=ao)(D:ZAp z TI TO i1 i2 a1 a2)(Y:NxS prog w i1 a1 I1 S1)(N2:NxS prog w i2 a2 I2 S2)(st:ZSt z TI TO i1 i2 I1 I2 dM k s.heap)(s1:S1 s.heap xs)(s2:S2 s.heap ys)
  (hxy:xs[k]?=ao\/ys[k]?=ao)
  (hE:∀h' e,(∀c o,c≠z->c≠TO->c≠i1->c≠i2->be s.heap c=ai o->be h' c=ai o)->(∃o,be h' e=ai o/\jg o=aY "StopIteration")->E (aZ e) { s with heap:=h' }) :
  wpAny (model prog w) A (cI.«zip.__next__» ⟨[aZ z],[]⟩) Q E s:=by
 obtain⟨⟨d1,d2,d3,d4,d5,d6,d7,d8,d9,Z⟩,⟨e1,e2,e3,e4⟩,⟨g1,g2,g3,g4⟩⟩:=zmG D;obtain⟨zip,ti,⟨va,vb,to⟩,it1,it2⟩:=st;refine aa (m:=field (aZ z) 2) (cD zip rfl (x:=nH bA) rfl ?_);refine aa (m:=field (aZ z) 3) (cD zip rfl (x:=aZ TI) rfl (aa (cA ti rfl ?_)));refine aa (m:=dF (aZ z)) ?_;unfold dF;refine aa (cD zip rfl (x:=dM) rfl (af ?_));simp only[if_true];refine aa (dh (aa (cD zip rfl (x:=aZ TO) rfl (aa (fI zip (by simp) λhA zA L=>?_)))));have R:tF hA z TI TO jo:=zA;refine aa ?_;simp only[sP,tS,iU,hZ];refine aa (aa (mY (aa (m:=bQ (aZ i1)) ?_)));have I:=Y.keep _ _ _ it1 λo e=>L.extBut _ _ d3.symm e;have N:=Y.sk _ _ _ s1 λo e=>L.extBut _ _ e1 e;cases hx:xs[k]? with
 | none =>
  refine Y.done _ _ k xs _ _ hh I N hx λhB e G v=>?_;obtain⟨oe,he,hc⟩:=v;have zB:tF hB z TI TO jo:=G _ _ d3 R;have ez:e≠z:=λy=>by subst y;rw[zB]at he;cases he;simp at hc
  exact fI zB (by simp) λhC _ U=>hE hC e (λc o C _ J _ y=>U.extBut _ _ C (G _ _ J (L.extBut _ _ C y))) ⟨oe,U.extBut _ _ ez he,hc⟩
 | some x =>
  have hy:ys[k]?=ao:=by rcases hxy with h|h;rw[hx]at h;cases h;exact h
  refine Y.item _ _ k xs x _ _ I N hx λhB it1B G=>af ?_;have S:nQ hB TO va vb:=G.extBut _ _ d8 (L.extBut _ _ d2.symm to);refine aa (cA S rfl (aa (k8 S λhC toC U=>?_)));refine aa (ia (af ?_));refine aa (aa (mY (aa (m:=bQ (aZ i2)) ?_)));have u:∀c o,c≠z->c≠TO->c≠i1->be s.heap c=ai o->be hC c=ai o:=λc o C c2 J e=>U.extBut _ _ c2 (G.extBut _ _ J (L.extBut _ _ C e));refine N2.done _ _ k ys _ _ hh (N2.keep _ _ _ it2 λo e=>u _ _ d4.symm d9.symm Z.symm e) (N2.sk _ _ _ s2 λo e=>u _ _ g1 g2 g3 e) hy λhD e bD v=>?_;obtain⟨oe,he,hc⟩:=v;have zD:tF hD z TI TO jo:=bD _ _ d4 (U.extBut _ _ d2 (G.extBut _ _ d3 R));have ez:e≠z:=λy=>by subst y;rw[zD]at he;cases he;simp at hc
  exact fI zD (by simp) λhF _ bF=>hE hF e (λc o C c2 J c4 y=>bF.extBut _ _ C (bD _ _ c4 (u c o C c2 J y))) ⟨oe,bF.extBut _ _ ez he,hc⟩
theorem zus{k:Nat}{xs ys:Array ah}{x y:ah}{Q:Option ah->au->Prop}(D:ZAp z TI TO i1 i2 a1 a2)(u:NxS prog w i1 a1 I1 S1)(v:NxS prog w i2 a2 I2 S2)(st:ZSt z TI TO i1 i2 I1 I2 dM k s.heap)(s1:S1 s.heap xs)(s2:S2 s.heap ys)
  (hx:xs[k]?=ai x) (I:ys[k]?=ai y)
  (J:∀h',ZSt z TI TO i1 i2 I1 I2 (rawInt s.heap.objs.size) (k+1) h'->nQ h' s.heap.objs.size x y->ap h'.objs=ap s.heap.objs+1 ->
   (∀c o,c≠z->c≠TO->c≠i1->c≠i2->be s.heap c=ai o->be h' c=ai o)->Q (ai (aZ s.heap.objs.size)) { s with heap:=h' }) :
  wpAny (model prog w) A (pyNext (aZ z)) Q E s:=by
 have l:s.TypeIs (aZ z) "zip":=⟨_,st.zip,rfl⟩;unfold pyNext;exact aa (gf (bP (name:=ar "__next__") l lD (bw lD l sQ
  (z_item D u v st s1 s2 hx I λh' L G C N=>af (J h' L G C N)) (rR _))))
theorem zur{k:Nat}{xs ys:Array ah}{Q:Option ah->au->Prop}(G:A.handled=ao)(D:ZAp z TI TO i1 i2 a1 a2)(v:NxS prog w i1 a1 I1 S1)(x:NxS prog w i2 a2 I2 S2)(st:ZSt z TI TO i1 i2 I1 I2 dM k s.heap)(s1:S1 s.heap xs)(s2:S2 s.heap ys)
  (l:xs[k]?=ao\/ys[k]?=ao) (J:∀h',(∀c o,c≠z->c≠TO->c≠i1->c≠i2->be s.heap c=ai o->be h' c=ai o)->Q ao { s with heap:=h' }):wpAny (model prog w) A (pyNext (aZ z)) Q E s:=by
 have u:s.TypeIs (aZ z) "zip":=⟨_,st.zip,rfl⟩;unfold pyNext;refine aa (gf (bP (name:=ar "__next__") u lD (bw lD u sQ
  (z_end G D v x st s1 s2 l λh' e I ⟨o,C,hc⟩=>?_) (rR _))))
 exact aa (gA (T:="StopIteration") (b:=bj) ⟨o,C,hc⟩ l8 (af (J _ I)))
end
def SqB(t:Bool)(K:qF)(H:Hp)(a:aq)(xs:List V):Prop:=match t with|true=>SqT K H a xs|false=>SqL K H a xs
def ITB(t:Bool)(i a:aq):Nat->bh->Prop:=match t with|true=>λk h=>h.IsTupleIter i a k|false=>λk h=>h.IsListIter i a k
def SQB(t:Bool)(a:aq):bh->Array ah->Prop:=match t with|true=>λh xs=>h.IsTuple a xs|false=>λh xs=>h.IsList a xs
def itN(t:Bool):String:=match t with|true=>"tuple_iterator" | false=>"list_iterator"
theorem nx_B{prog:aL}{w:aV}{i a:aq}(t:Bool):NxS prog w i a (ITB t i a) (SQB t a):=by cases t;exact zs4;exact zvU
section
variable{X:Cx}{pins:qO}{σ:St}{H:Hp}{s:au}
theorem Inv.seqB{t:Bool}{a:aq}{xs:List V}(I:Inv X pins σ H s)(h:SqB t X.K H a xs):∃its:List ah,Vals xs its/\SQB t a s.heap (bm its)/\dP xs<=sizeLine:=by cases t;obtain⟨its,r,p,z⟩:=I.list h;exact⟨its,r,p.isList,z⟩;obtain⟨its,r,p,z⟩:=I.tuple h;exact⟨its,r,p,z⟩
theorem Inv.injB{t:Bool}{a:aq}{xs ys:List V}(I:Inv X pins σ H s)(h:SqB t X.K H a xs)(h':SqB t X.K H a ys):xs=ys:=by cases t;exact I.list_inj h h';exact I.tuple_inj h h'
theorem Inv.turnedL{h':bh}{t':Nat}(ch:List aq)(I:Inv X pins σ H s)(k:∀b o,b∉ch->be s.heap b=ai o->be h' b=ai o)(f:∀b∈ch,FpOk X pins H b):Inv X pins σ H { s with heap:=h',toks:=t' }:=by
 have l:∀b u,H b=ai u->b∉ch:=λb u e z=>by rw[(f b z).1]at e;cases e
 refine I.step (g':=jh s) (d':=jr s) (ch:=ch) (λb x=>⟨(f b x).2.2.2.1,(f b x).2.1,(f b x).2.2.2.2.1,(f b x).2.2.2.2.2⟩) (λb o _ _ hc e _=>k b o hc e) (λb o _ _ hc e _=>⟨o.slots,k b o hc e⟩) (λ_ _ _ _ n=>n) (λb o hc e=>⟨o,k b o hc e⟩) (λ_ _ e=>e) (λ_ _ _ e=>e)
  (λ_ _ e=>e) (λm ⟨o,es,ep,C,r⟩=>⟨o,es,ep,k _ o (λz=>(f _ z).2.1 rfl) C,r⟩) (λb u e=>(I.hok b u e).stay (λc v hc q=>k c v ?_ q) (λ_ q=>q) (λ_ _ q=>q) λ_ _ _ q=>q) I.bare
 rcases hc with z|z;rw[z];exact l b u e;exact l c _ z
variable{prog:aL}{w:aV}{A:bq}{E:qV}
theorem zwH{t:Bool}{a:aq}{xs:Array ah}{Q:qV}(h:SQB t a s.heap xs)(o:Q (aZ s.heap.objs.size) { s with heap:=dL s.heap { cls:=aY (itN t),data:=ed #[aZ a,m6 0 0] } }):wpAny (model prog w) A (pyIter (aZ a)) Q E s:=by cases t;exact gZ h o;exact iW h o
theorem SQB.push{t:Bool}{a:aq}{xs:Array ah}{h:bh}(x:SQB t a h xs)(o:Obj):SQB t a (dL h o) xs:=by cases t;exact Dg x o;exact Cq x o
abbrev zA(h:bh)(t:Bool)(a:aq):bh:=dL h { cls:=aY (itN t),data:=ed #[aZ a,m6 0 0] }
abbrev zB(h:bh)(t u:Bool)(a b:aq):bh:=dL (zA h t a) { cls:=aY (itN u),data:=ed #[aZ b,m6 0 0] }
abbrev zC(h:bh)(t u:Bool)(a b:aq):bh:=dL (zB h t u a b) { cls:=aY "tuple",data:=f9 #[aZ h.objs.size,aZ (zA h t a).objs.size] }
abbrev zD(h:bh)(t u:Bool)(a b:aq):bh:=dL (zC h t u a b) { cls:=aY "tuple",data:=f9 #[dM,dM] }
abbrev zE(h:bh)(t u:Bool)(a b:aq):bh:=dL (zD h t u a b) { cls:=aY "zip",data:=ed #[dM,nH bA,nH bA,aZ (zB h t u a b).objs.size,aZ (zC h t u a b).objs.size] }
theorem zqt(t u:Bool)(a b:aq)(xs ys:Array ah) :
  Meets (cI.«zip.__new__» ⟨[aY "zip",aZ a,aZ b],[]⟩) (λ_ R s=>SQB t a s.heap xs/\SQB u b s.heap ys/\R (.ok (Ag (aZ (zD s.heap t u a b).objs.size))) { s with heap:=zE s.heap t u a b }) :=
 .of_wp λprog w A R s h=>by obtain⟨v,g,d,tk,os⟩:=s;obtain⟨C,x,h⟩:=h;have I:=sub_zip;have G:SQB t a (y4 ⟨v,g,d,tk,os⟩) xs:=C;have L2:SQB u b (y4 ⟨dL v { cls:=aY (itN t),data:=ed #[aZ a,m6 0 0] },g,d,tk,os⟩) ys:=SQB.push x _;wp_walk using zwH G,zwH L2;exact⟨_,rfl,h⟩
theorem ITB.new{t:Bool}{i a:aq}{h:bh}(e:be h i=ai { cls:=aY (itN t),data:=ed #[aZ a,m6 0 0] }):ITB t i a 0 h:=by cases t;exact⟨_,e,rfl,rfl⟩;exact⟨_,e,rfl,rfl⟩
theorem zt8{t u:Bool}{a b:aq}{xs ys:Array ah}{Q:qV}(N:SQB t a s.heap xs)(L:SQB u b s.heap ys)
  (h:∀h',ZSt (ap s.heap.objs+4) (ap s.heap.objs+2) (ap s.heap.objs+3) s.heap.objs.size (ap s.heap.objs+1) (ITB t s.heap.objs.size a) (ITB u (ap s.heap.objs+1) b) dM 0 h'->ap h'.objs=ap s.heap.objs+5 ->
   (∀c o,be s.heap c=ai o->be h' c=ai o)->Q (aZ (ap s.heap.objs+4)) { s with heap:=h' }) :
  wpAny (model prog w) A (call (aY "zip") [aZ a,aZ b]) Q E s:=by
 refine callType_new F.called_zip (by decide) (F.typeCall_zip_2 _ _) (F.newCall_zip_2 _ _) (λobj=>F.args_object_init_3 obj _ _) F.entry_zip_new (zqt t u a b xs ys) ⟨N,L,?_⟩;have G:(zA s.heap t a).objs.size=ap s.heap.objs+1:=cR ..;have v:(zB s.heap t u a b).objs.size=ap s.heap.objs+2:=by rw[cR,G]
 have I:(zC s.heap t u a b).objs.size=ap s.heap.objs+3:=by rw[cR,v]
 have C:(zD s.heap t u a b).objs.size=ap s.heap.objs+4:=by rw[cR,I]
 have R:(zE s.heap t u a b).objs.size=ap s.heap.objs+5:=by rw[cR,C]
 have l:be (zE s.heap t u a b) (zD s.heap t u a b).objs.size=ai _:=aA _ rfl;have J:be (zE s.heap t u a b) (zC s.heap t u a b).objs.size=ai _:=aj _ (aA _ rfl);have g3:be (zE s.heap t u a b) (zB s.heap t u a b).objs.size=ai _:=aj _ (aj _ (aA _ rfl));have g2:be (zE s.heap t u a b) (zA s.heap t a).objs.size=ai _:=aj _ (aj _ (aj _ (aA _ rfl)));have g1:be (zE s.heap t u a b) s.heap.objs.size=ai _:=aj _ (aj _ (aj _ (aj _ (aA _ rfl))));show _/\_;rw[v,I,C]at l;rw[G,v]at g3;rw[I]at J;rw[G]at g2;rw[C];refine⟨⟨_,l,rfl⟩,h _ ⟨l,g3,⟨_,_,J⟩,.new g1,.new g2⟩ R λc o x=>?_⟩;iterate 5 refine aj _ ?_
 exact x
end
def Itz(t u:Bool)(K:qF)(a b:aq):It :=
 ⟨λi H=>∃xs ys x y,SqB t K H a xs/\SqB u K H b ys/\xs[i]?=ai x/\ys[i]?=ai y,
  λi H v H'=>∃p x y,H p=ao/\v=.ref p/\(∀xs,SqB t K H a xs->xs[i]?=ai x)/\(∀ys,SqB u K H b ys->ys[i]?=ai y)/\H'=upd H p (.tup [x,y]),
  λi H=>∃xs ys,SqB t K H a xs/\SqB u K H b ys/\(dP xs<=i\/dP ys<=i)⟩
theorem zpI{P:aL}{w:aV}{K:qF}{elts:List aX}{x1:_}{pos:Pos}{t u:Bool}{z TI TO G C a b:aq}(D:ZAp z TI TO G C a b) :
  Turn P w K (jb elts x1 pos) (Itz t u K a b) [z,TI,TO,G,C] z (λi h=>ZSt z TI TO G C (ITB t G a) (ITB u C b) dM i h) where
 mem:=by simp
 obj:=λi h st c hc=>by obtain⟨N,ti,⟨Y,Z,to⟩,J,L⟩:=st;simp only[ax,aU,or_false]at hc;rcases hc with rfl|rfl|rfl|rfl|rfl;exact⟨_,N,λv y=>by cases y⟩;exact⟨_,ti,λv y=>by cases y⟩;exact⟨_,to,λv y=>by cases y⟩;exact(nx_B (prog:=P) (w:=w) t).rcd _ _ J;exact(nx_B (prog:=P) (w:=w) u).rcd _ _ L
 keep:=λi h h' st k=>by obtain⟨N,ti,⟨Y,Z,to⟩,J,L⟩:=st;exact⟨k _ (by simp) _ N,k _ (by simp) _ ti,⟨Y,Z,k _ (by simp) _ to⟩,(nx_B (prog:=P) (w:=w) t).keep _ _ _ J (k _ (by simp)),(nx_B (prog:=P) (w:=w) u).keep _ _ _ L (k _ (by simp))⟩
 item:=by
  intro X hP hw hK hc i pins s σ H E I hf st hg;subst hP hw hK;obtain⟨xs,ys,x,y,q1,q2,hx,hy⟩:=hg;obtain⟨its,r1,p1,z1⟩:=I.seqB q1;obtain⟨jts,r2,p2,z2⟩:=I.seqB q2;obtain⟨S,hux,rux⟩:=r1.get hx;obtain⟨R,huy,ruy⟩:=r2.get hy;refine zus D (nx_B t) (nx_B u) st p1 p2 (x:=S) (y:=R) (by simpa using hux) (by simpa using huy) λh' U pr sz kp=>?_;refine⟨_,rfl,?_⟩;refine wpAny_letOwnedTupleGo_zip (s:={ s with heap:=h' }) U.zip λh2 z2' sb=>?_;obtain⟨⟨d1,d2,d3,d4,d5,d6,d7,d8,d9,d10⟩,_,_⟩:=zmG D;have big:∀c∈[z,TI,TO,G,C],c<ap s.heap.objs:=λc hc=>by obtain⟨N,ti,⟨Y,Z,to⟩,J,L⟩:=st;simp only[ax,aU,or_false]at hc;rcases hc with rfl|rfl|rfl|rfl|rfl;exact aB N;exact aB ti;exact aB to;obtain⟨o,e,_⟩:=(nx_B (prog:=X.prog) (w:=X.w) t).rcd _ _ J;exact aB e;obtain⟨o,e,_⟩:=(nx_B (prog:=X.prog) (w:=X.w) u).rcd _ _ L;exact aB e
  have hp:H s.heap.objs.size=ao:=I.hok.fresh (av _);have I1:Inv X pins σ (upd H s.heap.objs.size (.tup [x,y])) { s with heap:=dL s.heap { cls:=aY "tuple",data:=f9 #[S,R] } } :=
   I.laid (t':=dn s) (λb o e=>aj _ e) (av _) (show JE X.prog X.w _ _ _ (.tup [x,y]) from⟨by show 2<=sizeLine;decide,[S,R],f6 rux (f6 ruy ja),IsTD.new _ _⟩)
  have npos:∀c∈[z,TI,TO,G,C],c≠ap s.heap.objs:=λc hc=>aO (big c hc);have fu:∀c∈[z,TI,TO,G,C],upd H s.heap.objs.size (.tup [x,y]) c=ao:=λc hc=>by rw[Jo (npos c hc)];exact(hf c hc).1
  refine⟨.ref s.heap.objs.size,upd H s.heap.objs.size (.tup [x,y]),?_,rfl,⟨_,x,y,hp,rfl,λxs' h=>by rw[I.injB h q1];exact hx,λys' h=>by rw[I.injB h q2];exact hy,rfl⟩,?_,fu⟩;refine Inv.turnedL (s:={ s with heap:=dL s.heap { cls:=aY "tuple",data:=f9 #[S,R] } }) (t':=dn s) [z,TO,G,C] I1 (λc o hc e=>?_) λc hc=>?_;simp only[ax,aU,or_false,not_or]at hc;refine sb.extBut _ _ hc.1 ?_;by_cases y:c=ap s.heap.objs;subst y;have e':be (dL s.heap { cls:=aY "tuple",data:=f9 #[S,R] }) s.heap.objs.size=ai _:=aA _ rfl;have e2:ai o=ai _:=b3 e.symm e';cases e2;exact pr;have e':be s.heap c=ai o:=by have e3:be (dL s.heap { cls:=aY "tuple",data:=f9 #[S,R] }) c=ai o:=e;rwa [eY _ _ _ y]at e3
  exact kp c o hc.1 hc.2.1 hc.2.2.1 hc.2.2.2 e';have m:c∈[z,TI,TO,G,C]:=by simp only[ax,aU,or_false]at hc ⊢;rcases hc with h|h|h|h <;> simp[h]
  exact⟨fu c m,(hf c m).2⟩;obtain⟨N,ti,⟨Y,Z,to⟩,J,L⟩:=U;exact⟨z2',sb.extBut _ _ d1.symm ti,⟨Y,Z,sb.extBut _ _ d2.symm to⟩,(nx_B (prog:=X.prog) (w:=X.w) t).keep _ _ _ J λo e=>sb.extBut _ _ d3.symm e,(nx_B (prog:=X.prog) (w:=X.w) u).keep _ _ _ L λo e=>sb.extBut _ _ d4.symm e⟩
 done:=by intro X hP hw hK hc i pins s σ H E I hf st hg;subst hP hw hK;obtain⟨xs,ys,q1,q2,hx⟩:=hg;obtain⟨its,r1,p1,z1⟩:=I.seqB q1;obtain⟨jts,r2,p2,z2⟩:=I.seqB q2;have l1:=r1.length;have l2:=r2.length;refine zur (I.ok.hd hc) D (nx_B t) (nx_B u) st p1 p2 (by rcases hx with h|h;exact fj (by simp;omega);exact xw (by simp;omega)) λh' kp=>⟨rfl,?_⟩;refine Inv.turnedL (t':=dn s) [z,TO,G,C] I (λc o hc e=>?_) λc hc=>hf c ?_;simp only[ax,aU,or_false,not_or]at hc;exact kp c o hc.1 hc.2.1 hc.2.2.1 hc.2.2.2 e;simp only[ax,aU,or_false]at hc ⊢;rcases hc with h|h|h|h <;> simp[h]
 self:=λ_ _ _ _ _ st h=>sR st.zip h
section
variable{X:Cx}{a b:aX}{elts:List aX}{x1:Nat}{p p' pos:Pos}
def iZip(K:qF)(o:TA):TI:=λσ H R=>o σ H λvs l=>∃(t u:Bool) (c d:aq) (xs ys:List V),vs=[.ref c,.ref d]/\SqB t K l c xs/\SqB u K l d ys/\R (Itz t u K c d) l
theorem SQB.lt{t:Bool}{c:aq}{xs:Array ah}{h:bh}(x:SQB t c h xs):c<ap h.objs:=by cases t;obtain⟨o,e,_⟩:=x;exact aB e;obtain⟨o,e,_⟩:=x;exact aB e
theorem zr9{n:Nat}{c d:aq}(u:c<n)(o:d<n):ZAp (n+4) (n+2) (n+3) n (n+1) c d:=by
 have ne:∀(e:aq) (k:Nat),e<n->e≠n+k:=λe k h=>aO (aP h (iz _ _));refine⟨by simp,λe he=>?_⟩;have l:e<n:=by simp only[ax,aU,or_false]at he;rcases he with rfl|rfl;exact u;exact o
 simp only[ax,aU,or_false,not_or];exact⟨ne e 4 l,ne e 2 l,ne e 3 l,aO l,ne e 1 l⟩
theorem zvj{L:TA}(Z:Gl X "zip") (hm:X.mg "zip" = ao) (ha:PA X [a,b] L) (hs:starEach [a,b] X.env=[(bA,eval a X.env),(bA,eval b X.env)]) (o:starEach [b] X.env=[(bA,eval b X.env)]) :
  PI X (jb elts x1 p') (ee (bn "zip" p) [a,b] [] pos) (iZip X.K L):=by
 intro pins s σ H R I h;refine Call_ (YZ I Z hm boot_zip (fq (thn (ha pos pins s σ H _ I h) λus s1 ⟨vs,U,v,S,q1⟩=>?_) (by rw[hs,o]) (by rw[o];rfl)));obtain⟨t,u,c,d,xs,ys,rfl,G,x,q⟩:=q1;cases S with
 | cons r J =>
  cases J with
  | cons r' J =>
   cases J;cases r;cases r';obtain⟨its,_,p1,_⟩:=v.seqB G;obtain⟨Y,_,p2,_⟩:=v.seqB x;refine zt8 p1 p2 λh' st sz kp=>?_;refine sR (s:={ s1 with heap:=h' }) st.zip ?_;refine⟨_,_,_,_,U,rfl,v.kept (t':=dn s1) kp,zpI (zr9 p1.lt p2.lt),st,λe he=>?_,q⟩;have ge:ap s1.heap.objs<=e:=by simp only[ax,aU,or_false]at he;rcases he with rfl|rfl|rfl|rfl|rfl;exact iz _ _;exact iz _ _;exact iz _ _;exact av _;exact iz _ _
   exact v.fpOk ge (v.hok.fresh ge)
theorem srcB{K:qF}{hd:Option aq}{P O:aq->Prop}{H:Hp}{v:V}{t:ae}{ts:qD}(L:∀a,¬O a->P a)(r:Rep K hd O H v t)(h:t=fX ts\/t=tE ts) :
  ∃(k:Bool) (q:aq) (vs:List V),v=.ref q/\SqB k K H q vs/\∀(C:aq->Prop) (x:Hp),(∀a o,H a=ai o->P a->x a=ai o)->(∀a o,H a=ai o->¬O a->¬C a)->SqB k K x q vs/\Reps K hd C x vs ts:=by
 have N:∀vs,Reps K hd O H vs ts->∀(C:aq->Prop) (x:Hp),(∀a o,H a=ai o->P a->x a=ai o)->(∀a o,H a=ai o->¬O a->¬C a)->Reps K hd C x vs ts:=λvs r C x G I =>
  r.mono (λa o R z=>bg λno=>I a o R no z) λa o no R=>G a o R (L a no)
 rcases h with rfl|rfl;cases r with
 | @tup q vs ds h o r=>exact⟨bj,q,vs,rfl,fj (fj h),λC x G I=>⟨fj (fj (G q _ h (L q o))),N vs r C x G I⟩⟩
 | @tupS q vs ds h r=>exact⟨bj,q,vs,rfl,h.sq,λC x G I=>⟨h.sq,N vs r C x G I⟩⟩
 obtain⟨q,vs,rfl,J,no,r⟩:=r.lstI;exact⟨bA,q,vs,rfl,SqL.of J,λC x G I=>⟨SqL.of (G q _ J (L q no)),N vs r C x G I⟩⟩
def zipD(xs ys:qD):List ae:=(xs.zip ys).map λq=>fX [q.1,q.2]
def dZip(o db:DTE):DTA:=λl n R=>o l n λx u=>db l u λy v=>JU x λxs=>JU y λys=>R (zipD xs ys) v
theorem zk1{t:ae}{R:qD->Prop}(h:JU t R):∃ts,(t=fX ts\/t=tE ts)/\R ts:=by
 cases t with
 | list ts=>exact⟨ts,xw rfl,h⟩
 | tuple ts=>exact⟨ts,fj rfl,h⟩
 | _=>exact eJ h
theorem zrS{da db:DTE}(hm:X.mg "zip" = ao) (h:DE X a da) (h':DE X b db) (hg:Gl X "zip":=by rfl) (hs:starEach [a,b] X.env=[(bA,eval a X.env),(bA,eval b X.env)]:=by rfl) (G:starEach [b] X.env=[(bA,eval b X.env)]:=by rfl) :
  DI X (jb elts x1 p') (ee (bn "zip" p) [a,b] [] pos) (dZip da db):=by
 obtain⟨ta,pa,h⟩:=h;obtain⟨tb,pb,h'⟩:=h';refine⟨_,zvj hg hm (Qu pa (Qu pb QI G) (by rw[hs,G])) hs G,λC ρ σ H n Q R S hd hq=>?_⟩;refine h C ρ σ H n _ _ S hd λx n1 v H1 r1 e1 hn1 q1=>?_;have S1:=S.on e1 hn1;refine h' C ρ σ H1 n1 _ _ S1 r1 λy n2 w H2 L e2 hn2 q2=>?_;have q1':=e2.rep S.hx q1;obtain⟨xs,hx,L⟩:=zk1 L;obtain⟨ys,hy,L⟩:=zk1 L;obtain⟨k1,c,vs,rfl,s1,f1⟩:=srcB (P:=λa=>¬Own C ρ σ a) (λ_ z=>z) q1' hx;obtain⟨k2,d,ws,rfl,s2,f2⟩:=srcB (P:=λa=>¬Own C ρ σ a) (λ_ z=>z) q2 hy;refine⟨k1,k2,c,d,vs,ws,rfl,s1,s2,hq _ n2 _ H2 L (e1.trans e2) hn2 ?_⟩;intro O2 H3 h1 h2 h3;obtain⟨g1,Z⟩:=f1 O2 H3 h1 h2;obtain⟨g2,U⟩:=f2 O2 H3 h1 h2;refine⟨λi t I=>?_,?_⟩;unfold zipD at I;rw[aT]at I;cases ez:(xs.zip ys)[i]? with
 | none=>rw[ez]at I;cases I
 | some q =>rw[ez]at I;cases I;obtain⟨ex,ey⟩:=mD.mp ez;obtain⟨vx,Y,rx⟩:=Z.get ex;obtain⟨vy,J,ry⟩:=U.get ey;refine⟨⟨vs,ws,vx,vy,g1,g2,Y,J⟩,λv H4 hyd=>?_⟩;obtain⟨pp,x',y',hp,rfl,hx',hy',rfl⟩:=hyd;have e1:x'=vx:=aG ((hx' vs g1).symm.trans Y);have e2:y'=vy:=aG ((hy' ws g2).symm.trans J);subst e1 e2;exact⟨JS hp,.newT (λz=>h3 pp z hp) hp (.cons rx (.cons ry .nil))⟩
 refine⟨vs,ws,g1,g2,?_⟩;have:=Z.length;have:=U.length;unfold zipD;simp only[aI,gR];omega
variable{d da db:DTE}{dlo dhi:DTO}{ρ:En}{n:Nat}{Ro:Option Int->Nat->Prop}{Rl:qD->Nat->Prop}{xs ys:qD}{lo hi:Option Int}{Ql:qD->Prop}
theorem zwZ(h:d ρ n λt o=>dlo ρ o λlo u=>dhi ρ u λhi l=>lSl t lo hi λz=>Rl z l):dSlL d dlo dhi ρ n Rl:=h
theorem zor(h:Ro ao n):zkj ρ n Ro:=h
theorem ztA(h:d ρ n λt l=>lInt t λi=>Ro (ai i) l):zt3 d ρ n Ro:=h
theorem zzR(h:Ql (cutD xs lo hi)):lSl (tE xs) lo hi Ql:=h
theorem zwV(h:da ρ n λx l=>db ρ l λy o=>JU x λxs=>JU y λys=>Rl (zipD xs ys) o):dZip da db ρ n Rl:=h
end
theorem zlg{ts:qD}:cutD ts (ai 1) ao=ts.tail:=by
 unfold cutD;rw[HT.zhe,show(ai (1:Int))=ai ((1:Nat):Int) from rfl,HT.zjE];cases ts with
 | nil=>simp
 | cons a l =>
  have:min 1 (dP (a::l))=1:=by simp
  rw[this];simp
class Stp (P:Prop)(Q:outParam Prop):Prop where
 go:Q->P
section
variable{t u tb:DTS}{D:JN}{ρ:En}{n i j:Nat}{d da db dc:DTE}{ds di:DTA}{c c':DTT}{g:G2}{g':G2}{gc:GC}{gd:GD}{tg:DTG}{tgs:DTGs}{R:qN}{Rb:Bool->Nat->Prop}{Rl:qD->Nat->Prop}{Re:En->Prop}{x y:ae}{xs:qD}{fb:ae->Bool}
instance zyg :Stp (sSeq t u D ρ n) ((t { D with nx:=u D } ρ n)):=⟨λh=>zwL h⟩
instance zuP :Stp (zsp D ρ n) ((D.nx ρ n)):=⟨λh=>ztv h⟩
instance zyh :Stp (sRet d D ρ n) ((d ρ n λt n'=>D.rt t n')):=⟨λh=>zwM h⟩
instance zzl :Stp (sIf c t u D ρ n) ((c ρ n λb n1=>if b=bj then t D ρ n1 else u D ρ n1)):=⟨λh=>zAf h⟩
instance zyj :Stp (sAsg d tg D ρ n) ((d ρ n λt n'=>tg t ρ λρ'=>D.nx ρ' n')):=⟨λh=>zwP h⟩
instance zyi :Stp (sFor di tg tb D ρ n) ((di ρ n λts n1=>forP tg tb D ts ρ n1)):=⟨λh=>zwO h⟩
instance zAQ :Stp (dC x ρ n R) ((R x n)):=⟨λh=>i_dC h⟩
instance zzn :Stp (dOp g da db ρ n R) ((da ρ n λx n1=>db ρ n1 λy n2=>g x y λz=>R z n2)):=⟨λh=>zAj h⟩
instance zyu :Stp (dNew ds ρ n R) ((ds ρ n λts n'=>R (tE ts) n')):=⟨λh=>zw3 h⟩
instance zyo :Stp (dTup ds ρ n R) ((ds ρ n λts n1=>R (fX ts) n1)):=⟨λh=>zwX h⟩
instance zyt :Stp (dNil ρ n Rl) ((Rl [] n)):=⟨λh=>zw2 h⟩
instance zuV :Stp (Qa d ds ρ n Rl) ((d ρ n λt n1=>ds ρ n1 λts n2=>Rl (t::ts) n2)):=⟨λh=>ztC h⟩
instance zzo :Stp (dFn gd ds ρ n R) ((ds ρ n λts n1=>gd ts n1 R)):=⟨λh=>zAk h⟩
instance zyz :Stp (dFnL gd ds ρ n R) ((ds ρ n λts n1=>gd ts n1 λt n2=>Q6 t=bj/\R t n2)):=⟨λh=>zw8 h⟩
instance zup :Stp (ZO gc ds ρ n R) ((ds ρ n λts n1=>gc ts λz=>R z n1)):=⟨λh=>zqI h⟩
instance zyl :Stp (isiD fb d ρ n R) ((d ρ n λt n1=>lIsi fb t λz=>R z n1)):=⟨λh=>zwU h⟩
instance zyA :Stp (dAnd c c' ρ n Rb) ((c ρ n λb n1=>if b=bj then c' ρ n1 Rb else Rb bA n1)):=⟨λh=>zw9 h⟩
instance zzm :Stp (dOr c c' ρ n Rb) ((c ρ n λb n1=>if b=bj then Rb bj n1 else c' ρ n1 Rb)):=⟨λh=>zAi h⟩
instance zys :Stp (dNot c ρ n Rb) ((c ρ n λb n1=>Rb (!b) n1)):=⟨λh=>zw1 h⟩
instance zuW :Stp (zt5 da db ρ n R) ((da ρ n λt n1=>bolD t λb=>if b=bj then db ρ n1 R else R (k6 bA) n1)):=⟨λh=>ztE h⟩
instance zyr :Stp (dOrV da db ρ n R) ((da ρ n λt n1=>bolD t λb=>if b=bj then R (k6 bj) n1 else db ρ n1 R)):=⟨λh=>zw0 h⟩
instance zuU :Stp (zt4 da ρ n R) ((da ρ n λt n1=>bolD t λb=>R (k6 (!b)) n1)):=⟨λh=>ztB h⟩
instance zyy :Stp (dIfE c da db ρ n R) ((c ρ n λb n1=>if b=bj then da ρ n1 R else db ρ n1 R)):=⟨λh=>zw7 h⟩
instance zyp :Stp (dTru d ρ n Rb) ((d ρ n λt n'=>truD t λb=>Rb b n')):=⟨λh=>zwY h⟩
instance zyn :Stp (dYes ρ n Rb) ((Rb bj n)):=⟨λh=>zwW h⟩
instance zuN :Stp (Us tgs (fX xs) ρ Re) ((tgs xs ρ Re)):=⟨λh=>ztt h⟩
instance zuO :Stp (Ur [] ρ Re) ((Re ρ)):=⟨λh=>ztu h⟩
instance zun :Stp (QL tg tgs (x::xs) ρ Re) ((tg x ρ λρ'=>tgs xs ρ' Re)):=⟨λh=>zqF h⟩
instance zuQ :Stp (U6 d ρ n Rb) ((d ρ n λt n'=>bolD t λb=>Rb b n')):=⟨λh=>ztx h⟩
instance zyx :Stp (dItL d ρ n Rl) ((d ρ n λt n'=>lLst t λts=>Rl ts n')):=⟨λh=>zw6 h⟩
instance zyw :Stp (dItT d ρ n Rl) ((d ρ n λt n'=>lTup t λts=>Rl ts n')):=⟨λh=>zw5 h⟩
instance zuS :Stp (ZF d ρ n Rl) ((d ρ n λt n'=>lInt t λj=>(-(2 ^ 62)<=j/\j<2 ^ 62)/\Rl (Qy 0 (mu j)) n')):=⟨λh=>ztz h⟩
instance zyv :Stp (dNeg d ρ n R) ((d ρ n λt n'=>lInt t λi=>R (b5 (-i)) n')):=⟨λh=>zw4 h⟩
instance zuo :Stp (Y3 g g' da db dc ρ n R) ((da ρ n λx n1=>db ρ n1 λy n2=>g x y λz=>bolD z λb=>if b=bj then dc ρ n2 λw n3=>g' y w λz=>R z n3 else R (k6 bA) n2)):=⟨λh=>zqH h⟩
instance zyk {A B:Prop}:Stp (if (!b)=bj then A else B) ((if b=bj then B else A)):=⟨λh=>zwS h⟩
end
section
variable{fb:Int->Int->Bool}{i j:Int}{R:ae->Prop}{Rb:Bool->Prop}{xs ys:qD}{s t:Str}{a b:Bool}{u v x y:ae}
instance zyc :Stp (oAdd (b5 i) (b5 j) R) ((R (b5 (i+j)))):=⟨λh=>zwD h⟩
instance zyb :Stp (oAdd (eN s) (eN t) R) (((kN s+kN t<=16777216/\R (eN (s++t))))):=⟨λh=>zwC h⟩
instance zya :Stp (oAdd (fX xs) (fX ys) R) (((dP xs+dP ys<=16777216/\R (fX (xs++ys))))):=⟨λh=>zwB h⟩
instance zzh :Stp (oEq (b5 i) (b5 j) R) ((R (k6 (decide (i=j))))):=⟨λh=>zAb h⟩
instance zzg :Stp (oEq (eN s) (eN t) R) ((R (k6 (decide (s=t))))):=⟨λh=>zAa h⟩
instance zzf :Stp (oEq (fX xs) (fX ys) R) (((Okd (fX xs)/\Okd (fX ys)/\R (k6 (fF (fX xs) (fX ys)))))):=⟨λh=>zz_ h⟩
instance zy4 :Stp (oNe (b5 i) (b5 j) R) ((R (k6 (!decide (i=j))))):=⟨λh=>zzX h⟩
instance zy5 :Stp (oNe (k6 a) (k6 b) R) ((R (k6 (!decide (a=b))))):=⟨λh=>zzY h⟩
instance zy2 :Stp (oNe (eN s) (eN t) R) ((R (k6 (!decide (s=t))))):=⟨λh=>zzV h⟩
instance zy1 :Stp (oNe (fX xs) (fX ys) R) (((Okd (fX xs)/\Okd (fX ys)/\R (k6 (!PyData.eqv (fX xs) (fX ys)))))):=⟨λh=>zzU h⟩
instance zy3 :Stp (oNe (tE xs) (tE ys) R) (((Okd (tE xs)/\Okd (tE ys)/\R (k6 (!PyData.eqv (tE xs) (tE ys)))))):=⟨λh=>zzW h⟩
instance zzc :Stp (oIs u oK R) ((R (k6 (isNone u)))):=⟨λh=>zz7 h⟩
instance zuM :Stp (oIsN u oK R) ((R (k6 (!isNone u)))):=⟨λh=>ztp h⟩
instance zze :Stp (oIn u (tE xs) R) (((Okd u/\(∀t∈xs,Okd t)/\R (k6 (xs.any λt=>t.eqv u))))):=⟨λh=>zz9 h⟩
instance zuk :Stp (Z0 u (fX xs) R) (((Okd u/\(∀t∈xs,Okd t)/\R (k6 (!xs.any λt=>t.eqv u))))):=⟨λh=>zqB h⟩
instance zy_ :Stp (oLtA (b5 i) (b5 j) R) ((R (k6 (decide (i<j))))):=⟨λh=>zz3 h⟩
instance zzb :Stp (oLeA (b5 i) (b5 j) R) ((R (k6 (decide (i<=j))))):=⟨λh=>zz5 h⟩
instance zx6 :Stp (oIx (fX (u::xs)) (b5 0) R) ((R u)):=⟨λh=>zwv h⟩
instance zx5 :Stp (oIx (fX (u::v::xs)) (b5 1) R) ((R v)):=⟨λh=>zwu h⟩
instance zx4 :Stp (oIx (fX (u::v::w::xs)) (b5 2) R) ((R w)):=⟨λh=>zwt h⟩
instance zx8 :Stp (oIx (tE (u::xs)) (b5 0) R) ((R u)):=⟨λh=>zok h⟩
instance zx7 :Stp (oIx (tE (u::v::xs)) (b5 1) R) ((R v)):=⟨λh=>zrG h⟩
instance zxY :Stp (truD (k6 a) Rb) ((Rb a)):=⟨λh=>zwl h⟩
instance zxX :Stp (truD (b5 i) Rb) ((Rb (decide (i≠0)))):=⟨λh=>zwk h⟩
instance zxV :Stp (truD (eN s) Rb) (((kN s<=16777216/\Rb (decide (kN s≠0))))):=⟨λh=>zwi h⟩
instance zxW :Stp (truD (tE xs) Rb) ((Rb (!(dy xs)))):=⟨λh=>zwj h⟩
instance zxU :Stp (truD (fX xs) Rb) ((Rb (!(dy xs)))):=⟨λh=>zwh h⟩
instance zzi :Stp (bolD (k6 a) Rb) ((Rb a)):=⟨λh=>zAc h⟩
instance zx3 :Stp (bLen [tE xs] R) ((R (b5 (dP xs)))):=⟨λh=>zws h⟩
instance zx1 :Stp (bLen [fX xs] R) ((R (b5 (dP xs)))):=⟨λh=>zwq h⟩
instance zx2 :Stp (bLen [eN s] R) (((kN s<=16777216/\R (b5 (kN s))))):=⟨λh=>zwr h⟩
instance zul :Stp (bLen [SCR ns] R) ((R (b5 (dP ns)))):=⟨λh=>zqC h⟩
instance zy8 :Stp (bMin [b5 i,b5 j] R) ((R (b5 (if j<i then j else i)))):=⟨λh=>zz1 h⟩
instance zy9 :Stp (bMax [b5 i,b5 j] R) ((R (b5 (if j > i then j else i)))):=⟨λh=>zz2 h⟩
instance zzk :Stp (bAbs [b5 i] R) ((R (b5 (if i<0 then -i else i)))):=⟨λh=>zAe h⟩
instance zx9 :Stp (bInt [k6 a] R) ((R (b5 (if a then 1 else 0)))):=⟨λh=>zwz h⟩
instance zuj :Stp (V8 [tE xs] R) ((R (fX xs))):=⟨λh=>zqA h⟩
instance zxZ :Stp (ZA [u] R) (((Shd u/\R (eN u.shown)))):=⟨λh=>zwn h⟩
instance zuL :Stp (JU (tE xs) Rl) ((Rl xs)):=⟨λh=>zto h⟩
instance zum :Stp (JU (fX xs) Rl) ((Rl xs)):=⟨λh=>zqD h⟩
instance zza :Stp (lLst (tE xs) Q) ((Q xs)):=⟨λh=>zz4 h⟩
instance zyW :Stp (lTup (fX xs) Q) ((Q xs)):=⟨λh=>zzP h⟩
instance zzd :Stp (lInt (b5 i) Q) ((Q i)):=⟨λh=>zz8 h⟩
instance zx0 :Stp (ZB [x,y] Q) ((Q x y)):=⟨λh=>zwo h⟩
instance zy6 :Stp (oMul (b5 i) (b5 j) R) ((CMul i j)/\(R (b5 (i*j)))):=⟨λh=>zzZ h.1 h.2⟩
instance zy7 :Stp (oMod (b5 i) (b5 j) R) ((0<j)/\(R (b5 (i % j)))):=⟨λh=>zz0 h.1 h.2⟩
instance zx_ :Stp (Uo (b5 i) (b5 j) R) ((Zw i j)/\(R (b5 (i / j)))):=⟨λh=>zwA h.1 h.2⟩
instance zy0 :Stp (oShl (b5 i) (b5 j) R) ((CPow i j)/\(R (b5 (i*2 ^ mu j)))):=⟨λh=>zzT h.1 h.2⟩
instance zyZ :Stp (oShr (b5 i) (b5 j) R) ((0<=j)/\(R (b5 (i / 2 ^ mu j)))):=⟨λh=>zzS h.1 h.2⟩
instance zyX :Stp (oSub (b5 i) (b5 j) R) ((R (b5 (i - j)))):=⟨λh=>zzQ h⟩
instance zyV :Stp (oXor (b5 i) (b5 j) R) ((R (b5 (cP i j)))):=⟨λh=>zzO h⟩
instance zzj :Stp (oAnd (b5 i) (b5 j) R) ((R (b5 (fD i j)))):=⟨λh=>zAd h⟩
instance zAN :Stp (gB fb (b5 i) (b5 j) R) ((R (k6 (fb i j)))):=⟨λh=>j_gB h⟩
instance zpX :Stp (lIsi isInt (b5 i) R) ((R (k6 bj))):=⟨λh=>zkb h⟩
instance zpF :Stp (lIsi isInt (k6 a) R) ((R (k6 bj))):=⟨λh=>zi1 h⟩
instance zpW :Stp (lIsi isInt (eN s) R) ((R (k6 bA))):=⟨λh=>zka h⟩
instance zne :Stp (lIsi isInt (fX xs) R) ((R (k6 bA))):=⟨λh=>zhB h⟩
instance zpD :Stp (lIsi isInt (tE xs) R) ((R (k6 bA))):=⟨λh=>ziZ h⟩
instance zpC :Stp (lIsi isInt (oK) R) ((R (k6 bA))):=⟨λh=>ziY h⟩
instance zpE :Stp (lIsi isInt (tD []) R) ((R (k6 bA))):=⟨λh=>zi0 h⟩
instance zpG :Stp (lIsi isBool (b5 i) R) ((R (k6 bA))):=⟨λh=>zi2 h⟩
instance znf :Stp (lIsi isBool (k6 a) R) ((R (k6 bj))):=⟨λh=>zhC h⟩
instance zpU :Stp (lIsi isTup (b5 i) R) ((R (k6 bA))):=⟨λh=>zj9 h⟩
instance zpB :Stp (lIsi isTup (k6 a) R) ((R (k6 bA))):=⟨λh=>ziX h⟩
instance zpT :Stp (lIsi isTup (eN s) R) ((R (k6 bA))):=⟨λh=>zj8 h⟩
instance znd :Stp (lIsi isTup (fX xs) R) ((R (k6 bj))):=⟨λh=>zhA h⟩
instance zpz :Stp (lIsi isTup (tE xs) R) ((R (k6 bA))):=⟨λh=>ziV h⟩
instance zpy :Stp (lIsi isTup (oK) R) ((R (k6 bA))):=⟨λh=>ziU h⟩
instance zpA :Stp (lIsi isTup (tD []) R) ((R (k6 bA))):=⟨λh=>ziW h⟩
instance zpV :Stp (lIsi isStr (eN s) R) ((R (k6 bj))):=⟨λh=>zj_ h⟩
end
section
variable{d da db:DTE}{dlo dhi:DTO}{ρ:En}{n:Nat}{Ro:Option Int->Nat->Prop}{Rl:qD->Nat->Prop}{xs ys:qD}{lo hi:Option Int}{Ql:qD->Prop}
instance zyq :Stp (dSlL d dlo dhi ρ n Rl) ((d ρ n λt n1=>dlo ρ n1 λlo n2=>dhi ρ n2 λhi n3=>lSl t lo hi λz=>Rl z n3)):=⟨λh=>zwZ h⟩
instance zso :Stp (zkj ρ n Ro) ((Ro ao n)):=⟨λh=>zor h⟩
instance zuT :Stp (zt3 d ρ n Ro) ((d ρ n λt n'=>lInt t λi=>Ro (ai i) n')):=⟨λh=>ztA h⟩
instance zym :Stp (dZip da db ρ n Rl) ((da ρ n λx n1=>db ρ n1 λy n2=>JU x λxs=>JU y λys=>Rl (zipD xs ys) n2)):=⟨λh=>zwV h⟩
instance zyY :Stp (lSl (tE xs) lo hi Ql) ((Ql (cutD xs lo hi))):=⟨λh=>zzR h⟩
instance zuR {d:DTE}{ρ:En}{n:Nat}{Rl:qD->Nat->Prop}:Stp (zt1 d ρ n Rl) ((d ρ n λt n1=>U9 t λts=>Rl ts n1)):=⟨λh=>zty h⟩
variable{R:ae->Prop}{A B:Prop}
instance zAO:Stp (if bj=bj then A else B) A:=⟨λh=>iteT h⟩
instance zAP:Stp (if bA=bj then A else B) B:=⟨λh=>iteF h⟩
instance zyd:Stp (oIsN (k6 bj) (k6 bj) R) (R (k6 bA)):=⟨λh=>zol h⟩
instance zye:Stp (oIsN (k6 bA) (k6 bA) R) (R (k6 bA)):=⟨λh=>zol h⟩
end
class GetN (ρ:En)(i:Nat)(c:outParam (Option Cell)):Prop where
 e:ρ[i]?=ai c
class SetN (ρ:En)(i:Nat)(c:Option Cell)(ρ':outParam En):Prop where
 e:cr ρ i c=ρ'
instance{a0:Option Cell}{as:En}:GetN (a0::as) 0 a0:=⟨rfl⟩
instance{a0 c:Option Cell}{as:En}:SetN (a0::as) 0 c (c::as):=⟨rfl⟩
instance{a0 a1:Option Cell}{as:En}:GetN (a0::a1::as) 1 a1:=⟨rfl⟩
instance{a0 a1 c:Option Cell}{as:En}:SetN (a0::a1::as) 1 c (a0::c::as):=⟨rfl⟩
instance{a0 a1 a2:Option Cell}{as:En}:GetN (a0::a1::a2::as) 2 a2:=⟨rfl⟩
instance{a0 a1 a2 c:Option Cell}{as:En}:SetN (a0::a1::a2::as) 2 c (a0::a1::c::as):=⟨rfl⟩
instance{a0 a1 a2 a3:Option Cell}{as:En}:GetN (a0::a1::a2::a3::as) 3 a3:=⟨rfl⟩
instance{a0 a1 a2 a3 c:Option Cell}{as:En}:SetN (a0::a1::a2::a3::as) 3 c (a0::a1::a2::c::as):=⟨rfl⟩
instance{a0 a1 a2 a3 c:Option Cell}{as:En}{i:Nat}[h:GetN as i c]:GetN (a0::a1::a2::a3::as) (i+4) c:=⟨h.e⟩
instance{a0 a1 a2 a3 c:Option Cell}{as bs:En}{i:Nat}[h:SetN as i c bs]:SetN (a0::a1::a2::a3::as) (i+4) c (a0::a1::a2::a3::bs):=⟨by rw[<- h.e];rfl⟩
class NormE (ρ:En)(ρ':outParam En):Prop where
 e:ρ=ρ'
instance{a:Option Cell}{as:En}:NormE (a::as) (a::as):=⟨rfl⟩
instance{ρ ρ1 ρ2:En}{i:Nat}{c:Option Cell}[h:NormE ρ ρ1][k:SetN ρ1 i c ρ2]:NormE (cr ρ i c) ρ2:=⟨by rw[h.e];exact k.e⟩
class NoneN (as:En)(nn:outParam En):Prop where
 e:cc (dP as) ao=nn
instance:NoneN [] []:=⟨rfl⟩
instance{a:Option Cell}{as nn:En}[h:NoneN as nn]:NoneN (a::as) (ao::nn):=⟨by rw[aH,cm,h.e]⟩
class StartN (N:List Str)(ts:qD)(ρ:outParam En):Prop where
 e:JX N ts=ρ
instance:StartN [] [] []:=⟨rfl⟩
instance{x:Str}{N:List Str}{ρ:En}[h:StartN N [] ρ]:StartN (x::N) [] (ao::ρ):=⟨by have:=h.e;simp only[JX,dH,fc,bX,ku]at this ⊢;rw[aH,cm,this]⟩
instance{x:Str}{N:List Str}{t:ae}{ts:qD}{ρ:En}[h:StartN N ts ρ]:StartN (x::N) (t::ts) (ai (.val t)::ρ):=⟨by have:=h.e;simp only[JX]at this ⊢;rw[aK,aH,aH,eM,Nat.add_sub_add_right,this]⟩
theorem zlx{d:DTS}{D:JN}{n:Nat}{N:List Str}{ts:qD}{l:En}[e:StartN N ts l](h:d D l n):d D (JX N ts) n:=bv e.e▸h
class CapN (is:List Nat)(ρ:En)(out:outParam En):Prop where
 e:(is.map λi=>capV (ρ.getD i ao))=out
class CapC (c:Option Cell)(c':outParam (Option Cell)):Prop where
 e:capV c=c'
instance{d:ae}:CapC (ai (.val d)) (ai (.val d)):=⟨rfl⟩
instance{d:qD}:CapC (ai (.own d)) ao:=⟨rfl⟩
instance:CapC ao ao:=⟨rfl⟩
instance{ρ:En}:CapN [] ρ []:=⟨rfl⟩
instance{i:Nat}{is:List Nat}{ρ out:En}{c c':Option Cell}[g:GetN ρ i c][k:CapC c c'][h:CapN is ρ out]:CapN (i::is) ρ (c'::out):=⟨by have ge:=g.e;rw[aK,h.e,bo,ge,fz,k.e]⟩
class CompN (m:Nat)(capt:List Nat)(ρ:En)(ρ':outParam En):Prop where
 e:JL m capt ρ=ρ'
instance{x:Str}{capt:List Nat}{ρ out:En}[h:CapN capt ρ out]:CompN (dP [x]) capt ρ (ao::out):=⟨by unfold JL;rw[h.e];rfl⟩
instance{x y:Str}{capt:List Nat}{ρ out:En}[h:CapN capt ρ out]:CompN (dP [x,y]) capt ρ (ao::ao::out):=⟨by unfold JL;rw[h.e];rfl⟩
instance{x y z:Str}{capt:List Nat}{ρ out:En}[h:CapN capt ρ out]:CompN (dP [x,y,z]) capt ρ (ao::ao::ao::out):=⟨by unfold JL;rw[h.e];rfl⟩
instance{x y z u:Str}{capt:List Nat}{ρ out:En}[h:CapN capt ρ out]:CompN (dP [x,y,z,u]) capt ρ (ao::ao::ao::ao::out):=⟨by unfold JL;rw[h.e];rfl⟩
def SetK(i:Nat)(c:Option Cell)(K:En->Nat->Prop)(l:En)(n:Nat):Prop:=K (cr l i c) n
section
variable{t u:DTS}{D:JN}{ρ ρ0 ρ':En}{n i j m:Nat}{d dj:DTE}{ds di:DTA}{tt:DTT}{tg:DTG}{R:qN}{Rl:qD->Nat->Prop}{Re:En->Prop}{x:ae}{xs:qD}{f:Int->Int->Int}{capt:List Nat}{c:Option Cell}{K:En->Nat->Prop}{q:Int}
instance zAX [h:SetN ρ i c ρ']:Stp (SetK i c K ρ n) (K ρ' n):=⟨λk=>by unfold SetK;rw[h.e];exact k⟩
instance zAE:Stp (sSet i d D ρ n) (d ρ n λt n'=>SetK i (ai (.val t)) D.nx ρ n'):=⟨λh=>h⟩
instance zAF:Stp (sOwn i ds D ρ n) (ds ρ n λt n'=>SetK i (ai (.own t)) D.nx ρ n'):=⟨λh=>h⟩
instance zxT [h:SetN ρ i (ai (.val x)) ρ']:Stp (JY i x ρ Re) (Re ρ'):=⟨λk=>by unfold JY;rw[h.e];exact k⟩
instance zAU [h:GetN ρ i (ai (.val x))]:Stp (dVar i ρ n R) (R x n):=⟨λk=>zrJ h.e k⟩
instance zAV [h:GetN ρ i (ai (.own xs))]:Stp (dOwn i ρ n R) (R (tE xs) n):=⟨λk=>zrK h.e k⟩
instance zyE [h:GetN ρ i (ai (.own xs))]:Stp (Vi i d D ρ n) (d ρ n λt n'=>dP xs<16777216/\SetK i (ai (.own (xs++[t]))) D.nx ρ n'):=⟨λk=>zk6 h.e k⟩
instance zyB [h:GetN ρ i (ai (.own xs))][h':SetN ρ i (ai (.val (tE xs))) ρ']:Stp (Vj i t D ρ n) (t D ρ' n):=⟨λk=>zk5 h.e (by rw[h'.e];exact k)⟩
instance zA8 [h:GetN ρ i (ai (.val (b5 q)))]:Stp (sAug i f d D ρ n) (d ρ n λt n'=>lInt t λk=>SetK i (ai (.val (b5 (f q k)))) D.nx ρ n'):=⟨λk=>zAl h.e k⟩
instance zA0:Stp (sPar i j ds D ρ n) (ds ρ n λts n'=>ZB ts λt u=>SetK i (ai (.val t)) (λρ1 n1=>SetK j (ai (.val u)) D.nx ρ1 n1) ρ n'):=⟨λh=>zwN h⟩
instance zAW [h:CompN m capt ρ ρ0]:Stp (dComp m capt di tg tt d ρ n Rl) (di ρ n λts n1=>JW tg tt d ρ0 ts [] n1 Rl):=⟨λk=>ztD (by rw[h.e];exact k)⟩
theorem zvd{D:JN}{ρ:En}{i:Nat}{xs:qD}{x:ae}{n:Nat}{j:Int}{k:Nat}(e:ixN (dP xs) j=ai k)(h:SetK i (ai (.own (cr xs k x))) D.nx ρ n) :
  (match ixN (dP xs) j with|some k=>D.nx (cr ρ i (ai (.own (cr xs k x)))) n|none=>False):=by rw[e];exact h
instance zAZ [h:GetN ρ i (ai (.own xs))]:Stp (sPut i dj d D ρ n) (d ρ n λt n1=>UM ρ i D dj t n1 xs):=⟨λk=>zAg h.e k⟩
instance zAG:Stp (UM ρ i D dj x n xs) (dj ρ n λj n2=>lInt j λj=>(match ixN (dP xs) j with|some k=>D.nx (cr ρ i (ai (.own (cr xs k x)))) n2|none=>False)):=⟨λh=>zwQ h⟩
end
theorem Ub{l:En}{i:Nat}:cr l i (l.getD i ao)=l:=by apply mO;intro j;by_cases h:i=j;subst h;by_cases hl:i<dP l;rw[i7 hl,bo,ay hl];rfl;rw[bV (by simp;omega),bV (by omega)];rw[dN h]
section
variable{g:DTG}{tb:DTS}{D:JN}{ts:qD}{ρ:En}{n:Nat}
theorem zxn(C:Nat)(Inv:Nat->Option Cell->Nat->Prop){o:Option Cell->En}[N:∀a0,NormE (cr ρ C a0) (o a0)](h0:Inv 0 (ρ.getD C ao) n)
  (turn:∀(k:Nat) (t:ae) (a0:Option Cell) (m:Nat) (K:En->Nat->Prop) (G:qN) (I:En->Nat->Prop),ts[k]?=ai t->Inv k a0 m->(∀u x,Inv (k+1) u x->K (o u) x)->(∀t m,D.rt t m->G t m)->(∀ρ m,D.nx ρ m->I ρ m)->g t (o a0) λl=>tb { nx:=K,rt:=G,bk:=I,ct:=K,xr:=D.xr } l m)
  (fin:∀a0 m,Inv (dP ts) a0 m->D.nx (o a0) m):forP g tb D ts ρ n:=by
 refine Uh (λk l m=>∃a0,l=(cr ρ C a0)/\Inv k a0 m) ⟨_,?_,h0⟩ ?_ ?_;rw[Ub];rintro k t l m K e ⟨a0,rfl,v⟩ hK;rw[(N a0).e];exact turn k t a0 m K D.rt D.nx e v (λu x h=>(N u).e▸hK _ _ ⟨u,rfl,h⟩) (λ_ _ h=>h) (λ_ _ h=>h);rintro l m ⟨a0,rfl,v⟩;rw[(N a0).e];exact fin a0 m v
theorem zrQ(I G:Nat)(Inv:Nat->Option Cell->Option Cell->Nat->Prop){o:Option Cell->Option Cell->En}[N:∀a0 a1,NormE (cr (cr ρ I a0) G a1) (o a0 a1)](h0:Inv 0 (ρ.getD I ao) (ρ.getD G ao) n)
  (turn:∀(k:Nat) (t:ae) (a0 a1:Option Cell) (m:Nat) (K:En->Nat->Prop) (J:qN) (L:En->Nat->Prop),ts[k]?=ai t->Inv k a0 a1 m->(∀u v C,Inv (k+1) u v C->K (o u v) C)->(∀t m,D.rt t m->J t m)->(∀ρ m,D.nx ρ m->L ρ m)->g t (o a0 a1) λl=>tb { nx:=K,rt:=J,bk:=L,ct:=K,xr:=D.xr } l m)
  (fin:∀a0 a1 m,Inv (dP ts) a0 a1 m->D.nx (o a0 a1) m):forP g tb D ts ρ n:=by
 refine Uh (λk l m=>∃a0 a1,l=(cr (cr ρ I a0) G a1)/\Inv k a0 a1 m) ⟨_,_,?_,h0⟩ ?_ ?_;rw[Ub,Ub];rintro k t l m K e ⟨a0,a1,rfl,x⟩ hK;rw[(N a0 a1).e];exact turn k t a0 a1 m K D.rt D.nx e x (λu v C h=>(N u v).e▸hK _ _ ⟨u,v,rfl,h⟩) (λ_ _ h=>h) (λ_ _ h=>h);rintro l m ⟨a0,a1,rfl,x⟩;rw[(N a0 a1).e];exact fin a0 a1 m x
theorem zxm(L I J:Nat)(Inv:Nat->Option Cell->Option Cell->Option Cell->Nat->Prop){o:Option Cell->Option Cell->Option Cell->En}[N:∀a0 a1 a2,NormE (cr (cr (cr ρ L a0) I a1) J a2) (o a0 a1 a2)](h0:Inv 0 (ρ.getD L ao) (ρ.getD I ao) (ρ.getD J ao) n)
  (turn:∀(k:Nat) (t:ae) (a0 a1 a2:Option Cell) (m:Nat) (K:En->Nat->Prop) (R:qN) (S:En->Nat->Prop),ts[k]?=ai t->Inv k a0 a1 a2 m->(∀v x u G,Inv (k+1) v x u G->K (o v x u) G)->(∀t m,D.rt t m->R t m)->(∀ρ m,D.nx ρ m->S ρ m)->g t (o a0 a1 a2) λl=>tb { nx:=K,rt:=R,bk:=S,ct:=K,xr:=D.xr } l m)
  (fin:∀a0 a1 a2 m,Inv (dP ts) a0 a1 a2 m->D.nx (o a0 a1 a2) m):forP g tb D ts ρ n:=by
 refine Uh (λk l m=>∃a0 a1 a2,l=(cr (cr (cr ρ L a0) I a1) J a2)/\Inv k a0 a1 a2 m) ⟨_,_,_,?_,h0⟩ ?_ ?_;rw[Ub,Ub,Ub];rintro k t l m K e ⟨a0,a1,a2,rfl,C⟩ hK;rw[(N a0 a1 a2).e];exact turn k t a0 a1 a2 m K D.rt D.nx e C (λv x u G h=>(N v x u).e▸hK _ _ ⟨v,x,u,rfl,h⟩) (λ_ _ h=>h) (λ_ _ h=>h);rintro l m ⟨a0,a1,a2,rfl,C⟩;rw[(N a0 a1 a2).e];exact fin a0 a1 a2 m C
theorem zrP(U L R S:Nat)(Inv:Nat->Option Cell->Option Cell->Option Cell->Option Cell->Nat->Prop){u:Option Cell->Option Cell->Option Cell->Option Cell->En}[N:∀a0 a1 a2 l,NormE (cr (cr (cr (cr ρ U a0) L a1) R a2) S l) (u a0 a1 a2 l)](h0:Inv 0 (ρ.getD U ao) (ρ.getD L ao) (ρ.getD R ao) (ρ.getD S ao) n)
  (turn:∀(k:Nat) (t:ae) (a0 a1 a2 l:Option Cell) (m:Nat) (K:En->Nat->Prop) (Y:qN) (Z:En->Nat->Prop),ts[k]?=ai t->Inv k a0 a1 a2 l m->(∀C G x v J,Inv (k+1) C G x v J->K (u C G x v) J)->(∀t m,D.rt t m->Y t m)->(∀ρ m,D.nx ρ m->Z ρ m)->g t (u a0 a1 a2 l) λo=>tb { nx:=K,rt:=Y,bk:=Z,ct:=K,xr:=D.xr } o m)
  (fin:∀a0 a1 a2 l m,Inv (dP ts) a0 a1 a2 l m->D.nx (u a0 a1 a2 l) m):forP g tb D ts ρ n:=by
 refine Uh (λk o m=>∃a0 a1 a2 l,o=(cr (cr (cr (cr ρ U a0) L a1) R a2) S l)/\Inv k a0 a1 a2 l m) ⟨_,_,_,_,?_,h0⟩ ?_ ?_;rw[Ub,Ub,Ub,Ub];rintro k t o m K e ⟨a0,a1,a2,l,rfl,I⟩ hK;rw[(N a0 a1 a2 l).e];exact turn k t a0 a1 a2 l m K D.rt D.nx e I (λC G x v J h=>(N C G x v).e▸hK _ _ ⟨C,G,x,v,rfl,h⟩) (λ_ _ h=>h) (λ_ _ h=>h);rintro o m ⟨a0,a1,a2,l,rfl,I⟩;rw[(N a0 a1 a2 l).e];exact fin a0 a1 a2 l m I
theorem zqG{i j:Nat}{u:DTS}{D:JN}{I nn C G:En}{n:Nat}{ns:List Int}{k:Int}[ej:GetN (ai (.val (SCR ns))::I) j (ai (.val (b5 k)))][e1:NoneN I nn][e2:SetN (ai (.val (SCR ns))::nn) j (ai (.val (b5 k))) C][e3:SetN C i (ai (.val HAND)) G](S:dP ns<=63)(U:0<=k)(Y:k<=100)
  (h:∀(L:En->Nat->Prop) (J:qN) (N R:En->Nat->Prop),(∀x m,D.nx (JO x) n->L x m)->(∀b m,D.rt (k6 b) n->J (k6 b) m)->(∀x m,D.bk (JO x) n->N x m)->(∀x m,D.ct (JO x) n->R x m) ->
   u { nx:=L,rt:=J,bk:=N,ct:=R } G 0):Yh i j u D (ai (.val (SCR ns))::I) n:=by
 refine ztw (ρd:=ai (.val (SCR ns))::nn) rfl ej.e S U Y ?_ ?_;show ai (Cell.val (SCR ns))::cc (dP (ai (Cell.val (SCR ns))::I) - 1) ao=_;rw[aH,mh,e1.e];rw[e2.e,e3.e];exact h _ _ _ _ (λ_ _ h=>h) (λb _ h=>⟨b,rfl,h⟩) (λ_ _ h=>h) (λ_ _ h=>h)
theorem zmJ{c:DTT}{tb:DTS}{D:JN}{ρ:En}{n:Nat}(Inv:Nat->En->Nat->Prop){m:Nat}(h0:Inv m ρ n)
  (turn:∀m ρ n (K:En->Nat->Prop) (x:qN) (v:En->Nat->Prop),Inv m ρ n->(∀o l u,o<m->Inv o l u->K l u)->(∀t m,D.rt t m->x t m)->(∀ρ m,D.nx ρ m->v ρ m) ->
   c ρ n λb C=>if b=bj then tb { nx:=K,rt:=x,bk:=v,ct:=K,xr:=D.xr } ρ C else v ρ C):zng c tb D ρ n :=
 zhQ Inv h0 λm ρ n h=>turn m ρ n (λl u=>∃o,o<m/\Inv o l u) D.rt D.nx h (λo _ _ a b=>⟨o,a,b⟩) (λ_ _ h=>h) (λ_ _ h=>h)
end
open Builtin Builtin.Str
def cutS(x:Str)(lo hi:Option Int):Str:=⟨bm ((x.cps.toList.drop (HT.sIx (kN x) 0 lo)).take (HT.sIx (kN x) (kN x) hi - HT.sIx (kN x) 0 lo))⟩
theorem Vk(n d:Nat)(i:Int):((HT.sIx n d (ai i):Nat):Int)=max 0 (min (if i<0 then i+(n:Int) else i) (n:Int)):=by simp only[HT.sIx];by_cases h:i<0;simp only[h,if_true] <;> lia;simp only[h,if_false] <;> lia
theorem zuD(lo hi:Option Int)(n:Nat):strSliceIndices lo hi 1 n=sliceRange ((HT.sIx n 0 lo:Nat):Int) ((HT.sIx n n hi:Nat):Int) 1:=by
 have o:((HT.sIx n 0 ao:Nat):Int)=0:=by simp[HT.sIx]
 have l:((HT.sIx n n ao:Nat):Int)=n:=by simp[HT.sIx]
 cases lo with
 | none =>
  cases hi with
  | none=>rw[o,l];rfl
  | some j=>rw[o,Vk];rfl
 | some i =>
  cases hi with
  | none=>rw[l,Vk];rfl
  | some j=>rw[Vk,Vk];rfl
theorem zm0(x:Str)(lo hi:Option Int):sS x lo hi=cutS x lo hi:=by
 have e:strSliceIndices lo hi 1 (kN x)=(c9 (HT.sIx (kN x) (kN x) hi - HT.sIx (kN x) 0 lo)).map (HT.sIx (kN x) 0 lo+·):=by rw[zuD,uo]
 have pk:(strSliceIndices lo hi 1 (kN x)).filterMap (x.cps[·]?)=(x.cps.toList.drop (HT.sIx (kN x) 0 lo)).take (HT.sIx (kN x) (kN x) hi - HT.sIx (kN x) 0 lo):=by rw[e,yO]
 unfold sS;split;rename_i h;have o:dP (strSliceIndices lo hi 1 (kN x))=kN x:=by simpa using h
 rw[e,aI,fT]at o;unfold cutS;have u:HT.sIx (kN x) (kN x) hi<=kN x:=by
  cases hi with
  | none=>simp[HT.sIx]
  | some i=>simp only[HT.sIx];split <;> lia
 have z:HT.sIx (kN x) 0 lo=0\/kN x=0:=by lia
 have:(x.cps.toList.drop (HT.sIx (kN x) 0 lo)).take (HT.sIx (kN x) (kN x) hi - HT.sIx (kN x) 0 lo)=w9 x.cps:=by
  have sz:dP x.cps.toList=kN x:=by simp[kN]
  rcases z with z|z;rw[z,mj,gK (by lia)];have:w9 x.cps=[]:=cf.mp (by lia);rw[this];simp
 rw[this];rw[pk];rfl
section
variable{X:Cx}
theorem zgV{v:ah}{p:Option Int}(h:mU v p):∃l:Option (Int×Tok),v=partValue l/\l.map (·.1)=p:=by
 cases h with
 | none=>exact⟨ao,rfl,rfl⟩
 | int i t=>exact⟨ai (i,t),rfl,rfl⟩
def rSlS:V->Option Int->Option Int->Hp->VK->Prop:=λx lo hi H Q=>∃z,x=.str z/\kN z<=sizeLine/\Q (.str (cutS z lo hi)) H
theorem zuG:SlR X rSlS:=by intro pins s σ H x v S R lo hi N Q I J L pl G h;obtain⟨z,rfl,hz,q⟩:=h;obtain⟨t,rfl⟩:=J;obtain⟨l,rfl,rfl⟩:=zgV pl;obtain⟨u,rfl,rfl⟩:=zgV G;have C:s.heap.IsSlice N l u ao:=L;refine⟨"str",_,F.slot_str_getitem.lookup,kO _ _ _,wpAny_getItem_str_slice (l:=l) (u:=u) (st:=ao) C rfl (post_val_or_str ?_)⟩;have e:(if (((ao:Option (Int×Tok)).map (·.1)).getD 1 == 1&&dP (slicePicked z l u ao) == kN z)=bj then z else⟨bm ((slicePicked z l u ao).filterMap (z.cps[·]?))⟩)=sS z (l.map (·.1)) (u.map (·.1)):=rfl;rw[e];refine⟨bu (Txt.slice_le z _ _) hz,λt' k=>⟨.str (sS z (l.map (·.1)) (u.map (·.1))),H,I.tok _,⟨_,rfl⟩,?_⟩⟩;rw[zm0];exact q
def oSlA(t:ae)(lo hi:Option Int)(R:ae->Prop):Prop:=match t with
 | fX ts=>R (fX (cutD ts lo hi))
 | eN x=>kN x<=16777216/\R (eN (cutS x lo hi))
 | _=>False
def dSlA(d:DTE)(dl o:DTO):DTE:=λl n R=>d l n λt v=>dl l v λlo x=>o l x λhi u=>oSlA t lo hi λz=>R z u
variable{e a b:aX}{d da db:DTE}{lo hi:Option aX}{dlo dhi:DTO}{pos p2:Pos}
theorem WE(h:DL X e d)(U:DP X lo dlo)(hu:DP X hi dhi):DE X (d0 e (.Slice lo hi ao p2) pos) (dSlA d dlo dhi):=by
 obtain⟨ta,pa,h⟩:=h;obtain⟨tl,pl,U⟩:=U;obtain⟨tu,pu,hu⟩:=hu;refine⟨_,zkO (SlR.or (SlR.or zuF zse) zuG) pa pl pu,λC Z σ H n Q R S hd Y=>?_⟩;refine h C Z σ H n _ _ S hd λt n1 v H1 r1 J h1 q1=>?_;have S1:=S.on J h1;refine U C Z σ H1 n1 _ _ S1 r1 λlo n2 H2 r2 x h2=>?_;have S2:=S1.on x h2;refine hu C Z σ H2 n2 _ _ S2 r2 λhi n3 H3 o G I=>?_;have S3:=S2.on G I;have N:=(x.trans G).repT S.hx q1;cases t with
 | tuple ts =>obtain⟨a,vs,rfl,hs,rs⟩:=N.tupI;by_cases w:HT.sIx (dP vs) 0 lo=0/\HT.sIx (dP vs) (dP vs) hi=dP vs;refine fj (xw ⟨a,vs,rfl,hs,w,Y _ n3 _ H3 o (J.trans (x.trans G)) I ?_⟩);rw[zms (by rw[<- rs.length];exact w)];exact N.rep (by intro _ z;cases z);refine fj (fj ⟨a,vs,rfl,hs,w,λp L=>Y _ n3 _ _ o (J.trans (x.trans (G.trans (ExtE.new L)))) (I.same (JS L)) ?_⟩);exact .newT (S3.free L) L (zlh rs lo hi)
 | str z =>rw[N.strI];exact xw ⟨z,rfl,o.1,Y _ n3 _ H3 o.2 (J.trans (x.trans G)) I (.str _)⟩
 | _=>exact eJ o
def repS(x:Str)(n:Int):Str:=⟨(cc (mu n) (w9 x.cps)).flatten.toArray⟩
theorem zja(x:Array Nat):∀(n:Nat) (acc:Array Nat),(cc n x).foldl (·++·) acc=bm (w9 acc++(cc n (w9 x)).flatten)
 | 0,acc=>by simp
 | n+1,acc=>by rw[cm,fh,zja x n,cm,kA];simp
theorem zsW:OpR X (binaryOp .Mult) (λx y H Q=>∃i j,x=.str i/\y=.int j/\-100000<=j/\j<=100000/\kN i<=100/\Q (.str (repS i j)) H):=by
 intro pins s σ H x y v u Q I N S h;obtain⟨i,j,rfl,rfl,j0,Z,hi,q⟩:=h;obtain⟨t,rfl⟩:=N;obtain⟨t',rfl⟩:=S;have G:decide (j < -(2 ^ 63:Int))=bA:=decide_eq_false (by lia);have L:decide (j>=2 ^ 63)=bA:=decide_eq_false (by lia);have C:∀n:Nat,n<=100000->kN i*n<=10000000:=λn U=>Nat.mul_le_mul hi U;refine P.mul_str (by rw[G,L];rfl) (λR _ Y=>?_) (λR _=>?_) ?_;have h3:(100:Int)<=(2 ^ 63 - 1) / j:=by apply Int.le_ediv_of_mul_le (by lia);lia
 lia;have:=C (mu j) (by lia);unfold tooLong;exact decide_eq_false (by have:sizeLine=16777216:=rfl;lia);by_cases c1:j<1;rw[if_pos c1];have e:repS i j=gW:=by unfold repS;rw[show mu j=0 by lia];rfl
 rw[e]at q;exact⟨by decide,.str gW,H,I.tok _,⟨_,rfl⟩,q⟩;rw[if_neg c1];by_cases c2:(j == 1||kN i == 0)=bj;rw[if_pos c2];have e:repS i j=i:=by
  unfold repS;rw[n8,beq_iff_eq,beq_iff_eq]at c2;rcases c2 with c2|c2;subst c2;simp;have z:w9 i.cps=[]:=cf.mp (by simpa[kN] using c2);have J:i.cps=#[]:=by have:=congrArg List.toArray z;simpa using this
  rw[z];have:(cc (mu j) ([]:List Nat)).flatten=[]:=by simp
  rw[this,<- J]
 rw[e]at q;exact⟨.str i,H,I,⟨_,rfl⟩,q⟩;rw[if_neg c2];have e:repS i j=⟨(cc (mu j) i.cps).foldl (·++·) #[]⟩:=by unfold repS;rw[zja];simp
 rw[e]at q;refine⟨?_,.str _,H,I.tok _,⟨_,rfl⟩,q⟩;have:=C (mu j) (by lia);show(⟨(cc (mu j) i.cps).foldl (·++·) #[]⟩:Str).length<=sizeLine;rw[<- e];unfold repS kN;rw[aD,List.length_flatten,List.map_replicate,List.sum_replicate_nat,cg];have e3:sizeLine=16777216:=rfl;have e4:mu j*ap i.cps=kN i*mu j:=by rw[nR];rfl
 lia
def VZ:G2
 | b5 i,b5 j,R=>CMul i j/\R (b5 (i*j))
 | eN i,b5 j,R=>-100000<=j/\j<=100000/\kN i<=100/\R (eN (repS i j))
 | _,_,_=>False
theorem zsX:OpR X (binaryOp .Mult) (λx y H Q=>(rI CMul λi j=>.int (i*j)) x y H Q\/∃i j,x=.str i/\y=.int j/\-100000<=j/\j<=100000/\kN i<=100/\Q (.str (repS i j)) H):=OpR.or Q9 zsW
theorem ztG:Gp2 X (λx y H Q=>(rI CMul λi j=>.int (i*j)) x y H Q\/∃i j,x=.str i/\y=.int j/\-100000<=j/\j<=100000/\kN i<=100/\Q (.str (repS i j)) H) VZ:=by intro hd O H x y t u Q R dom v C g o;unfold VZ at g;split at g;rw[v.intI,C.intI];exact fj ⟨_,_,rfl,rfl,g.1,o _ _ H g.2 (Same.refl _) (.int _)⟩;rw[v.strI,C.intI];exact xw ⟨_,_,rfl,rfl,g.1,g.2.1,g.2.2.1,o _ _ H g.2.2.2 (Same.refl _) (.str _)⟩;exact eJ g
theorem ztY(v:DL X a da)(o:DL X b db):DE X (je a .Mult b pos) (dOp VZ da db):=Q4 zsX ztG v o
end
def Its(z:Str):It:=⟨λi _=>i<ap z.cps,λi H x H'=>H'=H/\∃c,z.cps[i]?=ai c/\x=.str ⟨#[c]⟩,λi _=>ap z.cps<=i⟩
theorem zpJ{P:aL}{w:aV}{K:qF}{tg:aX}(z:Str)(t:Tok)(it:aq)(T:String)(L:T = "str_ascii_iterator" \/ T = "str_iterator"):Turn P w K tg (Its z) [it] it (λi h=>h.IsStrIter it T z t i) where
 mem:=by simp
 obj:=λi h st b C=>by
  have e:b=it:=by simpa using C
  subst e;obtain⟨o,e,c,d⟩:=st;exact⟨o,e,λv z=>by rw[d]at z;cases z⟩
 keep:=λi h h' st k=>by obtain⟨o,e,r⟩:=st;exact⟨o,k it (by simp) o e,r⟩
 item:=by
  intro X Z hw U hc i pins s σ H E I hf st G;subst Z hw U;obtain⟨f0,f1,f2,R,f4,S⟩:=hf it (by simp);have G:i<ap z.cps:=G;have J:z.cps[i]?=ai z.cps[i]:=by simp[G]
  have fin:∀h',h'.IsStrIter it T z t (i+1)->cY it s.heap h'->∃u,ai (ph ⟨#[z.cps[i]]⟩ s.toks)=ai u /\
    wpAny (model X.prog X.w) X.A (letOwnedTupleGo tg (aZ it) u) (λ_ s2=>∃x H',Inv X pins σ H' s2/\RelV x u/\(Its z).yld i H x H'/\s2.heap.IsStrIter it T z t (i+1)/\∀b∈[it],H' b=ao) E { s with heap:=h',toks:=dn s+1 }:=by
   intro h' N sb;have I1:Inv X pins σ H { s with heap:=h',toks:=dn s+1 }:=I.turned (t':=dn s+1) (λb o C e=>b3 (sb.2 b C) e) f0 f1 R f4 S;obtain⟨o,e,c,d⟩:=id N;have ne:(T = "enumerate")=False:=by rcases L with rfl|rfl <;> decide
   refine⟨_,rfl,U7 (s:={ s with heap:=h',toks:=dn s+1 }) (n:=T) e c d (by rcases L with rfl|rfl <;> decide) ⟨.str ⟨#[z.cps[i]]⟩,H,I1,⟨_,rfl⟩,⟨rfl,_,J,rfl⟩,N,λb C=>(hf b C).1⟩⟩
  rcases L with rfl|rfl;exact wpAny_pyNext_ascii_item st J fin;exact wpAny_pyNext_wide_item st J fin
 done:=by
  intro X Z hw U hc i pins s σ H E I hf st G;subst Z hw U;obtain⟨f0,f1,f2,R,f4,S⟩:=hf it (by simp);have G:ap z.cps<=i:=G;have J:z.cps[i]?=ao:=by simp[G]
  rcases L with rfl|rfl;exact wpAny_pyNext_ascii_end (I.ok.hd hc) st J λh' Y=>⟨rfl,I.turned (t':=dn s) (λb o C e=>Y b o C e) f0 f1 R f4 S⟩;exact wpAny_pyNext_wide_end (I.ok.hd hc) st J λh' Y=>⟨rfl,I.turned (t':=dn s) (λb o C e=>Y b o C e) f0 f1 R f4 S⟩
 self:=λ_ _ _ _ _ st h=>by rcases L with rfl|rfl;exact wpAny_pyIter_striter_ascii st h;exact wpAny_pyIter_striter_wide st h
section
variable{X:Cx}{tg iter:aX}{d:DTE}
def iStr(o:TE):TI:=λσ H R=>o σ H λx l=>∃z,x=.str z/\R (Its z) l
theorem zvl{l:aX}{G:TE}(S:PE X l G):PI X tg l (iStr G):=by
 intro pins s σ H R I h;refine thn (S pins s σ H _ I h) λv s1 u=>?_;obtain⟨x,N,C,L,Y⟩:=u;obtain⟨z,rfl,q⟩:=Y;obtain⟨t,rfl⟩:=L;have key:∀T,(T = "str_ascii_iterator" \/ T = "str_iterator")->PIE X pins σ tg R (aZ s1.heap.objs.size) { s1 with heap:=dL s1.heap { cls:=aY T,data:=ed #[ph z t,m6 0 0] } }:=by
  intro T U;refine⟨ap s1.heap.objs,[ap s1.heap.objs],_,_,N,rfl,C.kept (t':=dn s1) λb o e=>aj _ e,zpJ z t _ T U,⟨_,aA _ rfl,rfl,rfl⟩,λb J=>?_,q⟩;have e:b=ap s1.heap.objs:=by simpa using J
  subst e;exact C.fpOk (av _) (C.hok.fresh (av _))
 cases ha:z.cps.all (·<128);exact wpAny_pyIter_wide ha (key _ (xw rfl));exact wpAny_pyIter_ascii ha (key _ (fj rfl))
def sgnD(z:Str):List ae:=z.cps.toList.map λc=>eN ⟨#[c]⟩
theorem zwJ{K:qF}{hd:Option aq}{P O:aq->Prop}{H:Hp}{z:Str}:ItOk K hd P O H (Its z) (sgnD z):=by
 intro L N _ _ _;have sz:dP z.cps.toList=ap z.cps:=by simp
 refine⟨λi t o=>?_,by show ap z.cps<=dP (sgnD z);unfold sgnD;rw[aI];lia⟩;unfold sgnD at o;rw[aT]at o;cases ec:z.cps.toList[i]? with
 | none=>rw[ec]at o;cases o
 | some c =>
  rw[ec]at o;cases o;obtain⟨hi,I⟩:=aw.mp ec;have u:i<ap z.cps:=by lia
  have v:z.cps[i]?=ai c:=by rw[<- cM];exact ec
  refine⟨u,λx J G=>?_⟩;obtain⟨rfl,c',C,rfl⟩:=G;rw[v]at C;cases C;exact⟨Same.refl _,.str _⟩
def lStr:ae->(Str->Prop)->Prop
 | eN z,R=>R z
 | _,_=>False
def dItS(d:DTE):DTA:=λo n R=>d o n λt l=>lStr t λz=>R (sgnD z) l
theorem zxz(h:DE X iter d):DI X tg iter (dItS d):=by
 obtain⟨I,pa,h⟩:=h;refine⟨_,zvl pa,λC x σ H n Q R S hd u=>?_⟩;refine h C x σ H n _ _ S hd λt o v H' r l G q=>?_;cases t with
 | str z =>rw[q.strI];exact⟨z,rfl,u _ o _ H' r l G zwJ⟩
 | _=>exact eJ r
variable{ρ:En}{n:Nat}{dlo dhi:DTO}{R:qN}{Rl:qD->Nat->Prop}{Q:ae->Prop}{xs:qD}{lo hi:Option Int}{x:Str}{j:Int}
instance zAY:Stp (dSlA d dlo dhi ρ n R) (d ρ n λt n1=>dlo ρ n1 λlo n2=>dhi ρ n2 λhi n3=>oSlA t lo hi λz=>R z n3):=⟨λh=>h⟩
instance zAz:Stp (oSlA (fX xs) lo hi Q) (Q (fX (cutD xs lo hi))):=⟨λh=>h⟩
instance zAA:Stp (oSlA (eN x) lo hi Q) (kN x<=16777216/\Q (eN (cutS x lo hi))):=⟨λh=>h⟩
instance zAK:Stp (VZ (eN x) (b5 j) Q) (-100000<=j/\j<=100000/\kN x<=100/\Q (eN (repS x j))):=⟨λh=>h⟩
instance zA2:Stp (dItS d ρ n Rl) (d ρ n λt n'=>lStr t λz=>Rl (sgnD z) n'):=⟨λh=>h⟩
instance zAL {Rs:Str->Prop}:Stp (lStr (eN x) Rs) (Rs x):=⟨λh=>h⟩
end
mutual
def plnD:ae->Bool
 | tD []=>true
 | tD _=>false
 | fX ts=>decide (dP ts<=1000000)&&Yo ts
 | tE ts=>decide (dP ts<=1000000)&&Yo ts
 | eN x=>decide (kN x<=1000000)
 | _=>true
def Yo:qD->Bool
 | []=>true
 | t::ts=>plnD t&&Yo ts
end
def PlnD(d:ae):Prop:=plnD d=true
theorem zin:∀{ts:qD},Yo ts=bj↔∀t∈ts,PlnD t
 | []=>by simp[Yo]
 | t::ts=>by rw[Yo,bT,zin (ts:=ts)];constructor;rintro⟨a,b⟩ u l;rcases ax.mp l with rfl|l;exact a;exact b u l;intro h;exact⟨h t (by simp),λu l=>h u (by simp[l])⟩
theorem PlnD.tup{ts:qD}(h:PlnD (fX ts)):dP ts<=1000000/\∀t∈ts,PlnD t:=by unfold PlnD plnD at h;rw[bT,decide_eq_true_iff,zin]at h;exact h
def IsNm(s:Str):Prop:=1<=kN s/\kN s<=8/\∀c∈w9 s.cps,97<=c/\c<=122
theorem J1(s:Str):dP s.cps.toList=kN s:=by simp[kN]
theorem UR(a b:Str):(a++b).cps.toList=w9 a.cps++w9 b.cps:=by show(a.cps++b.cps).toList=_;simp
theorem Str.ext'{a b:Str}(h:w9 a.cps=w9 b.cps):a=b:=by
 cases a with|mk a =>
 cases b with|mk b =>
 have:a=b:=Array.toList_inj.mp h;rw[this]
theorem zww{x:Str}{i:Int}{k c:Nat}{R:ae->Prop}(l:kN x<=16777216)(hi:i=(k:Int))(e:x.cps.toList[k]?=ai c)(h:R (eN ⟨#[c]⟩)):oIx (eN x) (b5 i) R:=by subst hi;have a:atI (w9 x.cps) (k:Int)=ai c:=Bd.zhK (by lia) (by simpa using e);show kN x<=16777216/\(match atI (w9 x.cps) (k:Int) with|some c=>R (eN ⟨#[c]⟩)|none=>False);rw[a];exact⟨l,h⟩
theorem letters{k:Nat}(h:k<26):(ar "abcdefghijklmnopqrstuvwxyz").cps.toList[k]?=ai (97+k):=by
 have:∀i:Fin 26,(ar "abcdefghijklmnopqrstuvwxyz").cps.toList[i.val]?=ai (97+i.val):=by decide +kernel
 exact this ⟨k,h⟩
theorem zfY{x:Str}{i:Int}{k:Nat}(h:i=(k:Int)):(cutS x ao (ai i)).cps.toList=x.cps.toList.take k:=by subst h;unfold cutS;rw[HT.zhe,HT.zjE];simp only[mj,ku];rw[<- J1 x];simp[List.take_eq_take_iff]
theorem zjk{x:Str}{i:Int}{k:Nat}(h:i=(k:Int))(l:k<=kN x):(cutS x (ai i) ao).cps.toList=x.cps.toList.drop k:=by subst h;unfold cutS;rw[HT.zhe,HT.zjE,tT l];show(Dj _ (Dk k (w9 x.cps)))=_;rw[gK (by rw[gz,J1];lia)]
def OkK(k:Nat)(t:ae):Prop:=t.canLay0=bj/\t.depth<=k
theorem OkK.okd{k:Nat}{t:ae}(h:OkK k t)(l:k<=60:=by decide):Okd t:=⟨h.1,bu h.2 l⟩
theorem zqm:OkK 0 oK:=⟨by simp[bR],by simp[dI]⟩
theorem okK_str{s:Str}(h:bR (eN s)=bj):OkK 0 (eN s):=⟨h,by simp[dI]⟩
theorem zvV{s:Str}(h:IsNm s):OkK 0 (eN s):=okK_str (by simp only[bR];show(s.cps.all (·<0x110000))=bj;rw[<- Array.all_toList,cJ];intro c hc;have:=h.2.2 c hc;exact decide_eq_true (by lia))
theorem zqO{xs:qD}:fF (tE xs) (tE [])=dy xs:=by
 cases xs with
 | nil=>rfl
 | cons a b=>rfl
theorem VR{α:Type}{cs:List α}{D:α->ae}{J:DTG}{tt:DTT}{d:DTE}{v:En}{n:Nat}{I:qD->Nat->Prop}(p:α->Bool)(F:α->ae)(L:dP cs<=16777216)
  (step:∀b∈cs,∀(K:qN) (X:Nat->Prop),(p b=bj->K (F b) n)->(p b=bA->X n)->J (D b) v λu=>tt u n λc G=>if c=bj then d u G K else X G) (fin:I ((cs.filter p).map F) n):JW J tt d v (cs.map D) [] n I:=by
 refine zo4 (λj acc m=>m=n/\acc=((cs.take j).filter p).map F) ⟨rfl,rfl⟩ ?_ ?_;rintro j x acc m K o ⟨rfl,rfl⟩ hK;rw[aT]at o;cases eb:cs[j]? with
 | none=>rw[eb]at o;cases o
 | some b =>
  rw[eb]at o;cases o;obtain⟨N,R⟩:=aw.mp eb;have tk:cs.take (j+1)=cs.take j++[b]:=by rw[fH,eb];rfl
  refine step b (aC eb) _ _ (λC=>⟨?_,hK _ _ ⟨rfl,?_⟩⟩) (λC=>hK _ _ ⟨rfl,?_⟩);have:=fK p (cs.take j);simp at this ⊢;lia;rw[tk,p8,e9];simp[C];rw[tk,p8,e9];simp[C]
 rintro acc m ⟨rfl,rfl⟩;rw[aI,cZ];exact fin
theorem zp3{x:Str}{n:Int}:(repS x n).cps.toList=(cc (mu n) (w9 x.cps)).flatten:=rfl
def Uz(g:DTG)(tt:DTT)(o:DTA)(g2:DTG)(u:DTT)(v:DTE)(l:En)(xs acc:qD)(n:Nat)(R:qD->Nat->Prop):Prop:=cGo g tt (tdN o g2 u (tdL v)) l xs acc n R
def zoY(m:Nat)(capt:List Nat)(C:DTA)(g:DTG)(tt:DTT)(l:DTA)(g2:DTG)(o:DTT)(v:DTE):DTA:=λu n R=>C u n λts x=>Uz g tt l g2 o v (JL m capt u) ts [] x R
section
variable{X:Cx}{scope:fv}{own:List Str}{capt:List Nat}{elt tg iter tg2 it2:aX}{ifs Oj:List aX}{pos:Pos}{di di2:DTA}{is is2:List Nat}{g g2:DTG}{tt tt2:DTT}{te:DTE}
theorem zld(hc:X.calm=bj)(S:Jv scope own capt X)(hi:DIL X tg iter di)
  (hg:Fam X scope own capt λY=>DG Y tg is g) (l:∀i∈is,i<dP own) (ht:Fam X scope own capt λY=>DTs Y ifs tt) (G:Fam X scope own capt λY=>DI Y tg2 it2 di2) (v:Fam X scope own capt λY=>DG Y tg2 is2 g2) (OR:∀i∈is2,i<dP own/\i∉is) (u:Fam X scope own capt λY=>DTs Y Oj tt2)
  (he:Fam X scope own capt λY=>DE Y elt te)
  (hs:Fsi X iter:=by intro _;rfl) (I:∀(C:aq) (x:ah),foldedSetIterable it2 (compEnvC scope (ownCl X scope C) C X.env) x=pure x:=by intro _ _;rfl) :
  DN X (im elt [⟨tg,iter,ifs,0⟩,⟨tg2,it2,Oj,0⟩] scope pos) (zoY (dP own) capt di g tt di2 g2 tt2 te):=by
 obtain⟨ge,p,_,N⟩:=Wo (e:=im elt [⟨tg,iter,ifs,0⟩,⟨tg2,it2,Oj,0⟩] scope pos) V0 zr8 hc S ⟨zkc,⟨_,rfl⟩,λ_ _ _=>rfl,λ_=>⟨_,rfl⟩,λ_ _=>⟨_,rfl⟩⟩ zrD hi hg l ht (zos V0 zkc hc rfl (λ_ _ _=>rfl) G v u I (zrL he)) OR hs;exact⟨ge,p,λC ρ σ H n Q R St hd Z=>N C ρ σ H n Q R St hd λacc J H' D r e h hD _ ⟨ys,U,rs⟩=>Z acc J D ys H' r e h hD U rs⟩
variable{ρ ρ0:En}{n m:Nat}{Rl:qD->Nat->Prop}
instance zzs [h:CompN m capt ρ ρ0]:Stp (zoY m capt di g tt di2 g2 tt2 te ρ n Rl) (di ρ n λts n1=>Uz g tt di2 g2 tt2 te ρ0 ts [] n1 Rl):=⟨λk=>by unfold zoY;rw[h.e];exact k⟩
end
abbrev Run:=Int×Int
def NR(rs:List Run):Prop:=(∀r∈rs,r.1<r.2)/\rs.Pairwise λa b=>a.2<b.1
def mR(x:Int)(rs:List Run):Prop:=∃r∈rs,r.1<=x/\x<r.2
def mB(x:Int)(bs:qB):Prop:=∃b∈bs,b.1<=x/\x<eB b
theorem JQ{x:Int}{r:Run}{rs:List Run}:mR x (r::rs)↔(r.1<=x/\x<r.2)\/mR x rs:=by unfold mR;constructor;rintro⟨s,o,h⟩;rcases ax.mp o with rfl|o;exact fj h;exact xw ⟨s,o,h⟩;rintro(h|⟨s,o,h⟩);exact⟨r,by simp,h⟩;exact⟨s,by simp[o],h⟩
theorem QT{x:Int}:¬mR x []:=λ⟨_,h,_⟩=>nomatch h
theorem Y0{x:Int}{rs ss:List Run}:mR x (rs++ss)↔mR x rs\/mR x ss:=by unfold mR;constructor;rintro⟨s,o,h⟩;rcases aW.mp o with o|o;exact fj ⟨s,o,h⟩;exact xw ⟨s,o,h⟩;rintro(⟨s,o,h⟩|⟨s,o,h⟩);exact⟨s,by simp[o],h⟩;exact⟨s,by simp[o],h⟩
theorem zn5{x:Int}{b:Int×Int}{bs:qB}:mB x (b::bs)↔(b.1<=x/\x<eB b)\/mB x bs:=by unfold mB;constructor;rintro⟨s,o,h⟩;rcases ax.mp o with rfl|o;exact fj h;exact xw ⟨s,o,h⟩;rintro(h|⟨s,o,h⟩);exact⟨b,by simp,h⟩;exact⟨s,by simp[o],h⟩
theorem ZW{x:Int}:¬mB x []:=λ⟨_,h,_⟩=>nomatch h
theorem Wb{x:Int}{bs cs:qB}:mB x (bs++cs)↔mB x bs\/mB x cs:=by unfold mB;constructor;rintro⟨s,o,h⟩;rcases aW.mp o with o|o;exact fj ⟨s,o,h⟩;exact xw ⟨s,o,h⟩;rintro(⟨s,o,h⟩|⟨s,o,h⟩);exact⟨s,by simp[o],h⟩;exact⟨s,by simp[o],h⟩
theorem zte{x:Int}{bs cs:qB}(h:bs.Perm cs):mB x bs↔mB x cs:=by unfold mB;constructor;rintro⟨s,l,q⟩;exact⟨s,h.mem_iff.mp l,q⟩;rintro⟨s,l,q⟩;exact⟨s,h.mem_iff.mpr l,q⟩
theorem NR.tail{r:Run}{rs:List Run}(h:NR (r::rs)):NR rs:=⟨λs l=>h.1 s (by simp[l]),(ba.mp h.2).2⟩
theorem NR.ahead{r:Run}{rs:List Run}(h:NR (r::rs)){x:Int}(hx:mR x rs):r.2<x:=by obtain⟨s,l,u,o⟩:=hx;have:=(ba.mp h.2).1 s l;lia
theorem NR.uniq:∀{rs ss:List Run},NR rs->NR ss->(∀x,mR x rs↔mR x ss)->rs=ss
 | [],[],_,_,_=>rfl
 | [],s::ss,_,h,e=>by exfalso;have:=h.1 s (by simp);exact QT ((e s.1).mpr (JQ.mpr (fj ⟨aN _,this⟩)))
 | r::rs,[],h,_,e=>by exfalso;have:=h.1 r (by simp);exact QT ((e r.1).mp (JQ.mpr (fj ⟨aN _,this⟩)))
 | r::rs,s::ss,hr,hs,e=>by
  have u:=hr.1 r (by simp);have s1:=hs.1 s (by simp);have a:∀x,mR x (r::rs)->r.1<=x:=λx hx=>by rcases JQ.mp hx with z|z;exact z.1;have:=hr.ahead z;lia
  have b:∀x,mR x (s::ss)->s.1<=x:=λx hx=>by rcases JQ.mp hx with z|z;exact z.1;have:=hs.ahead z;lia
  have v:r.1=s.1:=by have:=b r.1 ((e r.1).mp (JQ.mpr (fj ⟨aN _,u⟩)));have:=a s.1 ((e s.1).mpr (JQ.mpr (fj ⟨aN _,s1⟩)));lia
  have o:¬mR r.2 (r::rs):=λz=>by rcases JQ.mp z with y|y;lia;have:=hr.ahead y;lia
  have ns:¬mR s.2 (s::ss):=λz=>by rcases JQ.mp z with y|y;lia;have:=hs.ahead y;lia
  have C:r.2=s.2:=by rcases ko r.2 s.2 with z|z|z;exact absurd ((e r.2).mpr (JQ.mpr (fj ⟨by lia,z⟩))) o;exact z;exact absurd ((e s.2).mp (JQ.mpr (fj ⟨by lia,z⟩))) ns
  have G:r=s:=dD v C;subst G;rw[NR.uniq hr.tail hs.tail λx=>?_];have ex:=e x;rw[JQ,JQ]at ex;constructor;intro z;have:=hr.ahead z;rcases ex.mp (xw z) with y|y;lia;exact y;intro z;have:=hs.ahead z;rcases ex.mpr (xw z) with y|y;lia;exact y
def QZ(lo hi:Int)(h:Nat):Prop:=lo % 2 ^ h=0/\(2:Int) ^ h<=hi - lo/\¬(lo % 2 ^ (h+1)=0/\(2:Int) ^ (h+1)<=hi - lo)
theorem zed{a b:Nat}(h:a<=b):((2:Int) ^ a)∣2 ^ b:=⟨2 ^ (b - a),by rw[<- h8];congr 1;lia⟩
theorem QY{a b:Nat}(h:a<=b):(2:Int) ^ a<=2 ^ b:=by
 obtain⟨c,e⟩:=zed h;have pa:=Bd.JT a;have l:=Bd.JT b;have pc:0<c:=by rcases ko c 0 with z|z|z;have:=iE pa z;lia;subst z;lia;exact z
 rw[e];have:=gD (show(1:Int)<=c by lia) (show(0:Int)<=2 ^ a by lia);lia
theorem U0{lo:Int}{a b:Nat}(h:a<=b)(e:lo % 2 ^ b=0):lo % 2 ^ a=0:=by have d:((2:Int) ^ b)∣lo:=bG e;exact dS (Int.dvd_trans (zed h) d)
theorem QZ.uniq{lo hi:Int}{h g:Nat}(a:QZ lo hi h)(b:QZ lo hi g):h=g:=by rcases cC h g with z|z|z;exfalso;exact a.2.2 ⟨U0 (show h+1<=g by lia) b.1,nS (QY (show h+1<=g by lia)) b.2.1⟩;exact z;exfalso;exact b.2.2 ⟨U0 (show g+1<=h by lia) a.1,nS (QY (show g+1<=h by lia)) a.2.1⟩
def Ju:Int->Int->List (Int×Int)->Prop
 | lo,hi,[]=>lo=hi
 | lo,hi,b::r=>lo<hi/\b.1=lo/\0<=b.2/\QZ lo hi (mu b.2)/\Ju (lo+2 ^ mu b.2) hi r
theorem Ju.le:∀{bs:qB}{lo hi:Int},Ju lo hi bs->lo<=hi
 | [],_,_,h=>by have:_=_:=h;lia
 | b::r,lo,hi,h=>by have:=h.1;lia
theorem Ju.uniq:∀{bs cs:qB}{lo hi:Int},Ju lo hi bs->Ju lo hi cs->bs=cs
 | [],[],_,_,_,_=>rfl
 | [],c::cs,lo,hi,h,k=>by have:lo=hi:=h;have:=k.1;lia
 | b::bs,[],lo,hi,h,k=>by have:lo=hi:=k;have:=h.1;lia
 | b::bs,c::cs,lo,hi,h,k=>by
  obtain⟨R,J,L,l,u⟩:=h;obtain⟨G,N,I,C,x⟩:=k;have e:=l.uniq C;have o:b.2=c.2:=by lia
  have v:b=c:=dD (by lia) o;subst v;rw[Ju.uniq u x]
theorem Ju.mem:∀{bs:qB}{lo hi:Int},Ju lo hi bs->∀x,mB x bs↔lo<=x/\x<hi
 | [],lo,hi,h,x=>by have:lo=hi:=h;exact⟨λz=>absurd z ZW,λz=>by omega⟩
 | b::r,lo,hi,h,x=>by obtain⟨G,u,C,v,o⟩:=h;have:=Ju.mem o x;have l:=Ju.le o;have p:=Bd.JT (mu b.2);rw[zn5,this];unfold eB;rw[u];omega
theorem Ju.blk{bits:Int}(J:0<=bits):∀{bs:qB}{lo hi:Int},Ju lo hi bs->0<=lo->hi<=2 ^ mu bits->Bks bits bs
 | [],_,_,_,_,_=>λb v=>nomatch v
 | b::r,lo,hi,h,l0,l1=>by
  obtain⟨S,G,I,u,x⟩:=h;have p:=Bd.JT (mu b.2);have l:=Ju.le x;have R:=Ju.blk J x (by lia) l1;intro c hc;rcases ax.mp hc with rfl|hc;have v:mu c.2<=mu bits:=by rcases bM (mu bits) (mu c.2) with z|z;exfalso;have:=QY (show mu bits+1<=mu c.2 by lia);have p2:=Bd.JT (mu bits);rw[bH]at this;have:=u.2.1;lia;exact z
  obtain⟨k,C⟩:=bG u.1;have L:0<=k:=by rcases fU k 0 with z|z;have:=iE p z;lia;exact z
  refine⟨I,by lia,k,L,by rw[G,C,b7],?_⟩;have e:(2:Int) ^ mu bits=2 ^ mu (bits - c.2)*2 ^ mu c.2:=by rw[<- h8];congr 1;lia
  have up:k*2 ^ mu c.2<2 ^ mu (bits - c.2)*2 ^ mu c.2:=by rw[<- e,b7,<- C];lia
  exact mn up (by lia);exact R c hc
theorem Ju.in:∀{bs:qB}{lo hi:Int},Ju lo hi bs->∀b∈bs,lo<=b.1/\eB b<=hi
 | [],_,_,_=>λb v=>nomatch v
 | b::r,lo,hi,h=>by obtain⟨I,x,G,C,o⟩:=h;have p:=Bd.JT (mu b.2);have u:=Ju.in o;have l:=Ju.le o;intro c hc;rcases ax.mp hc with rfl|hc;unfold eB;rw[x];lia;have:=u c hc;lia
theorem Ju.pw:∀{bs:qB}{lo hi:Int},Ju lo hi bs->bs.Pairwise λa b=>eB a<=b.1
 | [],_,_,_=>mL
 | b::r,lo,hi,h=>by obtain⟨G,v,C,x,u⟩:=h;refine .cons (λc hc=>?_) (Ju.pw u);have:=Ju.in u c hc;unfold eB;rw[v];lia
theorem zh9:∀{bs:qB}{lo hi:Int}{k:Nat},Ju lo hi bs->lo % 2 ^ k=0->hi - lo<2 ^ k->dP bs<=k
 | [],_,_,_,_,_,_=>dw _
 | b::r,lo,hi,k,h,d,l=>by
  obtain⟨G,v,x,o,u⟩:=h;have C:mu b.2<k:=by rcases bM (mu b.2) k with z|z;exact z;have:=QY z;have:=o.2.1;lia
  have up:¬(2:Int) ^ (mu b.2+1)<=hi - lo:=λz=>o.2.2 ⟨U0 (show mu b.2+1<=k by lia) d,z⟩;rw[bH]at up;have:=zh9 (k:=mu b.2) u (by rw[rS,o.1];simp) (by lia);rw[aH];lia
theorem zh8{K:Nat}:∀{bs:qB}{lo hi:Int}{k:Nat},Ju lo hi bs->lo % 2 ^ k=0->hi - lo<2 ^ K->k<=K->dP bs<=(K - k)+K
 | [],_,_,_,_,_,_,_=>dw _
 | b::r,lo,hi,k,h,d,l,hkK=>by
  obtain⟨J,C,G,o,u⟩:=h;have p:=Bd.JT (mu b.2);have I:mu b.2<K:=by rcases bM (mu b.2) K with z|z;exact z;have:=QY z;have:=o.2.1;lia
  rw[aH];by_cases up:(2:Int) ^ (mu b.2+1)<=hi - lo;have nd:¬lo % 2 ^ (mu b.2+1)=0:=λz=>o.2.2 ⟨z,up⟩;have L:k<=mu b.2:=by rcases bM (mu b.2) k with z|z;exact absurd (U0 (show mu b.2+1<=k by lia) d) nd;exact z
  have d':(lo+2 ^ mu b.2) % 2 ^ (mu b.2+1)=0:=by
   obtain⟨q,eq⟩:=bG o.1;have x:(2:Int) ^ (mu b.2+1)=2 ^ mu b.2*2:=bH _ _;rw[x]at nd ⊢;have odd:q % 2=1:=by rcases tU q with z|z;exfalso;obtain⟨t,v⟩:=bG z;apply nd;apply dS;exact⟨t,by rw[eq,v,cj]⟩;exact z
   apply dS;refine⟨(q+1) / 2,?_⟩;have:q+1=2*((q+1) / 2):=by lia
   rw[eq,cj,<- this,oU,mJ]
  have:=zh8 (K:=K) (k:=mu b.2+1) u d' (by lia) (by lia);lia;rw[bH]at up;have:=zh9 (k:=mu b.2) u (by rw[rS,o.1];simp) (by lia);lia
theorem Ju.len{bs:qB}{lo hi:Int}(h:Ju lo hi bs)(o:0<=lo)(l:hi<=2 ^ 64):dP bs<=130:=by have:=zh8 (K:=65) (k:=0) h (by simp) (by have e:(2:Int) ^ 65=2*2 ^ 64:=(by decide);omega) (by decide);omega
theorem zk8{lo hi:Int}(h:lo<hi):∃g,QZ lo hi g:=by
 have key:∀(d k:Nat),lo % 2 ^ k=0->(2:Int) ^ k<=hi - lo->mu (hi - lo)<2 ^ (k+d)->∃g,QZ lo hi g:=by
  intro d;induction d with
  | zero =>
   intro k _ b c;exfalso;have:((2 ^ k:Nat):Int)=(2:Int) ^ k:=by rw[gS];rfl
   rw[Nat.add_zero]at c;lia
  | succ d l =>intro k a b c;by_cases z:lo % 2 ^ (k+1)=0/\(2:Int) ^ (k+1)<=hi - lo;exact l (k+1) z.1 z.2 (by rw[show k+1+d=k+(d+1) by lia];exact c);exact⟨k,a,b,z⟩
 refine key (mu (hi - lo)) 0 (by simp) (by simp;lia) ?_;rw[eS];exact Nat.lt_two_pow_self
theorem zjA:∀(n:Nat) (lo hi:Int),mu (hi - lo)<=n->lo<=hi->∃bs,Ju lo hi bs:=by
 intro n;induction n with
 | zero =>intro lo hi h l;exact⟨[],by show lo=hi;lia⟩
 | succ n u =>intro lo hi h l;by_cases z:lo<hi;obtain⟨g,G⟩:=zk8 z;have p:=Bd.JT g;have:=G.2.1;obtain⟨bs,B⟩:=u (lo+2 ^ g) hi (by lia) (by lia);exact⟨(lo,(g:Int))::bs,z,rfl,by show(0:Int)<=(g:Int);lia,by simpa using G,by simpa using B⟩;exact⟨[],by show lo=hi;lia⟩
def PatS:List Run->List (Int×Int)->Prop
 | [],ps=>ps=[]
 | r::rs,ps=>∃a b,ps=a++b/\Ju r.1 r.2 a/\PatS rs b
theorem PatS.uniq:∀{rs:List Run}{ps qs:qB},PatS rs ps->PatS rs qs->ps=qs
 | [],_,_,h,k=>by rw[show _=[] from h,show _=[] from k]
 | r::rs,_,_,h,k=>by obtain⟨a,b,rfl,v,o⟩:=h;obtain⟨c,d,rfl,l,u⟩:=k;rw[v.uniq l,PatS.uniq o u]
theorem PatS.mem:∀{rs:List Run}{ps:qB},PatS rs ps->∀x,mB x ps↔mR x rs
 | [],_,h,x=>by cases(show _=[] from h);exact⟨λz=>absurd z ZW,λz=>absurd z QT⟩
 | r::rs,_,h,x=>by obtain⟨a,b,rfl,o,l⟩:=h;rw[Wb,JQ,o.mem x,PatS.mem l x]
theorem PatS.blk{bits:Int}(o:0<=bits):∀{rs:List Run}{ps:qB},PatS rs ps->(∀r∈rs,0<=r.1/\r.2<=2 ^ mu bits)->Bks bits ps
 | [],_,h,_=>by cases(show _=[] from h);exact λb u=>nomatch u
 | r::rs,_,h,w=>by obtain⟨a,b,rfl,x,v⟩:=h;have l:=w r (by simp);intro c hc;rcases aW.mp hc with hc|hc;exact x.blk o l.1 l.2 c hc;exact PatS.blk o v (λs C=>w s (by simp[C])) c hc
theorem PatS.in:∀{rs:List Run}{ps:qB},PatS rs ps->∀b∈ps,∃r∈rs,r.1<=b.1/\eB b<=r.2
 | [],_,h=>by cases(show _=[] from h);exact λb l=>nomatch l
 | r::rs,_,h=>by obtain⟨a,b,rfl,u,o⟩:=h;intro c hc;rcases aW.mp hc with hc|hc;exact⟨r,by simp,u.in c hc⟩;obtain⟨s,v,q⟩:=PatS.in o c hc;exact⟨s,by simp[v],q⟩
theorem PatS.pw:∀{rs:List Run}{ps:qB},PatS rs ps->NR rs->ps.Pairwise λa b=>eB a<=b.1
 | [],_,h,_=>by cases(show _=[] from h);exact mL
 | r::rs,_,h,nr=>by obtain⟨a,b,rfl,u,o⟩:=h;rw[cU];refine⟨u.pw,PatS.pw o nr.tail,λx hx y C=>?_⟩;have:=u.in x hx;obtain⟨s,v,q⟩:=PatS.in o y C;have:=(ba.mp nr.2).1 s v;lia
theorem PatS.len:∀{rs:List Run}{ps:qB},PatS rs ps->(∀r∈rs,0<=r.1/\r.2<=2 ^ 64)->dP ps<=130*dP rs
 | [],_,h,_=>by cases(show _=[] from h);simp
 | r::rs,_,h,w=>by obtain⟨a,b,rfl,u,o⟩:=h;have l:=w r (by simp);have:=u.len l.1 l.2;have:=PatS.len o λs v=>w s (by simp[v]);rw[a9,aH];lia
def CanP(S:Int->Prop)(ps:qB):Prop:=∃rs,NR rs/\(∀x,mR x rs↔S x)/\PatS rs ps
theorem CanP.uniq{S T:Int->Prop}{ps qs:qB}(h:CanP S ps)(k:CanP T qs)(e:∀x,S x↔T x):ps=qs:=by
 obtain⟨rs,C,u,v⟩:=h;obtain⟨ss,l,G,o⟩:=k;have:rs=ss:=C.uniq l λx=>by rw[u,G,e]
 subst this;exact v.uniq o
theorem CanP.mem{S:Int->Prop}{ps:qB}(h:CanP S ps)(x:Int):mB x ps↔S x:=by obtain⟨rs,u,l,o⟩:=h;rw[o.mem,l]
theorem CanP.ptc{S:Int->Prop}{ps:qB}{bits:Int}(C:0<=bits)(h:CanP S ps)(w:∀x,S x->0<=x/\x<2 ^ mu bits):Ptc bits ps:=by obtain⟨rs,v,o,u⟩:=h;refine⟨u.blk C λr l=>?_,u.pw v⟩;have lt:=v.1 r l;have a:=w r.1 ((o _).mp ⟨r,l,aN _,lt⟩);have b:=w (r.2 - 1) ((o _).mp ⟨r,l,by lia,by lia⟩);lia
section
variable{X:Cx}{a:aX}{da:DTE}{ρ:En}{n:Nat}{R:qN}
theorem zn1:MtR X "int.bit_length" (λx xs H Q=>∃i,x=.int i/\xs=[]/\Q (.int (gm i)) H):=by intro pins s σ H x xs v us Q I l rs h;obtain⟨i,rfl,rfl,q⟩:=h;obtain⟨t,rfl⟩:=l;cases rs;exact call_int_bit_length ⟨.int _,H,I.tok _,⟨_,rfl⟩,q⟩
def zoZ(d:DTE):DTE:=λρ n R=>d ρ n λt l=>lInt t λi=>R (b5 (gm i)) l
theorem zji{p2 p3:Pos}(h:DL X a da)(G:attributeBase a "bit_length" X.env (eval a X.env)=eval a X.env:=by rfl) (N:(p2.endLine == ib p3)=bj:=by rfl):DE X (ee (h7 a "bit_length" p2) [] [] p3) (zoZ da):=by
 obtain⟨Y,pa,h⟩:=h;refine⟨_,zvy PySem.F.plainAttrs_int slot_int_bit_length type_int_bit_length zn1 pa G N,λC ρ σ H n Q R S hd J=>?_⟩;refine h C ρ σ H n _ _ S hd λt L v o r x I U=>?_;cases t with
 | int i =>rw[U.intI];exact⟨rfl,i,rfl,rfl,J _ L _ o r x I (.int _)⟩
 | _=>exact eJ r
instance zyD:Stp (zoZ da ρ n R) (da ρ n λt n1=>lInt t λi=>R (b5 (gm i)) n1):=⟨λh=>h⟩
end
theorem zfM{i:Int}(h:0<i):(gm i:Int) - 1=(i.toNat.log2:Int):=by
 unfold gm;have:(i == 0)=bA:=by simp;lia
 rw[this];have e:i.natAbs=mu i:=by lia
 rw[e];simp
theorem zn_{i:Int}(h:0<i):(2:Int) ^ i.toNat.log2<=i:=by
 have:=Nat.log2_self_le (n:=mu i) (by lia);have e:((2 ^ i.toNat.log2:Nat):Int)=(2:Int) ^ i.toNat.log2:=by rw[gS];rfl
 lia
theorem zn6{i:Int}(h:0<i):i<(2:Int) ^ (i.toNat.log2+1):=by
 have:=Nat.lt_log2_self (n:=mu i);have e:((2 ^ (i.toNat.log2+1):Nat):Int)=(2:Int) ^ (i.toNat.log2+1):=by rw[gS];rfl
 lia
theorem zoc(t:Nat):∀x:Nat,x % 2 ^ t=0->¬x % 2 ^ (t+1)=0->x - (x &&& (x - 1))=2 ^ t:=by
 induction t with
 | zero =>
  intro x _ h;have C:x % 2=1:=by
   have:¬x % 2=0:=by simpa using h
   lia
  have e:x &&& (x - 1)=x - 1:=by
   apply oV;intro i;rw[n9];cases i with
   | zero =>
    have:(x - 1).testBit 0=bA:=by rw[ny];simp;lia
    rw[this,oW]
   | succ i =>
    have:x / 2=(x - 1) / 2:=by lia
    rw[iA,iA,this,Bool.and_self]
  rw[e];simp;omega
 | succ t u =>
  intro x l o;have ev:x % 2=0:=by have:2∣2 ^ (t+1):=⟨2 ^ t,by rw[lK,nR]⟩;exact kB (Nat.dvd_trans this (kC l))
  have hx:x=2*(x / 2):=by lia
  have p1:(x / 2) % 2 ^ t=0:=by
   obtain⟨q,e⟩:=kC l;apply kB;refine⟨q,?_⟩;rw[lK]at e;have:x=2*(2 ^ t*q):=by rw[e];rw[nR (2 ^ t) 2,wa]
   lia
  have p2:¬(x / 2) % 2 ^ (t+1)=0:=λz=>by obtain⟨q,e⟩:=kC z;apply o;apply kB;refine⟨q,?_⟩;rw[lK,nR (2 ^ (t+1)) 2,wa,<- e];exact hx
  have:=u (x / 2) p1 p2;have e:x &&& (x - 1)=2*(x / 2 &&& (x / 2 - 1)):=by
   apply oV;intro i;rw[n9];cases i with
   | zero =>
    have a:x.testBit 0=bA:=by rw[ny];simp;omega
    rw[a,hY,ny];simp
   | succ i =>
    have v:0<x / 2:=by rcases lZ (x / 2) with z|z;rw[z]at p2;simp at p2;exact z
    have b:(x - 1) / 2=x / 2 - 1:=by lia
    rw[iA,iA,iA,b,Nat.mul_div_cancel_left _ (by decide:0<2),n9]
  rw[e,lK];have le:(x / 2 &&& (x / 2 - 1))<=x / 2:=tV;lia
theorem zuf{b:Int}(h:0<b){t:Nat}(v:b % 2 ^ t=0)(l:¬b % 2 ^ (t+1)=0):fD b (-b)=2 ^ t:=by
 have e:fD b (-b)=b - ((mu b &&& (mu b - 1):Nat):Int):=by
  have h0:decide (0<=b)=bj:=decide_eq_true (by lia);have u:decide (0<=-b)=bA:=decide_eq_false (by lia);show(match decide (0<=b),decide (0<=-b) with
   | true,bj=>((mu b &&& mu (-b):Nat):Int)
   | true,bA=>b - ((mu b &&& mu (gC (-b)):Nat):Int)
   | false,bj=>(-b) - ((mu (-b) &&& mu (gC b):Nat):Int)
   | false,bA=>gC ((mu (gC b)|||mu (gC (-b)):Nat):Int))=_
  rw[h0,u];have:mu (gC (-b))=mu b - 1:=by
   have:gC (-b)=b - 1:=by show -(-b) - 1=b - 1;lia
   rw[this];lia
  rw[this]
 have cast:∀k:Nat,b % (2:Int) ^ k=((mu b % 2 ^ k:Nat):Int):=λk=>by rw[Int.natCast_emod,gS,Int.toNat_of_nonneg (by lia)];rfl
 rw[cast]at v l;have:=zoc t (mu b) (by lia) (by lia);have le:(mu b &&& (mu b - 1))<=mu b:=tV;rw[e];have x:((2 ^ t:Nat):Int)=(2:Int) ^ t:=by rw[gS];rfl
 omega
theorem zyI{b:Int}(h:0<b):∃t:Nat,b % 2 ^ t=0/\¬b % 2 ^ (t+1)=0:=by obtain⟨g,G⟩:=zk8 (lo:=b) (hi:=b+b+1) (by lia);refine⟨g,G.1,λz=>?_⟩;have d:=bG z;have:=Int.le_of_dvd h d;exact G.2.2 ⟨z,by lia⟩
theorem zk0{xs:qD}{x:ae}:ixN (dP (xs++[x])) (-1)=ai (dP xs):=by unfold ixN;simp;lia
theorem zkZ{xs:qD}{x:ae}{Q:ae->Prop}(h:Q x):oIx (tE (xs++[x])) (b5 (-1)) Q:=by
 have e:atI (xs++[x]) (-1)=ai x:=by unfold atI;rw[zk0];simp
 rw[ZD e];exact h
end L2
namespace Bd
open PySem L2
def ppD(xs:List (ae×ae)):List ae:=xs.map λp=>fX [p.1,p.2]
def oD(os:List ((Int×Int)×Str)):List ae:=os.map λp=>fX [prD p.1,eN p.2]
theorem zvT{os:List ((Int×Int)×Str)}:dP (oD os)=dP os:=by simp[oD]
def Shr(bits:Int)(os:List ((Int×Int)×Str)):Prop:=Ptc bits (os.map (·.1))/\∀p∈os,IsNm p.2
theorem zzH(os:List ((Int×Int)×Str)):oD os=ppD (os.map λp=>(prD p.1,eN p.2)):=by unfold oD ppD;rw[b6];rfl
def apB(a b:Int×Int):Prop:=eB a<=b.1\/eB b<=a.1
def okPr(p q:(Int×Int)×Str):Prop:=p.2=q.2\/apB p.1 q.1
def Agr(os ks:List ((Int×Int)×Str)):Prop:=∀p∈os,∀q∈ks,okPr p q
abbrev Deal:=Int×List ((Int×Int)×Str)×List ((Int×Int)×Str)
def dlD(d:Deal):ae:=fX [b5 d.1,fX (oD d.2.1),fX (oD d.2.2)]
def Dl(d:Deal):Prop:=1<=d.1/\d.1<=64/\Shr d.1 d.2.1/\Shr d.1 d.2.2/\Agr d.2.1 d.2.2
def nD(l:List Str):List ae:=l.map eN
end Bd
namespace L2
open PySem PySem.Spec PyProof.Rows
section
variable{X:Cx}{tg iter:aX}{d:DTE}
def iSeq(K:qF)(o:TE):TI:=λσ H R=>o σ H λx l=>∃a,x=.ref a/\(((∃xs,SqL K l a xs)/\R (Itl K a) l)\/((∃xs,SqT K l a xs)/\R (Itt K a) l))
theorem zvm{l:aX}{S:TE}(Y:PE X l S):PI X tg l (iSeq X.K S):=by
 intro pins s σ H R I h;refine thn (Y pins s σ H _ I h) λv s1 G=>?_;obtain⟨x,N,u,U,L⟩:=G;obtain⟨a,e,L⟩:=L;subst e;cases U;rcases L with⟨⟨xs,J⟩,q⟩|⟨⟨xs,J⟩,q⟩;obtain⟨its,Z,p,hz⟩:=u.list J;refine gZ p.isList ?_;refine⟨ap s1.heap.objs,[ap s1.heap.objs],_,_,N,rfl,u.kept (t':=dn s1) λb o e=>aj _ e,zh0 a _,⟨_,aA _ rfl,rfl,rfl⟩,λb C=>?_,q⟩;have e:b=ap s1.heap.objs:=by simpa using C
 subst e;exact u.fpOk (av _) (u.hok.fresh (av _));obtain⟨its,Z,p,hz⟩:=u.tuple J;refine iW (show s1.heap.IsTuple a (bm its) from p) ?_;refine⟨ap s1.heap.objs,[ap s1.heap.objs],_,_,N,rfl,u.kept (t':=dn s1) λb o e=>aj _ e,zgo a _,⟨_,aA _ rfl,rfl,rfl⟩,λb C=>?_,q⟩;have e:b=ap s1.heap.objs:=by simpa using C
 subst e;exact u.fpOk (av _) (u.hok.fresh (av _))
def dItA(d:DTE):DTA:=λo n R=>d o n λt l=>JU t λts=>R ts l
theorem zrT(h:DE X iter d):DI X tg iter (dItA d):=by
 obtain⟨N,pa,h⟩:=h;refine⟨_,zvm pa,λC I σ H n Q R S hd G=>?_⟩;refine h C I σ H n _ _ S hd λt x v H' r u J q=>?_;cases t with
 | tuple ts =>obtain⟨p,vs,rfl,o,it⟩:=zrH (P:=λa=>¬Own C I σ a) (λ_ z=>z) q;exact⟨p,rfl,xw ⟨⟨vs,o⟩,G ts x _ H' r u J it⟩⟩
 | list ts =>obtain⟨p,vs,rfl,o,no,L⟩:=q.lstI;exact⟨p,rfl,fj ⟨⟨vs,SqL.of o⟩,G ts x _ H' r u J (Wg o no (λ_ z=>z) L)⟩⟩
 | _=>exact eJ r
variable{ρ:En}{n:Nat}{Rl:qD->Nat->Prop}
instance zA4:Stp (dItA d ρ n Rl) (d ρ n λt n'=>JU t λts=>Rl ts n'):=⟨λh=>h⟩
end
theorem VH{bits:Int}{p q:Int×Int}(P:IsBk bits p.1 p.2)(Q:IsBk bits q.1 q.2){x:Int}(o:p.1<=x/\x<eB p)(u:q.1<=x/\x<eB q):(p.1<=q.1/\eB q<=eB p/\q.2<=p.2)\/(q.1<=p.1/\eB p<=eB q/\p.2<=q.2):=by unfold eB at *;rcases xy (mu q.2) (mu p.2) with l|l;rcases zjq P.n Q.n l with z|z|z;left;have:=(zkd P.n Q.n).mp z;have:=P.1;have:=Q.1;omega;omega;omega;rcases zjq Q.n P.n l with z|z|z;right;have:=(zkd Q.n P.n).mp z;have:=P.1;have:=Q.1;omega;omega;omega
theorem zpl{bits i h:Int}(B:IsBk bits i h):i % 2 ^ mu h=0:=by obtain⟨_,_,k,_,rfl,_⟩:=B;exact rT _ _
theorem Ju.great:∀{bs:qB}{lo hi:Int},Ju lo hi bs->∀b∈bs,QZ b.1 hi (mu b.2)/\lo<=b.1
 | [],_,_,_=>λb o=>nomatch o
 | b::r,lo,hi,h=>by obtain⟨C,u,x,l,v⟩:=h;have p:=Bd.JT (mu b.2);intro c hc;rcases ax.mp hc with rfl|hc;rw[u];exact⟨l,aN _⟩;have:=Ju.great v c hc;exact⟨this.1,by lia⟩
theorem Ju.max{bits:Int}(U:0<=bits){bs:qB}{lo hi:Int}(S:Ju lo hi bs)(l0:0<=lo)(l1:hi<=2 ^ mu bits){p q:Int×Int}(L:p∈bs)(Q:IsBk bits q.1 q.2)(w:lo<=q.1/\eB q<=hi)(i:q.1<=p.1/\eB p<=eB q):q=p:=by
 have B:=S.blk U l0 l1;have P:=B p L;have pp:=Bd.JT (mu p.2);have pq:=Bd.JT (mu q.2);have nest:=VH P Q (x:=p.1) ⟨aN _,by unfold eB;lia⟩ ⟨i.1,by unfold eB at *;lia⟩;have hle:p.2<=q.2:=by
  rcases nest with⟨a,b,c⟩|⟨a,b,c⟩;have u:p.1=q.1:=by lia
  have R:eB p=eB q:=by lia
  unfold eB at R;rcases fU q.2 p.2 with z|z;have p0:=P.1;have q0:=Q.1;have:=QY (show mu q.2+1<=mu p.2 by lia);rw[bH]at this;lia;exact z;exact c
 have p0:=P.1;have q0:=Q.1;by_cases e:p.2=q.2;have u:(2:Int) ^ mu p.2=2 ^ mu q.2:=by rw[e]
 have:q.1=p.1:=by unfold eB at *;lia
 exact dD this e.symm;exfalso;have J:mu p.2+1<=mu q.2:=by lia
 have dq:=zpl Q;have v:=U0 J dq;have G:=(S.great p L).1;by_cases ev:p.1 % 2 ^ (mu p.2+1)=0;apply G.2.2;refine⟨ev,?_⟩;obtain⟨a,l⟩:=bG ev;have de:eB q % 2 ^ (mu p.2+1)=0:=by unfold eB;rw[rS,v,dS (zed J)];simp
 obtain⟨c,I⟩:=bG de;have lt:p.1<eB q:=by have:=i.2;unfold eB at *;lia
 rw[l,I]at lt;have pos:=Bd.JT (mu p.2+1);have ac:a<c:=mE lt (by lia);have:=gD (show a+1<=c by lia) (show(0:Int)<=2 ^ (mu p.2+1) by lia);rw[oU,mJ,<- l,<- I]at this;lia;have OB:(p.1 - 2 ^ mu p.2) % 2 ^ (mu p.2+1)=0:=by
  obtain⟨k,ek⟩:=bG (zpl P);have R:(2:Int) ^ (mu p.2+1)=2 ^ mu p.2*2:=bH _ _;rw[R]at ev ⊢;have odd:k % 2=1:=by rcases tU k with z|z;exfalso;obtain⟨t,et⟩:=bG z;apply ev;apply dS;exact⟨t,by rw[ek,et,cj]⟩;exact z
  apply dS;refine⟨(k - 1) / 2,?_⟩;have:k - 1=2*((k - 1) / 2):=by lia
  rw[ek,cj,<- this,Int.mul_sub,mJ]
 have lowq:q.1<=p.1 - 2 ^ mu p.2:=by
  obtain⟨a,l⟩:=bG OB;obtain⟨c,I⟩:=bG v;have pos:=Bd.JT (mu p.2+1);have R:(2:Int) ^ (mu p.2+1)=2 ^ mu p.2*2:=bH _ _;have lt:q.1<p.1 - 2 ^ mu p.2+2 ^ (mu p.2+1):=by lia
  rw[l,I]at lt;have:(2:Int) ^ (mu p.2+1)*c<2 ^ (mu p.2+1)*(a+1):=by rw[oU,mJ];exact lt
  have ca:=mE this (by lia);have:=gD (show c<=a by lia) (show(0:Int)<=2 ^ (mu p.2+1) by lia);rw[<- l,<- I]at this;exact this
 obtain⟨c,hc,c1,c2⟩:=(S.mem (p.1 - 2 ^ mu p.2)).mpr ⟨by lia,by have:=S.in p L;unfold eB at this;lia⟩;have C:=B c hc;have pc:=Bd.JT (mu c.2);have cp:eB c<=p.1:=by obtain⟨Y,h1,rfl⟩:=bc hc;obtain⟨Z,h2,rfl⟩:=bc L;rcases cC Y Z with z|z|z;exact aM.mp S.pw Y Z h1 h2 z;subst z;lia;have:=aM.mp S.pw Z Y h2 h1 z;unfold eB at this;lia
 have LB:IsBk bits (p.1 - 2 ^ mu p.2) (p.2+1):=by
  have hq1:=Q.2.1;obtain⟨a,l⟩:=bG OB;have u:mu (p.2+1)=mu p.2+1:=by lia
  have pos:=Bd.JT (mu p.2+1);have a0:0<=a:=by rcases fU a 0 with z|z;have:=iE pos z;have:=(Q.bounds U).1;lia;exact z
  refine⟨by lia,by lia,a,a0,by rw[u,l,b7],?_⟩;have e:(2:Int) ^ mu bits=2 ^ mu (bits - (p.2+1))*2 ^ (mu p.2+1):=by rw[<- h8];congr 1;lia
  have up:a*2 ^ (mu p.2+1)<2 ^ mu (bits - (p.2+1))*2 ^ (mu p.2+1):=by rw[<- e,b7,<- l];have:=(P.bounds U).2;lia
  exact mn up (by lia)
 have u:mu (p.2+1)=mu p.2+1:=by lia
 have n3:=VH (p:=c) (q:=(p.1 - 2 ^ mu p.2,p.2+1)) C LB (x:=p.1 - 2 ^ mu p.2) ⟨c1,c2⟩ ⟨aN _,by show _<_+2 ^ mu (p.2+1);have:=Bd.JT (mu (p.2+1));lia⟩;have eL:eB (p.1 - 2 ^ mu p.2,p.2+1)=p.1+2 ^ mu p.2:=by show p.1 - 2 ^ mu p.2+2 ^ mu (p.2+1)=_;rw[u,bH];lia
 rcases n3 with⟨z1,z2,z3⟩|⟨z1,z2,z3⟩;lia;have z1:p.1 - 2 ^ mu p.2<=c.1:=z1;have z3:c.2<=p.2+1:=z3;have cb:c.1=p.1 - 2 ^ mu p.2:=by lia
 have c0:=C.1;have ch:c.2<=p.2:=by
  rcases fU p.2 c.2 with z|z;have:c.2=p.2+1:=by lia
  unfold eB at cp;rw[this,u,bH]at cp;lia;exact z
 have Gc:=(S.great c hc).1;apply Gc.2.2;refine⟨?_,?_⟩;rw[cb];exact U0 (show mu c.2+1<=mu p.2+1 by lia) OB;have:=QY (show mu c.2+1<=mu p.2+1 by lia);have R:(2:Int) ^ (mu p.2+1)=2 ^ mu p.2*2:=bH _ _;have:=S.in p L;unfold eB at this;lia
theorem NR.one{rs:List Run}(l:NR rs){a b:Int}(h:a<b)(w:∀x,a<=x->x<b->mR x rs):∃r∈rs,r.1<=a/\b<=r.2:=by obtain⟨r,o,C,G⟩:=w a (aN _) h;refine⟨r,o,C,?_⟩;rcases fU r.2 b with z|z;exfalso;obtain⟨s,v,L,N⟩:=w r.2 (by lia) z;obtain⟨i,hi,rfl⟩:=bc o;obtain⟨j,u,rfl⟩:=bc v;have I:=l.1 _ o;have J:=l.1 _ v;rcases cC i j with y|y|y;have:=aM.mp l.2 i j hi u y;lia;subst y;lia;have:=aM.mp l.2 j i u hi y;lia;exact z
theorem PatS.from:∀{rs:List Run}{ps:qB},PatS rs ps->∀p∈ps,∃r∈rs,∃bs,Ju r.1 r.2 bs/\p∈bs
 | [],_,h=>by cases(show _=[] from h);exact λb o=>nomatch o
 | s::rs,_,h=>by obtain⟨a,b,rfl,x,u⟩:=h;intro p l;rcases aW.mp l with l|l;exact⟨s,by simp,a,x,l⟩;obtain⟨r,v,bs,B,o⟩:=PatS.from u p l;exact⟨r,by simp[v],bs,B,o⟩
theorem CanP.max{bits:Int}(U:0<=bits){S:Int->Prop}{ps:qB}(h:CanP S ps)(w:∀x,S x->0<=x/\x<2 ^ mu bits){p q:Int×Int}(Z:p∈ps)(Q:IsBk bits q.1 q.2)(R:∀x,q.1<=x->x<eB q->S x)(i:q.1<=p.1/\eB p<=eB q):q=p:=by
 obtain⟨rs,o,C,P⟩:=h;obtain⟨r,u,bs,B,L⟩:=P.from p Z;have lt:=o.1 r u;have N:=w r.1 ((C _).mp ⟨r,u,aN _,lt⟩);have w2:=w (r.2 - 1) ((C _).mp ⟨r,u,by lia,by lia⟩);have pin:=B.in p L;have pp:=Qj p;obtain⟨s,Y,s1,s2⟩:=o.one (a:=q.1) (b:=eB q) (Qj q) λx v l=>(C x).mpr (R x v l);have J:r=s:=by obtain⟨G,v,rfl⟩:=bc u;obtain⟨I,l,rfl⟩:=bc Y;rcases cC G I with y|y|y;have:=aM.mp o.2 G I v l y;lia;subst y;rfl;have:=aM.mp o.2 I G l v y;lia
 subst J;exact B.max U N.1 (by lia) L Q ⟨s1,s2⟩ i
theorem ziP:∀{ps bs:qB},(ps.Pairwise λa b=>eB a<=b.1)->(∀p∈ps,∃b∈bs,p.1<=b.1/\b.1<eB p)->dP ps<=dP bs
 | [],_,_,_=>dw _
 | p::ps,bs,pw,h=>by
  obtain⟨b,u,G,C⟩:=h p (by simp);have l:=ba.mp pw;have:=ziP (ps:=ps) (bs:=bs.erase b) l.2 λq o=>by obtain⟨c,hc,x,v⟩:=h q (by simp[o]);refine⟨c,(k9 ?_).mpr hc,x,v⟩;rintro rfl;have:=l.1 q o;lia
  have e:=iO u;have:=kD u;rw[aH];lia
theorem CanP.le{bits:Int}(G:0<=bits){bs ps:qB}(B:Bks bits bs)(h:CanP (λx=>mB x bs) ps):dP ps<=dP bs:=by
 have w:∀x,mB x bs->0<=x/\x<2 ^ mu bits:=λx ⟨b,l,I,C⟩=>by have:=(B b l).bounds G;unfold eB at C;omega
 have P:=h.ptc G w;refine ziP P.2 λp v=>?_;have pp:=Qj p;obtain⟨b,l,I,C⟩:=(h.mem p.1).mp ⟨p,v,aN _,pp⟩;rcases VH (P.1 p v) (B b l) (x:=p.1) ⟨aN _,pp⟩ ⟨I,C⟩ with z|z;exact⟨b,l,z.1,by have:=Qj b;omega⟩;have:=h.max G w v (B b l) (λx J L=>⟨b,l,J,L⟩) ⟨z.1,z.2.1⟩;subst this;exact⟨b,l,aN _,pp⟩
section
variable{Q:ae->Prop}{s:Str}
theorem ziv:Okd oK:=zqm.okd
instance zAJ:Stp (oNe (eN s) oK Q) (Okd (eN s)/\Q (k6 bj)):=⟨λh=>⟨h.1,ziv,h.2⟩⟩
instance zAS:Stp (oEq (eN s) oK Q) (Okd (eN s)/\Q (k6 bA)):=⟨λh=>⟨h.1,ziv,h.2⟩⟩
end
end L2
namespace Bd
open PySem L2
def VX(nm:ae):Prop:=nm=oK\/∃s,nm=eN s/\IsNm s
def who(s:Str):ae->Bool
 | eN t=>decide (s=t)
 | _=>false
def QG(d:Deal)(nm:ae):List (Int×Int):=(d.2.2.filter λp=>!who p.2 nm).map (·.1)
def ofName(os:List ((Int×Int)×Str))(nm:ae):List (Int×Int):=(os.filter λp=>who p.2 nm).map (·.1)
end Bd
namespace L2
open PySem Bd
end L2
namespace L2
open PySem PySem.Spec PyProof.Rows
theorem zzM{P:aL}{w:aV}{k:Key}{u:ah}(r:RelV (kV k) u):(JA P w).is k u=bj:=by
 cases k with
 | inl i=>obtain⟨t,e⟩:=(show ∃t,u=m6 i t from r);subst e;exact zj0 P w i t
 | inr x=>obtain⟨t,e⟩:=(show ∃t,u=ph x t from r);subst e;exact zjZ P w x t
theorem zi3{P:aL}{w:aV}:∀{ks:List Key}{us:List ah},Vals (ks.map kV) us->ItemsAre (JA P w) ks us
 | [],_,r=>by rw[dH]at r;cases r;exact .nil
 | k::ks,_,r=>by
  rw[aK]at r;cases r with
  | cons h t=>exact .cons (zzM h) (zi3 t)
abbrev KT(H:Hp):List (List Key×V)->List (List Key×aq×ah)->Prop:=bN λp q=>p.1=q.1/\H q.2.1=ai (.tup (p.1.map kV))/\RelV p.2 q.2.2
section
variable{X:Cx}{pins:qO}{σ:St}{H:Hp}{s:au}{a:aq}
theorem Inv.big(I:Inv X pins σ H s):sysModules<ap s.heap.objs:=by have h:mainGlobals<ap s.heap.objs:=(I.mod.glob.keeps I.bk).lt;exact kj (by decide) h
theorem zki{h':bh}{t':Nat}{C:HO}(I:Inv X pins σ H s)(J:Mut (H a))(L:cY a s.heap h')(he:∃q,be h' a=ai q)(new:JE X.prog X.w (upd H a C) h' a C) :
  Inv X pins σ (upd H a C) { s with heap:=h',toks:=t' } :=
 I.write (x:=a) (e:=a) J (fj rfl) (λb q G z=>b3 (L.2 b G) z) he new
end
def NoSl(i:aX):Prop:=∀l o,subscripted i bA l o=operate [l,o] (getItem l o)
theorem zsb{prog:aL}{w:aV}{A:bq}{E:qV}{s:au}{env:Env}{value slice:aX}{pos:Pos}{T id:String}{Q:qV}
  (R:typeLookup (aY T) "__getitem__" = pure (ai (b4 id))) (U:NoSl slice)
  (h:wpAny (model prog w) A (eval value env) (λo G=>wpAny (model prog w) A (eval slice env) (λi v=>v.TypeIs o T/\wpAny (model prog w) A (getItem o i) Q E v) E G) E s) :
  wpAny (model prog w) A (eval (d0 value slice pos) env) Q E s:=by
 refine um (cn h (λo G L=>cn L (λi v C=>?_) λ_ _ x=>x) λ_ _ x=>x);obtain⟨N,C⟩:=C;unfold subscriptTail;refine aa ?_;rw[getitemInPython_of_ne N.not_modules];refine aa (tW N R ?_);have fin:wpAny (model prog w) A (subscripted slice bA o i) (λr I=>wpAny (model prog w) A (letTemporaryGo value o r >>= λ_=>pure r) Q E I) E v:=by rw[U o i];exact wpAny_operating (cn C (λr I J=>aa (wpAny_letTemporaryGo (af J))) λ_ _ x=>x)
 first
  | exact af (aa fin)
  | exact aa (af (aa fin))
  | exact aa fin
end L2
namespace L2
open PySem PySem.Spec PyProof PyProof.Rows
abbrev KD:=List (Key×ae)
section
variable{ks:KD}
instance{ks:KD}:CapC (ai (.dct ks)) (ai (.rdo ks)):=⟨rfl⟩
instance{ks:KD}:CapC (ai (.rdo ks)) (ai (.rdo ks)):=⟨rfl⟩
end
theorem zdj:entryFor table "dict.update.loop" = ai cI.«dict.update.loop»:=by kernel_rfl
theorem zmh:typeLookup (aY "tuple") "keys" = pure ao:=by rw[gT,eG];kernel_rfl
theorem zqK:typeLookup (aY "tuple") "__getattr__" = pure ao:=by rw[gT,eG];kernel_rfl
section
variable{Ky:Type}[DecidableEq Ky]
def KpH(d it:aq)(h h':bh):Prop:=∀b o,b≠d->b≠it->be h b=ai o->be h' b=ai o
end
def rkI:ah->Int
 | m6 i _=>i
 | _=>0
section
variable{prog:aL}{w:aV}{A:bq}{E:qV}{s:au}{Ky:Type}[DecidableEq Ky]
theorem zk3:∀(vs:List ah),(∀v∈vs,∃i t,v=m6 i t)->∃ns,g6 vs ns
 | [],_=>⟨[],.nil⟩
 | v::vs,h=>by obtain⟨i,t,rfl⟩:=h v (by simp);obtain⟨ns,r⟩:=zk3 vs λv u=>h v (by simp[u]);exact⟨i::ns,.cons _ _ r⟩
theorem zme{vs:List ah}(G:∀v∈vs,∃i t,v=m6 i t):Kinds prog w A s rkI vs:=λC=>by
 refine⟨oneType',λE Q q=>?_,λp q E Q mp J h=>?_⟩;obtain⟨l,x,rest,rfl⟩:∃l x rest,vs=l::x::rest:=by
  match vs,C with
  | [],C=>simp at C
  | [_],C=>simp at C
  | l::x::rest,_=>exact⟨l,x,rest,rfl⟩
 obtain⟨ns,r⟩:=zk3 _ G;rw[keyKind_ints r];exact af q;have mem:∀z∈w9 (pairsOf vs),z.1∈vs:=λz hz=>by
  have:z∈vs.zip vs:=by simpa[pairsOf] using hz
  exact(eE this).1
 obtain⟨i,t,I⟩:=G _ (mem p mp);obtain⟨j,u,N⟩:=G _ (mem q J);rw[I,N]at h ⊢;rw[keyLt'_oneType];exact oneLt_int h
end
theorem zis{α u:Type}{P:α->u->Prop}:∀{l:List α}{m:List u},dP l=dP m->(∀(j:Nat) a b,l[j]?=ai a->m[j]?=ai b->P a b)->bN P l m
 | [],[],_,_=>ja
 | a::l,b::m,h,k=>f6 (k 0 a b rfl rfl) (zis (by simpa using h) λj a b x v=>k (j+1) a b x v)
 | [],_::_,h,_=>by simp at h
 | _::_,[],h,_=>by simp at h
section
theorem zr_{u:List Int}{out:List ah}(h:bN (λ(i:Int) (v:ah)=>∃t,v=m6 i t) u out):Vals (u.map V.int) out:=by
 induction h with
 | nil=>exact ja
 | cons r _ x=>exact f6 r x
end
theorem JP{k:Nat}{A:bq}(r:Room k A):A.units+1<cLine:=by have:=r.un;lia
section
theorem znq{K:qF}{hd:Option aq}{O:aq->Prop}{H:Hp}:∀u:List Int,Reps K hd O H (u.map V.int) (u.map b5)
 | []=>.nil
 | j::u=>.cons (.int _) (znq u)
end
theorem Q7{bits:Int}(C:0<=bits){bs:qB}(B:Bks bits bs){x:Int}(h:mB x bs):0<=x/\x<2 ^ mu bits:=by obtain⟨b,l,G,v⟩:=h;have:=(B b l).bounds C;unfold eB at v;lia
theorem zs5{bits:Int}(v:0<=bits)(u:bits<=64){S:Int->Prop}{rs:qB}(o:NR rs)(e:∀x,mR x rs↔S x)(w:∀x,S x->0<=x/\x<2 ^ mu bits):∀r∈rs,0<=r.1/\r.1<=r.2/\r.2<=2 ^ 64:=λr l=>by have lt:=o.1 r l;have a:=w r.1 ((e _).mp ⟨r,l,aN _,lt⟩);have b:=w (r.2 - 1) ((e _).mp ⟨r,l,by lia,by lia⟩);have:=Bd.zdO (k:=mu bits) (by lia);lia
section
variable{prog:aL}{w:aV}{A:bq}{E:qV}{s:au}
theorem zf_{a:aq}{o:Obj}{u:Tok}{P:Fin->au->Prop}(v:be s.heap a=ai o)(hc:jg o=aY "tuple") (l:∃its n,f7 o=f9 its n) (hd:o.dict=ao) (G:A.handled=ao)
  (h:∀h' tk e,og s.heap h' e (aZ a) "keys" -> E (aZ e) { s with heap:=h',toks:=tk }):wpAny (model prog w) A (cI.«object.__getattribute__» ⟨[aZ a,ph "keys" u],[]⟩) P E s:=by
 obtain⟨C,g,d,tk,os⟩:=s;have I:∀(t:Nat),Shared.TypeIs ⟨C,g,d,t,os⟩ (aZ a) "tuple":=λ_=>⟨o,v,hc⟩;have x:=zmh;unfold cI.«object.__getattribute__»
 repeat (any_goals (first|assumption|wp_step))
 rw[hc,x]
 repeat (any_goals (first|assumption|wp_step))
 obtain⟨its,n,l⟩:=l;rw[l];dsimp only;unfold instanceDict
 repeat (any_goals (first|assumption|wp_step))
 rw[hd]
 repeat (any_goals (first|assumption|wp_step))
 simp only[hc,fG,Bool.true_or,if_true]
 repeat (any_goals (first|assumption|wp_step))
 rw[hc];dsimp only
 repeat (any_goals (first|assumption|wp_step))
 exact wpAny_raiseAttrError G h (attrMsg_fits (by decide +kernel) (by size_fits))
theorem zfH{a:aq}{o:Obj}{u:Tok}{R:sI->au->Prop}(v:be s.heap a=ai o)(hc:jg o=aY "tuple") (x:∃its n,f7 o=f9 its n) (hd:o.dict=ao) (C:A.handled=ao)
  (h:∀h' tk e,og s.heap h' e (aZ a) "keys" -> R (.error (aZ e)) { s with heap:=h',toks:=tk }):codeAny (model prog w) A (.call (b4 "tuple.__getattribute__") ⟨[aZ a,ph "keys" u],[]⟩) R s :=
 lh fN.plain F.entry_tuple_ga (fN.check _ _ _ _ _ _ _ _ (show s.TypeIs (aZ a) "tuple" from⟨_,v,hc⟩) (F.args_tuple_getattribute_2 _ _) (zf_ v hc x hd C h))
theorem zhz{a:aq}{o:Obj}{u:Tok}{Q:qV}(l:be s.heap a=ai o)(hc:jg o=aY "tuple") (x:∃its n,f7 o=f9 its n) (hd:o.dict=ao) (G:A.handled=ao)
  (h:∀h' tk e,og s.heap h' e (aZ a) "keys" -> E (aZ e) { s with heap:=h',toks:=tk }):wpAny (model prog w) A (getAttrBy (aZ a) (ph "keys" u) bA) Q E s:=by
 obtain⟨C,g,d,tk,os⟩:=s;have N:(⟨C,g,d,tk,os⟩:au).TypeIs (aZ a) "tuple":=⟨o,l,hc⟩;have f2:=fN.lookup;have J:=fN.bind (aZ a);have f1:=p9;have L:=zqK
 repeat (any_goals (first|assumption|wp_step))
 refine zfH l hc x hd G λh' v e hx=>?_;obtain⟨t',R,he⟩:=hx.there
 repeat (any_goals (first|assumption|wp_step))
 exact h _ _ _ hx
theorem zfI{a:aq}{o:Obj}{Q:Option ah->au->Prop}(x:be s.heap a=ai o)(hc:jg o=aY "tuple") (v:∃its n,f7 o=f9 its n) (hd:o.dict=ao) (C:A.handled=ao)
  (h:∀h' tk,(∀b l,be s.heap b=ai l->be h' b=ai l)->Q ao { s with heap:=h',toks:=tk }):wpAny (model prog w) A (getAttr? (aZ a) "keys") Q E s:=by
 unfold getAttr? getAttrBy?;obtain⟨I,g,d,tk,os⟩:=s;have f1:=p9
 repeat (any_goals (first|assumption|(with_reducible refine zhz x hc v hd C λh' u e hx=>?_)|wp_step))
 obtain⟨t',G,he⟩:=hx.there
 repeat (any_goals (first|assumption|wp_step))
 exact h _ _ hx.keeps
def PrT(prog:aL)(w:aV)(h:bh)(x:ah)(z:List Key×aq×ah):Prop:=∃p:aq,x=aZ p/\rA h p #[aZ z.2.1,z.2.2]/\kS (JA prog w) h z.1 z.2.1
theorem V5{h:bh}{k:List Key}{a b:aq}{T:String}(r:kS (JA prog w) h k a)(u:∃o,be h b=ai o/\jg o=aY T)(v:T ≠ "tuple"):a≠b:=by
 rintro rfl;obtain⟨o,_,_,e,c,_⟩:=r;obtain⟨x,l,c'⟩:=u;rw[e]at l;cases l;rw[c]at c';injection c' with c'
 exact v c'.symm
theorem We{h h':bh}{k:List Key}{a:aq}(r:kS (JA prog w) h k a)(kp:∀o,be h a=ai o->be h' a=ai o):kS (JA prog w) h' k a:=by obtain⟨o,its,n,e,c⟩:=r;exact⟨o,its,n,kp o e,c⟩
theorem tup_ne{h:bh}{a b:aq}{xs:Array ah}{T:String}(r:rA h a xs)(u:∃o,be h b=ai o/\jg o=aY T)(v:T ≠ "tuple"):a≠b:=by
 rintro rfl;obtain⟨o,e,c,_⟩:=r;obtain⟨x,l,c'⟩:=u;rw[e]at l;cases l;rw[c]at c';injection c' with c'
 exact v c'.symm
theorem PrT.keep{h h':bh}{x:ah}{z:List Key×aq×ah}(d it:aq)(hd:∃o,be h d=ai o/\jg o=aY "dict") (hi:∃o,be h it=ai o/\jg o=aY "tuple_iterator") (r:PrT prog w h x z) (kp:KpH d it h h'):PrT prog w h' x z:=by obtain⟨p,e,l,tk⟩:=r;refine⟨p,e,?_,We tk λo=>kp _ o (V5 tk hd (by decide)) (V5 tk hi (by decide))⟩;have v:=tup_ne l hd (by decide);have u:=tup_ne l hi (by decide);obtain⟨o,g,c⟩:=l;exact⟨o,kp p o v u g,c⟩
theorem zoL{h h':bh}{d it:aq}{xs:List (List Key×aq×ah)}(hd:h.DictOfH (tupleKind (JA prog w)) d xs)(hi:∃o,be h it=ai o/\jg o=aY "tuple_iterator") (kp:∀b o,b≠it->be h b=ai o->be h' b=ai o) (u:d≠it):h'.DictOfH (tupleKind (JA prog w)) d xs:=by obtain⟨o,es,ep,v,hc,hd,he,l,C⟩:=hd;exact⟨o,es,ep,kp d o u v,hc,hd,he,λx hx=>We (l x hx) λo e=>kp _ o (V5 (l x hx) hi (by decide)) e,C⟩
theorem zoM{h:bh}{d:aq}{xs:List (List Key×aq×ah)}(hd:h.DictOfH (tupleKind (JA prog w)) d xs):∃o,be h d=ai o/\jg o=aY "dict":=by obtain⟨o,es,ep,l,hc,_⟩:=hd;exact⟨o,l,hc.1⟩
theorem zmP{A:bq}{xs:List ah}{kw:List (Str×ah)}:(A.under (jm "dict.update.loop" ⟨xs,kw⟩)).units=A.units+1:=by first|rfl|simp[Around.under,Code.cUnits,Code.frames,Code.isFrame]
theorem zmQ{d it l:aq}{items:Array ah}{res:ah}(hA:A.handled=ao)(hu:A.units+1<cLine)(S:d≠it)(nl:l≠d)(nli:l≠it):∀(ps:List (List Key×aq×ah)) (i:Nat) (xs:List (List Key×aq×ah)) (s:au) (t:Tok) {R:sI->au->Prop},
  s.heap.IsTuple l items->s.heap.IsTupleIter it l i->s.heap.DictOfH (tupleKind (JA prog w)) d xs->dP xs+dP ps<=sizeLine->((xs++ps).map (·.1)).Nodup->bN (PrT prog w s.heap) (items.toList.drop i) ps ->
  (∀h' tk,KpH d it s.heap h'->h'.DictOfH (tupleKind (JA prog w)) d (xs++ps)->R (.ok (Ag res)) { s with heap:=h',toks:=tk }) ->
  codeAny (model prog w) A (jm "dict.update.loop" ⟨[aZ d,aZ it,m6 i t,res],[]⟩) R s:=by
 intro ps;induction ps with
 | nil =>
  intro i xs s t R hl hi hd hz hn Y h;have e:items[i]?=ao:=by generalize hq:items.toList.drop i=q at Y;cases Y;have:=List.drop_eq_nil_iff.mp hq;exact nT (by simpa using this)
  refine dJ zdj ?_;show wpAny _ _ (pyNext (aZ it) >>= _) _ _ s;refine aa (nJ hA hi hl e λh' hx=>?_);show wpAny _ _ (mZ d [] >>= λ_=>ret res) _ _ _;unfold mZ;rw[hZ];rw[b8]at h;obtain⟨Z,gi,ci,_⟩:=id hi;exact aa (af (af (h h' s.toks (λb o _ n ho=>hx b o n ho) (zoL hd ⟨Z,gi,ci⟩ (λb o n e=>hx b o n e) S))))
 | cons y ps ih =>
  obtain⟨k,a,v⟩:=y;intro i xs s t R hl hi hd hz hn Y h;generalize hq:items.toList.drop i=q at Y;cases Y with
  | cons r rs =>
   rename_i x xs';have J:∃o,be s.heap it=ai o/\jg o=aY "tuple_iterator":=by obtain⟨Z,gi,ci,_⟩:=id hi;exact⟨Z,gi,ci⟩
   obtain⟨p,rfl,tp,ki⟩:=r;have np:=tup_ne tp (zoM hd) (by decide);have npi:=tup_ne tp J (by decide);obtain⟨o,ho,oc,n,od⟩:=id tp;have hlt:i<dP items.toList:=by by_cases z:i<dP items.toList;exact z;rw[List.drop_of_length_le (by lia)]at hq;cases hq
   rw[cq hlt]at hq;obtain⟨e1,e2⟩:=iP hq;have e:items[i]?=ai (aZ p):=by rw[<- e1,<- cM];exact ay hlt
   refine dJ zdj ?_;show wpAny _ _ (pyNext (aZ it) >>= _) _ _ s;refine aa (m7 hi hl e λU hi1 L=>?_);refine aa (bO ?_);have ho1:be U p=ai o:=b3 (L.2 p npi) ho;have hT:(⟨U,jh s,jr s,dn s,s.os⟩:au).TypeIs (aZ p) "tuple":=⟨o,ho1,oc⟩;refine aa (kE ?_);unfold xB;refine aa (dY hT ?_);rw[if_pos (by rfl)];refine aa (cA ho1 od (af ?_));show wpAny _ _ (holding [aZ a,v] (dictSet d (aZ a) v)) _ _ _;have kp1:KpH d it s.heap U:=λb G _ n C=>b3 (L.2 b n) C;have hd1:=zoL hd J (λb G n C=>b3 (L.2 b n) C) S;have ki1:kS (JA prog w) U k a:=We ki λG C=>b3 (L.2 a (V5 ki J (by decide))) C;rw[aH]at hz;have kn:k∉xs.map (·.1):=by rw[e9,fV]at hn;exact λz=>hn.2.2 k z k (by simp) rfl
   have ak:atKey xs k=ao:=by unfold atKey;rw[nU,gL];intro x hx z;exact kn (aR.mpr ⟨x,hx,by simpa using z⟩)
   refine bO (rf (s:=⟨U,jh s,jr s,dn s,s.os⟩) (knd:=tupleKind (JA prog w)) (by show Around.units _<cLine;rw[zmP];exact hu) ki1 hd1 (λh2 hd2 hs2=>?_) (by lia));have kp2:KpH d it U h2:=λb G n _ C=>b3 (hs2.2 b n) C;refine af ⟨gH _ (by decide +kernel),?_⟩;have kp:KpH d it s.heap h2:=λb G n1 n2 C=>kp2 b G n1 n2 (kp1 b G n1 n2 C);rw[storedH_new ak]at hd2;refine ih (i+1) (xs++[(k,a,v)]) _ 0 ?_ ?_ hd2 ?_ ?_ ?_ λh' tk kp' hd'=>?_;obtain⟨ol,hol,r⟩:=hl;exact⟨ol,kp l ol nl nli hol,r⟩;obtain⟨Z,hoi,r⟩:=hi1;exact⟨Z,b3 (hs2.2 it (dG S)) hoi,r⟩;rw[a9,kM];lia;rw[dZ];exact hn;rw[e2];exact Paired.mapP rs λ_ _ r=>r.keep d it (zoM hd) J kp;rw[dZ]at hd';exact h h' tk (λb G n1 n2 C=>kp' b G n1 n2 (kp b G n1 n2 C)) hd'
theorem zhI{s:au}{l:aq}{o:Obj}{its:Array ah}{n:Nat}{ps:List (List Key×aq×ah)}{Q:qV}(ho:be s.heap l=ai o)(hc:jg o=aY "tuple") (Y:f7 o=f9 its n) (hd:o.dict=ao) (hA:A.handled=ao) (hu:A.units+64<cLine)
  (hp:bN (PrT prog w s.heap) (w9 its) ps) (hz:dP ps<=sizeLine) (hn:(ps.map (·.1)).Nodup)
  (h:∀h' tk,(∀b v,be s.heap b=ai v->be h' b=ai v)->h'.DictOfH (tupleKind (JA prog w)) s.heap.objs.size ps->Q (aZ s.heap.objs.size) { s with heap:=h',toks:=tk }) :
  wpAny (model prog w) A (call (aY "dict") [aZ l]) Q E s:=by
 refine callType_codes (Q₁:=λobj C=>obj=aZ s.heap.objs.size/\C={ s with heap:=dL s.heap { cls:=aY "dict",data:=jk #[] } }) F.kt_called_dict (F.kt_typeCall_dict_1 _) F.entry_dict_init (kt_code_dict_new _ ⟨rfl,rfl⟩) ?_;rintro obj C ⟨rfl,rfl⟩;have OX:(dL s.heap { cls:=aY "dict",data:=jk #[] }).DictOfH (tupleKind (JA prog w)) s.heap.objs.size []:=kT s.heap;have G:be (dL s.heap { cls:=aY "dict",data:=jk #[] }) l=ai o:=aj _ ho;have L:=OX.typeIs (s:={ s with heap:=dL s.heap { cls:=aY "dict",data:=jk #[] } });refine⟨L,F.args_dict_init_2 _ _,?_⟩;unfold cI.«dict.__init__»;refine aa ?_;unfold wb;refine aa (om L ?_);show wpAny _ _ (pure (ap s.heap.objs,[aZ l])) _ _ _;refine af ?_;show wpAny _ _ (nA "dict.__init__" s.heap.objs.size (aZ l) [] dM) _ _ _;unfold nA;refine aa (dY (T:="tuple") ⟨o,G,hc⟩ ?_);rw[if_pos (by rfl)];refine aa (zfI G hc ⟨its,n,Y⟩ hd hA λh1 tk1 k1=>?_);rw[if_pos (show(ao:Option ah).isNone=bj from rfl)];refine aa (dh ?_);have I:=k1 l o G;have U:h1.IsTuple l its:=⟨o,I,hc,n,Y⟩;refine aa (iW U ?_);refine af ⟨gH _ (by decide +kernel),?_⟩;obtain⟨od,es,ep,hod,R⟩:=OX;have OY:=k1 _ od hod;have l1:=aB OY;have l2:=aB ho;have l3:=aB I;have S:∀b v,be s.heap b=ai v->be (dL h1 { cls:=aY "tuple_iterator",data:=ed #[aZ l,m6 0 0] }) b=ai v:=λb v J=>aj _ (k1 b v (aj _ J));refine zmQ (A:=A.in1) (items:=its) (xs:=[]) (i:=0) (ps:=ps) (show A.in1.handled=ao from hA) (show A.units+1+1<cLine by lia) (aO l1) (aO l2) (aO l3) _ 0 ?_ ?_ ?_ (by simpa using hz) (by simpa using hn) ?_ λh' tk kp hd'=>?_;exact⟨o,aj _ I,hc,n,Y⟩;exact⟨_,aA _ rfl,rfl,rfl⟩;exact⟨od,es,ep,aj _ OY,R.1,R.2.1,R.2.2.1,by simp,by simp⟩;rw[mj];refine Paired.mapP hp λx z ⟨p,e,tp,tk⟩=>⟨p,e,?_,We tk λv=>S _ v⟩;obtain⟨v,Z,r⟩:=tp;exact⟨v,S p v Z,r⟩;exact⟨rfl,h h' tk (λb v J=>kp b v (aO (aB J)) (aO (kj (aB J) l1)) (S b v J)) hd'⟩
variable{X:Cx}
theorem UP{pins:qO}{σ:St}{H:Hp}{s:au}{b:aq}{k:List Key}(I:Inv X pins σ H s)(h:SqT X.K H b (k.map kV)):kS (JA X.prog X.w) s.heap k b:=by obtain⟨its,r,⟨o,e,c,n,d⟩,_⟩:=I.tuple h;exact⟨o,bm its,n,e,c,d,by simpa using zi3 r⟩
end
end L2
namespace Bd
open PySem L2
theorem znQ{bs:qB}:Okd (fX (pD bs)):=by have h:=znR (bs:=bs);unfold Okd at *;simpa only[bR,dI] using h
theorem zoD{d:ae}(h:Okd d):fF d d=bj:=Ac d h.1
end Bd
namespace L2
open PySem PySem.Spec PyProof PyProof.Rows PySem.W
section
variable{X:Cx}{e:aX}{x:Str}{pos:Pos}{d:DTE}
def zp6(K:qF):V->List V->Hp->VK->Prop:=λx vs H Q=>∃l b xs zs,x=.ref l/\vs=[.ref b]/\H l=ai (.lst xs)/\SqT K H b zs/\dP xs+dP zs<=sizeLine/\Q .non (upd H l (.lst (xs++zs)))
theorem zlV:MtM X "list.extend" (zp6 X.K):=by
 intro pins s σ H x vs v us Q I S rv h;obtain⟨l,b,xs,zs,rfl,rfl,N,U,hz,q⟩:=h;cases S;obtain⟨u,rfl,ru⟩:=rv.one;cases ru;obtain⟨z,its,n,r,hl,e⟩:=I.lstM N;obtain⟨C,L,⟨o,R,hc,n2,hd⟩,z2⟩:=I.tuple U;have lr:=r.length;have Z:=L.length;have hsz:ap its.toArray+ap C.toArray<=sizeLine:=by rw[aD,aD];lia
 have OZ:¬(!its.toArray.isEmpty&&iM (ap its.toArray+ap C.toArray))=bj:=by rw[zqo hsz,oW];exact a8
 refine bw F.slot_list_extend ⟨_,e,rfl⟩ F.entry_list_extend ?_ (F.args_list_extend_2 _ _);show wpAny _ _ (cN (aZ l) (aZ b) dM) _ _ s;unfold cN;refine aa (dY (T:="tuple") ⟨o,R,hc⟩ ?_);have Y:(iQ (aZ l) (aZ b)||aY "tuple" == aY "list" ||aY "tuple" == aY "tuple")=bj:=by simp
 simp only[Y,if_true];refine aa ?_;unfold gJ;refine aa (cA R hd (af ?_));refine aa ?_;refine aa (cA e rfl (af ?_));rw[if_neg OZ];show wpAny _ _ (updateSeq l (·++bm C) >>= λ_=>ret dM) _ _ s;have G:ap its.toArray<=sizeLine:=by rw[aD];lia
 have J:ap (bm its++bm C)<=sizeLine+1:=by rw[rQ];lia
 refine aa (gU e rfl (hz:=G) (_hz':=J) ?_);refine af ⟨_,rfl,?_⟩;refine⟨.non,_,I.lset (its':=its++C) N e (by simp) (r.append L) ?_,rfl,q⟩;rw[a9];lia
def Wn(i:Nat)(d:DTE):DTS:=λD l n=>match l[i]? with
 | some (ai (.own ts))=>d l n λt u=>lTup t λus=>dP ts+dP us<=16777216/\D.nx (cr l i (ai (.own (ts++us)))) u
 | _=>False
theorem zmo(i:Nat){p1 p2 p3:Pos}(h:DE X e d)(hN:X.N[i]?=ai x:=by rfl)(hv:Vis (cu X.env) x:=by walk_at "V")(hd:Ndb x:=by rfl)
  (J:Ncd x:=by rfl) (hs:swapsWith (ee (h7 (bn x p1) "extend" p2) [e] [] p3) ao pos.line X.env=pure bA:=by rfl)
  (Nn:attributeBase (bn x p1) "extend" X.env (eval (bn x p1) X.env)=eval (bn x p1) X.env:=by rfl)
  (N4:((backTo p3 (starEach [e] X.env)).all (λx=>!x.1)&&(backToKw p3 (keywordEach [] X.env)).all (λx=>eA x.1)
   && decide ([e].length+dP ([]:List fR)+(if dy ([]:List fR) then 0 else 1)<30))=bj:=by rfl)
  (Np:(p2.endLine == ib p3)=bj:=by rfl) (I:starEach [e] X.env=[(bA,eval e X.env)]:=by rfl):DS X (.Expr (ee (h7 (bn x p1) "extend" p2) [e] [] p3) pos) (Wn i d):=by
 obtain⟨ta,pa,h⟩:=h;refine⟨_,znz (Yn nt PySem.F.slot_list_extend PySem.F.type_list_extend zlV (QJ hN hv hd J) (Qu pa QI I) Nn N4 Np I rfl) hs,λC ρ σ H n D D' S hd g=>?_⟩;unfold Wn at hd;split at hd;rename_i ts R;obtain⟨p,vs,Y,h2,h3,h4⟩:=S.own i ts R;refine⟨.ref p,Y,fj ⟨rfl,_,SqL.of h2⟩,?_⟩;refine h C ρ σ H n _ _ S hd λt n' v H' r e1 hn q=>?_;cases t with
 | tuple us =>have Z:=S.on e1 hn;obtain⟨p',L,G,U,o,h4'⟩:=Z.own i ts R;rw[Y]at G;cases G;obtain⟨b,ws,rfl,hb,q⟩:=q.tupI;refine⟨p,b,L,ws,rfl,rfl,U,hb,by rw[o.length,q.length];exact r.1,?_⟩;obtain⟨S2,k2⟩:=Z.chg R Y (o.append q);exact g.nx _ _ _ n' r.2 S2 (e1.keep.trans k2)
 | _=>exact eJ r
 exact eJ hd
instance zuX {i:Nat}{ρ:En}{n:Nat}{D:JN}{xs:qD}[h:GetN ρ i (ai (.own xs))]:Stp (Wn i d D ρ n) (d ρ n λt n'=>lTup t λus=>dP xs+dP us<=16777216/\SetK i (ai (.own (xs++us))) D.nx ρ n'):=⟨λk=>by unfold Wn;rw[h.e];exact k⟩
end
end L2
namespace Bd
open PySem L2
def Dq(K:qF)(mg:qM)(x:Str)(st:eW)(ps:List Str):Prop:=∃f fd,Def K mg x st ps f fd
def Fq(P:aL)(w:aV)(K:qF)(mg:qM)(base:bh)(x:Str)(st:eW)(ps:List Str)(k:Nat)(l:Sp):Prop:=∃f fd,Def K mg x st ps f fd/\FnOk P w K mg base CX0 k f fd ps l
end Bd
namespace L2
open PySem PySem.Spec PyProof.Rows
section
variable{X:Cx}{x:Str}{st:eW}{ps:List Str}{k n m:Nat}{g:GD}{e:aX}{es:List aX}{ds:DTA}{p pos:Pos}
theorem Jd(F:Bd.Fq X.prog X.w X.K X.mg X.base x st ps k (spD X.K m g))(v:Room n X.A)(h:DB X (e::es) ds)(I:k<=n:=by decide)(J:dP (e::es)=m:=by rfl)(u:Gl X x:=by rfl)
  (o:Ndb x:=by rfl):DE X (ee (bn x p) (e::es) [] pos) (dFn g ds):=by
 obtain⟨f,fd,D,G⟩:=F;exact zAv D G (v.mono I) h J u o
theorem zrZ(F:Bd.Fq X.prog X.w X.K X.mg X.base x st ps k (spD X.K m g))(v:Room n X.A)(h:DBL X (e::es) ds)(I:k<=n:=by decide)(J:dP (e::es)=m:=by rfl)(u:Gl X x:=by rfl)
  (o:Ndb x:=by rfl):DE X (ee (bn x p) (e::es) [] pos) (dFnL g ds):=by
 obtain⟨f,fd,D,G⟩:=F;exact zxB D G (v.mono I) h J u o
variable{hx s kx:Str}{p1 p2 p3 pos':Pos}{sts:List eW}{u:DTS}
theorem zoG{i j:Nat}(F:Bd.Fq X.prog X.w X.K X.mg X.base hx st ps k (Wa X.K))(hr:Room n X.A)(hN:X.N.Nodup)(hi:X.N[i]?=ai x)(S:Loc (cu X.env) x)(hu:DSs X sts u)(hk:k<=n:=by decide)(Y:i≠0:=by decide)(I:j≠0:=by decide)(U:j≠i:=by decide)
  (h0:X.N[0]?=ai s:=by rfl) (hj:X.N[j]?=ai kx:=by rfl) (L:Vis (cu X.env) s:=by walk_at "V") (v:Vis (cu X.env) kx:=by walk_at "V")
  (R:Ndb s:=by rfl) (Z:Ncd s:=by rfl) (J:Ndb kx:=by rfl) (OP:Ncd kx:=by rfl) (hg:Gl X hx:=by rfl) (o:Ndb hx:=by rfl)
  (hs:swapsWith (ee (bn hx p) [bn s p1,bn kx p2] [] p3) (ai (bn x pos')) pos.line X.env=pure bA:=by rfl) (hf:Fnl X x:=by walk_at "F") :
  DSs X (h6 [bn x pos'] (ee (bn hx p) [bn s p1,bn kx p2] [] p3) pos::sts) (Yh i j u):=by
 obtain⟨f,fd,D,G⟩:=F;exact zqR D G (hr.mono hk) hN hi S hu Y I U h0 hj L v R Z J OP hg o hs hf
end
end L2
namespace Bd
open PySem L2
section
variable{h:bh}{x:Str}{st:eW}{ps:List Str}
abbrev BndA(x:Str)(st:eW)(ps:List Str):Prop:=∀(kV doc pm:ah) (an:Option aq) (cdv ct:ah) (us:List ah),dP us=dP ps->bindArgs (dX x x (QN st) (J9 st) (JI st) dM kV doc pm an cdv ct) ⟨us,[]⟩=pure (ps.zip us)
theorem lenS{us:List ah}{n:Nat}(h:dP us=n+1):∃a t,us=a::t/\dP t=n:=by
 cases us with
 | nil=>cases h
 | cons a t=>exact⟨a,t,rfl,Nat.succ.inj h⟩
theorem len1{us:List ah}(h:dP us=1):∃a,us=[a]:=by obtain⟨a,t,rfl,e⟩:=lenS h;exact⟨a,by rw[List.eq_nil_of_length_eq_zero e]⟩
theorem len2{us:List ah}(h:dP us=2):∃a b,us=[a,b]:=by obtain⟨a,t,rfl,e⟩:=lenS h;obtain⟨b,rfl⟩:=len1 e;exact⟨a,b,rfl⟩
theorem len3{us:List ah}(h:dP us=3):∃a b c,us=[a,b,c]:=by obtain⟨a,t,rfl,e⟩:=lenS h;obtain⟨b,c,rfl⟩:=len2 e;exact⟨a,b,c,rfl⟩
theorem len4{us:List ah}(h:dP us=4):∃a b c d,us=[a,b,c,d]:=by obtain⟨a,t,rfl,e⟩:=lenS h;obtain⟨b,c,d,rfl⟩:=len3 e;exact⟨a,b,c,d,rfl⟩
end
end Bd
namespace L2
open PySem PySem.Spec PyProof PyProof.Rows
section
variable{X:Cx}{a b:aX}{da db:DTE}{p2 p3:Pos}
theorem zhR:∀{ss:List Str}{us:List ah},Vals (ss.map V.str) us->∃l:List (Str×Tok),strValues l=us/\l.map (·.1)=ss
 | [],_,r=>by cases r;exact⟨[],rfl,rfl⟩
 | x::ss,_,r=>by
  cases r with
  | cons v C =>obtain⟨t,rfl⟩:=v;obtain⟨l,o,u⟩:=zhR C;exact⟨(x,t)::l,by simp[strValues]at o ⊢;exact o,by simp[u]⟩
def rJoin(K:qF):V->List V->Hp->VK->Prop:=λx xs H Q=>∃(sep:Str) (l:aq) (ss:List Str),x=.str sep/\xs=[.ref l]/\SqL K H l (ss.map V.str)/\uF sep ss=bj/\Q (.str (gV sep ss)) H
theorem zta:MtR X "str.join" (rJoin X.K):=by
 intro pins s σ H x xs v us Q I J rs h;obtain⟨sep,l,ss,rfl,rfl,u,ok,q⟩:=h;obtain⟨t,rfl⟩:=J;cases rs with
 | cons o C =>cases C;cases(show _=aZ l from o);obtain⟨its,L,p,_⟩:=I.list u;obtain⟨R,G,N⟩:=zhR L;exact SC.join (l:=R) (texts:=ss) (by rw[G];exact p.isList) N ok λt' k=>⟨.str _,H,I.tok _,⟨_,rfl⟩,q⟩
theorem zid{K:qF}{hd:Option aq}{O:aq->Prop}{H:Hp}:∀{ss:List Str}{vs:List V},Reps K hd O H vs (ss.map eN)->vs=ss.map V.str
 | [],_,r=>by cases r;rfl
 | x::ss,_,r=>by
  cases r with
  | cons o l=>rw[o.strI,zid l];rfl
def zxC(da db:DTE):DTE:=λl n R=>da l n λt o=>lStr t λsep=>db l o λu v=>lLst u λts=>∃ss:List Str,ts=ss.map eN/\uF sep ss=bj/\R (eN (gV sep ss)) v
theorem zoR(h:DL X a da)(h':DE X b db)(Nn:attributeBase a "join" X.env (eval a X.env)=eval a X.env:=by rfl)
  (N4:((backTo p3 (starEach [b] X.env)).all (λx=>!x.1)&&(backToKw p3 (keywordEach [] X.env)).all (λx=>eA x.1)
   && decide ([b].length+dP ([]:List fR)+(if dy ([]:List fR) then 0 else 1)<30))=bj:=by rfl) (Np:(p2.endLine == ib p3)=bj:=by rfl) (o:starEach [b] X.env=[(bA,eval b X.env)]:=by rfl):DE X (ee (h7 a "join" p2) [b] [] p3) (zxC da db):=by
 obtain⟨ta,pa,h⟩:=h;obtain⟨tb,pb,h'⟩:=h';refine⟨_,Yn gM PySem.F.slot_str_join PySem.F.type_str_join zta pa (Qu pb QI o) Nn N4 Np o rfl,λC J σ H n Q R S hd hq=>?_⟩;refine h C J σ H n _ _ S hd λt n1 v U r I h1 q1=>?_;cases t with
 | str sep =>
  rw[q1.strI];have S1:=S.on I h1;refine⟨rfl,h' C J σ U n1 _ _ S1 r λu n2 w H2 G e2 Z q2=>?_⟩;cases u with
  | list ts =>obtain⟨ss,rfl,ok,N⟩:=G;obtain⟨p,vs,rfl,L,_,Y⟩:=q2.lstI;rw[zid Y]at L;exact⟨sep,p,ss,rfl,rfl,SqL.of L,ok,hq _ n2 _ H2 N (I.trans e2) Z (.str _)⟩
  | _=>exact eJ G
 | _=>exact eJ r
theorem ztb:MtR X "str.endswith" (λx xs H Q=>∃z y,x=.str z/\xs=[.str y]/\Q (.bl (gN z y)) H):=by
 intro pins s σ H x xs v us Q I G rs h;obtain⟨z,y,rfl,rfl,q⟩:=h;obtain⟨t,rfl⟩:=G;cases rs with
 | cons o C =>cases C;obtain⟨u,rfl⟩:=o;exact SC.endswith ⟨.bl _,H,I,rfl,q⟩
def zxE(da db:DTE):DTE:=λv n R=>da v n λt x=>lStr t λz=>db v x λu C=>lStr u λy=>R (k6 (gN z y)) C
theorem zt0(h:DL X a da)(h':DE X b db)(Nn:attributeBase a "endswith" X.env (eval a X.env)=eval a X.env:=by rfl)
  (U:((backTo p3 (starEach [b] X.env)).all (λx=>!x.1)&&(backToKw p3 (keywordEach [] X.env)).all (λx=>eA x.1)
   && decide ([b].length+dP ([]:List fR)+(if dy ([]:List fR) then 0 else 1)<30))=bj:=by rfl) (Np:(p2.endLine == ib p3)=bj:=by rfl) (o:starEach [b] X.env=[(bA,eval b X.env)]:=by rfl):DE X (ee (h7 a "endswith" p2) [b] [] p3) (zxE da db):=by
 obtain⟨ta,pa,h⟩:=h;obtain⟨tb,pb,h'⟩:=h';refine⟨_,Yn gM PySem.F.slot_str_endswith PySem.F.type_str_endswith ztb pa (Qu pb QI o) Nn U Np o rfl,λC J σ H n Q R S hd hq=>?_⟩;refine h C J σ H n _ _ S hd λt n1 v L r I h1 q1=>?_;cases t with
 | str z =>
  rw[q1.strI];have S1:=S.on I h1;refine⟨rfl,h' C J σ L n1 _ _ S1 r λu Z w H2 G e2 N Y=>?_⟩;cases u with
  | str y =>rw[Y.strI];exact⟨z,y,rfl,rfl,hq _ Z _ H2 G (I.trans e2) N (.bl _)⟩
  | _=>exact eJ G
 | _=>exact eJ r
def zu8:List V->Hp->VK->Prop:=λxs H Q=>∃z n,xs=[.str z]/\ic z=ai n/\kN z<=640/\Q (.int n) H
theorem zjn:JK X (aY "int") zu8:=by intro pins s σ H xs us Q I r h;obtain⟨z,n,rfl,o,l,q⟩:=h;obtain⟨u,rfl,v⟩:=r.one;obtain⟨t,rfl⟩:=v;exact ye o l ⟨.int n,H,I.tok _,⟨_,rfl⟩,q⟩
def V2:GC
 | [eN z],R=>kN z<=640/\∃n,ic z=ai n/\R (b5 n)
 | _,_=>False
theorem zoy:GpC X zu8 V2:=by
 intro hd O H vs ts Q R dom rs g o;unfold V2 at g;split at g;obtain⟨x,n,v,r⟩:=g;cases rs with
 | cons u l =>cases l;rw[u.strI];exact⟨_,n,rfl,v,x,o _ _ H r (Same.refl H) (.int _)⟩
 exact eJ g
variable{ρ:En}{n:Nat}{R:qN}{y z t:Str}
instance zAM:Stp (zxC da db ρ n R) (da ρ n λt n1=>lStr t λsep=>db ρ n1 λu n2=>lLst u λts=>∃ss:List Str,ts=ss.map eN/\uF sep ss=bj/\R (eN (gV sep ss)) n2):=⟨λh=>h⟩
instance zAT:Stp (zxE da db ρ n R) (da ρ n λt n1=>lStr t λz=>db ρ n1 λu n2=>lStr u λy=>R (k6 (gN z y)) n2):=⟨λh=>h⟩
end
end L2
namespace Bd
open PySem L2
open Builtin Builtin.Str
def mkS(l:List Nat):Str:=⟨bm l⟩
theorem J3{l:List Nat}:(mkS l).cps.toList=l:=by simp[mkS]
theorem zn2{a b:List Nat}:mkS a++mkS b=mkS (a++b):=L2.Str.ext' (by rw[UR,J3,J3,J3])
theorem mkS_len{l:List Nat}:kN (mkS l)=dP l:=by rw[<- J1,J3]
theorem znb:ar "*" = mkS [42]:=by decide +kernel
theorem ZH:ar "" = mkS []:=by decide +kernel
theorem s_0:ar "0" = mkS [48]:=by decide +kernel
theorem s_1:ar "1" = mkS [49]:=by decide +kernel
def figs(cs:List Nat):Prop:=∀c∈cs,c=48\/c=49
instance zyF {cs:List Nat}:Decidable (figs cs):=by unfold figs;infer_instance
theorem zoF{x:Str}:gN x (ar "*")=decide (x.cps.toList.getLast?=ai 42):=by
 rw[znb];unfold gN;have o:kN (mkS [42])=1:=rfl;rw[o];by_cases h:kN x=0;have:w9 x.cps=[]:=cf.mp (by rw[J1];exact h);rw[this,h];rfl;have e:subAt x (mkS [42]) (kN x - 1)=decide (x.cps.toList.getLast?=ai 42):=by have:=StrLaws.subAt_one x 42 (kN x - 1);rw[List.getLast?_eq_getElem?,J1];rw[eD,decide_eq_true_eq];constructor;intro z;exact this.mp ⟨by show kN x - 1+1<=kN x;lia,z⟩;intro z;exact(this.mpr z).2
 rw[e];have:decide (0+1<=kN x)=bj:=decide_eq_true (by lia);rw[this,gX]
theorem zdT:∀(rest:List Str) (acc:Array Nat),w9 (rest.foldl (λacc p=>acc++(mkS []).cps++p.cps) acc)=w9 acc++(rest.map (·.cps.toList)).flatten
 | [],acc=>by simp
 | p::r,acc=>by rw[fh,zdT r];simp[mkS]
theorem join_nil(ss:List Str):gV (ar "") ss=mkS (ss.map (·.cps.toList)).flatten:=by
 rw[ZH];refine L2.Str.ext' ?_;rw[J3];cases ss with
 | nil=>rfl
 | cons p r =>show(r.foldl (λacc p=>acc++(mkS []).cps++p.cps) p.cps).toList=_;rw[zdT];simp
theorem joinOk_of{sep:Str}{ss:List Str}{k:Nat}(o:∀s∈ss,kN s<=k)(G:dP ss*(k+kN sep)<=16777216):uF sep ss=bj:=by
 have key:∀(l:List Str) (a:Nat),(∀s∈l,kN s<=k)->l.foldl (λx1 u=>x1+kN u+kN sep) a<=a+dP l*(k+kN sep):=by
  intro l;induction l with
  | nil=>intro a _;simp
  | cons x r v =>intro a h;have I:=h x (by simp);have C:=v (a+kN x+kN sep) λs o=>h s (by simp[o]);rw[fh,aH,Nat.add_mul,tB];lia
 unfold uF tooLong;rw[g7,decide_eq_false_iff_not];have:=key ss 0 o;have e:sizeLine=16777216:=rfl;rw[List.foldl_toArray];lia
def figL(k:Nat)(a:Int):List Nat:=(c9 k).map λj=>48+mu ((a / 2 ^ (k - 1 - j)) % 2)
theorem Wq{k:Nat}{a:Int}:dP (figL k a)=k:=by simp[figL]
theorem zoC{k:Nat}{a:Int}:figL (k+1) a=(48+mu ((a / 2 ^ k) % 2))::figL k a:=by unfold figL;rw[List.range_succ_eq_map,aK,b6];congr 1;refine iF λj l=>?_;show 48+mu ((a / 2 ^ (k+1 - 1 - (j+1))) % 2)=_;rw[show k+1 - 1 - (j+1)=k - 1 - j by lia]
theorem zjc{k:Nat}{a:Int}:figs (figL k a):=λc hc=>by
 obtain⟨j,_,rfl⟩:=aR.mp hc;have:(a / 2 ^ (k - 1 - j)) % 2=0\/(a / 2 ^ (k - 1 - j)) % 2=1:=by lia
 rcases this with h|h <;> rw[h];exact fj rfl;exact xw rfl
def valF(v:Int)(cs:List Nat):Int:=cs.foldl (λ(v:Int) (c:Nat)=>2*v+((c:Int) - 48)) v
theorem zqr{a p:Int}(o:0<p):a % (p*2)=p*((a / p) % 2)+a % p:=by
 have v:=oo a p;have x:=fi a (show p≠0 by lia);have C:=eO a o;generalize a / p=q at *;generalize a % p=r at *;have l:q % 2=0\/q % 2=1:=by lia
 have e:a=p*2*(q / 2)+(p*(q % 2)+r):=by
  have u:q=2*(q / 2)+q % 2:=bv (oo q 2);rw[<- v];conv=>lhs;rw[u]
  rw[oU,<- cj];lia
 rw[e,xl,Int.add_mul_emod_self_left];rcases l with l|l <;> rw[l] <;> exact rV (by lia) (by lia)
theorem zkv:∀(k:Nat) (v a:Int),valF v (figL k a)=v*2 ^ k+a % 2 ^ k
 | 0,v,a=>by simp[figL,valF,Int.emod_one]
 | k+1,v,a=>by
  rw[zoC];show valF (2*v+(((48+mu ((a / 2 ^ k) % 2):Nat):Int) - 48)) (figL k a)=_;rw[zkv k];have l:0<=(a / 2 ^ k) % 2:=fi _ (by decide);have e:(((48+mu ((a / 2 ^ k) % 2):Nat):Int) - 48)=(a / 2 ^ k) % 2:=by lia
  rw[e,bH,zqr (JT k),cS,b7 ((a / 2 ^ k) % 2),show 2*v*2 ^ k=v*(2 ^ k*2) from by rw[b7 2 v,cj,b7 2]];lia
def blkT(bits:Int)(cs:List Nat):Option (Int×Int) :=
 if cs.getLast?=ai 42 then
  if 0<bits - ((dP cs:Int) - 1)/\figs cs.dropLast then ai (valF 0 cs.dropLast*2 ^ mu (bits - ((dP cs:Int) - 1)),bits - ((dP cs:Int) - 1)) else ao
 else if (dP cs:Int)=bits/\figs cs then ai (valF 0 cs,0) else ao
def begL(bits i h:Int):List Nat:=figL (mu (bits - h)) (i / 2 ^ mu h)++if 0<h then[42] else[]
end Bd
namespace L2
open PySem PySem.Spec PyProof PyProof.Rows
def Yg(h:bh)(d:aq)(es:Array fy)(ep:Nat):Prop:=∃o,be h d=ai o/\o.ExactDict/\f7 o=jk es ep
section
variable{prog:aL}{w:aV}{A:bq}{E:qV}{s:au}
def RlIn(h:bh)(u:ah)(r:(Int×Int)×Int):Prop:=∃(a p:aq) (o:Obj) (t:Tok) (n:Nat),u=aZ a/\be h a=ai o/\jg o=aY "tuple" /\ f7 o=f9 #[aZ p,m6 r.2 t] n/\PrIn h (aZ p) r.1.1 r.1.2
def rkL:List ah->bh->Int
 | [p,m6 s _],h=>rkC h p*2+s
 | _,_=>0
def rkR(h:bh)(u:ah):Int:=match u with
 | aZ a=>match be h a with
  | some o=>match f7 o with
   | f9 xs _=>rkL (w9 xs) h
   | _=>0
  | none=>0
 | _=>0
def rkn(r:(Int×Int)×Int):Int:=(r.1.1*1000+r.1.2)*2+r.2
theorem RlIn.rk{h:bh}{u:ah}{r:(Int×Int)×Int}(p:RlIn h u r):rkR h u=rkn r:=by obtain⟨a,q,o,t,n,rfl,l,_,v,x⟩:=p;unfold rkR;dsimp only;rw[l];dsimp only;rw[v];exact congrArg (λz=>z*2+r.2) x.rk
theorem RlIn.kept{h h':bh}{u:ah}{r:(Int×Int)×Int}(p:RlIn h u r)(kp:∀b o,be h b=ai o->be h' b=ai o):RlIn h' u r:=by obtain⟨a,q,o,t,n,C,v,x,G,l⟩:=p;exact⟨a,q,o,t,n,C,kp _ _ v,x,G,l.kept kp⟩
theorem PrIn.tk{h:bh}{p:aq}{b k:Int}(x:PrIn h (aZ p) b k):kS (JA prog w) h [kX b,kX k] p:=by obtain⟨a,o,t,t',n,C,u,v,G⟩:=x;cases C;exact⟨o,_,n,u,v,G,.cons (zfK b t) (.cons (zfK k t') .nil)⟩
theorem ztP{p q:aq}{b k o l:Int}(u:A.units<cLine)(x:PrIn s.heap (aZ p) b k)(y:PrIn s.heap (aZ q) o l):pZ A s (aZ p) (aZ q) (decide (b=o/\k=l)):=λprog w E Q h=>by
 refine wpAny_eqBool_tuple (knd:=JA prog w) u x.tk y.tk ?_;have:decide (([kX b,kX k]:List Key)=[kX o,kX l])=decide (b=o/\k=l):=by rw[decide_eq_decide];constructor;intro z;cases z;exact⟨rfl,rfl⟩;rintro⟨rfl,rfl⟩;rfl
 rw[this];exact h
theorem ztf{p q:aq}{b k v C:Int}(U:A.units<cLine)(x:PrIn s.heap (aZ p) b k)(y:PrIn s.heap (aZ q) v C):LtAt prog w A s bA (aZ p) (aZ q) (HT.lexLt [b,k] [v,C]):=λE Q h=>by obtain⟨a,o,t,t',n,I,J,R,Y⟩:=x;obtain⟨Z,S,u,u',N,f0,f1,f2,G⟩:=y;cases I;cases f0;rw[oneLt'_eq];simp only[aJ,if_false];refine aa (show wpAny (model prog w) A (compareOp .Lt (aZ p) (aZ q)) _ E s from HT.zeh ⟨o,J,R,n,Y⟩ ⟨S,f1,f2,N,G⟩ (.cons _ _ (.cons _ _ .nil)) (.cons _ _ (.cons _ _ .nil)) U ?_);exact cw h
theorem zmf{vs:List ah}{Q:k7->au->Prop}(h1:1<=dP vs)(hp:∀v∈vs,∃r,RlIn s.heap v r)(h:Q (tuples' bA) s):wpAny (model prog w) A (keyKind' (bm vs)) Q E s:=by
 rw[keyKind'_eq,ky,map_eq_pure_bind];refine aa (aa (Vz (P:=λ_ r=>∃(p:aq) (o:Obj),r=ai (aZ p)/\be s.heap p=ai o/\jg o=aY "tuple") vs (λv R Q' J=>?_) λrs C=>af ?_));obtain⟨r,a,p,o,t,n,rfl,G,e2,e3,a',o',t1,t2,n',Z,e5,e6,e7⟩:=hp v R;cases Z;rw[zlb];refine aa (dY (T:="tuple") ⟨o,G,e2⟩ ?_);rw[if_neg (by decide)];exact aa (iw G e3 (af (J _ ⟨p,o',rfl,e5,e6⟩)));have al:∀r∈rs,∃(p:aq) (o:Obj),r=ai (aZ p)/\be s.heap p=ai o/\jg o=aY "tuple":=λr I=>by obtain⟨_,_,h⟩:=WJ C I;exact h
 have ln:dP rs=dP vs:=bv (cV C);have Y:(rs.toArray.all λx=>eA x)=bj:=by rw[kQ,cJ];intro x hx;obtain⟨p,o,rfl,_⟩:=al x hx;rfl
 rw[if_pos Y];refine aa (dh ?_);rw[tR];have L:rs.toArray.filterMap id=bm (rs.filterMap id):=by simp
 rw[L,ky,map_eq_pure_bind];refine aa (aa (aa (Vz (P:=λ_ r=>r=aY "tuple") _ (λv R Q' J=>?_) λts N=>af ?_)));obtain⟨x,hx,e⟩:=gE.mp R;obtain⟨p,o,rfl,g,c⟩:=al x hx;cases e;exact dY (T:="tuple") ⟨o,g,c⟩ (J _ rfl);have u:∀r∈ts,r=aY "tuple":=λr I=>by obtain⟨_,_,h⟩:=WJ N I;exact h
 cases ts with
 | nil=>exact af (af h)
 | cons S U =>
  have G:S=aY "tuple":=u S (hH _);subst G;have OI:(((aY "tuple")::U).toArray.all λx=>x == aY "tuple")=bj:=by rw[kQ,cJ];intro x hx;rw[u x hx];rfl
  have h0:((aY "tuple")::U).toArray[0]?=ai (aY "tuple"):=by simp
  rw[h0];simp only[OI,if_true];refine af (af ?_);exact h
theorem zoa{a b c d:Int}:HT.lexLt [a,b] [c,d]=decide (a<c\/(a=c/\b<d)):=by
 have e:HT.lexLt [a,b] [c,d]=if a=c then(if b=d then bA else decide (b<d)) else decide (a<c):=rfl
 rw[e];split;rename_i h;subst h;split;symm;rw[decide_eq_false_iff_not];lia;rw[decide_eq_decide];lia;rw[decide_eq_decide];lia
theorem zj5{vs:List ah}{h0:bh}(S:A.units<cLine)(I:∀v∈vs,∃r,RlIn s.heap v r/\rkR h0 v=rkn r/\0<=r.1.2/\r.1.2<1000/\0<=r.2/\r.2<=1):Kinds prog w A s (rkR h0) vs:=λh2=>by
 refine⟨tuples' bA,λE Q q=>zmf (by lia) (λv hv=>?_) q,λp q E Q mp mq h=>?_⟩;obtain⟨r,h,_⟩:=I v hv;exact⟨r,h⟩;have mem:∀z∈w9 (pairsOf vs),z.1∈vs:=λz hz=>by
  have:z∈vs.zip vs:=by simpa[pairsOf] using hz
  exact(eE this).1
 obtain⟨⟨⟨b,k⟩,g⟩,⟨a,x,o,t,n,Z,e1,e2,e3,R⟩,U,k0,k1,g0,g1⟩:=I _ (mem p mp);obtain⟨⟨⟨l,u⟩,g'⟩,⟨a',x',o',t',n',f0,f1,f2,Y,f4⟩,r2,C,J,G,N⟩:=I _ (mem q mq);rw[U,r2]at h;rw[Z,f0];refine ziS e1 e3 f1 Y (ztP S R f4) (iY g t g' t') (λ_=>ztf S R f4) (λ_=>zkV g g' t t') ?_;have lx:HT.lexLt [b,k] [l,u]=decide (b<l\/(b=l/\k<u)):=zoa;have n1:rkn ((b,k),g)=(b*1000+k)*2+g:=rfl;have n2:rkn ((l,u),g')=(l*1000+u)*2+g':=rfl;have:(if decide (b=l/\k=u)=bj then(if (g == g')=bj then bA else decide (g<g')) else HT.lexLt [b,k] [l,u])=decide (rkn ((b,k),g)<rkn ((l,u),g')):=by rw[lx];simp only[beq_iff_eq,decide_eq_true_eq];dsimp only at k0 k1 C J g0 g1 G N;split;split;symm;rw[decide_eq_false_iff_not];lia;rw[decide_eq_decide];lia;rw[decide_eq_decide];lia
 rw[this];exact h
end
def zput(zs:ZT)(k:Int×Int)(b:aq)(v:V):ZT:=if (zs.any λz=>decide (z.1=k))=bj then zs.map (λz=>if z.1=k then(z.1,z.2.1,v) else z) else zs++[(k,b,v)]
def putT(ks:KT2)(k:Int×Int)(t:ae):KT2:=if (ks.any λz=>decide (z.1=k))=bj then ks.map (λz=>if z.1=k then(z.1,t) else z) else ks++[(k,t)]
def valT(ks:KT2)(k:Int×Int):Option ae:=(ks.find? λz=>decide (z.1=k)).map (·.2)
def kL(k:Int×Int):List Key:=[kX k.1,kX k.2]
theorem ZU{k l:Int×Int}:kL k=kL l↔k=l:=by constructor;intro h;unfold kL at h;injection h with h1 h2;injection h2 with h2 _;injection h1 with h1;injection h2 with h2;exact dD h1 h2;rintro rfl;rfl
def ZX(z:(Int×Int)×aq×V)(x:List Key×aq×ah):Prop:=x.1=kL z.1/\x.2.1=z.2.1/\RelV z.2.2 x.2.2
theorem zmC{zs:ZT}{xs:List (List Key×aq×ah)}(r:bN ZX zs xs)(k:Int×Int):eA (atKey xs (kL k))=zs.any λz=>decide (z.1=k):=by
 induction r with
 | nil=>rfl
 | @cons z x zs xs h t ih =>
  by_cases e:z.1=k;have:x.1=kL k:=by rw[h.1,e]
  simp[atKey,cH,this,e];have:¬x.1=kL k:=λu=>e (ZU.mp (b3 h.1.symm u));have l:atKey (x::xs) (kL k)=atKey xs (kL k):=by simp[atKey,cH,this]
  rw[l,ih,m3,decide_eq_false e,wg]
theorem zrc{zs:ZT}{xs:List (List Key×aq×ah)}(r:bN ZX zs xs)(k:Int×Int){b:aq}{v:V}{u:ah}(C:RelV v u):bN ZX (zput zs k b v) (storedH xs (kL k) b u):=by
 unfold zput storedH;rw[zmC r k];by_cases e:(zs.any λz=>decide (z.1=k))=bj;rw[if_pos e,if_pos e];clear e;induction r with
 | nil=>exact ja
 | @cons z x zs xs h t ih =>refine f6 ?_ ih;unfold putAt;dsimp only;by_cases e:z.1=k;rw[if_pos e,if_pos (by rw[h.1,e])];exact⟨h.1,h.2.1,C⟩;rw[if_neg e,if_neg (λG=>e (ZU.mp (b3 h.1.symm G)))];exact h
 rw[if_neg e,if_neg e];exact Paired.snoc r ⟨rfl,rfl,C⟩
theorem zjx{zs:ZT}{xs:List (List Key×aq×ah)}(r:bN ZX zs xs):xs.map (·.1)=(zs.map (·.1)).map kL:=by
 induction r with
 | nil=>rfl
 | cons h t l=>rw[aK,aK,aK,l,h.1]
theorem zkR{l:qB}:(l.map kL).Nodup↔l.Nodup:=by
 induction l with
 | nil=>simp
 | cons a l v =>
  rw[aK,cz,cz,v];have:kL a∈l.map kL↔a∈l:=by constructor;intro h;obtain⟨b,x,e⟩:=aR.mp h;rwa [<- ZU.mp e];exact gn
  rw[this]
theorem zkr(zs:ZT)(k:Int×Int)(b:aq)(v:V):dP (zput zs k b v)<=dP zs+1:=by unfold zput;split;rw[aI];exact mP _;simp
section
variable{P:aL}{w:aV}
theorem zAu{z:(Int×Int)×aq×V}{x:List Key×aq×ah}(h:ZX z x):entZ z (entryOfKey (tupleKind (JA P w)) x):=by obtain⟨u,l,o⟩:=h;refine⟨?_,?_,o⟩;show tupleKeyHash (JA P w) x.1=_;rw[u];rfl;show aZ x.2.1=_;rw[l]
theorem zpH{zs:ZT}{es:List fy}(r:bN entZ zs es):∃xs:List (List Key×aq×ah),bN ZX zs xs/\es=xs.map (entryOfKey (tupleKind (JA P w))):=by
 induction r with
 | nil=>exact⟨[],ja,rfl⟩
 | @cons z e zs es h t ih =>obtain⟨xs,x1,x⟩:=ih;obtain⟨v,u,C⟩:=h;refine⟨(kL z.1,z.2.1,e.val)::xs,f6 ⟨rfl,rfl,C⟩ x1,?_⟩;rw[aK,<- x];congr 1;cases e;dsimp only at v u;rw[v,u];rfl
theorem zxq{zs:ZT}{xs:List (List Key×aq×ah)}(r:bN ZX zs xs):bN entZ zs (xs.map (entryOfKey (tupleKind (JA P w)))):=by
 induction r with
 | nil=>exact ja
 | cons h t u=>exact f6 (zAu h) u
variable{X:Cx}{pins:qO}{σ:St}{H:Hp}{s:au}{a:aq}{zs:ZT}{ep:Nat}{A:bq}{E:qV}
theorem Vd(I:Inv X pins σ H s)(h:H a=ai (ZDO a zs ep))(J:∀z∈zs,SqT X.K H z.2.1 [.int z.1.1,.int z.1.2]):(a == sysModules)=bA/\dP zs<=sizeLine/\∃xs,bN ZX zs xs/\s.heap.DictOfH (tupleKind (JA X.prog X.w)) a xs:=by obtain⟨⟨C,l,nd,o,es,g1,g2,g3,pr⟩,_⟩:=I.hok a _ h;obtain⟨xs,x1,u⟩:=zpH (P:=X.prog) (w:=X.w) pr;refine⟨C,l,xs,x1,o,es,ep,g1,g2,g3,u,λx hx=>?_,?_⟩;obtain⟨z,hz,v,G,_⟩:=WJ x1 hx;have:=UP (k:=kL z.1) I (J z hz);rw[v,G];exact this;rw[zjx x1];exact zkR.mpr nd
theorem YF{H':Hp}{h':bh}{xs:List (List Key×aq×ah)}(I:(a == sysModules)=bA)(u:dP zs<=sizeLine)(r:bN ZX zs xs)(x:h'.DictOfH (tupleKind (JA X.prog X.w)) a xs):∃ep,JE X.prog X.w H' h' a (ZDO a zs ep):=by obtain⟨o,es,ep,g1,g2,g3,J,_,l⟩:=x;refine⟨ep,⟨I,u,?_,o,es,g1,g2,g3,?_⟩,⟨o,g1⟩,?_⟩;rw[zjx r]at l;exact zkR.mp l;rw[J];exact zxq r;rintro N L ⟨x1,v,x3,o,es,G,C⟩ k;exact⟨x1,v,x3,o,es,k o G,C⟩
theorem zmH{k:Int×Int}{b:aq}{v:V}{r:ah}{Q:Unit->au->Prop}(Z:A.units+1<cLine)(I:Inv X pins σ H s)(h:H a=ai (ZDO a zs ep))(hk:∀z∈zs,SqT X.K H z.2.1 [.int z.1.1,.int z.1.2])(J:SqT X.K H b [.int k.1,.int k.2])(hl:dP zs<sizeLine)(S:RelV v r)
  (R:∀s' o,Inv X pins σ (upd H a (ZDO a (zput zs k b v) o)) s'->Q () s'):wpAny (model X.prog X.w) A (setItem (aZ a) (aZ b) r) Q E s:=by
 obtain⟨U,L,xs,x1,N⟩:=Vd I h hk;have Y:dP xs<=sizeLine:=by rw[<- cV x1];exact L
 refine wpAny_setItem_heap (hsz:=Y) (i4 Z) (UP (k:=kL k) I J) N λh' u C=>?_;have he:∃q,be h' a=ai q:=let ⟨q,_,_,e,_⟩:=u;⟨q,e⟩;have G:dP (zput zs k b v)<=sizeLine:=by have:=zkr zs k b v;lia
 have ok:∀H':Hp,∃o,JE X.prog X.w H' h' a (ZDO a (zput zs k b v) o):=λH'=>YF U G (zrc x1 k S) u;obtain⟨o,x⟩:=ok H;exact R _ o (zki I (by rw[h];exact iX) C he x)
end
section
variable{K:qF}{hd:Option aq}{O:aq->Prop}{H:Hp}{zs:ZT}{ks:KT2}
theorem Jn.sq(r:Jn K hd O H zs ks):∀z∈zs,SqT K H z.2.1 [.int z.1.1,.int z.1.2]:=by
 intro z hz;induction zs generalizing ks with
 | nil=>cases hz
 | cons y zs l =>
  cases r with
  | cons v C r =>
   rcases ax.mp hz with rfl|hz;obtain⟨a,vs,e,sq,o⟩:=v.tupI;cases e;cases o with
   | cons x1 u =>
    cases u with
    | cons x3 x =>cases x;rw[x1.intI,x3.intI]at sq;exact sq
   exact l r hz
theorem Jn.length(r:Jn K hd O H zs ks):dP zs=dP ks:=by
 induction zs generalizing ks with
 | nil=>cases r;rfl
 | cons y zs l =>
  cases r with
  | cons u o r=>rw[aH,aH,l r]
theorem Jn.keys(r:Jn K hd O H zs ks):zs.map (·.1)=ks.map (·.1):=by
 induction zs generalizing ks with
 | nil=>cases r;rfl
 | cons y zs l =>
  cases r with
  | cons u o r=>rw[aK,aK,l r]
theorem Jn.snoc{k:Int×Int}{q:aq}{v:V}{d:ae}(h:Rep K hd O H (.ref q) (fX [b5 k.1,b5 k.2]))(x:Rep K hd O H v d){zs:ZT}{ks:KT2}(r:Jn K hd O H zs ks):Jn K hd O H (zs++[(k,q,v)]) (ks++[(k,d)]) :=
 r.ind (P:=λzs ks=>Jn K hd O H (zs++[(k,q,v)]) (ks++[(k,d)])) (.cons h x .nil) λa b _ r=>.cons a b r
theorem Jn.put(r:Jn K hd O H zs ks)(k:Int×Int){b:aq}{v:V}{t:ae}(L:Rep K hd O H (.ref b) (fX [b5 k.1,b5 k.2]))(G:Rep K hd O H v t):Jn K hd O H (zput zs k b v) (putT ks k t):=by
 have C:(zs.any λz=>decide (z.1=k))=ks.any λz=>decide (z.1=k):=by
  have I:(zs.any λz=>decide (z.1=k))=(zs.map (·.1)).any λz=>decide (z=k):=by rw[nV];rfl
  have J:(ks.any λz=>decide (z.1=k))=(ks.map (·.1)).any λz=>decide (z=k):=by rw[nV];rfl
  rw[I,J,r.keys]
 unfold zput putT;rw[C];split;clear C;rename_i e;clear e;induction zs generalizing ks with
 | nil=>cases r;exact .nil
 | cons y zs x =>
  cases r with
  | @cons k' q v' d zs ks h1 h2 r =>rw[aK,aK];dsimp only;by_cases e:k'=k;rw[if_pos e,if_pos e];exact .cons h1 G (x r);rw[if_neg e,if_neg e];exact .cons h1 h2 (x r)
 exact Jn.snoc L G r
end
section
variable{X:Cx}{e1 e2:aX}{x:Str}{pos:Pos}{d1 d2:DTE}
def zyJ:TE:=λ_ H Q=>∀p,H p=ao->∀ep,Q (.ref p) (upd H p (ZDO p [] ep))
theorem zsL:PE X (jA [] [] pos) zyJ:=λpins s σ H Q I h=>by have u:(ap s.heap.objs == sysModules)=bA:=beq_eq_false_iff_ne.mpr (dG (aO I.big));obtain⟨ep,ok⟩:=YF (X:=X) (H':=H) (zs:=[]) u (dw _) ja (kT s.heap);exact wpAny_Dict_empty ⟨.ref s.heap.objs.size,_,I.laid (a:=ap s.heap.objs) (o:=ZDO s.heap.objs.size [] ep) (t':=dn s) (λ_ _ q=>aj _ q) (av _) ok,rfl,h _ (I.hok.fresh (av _)) ep⟩
def zuY(i:Nat):DTS:=λD l n=>D.nx (cr l i (ai (.dtt []))) n
theorem ztR{i:Nat}{o dp:Pos}(G:X.N.Nodup)(hi:X.N[i]?=ai x)(hx:Loc (cu X.env) x)(v:swapsWith (jA [] [] dp) (ai (bn x o)) pos.line X.env=pure bA:=by rfl)(hf:Fnl X x:=by walk_at "F") :
  DS X (h6 [bn x o] (jA [] [] dp) pos) (zuY i):=by
 refine⟨_,QK G hi hx zsL v hf,λC L σ H n D J S hd g=>?_⟩;intro p u ep;have e1:ExtE C.hd H (upd H p (ZDO p [] ep)):=ExtE.new u;have I:Hn X.K C.hd (upd H p (ZDO p [] ep)) n:=S.hnd.same (JS u);exact g.nx _ _ _ n hd (S.putNew e1 I u ⟨[],ep,JJ,.nil⟩) (zdp e1 u)
def zzt(K:qF)(u ty G:TE):TS:=λD σ H=>G σ H λv C=>u σ C λx I=>ty σ I λy l=>∃a zs ep k b,x=.ref a/\y=.ref b/\l a=ai (ZDO a zs ep)/\(∀z∈zs,SqT K l z.2.1 [.int z.1.1,.int z.1.2])/\SqT K l b [.int k.1,.int k.2]/\dP zs<sizeLine/\∀o,D.nx σ (upd l a (ZDO a (zput zs k b v) o))
theorem zsC{o i value:aX}{G ty J:TE}{l:Pos}(hu:X.A.units+1<cLine)(ho:PE X o G)(hi:PE X i ty)(hv:PE X value J)(hs:swapsWith value (ai (d0 o i l)) pos.line X.env=pure bA) :
  PS X (h6 [d0 o i l] value pos) (zzt X.K G ty J):=by
 intro pins s σ H D I h;refine wpAny_Assign_Subscript (thn (hv pins s σ H _ I h) λr s1 h1=>?_) hs;obtain⟨v,R,I1,rv,q1⟩:=h1;refine thn (ho pins s1 σ R _ I1 q1) λu s2 U=>?_;obtain⟨x,H2,Y,rx,q2⟩:=U;refine thn (hi pins s2 σ H2 _ Y q2) λiv s3 Z=>?_;obtain⟨y,H3,N,ry,a,zs,ep,k,b,rfl,rfl,g,hk,L,hl,q3⟩:=Z;cases rx;cases ry;exact zmH hu N g hk L hl rv λs4 C I4=>⟨σ,_,I4,q3 C⟩
def lBlk(y:ae)(R:Int×Int->Prop):Prop:=∃k:Int×Int,y=fX [b5 k.1,b5 k.2]/\R k
def V4(i:Nat)(o C:DTE):DTS:=λD l n=>C l n λt u=>match l[i]? with
 | some (ai (.dtt ks))=>o l u λy v=>lBlk y λk=>dP ks<16777216/\D.nx (cr l i (ai (.dtt (putT ks k t)))) v
 | _=>False
theorem zoH(i:Nat){p1 l:Pos}(hr:X.A.units+1<cLine)(h1:DE X e1 d1)(I:DE X e2 d2)(hN:X.N[i]?=ai x:=by rfl)(hv:Vis (cu X.env) x:=by walk_at "V")(hd:Ndb x:=by rfl)
  (G:Ncd x:=by rfl) (hs:swapsWith e2 (ai (d0 (bn x p1) e1 l)) pos.line X.env=pure bA:=by rfl) :
  DS X (h6 [d0 (bn x p1) e1 l] e2 pos) (V4 i d1 d2):=by
 obtain⟨t1,U,h1⟩:=h1;obtain⟨t2,pa2,I⟩:=I;refine⟨_,zsC hr (QJ hN hv hd G) U pa2 hs,λC ρ σ H n D D' S hd g=>?_⟩;refine I C ρ σ H n _ _ S hd λt n1 v H1 r e1 hn1 q=>?_;have R:=S.on e1 hn1;split at r;rename_i ks L;obtain⟨p,zs,ep,s1,s2,s3,s4⟩:=R.dtt i ks L;refine⟨.ref p,s1,?_⟩;refine h1 C ρ σ H1 n1 _ _ R r λy n2 w H2 J e2 hn2 q2=>?_;have S2:=R.on e2 hn2;obtain⟨p',zs',Y,u1,u2,Z,u4⟩:=S2.dtt i ks L;rw[s1]at u1;cases u1;obtain⟨k,rfl,hl,J⟩:=J;obtain⟨b,rfl,sb⟩:=q2.bkI;have q':=e2.rep S.hx q;refine⟨p,zs',Y,k,b,rfl,rfl,u2,Z.sq,sb,by rw[Z.length];exact hl,λe3=>?_⟩;obtain⟨S3,k3⟩:=S2.chgC (c':=.dtt (putT ks k t)) rfl rfl L s1 λO' H' a b hp=>⟨_,_,hp,(Z.put k q2 q').mono a b⟩;exact g.nx _ _ _ n2 J S3 ((e1.keep.trans e2.keep).trans k3);exact eJ r
variable{D:JN}{ρ:En}{n i:Nat}{dk dv:DTE}{ks:KT2}
instance zAy:Stp (zuY i D ρ n) (SetK i (ai (.dtt [])) D.nx ρ n):=⟨λh=>h⟩
instance zAx [h:GetN ρ i (ai (.dtt ks))]:Stp (V4 i dk dv D ρ n) (dv ρ n λt n1=>dk ρ n1 λy n2=>lBlk y λk=>dP ks<16777216/\SetK i (ai (.dtt (putT ks k t))) D.nx ρ n2):=⟨λk=>by unfold V4;rw[h.e];exact k⟩
instance zA7 {a b:Int}{Q:Int×Int->Prop}:Stp (lBlk (fX [b5 a,b5 b]) Q) (Q (a,b)):=⟨λh=>⟨(a,b),rfl,h⟩⟩
end
def rD(rs:List ((Int×Int)×Int)):List ae:=rs.map λr=>fX [fX [b5 r.1.1,b5 r.1.2],b5 r.2]
def RlOk(r:(Int×Int)×Int):Prop:=0<=r.1.2/\r.1.2<1000/\0<=r.2/\r.2<=1
def zog(t:ae)(R:qD->Prop):Prop:=JU t λts=>∃rs:List ((Int×Int)×Int),ts=rD rs/\dP rs<64/\(∀r∈rs,RlOk r)/\∀l:List ((Int×Int)×Int),l.Perm rs->l.Pairwise (λa b=>rkn a<=rkn b)->R (rD l)
def zr3(d:DTE):DTA:=λl n R=>d l n λt o=>zog t λts=>R ts o
section
variable{X:Cx}{e:aX}{d:DTE}{pos p:Pos}{k:Nat}
theorem zmp(hr:Room k X.A)(hm:X.mg "sorted" = ao) (h:DL X e d) (hs:starEach [e] X.env=[(bA,eval e X.env)]) (hg:Gl X "sorted":=by rfl):DN X (ee (bn "sorted" p) [e] [] pos) (zr3 d) :=
 zg0 (L:=zog) (λt R=>zfE λts ⟨rs,Z,G,ok,q⟩=>⟨_,λr:(Int×Int)×Int=>fX [fX [b5 r.1.1,b5 r.1.2],b5 r.2],RlIn,rkn,rkR,rs,Z,Zh G,λ{_ _ _ _ _ _ v u a} ha I r rv=>by
  obtain⟨b,ws,rfl,sq,J⟩:=r.tupI;cases J with
  | cons x1 S =>
   cases S with
   | cons x3 Y =>
    cases Y;obtain⟨q,rfl,x⟩:=x1.bkI;rw[x3.intI]at sq;cases(show u=aZ b from rv);obtain⟨is,ys,⟨o,f1,f2,n,U⟩,_⟩:=I.tuple sq;cases ys with
    | cons a1 a2 =>
     cases a2 with
     | cons a3 a4 =>cases a4;cases(show _=aZ q from a1);obtain⟨t,rfl⟩:=a3;exact⟨b,q,o,t,n,rfl,f1,f2,U,zsc I x⟩,λp kp=>⟨p.kept kp,p.rk⟩,λhu hp=>zj5 hu λv hv=>by
  obtain⟨a,ma,p,e⟩:=hp v hv;exact⟨a,p,e,ok a ma⟩,q⟩) hr hm h hs hg
end
instance zyR {d:DTE}{ρ:En}{n:Nat}{R:qD->Nat->Prop}:Stp (zr3 d ρ n R) (d ρ n λt n1=>zog t λts=>R ts n1):=⟨λh=>h⟩
section
variable{prog:aL}{w:aV}{A:bq}{E:qV}
theorem zsv{s:au}{d:aq}{es:Array fy}{ep:Nat}{Q:qV}(v:(d == sysModules)=bA)(x:Yg s.heap d es ep)(hz:ap es<=sizeLine)(h:∀t tk,Q (m6 es.size t) { s with toks:=tk }):wpAny (model prog w) A (call (b4 "len") [aZ d]) Q E s:=by obtain⟨o,g1,g2,g3⟩:=x;have ty:s.TypeIs (aZ d) "dict":=⟨o,g1,g2.1⟩;have C:sizeLine=16777216:=mK;refine mC kind_len plain_len entry_len (args_len1 _) ?_;unfold cI.«len»;refine aa (m:=oneArg "len" _) (af (aa (m:=callSpecial? (aZ d) (ar "__len__")) ?_));refine bP (name:=ar "__len__") ty oq ?_;refine bw oq ty PySem.F.entry_dict_len ?_ (PySem.F.args_dict_len_1 _);show wpAny _ _ (dictSize d >>= _) _ _ s;unfold dictSize;refine aa (aa (kF g1 g3 (af ?_)));show wpAny _ _ (vk d >>= _) _ _ s;refine aa (wpAny_pendingCount_other v (wpAny_ret_mkInt ?_));rw[show((ap es:Int)+((0:Nat):Int))=(ap es:Int) from by simp];refine aa (bO (af (aa (ia ?_))));show wpAny _ _ (if ((ap es:Nat):Int)<0 then _ else _) _ _ _;rw[if_neg (by lia)];show wpAny _ _ (if ((ap es:Nat):Int)>=2 ^ 63 then _ else _) _ _ _;rw[if_neg (by lia)];exact aa (wpAny_mkInt (af ⟨_,rfl,h _ _⟩))
end
def KZp(K:qF)(H:Hp)(x:V)(z:(Int×Int)×aq×V):Prop:=∃a,x=.ref a/\SqT K H a [.ref z.2.1,z.2.2]/\SqT K H z.2.1 [.int z.1.1,.int z.1.2]
section
variable{X:Cx}
theorem zsT{pins:qO}{σ:St}{H:Hp}{s:au}(I:Inv X pins σ H s){vs:List V}{its:List ah}{zs:ZT}(r:Vals vs its)(h:bN (KZp X.K H) vs zs) :
  ∃ps:List (List Key×aq×ah),bN ZX zs ps/\bN (PrT X.prog X.w s.heap) its ps:=by
 induction vs generalizing its zs with
 | nil=>cases r;cases h;exact⟨[],ja,ja⟩
 | cons v vs S =>
  cases r with
  | cons G L =>
   cases h with
   | @cons _ z _ zs h1 h2 =>
    obtain⟨a,rfl,sq,sk⟩:=h1;obtain⟨ps,U,Z⟩:=S L h2;obtain⟨x,R,it,_⟩:=I.tuple sq;cases R with
    | cons Y N =>
     cases N with
     | cons J C =>cases C;rename_i u w;cases(show _=aZ a from G);cases(show _=aZ z.2.1 from Y);exact⟨(kL z.1,z.2.1,w)::ps,f6 ⟨rfl,rfl,J⟩ U,f6 ⟨a,rfl,it,UP (k:=kL z.1) I sk⟩ Z⟩
theorem zpd:JK X (b4 "len") (λxs H Q=>∃a zs ep,xs=[.ref a]/\H a=ai (ZDO a zs ep)/\Q (.int (dP zs)) H):=by
 intro pins s σ H xs us Q I r h;obtain⟨a,zs,ep,rfl,G,q⟩:=h;obtain⟨u,rfl,x⟩:=vals1 r;cases x;obtain⟨⟨C,J,nd,o,es,g1,g2,g3,pr⟩,_⟩:=I.hok a _ G;have v:ap es=dP zs:=by have:=cV pr;simpa using bv this
 refine zsv (es:=es) (ep:=ep) C ⟨o,g1,g2,g3⟩ (by lia) λt tk=>⟨.int (dP zs),H,I.tok tk,⟨t,by rw[v]⟩,q⟩
end
def prT(q:(Int×Int)×ae):ae:=fX [fX [b5 q.1.1,b5 q.1.2],q.2]
theorem zp2{K:qF}{hd:Option aq}{O:aq->Prop}{H:Hp}{vs:List V}{ks:KT2}(r:Reps K hd O H vs (ks.map prT)):∃zs:ZT,bN (KZp K H) vs zs/\Jn K hd O H zs ks:=by
 induction ks generalizing vs with
 | nil=>cases r;exact⟨[],ja,.nil⟩
 | cons a ks I =>
  cases r with
  | cons h r =>
   obtain⟨zs,J,C⟩:=I r;obtain⟨b,L,rfl,sq,v⟩:=h.tupI;cases v with
   | cons x1 x =>
    cases x with
    | cons x3 G =>cases G;obtain⟨q,rfl,u⟩:=x1.bkI;exact⟨(a.1,q,_)::zs,f6 ⟨b,rfl,sq,u⟩ J,.cons x1 x3 C⟩
end L2
namespace L2
open PySem
abbrev RL:=List ((Int×Int)×Int)
def kR(rs:RL):KT2:=rs.map λr=>(r.1,b5 r.2)
def Rls0(bits:Int)(rs:RL):Prop:=(∀r∈rs,IsBk bits r.1.1 r.1.2/\0<=r.2/\r.2<=1)/\(rs.map (·.1)).Nodup
def bkLt(a b:Int×Int):Prop:=a.1<b.1\/(a.1=b.1/\a.2<b.2)
def Rls(bits:Int)(rs:RL):Prop:=(∀r∈rs,IsBk bits r.1.1 r.1.2/\0<=r.2/\r.2<=1)/\rs.Pairwise λa b=>bkLt a.1 b.1
theorem Rls0.ok{bits:Int}{rs:RL}(v:bits<=64)(h:Rls0 bits rs):∀r∈rs,RlOk r:=λr o=>by have:=h.1 r o;have l:=this.1.1;have u:=this.1.2.1;exact⟨l,by lia,this.2⟩
theorem Rls0.sort{bits:Int}{rs l:RL}(I:bits<=64)(h:Rls0 bits rs)(pm:l.Perm rs)(pw:l.Pairwise λa b=>rkn a<=rkn b):Rls bits l:=by refine⟨λr v=>h.1 r (pm.mem_iff.mp v),?_⟩;have nd:(l.map (·.1)).Nodup:=(pm.map _).nodup_iff.mpr h.2;rw[List.nodup_iff_pairwise_ne,dz]at nd;have al:∀r∈l,RlOk r:=λr v=>h.ok I r (pm.mem_iff.mp v);refine(pw.and nd).imp_of_mem λ{a b} ha hb ⟨h1,h2⟩=>?_;have C:=al a ha;have x:=al b hb;unfold rkn at h1;unfold RlOk at C x;obtain⟨a1,a2,R,S⟩:=C;obtain⟨G,L,J,U⟩:=x;unfold bkLt;have ne:¬(a.1.1=b.1.1/\a.1.2=b.1.2):=λz=>h2 (dD z.1 z.2);by_cases e:a.1.1=b.1.1;right;refine⟨e,?_⟩;have:a.1.2≠b.1.2:=λz=>ne ⟨e,z⟩;lia;left;lia
theorem zrB{rs:RL}:Okd (tE (rD rs))/\Okd (fX (rD rs)):=by
 have:∀rs:RL,cx (rD rs)=bj/\cX (rD rs)<=2:=by
  intro rs;induction rs with
  | nil=>exact⟨by simp[rD,cx],by simp[rD,cX]⟩
  | cons b l o =>refine⟨?_,?_⟩;have:=o.1;simp only[rD,aK,cx,bR,pU,gX]at this ⊢;exact this;have:=o.2;simp only[rD,aK,cX,dI]at this ⊢;lia
 have v:=(this rs).1;have x:=(this rs).2;exact⟨⟨by simp only[bR];exact v,by simp only[dI];lia⟩,by simp only[bR];exact v,by simp only[dI];lia⟩
end L2
namespace Bd
open PySem PySem.W PySem.Calls L2 PyProof.Rows
structure ZZ where
 P:aL
 w:aV
 K:qF
 mg:Str->Option ah
 base:bh
def FQ(Z:ZZ)(x:Str)(st:eW)(ps:List Str)(k:Nat)(l:Sp):Prop:=Fq Z.P Z.w Z.K Z.mg Z.base x st ps k l
theorem okQ{Z:ZZ}{x:Str}{st:eW}{ps N:List Str}{k m:Nat}{g:GD}(D:Dq Z.K Z.mg x st ps)(S:Uy N ps (JI st))(G:m=dP ps)
  (u:∀(f:aq) (l:ah) (A:bq) (outer:List Env) (s:au) (H:Hp) (E:XK),Room k (A.deeper (envOfC x (JI st) s.heap.objs.size f l))->∃d,DSs (cxOf CX0 Z.P Z.w Z.K Z.mg Z.base N x (JI st) f l A outer s H E).nox (J9 st) d /\
   ∀ts n R,dP ts=m->g ts n R->d { nx:=λ_ v=>R oK v,rt:=R } (JX N ts) n):FQ Z x st ps (k+1) (spD Z.K m g):=by
 obtain⟨f,fd,D⟩:=D;exact⟨f,fd,D,D.okD S G λl A outer s H E C=>u f l A outer s H E C⟩
theorem bnd1{x:Str}{st:eW}{a:Str}(h:∀(kV doc pm:ah) (an:Option aq) (l ct u:ah),bindArgs (dX x x (QN st) (J9 st) (JI st) dM kV doc pm an l ct) ⟨[u],[]⟩=pure [(a,u)]):BndA x st [a]:=λ_ _ _ _ _ _ us v=>by obtain⟨_,rfl⟩:=len1 v;exact h ..
theorem bnd2{x:Str}{st:eW}{a b:Str}(h:∀(kV doc pm:ah) (an:Option aq) (l ct u v:ah),bindArgs (dX x x (QN st) (J9 st) (JI st) dM kV doc pm an l ct) ⟨[u,v],[]⟩=pure [(a,u),(b,v)]):BndA x st [a,b]:=λ_ _ _ _ _ _ us C=>by obtain⟨_,_,rfl⟩:=len2 C;exact h ..
theorem bnd3{x:Str}{st:eW}{a b c:Str}(h:∀(kV doc pm:ah) (an:Option aq) (l ct u v y:ah),bindArgs (dX x x (QN st) (J9 st) (JI st) dM kV doc pm an l ct) ⟨[u,v,y],[]⟩=pure [(a,u),(b,v),(c,y)]):BndA x st [a,b,c]:=λ_ _ _ _ _ _ us C=>by obtain⟨_,_,_,rfl⟩:=len3 C;exact h ..
theorem bnd4{x:Str}{st:eW}{a b c d:Str}(h:∀(kV doc pm:ah) (an:Option aq) (l ct u v y z:ah),bindArgs (dX x x (QN st) (J9 st) (JI st) dM kV doc pm an l ct) ⟨[u,v,y,z],[]⟩=pure [(a,u),(b,v),(c,y),(d,z)]):BndA x st [a,b,c,d]:=λ_ _ _ _ _ _ us C=>by obtain⟨_,_,_,_,rfl⟩:=len4 C;exact h ..
def Qo(h:bh):qF:=(c9 h.objs.size).filterMap λa=>(be h a).map λo=>(a,o)
theorem zn8{h:bh}:∀{x:List aq}{a:aq},a∈x->(x.filterMap λa=>(be h a).map λo=>(a,o)).lookup a=be h a\/be h a=ao
 | [],_,m=>nomatch m
 | b::x,a,m=>by
  by_cases e:a=b;subst e;cases g:be h a with
  | none=>exact xw rfl
  | some o=>exact fj (by rw[df];simp[g,dQ])
  have C:a∈x:=jj (ax.mp m) e;rcases zn8 (h:=h) C with z|z;refine fj ?_;rw[df];cases g:be h b with
  | none=>exact z
  | some o =>
   have:(a == b)=bA:=by simpa using e
   simp only[fP];rw[dQ,this];exact z
  exact xw z
theorem zdy{h:bh}{a:aq}{o:Obj}(e:be h a=ai o):(Qo h).lookup a=ai o:=by have m:a∈c9 h.objs.size:=hW.mpr (aB e);rcases zn8 (h:=h) m with z|z;exact b3 z e;rw[e]at z;cases z
theorem zmI{h:bh}:(Qo h).In h:=λa o e=>by
 have key:∀(v:List aq),(v.filterMap λa=>(be h a).map λo=>(a,o)).lookup a=ai o->be h a=ai o:=by
  intro v;induction v with
  | nil=>intro z;cases z
  | cons b v x =>
   intro z;rw[df]at z;cases g:be h b with
   | none=>rw[g]at z;exact x z
   | some C =>
    rw[g]at z;simp only[fP,dQ]at z;cases q:a == b with
    | true=>rw[q]at z;cases z;rw[eq_of_beq q];exact g
    | false=>rw[q]at z;exact x z
 exact key _ e
def Wd:eW->Bool
 | jd ..=>true
 | _=>false
def defName:eW->Str
 | jd n _ _ _ _ _ _ _ _ _=>n
 | _=>ar ""
def zxA:eW->Pos
 | jd _ _ _ _ _ _ _ _ _ p=>p
 | _=>⟨0,0,0,0⟩
def recD(st:eW):DefRec:=⟨defName st,QN st,J9 st,JI st,zxA st⟩
theorem getD_mem{l:List eW}{i:Nat}(h:Wd (l.getD i (.Pass ⟨0,0,0,0⟩))=bj):l.getD i (.Pass ⟨0,0,0,0⟩)∈l:=by
 rw[bo]at h ⊢;cases e:l[i]? with
 | none=>rw[e]at h;cases h
 | some s=>exact aC e
section
variable{q:aL}{loose:List Str}{Ow:ub->Option ah}{mg mb:qM}{h:bh}{x:Str}{st:eW}{ps:List Str}
theorem zo6{cd:ah}{n:Str}(c:h.CodeRec cd n):kc (Qo h) cd n=bj:=by
 obtain⟨a,o,vs,t,rfl,g,d,e⟩:=c;unfold kc;dsimp only;rw[zdy g];obtain⟨v,C,l,u⟩:=o;cases(show l=_ from d);have l2:vs.toList[1]?=ai (ph n t):=by simpa using e
 dsimp only;match hv:w9 vs,l2 with
 | [],l2=>simp at l2
 | [_],l2=>simp at l2
 | a::b::r,l2 =>
  have:b=ph n t:=by simpa using l2
  subst this;simp
theorem dq_g(T:Top q loose Ow mg mb h)(hd:recD st∈recsOf q)(I:defName st=x)(J:BndA x st ps):Dq (Qo h) mg x st ps:=by
 obtain⟨a,o,pm,cd,doc,G,L,C,v⟩:=T.fn _ hd;have G:mg (defName st)=ai (aZ a):=G;have v:h.CodeRec cd (defName st):=v;rw[I]at G v;obtain⟨U,R,N,S⟩:=o;have C:N=jw (docDef (defName st) (QN st) (J9 st) (JI st) pm cd doc):=C;rw[I]at C;have l:(Qo h).lookup a=ai ⟨U,R,jw (dX x x (QN st) (J9 st) (JI st) dM dM doc pm ao cd dM),S⟩:=by rw[zdy L,C];rfl
 have kp:kb (Qo h) (aZ a)=bj:=by unfold kb;dsimp only;rw[l]
 exact⟨a,_,zrO l (zo6 v) kp,(zrO l (zo6 v) kp).binds J,G⟩
end
theorem zyG{lw:PySem.W.OpenLaw}{q:aL}{loose:List Str}{S:(Str->Option ah)->bh->Prop}{YP:aV->bh->Prop}{d:DefRec}{k:Nat}(hk:k<=60)(hn:lw.most=ai 63)(N:d.params.defaults=[])
  (F:∀(w:aV) (s₀:au) (mg J:qM) (C:aq) (h:bh),Ground q loose [] S w s₀ mg J h->mg d.name=ai (aZ C) ->
   ∃fd:dO,(∀(s:au) (u:ah),t8 s fd ⟨[u],[]⟩ [("_law_script",u)])/\∀base:bh,(Qo h).In base->base.Ns mainGlobals mg->FnOk lw.prog w (Qo h) mg base CX0 k C fd ["_law_script"] (zsd (Qo h))) :
  PySem.W.WalkO q loose S YP lw.row.toRowW d [] (λf vs=>Bx f vs):=by
 refine Att.attach_call hn N λw s₀ R mg J C o pm cd doc a vs ns G Y ho hd U L x v l hg=>?_;obtain⟨fd,Z,hF⟩:=F w s₀ mg J C _ G L;exact zqx zmI G.T.g G.T.b G.T.builtins G.T.nolimit hg x v (bu l (by decide)) ((show Room 60 callerA from⟨rfl,by decide,by decide,rfl⟩).mono hk) hF Z (λH hO hS=>⟨a,ns,rfl,hS,l,λ_=>rfl⟩) λH e s' z=>z
end Bd
namespace L2
open PySem PySem.Spec PyProof PyProof.Rows
theorem zmF{a:aq}{ep:Nat}:ZDO a [] ep=KDO a [] ep:=by unfold ZDO KDO;congr 1;funext h;have e:∀l:List fy,bN entZ [] l↔bN entI [] l:=λl=>⟨λh=>by cases h;exact ja,λh=>by cases h;exact ja⟩;simp only[e,dH,bX,uD]
theorem ztT{ks:KT2}{ls:List (Int×ae)}(e:Js ks=ZG ls):ks=[]/\ls=[]:=by
 cases ks with
 | nil=>cases ls with
  | nil=>exact⟨rfl,rfl⟩
  | cons _ _=>cases e
 | cons a ks=>cases ls with
  | nil=>cases e
  | cons b ls =>have h:=(oX (iP (show(blkT a.1,a.2)::Js ks=(b5 b.1,b.2)::ZG ls from e)).1).1;cases h
theorem zkQ{α:Type}[DecidableEq α]:∀{xs ys:List α},xs.Nodup->(∀x∈xs,x∈ys)->dP xs<=dP ys
 | [],_,_,_=>dw _
 | x::xs,ys,nd,h=>by have l:=cz.mp nd;have:=zkQ (xs:=xs) (ys:=ys.erase x) l.2 λy o=>(k9 (by rintro rfl;exact l.1 o)).mpr (h y (by simp[o]));have hx:=h x (by simp);have e:=iO hx;have:=kD hx;rw[aH];lia
abbrev BL:=List (Int×Int)
theorem CanP.congr{S T:Int->Prop}{ps:BL}(h:CanP S ps)(e:∀x,S x↔T x):CanP T ps:=by obtain⟨rs,a,b,c⟩:=h;exact⟨rs,a,λx=>(b x).trans (e x),c⟩
theorem zwy{xs:qD}{k:Nat}{x:ae}{R:ae->Prop}(e:xs[k]?=ai x)(h:R x):oIx (tE xs) (b5 (k:Int)) R:=by
 have o:k<dP xs:=by rcases bM k (dP xs) with z|z;exact z;rw[bV z]at e;cases e
 rw[ZD (x:=x)];exact h;unfold atI ixN;have:((0:Int)<=(k:Int)):=by lia
 have:((k:Int)<(dP xs:Int)):=by lia
 have u:xs[k]=x:=by rw[ay o]at e;exact aG e
 simp[o,u]
section
variable{prog:aL}{w:aV}{A:bq}{E:qV}{s:au}
theorem zif{d:aq}{es:Array fy}{ep:Nat}{Q:qV}(x:(d == sysModules)=bA)(C:Yg s.heap d es ep)
  (G:Q (aZ s.heap.objs.size) { s with heap:=dL s.heap { cls:=aY "dict_keyiterator",data:=ed #[aZ d,m6 0 0,m6 es.size 0,m6 ep 0] } }):wpAny (model prog w) A (pyIter (aZ d)) Q E s:=by
 obtain⟨I,o,v,u⟩:=C;have ty:s.TypeIs (aZ d) "dict":=⟨I,o,v.1⟩;refine kG ty nW (bw nW ty PySem.F.entry_dict_iter ?_ (PySem.F.args_dict_iter_1 _));unfold cI.«dict.__iter__»;refine aa ?_;unfold vm;refine aa (om ty ?_);show wpAny _ _ (pure (aZ d)) _ _ s;refine af ?_;show wpAny _ _ (ou d >>= _) _ _ s;unfold ou;have ns:¬((d == sysModules)=bj):=by rw[x];exact a8
 rw[if_neg ns];refine aa (af (aa (kF o u (aa (oh o u ?_)))));exact aa (bp (af ⟨_,rfl,"dict_keyiterator",_,⟨_,aA _ rfl,rfl⟩,cE.lookup,by simpa[rawInt] using G⟩))
theorem zig{it d:aq}{i ep:Nat}{es:Array fy}{e:fy}{Q:Option ah->au->Prop}(hi:s.heap.IsKeyIter it d i es.size ep)(G:Yg s.heap d es ep)(hx:es[i]?=ai e)
  (L:∀h',h'.IsKeyIter it d (i+1) es.size ep->cY it s.heap h'->Q (ai e.key) { s with heap:=h' }):wpAny (model prog w) A (pyNext (aZ it)) Q E s:=by
 obtain⟨o,C,hc,hd⟩:=id hi;obtain⟨R,v,N,x⟩:=G;have ty:=hi.typeIs;have lt:i<ap es:=(mw.mp hx).1;unfold pyNext;refine aa (gf ?_);refine bP (name:=ar "__next__") ty cE ?_;refine bw cE ty iR ?_ (iH _);refine aa (af (aa (aa ?_)));refine aa (eV ty (af (aa (oY C hd ?_))));have J:lE "dict_keyiterator" = bA:=by decide
 simp only[J,aJ,if_false];show wpAny _ _ (if (aZ d == dM)=bj then _ else _) _ _ s;have nd:¬((aZ d == dM)=bj):=a8;rw[if_neg nd];refine aa (af (aa (kF v x ?_)));rw[if_neg (by simp)];refine aa (af (aa (oh v x ?_)));rw[if_neg (by simp)];refine af ?_;simp only[show ¬((i:Int)<0) from by lia,if_false,bS,hx];refine aa (aa (eV ty (af (aa (oz ty ?_)))));show wpAny _ _ (setField (aZ it) 1 (rawInt ((i:Int)+1)) >>= _) _ _ s;refine aa (dE C hd (by simp) ?_);have l:(s.heap.update it (gY (·.setIfInBounds 1 (rawInt ((i:Int)+1))))).IsKeyIter it d (i+1) es.size ep :=
  ⟨_,bK _ C (dA (bU hd _)),b3 (fS ..) hc,by rw[bU hd];simp[rawInt]⟩
 refine aa (bO (aa (oz (s:={ s with heap:=s.heap.update it (gY (·.setIfInBounds 1 (rawInt ((i:Int)+1)))) }) l.typeIs ?_)));show wpAny _ _ (pure e.key) _ _ _;exact af (af ⟨_,rfl,af (L _ l (eC ..))⟩)
theorem zkJ{it d:aq}{i ep:Nat}{es:Array fy}{Q:Option ah->au->Prop}(L:A.handled=ao)(hi:s.heap.IsKeyIter it d i es.size ep)(I:Yg s.heap d es ep)(hx:ap es<=i)
  (N:∀h',mQ it s.heap h'->Q ao { s with heap:=h' }):wpAny (model prog w) A (pyNext (aZ it)) Q E s:=by
 obtain⟨o,G,hc,hd⟩:=id hi;obtain⟨S,l,R,v⟩:=I;have ty:=hi.typeIs;unfold pyNext;refine aa (gf ?_);refine bP (name:=ar "__next__") ty cE ?_;refine bw cE ty iR ?_ (iH _);refine aa (af (aa (aa ?_)));refine aa (eV ty (af (aa (oY G hd ?_))));have J:lE "dict_keyiterator" = bA:=by decide
 simp only[J,aJ,if_false];show wpAny _ _ (if (aZ d == dM)=bj then _ else _) _ _ s;have nd:¬((aZ d == dM)=bj):=a8;rw[if_neg nd];refine aa (af (aa (kF l v ?_)));rw[if_neg (by simp)];refine aa (af (aa (oh l v ?_)));rw[if_neg (by simp)];refine af ?_;simp only[show ¬((i:Int)<0) from by lia,if_false,bS,nT hx];refine aa (aa (eV ty (af ?_)));show wpAny _ _ (setField (aZ it) 0 dM >>= _) _ _ s;refine aa (dE G hd (by simp) ?_);show wpAny _ _ (newExc (aY "StopIteration") [] >>= _) _ _ _;refine aa ?_;simp only[newExc,newTuple];refine aa (bp ?_ (by size_fits));refine aa (m:=firstArgMember _ _) (i6 (a:=dM) (by first|rfl|(simp only[firstArgMember];rfl)) ?_);refine bp ?_ (by size_fits);simp only[raiseNew];refine aa (mX ?_);have C:A.in1.handled=ao:=L;rw[C];refine aa (af (oT ?_));refine aa (gA (T:="StopIteration") (b:=bj) ⟨_,aA _ rfl,rfl⟩ l8 (af (N _ ?_)));exact(((eC ..).extBut.push _).push _)
end
theorem zfV:∀{ks ls:KT2},Js ks=Js ls->ks=ls
 | [],[],_=>rfl
 | [],_::_,e=>by cases e
 | _::_,[],e=>by cases e
 | (a,b)::ks,(c,d)::ls,e=>by have h:=iP (show(blkT a,b)::Js ks=(blkT c,d)::Js ls from e);have o:=oX h.1;have l:=Dw o.1;have u:=uI (iP l).1;have v:=uI (iP (iP l).2).1;rw[o.2,zfV h.2,dD u v]
section
variable{K:qF}{hd:Option aq}{O:aq->Prop}{H:Hp}
theorem Rep.dtI{v:V}{ks:KT2}(h:Rep K hd O H v (tD (Js ks))):∃a zs ep,v=.ref a/\H a=ai (ZDO a zs ep)/\¬O a/\Jn K hd O H zs ks:=by
 generalize e:tD (Js ks)=t at h;cases h with
 | @dct a ep h o =>
  have e:=eF e;cases ks with
  | nil=>exact⟨a,[],ep,rfl,by rw[zmF];exact h,o,.nil⟩
  | cons _ _=>cases e
 | @dcK a kvs ep ks' ps h o r e' =>have e:=eF e;rw[e']at e;obtain⟨rfl,rfl⟩:=ztT e;cases r;exact⟨a,[],ep,rfl,by rw[zmF];exact h,o,.nil⟩
 | @dcT a zs ep ks' ps h o r e' =>have e:=eF e;rw[e']at e;rw[zfV e];exact⟨a,zs,ep,rfl,h,o,r⟩
 | hand _=>exact(dict_noT (eF e).symm).elim
 | scr _ _=>exact(dict_noT (eF e).symm).elim
 | scrS _=>exact(dict_noT (eF e).symm).elim
 | exc _ _=>exact(dict_noT (eF e).symm).elim
 | _=>cases e
theorem RepT.dtI{v:V}{ks:KT2}(h:RepT K hd O H v (tD (Js ks))):∃a zs ep,v=.ref a/\H a=ai (ZDO a zs ep)/\Jn K hd O H zs ks:=by rcases h with h|⟨p,vs,ds,rfl,u,o,l,x⟩|⟨p,zs,ep,C,rfl,u,o,l,x⟩;obtain⟨a,zs,ep,e,o,_,l⟩:=h.dtI;exact⟨a,zs,ep,e,o,l⟩;cases u;rw[zfV (eF u)];exact⟨p,zs,ep,rfl,o,l⟩
def valZ(zs:ZT)(k:Int×Int):Option V:=(zs.find? λz=>decide (z.1=k)).map (·.2.2)
theorem Jn.val{zs:ZT}{ks:KT2}(r:Jn K hd O H zs ks){k:Int×Int}{d:ae}(h:valT ks k=ai d):∃v,valZ zs k=ai v/\Rep K hd O H v d:=by
 induction zs generalizing ks with
 | nil=>cases r;simp[valT]at h
 | cons y zs l =>
  cases r with
  | @cons k' q v' d' zs ks h1 h2 r =>unfold valT at h;unfold valZ;rw[cH]at h ⊢;dsimp only at h ⊢;by_cases e:k'=k;rw[decide_eq_true e]at h ⊢;cases h;exact⟨v',rfl,h2⟩;rw[decide_eq_false e]at h ⊢;exact l r h
theorem zqM{ks:KT2}{k:Int×Int}:(ks.any ((λz=>decide (z=k))∘λx=>x.1))=eA (ks.find? λz=>decide (z.1=k)):=by
 induction ks with
 | nil=>rfl
 | cons y ks l =>rw[m3,cH];show(decide (y.1=k)||_)=_;cases decide (y.1=k);exact l;rfl
theorem Jn.anyK{zs:ZT}{ks:KT2}(r:Jn K hd O H zs ks)(k:Int×Int):(zs.any λz=>decide (z.1=k))=eA (valT ks k):=by
 have l:(zs.any λz=>decide (z.1=k))=(zs.map (·.1)).any λz=>decide (z=k):=by rw[nV];rfl
 rw[l,r.keys,nV];unfold valT;rw[Option.isSome_map];exact zqM
end
theorem zuq{zs:ZT}{xs:List (List Key×aq×ah)}(r:bN ZX zs xs){k:Int×Int}{v:V}(h:valZ zs k=ai v):∃p,atKey xs (kL k)=ai p/\RelV v p.2:=by
 induction r with
 | nil=>simp[valZ]at h
 | @cons z x zs xs h1 t ih =>
  unfold valZ at h;rw[cH]at h;by_cases e:z.1=k;rw[decide_eq_true e]at h;cases h;have:x.1=kL k:=by rw[h1.1,e]
  exact⟨x.2,by simp[atKey,cH,this],h1.2.2⟩;rw[decide_eq_false e]at h;have:¬x.1=kL k:=λl=>e (ZU.mp (b3 h1.1.symm l));obtain⟨p,p1,p2⟩:=ih h;refine⟨p,?_,p2⟩;rw[<- p1];simp[atKey,cH,this]
section
variable{X:Cx}{a b iter tg:aX}{dd:DTE}{p:Pos}{k:Nat}
def zxR(K:qF)(H:Hp)(y:V)(k:Int×Int):Prop:=∃b,y=.ref b/\SqT K H b [.int k.1,.int k.2]
def zxS(K:qF)(H:Hp)(x:V)(zs:ZT):Prop:=∃a ep,x=.ref a/\H a=ai (ZDO a zs ep)/\∀z∈zs,SqT K H z.2.1 [.int z.1.1,.int z.1.2]
def rInT(K:qF)(neg:Bool):R2:=λx y H Q=>∃k zs,zxR K H x k/\zxS K H y zs/\Q (.bl (if neg then !(zs.any λz=>decide (z.1=k)) else zs.any λz=>decide (z.1=k))) H
theorem zrA(L:X.A.units+1<cLine):OpR X (compareOp .In) (rInT X.K bA):=by intro pins s σ H x y v u Q I o C h;obtain⟨k,zs,⟨b,rfl,sq⟩,⟨a,ep,rfl,J,N⟩,q⟩:=h;cases(show v=aZ b from o);cases(show u=aZ a from C);obtain⟨G,R,xs,x1,dd⟩:=Vd I J N;refine wpAny_in_heap (i4 L) (UP (k:=kL k) I sq) G dd ?_;rw[zmC x1];exact⟨.bl _,H,I.tok _,rfl,q⟩
theorem zjL(R:X.A.units+1<cLine):OpR X (compareOp .NotIn) (rInT X.K bj):=by intro pins s σ H x y v u Q I C G h;obtain⟨k,zs,⟨b,rfl,sq⟩,⟨a,ep,rfl,L,S⟩,q⟩:=h;cases(show v=aZ b from C);cases(show u=aZ a from G);obtain⟨J,U,xs,x1,dd⟩:=Vd I L S;refine wpAny_notIn_heap (i4 R) (UP (k:=kL k) I sq) J dd ?_;rw[zmC x1];exact⟨.bl _,H,I.tok _,rfl,q⟩
def oInT(neg:Bool):G2:=λx y R=>∃(k:Int×Int) (ks:KT2),x=fX [b5 k.1,b5 k.2]/\y=tD (Js ks)/\R (k6 (if neg then !(eA (valT ks k)) else(valT ks k).isSome))
theorem RepT.bkI{K:qF}{hd:Option aq}{O:aq->Prop}{H:Hp}{v:V}{a b:Int}(h:RepT K hd O H v (fX [b5 a,b5 b])):∃q,v=.ref q/\SqT K H q [.int a,.int b]:=by rcases h with h|⟨p,vs,ds,rfl,o,G,x,C⟩|⟨p,zs,ep,I,rfl,o,G,x,C⟩;exact h.bkI;cases o;cases o
theorem Z2{neg:Bool}:Gp2 X (rInT X.K neg) (oInT neg):=by intro hd O H x y t u Q R dom o C h v;obtain⟨k,ks,rfl,rfl,r⟩:=h;obtain⟨a,zs,ep,rfl,G,rk⟩:=C.dtI;refine⟨k,zs,o.bkI,⟨a,ep,rfl,G,rk.sq⟩,?_⟩;rw[rk.anyK k];exact v _ _ H r (Same.refl H) (.bl _)
theorem Q5{k:Int×Int}{ks:KT2}{neg:Bool}{R:ae->Prop}(h:R (k6 (if neg then !(eA (valT ks k)) else(valT ks k).isSome))):oInT neg (fX [b5 k.1,b5 k.2]) (tD (Js ks)) R:=⟨k,ks,rfl,rfl,h⟩
def rIxZ(K:qF):R2:=λx y H Q=>∃k zs v,zxR K H y k/\zxS K H x zs/\valZ zs k=ai v/\Q v H
theorem zvK(J:X.A.units+1<cLine){pins:qO}{s:au}{σ:St}{H:Hp}{x y:V}{v u:ah}{Q:VK}{E:qV}(I:Inv X pins σ H s)(l:RelV x v)(C:RelV y u)(h:rIxZ X.K x y H Q):(∃a,v=aZ a/\s.TypeIs (aZ a) "dict")/\wpAny (model X.prog X.w) X.A (getItem v u) (EP X pins σ Q) E s:=by obtain⟨k,zs,w,⟨b,rfl,sq⟩,⟨a,ep,rfl,G,L⟩,N,q⟩:=h;cases(show v=aZ a from l);cases(show u=aZ b from C);obtain⟨S,R,xs,x1,dd⟩:=Vd I G L;obtain⟨p,p1,p2⟩:=zuq x1 N;refine⟨⟨a,rfl,?_⟩,wpAny_getItem_heap (i4 J) (UP (k:=kL k) I sq) dd p1 ⟨w,H,I.tok _,p2,q⟩⟩;obtain⟨o,g,c⟩:=zoM dd;exact⟨o,g,c⟩
def zxI:GC:=λts R=>∃ks:KT2,ts=[tD (Js ks)]/\R (b5 (dP ks))
theorem ztI:GpC X (λxs H Q=>∃a zs ep,xs=[.ref a]/\H a=ai (ZDO a zs ep)/\Q (.int (dP zs)) H) zxI:=by intro hd O H xs ts Q R dom rs h l;obtain⟨ks,rfl,r⟩:=h;obtain⟨v,rfl,o⟩:=Qn rs;obtain⟨a,zs,ep,rfl,u,rk⟩:=o.dtI;exact⟨a,zs,ep,rfl,u,by rw[rk.length];exact l _ _ H r (Same.refl H) (.int _)⟩
theorem zwR{ks:KT2}{R:ae->Prop}(h:R (b5 (dP ks))):zxI [tD (Js ks)] R:=⟨ks,rfl,h⟩
def ItZ(a:aq)(zs:ZT)(ep:Nat):It :=
 ⟨λi H=>H a=ai (ZDO a zs ep)/\i<dP zs,λi H x H'=>H'=H/\∃z,zs[i]?=ai z/\x=.ref z.2.1,λi H=>H a=ai (ZDO a zs ep)/\dP zs<=i⟩
theorem zoE{zs:ZT}{es:List fy}(r:bN entZ zs es){i:Nat}{z:(Int×Int)×aq×V}(h:zs[i]?=ai z):∃e,es[i]?=ai e/\e.key=aZ z.2.1:=by
 induction r generalizing i with
 | nil=>simp at h
 | @cons y e zs es h1 t ih =>
  cases i with
  | zero=>simp at h;subst h;exact⟨e,by simp,h1.2.1⟩
  | succ i=>simpa using ih (by simpa using h)
theorem zmT{P:aL}{w:aV}{K:qF}{tg:aX}(a it:aq)(zs:ZT)(ep:Nat):Turn P w K tg (ItZ a zs ep) [it] it (λi h=>h.IsKeyIter it a i (dP zs) ep) where
 mem:=by simp
 obj:=λi h st b l=>by
  have e:b=it:=by simpa using l
  subst e;obtain⟨o,e,c,d⟩:=st;exact⟨o,e,λv z=>by rw[d]at z;cases z⟩
 keep:=λi h h' st k=>by obtain⟨o,e,r⟩:=st;exact⟨o,k it (by simp) o e,r⟩
 item:=by
  intro X R hw J hc i pins s σ H E I hf st L;subst R hw J;obtain⟨N,hi⟩:=L;obtain⟨⟨hs,U,nd,o,es,g1,g2,g3,pr⟩,_⟩:=I.hok a _ N;have hx:zs[i]?=ai zs[i]:=ay hi;obtain⟨e,he,ke⟩:=zoE pr hx;have x:ap es=dP zs:=by have:=cV pr;simpa using bv this
  obtain⟨f0,f1,f2,C,f4,G⟩:=hf it (by simp);refine zig (es:=es) (by rw[x];exact st) ⟨o,g1,g2,g3⟩ (by rw[<- cM];exact he) λh' u Y=>?_;rw[x]at u;have I1:Inv X pins σ H { s with heap:=h' }:=I.turned (t':=dn s) (λb o l e=>b3 (Y.2 b l) e) f0 f1 C f4 G;obtain⟨o',S,c,d⟩:=id u;rw[ke];exact⟨_,rfl,U7 (s:={ s with heap:=h' }) S c d (by decide) ⟨.ref zs[i].2.1,H,I1,rfl,⟨rfl,zs[i],hx,rfl⟩,u,λb l=>(hf b l).1⟩⟩
 done:=by
  intro X R hw J hc i pins s σ H E I hf st L;subst R hw J;obtain⟨N,hi⟩:=L;obtain⟨⟨hs,U,nd,o,es,g1,g2,g3,pr⟩,_⟩:=I.hok a _ N;have x:ap es=dP zs:=by have:=cV pr;simpa using bv this
  obtain⟨f0,f1,f2,C,f4,G⟩:=hf it (by simp);exact zkJ (es:=es) (I.ok.hd hc) (by rw[x];exact st) ⟨o,g1,g2,g3⟩ (by lia) λh' Z=>⟨rfl,I.turned (t':=dn s) (λb o l e=>Z b o l e) f0 f1 C f4 G⟩
 self:=λ_ _ _ _ _ st h=>oZ st h
def zAp(o:TE):TI:=λσ H R=>o σ H λx l=>∃a zs ep,x=.ref a/\l a=ai (ZDO a zs ep)/\R (ItZ a zs ep) l
theorem zsI{l:aX}{G:TE}(U:PE X l G):PI X tg l (zAp G):=by
 intro pins s σ H R I h;refine thn (U pins s σ H _ I h) λv s1 C=>?_;obtain⟨x,N,u,L,q1⟩:=C;obtain⟨a,zs,ep,e,Z,q⟩:=q1;subst e;cases L;obtain⟨⟨Y,lz,nd,o,es,g1,g2,g3,pr⟩,_⟩:=u.hok a _ Z;have S:ap es=dP zs:=by have:=cV pr;simpa using bv this
 refine zif (es:=es) Y ⟨o,g1,g2,g3⟩ ?_;rw[S];refine⟨ap s1.heap.objs,[ap s1.heap.objs],_,_,N,rfl,u.kept (t':=dn s1) λb o e=>aj _ e,zmT a _ zs ep,⟨_,aA _ rfl,rfl,rfl⟩,λb J=>?_,q⟩;have e:b=ap s1.heap.objs:=by simpa using J
 subst e;exact u.fpOk (av _) (u.hok.fresh (av _))
def dItZ(d:DTE):DTA:=λo n R=>d o n λt l=>∃ks:KT2,t=tD (Js ks)/\R (ks.map λq=>blkT q.1) l
theorem Jn.getK{K:qF}{hd:Option aq}{O:aq->Prop}{H:Hp}{zs:ZT}{ks:KT2}(r:Jn K hd O H zs ks){i:Nat}{z:(Int×Int)×aq×V}{q:(Int×Int)×ae}(hz:zs[i]?=ai z)(l:ks[i]?=ai q):Rep K hd O H (.ref z.2.1) (blkT q.1):=by
 induction zs generalizing ks i with
 | nil=>simp at hz
 | cons y zs o =>
  cases r with
  | @cons k' q' v' d' zs ks h1 h2 r =>
   cases i with
   | zero=>simp at hz l;subst hz l;exact h1
   | succ i=>exact o r (by simpa using hz) (by simpa using l)
theorem zoK(h:DE X iter dd):DI X tg iter (dItZ dd):=by
 obtain⟨ta,pa,h⟩:=h;refine⟨_,zsI pa,λC ρ σ H n Q R S hd hq=>?_⟩;refine h C ρ σ H n _ _ S hd λt Y v H' ⟨ks,I,r⟩ U hn q=>?_;subst I;obtain⟨a,zs,ep,rfl,l,no,rk⟩:=q.dtI;refine⟨a,zs,ep,rfl,l,hq _ Y _ H' r U hn ?_⟩;intro O2 H2 J L _;have G:=J a _ l no;have N:Jn X.K C.hd O2 H2 zs ks:=rk.mono (λa o l z=>bg λno=>L a o l no z) λa o no l=>J a o l no;refine⟨λi t I=>?_,⟨G,by rw[aI,rk.length];exact av _⟩⟩;rw[aT]at I;obtain⟨q,u,eq⟩:=c8.mp I;have hi:i<dP zs:=by rw[rk.length];exact(aw.mp u).1
 refine⟨⟨G,hi⟩,λx H3 Z=>?_⟩;obtain⟨rfl,z,hz,rfl⟩:=Z;rw[<- eq];exact⟨Same.refl _,N.getK hz u⟩
instance zA1 {d:DTE}{ρ:En}{n:Nat}{R:qD->Nat->Prop}:Stp (dItZ d ρ n R) (d ρ n λt n'=>∃ks:KT2,t=tD (Js ks)/\R (ks.map λq=>blkT q.1) n'):=⟨λh=>h⟩
variable{e:aX}{da db d:DTE}{pos:Pos}{x:Str}{ta tb:TE}
theorem zvv(U:X.A.units+1<cLine)(L:PE X a ta)(hi:PE X b tb)(R:NoSl b):PE X (d0 a b pos) (tOp (rIxZ X.K) ta tb):=by intro pins s σ H Q I h;refine zsb PySem.F.slot_dict_getitem.lookup R (thn (L pins s σ H _ I h) λu s1 ⟨x,o,Y,G,Z⟩=>thn (hi pins s1 σ o _ Y Z) λiv s2 l=>?_);obtain⟨y,H2,v,N,C⟩:=l;obtain⟨⟨a,J,ty⟩,w⟩:=zvK (E:=X.xe) U v G N C;subst J;exact⟨ty,w⟩
def oIxZ:G2:=λx y R=>∃(k:Int×Int) (ks:KT2) (d:ae),x=tD (Js ks)/\y=fX [b5 k.1,b5 k.2]/\valT ks k=ai d/\R d
theorem zxe:Gp2 X (rIxZ X.K) oIxZ:=by intro hd O H x y t u Q R dom l I h G;obtain⟨k,ks,d,rfl,rfl,L,r⟩:=h;obtain⟨a,zs,ep,rfl,J,rk⟩:=l.dtI;obtain⟨v,C,o⟩:=rk.val L;exact⟨k,zs,v,I.bkI,⟨a,ep,rfl,J,rk.sq⟩,C,G _ _ H r (Same.refl H) o⟩
theorem Qp(hu:X.A.units+1<cLine)(o:DL X a da)(l:DL X b db)(hs:NoSl b:=by intro _ _;rfl):DE X (d0 a b pos) (dOp oIxZ da db):=by obtain⟨ta,pa,o⟩:=o;obtain⟨tb,pb,l⟩:=l;refine⟨_,zvv hu pa pb hs,λC ρ σ H n Q R S h Z=>?_⟩;refine two o l S h λx y Y v w H2 N e G q1 U=>?_;exact zxe C.hd (Own C ρ σ) H2 v w x y Q _ (λp=>G.dom) q1 U N λz u H' L I J=>Z z Y u H' L (e.trans I.ext) (G.hnd.same I) J
theorem Qs{k:Int×Int}{ks:KT2}{d:ae}{R:ae->Prop}(o:valT ks k=ai d)(h:R d):oIxZ (tD (Js ks)) (fX [b5 k.1,b5 k.2]) R:=⟨k,ks,d,rfl,rfl,o,h⟩
def dDtt(i:Nat):DTE:=λl n R=>match l[i]? with|some (ai (.dtt ks))=>R (tD (Js ks)) n|_=>False
theorem ztS(i:Nat){U:Pos}(Z:X.N[i]?=ai x:=by rfl)(hv:Vis (cu X.env) x:=by walk_at "V")(hd:Ndb x:=by rfl)
  (v:Ncd x:=by rfl):DS X (.Return (ai (bn x U)) pos) (sRet (dDtt i)):=by
 refine⟨_,ZR (QJ Z hv hd v),λC ρ σ H n D D' S h g=>?_⟩;unfold sRet dDtt at h;split at h;rename_i ks e;obtain⟨p,zs,ep,L,I,J,G⟩:=S.dtt i ks e;exact⟨.ref p,L,g.rt _ n _ H h S.hnd (λa o Y _ _=>Y) (.dcT I G (J.mono (λ_ _ _ z=>fj z) λ_ _ _ z=>z) rfl)⟩;exact eJ h
instance zA6 {i:Nat}{ks:KT2}{ρ:En}{n:Nat}{R:qN}[h:GetN ρ i (ai (.dtt ks))]:Stp (dDtt i ρ n R) (R (tD (Js ks)) n):=⟨λk=>by unfold dDtt;rw[h.e];exact k⟩
end
abbrev PR:=List ((Int×Int)×(Int×Int))
def twoD(q:Int×Int):ae:=fX [b5 q.1,b5 q.2]
def prK(qs:PR):KT2:=qs.map λq=>(q.1,twoD q.2)
def valP(qs:PR)(k:Int×Int):Option (Int×Int):=(qs.find? λq=>decide (q.1=k)).map (·.2)
theorem Qw{qs:PR}{k:Int×Int}:valT (prK qs) k=(valP qs k).map twoD:=by
 unfold valT valP prK;induction qs with
 | nil=>rfl
 | cons q qs l =>rw[aK,cH,cH];dsimp only;cases decide (q.1=k);exact l;rfl
abbrev upH(b:Int×Int):Int×Int:=(cP b.1 (2 ^ mu (b.2 - 1)),b.2 - 1)
abbrev loH(b:Int×Int):Int×Int:=(b.1,b.2 - 1)
def bpD(no al:Bool)(qs:PR)(b:Int×Int):Option (Int×Int) :=
 if no then ai (0,1) else if al then ai (1,0) else match valP qs (loH b),valP qs (upH b) with
  | some x,ai y=>ai (if x.2+y.2+1<x.1+y.1 then x.2+y.2+1 else x.1+y.1,if x.1+y.1+1<x.2+y.2 then x.1+y.1+1 else x.2+y.2)
  | _,_=>ao
def optD:Option (Int×Int)->ae|some q=>twoD q|none=>oK
def HasN(ps:qB)(b:Int×Int):Prop:=∀p∈ps,eB p<=b.1\/eB b<=p.1
def HasA(ps:qB)(b:Int×Int):Prop:=∃p∈ps,p.1<=b.1/\eB b<=eB p
def rgtD(o:Option (Int×Int))(q:Int×Int):Bool:=match o with|some m=>decide (q.1<=m.1)&&decide (q.2<=m.2)|none=>false
theorem zhx{ps:qB}{b:Int×Int}(h:b.2=0):HasN ps b\/HasA ps b:=by
 have e:eB b=b.1+1:=by unfold eB;rw[h];rfl
 by_cases q:∃p∈ps,p.1<=b.1/\b.1<eB p;obtain⟨p,o,u,v⟩:=q;exact xw ⟨p,o,u,by lia⟩;refine fj λp o=>?_;by_cases z:eB p<=b.1;exact fj z;refine xw ?_;by_cases y:p.1<=b.1;exact absurd ⟨p,o,y,by lia⟩ q;lia
section
variable{bits:Int}{ps bs:BL}{b c:Int×Int}
theorem up_eq(B:IsBk bits b.1 b.2)(h:1<=b.2):upH b=(b.1+2 ^ mu (b.2 - 1),b.2 - 1):=by
 have e:=B.x1 (by lia);have p:(2:Int) ^ mu b.2=2*2 ^ mu (b.2 - 1):=by
  have:mu b.2=mu (b.2 - 1)+1:=by lia
  rw[this,bH];lia
 unfold upH;rw[e,p];congr 1;lia
theorem Vw(h:1<=b.2):(2:Int) ^ mu b.2=2*2 ^ mu (b.2 - 1):=by
 have:mu b.2=mu (b.2 - 1)+1:=by lia
 rw[this,bH];lia
theorem zzI(B:IsBk bits b.1 b.2)(h:1<=b.2):IsBk bits (loH b).1 (loH b).2:=by
 obtain⟨h0,v,k,u,e,l⟩:=B;refine⟨by show 0<=b.2 - 1;lia,by show b.2 - 1<=bits;lia,2*k,by lia,?_,?_⟩;show b.1=2*k*2 ^ mu (b.2 - 1);rw[e,Vw h,b7 2 k,cj];show 2*k<2 ^ mu (bits - (b.2 - 1));have:mu (bits - (b.2 - 1))=mu (bits - b.2)+1:=by lia
 rw[this,bH];lia
theorem zyH(B:IsBk bits b.1 b.2)(h:1<=b.2):IsBk bits (upH b).1 (upH b).2:=by
 rw[up_eq B h];obtain⟨h0,v,k,u,e,l⟩:=B;refine⟨by show 0<=b.2 - 1;lia,by show b.2 - 1<=bits;lia,2*k+1,by lia,?_,?_⟩;show b.1+2 ^ mu (b.2 - 1)=(2*k+1)*2 ^ mu (b.2 - 1);rw[e,Vw h,cS,cT,b7 2 k,cj];show 2*k+1<2 ^ mu (bits - (b.2 - 1));have:mu (bits - (b.2 - 1))=mu (bits - b.2)+1:=by lia
 rw[this,bH];lia
theorem zna(B:IsBk bits b.1 b.2)(C:IsBk bits c.1 c.2)(h:b.2=c.2){x:Int}(x1:b.1<=x/\x<eB b)(l:c.1<=x/\x<eB c):b=c:=by
 have e:eB b - b.1=eB c - c.1:=by unfold eB;rw[h];lia
 rcases VH B C x1 l with z|z;exact dD (by lia) h;exact dD (by lia) h
theorem zk7(B:IsBk bits b.1 b.2)(C:IsBk bits c.1 c.2)(v:1<=b.2)(hc:1<=c.2){d:Int×Int}(u:d=loH b\/d=upH b)(l:d=loH c\/d=upH c):b=c:=by
 have L:=Vw (b:=b) v;have pc:=Vw (b:=c) hc;have R:=Bd.JT (mu (b.2 - 1));have S:=Bd.JT (mu (c.2 - 1));rw[up_eq B v]at u;rw[up_eq C hc]at l;have I:d.2=b.2 - 1:=by rcases u with rfl|rfl <;> rfl
 have J:d.2=c.2 - 1:=by rcases l with rfl|rfl <;> rfl
 have x:b.1<=d.1/\d.1<eB b:=by unfold eB;rcases u with rfl|rfl <;> constructor <;> dsimp only <;> lia
 have G:c.1<=d.1/\d.1<eB c:=by unfold eB;rcases l with rfl|rfl <;> constructor <;> dsimp only <;> lia
 exact zna B C (by lia) x G
def Prt(ps:BL)(b:Int×Int):Prop:=¬HasN ps b/\¬HasA ps b
theorem Prt.pos(h:Prt ps b)(B:IsBk bits b.1 b.2):1<=b.2:=by have h0:=B.1;by_cases z:b.2=0;rcases zhx (ps:=ps) z with q|q;exact absurd q h.1;exact absurd q h.2;lia
theorem Prt.inn(h:Prt ps b)(B:IsBk bits b.1 b.2)(P:Bks bits ps):∃p∈ps,b.1<=p.1/\p.1<eB b:=by
 refine bg λno=>h.1 λp l=>?_;refine bg λz=>?_;have pp:=Qj p;have u:=Qj b;have x1:b.1<eB p:=by lia
 have o:p.1<eB b:=by lia
 by_cases q:b.1<=p.1;exact no ⟨p,l,q,o⟩;rcases VH B (P p l) (x:=b.1) ⟨aN _,u⟩ ⟨by lia,x1⟩ with z|z;lia;exact h.2 ⟨p,l,z.1,z.2.1⟩
structure PInv(bits:Int)(ps bs:BL)(k:Nat):Prop where
 bk:Bks bits bs
 nd:bs.Nodup
 root:bs[0]?=ai (0,bits)
 par:∀c∈bs,c=(0,bits)\/∃(j:Nat) (b:Int×Int),j<k/\bs[j]?=ai b/\Prt ps b/\(c=loH b\/c=upH b)
 kid:∀(j:Nat) (b:Int×Int),j<k->bs[j]?=ai b->Prt ps b->(∃i,j<i/\bs[i]?=ai (loH b))/\∃i,j<i/\bs[i]?=ai (upH b)
 cnt:∃ds:BL,ds.Nodup/\(∀d∈ds,Prt ps d/\∃j,j<k/\bs[j]?=ai d)/\dP bs=1+2*dP ds
theorem PInv.start(u:0<=bits):PInv bits ps [(0,bits)] 0 where
 bk:=λb o=>by cases aE.mp o;exact⟨u,aN _,0,aN _,by simp,Bd.JT _⟩
 nd:=by simp
 root:=rfl
 par:=λc hc=>fj (aE.mp hc)
 kid:=λj b v=>by lia
 cnt:=⟨[],mL,(λd h=>nomatch h),rfl⟩
theorem PInv.no{k:Nat}(I:PInv bits ps bs k)(u:bs[k]?=ai b)(h:¬Prt ps b):PInv bits ps bs (k+1) where
 bk:=I.bk
 nd:=I.nd
 root:=I.root
 par:=λc hc=>by rcases I.par c hc with z|⟨j,b,v,r⟩;exact fj z;exact xw ⟨j,b,by lia,r⟩
 kid:=λj c L hc o=>by by_cases e:j=k;subst e;rw[u]at hc;cases hc;exact absurd o h;exact I.kid j c (by lia) hc o
 cnt:=by obtain⟨ds,x,J,G⟩:=I.cnt;exact⟨ds,x,λd hd=>by obtain⟨a,j,v,C⟩:=J d hd;exact⟨a,j,by lia,C⟩,G⟩
theorem PInv.yes{k:Nat}(b0:0<=bits)(I:PInv bits ps bs k)(v:bs[k]?=ai b)(h:Prt ps b):PInv bits ps (bs++[loH b,upH b]) (k+1):=by
 have R:=(aw.mp v).1;have B:=I.bk b (aC v);have G:=h.pos B;have pb:=Vw (b:=b) G;have qb:=Bd.JT (mu (b.2 - 1));have old:∀{j:Nat} {c:Int×Int},bs[j]?=ai c->(bs++[loH b,upH b])[j]?=ai c:=λ{j c} L=>by rw[bY (aw.mp L).1];exact L
 have fresh:∀d,(d=loH b\/d=upH b)->d∉bs:=by
  intro d hd hm;rcases I.par d hm with z|⟨j,c,C,u,Y,j4⟩;have:d.2=b.2 - 1:=by rcases hd with rfl|rfl <;> rfl
  have e2:=B.2.1;rw[z]at this;have this:bits=b.2 - 1:=this;lia;have S:=I.bk c (aC u);have:=zk7 B S G (Y.pos S) hd j4;subst this;have:=(hU (kj C R) I.nd).mp (b3 u v.symm);lia
 have ne:loH b≠upH b:=by rw[up_eq B G];intro e;have:=congrArg nB e;dsimp only at this;lia
 have l0:(bs++[loH b,upH b])[dP bs]?=ai (loH b):=by simp
 have l1:(bs++[loH b,upH b])[dP bs+1]?=ai (upH b):=by simp
 refine⟨?_,?_,?_,?_,?_,?_⟩;intro c hc;rcases aW.mp hc with hc|hc;exact I.bk c hc;simp only[ax,aU,or_false]at hc;rcases hc with rfl|rfl;exact zzI B G;exact zyH B G;rw[fV];refine⟨I.nd,by simp[ne],λx hx y J e=>?_⟩;subst e;simp only[ax,aU,or_false]at J;exact fresh x J hx;exact old I.root;intro c hc;rcases aW.mp hc with hc|hc;rcases I.par c hc with z|⟨j,d,C,u,r⟩;exact fj z;exact xw ⟨j,d,by lia,old u,r⟩;simp only[ax,aU,or_false]at hc;exact xw ⟨k,b,by lia,old v,h,hc⟩;intro j c L hc hp;by_cases e:j=k;subst e;have:c=b:=by have:=old v;rw[hc]at this;exact aG this
 subst this;exact⟨⟨dP bs,R,l0⟩,dP bs+1,by lia,l1⟩;have jl:j<dP bs:=by lia
 rw[bY jl]at hc;obtain⟨⟨i1,a1,a2⟩,i2,c1,c2⟩:=I.kid j c (by lia) hc hp;exact⟨⟨i1,a1,old a2⟩,i2,c1,old c2⟩;obtain⟨ds,Z,U,d3⟩:=I.cnt;refine⟨ds++[b],?_,?_,by simp[d3];lia⟩;rw[fV];refine⟨Z,by simp,λx hx y J e=>?_⟩;subst e;cases aE.mp J;obtain⟨_,j,C,u⟩:=U _ hx;have:=(hU (kj C R) I.nd).mp (b3 u v.symm);lia;intro d hd;rcases aW.mp hd with hd|hd;obtain⟨a,j,C,u⟩:=U d hd;exact⟨a,j,by lia,old u⟩;cases aE.mp hd;exact⟨h,k,by lia,old v⟩
end
theorem zkY{α o:Type}(ps:List o):∀xs:List α,dP (xs.flatMap λh=>ps.map λp=>(h,p))=dP xs*dP ps
 | []=>by simp
 | x::xs=>by rw[rW,a9,zkY ps xs,aI,aH,Nat.succ_mul,Nat.add_comm]
section
variable{bits:Int}{ps bs:BL}{b c:Int×Int}
theorem znA(S:bits<=64)(P:Bks bits ps){ds:BL}(nd:ds.Nodup)(h:∀d∈ds,Prt ps d/\IsBk bits d.1 d.2):dP ds<=65*dP ps:=by
 classical
 let g:Int×Int->Int×Int:=λd=>if h:∃p∈ps,d.1<=p.1/\p.1<eB d then h.choose else(0,0)
 have C:∀d∈ds,g d∈ps/\d.1<=(g d).1/\(g d).1<eB d:=λd hd=>by obtain⟨p,B⟩:=h d hd;have ex:=p.inn B P;have e:g d=ex.choose:=dif_pos ex;rw[e];exact ex.choose_spec
 have v:(ds.map λd=>(d.2,g d)).Nodup:=by refine dz.mpr (iN ?_ nd);intro a c I hc n e;have G:=congrArg nB e;have J:=congrArg Ae e;dsimp only at G J;have ga:=C a I;have L:=C c hc;rw[<- J]at L;exact n (zna (h a I).2 (h c hc).2 G ga.2 L.2)
 have:=zkQ (ys:=((c9 65).map λi:Nat=>(i:Int)).flatMap λh=>ps.map λp=>(h,p)) v λx hx=>by obtain⟨d,hd,rfl⟩:=aR.mp hx;rw[sU];have B:=(h d hd).2;have h0:=B.1;have R:=B.2.1;exact⟨d.2,aR.mpr ⟨mu d.2,hW.mpr (by lia),by lia⟩,aR.mpr ⟨g d,(C d hd).1,rfl⟩⟩
 rw[zkY,aI,aI,fT]at this;exact this
theorem PInv.len{k:Nat}(u:bits<=64)(P:Bks bits ps)(I:PInv bits ps bs k):dP bs<=1+130*dP ps:=by
 obtain⟨ds,l,v,x⟩:=I.cnt;have:=znA u P l λd hd=>by obtain⟨a,j,_,o⟩:=v d hd;exact⟨a,I.bk d (aC o)⟩
 lia
def msz(bs:BL):Nat:=(bs.map λb=>2 ^ (mu b.2+1) - 1).sum
theorem ztd(xs ys:BL):msz (xs++ys)=msz xs+msz ys:=by simp[msz]
theorem zrE{k:Nat}(l:bs[k]?=ai b):msz (bs.drop (k+1))<msz (bs.drop k):=by
 have o:=(aw.mp l).1;have e:bs.drop k=b::bs.drop (k+1):=by rw[cq o];rw[ay o]at l;rw[aG l]
 rw[e];have:1<2 ^ (mu b.2+1):=Nat.one_lt_two_pow (by lia);simp only[msz,aK,pX];lia
theorem ztc{k:Nat}(l:bs[k]?=ai b)(h:1<=b.2):msz ((bs++[loH b,upH b]).drop (k+1))<msz (bs.drop k):=by
 have u:=(aw.mp l).1;have e:bs.drop k=b::bs.drop (k+1):=by rw[cq u];rw[ay u]at l;rw[aG l]
 rw[List.drop_append_of_le_length (by lia),ztd,e];have p:2 ^ (mu b.2+1)=2*2 ^ mu b.2:=by rw[lK];lia
 have q:mu (b.2 - 1)+1=mu b.2:=by lia
 have pos:1<=2 ^ mu b.2:=Nat.one_le_two_pow;simp only[msz,aK,pX,dH,List.sum_nil,q];lia
end
section
variable{prog:aL}{w:aV}{A:bq}{E:qV}{s:au}
theorem zgg{T newId T':String}{I:cI}{args:List ah}{Q:qV}
  (h1:(aY T == aY "type")=bA)
  (Z:((uJ T).bind (·.mro.findSome? λt=>(uJ t).bind λb=>if b.noNew then ai bj else if b.attrs.any (·.1 == "__new__") then ai bA else ao)).getD bA=bA)
  (U:∃c G,mroOf (aY T)=pure (c::G)) (v:Bind.madeBy (aY T)=pure (ai newId)) (plain:plainId newId=bj) (N:isSubtype (aY T') (aY T)=pure bA)
  (Y:checkTypeCall T ⟨args,[]⟩=pure ()) (x:checkBuiltinCall newId ⟨aY T::args,[]⟩=pure ()) (J:entryFor table newId=ai I)
  (h:wpAny (model prog w) A.in1.in1 (I ⟨aY T::args,[]⟩) (λfin l=>∃obj,fin=Af (Ag obj)/\l.TypeIs obj T'/\Q obj l) E s) :
  wpAny (model prog w) A (call (aY T) args) Q E s:=by
 obtain⟨c,G,C⟩:=U;refine wpAny_call (tJ ?_);show wpAny _ _ (callAny (aY T) _) _ _ _;refine af ⟨gH _ (by decide +kernel),dJ F.entry_type_call ?_⟩;rw[Around.under_plain (weight_type_call_type T args []) (units_type_call_type T args [])]
 repeat (any_goals (first|assumption|wp_step))
 refine ka (R:=wants (λobj l=>l.TypeIs obj T'/\Q obj l) E) (lh plain J (i6 x ?_)) λr l u=>?_;exact cn h (λfin s1 ⟨obj,e,q⟩=>by subst e;exact q) (λ_ _ z=>z)
 ·cases r with
  | error e=>exact u
  | ok fl =>
   cases fl with
   | ret obj =>
    obtain⟨L,hq⟩:=u;show wpAny _ _ (isInstance obj (aY T) >>= _) _ _ l;refine aa (gA L N ?_)
    repeat (any_goals (first|assumption|wp_step))
   | _=>exact eJ u
theorem zic{l:aq}{its:Array ah}{n:Nat}{Q:qV}(x:be s.heap l=ai { cls:=aY "list",dict:=ao,data:=f9 its n,slots:=#[] }) (h:Q (aZ s.heap.objs.size) { s with heap:=dL s.heap { cls:=aY "list_reverseiterator",data:=ed #[aZ l,m6 (ap its - 1) 0] } }) :
  wpAny (model prog w) A (cI.«reversed.__new__» ⟨[aY "reversed",aZ l],[]⟩) (λfin o=>∃obj,fin=Af (Ag obj)/\Q obj o) E s:=by
 have J:isSubtype (aY "reversed") (aY "reversed")=pure bj:=by kernel_rfl
 have C:s.TypeIs (aZ l) "list":=⟨_,x,rfl⟩;have I:=fJ.lookup;have G:=fJ.bind (aZ l);unfold cI.«reversed.__new__»
 repeat (any_goals (first|assumption|wp_step))
 refine ka (R:=wants Q E) (lh fJ.plain PySem.F.entry_list_reversed (fJ.check _ _ _ _ _ _ _ _ C (PySem.F.args_list_reversed_1 _) (oA l its n prog w A (wants Q E) s ⟨x,by simpa[rawInt,wants] using h⟩))) λr s1 u=>?_;cases r with
 | error e=>exact u
 | ok fl =>
  cases fl with
  | ret v=>exact af ⟨_,rfl,u⟩
  | _=>exact eJ u
theorem zhH{l:aq}{its:Array ah}{n:Nat}{Q:qV}(o:be s.heap l=ai { cls:=aY "list",dict:=ao,data:=f9 its n,slots:=#[] }) (h:Q (aZ s.heap.objs.size) { s with heap:=dL s.heap { cls:=aY "list_reverseiterator",data:=ed #[aZ l,m6 (ap its - 1) 0] } }) :
  wpAny (model prog w) A (call (aY "reversed") [aZ l]) Q E s:=by
 refine zgg (T:="reversed") (newId:="reversed.__new__") (T':="list_reverseiterator") (by decide) (by decide +kernel) ⟨aY "reversed",[aY "object"],by rw[mroOf_type];kernel_rfl⟩ (by kernel_rfl) (by decide +kernel) (by kernel_rfl) ?_ ?_ (by kernel_rfl) (zic o ⟨⟨_,aA _ rfl,rfl⟩,h⟩);kernel_rfl;kernel_rfl
end
theorem VV:Bs "list_reverseiterator" "__next__" "list_reverseiterator.__next__" :=
 .of (owner:="list_reverseiterator") (n:="__next__") (by rw[gT,eG];kernel_rfl) (by decide +kernel) (by decide +kernel) (by decide +kernel) (by decide +kernel) (by kernel_rfl)
theorem zdG:Bs "list_reverseiterator" "__iter__" "list_reverseiterator.__iter__" :=
 .of (owner:="list_reverseiterator") (n:="__iter__") (by rw[gT,eG];kernel_rfl) (by decide +kernel) (by decide +kernel) (by decide +kernel) (by decide +kernel) (by kernel_rfl)
theorem zdk:entryFor table "list_reverseiterator.__next__" = ai cI.«list_reverseiterator.__next__»:=sV (by kernel_rfl)
theorem zd5(a:ah):argsOk "list_reverseiterator.__next__" ⟨[a],[]⟩:=by unfold argsOk;kernel_rfl
def IsRevIter(h:bh)(it l:aq)(j:Int):Prop:=∃o,be h it=ai o/\jg o=aY "list_reverseiterator" /\ f7 o=ed #[aZ l,m6 j 0]
section
variable{prog:aL}{w:aV}{A:bq}{E:qV}{s:au}
theorem zm8{a:aq}{o:Obj}{its:Array ah}{n:Nat}{Q:Option (Array ah)->au->Prop}(l:be s.heap a=ai o)(hd:f7 o=f9 its n)(h:Q (ai its) s):wpAny (model prog w) A (seqItems? (aZ a)) Q E s:=by show wpAny _ _ (load a >>= _) _ _ s;refine aa (nI l ?_);rw[hd];exact af h
theorem zp1{it l:aq}{its:Array ah}{j:Nat}{x:ah}{Q:Option ah->au->Prop}(hi:IsRevIter s.heap it l (j:Int))(G:s.heap.IsList l its)(hx:its[j]?=ai x)
  (J:∀h',IsRevIter h' it l ((j:Int) - 1)->cY it s.heap h'->Q (ai x) { s with heap:=h' }):wpAny (model prog w) A (pyNext (aZ it)) Q E s:=by
 obtain⟨o,C,hc,hd⟩:=id hi;obtain⟨L,gl,cl,n,dl⟩:=id G;have ty:s.TypeIs (aZ it) "list_reverseiterator":=⟨o,C,hc⟩;unfold pyNext;refine aa (gf ?_);refine bP (name:=ar "__next__") ty VV ?_;refine bw VV ty zdk ?_ (zd5 _);unfold cI.«list_reverseiterator.__next__»;refine aa (af ?_);refine aa (cD C hd (x:=m6 (j:Int) 0) rfl ?_);have nn:¬((j:Int)<0):=by lia
 show wpAny _ _ (if (j:Int)<0 then _ else _) _ _ _;rw[if_neg nn];refine aa (cD C hd (x:=aZ l) rfl ?_);refine aa (zm8 gl dl ?_);show wpAny _ _ (match its[mu (j:Int)]? with|some x=>_|_=>_) _ _ _;rw[bS,hx];refine aa (dE C hd (by simp) ?_);have v:IsRevIter (s.heap.update it (gY (·.setIfInBounds 1 (rawInt ((j:Int) - 1))))) it l ((j:Int) - 1) :=
  ⟨_,bK _ C (dA (bU hd _)),b3 (fS ..) hc,by rw[bU hd];simp[rawInt]⟩
 exact af ⟨_,rfl,af (J _ v (eC ..))⟩
theorem zst{it l:aq}{Q:Option ah->au->Prop}(C:A.handled=ao)(hi:IsRevIter s.heap it l (-1))(I:∀h',mQ it s.heap h'->Q ao { s with heap:=h' }):wpAny (model prog w) A (pyNext (aZ it)) Q E s:=by obtain⟨o,v,hc,hd⟩:=id hi;have ty:s.TypeIs (aZ it) "list_reverseiterator":=⟨o,v,hc⟩;unfold pyNext;refine aa (gf ?_);refine bP (name:=ar "__next__") ty VV ?_;refine bw VV ty zdk ?_ (zd5 _);unfold cI.«list_reverseiterator.__next__»;refine aa (af ?_);refine aa (cD v hd (x:=m6 (-1) 0) rfl ?_);show wpAny _ _ (if (-1:Int)<0 then _ else _) _ _ _;rw[if_pos (by decide)];refine aa (dh ?_);refine aa ?_;unfold rX;show wpAny _ _ (newExc (aY "StopIteration") [] >>= _) _ _ _;refine aa ?_;simp only[newExc,newTuple];refine aa (bp ?_ (by size_fits));refine aa (m:=firstArgMember _ _) (i6 (a:=dM) (by first|rfl|(simp only[firstArgMember];rfl)) ?_);refine bp ?_ (by size_fits);simp only[raiseNew];refine aa (mX ?_);have u:A.in1.handled=ao:=C;rw[u];refine aa (af (oT ?_));refine aa (gA (T:="StopIteration") (b:=bj) ⟨_,aA _ rfl,rfl⟩ l8 (af (I _ ?_)));have G:mQ it s.heap s.heap:=λb o _ e=>e;exact sW (sW G _) _
end
section
variable{X:Cx}{tg:aX}
theorem zgd:entryFor table "list_reverseiterator.__iter__" = ai cI.«dict_keyiterator.__iter__»:=o4 (id':="dict_keyiterator.__iter__") (by kernel_rfl) rfl (by decide +kernel) (by kernel_rfl)
theorem zhN(a:ah):argsOk "list_reverseiterator.__iter__" ⟨[a],[]⟩:=by unfold argsOk;kernel_rfl
theorem zkI{it l:aq}{j:Int}{prog:aL}{w:aV}{A:bq}{E:qV}{s:au}{Q:qV}(hi:IsRevIter s.heap it l j)(h:Q (aZ it) s):wpAny (model prog w) A (pyIter (aZ it)) Q E s:=by obtain⟨o,u,hc,hd⟩:=hi;have ty:s.TypeIs (aZ it) "list_reverseiterator":=⟨o,u,hc⟩;refine kG ty zdG (bw zdG ty zgd ?_ (zhN _));show wpAny _ _ (ret (aZ it)) _ _ s;exact af ⟨_,rfl,"list_reverseiterator",_,ty,VV.lookup,h⟩
def ItV(a:aq)(vs:List V):It :=
 ⟨λi H=>H a=ai (.lst vs)/\i<dP vs,λi H x H'=>H'=H/\vs.reverse[i]?=ai x,λi H=>H a=ai (.lst vs)/\dP vs<=i⟩
theorem zpK{P:aL}{w:aV}{K:qF}{tg:aX}(a it:aq)(vs:List V):Turn P w K tg (ItV a vs) [it] it (λi h=>i<=dP vs/\IsRevIter h it a ((dP vs:Int) - 1 - (i:Int))) where
 mem:=by simp
 obj:=λi h st b C=>by
  have e:b=it:=by simpa using C
  subst e;obtain⟨_,o,e,c,d⟩:=st;exact⟨o,e,λv z=>by rw[d]at z;cases z⟩
 keep:=λi h h' st k=>by obtain⟨l,o,e,r⟩:=st;exact⟨l,o,k it (by simp) o e,r⟩
 item:=by
  intro X Y hw R hc i pins s σ H E I hf st S;subst Y hw R;obtain⟨ha,hi⟩:=S;obtain⟨its,Z,p,hz⟩:=I.list (.of ha);have hl:=Z.length;have hx:vs.reverse[i]?=ai (vs.reverse[i]'(by simpa using hi)):=ay (by simpa using hi);generalize vs.reverse[i]'(by simpa using hi)=x at hx;have U:vs[dP vs - 1 - i]?=ai x:=by rw[<- hx,fL hi]
  obtain⟨u,hu,ru⟩:=Z.get U;obtain⟨f0,f1,f2,J,f4,L⟩:=hf it (by simp);have N:(dP vs:Int) - 1 - (i:Int)=((dP vs - 1 - i:Nat):Int):=by lia
  obtain⟨_,st⟩:=st;rw[N]at st;refine zp1 st p.isList (x:=u) (by simpa using hu) λh' G sb=>?_;have I1:Inv X pins σ H { s with heap:=h' }:=I.turned (t':=dn s) (λb o C e=>b3 (sb.2 b C) e) f0 f1 J f4 L;obtain⟨o,e,c,d⟩:=id G;exact⟨u,rfl,U7 (s:={ s with heap:=h' }) e c d (by decide) ⟨x,H,I1,ru,⟨rfl,hx⟩,⟨hi,by
   have e2:(dP vs:Int) - 1 - ((i+1:Nat):Int)=((dP vs - 1 - i:Nat):Int) - 1:=by lia
   rw[e2];exact G⟩,λb C=>(hf b C).1⟩⟩
 done:=by
  intro X Y hw R hc i pins s σ H E I hf st S;subst Y hw R;obtain⟨ha,hi⟩:=S;obtain⟨f0,f1,f2,J,f4,L⟩:=hf it (by simp);obtain⟨l,st⟩:=st;have N:(dP vs:Int) - 1 - (i:Int)=-1:=by lia
  rw[N]at st;exact zst (I.ok.hd hc) st λh' eb=>⟨rfl,I.turned (t':=dn s) (λb o C e=>eb b o C e) f0 f1 J f4 L⟩
 self:=λ_ _ _ _ _ st h=>zkI st.2 h
end
theorem boot_reversed:bootBuiltins "reversed" = ai (aY "reversed"):=by first|rfl|kernel_rfl
section
variable{X:Cx}{a tg:aX}{d:DTE}{p pos:Pos}
def iRev(u:TA):TI:=λσ H R=>u σ H λvs o=>∃l xs,vs=[.ref l]/\o l=ai (.lst xs)/\R (ItV l xs) o
theorem zvn{v:TA}(Z:Gl X "reversed") (hm:X.mg "reversed" = ao) (ha:PA X [a] v) (hs:starEach [a] X.env=[(bA,eval a X.env)]:=by rfl):PI X tg (ee (bn "reversed" p) [a] [] pos) (iRev v):=by
 intro pins s σ H R I h;refine Call_ (YZ I Z hm boot_reversed (fq (thn (ha pos pins s σ H _ I h) λus s1 ⟨vs,L,u,J,q1⟩=>?_) hs rfl));obtain⟨l,xs,e,Y,q⟩:=q1;subst e;cases J with
 | cons r rr =>
  cases rr;cases(show _=aZ l from r);obtain⟨z,its,n,rel,g⟩:=u.hok l _ Y;have S:=rel.length;refine zhH (its:=bm its) (n:=n) g ?_;have U:=u.kept (t':=dn s1) (h':=dL s1.heap { cls:=aY "list_reverseiterator",data:=ed #[aZ l,m6 (ap its.toArray - 1) 0] }) λb o e=>aj _ e;have x:IsRevIter (dL s1.heap { cls:=aY "list_reverseiterator",data:=ed #[aZ l,m6 (ap its.toArray - 1) 0] }) s1.heap.objs.size l ((dP xs:Int) - 1 - ((0:Nat):Int)):=by refine⟨_,aA _ rfl,rfl,?_⟩;simp[S]
  refine zkI x ?_;refine⟨ap s1.heap.objs,[ap s1.heap.objs],_,_,L,rfl,U,zpK l _ xs,⟨dw _,x⟩,λb G=>?_,q⟩;have e:b=ap s1.heap.objs:=by simpa using G
  subst e;exact u.fpOk (av _) (u.hok.fresh (av _))
def dItR(d:DTE):DTA:=λo n R=>d o n λt l=>lLst t λts=>R (fm ts) l
theorem zrU(hm:X.mg "reversed" = ao) (h:DE X a d) (hg:Gl X "reversed":=by rfl) (Z:starEach [a] X.env=[(bA,eval a X.env)]:=by rfl):DI X tg (ee (bn "reversed" p) [a] [] pos) (dItR d):=by
 obtain⟨ta,pa,h⟩:=h;refine⟨_,zvn hg hm (Qu pa QI Z) Z,λC ρ σ H n Q R S hd hq=>?_⟩;refine h C ρ σ H n _ _ S hd λt n' v H' r e1 hn q=>?_;cases t with
 | list ts =>
  obtain⟨l,vs,rfl,Y,no,L⟩:=q.lstI;refine⟨l,vs,rfl,Y,hq _ n' _ H' r e1 hn ?_⟩;intro O2 H2 g1 g2 _;have u:=g1 l _ Y no;have r2:Reps X.K C.hd O2 H2 vs ts:=L.mono (λa o J z=>bg λno=>g2 a o J no z) λa o no J=>g1 a o J no;have U:=L.length;refine⟨λi t I=>?_,⟨u,by rw[fk,U];exact av _⟩⟩;have hi:i<dP ts:=by simpa using(aw.mp I).1
  refine⟨⟨u,by lia⟩,λx H3 G=>?_⟩;obtain⟨rfl,G⟩:=G;refine⟨Same.refl _,?_⟩;rw[fL hi]at I;rw[fL (by lia),U]at G;exact r2.getP I G
 | _=>exact eJ r
instance zA3 {d:DTE}{ρ:En}{n:Nat}{R:qD->Nat->Prop}:Stp (dItR d ρ n R) (d ρ n λt n'=>lLst t λts=>R (fm ts) n'):=⟨λh=>h⟩
end
theorem zku{qs more:PR}{k v:Int×Int}(h:valP qs k=ai v):valP (qs++more) k=ai v:=by
 unfold valP at *;rw[rY];cases e:qs.find? λq=>decide (q.1=k) with
 | none=>rw[e]at h;cases h
 | some q=>rw[e]at h;exact h
theorem zg_{qs:PR}{k:Int×Int}(h:k∈qs.map (·.1)):∃v,valP qs k=ai v:=by
 unfold valP;cases e:qs.find? λq=>decide (q.1=k) with
 | none =>obtain⟨q,l,rfl⟩:=aR.mp h;have:=gL.mp e q l;simp at this
 | some q=>exact⟨q.2,rfl⟩
theorem zpf{no al:Bool}{qs more:PR}{b v:Int×Int}(h:bpD no al qs b=ai v):bpD no al (qs++more) b=ai v:=by
 unfold bpD at *;cases no;cases al;simp only[aJ,if_false]at h ⊢;cases e1:valP qs (loH b) with
 | none=>rw[e1]at h;cases h
 | some x =>
  cases e2:valP qs (upH b) with
  | none=>rw[e1,e2]at h;cases h
  | some y =>rw[e1,e2]at h;rw[zku e1,zku e2];exact h
 exact h;exact h
theorem zq6{no al:Bool}{qs:PR}{b:Int×Int}(h:no=bA->al=bA->loH b∈qs.map (·.1)/\upH b∈qs.map (·.1)):∃v,bpD no al qs b=ai v:=by unfold bpD;cases no;cases al;obtain⟨C,u⟩:=h rfl rfl;obtain⟨x,l⟩:=zg_ C;obtain⟨y,o⟩:=zg_ u;rw[l,o];exact⟨_,rfl⟩;exact⟨_,rfl⟩;exact⟨_,rfl⟩
theorem znx{qs:PR}{b v:Int×Int}(h:b∉qs.map (·.1)):putT (prK qs) b (twoD v)=prK (qs++[(b,v)]):=by
 have e:((prK qs).any λz=>decide (z.1=b))=bA:=by rw[i9];intro z hz e;obtain⟨q,l,rfl⟩:=aR.mp hz;exact h (aR.mpr ⟨q,l,of_decide_eq_true e⟩)
 unfold putT;rw[e];simp[prK]
section
variable{X:Cx}{pins:qO}{σ:St}{H:Hp}{s:au}{a:aq}{zs:ZT}{ep:Nat}{A:bq}{E:qV}
theorem zhP{k:Int×Int}{b:aq}{v:V}{r:ah}{Q:Unit->au->Prop}(hu:A.units+1<cLine)(I:Inv X pins σ H s)(h:H a=ai (ZDO a zs ep))(Z:∀z∈zs,SqT X.K H z.2.1 [.int z.1.1,.int z.1.2])(J:SqT X.K H b [.int k.1,.int k.2])(hl:dP zs<sizeLine)(S:RelV v r)
  (R:∀s' o,Inv X pins σ (upd H a (ZDO a (zput zs k b v) o)) s'->Q () s'):wpAny (model X.prog X.w) A (dictSet a (aZ b) r) Q E s:=by
 obtain⟨U,L,xs,x1,N⟩:=Vd I h Z;have Y:dP xs<=sizeLine:=by rw[<- cV x1];exact L
 refine rf (hsz:=Y) (show A.units<cLine by lia) (UP (k:=kL k) I J) N λh' u C=>?_;have he:∃q,be h' a=ai q:=let ⟨q,_,_,e,_⟩:=u;⟨q,e⟩;have G:dP (zput zs k b v)<=sizeLine:=by have:=zkr zs k b v;lia
 have ok:∀H':Hp,∃o,JE X.prog X.w H' h' a (ZDO a (zput zs k b v) o):=λH'=>YF U G (zrc x1 k S) u;obtain⟨o,x⟩:=ok H;exact R _ o (zki I (by rw[h];exact iX) C he x)
end
abbrev tdD(tk tv:DTE)(ρ:En)(n:Nat)(acc:KT2)(R:KT2->Nat->Prop):Prop:=tk ρ n λy n3=>tv ρ n3 λt n4=>lBlk y λk=>dP acc<16777216/\R (putT acc k t) n4
def Y5(g:DTG)(tt:DTT)(tk o:DTE)(l:En)(xs:qD)(acc:KT2)(n:Nat)(R:KT2->Nat->Prop):Prop:=cGo g tt (tdD tk o) l xs acc n R
def dCompT(m:Nat)(capt:List Nat)(x:DTA)(g:DTG)(tt:DTT)(tk u:DTE):DTE:=λl n R=>x l n λts v=>Y5 g tt tk u (JL m capt l) ts [] v λks o=>R (tD (Js ks)) o
def AD(K:qF)(C:Ctx)(D:aq)(H:Hp)(acc:KT2):Prop:=∃zs ep,H D=ai (ZDO D zs ep)/\Jn K C.hd C.ext H zs acc
theorem zxL{K:qF}:AOk (AD K):=λ_ _ _ _ hx v ⟨zs,ep,l,r⟩ =>
 ⟨xw (xw ⟨_,l⟩),λks z=>(by rw[l]at z;cases z),λH' e=>⟨zs,ep,e _ _ l v,r.mono (λ_ _ _ z=>z) λa o no u=>e a o u λz=>no (hx a z)⟩⟩
def nxD(o l:aX)(acc:ah)(env:Env)(k:Sem Fin):Sem Fin:=do
 (do
  let kv <- eval o env;let vv <- holding [kv] (eval l env);match acc with
  | aZ d=>do
   standAt { o.pos with endLine:=l.pos.endLine,endCol:=l.pos.endCol }
   holding [kv,vv] (dictSet d kv vv)
  | _=>unsupported "internal:dictcomp")
 k
section
variable{X:Cx}{scope:fv}{own:List Str}{capt:List Nat}{kx vx tg iter:aX}{ifs:List aX}{gs:List pS}{pos:Pos}{di:DTA}{is:List Nat}{g:DTG}{tt:DTT}{tk tv:DTE}
theorem ztq:IsC (jp kx vx gs scope pos):=λ_ _ _ _ _ _ _=>⟨⟨rfl,rfl⟩,⟨rfl,rfl⟩,rfl⟩
theorem zvY:NA X.prog X.w newDict λD u=>∃ep,u=ZDO D [] ep:=λA E s Q big h=>bp (h _ rfl λh' e=>by have v:(dL s.heap { cls:=aY "dict",dict:=ao,data:=jk #[] }).DictOfH (tupleKind (JA X.prog X.w)) s.heap.objs.size []:=kT s.heap;obtain⟨o,es,ep,g1,g2⟩:=v;rw[aA _ rfl]at g1;cases g1;obtain⟨ep,ok⟩:=YF (X:=X) (H':=λ_=>ao) (zs:=[]) (beq_eq_false_iff_ne.mpr (dG (aO big))) (dw _) ja ⟨_,es,ep,e,g2.1,g2.2.1,g2.2.2.1,λx hx=>absurd hx (by simp),g2.2.2.2.2⟩;exact⟨_,⟨ep,rfl⟩,λH'=>ok⟩)
theorem zxa(hu:X.A.units+1<cLine)(hk:Fam X scope own capt λY=>DE Y kx tk)(he:Fam X scope own capt λY=>DE Y vx tv):HM X scope own capt (nxD kx vx) (AD X.K) [] (tdD tk tv):=by obtain⟨gk,pk,hgk⟩:=DE.fam hk;obtain⟨ge,pe,hge⟩:=DE.fam he;refine⟨λD σ H N=>gk σ H λkv H6=>ge σ H6 λv G=>∃zs ep k b,kv=.ref b/\G D=ai (ZDO D zs ep)/\(∀z∈zs,SqT X.K G z.2.1 [.int z.1.1,.int z.1.2])/\SqT X.K G b [.int k.1,.int k.2]/\dP zs<sizeLine/\∀u,N (upd G D (ZDO D (zput zs k b v) u)),λD C s₀ H₀ fp pins s σ H N k Q E I h hk=>?_,λC D hD nh ρ σ H n acc N R S _ a r hq=>?_⟩;refine aa (aa (cn (pk C s₀ H₀ fp pins s σ H _ I h) (λy s9 ⟨kv,H9,I9,r9,q9⟩=>aa (bO (cn (pe C s₀ H₀ fp pins s9 σ H9 _ I9 q9) (λy2 s10 ⟨v,H10,I10,r10,zs,ep,k,b,ev,L,hsq,hb,hl,Z⟩=>aa (eR (bO ?_))) λ_ _ z=>eJ z))) λ_ _ z=>eJ z));subst ev;cases(show y=aZ b from r9);exact zhP (X:=Q8 X scope own capt C s₀ H₀ fp) hu I10 L hsq hb hl r10 λs11 u U=>hk _ _ U (Z u);refine hgk C ρ σ H n _ _ S r λy n6 kv H6 r6 e6 hn6 q6=>?_;have S6:=S.on e6 hn6;refine hge C ρ σ H6 n6 _ _ S6 r6 λt n7 v G r7 e7 hn7 q7=>?_;obtain⟨k,rfl,hl,c7⟩:=r7;have x:=e7.rep S6.hx q6;obtain⟨b,rfl,sb⟩:=x.bkI;have J:=e6.trans e7;obtain⟨zs,ep,L,z6⟩:=(zxL _ _ _ _ S.hx nh a).2.2 _ J;refine⟨zs,ep,k,b,rfl,L,z6.sq,sb,by rw[z6.length];exact hl,λu=>hq _ n7 _ c7 (λc o hc nc ne=>by rw[Jo ne];exact J c o hc nc) (Hn.updR nh (xw (xw ⟨_,L⟩)) hn7) ⟨_,u,JJ,?_⟩⟩;exact(z6.put k (x.mono (λ_ _ _ z=>fj z) λ_ _ _ z=>z) (q7.mono (λ_ _ _ z=>fj z) λ_ _ _ z=>z)).mono (λ_ _ _ z=>z) λa o no ha=>by rw[Jo (show a≠D from λz=>no (z▸hD))];exact ha
theorem zq3(hu:X.A.units+1<cLine)(hc:X.calm=bj)(S:Jv scope own capt X)(hi:DIL X tg iter di)
  (hg:Fam X scope own capt λY=>DG Y tg is g) (v:∀i∈is,i<dP own) (ht:Fam X scope own capt λY=>DTs Y ifs tt) (hk:Fam X scope own capt λY=>DE Y kx tk) (he:Fam X scope own capt λY=>DE Y vx tv) (hs:Fsi X iter) :
  ∃ge,PE X (jp kx vx [⟨tg,iter,ifs,0⟩] scope pos) ge/\(∀{i:Nat} {x:Str} {u G:Pos},X.N.Nodup->X.N[i]?=ai x->Loc (cu X.env) x->swapsWith (jp kx vx [⟨tg,iter,ifs,0⟩] scope pos) (ai (bn x u)) G.line X.env=pure bj->(Fnl X x)->PS X (h6 [bn x u] (jp kx vx [⟨tg,iter,ifs,0⟩] scope pos) G) (tAsg ge (Um i)))/\SpE X.K ge (dCompT (dP own) capt di g tt tk tv):=by
 obtain⟨ge,p,q,L⟩:=Wo (e:=jp kx vx [⟨tg,iter,ifs,0⟩] scope pos) (a0:=[]) zxL (λ_ _ _ ho ⟨ep,h⟩=>⟨[],ep,by rw[h];exact JJ,.nil⟩) hc S ⟨ztq,⟨_,rfl⟩,λ_ _ _=>rfl,λ_=>⟨_,rfl⟩,λ_ _=>⟨_,rfl⟩⟩ zvY hi hg v ht (zxa hu hk he) (λj U=>absurd U (by simp)) hs;exact⟨ge,p,q,λC ρ σ H n Q R St hd hq=>L C ρ σ H n Q _ St hd λacc J H' D r e h hD I ⟨zs,ep,Z,rs⟩=>hq _ J _ H' r e h (.dcT Z I (rs.mono (λ_ _ _ z=>fj z) λ_ _ _ z=>z) rfl)⟩
theorem zqZ(v:X.A.units+1<cLine)(hc:X.calm=bj)(S:Jv scope own capt X)(hi:DIL X tg iter di)
  (u:Fam X scope own capt λY=>DG Y tg is g) (l:∀i∈is,i<dP own) (x:Fam X scope own capt λY=>DTs Y ifs tt) (G:Fam X scope own capt λY=>DE Y kx tk) (he:Fam X scope own capt λY=>DE Y vx tv)
  (I:Fsi X iter:=by intro _;rfl):DE X (jp kx vx [⟨tg,iter,ifs,0⟩] scope pos) (dCompT (dP own) capt di g tt tk tv) :=
 let ⟨_,p,_,sp⟩:=zq3 v hc S hi u l x G he I
 ⟨_,p,sp⟩
end
section
variable{m:Nat}{capt:List Nat}{di:DTA}{tg:DTG}{tt:DTT}{tk tv:DTE}{ρ ρ0:En}{n:Nat}{R:qN}{Rt:KT2->Nat->Prop}
instance zzr [h:CompN m capt ρ ρ0]:Stp (dCompT m capt di tg tt tk tv ρ n R) (di ρ n λts n1=>Y5 tg tt tk tv ρ0 ts [] n1 λks n'=>R (tD (Js ks)) n'):=⟨λk=>by unfold dCompT;rw[h.e];exact k⟩
theorem zmt{α:Type}{cs:List α}{D:α->ae}(F:α->(Int×Int))(G:α->ae)(v:dP cs<16777216)
  (step:∀b∈cs,∀(K:ae->Nat->qN) (X:Nat->Prop),K (blkT (F b)) n (G b) n->tg (D b) ρ0 λo=>tt o n λc u=>if c=bj then tk o u λy I=>tv o I λt C=>K y I t C else X u)
  (fin:Rt (cs.foldl (λacc b=>putT acc (F b) (G b)) []) n):Y5 tg tt tk tv ρ0 (cs.map D) [] n Rt:=by
 have len:∀(acc:KT2) k t,dP (putT acc k t)<=dP acc+1:=λacc k t=>by unfold putT;split;rw[aI];exact mP _;simp
 have key:∀(xs:List α) (acc:KT2),(∀x∈xs,x∈cs)->dP acc+dP xs<16777216->Rt (xs.foldl (λacc b=>putT acc (F b) (G b)) acc) n->Y5 tg tt tk tv ρ0 (xs.map D) acc n Rt:=by
  intro xs;induction xs with
  | nil=>intro acc _ _ h;exact h
  | cons x xs N =>
   intro acc hx v h;have J:dP acc+(dP xs+1)<16777216:=v;exact step x (hx x (hH _)) (λy _ t C=>lBlk y λk=>dP acc<16777216/\Y5 tg tt tk tv ρ0 (xs.map D) (putT acc k t) C Rt) (λu=>Y5 tg tt tk tv ρ0 (xs.map D) acc u Rt)
    ⟨F x,rfl,by lia,N _ (λy L=>hx y (io _ L)) (by have:=len acc (F x) (G x);lia) h⟩
 exact key cs [] (λ_ h=>h) (by simpa using v) fin
end
noncomputable def zbu (ps:BL):Nat->Int×Int->Int×Int
 | 0,b=>open Classical in if HasN ps b then(0,1) else(1,0)
 | h+1,b=>open Classical in if HasN ps b then(0,1) else if HasA ps b then(1,0) else
  ((if (zbu ps h (loH b)).2+(zbu ps h (upH b)).2+1<(zbu ps h (loH b)).1+(zbu ps h (upH b)).1 then(zbu ps h (loH b)).2+(zbu ps h (upH b)).2+1 else(zbu ps h (loH b)).1+(zbu ps h (upH b)).1),
   if (zbu ps h (loH b)).1+(zbu ps h (upH b)).1+1<(zbu ps h (loH b)).2+(zbu ps h (upH b)).2 then(zbu ps h (loH b)).1+(zbu ps h (upH b)).1+1 else(zbu ps h (loH b)).2+(zbu ps h (upH b)).2)
structure PrsI(bits:Int)(ps bs:BL)(k:Nat)(qs:PR):Prop where
 keys:qs.map (·.1)=bs.reverse.take k
 pos:∀q∈qs,0<=q.2.1/\0<=q.2.2
 rgt:∀q∈qs,∀no al:Bool,(no=bj↔HasN ps q.1)->(al=bj↔HasA ps q.1)->bpD no al qs q.1=ai q.2
theorem UF{qs:PR}{k v:Int×Int}(h:valP qs k=ai v):(k,v)∈qs:=by unfold valP at h;obtain⟨q,l,u⟩:=c8.mp h;have e:=tY l;have m:=mF l;have o:q.1=k:=of_decide_eq_true e;rw[<- o,<- u];exact m
theorem zjz{qs:PR}(nd:(qs.map (·.1)).Nodup){q:(Int×Int)×(Int×Int)}(h:q∈qs):valP qs q.1=ai q.2:=by
 induction qs with
 | nil=>cases h
 | cons x xs l =>rw[aK,cz]at nd;unfold valP;rw[cH];by_cases e:x.1=q.1;rw[decide_eq_true e];rcases ax.mp h with rfl|h;rfl;exact absurd (gn (f:=(·.1)) h) (e▸nd.1);rw[decide_eq_false e];rcases ax.mp h with rfl|h;exact absurd rfl e;exact l nd.2 h
theorem ziJ{α:Type}{l:List α}(h:l.Nodup):l.reverse.Nodup:=List.pairwise_reverse.mpr (Cw (λh=>dG h) h)
section
variable{bits:Int}{ps bs:BL}{b:Int×Int}{qs:PR}{k:Nat}
theorem zu5{α:Type}{l:List α}{k:Nat}{x:α}(h:l.reverse[k]?=ai x):k<dP l/\l[dP l - 1 - k]?=ai x:=by
 have o:k<dP l:=by simpa using(aw.mp h).1
 rw[fL o]at h;exact⟨o,h⟩
theorem zkH{α:Type}{l:List α}{i k:Nat}{x:α}(h:l[i]?=ai x)(o:dP l - 1 - k<i):x∈l.reverse.take k:=by
 have hi:=(aw.mp h).1;have e:l.reverse[dP l - 1 - i]?=ai x:=by rw[fL (by omega)];rw[<- h];congr 1;omega
 refine aC (i:=dP l - 1 - i) ?_;rw[iK (by omega)];exact e
theorem PrsI.start:PrsI bits ps bs 0 []:=⟨rfl,(λq h=>nomatch h),(λq h=>nomatch h)⟩
theorem PrsI.step(I:PInv bits ps bs (dP bs))(J:PrsI bits ps bs k qs)(S:bs.reverse[k]?=ai b){no al:Bool}(Z:no=bj↔HasN ps b)(Y:al=bj↔HasA ps b):∃v,bpD no al qs b=ai v/\b∉qs.map (·.1)/\PrsI bits ps bs (k+1) (qs++[(b,v)]):=by
 obtain⟨hk,U⟩:=zu5 S;have kids:no=bA->al=bA->loH b∈qs.map (·.1)/\upH b∈qs.map (·.1):=λu C=>by have pr:Prt ps b:=⟨(λz=>by rw[Z.mpr z]at u;cases u),(λz=>by rw[Y.mpr z]at C;cases C)⟩;obtain⟨⟨i1,a1,a2⟩,i2,c1,c2⟩:=I.kid _ b (by omega) U pr;rw[J.keys];exact⟨zkH a2 (by omega),zkH c2 (by omega)⟩
 obtain⟨v,l⟩:=zq6 kids;have nd:bs.reverse.Nodup:=ziJ I.nd;have fresh:b∉qs.map (·.1):=by
  rw[J.keys];intro m;obtain⟨i,hi⟩:=dB.mp m;have il:i<k:=by have:=(aw.mp hi).1;rw[gy]at this;omega
  rw[iK il]at hi;have:=(hU (by rw[fk];omega) nd).mp (b3 hi S.symm);omega
 have pv:0<=v.1/\0<=v.2:=by
  unfold bpD at l;cases no;cases al;simp only[aJ,if_false]at l;cases u:valP qs (loH b) with
  | none=>rw[u]at l;cases l
  | some x =>
   cases C:valP qs (upH b) with
   | none=>rw[u,C]at l;cases l
   | some y =>rw[u,C]at l;have px:=J.pos _ (UF u);have py:=J.pos _ (UF C);dsimp only at px py;cases l;dsimp only;constructor <;> split <;> omega
  cases l;decide;cases l;decide
 refine⟨v,l,fresh,?_,?_,?_⟩;rw[e9,J.keys,fH,S];rfl;intro q o;rcases aW.mp o with o|o;exact J.pos q o;cases aE.mp o;exact pv;intro q o L G R N;rcases aW.mp o with o|o;exact zpf (J.rgt q o L G R N);cases aE.mp o;have u:L=no:=by rw[eD,R,Z]
 have C:G=al:=by rw[eD,N,Y]
 rw[u,C];exact zpf l
def PrOk(bits:Int)(ps:BL)(qs:PR):Prop:=∃bs:BL,PInv bits ps bs (dP bs)/\PrsI bits ps bs (dP bs) qs
theorem PrOk.bk(h:PrOk bits ps qs):∀q∈qs,IsBk bits q.1.1 q.1.2:=λq l=>by obtain⟨bs,I,J⟩:=h;have:=gn (f:=(·.1)) l;rw[J.keys]at this;exact I.bk _ (iB.mp (o5 this))
theorem PrOk.nd(h:PrOk bits ps qs):(qs.map (·.1)).Nodup:=by obtain⟨bs,I,J⟩:=h;rw[J.keys,<- fk,cZ];exact ziJ I.nd
theorem PrOk.root(h:PrOk bits ps qs):∃v,valP qs (0,bits)=ai v:=by obtain⟨bs,I,J⟩:=h;refine zg_ ?_;rw[J.keys,<- fk,cZ];exact iB.mpr (aC I.root)
theorem PrOk.pos(h:PrOk bits ps qs):∀q∈qs,0<=q.2.1/\0<=q.2.2:=by obtain⟨bs,I,J⟩:=h;exact J.pos
theorem PrOk.len(h:PrOk bits ps qs)(l:bits<=64)(P:Bks bits ps):1<=dP qs/\dP qs<=1+130*dP ps:=by
 obtain⟨bs,I,J⟩:=h;have e:dP qs=dP bs:=by have:=congrArg dP J.keys;simpa using this
 have:=(aw.mp I.root).1;have:=I.len l P;lia
theorem PrOk.rgt(h:PrOk bits ps qs):∀q∈qs,∀no al:Bool,(no=bj↔HasN ps q.1)->(al=bj↔HasA ps q.1)->bpD no al qs q.1=ai q.2:=by obtain⟨bs,I,J⟩:=h;exact J.rgt
theorem PrOk.val(h:PrOk bits ps qs):∀(n:Nat),∀q∈qs,mu q.1.2=n->q.2=zbu ps n q.1:=by
 classical
 intro n;induction n with
 | zero =>
  intro q u e;have:=h.rgt q u (decide (HasN ps q.1)) (decide (HasA ps q.1)) (by rw[decide_eq_true_eq]) (by rw[decide_eq_true_eq]);unfold bpD at this;unfold zbu;by_cases hn:HasN ps q.1;rw[decide_eq_true hn]at this;rw[if_pos hn];exact(aG this).symm;have l:HasA ps q.1:=by have h0:=(h.bk q u).1;rcases zhx (ps:=ps) (b:=q.1) (by omega) with z|z;exact absurd z hn;exact z
  rw[decide_eq_false hn,decide_eq_true l]at this;rw[if_neg hn];exact(aG this).symm
 | succ n v =>
  intro q u e;have:=h.rgt q u (decide (HasN ps q.1)) (decide (HasA ps q.1)) (by rw[decide_eq_true_eq]) (by rw[decide_eq_true_eq]);unfold bpD at this;unfold zbu;by_cases hn:HasN ps q.1;rw[decide_eq_true hn]at this;rw[if_pos hn];exact(aG this).symm;rw[if_neg hn];rw[decide_eq_false hn]at this;by_cases l:HasA ps q.1;rw[decide_eq_true l]at this;rw[if_pos l];exact(aG this).symm;rw[decide_eq_false l]at this;rw[if_neg l];simp only[aJ,if_false]at this;cases e1:valP qs (loH q.1) with
  | none=>rw[e1]at this;cases this
  | some x =>
   cases e2:valP qs (upH q.1) with
   | none=>rw[e1,e2]at this;cases this
   | some y =>rw[e1,e2]at this;have C:=v _ (UF e1) (show(q.1.2 - 1).toNat=n by omega);have G:=v _ (UF e2) (show(q.1.2 - 1).toNat=n by omega);dsimp only at C G;rw[<- C,<- G];exact(aG this).symm
noncomputable def zbp (bits:Int) (ps:BL):Int:=(zbu ps (mu bits) (0,bits)).1
theorem PrOk.many(h:PrOk bits ps qs){v:Int×Int}(l:valP qs (0,bits)=ai v):v.1=zbp bits ps:=by unfold zbp;rw[<- h.val _ _ (UF l) rfl]
end
instance zAI {i:Nat}{ks:KT2}{ρ:En}{n:Nat}{R:qN}[h:GetN ρ i (ai (.dtt ks))]:Stp (V3 i ρ n R) (R (tD (Js ks)) n):=⟨λk=>by unfold V3;rw[h.e];exact k⟩
def ztN(qs:PR)(acc:KT2):KT2:=qs.foldl (λa q=>putT a q.1 (twoD q.2)) acc
theorem zoA:∀{qs acc:PR},((acc++qs).map (·.1)).Nodup->ztN qs (prK acc)=prK (acc++qs)
 | [],acc,_=>by simp[ztN]
 | q::qs,acc,nd=>by
  have fr:q.1∉acc.map (·.1):=by intro m;rw[e9,fV]at nd;exact nd.2.2 q.1 m q.1 (by simp) rfl
  have:=zoA (qs:=qs) (acc:=acc++[(q.1,q.2)]) (by simpa using nd);unfold ztN at this ⊢;rw[fh,znx fr,this];simp
theorem Ws{l:BL}{b:Int×Int}:HasN l b↔∀x,b.1<=x->x<eB b->¬mB x l:=by constructor;rintro h x x0 x1 ⟨p,o,hx⟩;rcases h p o with z|z <;> omega;intro h p o;have pp:=Qj p;have u:=Qj b;refine bg λz=>?_;exact h (max b.1 p.1) (by omega) (by omega) ⟨p,o,by omega,by omega⟩
abbrev NP:=(Int×Int)×Str
section
variable{prog:aL}{w:aV}{A:bq}{R:sI->au->Prop}{I:aq}{fp wr:List aq}{n:Nat}{P:Nat->ah->Prop}{St:Nat->bh->Prop}
def CmpH(prog:aL)(w:aV)(A:bq)(Gd:bh->Prop)(P:Nat->ah->Prop)(bt:Nat->Nat->Bool):Prop :=
 ∀i j vi vj (s:au) (Q:qV) (E:qV),Gd s.heap->P i vi->P j vj->Q (nH (bt i j)) s->wpAny (model prog w) A (richCompare .Lt vi vj) Q E s
theorem zn4{Gd:bh->Prop}{bt:Nat->Nat->Bool}{S:aq}(W:Walks prog w A.in1 I fp wr n P St)(OT:CmpH prog w A.in1 Gd P bt)(hSf:S∉fp)
  (hG:∀h h',Gd h->(∀b o,b∉wr->b≠S->be h b=ai o->be h' b=ai o)->Gd h') :
  ∀(k j:Nat) (s:au) (U:ah) (c:Nat),n - (j+1)=k->j+1<=n->St (j+1) s.heap->Gd s.heap->P (argBest bt j) U ->
  be s.heap S=ai { cls:=aY "list",dict:=ao,data:=f9 #[U,U] c,slots:=#[] } ->
  (∀v h' tk,P (argBest bt (n - 1)) v->(∀b o,b∉wr->b≠S->be s.heap b=ai o->be h' b=ai o)->R (.ok (Ag v)) { s with heap:=h',toks:=tk }) ->
  codeAny (model prog w) A (jm "min.loop" ⟨[aZ I,dM,aZ S],[]⟩) R s:=by
 have hSw:S∉wr:=λh=>hSf (W.sub _ h);have Oy:(toString "min" ++ toString ".loop":String) = "min.loop":=by decide
 intro k;induction k with
 | zero =>
  intro j s U c hk hj hst gd Y hS hR;have hin:j+1=n:=by omega
  refine dJ nC ?_;rw[ie fB _];show wpAny _ A.in1 (seqItems? (aZ S) >>= _) _ _ s;refine aa (cA hS rfl ?_);show wpAny _ A.in1 (tryCatch (pyNext (aZ I)) _ >>= _) _ _ s;refine aa (kE (W.done s _ _ (hin▸hst) λh' tk C=>?_));show wpAny _ A.in1 (updateSeq S (λ_=>#[]) >>= _) _ _ _;refine aa (gU (C S _ hSw hS) rfl (aa (ia (af ?_))));exact hR U _ tk (by rw[<- hin];exact Y) λb o x G e=>b3 (bf _ _ (dG G)) (C b o x e)
 | succ k ih =>
  intro j s U c hk hj hst gd Y hS hR;have hlt:j+1<n:=by omega
  refine dJ nC ?_;rw[ie fB _];show wpAny _ A.in1 (seqItems? (aZ S) >>= _) _ _ s;refine aa (cA hS rfl ?_);show wpAny _ A.in1 (tryCatch (pyNext (aZ I)) _ >>= _) _ _ s;refine aa (kE (W.item (j+1) s _ _ hlt hst λv h' tk hP Z C=>?_));have hS':=C S _ hSw hS;have gd':Gd h':=hG _ _ gd λb o hb _ e=>C b o hb e;show wpAny _ A.in1 (tryCatch (holding [v,v] (richCompare .Lt v U >>= _)) _ >>= _) _ _ _;refine aa (kE (bO (aa (OT (j+1) (argBest bt j) v U _ _ _ gd' hP Y ?_))));refine aa (bO (cw ?_));refine aa (ia (af ?_));cases hb:bt (j+1) (argBest bt j) with
  | true =>
   simp only[if_true];refine aa (gU hS' rfl (aa (ia ?_)));rw[Oy];refine af ⟨iS fB _,ih (j+1) _ v _ (by omega) hlt (W.frame _ _ _ Z λb hbf o e=>?_) (hG _ _ gd' λb o _ hb e=>b3 (bf _ _ (dG hb)) e) (by simp only[argBest,hb,if_true];exact hP) (bK _ hS' rfl)
    λv' h'' J hP' N=>?_⟩
   exact(bf _ _ (λh:S=b=>hSf (by rw[h];exact hbf))).trans e;exact hR v' h'' J hP' λb o x G e=>N b o x G (b3 (bf _ _ (dG G)) (C b o x e))
  | false =>simp only[aJ,if_false];refine aa (ia ?_);rw[Oy];refine af ⟨iS fB _,ih (j+1) _ U c (by omega) hlt Z gd' (by simp only[argBest,hb,aJ,if_false];exact Y) hS' λv' h'' J hP' N=>?_⟩;exact hR v' h'' J hP' λb o x G e=>N b o x G (C b o x e)
theorem zn3{E:qV}{s:au}{x:ah}{Q:qV}
  (h:wpAny (model prog w) A.in1 (pyIter x) (λit C=>∃(I:aq) (fp wr:List aq) (n:Nat) (P:Nat->ah->Prop) (St:Nat->bh->Prop) (bt:Nat->Nat->Bool) (Gd:bh->Prop),it=aZ I/\Walks prog w A.in1 I fp wr n P St/\St 0 C.heap/\(∀b∈fp,b<ap C.heap.objs)/\0<n/\CmpH prog w A.in1 Gd P bt/\Gd C.heap /\
   (∀h h',Gd h->(∀b o,b∉wr->b≠ap C.heap.objs->be h b=ai o->be h' b=ai o)->Gd h') /\
   ∀v h' tk,P (argBest bt (n - 1)) v->(∀b o,b∉wr->be C.heap b=ai o->be h' b=ai o)->Q v { C with heap:=h',toks:=tk }) E s) :
  wpAny (model prog w) A (call (b4 "min") [x]) Q E s:=by
 have Oy:(toString "min" ++ toString ".loop":String) = "min.loop":=by decide
 refine call_function_tree F.kind_min F.plain_min F.entry_min (F.args_min1 _) ?_;show wpAny _ A.in1 (lL "min" ["key","default"] 0 ⟨[],[]⟩ >>= _) _ _ s;refine aa (i6 (show lL "min" ["key","default"] 0 ⟨[],[]⟩=pure [ao,ao] from rfl) (aa (af ?_)));refine aa (cn h (λit C U=>?_) λ_ _ e=>e);obtain⟨I,fp,wr,n,P,St,bt,Gd,rfl,W,hst,hfp,hn,OT,gd,hG,hQ⟩:=U;refine aa (bp ?_);have G:ap C.heap.objs∉fp:=λhm=>ft _ (hfp _ hm);have hSw:ap C.heap.objs∉wr:=λh=>G (W.sub _ h);rw[Oy];refine af ⟨iS fB _,?_⟩;refine dJ nC ?_;rw[ie fB _];show wpAny _ A.in1 (seqItems? (aZ C.heap.objs.size) >>= _) _ _ _;refine aa (cA (aA _ rfl) rfl ?_);show wpAny _ A.in1 (tryCatch (pyNext (aZ I)) _ >>= _) _ _ _;refine aa (kE (W.item 0 _ _ _ hn (W.frame _ _ _ hst λb _ o e=>aj _ e) λv h' tk hP Y J=>?_));have Z:=J C.heap.objs.size _ hSw (aA _ rfl);show wpAny _ A.in1 (updateSeq C.heap.objs.size (λ_=>#[v,v]) >>= _) _ _ _;refine aa (gU Z rfl ?_);rw[Oy];have g1:Gd h':=hG _ _ (hG _ _ gd λb o _ _ e=>aj _ e) λb o hb _ e=>J b o hb e;refine af ⟨iS fB _,zn4 (Gd:=Gd) (bt:=bt) W OT G hG _ 0 _ v _ rfl hn (W.frame _ _ _ Y λb hbf o e=>?_) (hG _ _ g1 λb o _ hb e=>b3 (bf _ _ (dG hb)) e) hP (bK _ Z rfl) λv' h'' L hP' N=>?_⟩;exact(bf _ _ (λh:ap C.heap.objs=b=>G (by rw[h];exact hbf))).trans e;exact hQ v' h'' L hP' λb o S e=>N b o S (aO (aB e)) (b3 (bf _ _ (i8 (aB e))) (J b o S (aj _ e)))
end
def pLt(a b:Int×Int):Bool:=HT.lexLt [a.1,a.2] [b.1,b.2]
theorem pLt_iff{a b:Int×Int}:pLt a b=bj↔(a.1<b.1\/(a.1=b.1/\a.2<b.2)):=by
 have e:pLt a b=if a.1=b.1 then(if a.2=b.2 then bA else decide (a.2<b.2)) else decide (a.1<b.1):=rfl
 rw[e];by_cases h1:a.1=b.1;rw[if_pos h1];by_cases h2:a.2=b.2;rw[if_pos h2];simp;omega;rw[if_neg h2];simp;omega;rw[if_neg h1];simp;omega
theorem zg9{f:Nat->Int×Int}:∀k j,j<=k->pLt (f j) (f (argBest (λi j=>pLt (f i) (f j)) k))=false
 | 0,j,hj=>by cases Nat.le_zero.mp hj;simp only[argBest];rw[hV];intro z;rw[pLt_iff]at z;lia
 | k+1,j,hj=>by have o:=zg9 (f:=f) k;simp only[argBest];rw[hV];intro z;split at z;rename_i l;rcases eP hj with h|rfl;have:=o j (by lia);rw[hV]at this;apply this;rw[pLt_iff]at z l ⊢;lia;rw[pLt_iff]at z;lia;rename_i l;rcases eP hj with h|rfl;have:=o j (by lia);rw[hV]at this;exact this z;exact l z
section
variable{X:Cx}{k:Nat}
theorem zpc(hr:Room k X.A)(hc:X.calm=bj):JK X (b4 "min") (λxs H Q=>∃(a:aq) (zs:List (V×(Int×Int))),xs=[.ref a]/\SqL X.K H a (zs.map (·.1))/\zs≠[]/\(∀z∈zs,∃q,z.1=.ref q/\SqT X.K H q [.int z.2.1,.int z.2.2]) /\
  ∀z∈zs,(∀y∈zs,pLt y.2 z.2=bA)->Q z.1 H):=by
 intro pins s σ H xs us Q I r h;obtain⟨a,zs,rfl,hq,ne,hp,q⟩:=h;cases r with
 | cons C U =>
  cases U;cases(show _=aZ a from C);obtain⟨its,rv,p,hz⟩:=I.list hq;have cell:bN (λ(z:V×(Int×Int)) (u:ah)=>RelV z.1 u/\PrIn s.heap u z.2.1 z.2.2) zs its:=by
   have go:∀(zs:List (V×(Int×Int))) (its:List ah),(∀z∈zs,∃q,z.1=.ref q/\SqT X.K H q [.int z.2.1,.int z.2.2])->Vals (zs.map (·.1)) its->bN (λ(z:V×(Int×Int)) (u:ah)=>RelV z.1 u/\PrIn s.heap u z.2.1 z.2.2) zs its:=by
    intro zs;induction zs with
    | nil=>intro its _ r;cases r;exact ja
    | cons z zs R =>
     intro its hz r;cases r with
     | cons C U =>obtain⟨q,Z,Y⟩:=hz z (hH _);refine f6 ⟨C,?_⟩ (R _ (λy N=>hz y (io _ N)) U);dsimp only at C;rw[Z]at C;cases(show _=aZ q from C);exact zsc I Y
   exact go zs its hp rv
  have x:=cell.length;have at_:∀(i:Nat) (v:ah),its[i]?=ai v->∃z,zs[i]?=ai z/\RelV z.1 v/\PrIn s.heap v z.2.1 z.2.2:=by
   have go:∀{zs:List (V×(Int×Int))} {its:List ah},bN (λ(z:V×(Int×Int)) (u:ah)=>RelV z.1 u/\PrIn s.heap u z.2.1 z.2.2) zs its->∀(i:Nat) (v:ah),its[i]?=ai v->∃z,zs[i]?=ai z/\RelV z.1 v/\PrIn s.heap v z.2.1 z.2.2:=by
    intro zs its h;induction h with
    | nil=>intro i v e;simp at e
    | cons h1 _ R =>
     intro i v e;cases i with
     | zero=>cases e;exact⟨_,rfl,h1⟩
     | succ i=>exact R i v e
   exact go cell
  have S:s.heap.IsList a (bm its):=p.isList;have hlt:a<ap s.heap.objs:=by obtain⟨_,e,_⟩:=S;exact aB e
  have hu:X.A.in1.units<cLine:=by have:=hr.un;show X.A.units+1<_;lia
  refine zn3 (gZ S ?_);refine⟨ap s.heap.objs,[ap s.heap.objs,a],[ap s.heap.objs],ap its.toArray,_,_,λi j=>pLt ((zs[i]?.map (·.2)).getD (0,0)) ((zs[j]?.map (·.2)).getD (0,0)),λh=>∀b o,be s.heap b=ai o->be h b=ai o,rfl,By (A:=X.A.in1) (I.ok.hd hc) _ a (aO hlt) (bm its),
   ⟨⟨_,aA _ rfl,rfl,rfl⟩,S.push _⟩,?_,?_,?_,λb o e=>aj _ e,?_,λv h' tk hP hk=>?_⟩
  intro b hb;simp only[ax,aU,or_false]at hb;rw[cR];rcases hb with rfl|rfl <;> lia;rw[aD,<- x];exact lF.mpr ne;intro i j vi vj s' Q' E' gd hi J hQ;obtain⟨z,G,_,pz⟩:=at_ i vi (by simpa using hi);obtain⟨y,ey,_,py⟩:=at_ j vj (by simpa using J);obtain⟨a1,o,t,t',n,e0,Z,Y,e3⟩:=pz;obtain⟨a2,o',u,u',n',f0,f1,f2,f3⟩:=py;subst e0 f0;simp only[G,ey,fP,fz]at hQ;exact(show wpAny (model X.prog X.w) X.A.in1 (compareOp .Lt (aZ a1) (aZ a2)) _ E' s' from HT.zeh ⟨o,gd _ _ Z,Y,n,e3⟩ ⟨o',gd _ _ f1,f2,n',f3⟩ (.cons _ _ (.cons _ _ .nil)) (.cons _ _ (.cons _ _ .nil)) hu hQ);intro h h' gd kp b o e;have:=aB e;refine kp b o (λz=>?_) (λz=>?_) (gd b o e);simp only[ax,aU,or_false]at z;lia;rw[cR]at z;lia;obtain⟨z,G,rz,_⟩:=at_ _ v (by simpa using hP);refine⟨z.1,H,I.kept (vU hk),rz,q z (aC G) λy N=>?_⟩;obtain⟨j,J⟩:=dB.mp N;have jl:=(aw.mp J).1;have:=zg9 (f:=λi=>(zs[i]?.map (·.2)).getD (0,0)) (ap its.toArray - 1) j (by rw[aD,<- x];lia);simp only[aD]at this G;simp only[J,G,fP,fz]at this;exact this
def zuc:GC
 | [tE ts],R=>∃bs:List (Int×Int),ts=pD bs/\bs≠[]/\∀b∈bs,(∀c∈bs,pLt c b=bA)->R (fX [b5 b.1,b5 b.2])
 | _,_=>False
theorem znp{K:qF}{hd:Option aq}{O:aq->Prop}{H:Hp}:∀{vs:List V}{bs:qB},Reps K hd O H vs (pD bs)->∀z∈vs.zip bs,(∃q,z.1=.ref q/\SqT K H q [.int z.2.1,.int z.2.2])/\Rep K hd O H z.1 (fX [b5 z.2.1,b5 z.2.2])
 | _,[],r=>by cases r;intro z hz;simp at hz
 | _,a::bs,r=>by
  cases r with
  | cons h r =>intro z hz;rcases ax.mp (by simpa using hz) with rfl|hz;exact⟨h.bkI,h⟩;exact znp r z hz
theorem ztH:GpC X (λxs H Q=>∃(a:aq) (zs:List (V×(Int×Int))),xs=[.ref a]/\SqL X.K H a (zs.map (·.1))/\zs≠[]/\(∀z∈zs,∃q,z.1=.ref q/\SqT X.K H q [.int z.2.1,.int z.2.2]) /\
  ∀z∈zs,(∀y∈zs,pLt y.2 z.2=bA)->Q z.1 H) zuc:=by
 intro hd O H xs ts Q R dom rs h I;unfold zuc at h;split at h;obtain⟨bs,rfl,ne,h⟩:=h;obtain⟨v,rfl,C⟩:=Qn rs;obtain⟨p,vs,rfl,G,u⟩:=C.lstI;have ln:dP vs=dP bs:=by have:=u.length;simpa[pD] using this
 have rel:=znp u;refine⟨p,vs.zip bs,rfl,?_,λz=>?_,λz hz=>(rel z hz).1,λz hz J=>I _ _ H (h z.2 (eE hz).2 λc hc=>?_) (Same.refl H) (rel z hz).2⟩;rw[sO (by lia)];exact .of G;have:dP (vs.zip bs)=0:=by rw[z];rfl
 rw[gR,ln,rP]at this;exact ne (cf.mp this);obtain⟨j,x⟩:=dB.mp hc;have L:=(aw.mp x).1;have:(vs[j]'(by lia),c)∈vs.zip bs:=dB.mpr ⟨j,by rw[mD];exact⟨ay _,x⟩⟩;exact J _ this;exact eJ h
theorem zwp{bs:qB}{R:ae->Prop}(ne:bs≠[])(h:∀b∈bs,(∀c∈bs,pLt c b=bA)->R (fX [b5 b.1,b5 b.2])):zuc [tE (pD bs)] R:=⟨bs,rfl,ne,h⟩
variable{tg tg2:DTG}{tt tt2:DTT}{d:DTE}{di2:DTA}{ρ0:En}{n:Nat}
theorem zg3{α:Type}{cs:List α}{D:α->ae}{u:qD->Nat->Prop}(F:α->ae)
  (step:∀b∈cs,∀(K:qN) (X:Nat->Prop),K (F b) n->tg (D b) ρ0 λo=>tt o n λc v=>if c=bj then d o v K else X v) :
  ∀(xs:List α) (acc:qD),(∀x∈xs,x∈cs)->dP acc+dP xs<=16777216->u (acc++xs.map F) n->JW tg tt d ρ0 (xs.map D) acc n u
 | [],acc,_,_,h=>by
  have h:u acc n:=by simpa using h
  exact h
 | x::xs,acc,hx,hl,h=>by
  have C:dP acc+(dP xs+1)<=16777216:=hl;exact step x (hx x (hH _)) (λt I=>dP acc<16777216/\JW tg tt d ρ0 (xs.map D) (acc++[t]) I u) (λv=>JW tg tt d ρ0 (xs.map D) acc v u)
   ⟨by omega,zg3 (cs:=cs) F step xs _ (λy G=>hx y (io _ G)) (by simp;omega) (by simpa using h)⟩
theorem zo5{α C:Type}{cs:List α}{D:α->ae}{G:C->ae}{P:α->List C->Prop}{I:qD->Nat->Prop}(m:Nat)(hP:∀b us,P b us->dP us<=m)
  (step:∀b∈cs,∀(acc:qD) (K:qD->Nat->Prop) (X:Nat->Prop),dP acc<=m*dP cs->(∀us,P b us->K (acc++us.map G) n)->tg (D b) ρ0 λu=>tt u n λc v=>if c=bj then di2 u v λts n3=>JW tg2 tt2 d u ts acc n3 K else X v)
  (fin:∀o:List (List C),dP o=dP cs->(∀(i:Nat) b us,cs[i]?=ai b->o[i]?=ai us->P b us)->I (o.flatten.map G) n):Uz tg tt di2 tg2 tt2 d ρ0 (cs.map D) [] n I:=by
 have key:∀(xs:List α) (acc:qD) (R:qD->Nat->Prop),(∀x∈xs,x∈cs)->dP acc+m*dP xs<=m*dP cs->(∀o:List (List C),dP o=dP xs->(∀(i:Nat) b us,xs[i]?=ai b->o[i]?=ai us->P b us)->R (acc++o.flatten.map G) n)->Uz tg tt di2 tg2 tt2 d ρ0 (xs.map D) acc n R:=by
  intro xs;induction xs with
  | nil =>
   intro acc R _ _ h;have h:R acc n:=by simpa using h [] rfl (λi b us e=>by simp at e)
   exact h
  | cons x xs Z =>
   intro acc R hx U h;have N:dP acc+(m*dP xs+m)<=m*dP cs:=U;refine step x (hx x (hH _)) acc _ (λv=>Uz tg tt di2 tg2 tt2 d ρ0 (xs.map D) acc v R) (by omega) λus J=>?_;refine Z (acc++us.map G) R (λy Y=>hx y (io _ Y)) (by have:=hP x us J;simp;omega) λo S pw=>?_;have:=h (us::o) (by simp[S]) λi b vs L ev=>by
    cases i with
    | zero=>cases L;cases ev;exact J
    | succ i=>exact pw i b vs L ev
   simpa[dZ] using this
 exact key cs [] I (λ_ h=>h) (by simp) (by simpa using fin)
end
end L2
namespace L2
open PySem PySem.Spec PyProof.Rows
def ndup:List Str->Bool
 | []=>true
 | x::l=>!l.any (λy=>decide (x=y))&&ndup l
theorem ndB{l:List Str}(h:ndup l=bj):l.Nodup:=by
 induction l with
 | nil=>exact mL
 | cons x l o =>simp only[ndup,bT,g7,i9,decide_eq_true_eq]at h;exact cz.mpr ⟨λm=>h.1 x m rfl,o h.2⟩
def fnB(N P:List Str)(sc:fv):Bool:=(match sc.kind with|ir=>bj|_=>bA)&&!sc.isCoroutine&&!sc.isGenerator&&ndup N&&decide (N.take (dP P)=P)&&P.all (λx=>decide (sc.names.lookup x=ai .local\/sc.names.lookup x=ai kY))&&sc.names.all λy=>decide (y.2≠cB)
theorem fnS{N P:List Str}{sc:fv}(h:fnB N P sc=bj):Uy N P sc:=by simp only[fnB,bT,g7,decide_eq_true_eq,cJ]at h;obtain⟨⟨⟨⟨⟨⟨a,b⟩,c⟩,d⟩,e⟩,f⟩,g⟩:=h;exact⟨(by cases q:sc.kind <;> rw[q]at a <;> first|rfl|(exact nomatch a)),b,c,ndB d,e,f,g⟩
section
variable{X:Cx}{x:Str}{e:aX}{es:List aX}{d:DTE}{ds:DTA}{pos pos':Pos}
theorem dlv(i:Nat)(o:X.N[i]?=ai x:=by rfl)(u:Vis (cu X.env) x:=by walk_at "V")(hd:Ndb x:=by rfl)
  (l:Ncd x:=by rfl):DL X (bn x pos) (dVar i):=dl (Jh i o u hd l)
theorem dli{i j}:DL X (i3 (.int i) j pos) (dC (b5 i)):=dl Jg
theorem dbc(h:DE X e d)(l:DB X es ds)(o:starEach (e::es) X.env=(bA,eval e X.env)::starEach es X.env:=by rfl):DB X (e::es) (Qa d ds):=zoV h l o
theorem dbv(i:Nat)(o:DB X es ds)(u:X.N[i]?=ai x:=by rfl)(v:Vis (cu X.env) x:=by walk_at "V")(hd:Ndb x:=by rfl)
  (l:Ncd x:=by rfl):DB X (bn x pos::es) (Qa (dVar i) ds):=zoV (Jh i u v hd l) o rfl
theorem dsv(i:Nat)(l:X.N.Nodup)(h:DE X e d)(hi:X.N[i]?=ai x:=by rfl)(hx:Loc (cu X.env) x:=by first|exact fj rfl|exact xw rfl)(o:swapsWith e (ai (bn x pos')) pos.line X.env=pure bA:=by rfl)
  (hf:Fnl X x:=by walk_at "F"):DS X (h6 [bn x pos'] e pos) (sSet i d):=zxt l hi hx h o hf
theorem dgv(i:Nat)(l:X.N.Nodup)(hi:X.N[i]?=ai x:=by rfl)(hx:Loc (cu X.env) x:=by first|exact fj rfl|exact xw rfl)(hf:Fnl X x:=by walk_at "F"):DG X (bn x pos) [i] (JY i):=ztU l hi hx hf
variable{scope:fv}{iter elt:aX}{ifs:List aX}{tg:aX}{is:List Nat}{di:DTA}{g:DTG}{tt:DTT}{te:DTE}
theorem dnc(own:List Str)(capt:List Nat)(hi:DIL X tg iter di)(u:Fam X scope own capt λY=>DG Y tg is g)(he:Fam X scope own capt λY=>DE Y elt te)
  (hc:X.calm=bj:=by rfl) (h:WD scope (cu X.env) X.N capt=bj:=by rfl) (l:∀i∈is,i<dP own:=by decide) (v:Fsi X iter:=by intro _;rfl):DN X (im elt [⟨tg,iter,[],0⟩] scope pos) (dComp (dP own) capt di g dYes te) :=
 zoI hc (Jv.of h) hi u l (λ_ _ _ _=>QV) he v
theorem dnf(own:List Str)(capt:List Nat)(hi:DIL X tg iter di)(u:Fam X scope own capt λY=>DG Y tg is g)(v:Fam X scope own capt λY=>DTs Y ifs tt)(he:Fam X scope own capt λY=>DE Y elt te)
  (hc:X.calm=bj:=by rfl) (h:WD scope (cu X.env) X.N capt=bj:=by rfl) (l:∀i∈is,i<dP own:=by decide) (x:Fsi X iter:=by intro _;rfl):DN X (im elt [⟨tg,iter,ifs,0⟩] scope pos) (dComp (dP own) capt di g tt te) :=
 zoI hc (Jv.of h) hi u l v he x
end
end L2
namespace Bd
open PySem PySem.W PySem.Calls L2 PyProof.Rows
theorem okN{Z:ZZ}{x:Str}{st:eW}{ps:List Str}{k m:Nat}{g:GD}(N:List Str)(D:Dq Z.K Z.mg x st ps)
  (u:∀{f:aq} {l:ah} {A:bq} {outer:List Env} {s:au} {H:Hp} {E:XK},Room k (A.deeper (envOfC x (JI st) s.heap.objs.size f l))->∃d,DSs (cxOf CX0 Z.P Z.w Z.K Z.mg Z.base N x (JI st) f l A outer s H E).nox (J9 st) d /\
   ∀ts n R,dP ts=m->g ts n R->d { nx:=λ_ v=>R oK v,rt:=R } (JX N ts) n) (S:fnB N ps (JI st)=bj:=by decide +kernel) (G:m=dP ps:=by rfl):FQ Z x st ps (k+1) (spD Z.K m g):=okQ D (fnS S) G λ_ _ _ _ _ _ _ C=>u C
end Bd
namespace Bd
open PySem PySem.W PySem.Calls L2 PyProof.Rows
abbrev PLs:=List (Str×List (Str×List Str))
abbrev FLs:=List (Str×List Str)
end Bd
namespace L2
open PySem PySem.Spec PyProof.Rows
theorem zkf{X:Cx}{st:eW}:DS X st (λ_ _ _=>False):=⟨_,zp_,λ_ _ _ _ _ _ _ _ h _=>eJ h⟩
end L2
namespace Bd
open PySem PySem.W PySem.Calls L2 PyProof.Rows
def Vq(o:String->Option cI)(p:aL)(w:aV)(l:Nat)(ann:Option ah):Nat->xF->Thread->Option xF
 | 0,_,_=>ao
 | n+1,s,t=>match through t with
  | true=>ai s
  | false=>match stepOk l ann t with
   | false=>ao
   | true=>match stepT (denote o) p w s t with
    | some (s',t')=>Vq o p w l ann n s' t'
    | none=>ao
theorem zgp{o:String->Option cI}{p:aL}{w:aV}{l:Nat}{ann:Option ah}:∀{n:Nat}{s s':xF}{t:Thread},Vq o p w l ann n s t=ai s'->topRun o p w l ann n s.abs t=ai s'.abs
 | 0,_,_,_,h=>by cases h
 | n+1,s,s',t,h=>by
  unfold Vq at h;unfold topRun;cases he:through t with
  | true=>rw[he]at h;cases h;rfl
  | false =>
   rw[he]at h;cases hk:stepOk l ann t with
   | false=>rw[hk]at h;cases h
   | true =>
    rw[hk]at h;cases hs:stepT (denote o) p w s t with
    | none=>rw[hs]at h;cases h
    | some r=>obtain⟨u,v⟩:=r;rw[hs]at h;dsimp only at h ⊢;rw[stepT_spec hs];exact zgp h
def zrI:List Obj->Nat->BT->BT
 | [],_,t=>t
 | o::r,i,t=>zrI r (i+1) (t.ins i o)
noncomputable def zt_ (P:uq):BT:=zrI (eQ P).objs.toList 0 .nil
noncomputable def zua (w:aV) (os:dW):xF:=⟨zt_ w.params,11,(eQ w.params).life,#[],nX,pF,os⟩
theorem boot_abs(P:uq):absHeap (zt_ P) 11 (eQ P).life=eQ P:=by kernel_rfl
theorem zpi(P:uq):(eQ P).objs.size=11:=by kernel_rfl
theorem zt9(P:uq):(eQ P).isNs mainGlobals=bj:=by kernel_rfl
def V1(p:aL)(h₀:bh)(l:au):Bool:=staticsOk (importedModules p.main.body) h₀ l.heap&&namesBound p l.heap&&gensDone l&&laidKept h₀ l.heap
theorem zob{p q:aL}{loose:List Str}{u:au->Bool}{α:Type}{x:au->α}{o:aV->α}{N:Nat}(e:opening p=plainProg (ce p.main.scope))(R:Nat.ble 600 N=bj)(S:∀s,fenceModules? p s=ai s)
  (run:∀(w:aV) (os:dW),(Vq treeTable p w 11 ((eQ w.params).nsMap mainGlobals "__annotations__") N (zua w os) (topStub p)).map (λs=>(V1 p (eQ w.params) s.abs,openSeen q loose (importedModules p.main.body) u bj s.abs,x s.abs))=ai (bj,openGood q loose,o w)) :
  LeftO p q loose u x o N bj:=λw=>by
 obtain⟨⟨h,U,d,k,os⟩,C,L⟩:=c8.mp (boot_open e R S w);obtain⟨rfl,rfl,rfl,rfl⟩:h=eQ w.params/\U=#[]/\d=nX/\k=pF:=by simpa using L
 obtain⟨v,r,l⟩:=c8.mp (run w os);have I:(zua w os).abs=⟨eQ w.params,#[],nX,pF,os⟩:=by show(⟨absHeap (zt_ w.params) 11 (eQ w.params).life,#[],nX,pF,os⟩:au)=_;rw[boot_abs]
 have r:=zgp r;rw[I]at r;obtain⟨G,l2⟩:=oX l;obtain⟨l2,J⟩:=oX l2;have t:topFrom treeTable p w N ⟨eQ w.params,#[],nX,pF,os⟩=ai v.abs:=by unfold topFrom;dsimp only;rw[zt9,zpi,r];show(match V1 p (eQ w.params) v.abs with|true=>_|false=>_)=_;rw[G]
 unfold openEnds;rw[C];show(topFrom treeTable p w N _).map _=_;rw[t];exact congrArg ai (dD l2 J)
theorem zvZ{α T1 T2 T3 T4 T5 T6 T7 T8 T9 G I:Type}{o:Option α}{f1:α->T1}{f2:α->T2}{J:α->T3}{f4:α->T4}{L:α->T5}{R:α->T6}{N:α->T7}{f8:α->T8}{S:α->T9}{l:α->G}{u:α->I}{v1:T1}{Z:T2}{U:T3}{v4:T4}{v5:T5}{v6:T6}{v7:T7}{v8:T8}{Y:T9}{v:G}{C:I}
  (ha:o.map (λs=>(f1 s,u s,J s,f8 s,l s,R s))=ai (v1,C,U,v8,v,v6)) (hb:o.map f2=ai Z) (hc:o.map f4=ai v4) (hd:o.map L=ai v5) (he:o.map N=ai v7) (hf:o.map S=ai Y) :
  o.map (λs=>(f1 s,(f2 s,J s,f4 s,L s,R s,N s,f8 s,S s,l s),u s))=ai (v1,(Z,U,v4,v5,v6,v7,v8,Y,v),C):=by
 cases o with
 | none=>cases hc
 | some x =>have a:(f1 x,u x,J x,f8 x,l x,R x)=(v1,C,U,v8,v,v6):=aG ha;have b:f2 x=Z:=aG hb;have e:N x=v7:=aG he;have f:S x=Y:=aG hf;have c:f4 x=v4:=aG hc;have d:L x=v5:=aG hd;simp only[pR]at a;show ai (f1 x,(f2 x,J x,f4 x,L x,R x,N x,f8 x,S x,l x),u x)=_;rw[a.1,a.2.1,a.2.2.1,a.2.2.2.1,a.2.2.2.2.1,a.2.2.2.2.2,b,c,d,e,f]
theorem znh{w:aV}{P:aV->Prop}(row:String)(h0:∀w:aV,P (w.withFollow row bA))(l:∀w:aV,P (w.withFollow row bj)):P w:=by have e:=World.withFollow_self w row;cases hb:w.params.followText row <;> rw[hb]at e;rw[<- e];exact h0 w;rw[<- e];exact l w
end Bd
namespace L2
open PySem PySem.Spec PyProof.Rows
abbrev GX:=List ae->Nat->qN->(Str->Nat->Prop)->Prop
end L2
namespace L2
open PySem PySem.Spec PyProof PyProof.Rows
theorem zpj:bootBuiltins "abs" = ai (b4 "abs"):=by decide +kernel
section
abbrev FB:=Int×(Int×Int)
variable{X:Cx}{e1 e2:aX}{x:Str}{pos:Pos}{d1 d2:DTE}
def zux(K:qF)(tk G:TE):TE:=λσ H Q=>∀p,H p=ao->∀ep,tk σ (upd H p (ZDO p [] ep)) λy C=>G σ C λv o=>∃l k b,y=.ref b/\o p=ai (ZDO p [] l)/\SqT K o b [.int k.1,.int k.2]/\∀u,Q (.ref p) (upd o p (ZDO p (zput [] k b v) u))
theorem zqd{tk G:TE}(hu:X.A.units+1<cLine)(hk:PE X e1 tk)(hv:PE X e2 G):PE X (jA [ai e1] [e2] pos) (zux X.K tk G):=by intro pins s σ H Q I h;have L:(ap s.heap.objs == sysModules)=bA:=beq_eq_false_iff_ne.mpr (dG (aO I.big));obtain⟨ep,ok⟩:=YF (X:=X) (H':=H) (zs:=[]) L (dw _) ja (kT s.heap);rw[arm_eval_Dict,zip_pairTrees [ai e1] [e2] X.env pos rfl rfl,dictDisplay_pairs _ (by simp[pairTrees]) (by simp[pairTrees])];refine aa (eR (aa ?_));unfold subDict;refine aa (tw ?_);refine aa (bO ?_);rw[if_pos (by simp[pairTrees])];have I0:=I.laid (a:=ap s.heap.objs) (o:=ZDO s.heap.objs.size [] ep) (t':=dn s) (h':=dL s.heap { cls:=aY "dict",data:=jk #[] }) (λ_ _ q=>aj _ q) (av _) ok;refine aa (pairTrees_cons_walk (thn (hk pins _ σ _ _ I0 (h _ (I.hok.fresh (av _)) ep)) λu s1 Z=>?_));obtain⟨y,R,I1,ry,q1⟩:=Z;refine thn (hv pins s1 σ R _ I1 q1) λw2 s2 S=>pairTrees_nil_walk ?_;obtain⟨v,H2,U,rv,J,k,b,rfl,hp,sq,Y⟩:=S;cases ry;refine bO (aa ?_);rw[iU];refine aa (aa (zhP hu U hp (λz hz=>nomatch hz) sq (by rw[bX,mK];decide) rv λs' C N=>af ?_));dsimp only;rw[hZ];exact af (af (af (af ⟨.ref s.heap.objs.size,_,N,rfl,Y C⟩)))
def zro(i:Nat)(o C:DTE):DTS:=λD l n=>o l n λy u=>C l u λt v=>lBlk y λk=>lInt t λj=>D.nx (cr l i (ai (.dtt [(k,b5 j)]))) v
theorem zqS{i:Nat}{I dp:Pos}(hu:X.A.units+1<cLine)(hN:X.N.Nodup)(hi:X.N[i]?=ai x)(hx:Loc (cu X.env) x)(h1:DE X e1 d1)(h2:DE X e2 d2)(hs:swapsWith (jA [ai e1] [e2] dp) (ai (bn x I)) pos.line X.env=pure bA:=by rfl)(hf:Fnl X x:=by walk_at "F") :
  DS X (h6 [bn x I] (jA [ai e1] [e2] dp) pos) (zro i d1 d2):=by
 obtain⟨t1,pa1,h1⟩:=h1;obtain⟨t2,pa2,h2⟩:=h2;refine⟨_,QK hN hi hx (zqd hu pa1 pa2) hs hf,λC Z σ H n D D' S hd g=>?_⟩;intro p R ep;have e0:ExtE C.hd H (upd H p (ZDO p [] ep)):=ExtE.new R;have S0:=S.on e0 (S.hnd.same (JS R));have L:C.hd≠ai p:=λz=>S.dom (fj (S.hx p z)) R;refine h1 C Z σ _ n _ _ S0 hd λy n1 w H1 r e1 hn1 q1=>?_;have S1:=S0.on e1 hn1;refine h2 C Z σ H1 n1 _ _ S1 r λt n2 v Y r e2 hn2 q2=>?_;obtain⟨k,rfl,r⟩:=r;obtain⟨j,rfl,r⟩:∃j,t=b5 j/\D'.nx (cr Z i (ai (.dtt [(k,b5 j)]))) n2:=by cases t <;> first|exact⟨_,rfl,r⟩|exact eJ r
 have q1:=e2.rep S.hx q1;have J:Y p=ai (ZDO p [] ep):=e2 _ _ (e1 _ _ JJ L) L;obtain⟨b,rfl,sb⟩:=q1.bkI;refine⟨ep,k,b,rfl,J,sb,λG=>?_⟩;rw[q2.intI];have e3:ExtE C.hd H (upd Y p (ZDO p (zput [] k b (.int j)) G)):=ExtE.updR R ((e0.trans e1).trans e2);have hn3:Hn X.K C.hd (upd Y p (ZDO p (zput [] k b (.int j)) G)) n2:=Hn.updR L (xw (xw ⟨_,J⟩)) hn2;have rb:Rep X.K C.hd (λa=>Own C Z σ a\/a=p) (upd Y p (ZDO p (zput [] k b (.int j)) G)) (.ref b) (fX [b5 k.1,b5 k.2]):=by
  have U:∀{O:aq->Prop} {H':Hp} {vs:List V},Reps X.K C.hd (Own C Z σ) Y vs [b5 k.1,b5 k.2]->Reps X.K C.hd O H' vs [b5 k.1,b5 k.2]:=λr=>by
   cases r with
   | cons a r=>cases r with
    | cons b r =>cases r;rw[a.intI,b.intI];exact .cons (.int _) (.cons (.int _) .nil)
  cases q1 with
  | @tup a vs ds h o r =>
   have ne:b≠p:=λz=>by rw[z,J]at h;cases h
   exact .tup (by rw[Jo ne];exact h) (λz=>ii z o ne) (U r)
  | tupS h r=>exact .tupS h (U r)
 exact g.nx _ _ _ n2 r (S.putNew e3 hn3 R ⟨_,G,JJ,.cons rb (.int j) .nil⟩) (zdp e3 R)
variable{D:JN}{ρ:En}{n i:Nat}{dk dv:DTE}
instance zyQ:Stp (zro i dk dv D ρ n) (dk ρ n λy n1=>dv ρ n1 λt n2=>lBlk y λk=>lInt t λj=>SetK i (ai (.dtt [(k,b5 j)])) D.nx ρ n2):=⟨λh=>h⟩
end
open PySem.SeqAt in
theorem zlw(l:aq)(L J x:ah)(n:Nat)(S:Option aq)(U:Array (Option ah))(u I:Bool)(v:u=bj\/I=bj):Meets (cI.«tuple.index» ⟨[aZ l,x],[]⟩)
  (λA R s=>be s.heap l=ai { cls:=aY "tuple",dict:=S,data:=f9 #[L,J] n,slots:=U }/\EqAt A.in1 s L x u/\EqAt A.in1 s J x I/\R (.ok (Ag (m6 (if u then 0 else 1) s.toks))) { s with toks:=dn s+1 }):=by
 intro prog w A R s h;obtain⟨Y,g,d,tk,os⟩:=s;obtain⟨N,G,C,h⟩:=h;unfold cI.«tuple.index»;simp only[o6,yi];wp_walk using nZ N;simp only[aD,aH,bX,rP,eS,Nat.reduceAdd,ku,mh,Nat.div_one,List.range',Nat.reduceSub,Nat.reduceDiv];unfold sX;refine aa (aa (G prog w _ _ ?_));cases u with
 | true =>wp_walk;exact h
 | false =>
  simp only[aJ,if_false];refine af ?_;dsimp only;unfold sX;refine aa (aa (C prog w _ _ ?_));cases I with
  | true =>wp_walk;exact h
  | false=>rcases v with h|h <;> cases h
section
variable{X:Cx}{a b:aX}{da db:DTE}
theorem zn0:MtR X "tuple.index" (λx xs H Q=>∃(l:aq) (i j:Int),x=.ref l/\xs=[.int 0]/\SqT X.K H l [.int i,.int j]/\(i=0\/j=0)/\Q (.int (if i=0 then 0 else 1)) H):=by
 intro pins s σ H x xs v us Q I S rs h;obtain⟨l,i,j,rfl,rfl,J,Z,q⟩:=h;cases S;cases rs with
 | cons G L =>
  cases L;obtain⟨t,rfl⟩:=G;obtain⟨its,o,p,Y⟩:=I.tuple J;cases o with
  | cons a o=>cases o with
   | cons b o =>
    cases o;obtain⟨N,rfl⟩:=a;obtain⟨C,rfl⟩:=b;obtain⟨⟨cls,R,data,U⟩,u,hc,n,hd⟩:=id p;simp only at hc hd;subst hc hd;have e:(if decide (i=0)=bj then(0:Int) else 1)=if i=0 then 0 else 1:=by simp
    refine lW m5 ⟨_,u,rfl⟩ PySem.F.entry_tuple_index (PySem.F.args_tuple_index_2 _ _) (zlw l _ _ _ n R U (decide (i=0)) (decide (j=0)) (by simpa using Z)) ⟨u,(o7 i 0 N t).at _ _,(o7 j 0 C t).at _ _,?_⟩;rw[e];exact⟨.int _,H,I.tok _,⟨_,rfl⟩,q⟩
def tyT(K:qF)(x:V)(H:Hp):Prop:=∃p vs,x=.ref p/\(H p=ai (.tup vs)\/StT K p vs)
theorem zri{pins:qO}{σ:St}{H:Hp}{s:au}{x:V}{v:ah}(I:Inv X pins σ H s)(r:RelV x v)(ty:tyT X.K x H):s.TypeIs v "tuple" /\ ∀a,v=aZ a->∃l,be s.heap a=ai l/\l.dict=ao:=by
 obtain⟨p,vs,rfl,ty⟩:=ty;cases r;have z:∃o,be s.heap p=ai o/\jg o=aY "tuple" /\ o.dict=ao:=by rcases ty with h|⟨o,its,n,C,u,L,J,N,G⟩;obtain⟨_,its,_,o,e,c,_,d⟩:=I.hok p _ h;exact⟨o,e,c,d⟩;exact⟨o,I.kIn p o C,u,G⟩
 obtain⟨o,e,c,d⟩:=z;exact⟨⟨o,e,c⟩,λa q=>by cases q;exact⟨o,e,d⟩⟩
def tBMT(K:qF)(r:V->List V->Hp->VK->Prop)(to:TE)(t:TA):TE:=λσ H Q=>to σ H λx l=>tyT K x l/\t σ l λxs o=>r x xs o Q
theorem zvx{o e:aX}{es:List aX}{to:TE}{t:TA}{name:Str}{apos G:Pos}{id:String}{r:V->List V->Hp->VK->Prop}(slot:Bs "tuple" name id) (L:typeOf (b4 id)=pure (aY "method_descriptor")) (hm:MtR X id r) (ho:PE X o to) (ha:PA X (e::es) t)
  (Nn:attributeBase o name X.env (eval o X.env)=eval o X.env)
  (N4:((backTo G (starEach (e::es) X.env)).all (λx=>!x.1)&&(backToKw G (keywordEach [] X.env)).all (λx=>eA x.1)
   && decide (dP (e::es)+dP ([]:List fR)+(if dy ([]:List fR) then 0 else 1)<30))=bj)
  (Np:(apos.endLine == ib G)=bj) (hs:starEach (e::es) X.env=(bA,eval e X.env)::starEach es X.env) (OA:(backTo G (starEach es X.env)).any (·.1)=bA) :
  PE X (ee (h7 o name apos) (e::es) [] G) (tBMT X.K r to t):=by
 intro pins s σ H Q I h;refine nL Nn N4 Np rfl (thn (ho pins s σ H _ I h) λv s1 J=>?_);obtain⟨x,U,S,N,ty,q1⟩:=J;obtain⟨h1,Z⟩:=zri S N ty;refine⟨"tuple",id,PySem.F.plainAttrs_tuple,slot,L,h1,Z,?_⟩;have R:=ha G pins s1 σ U _ S q1;rw[hs]at R ⊢;refine kh (by show(bA||(backTo G (starEach es X.env)).any (·.1))=bA;rw[OA] <;> rfl) (oJ ?_);exact thn R λus s2 ⟨vs,H2,Y,r2,q2⟩=>hm pins s2 σ H2 x vs v us Q Y N r2 q2
def zoX(da db:DTE):DTE:=λo n R=>da o n λt v=>∃i j:Int,t=fX [b5 i,b5 j]/\db o v λy x=>y=b5 0/\(i=0\/j=0)/\R (b5 (if i=0 then 0 else 1)) x
theorem zoS{p2 p3:Pos}(h:DE X a da)(h':DE X b db)(G:starEach [b] X.env=[(bA,eval b X.env)]:=by rfl)(Nn:attributeBase a "index" X.env (eval a X.env)=eval a X.env:=by rfl)
  (N4:((backTo p3 (starEach [b] X.env)).all (λx=>!x.1)&&(backToKw p3 (keywordEach [] X.env)).all (λx=>eA x.1)
   && decide ([b].length+dP ([]:List fR)+(if dy ([]:List fR) then 0 else 1)<30))=bj:=by rfl)
  (Np:(p2.endLine == ib p3)=bj:=by rfl) (L:(backTo p3 (starEach ([]:List aX) X.env)).any (·.1)=bA:=by rfl):DE X (ee (h7 a "index" p2) [b] [] p3) (zoX da db):=by
 obtain⟨ta,pa,h⟩:=h;obtain⟨tb,pb,h'⟩:=h';refine⟨_,zvx m5 PySem.F.type_tuple_index zn0 pa (Qu pb QI G) Nn N4 Np G L,λC ρ σ H n Q R S hd hq=>?_⟩;refine h C ρ σ H n _ _ S hd λt n1 v Z r e1 h1 U=>?_;obtain⟨i,j,rfl,r⟩:=r;have S1:=S.on e1 h1;obtain⟨p,rfl,sq⟩:=U.bkI;have ty:tyT X.K (.ref p) Z:=by
  cases U with
  | tup h o r=>exact⟨_,_,rfl,fj h⟩
  | tupS h r=>exact⟨_,_,rfl,xw h⟩
 refine⟨ty,h' C ρ σ Z n1 _ _ S1 r λy n2 w H2 J e2 Y q2=>?_⟩;obtain⟨rfl,hk,J⟩:=J;obtain⟨p',e',N⟩:=(e2.rep S.hx U).bkI;cases e';have ew:=q2.intI;subst ew;exact⟨p,i,j,rfl,rfl,N,hk,hq _ n2 _ H2 J (e1.trans e2) Y (.int _)⟩
instance zyf {ρ:En}{n:Nat}{R:qN}:Stp (zoX da db ρ n R) (da ρ n λt n1=>∃i j:Int,t=fX [b5 i,b5 j]/\db ρ n1 λy n2=>y=b5 0/\(i=0\/j=0)/\R (b5 (if i=0 then 0 else 1)) n2):=⟨λh=>h⟩
end
section
variable{prog:aL}{w:aV}{A:bq}{E:qV}{s:au}
theorem zmL(R:A.handled=ao)(it d:aq)(u:it≠d)(es:Array fy)(ep:Nat):Walks prog w A it [it,d] [it] es.size (λi v=>∃e,es[i]?=ai e/\v=e.key) (λi h=>h.IsKeyIter it d i es.size ep/\Yg h d es ep) where
 sub:=by simp
 frame:=λi h h' ⟨⟨o,e,r⟩,⟨I,S,L⟩⟩ k=>⟨⟨o,k it (by simp) o e,r⟩,⟨I,k d (by simp) I S,L⟩⟩
 item:=λi s Q E hi ⟨st,l⟩ G=>by have hx:es[i]?=ai es[i]:=bZ hi;refine zig st l hx λh' C J=>G _ h' s.toks ⟨_,hx,rfl⟩ ⟨C,?_⟩ λb o x e=>b3 (J.2 b (by simpa using x)) e;obtain⟨o,e,r⟩:=l;exact⟨o,b3 (J.2 d u.symm) e,r⟩
 done:=λs Q E ⟨st,l⟩ G=>zkJ R st l (av _) λh' N=>G h' s.toks λb o x e=>N b o (by simpa using x) e
 self:=λi s Q E st h=>oZ st.1 h
theorem ztj{d:aq}{es:Array fy}{ep:Nat}(lo:(d == sysModules)=bA):PySem.W.KdlSrc prog w "dict" d d es.size (λi v=>∃e,es[i]?=ai e/\v=e.key) (λh=>Yg h d es ep) where
 type:=λ_ ⟨o,e,x,_⟩=>⟨o,e,x.1⟩
 there:=λ_ ⟨o,e,_⟩=>⟨aB e,aB e⟩
 keep:=λ_ _ ⟨o,e,r⟩ G=>⟨o,G d (fj rfl) o e,r⟩
 notList:=by decide
 notTuple:=by decide
 hint:=λ_ _ _ _ ⟨o,e,x,_⟩ u=>PySem.W.kdl_hint_dict ⟨o,e,x.1⟩ u
 iter:=λ_ _ I C=>⟨_,_,(λ_ _ u=>zif lo C u),zmL I _ d (by obtain⟨o,e,_⟩:=C;exact(aO (aB e)).symm) es ep,⟨⟨_,aA _ rfl,rfl,rfl⟩,by obtain⟨o,e,r⟩:=C;exact⟨o,aj _ e,r⟩⟩⟩
end
section
variable{X:Cx}{e:aX}{d:DTE}{p pos:Pos}
theorem zmu(hc:X.calm=bj):JK X (aY "list") (λxs H Q=>∃(p:aq) (zs:ZT) (ep:Nat),xs=[.ref p]/\H p=ai (ZDO p zs ep)/\∀l,H l=ao->Q (.ref l) (upd H l (.lst (zs.map λz=>V.ref z.2.1)))):=by
 intro pins s σ H xs us Q I r h;obtain⟨p,zs,ep,rfl,U,q⟩:=h;obtain⟨u,rfl,ru⟩:=r.one;cases(show u=aZ p from ru);obtain⟨⟨S,L,nd,o,es,g1,g2,g3,pr⟩,_⟩:=I.hok p _ U;have J:ap es=dP zs:=by have:=cV pr;simpa using bv this
 refine PySem.W.kdl_call (ztj (es:=es) (ep:=ep) S) (I.ok.hd hc) ⟨o,g1,g2,g3⟩ (by rw[J];exact L) λh' tk acc c kp Z G=>?_;refine⟨.ref s.heap.objs.size,_,I.laid (a:=ap s.heap.objs) (o:=.lst _) (t':=tk) kp (av _) ⟨?_,w9 acc,c,?_,by rw[ly];exact Z⟩,rfl,q _ (I.hok.fresh (av _))⟩;rw[aI];exact L;obtain⟨Y,R⟩:=G;refine zis (P:=λ(x:V) (v:ah)=>RelV x v) (l:=zs.map λz=>V.ref z.2.1) (m:=w9 acc) (by rw[aI];exact(b3 cg (b3 Y J)).symm) λj i v hi N=>?_;rw[cM]at N;obtain⟨e,he,rfl⟩:=R j v N;rw[aT]at hi;obtain⟨z,hz,rfl⟩:=c8.mp hi;obtain⟨e',C,ke⟩:=zoE pr hz;rw[cM,he]at C;cases C;rw[ke];rfl
theorem Jn.keysR{K:qF}{hd:Option aq}{O:aq->Prop}{H:Hp}{zs:ZT}{ks:KT2}(r:Jn K hd O H zs ks):Reps K hd O H (zs.map λz=>V.ref z.2.1) (ks.map λq=>blkT q.1):=by
 have e:∀{zs:ZT} {ks:KT2},Jn K hd O H zs ks->Reps K hd O H (zs.map λ(z:(Int×Int)×aq×V)=>V.ref z.2.1) (ks.map λ(q:(Int×Int)×ae)=>blkT q.1):=λ{zs ks} r=>by refine Jn.ind (P:=λ(zs:ZT) (ks:KT2)=>Reps K hd O H (zs.map λ(z:(Int×Int)×aq×V)=>V.ref z.2.1) (ks.map λ(q:(Int×Int)×ae)=>blkT q.1)) .nil (λh _ _ i=>?_) r;exact .cons h i
 exact e r
def zr5(d:DTE):DTA:=λl n R=>d l n λt o=>∃ks:KT2,t=tD (Js ks)/\R (ks.map λq=>blkT q.1) o
theorem zqW(hc:X.calm=bj)(Y:X.mg "list" = ao) (h:DE X e d) (hs:starEach [e] X.env=[(bA,eval e X.env)]:=by rfl) (U:Gl X "list":=by rfl):DN X (ee (bn "list" p) [e] [] pos) (zr5 d):=by obtain⟨ta,pa,h⟩:=h;refine⟨_,zsQ (zmu hc) Y (by decide +kernel) (Qv pa Ua hs) U,λC Z σ H n Q R S hd L=>?_⟩;refine h C Z σ H n _ _ S hd λt n1 v H1 G I J q1=>?_;obtain⟨ks,rfl,G⟩:=G;obtain⟨a,zs,ep,rfl,ha,no,rk⟩:=q1.dtI;refine⟨a,zs,ep,rfl,ha,λl u=>?_⟩;refine L _ n1 l _ _ G (I.trans (ExtE.new u)) (J.same (JS u)) (Y9 I J u) JJ (rk.keysR.mono (λb o x z=>ii z id λz=>?_) λb o _ x=>JS u b o x);subst z;rw[u]at x;cases x
instance zyS {ρ:En}{n:Nat}{Rl:qD->Nat->Prop}:Stp (zr5 d ρ n Rl) (d ρ n λt n1=>∃ks:KT2,t=tD (Js ks)/\Rl (ks.map λq=>blkT q.1) n1):=⟨λh=>h⟩
end
section
variable{bits:Int}{ps:BL}{qs:PR}{b v:Int×Int}
theorem PrOk.kids(h:PrOk bits ps qs)(m:(b,v)∈qs)(p:Prt ps b):∃x y,valP qs (loH b)=ai x/\valP qs (upH b)=ai y/\v=(if x.2+y.2+1<x.1+y.1 then x.2+y.2+1 else x.1+y.1,if x.1+y.1+1<x.2+y.2 then x.1+y.1+1 else x.2+y.2):=by
 have k:=h.rgt (b,v) m bA bA ⟨λz=>(nomatch z),λz=>absurd z p.1⟩ ⟨λz=>(nomatch z),λz=>absurd z p.2⟩;unfold bpD at k;dsimp only at k;cases e1:valP qs (loH b) with
 | none=>rw[e1]at k;cases k
 | some x =>
  cases e2:valP qs (upH b) with
  | none=>rw[e1,e2]at k;cases k
  | some y =>rw[e1,e2]at k;exact⟨x,y,rfl,rfl,bv (aG k)⟩
theorem PrOk.leaf(h:PrOk bits ps qs)(m:(b,v)∈qs)(p:¬Prt ps b):(HasN ps b/\v=(0,1))\/(¬HasN ps b/\HasA ps b/\v=(1,0)):=by
 classical
 have k:=h.rgt (b,v) m (decide (HasN ps b)) (decide (HasA ps b)) (by rw[decide_eq_true_eq]) (by rw[decide_eq_true_eq]);unfold bpD at k;by_cases hn:HasN ps b;rw[decide_eq_true hn]at k;exact fj ⟨hn,bv (aG k)⟩;have o:HasA ps b:=bg λz=>p ⟨hn,z⟩;rw[decide_eq_false hn,decide_eq_true o]at k;exact xw ⟨hn,o,bv (aG k)⟩
theorem PrOk.mem(h:PrOk bits ps qs):∃bs:BL,PInv bits ps bs (dP bs)/\qs.map (·.1)=fm bs:=by obtain⟨bs,I,J⟩:=h;exact⟨bs,I,by rw[J.keys,<- fk,cZ]⟩
theorem PrOk.nokid(h:PrOk bits ps qs)(m:(b,v)∈qs)(p:¬Prt ps b)(u:1<=b.2):valP qs (loH b)=ao:=by
 obtain⟨bs,I,e⟩:=h.mem;have B:=h.bk _ m;cases k:valP qs (loH b) with
 | none=>rfl
 | some x =>
  have G:loH b∈bs:=by have:=gn (f:=(·.1)) (UF k);rw[e]at this;exact iB.mp this
  rcases I.par _ G with z|⟨j,c,J,hc,pc,z⟩;have:=congrArg Ae z;have o:=B.2.1;dsimp only at this o;lia;have C:=I.bk _ (aC hc);have eq:=zk7 B C u (pc.pos C) (fj rfl) z;rw[<- eq]at pc;exact absurd pc p
end
def sgn(a:Int)(x y:Int×Int):Int:=if a=0 then(if x.1+y.1<=x.2+y.2+1 then 0 else 1) else(if x.2+y.2<=x.1+y.1+1 then 1 else 0)
end L2
namespace L2
open PySem PySem.Spec
def Rse(xs:Array Nat):Prop:=∀i k,i<k->k<ap xs->xs.getD i 0<xs.getD k 0
theorem getD_in{xs:Array Nat}{i j k:Nat}(h:i<ap xs):xs.getD i j=xs.getD i k:=by simp[gO,h]
theorem zhJ{xs:Array Nat}(r:Rse xs)(j:Nat):∀(l lo hi:Nat),hi - lo<=l->lo<=hi->hi<=ap xs->(∀i,i<lo->xs.getD i 0<j)->(∀i,hi<=i->i<ap xs->j<=xs.getD i 0) ->
  kH xs j l lo hi<=ap xs/\(∀i,i<kH xs j l lo hi->xs.getD i 0<j)/\∀i,kH xs j l lo hi<=i->i<ap xs->j<=xs.getD i 0
 | 0,lo,hi,h1,h2,h3,h4,h5=>by
  have e:lo=hi:=by lia
  subst e;exact⟨h3,h4,h5⟩
 | l+1,lo,hi,h1,h2,h3,h4,h5=>by
  unfold kH;by_cases z:lo<hi;rw[if_pos z];dsimp only;have C:(lo+hi) / 2<hi:=by lia
  have v:lo<=(lo+hi) / 2:=by lia
  have u:xs.getD ((lo+hi) / 2) j=xs.getD ((lo+hi) / 2) 0:=getD_in (by lia);rw[u];by_cases y:xs.getD ((lo+hi) / 2) 0<j;rw[if_pos y];refine zhJ r j l _ hi (by lia) (by lia) h3 (λi o=>?_) h5;rcases eP (show i<=(lo+hi) / 2 by lia) with q|q;exact kj (r _ _ q (by lia)) y;rw[q];exact y;rw[if_neg y];refine zhJ r j l lo _ (by lia) v (by lia) h4 (λi o x=>?_);rcases eP o with q|q;exact bu (uL.mp y) (ig (r _ _ q x));rw[<- q];exact uL.mp y;rw[if_neg z];have e:lo=hi:=by lia
  subst e;exact⟨h3,h4,h5⟩
theorem zln{xs:Array Nat}(r:Rse xs)(j:Nat):br xs j<=ap xs/\(∀i,i<br xs j->xs.getD i 0<j)/\∀i,br xs j<=i->i<ap xs->j<=xs.getD i 0 :=
 zhJ r j xs.size 0 xs.size (by lia) (by lia) (av _) (λi h=>absurd h (by lia)) (λi h h'=>absurd h (by lia))
theorem zkE{l:List Nat}(h:l.Pairwise (·<·)):Rse (bm l):=λi k u v=>by
 have o:k<dP l:=by simpa using v
 have:=aM.mp h i k (by lia) o u;simpa[gO,o,show i<dP l by lia] using this
theorem zu4{xs:Array Nat}(h:Rse xs):xs.toList.Pairwise (·<·):=aM.mpr λi k hi o l=>by have:=h i k l (by simpa using o);simpa[gO,show k<ap xs by simpa using o,show i<ap xs by simpa using hi] using this
theorem zlB{xs:Array Nat}(r:Rse xs){j:Nat}(h:xs[br xs j]?≠ai j):Rse (rZ xs (br xs j) j):=by
 obtain⟨N,J,C⟩:=zln r j;have e:(rZ xs (br xs j) j)=bm (xs.toList.take (br xs j)++j::xs.toList.drop (br xs j)):=by rw[<- SetTable.toList_insertAt,ly]
 rw[e];have p:=zu4 r;refine zkE (cU.mpr ⟨p.sublist (rF ..),ba.mpr ⟨λy l=>?_,p.sublist (mS ..)⟩,λx hx y l=>?_⟩);obtain⟨k,u,rfl⟩:=bc l;rw[gz,cg]at u;have q:=C (br xs j+k) (by lia) (by lia);rw[r8,lA];have v:xs.getD (br xs j+k) 0=xs[br xs j+k]'(by lia):=by simp[gO,show br xs j+k<ap xs by lia]
 rw[v]at q;rcases eP q with q|q;exact q;exfalso;cases k with
 | zero=>exact h (by rw[bZ (by lia)];exact congrArg ai q.symm)
 | succ k =>have L:=C (br xs j) (av _) (by lia);have I:=r (br xs j) (br xs j+(k+1)) (by lia) (by lia);rw[v]at I;lia
 have G:x<j:=by obtain⟨k,u,rfl⟩:=bc hx;rw[gy,cg]at u;have q:=J k (by lia);rw[List.getElem_take,lA];simpa[gO,show k<ap xs by lia] using q
 rcases ax.mp l with rfl|l;exact G;obtain⟨k,u,rfl⟩:=bc l;rw[gz,cg]at u;have q:=C (br xs j+k) (by lia) (by lia);rw[r8,lA];have v:xs.getD (br xs j+k) 0=xs[br xs j+k]'(by lia):=by simp[gO,show br xs j+k<ap xs by lia]
 rw[v]at q;lia
def Nin(t:eH)(j:Nat):Prop:=t.place[br t.place j]?≠ai j
theorem zkA{t:eH}{j:Nat}(h:∀i,t.slot j≠.live i):Nin t j:=λz=>by refine h (br t.place j) ?_;unfold SetTable.slot;simp[z]
theorem zfu{t:eH}{x:Nat->Int}{h:Int}:∀(l:Nat) (p:uM),(∀d,p.dummy=ai d->Nin t d)->∀j o,sd t x h l p=ai (.empty j o)->Nin t j/\∀d,o=ai d->Nin t d
 | 0,p,hp,j,o,e=>by cases e
 | l+1,p,hp,j,o,e=>by
  have v:∀q:uM,(t.advance q).dummy=q.dummy:=λq=>by unfold SetTable.advance;split <;> rfl
  unfold sd at e;split at e;rename_i es;cases e;exact⟨zkA (by rw[es];intro i z;cases z),hp⟩;rename_i es;refine zfu l _ (λd hd=>?_) j o e;rw[v]at hd;cases hd;exact zkA (by rw[es];intro i z;cases z);split at e;cases e;exact zfu l _ (λd hd=>hp d (by rw[v]at hd;exact hd)) j o e
theorem zqL{t:eH}{h:Int}{j:Nat}{b:Bool}(e:t.freeSlot h=ai (j,b)):Nin t j:=by
 unfold SetTable.freeSlot at e;split at e;rename_i u l ep;obtain⟨x,v⟩:=zfu _ _ (λd hd=>by cases hd) u l ep;have o:=congrArg nB (aG e);dsimp only at o;subst o;cases l with
 | none=>exact x
 | some d=>exact v d rfl
 cases e
theorem WC(t:eH)(n:Nat):Rse (t.standIn n).place:=by show Rse (Array.range n);intro i k o u;rw[Array.size_range]at u;simp[gO,u,show i<n by lia,o]
theorem zjJ{t:eH}(r:Rse t.place)(n:Nat):Rse (t.orStandIn n).place:=by unfold rg;split;exact r;exact WC t n
theorem zjK{t:eH}(n:Nat):(t.orStandIn n).led=t.led:=by unfold rg;split <;> rfl
theorem ziQ{t:eH}(r:Rse t.place)(es:Array (Int×ah))(h:Int)(x:ah):Rse (layNew t es h x).2.1.place/\(layNew t es h x).2.1.led=t.led:=by unfold layNew;split;rename_i slot o e;refine⟨zjJ ?_ _,zjK _⟩;exact zlB r (zqL e);exact⟨WC _ _,rfl⟩
theorem zjG{t:eH}(r:Rse t.place)(es:Array (Int×ah))(n:Nat):Rse (relayAll t es n).2.1.place/\(relayAll t es n).2.1.led=t.led:=by
 unfold relayAll;split;rename_i t' order e;have k:Rse t'.place/\t'.led=t.led:=by unfold SetTable.relaid SetTable.laid at e;simp only[Option.bind_eq_bind,Option.bind_eq_some_iff]at e;obtain⟨owner,_,e⟩:=e;have x:=congrArg nB (aG e);dsimp only at x;rw[<- x];refine⟨zkE ?_,rfl⟩;rw[rh];refine nE (R:=(·<·)) _ (λa C u b v G o=>?_) (List.pairwise_lt_range);simp only[Option.map_map,c8,Function.comp]at v o;obtain⟨_,_,rfl⟩:=v;obtain⟨_,_,rfl⟩:=o;exact u
 dsimp only;split;exact k;exact⟨WC _ _,rfl⟩;exact⟨WC _ _,rfl⟩
end L2
namespace L2
open PySem PySem.Spec PyProof PyProof.Rows
def elI(i:Int)(e:Int×ah):Prop:=e.1=hashInt i/\∃t,e.2=m6 i t
def SetO(w:aV)(o:Obj)(ns:List Int):Prop:=∃es ep t,o.ExactSet/\f7 o=.set es ep t/\(∃ms,ms.Perm ns/\bN elI ms (w9 es))/\ns.Nodup/\ap es<scanBound/\t.fits es.size=bj/\Rse t.place/\(w.params.followText "set-order" = bA->t.led=bj)
def SetI(w:aV)(h:bh)(a:aq)(ns:List Int):Prop:=∃o,be h a=ai o/\SetO w o ns
theorem zqh{α x:Type}{F:α->x->Prop}{v l2:List α}{l u:List x}(h:bN F v l)(k:bN F l2 u):bN F (v++l2) (l++u):=by
 induction h with
 | nil=>exact k
 | cons r _ C=>exact f6 r C
theorem Wl{α o:Type}{F:α->o->Prop}{l:List α}{m:List o}(h:bN F l m):dP l=dP m:=by
 induction h with
 | nil=>rfl
 | cons _ _ u=>simp[u]
theorem znM{α o:Type}{F:α->o->Prop}{l:List α}{m:List o}(h:bN F l m):∀x∈l,∃y∈m,F x y:=by
 induction h with
 | nil=>intro x hx;cases hx
 | @cons a b as bs r _ ih =>intro x hx;rcases ax.mp hx with rfl|hx;exact⟨b,hH _,r⟩;obtain⟨y,u,q⟩:=ih x hx;exact⟨y,io _ u,q⟩
theorem zfx{α o:Type}{F:α->o->Prop}{l:List α}{m:List o}(h:bN F l m):∀y∈m,∃x∈l,F x y:=by
 induction h with
 | nil=>intro x hx;cases hx
 | @cons a b as bs r _ ih =>intro x hx;rcases ax.mp hx with rfl|hx;exact⟨a,hH _,r⟩;obtain⟨y,u,q⟩:=ih x hx;exact⟨y,io _ u,q⟩
theorem zfw{α I:Type}{F:α->I->Prop}{m G:List I}(p:m.Perm G):∀{l:List α},bN F l m->∃v,v.Perm l/\bN F v G:=by
 induction p with
 | nil=>intro l h;exact⟨l,.rfl,h⟩
 | cons x _ R =>
  intro l h;cases h with
  | cons r t =>obtain⟨v,N,q⟩:=R t;exact⟨_,N.cons _,f6 r q⟩
 | swap x y _ =>
  intro l h;cases h with
  | cons r t=>cases t with
   | cons L t2=>exact⟨_,.swap ..,f6 L (f6 r t2)⟩
 | trans _ _ u C =>intro l h;obtain⟨U,p1,S⟩:=u h;obtain⟨l2,p2,J⟩:=C S;exact⟨l2,ji p2 p1,J⟩
theorem VP{k:Int}{v:ah}:kZ k v=bj↔∃t,v=m6 k t:=⟨λh=>rq h,λ⟨t,e⟩=>by rw[e];simp[kZ]⟩
section
variable{prog:aL}{w:aV}{A:bq}{E:qV}{s:au}
theorem zxr{ms:List Int}{l:List (Int×ah)}(h:bN elI ms l):ElemsOf (intKind prog w) l:=λe he=>by obtain⟨k,_,u,t,o⟩:=zfx h e he;exact⟨⟨k,by show kZ k e.2=bj;exact VP.mpr ⟨t,o⟩,u⟩,by rw[o];rfl⟩
theorem zkD{o:Obj}{es:Array (Int×ah)}{ep:Nat}{t:eH}{h:bh}{a:aq}(u:be h a=ai o)(hd:f7 o=.set es ep t)(l:Array (Int×ah))(t':eH) :
  be (h.update a (uN l t')) a=ai { o with data:=.set l (ep+1) t' }:=by
 have:=bK (uN l t') u (by rw[putSet_of l t' hd];rfl);rwa [putSet_of l t' hd]at this
theorem zpN{g:Bool->Sem Unit}(Y:∀(b:Bool) (s1:au) (U:Unit->au->Prop),U () s1->wpAny (model prog w) A (g b) U E s1){a:aq}{o:Obj}{es l:Array (Int×ah)}{ep:Nat}{t t2:eH}{ms ns:List Int}{Z:Bool}{R:Option Bool->au->Prop}
  (S:be s.heap a=ai o) (hex:o.ExactSet) (hd:f7 o=.set es ep t) (pm:ms.Perm ns) (pr:bN elI ms (w9 l)) (nd:ns.Nodup) (v:ap l<scanBound) (hf:t2.fits l.size=bj) (rs:Rse t2.place) (ld:w.params.followText "set-order" = bA->t2.led=bj)
  (h:∀h',cY a s.heap h'->SetI w h' a ns->R (ai bj) { s with heap:=h' }) :
  wpAny (model prog w) A (do
    storeSet a l t2
    if (!Z&&t2.tooFull)=bj then do
      g (relayAll t2 l (eh l.size)).2.2
      storeSet a (relayAll t2 l (eh l.size)).1 (relayAll t2 l (eh l.size)).2.1
      pure (ai bj)
     else pure (ai bj)) R E s:=by
 refine aa (se S hd ?_ (kI v));have C:=zkD S hd l t2;have N:=eC s.heap a (uN l t2);split;have p2:=relayAll_perm t2 l (eh l.size);have f2:=relayAll_fits t2 l (eh l.size);obtain⟨x,l2⟩:=zjG rs l (eh l.size);generalize relayAll t2 l (eh l.size)=L at p2 f2 x l2 ⊢;obtain⟨u,t3,gv⟩:=L;dsimp only at p2 f2 x l2 ⊢;have sz:ap u=ap l:=by have:=p2.length_eq;simpa using this
 obtain⟨G,J,I⟩:=zfw p2.symm pr;refine aa (Y _ _ _ (aa (se C rfl ?_ (kI (by rw[sz];exact v)))));exact af (h _ (N.trans (eC _ a _)) ⟨_,zkD C rfl u t3,u,_,t3,hex,rfl,⟨G,ji J pm,I⟩,nd,by rw[sz];exact v,f2,x,λz=>by rw[l2];exact ld z⟩);exact af (h _ N ⟨_,C,l,_,t2,hex,rfl,⟨ms,pm,pr⟩,nd,v,hf,rs,ld⟩)
def adI(ns:List Int)(i:Int):List Int:=if i∈ns then ns else ns++[i]
theorem zpR{a:aq}{ns:List Int}{i:Int}{tk:Tok}{Q:Bool->au->Prop}(S:SetI w s.heap a ns)(room:dP ns+1<scanBound)
  (h:∀b h',cY a s.heap h'->SetI w h' a (adI ns i)->Q b { s with heap:=h' }):wpAny (model prog w) A (setAddHashed a (m6 i tk) ((intKind prog w).hash i)) Q E s:=by
 obtain⟨o,I,es,ep,t,hex,hd,⟨ms,pm,pr⟩,nd,hb,hf,rs,ld⟩:=S;have el:=zxr (prog:=prog) (w:=w) pr;have sz:ap es=dP ns:=by have:=Wl pr;rw[pm.length_eq]at this;simpa using bv this
 have hk:(intKind prog w).is i (m6 i tk)=bj:=VP.mpr ⟨tk,rfl⟩;unfold setAddHashed setAddHashedIn;refine bO (aa (fW I hd hf ?_));dsimp only;rw[byScan_of rfl hb el,if_pos rfl];unfold setAddByScan;refine aa (aa (dh (aa (wpAny_setScan_of hk I hd hf el ?_))));cases hr:List.findIdx? (λe=>(intKind prog w).is i e.2) (w9 es) with
 | some j =>
  obtain⟨hj,hpj,_⟩:=List.findIdx?_eq_some_iff_getElem.mp hr;have C:i∈ns:=by obtain⟨k,hk',_,t',e2⟩:=zfx pr _ (eK hj);obtain⟨t2,e3⟩:=VP.mp (show kZ i es.toList[j].2=bj from hpj);rw[e2]at e3;cases e3;exact pm.mem_iff.mp hk'
  refine af (af ?_);have:=h bA s.heap (rL a s.heap) ⟨o,I,es,ep,t,hex,hd,⟨ms,by rw[adI,if_pos C];exact pm,pr⟩,by rw[adI,if_pos C];exact nd,hb,hf,rs,ld⟩;cases s;exact this
 | none =>
  have C:i∉ns:=λz=>by obtain⟨e,he,_,t',e2⟩:=znM pr i (pm.mem_iff.mpr z);have:=List.findIdx?_eq_none_iff.mp hr e he;rw[show(intKind prog w).is i e.2=bj from VP.mpr ⟨t',e2⟩]at this;cases this
  dsimp only;have p1:=layNew_perm t es ((intKind prog w).hash i) (m6 i tk);have f1:=layNew_fits t es ((intKind prog w).hash i) (m6 i tk);obtain⟨N,Z⟩:=ziQ rs es ((intKind prog w).hash i) (m6 i tk);generalize layNew t es ((intKind prog w).hash i) (m6 i tk)=L at p1 f1 N Z ⊢;obtain⟨u,t1,wd,gv⟩:=L;dsimp only at p1 f1 N Z ⊢;rw[sf]at p1;obtain⟨ms1,J,Y⟩:=zfw p1.symm (zqh pr (f6 (show elI i (hashInt i,m6 i tk) from⟨rfl,tk,rfl⟩) ja));have U:ap u=dP ns+1:=by have:=p1.length_eq;simpa[sz] using this
  have v:∀(b:Bool) (s1:au) (G:Unit->au->Prop),G () s1->wpAny (model prog w) A (match b with|true=>rule "set.scan.the-table-gave-way" | false=>pure ()) G E s1:=λb s1 G hq=>by cases b;exact af hq;exact dh hq
  have fin:∀{R:Option Bool->au->Prop} {g:Bool->Sem Unit},(∀(b:Bool) (s1:au) (G:Unit->au->Prop),G () s1->wpAny (model prog w) A (g b) G E s1)->(∀h',cY a s.heap h'->SetI w h' a (adI ns i)->R (ai bj) { s with heap:=h' })->wpAny (model prog w) A (do
    storeSet a u t1
    if (!wd&&t1.tooFull)=bj then do
      g (relayAll t1 u (eh u.size)).2.2
      storeSet a (relayAll t1 u (eh u.size)).1 (relayAll t1 u (eh u.size)).2.1
      pure (ai bj)
     else pure (ai bj)) R E s:=λhg hR=>by
   refine zpN hg I hex hd (ms:=ms1) (ns:=adI ns i) ?_ Y ?_ (by rw[U];exact room) f1 N (λz=>by rw[Z];exact ld z) hR;rw[adI,if_neg C];exact ji J (pm.append_right _);rw[adI,if_neg C];exact fV.mpr ⟨nd,by simp,λx hx y hy=>by rw[aE]at hy;subst hy;exact λz=>C (z▸hx)⟩
  refine aa (v _ _ _ ?_);split;refine aa ?_;rw[hashByValue_scannable 8 (x:=m6 i tk) rfl];refine af ?_;exact fin v λh' sb hS=>af (h bj h' sb hS);refine aa (af ?_);exact fin v λh' sb hS=>af (h bj h' sb hS)
theorem zfd{a:aq}{ns:List Int}(S:SetI w s.heap a ns):s.TypeIs (aZ a) "set":=by obtain⟨o,l,_,_,_,hex,_⟩:=S;exact⟨o,l,hex.1⟩
theorem zkl{a:aq}{ns:List Int}{i:Int}{tk:Tok}{Q:qV}(S:SetI w s.heap a ns)(room:dP ns+1<scanBound)
  (h:∀h' v,cY a s.heap h'->SetI w h' a (adI ns i)->Q dM { s with heap:=h',toks:=v }):wpAny (model prog w) A (call (b4 "set.add") [aZ a,m6 i tk]) Q E s:=by
 refine bw F.slot_set_add (zfd S) F.entry_set_add ?_ (F.args_set_add_2 _ _);unfold cI.«set.add» uO wy setAdd;simp only[bind_assoc,List.isEmpty_nil];refine aa (af ?_);(try dsimp only);refine aa (af ?_);(try dsimp only);refine aa (bO (aa ((intKind prog w).pyHash (VP.mpr ⟨tk,rfl⟩) ?_)));refine zpR (s:={ s with toks:=dn s+1 }) S room λb h' C x=>?_;show wpAny _ _ (ret dM) _ _ _;exact af ⟨_,rfl,h h' _ C x⟩
theorem zs9{Q:qV}(h:∀o,SetO w o []->Q (aZ s.heap.objs.size) { s with heap:=dL s.heap o }):wpAny (model prog w) A (newSet (aY "set")) Q E s:=by unfold newSet setsByText;refine aa (aa (fA (af ?_)));simp only[newObj];exact aa (tw (af (h _ ⟨#[],0,_,⟨rfl,rfl,rfl⟩,rfl,⟨[],.rfl,ja⟩,mL,by decide,by rfl,λi k _ u=>absurd u (by simp[SetTable.fresh]),λz=>by show(!w.params.followText "set-order")=bj;rw[z];rfl⟩)))
end
theorem WR:Bs "set_iterator" "__next__" "set_iterator.__next__":=.of (owner:="set_iterator") (n:="__next__") (by rw[gT,eG];kernel_rfl) (by decide +kernel) (by decide +kernel) (by decide +kernel) (by first|exact fj (by decide +kernel)|exact .inr (by decide +kernel)) (by rw[o8];kernel_rfl)
theorem zdF:Bs "set_iterator" "__iter__" "set_iterator.__iter__":=.of (owner:="set_iterator") (n:="__iter__") (by rw[gT,eG];kernel_rfl) (by decide +kernel) (by decide +kernel) (by decide +kernel) (by first|exact fj (by decide +kernel)|exact .inr (by decide +kernel)) (by rw[o8];kernel_rfl)
theorem zga:entryFor table "set_iterator.__next__" = ai cI.«set_iterator.__next__»:=sV (by kernel_rfl)
theorem zgc:entryFor table "set.__iter__" = ai cI.«frozenset.__iter__»:=o4 (id':="frozenset.__iter__") (by kernel_rfl) rfl (by decide +kernel) (by kernel_rfl)
theorem zgb:entryFor table "set_iterator.__iter__" = ai cI.«dict_keyiterator.__iter__»:=o4 (id':="dict_keyiterator.__iter__") (by kernel_rfl) rfl (by decide +kernel) (by kernel_rfl)
theorem zit:Manifest.owners.lookup (String.ofList ['r','o','t','a','r','e','t','i','_','t','e','s'].reverse)=ai Manifest.sig_set_iterator:=by kernel_rfl
theorem zhL(a:ah):argsOk "set_iterator.__next__" ⟨[a],[]⟩:=by unfold argsOk;rw[signature?_of (id:="set_iterator.__next__") (n:=['_','_','t','x','e','n','_','_']) (o:=['r','o','t','a','r','e','t','i','_','t','e','s']) (by kernel_rfl) zit];kernel_rfl
theorem zhM(a:ah):argsOk "set_iterator.__iter__" ⟨[a],[]⟩:=by unfold argsOk;rw[signature?_of (id:="set_iterator.__iter__") (n:=['_','_','r','e','t','i','_','_']) (o:=['r','o','t','a','r','e','t','i','_','t','e','s']) (by kernel_rfl) zit];kernel_rfl
theorem zi9{α:Type}{l:List α}{i:Nat}(h:i<dP l):(l[i]::l.eraseIdx i).Perm l:=by
 rw[List.eraseIdx_eq_take_drop_succ];have e:l=l.take i++l[i]::l.drop (i+1):=by rw[<- cq h,List.take_append_drop]
 refine ji nu.symm ?_;rw[<- e]
theorem znD{α:Type}{nx:Nat->Nat}:∀(u k:Nat) (l:List α) (out:Array α),dP l=u->(sr nx u k l out).toList.Perm (w9 out++l)
 | 0,k,l,out,h=>by have:l=[]:=cf.mp h;subst this;simp[sr]
 | u+1,k,l,out,h=>by
  have x:0<dP l:=by lia
  have v:nx k % dP l<dP l:=BU _ x;unfold sr;rw[ay v];dsimp only;refine(znD u (k+1) _ _ (by rw[my v];lia)).trans ?_;rw[sf,dZ];exact List.Perm.append_left _ (zi9 v)
theorem zfv{α:Type}{nx:Nat->Nat}(xs:Array α):(pickOrder nx xs).toList.Perm (w9 xs):=by have:=znD (nx:=nx) xs.size 0 (w9 xs) #[] (by simp);simpa[pickOrder] using this
section
variable{prog:aL}{w:aV}{A:bq}{E:qV}{s:au}
theorem zmy{src:Source}{n:Nat}{Q:Nat->au->Prop}(l:n≠0)(h:∀i d,i<n->Q i { s with drawn:=d }):wpAny (model prog w) A (choose src n) Q E s:=λu p o=>by unfold choose;rw[Sem.wp_choose];exact⟨l,h _ _ (BU _ (Nat.pos_of_ne_zero l))⟩
theorem zgZ{α:Type}:∀(n:Nat) (xs:List α) (s:au) (Q:List α->au->Prop),dP xs=n->(∀ys d,ys.Perm xs->Q ys { s with drawn:=d })->wpAny (model prog w) A (drawOrder n xs) Q E s
 | 0,xs,s,Q,h,q=>by have:xs=[]:=cf.mp h;subst this;unfold drawOrder;exact af (q [] (jr s) .nil)
 | n+1,[],s,Q,h,q=>by simp at h
 | n+1,x::xs,s,Q,h,q=>by unfold drawOrder;refine aa (zmy (by simp) λi d hi=>?_);rw[ay hi];dsimp only;refine aa (zgZ n _ _ _ (by rw[my hi];lia) λys o p=>af ?_);exact q _ o (ji (p.cons _) (zi9 hi))
def SIt(h:bh)(it:aq)(first:ah)(i:Nat)(a:aq)(n ep:Nat):Prop:=∃o,be h it=ai o/\jg o=aY "set_iterator" /\ f7 o=ed #[first,m6 i 0,aZ a,m6 n 0,m6 ep 0]
def SAt(h:bh)(a:aq)(es:Array (Int×ah))(ep:Nat)(t:eH):Prop:=∃o,be h a=ai o/\f7 o=.set es ep t/\t.fits es.size=true
theorem Zk{it a:aq}{f:ah}{i n ep:Nat}(x:SIt s.heap it f i a n ep):s.TypeIs (aZ it) "set_iterator":=let ⟨o,h,c,_⟩:=x;⟨o,h,c⟩
inductive Orr (w:aV)(h:bh)(a:aq)(es:Array (Int×ah))(ep:Nat)(t:eH):(Nat->ah)->List ah->List aq->Prop
 | txt (hb:w.params.followText "set-order" = bj):Orr w h a es ep t (λ_=>m6 0 0) ((pickOrder (w.params.setOrder a ep) es).toList.map (·.2)) []
 | pla (hb:w.params.followText "set-order" = bA) (hd:(!t.plain&&decide (ap es > 1))=bA) (hl:t.led=bj) (r:Rse t.place):Orr w h a es ep t (λi=>m6 (if i=0 then 0 else(t.place.getD (i - 1) 0+1:Nat)) 0) (es.toList.map (·.2)) []
 | drw {p:aq} {ps:List Nat} {o:Obj} {n:Nat} (ho:be h p=ai o) (hd:f7 o=f9 (bm (ps.map λ(i:Nat)=>m6 (i:Int) 0)) n) (pm:ps.Perm (c9 es.size)):Orr w h a es ep t (λ_=>aZ p) (ps.map λ(i:Nat)=>(es.getD i (0,dM)).2) [p]
theorem Orr.len{h:bh}{a:aq}{es:Array (Int×ah)}{ep:Nat}{t:eH}{f:Nat->ah}{vs:List ah}{qs:List aq}(x:Orr w h a es ep t f vs qs):dP vs=ap es:=by
 cases x with
 | txt o=>rw[aI,(zfv es).length_eq];simp
 | pla=>simp
 | drw _ _ pm=>rw[aI,pm.length_eq];simp
theorem Orr.perm{h:bh}{a:aq}{es:Array (Int×ah)}{ep:Nat}{t:eH}{f:Nat->ah}{vs:List ah}{qs:List aq}(x:Orr w h a es ep t f vs qs):vs.Perm (es.toList.map (·.2)):=by
 cases x with
 | txt v=>exact(zfv es).map _
 | pla=>exact .rfl
 | drw _ _ pm =>
  refine(pm.map _).trans ?_;have e:(c9 es.size).map (λi=>(es.getD i (0,dM)).2)=es.toList.map (·.2):=by
   refine List.ext_getElem (by simp) λi u C=>?_;have hi:i<ap es:=by simpa using u
   simp[gO,hi]
  rw[e]
theorem Orr.keep{h h':bh}{a:aq}{es:Array (Int×ah)}{ep:Nat}{t:eH}{f:Nat->ah}{vs:List ah}{qs:List aq}(x:Orr w h a es ep t f vs qs)(k:∀b∈qs,∀o,be h b=ai o->be h' b=ai o):Orr w h' a es ep t f vs qs:=by
 cases x with
 | txt u=>exact .txt u
 | pla u hd v r=>exact .pla u hd v r
 | drw C hd pm=>exact .drw (k _ (by simp) _ C) hd pm
theorem zmw{xs:Array Nat}(r:Rse xs){i:Nat}(hi:i<=ap xs):br xs (if i=0 then 0 else xs.getD (i - 1) 0+1)=i:=by obtain⟨u,l,o⟩:=zln r (if i=0 then 0 else xs.getD (i - 1) 0+1);generalize br xs (if i=0 then 0 else xs.getD (i - 1) 0+1)=b at u l o;by_cases z:i=0;subst z;rcases lZ b with q|q;exact q;have:=l 0 q;simp at this;rw[if_neg z]at l o;rcases cC b i with q|q|q;exfalso;have:=o (i - 1) (by lia) (by lia);lia;exact q;exfalso;have v:=l i q;have x:=r (i - 1) i (by lia) (by lia);lia
theorem zkB{it a:aq}{es:Array (Int×ah)}{i ep:Nat}{t:eH}{f:Nat->ah}{vs:List ah}{qs:List aq}{Q:Option ah->au->Prop}(hh:A.handled=ao\/i<ap es)(x:SIt s.heap it (f i) i a es.size ep)(y:SAt s.heap a es ep t)(z:Orr w s.heap a es ep t f vs qs)(hi:i<=ap es)
  (G:∀v h',vs[i]?=ai v->SIt h' it (f (i+1)) (i+1) a es.size ep->(∀b o,b≠it->be s.heap b=ai o->be h' b=ai o)->Q (ai v) { s with heap:=h' })
  (h0:∀h',i=ap es->(∀b o,b≠it->be s.heap b=ai o->be h' b=ai o)->Q ao { s with heap:=h' }):wpAny (model prog w) A (pyNext (aZ it)) Q E s:=by
 obtain⟨o,S,hc,hd⟩:=id x;obtain⟨oa,R,J,hf⟩:=id y;unfold pyNext;refine aa (gf (bP (name:=ar "__next__") (Zk x) WR (bw WR (Zk x) zga ?_ (zhL _))));unfold cI.«set_iterator.__next__»;refine aa (af ?_);refine aa (oY S hd ?_);dsimp only;refine aa (pL R J hf ?_);rw[if_neg (by simp)];have up:∀{g g':Obj->Obj} {b:aq} {o},b≠it->be s.heap b=ai o->be ((s.heap.update it g).update it g') b=ai o:=λC e=>by rw[bf _ _ (dG C),bf _ _ (dG C)];exact e
 have fld:∀{nx:Nat} {v:ah} {P:Fin->au->Prop} {E':qV},f (i+1)=m6 (nx:Int) 0->(∀h',SIt h' it (f (i+1)) (i+1) a es.size ep->(∀b o,b≠it->be s.heap b=ai o->be h' b=ai o)->P (Af (Ag v)) { s with heap:=h' })->wpAny (model prog w) A.in1 (do setField (aZ it) 0 (rawInt nx);setField (aZ it) 1 (rawInt ((i:Int)+1));ret v) P E' s:=λ{nx v P E'} e1 hP=>by refine aa (dE S hd (by simp) ?_);have G:=bK (gY (·.setIfInBounds 0 (rawInt (nx:Int)))) S (dA (bU hd _));have U:=bU hd (·.setIfInBounds 0 (rawInt (nx:Int)));refine aa (dE G U (by simp) ?_);have h2:=bK (gY (·.setIfInBounds 1 (rawInt ((i:Int)+1)))) G (dA (bU U _));refine af (hP _ ⟨_,h2,?_,?_⟩ λb ob C e=>up C e);rw[fS,fS];exact hc;rw[bU U,e1];simp[rawInt]
 have fin:∀{s':au} {P:Fin->au->Prop},i=ap es->(∀b o,b≠it->be s.heap b=ai o->be s'.heap b=ai o)->s'={ s with heap:=y4 s' }->wpAny (model prog w) A.in1 (do let __do_lift <- newExc (aY "StopIteration") [];raiseNew __do_lift) P (λe s'=>wpAny (model prog w) A (do let __do_lift <- isInstance e (aY "StopIteration");if __do_lift=bj then pure ao else throw e) Q E s') s':=λ{s' P} ei hk es'=>by refine aa ?_;simp only[newExc,newTuple];refine aa (bp ?_ (by size_fits));refine aa (m:=firstArgMember _ _) (i6 (a:=dM) (by first|rfl|(simp only[firstArgMember];rfl)) ?_);refine bp ?_ (by size_fits);simp only[raiseNew];refine aa (mX ?_);rw[show A.in1.handled=ao from hh.resolve_right (by lia)];refine aa (af (oT ?_));refine aa (gA (T:="StopIteration") (b:=bj) ⟨_,aA _ rfl,rfl⟩ l8 (af ?_));rw[es'];exact h0 _ ei λb o C e=>aj _ (aj _ (hk b o C e))
 have Y:∀{P:Fin->au->Prop},i=ap es->wpAny (model prog w) A.in1 (do setField (aZ it) 2 dM;let __do_lift <- newExc (aY "StopIteration") [];raiseNew __do_lift) P (λe s'=>wpAny (model prog w) A (do let __do_lift <- isInstance e (aY "StopIteration");if __do_lift=bj then pure ao else throw e) Q E s') s:=λ{P} ei=>by refine aa (dE S hd (by simp) ?_);exact fin ei (λb o C e=>by rw[bf _ _ (dG C)];exact e) rfl
 cases z with
 | txt C =>
  dsimp only;refine aa ?_;unfold setNext setsByText;refine aa (fW R J hf (aa (aa (fA (af ?_)))));dsimp only;rw[show(model prog w).w.params.followText "set-order" = bj from C,if_pos rfl];rw[if_neg (by simp)];unfold setWalk setsByText;refine aa (aa (fW R J hf (aa (aa (fA (af ?_))))));dsimp only;rw[show(model prog w).w.params.followText "set-order" = bj from C,if_pos rfl];refine aa (fA (af (af ?_)));show wpAny _ _ (match (pickOrder (w.params.setOrder a ep) es)[mu ((i:Nat):Int)]?.map (λe=>(e.2,Int.toNat 0)) with|some (v,at_)=>_|none=>_) _ _ _;rw[bS,<- cM];rw[aT]at G;cases he:(pickOrder (w.params.setOrder a ep) es).toList[i]? with
  | none =>rw[mG,(zfv es).length_eq]at he;exact Y (by simp at he;lia)
  | some e =>rw[he]at G;exact fld rfl λh' x' k=>⟨_,rfl,af (G _ h' rfl x' k)⟩
 | pla C hdr hl r =>
  dsimp only;refine aa ?_;unfold setNext setsByText;refine aa (fW R J hf (aa (aa (fA (af ?_)))));dsimp only;rw[show(model prog w).w.params.followText "set-order" = bA from C,if_neg (by decide)];refine iV (λz=>absurd (show(!t.plain&&decide (ap es > 1))=bj from z) (by rw[hdr];decide)) (λ_=>?_);refine aa ?_;show wpAny _ _ (if (!t.led&&!es.isEmpty)=bj then unsupported "set:maker-not-led" else pure ()) _ _ _;rw[hl,if_neg (by simp)];refine af (af ?_);have sp:ap t.place=ap es:=by simp only[SetTable.fits,bT,beq_iff_eq]at hf;exact hf.1
  have e0:mu (if i=0 then(0:Int) else((t.place.getD (i - 1) 0+1:Nat):Int))=if i=0 then 0 else t.place.getD (i - 1) 0+1:=by split <;> rfl
  rw[e0,zmw r (by lia)];rw[aT,cM]at G;cases he:es[i]? with
  | none =>rw[Array.getElem?_eq_none_iff]at he;exact Y (by lia)
  | some e =>have hl:=(mw.mp he).1;rw[he]at G;rw[bZ (by lia)];dsimp only;refine fld ?_ λh' x' k=>⟨_,rfl,af (G _ h' rfl x' k)⟩;show m6 (if i+1=0 then 0 else(t.place.getD (i+1 - 1) 0+1:Nat)) 0=_;rw[if_neg (by lia),mh];simp[gO,show i<ap t.place by lia]
 | @drw p ps op np hop hdp pm =>
  dsimp only;unfold seqItems?;refine aa (aa (nI hop ?_));rw[hdp];refine af ?_;dsimp only;rw[aT]at G;rw[List.getElem?_toArray,bS,aT];cases hq:ps[i]? with
  | none =>rw[mG,pm.length_eq,fT]at hq;refine aa (dE S hd (by simp) ?_);have G:=bK (gY (·.setIfInBounds 0 (rawInt (0:Int)))) S (dA (bU hd _));have U:=bU hd (·.setIfInBounds 0 (rawInt (0:Int)));refine aa (dE G U (by simp) ?_);exact fin (by lia) (λb o C e=>up C e) rfl
  | some q =>
   rw[hq]at G;dsimp only[fP];have Z:q<ap es:=by have:=pm.mem_iff.mp (aC hq);simpa using this
   unfold setNextDrawn;refine aa (aa (fW R J hf ?_));dsimp only;rw[if_neg (by simp),bS,bZ Z];refine af ?_;refine aa (dE S hd (by simp) ?_);have h2:=bK (gY (·.setIfInBounds 1 (rawInt ((i:Int)+1)))) S (dA (bU hd _));have ev:(es.getD q (0,dM)).2=es[q].2:=by simp[gO,Z]
   refine af ⟨_,rfl,af (G _ _ (congrArg ai ev) ⟨_,h2,?_,?_⟩ λb ob C e=>?_)⟩;rw[fS];exact hc;rw[bU hd];simp[rawInt];rw[bf _ _ (dG C)];exact e
theorem zpQ{r:aq}{Q:Bool->au->Prop}(l:s.TypeIs (aZ r) "set") (h:Q bA s):wpAny (model prog w) A (lM (aZ r)) Q E s:=by
 unfold lM;refine aa (tW l PySem.F.slot_set_len.lookup ?_);generalize hid:("set.__len__":String)=id0
 wp_delta;rw[show splitId id0=ai ("set","__len__") from by subst hid;decide +kernel]
 subst hid;refine aa (gA (T:="set") (b:=bj) l (by rw[o8];kernel_rfl) (iV (λz=>absurd z (by decide)) (λ_=>iV (λ_=>?_) (λz=>absurd (by decide +kernel) z))));exact aa (dY l (af h))
theorem zmK(S:A.handled=ao){it a:aq}{es:Array (Int×ah)}{ep:Nat}{t:eH}{f:Nat->ah}{vs:List ah}{qs:List aq}(na:it≠a)(U:it∉qs)(R:dP vs=ap es) :
  Walks prog w A it (it::a::qs) [it] es.size (λi v=>vs[i]?=ai v) (λi h=>SIt h it (f i) i a es.size ep/\SAt h a es ep t/\Orr w h a es ep t f vs qs) where
 sub:=by simp
 frame:=λi h h' x k=>by obtain⟨⟨o,e,r⟩,⟨C,I,G⟩,z⟩:=x;exact⟨⟨o,k it (by simp) o e,r⟩,⟨C,k a (by simp) C I,G⟩,z.keep λb u o e=>k b (by simp[u]) o e⟩
 item:=λi s Q E hi h L=>by obtain⟨x,y,z⟩:=h;refine zkB (xw hi) x y z (ig hi) (λv h' J N k=>L v h' s.toks J ⟨N,?_,z.keep λb u o e=>k b o (λq=>U (q▸u)) e⟩ λb o u e=>k b o (by simpa using u) e) λ_ e=>absurd e (aO hi);obtain⟨C,I,G⟩:=y;exact⟨C,k a C (dG na) I,G⟩
 done:=λs Q E h L=>by obtain⟨x,y,z⟩:=h;exact zkB (fj S) x y z (av _) (λv h' J=>absurd (aw.mp J).1 (by rw[R];exact ft _)) λh' _ k=>L h' s.toks λb o u e=>k b o (by simpa using u) e
 self:=λi s Q E x h=>by obtain⟨x,_⟩:=x;refine kG (Zk x) zdF (bw zdF (Zk x) zgb ?_ (zhM _));exact aa (af (af ⟨_,rfl,_,_,Zk x,WR.lookup,h⟩))
theorem zpO{a:aq}{ns:List Int}{Q:qV}(S:SetI w s.heap a ns)
  (h:∀it h' d es ep t f vs qs,(∃ms,ms.Perm ns/\bN elI ms (w9 es))->(∀b o,be s.heap b=ai o->be h' b=ai o)->ap s.heap.objs<=it->(∀q∈qs,ap s.heap.objs<=q/\q≠it)->SIt h' it (f 0) 0 a es.size ep->SAt h' a es ep t->Orr w h' a es ep t f vs qs->Q (aZ it) { s with heap:=h',drawn:=d }):wpAny (model prog w) A (pyIter (aZ a)) Q E s:=by
 have ty:=zfd S;obtain⟨o,G,es,ep,t,hex,hd,pp,nd,J,hf,rs,ld⟩:=S;refine kG ty tZ (bw tZ ty zgc ?_ (F.args_set_iter_1 _));unfold cI.«frozenset.__iter__»;refine aa (af ?_);unfold wA;refine aa (aa (pL G hd hf (af ?_)));unfold setDrawn setsByText;refine aa (aa (fW G hd hf (aa (aa (fA (af (af ?_)))))));have fin:∀(s1:au) (f:Nat->ah) (vs:List ah) (qs:List aq) (P:Fin->au->Prop),(∀b o,be s.heap b=ai o->be s1.heap b=ai o)->ap s.heap.objs<=ap s1.heap.objs->(∀q∈qs,ap s.heap.objs<=q/\q<ap s1.heap.objs)->Orr w s1.heap a es ep t f vs qs ->
   (∀h',SIt h' s1.heap.objs.size (f 0) 0 a es.size ep->(∀b o,be s1.heap b=ai o->be h' b=ai o)->P (Af (Ag (aZ s1.heap.objs.size))) { s1 with heap:=h' })->wpAny (model prog w) A.in1 (do let e <- setEpoch a;let r <- newFields "set_iterator" [f 0,rawInt 0,aZ a,rawInt ↑es.size,rawInt ↑e];ret r) P E s1:=λs1 f vs qs P k sz u z N=>by
  refine aa (wpAny_setEpoch_of (k a o G) hd hf ?_);refine aa (bp (af (N _ ⟨_,aA _ rfl,rfl,?_⟩ λb o e=>aj _ e)) (by size_fits));simp[rawInt]
 have tail:∀{s1:au} {d} {f:Nat->ah} {vs:List ah} {qs:List aq},s1={ s with heap:=y4 s1,drawn:=d }->(∀b o,be s.heap b=ai o->be s1.heap b=ai o)->ap s.heap.objs<=ap s1.heap.objs->(∀q∈qs,ap s.heap.objs<=q/\q<ap s1.heap.objs)->Orr w s1.heap a es ep t f vs qs ->
   wpAny (model prog w) A.in1 (do let e <- setEpoch a;let r <- newFields "set_iterator" [f 0,rawInt 0,aZ a,rawInt ↑es.size,rawInt ↑e];ret r) (λfin s'=>∃v,fin=Af (Ag v)/\∃T' r,s'.TypeIs v T'/\typeLookup (aY T') (ar "__next__")=pure (ai r)/\Q v s') E s1:=λ{s1 d f vs qs} e1 k sz u z=>by
  refine fin s1 f vs qs _ k sz u z λh' L I=>⟨_,rfl,_,_,?_,WR.lookup,?_⟩;exact Zk (s:={ s1 with heap:=h' }) L;rw[e1];exact h _ h' d es ep t f vs qs pp (λb o e=>I b o (k b o e)) sz (λq C=>⟨(u q C).1,aO (u q C).2⟩) L ⟨o,I a o (k a o G),hd,hf⟩ (z.keep λb J o e=>I b o e)
 cases hb2:w.params.followText "set-order" with
 | true =>rw[show(!(rl (model prog w).prog (model prog w).w.params).params.followText "set-order")=bA by rw[show(rl (model prog w).prog (model prog w).w.params).params.followText "set-order" = bj from hb2];rfl,hY,if_neg (by decide)];refine aa (af ?_);exact tail (s1:=s) (d:=jr s) (f:=λ_=>m6 0 0) rfl (λ_ _ e=>e) (av _) (λq u=>absurd u (by simp)) (.txt hb2) (qs:=[])
 | false =>rw[show(!(rl (model prog w).prog (model prog w).w.params).params.followText "set-order")=bj by rw[show(rl (model prog w).prog (model prog w).w.params).params.followText "set-order" = bA from hb2];rfl,gX];refine iV (λz=>?_) (λz=>?_);refine aa (zgZ _ _ _ _ (fT ..) λys d pm=>?_);refine aa (bp ?_ (by show _<=sizeLine;simp[pm.length_eq];exact kI J));refine tail (d:=d) (f:=λ_=>aZ s.heap.objs.size) (qs:=[ap s.heap.objs]) rfl (λb o e=>aj _ e) (by show _<=(dL s.heap _).objs.size;rw[cR];exact mP _) (λq u=>?_) (.drw (ps:=ys) (aA _ rfl) rfl pm);rw[aE]at u;subst u;exact⟨av _,by show _<(dL s.heap _).objs.size;rw[cR];exact ik _⟩;refine aa (af ?_);exact tail (s1:=s) (d:=jr s) (f:=λi=>m6 (if i=0 then 0 else(t.place.getD (i - 1) 0+1:Nat)) 0) rfl (λ_ _ e=>e) (av _) (λq u=>absurd u (by simp)) (qs:=[]) (.pla hb2 (by simpa using(show ¬(!t.plain&&decide (ap es > 1))=bj from z)) (ld hb2) rs)
theorem zpP(hA:A.handled=ao){a S:aq}{ns:List Int}{R:sI->au->Prop}(N:SetI w s.heap a ns)(na:S≠a)(hS:be s.heap S=ai ⟨aY "list",ao,f9 #[] 0,#[]⟩)
  (h:∀h' tk d acc c,(∀b o,b≠S->be s.heap b=ai o->be h' b=ai o)->be h' S=ai ⟨aY "list",ao,f9 acc c,#[]⟩->(∃ms,ms.Perm ns/\bN (λ(i:Int) (v:ah)=>∃t,v=m6 i t) ms (w9 acc))->R (.ok (Ag (aZ S))) { s with heap:=h',toks:=tk,drawn:=d }) :
  codeAny (model prog w) A (jm "list.__iadd__" ⟨[aZ S,aZ a],[]⟩) R s:=by
 have lS:S<ap s.heap.objs:=aB hS;have ty:=zfd N;refine dJ sN ?_;show wpAny (model prog w) _ (cN (aZ S) (aZ a) (aZ S)) _ _ s;rw[ie PySem.F.plain_list_iadd _];unfold cN;refine aa (dY (T:="set") ty ?_);have c1:iQ (aZ S) (aZ a)=bA:=by simp[iQ,na]
 have c2:(aY "set" == aY "list" ||aY "set" == aY "tuple")=bA:=by decide
 rw[c1,wg,c2,if_neg (by decide)];refine aa (zpO N λit Y d es ep t f vs qs pp k1 lit J x y z=>?_);obtain⟨oa,ea,_⟩:=id N;have la:=aB ea;have nSI:S≠it:=aO (aP lS lit);have nf:S∉it::a::qs:=by simp only[ax,not_or];exact⟨nSI,na,λhq=>absurd (J S hq).1 (Nat.not_le.mpr lS)⟩
 have W:=zmK (prog:=prog) (w:=w) (A:=A.in1) hA (it:=it) (a:=a) (es:=es) (ep:=ep) (t:=t) (f:=f) (vs:=vs) (qs:=qs) (dG (aO (aP la lit))) (λhq=>(J it hq).2 rfl) z.len;have sz:ap es<=sizeLine:=by obtain⟨o',e',es',_,_,_,hd',⟨ms',pm',pr'⟩,_,hb',_⟩:=N;obtain⟨ms,pm,pr⟩:=pp;have l1:=Wl pr;have l2:=Wl pr';rw[pm.length_eq]at l1;rw[pm'.length_eq]at l2;exact kI (by simp at l1 l2;omega)
 have key:∀(I:bh) (c tk:Nat),(∀b o,b≠S->be Y b=ai o->be I b=ai o)->be I S=ai ⟨aY "list",ao,f9 #[] c,#[]⟩->codeAny (model prog w) A (jm "list.extend.loop" ⟨[aZ S,aZ it,aZ S],[]⟩) R { s with heap:=I,toks:=tk,drawn:=d }:=λI c tk k2 hS2=>by
  have st:=W.frame 0 Y I ⟨x,y,z⟩ λb C o e=>k2 b o (λq=>nf (q▸C)) e;refine codeAny_extend_loopS W.toS sz S nf (aZ S) es.size 0 _ #[] c rfl (dw _) st hS2 (ItemsOf.nil _) λs' acc c' hm hS' L=>?_;rw[Moved.eq_with hm];refine h _ _ _ acc c' (λb o C e=>hm.heap b o (λG=>?_) (k2 b o C (k1 b o e))) hS' ?_;rcases ax.mp G with q|q;exact C q;rw[aE]at q;rw[q]at e;exact absurd (aB e) (uL.mpr lit);obtain⟨ha,C⟩:=L;have ev:w9 acc=vs:=by refine mO λi=>?_;rcases bM i acc.size with q|q;rw[cM,bZ q];exact(C i _ (bZ q)).symm;rw[bV (by simpa using q),bV (by rw[z.len];omega)]
  rw[ev];obtain⟨ms,pm,pr⟩:=pp;have pr2:bN (λ(i:Int) (v:ah)=>∃t,v=m6 i t) ms (es.toList.map (·.2)):=by
   clear pm;generalize w9 es=el at pr;induction pr with
   | nil=>exact ja
   | cons r _ ih=>exact f6 r.2 ih
  obtain⟨Z,p2,q2⟩:=zfw z.perm.symm pr2;exact⟨Z,ji p2 pm,q2⟩
 have U:=k1 S _ hS;refine aa (bO (zpQ (let ⟨o,e,c⟩:=ty;⟨o,k1 a o e,c⟩) ?_));refine iV (λ_=>aa (dh (aa ?_))) (λ_=>af ⟨iS mH _,key Y 0 _ (λb o _ e=>e) U⟩);show wpAny _ _ (updateSeq S (·.push dM) >>= λ_=>updateSeq S (·.pop)) _ _ _;refine aa (gU U rfl ?_);have S2:=bK (fZ (·.push dM)) U rfl;refine gU (hz:=by seq_fits) S2 rfl ?_;have S3:=bK (fZ (·.pop)) S2 rfl;refine af ⟨iS mH _,key _ _ _ (λb o nb e=>?_) S3⟩;rw[bf _ _ (dG nb),bf _ _ (dG nb)];exact e
theorem zjC(N:A.handled=ao){a:aq}{ns:List Int}{Q:List ah->au->Prop}(J:SetI w s.heap a ns)
  (h:∀h' tk d vs,(∀b o,be s.heap b=ai o->be h' b=ai o)->ap s.heap.objs<=ap h'.objs->(∃ms,ms.Perm ns/\bN (λ(i:Int) (v:ah)=>∃t,v=m6 i t) ms vs)->Q vs { s with heap:=h',toks:=tk,drawn:=d }):wpAny (model prog w) A (collect (aZ a)) Q E s:=by
 unfold collect;refine aa (uB (dJ oR ?_));show wpAny (model prog w) _ (newList [] >>= λx=>again (jm "list.__iadd__" ⟨[x,aZ a],[]⟩)) _ _ s;obtain⟨R,C,I⟩:=id J;have L:=aB C;refine aa (mW (af ⟨gH _ (by decide +kernel),?_⟩));refine zpP N (ns:=ns) ⟨R,aj _ C,I⟩ (i8 L) (aA _ rfl) λh' tk d acc c kp G pp=>?_;refine aa (m:=load s.heap.objs.size) (nI G ?_);exact af (h h' tk d _ (λb o e=>kp b o (aO (aB e)) (aj _ e)) (ig (aB G)) pp)
end
end L2
namespace L2
open PySem PySem.Spec PyProof.Rows
theorem zm4{w:aV}{o:Obj}{ns:List Int}(h:SetO w o ns):o.isFreed=bA:=by obtain⟨es,ep,t,hex,hd,_⟩:=h;cases o;cases hd;rfl
def SDO(w:aV)(a:aq)(ns:List Int):HO:=.ext λh=>SetI w h a ns
theorem sdo_ok{P:aL}{w:aV}{H:Hp}{h:bh}{a:aq}{ns:List Int}(x:SetI w h a ns):JE P w H h a (SDO w a ns):=by refine⟨x,let ⟨o,e,_⟩:=x;⟨o,e⟩,λu l z k=>?_⟩;obtain⟨o,e,r⟩:=z;exact⟨o,k o e,r⟩
theorem Inv.setI{X:Cx}{pins:qO}{σ:St}{H:Hp}{s:au}{a:aq}{ns:List Int}(I:Inv X pins σ H s)(h:H a=ai (SDO X.w a ns)):SetI X.w s.heap a ns:=(I.hok a _ h).1
theorem zug{ns:List Int}{j x:Int}:x∈adI ns j↔x∈ns\/x=j:=by unfold adI;split;rename_i h;exact⟨fj,λz=>ii z id λz=>z▸h⟩;simp
theorem zxM{ns:List Int}{j:Int}(h:ns.Nodup):(adI ns j).Nodup:=by unfold adI;split;exact h;rename_i z;exact fV.mpr ⟨h,by simp,λx hx y l=>by rw[aE]at l;subst l;exact λq=>z (q▸hx)⟩
theorem zuh{ns:List Int}{j:Int}:dP (adI ns j)<=dP ns+1:=by unfold adI;split;omega;simp
def ddI(acc:List Int):List Int:=acc.foldl adI []
theorem zoU(acc:List Int):(ddI acc).Nodup/\(∀x,x∈ddI acc↔x∈acc)/\dP (ddI acc)<=dP acc:=by
 have key:∀(acc ns:List Int),ns.Nodup->(acc.foldl adI ns).Nodup/\(∀x,x∈acc.foldl adI ns↔x∈ns\/x∈acc)/\dP (acc.foldl adI ns)<=dP ns+dP acc:=by
  intro acc;induction acc with
  | nil=>intro ns h;exact⟨h,λx=>by simp,av _⟩
  | cons a acc I =>intro ns h;obtain⟨C,v,G⟩:=I (adI ns a) (zxM h);refine⟨C,λx=>by rw[fh,v,zug,ax];exact or_assoc,?_⟩;have:=zuh (ns:=ns) (j:=a);rw[fh,aH];omega
 obtain⟨C,v,G⟩:=key acc [] mL;exact⟨C,λx=>by rw[ddI,v];simp,by rw[ddI];simpa using G⟩
theorem zq0{acc:List Int}{j:Int}:ddI (acc++[j])=adI (ddI acc) j:=by rw[ddI,su];rfl
def AS(w:aV)(_:Ctx)(D:aq)(H:Hp)(acc:List Int):Prop:=H D=ai (SDO w D (ddI acc))
theorem zxJ{w:aV}:AOk (AS w):=λ_ _ _ _ hx l h=>⟨xw (xw ⟨_,h⟩),λks z=>(by rw[h]at z;cases z),λH' e=>e _ _ h l⟩
def nxS(elt:aX)(acc:ah)(env:Env)(k:Sem Fin):Sem Fin:=do
 (do let v <- eval elt env;standAt elt.pos;let _ <- call (b4 "set.add") [acc,v])
 k
abbrev tdS(te:DTE)(ρ:En)(n:Nat)(acc:List Int)(R:List Int->Nat->Prop):Prop:=te ρ n λt n3=>∃j,t=b5 j/\dP acc<4000/\R (acc++[j]) n3
section
variable{X:Cx}{scope:fv}{own:List Str}{capt:List Nat}{elt:aX}{gs:List pS}{pos:Pos}{te:DTE}
theorem zop:IsC (ju elt gs scope pos):=λ_ _ _ _ _ _ _=>⟨⟨rfl,rfl⟩,⟨rfl,rfl⟩,rfl⟩
theorem zvX{P:aL}{w:aV}:NA P w (newSet (aY "set")) λD u=>u=SDO w D []:=λA E s Q _ h=>zs9 λo l=>h o (zm4 l) λh' e=>⟨_,rfl,λH'=>sdo_ok ⟨o,e,l⟩⟩
theorem zw_(he:Fam X scope own capt λY=>DE Y elt te):HM X scope own capt (nxS elt) (AS X.w) [] (tdS te):=by obtain⟨ge,pe,G⟩:=DE.fam he;refine⟨λD σ H N=>ge σ H λv x=>∃ns j,v=.int j/\x D=ai (SDO X.w D ns)/\dP ns+1<scanBound/\N (upd x D (SDO X.w D (adI ns j))),λD C s₀ H₀ fp pins s σ H N k Q E I h hk=>?_,λC D hD U ρ σ H n acc N R S _ a r hq=>?_⟩;refine aa (aa (cn (pe C s₀ H₀ fp pins s σ H _ I h) (λy s9 h9=>aa (eR (aa ?_))) λ_ _ z=>eJ z));obtain⟨v,H9,Z,r9,ns,j,rfl,u,hl,q9⟩:=h9;obtain⟨tk,rfl⟩:=r9;refine zkl (Z.setI u) hl λh' tk' sb S'=>?_;exact af (hk _ _ (zki Z (by rw[u];exact iX) sb (let ⟨o,e,_⟩:=S';⟨o,e⟩) (sdo_ok S')) q9);refine G C ρ σ H n _ _ S r λt n6 v x J e6 L q6=>?_;have u:=e6 D _ a U;obtain⟨j,rfl,l,J⟩:=J;have:=(zoU acc).2.2;exact⟨_,j,q6.intI,u,by show _<4096;omega,hq _ n6 _ J (λb o hb nb ne=>by rw[Jo ne];exact e6 b o hb nb) (Hn.updR U (xw (xw ⟨_,u⟩)) L) (by rw[AS,zq0];exact JJ)⟩
theorem zgf(hc:X.calm=bj):JK X (b4 "sorted") (λxs H Q=>∃(p:aq) (ns:List Int),xs=[.ref p]/\H p=ai (SDO X.w p ns)/\dP ns<64 /\
  ∀G:List Int,G.Perm ns->G.Pairwise (·<=·)->∀l,H l=ao->Q (.ref l) (upd H l (.lst (G.map V.int)))):=by
 intro pins s σ H xs us Q I r h;obtain⟨p,ns,rfl,Y,hz,q⟩:=h;obtain⟨u,rfl,ru⟩:=r.one;cases(show u=aZ p from ru);have S:=I.setI Y;refine zfc (A:=X.A) (x:=aZ p) (rk:=λ_=>rkI) (C:=λh' tk vs=>(∀b o,be s.heap b=ai o->be h' b=ai o)/\ap s.heap.objs<=ap h'.objs/\∃ms,ms.Perm ns/\bN (λ(i:Int) (v:ah)=>∃t,v=m6 i t) ms vs) ?_ ?_ ?_ ?_;intro L E' Q' Z R;exact zjC (b3 Z (I.ok.hd hc)) S λh' tk d vs kp sz pp=>R h' tk d vs ⟨kp,sz,pp⟩;rintro h' tk vs ⟨kp,sz,ms,pm,pr⟩;have:=Wl pr;rw[pm.length_eq]at this;exact Zh (by lia);rintro h' tk d vs L ⟨kp,sz,ms,pm,pr⟩ hA';refine zme λv J=>?_;obtain⟨i,_,t,e⟩:=zfx pr v J;exact⟨i,t,e⟩;rintro h' tk d vs N y e ⟨kp,sz,ms,pm,pr⟩ kp2 pm2 up he;obtain⟨G,p1,p2,p3⟩:=zkG (f:=λ(i:Int)=>i) pr (λa v J=>by obtain⟨t,rfl⟩:=J;rfl) pm2 up;have U:dP G<=sizeLine:=by
  have a1:=p1.length_eq;have a2:=pm.length_eq;have a3:64<=sizeLine:=by decide
  lia
 refine⟨.ref h'.objs.size,_,((I.laid (a:=ap h'.objs) (o:=.lst (G.map V.int)) (t':=tk) (h':=N) (λb o e=>kp2 b o (kp b o e)) sz ⟨by simpa using U,_,e,zr_ p3,by rw[ly];exact he⟩).drw d),rfl,q G (ji p1 pm) p2 _ (I.hok.fresh sz)⟩
end
def ZL(g:DTG)(tt:DTT)(o:DTE)(l:En)(xs:qD)(acc:List Int)(n:Nat)(R:List Int->Nat->Prop):Prop:=cGo g tt (tdS o) l xs acc n R
def ZS(g:DTG)(tt:DTT)(o:DTA)(g2:DTG)(u:DTT)(v:DTE)(l:En)(xs:qD)(acc:List Int)(n:Nat)(R:List Int->Nat->Prop):Prop:=cGo g tt (tdN o g2 u (tdS v)) l xs acc n R
def Edg(acc l:List Int):Prop:=l.Pairwise (·<·)/\∀x,x∈l↔x∈acc
def SrtR(R:qD->Nat->Prop)(acc:List Int)(n:Nat):Prop:=dP acc<64/\∀l,Edg acc l->R (l.map b5) n
def zt2(m:Nat)(capt:List Nat)(C:DTA)(g:DTG)(tt:DTT)(l:DTA)(g2:DTG)(o:DTT)(v:DTE):DTA:=λu n R=>C u n λts x=>ZS g tt l g2 o v (JL m capt u) ts [] x (SrtR R)
theorem zxs{acc l:List Int}(p:l.Perm (ddI acc))(w:l.Pairwise (·<=·)):Edg acc l:=by obtain⟨u,o,_⟩:=zoU acc;have nd:l.Nodup:=p.nodup_iff.mpr u;refine⟨?_,λx=>by rw[p.mem_iff,o]⟩;refine(List.pairwise_and_iff.mpr ⟨w,nd⟩).imp λ{a b} h=>?_;have u:=h.1;have o:a≠b:=h.2;lia
section
variable{X:Cx}{scope:fv}{own:List Str}{capt:List Nat}{elt tg iter tg2 it2:aX}{ifs Oj:List aX}{pos p0 p1:Pos}{di di2:DTA}{is is2:List Nat}{g g2:DTG}{tt tt2:DTT}{te:DTE}
theorem zmq(hm:X.mg "sorted" = ao) (hc:X.calm=bj) (S:Jv scope own capt X) (hi:DIL X tg iter di)
  (hg:Fam X scope own capt λY=>DG Y tg is g) (v:∀i∈is,i<dP own) (ht:Fam X scope own capt λY=>DTs Y ifs tt) (U:Fam X scope own capt λY=>DI Y tg2 it2 di2) (L:Fam X scope own capt λY=>DG Y tg2 is2 g2) (OR:∀i∈is2,i<dP own/\i∉is) (J:Fam X scope own capt λY=>DTs Y Oj tt2)
  (he:Fam X scope own capt λY=>DE Y elt te)
  (G:starEach [ju elt [⟨tg,iter,ifs,0⟩,⟨tg2,it2,Oj,0⟩] scope pos] X.env=[(bA,eval (ju elt [⟨tg,iter,ifs,0⟩,⟨tg2,it2,Oj,0⟩] scope pos) X.env)]:=by rfl) (hgl:Gl X "sorted":=by rfl)
  (hs:Fsi X iter:=by intro _;rfl) (Z:∀(C:aq) (x:ah),foldedSetIterable it2 (compEnvC scope (ownCl X scope C) C X.env) x=pure x:=by intro _ _;rfl) :
  DN X (ee (bn "sorted" p0) [ju elt [⟨tg,iter,ifs,0⟩,⟨tg2,it2,Oj,0⟩] scope pos] [] p1) (zt2 (dP own) capt di g tt di2 g2 tt2 te):=by
 obtain⟨ge,p,_,sp⟩:=Wo (e:=ju elt [⟨tg,iter,ifs,0⟩,⟨tg2,it2,Oj,0⟩] scope pos) (a0:=[]) zxJ (λ_ _ _ ho h=>by rw[h];exact JJ) hc S ⟨zop,⟨_,rfl⟩,λ_ _ _=>rfl,λ_=>⟨_,rfl⟩,λ_ _=>⟨_,rfl⟩⟩ zvX hi hg v ht (zos zxJ zop hc rfl (λ_ _ _=>rfl) U L J Z (zw_ he)) OR hs;refine⟨_,ZI (zgf hc) hm boot_sorted (Qv p Ua G) hgl,λC ρ σ H n Q R St hd hq=>?_⟩;refine sp C ρ σ H n _ _ St hd λacc n2 H2 D c2 e2 u hD _ hy=>⟨D,_,rfl,hy,?_,λjs pm pw l I=>?_⟩;exact fE (zoU acc).2.2 c2.1;exact hq _ n2 l _ _ (c2.2 js (zxs pm pw)) (e2.trans (ExtE.new I)) (u.same (JS I)) (Y9 e2 u I) JJ (znq js)
variable{ρ ρ0:En}{n m:Nat}{Rl:qD->Nat->Prop}
instance zAD [h:CompN m capt ρ ρ0]:Stp (zt2 m capt di g tt di2 g2 tt2 te ρ n Rl) (di ρ n λts n1=>ZS g tt di2 g2 tt2 te ρ0 ts [] n1 (SrtR Rl)):=⟨λk=>by unfold zt2;rw[h.e];exact k⟩
theorem zm7{α:Type}{cs:List α}{D:α->ae}{R:List Int->Nat->Prop}(f:α->List Int)(hf:∀c,dP (f c)<=2)(J:dP cs<=1000)
  (turn:∀c∈cs,∀(acc:List Int) (K:List Int->Nat->Prop),dP acc+2<4000->K (acc++f c) n->g (D c) ρ0 λo=>tt o n λb v=>if b=bj then di2 o v λts I=>ZL g2 tt2 te o ts acc I K else K acc v) (h:R (cs.flatMap f) n) :
  ZS g tt di2 g2 tt2 te ρ0 (cs.map D) [] n R:=by
 have key:∀(ds:List α) (acc:List Int),(∀c∈ds,c∈cs)->dP acc+2*dP ds<3000->R (acc++ds.flatMap f) n->ZS g tt di2 g2 tt2 te ρ0 (ds.map D) acc n R:=by
  intro ds;induction ds with
  | nil=>intro acc _ _ h;exact(by simpa using h:R acc n)
  | cons d ds G =>intro acc x hz h;rw[aH]at hz;have:=hf d;refine turn d (x d (hH _)) acc (λu C=>ZS g tt di2 g2 tt2 te ρ0 (ds.map D) u C R) (by lia) (G _ (λc hc=>x c (io _ hc)) (by rw[a9];lia) ?_);rw[dZ];simpa using h
 exact key cs [] (λ_ h=>h) (by simp;lia) (by simpa using h)
end
end L2
namespace L2
open PySem PySem.Spec PyProof PyProof.Rows
section
variable{X:Cx}
theorem zkm(hc:X.calm=bj)(Y:X.A.units+64<cLine):JK X (aY "dict") (λxs H Q=>∃(p:aq) (vs:List V) (zs:ZT),xs=[.ref p]/\tyT X.K (.ref p) H/\SqT X.K H p vs/\bN (KZp X.K H) vs zs/\(zs.map (·.1)).Nodup/\∀l ep,H l=ao->Q (.ref l) (upd H l (ZDO l zs ep))):=by
 intro pins s σ H xs us Q I r h;obtain⟨p,vs,zs,rfl,ty,S,pr,nd,q⟩:=h;obtain⟨u,rfl,G⟩:=r.one;cases(show u=aZ p from G);obtain⟨its,rel,⟨o,g1,g2,n,g3⟩,Z⟩:=I.tuple S;obtain⟨_,L⟩:=zri I G ty;obtain⟨o',C,d'⟩:=L p rfl;rw[g1]at C;cases C;obtain⟨ps,x,U⟩:=zsT I rel pr;have lp:dP zs=dP vs:=bv (cV pr);have l2:dP ps=dP zs:=bv (cV x);have v:(ps.map (·.1)).Nodup:=by rw[zjx x];exact CD kL (λa b h e=>h (ZU.mp e)) nd
 refine zhI (A:=X.A) (its:=bm its) (ps:=ps) g1 g2 g3 d' (I.ok.hd hc) Y (by simpa using U) (by lia) v λh' tk kp R=>?_;have J:(ap s.heap.objs == sysModules)=bA:=beq_eq_false_iff_ne.mpr (dG (aO I.big));obtain⟨ep,ok⟩:=YF (X:=X) (H':=H) J (by lia) x R;exact⟨.ref s.heap.objs.size,_,I.laid (a:=ap s.heap.objs) (o:=ZDO s.heap.objs.size zs ep) (t':=tk) kp (av _) ok,rfl,q _ ep (I.hok.fresh (av _))⟩
theorem zlC{K:qF}{hd:Option aq}{O:aq->Prop}{H:Hp}{zs:ZT}{ks:KT2}(r:Jn K hd O H zs ks):zs.map (·.1)=ks.map (·.1) :=
 r.ind (P:=λ(zs:ZT) (ks:KT2)=>zs.map (·.1)=ks.map (·.1)) rfl (λ_ _ _ i=>by simp[i])
variable{e:aX}{d:DTE}{p2 cp:Pos}
def zr6(d:DTE):DTE:=λv n R=>d v n λt x=>∃ks:KT2,t=fX (ks.map prT)/\(ks.map (·.1)).Nodup/\R (tD (Js ks)) x
theorem zqY(hc:X.calm=bj)(hu:X.A.units+64<cLine)(J:X.mg "dict" = ao) (h:DE X e d) (x:starEach [e] X.env=[(bA,eval e X.env)]:=by rfl) (I:Gl X "dict":=by rfl) :
  DE X (ee (bn "dict" p2) [e] [] cp) (zr6 d):=by
 obtain⟨ta,pa,h⟩:=h;refine⟨_,zir (zkm hc hu) I J rfl (Qu pa QI x) (he:=x),λC ρ σ H n Q R S hd hq=>?_⟩;refine h C ρ σ H n _ _ S hd λt n1 v H1 r1 U u Y=>?_;obtain⟨ks,rfl,nd,r⟩:=r1;have S1:=S.on U u;have ty:tyT X.K v H1:=by
  cases Y with
  | tup h o r=>exact⟨_,_,rfl,fj h⟩
  | tupS h r=>exact⟨_,_,rfl,xw h⟩
 obtain⟨p,vs,rfl,sq,rp⟩:=Y.tupI;obtain⟨zs,z1,L⟩:=zp2 rp;refine⟨p,vs,zs,rfl,ty,sq,z1,by rw[zlC L];exact nd,λl ep G=>?_⟩;exact hq _ n1 _ _ r (U.trans (ExtE.new G)) (u.same (JS G)) (.dcT JJ (S1.free G) (L.mono (λ_ _ _ z=>z) (λb o _ Z=>JS G b o Z)) rfl)
instance zzq {ρ:En}{n:Nat}{R:qN}:Stp (zr6 d ρ n R) (d ρ n λt n1=>∃ks:KT2,t=fX (ks.map prT)/\(ks.map (·.1)).Nodup/\R (tD (Js ks)) n1):=⟨λh=>h⟩
end
def jn(l u:Int×Int):Int×Int:=(if l.2+u.2+1<l.1+u.1 then l.2+u.2+1 else l.1+u.1,if l.1+u.1+1<l.2+u.2 then l.1+u.1+1 else l.2+u.2)
open Classical in
noncomputable def kst (Z:Int->Prop):Nat->Int->Int×Int
 | 0,i=>if Z i then(1,0) else(0,1)
 | n+1,i=>jn (kst Z n i) (kst Z n (i+2 ^ n))
def decT(S:Int×Int->Option Int):Nat->Int->Int->Int->Int
 | 0,i,d,_=>(S (i,0)).getD d
 | n+1,i,d,x=>if x<i+2 ^ n then decT S n i ((S (i,((n+1:Nat):Int))).getD d) x else decT S n (i+2 ^ n) ((S (i,((n+1:Nat):Int))).getD d) x
def cnt(S:Int×Int->Option Int):Nat->Int->Int
 | 0,i=>if eA (S (i,0)) then 1 else 0
 | n+1,i=>(if eA (S (i,((n+1:Nat):Int))) then 1 else 0)+cnt S n i+cnt S n (i+2 ^ n)
def pk(d:Int)(q:Int×Int):Int:=if d=0 then q.1 else q.2
theorem zzN{l u:Int×Int}{d:Int}(h:d=0\/d=1):pk d (jn l u)<=pk d l+pk d u/\∀d',(d'=0\/d'=1)->pk d (jn l u)<=1+pk d' l+pk d' u:=by constructor;rcases h with rfl|rfl;simp only[pk,jn,if_pos];split <;> lia;simp only[pk,jn,show ¬(1:Int)=0 by decide,if_false];split <;> lia;rintro d' (rfl|rfl) <;> rcases h with rfl|rfl <;> simp only[pk,jn,if_pos,show ¬(1:Int)=0 by decide,if_false] <;> split <;> lia
theorem Ud(n:Nat):(2:Int) ^ (n+1)=2 ^ n+2 ^ n:=by rw[bH];lia
theorem zfD{S:Int×Int->Option Int}{Z:Int->Prop}(v:∀b s,S b=ai s->s=0\/s=1):∀(n:Nat) (i d:Int),(d=0\/d=1)->(∀x,i<=x->x<i+2 ^ n->(decT S n i d x=1↔Z x))->pk d (kst Z n i)<=cnt S n i
 | 0,i,d,hd,h=>by
  have h0:=h i (aN _) (by rw[lN];lia);unfold decT at h0;unfold kst cnt;cases e:S (i,0) with
  | none =>
   rw[e]at h0;simp only[m9]at h0;rcases hd with rfl|rfl;have:¬Z i:=λz=>by have:=h0.mpr z;lia
   simp[pk,this];have:Z i:=h0.mp rfl;simp[pk,this]
  | some s =>rcases hd with rfl|rfl <;> by_cases z:Z i <;> simp[pk,z]
 | n+1,i,d,hd,h=>by
  have p2:=Ud n;have pp:(0:Int)<2 ^ n:=Bd.JT n;have sub:∀d',(S (i,((n+1:Nat):Int))).getD d=d'->(d'=0\/d'=1)->pk d' (kst Z n i)<=cnt S n i/\pk d' (kst Z n (i+2 ^ n))<=cnt S n (i+2 ^ n):=λd' e o=>by refine⟨zfD v n i d' o λx G C=>?_,zfD v n (i+2 ^ n) d' o λx G C=>?_⟩;have:=h x G (by lia);unfold decT at this;rwa [if_pos C,e]at this;have:=h x (by lia) (by lia);unfold decT at this;rwa [if_neg (by lia),e]at this
  unfold kst cnt;obtain⟨L,J⟩:=zzN (l:=kst Z n i) (u:=kst Z n (i+2 ^ n)) hd;cases e:S (i,((n+1:Nat):Int)) with
  | none =>obtain⟨s1,s2⟩:=sub d (by rw[e];rfl) hd;simp only[Option.isSome_none,aJ,if_false];lia
  | some s =>have I:=v _ _ e;obtain⟨s1,s2⟩:=sub s (by rw[e];rfl) I;have:=J s I;simp only[p6,if_true];lia
def sgAt(rs:RL)(b:Int×Int):Option Int:=(rs.find? λr=>decide (r.1=b)).map (·.2)
theorem U1{rs:RL}{b:Int×Int}{s:Int}(h:sgAt rs b=ai s):(b,s)∈rs:=by
 unfold sgAt at h;obtain⟨r,l,o⟩:=c8.mp h;have e:r.1=b:=by simpa using tY l
 have m:=mF l;have:r=(b,s):=dD e o;rwa [this]at m
theorem WB{rs:RL}{b:Int×Int}(h:sgAt rs b=ao):∀r∈rs,r.1≠b:=λr l e=>by unfold sgAt at h;rw[nU,gL]at h;exact h r l (decide_eq_true e)
theorem zjB{rs:RL}(nd:(rs.map (·.1)).Nodup){r:(Int×Int)×Int}(h:r∈rs):sgAt rs r.1=ai r.2:=by
 cases e:sgAt rs r.1 with
 | none=>exact absurd rfl (WB e r h)
 | some s =>
  have m:=U1 e;have:∀{l:RL},(l.map (·.1)).Nodup->∀a∈l,∀b∈l,a.1=b.1->a=b:=by
   intro l;induction l with
   | nil=>intro _ a v;cases v
   | cons c l C =>intro nd a v b x e;rw[aK,cz]at nd;rcases ax.mp v with rfl|v <;> rcases ax.mp x with rfl|x;rfl;exact absurd (aR.mpr ⟨b,x,bv e⟩) nd.1;exact absurd (show b.1∈l.map (·.1) from aR.mpr ⟨a,‹a∈l›,e⟩) nd.1;exact C nd.2 a v b x e
  have:=this nd _ m _ h rfl;rw[<- this]
def Aln(b:Int×Int):Prop:=0<=b.2/\∃k:Int,b.1=k*2 ^ mu b.2
theorem ZN{bits:Int}{b:Int×Int}(B:IsBk bits b.1 b.2):Aln b:=⟨B.1,let ⟨k,_,e,_⟩:=B.2.2;⟨k,e⟩⟩
def inb(b:Int×Int)(x:Int):Prop:=b.1<=x/\x<eB b
theorem zfB{k j P x:Int}(l:0<P)(C:k*P<=x)(u:x<k*P+P)(v:j*P<=x)(o:x<j*P+P):k=j:=by rcases ko k j with z|z|z;have:(k+1)*P<=j*P:=bz (by lia) (by lia);rw[cS]at this;lia;exact z;have:(j+1)*P<=k*P:=bz (by lia) (by lia);rw[cS]at this;lia
theorem Ze{b c:Int×Int}{x:Int}(C:Aln b)(hc:Aln c)(e:b.2=c.2)(l:inb b x)(o:inb c x):b=c:=by obtain⟨_,k,u⟩:=C;obtain⟨_,j,v⟩:=hc;unfold inb eB at l o;rw[e]at u l;rw[u]at l;rw[v]at o;have:=zfB (Bd.JT (mu c.2)) l.1 l.2 o.1 o.2;exact dD (by rw[u,v,this]) e
def Rok(rs:RL):Prop:=(∀r∈rs,Aln r.1/\(r.2=0\/r.2=1))/\(rs.map (·.1)).Nodup
def AlnN(n:Nat)(i:Int):Prop:=∃k:Int,i=k*2 ^ n
theorem AlnN.lo{n:Nat}{i:Int}(h:AlnN (n+1) i):AlnN n i:=by obtain⟨k,e⟩:=h;exact⟨k*2,by rw[e,bH,cj,b7 (2 ^ n) 2]⟩
theorem AlnN.up{n:Nat}{i:Int}(h:AlnN (n+1) i):AlnN n (i+2 ^ n):=by obtain⟨k,e⟩:=h.lo;exact⟨k+1,by rw[e,cS,cT]⟩
theorem AlnN.b{n:Nat}{i:Int}(h:AlnN n i):Aln (i,(n:Int)):=⟨by simp,by obtain⟨k,e⟩:=h;exact⟨k,by simpa using e⟩⟩
theorem zle{rs:RL}(R:Rok rs){x:Int}:∀(n:Nat) (i d:Int),AlnN n i->i<=x->x<i+2 ^ n ->
  (∃r∈rs,r.1.2<=n/\inb r.1 x/\r.2=decT (sgAt rs) n i d x/\∀q∈rs,inb q.1 x->r.1.2<=q.1.2)\/(decT (sgAt rs) n i d x=d/\∀q∈rs,inb q.1 x->(n:Int)<q.1.2)
 | 0,i,d,A,h1,h2=>by
  have e:x=i:=by simp at h2;lia
  subst e;unfold decT;cases es:sgAt rs (x,0) with
  | some s =>refine fj ⟨_,U1 es,by simp,⟨aN _,by simp[eB];lia⟩,rfl,λq u _=>(R.1 q u).1.1⟩
  | none =>refine xw ⟨rfl,λq u C=>?_⟩;have q0:=(R.1 q u).1.1;rcases fU 0 q.1.2 with z|z;simpa using z;exact absurd (Ze (R.1 q u).1 A.b (by simp;lia) C ⟨aN _,by simp[eB];lia⟩) (WB es q u)
 | n+1,i,d,A,h1,h2=>by
  have p2:=Ud n;have key:∀j,AlnN n j->j<=x->x<j+2 ^ n->∀v,v=decT (sgAt rs) n j ((sgAt rs (i,((n+1:Nat):Int))).getD d) x ->
    (∃r∈rs,r.1.2<=((n+1:Nat):Int)/\inb r.1 x/\r.2=v/\∀q∈rs,inb q.1 x->r.1.2<=q.1.2)\/(v=d/\∀q∈rs,inb q.1 x->((n+1:Nat):Int)<q.1.2):=λj U J Y v ev=>by
   rcases zle R n j ((sgAt rs (i,((n+1:Nat):Int))).getD d) U J Y with⟨r,S,r1,L,I,Z⟩|⟨e,G⟩;exact fj ⟨r,S,by push_cast;lia,L,by rw[ev];exact I,Z⟩;rw[e]at ev;cases es:sgAt rs (i,((n+1:Nat):Int)) with
   | some s =>
    rw[es]at ev;refine fj ⟨_,U1 es,aN _,⟨h1,by show x<i+2 ^ mu ((n+1:Nat):Int);simpa using h2⟩,bv ev,λq u C=>?_⟩;have:=G q u C;show((n+1:Nat):Int)<=_
    push_cast
    lia
   | none =>
    rw[es]at ev;refine xw ⟨ev,λq u C=>?_⟩;have h3:=G q u C;rcases fU ((n+1:Nat):Int) q.1.2 with z|z;exact z;refine absurd (Ze (R.1 q u).1 A.b ?_ C ⟨h1,by show x<i+2 ^ mu ((n+1:Nat):Int);simpa using h2⟩) (WB es q u);show q.1.2=((n+1:Nat):Int)
    push_cast at z ⊢
    lia
  by_cases z:x<i+2 ^ n;have e:decT (sgAt rs) (n+1) i d x=decT (sgAt rs) n i ((sgAt rs (i,((n+1:Nat):Int))).getD d) x:=by rw[decT,if_pos z]
  rw[e];exact key i A.lo h1 z _ rfl;have e:decT (sgAt rs) (n+1) i d x=decT (sgAt rs) n (i+2 ^ n) ((sgAt rs (i,((n+1:Nat):Int))).getD d) x:=by rw[decT,if_neg z]
  rw[e];exact key _ A.up (by lia) (by lia) _ rfl
def SgX(rs:RL)(a s:Int):Prop:=(s=0/\∀r∈rs,¬inb r.1 a)\/∃r∈rs,inb r.1 a/\r.2=s/\∀l∈rs,inb l.1 a->r.1.2<=l.1.2
theorem zkC{rs:RL}(R:Rok rs){a s t:Int}(v:SgX rs a s)(u:SgX rs a t):s=t:=by rcases v with⟨rfl,v⟩|⟨r,l,x,rfl,G⟩ <;> rcases u with⟨rfl,u⟩|⟨q,o,C,rfl,I⟩;rfl;exact absurd C (v q o);exact absurd x (u r l);have e:=Ze (R.1 r l).1 (R.1 q o).1 (t4 (G q o C) (I r l x)) x C;have a1:=zjB R.2 l;have a2:=zjB R.2 o;rw[e,a2]at a1;exact(aG a1).symm
def Ye(n:Nat)(rs:RL):Prop:=∀r∈rs,r.1.2<=n/\0<=r.1.1/\r.1.1<2 ^ n
theorem zm3{rs:RL}(R:Rok rs){n:Nat}(I:Ye n rs){x:Int}(h0:0<=x)(S:x<2 ^ n):SgX rs x (decT (sgAt rs) n 0 0 x):=by rcases zle R n 0 0 ⟨0,by simp⟩ h0 (by lia) with⟨r,G,N,L,u,J⟩|⟨e,C⟩;exact xw ⟨r,G,L,u,J⟩;exact fj ⟨e,λq o v=>by have:=C q o v;have:=(I q o).1;lia⟩
theorem zm2{rs:RL}(R:Rok rs){n:Nat}(I:Ye n rs){x s:Int}(h0:0<=x)(l:x<2 ^ n):SgX rs x s↔decT (sgAt rs) n 0 0 x=s :=
 ⟨λh=>(zkC R (zm3 R I h0 l) h),λh=>h▸zm3 R I h0 l⟩
def wi(n:Nat)(i:Int)(r:(Int×Int)×Int):Bool:=decide (r.1.2<=(n:Int)/\i<=r.1.1/\r.1.1<i+2 ^ n)
theorem zeN{α:Type}{p p1 p2 p3:α->Bool}:∀{l:List α},(∀a∈l,(if p a then 1 else 0)=(if p1 a then 1 else 0)+(if p2 a then 1 else 0)+(if p3 a then 1 else 0))->l.countP p=l.countP p1+l.countP p2+l.countP p3
 | [],_=>rfl
 | a::l,h=>by have u:=zeN (l:=l) λb o=>h b (io _ o);have v:=h a (hH _);simp only[sY];lia
theorem zeu{b:Int×Int}:∀{rs:RL},(rs.map (·.1)).Nodup->(rs.countP (λr=>decide (r.1=b)):Int)=if eA (sgAt rs b) then 1 else 0
 | [],_=>rfl
 | r::rs,h=>by
  rw[aK,cz]at h;have v:=zeu (b:=b) h.2;rw[sY];by_cases z:r.1=b;have l:rs.countP (λr=>decide (r.1=b))=0:=List.countP_eq_zero.mpr λq x e=>h.1 (aR.mpr ⟨q,x,b3 (of_decide_eq_true e) z.symm⟩);rw[l];simp[sgAt,z];have e:sgAt (r::rs) b=sgAt rs b:=by simp[sgAt,z]
  rw[e,<- v];simp[z]
theorem zpq{n:Nat}{i:Int}(A:AlnN (n+1) i){b:Int×Int}(B:Aln b)(e:b.2=((n+1:Nat):Int)):(i<=b.1/\b.1<i+2 ^ (n+1))↔b.1=i:=by have pp:(0:Int)<2 ^ (n+1):=Bd.JT _;constructor;rintro⟨u,l⟩;have:=Ze (x:=b.1) B A.b e ⟨aN _,by have:=Bd.JT (mu b.2);unfold eB;lia⟩ ⟨u,by show b.1<i+2 ^ mu ((n+1:Nat):Int);simpa using l⟩;exact congrArg nB this;intro h;lia
theorem zo7{rs:RL}(R:Rok rs):∀(n:Nat) (i:Int),AlnN n i->cnt (sgAt rs) n i=(rs.countP (wi n i):Int)
 | 0,i,A=>by unfold cnt;rw[<- zeu R.2];congr 1;refine List.countP_congr λr v=>?_;have h0:=(R.1 r v).1.1;unfold wi;rw[decide_eq_true_eq,decide_eq_true_eq];constructor;intro e;rw[e];simp;lia;rintro⟨C,I,x⟩;simp at C x;exact dD (by show r.1.1=i;lia) (by show r.1.2=0;lia)
 | n+1,i,A=>by
  unfold cnt;rw[zo7 R n i A.lo,zo7 R n (i+2 ^ n) A.up,<- zeu R.2];have p2:=Ud n;have pp:(0:Int)<2 ^ n:=Bd.JT n;have:=zeN (p:=wi (n+1) i) (p1:=λr=>decide (r.1=(i,((n+1:Nat):Int)))) (p2:=wi n i) (p3:=wi n (i+2 ^ n)) (l:=rs) λr v=>by
   have B:=(R.1 r v).1;unfold wi;by_cases e:r.1.2=((n+1:Nat):Int);have o:¬r.1.2<=(n:Int):=by push_cast at e;lia
   have k:=zpq A B e;by_cases z:r.1.1=i;have G:=k.mpr z;rw[decide_eq_true (show r.1.2<=((n+1:Nat):Int)/\i<=r.1.1/\r.1.1<i+2 ^ (n+1) from⟨xH e,G⟩),decide_eq_true (show r.1=(i,((n+1:Nat):Int)) from dD z e),decide_eq_false (λq=>o q.1),decide_eq_false (λq=>o q.1)];rfl;rw[decide_eq_false (λq=>z (k.mp q.2)),decide_eq_false (λq=>z (congrArg nB q)),decide_eq_false (λq=>o q.1),decide_eq_false (λq=>o q.1)];rfl;rw[decide_eq_false (show ¬r.1=(i,((n+1:Nat):Int)) from λq=>e (congrArg Ae q))];by_cases le:r.1.2<=(n:Int);have u:r.1.2<=((n+1:Nat):Int):=by push_cast;lia
   by_cases c1:i<=r.1.1/\r.1.1<i+2 ^ n;rw[decide_eq_true (show _/\_/\_ from⟨u,c1.1,by lia⟩),decide_eq_true (show _/\_/\_ from⟨le,c1⟩),decide_eq_false (λq=>by have:=q.2.1;lia)];rfl;by_cases c2:i+2 ^ n<=r.1.1/\r.1.1<i+2 ^ n+2 ^ n;rw[decide_eq_true (show _/\_/\_ from⟨u,by lia,by lia⟩),decide_eq_false (λq=>c1 q.2),decide_eq_true (show _/\_/\_ from⟨le,c2⟩)];rfl;rw[decide_eq_false (λq=>by have:=q.2;lia),decide_eq_false (λq=>c1 q.2),decide_eq_false (λq=>c2 q.2)];rfl;have u:¬r.1.2<=((n+1:Nat):Int):=by push_cast at e ⊢;lia
   rw[decide_eq_false (λq=>u q.1),decide_eq_false (λq=>le q.1),decide_eq_false (λq=>le q.1)];rfl
  rw[this]
  push_cast
  rfl
theorem zo8{rs:RL}(R:Rok rs){n:Nat}(I:Ye n rs):cnt (sgAt rs) n 0=(dP rs:Int):=by rw[zo7 R n 0 ⟨0,by simp⟩,List.countP_eq_length.mpr];intro r o;obtain⟨u,l,v⟩:=I r o;exact decide_eq_true ⟨u,l,by lia⟩
theorem znk{rs:RL}(R:Rok rs){n:Nat}(I:Ye n rs){Z:Int->Prop}(h:∀x,0<=x->x<2 ^ n->(SgX rs x 1↔Z x)):(kst Z n 0).1<=(dP rs:Int):=by
 have:=zfD (S:=sgAt rs) (Z:=Z) (λb s e=>(R.1 _ (U1 e)).2) n 0 0 (fj rfl) λx h0 o=>by rw[<- h x h0 (by lia),zm2 R I h0 (by lia)]
 rw[zo8 R I]at this;exact this
section
variable{Z Z':Int->Prop}
theorem zfG:∀(n:Nat) (i:Int),(∀x,i<=x->x<i+2 ^ n->(Z x↔Z' x))->kst Z n i=kst Z' n i
 | 0,i,h=>by have:=h i (aN _) (by rw[lN];lia);unfold kst;by_cases z:Z i;rw[if_pos z,if_pos (this.mp z)];rw[if_neg z,if_neg (λq=>z (this.mpr q))]
 | n+1,i,h=>by have p2:=Ud n;have pp:(0:Int)<2 ^ n:=Bd.JT n;unfold kst;rw[zfG n i λx l o=>h x l (by lia),zfG n (i+2 ^ n) λx l o=>h x (by lia) (by lia)]
theorem Wt:∀(n:Nat) (i:Int),(∀x,i<=x->x<i+2 ^ n->¬Z x)->kst Z n i=(0,1)
 | 0,i,h=>by unfold kst;rw[if_neg (h i (aN _) (by rw[lN];lia))]
 | n+1,i,h=>by have p2:=Ud n;have pp:(0:Int)<2 ^ n:=Bd.JT n;unfold kst;rw[Wt n i λx l o=>h x l (by lia),Wt n (i+2 ^ n) λx l o=>h x (by lia) (by lia)];rfl
theorem kst_all:∀(n:Nat) (i:Int),(∀x,i<=x->x<i+2 ^ n->Z x)->kst Z n i=(1,0)
 | 0,i,h=>by unfold kst;rw[if_pos (h i (aN _) (by rw[lN];lia))]
 | n+1,i,h=>by have p2:=Ud n;have pp:(0:Int)<2 ^ n:=Bd.JT n;unfold kst;rw[kst_all n i λx l o=>h x l (by lia),kst_all n (i+2 ^ n) λx l o=>h x (by lia) (by lia)];rfl
theorem ztl(l u:Int×Int):(jn l u).1<=(jn l u).2+1/\(jn l u).2<=(jn l u).1+1:=by unfold jn;constructor <;> (dsimp only;split <;> split <;> lia)
theorem zqy:∀(n:Nat) (i:Int),(kst Z n i).1<=(kst Z n i).2+1/\(kst Z n i).2<=(kst Z n i).1+1
 | 0,i=>by unfold kst;split <;> decide
 | n+1,i=>ztl _ _
theorem zj3:∀(n:Nat) (i:Int),0<=(kst Z n i).1/\0<=(kst Z n i).2
 | 0,i=>by unfold kst;split <;> decide
 | n+1,i=>by obtain⟨a,b⟩:=zj3 n i;obtain⟨c,d⟩:=zj3 n (i+2 ^ n);unfold kst jn;constructor <;> (dsimp only;split <;> lia)
theorem zj4:∀(n:Nat) (i:Int),kst (λx=>¬Z x) n i=((kst Z n i).2,(kst Z n i).1)
 | 0,i=>by unfold kst;by_cases z:Z i;rw[if_neg (λq=>q z),if_pos z];rw[if_pos z,if_neg z]
 | n+1,i=>by unfold kst;rw[zj4 n i,zj4 n (i+2 ^ n)];rfl
variable{bits:Int}{ps:BL}
theorem zrg{b:Int×Int}(B:IsBk bits b.1 b.2){n:Nat}(h:b.2=((n+1:Nat):Int)):upH b=(b.1+2 ^ n,(n:Int)):=by
 have l:mu (b.2 - 1)=n:=by lia
 have:=B.x1 (by lia);rw[l,h]at this;unfold upH;rw[l,this];have u:(2:Int) ^ mu ((n+1:Nat):Int) / 2=2 ^ n:=by rw[bS,bH];lia
 rw[u];exact dD rfl (by show b.2 - 1=n;lia)
theorem zou{b:Int×Int}(h:HasA ps b):∀x,b.1<=x->x<eB b->mB x ps:=λx u o=>by obtain⟨p,l,p1,p2⟩:=h;exact⟨p,l,by lia,by lia⟩
theorem VN(u:0<=bits)(C:CanP Z ps)(w:∀x,Z x->0<=x/\x<2 ^ mu bits):∀(n:Nat) (b:Int×Int),IsBk bits b.1 b.2->b.2=(n:Int)->zbu ps n b=kst Z n b.1
 | 0,b,B,e=>by
  have v:eB b=b.1+1:=by rw[eB,e];rfl
  unfold zbu kst;by_cases hn:HasN ps b;rw[if_pos hn,if_neg (λz=>(Ws.mp hn) b.1 (aN _) (by lia) ((C.mem _).mpr z))];rw[if_neg hn,if_pos (bg λz=>hn (Ws.mpr λx l o m=>z (by
   have:x=b.1:=by lia
   rw[<- this];exact(C.mem x).mp m)))]
 | n+1,b,B,e=>by
  have v:eB b=b.1+2 ^ (n+1):=by rw[eB,e];rfl
  unfold zbu;by_cases hn:HasN ps b;rw[if_pos hn,Wt (n+1) b.1 λx l o z=>(Ws.mp hn) x l (by lia) ((C.mem x).mpr z)];rw[if_neg hn];by_cases ha:HasA ps b;rw[if_pos ha,kst_all (n+1) b.1 λx l o=>(C.mem x).mp (zou ha x l (by lia))];rw[if_neg ha];have I:=zrg B e;have N:loH b=(b.1,(n:Int)):=dD rfl (by show b.2 - 1=n;lia);have G:IsBk bits (loH b).1 (loH b).2:=B.low (by lia);have J:IsBk bits (upH b).1 (upH b).2:=by have:=B.up (by lia);have L:b.1+2 ^ mu b.2 / 2=(upH b).1:=bv (B.x1 (by lia));rw[L]at this;exact this
  rw[VN u C w n (loH b) G (by show b.2 - 1=n;lia),VN u C w n (upH b) J (by show b.2 - 1=n;lia),I];rfl
theorem zss(l:0<=bits):IsBk bits 0 bits:=⟨l,aN _,0,aN _,by simp,Bd.JT _⟩
theorem Wh(l:0<=bits)(C:CanP Z ps)(w:∀x,Z x->0<=x/\x<2 ^ mu bits):zbp bits ps=(kst Z (mu bits) 0).1:=by unfold zbp;rw[VN l C w (mu bits) (0,bits) (zss l) (by show bits=_;lia)]
theorem znm{rs:RL}(h:∀r∈rs,IsBk bits r.1.1 r.1.2/\(r.2=0\/r.2=1))(nd:(rs.map (·.1)).Nodup):Rok rs:=⟨λr l=>⟨ZN (h r l).1,(h r l).2⟩,nd⟩
theorem zk4{rs:RL}(o:0<=bits)(h:∀r∈rs,IsBk bits r.1.1 r.1.2):Ye (mu bits) rs:=λr l=>by have B:=h r l;have b:=B.bounds o;have:=Bd.JT (mu r.1.2);exact⟨by have:=B.2.1;lia,b.1,by lia⟩
theorem zqu(l:0<=bits)(C:CanP Z ps)(w:∀x,Z x->0<=x/\x<2 ^ mu bits){rs:RL}(R:Rok rs)(I:Ye (mu bits) rs)(h:∀x,0<=x->x<2 ^ mu bits->(SgX rs x 1↔Z x)):zbp bits ps<=(dP rs:Int):=by rw[Wh l C w];exact znk R I h
theorem zsB{p q:Int×Int}{l:BL}(P:l.Pairwise λa b=>eB a<=b.1)(o:p∈l)(u:q∈l){x:Int}(G:inb p x)(C:inb q x):p=q:=by
 induction l with
 | nil=>cases o
 | cons a l v =>rw[ba]at P;unfold inb at G C;rcases ax.mp o with rfl|o <;> rcases ax.mp u with rfl|u;rfl;have:=P.1 q ‹q∈l›;lia;have:=P.1 p ‹p∈l›;lia;exact v P.2 o u
theorem Vp(I:0<=bits)(C:CanP Z ps)(w:∀x,Z x->0<=x/\x<2 ^ mu bits){l:BL}(P:Ptc bits l)(R:∀x,mB x l↔Z x):zbp bits ps<=(dP l:Int):=by
 have nd:((l.map λp=>(p,(1:Int))).map (·.1)).Nodup:=by rw[b6];show(l.map λp=>p).Nodup;rw[List.map_id''];refine P.2.imp λ{a b} h e=>?_;have:=Bd.JT (mu a.2);rw[e]at h;unfold eB at h;rw[e]at this;lia;intro;rfl
 have mem:∀r∈l.map λp=>(p,(1:Int)),r.1∈l/\r.2=1:=λr v=>by obtain⟨p,G,rfl⟩:=aR.mp v;exact⟨G,rfl⟩
 have:=zqu I C w (rs:=l.map λp=>(p,1)) (znm (bits:=bits) (λr v=>⟨P.1 _ (mem r v).1,xw (mem r v).2⟩) nd) (zk4 I λr v=>P.1 _ (mem r v).1) λx h0 U=>by rw[<- R x];constructor;rintro(⟨e,_⟩|⟨r,v,J,_⟩);lia;exact⟨r.1,(mem r v).1,J.1,J.2⟩;rintro⟨p,G,p1,p2⟩;refine xw ⟨(p,1),aR.mpr ⟨p,G,rfl⟩,⟨p1,p2⟩,rfl,λq S L=>?_⟩;have:=zsB P.2 G (mem q S).1 ⟨p1,p2⟩ L;show p.2<=q.1.2;rw[this];exact aN _
 simpa using this
end
theorem Vu:∀{o:List Int},o.Pairwise (·<·)->∀q∈o.zip o.tail,q.1∈o/\q.2∈o/\q.1<q.2/\∀e∈o,e<=q.1\/q.2<=e
 | [],_,q,h=>by simp at h
 | [a],_,q,h=>by simp at h
 | a::b::o,p,q,h=>by
  rw[ba]at p;obtain⟨p1,p2⟩:=p;have h':q=(a,b)\/q∈(b::o).zip (b::o).tail:=by simpa using h
  have rest:∀e∈o,b<e:=(ba.mp p2).1;rcases h' with rfl|h';refine⟨hH _,io _ (hH _),p1 b (hH _),λe he=>?_⟩;rcases ax.mp he with rfl|he;exact fj (aN _);rcases ax.mp he with rfl|he;exact xw (aN _);exact xw (eT (rest e he));obtain⟨u,x,C,v⟩:=Vu p2 q h';refine⟨io _ u,io _ x,C,λe he=>?_⟩;rcases ax.mp he with rfl|he;exact fj (eT (p1 _ u));exact v e he
theorem zmE{x:Int}:∀{l:List Int},l.Pairwise (·<·)->(∃a∈l,a<=x)->(∃b∈l,x<b)->∃q∈l.zip l.tail,q.1<=x/\x<q.2
 | [],_,⟨a,o,_⟩,_=>by cases o
 | [c],_,⟨a,o,h1⟩,⟨b,hb,h2⟩=>by rw[aE]at o hb;omega
 | a::b::l,p,h1,h2=>by
  rw[ba]at p;obtain⟨p1,p2⟩:=p;have o:a<=x:=by obtain⟨c,hc,hx⟩:=h1;rcases ax.mp hc with rfl|hc;exact hx;have:=p1 c hc;omega
  by_cases z:x<b;exact⟨(a,b),by simp,o,z⟩;obtain⟨q,u,v⟩:=zmE (x:=x) p2 ⟨b,hH _,by omega⟩ (by obtain⟨c,hc,hx⟩:=h2;rcases ax.mp hc with rfl|hc;omega;exact⟨c,hc,hx⟩);exact⟨q,by simpa using xw (by simpa using u),v⟩
def Uj(rs:RL):List Int:=rs.flatMap λr=>[r.1.1,eB r.1]
theorem VO{rs:RL}{x:Int}:x∈Uj rs↔∃r∈rs,x=r.1.1\/x=eB r.1:=by unfold Uj;simp[sU]
theorem zm_{rs:RL}{C:List Int}(E:Edg (Uj rs) C){q:Int×Int}(J:q∈C.zip C.tail){x:Int}(R:q.1<=x)(L:x<q.2)(s:Int):SgX rs x s↔SgX rs q.1 s:=by
 obtain⟨_,_,U,I⟩:=Vu E.1 q J;have key:∀r∈rs,(inb r.1 x↔inb r.1 q.1):=λr o=>by have N:=I r.1.1 ((E.2 _).mpr (VO.mpr ⟨r,o,fj rfl⟩));have S:=I (eB r.1) ((E.2 _).mpr (VO.mpr ⟨r,o,xw rfl⟩));unfold inb;omega
 unfold SgX;constructor;rintro(⟨e,h⟩|⟨r,o,G,e,m⟩);exact fj ⟨e,λr o z=>h r o ((key r o).mpr z)⟩;exact xw ⟨r,o,(key r o).mp G,e,λv u z=>m v u ((key v u).mpr z)⟩;rintro(⟨e,h⟩|⟨r,o,G,e,m⟩);exact fj ⟨e,λr o z=>h r o ((key r o).mp z)⟩;exact xw ⟨r,o,(key r o).mpr G,e,λv u z=>m v u ((key v u).mp z)⟩
theorem zqi{rs:RL}{o:List Int}(E:Edg (Uj rs) o){x:Int}(h:SgX rs x 1):∃q∈o.zip o.tail,q.1<=x/\x<q.2:=by rcases h with⟨e,_⟩|⟨r,v,u,_,_⟩;omega;exact zmE E.1 ⟨_,(E.2 _).mpr (VO.mpr ⟨r,v,fj rfl⟩),u.1⟩ ⟨_,(E.2 _).mpr (VO.mpr ⟨r,v,xw rfl⟩),u.2⟩
theorem zje{rs:RL}:dP (Uj rs)=2*dP rs:=by
 unfold Uj;induction rs with
 | nil=>rfl
 | cons r rs o=>rw[rW,a9,o,aH];simp;omega
theorem zrC:∀{o acc:List Int},o.Nodup->(∀x∈o,x∈acc)->dP o<=dP acc
 | [],_,_,_=>dw _
 | a::o,acc,nd,h=>by rw[cz]at nd;have u:=h a (hH _);have:=zrC (acc:=acc.erase a) nd.2 λx hx=>(k9 (λ(e:x=a)=>nd.1 (e▸hx))).mpr (h x (io _ hx));rw[iO u]at this;have pos:0<dP acc:=kD u;rw[aH];omega
theorem ztQ{acc l:List Int}(E:Edg acc l):dP l<=dP acc:=zrC (E.1.imp λh=>Int.ne_of_lt h) λx hx=>(E.2 x).mp hx
section
variable{g:DTG}{tt:DTT}{te:DTE}{ρ0:En}{x:ae}{xs:qD}{acc:List Int}{n:Nat}{R:List Int->Nat->Prop}
instance zAC:Stp (ZL g tt te ρ0 (x::xs) acc n R) (g x ρ0 λρ1=>tt ρ1 n λb n2=>if b=bj then te ρ1 n2 λt n3=>∃j,t=b5 j/\dP acc<4000/\ZL g tt te ρ0 xs (acc++[j]) n3 R else ZL g tt te ρ0 xs acc n2 R):=⟨λh=>h⟩
instance zAB:Stp (ZL g tt te ρ0 [] acc n R) (R acc n):=⟨λh=>h⟩
end
open Classical in
noncomputable def sB (ps:BL) (a:Int) (b:Int×Int):Int:=if Prt ps b then sgn a (zbu ps (mu (b.2 - 1)) (loH b)) (zbu ps (mu (b.2 - 1)) (upH b)) else if HasN ps b then 0 else 1
def par(b:Int×Int):Int×Int:=(b.1 / 2 ^ mu (b.2+1)*2 ^ mu (b.2+1),b.2+1)
noncomputable def aS (ps:BL):Nat->Int×Int->Int
 | 0,_=>0
 | m+1,b=>sB ps (aS ps m (par b)) (par b)
noncomputable def aF (bits:Int) (ps:BL) (b:Int×Int):Int:=aS ps (mu (bits - b.2)) b
noncomputable def sF (bits:Int) (ps:BL) (b:Int×Int):Int:=sB ps (aF bits ps b) b
theorem zuI{a:Int}{x y:Int×Int}:sgn a x y=0\/sgn a x y=1:=by unfold sgn;split <;> split <;> simp
theorem zu0{ps:BL}{a:Int}{b:Int×Int}:sB ps a b=0\/sB ps a b=1:=by unfold sB;split;exact zuI;split <;> simp
section
variable{bits:Int}{ps bs:BL}{Z:Int->Prop}
theorem zxO{b:Int×Int}:aF bits ps b=0\/aF bits ps b=1:=by
 unfold aF;cases(bits - b.2).toNat with
 | zero=>exact fj rfl
 | succ m=>exact zu0
theorem zpr:aF bits ps (0,bits)=0:=by unfold aF;rw[show(bits - (0,bits).2).toNat=0 by show(bits - bits).toNat=0;lia];rfl
theorem V7{b c:Int×Int}(B:IsBk bits b.1 b.2)(h:1<=b.2)(hc:c=loH b\/c=upH b):aF bits ps c=sF bits ps b:=by
 have l:c.2=b.2 - 1:=by rcases hc with rfl|rfl <;> rfl
 have u:par c=b:=by unfold par;rw[l,show b.2 - 1+1=b.2 by lia];refine dD ?_ rfl;show c.1 / 2 ^ mu b.2*2 ^ mu b.2=b.1;rcases hc with rfl|rfl;obtain⟨_,_,k,_,e,_⟩:=B;show b.1 / 2 ^ mu b.2*2 ^ mu b.2=b.1;rw[e,iI _ (by have:=Bd.JT (mu b.2);lia)];exact B.x3 (by lia)
 unfold aF;have v:=B.2.1;rw[show(bits - c.2).toNat=mu (bits - b.2)+1 by lia,aS,u];rfl
theorem PInv.desc(b0:0<=bits)(I:PInv bits ps bs (dP bs)):∀(k:Nat) (c b:Int×Int),c∈bs->b∈bs->b.1<=c.1->c.1<eB b->c.2+(k:Int)+1=b.2->Prt ps b:=by
  intro k;induction k using t5 with|ind k U =>
  intro c b hc C J R l;have B:=I.bk b C;have Cb:=I.bk c hc;rcases I.par c hc with rfl|⟨j,p,hj,L,pp,z⟩;have:=B.2.1;dsimp only at l;lia;have P:=I.bk p (aC L);have p1:=pp.pos P;have e2:c.2=p.2 - 1:=by rcases z with rfl|rfl <;> rfl
  have ep:=up_eq P p1;have tp:=Bd.JT (mu (p.2 - 1));have S:(2:Int) ^ mu p.2=2 ^ mu (p.2 - 1)+2 ^ mu (p.2 - 1):=by rw[show mu p.2=mu (p.2 - 1)+1 by lia];exact Ud _
  have u:inb p c.1:=by unfold inb eB;rcases z with rfl|rfl;exact⟨aN _,by show p.1<_;lia⟩;rw[ep];exact⟨by show p.1<=p.1+_;lia,by show p.1+_<_;lia⟩
  cases k with
  | zero =>have:p=b:=Ze (ZN P) (ZN B) (by push_cast at l;lia) u ⟨J,R⟩;rw[<- this];exact pp
  | succ k =>
   refine U k (ik k) p b (aC L) C ?_ ?_ (by push_cast at l;lia);obtain⟨_,x,ex⟩:=ZN P;obtain⟨_,y,G⟩:=ZN B;have v:=Bd.JT (mu p.2);have Y:(2:Int) ^ mu b.2=2 ^ (mu b.2 - mu p.2)*2 ^ mu p.2:=by rw[<- h8,Nat.sub_add_cancel (by push_cast at l;lia)]
   rw[Y,<- cj]at G;have q:=u.2;unfold eB at q;rw[ex]at q ⊢;rw[G]at J ⊢;rcases fU x (y*2 ^ (mu b.2 - mu p.2)) with w|w;have:=bz (show x+1<=y*2 ^ (mu b.2 - mu p.2) by lia) (eT v);rw[cS]at this;lia;exact bz w (eT v);have:=u.1;lia
theorem VY{S:Int×Int->Option Int}(l:∀b,b∉bs->S b=ao):∀(n:Nat) (i:Int),(∀c∈bs,¬(i<=c.1/\c.1<i+2 ^ n/\c.2<=(n:Int)))->cnt S n i=0/\∀d x,decT S n i d x=d
 | 0,i,h=>by have e:S (i,0)=ao:=l _ λz=>h _ z ⟨aN _,by show i<i+2 ^ 0;rw[lN];lia,by simp⟩;constructor;unfold cnt;rw[e];rfl;intro d x;unfold decT;rw[e];rfl
 | n+1,i,h=>by have p2:=Ud n;have pp:(0:Int)<2 ^ n:=Bd.JT n;have e:S (i,((n+1:Nat):Int))=ao:=l _ λz=>h _ z ⟨aN _,by show i<i+2 ^ (n+1);lia,aN _⟩;obtain⟨v,o⟩:=VY l n i λc hc z=>h c hc ⟨z.1,by lia,by push_cast;lia⟩;obtain⟨u,C⟩:=VY l n (i+2 ^ n) λc hc z=>h c hc ⟨by lia,by lia,by push_cast;lia⟩;constructor;unfold cnt;rw[e,v,u];rfl;intro d x;unfold decT;rw[e,o,C];split <;> rfl
theorem zuH{a:Int}{l u:Int×Int}(o:a=0\/a=1):(if sgn a l u=a then(0:Int) else 1)+pk (sgn a l u) l+pk (sgn a l u) u=pk a (jn l u):=by rcases o with rfl|rfl;unfold sgn jn pk;simp only[if_true];by_cases z:l.1+u.1<=l.2+u.2+1;simp only[z,if_true];rw[if_neg (by lia)];lia;simp only[z,if_false,show ¬(1:Int)=0 by decide];rw[if_pos (by lia)];lia;unfold sgn jn pk;simp only[show ¬(1:Int)=0 by decide,if_false];by_cases z:l.2+u.2<=l.1+u.1+1;simp only[z,if_true,show ¬(1:Int)=0 by decide,if_false];rw[if_neg (by lia)];lia;simp only[z,if_false,show ¬(0:Int)=1 by decide,if_true];rw[if_pos (by lia)];lia
theorem zq9(b0:0<=bits)(C:CanP Z ps)(w:∀x,Z x->0<=x/\x<2 ^ mu bits)(I:PInv bits ps bs (dP bs)){S:Int×Int->Option Int}(hS1:∀b∈bs,S b=if sF bits ps b=aF bits ps b then ao else ai (sF bits ps b))(hS2:∀b,b∉bs->S b=ao) :
  ∀(n:Nat) (b:Int×Int),b∈bs->b.2=(n:Int)->(∀x,b.1<=x->x<b.1+2 ^ n->(decT S n b.1 (aF bits ps b) x=1↔Z x))/\cnt S n b.1=pk (aF bits ps b) (kst Z n b.1):=by
  intro n;induction n using t5 with|ind n ih =>
  intro b hb J;have B:=I.bk b hb;have e1:eB b=b.1+2 ^ n:=by rw[eB,J];rfl
  have Y:(b.1,(n:Int))=b:=dD rfl J.symm;have sb:=hS1 b hb;have gd:(S b).getD (aF bits ps b)=sF bits ps b:=by rw[sb];split;rename_i z;rw[z];rfl;rfl
  have so:(if eA (S b) then(1:Int) else 0)=if sF bits ps b=aF bits ps b then 0 else 1:=by rw[sb];split <;> simp
  have G:=zxO (bits:=bits) (ps:=ps) (b:=b);have leaf:¬Prt ps b->(∀x,b.1<=x->x<b.1+2 ^ n->(sF bits ps b=1↔Z x))/\(if sF bits ps b=aF bits ps b then(0:Int) else 1)=pk (aF bits ps b) (kst Z n b.1):=λnp=>by
   by_cases hN:HasN ps b;have s0:sF bits ps b=0:=by unfold sF sB;rw[if_neg np,if_pos hN]
   have nz:∀x,b.1<=x->x<b.1+2 ^ n->¬Z x:=λx u v z=>(Ws.mp hN) x u (by lia) ((C.mem x).mpr z);rw[s0,Wt n b.1 nz];refine⟨λx u v=>⟨λz=>by lia,λz=>absurd z (nz x u v)⟩,?_⟩;rcases G with z|z <;> rw[z] <;> rfl;have s1:sF bits ps b=1:=by unfold sF sB;rw[if_neg np,if_neg hN]
   have hA:HasA ps b:=bg λz=>np ⟨hN,z⟩;have az:∀x,b.1<=x->x<b.1+2 ^ n->Z x:=λx u v=>(C.mem x).mp (zou hA x u (by lia));rw[s1,kst_all n b.1 az];refine⟨λx u v=>⟨λ_=>az x u v,λ_=>rfl⟩,?_⟩;rcases G with z|z <;> rw[z] <;> rfl
  cases n with
  | zero =>
   have np:¬Prt ps b:=λz=>by have:=z.pos B;push_cast at J;lia
   have U:(b.1,(0:Int))=b:=Y;obtain⟨l1,l2⟩:=leaf np;refine⟨λx u v=>?_,?_⟩;unfold decT;rw[U,gd];exact l1 x u v;unfold cnt;rw[U,so];exact l2
  | succ n =>
   have p2:=Ud n;have pp:(0:Int)<2 ^ n:=Bd.JT n;by_cases np:Prt ps b;have u:=np.pos B;have el:loH b=(b.1,(n:Int)):=dD rfl (by show b.2 - 1=n;push_cast at J;lia);have eu:upH b=(b.1+2 ^ n,(n:Int)):=zrg B J;obtain⟨j,hj⟩:=dB.mp hb;obtain⟨⟨il,_,hil⟩,⟨iu,_,L⟩⟩:=I.kid j b (aw.mp hj).1 hj np;obtain⟨dl,cl⟩:=ih n (ik n) (loH b) (aC hil) (by rw[el]);obtain⟨du,R⟩:=ih n (ik n) (upH b) (aC L) (by rw[eu]);rw[V7 B u (fj rfl)]at dl cl;rw[V7 B u (xw rfl)]at du R;rw[el]at dl cl;rw[eu]at du R;refine⟨λx u v=>?_,?_⟩;unfold decT;rw[Y,gd];by_cases z:x<b.1+2 ^ n;rw[if_pos z];exact dl x u z;rw[if_neg z];exact du x (by show b.1+2 ^ n<=x;lia) (by show x<b.1+2 ^ n+2 ^ n;lia);unfold cnt kst;rw[Y,so];have cl:cnt S n b.1=pk (sF bits ps b) (kst Z n b.1):=cl;have R:cnt S n (b.1+2 ^ n)=pk (sF bits ps b) (kst Z n (b.1+2 ^ n)):=R;rw[cl,R];have es:sF bits ps b=sgn (aF bits ps b) (kst Z n b.1) (kst Z n (b.1+2 ^ n)):=by have Bl:=I.bk _ (aC hil);have Bu:=I.bk _ (aC L);unfold sF sB;rw[if_pos np,show(b.2 - 1).toNat=n by push_cast at J;lia,VN b0 C w n (loH b) Bl (by rw[el]),VN b0 C w n (upH b) Bu (by rw[eu]),el,eu]
   rw[es];exact zuH G;obtain⟨l1,l2⟩:=leaf np;have no:∀c∈bs,¬(b.1<=c.1/\c.1<b.1+2 ^ (n+1)/\c.2<=(n:Int)):=λc hc z=>np (I.desc b0 (mu (b.2 - c.2 - 1)) c b hc hb z.1 (by lia) (by push_cast at J;lia));obtain⟨c1,d1⟩:=VY hS2 n b.1 λc hc z=>no c hc ⟨z.1,by lia,z.2.2⟩;obtain⟨c2,d2⟩:=VY hS2 n (b.1+2 ^ n) λc hc z=>no c hc ⟨by lia,by lia,z.2.2⟩;refine⟨λx u v=>?_,?_⟩;unfold decT;rw[Y,gd,d1,d2];have:=l1 x u v;split <;> exact this;unfold cnt;rw[Y,so,c1,c2,<- l2];lia
noncomputable def frB (bits:Int) (ps:BL) (b:Int×Int):Option ((Int×Int)×Int):=open Classical in if sF bits ps b=aF bits ps b then ao else ai (b,sF bits ps b)
theorem ztM{l:BL}{r:(Int×Int)×Int}:r∈l.filterMap (frB bits ps)↔r.1∈l/\sF bits ps r.1≠aF bits ps r.1/\r.2=sF bits ps r.1:=by rw[gE];constructor;rintro⟨b,o,e⟩;unfold frB at e;split at e;cases e;rename_i z;cases e;exact⟨o,z,rfl⟩;rintro⟨x,u,v⟩;exact⟨r.1,x,by unfold frB;rw[if_neg u,<- v]⟩
theorem zxl{l:BL}(nd:l.Nodup):((l.filterMap (frB bits ps)).map (·.1)).Nodup:=by
 rw[rh];refine nE (R:=(·≠·)) _ (λa C h b x G v=>?_) nd;have key:∀{a b:Int×Int},Option.map (·.1) (frB bits ps a)=ai b->b=a:=λ{a b} e=>by unfold frB at e;split at e;cases e;exact(aG e).symm
 rw[key x,key v];exact h
theorem zjd(G:0<=bits)(C:CanP Z ps)(w:∀x,Z x->0<=x/\x<2 ^ mu bits)(I:PInv bits ps bs (dP bs)){rs:RL}(pm:rs.Perm (bs.filterMap (frB bits ps))) :
  Rls0 bits rs/\(dP rs:Int)=zbp bits ps/\∀x,0<=x->x<2 ^ mu bits->(SgX rs x 1↔Z x):=by
 have mem:∀r,r∈rs↔r.1∈bs/\sF bits ps r.1≠aF bits ps r.1/\r.2=sF bits ps r.1:=λr=>pm.mem_iff.trans ztM;have nd:(rs.map (·.1)).Nodup:=(pm.map _).nodup_iff.mpr (zxl I.nd);have bk:∀r∈rs,IsBk bits r.1.1 r.1.2:=λr l=>I.bk _ ((mem r).mp l).1;have J:∀r∈rs,r.2=0\/r.2=1:=λr l=>by rw[((mem r).mp l).2.2];exact zu0
 have R:Rok rs:=znm (bits:=bits) (λr l=>⟨bk r l,J r l⟩) nd;have In:=zk4 G bk;have S:∀b∈bs,sgAt rs b=if sF bits ps b=aF bits ps b then ao else ai (sF bits ps b):=λb v=>by
  split;rename_i z;cases e:sgAt rs b with
  | none=>rfl
  | some s=>exact absurd z ((mem _).mp (U1 e)).2.1
  rename_i z;exact zjB R.2 (r:=(b,sF bits ps b)) ((mem _).mpr ⟨v,z,rfl⟩)
 have L:∀b,b∉bs->sgAt rs b=ao:=λb v=>by
  cases e:sgAt rs b with
  | none=>rfl
  | some s=>exact absurd ((mem _).mp (U1 e)).1 v
 have l:(0,bits)∈bs:=aC I.root;obtain⟨d,c⟩:=zq9 G C w I S L (mu bits) (0,bits) l (by show bits=_;lia);rw[zpr]at d c;refine⟨⟨λr l=>⟨bk r l,by have:=J r l;lia⟩,nd⟩,?_,λx x0 x1=>?_⟩;rw[<- zo8 R In,Wh G C w];exact c;rw[zm2 R In x0 x1];exact d x x0 (by show x<0+_;lia)
end
def lFmt:ae->(Str->Prop)->Prop
 | eN s,Q=>kN s<=1000000/\Q s
 | b5 i,Q=>i.natAbs.log2<1920/\Q (toString i)
 | _,_=>False
def vFmt:V->(Str->Prop)->Prop
 | .str s,Q=>kN s<=1000000/\Q s
 | .int i,Q=>i.natAbs.log2<1920/\Q (toString i)
 | _,_=>False
def dFmt(d:DTE):DTE:=λl n R=>d l n λt o=>lFmt t λs=>R (eN s) o
section
variable{X:Cx}{e a b:aX}{es:List aX}{d:DTE}{te:TE}{pos:Pos}
theorem zvw(h:PE X e te):PE X (jv e (-1) ao pos) λσ H Q=>te σ H λv C=>vFmt v λs=>Q (.str s) C:=by
 intro pins s σ H Q I z;refine wpAny_FormattedValue_plain (cn (h _ _ _ _ _ I z) (λu s1 ⟨v,C,G,J,q⟩=>?_) λ_ _ x=>x);cases v with
 | str y =>obtain⟨t,rfl⟩:=J;exact wpAny_formatField_str ⟨.str y,C,G,⟨_,rfl⟩,q.2⟩ ⟨.str y,C,G.tok _,⟨_,rfl⟩,q.2⟩ (bu q.1 (by decide))
 | int i =>obtain⟨t,rfl⟩:=J;exact wpAny_formatField_int q.1 ⟨.str (toString i),C,G.tok _,⟨_,rfl⟩,q.2⟩
 | _=>exact eJ q
theorem zr0(h:DE X e d):DE X (jv e (-1) ao pos) (dFmt d):=by obtain⟨te,p,h⟩:=h;refine⟨_,zvw p,λC L σ H n Q R S hd I=>h C L σ H n _ _ S hd λt U v N r x G J=>?_⟩;unfold lFmt at r;split at r;rw[J.strI];exact⟨r.1,I _ _ _ _ r.2 x G (.str _)⟩;rw[J.intI];exact⟨r.1,I _ _ _ _ r.2 x G (.str _)⟩;exact eJ r
abbrev TJ:=Str->St->Hp->(Str->Hp->Prop)->Prop
abbrev DTJ:=Str->En->Nat->(Str->Nat->Prop)->Prop
def PJ(X:Cx)(es:List aX)(t:TJ):Prop:=∀(pins:qO) (s:au) (σ:St) (H:Hp) (acc:Str) (P:Str->Hp->Prop) (Q:Str->au->Prop),Inv X pins σ H s->t acc σ H P->(∀out H' s',Inv X pins σ H' s'->P out H'->Q out s')->Joins (model X.prog X.w) X.A X.xe (evalEach es X.env) acc Q s
def DJ(X:Cx)(es:List aX)(d:DTJ):Prop:=∃t,PJ X es t/\∀(C:Ctx) (o:En) (σ:St) (H:Hp) (n:Nat) (acc:Str) (Q:Str->Hp->Prop) (R:Str->Nat->Prop),Stt X.K C o σ H n->d acc o n R ->
 (∀out l H',R out l->ExtE C.hd H H'->Hn X.K C.hd H' l->Q out H')->t acc σ H Q
def zxy:DTJ:=λacc _ n R=>R acc n
def zrR(d:DTE)(ds:DTJ):DTJ:=λacc o n R=>d o n λt u=>lStr t λy=>kN (acc++y)<=1000000/\ds (acc++y) o u R
theorem zxx:DJ X [] zxy:=⟨λacc _ H P=>P acc H,λ_ _ _ H acc _ _ I h k=>k acc H _ I h,λ_ _ _ H n acc _ _ S h l=>l acc n H h ExtE.refl S.hnd⟩
theorem zkh{ds:DTJ}(h:DE X e d)(G:DJ X es ds):DJ X (e::es) (zrR d ds):=by
 obtain⟨te,p,h⟩:=h;obtain⟨ts,ps,G⟩:=G;refine⟨λacc σ H P=>te σ H λv o=>∃y,v=.str y/\kN (acc++y)<=1000000/\ts (acc++y) σ o P,λpins s σ H acc P Q I z k=>?_,λC L σ H n acc Q R S hd hq=>?_⟩;refine cn (p _ _ _ _ _ I z) (λu s1 ⟨v,o,I1,rv,y,ev,l,q⟩=>?_) λ_ _ x=>x;subst ev;obtain⟨t,rfl⟩:=rv;exact⟨y,t,rfl,bu l (by decide),ps _ _ _ _ _ _ _ I1 q k⟩;refine h C L σ H n _ _ S hd λt n1 v o r J Z q1=>?_;cases t with
 | str y =>rw[q1.strI];exact⟨y,rfl,r.1,G C L σ o n1 _ _ _ (S.on J Z) r.2 λout Y H' U e2 N=>hq out Y H' U (J.trans e2) N⟩
 | _=>exact eJ r
def zxD(d:DTJ):DTE:=λo n R=>d (ar "") o n λout l=>kN out<=1000000/\R (eN out) l
theorem ztZ{ds:DTJ}(h:DJ X (a::b::es) ds):DE X (.JoinedStr (a::b::es) pos) (zxD ds):=by obtain⟨ts,ps,h⟩:=h;refine⟨λσ H Q=>ts (ar "") σ H λout H'=>kN out<=1000000/\Q (.str out) H',λpins s σ H Q I z=>?_,λC G σ H n Q R S hd x=>?_⟩;exact wpAny_JoinedStr (ps _ _ _ _ _ _ _ I z λout H' s' l q=>⟨bu q.1 (by decide),.str out,H',l.tok _,⟨_,rfl⟩,q.2⟩);exact h C G σ H n _ _ _ S hd λout L H' r u v=>⟨r.1,x _ _ _ _ r.2 u v (.str _)⟩
instance zA5 {ρ:En}{n:Nat}{R:qN}:Stp (dFmt d ρ n R) (d ρ n λt n1=>lFmt t λs=>R (eN s) n1):=⟨λh=>h⟩
instance zyU {i:Int}{Q:Str->Prop}:Stp (lFmt (b5 i) Q) (i.natAbs.log2<1920/\Q (toString i)):=⟨λh=>h⟩
instance zyT {s:Str}{Q:Str->Prop}:Stp (lFmt (eN s) Q) (kN s<=1000000/\Q s):=⟨λh=>h⟩
instance zAR {ds:DTJ}{ρ:En}{n:Nat}{R:qN}:Stp (zxD ds ρ n R) (ds (ar "") ρ n λout n'=>kN out<=1000000/\R (eN out) n'):=⟨λh=>h⟩
instance zzp {acc:Str}{ρ:En}{n:Nat}{R:Str->Nat->Prop}:Stp (zxy acc ρ n R) (R acc n):=⟨λh=>h⟩
instance zyC {ds:DTJ}{acc:Str}{ρ:En}{n:Nat}{R:Str->Nat->Prop}:Stp (zrR d ds acc ρ n R) (d ρ n λt n1=>lStr t λy=>kN (acc++y)<=1000000/\ds (acc++y) ρ n1 R):=⟨λh=>h⟩
end
open Builtin Builtin.Str
theorem zjy:∀{l:List (Str×Tok)},Vals ((l.map (·.1)).map V.str) (strValues l)
 | []=>ja
 | (x,t)::l=>f6 ⟨t,rfl⟩ zjy
def zu6:V->List V->Hp->VK->Prop:=λx xs H Q=>∃z y,x=.str z/\xs=[.str y]/\(kN y == 0)=bA/\kN z<=1000000/\dP (eZ z y)<=100000/\∀p,H p=ao->Q (.ref p) (upd H p (.lst ((eZ z y).map V.str)))
section
variable{X:Cx}{a b e:aX}{da db:DTE}{p2 p3:Pos}
theorem zqq:MtR X "str.split" zu6:=by
 intro pins s σ H x xs v us Q I R rs h;obtain⟨x,y,rfl,rfl,J,hx,G,q⟩:=h;obtain⟨t,rfl⟩:=R;cases rs with
 | cons L N =>
  cases N;obtain⟨u,rfl⟩:=L;have hsz:kN x<=sizeLine:=bu hx (by decide);have go:∀(l:List (Str×Tok)) (k:Nat),l.map (·.1)=eZ x y->EP X pins σ Q (aZ s.heap.objs.size) { s with toks:=k,heap:=dL s.heap { cls:=aY "list",data:=f9 (bm (strValues l)) } }:=λl k e=>by refine⟨.ref s.heap.objs.size,_,I.laid (t':=k) (o:=.lst ((eZ x y).map V.str)) (λb o e=>aj _ e) (av _) ?_,rfl,q _ (I.hok.fresh (av _))⟩;refine⟨by rw[aI];exact bu G (by decide),strValues l,_,?_,aA _ rfl⟩;rw[<- e];exact zjy
  have C:eZ x y=if (decide (kN x<kN y)||decide (strKind x<strKind y))=bj then[x] else if dy (occurrences x y 0 (kN x) (kN x+1))=bj then[x] else partsBetween x (occurrences x y 0 (kN x) (kN x+1)) (kN y):=rfl
  cases h1:(decide (kN x<kN y)||decide (strKind x<strKind y));rw[h1,if_neg (by decide)]at C;cases hf:dy (occurrences x y 0 (kN x) (kN x+1));rw[hf,if_neg (by decide)]at C;rw[C]at G;refine lW nF (kO _ _ _) mT (mz _ _) (meets_str_split_sep x y t u h1 J hf hsz (bu G (by decide))) ?_;rw[strsFrom_eq];exact go _ _ (b3 (numbered_texts _ _) C.symm);rw[hf,if_pos rfl]at C;exact lW nF (kO _ _ _) mT (mz _ _) (meets_str_split_not_found x y t u h1 J hf) (go [(x,t)] s.toks C.symm);rw[h1,if_pos rfl]at C;exact lW nF (kO _ _ _) mT (mz _ _) (meets_str_split_cannot_occur x y t u h1) (go [(x,t)] s.toks C.symm)
def QC(z y:Str):List Str:=match occurrences z y 0 (kN z) 1 with
 | i::_=>[strSub z 0 i,y,strSub z (i+kN y) (kN z)]
 | []=>[z,gW,gW]
def zzw:V->List V->Hp->VK->Prop:=λx xs H Q=>∃z y,x=.str z/\xs=[.str y]/\(kN y == 0)=bA/\kN z<=1000000/\∀p,H p=ao->Q (.ref p) (upd H p (.tup ((QC z y).map V.str)))
theorem zs_:MtR X "str.partition" zzw:=by
 intro pins s σ H x xs v us Q I J rs h;obtain⟨x,y,rfl,rfl,L,hx,q⟩:=h;obtain⟨t,rfl⟩:=J;cases rs with
 | cons C G =>
  cases G;obtain⟨u,rfl⟩:=C;have hsz:kN x<=sizeLine:=bu hx (by decide);have N:dP (QC x y)=3:=by unfold QC;split <;> rfl
  have go:∀(l:List (Str×Tok)) (k:Nat),l.map (·.1)=QC x y->EP X pins σ Q (aZ s.heap.objs.size) { s with toks:=k,heap:=dL s.heap { cls:=aY "tuple",data:=f9 (bm (strValues l)) } }:=λl k e=>by refine⟨.ref s.heap.objs.size,_,I.laid (t':=k) (o:=.tup ((QC x y).map V.str)) (λb o e=>aj _ e) (av _) ?_,rfl,q _ (I.hok.fresh (av _))⟩;refine⟨by rw[aI,N];decide,strValues l,?_,IsTD.new _ _⟩;rw[<- e];exact zjy
  refine lW F.slot_str_partition (kO _ _ _) F.entry_str_partition (F.args_str_partition_2 _ _) (meets_str_partition x y t u L hsz) ?_;unfold QC at go;cases h1:occurrences x y 0 (kN x) 1 with
  | nil =>rw[h1]at go;exact go [(x,t),(gW,dn s),(gW,dn s)] _ rfl
  | cons i l =>rw[h1]at go;exact go [(strSub x 0 i,dn s),(y,u),(strSub x (i+kN y) (kN x),dn s+1)] _ rfl
def zr2(da db:DTE):DTA:=λo n R=>da o n λt v=>lStr t λz=>db o v λu x=>lStr u λy=>(kN y == 0)=bA/\kN z<=1000000/\dP (eZ z y)<=100000/\R ((eZ z y).map eN) x
theorem zhf{K:qF}{hd:Option aq}{O:aq->Prop}{H:Hp}:∀{ss:List Str},Reps K hd O H (ss.map V.str) (ss.map eN)
 | []=>.nil
 | s::ss=>.cons (.str s) zhf
theorem zqU(h:DL X a da)(h':DE X b db)(Nn:attributeBase a "split" X.env (eval a X.env)=eval a X.env:=by rfl)
  (N4:((backTo p3 (starEach [b] X.env)).all (λx=>!x.1)&&(backToKw p3 (keywordEach [] X.env)).all (λx=>eA x.1)
   && decide ([b].length+dP ([]:List fR)+(if dy ([]:List fR) then 0 else 1)<30))=bj:=by rfl) (Np:(p2.endLine == ib p3)=bj:=by rfl) (o:starEach [b] X.env=[(bA,eval b X.env)]:=by rfl):DN X (ee (h7 a "split" p2) [b] [] p3) (zr2 da db):=by
 obtain⟨ta,pa,h⟩:=h;obtain⟨tb,pb,h'⟩:=h';refine⟨_,Yn gM PySem.F.slot_str_split PySem.F.type_str_split zqq pa (Qu pb QI o) Nn N4 Np o rfl,λC N σ H n Q R S hd hq=>?_⟩;refine h C N σ H n _ _ S hd λt n1 v Z r G h1 q1=>?_;cases t with
 | str z =>
  rw[q1.strI];have S1:=S.on G h1;refine⟨rfl,h' C N σ Z n1 _ _ S1 r λu n2 w H2 L U J q2=>?_⟩;cases u with
  | str y =>rw[q2.strI];obtain⟨Y,r4,r5,r6⟩:=L;exact⟨z,y,rfl,rfl,Y,r4,r5,λp I=>hq _ n2 p _ _ r6 ((G.trans U).trans (ExtE.new I)) (J.same (JS I)) (Y9 (G.trans U) J I) JJ zhf⟩
  | _=>exact eJ L
 | _=>exact eJ r
def zr4(da db:DTE):DTE:=λo n R=>da o n λt v=>lStr t λz=>db o v λu x=>lStr u λy=>(kN y == 0)=bA/\kN z<=1000000/\R (fX ((QC z y).map eN)) x
theorem ztW(h:DL X a da)(h':DE X b db)(Nn:attributeBase a "partition" X.env (eval a X.env)=eval a X.env:=by rfl)
  (N4:((backTo p3 (starEach [b] X.env)).all (λx=>!x.1)&&(backToKw p3 (keywordEach [] X.env)).all (λx=>eA x.1)
   && decide ([b].length+dP ([]:List fR)+(if dy ([]:List fR) then 0 else 1)<30))=bj:=by rfl) (Np:(p2.endLine == ib p3)=bj:=by rfl) (o:starEach [b] X.env=[(bA,eval b X.env)]:=by rfl):DE X (ee (h7 a "partition" p2) [b] [] p3) (zr4 da db):=by
 obtain⟨ta,pa,h⟩:=h;obtain⟨tb,pb,h'⟩:=h';refine⟨_,Yn gM PySem.F.slot_str_partition PySem.F.type_str_partition zs_ pa (Qu pb QI o) Nn N4 Np o rfl,λC U σ H n Q R S hd hq=>?_⟩;refine h C U σ H n _ _ S hd λt n1 v H1 r N h1 q1=>?_;cases t with
 | str z =>
  rw[q1.strI];have L:=S.on N h1;refine⟨rfl,h' C U σ H1 n1 _ _ L r λu n2 w H2 J Y I q2=>?_⟩;cases u with
  | str y =>rw[q2.strI];obtain⟨Z,r4,r6⟩:=J;have S2:=L.on Y I;exact⟨z,y,rfl,rfl,Z,r4,λp G=>hq _ n2 _ _ r6 ((N.trans Y).trans (ExtE.new G)) (I.same (JS G)) (.newT (S2.free G) G zhf)⟩
  | _=>exact eJ J
 | _=>exact eJ r
instance s_split {ρ:En}{n:Nat}{R:qD->Nat->Prop}:Stp (zr2 da db ρ n R) (da ρ n λt n1=>lStr t λz=>db ρ n1 λu n2=>lStr u λy=>(kN y == 0)=bA/\kN z<=1000000/\dP (eZ z y)<=100000/\R ((eZ z y).map eN) n2):=⟨λh=>h⟩
instance zAH {ρ:En}{n:Nat}{R:qN}:Stp (zr4 da db ρ n R) (da ρ n λt n1=>lStr t λz=>db ρ n1 λu n2=>lStr u λy=>(kN y == 0)=bA/\kN z<=1000000/\R (fX ((QC z y).map eN)) n2):=⟨λh=>h⟩
end
open Builtin Builtin.Str
def glL(a:Nat):List (List Nat)->List Nat
 | []=>[]
 | [p]=>p
 | p::q::r=>p++a::glL a (q::r)
theorem zla{a:Nat}:∀{p q u v:List Nat},a∉p->a∉q->p++a::u=q++a::v->p=q/\u=v
 | [],[],u,v,_,_,e=>by simpa using e
 | [],c::q,u,v,_,hq,e=>by injection e with e1 e2;exact absurd (by rw[e1];exact hH _) hq
 | c::p,[],u,v,hp,_,e=>by injection e with e1 e2;exact absurd (by rw[<- e1];exact hH _) hp
 | c::p,d::q,u,v,hp,hq,e=>by injection e with e1 e2;obtain⟨x,o⟩:=zla (λz=>hp (io _ z)) (λz=>hq (io _ z)) e2;exact⟨by rw[e1,x],o⟩
theorem zoz{a:Nat}:∀{ps qs:List (List Nat)},ps≠[]->qs≠[]->(∀p∈ps,a∉p)->(∀q∈qs,a∉q)->glL a ps=glL a qs->ps=qs
 | [],_,h,_,_,_,_=>absurd rfl h
 | _,[],_,h,_,_,_=>absurd rfl h
 | [p],[q],_,_,_,_,e=>by rw[show p=q from e]
 | [p],q::r::s,_,_,hp,_,e=>by have e:p=q++a::glL a (r::s):=e;exact absurd (by rw[e];simp) (hp p (hH _))
 | p::r::s,[q],_,_,_,hq,e=>by have e:p++a::glL a (r::s)=q:=e;exact absurd (by rw[<- e];simp) (hq q (hH _))
 | p::p'::r,q::q'::s,_,_,hp,hq,e=>by obtain⟨u,o⟩:=zla (hp p (hH _)) (hq q (hH _)) e;rw[u,zoz (by simp) (by simp) (λx hx=>hp x (io _ hx)) (λx hx=>hq x (io _ hx)) o]
theorem Vy{a:Nat}:∀{ps:List Str},(gV ⟨#[a]⟩ ps).cps.toList=glL a (ps.map (·.cps.toList))
 | []=>rfl
 | [p]=>rfl
 | p::q::r=>by
  have e:∀(l:List Str) (x:Array Nat) (y:Str),(l.foldl (λacc p=>acc++(⟨#[a]⟩:Str).cps++p.cps) (x++(⟨#[a]⟩:Str).cps++y.cps))=x++(⟨#[a]⟩:Str).cps++l.foldl (λacc p=>acc++(⟨#[a]⟩:Str).cps++p.cps) y.cps:=by
   intro l;induction l with
   | nil=>intro x y;rfl
   | cons z l u =>intro x y;rw[fh,fh,u (x++(⟨#[a]⟩:Str).cps++y.cps) z,u y.cps z];simp only[Array.append_assoc]
  have u:=Vy (a:=a) (ps:=q::r);show(r.foldl (λacc p=>acc++(⟨#[a]⟩:Str).cps++p.cps) (p.cps++(⟨#[a]⟩:Str).cps++q.cps)).toList=_;rw[e];have u:w9 (r.foldl (λacc p=>acc++(⟨#[a]⟩:Str).cps++p.cps) q.cps)=glL a ((q::r).map (·.cps.toList)):=u;rw[pM,pM,u];show w9 p.cps++[a]++_=w9 p.cps++a::_;rw[dZ];rfl
theorem zkx:∀{ps qs:List Str},ps.map (·.cps.toList)=qs.map (·.cps.toList)->ps=qs
 | [],[],_=>rfl
 | [],_::_,e=>nomatch e
 | _::_,[],e=>nomatch e
 | p::ps,q::qs,e=>by rw[aK,aK]at e;injection e with e1 e2;rw[L2.Str.ext' e1,zkx e2]
theorem split_free{a:Nat}{x:Str}(v:a<256):(∀p∈eZ x ⟨#[a]⟩,a∉w9 p.cps)/\eZ x ⟨#[a]⟩≠[]:=by
 obtain⟨f,ch,fr⟩:=StrLaws.occ_tight x ⟨#[a]⟩ (av 1);have u:=StrLaws.parts_free x a _ 0 f ch fr;have C:fo ⟨#[a]⟩=1:=by unfold fo;rw[if_pos (by simp[v])]
 have G:1<=fo x:=by unfold fo;split <;> (try split) <;> decide
 unfold eZ;by_cases h1:(decide (kN x<kN (⟨#[a]⟩:Str))||decide (fo x<fo ⟨#[a]⟩))=bj;rw[if_pos h1];refine⟨λp o=>?_,by simp⟩;cases aE.mp o;rw[C,n8,decide_eq_true_eq,decide_eq_true_eq]at h1;have h0:dP x.cps.toList<1:=by rcases h1 with h|h;simpa[kN] using h;lia
 rw[cf.mp (by lia:x.cps.toList.length=0)];simp;rw[if_neg h1];by_cases h2:dy (occurrences x ⟨#[a]⟩ 0 (kN x) (kN x+1))=bj;rw[if_pos h2];refine⟨λp o=>?_,by simp⟩;cases aE.mp o;rw[sZ.mp h2]at u;have:=u (strSub x 0 (kN x)) (by simp[StrLaws.partsFrom]);rwa [StrLaws.sub_whole]at this;rw[if_neg h2,StrLaws.partsBetween_eq];refine⟨u,λz=>?_⟩;obtain⟨p,r,e⟩:=StrLaws.partsFrom_ne x (kN (⟨#[a]⟩:Str)) 0 (occurrences x ⟨#[a]⟩ 0 (kN x) (kN x+1));rw[e]at z;cases z
theorem zly{a:Nat}{ps:List Str}(C:a<256)(I:ps≠[])(hf:∀p∈ps,a∉w9 p.cps):eZ (gV ⟨#[a]⟩ ps) ⟨#[a]⟩=ps:=by
 obtain⟨J,G⟩:=split_free (x:=gV ⟨#[a]⟩ ps) C;have e:gV ⟨#[a]⟩ (eZ (gV ⟨#[a]⟩ ps) ⟨#[a]⟩)=gV ⟨#[a]⟩ ps:=b3 (StrLaws.glued_eq_join _ _) (StrLaws.join_split _ _);have e:=congrArg (·.cps.toList) e;rw[Vy,Vy]at e;have free:∀{l:List Str},(∀p∈l,a∉w9 p.cps)->∀q∈l.map (·.cps.toList),a∉q:=λh q v=>by obtain⟨p,u,rfl⟩:=aR.mp v;exact h p u
 exact zkx (zoz (by simpa using G) (by simpa using I) (free J) (free hf) e)
theorem znL{a:Nat}{x p r:Str}(e:w9 x.cps=w9 p.cps++a::w9 r.cps)(G:a∉w9 p.cps):QC x ⟨#[a]⟩=[p,⟨#[a]⟩,r]:=by
 have at_:∀i,B1 x ⟨#[a]⟩ (kN x) i↔x.cps.toList[i]?=ai a:=λi=>by unfold B1;rw[StrLaws.subAt_eq];show i+1<=ap x.cps/\((x.cps.toList.drop i).take 1 == [a])=bj↔_;rw[StrLaws.take1_drop];constructor;exact And.right;intro h;have:=(aw.mp h).1;rw[cg]at this;exact⟨this,h⟩
 have u:x.cps.toList[dP p.cps.toList]?=ai a:=by rw[e];simp
 unfold QC;rcases StrLaws.occ_head x ⟨#[a]⟩ 1 (av 1) with⟨h0,J⟩|⟨i,l,h0,hi,L⟩;exact absurd ((at_ _).mpr u) (J _);rw[h0];have hi:=(at_ i).mp hi;have o:i=dP p.cps.toList:=by rcases cC i (dP p.cps.toList) with h|h|h;rw[e,bY h]at hi;exact absurd (aC hi) G;exact h;exact absurd ((at_ _).mpr u) (L _ h)
 have C:strSub x 0 i=p:=L2.Str.ext' (by rw[oB,o,e];simp);have I:strSub x (i+kN (⟨#[a]⟩:Str)) (kN x)=r:=L2.Str.ext' (by
  rw[oB,o];have v:kN x=dP x.cps.toList:=by simp[kN]
  rw[v,e];show Dj _ (Dk (dP p.cps.toList+1) (w9 p.cps++a::w9 r.cps))=_;rw[show w9 p.cps++a::w9 r.cps=(w9 p.cps++[a])++w9 r.cps by simp,List.drop_left' (by simp)];exact gK (by simp;show _<=_ - (_+1);lia))
 show[strSub x 0 i,_,strSub x (i+kN (⟨#[a]⟩:Str)) (kN x)]=_;rw[C,I]
end L2
namespace Bd
open PySem PySem.Spec PyProof PyProof.Rows L2
theorem s_nl:ar "\n"=⟨#[10]⟩:=by decide +kernel
theorem s_bl:ar " " = ⟨#[32]⟩:=by decide +kernel
theorem zs8{a:Str}:ar "" ++ a=a:=L2.Str.ext' (by rw[UR,ZH,J3];rfl)
theorem zpm{bits i h:Int}{c:Nat}(hc:c∈begL bits i h):c=48\/c=49\/c=42:=by unfold begL at hc;rcases aW.mp hc with z|z;rcases zjc c z with z|z;exact fj z;exact xw (fj z);split at z;exact xw (xw (aE.mp z));cases z
theorem zmx{bits i h:Int}(o:bits<=64)(h0:0<=h):dP (begL bits i h)<=65:=by unfold begL;rw[a9,Wq];split <;> simp <;> lia
end Bd
namespace Bd
open PySem PySem.Spec PyProof PyProof.Rows L2
def sgS(s:Int):Str:=ar (toString s)
theorem zuJ{s:Int}(s0:0<=s)(s1:s<=1):sgS s=ar "0" \/ sgS s=ar "1":=by
 have:s=0\/s=1:=by lia
 rcases this with rfl|rfl;exact fj rfl;exact xw rfl
theorem zsm{s:Int}(s0:0<=s)(s1:s<=1):(sgS s).cps.toList=[48]/\s=0\/(sgS s).cps.toList=[49]/\s=1:=by
 have:s=0\/s=1:=by lia
 rcases this with rfl|rfl;exact fj ⟨by decide +kernel,rfl⟩;exact xw ⟨by decide +kernel,rfl⟩
theorem zsl{s:Int}(s0:0<=s)(s1:s<=1):ic (sgS s)=ai s:=by
 have:s=0\/s=1:=by lia
 rcases this with rfl|rfl <;> decide +kernel
def rulS(bits:Int)(r:(Int×Int)×Int):Str:=ar "" ++ mkS (begL bits r.1.1 r.1.2)++ar " " ++ sgS r.2
def QD(bits:Int)(rs:RL):Str:=gV (ar "\n") (rs.map (rulS bits))
section
variable{bits:Int}{r:(Int×Int)×Int}{rs:RL}
theorem VC:(rulS bits r).cps.toList=begL bits r.1.1 r.1.2++32::(sgS r.2).cps.toList:=by unfold rulS;rw[zs8,UR,UR,s_bl,J3];simp
theorem Vh(u:bits<=64)(h0:0<=r.1.2)(s0:0<=r.2)(s1:r.2<=1):kN (rulS bits r)<=80/\(10:Nat)∉(rulS bits r).cps.toList:=by
 have l2:=zmx (i:=r.1.1) u h0;have v:=zsm s0 s1;have ls:(sgS r.2).cps.toList.length=1:=by rcases v with z|z <;> rw[z.1] <;> rfl
 refine⟨?_,λz=>?_⟩;show(rulS bits r).cps.size<=80;rw[<- cg,VC];simp only[a9,aH];lia;rw[VC]at z;simp only[aW,ax]at z;rcases z with z|z|z;rcases zpm z with z|z|z <;> cases z;cases z;rcases v with y|y <;> rw[y.1]at z <;> simp at z
theorem znl:QC (rulS bits r) (ar " ")=[mkS (begL bits r.1.1 r.1.2),ar " ",sgS r.2]:=by rw[s_bl];refine znL (p:=mkS (begL bits r.1.1 r.1.2)) (r:=sgS r.2) ?_ ?_;rw[VC,J3];rw[J3];intro z;rcases zpm z with z|z|z <;> cases z
theorem zlA(o:bits<=64)(Q:Rls bits rs)(l:dP rs<=1000):uF (ar "\n") (rs.map (rulS bits))=bj:=by refine joinOk_of (k:=80) (λs v=>?_) ?_;obtain⟨r,u,rfl⟩:=aR.mp v;obtain⟨B,s0,s1⟩:=Q.1 r u;exact(Vh o B.1 s0 s1).1;rw[show(ar "\n").length=1 by decide +kernel,aI];lia
theorem zjF(l:bits<=64)(Q:Rls bits rs)(ne:rs≠[]):eZ (QD bits rs) (ar "\n")=rs.map (rulS bits):=by unfold QD;rw[s_nl];exact zly (by decide) (by simpa using ne) λs u=>by obtain⟨r,o,rfl⟩:=aR.mp u;obtain⟨B,s0,s1⟩:=Q.1 r o;exact(Vh l B.1 s0 s1).2
theorem zni:QD bits []=ar "":=by unfold QD;exact L2.Str.ext' (by rw[s_nl,dH,Vy];decide +kernel)
theorem zp0(ne:rs≠[]):QD bits rs≠ar "":=λz=>by
 have h:=congrArg (λs:Str=>w9 s.cps) z;cases rs with
 | nil=>exact ne rfl
 | cons r rs =>
  unfold QD at h;rw[s_nl]at h;rw[Vy,ZH,J3]at h;cases rs with
  | nil=>simp[glL,VC]at h
  | cons q rs=>simp[glL,VC]at h
end
end Bd
namespace Bd
open PySem L2
def top(i:Nat):eW:=PySem.Challenge.pw_blockdeal_k57_whole_rules_of_what_is_out.main.body.getD i (.Pass ⟨0,0,0,0⟩)
abbrev DQ(Z:ZZ)(x:Str)(i:Nat)(ps:List Str):Prop:=Dq Z.K Z.mg x (top i) ps
abbrev QF(Z:ZZ)(x:Str)(i:Nat)(ps:List Str)(k m:Nat)(g:GD):Prop:=FQ Z x (top i) ps k (spD Z.K m g)
set_option maxHeartbeats 4000000
local macro_rules | `(tactic| walk_at "S") => `(tactic| first | with_reducible refine zlx ?_ | with_reducible refine Stp.go ?_ | with_reducible refine j_all (by with_unfolding_all rfl) ?_ | with_reducible refine j_any (by with_unfolding_all rfl) ?_ | with_reducible refine zrJ (by with_unfolding_all rfl) ?_ | with_reducible refine zrK (by with_unfolding_all rfl) ?_ | with_reducible refine zk6 (by with_unfolding_all rfl) ?_ | with_reducible refine zk5 (by with_unfolding_all rfl) ?_)
set_option hygiene false in
local macro_rules | `(tactic| walk_at "K") => `(tactic| first | walk_at "S" | with_reducible refine zwT (λhc => ?_) (λhc => ?_) | with_reducible refine zAh (λhc => ?_) (λhc => ?_) | with_reducible refine And.intro ?_ ?_)
set_option hygiene false in
local macro_rules | `(tactic| wp_walk using $ts:term,*) => `(tactic| repeat' (first $[| with_reducible refine $ts:term]* | walk_at "K"))
local macro_rules | `(tactic| wp_walk) => `(tactic| repeat' walk_at "K")
structure Txt(mg:qM):Prop where
 isi:mg "isinstance" = ao
 int:mg "int" = ao
 boo:mg "bool" = ao
 tup:mg "tuple" = ao
 len:mg "len" = ao
 min:mg "min" = ao
 max:mg "max" = ao
 str:mg "str" = ao
 rep:mg "repr" = ao
 all:mg "all" = ao
 any:mg "any" = ao
 ran:mg "range" = ao
 sum:mg "sum" = ao
 srt:mg "sorted" = ao
 lst:mg "list" = ao
 abs:mg "abs" = ao
 zip:mg "zip" = ao
 dct:mg "dict" = ao
 rev:mg "reversed" = ao
 enu:mg "enumerate" = ao
 vae:mg "ValueError" = ao
section
open PySem.W PyProof.Rows
def pw:aL:=PySem.Challenge.pw_blockdeal_k57_whole_rules_of_what_is_out
def zzL:eW->Bool
 | jd ..=>true
 | .ClassDef ..=>true
 | h6 [bn x _] _ _=>!(x == ar "__name__")
 | _=>false
def qv:aL:={ pw with main:={ pw.main with body:=pw.main.body.filter zzL } }
theorem zsu:recsOf qv=(pw.main.body.filter Wd).map recD:=by kernel_rfl
theorem zrF{i:Nat}(h:Wd (top i)=bj):recD (top i)∈recsOf qv:=by rw[zsu];exact gn (cW.mpr ⟨getD_mem h,h⟩)
theorem dqG{i:Nat}{x:Str}{ps:List Str}{l:ub->Option ah}{mg u:qM}{h:bh}(T:kU qv (looseW qv []) l mg u h)(o:BndA x (top i) ps:=by first|exact bnd1 λ_ _ _ _ _ _ _=>rfl|exact bnd2 λ_ _ _ _ _ _ _ _=>rfl|exact bnd3 λ_ _ _ _ _ _ _ _ _=>rfl|exact bnd4 λ_ _ _ _ _ _ _ _ _ _=>rfl)(C:Wd (top i)=bj:=by kernel_rfl)(v:defName (top i)=x:=by kernel_rfl):Dq (Qo h) mg x (top i) ps:=dq_g T (zrF C) v o
def zxj:List Str:=[ar "isinstance",ar "int",ar "bool",ar "tuple",ar "len",ar "min",ar "max",ar "str",ar "repr",ar "all",ar "any",ar "range",ar "sum",ar "sorted",ar "list",ar "abs",ar "zip",ar "dict",ar "reversed",ar "enumerate",ar "ValueError"]
def zxk(x:Str):Bool:=!startupNames.contains x&&!(looseW qv []).contains x&&!((recsOf qv).map (·.name)).contains x&&!((litsOf qv).map (·.1)).contains x&&!((clssOf qv (looseW qv [])).map (·.name)).contains x
theorem ztK:zxj.all zxk=bj:=by kernel_rfl
theorem ztL{l:ub->Option ah}{mg o:qM}{h:bh}(T:kU qv (looseW qv []) l mg o h){x:Str}(m:x∈zxj):mg x=ao:=by have e:=cJ.mp ztK x m;unfold zxk at e;simp only[bT,g7,List.contains_eq_mem,decide_eq_false_iff_not]at e;obtain⟨⟨⟨⟨a,b⟩,c⟩,d⟩,f⟩:=e;exact T.free x a b c d f
theorem zuu{l:ub->Option ah}{mg o:qM}{h:bh}(T:kU qv (looseW qv []) l mg o h):Txt mg:=by constructor <;> exact ztL T (List.contains_iff_mem.mp (by kernel_rfl))
theorem zsn:PySem.Challenge.rw_blockdeal_k57_whole_rules_of_what_is_out.wellSaid=bj:=by kernel_rfl
noncomputable abbrev rTop (v:aV) (os:dW):=Vq treeTable pw v 11 ((eQ v.params).nsMap mainGlobals "__annotations__") 20000 (zua v os) (topStub pw)
abbrev zrx(v:aV)(os:dW):Prop:=(rTop v os).map (λs=>(V1 pw (eQ v.params) s.abs,(Ao kW) s.abs,s.abs.heap.bltView,plainSeenD qv [] s.abs,clsSeenW qv [] s.abs,pinSeenD qv (drecsOf qv) s.abs))=ai (bj,(Ap kW) v,bltViewBooted,plainGoodD qv [],clsGoodW qv [],pinGoodD (drecsOf qv))
abbrev zrw(v:aV)(os:dW):Prop:=(rTop v os).map (λs=>seen ((recsOf qv).map (·.name)) (ownsOf qv) [] { s.abs with gens:=#[] })=ai (expectedOf qv)
abbrev zrt(v:aV)(os:dW):Prop:=(rTop v os).map (λs=>plainSeenE qv (looseW qv []) s.abs)=ai (plainGoodE qv (looseW qv []))
abbrev zrs(v:aV)(os:dW):Prop:=(rTop v os).map (λs=>wideSeen qv s.abs)=ai (wideGood qv)
abbrev zrv(v:aV)(os:dW):Prop:=(rTop v os).map (λs=>(s.abs.heap.keysOk (looseW qv []) ((recsOf qv).map (·.name)) ((litsOf qv).map (·.1)) ((clssOf qv (looseW qv [])).map (·.name))&&s.abs.heap.accountedOkI (importedModules pw.main.body)&&s.abs.heap.isNs mainGlobals&&s.abs.heap.isNs builtinsNs&&tablesOk qv s.abs.heap&&(λs=>xlAt qv [] s&&recOk (sy PySem.Challenge.rw_blockdeal_k57_whole_rules_of_what_is_out.row.toRowW) s) s.abs&&(if bj then ap s.abs.gens == 0 else !leftWithCleanup s.abs.gens)))=ai true
abbrev zru(v:aV)(os:dW):Prop:=(rTop v os).map (λs=>tabsOk qv s.abs)=ai true
abbrev znt(v:aV)(os:dW):Prop:=(rTop v os).map (λs=>(V1 pw (eQ v.params) s.abs,openSeen qv [] (importedModules pw.main.body) (λs=>xlAt qv [] s&&recOk (sy PySem.Challenge.rw_blockdeal_k57_whole_rules_of_what_is_out.row.toRowW) s) bj s.abs,(Ao kW) s.abs))=ai (bj,openGood qv [],(Ap kW) v)
theorem zwa(w:aV)(os:dW):zrx (w.withFollow "special-get-raises" bA) os:=by kernel_rfl
theorem zv_(w:aV)(os:dW):zrw (w.withFollow "special-get-raises" bA) os:=by kernel_rfl
theorem zv7(w:aV)(os:dW):zrt (w.withFollow "special-get-raises" bA) os:=by kernel_rfl
theorem zv6(w:aV)(os:dW):zrs (w.withFollow "special-get-raises" bA) os:=by kernel_rfl
theorem zv9(w:aV)(os:dW):zrv (w.withFollow "special-get-raises" bA) os:=by kernel_rfl
theorem zv8(w:aV)(os:dW):zru (w.withFollow "special-get-raises" bA) os:=by kernel_rfl
theorem zzK(w:aV)(os:dW):znt (w.withFollow "special-get-raises" bA) os:=zvZ (zwa w os) (zv_ w os) (zv9 w os) (zv8 w os) (zv7 w os) (zv6 w os)
theorem zv5(w:aV)(os:dW):zrx (w.withFollow "special-get-raises" bj) os:=by kernel_rfl
theorem zv4(w:aV)(os:dW):zrw (w.withFollow "special-get-raises" bj) os:=by kernel_rfl
theorem zv1(w:aV)(os:dW):zrt (w.withFollow "special-get-raises" bj) os:=by kernel_rfl
theorem zv0(w:aV)(os:dW):zrs (w.withFollow "special-get-raises" bj) os:=by kernel_rfl
theorem zv3(w:aV)(os:dW):zrv (w.withFollow "special-get-raises" bj) os:=by kernel_rfl
theorem zv2(w:aV)(os:dW):zru (w.withFollow "special-get-raises" bj) os:=by kernel_rfl
theorem zzJ(w:aV)(os:dW):znt (w.withFollow "special-get-raises" bj) os:=zvZ (zv5 w os) (zv4 w os) (zv3 w os) (zv2 w os) (zv1 w os) (zv0 w os)
theorem ztg:LeftO pw qv [] (λs=>xlAt qv [] s&&recOk (sy PySem.Challenge.rw_blockdeal_k57_whole_rules_of_what_is_out.row.toRowW) s) (Ao kW) (Ap kW) 20000:=zob (by kernel_rfl) (by decide) (λ_=>rfl) (λw=>znh (w:=w) (P:=λw=>∀os:dW,znt w os) "special-get-raises" zzK zzJ)
end
section
variable{P:aL}{w:aV}{K:qF}{mg:qM}{base:bh}{Z:ZZ}
inductive VT:qD->Nat->qN->Prop
 | c {i:Int} {n:Nat} {R:qN} (h:R (k6 bj) n):VT [b5 i] n R
def WO(Z:ZZ):Prop:=QF Z "is_whole" 1 ["thing"] 1 1 VT
theorem zjR(D:DQ Z "is_whole" 1 ["thing"]) (T:Txt Z.mg):WO Z:=by refine' okN ["thing"] D λl=>⟨_,(Jc (Je (Uf (UA zxc T.isi T.int boot_int (dlv 0) Jr) (Ue (ztX (UA ztF T.isi T.boo zmv (dlv 0) Jr)))))),?_⟩;intro ts n R o h;obtain @⟨i,n,R,h⟩:=h;wp_walk;exact h
inductive WK:qD->Nat->qN->Prop
 | c {bits b h:Int} {n:Nat} {R:qN} (b0:0<=bits) (b1:bits<=64) (B:IsBk bits b h) (r:R (k6 bj) n):WK [b5 bits,fX [b5 b,b5 h]] n R
def zea(Z:ZZ):Prop:=QF Z "is_block" 2 ["bits","thing"] 2 2 WK
theorem zjU(D:DQ Z "is_block" 2 ["bits","thing"]) (o:WO Z) (T:Txt Z.mg):zea Z:=by
 refine' okN ["bits","thing","begin","height"] D λl=>⟨_,(Jb (Jp (JV (Qc (J7 (JM (dl (UA Vx T.isi T.tup J8 (dlv 1) Jr)))) (Qx (Jl (QH l) QB (dl (Jw Qi Qg T.len J4 (Ji (dlv 1) Jm Jr))) dli (Jf _))))) (Jc (Je JR)) Jt) (Jb (Qq (Jh 1) (JH rfl (Jj (dgv 2 (ndB rfl)) (Jj (dgv 3 (ndB rfl)) JG)))) (Jb (Jp (JV (Qc (J7 (JM (dl (Jd o l (dbv 2 Ja))))) (Qx (J7 (JM (dl (Jd o l (dbv 3 Ja)))))))) (Jc (Je JR)) Jt) (Jb (Jp (JV (Qc (Jl (Qm l) Qk (dlv 3) dli (Jf _)) (Qx (Jl QQ gp_B (dlv 3) (dlv 0) (Jf _))))) (Jc (Je JR)) Jt) (Jc (Je (Uf (zlf Qh Qf (Qm l) Qk dli (dlv 2) (dl (Qd dli (dlv 0)))) (Ue (J5 (Ux l) Uq (dl (zoQ (dlv 2) (dl (Qd dli (dlv 3))))) dli (Jf _)))))))))),?_⟩;intro ts n R x h;obtain @⟨bits,b,g,n,R,b0,b1,B,r⟩:=h;have C:=B.bounds b0;have pg:=JT (mu g);have u:b % 2 ^ mu g=0:=by obtain⟨_,_,k,_,rfl,_⟩:=B;exact rT _ _
 have v:=B.1;have g1:=B.2.1;wp_walk using VT.c ?_;all_goals first
  | (exfalso;lia)
  | exact cpow (by lia) (by lia)
  | (rw[QA];exact pg)
  | (rw[QA,decide_eq_true u];exact r)
  | (rw[QA]at hc;exfalso;lia)
  | exact absurd rfl hc
inductive zfN:qD->Nat->qN->Prop
 | c {i h:Int} {n:Nat} {R:qN} (g0:0<=h) (g1:h<=1000) (h':R (b5 (2 ^ mu h)) n):zfN [fX [b5 i,b5 h]] n R
def zih(Z:ZZ):Prop:=QF Z "size_of" 3 ["block"] 1 1 zfN
theorem zlJ(D:DQ Z "size_of" 3 ["block"]) (T:Txt Z.mg):zih Z:=by refine' okN ["block"] D λl=>⟨_,(Jc (Je (Qd dli (dl (Jk (dlv 0) dli))))),?_⟩;rintro ts n R hl @⟨i,h,n,R,g0,g1,hh⟩;wp_walk;exact cpow (by lia) (by lia);rw[QA];exact hh
inductive VI:qD->Nat->qN->Prop
 | c {i h g:Int} {n:Nat} {R:qN} (g0:0<=g) (g1:g<=1000) (i0:0<=i) (i1:i<2 ^ 64) (h':R (fX [b5 (i / 2 ^ mu g*2 ^ mu g),b5 g]) n):VI [fX [b5 i,b5 h],b5 g] n R
def zhh(Z:ZZ):Prop:=QF Z "around" 6 ["block","height"] 1 2 VI
theorem znY(D:DQ Z "around" 6 ["block","height"]) (T:Txt Z.mg):zhh Z:=by refine' okN ["block","height"] D λl=>⟨_,(Jc (Je (Jq (dbc (Qd (dl (zrX (dl (Jk (dlv 0) dli)) (dlv 1))) (dlv 1)) (dbv 1 Ja))))),?_⟩;rintro ts n R hl @⟨i,h,g,n,R,g0,g1,i0,i1,hh⟩;simp only[Vb,Va,Vc,Z9,u_dC,ZK,Z5,Z7,Z6,Vr,ZJ,VE,Vv,Vt,Vs,VF,Z8,ZV,Zj,YB,YC,Zi,YD,YE,Zl,Yi,Yj,oSub,oMul,oMod,Uo,oShl,oShr,oXor,oAnd,isNone,isInt,isBool,isTup,isStr,l_gI,ZC,YJ,YK,YL,Yd,Yk,Yq,Yy,Yx,Yl,Ym,Yz,Ys,Za,Zb,Yr,Zn,Yu,Yt,YQ,YR,YS,YN,YO,YU,YV,YX,YW,YY,Yc,Yw,Yv,Yb,YM,Zo,YT,Zc,Zm,UC,UI,UD,U2,UX,UY,UW,UH,UV,JX,JL,capV,aK,dH,aH,bX,cm,gq,eM,fc,b8,dR,e8,gP,gQ,gr,gx,eS,Nat.reduceAdd,Nat.reduceSub,kJ,true_and,and_true,aJ,if_true,if_false,ite_true,ite_false,fx,fG,iC];refine⟨g0,⟨g0,by lia,?_⟩,hh⟩;have:i / 2 ^ mu g<=i:=Int.ediv_le_self _ i0;have:0<=i / 2 ^ mu g:=t7 i0 (eT (JT _));lia
inductive zke:qD->Nat->qN->Prop
 | c {i h j g:Int} {n:Nat} {R:qN} (h0:0<=h) (h1:h<=1000) (j0:0<=j) (j1:j<2 ^ 64) (h':R (k6 (hldD i h j g)) n):zke [fX [b5 i,b5 h],fX [b5 j,b5 g]] n R
def znw(Z:ZZ):Prop:=QF Z "holds" 4 ["one","other"] 2 2 zke
theorem zql(D:DQ Z "holds" 4 ["one","other"]) (o:zhh Z) (T:Txt Z.mg):znw Z:=by refine' okN ["one","other"] D λl=>⟨_,(Jc (Je (Uf (J5 zsY gp_B (dl (Jk (dlv 0) dli)) (dl (Jk (dlv 1) dli)) (Jf _)) (Ue (J5 (Ux l) Uq (dl (Jd o l (dbv 1 (dbc (Jk (dlv 0) dli) Ja)))) (dlv 0) (Jf _)))))),?_⟩;rintro ts n R hl @⟨i,h,j,g,n,R,g0,g1,j0,j1,hh⟩;unfold hldD at hh;wp_walk using VI.c g0 g1 j0 j1 ?_;exact UV;exact UV;rw[decide_eq_true hc,gX]at hh;rw[zqN];simpa using hh;rw[decide_eq_false hc,hY]at hh;exact hh
inductive zcK:qD->Nat->qN->Prop
 | c {i h:Int} {n:Nat} {R:qN} (g0:0<=h) (g1:h<=1000) (h':R (fX [b5 (cP i (2 ^ mu h)),b5 h]) n):zcK [fX [b5 i,b5 h]] n R
def zeB(Z:ZZ):Prop:=QF Z "other_half" 7 ["block"] 1 1 zcK
theorem zho(D:DQ Z "other_half" 7 ["block"]) (T:Txt Z.mg):zeB Z:=by refine' okN ["block","begin","height"] D λl=>⟨_,(Jb (Qq (Jh 0) (JH rfl (Jj (dgv 1 (ndB rfl)) (Jj (dgv 2 (ndB rfl)) JG)))) (Jc (Je (Jq (dbc (zrW (dlv 1) (dl (Qd dli (dlv 2)))) (dbv 2 Ja)))))),?_⟩;rintro ts n R hl @⟨i,h,n,R,g0,g1,hh⟩;simp only[Vb,Va,Vc,Z9,u_dC,ZK,Z5,Z7,Z6,Vr,ZJ,VE,Vv,Vt,Vs,VF,Z8,ZV,Zj,YB,YC,Zi,YD,YE,Zl,Yi,Yj,oSub,oMul,oMod,Uo,oShl,oShr,oXor,oAnd,isNone,isInt,isBool,isTup,isStr,l_gI,ZC,YJ,YK,YL,Yd,Yk,Yq,Yy,Yx,Yl,Ym,Yz,Ys,Za,Zb,Yr,Zn,Yu,Yt,YQ,YR,YS,YN,YO,YU,YV,YX,YW,YY,Yc,Yw,Yv,Yb,YM,Zo,YT,Zc,Zm,UC,UI,UD,U2,UX,UY,UW,UH,UV,JX,JL,capV,aK,dH,aH,bX,cm,gq,eM,fc,b8,dR,e8,gP,gQ,gr,gx,eS,Nat.reduceAdd,Nat.reduceSub,kJ,true_and,and_true,aJ,if_true,if_false,ite_true,ite_false,fx,fG,iC];refine⟨cpow g0 (by lia),?_⟩;rw[cT];exact hh
inductive UG:qD->Nat->qN->Prop
 | c {i h:Int} {n:Nat} {R:qN} (g0:1<=h) (g1:h<=1000) (h':R (fX [fX [b5 i,b5 (h - 1)],fX [b5 (cP i (2 ^ mu (h - 1))),b5 (h - 1)]]) n):UG [fX [b5 i,b5 h]] n R
def Wm(Z:ZZ):Prop:=QF Z "halves" 5 ["block"] 2 1 UG
theorem znV(D:DQ Z "halves" 5 ["block"]) (o:zeB Z) (T:Txt Z.mg):Wm Z:=by refine' okN ["block","begin","height","lower"] D λl=>⟨_,(Jb (Qq (Jh 0) (JH rfl (Jj (dgv 1 (ndB rfl)) (Jj (dgv 2 (ndB rfl)) JG)))) (Jb (dsv 3 (ndB rfl) (Jq (dbv 1 (dbc (J6 (dlv 2) dli) Ja)))) (Jc (Je (Jq (dbv 3 (dbc (Jd o l (dbv 3 Ja)) Ja))))))),?_⟩;rintro ts n R hl @⟨i,h,n,R,g0,g1,hh⟩;wp_walk using zcK.c ?_ ?_ ?_;lia;lia;exact hh
inductive Ug:qD->Nat->qN->Prop
 | c {i h:Int} {n:Nat} {R:qN} (g0:0<=h) (g1:h<=1000) (h':R (b5 (i+2 ^ mu h)) n):Ug [fX [b5 i,b5 h]] n R
def UZ(Z:ZZ):Prop:=QF Z "end_of" 17 ["block"] 2 1 Ug
theorem znX(D:DQ Z "end_of" 17 ["block"]) (o:zih Z) (T:Txt Z.mg):UZ Z:=by refine' okN ["block"] D λl=>⟨_,(Jc (Je (JC (dl (Jk (dlv 0) dli)) (dl (Jd o l (dbv 0 Ja)))))),?_⟩;rintro ts n R hl @⟨i,h,n,R,g0,g1,hh⟩;wp_walk using zfN.c ?_ ?_ ?_;lia;lia;exact hh
theorem zmm{hi:Int}(h:0<hi):QZ 0 hi hi.toNat.log2:=⟨by simp,by have:=zn_ h;lia,λz=>by have:=zn6 h;have:=z.2;lia⟩
theorem zov{lo hi:Int}{t:Nat}(h:lo<hi)(u:lo % 2 ^ t=0)(v:¬lo % 2 ^ (t+1)=0):QZ lo hi (min (hi - lo).toNat.log2 t):=by have a:=zn_ (i:=hi - lo) (by lia);have b:=zn6 (i:=hi - lo) (by lia);rcases xy (hi - lo).toNat.log2 t with z|z;rw[tT z];exact⟨U0 z u,a,λy=>by have:=y.2;lia⟩;rw[Nat.min_eq_right z];exact⟨u,nS (QY z) a,λy=>v y.1⟩
theorem zqw(t:Nat):((2:Int) ^ t).toNat.log2=t:=by
 have e:mu ((2:Int) ^ t)=2 ^ t:=by
  have:((2 ^ t:Nat):Int)=(2:Int) ^ t:=by rw[gS];rfl
  rw[<- this];rfl
 rw[e,Nat.log2_two_pow]
inductive zbj:qD->Nat->qN->Prop
 | c {lo hi:Int} {n:Nat} {R:qN} (l0:0<=lo) (l1:lo<hi) (h:∀g:Nat,QZ lo hi g->R (b5 g) n):zbj [b5 lo,b5 hi] n R
def zb3(Z:ZZ):Prop:=QF Z "greatest_height" 18 ["begin","high"] 1 2 zbj
theorem zdQ(D:DQ Z "greatest_height" 18 ["begin","high"]) (T:Txt Z.mg):zb3 Z:=by
 refine' okN ["begin","high","room"] D λv=>⟨_,(Jb (dsv 2 (ndB rfl) (J6 (dl (zji (dl (J6 (dlv 1) (dlv 0))))) dli)) (Jb (Jp (Jl (Ux v) Uq (dlv 0) dli (Jf _)) (Jc (Je (Jh 2))) Jt) (Jc (Je (Jw (VM rfl) Z3 T.min Zr (Ji (dlv 2) (Ji (dl (J6 (dl (zji (dl (zr1 (dlv 0) (dl (Y4 (Jh 0))))))) dli)) Jm Ve) Jr)))))),?_⟩;intro ts n R x h;obtain @⟨lo,hi,n,R,l0,l1,h⟩:=h;have room:=zfM (i:=hi - lo) (by lia);wp_walk;rw[room];subst hc;have:=h _ (zmm l1);rw[Int.sub_zero];exact this;obtain⟨t,t1,t2⟩:=zyI (b:=lo) (by lia);have an:=zuf (b:=lo) (by lia) t1 t2;have u:=zfM (i:=(2:Int) ^ t) (JT t);rw[zqw]at u;rw[an,room,u];have:=h _ (zov l1 t1 t2);have e:(if (t:Int)<((hi - lo).toNat.log2:Int) then(t:Int) else((hi - lo).toNat.log2:Int))=((min (hi - lo).toNat.log2 t:Nat):Int):=by split <;> lia
 rw[e];exact this
inductive Uw:qD->Nat->qN->Prop
 | c {lo hi:Int} {n:Nat} {R:qN} (l0:0<=lo) (l1:lo<=hi) (l2:hi<=2 ^ 64) (h:∀bs,Ju lo hi bs->R (fX (pD bs)) n):Uw [b5 lo,b5 hi] n R
def znv(Z:ZZ):Prop:=QF Z "span" 10 ["low","high"] 3 2 Uw
theorem zs2(D:DQ Z "span" 10 ["low","high"]) (Nh:UZ Z) (Nu:zb3 Z) (T:Txt Z.mg):znv Z:=by
 refine' okN ["low","high","blocks","begin","block"] D λI=>⟨_,(Jb (Uv (i:=2) (ndB rfl) rfl (fj rfl) (J0 Ja)) (Jb (dsv 3 (ndB rfl) (Jh 0)) (Jb (zhF b9 (Jl (Qm I) Qk (dlv 3) (dlv 1) (Jf _)) (Jb (dsv 4 (ndB rfl) (Jq (dbv 3 (dbc (Jd Nu I (dbv 3 (dbv 1 Ja))) Ja)))) (Jb (QX 2 (Jh 4)) (Jc (dsv 3 (ndB rfl) (Jd Nh I (dbv 4 Ja))))))) (UJ 2 (Jc (Je (Qb QW QU T.tup J8 (Ji (dlv 2) Jm Jr)))))))),?_⟩;intro ts n R hl h;obtain @⟨lo,hi,n,R,l0,l1,l2,h⟩:=h;obtain⟨all,A⟩:=zjA _ lo hi (av _) l1;have al:=A.len l0 l2;wp_walk;refine zmJ (λm U L=>L=n/\∃(bs rest:qB) (C:Int) (J:Option Cell),U=[ai (.val (b5 lo)),ai (.val (b5 hi)),ai (.own (pD bs)),ai (.val (b5 C)),J]/\all=bs++rest/\Ju C hi rest/\lo<=C/\m=dP rest) (m:=dP all) ⟨rfl,[],all,lo,_,rfl,rfl,A,aN _,rfl⟩ ?_;rintro m U L NX RT BK ⟨rfl,bs,rest,C,J,rfl,x,S,lb,rfl⟩ hN hR hB;wp_walk
 ·cases rest with
  | nil=>have:C=hi:=S;lia
  | cons b r =>
   obtain⟨s1,s2,s3,s4,s5⟩:=S;refine zbj.c (by lia) hc λg G=>?_;have Y:mu b.2=g:=s4.uniq G;have eb:b=(C,(g:Int)):=dD s2 (by show b.2=(g:Int);lia);have gl:g<=64:=by
    rcases bM 64 g with z|z;have:=QY (show 65<=g by lia);have:=G.2.1;have e:(2:Int) ^ 65=2*2 ^ 64:=by decide
    lia;exact z
   wp_walk using Ug.c (by lia) (by lia) ?_;rw[JB];have:=congrArg dP x;rw[a9]at this;lia;refine hN (dP r) _ _ (by simp) ⟨rfl,bs++[b],r,C+2 ^ mu (g:Int),ai (.val (fX [b5 C,b5 (g:Int)])),by rw[eb,<- Y2],by rw[x];simp,?_,?_,rfl⟩;rw[Y]at s5;simpa using s5;have:=JT (mu (g:Int));lia
 ·have e:C=hi:=by have:=S.le;lia
  cases rest with
  | cons b r=>have:=S.1;lia
  | nil =>refine hB _ _ ?_;wp_walk;rw[b8]at x;rw[<- x];exact h _ A
inductive WN:qD->Nat->qN->Prop
 | c {rs:qB} {n:Nat} {R:qN} (w:∀r∈rs,0<=r.1/\r.1<=r.2/\r.2<=2 ^ 64) (l:dP rs<=100000) (h:∀ps,PatS rs ps->R (fX (pD ps)) n):WN [tE (pD rs)] n R
theorem znJ:∀{rs:qB},(∀r∈rs,r.1<=r.2)->∃ps,PatS rs ps
 | [],_=>⟨[],rfl⟩
 | r::rs,h=>by obtain⟨a,A⟩:=zjA _ r.1 r.2 (av _) (h r (by simp));obtain⟨b,B⟩:=znJ (rs:=rs) λs l=>h s (by simp[l]);exact⟨a++b,a,b,rfl,A,B⟩
theorem zlj{g:DTG}{d:DTE}{o:En}{n:Nat}{u:qD->Nat->Prop}:∀(xs acc:qD),(∀x∈xs,∀K:qN,K x n->g x o λl=>d l n K)->dP acc+dP xs<=16777216->u (acc++xs) n->JW g dYes d o xs acc n u
 | [],acc,_,_,h=>(by simpa using h:u acc n)
 | x::xs,acc,hg,hl,h=>by
  have e:(λl=>dYes l n λb v=>if b=bj then d l v λt C=>dP acc<16777216/\JW g dYes d o xs (acc++[t]) C u else JW g dYes d o xs acc v u)=λl=>d l n λt C=>dP acc<16777216/\JW g dYes d o xs (acc++[t]) C u:=by funext l;exact propext ⟨λz=>by simpa[dYes] using z,λz=>by simpa[dYes] using z⟩
  show g x o λl=>dYes l n λb v=>if b=bj then d l v λt C=>dP acc<16777216/\JW g dYes d o xs (acc++[t]) C u else JW g dYes d o xs acc v u
  rw[e];refine hg x (by simp) _ ⟨by simp at hl;lia,zlj xs (acc++[x]) (λy G=>hg y (by simp[G])) (by simp at hl ⊢;lia) (by simpa using h)⟩
def zd_(Z:ZZ):Prop:=QF Z "patch_of" 19 ["runs"] 4 1 WN
theorem zjN(D:DQ Z "patch_of" 19 ["runs"]) (S:znv Z) (T:Txt Z.mg):zd_ Z:=by
 refine' okN ["runs"] D λJ=>⟨_,(Jc (Je (Qb QW QU T.tup J8 (Ji (dl (Jz (zld (own:=["low","high","block"]) (capt:=[]) rfl (Jv.of rfl) (dil (zrT (Jh 0))) (λ_ _ _ _=>(JH rfl (Jj (dgv 0 (ndB rfl)) (Jj (dgv 1 (ndB rfl)) JG)))) (by decide) (λ_ _ _ _=>QV) (λ_ _ _ _=>(JZ (Jd S J (dbv 0 (dbv 1 Ja))))) (λ_ _ _ _=>(dgv 2 (ndB rfl))) (by decide) (λ_ _ _ _=>QV) (λ_ _ _ _=>(Jh 2))))) Jm QO)))),?_⟩;intro ts n R hl h;obtain @⟨rs,n,R,w,l,h⟩:=h;wp_walk;have key:∀(rs:qB) (acc ps:qB),(∀r∈rs,0<=r.1/\r.1<=r.2/\r.2<=2 ^ 64)->dP acc+130*dP rs<=16777216->PatS rs ps->∀K:qD->Nat->Prop,K (pD (acc++ps)) n ->
   Uz (Us (QL (JY 0) (QL (JY 1) Ur))) dYes (dItT (dFn Uw (Qa (dVar 0) (Qa (dVar 1) dNil)))) (JY 2) dYes (dVar 2) [ao,ao,ao] (pD rs) (pD acc) n K:=by
  intro rs;induction rs with
  | nil =>intro acc ps _ _ P K G;cases(show ps=[] from P);rw[b8]at G;exact G
  | cons r rs ih =>
   intro acc ps w la P K G;obtain⟨a,b,rfl,N,Pb⟩:=P;have v:=w r (by simp);have ll:=N.len v.1 v.2.2;show Us (QL (JY 0) (QL (JY 1) Ur)) (fX [b5 r.1,b5 r.2]) [ao,ao,ao] λo=>dYes o n λb L=>if b=bj then dItT (dFn Uw (Qa (dVar 0) (Qa (dVar 1) dNil))) o L λts n3=>JW (JY 2) dYes (dVar 2) o ts (pD acc) n3 λC U=>Uz (Us (QL (JY 0) (QL (JY 1) Ur))) dYes (dItT (dFn Uw (Qa (dVar 0) (Qa (dVar 1) dNil)))) (JY 2) dYes (dVar 2) [ao,ao,ao] (pD rs) C U K else Uz (Us (QL (JY 0) (QL (JY 1) Ur))) dYes (dItT (dFn Uw (Qa (dVar 0) (Qa (dVar 1) dNil)))) (JY 2) dYes (dVar 2) [ao,ao,ao] (pD rs) (pD acc) L K
   rw[aH]at la;wp_walk using Uw.c v.1 v.2.1 v.2.2 (λbs B=>?_);rw[B.uniq N];refine zlj _ _ (λx hx K2 I=>?_) (by rw[JB,JB];lia) ?_
   ·wp_walk;exact I
   rw[zrz];exact ih (acc++a) b (λs Y=>w s (by simp[Y])) (by rw[a9];lia) Pb K (by rw[dZ];exact G)
 obtain⟨ps,P⟩:=znJ (rs:=rs) λr J=>(w r J).2.1;refine key rs [] ps w (by simp;lia) P _ ?_;wp_walk;exact h ps P
def rkB(b:Int×Int):Int:=b.1*1000+b.2
theorem ztm{bits:Int}{bs:qB}{t:ae}{L:qD->Prop}(U:t=tE (pD bs)\/t=fX (pD bs))(v:bits<=64)(B:Bks bits bs)(J:SrtL rkB bs)
  (h:∀cs:List (Int×Int),cs.Perm bs->cs.Pairwise (λa b=>a.1<=b.1)->L (pD cs)):U9 t L:=by
 have key:SrtL rkD (pD bs)/\(∀x∈pD bs,IsPr x)/\∀o:List ae,o.Perm (pD bs)->o.Pairwise (λa b=>rkD a<=rkD b)->L o:=by
  refine⟨zky J (by unfold pD;rw[b6];rfl),λx hx=>?_,λo pm pw=>?_⟩;obtain⟨b,G,rfl⟩:=aR.mp hx;have:=B b G;exact⟨b.1,b.2,rfl,this.1,by have:=this.2.1;lia⟩;have I:o.Perm ((bs.map λb=>(b,prD b)).map (·.2)):=by
   have:(bs.map λb=>(b,prD b)).map (·.2)=pD bs:=by simp[pD]
   rw[this];exact pm
  obtain⟨zs,p1,p2⟩:=zhi I;have S:∀z∈zs,z.2=prD z.1:=λz hz=>by obtain⟨b,_,rfl⟩:=aR.mp (p1.mem_iff.mp hz);rfl
  have e:o=pD (zs.map (·.1)):=by rw[<- p2];unfold pD;rw[b6];exact iF λz hz=>S z hz
  have pc:(zs.map (·.1)).Perm bs:=by
   have:=p1.map (·.1);rw[b6]at this;have Y:bs.map ((λx:(Int×Int)×ae=>x.1)∘λb=>(b,prD b))=bs:=by show bs.map id=bs;exact oS _
   rwa [Y]at this
  rw[e];have C:Bks bits (zs.map (·.1)):=λb v=>B b (pc.mem_iff.mp v);rw[e]at pw;unfold pD at pw;rw[dz]at pw;refine h _ pc (iN ?_ pw);intro a b R v N;have N:a.1*1000+a.2<=b.1*1000+b.2:=N;have a0:=(C a R).1;have a1:=(C a R).2.1;have b0:=(C b v).1;have b1:=(C b v).2.1;lia
 rcases U with rfl|rfl <;> exact key
inductive Wz:qD->Nat->qN->Prop
 | c {bits:Int} {bs:qB} {t:ae} {n:Nat} {R:qN} (ht:t=tE (pD bs)\/t=fX (pD bs)) (b0:0<=bits) (b1:bits<=64) (B:Bks bits bs) (l:SrtL rkB bs) (h:∀rs,NR rs->(∀x,mR x rs↔mB x bs)->dP rs<=dP bs->R (tE (pD rs)) n):Wz [t] n R
theorem zno{a b:Int×Int}(h:eB a<=b.1)(a1:a.2<=1000)(l:0<=b.2):rkB a<=rkB b:=by have:=Bd.JT (mu a.2);unfold eB at h;unfold rkB;lia
theorem zmY{bits:Int}{bs:qB}(o:bits<=64)(P:Ptc bits bs)(l:dP bs<100000):SrtL rkB bs:=zrl (P.2.imp_of_mem λ{a b} ha hb h=>zno h (by have:=(P.1 a ha).2.1;lia) (P.1 b hb).1) l
def zfj(Z:ZZ):Prop:=QF Z "runs_of" 20 ["blocks"] 3 1 Wz
theorem zlL(D:DQ Z "runs_of" 20 ["blocks"]) (Nh:UZ Z) (T:Txt Z.mg):zfj Z:=by
 refine' okN ["blocks","runs","block","low","high"] D λG=>⟨_,(Jb (Uv (i:=1) (ndB rfl) rfl (fj rfl) (J0 Ja)) (Jb (QE b9 rfl (Vl (Jz (zjg G T.srt (dlv 0) Jr))) (dgv 2 (ndB rfl)) (Jc (Jp (JV (YG (JM (Uu 1)) (Y7 (Jl Qh Qf (dl (Jk (dlv 2) dli)) (dl (Jk (dl (Jk (Uu 1) (dl (Y4 Jg)))) dli)) (Jf _))))) (Jb (Qq (Jk (Uu 1) (dl (Y4 Jg))) (JH rfl (Jj (dgv 3 (ndB rfl)) (Jj (dgv 4 (ndB rfl)) JG)))) (Jc (zxu 1 (Y4 Jg) (Jq (dbv 3 (dbc (Jw (zf0 rfl) zox T.max zf2 (Ji (dlv 4) (Ji (dl (Jd Nh G (dbv 2 Ja))) Jm UE) Jr)) Ja)))))) (Jc (QX 1 (Jq (dbc (Jk (dlv 2) dli) (dbc (Jd Nh G (dbv 2 Ja)) Ja)))))))) (UJ 1 (Jc (Je (Jh 1)))))),?_⟩;intro ts n R hl h;obtain @⟨bits,bs,t,n,R,ht,b0,b1,B,l,h⟩:=h;have l9:=UO l;wp_walk;refine ztm ht b1 B l λcs pm pw=>?_;have Bc:Bks bits cs:=λb C=>B b (pm.mem_iff.mp C);have lc:=pm.length_eq;refine zrP 1 2 3 4 (λk a1 _ _ _ m=>m=n/\∃rs:List (Int×Int),a1=ai (.own (pD rs))/\NR rs/\(∀x,mR x rs↔mB x (cs.take k))/\dP rs<=k/\∀r∈rs,∀b∈cs.drop k,r.1<=b.1) ⟨rfl,[],rfl,⟨(λr G=>nomatch G),mL⟩,(λx=>⟨λz=>absurd z QT,λz=>absurd z ZW⟩),av _,λr G=>nomatch G⟩ ?_ ?_
 ·rintro k t' a1 a2 a3 a4 m K RT BK et ⟨rfl,rs,rfl,J,N,lr,lo⟩ hK hRT hBK;obtain⟨i,g,eb,rfl⟩:=Y1 et;have kl:=(aw.mp eb).1;have Bb:=Bc _ (aC eb);have g0:0<=g:=Bb.1;have g1:g<=bits:=Bb.2.1;have pg:=JT (mu g);have tk:cs.take (k+1)=cs.take k++[(i,g)]:=by rw[fH,eb];rfl
  have S:cs.drop k=(i,g)::cs.drop (k+1):=by rw[cq kl];congr 1;have:=ay kl;rw[eb]at this;exact(aG this).symm
  have after:∀b∈cs.drop (k+1),i<=b.1:=λb C=>by have:cs.Pairwise λa b=>a.1<=b.1:=pw;have:=(this.sublist (mS k cs));rw[S]at this;exact(ba.mp this).1 b C
  have m1:∀x,mB x (cs.take (k+1))↔mB x (cs.take k)\/(i<=x/\x<i+2 ^ mu g):=λx=>by rw[tk,Wb,zn5];constructor;rintro(z|z|z);exact fj z;exact xw z;exact absurd z ZW;rintro(z|z);exact fj z;exact xw (fj z)
  have new:(∀r∈rs,r.2<i)->∀c2 c3 c4,K [ai (.val t),ai (.own (pD rs++[fX [b5 i,b5 (i+2 ^ mu g)]])),c2,c3,c4] m:=λhlt c2 c3 c4 =>
   hK _ _ _ _ _ ⟨rfl,rs++[(i,i+2 ^ mu g)],by rw[<- Y2],⟨λr G=>by
    rcases aW.mp G with z|z;exact J.1 r z;cases aE.mp z;show i<i+2 ^ mu g;lia,by
    rw[cU];exact⟨J.2,dU _ _,λa ha b C=>by cases aE.mp C;exact hlt a ha⟩⟩,(λx=>by
    rw[Y0,N,m1,JQ];constructor;rintro(z|z|z);exact fj z;exact xw z;exact absurd z QT;rintro(z|z);exact fj z;exact xw (fj z)),by simp;lia,λr G b C=>by
    rcases aW.mp G with z|z;exact lo r z b (by rw[S];simp[C]);cases aE.mp z;exact after b C⟩
  rcases oC rs with rfl|⟨I,r,rfl⟩
  ·wp_walk using Ug.c g0 (by lia) ?_;show 0<16777216;decide;exact new (λr G=>nomatch G) _ _ _;exact absurd hc (by simp[pD])
  ·rw[oE]at *;have sn:pD (I++[r])=pD I++[fX [b5 r.1,b5 r.2]]:=by simp[pD]
   have lr':dP I+1<=k:=by simpa using lr
   have r12:=J.1 r (by simp);have rlo:r.1<=i:=lo r (by simp) (i,g) (by rw[S];simp);have L:=cU.mp J.2;rw[sn]at new ⊢;wp_walk using zkZ ?_,Ug.c g0 (by lia) ?_;all_goals first
    | (exfalso;simp at hc;done)
    | (exfalso;rename_i y;simp at y;done)
    | (simp[JB];lia)
    | skip
   ·refine zvd zk0 ?_;wp_walk;rw[List.set_append_right _ _ (av _),kJ];have mx:(if i+2 ^ mu g > r.2 then i+2 ^ mu g else r.2)=max r.2 (i+2 ^ mu g):=by split <;> lia
    refine hK _ _ _ _ _ ⟨rfl,I++[(r.1,max r.2 (i+2 ^ mu g))],?_,⟨λs U=>?_,?_⟩,λx=>?_,by simp;lia,λs U b C=>?_⟩;rw[mx];simp[pD];rcases aW.mp U with z|z;exact J.1 s (by simp[z]);cases aE.mp z;show r.1<max r.2 _;lia;rw[cU];exact⟨L.1,dU _ _,λa ha b C=>by cases aE.mp C;exact L.2.2 a ha r (by simp)⟩;have Y:=N x;rw[Y0,JQ]at Y;rw[Y0,JQ,m1,<- Y];have nn:=QT (x:=x);show _\/(r.1<=x/\x<max r.2 (i+2 ^ mu g))\/_↔_;constructor;rintro(z|z|z);exact fj (fj z);by_cases w:x<r.2;exact fj (xw (fj ⟨z.1,w⟩));exact xw (by lia);exact absurd z nn;rintro((z|z|z)|z);exact fj z;exact xw (fj (by lia));exact absurd z nn;exact xw (fj (by lia));rcases aW.mp U with z|z;exact lo s (by simp[z]) b (by rw[S];simp[C]);cases aE.mp z;exact lo r (by simp) b (by rw[S];simp[C])
   refine new (λs U=>?_) _ _ _;rcases aW.mp U with z|z;have:=L.2.2 s z r (by simp);have:=J.1 r (by simp);lia;cases aE.mp z;lia
 ·rintro a1 a2 a3 a4 m ⟨rfl,rs,rfl,J,N,lr,lo⟩;rw[JB]at N lr;rw[cZ]at N;wp_walk;exact h rs J (λx=>by rw[N x,zte pm]) (by lia)
inductive UT:qD->Nat->qN->Prop
 | c {bits:Int} {bs:qB} {t:ae} {n:Nat} {R:qN} (ht:t=tE (pD bs)\/t=fX (pD bs)) (b0:0<=bits) (b1:bits<=64) (B:Bks bits bs) (l:SrtL rkB bs) (h:∀ps,CanP (λx=>mB x bs) ps->dP ps<=dP bs->R (fX (pD ps)) n):UT [t] n R
def Zp(Z:ZZ):Prop:=QF Z "fewest" 9 ["blocks"] 5 1 UT
theorem znW(D:DQ Z "fewest" 9 ["blocks"]) (G:zd_ Z) (I:zfj Z) (T:Txt Z.mg):Zp Z:=by refine' okN ["blocks"] D λv=>⟨_,(Jc (Je (Jd G v (dbc (Jd I v (dbv 0 Ja)) Ja)))),?_⟩;intro ts n R L h;obtain @⟨bits,bs,t,n,R,ht,b0,b1,B,l,h⟩:=h;have N:=UO l;wp_walk using Wz.c ht b0 b1 B l (λrs u o J=>?_);have w:=zs5 b0 b1 u o λx hx=>Q7 b0 B hx;wp_walk using WN.c w ?_ (λps P=>?_);lia;have C:CanP (λx=>mB x bs) ps:=⟨rs,u,o,P⟩;exact h ps C (C.le b0 B)
inductive WU:qD->Nat->qN->Prop
 | c {rs:qB} {top:Int} {n:Nat} {R:qN} (nr:NR rs) (w:∀r∈rs,0<=r.1) (t0:0<=top) (l:dP rs<=100000) (h:∀(gs:qB) (B:Int),NR gs->(∀x,mR x gs↔0<=x/\x<B/\¬mR x rs)->dP gs<=dP rs+1->top<=B->(B=top\/∃r∈rs,B=r.2)->R (tE (pD gs)) n):WU [tE (pD rs),b5 top] n R
theorem zjo{rs:qB}{top:Int}{n:Nat}{R:qN}(C:NR rs)(w:∀r∈rs,0<=r.1/\r.2<=top)(t0:0<=top)(l:dP rs<=100000)(h:∀o,NR o->(∀x,mR x o↔0<=x/\x<top/\¬mR x rs)->dP o<=dP rs+1->R (tE (pD o)) n):WU [tE (pD rs),b5 top] n R:=WU.c C (λr u=>(w r u).1) t0 l λo B G v J L I=>by
 have:B=top:=by rcases I with e|⟨r,u,e⟩;exact e;have:=(w r u).2;lia
 subst this;exact h o G v J
def zeD(Z:ZZ):Prop:=QF Z "gaps_below" 21 ["runs","top"] 1 2 WU
theorem zhq(D:DQ Z "gaps_below" 21 ["runs","top"]) (T:Txt Z.mg):zeD Z:=by
 refine' okN ["runs","top","gaps","begin","low","high"] D λC=>⟨_,(Jb (Uv (i:=2) (ndB rfl) rfl (fj rfl) (J0 Ja)) (Jb (dsv 3 (ndB rfl) Jg) (Jb (QE b9 rfl (zrT (Jh 0)) (JH rfl (Jj (dgv 4 (ndB rfl)) (Jj (dgv 5 (ndB rfl)) JG))) (Jb (Jp (Jl (Qm C) Qk (dlv 3) (dlv 4) (Jf _)) (Jc (QX 2 (Jq (dbv 3 (dbv 4 Ja))))) Jt) (Jc (dsv 3 (ndB rfl) (Jh 5))))) (Jb (Jp (Jl (Qm C) Qk (dlv 3) (dlv 1) (Jf _)) (Jc (QX 2 (Jq (dbv 3 (dbv 1 Ja))))) Jt) (UJ 2 (Jc (Je (Jh 2)))))))),?_⟩;intro ts n R hl h;obtain @⟨rs,top,n,R,nr,w,t0,l,h⟩:=h;wp_walk;refine zrP 2 3 4 5 (λk a2 a3 _ _ m=>m=n/\∃(J:qB) (G:Int),a2=ai (.own (pD J))/\a3=ai (.val (b5 G))/\NR J/\(∀x,mR x J↔0<=x/\x<G/\¬mR x (rs.take k))/\dP J<=k/\0<=G/\(G=0\/∃r∈rs,G=r.2)/\(∀r∈rs.take k,r.2<=G)/\(∀g∈J,g.2<G)/\(∀r∈rs.drop k,(k=0/\G=0/\G<=r.1)\/G<r.1)) ⟨rfl,[],0,rfl,rfl,⟨(λr C=>nomatch C),mL⟩,(λx=>⟨λz=>absurd z QT,λz=>by lia⟩),av _,aN _,fj rfl,(λr C=>nomatch C),(λr C=>nomatch C),λr C=>fj ⟨rfl,rfl,w r C⟩⟩ ?_ ?_
 ·rintro k t' a2 a3 a4 a5 m K RT BK et ⟨rfl,J,G,rfl,rfl,N,S,lg,be0,U,ti,gl,dr⟩ hK hRT hBK;obtain⟨lo,hi,Y,rfl⟩:=Y1 et;have kl:=(aw.mp Y).1;have mr:=aC Y;have L:=nr.1 _ mr;have L:lo<hi:=L;have wr:=w _ mr;have wr1:0<=lo:=wr;have tk:rs.take (k+1)=rs.take k++[(lo,hi)]:=by rw[fH,Y];rfl
  have dk:rs.drop k=(lo,hi)::rs.drop (k+1):=by rw[cq kl];congr 1;have:=ay kl;rw[Y]at this;exact(aG this).symm
  have after:∀r∈rs.drop (k+1),hi<r.1:=λr C=>by have:=(nr.2.sublist (mS k rs));rw[dk]at this;exact(ba.mp this).1 r C
  have here:=dr (lo,hi) (by rw[dk];simp);have here:G<=lo:=by rcases here with z|z;exact z.2.2;exact eT z
  have mt:∀x,mR x (rs.take (k+1))↔mR x (rs.take k)\/(lo<=x/\x<hi):=λx=>by rw[tk,Y0,JQ];constructor;rintro(z|z|z);exact fj z;exact xw z;exact absurd z QT;rintro(z|z);exact fj z;exact xw (fj z)
  have old:∀x,G<=x->¬mR x (rs.take k):=λx hx ⟨r,C,h1,h2⟩=>by have:=ti r C;lia
  have go:∀(I:qB) (c4 c5:Option Cell),NR I->(∀x,mR x I↔mR x J\/(G<=x/\x<lo))->dP I<=k+1->(∀g∈I,g.2<hi)->K [ai (.val (tE (pD rs))),ai (.val (b5 top)),ai (.own (pD I)),ai (.val (b5 hi)),c4,c5] m:=λI c4 c5 n' m' l' g' =>
   hK _ _ _ _ _ ⟨rfl,I,hi,rfl,rfl,n',(λx=>by
    rw[m',S,mt];have ox:=old x;constructor;rintro(⟨a,b,c⟩|⟨a,b⟩);exact⟨a,by lia,λz=>ii z c λz=>by lia⟩;exact⟨by lia,by lia,λz=>ii z (ox a) λz=>by lia⟩;rintro⟨a,b,c⟩;by_cases y:x<G;exact fj ⟨a,y,λz=>c (fj z)⟩;refine xw ⟨by lia,?_⟩;by_cases u:x<lo;exact u;exact absurd (xw ⟨by lia,b⟩) c),l',by lia,xw ⟨_,mr,rfl⟩,(λr C=>by
    rw[tk]at C;rcases aW.mp C with z|z;have:=ti r z;lia;cases aE.mp z;exact aN _),g',λr C=>xw (after r C)⟩
  wp_walk;rw[JB];lia;rw[Y2];refine go (J++[(G,lo)]) _ _ ⟨λr C=>?_,?_⟩ (λx=>?_) (by simp;lia) λg hg=>?_;rcases aW.mp C with z|z;exact N.1 r z;cases aE.mp z;exact hc;rw[cU];exact⟨N.2,dU _ _,λa ha b hb=>by cases aE.mp hb;exact gl a ha⟩;rw[Y0,JQ];constructor;rintro(z|z|z);exact fj z;exact xw z;exact absurd z QT;rintro(z|z);exact fj z;exact xw (fj z);rcases aW.mp hg with z|z;have:=gl g z;lia;cases aE.mp z;exact L;refine go J _ _ N (λx=>⟨fj,λz=>ii z id λz=>by lia⟩) (by lia) λg hg=>?_;have:=gl g hg;lia
 ·rintro a2 a3 a4 a5 m ⟨rfl,J,G,rfl,rfl,N,S,lg,be0,U,ti,gl,dr⟩;rw[JB]at S lg ti;rw[cZ]at S ti;have old:∀x,G<=x->¬mR x rs:=λx hx ⟨r,C,h1,h2⟩=>by have:=ti r C;lia
  wp_walk;rw[JB];lia;rw[Y2];refine h (J++[(G,top)]) top ⟨λr C=>?_,?_⟩ (λx=>?_) (by simp;lia) (aN _) (fj rfl);rcases aW.mp C with z|z;exact N.1 r z;cases aE.mp z;exact hc;rw[cU];exact⟨N.2,dU _ _,λa ha b hb=>by cases aE.mp hb;exact gl a ha⟩;rw[Y0,JQ,S];have ox:=old x;constructor;rintro(⟨a,b,c⟩|z|z);exact⟨a,by lia,c⟩;exact⟨by have:=z.1;lia,z.2,ox z.1⟩;exact absurd z QT;rintro⟨a,b,c⟩;by_cases y:x<G;exact fj ⟨a,y,c⟩;exact xw (fj ⟨by show G<=x;lia,b⟩);refine h J G N S (by lia) (by lia) ?_;rcases U with z|z;exact fj (by lia);exact xw z
inductive Wy:qD->Nat->qN->Prop
 | c {bits:Int} {ps:qB} {n:Nat} {R:qN} (b0:1<=bits) (b1:bits<=64) (B:Bks bits ps) (l:SrtL rkB ps) (h:∀qs,CanP (λx=>0<=x/\x<2 ^ mu bits/\¬mB x ps) qs->dP qs<=130*(dP ps+1)->R (fX (pD qs)) n):Wy [b5 bits,fX (pD ps)] n R
def zfk(Z:ZZ):Prop:=QF Z "rest_of" 11 ["bits","patch"] 5 2 Wy
theorem zlN(D:DQ Z "rest_of" 11 ["bits","patch"]) (L:zd_ Z) (N:zeD Z) (S:zfj Z) (T:Txt Z.mg):zfk Z:=by
 refine' okN ["bits","patch"] D λo=>⟨_,(Jc (Je (Jd L o (dbc (Jd N o (dbc (Jd S o (dbv 1 Ja)) (dbc (Qd dli (dlv 0)) Ja))) Ja)))),?_⟩;intro ts n R Y h;obtain @⟨bits,ps,n,R,b0,b1,B,l,h⟩:=h;have l9:=UO l;wp_walk using Wz.c (xw rfl) (by lia) b1 B l (λrs C v U=>?_);exact cpow (by lia) (by lia);have w:=zs5 (by lia) b1 C v λx hx=>Q7 (by lia) B hx;have wt:∀r∈rs,0<=r.1/\r.2<=1*2 ^ mu bits:=λr o=>by have lt:=C.1 r o;have:=Q7 (by lia) B ((v (r.2 - 1)).mp ⟨r,o,by lia,by lia⟩);have:=(w r o).1;rw[QA];lia
 have tp:=JT (mu bits);wp_walk using zjo C wt (by lia) (by lia) (λJ I mg lg=>?_);have u:∀x,mR x J↔0<=x/\x<2 ^ mu bits/\¬mB x ps:=λx=>by rw[mg,QA,v]
 have G:=zs5 (by lia) b1 I u λx hx=>⟨hx.1,hx.2.1⟩;wp_walk using WN.c G ?_ (λqs P=>?_);lia;have:=P.len λr o=>⟨(G r o).1,(G r o).2.2⟩;exact h qs ⟨J,I,u,P⟩ (by lia)
inductive Wu:qD->Nat->qN->Prop
 | c {bits a:Int} {bs:qB} {n:Nat} {R:qN} (b1:bits<=64) (P:Ptc bits bs) (hl:dP bs<1000000) (h:∀k:Nat,k<=dP bs->(∀(j:Nat) (b:Int×Int),j<k->bs[j]?=ai b->eB b<=a)->(∀(j:Nat) (b:Int×Int),k<=j->bs[j]?=ai b->a<eB b)->R (b5 (k:Int)) n):Wu [fX (pD bs),b5 a] n R
def zec(Z:ZZ):Prop:=QF Z "ended_by" 16 ["patch","address"] 3 2 Wu
theorem zjX(D:DQ Z "ended_by" 16 ["patch","address"]) (Nh:UZ Z) (T:Txt Z.mg):zec Z:=by
 refine' okN ["patch","address","low","high","middle"] D λhr=>⟨_,(Jb (dsv 2 (ndB rfl) Jg) (Jb (dsv 3 (ndB rfl) (Jw Qi Qg T.len J4 (Ji (dlv 0) Jm Jr))) (Jb (zhF b9 (Jl (Qm hr) Qk (dlv 2) (dlv 3) (Jf _)) (Jb (dsv 4 (ndB rfl) (zoT (dl (JC (dlv 2) (dlv 3))) dli)) (Jc (Jp (Jl Qh Qf (dl (Jd Nh hr (dbc (Jk (dlv 0) (dlv 4)) Ja))) (dlv 1) (Jf _)) (Jc (dsv 2 (ndB rfl) (JC (dlv 4) dli))) (Jc (dsv 3 (ndB rfl) (Jh 4))))))) (Jc (Je (Jh 2)))))),?_⟩;rintro ts n R hl @⟨bits,a,bs,n,R,b1,P,hl6,hh⟩;have srt:=P.ends;wp_walk;rw[JB];refine zhQ (m:=dP bs) (λm ρ Y=>Y=n/\∃lo hi:Nat,∃c,ρ=[ai (.val (fX (pD bs))),ai (.val (b5 a)),ai (.val (b5 (lo:Int))),ai (.val (b5 (hi:Int))),c]/\lo<=hi/\hi<=dP bs/\m=hi - lo/\(∀(j:Nat) (b:Int×Int),j<lo->bs[j]?=ai b->eB b<=a)/\(∀(j:Nat) (b:Int×Int),hi<=j->bs[j]?=ai b->a<eB b)) ?_ ?_;refine⟨rfl,0,dP bs,ao,rfl,dw _,av _,rfl,λj b C=>absurd C (Nat.not_lt_zero _),λj b C e=>?_⟩;rw[bV C]at e;cases e
 ·rintro m ρ Y ⟨rfl,lo,hi,c,rfl,h1,N,rfl,S,J⟩;wp_walk;exact zxG
  ·have hm:(lo+hi) / 2<dP bs:=by lia
   obtain⟨b,G⟩:∃b,bs[(lo+hi) / 2]?=ai b:=⟨_,ay hm⟩;have L:=P.1 b (aC G);refine ztn (k:=(lo+hi) / 2) (by lia) (zsU G) ?_;have U:∀(i j:Nat) (x y:Int×Int),bs[i]?=ai x->bs[j]?=ai y->i<=j->eB x<=eB y:=λi j x y ei I hij=>by by_cases z:i=j;subst z;rw[ei]at I;cases I;exact aN _;obtain⟨l1,rfl⟩:=aw.mp ei;obtain⟨l2,rfl⟩:=aw.mp I;exact aM.mp srt i j l1 l2 (by lia)
   wp_walk using Ug.c ?_ ?_ ?_;exact L.1;have:=L.2.1;lia
   ·have hc:eB b<=a:=hc;refine⟨_,?_,rfl,(lo+hi) / 2+1,hi,ai (.val (b5 (((lo+hi) / 2:Nat):Int))),?_,by lia,N,rfl,λj x C e=>?_,J⟩;lia
    ·have o:((lo:Int)+hi) / 2=(((lo+hi) / 2:Nat):Int):=by lia
     first|(rw[o];done)|(rw[o];rfl)
    exact nS (U _ _ _ _ e G (by lia)) hc
   ·have hc:¬eB b<=a:=hc;refine⟨_,?_,rfl,lo,(lo+hi) / 2,ai (.val (b5 (((lo+hi) / 2:Nat):Int))),?_,by lia,by lia,rfl,S,λj x C e=>?_⟩;lia
    ·have o:((lo:Int)+hi) / 2=(((lo+hi) / 2:Nat):Int):=by lia
     first|(rw[o];done)|(rw[o];rfl)
    have:=U _ _ _ _ G e (by lia);lia
  have e:lo=hi:=by lia
  subst e;exact hh lo N S J
inductive zcL:qD->Nat->qN->Prop
 | c {bits a:Int} {bs:qB} {n:Nat} {R:qN} (b1:bits<=64) (P:Ptc bits bs) (hl:dP bs<1000000) (h:∀b∈bs,b.1<=a->a<eB b->R (fX [b5 b.1,b5 b.2]) n) (h':(∀b∈bs,¬(b.1<=a/\a<eB b))->R oK n):zcL [fX (pD bs),b5 a] n R
def zeE(Z:ZZ):Prop:=QF Z "block_with" 12 ["patch","address"] 4 2 zcL
theorem zhr(D:DQ Z "block_with" 12 ["patch","address"]) (J:zec Z) (T:Txt Z.mg):zeE Z:=by
 refine' okN ["patch","address","at"] D λC=>⟨_,(Jb (dsv 2 (ndB rfl) (Jd J C (dbv 0 (dbv 1 Ja)))) (Jb (Jp (JV (YG (Jl (Qm C) Qk (dlv 2) (dl (Jw Qi Qg T.len J4 (Ji (dlv 0) Jm Jr))) (Jf _)) (Y7 (Jl Qh Qf (dl (Jk (dl (Jk (dlv 0) (dlv 2))) dli)) (dlv 1) (Jf _))))) (Jc (Je (Jk (dlv 0) (dlv 2)))) Jt) (Jc (Je QM)))),?_⟩;rintro ts n R hl @⟨bits,a,bs,n,R,b1,P,hl6,hh,hn⟩;wp_walk using Wu.c b1 P hl6 (λk S G N=>?_)
 ·rw[JB]at hc;have L:k<dP bs:=by lia
  obtain⟨b,o⟩:∃b,bs[k]?=ai b:=⟨_,ay L⟩;refine ztn (k:=k) rfl (zsU o) ?_;wp_walk;refine ztn (k:=k) rfl (zsU o) ?_;exact hh b (aC o) (by assumption) (N k b (av _) o);have hx:¬b.1<=a:=hc;refine hn λx l ⟨x0,x1⟩=>?_;obtain⟨j,v,rfl⟩:=bc l;have u:=ay v;by_cases z:j<k;have:=G j _ z u;lia;by_cases y:j=k;subst y;rw[u]at o;cases o;exact hx x0;obtain⟨I,rfl⟩:=aw.mp o;have:=aM.mp P.2 k j I v (by lia);have:=Qj bs[k];exact hx (by lia)
 rw[JB]at hc;refine hn λx l ⟨x0,x1⟩=>?_;obtain⟨j,v,rfl⟩:=bc l;have:=G j _ (by lia) (ay v);lia
theorem zvR{bits:Int}{bs:qB}(P:Ptc bits bs){p q:Int×Int}{x:Int}(o:p∈bs)(u:q∈bs)(p1:p.1<=x)(p2:x<eB p)(v:q.1<=x)(C:x<eB q):p=q:=by obtain⟨i,hi,rfl⟩:=bc o;obtain⟨j,l,rfl⟩:=bc u;rcases cC i j with z|z|z;have:=aM.mp P.2 i j hi l z;lia;subst z;rfl;have:=aM.mp P.2 j i l hi z;lia
inductive zck:qD->Nat->qN->Prop
 | c {bits:Int} {bs:qB} {b:Int×Int} {n:Nat} {R:qN} (b0:0<=bits) (b1:bits<=64) (P:Ptc bits bs) (hl:dP bs<1000000) (B:IsBk bits b.1 b.2) (h:∀p∈bs,p.1<=b.1->eB b<=eB p->R (fX [b5 p.1,b5 p.2]) n) (h':(∀p∈bs,¬(p.1<=b.1/\eB b<=eB p))->R oK n):zck [fX (pD bs),fX [b5 b.1,b5 b.2]] n R
def zdL(Z:ZZ):Prop:=QF Z "block_about" 13 ["patch","block"] 5 2 zck
theorem zf4(D:DQ Z "block_about" 13 ["patch","block"]) (S:zeE Z) (x:znw Z) (T:Txt Z.mg):zdL Z:=by
 refine' okN ["patch","block","found"] D λv=>⟨_,(Jb (dsv 2 (ndB rfl) (Jd S v (dbv 0 (dbc (Jk (dlv 1) dli) Ja)))) (Jb (Jp (JV (YG (Jl Zd Y8 (dlv 2) (dl QM) (Jf _)) (Y7 (JM (dl (Jd x v (dbv 2 (dbv 1 Ja)))))))) (Jc (Je (Jh 2))) Jt) (Jc (Je QM)))),?_⟩;rintro ts n R hl @⟨bits,bs,b,n,R,b0,b1,P,hl2,B,h,h'⟩;have bd:=B.bounds b0;have pe:=Qj b;have I:(2:Int) ^ mu bits<=2 ^ 64:=Bd.zdO (by lia);have U:=Bd.JT (mu b.2);have C:b.1<2 ^ 64:=by lia
 have u:∀p∈bs,p.2<=1000:=λp l=>by have:=(P.1 p l).2.1;lia
 have o:∀p∈bs,0<=p.2:=λp l=>(P.1 p l).1;wp_walk using zcL.c b1 P hl2 (λp l L N=>?_) (λno=>?_),zke.c (o _ l) (u _ l) bd.1 C ?_;exact absurd hc (by simp[isNone]);rw[zrM (P.1 p l) B]at hc;have hd:=of_decide_eq_true hc;exact h p l hd.1 hd.2;rw[zrM (P.1 p l) B]at hc;have hd:=of_decide_eq_false hc;refine h' λq J z=>?_;have G:q=p:=zvR P J l z.1 (by lia) L N;subst G;exact hd z;exact h' λp l z=>no p l ⟨z.1,by lia⟩;exact absurd hc (by simp[isNone])
inductive Wx:qD->Nat->qN->Prop
 | c {bits:Int} {bs:qB} {b:Int×Int} {n:Nat} {R:qN} (b0:0<=bits) (b1:bits<=64) (P:Ptc bits bs) (hl:dP bs<1000000) (B:IsBk bits b.1 b.2) (h:∀k:Bool,(k=bj↔∃p∈bs,p.1<=b.1/\eB b<=eB p)->R (k6 k) n):Wx [fX (pD bs),fX [b5 b.1,b5 b.2]] n R
def zfm(Z:ZZ):Prop:=QF Z "has_all" 14 ["patch","block"] 6 2 Wx
theorem zlP(D:DQ Z "has_all" 14 ["patch","block"]) (x:zdL Z) (T:Txt Z.mg):zfm Z:=by refine' okN ["patch","block"] D λu=>⟨_,(Jc (Je (J5 Zd Y8 (dl (Jd x u (dbv 0 (dbv 1 Ja)))) (dl QM) (Jf _)))),?_⟩;rintro ts n R hl @⟨bits,bs,b,n,R,b0,b1,P,hl2,B,h⟩;wp_walk using zck.c b0 b1 P hl2 B (λp l o v=>?_) (λno=>?_);exact h _ ⟨λ_=>⟨p,l,o,v⟩,λ_=>rfl⟩;exact h _ ⟨λz=>(nomatch z),λ⟨p,l,z⟩=>absurd z (no p l)⟩
inductive Ww:qD->Nat->qN->Prop
 | c {bits:Int} {bs:qB} {b:Int×Int} {n:Nat} {R:qN} (b0:0<=bits) (b1:bits<=64) (P:Ptc bits bs) (hl:dP bs<1000000) (B:IsBk bits b.1 b.2) (h:∀k:Bool,(k=bj↔∀p∈bs,eB p<=b.1\/eB b<=p.1)->R (k6 k) n):Ww [fX (pD bs),fX [b5 b.1,b5 b.2]] n R
def zeb(Z:ZZ):Prop:=QF Z "has_none" 15 ["patch","block"] 4 2 Ww
theorem zjV(D:DQ Z "has_none" 15 ["patch","block"]) (G:zec Z) (I:UZ Z) (T:Txt Z.mg):zeb Z:=by
 refine' okN ["patch","block","at"] D λx=>⟨_,(Jb (dsv 2 (ndB rfl) (Jd G x (dbv 0 (dbc (Jk (dlv 1) dli) Ja)))) (Jc (Je (zrY (J5 (Ux x) Uq (dlv 2) (dl (Jw Qi Qg T.len J4 (Ji (dlv 0) Jm Jr))) (Jf _)) (Ue (J5 Qh Qf (dl (Jd I x (dbv 1 Ja))) (dl (Jk (dl (Jk (dlv 0) (dlv 2))) dli)) (Jf _))))))),?_⟩;rintro ts n R hl @⟨bits,bs,b,n,R,b0,b1,P,hl2,B,h⟩;have h0:=B.1;have J:b.2<=1000:=by have:=B.2.1;lia
 wp_walk using Wu.c b1 P hl2 (λk N lo up=>?_),Ug.c h0 J ?_;rw[JB]at hc;refine h bj ⟨λ_ p C=>?_,λ_=>rfl⟩;obtain⟨j,v,e⟩:=bc C;exact fj (lo j p (by lia) (by rw[ay v,e]))
 ·rw[JB]at hc;have o:k<dP bs:=by lia
  have L:(pD bs)[k]?=ai (fX [b5 bs[k].1,b5 bs[k].2]):=by rw[pD,aT,ay o];rfl
  refine zwx L ?_;wp_walk;refine h _ ?_;rw[decide_eq_true_eq];constructor;intro z p C;obtain⟨j,v,rfl⟩:=bc C;rcases cC j k with q|q|q;exact fj (lo j _ q (ay v));subst q;exact xw z;have:=aM.mp P.2 k j o v q;have:=Qj bs[k];exact xw (by unfold eB at *;lia);intro z;have:=up k bs[k] (av _) (ay o);rcases z bs[k] (eK o) with q|q;lia;exact q
inductive zep:qD->Nat->qN->Prop
 | c {bits:Int} {ps:qB} {n:Nat} {R:qN} (b0:0<=bits) (b1:bits<=64) (P:Ptc bits ps) (l:dP ps<=10000) (h:∀bs:BL,PInv bits ps bs (dP bs)->dP bs<=1+130*dP ps->R (tE (pD bs)) n):zep [b5 bits,fX (pD ps)] n R
def zgw(Z:ZZ):Prop:=QF Z "parts_of" 26 ["bits","patch"] 7 2 zep
theorem zjP(D:DQ Z "parts_of" 26 ["bits","patch"]) (NG:zfm Z) (Nz:zeb Z) (Nv:Wm Z) (T:Txt Z.mg):zgw Z:=by
 refine' okN ["bits","patch","parts","at","block"] D λJ=>⟨_,(Jb (Uv (i:=2) (ndB rfl) rfl (fj rfl) (J0 (dbc (Jq (dbc Jg (dbv 0 Ja))) Ja))) (Jb (dsv 3 (ndB rfl) Jg) (Jb (zhF b9 (Jl (Qm J) Qk (dlv 3) (dl (Jw Qi Qg T.len J4 (Ji (Uu 2) Jm Jr))) (Jf _)) (Jb (dsv 4 (ndB rfl) (Jk (Uu 2) (dlv 3))) (Jb (Jp (JV (YG (J7 (JM (dl (Jd NG J (dbv 1 (dbv 4 Ja)))))) (Y7 (J7 (JM (dl (Jd Nz J (dbv 1 (dbv 4 Ja))))))))) (Jc (zmo 2 (Jd Nv J (dbv 4 Ja)))) Jt) (Jc (zxw (i:=3) (ndB rfl) rfl (fj rfl) Jg zwK))))) (UJ 2 (Jc (Je (Jh 2))))))),?_⟩;rintro ts n R hl @⟨bits,ps,n,R,b0,b1,P,l,h⟩;wp_walk;refine zmJ (m:=msz ([(0,bits)]:BL)) (λm ρ U=>U=n/\∃(bs:BL) (k:Nat) (c:Option Cell),ρ=[ai (.val (b5 bits)),ai (.val (fX (pD ps))),ai (.own (pD bs)),ai (.val (b5 (k:Int))),c]/\PInv bits ps bs k/\k<=dP bs/\msz (bs.drop k)<=m) ⟨rfl,[(0,bits)],0,_,rfl,PInv.start b0,by simp,av _⟩ ?_;rintro m ρ U K RT BK ⟨rfl,bs,k,c,rfl,I,kl,hm⟩ hK hRT hBK;have ln:=I.len b1 P.1;wp_walk
 ·rw[JB]at hc;have S:k<dP bs:=by lia
  have x:bs[k]?=ai bs[k]:=ay S;generalize bs[k]=b at x;have gb:(pD bs)[k]?=ai (fX [b5 b.1,b5 b.2]):=by rw[pD,aT,x];rfl
  have B:=I.bk b (aC x);have L:b.2<=1000:=by have:=B.2.1;lia
  have lp:dP ps<1000000:=by lia
  refine zwy gb ?_;wp_walk using Wx.c b0 b1 P lp B (λal G=>?_);subst hc;refine hK _ _ _ ?_ ⟨rfl,bs,k+1,_,by rw[nG],I.no x (λz=>z.2 (G.mp rfl)),S,av _⟩;have:=zrE x;lia
  ·subst hc;wp_walk using Ww.c b0 b1 P lp B (λno C=>?_);subst hc;refine hK _ _ _ ?_ ⟨rfl,bs,k+1,_,by rw[nG],I.no x (λz=>z.1 (C.mp rfl)),S,av _⟩;have:=zrE x;lia
   ·subst hc;have pr:Prt ps b:=⟨λz=>absurd (C.mpr z) (by decide),λz=>absurd (G.mpr z) (by decide)⟩;have Y:=pr.pos B;wp_walk using UG.c Y L ?_;rw[JB];show dP bs+2<=_;lia;have ep:pD bs++[fX [b5 b.1,b5 (b.2 - 1)],fX [b5 (cP b.1 (2 ^ mu (b.2 - 1))),b5 (b.2 - 1)]]=pD (bs++[loH b,upH b]):=by simp[pD,prD]
    refine hK _ _ _ ?_ ⟨rfl,bs++[loH b,upH b],k+1,_,by rw[nG,ep],I.yes b0 x pr,by rw[a9];lia,av _⟩;have:=ztc x Y;lia
 ·rw[JB]at hc;have e:k=dP bs:=by lia
  subst e;refine hBK _ _ ?_;wp_walk;exact h bs I ln
inductive WG:qD->Nat->qN->Prop
 | c {bits:Int} {ps:qB} {qs:PR} {b:Int×Int} {n:Nat} {R:qN} (b0:0<=bits) (b1:bits<=64) (P:Ptc bits ps) (hl:dP ps<1000000) (B:IsBk bits b.1 b.2) (h:∀no al:Bool,(no=bj↔HasN ps b)->(al=bj↔HasA ps b)->R (optD (bpD no al qs b)) n):WG [fX (pD ps),tD (Js (prK qs)),fX [b5 b.1,b5 b.2]] n R
def zdn(Z:ZZ):Prop:=QF Z "best_pair" 27 ["patch","pairs","block"] 7 3 WG
theorem ziz(D:DQ Z "best_pair" 27 ["patch","pairs","block"]) (U:zeb Z) (S:zfm Z) (Y:Wm Z) (T:Txt Z.mg):zdn Z:=by
 refine' okN ["patch","pairs","block","lower","upper","zeros","ones"] D λo=>⟨_,(Jb (Jp (JM (dl (Jd U o (dbv 0 (dbv 2 Ja))))) (Jc (Je (Jq (dbc Jg (dbc Jg Ja))))) Jt) (Jb (Jp (JM (dl (Jd S o (dbv 0 (dbv 2 Ja))))) (Jc (Je (Jq (dbc Jg (dbc Jg Ja))))) Jt) (Jb (Qq (Jd Y o (dbv 2 Ja)) (JH rfl (Jj (dgv 3 (ndB rfl)) (Jj (dgv 4 (ndB rfl)) JG)))) (Jb (Jp (JV (Qc (Jl (zjL (JP o)) Z2 (dlv 3) (dlv 1) rfl) (Qx (Jl (zjL (JP o)) Z2 (dlv 4) (dlv 1) rfl)))) (Jc (Je QM)) Jt) (Jb (dsv 5 (ndB rfl) (JC (dl (Jk (dl (Qp (JP o) (dlv 1) (dlv 3))) dli)) (dl (Jk (dl (Qp (JP o) (dlv 1) (dlv 4))) dli)))) (Jb (dsv 6 (ndB rfl) (JC (dl (Jk (dl (Qp (JP o) (dlv 1) (dlv 3))) dli)) (dl (Jk (dl (Qp (JP o) (dlv 1) (dlv 4))) dli)))) (Jc (Je (Jq (dbc (Jw (VM rfl) Z3 T.min Zr (Ji (dlv 5) (Ji (dl (JC (dlv 6) dli)) Jm Ve) Jr)) (dbc (Jw (VM rfl) Z3 T.min Zr (Ji (dlv 6) (Ji (dl (JC (dlv 5) dli)) Jm Ve) Jr)) Ja))))))))))),?_⟩;rintro ts n R hl @⟨bits,ps,qs,b,n,R,b0,b1,P,hl2,B,h⟩;have L:b.2<=1000:=by have:=B.2.1;lia
 wp_walk using Ww.c b0 b1 P hl2 B (λno v=>?_);subst hc
 classical
 exact h bj (decide (HasA ps b)) v (by rw[decide_eq_true_eq])
 ·subst hc;wp_walk using Wx.c b0 b1 P hl2 B (λal C=>?_);subst hc;exact h bA bj v C
  ·subst hc;have N:1<=b.2:=by
    have h0:=B.1;rcases fU 0 b.2 with z|z;lia;rcases zhx (ps:=ps) (b:=b) (by lia) with q|q;exact absurd (v.mpr q) (by decide);exact absurd (C.mpr q) (by decide)
   have key:=h bA bA v C;cases e1:valP qs (loH b) with
   | none =>
    have J:valT (prK qs) (loH b)=ao:=by rw[Qw,e1];rfl
    have G:bpD bA bA qs b=ao:=by simp[bpD,e1]
    rw[G]at key;wp_walk using UG.c N L ?_,Q5 (k:=loH b) ?_;exact key;rw[J]at hc;cases hc
   | some x =>
    have J:valT (prK qs) (loH b)=ai (fX [b5 x.1,b5 x.2]):=by rw[Qw,e1];rfl
    cases e2:valP qs (upH b) with
    | none =>
     have I:valT (prK qs) (upH b)=ao:=by rw[Qw,e2];rfl
     have G:bpD bA bA qs b=ao:=by simp[bpD,e1,e2]
     rw[G]at key;wp_walk using UG.c N L ?_,Q5 (k:=loH b) ?_,Q5 (k:=upH b) ?_;exact key;exact key;rw[I]at hc;cases hc
    | some y =>
     have I:valT (prK qs) (upH b)=ai (fX [b5 y.1,b5 y.2]):=by rw[Qw,e2];rfl
     have G:bpD bA bA qs b=ai (if x.2+y.2+1<x.1+y.1 then x.2+y.2+1 else x.1+y.1,if x.1+y.1+1<x.2+y.2 then x.1+y.1+1 else x.2+y.2):=by simp only[bpD,e1,e2];rfl
     rw[G]at key;wp_walk using UG.c N L ?_,Q5 (k:=loH b) ?_,Q5 (k:=upH b) ?_,Qs J ?_,Qs I ?_;rw[J]at hc;cases hc;rw[I]at hc;cases hc;exact key
inductive VU:qD->Nat->qN->Prop
 | c {bits:Int} {bs:BL} {n:Nat} {R:qN} (b0:0<=bits) (b1:bits<=64) (B:Bks bits bs) (l:SrtL rkB bs) (l2:dP bs<=10000) (h:∀(ps:BL) (qs:PR),CanP (λx=>mB x bs) ps->PrOk bits ps qs->R (tD (Js (prK qs))) n):VU [b5 bits,fX (pD bs)] n R
def WP(Z:ZZ):Prop:=QF Z "pairs_of" 25 ["bits","patch"] 8 2 VU
theorem zjQ(D:DQ Z "pairs_of" 25 ["bits","patch"]) (Ni:Zp Z) (Od:zgw Z) (Nr:zdn Z) (T:Txt Z.mg):WP Z:=by
 refine' okN ["bits","patch","wanted","pairs","block"] D λG=>⟨_,(Jb (dsv 2 (ndB rfl) (Jd Ni G (dbv 1 Ja))) (Jb (ztR (i:=3) (ndB rfl) rfl (fj rfl)) (Jb (QE b9 rfl (zrU T.rev (Jd Od G (dbv 0 (dbv 2 Ja)))) (dgv 4 (ndB rfl)) (Jc (zoH 3 (JP G) (Jh 4) (zrZ Nr G (Ji (dlv 2) (Ji (zkg 3) (Ji (dlv 4) Jm Jr) Jr) Jr))))) (Jc (ztS 3))))),?_⟩;rintro ts n R hl @⟨bits,bs,n,R,b0,b1,B,l,l2,h⟩;wp_walk using UT.c (xw rfl) b0 b1 B l (λps C lp=>?_);have P:Ptc bits ps:=C.ptc b0 λx hx=>Q7 b0 B hx;have l3:dP ps<=10000:=by lia
 wp_walk using zep.c b0 b1 P l3 (λo I lw=>?_);have er:fm (pD o)=pD (fm o):=by simp[pD]
 rw[er];refine Uh (λk U N=>N=n/\∃qs:PR,∃L,U=[ai (.val (b5 bits)),ai (.val (fX (pD bs))),ai (.val (fX (pD ps))),ai (.dtt (prK qs)),L]/\PrsI bits ps o k qs) ⟨rfl,[],_,rfl,PrsI.start⟩ ?_ ?_
 ·rintro k t U N K et ⟨rfl,qs,L,rfl,J⟩ hK;obtain⟨i,h,S,rfl⟩:=Y1 et;have Bb:=I.bk _ (iB.mp (aC S));have Y:dP ps<1000000:=by lia
  have lq:dP qs<=dP o:=by have:=congrArg dP J.keys;simp at this;lia
  wp_walk using WG.c (b:=(i,h)) b0 b1 P Y Bb (λno al hn ha=>?_);obtain⟨v,e,fr,J2⟩:=J.step I S hn ha;rw[e];rfl;rw[prK,aI];lia;obtain⟨v,e,fr,J2⟩:=J.step I S hn ha;rw[e,show optD (ai v)=twoD v from rfl,znx fr];exact hK _ _ ⟨rfl,_,_,rfl,J2⟩
 ·rintro U N ⟨rfl,qs,L,rfl,J⟩;rw[JB,fk]at J;wp_walk;exact h ps qs C ⟨o,I,J⟩
inductive Zt:qD->Nat->qN->Prop
 | c {qs:PR} {b:Int×Int} {n:Nat} {R:qN} (h0:0<=b.2) (h1:b.2<=1000) (hn:b.2=0\/valP qs (loH b)=ao->R (fX []) n) (hs:1<=b.2->∀v,valP qs (loH b)=ai v->R (fX [fX [b5 (loH b).1,b5 (loH b).2],fX [b5 (upH b).1,b5 (upH b).2]]) n):Zt [tD (Js (prK qs)),fX [b5 b.1,b5 b.2]] n R
def zbC(Z:ZZ):Prop:=QF Z "parted_halves" 29 ["pairs","block"] 3 2 Zt
theorem zeS(D:DQ Z "parted_halves" 29 ["pairs","block"]) (G:Wm Z) (T:Txt Z.mg):zbC Z:=by
 refine' okN ["pairs","block","lower","upper"] D λo=>⟨_,(Jb (Jp (Jl (Ux o) Uq (dl (Jk (dlv 1) dli)) dli (Jf _)) (Jc (Je (Jq Ja))) Jt) (Jb (Qq (Jd G o (dbv 1 Ja)) (JH rfl (Jj (dgv 2 (ndB rfl)) (Jj (dgv 3 (ndB rfl)) JG)))) (Jc (Je (Zf (Jl (zrA (JP o)) Z2 (dlv 2) (dlv 0) rfl) (Jq (dbv 2 (dbv 3 Ja))) (Jq Ja)))))),?_⟩;rintro ts n R hl @⟨qs,b,n,R,h0,h1,hn,hs⟩;by_cases z:b.2=0
 ·have k:=hn (fj z);wp_walk;exact k;exact absurd hc (by simp[z])
 ·have v:1<=b.2:=by lia
  cases e1:valP qs (loH b) with
  | none =>
   have C:valT (prK qs) (loH b)=ao:=by rw[Qw,e1];rfl
   have k:=hn (xw e1);wp_walk using UG.c v h1 ?_,Q5 (k:=loH b) ?_;exact absurd (by simpa using hc) z;rw[C]at hc;cases hc;exact k
  | some x =>
   have C:valT (prK qs) (loH b)=ai (fX [b5 x.1,b5 x.2]):=by rw[Qw,e1];rfl
   have k:=hs v x e1;wp_walk using UG.c v h1 ?_,Q5 (k:=loH b) ?_;exact absurd (by simpa using hc) z;exact k;rw[C]at hc;cases hc
inductive WH:qD->Nat->qN->Prop
 | c {bits:Int} {ps:BL} {qs:PR} {b v:Int×Int} {a:Int} {n:Nat} {R:qN} (b1:bits<=64) (Q:PrOk bits ps qs) (m:(b,v)∈qs) (ha:a=0\/a=1) (hn:¬Prt ps b->R (b5 (if v.1=0 then 0 else 1)) n) (hp:Prt ps b->∀x y,valP qs (loH b)=ai x->valP qs (upH b)=ai y->R (b5 (sgn a x y)) n):WH [tD (Js (prK qs)),fX [b5 b.1,b5 b.2],b5 a] n R
def zfo(Z:ZZ):Prop:=QF Z "best_sign" 28 ["pairs","block","ahead"] 4 3 WH
theorem ziy(D:DQ Z "best_sign" 28 ["pairs","block","ahead"]) (Nj:zbC Z) (T:Txt Z.mg):zfo Z:=by
 refine' okN ["pairs","block","ahead","within","costs"] D λS=>⟨_,(Jb (dsv 3 (ndB rfl) (Jd Nj S (dbv 0 (dbv 1 Ja)))) (Jb (Jp (J7 (JM (dlv 3))) (Jc (Je (zoS (Qp (JP S) (dlv 0) (dlv 1)) Jg))) Jt) (Jb (Y6 (Zg (i:=4) (ndB rfl) rfl (fj rfl) (own:=["sign"]) (capt:=[3,0]) rfl (Jv.of rfl) (dil (JZ (Jq (dbc Jg (dbc Jg Ja))))) (λ_ _ _ _=>(dgv 0 (ndB rfl))) (by decide) (λ_ _ _ _=>QV) (λ_ _ _ _=>(Jw (zpb rfl) zxd T.sum zpg (Ji (dl (Jz (dnc ["half"] [0,2] (dil (JZ (Jh 1))) (λ_ _ _ _=>(dgv 0 (ndB rfl))) (λ_ _ _ _=>(Jk (dl (Qp (JP S) (dlv 2) (dlv 0))) (dlv 1)))))) Jm QO))))) (Jc (Je (Zf (Jl Qh Qf (dl (Jk (dlv 4) (dlv 2))) (dl (JC (dl (Jk (dlv 4) (dl (J6 dli (dlv 2))))) dli)) (Jf _)) (Jh 2) (J6 dli (dlv 2)))))))),?_⟩;rintro ts n R hl @⟨bits,ps,qs,b,v,a,n,R,b1,Q,m,ha,hn,hp⟩;have B:=Q.bk _ m;have h0:0<=b.2:=B.1;have h1:b.2<=1000:=by have:=B.2.1;dsimp only at this;lia
 have vt:valT (prK qs) b=ai (fX [b5 v.1,b5 v.2]):=by rw[Qw,zjz Q.nd m];rfl
 by_cases p:Prt ps b
 ·obtain⟨x,y,J,e2,_⟩:=Q.kids m p;have k:=hp p x y J e2;have v1:valT (prK qs) (loH b)=ai (fX [b5 x.1,b5 x.2]):=by rw[Qw,J];rfl
  have Y:valT (prK qs) (upH b)=ai (fX [b5 y.1,b5 y.2]):=by rw[Qw,e2];rfl
  have gp:=p.pos B;wp_walk using Zt.c h0 h1 (λz=>?_) (λU w I=>?_);exfalso;rcases z with z|z;lia;rw[J]at z;cases z;exfalso;rcases z with z|z;lia;rw[J]at z;cases z;cases hc
  ·refine Qr (cs:=([0,1]:List Int)) (D:=b5) (λs=>b5 (if s=0 then x.1+y.1 else x.2+y.2)) (by decide) ?_ ?_
   ·intro s hs K2 X2 L;have ne:upH b≠loH b:=λz=>by
     rw[up_eq B gp]at z;have e:=congrArg nB z;have:=JT (mu (b.2 - 1));dsimp only at e;lia
    wp_walk;refine Qr (cs:=[loH b,upH b]) (D:=prD) (λc=>b5 (if c=loH b then(if s=0 then x.1 else x.2) else(if s=0 then y.1 else y.2))) (show 2<=16777216 by decide) ?_ ?_
    ·intro c hc K3 X3 C;have G:s=0\/s=1:=by simpa using hs
     rcases ax.mp hc with rfl|hc
     ·rw[if_pos rfl]at C;rcases G with rfl|rfl
      ·wp_walk using Qs v1 ?_;exact C
      ·wp_walk using Qs v1 ?_;exact C
     ·rw[aE]at hc;subst hc;rw[if_neg ne]at C;rcases G with rfl|rfl
      ·wp_walk using Qs Y ?_;exact C
      ·wp_walk using Qs Y ?_;exact C
    ·have G:s=0\/s=1:=by simpa using hs
     have em:[loH b,upH b].map (λc=>b5 (if c=loH b then(if s=0 then x.1 else x.2) else(if s=0 then y.1 else y.2)))=[if s=0 then x.1 else x.2,if s=0 then y.1 else y.2].map b5:=by rw[aK,aK,dH,if_pos rfl,if_neg ne];rfl
     rw[em];wp_walk;refine⟨_,rfl,?_⟩;have es:[if s=0 then x.1 else x.2,if s=0 then y.1 else y.2].sum=if s=0 then x.1+y.1 else x.2+y.2:=by rcases G with rfl|rfl;simp;simp
     rw[es];exact L
   ·rw[show([0,1]:List Int).map (λs=>b5 (if s=0 then x.1+y.1 else x.2+y.2))=[b5 (x.1+y.1),b5 (x.2+y.2)] from rfl];unfold sgn at k;rcases ha with rfl|rfl
    ·wp_walk;rw[show(1:Int) - 0=1 from rfl];wp_walk;rw[if_pos rfl,if_pos hc]at k;exact k;rw[if_pos rfl,if_neg hc]at k;exact k
    ·wp_walk;rw[show(1:Int) - 1=0 from rfl];wp_walk;rw[if_neg (by decide),if_pos hc]at k;exact k;rw[if_neg (by decide),if_neg hc]at k;exact k
 ·have k:=hn p;have vz:v.1=0\/v.2=0:=by rcases Q.leaf m p with⟨_,e⟩|⟨_,_,e⟩ <;> simp[e]
  wp_walk using Zt.c h0 h1 (λz=>?_) (λU w I=>?_)
  ·refine Qs vt ?_;refine⟨v.1,v.2,rfl,?_⟩;wp_walk;rfl;exact vz;exact k
  cases hc;exfalso;rw[Q.nokid m p U]at I;cases I;exfalso;rw[Q.nokid m p U]at I;cases I
theorem zxp{g:DTG}{l:DTS}{D:JN}{t:ae}{ts:qD}{u:En}{n:Nat}(h:g t u λo=>l { D with nx:=forP g l D ts,ct:=forP g l D ts,bk:=D.nx } o n):forP g l D (t::ts) u n:=h
theorem zxo{g:DTG}{o:DTS}{D:JN}{l:En}{n:Nat}(h:D.nx l n):forP g o D [] l n:=h
theorem zkt{ks:KT2}{k b:Int×Int}{t:ae}:valT (putT ks k t) b=if b=k then ai t else valT ks b:=by
 have mp:∀ks:KT2,valT (ks.map λz=>if z.1=k then(z.1,t) else z) b=if b=k then(valT ks b).map (λ_=>t) else valT ks b:=by
  intro ks;induction ks with
  | nil=>unfold valT;split <;> rfl
  | cons q ks o =>
   unfold valT at o ⊢;rw[aK,cH,cH];by_cases e:q.1=b;by_cases z:b=k;simp[e,z];have:¬q.1=k:=λy=>z (b3 e.symm y);simp[e,z];have u:¬(if q.1=k then(q.1,t) else q).1=b:=by split <;> exact e
   simp only[e,u,decide_false];exact o
 unfold putT;split;rename_i h;rw[mp];by_cases z:b=k;subst z;rw[if_pos rfl,if_pos rfl];obtain⟨q,l,e⟩:=tf.mp h;unfold valT;cases f:ks.find? λz=>decide (z.1=b) with
 | none=>exact absurd e (by simpa using gL.mp f q l)
 | some y=>rfl
 rw[if_neg z,if_neg z];rename_i h;have v:∀q∈ks,¬q.1=k:=λq l e=>h (tf.mpr ⟨q,l,decide_eq_true e⟩);unfold valT;rw[rY];by_cases z:b=k;subst z;rw[if_pos rfl,gL.mpr λq l=>by simpa using v q l];simp;rw[if_neg z];simp[dG z]
theorem zny{ks:KT2}{k:Int×Int}{t:ae}:dP (putT ks k t)<=dP ks+1:=by unfold putT;split;rw[aI];lia;rw[a9];simp
inductive WS:qD->Nat->qN->Prop
 | c {bits:Int} {bs:BL} {n:Nat} {R:qN} (b0:0<=bits) (b1:bits<=64) (B:Bks bits bs) (l:SrtL rkB bs) (l2:dP bs<=10000) (mm:∀ps,CanP (λx=>mB x bs) ps->zbp bits ps<64) (h:∀(ps:BL) (rs:RL),CanP (λx=>mB x bs) ps->Rls bits rs->(dP rs:Int)=zbp bits ps->(∀x,0<=x->x<2 ^ mu bits->(SgX rs x 1↔mB x bs))->R (fX (L2.rD rs)) n):WS [b5 bits,fX (pD bs)] n R
def Rch(bits:Int)(ps l:BL)(k:Nat)(b:Int×Int):Prop:=b=(0,bits)\/∃(j:Nat) (p:Int×Int),j<k/\l[j]?=ai p/\Prt ps p/\(b=loH p\/b=upH p)
theorem zqa{bits:Int}{ps u:BL}(I:PInv bits ps u (dP u)){k:Nat}{b:Int×Int}(o:u[k]?=ai b):Rch bits ps u k b:=by rcases I.par b (aC o) with z|⟨j,p,J,C,pp,z⟩;exact fj z;refine xw ⟨j,p,?_,C,pp,z⟩;obtain⟨⟨R,N,x⟩,⟨S,L,G⟩⟩:=I.kid j p J C pp;have v:=(aw.mp o).1;rcases z with z|z;rw[<- z]at x;have:=(hU v I.nd).mp (b3 o x.symm);lia;rw[<- z]at G;have:=(hU v I.nd).mp (b3 o G.symm);lia
theorem zsw{rs:RL}{r:(Int×Int)×Int}:L2.rD rs++[fX [fX [b5 r.1.1,b5 r.1.2],b5 r.2]]=L2.rD (rs++[r]):=by simp[L2.rD]
theorem zkw{bits:Int}{ps o:BL}{k:Nat}{b:Int×Int}(u:o[k]?=ai b):(o.take (k+1)).filterMap (frB bits ps)=(o.take k).filterMap (frB bits ps)++(if sF bits ps b=aF bits ps b then[] else[(b,sF bits ps b)]):=by rw[fH,u,List.filterMap_append];congr 1;show[b].filterMap (frB bits ps)=_;unfold frB;rw[df];split;rename_i e;split at e;rename_i z;rw[if_pos z];rfl;cases e;rename_i r e;split at e;cases e;rename_i z;cases e;rw[if_neg z];rfl
def zdg(Z:ZZ):Prop:=QF Z "fewest_rules" 23 ["bits","patch"] 9 2 WS
theorem zfA(D:DQ Z "fewest_rules" 23 ["bits","patch"]) (Nl:WP Z) (N6:zfo Z) (Nj:zbC Z) (T:Txt Z.mg):zdg Z:=by
 refine' okN ["bits","patch","pairs","ahead","rules","block","sign","half"] D λG=>⟨_,(Jb (dsv 2 (ndB rfl) (Jd Nl G (dbv 0 (dbv 1 Ja)))) (Jb (zqS (i:=3) (JP G) (ndB rfl) rfl (fj rfl) (Jq (dbc Jg (dbv 0 Ja))) Jg) (Jb (Uv (i:=4) (ndB rfl) rfl (fj rfl) (J0 Ja)) (Jb (QE b9 rfl (zrU T.rev (Jz (zqW rfl T.lst (Jh 2)))) (dgv 5 (ndB rfl)) (Jb (dsv 6 (ndB rfl) (Jd N6 G (dbv 2 (dbv 5 (dbc (Qp (JP G) (zkg 3) (dlv 5)) Ja))))) (Jb (Jp (Jl (QH G) QB (dlv 6) (dl (Qp (JP G) (zkg 3) (dlv 5))) (Jf _)) (Jc (QX 4 (Jq (dbv 5 (dbv 6 Ja))))) Jt) (Jc (QE b9 rfl (JZ (Jd Nj G (dbv 2 (dbv 5 Ja)))) (dgv 7 (ndB rfl)) (Jc (zoH 3 (JP G) (Jh 7) (Jh 6)))))))) (UJ 4 (Jc (Je (Qb QW QU T.tup J8 (Ji (dl (Jz (zmp G T.srt (dlv 4) Jr))) Jm UE))))))))),?_⟩;rintro ts n R hl @⟨bits,bs,n,R,b0,b1,B,l,l2,mm,h⟩;have w:∀x,mB x bs->0<=x/\x<2 ^ mu bits:=λx hx=>Q7 b0 B hx;wp_walk using VU.c b0 b1 B l l2 (λps qs C Q=>?_);have P:Ptc bits ps:=C.ptc b0 w;have lp:=C.le b0 B;obtain⟨J,I,ek⟩:=Q.mem;have lw:=I.len b1 P.1;refine⟨prK qs,rfl,?_⟩;have et:fm ((prK qs).map λq=>L2.blkT q.1)=pD J:=by
  have Y:(prK qs).map (λq=>L2.blkT q.1)=(qs.map (·.1)).map L2.blkT:=by simp[prK,g8]
  rw[Y,ek,<- List.map_reverse,List.reverse_reverse];rfl
 show forP _ _ _ (fm ((prK qs).map λq=>L2.blkT q.1)) _ _;rw[et];refine Uh (λk ρ m'=>m'=n/\∃ks:KT2,∃c5 c6 c7,ρ=[ai (.val (b5 bits)),ai (.val (fX (pD bs))),ai (.val (tD (Js (prK qs)))),ai (.dtt ks),ai (.own (L2.rD ((J.take k).filterMap (frB bits ps)))),c5,c6,c7]/\dP ks<=2*k+1/\∀b∈J,Rch bits ps J k b->valT ks b=ai (b5 (aF bits ps b))) ⟨rfl,_,_,_,_,rfl,av _,λb hb z=>?_⟩ ?_ ?_;rcases z with rfl|⟨j,p,hj,_⟩;rw[zpr];simp[valT];lia
 ·rintro k t ρ m' K et ⟨rfl,ks,c5,c6,c7,rfl,lk,va⟩ hK;obtain⟨i,g,L,rfl⟩:=Y1 et;obtain⟨b,U⟩:∃b:Int×Int,b=(i,g):=⟨_,rfl⟩;have ei:i=b.1:=by rw[U]
  have eg:g=b.2:=by rw[U]
  rw[<- U]at L;subst ei eg;have mb:=aC L;have Bb:=I.bk b mb;have vb:=va b mb (zqa I L);have kl:=(aw.mp L).1;have h0:0<=b.2:=Bb.1;have h1:b.2<=1000:=by have:=Bb.2.1;lia
  obtain⟨v,mv⟩:∃v,(b,v)∈qs:=by
   have:b∈qs.map (·.1):=by rw[ek];exact iB.mpr mb
   obtain⟨q,hq,e⟩:=aR.mp this;exact⟨q.2,by rw[<- e];exact hq⟩
  have a01:=zxO (bits:=bits) (ps:=ps) (b:=b);have cb:∀{R':qN} {n':Nat},R' (b5 (sF bits ps b)) n'->WH [tD (Js (prK qs)),fX [b5 b.1,b5 b.2],b5 (aF bits ps b)] n' R':=λG=>by
   refine WH.c b1 Q mv a01 (λnp=>?_) (λp x y Y e2=>?_);have:(if v.1=0 then(0:Int) else 1)=sF bits ps b:=by unfold sF sB;rw[if_neg np];rcases Q.leaf mv np with⟨hN,e⟩|⟨hN,_,e⟩;rw[e,if_pos hN];rfl;rw[e,if_neg hN];rfl
   rw[this];exact G;have:sgn (aF bits ps b) x y=sF bits ps b:=by unfold sF sB;rw[if_pos p];have ex:=Q.val (mu (b.2 - 1)) _ (UF Y) rfl;have ey:=Q.val (mu (b.2 - 1)) _ (UF e2) rfl;dsimp only at ex ey;rw[<- ex,<- ey]
   rw[this];exact G
  have lr:dP ((J.take k).filterMap (frB bits ps))<=dP J:=bu (List.length_filterMap_le ..) (by rw[gy];lia);have tail:∀(D':JN) (cl:qD),D'.nx=K->cl=L2.rD ((J.take (k+1)).filterMap (frB bits ps))->Zt [tD (Js (prK qs)),fX [b5 b.1,b5 b.2]] m' λt n'=>lTup t λts=>forP (JY 7) (V4 3 (dVar 7) (dVar 6)) D' ts [ai (.val (b5 bits)),ai (.val (fX (pD bs))),ai (.val (tD (Js (prK qs)))),ai (.dtt ks),ai (.own cl),ai (.val (fX [b5 b.1,b5 b.2])),ai (.val (b5 (sF bits ps b))),c7] n':=λD' cl hD hcl=>by
   subst hcl;refine Zt.c h0 h1 (λz=>?_) (λg0 w' ew=>?_);show D'.nx _ _;rw[hD];refine hK _ _ ⟨rfl,ks,_,_,_,rfl,by lia,λc hc G=>va c hc ?_⟩;rcases G with G|⟨j,p,hj,S,pp,y⟩;exact fj G;rcases eP (sA hj) with q|q;exact xw ⟨j,p,q,S,pp,y⟩;exfalso;rw[q,L]at S;cases S;obtain⟨x',y',Y,_⟩:=Q.kids mv pp;have:=pp.pos Bb;rcases z with z|z;lia;rw[Y]at z;cases z
   ·have l1:=zny (ks:=ks) (k:=((loH b).1,(loH b).2)) (t:=b5 (sF bits ps b));have l2':=zny (ks:=putT ks ((loH b).1,(loH b).2) (b5 (sF bits ps b))) (k:=((upH b).1,(upH b).2)) (t:=b5 (sF bits ps b));wp_walk using zxp ?_,zxo ?_;lia;lia;rw[hD];refine hK _ _ ⟨rfl,_,_,_,_,rfl,by lia,λc hc G=>?_⟩;rw[zkt,zkt];by_cases z1:c=((upH b).1,(upH b).2);rw[if_pos z1,V7 Bb g0 (xw z1)];by_cases z2:c=((loH b).1,(loH b).2);rw[if_neg z1,if_pos z2,V7 Bb g0 (fj z2)];rw[if_neg z1,if_neg z2];refine va c hc ?_;rcases G with G|⟨j,p,hj,S,pp,y⟩;exact fj G;rcases eP (sA hj) with q|q;exact xw ⟨j,p,q,S,pp,y⟩;exfalso;rw[q,L]at S;cases S;rcases y with y|y;exact z2 y;exact z1 y
  wp_walk using Qs (k:=b) vb ?_,cb ?_;refine tail _ _ rfl ?_;rw[zkw L,if_pos hc,b8];have lz:dP (L2.rD ((J.take k).filterMap (frB bits ps)))=dP ((J.take k).filterMap (frB bits ps)):=by simp[L2.rD]
  rw[lz];refine fE lr ?_;have h3:130*dP ps<=130*10000:=pN _ (bu lp l2);exact fE lw (fE (Nat.add_le_add_left h3 1) (by decide));refine tail _ _ rfl ?_;rw[zkw L,if_neg hc,<- zsw]
 ·rintro ρ m' ⟨rfl,ks,c5,c6,c7,rfl,lk,va⟩;rw[JB,cZ];obtain⟨f1,f2,f3⟩:=zjd b0 C w I (rs:=J.filterMap (frB bits ps)) .rfl;have ml:=Vp b0 C w P (C.mem);have mm':=mm ps C;wp_walk;refine⟨_,rfl,by lia,f1.ok b1,λrs' pm pw=>?_⟩;wp_walk;obtain⟨g1,g2,g3⟩:=zjd b0 C w I pm;exact h ps rs' C (f1.sort b1 pm pw) g2 g3
inductive Zu:qD->Nat->qN->Prop
 | c {bits:Int} {bs:BL} {n:Nat} {R:qN} (b0:0<=bits) (b1:bits<=64) (B:Bks bits bs) (l:SrtL rkB bs) (l2:dP bs<=10000) (h:∀ps:BL,CanP (λx=>mB x bs) ps->R (b5 (zbp bits ps)) n):Zu [b5 bits,fX (pD bs)] n R
def zeC(Z:ZZ):Prop:=QF Z "many_rules" 24 ["bits","patch"] 9 2 Zu
theorem zhp(D:DQ Z "many_rules" 24 ["bits","patch"]) (x:WP Z) (T:Txt Z.mg):zeC Z:=by
 refine' okN ["bits","patch"] D λo=>⟨_,(Jc (Je (Jk (dl (Qp (JP o) (dl (Jd x o (dbv 0 (dbv 1 Ja)))) (dl (Jq (dbc Jg (dbv 0 Ja)))))) dli))),?_⟩;rintro ts n R hl @⟨bits,bs,n,R,b0,b1,B,l,l2,h⟩;wp_walk using VU.c b0 b1 B l l2 (λps qs C Q=>?_);obtain⟨v,ev⟩:=Q.root;have G:valT (prK qs) (0,bits)=ai (fX [b5 v.1,b5 v.2]):=by rw[Qw,ev];rfl
 refine Qs (k:=(0,bits)) G ?_;wp_walk;rw[Q.many ev];exact h ps C
inductive WT:qD->Nat->qN->Prop
 | c {xs:List (ae×ae)} {n:Nat} {R:qN} (l:dP xs<=1000000) (h:R (fX (xs.map (·.1))) n):WT [fX (ppD xs)] n R
def zeF(Z:ZZ):Prop:=QF Z "all_blocks" 33 ["pairs"] 1 1 WT
theorem zhs(D:DQ Z "all_blocks" 33 ["pairs"]) (T:Txt Z.mg):zeF Z:=by
 refine' okN ["pairs"] D λC=>⟨_,(Jc (Je (Qb QW QU T.tup J8 (Ji (dl (Jz (dnc ["block","name"] [] (dil (JZ (Jh 0))) (λ_ _ _ _=>(JH rfl (Jj (dgv 0 (ndB rfl)) (Jj (dgv 1 (ndB rfl)) JG)))) (λ_ _ _ _=>(Jh 0))))) Jm QO)))),?_⟩;intro ts n R G h;obtain @⟨xs,n,R,l,h⟩:=h;wp_walk;refine Qr (cs:=xs) (D:=λp=>fX [p.1,p.2]) (λp=>p.1) (by lia) ?_ ?_
 ·intro p v I x o;wp_walk;exact o
 ·wp_walk;exact h
inductive WI:qD->Nat->qN->Prop
 | c {d:Deal} {nm:ae} {n:Nat} {R:qN} (hw:VX nm) (hn:∀p∈d.2.2,IsNm p.2) (l:dP d.2.2<=1000000) (h:R (fX (pD (QG d nm))) n):WI [dlD d,nm] n R
def zfl(Z:ZZ):Prop:=QF Z "kept_from" 35 ["deal","name"] 1 2 WI
theorem ziw(D:DQ Z "kept_from" 35 ["deal","name"]) (T:Txt Z.mg):zfl Z:=by
 refine' okN ["deal","name"] D λG=>⟨_,(Jc (Je (Qb QW QU T.tup J8 (Ji (dl (Jz (dnf ["block","theirs"] [1] (dil (JZ (Jk (dlv 0) dli))) (λ_ _ _ _=>(JH rfl (Jj (dgv 0 (ndB rfl)) (Jj (dgv 1 (ndB rfl)) JG)))) (λ_ _ _ _=>(Vo (Jl (QH G) QB (dlv 1) (dlv 2) (Jf _)))) (λ_ _ _ _=>(Jh 0))))) Jm QO)))),?_⟩;intro ts n R J h;obtain @⟨d,nm,n,R,hw,x,l,h⟩:=h;obtain⟨bits,os,ks⟩:=d;have l:dP ks<=1000000:=l;have x:∀p∈ks,IsNm p.2:=x;rw[show dlD (bits,os,ks)=fX [b5 bits,fX (oD os),fX (oD ks)] from rfl];wp_walk;refine VR (cs:=ks) (D:=λp=>fX [prD p.1,eN p.2]) (λp=>!who p.2 nm) (λp=>prD p.1) (by lia) ?_ ?_
 ·intro p I N L v C;rcases hw with rfl|⟨s,rfl,ns⟩
  ·wp_walk;exact(zvV (x p I)).okd;exact v rfl
  ·wp_walk;exact C (by show(!decide (p.2=s))=bA;rw[decide_eq_true hc];rfl);exact v (by show(!decide (p.2=s))=bj;rw[decide_eq_false hc];rfl)
 ·wp_walk;have:((ks.filter λp=>!who p.2 nm).map λp=>prD p.1)=pD (QG (bits,os,ks) nm):=by
   unfold pD QG;rw[b6];rfl
  rw[this];exact h
def Free(d:Deal)(nm:ae)(x:Int):Prop:=0<=x/\x<2 ^ mu d.1/\¬mB x (d.2.1.map (·.1))/\¬mB x (QG d nm)
theorem zmj{d:Deal}{nm:ae}:∀b∈QG d nm,b∈d.2.2.map (·.1):=λb o=>by obtain⟨p,l,rfl⟩:=aR.mp o;exact aR.mpr ⟨p,(cW.mp l).1,rfl⟩
theorem zmk{d:Deal}{nm:ae}:dP (QG d nm)<=dP d.2.2:=by unfold QG;rw[aI];exact fK _ _
inductive Wv:qD->Nat->qN->Prop
 | c {d:Deal} {nm:ae} {n:Nat} {R:qN} (D:Dl d) (hw:VX nm) (l:dP d.2.1+dP d.2.2<64) (h:∀qs,CanP (Free d nm) qs->dP qs<=130*(dP d.2.1+dP d.2.2+1)->R (fX (pD qs)) n):Wv [dlD d,nm] n R
def zgz(Z:ZZ):Prop:=QF Z "free_for" 31 ["deal","name"] 6 2 Wv
theorem zjW(D:DQ Z "free_for" 31 ["deal","name"]) (NH:zfk Z) (Ni:Zp Z) (NT:zeF Z) (N7:zfl Z) (T:Txt Z.mg):zgz Z:=by
 refine' okN ["deal","name","bits","outs","kept"] D λv=>⟨_,(Jb (Qq (Jh 0) (JH rfl (Jj (dgv 2 (ndB rfl)) (Jj (dgv 3 (ndB rfl)) (Jj (dgv 4 (ndB rfl)) JG))))) (Jc (Je (Jd NH v (dbv 2 (dbc (Jd Ni v (dbc (JC (dl (Jd NT v (dbv 3 Ja))) (dl (Jd N7 v (dbv 0 (dbv 1 Ja))))) Ja)) Ja)))))),?_⟩;intro ts n R hl h;obtain @⟨d,nm,n,R,D,hw,l,h⟩:=h;obtain⟨bits,os,ks⟩:=d;obtain⟨J,G,I,o,ag⟩:=D;have J:1<=bits:=J;have G:bits<=64:=G;have I:Shr bits os:=I;have o:Shr bits ks:=o;have l:dP os+dP ks<64:=l;have L:=zmk (d:=(bits,os,ks)) (nm:=nm);have L:dP (QG (bits,os,ks) nm)<=dP ks:=L;have eo:(os.map λp=>(prD p.1,eN p.2)).map (·.1)=pD (os.map (·.1)):=by simp[pD]
 have B:Bks bits (os.map (·.1)++QG (bits,os,ks) nm):=λb U=>by rcases aW.mp U with z|z;exact I.1.1 b z;exact o.1.1 b (zmj b z)
 rw[show dlD (bits,os,ks)=fX [b5 bits,fX (oD os),fX (oD ks)] from rfl];have kf:∀{n:Nat} {R:qN},R (fX (pD (QG (bits,os,ks) nm))) n->WI [fX [b5 bits,fX (oD os),fX (oD ks)],nm] n R:=λ{n R} z=>WI.c (d:=(bits,os,ks)) hw (λp hp=>o.2 p hp) (by show dP ks<=_;lia) z;have ab:∀{n:Nat} {R:qN},R (fX (pD (os.map (·.1)))) n->WT [fX (oD os)] n R:=λ{n R} z=>by rw[zzH];exact WT.c (by simp;lia) (by rw[eo];exact z)
 wp_walk using kf ?_,ab ?_;rw[JB,JB,aI];lia;rw[zrz];wp_walk using UT.c (xw rfl) (by lia) G B ?_ (λps C N=>?_);exact Zh (by simp;lia);have N:dP ps<=dP os+dP ks:=by rw[a9,aI]at N;lia
 have Bp:=(C.ptc (bits:=bits) (by lia) λx hx=>Q7 (by lia) B hx).1;wp_walk using Wy.c J G Bp (Zh (by lia)) (λqs Q lq=>?_);refine h qs ?_ (by show dP qs<=130*(dP os+dP ks+1);lia);obtain⟨rs,Y,r2,S⟩:=Q;refine⟨rs,Y,λx=>?_,S⟩;rw[r2];show(0<=x/\x<2 ^ mu bits/\¬mB x ps)↔Free (bits,os,ks) nm x;rw[C.mem,Wb];show _↔0<=x/\x<2 ^ mu bits/\¬mB x (os.map (·.1))/\¬mB x (QG (bits,os,ks) nm);constructor;rintro⟨a,b,c⟩;exact⟨a,b,λz=>c (fj z),λz=>c (xw z)⟩;rintro⟨a,b,c,e⟩;exact⟨a,b,λz=>ii z c e⟩
inductive zdr:qD->Nat->qN->Prop
 | c {os:List ((Int×Int)×Str)} {nm:ae} {n:Nat} {R:qN} (hw:VX nm) (hn:∀p∈os,IsNm p.2) (l:dP os<=1000000) (h:R (fX (pD (ofName os nm))) n):zdr [fX (oD os),nm] n R
def zfn(Z:ZZ):Prop:=QF Z "blocks_of" 34 ["pairs","name"] 1 2 zdr
theorem zix(D:DQ Z "blocks_of" 34 ["pairs","name"]) (T:Txt Z.mg):zfn Z:=by
 refine' okN ["pairs","name"] D λG=>⟨_,(Jc (Je (Qb QW QU T.tup J8 (Ji (dl (Jz (dnf ["block","theirs"] [1] (dil (JZ (Jh 0))) (λ_ _ _ _=>(JH rfl (Jj (dgv 0 (ndB rfl)) (Jj (dgv 1 (ndB rfl)) JG)))) (λ_ _ _ _=>(Vo (Jl (Ux G) Uq (dlv 1) (dlv 2) (Jf _)))) (λ_ _ _ _=>(Jh 0))))) Jm QO)))),?_⟩;intro ts n R J h;obtain @⟨ks,nm,n,R,hw,hn,l,h⟩:=h;wp_walk;refine VR (cs:=ks) (D:=λp=>fX [prD p.1,eN p.2]) (λp=>who p.2 nm) (λp=>prD p.1) (by lia) ?_ ?_
 ·intro p C L I x v;rcases hw with rfl|⟨s,rfl,ns⟩
  ·wp_walk;exact(zvV (hn p C)).okd;exact v rfl
  ·wp_walk;exact x (by show decide (p.2=s)=bj;rw[decide_eq_true hc]);exact v (by show decide (p.2=s)=bA;rw[decide_eq_false hc])
 ·wp_walk;have:((ks.filter λp=>who p.2 nm).map λp=>prD p.1)=pD (ofName ks nm):=by
   unfold pD ofName;rw[b6];rfl
  rw[this];exact h
theorem zlR{os:List ((Int×Int)×Str)}{nm:ae}:∀b∈ofName os nm,b∈os.map (·.1):=λb o=>by obtain⟨p,l,rfl⟩:=aR.mp o;exact aR.mpr ⟨p,(cW.mp l).1,rfl⟩
theorem zlS{os:List ((Int×Int)×Str)}{nm:ae}:dP (ofName os nm)<=dP os:=by unfold ofName;rw[aI];exact fK _ _
inductive Wr:qD->Nat->qN->Prop
 | c {d:Deal} {nm:ae} {n:Nat} {R:qN} (D:Dl d) (hw:VX nm) (l:dP d.2.1<64) (h:∀qs,CanP (λx=>mB x (ofName d.2.1 nm)) qs->dP qs<=dP d.2.1->R (fX (pD qs)) n):Wr [dlD d,nm] n R
def zkK(Z:ZZ):Prop:=QF Z "out_to" 32 ["deal","name"] 6 2 Wr
theorem znT(D:DQ Z "out_to" 32 ["deal","name"]) (L:Zp Z) (N:zfn Z) (T:Txt Z.mg):zkK Z:=by refine' okN ["deal","name"] D λG=>⟨_,(Jc (Je (Jd L G (dbc (Jd N G (dbc (Jk (dlv 0) dli) (dbv 1 Ja))) Ja)))),?_⟩;intro ts n R U h;obtain @⟨d,nm,n,R,D,hw,l,h⟩:=h;obtain⟨bits,os,ks⟩:=d;obtain⟨I,x,o,S,ag⟩:=D;have I:1<=bits:=I;have x:bits<=64:=x;have o:Shr bits os:=o;have l:dP os<64:=l;have lo:=zlS (os:=os) (nm:=nm);rw[show dlD (bits,os,ks)=fX [b5 bits,fX (oD os),fX (oD ks)] from rfl];have v:∀p∈os,IsNm p.2:=o.2;have B:Bks bits (ofName os nm):=λb J=>o.1.1 b (zlR b J);wp_walk using zdr.c hw v (by lia) ?_,UT.c (xw rfl) (by lia) x B (Zh (by lia)) (λps C Y=>?_);exact h ps C (by show dP ps<=dP os;lia)
theorem zpp{x:Int}(h:0<=x):fD x 1=x % 2:=by unfold fD;rw[decide_eq_true h];show((mu x &&& 1:Nat):Int)=x % 2;rw[p7];omega
inductive zds:qD->Nat->qN->Prop
 | c {bits i h:Int} {n:Nat} {R:qN} (b0:0<=bits) (b1:bits<=64) (B:IsBk bits i h) (r:R (eN (mkS (begL bits i h))) n):zds [b5 bits,fX [b5 i,b5 h]] n R
def zfp(Z:ZZ):Prop:=QF Z "beginning" 37 ["bits","block"] 1 2 zds
theorem ziA(D:DQ Z "beginning" 37 ["bits","block"]) (T:Txt Z.mg):zfp Z:=by
 refine' okN ["bits","block","begin","height","figures"] D λhr=>⟨_,(Jb (Qq (Jh 1) (JH rfl (Jj (dgv 2 (ndB rfl)) (Jj (dgv 3 (ndB rfl)) JG)))) (Jb (Y6 (Zg (i:=4) (ndB rfl) rfl (fj rfl) (own:=["at"]) (capt:=[2,0]) rfl (Jv.of rfl) (dil (Zs T.ran (J6 (dlv 0) (dlv 3)))) (λ_ _ _ _=>(dgv 0 (ndB rfl))) (by decide) (λ_ _ _ _=>QV) (λ_ _ _ _=>(Zf (JM (dl (zr1 (dl (zrX (dlv 1) (dl (J6 (dl (J6 (dlv 2) dli)) (dlv 0))))) dli))) Qe Qe)))) (Jc (Je (JC (dl (zoR (dl Qe) (Jh 4))) (dl (Zf (Jl QQ gp_B (dlv 3) dli (Jf _)) Qe Qe))))))),?_⟩;intro ts n R Y h;obtain @⟨bits,i,g,n,R,b0,b1,B,h⟩:=h;have g0:0<=g:=B.1;have g1:g<=bits:=B.2.1;have bd:=B.bounds b0;wp_walk;omega;omega;refine Qr (cs:=c9 (mu (bits - g))) (D:=λj:Nat=>b5 (0+(j:Int))) (λj:Nat=>eN (if (i / 2 ^ mu (bits - 1 - (0+(j:Int)))) % 2=0 then ar "0" else ar "1")) (by rw[fT];omega) ?_ ?_
 ·intro j v K2 X2 u;have v:=hW.mp v;have nn:0<=i / 2 ^ mu (bits - 1 - (0+(j:Int))):=t7 bd.1 (by have:=JT (mu (bits - 1 - (0+(j:Int))));omega);wp_walk;omega;rw[zpp nn]at hc;rw[if_neg (by omega)]at u;exact u;rw[zpp nn]at hc;rw[if_pos (by omega)]at u;exact u
 ·wp_walk;refine⟨(c9 (mu (bits - g))).map λj:Nat=>(if (i / 2 ^ mu (bits - 1 - (0+(j:Int)))) % 2=0 then ar "0" else ar "1"),by rw[b6];rfl,joinOk_of (k:=1) (λs G=>?_) (by rw[aI,fT];show(bits - g).toNat*1<=_;omega),?_⟩;obtain⟨j,_,rfl⟩:=aR.mp G;split <;> decide +kernel;rw[join_nil];have e:((((c9 (mu (bits - g))).map λj:Nat=>(if (i / 2 ^ mu (bits - 1 - (0+(j:Int)))) % 2=0 then ar "0" else ar "1")).map (·.cps.toList)).flatten)=figL (mu (bits - g)) (i / 2 ^ mu g):=by
   rw[b6];have J:∀(l:List Nat),(∀j∈l,j<mu (bits - g))->(l.map ((λx:Str=>w9 x.cps)∘λj:Nat=>(if (i / 2 ^ mu (bits - 1 - (0+(j:Int)))) % 2=0 then ar "0" else ar "1"))).flatten=l.map λj=>48+mu (((i / 2 ^ mu g) / 2 ^ (mu (bits - g) - 1 - j)) % 2):=by
    intro l;induction l with
    | nil=>intro _;rfl
    | cons j r I =>
     intro v;have h1:=v j (by simp);rw[aK,kA,aK,I λq C=>v q (by simp[C])];have S:(i / 2 ^ mu g) / 2 ^ (mu (bits - g) - 1 - j)=i / 2 ^ mu (bits - 1 - (0+(j:Int))):=by rw[Int.ediv_ediv_of_nonneg (by have:=JT (mu g);omega),<- h8,show mu g+(mu (bits - g) - 1 - j)=mu (bits - 1 - (0+(j:Int))) by omega]
     rw[S];show(if (i / 2 ^ mu (bits - 1 - (0+(j:Int)))) % 2=0 then ar "0" else ar "1").cps.toList++_=_;by_cases z:(i / 2 ^ mu (bits - 1 - (0+(j:Int)))) % 2=0;rw[if_pos z,z,s_0,J3];rfl;have U:(i / 2 ^ mu (bits - 1 - (0+(j:Int)))) % 2=1:=by omega
     rw[if_neg z,U,s_1,J3];rfl
   exact J _ λj v=>hW.mp v
  rw[e];unfold begL at h;wp_walk;rw[znb,mkS_len,mkS_len,Wq];show(bits - g).toNat+1<=_;omega;rw[if_pos hc]at h;rw[znb,zn2];exact h;rw[ZH,mkS_len,mkS_len,Wq];show(bits - g).toNat+0<=_;omega;rw[if_neg hc]at h;rw[ZH,zn2];exact h
theorem zo0{x:Str}:cutS x ao (ai (-1))=mkS x.cps.toList.dropLast:=by
 refine L2.Str.ext' ?_;rw[J3];unfold cutS;have o:HT.sIx (kN x) 0 ao=0:=by simp[HT.sIx]
 have l:HT.sIx (kN x) (kN x) (ai (-1))=kN x - 1:=by have:=Vk (kN x) (kN x) (-1);rw[if_pos (by decide)]at this;lia
 rw[o,l,mj,ku,<- J1,List.dropLast_eq_take]
theorem zsj{cs:List Nat}{k:Nat}{t:ae}(h:(sgnD (mkS cs))[k]?=ai t):∃c,cs[k]?=ai c/\t=eN ⟨#[c]⟩:=by
 unfold sgnD at h;rw[J3,aT]at h;cases e:cs[k]? with
 | none=>rw[e]at h;cases h
 | some c=>rw[e]at h;cases h;exact⟨c,rfl,rfl⟩
theorem zsi{cs:List Nat}:dP (sgnD (mkS cs))=dP cs:=by unfold sgnD;rw[J3,aI]
theorem zom{z:Str}{n:Int}{R:ae->Prop}(o:kN z<=640)(l:ic z=ai n)(h:R (b5 n)):V2 [eN z] R:=⟨o,n,l,h⟩
theorem zmN{v:Int}{cs:List Nat}{c:Nat}:valF v (cs++[c])=2*valF v cs+((c:Int) - 48):=by unfold valF;rw[su];rfl
theorem zmO:∀{cs:List Nat}{v:Int},figs cs->0<=v->0<=valF v cs/\valF v cs<(v+1)*2 ^ dP cs
 | [],v,_,h=>by simp[valF];lia
 | c::cs,v,hf,h=>by have o:c=48\/c=49:=hf c (by simp);have l:=zmO (cs:=cs) (v:=2*v+((c:Int) - 48)) (λx hx=>hf x (by simp[hx])) (by lia);refine⟨l.1,rm l.2 ?_⟩;rw[aH,bH,<- cj,b7 _ 2,<- cj];exact bz (by lia) (by have:=JT (dP cs);lia)
theorem zsg{c:Nat}:([eN (ar "0"),eN (ar "1")].any λt=>t.eqv (eN ⟨#[c]⟩))=decide (c=48\/c=49):=by
 rw[s_0,s_1];have e:∀d:Nat,fF (eN (mkS [d])) (eN ⟨#[c]⟩)=decide (d=c):=λd=>by show((mkS [d]) == (⟨#[c]⟩:Str))=_;rw[eD,beq_iff_eq,decide_eq_true_eq];constructor;intro h;have:=congrArg (λs:Str=>w9 s.cps) h;simpa[mkS] using this;intro h;subst h;rfl
 rw[m3,m3,List.any_nil,e,e,vS,eD];simp;lia
theorem zqj{c:Nat}(h:c<1114112):Okd (eN ⟨#[c]⟩):=(okK_str (by simp[bR,PyData.strOk,h])).okd
inductive zer:qD->Nat->qN->Prop
 | c {bits i h:Int} {n:Nat} {R:qN} (b0:0<=bits) (b1:bits<=64) (B:IsBk bits i h) (r:R (fX [b5 i,b5 h]) n):zer [b5 bits,eN (mkS (begL bits i h))] n R
def zgA(Z:ZZ):Prop:=QF Z "block_of" 38 ["bits","text"] 1 2 zer
theorem zjY(D:DQ Z "block_of" 38 ["bits","text"]) (T:Txt Z.mg):zgA Z:=by
 refine' okN ["bits","text","starred","figures","height","begin","figure"] D λhr=>⟨_,(Jb (dsv 2 (ndB rfl) (zt0 (dlv 1) Qe)) (Jb (dsv 3 (ndB rfl) (Zf (JM (dlv 2)) (WE (dlv 1) Vm (Vn (Y4 Jg))) (Jh 1))) (Jb (dsv 4 (ndB rfl) (J6 (dlv 0) (dl (Jw Qi Qg T.len J4 (Ji (dlv 3) Jm Jr))))) (Jb (Jp (JV (Qc (Jl (Qm hr) Qk (dlv 4) dli (Jf _)) (Qx (Jl (QH hr) QB (dlv 2) (dl (J5 QQ gp_B (dlv 4) dli (Jf _))) (Jf _))))) (Jc (Je QM)) Jt) (Jb (dsv 5 (ndB rfl) Jg) (Jb (QE b9 rfl (zxz (Jh 3)) (dgv 6 (ndB rfl)) (Jb (Jp (Jl (ziu hr) zk9 (dlv 6) (dl (Jq (dbc Qe (dbc Qe Ja)))) rfl) (Jc (Je QM)) Jt) (Jc (dsv 5 (ndB rfl) (JC (dl (ZP dli (dlv 5))) (dl (Qb zjn zoy T.int boot_int (Ji (dlv 6) Jm Jr)))))))) (Jc (Je (Jq (dbc (Qd (dlv 5) (dlv 4)) (dbv 4 Ja))))))))))),?_⟩;rintro ts n R hl @⟨bits,i,h,n,R,b0,b1,B,r⟩;have g0:0<=h:=B.1;have g1:h<=bits:=B.2.1;have bd:=B.bounds b0;obtain⟨_,_,J,k0,ek,k1⟩:=id B;have pg:=JT (mu h);have dv:i / 2 ^ mu h=J:=by rw[ek];exact iI _ (by lia)
 have val:valF 0 (figL (mu (bits - h)) J)=J:=by rw[zkv,Int.zero_mul,xM,rV k0 k1]
 have fg:figs (figL (mu (bits - h)) J):=zjc;have fl:dP (figL (mu (bits - h)) J)=mu (bits - h):=Wq;unfold begL;rw[dv];generalize figL (mu (bits - h)) J=fs at val fg fl;have nl:fs.getLast?≠ai 42:=λy=>by rcases fg 42 (List.mem_of_getLast? y) with h|h <;> cases h
 obtain⟨u,L,lt,es,G,en⟩:∃u,mkS (fs++if 0<h then[42] else[])=u/\kN u<=65/\gN u (ar "*")=decide (0<h)/\(0<h->cutS u ao (ai (-1))=mkS fs)/\(¬0<h->u=mkS fs):=by refine⟨_,rfl,?_,?_,λz=>?_,λz=>?_⟩;rw[mkS_len,a9];split <;> simp <;> lia;rw[zoF,J3];by_cases z:0<h;rw[if_pos z];simp[z];rw[if_neg z,b8,decide_eq_false z,decide_eq_false nl];rw[zo0,J3,if_pos z,List.dropLast_concat];rw[if_neg z,b8]
 rw[L];have S:gN u (ar "*")=bj->0<h:=λq=>of_decide_eq_true (b3 es.symm q);have Y:gN u (ar "*")=bA->¬0<h:=λq=>of_decide_eq_false (b3 es.symm q);wp_walk;all_goals first
  | lia
  | (rw[G (S hc),mkS_len];lia)
  | (exfalso;rename_i q;rw[G (S q),mkS_len]at hc;lia)
  | (exfalso;rename_i q;rw[en (Y q),mkS_len]at hc;lia)
  | (exfalso;rename_i I U;exact hc (by rw[es,G (S I),mkS_len];exact decide_eq_decide.mpr (by lia)))
  | (exfalso;rename_i I U;exact hc (by rw[es,en (Y I),mkS_len];exact decide_eq_decide.mpr (by lia)))
  | (rename_i I U;rw[G (S I)])
  | (rename_i I U;rw[en (Y I)])
 all_goals
  rw[mkS_len];refine zrQ 5 6 (λk a5 _ m=>m=n/\a5=ai (.val (b5 (valF 0 (fs.take k))))/\figs (fs.take k)) ⟨rfl,rfl,λc hc=>by simp at hc⟩ ?_ ?_
  ·rintro k t a5 a6 m K RT BK et ⟨rfl,rfl,hf⟩ hK hRT hBK;obtain⟨c,G,rfl⟩:=zsj et;have C:=fg c (aC G);have tk:fs.take (k+1)=fs.take k++[c]:=by rw[fH,G];rfl
   have vb:=(zmO hf (aN 0));have i2:∀{R:ae->Prop},R (b5 ((c:Int) - 48))->V2 [eN ⟨#[c]⟩] R:=λ{R} r=>by rcases C with rfl|rfl;exact zom (by decide) (show ic ⟨#[48]⟩=ai 0 by decide +kernel) r;exact zom (by decide) (show ic ⟨#[49]⟩=ai 1 by decide +kernel) r
   wp_walk using i2 ?_;all_goals first
    | exact zqj (by lia)
    | (intro t L;simp only[ax,aU,or_false]at L;rcases L with rfl|rfl <;> exact(okK_str (by decide +kernel)).okd)
    | exact fj ⟨by decide,by decide⟩
    | (exfalso;rw[zsg,decide_eq_true C]at hc;cases hc;done)
    | skip
   refine hK _ _ _ ⟨rfl,by rw[tk,zmN],λx hx=>?_⟩;rw[tk]at hx;rcases aW.mp hx with z|z;exact hf x z;cases aE.mp z;exact C
  ·rintro a5 a6 m ⟨rfl,rfl,hf⟩;rw[zsi,cZ]at hf ⊢;rw[val,show bits - (dP fs:Int)=h by lia];have:=zdO (k:=mu (bits - h)) (by lia);wp_walk;exact⟨by lia,by lia,by lia⟩;rw[<- ek];exact r
inductive zfQ:qD->Nat->qN->Prop
 | c {bits b h s:Int} {n:Nat} {R:qN} (b0:0<=bits) (b1:bits<=64) (B:IsBk bits b h) (s0:0<=s) (s1:s<=1) (r:R (k6 bj) n):zfQ [b5 bits,fX [fX [b5 b,b5 h],b5 s]] n R
def zik(Z:ZZ):Prop:=QF Z "is_rule" 46 ["bits","thing"] 3 2 zfQ
theorem zlO(D:DQ Z "is_rule" 46 ["bits","thing"]) (o:zea Z) (u:WO Z) (T:Txt Z.mg):zik Z:=by
 refine' okN ["bits","thing","block","sign"] D λl=>⟨_,(Jb (Jp (JV (Qc (J7 (JM (dl (UA Vx T.isi T.tup J8 (dlv 1) Jr)))) (Qx (Jl (QH l) QB (dl (Jw Qi Qg T.len J4 (Ji (dlv 1) Jm Jr))) dli (Jf _))))) (Jc (Je JR)) Jt) (Jb (Qq (Jh 1) (JH rfl (Jj (dgv 2 (ndB rfl)) (Jj (dgv 3 (ndB rfl)) JG)))) (Jc (Je (Uf (Jd o l (dbv 0 (dbv 2 Ja))) (Uf (Jd u l (dbv 3 Ja)) (Ue (zlf Qh Qf Qh Qf dli (dlv 3) dli)))))))),?_⟩;intro ts n R v h;obtain @⟨bits,b,g,s,n,R,b0,b1,B,s0,s1,r⟩:=h;wp_walk using WK.c b0 b1 B ?_,VT.c ?_;all_goals first
  | (rw[decide_eq_true s1];exact r)
  | exact absurd (show bA=bj from hc) (by decide)
  | exact absurd s0 hc
  | exact absurd rfl hc
theorem zrd{α:Type}{r:α->α->Prop}(u:∀a b c,r a b->r b c->r a c):∀{l:List α},l.Pairwise r->∀q∈l.zip l.tail,r q.1 q.2
 | [],_=>by simp
 | [a],_=>by simp
 | a::b::l,h=>by
  rw[ba]at h;intro q o;have o:q=(a,b)\/q∈(b::l).zip (b::l).tail:=by simpa using o
  rcases o with rfl|o;exact h.1 b (hH _);exact zrd u h.2 q o
theorem zub(a b c:(Int×Int)×Int)(h:bkLt a.1 b.1)(k:bkLt b.1 c.1):bkLt a.1 c.1:=by unfold bkLt at *;lia
inductive Zq:qD->Nat->qN->Prop
 | c {bits:Int} {rs:RL} {n:Nat} {R:qN} (b0:0<=bits) (b1:bits<=64) (Q:Rls bits rs) (l:dP rs<=1000) (h:R (k6 bj) n):Zq [b5 bits,fX (L2.rD rs)] n R
def zdo(Z:ZZ):Prop:=QF Z "are_rules" 43 ["bits","thing"] 4 2 Zq
theorem ziB(D:DQ Z "are_rules" 43 ["bits","thing"]) (N:zik Z) (T:Txt Z.mg):zdo Z:=by
 refine' okN ["bits","thing"] D λx=>⟨_,(Jb (Jp (J7 (JM (dl (UA Vx T.isi T.tup J8 (dlv 1) Jr)))) (Jc (Je JR)) Jt) (Jb (Jp (J7 (JM (dl (Jw (VL rfl) Z1 T.all VJ (Ji (dl (Jz (dnc ["rule"] [0] (dil (JZ (Jh 1))) (λ_ _ _ _=>(dgv 0 (ndB rfl))) (λ_ _ _ _=>(Jd N x (dbv 1 (dbv 0 Ja))))))) Jm QO))))) (Jc (Je JR)) Jt) (Jc (Je (Jw (VL rfl) Z1 T.all VJ (Ji (dl (Jz (dnc ["one","other"] [] (dil (zrS T.zip (Jh 1) (WE (dlv 1) (Vn Jg) Vm))) (λ_ _ _ _=>(JH rfl (Jj (dgv 0 (ndB rfl)) (Jj (dgv 1 (ndB rfl)) JG)))) (λ_ _ _ _=>(J5 (Qm x) Qk (dl (Jk (dlv 0) dli)) (dl (Jk (dlv 1) dli)) (Jf _)))))) Jm QO)))))),?_⟩;intro ts n R U h;obtain @⟨bits,rs,n,R,b0,b1,Q,l,h⟩:=h;have al:∀{α:Type} (l:List α),(l.all λ_=>bj)=bj:=λl=>cJ.mpr λ_ _=>rfl;have G:dP (L2.rD rs)=dP rs:=by simp[L2.rD]
 have I:(L2.rD rs).zip (L2.rD rs).tail=(rs.zip rs.tail).map λq=>(fX [fX [b5 q.1.1.1,b5 q.1.1.2],b5 q.1.2],fX [fX [b5 q.2.1.1,b5 q.2.1.2],b5 q.2.2]):=by unfold L2.rD;rw[<- wC,xN];rfl
 wp_walk;refine Qr (cs:=rs) (D:=λr=>fX [fX [b5 r.1.1,b5 r.1.2],b5 r.2]) (λ_=>k6 bj) (by lia) ?_ ?_
 ·intro r x L J v;obtain⟨B,s0,s1⟩:=Q.1 r x;wp_walk using zfQ.c b0 b1 B s0 s1 ?_;exact v
 ·wp_walk using Z4 (f:=λ_=>bj) ?_
  ·rw[zlg];refine Qr (cs:=(L2.rD rs).zip (L2.rD rs).tail) (D:=λq=>fX [q.1,q.2]) (λ_=>k6 bj) (by rw[gR,G];lia) ?_ ?_
   ·intro q C L J v;rw[I]at C;obtain⟨p,S,rfl⟩:=aR.mp C;have lt:=zrd zub Q.2 p S;wp_walk;refine⟨[p.1.1.1,p.1.1.2],[p.2.1.1,p.2.1.2],rfl,rfl,?_⟩;unfold bkLt at lt;rw[zoa,decide_eq_true lt];exact v
   ·wp_walk using Z4 (f:=λ_=>bj) ?_;rw[al];exact h
  rw[al]at hc;cases hc
def inB(b:Int×Int)(a:Int):Prop:=b.1<=a/\a<b.1+2 ^ mu b.2
def SgOf(rs:RL)(a s:Int):Prop:=(s=0/\∀r∈rs,¬inB r.1 a)\/∃r∈rs,inB r.1 a/\r.2=s/\∀l∈rs,inB l.1 a->r.1.2<=l.1.2
inductive zfR:qD->Nat->qN->Prop
 | c {bits:Int} {rs:RL} {a:Int} {n:Nat} {R:qN} (b0:0<=bits) (b1:bits<=64) (A:Rls bits rs) (l:dP rs<=1000) (h:∀s,SgOf rs a s->R (b5 s) n):zfR [fX (L2.rD rs),b5 a] n R
def zil(Z:ZZ):Prop:=QF Z "decided" 44 ["rules","address"] 3 2 zfR
theorem zlQ(D:DQ Z "decided" 44 ["rules","address"]) (L:UZ Z) (T:Txt Z.mg):zil Z:=by
 refine' okN ["rules","address","deciding"] D λo=>⟨_,(Jb (Y6 (Zg (i:=2) (ndB rfl) rfl (fj rfl) (own:=["block","sign"]) (capt:=[1]) rfl (Jv.of rfl) (dil (JZ (Jh 0))) (λ_ _ _ _=>(JH rfl (Jj (dgv 0 (ndB rfl)) (Jj (dgv 1 (ndB rfl)) JG)))) (by decide) (λ_ _ _ _=>(Vo (zlc Qh Qf (Qm o) Qk (dl (Jk (dlv 0) dli)) (dlv 2) (dl (Jd L o (dbv 0 Ja)))))) (λ_ _ _ _=>(Jq (dbc (Jk (dlv 0) dli) (dbv 1 Ja)))))) (Jb (Jp (J7 (JM (dlv 2))) (Jc (Je Jg)) Jt) (Jc (Je (Jk (dl (Jw (zpc o rfl) ztH T.min Zr (Ji (dlv 2) Jm Jr))) dli))))),?_⟩;intro ts n R Y h;obtain @⟨bits,rs,a,n,R,b0,b1,A,l,h⟩:=h;wp_walk;refine VR (cs:=rs) (D:=λr=>fX [fX [b5 r.1.1,b5 r.1.2],b5 r.2]) (λr=>decide (r.1.1<=a/\a<r.1.1+2 ^ mu r.1.2)) (λr=>prD (r.1.2,r.2)) (by lia) ?_ ?_
 ·intro r o K X N J;have ok:=(A.1 r o).1;have k0:=ok.1;have k1:=ok.2.1;wp_walk using Ug.c (by lia) (by lia) ?_;all_goals first
   | exact N (decide_eq_true (by generalize (2:Int) ^ mu r.1.2=X at *;lia))
   | exact J (decide_eq_false (by generalize (2:Int) ^ mu r.1.2=X at *;lia))
 ·have C:∀r,r∈(rs.filter λr=>decide (r.1.1<=a/\a<r.1.1+2 ^ mu r.1.2))↔r∈rs/\inB r.1 a:=λr=>by rw[cW,decide_eq_true_eq];rfl
  have e:(oM (λr:(Int×Int)×Int=>prD (r.1.2,r.2)) (rs.filter λr=>decide (r.1.1<=a/\a<r.1.1+2 ^ mu r.1.2)))=pD ((rs.filter λr=>decide (r.1.1<=a/\a<r.1.1+2 ^ mu r.1.2)).map λr=>(r.1.2,r.2)):=by unfold pD;rw[b6];rfl
  wp_walk;refine h 0 (fj ⟨rfl,λr o z=>?_⟩);rw[sZ,pO]at hc;have:=(C r).mpr ⟨o,z⟩;rw[hc]at this;cases this
  ·rw[e];refine zwp (λz=>?_) λb G S=>?_;rw[pO]at z;rw[z]at hc;cases hc
   ·obtain⟨r,o,rfl⟩:=aR.mp G;obtain⟨U,I⟩:=(C r).mp o;wp_walk;refine h r.2 (xw ⟨r,U,I,rfl,λv x z=>?_⟩);have:=S (v.1.2,v.2) (aR.mpr ⟨v,(C v).mpr ⟨x,z⟩,rfl⟩);rw[hV,Ne,pLt_iff]at this;dsimp only at this;lia
theorem zrf{rs:RL}{b:Int×Int}:valT (kR rs) b=(sgAt rs b).map b5:=by unfold valT kR sgAt;rw[List.find?_map];simp[g8]
theorem zkF{bits:Int}{rs:RL}(h:Rls0 bits rs):Rok rs:=znm (bits:=bits) (λr l=>⟨(h.1 r l).1,by have:=(h.1 r l).2;lia⟩) h.2
theorem zxN{a:Int}{k:Nat}:inb (a / 2 ^ k*2 ^ k,(k:Int)) a:=by have pp:(0:Int)<2 ^ k:=JT k;have:=oF a (2 ^ k);have u:=fi a (show(2:Int) ^ k≠0 by lia);have l:=eO a pp;rw[b7]at this;constructor;show a / 2 ^ k*2 ^ k<=a;lia;show a<a / 2 ^ k*2 ^ k+2 ^ mu (k:Int);rw[bS];lia
inductive zfO:qD->Nat->qN->Prop
 | c {bits:Int} {rs:RL} {a:Int} {n:Nat} {R:qN} (b0:0<=bits) (b1:bits<=64) (Q:Rls0 bits rs) (a0:0<=a) (a1:a<2 ^ mu bits) (h:∀s,SgX rs a s->R (b5 s) n):zfO [b5 bits,tD (Js (kR rs)),b5 a] n R
def zii(Z:ZZ):Prop:=QF Z "sign_at" 47 ["bits","signs","address"] 2 3 zfO
theorem zlK(D:DQ Z "sign_at" 47 ["bits","signs","address"]) (NN:zhh Z) (T:Txt Z.mg):zii Z:=by
 refine' okN ["bits","signs","address","height","block"] D λx=>⟨_,(Jb (QE b9 rfl (Zs T.ran (JC (dlv 0) dli)) (dgv 3 (ndB rfl)) (Jb (dsv 4 (ndB rfl) (Jd NN x (dbc (Jq (dbv 2 (dbc Jg Ja))) (dbv 3 Ja)))) (Jc (Jp (Jl (zrA (JP x)) Z2 (dlv 4) (dlv 1) rfl) (Jc (Je (Qp (JP x) (dlv 1) (dlv 4)))) Jt)))) (Jc (Je Jg))),?_⟩;rintro ts n R hl @⟨bits,rs,a,n,R,b0,b1,Q,a0,a1,h⟩;have RK:=zkF Q;have a2:a<2 ^ 64:=rm a1 (QY (show mu bits<=64 by lia));wp_walk;lia;lia;refine zrQ 3 4 (λk _ _ m=>m=n/\∀r∈rs,inb r.1 a->(k:Int)<=r.1.2) ⟨rfl,λr x _=>(Q.1 r x).1.1⟩ ?_ ?_
 ·rintro k t x1 x2 m K RT BK et ⟨rfl,inv⟩ hK hRT hBK;obtain⟨hk,rfl⟩:=WQ et;obtain⟨j,ej⟩:∃j:Int,j=(0:Int)+(k:Int):=⟨_,rfl⟩;rw[<- ej];have j0:0<=j:=by lia
  have j1:j<=1000:=by lia
  obtain⟨v,rfl⟩:∃v:Nat,j=(v:Int):=⟨mu j,by lia⟩;have ek:v=k:=by lia
  subst ek;have I:=zxN (a:=a) (k:=v);have al:Aln (a / 2 ^ v*2 ^ v,(v:Int)):=⟨j0,a / 2 ^ v,by rw[bS]⟩;obtain⟨b,J⟩:∃b:Int×Int,b=(a / 2 ^ mu ((v:Int))*2 ^ mu ((v:Int)),(v:Int)):=⟨_,rfl⟩;have S:b=(a / 2 ^ v*2 ^ v,(v:Int)):=by rw[J,bS]
  rw[<- S]at I al;have e1:a / 2 ^ mu ((v:Int))*2 ^ mu ((v:Int))=b.1:=by rw[J]
  have L:(v:Int)=b.2:=by rw[J]
  have ca:∀{Y:qN} {U:Nat},Y (fX [b5 b.1,b5 b.2]) U->VI [fX [b5 a,b5 0],b5 (v:Int)] U Y:=λx=>VI.c j0 j1 a0 a2 (by rw[e1,L];exact x);cases es:sgAt rs b with
  | none =>
   have C:valT (kR rs) b=ao:=by rw[zrf,es];rfl
   wp_walk using ca ?_,Q5 (k:=b) ?_;rw[C]at hc;cases hc;refine hK _ _ _ ⟨rfl,λr x G=>?_⟩;have:=inv r x G;rcases Int.lt_or_eq_of_le this with z|z
   push_cast;lia
   exact absurd (Ze (RK.1 r x).1 al (by rw[<- z,L]) G I) (WB es r x)
  | some s =>
   have C:valT (kR rs) b=ai (b5 s):=by rw[zrf,es];rfl
   wp_walk using ca ?_,Q5 (k:=b) ?_,Qs C ?_;exact hRT _ _ (h s (xw ⟨(b,s),U1 es,I,rfl,λq hq iq=>by show b.2<=q.1.2;rw[<- L];exact inv q hq iq⟩));rw[C]at hc;cases hc
 ·rintro x1 x2 m ⟨rfl,inv⟩;rw[zgu]at inv;wp_walk;refine h 0 (fj ⟨rfl,λr x G=>?_⟩);have:=inv r x G;have:=(Q.1 r x).1.2.1;lia
theorem zjb{α:Type}{m:Nat}:∀{l:List (List α)},(∀c∈l,dP c<=m)->dP l.flatten<=m*dP l
 | [],_=>dw _
 | c::l,h=>by have:=zjb (l:=l) λd hd=>h d (io _ hd);have:=h c (hH _);rw[kA,a9,aH,Nat.mul_succ];lia
theorem zmD{l m:List Int}:zipD (l.map b5) (m.map b5)=(l.zip m).map λq=>fX [b5 q.1,b5 q.2]:=by unfold zipD;rw[xN,b6];rfl
theorem zzu{bits:Int}{rs:RL}(h:Rls bits rs):Rls0 bits rs:=⟨h.1,dz.mpr (h.2.imp λ{a b} z e=>by rw[e]at z;unfold bkLt at z;lia)⟩
theorem zu9{rs:RL}:L2.rD rs=(kR rs).map prT:=by unfold L2.rD kR;rw[b6];rfl
inductive WM:qD->Nat->qN->Prop
 | c {bits:Int} {rs:RL} {n:Nat} {R:qN} (b0:0<=bits) (b1:bits<=64) (Q:Rls bits rs) (l:dP rs<=31) (h:∀ps,CanP (λx=>SgX rs x 1) ps->dP ps<=260*dP rs->R (fX (pD ps)) n):WM [b5 bits,fX (L2.rD rs)] n R
theorem zre:∀{u:List Int},u.Pairwise (·<·)->(u.zip u.tail).Pairwise λp q=>p.2<=q.1
 | [],_=>mL
 | [_],_=>mL
 | a::b::l,h=>.cons (λq v=>by have m:=(eE v).1;rcases ax.mp m with e|m;exact xH e.symm;exact eT ((ba.mp (ba.mp h).2).1 _ m)) (zre (ba.mp h).2)
def zgv(Z:ZZ):Prop:=QF Z "patch_by" 45 ["bits","rules"] 6 2 WM
theorem zjO(D:DQ Z "patch_by" 45 ["bits","rules"]) (Ni:Zp Z) (Oo:zii Z) (Om:znv Z) (Nh:UZ Z) (T:Txt Z.mg):zgv Z:=by
 refine' okN ["bits","rules","signs","edges","runs"] D λU=>⟨_,(Jb (dsv 2 (ndB rfl) (zqY rfl U.units T.dct (Jh 1))) (Jb (dsv 3 (ndB rfl) (Jz (zmq T.srt (own:=["block","sign","edge"]) (capt:=[]) rfl (Jv.of rfl) (dil (JZ (Jh 1))) (λ_ _ _ _=>(JH rfl (Jj (dgv 0 (ndB rfl)) (Jj (dgv 1 (ndB rfl)) JG)))) (by decide) (λ_ _ _ _=>QV) (λ_ _ _ _=>(JZ (Jq (dbc (Jk (dlv 0) dli) (dbc (Jd Nh U (dbv 0 Ja)) Ja))))) (λ_ _ _ _=>(dgv 2 (ndB rfl))) (by decide) (λ_ _ _ _=>QV) (λ_ _ _ _=>(Jh 2))))) (Jb (Y6 (Zg (i:=4) (ndB rfl) rfl (fj rfl) (own:=["low","high"]) (capt:=[0,2]) rfl (Jv.of rfl) (dil (zrS T.zip (Jh 3) (Jz (zqV (dlv 3) (Vn Jg) Vm)))) (λ_ _ _ _=>(JH rfl (Jj (dgv 0 (ndB rfl)) (Jj (dgv 1 (ndB rfl)) JG)))) (by decide) (λ_ _ _ _=>(Vo (Jl (Ux U) Uq (dl (Jd Oo U (dbv 2 (dbv 3 (dbv 0 Ja))))) dli (Jf _)))) (λ_ _ _ _=>(Jq (dbv 0 (dbv 1 Ja)))))) (Jc (Je (Jd Ni U (dbc (Jz (zld (own:=["low","high","block"]) (capt:=[]) rfl (Jv.of rfl) (dil (Vl (Jh 4))) (λ_ _ _ _=>(JH rfl (Jj (dgv 0 (ndB rfl)) (Jj (dgv 1 (ndB rfl)) JG)))) (by decide) (λ_ _ _ _=>QV) (λ_ _ _ _=>(JZ (Jd Om U (dbv 0 (dbv 1 Ja))))) (λ_ _ _ _=>(dgv 2 (ndB rfl))) (by decide) (λ_ _ _ _=>QV) (λ_ _ _ _=>(Jh 2)))) Ja))))))),?_⟩;rintro ts n R hl @⟨bits,rs,n,R,b0,b1,Q,l,h⟩;have Q0:=zzu Q;have RK:=zkF Q0;have p64:(2:Int) ^ mu bits<=2 ^ 64:=QY (by lia);wp_walk;refine⟨kR rs,by rw[zu9],by rw[show(kR rs).map (·.1)=rs.map (·.1) from by simp[kR]];exact Q0.2,?_⟩;wp_walk;unfold L2.rD;refine zm7 (cs:=rs) (λr=>[r.1.1,eB r.1]) (λ_=>av _) (by lia) ?_ ?_
 ·intro r U acc K ha hK;have B:=(Q0.1 r U).1;have h0:0<=r.1.2:=B.1;have h1:r.1.2<=1000:=by have:=B.2.1;lia
  wp_walk using Ug.c h0 h1 ?_;refine⟨_,rfl,by lia,?_⟩;wp_walk;refine⟨_,rfl,by rw[a9,kM];lia,?_⟩;wp_walk;rw[dZ];exact hK
 ·refine⟨?_,λv E=>?_⟩;have:=zje (rs:=rs);unfold Uj at this;lia;have E:Edg (Uj rs) v:=E;have lj:=ztQ E;rw[zje]at lj;have J:∀e∈v,0<=e/\e<=2 ^ mu bits:=λe he=>by
   obtain⟨r,U,z⟩:=VO.mp ((E.2 e).mp he);have b:=((Q0.1 r U).1).bounds b0;have:=JT (mu r.1.2);unfold eB at z;lia
  wp_walk;rw[zlg,<- wC,zmD]
  classical
  refine VR (cs:=v.zip v.tail) (λq=>decide (SgX rs q.1 1)) (λq=>fX [b5 q.1,b5 q.2]) (by rw[gR];lia) ?_ ?_
  ·intro q Y K X h1 h2;obtain⟨z1,z2,z3,z4⟩:=Vu E.1 q Y;have r1:=J _ z1;have r2:=J _ z2;wp_walk using zfO.c b0 b1 Q0 r1.1 (by lia) (λs hs=>?_);exact h1 (decide_eq_true (hc▸hs));exact h2 (decide_eq_false λz=>hc (zkC RK hs z))
  ·wp_walk;refine zo5 (cs:=(v.zip v.tail).filter λq=>decide (SgX rs q.1 1)) (D:=λq=>fX [b5 q.1,b5 q.2]) (G:=prD) (P:=λq us=>Ju q.1 q.2 us/\dP us<=130) 130 (λ_ _ z=>z.2) ?_ ?_
   ·intro q Y acc K X ha hK;obtain⟨z1,z2,z3,z4⟩:=Vu E.1 q (cW.mp Y).1;have r1:=J _ z1;have r2:=J _ z2;have lf:dP ((v.zip v.tail).filter λq=>decide (SgX rs q.1 1))<=200:=bu (fK ..) (by rw[gR];lia);wp_walk using Uw.c r1.1 (by lia) (by lia) (λus S=>?_);have lu:=S.len r1.1 (by lia);refine zg3 (cs:=us) (D:=prD) prD ?_ us acc (λ_ h=>h) (by lia) (hK us ⟨S,lu⟩);intro c hc K X hK;wp_walk;exact hK
   ·intro I el pw;have pm:∀us∈I,∃q∈v.zip v.tail,SgX rs q.1 1/\Ju q.1 q.2 us/\dP us<=130:=λus L=>by
     obtain⟨i,hi⟩:=dB.mp L;have il:=(aw.mp hi).1;have gi:=ay (l:=(v.zip v.tail).filter λq=>decide (SgX rs q.1 1)) (i:=i) (by lia);have:=pw i _ us gi hi;obtain⟨m1,m2⟩:=cW.mp (aC gi);exact⟨_,m1,of_decide_eq_true m2,this⟩
    have lf:dP I.flatten<=130*(2*dP rs):=by refine bu (zjb (m:=130) λus L=>?_) ?_;obtain⟨_,_,_,_,z⟩:=pm us L;exact z;refine pN _ ?_;rw[el];exact bu (fK ..) (by rw[gR];lia)
    have BB:Bks bits I.flatten:=λb N=>by obtain⟨us,L,N⟩:=fC.mp N;obtain⟨q,Y,_,S,_⟩:=pm us L;obtain⟨z1,z2,z3,z4⟩:=Vu E.1 q Y;exact S.blk b0 (J _ z1).1 (J _ z2).2 b N
    have fl:∀x,mB x I.flatten↔SgX rs x 1:=λx=>by constructor;rintro⟨b,N,bx⟩;obtain⟨us,L,N⟩:=fC.mp N;obtain⟨q,Y,s1,S,_⟩:=pm us L;obtain⟨x1,x2⟩:=(S.mem x).mp ⟨b,N,bx⟩;exact(zm_ E Y x1 x2 1).mpr s1;intro s1;obtain⟨q,Y,x1,x2⟩:=zqi E s1;have sq:=(zm_ E Y x1 x2 1).mp s1;have mq:q∈(v.zip v.tail).filter λq=>decide (SgX rs q.1 1):=cW.mpr ⟨Y,decide_eq_true sq⟩;obtain⟨i,hi⟩:=dB.mp mq;have il:=(aw.mp hi).1;have gu:=ay (l:=I) (i:=i) (by lia);obtain⟨S,_⟩:=pw i q _ hi gu;obtain⟨b,N,bx⟩:=(S.mem x).mpr ⟨x1,x2⟩;exact⟨b,fC.mpr ⟨_,aC gu,N⟩,bx⟩
    wp_walk;have up:I.flatten.Pairwise λa b=>rkB a<=rkB b:=by refine List.pairwise_flatten.mpr ⟨λus L=>?_,aM.mpr λi j hi hj hij x hx y hy=>?_⟩;obtain⟨q,_,_,S,_⟩:=pm us L;exact S.pw.imp_of_mem λ{a b} ha N h=>zno h (by have:=(BB a (fC.mpr ⟨us,L,ha⟩)).2.1;lia) (BB b (fC.mpr ⟨us,L,N⟩)).1;have zp:=((zre E.1).filter λq=>decide (SgX rs q.1 1));have gi:=ay (l:=(v.zip v.tail).filter λq=>decide (SgX rs q.1 1)) (i:=i) (by lia);have gj:=ay (l:=(v.zip v.tail).filter λq=>decide (SgX rs q.1 1)) (i:=j) (by lia);obtain⟨S1,_⟩:=pw i _ _ gi (ay hi);obtain⟨S2,_⟩:=pw j _ _ gj (ay hj);have le:=aM.mp zp i j (by lia) (by lia) hij;have x2:=(S1.in x hx).2;have y1:=(S2.in y hy).1;exact zno (by lia) (by have:=(BB x (fC.mpr ⟨_,eK hi,hx⟩)).2.1;lia) (BB y (fC.mpr ⟨_,eK hj,hy⟩)).1
    refine UT.c (bs:=I.flatten) (fj rfl) b0 b1 BB (zrl up (by lia)) λps C lp=>?_;exact h ps (C.congr fl) (by lia)
inductive zfP:qD->Nat->qN->Prop
 | c {bits:Int} {r:(Int×Int)×Int} {n:Nat} {R:qN} (b0:0<=bits) (b64:bits<=64) (B:IsBk bits r.1.1 r.1.2) (s0:0<=r.2) (s1:r.2<=1) (h:R (fX [fX [b5 r.1.1,b5 r.1.2],b5 r.2]) n):zfP [b5 bits,eN (rulS bits r)] n R
def zij(Z:ZZ):Prop:=QF Z "rule_in" 50 ["bits","row"] 2 2 zfP
theorem zlM(D:DQ Z "rule_in" 50 ["bits","row"]) (I:zgA Z) (T:Txt Z.mg):zij Z:=by
 refine' okN ["bits","row","figures","blank","sign","block"] D λv=>⟨_,(Jb (Qq (ztW (dlv 1) Qe) (JH rfl (Jj (dgv 2 (ndB rfl)) (Jj (dgv 3 (ndB rfl)) (Jj (dgv 4 (ndB rfl)) JG))))) (Jb (dsv 5 (ndB rfl) (Jd I v (dbv 0 (dbv 2 Ja)))) (Jb (Jp (JV (Qc (Jl zvN zxf (dlv 5) (dl QM) (Jf _)) (Qx (Jl (ziu v) zk9 (dlv 4) (dl (Jq (dbc Qe (dbc Qe Ja)))) rfl)))) (Jc (Je QM)) Jt) (Jc (Je (Jq (dbv 5 (dbc (Qb zjn zoy T.int boot_int (Ji (dlv 4) Jm Jr)) Ja)))))))),?_⟩;rintro ts n R hl @⟨bits,⟨⟨i,g⟩,s⟩,n,R,b0,b64,B,s0,s1,h⟩;have B:IsBk bits i g:=B;have s0:0<=s:=s0;have s1:s<=1:=s1;have pt:=znl (bits:=bits) (r:=((i,g),s));have le:=(Vh (r:=((i,g),s)) b64 B.1 s0 s1).1;generalize rulS bits ((i,g),s)=x at pt le;have u:=zuJ s0 s1;have J:=zsl s0 s1;have G:kN (sgS s)<=640:=by rcases u with z|z <;> rw[z] <;> decide +kernel
 wp_walk;decide +kernel;lia;rw[show(QC x (ar " ")).map eN=[eN (mkS (begL bits i g)),eN (ar " "),eN (sgS s)] by rw[pt];rfl];wp_walk using zer.c b0 b64 B ?_,zom G J ?_;all_goals first
  | exact h
  | exact absurd (show bA=bj from hc) (by decide)
  | (rcases u with z|z <;> rw[z] <;> exact(okK_str (by decide +kernel)).okd)
  | (intro t C;simp only[ax,aU,or_false]at C;rcases C with rfl|rfl <;> exact(okK_str (by decide +kernel)).okd)
  | (exfalso;refine absurd hc ?_;rcases u with z|z <;> rw[z] <;> decide +kernel)
  | skip
theorem zsh{bits:Int}(C:0<=bits){rs:RL}(Q:Rls bits rs):∀x,SgX rs x 1->0<=x/\x<2 ^ mu bits:=λx h=>by rcases h with⟨e,_⟩|⟨r,v,l,_⟩;lia;have:=((Q.1 r v).1).bounds C;unfold inb eB at l;lia
theorem znu{rs:RL}:∀t∈L2.rD rs,Okd t:=λt l=>by obtain⟨r,_,rfl⟩:=aR.mp l;exact⟨by simp[bR,cx],by simp[dI,cX]⟩
theorem znj{bits:Int}{rs:RL}(o:bits<=64)(Q:Rls bits rs)(l:dP rs<=1000):kN (QD bits rs)<=1000000:=by
 have e:=size_glued (ar "\n") (rs.map (rulS bits));have L:∀l:List Str,(∀s∈l,kN s<=80)->(l.map (·.length)).sum<=80*dP l:=by
  intro l;induction l with
  | nil=>intro _;exact av _
  | cons s l J =>intro h;have v:=h s (hH _);have N:=J λt G=>h t (io _ G);rw[aK,pX,aH];lia
 have v:=L (rs.map (rulS bits)) λs I=>by obtain⟨r,C,rfl⟩:=aR.mp I;obtain⟨B,s0,s1⟩:=Q.1 r C;exact(Vh o B.1 s0 s1).1
 have x:kN (ar "\n")=1:=by decide +kernel
 rw[aI]at e v;show(gV _ _).length<=_;unfold gV;rw[e,x];lia
inductive zcJ:qD->Nat->qN->Prop
 | c {bits:Int} {rs:RL} {n:Nat} {R:qN} (b0:0<=bits) (b64:bits<=64) (Q:Rls bits rs) (l:dP rs<=1000) (h:R (fX (L2.rD rs)) n):zcJ [b5 bits,eN (QD bits rs)] n R
def zeA(Z:ZZ):Prop:=QF Z "read_rules" 49 ["bits","text"] 5 2 zcJ
theorem zhn(D:DQ Z "read_rules" 49 ["bits","text"]) (U:zij Z) (Y:zdo Z) (T:Txt Z.mg):zeA Z:=by
 refine' okN ["bits","text","rows","rules"] D λv=>⟨_,(Jb (Jp (J7 (JM (dl (UA zxb T.isi T.str zph (dlv 1) Jr)))) (Jc zkf) Jt) (Jb (dsv 2 (ndB rfl) (Zf (JM (dlv 1)) (Jz (zqU (dlv 1) Qe)) (Jz (J0 Ja)))) (Jb (Y6 (Zg (i:=3) (ndB rfl) rfl (fj rfl) (own:=["row"]) (capt:=[0]) rfl (Jv.of rfl) (dil (Vl (Jh 2))) (λ_ _ _ _=>(dgv 0 (ndB rfl))) (by decide) (λ_ _ _ _=>QV) (λ_ _ _ _=>(Jd U v (dbv 1 (dbv 0 Ja)))))) (Jb (Jp (Jl (zvO v) zAr (dl QM) (dlv 3) rfl) (Jc zkf) Jt) (Jb (Jp (J7 (JM (dl (Jd Y v (dbv 0 (dbc (Qb QW QU T.tup J8 (Ji (dlv 3) Jm Jr)) Ja)))))) (Jc zkf) Jt) (Jc (Je (Qb QW QU T.tup J8 (Ji (dlv 3) Jm Jr))))))))),?_⟩;rintro ts n R hl @⟨bits,rs,n,R,b0,b64,Q,l,h⟩;have ca:∀{N:qN} {J:Nat},N (k6 bj) J->Zq [b5 bits,fX (L2.rD rs)] J N:=λv=>Zq.c b0 b64 Q l v;have lr:dP (L2.rD rs)=dP rs:=by simp[L2.rD]
 have nn:((L2.rD rs).any λt=>t.eqv oK)=bA:=i9.mpr λt C=>by obtain⟨r,_,rfl⟩:=aR.mp C;exact λz=>Bool.noConfusion z
 by_cases ne:rs=[]
 ·subst ne;rw[zni];wp_walk;all_goals first
   | exact h
   | exact UH
   | exact λt C=>znu t C
   | exact absurd (hc.symm.trans nn) (by decide)
   | (cases hc;done)
   | decide +kernel
   | exact absurd (show(ar "").length=0 by decide +kernel) hc
   | (simp[L2.rD];lia)
   | skip
  refine Qr (cs:=([]:RL)) (D:=λr=>eN (rulS bits r)) (λr=>fX [fX [b5 r.1.1,b5 r.1.2],b5 r.2]) (by decide) (λr v=>nomatch v) ?_;rw[show(oM (λr:(Int×Int)×Int=>fX [fX [b5 r.1.1,b5 r.1.2],b5 r.2]) [])=L2.rD [] from rfl];wp_walk using ca ?_;all_goals first
   | exact h
   | exact UH
   | exact λt C=>znu t C
   | exact absurd (b3 hc.symm nn) (by decide)
   | (cases hc;done)
   | decide +kernel
   | exact absurd (show(ar "").length=0 by decide +kernel) hc
   | (simp[L2.rD];lia)
   | skip
 ·have ls:=znj b64 Q l;have G:=zjF b64 Q ne;have I:kN (QD bits rs)≠0:=λz=>zp0 (bits:=bits) ne (L2.Str.ext' (by rw[cf.mp (show(QD bits rs).cps.toList.length=0 by rw[cg];exact z)];decide +kernel));generalize QD bits rs=x at ls G I;wp_walk;lia;decide +kernel;exact ls;rw[G,aI];lia
  ·rw[G,b6];refine Qr (cs:=rs) (D:=λr=>eN (rulS bits r)) (λr=>fX [fX [b5 r.1.1,b5 r.1.2],b5 r.2]) (by lia) ?_ ?_
   ·rintro r v K X S;obtain⟨B,s0,s1⟩:=Q.1 r v;wp_walk using zfP.c b0 b64 B s0 s1 ?_;exact S
   ·rw[show(oM (λr:(Int×Int)×Int=>fX [fX [b5 r.1.1,b5 r.1.2],b5 r.2]) rs)=L2.rD rs from rfl];wp_walk using ca ?_;all_goals first
     | exact h
     | exact UH
     | exact λt C=>znu t C
     | exact absurd (b3 hc.symm nn) (by decide)
     | (cases hc;done)
     | decide +kernel
     | exact absurd (show(ar "").length=0 by decide +kernel) hc
     | (simp[L2.rD];lia)
     | skip
  exact absurd I hc
def rwD(q:(Int×Int)×(Int×Int)):ae:=fX [fX [b5 q.1.1,b5 q.1.2],b5 q.2.1,b5 q.2.2]
inductive zch:qD->Nat->qN->Prop
 | c {bits:Int} {bs:BL} {n:Nat} {R:qN} (b0:0<=bits) (b1:bits<=64) (B:Bks bits bs) (l:SrtL rkB bs) (l2:dP bs<=10000) (h:∀(ps:BL) (qs:PR),CanP (λx=>mB x bs) ps->dP ps<=dP bs->PrOk bits ps qs->dP qs<=1+130*dP bs->R (fX (qs.map rwD)) n):zch [b5 bits,fX (pD bs)] n R
def zdK(Z:ZZ):Prop:=QF Z "rules_paper" 52 ["bits","patch"] 9 2 zch
theorem zf3(D:DQ Z "rules_paper" 52 ["bits","patch"]) (G:WP Z) (T:Txt Z.mg):zdK Z:=by
 refine' okN ["bits","patch","pairs"] D λv=>⟨_,(Jb (dsv 2 (ndB rfl) (Jd G v (dbv 0 (dbv 1 Ja)))) (Jc (Je (Qb QW QU T.tup J8 (Ji (dl (Jz (dnc ["block"] [2] (dil (zoK (Jh 2))) (λ_ _ _ _=>(dgv 0 (ndB rfl))) (λ_ _ _ _=>(Jq (dbv 0 (dbc (Jk (dl (Qp (JP v) (dlv 1) (dlv 0))) dli) (dbc (Jk (dl (Qp (JP v) (dlv 1) (dlv 0))) dli) Ja)))))))) Jm QO))))),?_⟩;rintro ts n R hl @⟨bits,bs,n,R,b0,b1,B,l,l2,h⟩;wp_walk using VU.c b0 b1 B l l2 (λps qs C Q=>?_);have L:=C.le b0 B;have P:Ptc bits ps:=C.ptc b0 λx hx=>Q7 b0 B hx;have S:=(Q.len b1 P.1).2;refine⟨prK qs,rfl,?_⟩;have e:(prK qs).map (λq=>L2.blkT q.1)=qs.map λq=>L2.blkT q.1:=by simp[prK]
 rw[e];refine Qr (cs:=qs) rwD (by lia) ?_ ?_
 ·intro q J U N o;have ev:=zjz Q.nd J;have I:valT (prK qs) q.1=ai (fX [b5 q.2.1,b5 q.2.2]):=by rw[Qw,ev];rfl
  rw[L2.blkT];wp_walk using Qs I ?_;exact o
 ·wp_walk;exact h ps qs C L Q (by lia)
inductive zeq:qD->Nat->qN->Prop
 | c {bits:Int} {ps:qB} {qs:PR} {b q:Int×Int} {n:Nat} {R:qN} (b0:0<=bits) (b1:bits<=64) (P:Ptc bits ps) (hl:dP ps<1000000) (B:IsBk bits b.1 b.2) (hq:valP qs b=ai q) (h:∀no al:Bool,(no=bj↔HasN ps b)->(al=bj↔HasA ps b)->R (k6 (rgtD (bpD no al qs b) q)) n):zeq [fX (pD ps),tD (Js (prK qs)),fX [b5 b.1,b5 b.2]] n R
def zgx(Z:ZZ):Prop:=QF Z "is_right" 56 ["patch","pairs","block"] 8 3 zeq
theorem zjS(D:DQ Z "is_right" 56 ["patch","pairs","block"]) (I:zdn Z) (T:Txt Z.mg):zgx Z:=by
 refine' okN ["patch","pairs","block","most","a","b"] D λG=>⟨_,(Jb (dsv 3 (ndB rfl) (Jd I G (dbv 0 (dbv 1 (dbv 2 Ja))))) (Jb (Jp (Jl zvN zxf (dlv 3) (dl QM) (Jf _)) (Jc (Je JR)) Jt) (Jb (Qq (Qp (JP G) (dlv 1) (dlv 2)) (JH rfl (Jj (dgv 4 (ndB rfl)) (Jj (dgv 5 (ndB rfl)) JG)))) (Jc (Je (Uf (J5 Qh Qf (dlv 4) (dl (Jk (dlv 3) dli)) (Jf _)) (Ue (J5 Qh Qf (dlv 5) (dl (Jk (dlv 3) dli)) (Jf _))))))))),?_⟩;rintro ts n R hl @⟨bits,ps,qs,b,q,n,R,b0,b1,P,hl2,B,hq,h⟩;have v:valT (prK qs) b=ai (fX [b5 q.1,b5 q.2]):=by rw[Qw,hq];rfl
 wp_walk using WG.c b0 b1 P hl2 B (λno al C x=>?_);have key:=h no al C x;cases e:bpD no al qs b with
 | none=>rw[e]at key;exact key
 | some m=>rw[e]at hc;exact absurd hc (by simp[optD,twoD,isNone])
 ·have key:=h no al C x;cases e:bpD no al qs b with
  | none=>rw[e]at hc;exact absurd hc (by simp[optD,isNone])
  | some m =>rw[e]at key;have key:R (k6 (decide (q.1<=m.1)&&decide (q.2<=m.2))) n:=key;have J:optD (ai m)=fX [b5 m.1,b5 m.2]:=rfl;rw[J];wp_walk using Qs v ?_;rw[decide_eq_true hc,gX]at key;exact key;rw[decide_eq_false hc,hY]at key;exact key
inductive WL:qD->Nat->qN->Prop
 | c {i:Int} {n:Nat} {R:qN} (i0:0<=i) (h:R (k6 bj) n):WL [b5 i] n R
def zgy(Z:ZZ):Prop:=QF Z "is_count" 55 ["thing"] 2 1 WL
theorem zjT(D:DQ Z "is_count" 55 ["thing"]) (l:WO Z) (T:Txt Z.mg):zgy Z:=by
 refine' okN ["thing"] D λo=>⟨_,(Jc (Je (Uf (Jd l o (dbv 0 Ja)) (Ue (J5 zsY gp_B (dlv 0) dli (Jf _)))))),?_⟩;intro ts n R u h;obtain @⟨i,n,R,i0,h⟩:=h;wp_walk using VT.c ?_;all_goals first
  | (rw[decide_eq_true i0];exact h)
  | exact absurd rfl hc
def zk_:GD:=λts n R=>∃(bits:Int) (q:(Int×Int)×(Int×Int)),ts=[b5 bits,rwD q]/\0<=bits/\bits<=64/\IsBk bits q.1.1 q.1.2/\0<=q.2.1/\0<=q.2.2/\R (k6 bj) n
theorem zq5{bits:Int}{q:(Int×Int)×(Int×Int)}{n:Nat}{R:qN}(v:0<=bits)(u:bits<=64)(B:IsBk bits q.1.1 q.1.2)(p:0<=q.2.1/\0<=q.2.2)(h:R (k6 bj) n):zk_ [b5 bits,rwD q] n R:=⟨bits,q,rfl,v,u,B,p.1,p.2,h⟩
def zkL(Z:ZZ):Prop:=QF Z "is_row" 54 ["bits","thing"] 3 2 zk_
theorem znU(D:DQ Z "is_row" 54 ["bits","thing"]) (u:zea Z) (o:zgy Z) (T:Txt Z.mg):zkL Z:=by
 refine' okN ["bits","thing","block","a","b"] D λl=>⟨_,(Jb (Jp (JV (Qc (J7 (JM (dl (UA Vx T.isi T.tup J8 (dlv 1) Jr)))) (Qx (Jl (QH l) QB (dl (Jw Qi Qg T.len J4 (Ji (dlv 1) Jm Jr))) dli (Jf _))))) (Jc (Je JR)) Jt) (Jb (Qq (Jh 1) (JH rfl (Jj (dgv 2 (ndB rfl)) (Jj (dgv 3 (ndB rfl)) (Jj (dgv 4 (ndB rfl)) JG))))) (Jc (Je (Uf (Jd u l (dbv 0 (dbv 2 Ja))) (Uf (Jd o l (dbv 3 Ja)) (Ue (Jd o l (dbv 4 Ja))))))))),?_⟩;intro ts n R C h;obtain⟨bits,q,rfl,x,v,B,p1,p2,h⟩:=h;rw[rwD];wp_walk using WK.c x v B ?_,WL.c p1 ?_,WL.c p2 ?_;all_goals first
  | exact h
  | exact absurd rfl hc
inductive Zv:qD->Nat->qN->Prop
 | c {bits:Int} {bs ps:BL} {many:Int} {qs:PR} {n:Nat} {R:qN} (b0:0<=bits) (b1:bits<=64) (B:Bks bits bs) (l:SrtL rkB bs) (l2:dP bs<=10000) (C:CanP (λx=>mB x bs) ps) (Q:PrOk bits ps qs) (lq:dP qs<=1000000) (h:R (k6 (decide (many<=zbp bits ps))) n):Zv [b5 bits,fX (pD bs),b5 many,fX (qs.map rwD)] n R
def zey(Z:ZZ):Prop:=QF Z "shows_many" 53 ["bits","patch","many","paper"] 9 4 Zv
theorem zhl(D:DQ Z "shows_many" 53 ["bits","patch","many","paper"]) (U:Zp Z) (Of:zgx Z) (Y:zkL Z) (T:Txt Z.mg):zey Z:=by
 refine' okN ["bits","patch","many","paper","pairs","wanted"] D λI=>⟨_,(Jb (Jp (JV (Qc (J7 (JM (dl (UA Vx T.isi T.tup J8 (dlv 3) Jr)))) (Qx (J7 (JM (dl (Jw (VL rfl) Z1 T.all VJ (Ji (dl (Jz (dnc ["row"] [0] (dil (JZ (Jh 3))) (λ_ _ _ _=>(dgv 0 (ndB rfl))) (λ_ _ _ _=>(Jd Y I (dbv 1 (dbv 0 Ja))))))) Jm QO)))))))) (Jc (Je JR)) Jt) (Jb (dsv 4 (ndB rfl) (zqZ (own:=["block","a","b"]) (capt:=[]) (JP I) rfl (Jv.of rfl) (dil (JZ (Jh 3))) (λ_ _ _ _=>(JH rfl (Jj (dgv 0 (ndB rfl)) (Jj (dgv 1 (ndB rfl)) (Jj (dgv 2 (ndB rfl)) JG))))) (by decide) (λ_ _ _ _=>QV) (λ_ _ _ _=>(Jh 0)) (λ_ _ _ _=>(Jq (dbv 1 (dbv 2 Ja)))))) (Jb (Jp (JV (Qc (Jl (QH I) QB (dl (Jw zpd ztI T.len J4 (Ji (dlv 4) Jm Jr))) (dl (Jw Qi Qg T.len J4 (Ji (dlv 3) Jm Jr))) (Jf _)) (Qx (Jl (zjL (JP I)) Z2 (dl (Jq (dbc Jg (dbv 0 Ja)))) (dlv 4) rfl)))) (Jc (Je JR)) Jt) (Jb (Jp (Jl (Qm I) Qk (dl (Jk (dl (Qp (JP I) (dlv 4) (dl (Jq (dbc Jg (dbv 0 Ja)))))) dli)) (dlv 2) (Jf _)) (Jc (Je JR)) Jt) (Jb (dsv 5 (ndB rfl) (Jd U I (dbv 1 Ja))) (Jc (Je (Jw (VL rfl) Z1 T.all VJ (Ji (dl (Jz (dnc ["block"] [5,4] (dil (zoK (Jh 4))) (λ_ _ _ _=>(dgv 0 (ndB rfl))) (λ_ _ _ _=>(Jd Of I (dbv 1 (dbv 2 (dbv 0 Ja)))))))) Jm QO))))))))),?_⟩;rintro ts n R hl @⟨bits,bs,ps,many,qs,n,R,b0,b1,B,l,l2,C,Q,lq,h⟩;have al:∀{α:Type} (l:List α),(l.all λ_=>bj)=bj:=λl=>cJ.mpr λ_ _=>rfl;obtain⟨v,ev⟩:=Q.root;have mv:=Q.many ev;have N:valT (prK qs) (0,bits)=ai (fX [b5 v.1,b5 v.2]):=by rw[Qw,ev];rfl
 have P:Ptc bits ps:=C.ptc b0 λx hx=>Q7 b0 B hx;wp_walk;refine Qr (cs:=qs) (D:=rwD) (λ_=>k6 bj) (by lia) ?_ ?_
 ·intro q J S L G;wp_walk using zq5 b0 b1 (Q.bk q J) (Q.pos q J) ?_;exact G
 ·wp_walk using Z4 (f:=λ_=>bj) ?_
  ·refine zmt (cs:=qs) (D:=rwD) (λq=>q.1) (λq=>twoD q.2) (by lia) ?_ ?_
   ·intro q J S L G;rw[rwD];wp_walk;exact G
   ·have ef:qs.foldl (λacc b=>putT acc b.1 (twoD b.2)) []=prK qs:=zoA (qs:=qs) (acc:=[]) (by simpa using Q.nd);rw[ef];wp_walk using zwR ?_,Q5 (k:=(0,bits)) ?_,Qs (k:=(0,bits)) N ?_,UT.c (xw rfl) b0 b1 B l (λps' C' lp=>?_);rw[N]at hc;cases hc;rw[decide_eq_false (by lia)]at h;exact h
    ·have ep:=C'.uniq C λx=>aQ;subst ep;refine⟨prK qs,rfl,?_⟩;rw[show(prK qs).map (λq=>L2.blkT q.1)=qs.map λq=>L2.blkT q.1 by simp[prK]];refine Qr (cs:=qs) (λ_=>k6 bj) (by lia) ?_ ?_
     ·intro q J S L G;rw[L2.blkT];wp_walk using zeq.c (b:=q.1) (q:=q.2) b0 b1 P (by lia) (Q.bk q J) (zjz Q.nd J) (λno al hn ha=>?_);rw[show rgtD (bpD no al qs q.1) q.2=bj by rw[Q.rgt q J no al hn ha];simp[rgtD]];exact G
     ·wp_walk using Z4 (f:=λ_=>bj) ?_;rw[al];rw[decide_eq_true (by lia)]at h;exact h
    exact absurd (by rw[prK,aI,aI]) hc
  rw[al]at hc;cases hc
inductive zcI:qD->Nat->qN->Prop
 | c {bits:Int} {rs:RL} {n:Nat} {R:qN} (b0:0<=bits) (b64:bits<=64) (Q:Rls bits rs) (l:dP rs<=1000) (h:R (eN (QD bits rs)) n):zcI [b5 bits,fX (L2.rD rs)] n R
def zez(Z:ZZ):Prop:=QF Z "show_rules" 58 ["bits","rules"] 2 2 zcI
theorem zhm(D:DQ Z "show_rules" 58 ["bits","rules"]) (v:zfp Z) (T:Txt Z.mg):zez Z:=by
 refine' okN ["bits","rules"] D λo=>⟨_,(Jc (Je (zoR (dl Qe) (Jz (dnc ["block","sign"] [0] (dil (JZ (Jh 1))) (λ_ _ _ _=>(JH rfl (Jj (dgv 0 (ndB rfl)) (Jj (dgv 1 (ndB rfl)) JG)))) (λ_ _ _ _=>(ztZ (zkh (zr0 (Jd v o (dbv 2 (dbv 0 Ja)))) (zkh Qe (zkh (zr0 (Jh 1)) zxx)))))))))),?_⟩;rintro ts n R hl @⟨bits,rs,n,R,b0,b64,Q,l,h⟩;wp_walk;refine Qr (cs:=rs) (D:=λr=>fX [fX [b5 r.1.1,b5 r.1.2],b5 r.2]) (λr=>eN (rulS bits r)) (by lia) ?_ ?_
 ·rintro⟨⟨i,g⟩,s⟩ o K X hK;obtain⟨B,s0,s1⟩:=Q.1 _ o;have B:IsBk bits i g:=B;have s0:0<=s:=s0;have s1:s<=1:=s1;have le:=(Vh (r:=((i,g),s)) b64 B.1 s0 s1).1;have e:rulS bits ((i,g),s)=ar "" ++ mkS (begL bits i g)++ar " " ++ ar (toString s):=rfl;rw[e]at le hK;simp only[strLen_append]at le;wp_walk using zds.c b0 b64 B ?_;all_goals first
   | exact hK
   | ((try dsimp only);(try simp only[strLen_append]);lia)
   | exact fE (Nat.log2_le_self _) (by lia)
   | skip
 wp_walk;refine⟨rs.map (rulS bits),by rw[b6];rfl,zlA b64 Q l,h⟩
theorem scH:Uy ["_law_script","_law_k","_law_cell"] ["_law_script","_law_k"] (JI (top 60)):=⟨rfl,rfl,rfl,by decide +kernel,rfl,by decide +kernel,by decide +kernel⟩
theorem ziF{f:aq}{fd:dO}(D:Def K mg "_law_hand" (top 60) ["_law_script","_law_k"] f fd) (T:Txt mg):FnOk P w K mg base CX0 1 f fd ["_law_script","_law_k"] (Wa K):=by
 refine D.F.ok scH (λvs H Q E h=>?_) (λx A outer s H vs Q E J h=>?_);obtain⟨a,ns,k,rfl,_⟩:=h;rfl;obtain⟨a,ns,k,rfl,u,I,C,L,q⟩:=h;refine⟨_,QP (QK (i:=2) scH.nd rfl (fj rfl) JD)
  (QP (zsD (zjH zvJ (pv 1) (ZI zjm T.len J4 (pb_v 0 Ua)) (Jf _)) (Vf (QK (i:=2) scH.nd rfl (fj rfl) (Uk UB (pv 0) (pv 1) (λ_ _=>rfl)))) zjI)
  (Vf (ZR (znG (zry (JF Q9 (pv 2) (zsQ zf1 T.int boot_int (zvA (znH zsY (pv 2) (JF zvG JD JD) (Jf _)) Ua)))
   (zry (JF Uc (JF Uc (JF UN (pv 2) JD) (JF Q9 JD (pv 1))) JD) (pb_i Ua))))))),?_⟩
 refine⟨_,rfl,_,rfl,a,_,rfl,fj u,_,_,rfl,rfl,_,rfl,?_⟩;have fin:∀c:Int,tRet (tLst (QR (tOp (rI CMul λi j=>V.int (i*j)) (tVar 2) (tCB (λxs H Q=>(∃i,xs=[.int i]/\Q (.int i) H)\/∃k,xs=[.bl k]/\Q (.int (if k then 1 else 0)) H) (QR (tOp (rI0 λi j=>.bl (decide (j<=i))) (tVar 2) (tOp (rI CPow λi j=>.int (i ^ mu j)) (tC (.int 10)) (tC (.int 18)))) tNil)))
   (QR (tOp (rI0 λi j=>.int (i+j)) (tOp (rI0 λi j=>.int (i+j)) (tOp (rI (λ_ j=>0<j) λi j=>.int (i % j)) (tVar 2) (tC (.int 2305843009213693951))) (tOp (rI CMul λi j=>V.int (i*j)) (tC (.int 7919)) (tVar 1))) (tC (.int 3))) (QR (tC (.int 0)) tNil))))
   { nx:=λ_ H'=>Q .non H',rt:=Q } [ai (.ref a),ai (.int k),ai (.int c)] H:=by
  intro c;refine⟨_,rfl,_,rfl,_,_,rfl,rfl,⟨by decide,by decide,by decide⟩,_,_,rfl,rfl,xw ⟨_,rfl,_,_,rfl,rfl,xw ?_,?_⟩⟩;split <;> decide;refine⟨_,rfl,_,_,rfl,rfl,(by show(0:Int)<2305843009213693951;decide),_,rfl,_,_,rfl,rfl,fj ⟨by decide,by decide⟩,_,_,rfl,rfl,_,_,rfl,rfl,(by show 3<=sizeLine;decide),λl v=>?_⟩;refine q l _ v ⟨_,_,_,JJ,?_,?_,aN _,aN _⟩ (zpS v);lia;lia
 refine zwI (λc=>?_) (λc=>?_);have G:mu k<dP ns:=by rw[aI]at c;lia
 refine⟨_,rfl,_,rfl,a,_,_,V.int (ns[mu k]),rfl,rfl,u,?_,?_⟩;exact zhK C (by rw[aT,ay G];rfl);exact fin _;exact fin 0
def zfr(Z:ZZ):Prop:=FQ Z "_law_hand" (top 60) ["_law_script","_law_k"] 1 (Wa Z.K)
theorem zhk(D:Dq Z.K Z.mg "_law_hand" (top 60) ["_law_script","_law_k"]) (T:Txt Z.mg):zfr Z:=by obtain⟨f,fd,D⟩:=D;exact⟨f,fd,D,ziF D T⟩
theorem zib{H:Hp}{hd:aq}{o:HO}:zxP hd H (upd H hd o):=λb u e n=>by rw[Jo n];exact e
theorem scT:Uy ["_law_hand_here","_law_many","_law_digit","_law_turn","_law_mixed","_law_other"] ["_law_hand_here","_law_many"] (JI (top 61)):=⟨rfl,rfl,rfl,by decide +kernel,rfl,by decide +kernel,by decide +kernel⟩
theorem zqk{f:aq}{fd:dO}(D:Def K mg "_law_take" (top 61) ["_law_hand_here","_law_many"] f fd) (T:Txt mg):FnOk P w K mg base CX0 1 f fd ["_law_hand_here","_law_many"] zrm:=by
 refine D.F.ok scT (λvs H Q E h=>?_) (λC A outer s H vs Q E I h=>?_);obtain⟨hd,many,n,rfl,_⟩:=h;rfl;obtain⟨hd,many,n,rfl,⟨d,m,t,u,m0,x,t0,t1⟩,J,v,G,q⟩:=h;refine⟨_,QP (zsD (zjH QQ (Uk UB (pv 0) JD (λ_ _=>rfl)) JD (Jf _))
   (QP (QK (i:=2) scT.nd rfl (fj rfl) (JF UN (Uk UB (pv 0) JD (λ_ _=>rfl)) (pv 1)))
   (QP (Wc (JF Wi (Uk UB (pv 0) JD (λ_ _=>rfl)) (pv 1)) (pg_sub (pv 0) JD set_list))
   (Vf (ZR (pv 2))))) zjI)
  (QP (Wc (JF Uc (Uk UB (pv 0) JD (λ_ _=>rfl)) JD) (pg_sub (pv 0) JD set_list))
  (QP (QK (i:=3) scT.nd rfl (fj rfl) (Uk UB (pv 0) JD (λ_ _=>rfl)))
  (QP (QK (i:=4) scT.nd rfl (fj rfl) (JF UN (JF Q9 (Uk UB (pv 0) JD (λ_ _=>rfl)) (JF Uc (JF Uc JD (JF Q9 (JF Q9 JD (pv 3)) (pv 3))) (JF Q9 JD (pv 3)))) JD))
  (QP (QK (i:=5) scT.nd rfl (fj rfl) (JF Uc (JF Uc (JF UN (pv 4) JD) (JF Q9 (pv 3) JD)) JD))
  (QP (QK (i:=4) scT.nd rfl (fj rfl) (JF UN (JF Q9 (pv 4) (pv 5)) JD))
  (Vf (ZR (JF UN (JF Uc (JF Wi (pv 4) JD) (JF Wi (pv 4) JD)) (pv 1))))))))),?_⟩
 refine⟨_,rfl,hd,_,_,_,rfl,rfl,.of u,rfl,_,_,rfl,rfl,_,rfl,?_⟩;refine zwI (λc=>?_) (λc=>?_);refine⟨_,rfl,hd,_,_,_,rfl,rfl,.of u,rfl,_,rfl,_,_,rfl,rfl,v,?_⟩;refine⟨_,rfl,hd,_,_,_,rfl,rfl,.of u,rfl,_,rfl,_,_,rfl,rfl,⟨v,G⟩,?_⟩;refine⟨_,rfl,hd,_,_,0,rfl,rfl,u,rfl,?_⟩;refine⟨_,rfl,?_⟩;exact q _ _ (fi _ (by lia)) (eO _ v) ⟨_,_,_,JJ,m0,x,t0,by lia⟩ zib;refine⟨_,rfl,hd,_,_,_,rfl,rfl,.of u,rfl,_,_,rfl,rfl,?_⟩;refine⟨_,rfl,hd,_,_,2,rfl,rfl,u,rfl,?_⟩;refine⟨_,rfl,hd,_,_,_,rfl,rfl,.of JJ,rfl,?_⟩;refine⟨_,rfl,hd,_,_,_,rfl,rfl,.of JJ,rfl,_,rfl,_,_,rfl,rfl,fj ⟨by decide,by decide⟩,_,rfl,_,_,rfl,rfl,xw ⟨by lia,by lia⟩,_,_,rfl,rfl,_,rfl,_,_,rfl,rfl,fj ⟨by decide,by decide⟩,_,_,rfl,rfl,_,_,rfl,rfl,fj ⟨by lia,by lia⟩,_,_,rfl,rfl,(by show(0:Int)<2305843009213693921;decide),?_⟩;refine⟨_,rfl,_,_,rfl,rfl,(by show(0:Int)<1000003;decide),_,rfl,_,_,rfl,rfl,xw ⟨by decide,by decide⟩,_,_,rfl,rfl,_,_,rfl,rfl,?_⟩;refine⟨_,rfl,_,rfl,_,_,rfl,rfl,fj ⟨by lia,by lia⟩,_,_,rfl,rfl,(by show(0:Int)<2305843009213693907;decide),?_⟩;refine⟨_,rfl,_,_,rfl,rfl,⟨by decide,by decide⟩,_,rfl,_,_,rfl,rfl,⟨by decide,by decide⟩,_,_,rfl,rfl,_,rfl,_,_,rfl,rfl,v,?_⟩;exact q _ _ (fi _ (by lia)) (eO _ v) ⟨_,_,_,JJ,m0,x,by lia,by lia⟩ zib
theorem ziC{f:aq}{fd:dO}(D:Def K mg "_law_take" (top 61) ["_law_hand_here","_law_many"] f fd) (T:Txt mg):FnOk P w K mg base CX0 1 f fd ["_law_hand_here","_law_many"] (spD K 2 YH) :=
 (zqk D T).imp zpM
def U5(Z:ZZ):Prop:=QF Z "_law_take" 61 ["_law_hand_here","_law_many"] 1 2 YH
theorem zhj(D:Dq Z.K Z.mg "_law_take" (top 61) ["_law_hand_here","_law_many"]) (T:Txt Z.mg):U5 Z:=by obtain⟨f,fd,D⟩:=D;exact⟨f,fd,D,ziC D T⟩
def VS:GD:=λts n R=>match ts with
 | [h,tE xs]=>h=HAND/\xs≠[]/\dP xs<=1000000/\n<=1000000000000/\∀x∈xs,R x (n+1)
 | [h,fX xs]=>h=HAND/\xs≠[]/\dP xs<=1000000/\n<=1000000000000/\∀x∈xs,R x (n+1)
 | _=>False
theorem VQ{xs:qD}{n:Nat}{R:qN}(h0:xs≠[])(u:dP xs<=1000000)(o:n<=1000000000000)(h:∀x∈xs,R x (n+1)):VS [HAND,tE xs] n R:=⟨rfl,h0,u,o,h⟩
def U4(Z:ZZ):Prop:=QF Z "_law_pick" 62 ["_law_hand_here","_law_some"] 2 2 VS
theorem ziD(D:DQ Z "_law_pick" 62 ["_law_hand_here","_law_some"]) (G:U5 Z) (T:Txt Z.mg):U4 Z:=by
 refine' okN ["_law_hand_here","_law_some"] D λx=>⟨_,(Jc (Je (Jk (dlv 1) (dl (Jd G x (dbv 0 (dbc (Jw Qi Qg T.len J4 (Ji (dlv 1) Jm Jr)) Ja))))))),?_⟩;intro ts n R J h;cases ts with
 | nil=>exact eJ h
 | cons hd ts=>cases ts with
  | nil=>exact eJ h
  | cons t ts=>cases ts with
   | cons _ _=>cases t <;> exact eJ h
   | nil=>cases t with
    | list xs =>
     obtain⟨rfl,h0,C,o,h⟩:=h;have I:0<dP xs:=lF.mpr h0;wp_walk using Ut (by lia) (by lia) o (λr u v=>?_);have l:mu r<dP xs:=by lia
     rw[ZD (zhK u (ay l))];exact h _ (eK l)
    | tuple xs =>
     obtain⟨rfl,h0,C,o,h⟩:=h;have I:0<dP xs:=lF.mpr h0;wp_walk using Ut (by lia) (by lia) o (λr u v=>?_);have l:mu r<dP xs:=by lia
     rw[ZE (zhK u (ay l))];exact h _ (eK l)
    | _=>exact eJ h
def zdt:GD:=λts n R=>match ts with
 | [h]=>h=HAND/\n<=1000000000000/\∀b:Int,1<=b->b<=64->R (b5 b) (n+1)
 | _=>False
theorem zkn{n:Nat}{R:qN}(l:n<=1000000000000)(h:∀b:Int,1<=b->b<=64->R (b5 b) (n+1)):zdt [HAND] n R:=⟨rfl,l,h⟩
def zfs(Z:ZZ):Prop:=QF Z "_law_bits" 63 ["_law_hand_here"] 3 1 zdt
theorem ziG(D:DQ Z "_law_bits" 63 ["_law_hand_here"]) (l:U4 Z) (T:Txt Z.mg):zfs Z:=by refine' okN ["_law_hand_here"] D λo=>⟨_,(Jc (Je (Jd l o (dbv 0 (dbc (Jz (J0 (dbc Jg (dbc Jg (dbc Jg (dbc Jg (dbc Jg (dbc Jg (dbc Jg (dbc Jg (dbc Jg (dbc Jg Ja)))))))))))) Ja))))),?_⟩;intro ts n R v h;unfold zdt at h;split at h;obtain⟨rfl,u,h⟩:=h;simp only[Vb,Va,Vc,Z9,u_dC,ZK,Z5,Z7,Z6,Vr,ZJ,VE,Vv,Vt,Vs,VF,Z8,ZV,Zj,YB,YC,Zi,YD,YE,Zl,Yi,Yj,oSub,oMul,oMod,Uo,oShl,oShr,oXor,oAnd,isNone,isInt,isBool,isTup,isStr,l_gI,ZC,YJ,YK,YL,Yd,Yk,Yq,Yy,Yx,Yl,Ym,Yz,Ys,Za,Zb,Yr,Zn,Yu,Yt,YQ,YR,YS,YN,YO,YU,YV,YX,YW,YY,Yc,Yw,Yv,Yb,YM,Zo,YT,Zc,Zm,UC,UI,UD,U2,UX,UY,UW,UH,UV,JX,JL,capV,aK,dH,aH,bX,cm,gq,eM,fc,b8,dR,e8,gP,gQ,gr,gx,eS,Nat.reduceAdd,Nat.reduceSub,kJ,true_and,and_true,aJ,if_true,if_false,ite_true,ite_false,fx,fG,iC,VS];refine⟨by simp,by decide,u,λx hx=>?_⟩;simp only[ax,aU,or_false]at hx;rcases hx with rfl|rfl|rfl|rfl|rfl|rfl|rfl|rfl|rfl|rfl <;> exact h _ (by decide) (by decide);exact eJ h
def zcO:GD:=λts n R=>match ts with
 | [h,b5 bits]=>h=HAND/\1<=bits/\bits<=64/\n<=1000000000000 - 10/\∀i h:Int,IsBk bits i h->R (fX [b5 i,b5 h]) (n+3)
 | _=>False
theorem zeP{bits:Int}{n:Nat}{R:qN}(x:1<=bits)(v:bits<=64)(o:n<=1000000000000 - 10)(h:∀i h:Int,IsBk bits i h->R (fX [b5 i,b5 h]) (n+3)):zcO [HAND,b5 bits] n R:=⟨rfl,x,v,o,h⟩
def zcC(Z:ZZ):Prop:=QF Z "_law_block" 64 ["_law_hand_here","_law_bits_here"] 3 2 zcO
theorem zhw(D:DQ Z "_law_block" 64 ["_law_hand_here","_law_bits_here"]) (U:U4 Z) (C:U5 Z) (T:Txt Z.mg):zcC Z:=by
 refine' okN ["_law_hand_here","_law_bits_here","_law_height"] D λv=>⟨_,(Jb (dsv 2 (ndB rfl) (Jw (VM rfl) Z3 T.min Zr (Ji (dlv 1) (Ji (dl (Jd U v (dbv 0 (dbc (Jz (J0 (dbc Jg (dbc Jg (dbc Jg (dbc Jg (dbc Jg (dbc Jg (dbc (Jd C v (dbv 0 (dbc (JC (dlv 1) dli) Ja))) (dbv 1 Ja)))))))))) Ja)))) Jm UE) Jr))) (Jc (Je (Jq (dbc (ZP (dl (Jd C v (dbv 0 (dbc (Qd dli (dl (J6 (dlv 1) (dlv 2)))) Ja)))) (dl (Qd dli (dlv 2)))) (dbv 2 Ja)))))),?_⟩;intro ts n R hl h;unfold zcO at h;split at h;rename_i hd bits;obtain⟨rfl,b0,b1,hn,h⟩:=h;simp only[Vb,Va,Vc,Z9,u_dC,ZK,Z5,Z7,Z6,Vr,ZJ,VE,Vv,Vt,Vs,VF,Z8,ZV,Zj,YB,YC,Zi,YD,YE,Zl,Yi,Yj,oSub,oMul,oMod,Uo,oShl,oShr,oXor,oAnd,isNone,isInt,isBool,isTup,isStr,l_gI,ZC,YJ,YK,YL,Yd,Yk,Yq,Yy,Yx,Yl,Ym,Yz,Ys,Za,Zb,Yr,Zn,Yu,Yt,YQ,YR,YS,YN,YO,YU,YV,YX,YW,YY,Yc,Yw,Yv,Yb,YM,Zo,YT,Zc,Zm,UC,UI,UD,U2,UX,UY,UW,UH,UV,JX,JL,capV,aK,dH,aH,bX,cm,gq,eM,fc,b8,dR,e8,gP,gQ,gr,gx,eS,Nat.reduceAdd,Nat.reduceSub,kJ,true_and,and_true,aJ,if_true,if_false,ite_true,ite_false,fx,fG,iC,VS,YH];refine⟨by lia,by lia,by lia,λr r0 r1=>⟨by simp,by decide,by lia,λx hx=>?_⟩⟩;have Y:∃b:Int,x=b5 b/\0<=b:=by simp only[ax,aU,or_false]at hx;rcases hx with h|h|h|h|h|h|h|h <;> first|exact⟨_,h,by decide⟩|exact⟨_,h,by lia⟩
 obtain⟨b,rfl,bb⟩:=Y;simp only[Vb,Va,Vc,Z9,u_dC,ZK,Z5,Z7,Z6,Vr,ZJ,VE,Vv,Vt,Vs,VF,Z8,ZV,Zj,YB,YC,Zi,YD,YE,Zl,Yi,Yj,oSub,oMul,oMod,Uo,oShl,oShr,oXor,oAnd,isNone,isInt,isBool,isTup,isStr,l_gI,ZC,YJ,YK,YL,Yd,Yk,Yq,Yy,Yx,Yl,Ym,Yz,Ys,Za,Zb,Yr,Zn,Yu,Yt,YQ,YR,YS,YN,YO,YU,YV,YX,YW,YY,Yc,Yw,Yv,Yb,YM,Zo,YT,Zc,Zm,UC,UI,UD,U2,UX,UY,UW,UH,UV,JX,JL,capV,aK,dH,aH,bX,cm,gq,eM,fc,b8,dR,e8,gP,gQ,gr,gx,eS,Nat.reduceAdd,Nat.reduceSub,kJ,true_and,and_true,aJ,if_true,if_false,ite_true,ite_false,fx,fG,iC,YH];have key:∀m:Int,0<=m->m<=bits->(CPow 1 (bits - m)/\(0:Int)<1*2 ^ mu (bits - m)/\1*2 ^ mu (bits - m)<(2:Int) ^ 128/\n+1+1<=1000000000000/\∀r:Int,0<=r->r<1*2 ^ mu (bits - m)->CPow 1 m/\CMul r (1*2 ^ mu m)/\R (fX [b5 (r*(1*2 ^ mu m)),b5 m]) (n+1+1+1)):=by intro m m0 G;have I:(1:Int)*2 ^ mu (bits - m)=2 ^ mu (bits - m):=cT _;have S:(1:Int)*2 ^ mu m=2 ^ mu m:=cT _;rw[I,S];refine⟨cpow (by lia) (by lia),JT _,znB (by lia),by lia,λk J L=>⟨cpow m0 (by lia),fj ⟨by lia,?_⟩,?_⟩⟩;have:=zdO (k:=mu (bits - m)) (by lia);lia;exact h _ m ⟨m0,G,k,J,rfl,L⟩
 exact key (if b<bits then b else bits) (by split <;> lia) (by split <;> lia);exact eJ h
inductive WF:qD->Nat->qN->Prop
 | c {bits i h:Int} {n:Nat} {R:qN} (b0:1<=bits) (b1:bits<=64) (hn:n<=1000000000000 - 100) (B:IsBk bits i h) (h':∀j g:Int,IsBk bits j g->R (fX [b5 j,b5 g]) (n+7)):WF [HAND,b5 bits,fX [b5 i,b5 h]] n R
def zfq(Z:ZZ):Prop:=QF Z "_law_near" 65 ["_law_hand_here","_law_bits_here","_law_block_here"] 4 3 WF
theorem ziE(D:DQ Z "_law_near" 65 ["_law_hand_here","_law_bits_here","_law_block_here"]) (G:U4 Z) (C:zcC Z) (T:Txt Z.mg):zfq Z:=by
 refine' okN ["_law_hand_here","_law_bits_here","_law_block_here","_law_begin","_law_height","_law_size","_law_some"] D λv=>⟨_,(Jb (Qq (Jh 2) (JH rfl (Jj (dgv 3 (ndB rfl)) (Jj (dgv 4 (ndB rfl)) JG)))) (Jb (dsv 5 (ndB rfl) (Qd dli (dlv 4))) (Jb (Uv (i:=6) (ndB rfl) rfl (fj rfl) (J0 (dbv 2 (dbc (Jq (dbv 3 (dbc (Jw (zf0 rfl) zox T.max zf2 (Ji dli (Ji (dl (J6 (dlv 4) dli)) Jm Ve) zmX)) Ja))) (dbc (Jd C v (dbv 0 (dbv 1 Ja))) (dbc (Jd C v (dbv 0 (dbv 1 Ja))) Ja)))))) (Jb (Jp (Jl QQ gp_B (dlv 4) dli (Jf _)) (Jc (QX 6 (Jq (dbc (JC (dlv 3) (dl (zoT (dlv 5) dli))) (dbc (J6 (dlv 4) dli) Ja))))) Jt) (Jb (Jp (Jl (Qm v) Qk (dlv 4) (dlv 1) (Jf _)) (Jb (QX 6 (Jq (dbc (J6 (dlv 3) (dl (zoQ (dlv 3) (dl (ZP dli (dlv 5)))))) (dbc (JC (dlv 4) dli) Ja)))) (Jc (QX 6 (Jq (dbc (zrW (dlv 3) (dlv 5)) (dbv 4 Ja)))))) Jt) (Jb (Jp (Jl Qh Qf (dl (JC (dlv 3) (dl (ZP dli (dlv 5))))) (dl (Qd dli (dlv 1))) (Jf _)) (Jc (QX 6 (Jq (dbc (JC (dlv 3) (dlv 5)) (dbv 4 Ja))))) Jt) (UJ 6 (Jc (Je (Jd G v (dbv 0 (dbv 6 Ja)))))))))))),?_⟩;rintro ts n R hl @⟨bits,i,h,n,R,b0,b1,hn,B,hh⟩;have h0:=B.1;have J:=B.2.1;have o:∀j g:Int,IsBk bits j g->∀m,m=n+7->R (fX [b5 j,b5 g]) m:=λj g b m e=>e▸hh j g b;have I:IsBk bits i (if h - 1 > 0 then h - 1 else 0):=by
  split;exact B.low (by lia);by_cases z:h=0;subst z;exact B;have:h=1:=by lia
  subst this;exact B.low (by decide)
 wp_walk using zeP ?_ ?_ ?_ (λ_ _ _=>?_),VQ ?_ ?_ ?_ ?_;all_goals first
  | lia
  | exact cpow (by lia) (by lia)
  | exact zAw
  | exact zxG
  | (rw[QA];exact Int.mul_pos (by decide) (JT _))
  | (intro z;simp at z;done)
  | (simp only[eM,fc,aH,bX];decide)
  | skip
 all_goals
  simp only[eM,fc,List.forall_mem_cons,QA]at *;repeat' (with_reducible refine pE ?_ ?_)
 all_goals first
  | exact o _ _ B _ rfl
  | exact o _ _ I _ rfl
  | exact o _ _ (by assumption) _ rfl
  | exact o _ _ (B.up (by lia)) _ rfl
  | exact o _ _ (B.abt (by lia)) _ rfl
  | exact o _ _ (B.oth (by lia)) _ rfl
  | exact o _ _ (B.nxt (by assumption)) _ rfl
  | (intro x hx;simp at hx)
inductive zco:qD->Nat->qN->Prop
 | c {bits most:Int} {n:Nat} {R:qN} (b0:1<=bits) (b1:bits<=64) (m0:0<=most) (m1:most<=1000) (hn:n<=1000000000000 - 100000) (h:∀(bs:qB) (m:Nat),Bks bits bs->dP bs<=mu most->m<=n+1+12*mu most->R (tE (pD bs)) m):zco [HAND,b5 bits,b5 most] n R
def zdM(Z:ZZ):Prop:=QF Z "_law_blocks" 66 ["_law_hand_here","_law_bits_here","_law_most"] 5 3 zco
theorem zf5(D:DQ Z "_law_blocks" 66 ["_law_hand_here","_law_bits_here","_law_most"]) (Nf:U5 Z) (Nm:zcC Z) (Oa:zfq Z) (Ng:U4 Z) (T:Txt Z.mg):zdM Z:=by
 refine' okN ["_law_hand_here","_law_bits_here","_law_most","_law_found","_law_k","_law_block_here"] D λG=>⟨_,(Jb (Uv (i:=3) (ndB rfl) rfl (fj rfl) (J0 Ja)) (Jb (QE b9 rfl (Zs T.ran (Jd Nf G (dbv 0 (dbc (JC (dlv 2) dli) Ja)))) (dgv 4 (ndB rfl)) (Jb (dsv 5 (ndB rfl) (Jd Nm G (dbv 0 (dbv 1 Ja)))) (Jb (Jp (JV (YG (Jl (QH G) QB (Uu 3) (dl (Jz (J0 Ja))) (Jf _)) (Y7 (Jl QQ gp_B (dl (Jd Nf G (dbv 0 (dbc Jg Ja)))) dli (Jf _))))) (Jc (dsv 5 (ndB rfl) (Jd Oa G (dbv 0 (dbv 1 (dbc (zrZ Ng G (Ji (dlv 0) (Ji (Uu 3) Jm Jr) Jr)) Ja)))))) Jt) (Jc (QX 3 (Jh 5)))))) (UJ 3 (Jc (Je (Jh 3)))))),?_⟩;rintro ts n R hl @⟨bits,most,n,R,b0,b1,m0,m1,hn,hh⟩;wp_walk using Ut ?_ ?_ ?_ (λr r0 r1=>?_);lia;lia;lia;lia;lia;refine Uh (λk S m=>∃bs:List (Int×Int),∃I L,S=[ai (.val HAND),ai (.val (b5 bits)),ai (.val (b5 most)),ai (.own (pD bs)),I,L]/\Bks bits bs/\dP bs=k/\m<=n+1+12*k) ⟨[],_,_,rfl,(λb J=>nomatch J),rfl,by lia⟩ ?_ ?_
 ·rintro k t S m K et ⟨bs,I,L,rfl,B,U,hm⟩ hK;obtain⟨hk2,rfl⟩:=WQ et;have hk3:k<1000:=by lia
  have fin:∀(i h:Int) (Y x5:Option Cell) (N:Nat),IsBk bits i h->N<=m+12->K [ai (.val HAND),ai (.val (b5 bits)),ai (.val (b5 most)),ai (.own (pD bs++[fX [b5 i,b5 h]])),Y,x5] N:=λi h Y x5 N C hm' =>
   hK _ _ ⟨bs++[(i,h)],_,_,by rw[<- Y2],B.app C,by simp[U],by lia⟩
  wp_walk using zeP ?_ ?_ ?_ (λi h C=>?_),Ut ?_ ?_ ?_ (λq q0 q1=>?_),VQ ?_ ?_ ?_ ?_,WF.c ?_ ?_ ?_ ?_ (λj g C'=>?_);all_goals first
   | lia
   | exact znR
   | exact znS
   | (rw[JB];lia)
   | decide
   | (intro z
      have y:fF (tE (pD bs)) (tE [])=bA:=by assumption
      rw[ztO]at y;have y2:bs=[]:=by have:=congrArg dP z;rw[JB]at this;exact cf.mp this
      rw[y2]at y;cases y)
   | exact fin _ _ _ _ _ (by assumption) (by lia)
   | skip
  all_goals
   intro x hx;obtain⟨b,J,rfl⟩:=aR.mp hx;refine⟨zlT,?_⟩;have C0:=B b J;wp_walk using WF.c ?_ ?_ ?_ ?_ (λj g C'=>?_);all_goals first
    | lia
    | exact C0
    | (rw[JB];lia)
    | exact fin _ _ _ _ _ (by assumption) (by lia)
 ·rintro S m ⟨bs,I,L,rfl,B,U,hm⟩;have el:dP bs<=mu most:=by
   rw[U];unfold Qy;simp;lia
  wp_walk;exact hh bs m B el (by lia)
inductive zcM:qD->Nat->qN->Prop
 | c {bits most:Int} {n:Nat} {R:qN} (b0:1<=bits) (b1:bits<=64) (m0:0<=most) (m1:most<64) (hn:n<=1000000000000 - 100000) (h:∀(bs:qB) (m:Nat),Ptc bits bs->dP bs<=mu most->m<=n+1+12*mu most->R (fX (pD bs)) m):zcM [HAND,b5 bits,b5 most] n R
def zeH(Z:ZZ):Prop:=QF Z "_law_patch" 67 ["_law_hand_here","_law_bits_here","_law_most"] 6 3 zcM
theorem zhu(D:DQ Z "_law_patch" 67 ["_law_hand_here","_law_bits_here","_law_most"]) (NL:zdM Z) (T:Txt Z.mg):zeH Z:=by
 refine' okN ["_law_hand_here","_law_bits_here","_law_most","_law_found","_law_begin","_law_height"] D λU=>⟨_,(Jb (Uv (i:=3) (ndB rfl) rfl (fj rfl) (J0 Ja)) (Jb (QE b9 rfl (Vl (Jd NL U (dbv 0 (dbv 1 (dbv 2 Ja))))) (JH rfl (Jj (dgv 4 (ndB rfl)) (Jj (dgv 5 (ndB rfl)) JG))) (Jc (Jp (JM (dl (Jw (VL rfl) Z1 T.all VJ (Ji (dl (Jz (dnc ["_law_one"] [4,5] (zqX (Uu 3)) (λ_ _ _ _=>(dgv 0 (ndB rfl))) (λ_ _ _ _=>(zrY (J5 Qh Qf (dl (JC (dlv 1) (dl (Qd dli (dlv 2))))) (dl (Jk (dlv 0) dli)) (Jf _)) (Ue (J5 Qh Qf (dl (JC (dl (Jk (dlv 0) dli)) (dl (Qd dli (dl (Jk (dlv 0) dli)))))) (dlv 1) (Jf _)))))))) Jm QO)))) (Jc (QX 3 (Jq (dbv 4 (dbv 5 Ja))))) Jt))) (UJ 3 (Jc (Je (Qb QW QU T.tup J8 (Ji (dl (Jz (zjg U T.srt (dlv 3) Jr))) Jm UE))))))),?_⟩;rintro ts n R hl @⟨bits,most,n,R,b0,b1,m0,m1,hn,hh⟩;wp_walk using zco.c ?_ ?_ ?_ ?_ ?_ (λbs m B hlen hm=>?_);lia;lia;lia;lia;lia;refine Uh (λk S N=>N=m/\∃cs:List (Int×Int),∃J L,S=[ai (.val HAND),ai (.val (b5 bits)),ai (.val (b5 most)),ai (.own (pD cs)),J,L]/\Bks bits cs/\(cs.Pairwise λa b=>eB a<=b.1\/eB b<=a.1)/\dP cs<=k) ⟨rfl,[],_,_,rfl,(λb x=>nomatch x),mL,av _⟩ ?_ ?_
 ·rintro k t S N K et ⟨rfl,cs,J,L,rfl,C,u,hk⟩ hK;obtain⟨i,h,Y,rfl⟩:=Y1 et;have x:=B _ (aC Y);have h0:0<=h:=x.1;have h1:h<=bits:=x.2.1;have hk3:k<64:=by
   have:=(aw.mp Y).1;lia
  wp_walk;refine Qr (D:=prD) (λb=>k6 (decide (i+2 ^ mu h<=b.1)||decide (eB b<=i))) (by lia) ?_ ?_
  ·rintro⟨i',h'⟩ G K2 X2 hK2;have I:=C _ G;have h0':0<=h':=I.1;have h1':h'<=bits:=I.2.1;wp_walk;exact cpow (by lia) (by lia);have hc:i+2 ^ mu h<=i':=by rw[QA]at hc;exact hc
   rw[decide_eq_true hc]at hK2;exact hK2;exact cpow (by lia) (by lia);have hc:¬i+2 ^ mu h<=i':=by rw[QA]at hc;exact hc
   rw[decide_eq_false hc]at hK2;rw[QA];exact hK2
  ·wp_walk using Z4 ?_;rw[JB];lia;have al:∀b∈cs,i+2 ^ mu h<=b.1\/eB b<=i:=λb x=>by
    have:=cJ.mp hc b x;simpa using this
   refine hK _ _ ⟨rfl,cs++[(i,h)],_,_,by rw[<- Y2],C.app x,?_,by simp;lia⟩;rw[cU];refine⟨u,dU _ _,λa ha b G=>?_⟩;cases aE.mp G;rcases al a ha with z|z;exact xw z;exact fj z;exact hK _ _ ⟨rfl,cs,_,_,rfl,C,u,by lia⟩
 ·rintro S N ⟨rfl,cs,J,L,rfl,C,u,hk⟩;rw[JB]at hk;wp_walk;refine zwm b1 C u (by lia) λes P pm=>?_;wp_walk;exact hh es _ P (by have:=pm.length_eq;lia) (by lia)
def nmL(l:List Nat)(k c:Nat):Str:=⟨bm (l.take k++[c]++l.drop k)⟩
theorem zvW{u:List Nat}{k c:Nat}(C:dP u<=7)(v:∀x∈u,97<=x/\x<=122)(hc:97<=c/\c<=122):IsNm (nmL u k c):=by
 have e:(nmL u k c).cps.toList=u.take k++[c]++u.drop k:=rfl;have l:kN (nmL u k c)=dP u+1:=by rw[<- J1,e];simp;lia
 refine⟨by lia,by lia,λx hx=>?_⟩;rw[e]at hx;simp only[aW,aE]at hx;rcases hx with(hx|rfl)|hx;exact v x (o5 hx);exact hc;exact v x (List.mem_of_mem_drop hx)
inductive zcN:qD->Nat->qN->Prop
 | c {many:Int} {n:Nat} {R:qN} (m0:0<=many) (m1:many<=26) (hn:n<=1000000000000 - 1000) (h:∀nms:List Str,dP nms=mu many->(∀s∈nms,IsNm s)->R (tE (nms.map eN)) (n+5)):zcN [HAND,b5 many] n R
def zeI(Z:ZZ):Prop:=QF Z "_law_names" 68 ["_law_hand_here","_law_many"] 3 2 zcN
theorem zhv(D:DQ Z "_law_names" 68 ["_law_hand_here","_law_many"]) (J:U5 Z) (Y:U4 Z) (T:Txt Z.mg):zeI Z:=by
 refine' okN ["_law_hand_here","_law_many","_law_letters","_law_first","_law_step","_law_stem","_law_at"] D λC=>⟨_,(Jb (dsv 2 (ndB rfl) Qe) (Jb (Qq (Jq (dbc (Jd J C (dbv 0 (dbc Jg Ja))) (dbc (Jd Y C (dbv 0 (dbc (Jz (J0 (dbc Jg (dbc Jg (dbc Jg (dbc Jg (dbc Jg (dbc Jg Ja)))))))) Ja))) Ja))) (JH rfl (Jj (dgv 3 (ndB rfl)) (Jj (dgv 4 (ndB rfl)) JG)))) (Jb (dsv 5 (ndB rfl) (ztY (dl (Jk (dlv 2) (dl (Jd J C (dbv 0 (dbc Jg Ja)))))) (dl (Jd Y C (dbv 0 (dbc (Jz (J0 (dbc Jg (dbc Jg (dbc Jg (dbc Jg (dbc Jg Ja))))))) Ja)))))) (Jb (dsv 6 (ndB rfl) (Jd J C (dbv 0 (dbc (JC (dl (Jw Qi Qg T.len J4 (Ji (dlv 5) Jm Jr))) dli) Ja)))) (Jc (Je (Jz (dnc ["_law_k"] [5,2,6,3,4] (dil (Zs T.ran (Jh 1))) (λ_ _ _ _=>(dgv 0 (ndB rfl))) (λ_ _ _ _=>(JC (dl (JC (dl (WE (dlv 1) Vm (Vn (Jh 3)))) (dl (Jk (dlv 2) (dl (zoQ (dl (JC (dlv 4) (dl (ZP (dlv 5) (dlv 0))))) dli)))))) (dl (WE (dlv 1) (Vn (Jh 3)) Vm)))))))))))),?_⟩;intro ts n R hl h;obtain @⟨many,n,R,m0,m1,hn,h⟩:=h;wp_walk using Ut ?_ ?_ ?_ (λr r0 r1=>?_),VQ ?_ ?_ ?_ (λx hx=>?_);all_goals first|lia|exact cpow (by lia) (by lia)|(simp;done)|skip
 rename_i first f0 f1
 revert r r0 r1;intro l l0 l1;obtain⟨step,rfl,I⟩:∃s:Int,x=b5 s/\(s=1\/s=3\/s=5\/s=7\/s=9\/s=11):=by simp only[ax,aU,or_false]at hx;rcases hx with rfl|rfl|rfl|rfl|rfl|rfl <;> exact⟨_,rfl,by simp⟩
 refine zww (k:=mu l) (by decide) (by lia) (letters (by lia)) ?_;wp_walk using VQ ?_ ?_ ?_ (λy U=>?_);all_goals first|lia|exact cpow (by lia) (by lia)|(simp;done)|skip
 obtain⟨m,rfl,mm0,mm7⟩:∃m:Int,y=b5 m/\0<=m/\m<=7:=by simp only[ax,aU,or_false]at U;rcases U with rfl|rfl|rfl|rfl|rfl <;> exact⟨_,rfl,by decide,by decide⟩
 have v:(repS (⟨#[97+mu l]⟩:Str) m).cps.toList=cc (mu m) (97+mu l):=by
  rw[zp3];show(cc (mu m) [97+mu l]).flatten=_;generalize mu m=k;induction k with
  | zero=>rfl
  | succ k ih=>rw[cm,kA,ih,cm];rfl
 have u:kN (repS (⟨#[97+mu l]⟩:Str) m)=mu m:=by rw[<- J1,v,kK]
 wp_walk using Ut ?_ ?_ ?_ (λa a0 a1=>?_);lia;lia;show 1<=100;decide;rw[u];lia;rw[u];lia;rw[u];lia;lia;lia;lia;rw[u]at a1;generalize repS (⟨#[97+mu l]⟩:Str) m=NC at v u;have S:∀x∈w9 NC.cps,97<=x/\x<=122:=λx hx=>by rw[v]at hx;have:=List.eq_of_mem_replicate hx;lia
 refine Qr (cs:=c9 (mu many)) (D:=λ(i:Nat)=>b5 (0+(i:Int))) (λi=>eN (nmL (w9 NC.cps) (mu a) (97+mu ((first+step*(i:Int)) % 26)))) (by simp;lia) ?_ ?_
 ·intro i hi K2 X2 G;have hi:=hW.mp hi;have q0:0<=(first+step*(0+(i:Int))) % 26:=fi _ (by decide);have q1:(first+step*(0+(i:Int))) % 26<26:=eO _ (by decide);wp_walk using zww (k:=mu ((first+step*(0+(i:Int))) % 26)) (by decide) (by lia) (letters (by lia)) ?_;all_goals first
   | lia
   | exact fj ⟨by lia,by lia⟩
   | skip
  have l3:kN (cutS NC ao (ai a))<=7:=by rw[<- J1,zfY (k:=mu a) (by lia)];have:=J1 NC;simp;lia
  show(cutS NC ao (ai a)).length+1<=16777216;lia;have l3:kN (cutS NC ao (ai a))<=7:=by rw[<- J1,zfY (k:=mu a) (by lia)];have:=J1 NC;simp;lia
  have l4:kN (cutS NC (ai a) ao)<=7:=by rw[<- J1,zjk (k:=mu a) (by lia) (by lia),gz];have:=J1 NC;lia
  rw[<- J1,UR,a9,J1];show _+1+_<=_;lia;have e:(cutS NC ao (ai a)++(⟨#[97+mu ((first+step*(0+(i:Int))) % 26)]⟩:Str)++cutS NC (ai a) ao)=nmL (w9 NC.cps) (mu a) (97+mu ((first+step*(i:Int)) % 26)):=by apply L2.Str.ext';rw[UR,UR,zfY (k:=mu a) (by lia),zjk (k:=mu a) (by lia) (by lia),xM];rfl
  rw[e];exact G
 have e:((c9 (mu many)).map λ(i:Nat)=>eN (nmL (w9 NC.cps) (mu a) (97+mu ((first+step*(i:Int)) % 26))))=((c9 (mu many)).map λ(i:Nat)=>nmL (w9 NC.cps) (mu a) (97+mu ((first+step*(i:Int)) % 26))).map eN:=by rw[b6];rfl
 rw[e];have md:∀i:Nat,0<=(first+step*(i:Int)) % 26/\(first+step*(i:Int)) % 26<26:=λi=>⟨fi _ (by decide),eO _ (by decide)⟩;refine h _ (by simp) λs hs=>?_;obtain⟨i,hi,rfl⟩:=aR.mp hs;have:=md i;have:=J1 NC;exact zvW (by lia) S (by lia)
theorem zts{bits b g a:Int}(ok:IsBk bits b g):(a / 2 ^ mu g=b / 2 ^ mu g)↔inB (b,g) a:=by obtain⟨x,g1,k,C,rfl,_⟩:=ok;have p:=JT (mu g);rw[iI _ (by lia)];have e:=oF a (2 ^ mu g);have u:=fi a (show(2:Int) ^ mu g≠0 by lia);have G:=eO a p;show _↔k*2 ^ mu g<=a/\a<k*2 ^ mu g+2 ^ mu g;constructor;intro h;rw[h,b7]at e;lia;rintro⟨o,l⟩;have v:k<=a / 2 ^ mu g:=(nM p).mpr o;have l2:a / 2 ^ mu g<k+1:=(nN p).mpr (by rw[cS,cT];exact l);lia
theorem zsk{bits:Int}{rs:RL}{a s s':Int}(A:Rls bits rs)(h:SgOf rs a s)(h':SgOf rs a s'):s=s':=by
 rcases h with⟨rfl,h⟩|⟨r,x,hi,rfl,R⟩;rcases h' with⟨rfl,_⟩|⟨u,l,o,_⟩;rfl;exact absurd o (h u l);rcases h' with⟨_,h'⟩|⟨u,l,o,rfl,C⟩;exact absurd hi (h' r x);have J:r.1.2=u.1.2:=t4 (R u l o) (C r x hi);have key:∀q∈rs,inB q.1 a->q.1.1=a / 2 ^ mu q.1.2*2 ^ mu q.1.2:=λq N hi=>by have ok:=(A.1 q N).1;rw[(zts ok).mpr hi];obtain⟨_,_,k,_,e,_⟩:=ok;have:=JT (mu q.1.2);rw[e,iI _ (by lia)]
 have L:r.1.1=u.1.1:=by rw[key r x hi,key u l o,J]
 have e:r.1=u.1:=dD L J;obtain⟨i,v,rfl⟩:=bc x;obtain⟨j,G,rfl⟩:=bc l;have I:∀b:Int×Int,¬bkLt b b:=λb z=>by unfold bkLt at z;lia
 rcases cC i j with z|rfl|z;have:=aM.mp A.2 i j v G z;rw[e]at this;exact absurd this (I _);rfl;have:=aM.mp A.2 j i G v z;rw[e]at this;exact absurd this (I _)
theorem ziN{bits:Int}{ps qs:BL}{Z:Int->Prop}(l:0<=bits)(C:CanP Z ps)(w:∀x,Z x->0<=x/\x<2 ^ mu bits)(D:CanP (λx=>0<=x/\x<2 ^ mu bits/\¬Z x) qs):zbp bits qs<=zbp bits ps+1/\zbp bits ps<=zbp bits qs+1/\0<=zbp bits ps/\0<=zbp bits qs:=by rw[Wh l C w,Wh l D (λx h=>⟨h.1,h.2.1⟩)];have e:kst (λx=>0<=x/\x<2 ^ mu bits/\¬Z x) (mu bits) 0=kst (λx=>¬Z x) (mu bits) 0:=zfG _ _ λx o u=>⟨λz=>z.2.2,λz=>⟨o,by lia,z⟩⟩;rw[e,zj4];have:=zqy (Z:=Z) (mu bits) 0;have:=zj3 (Z:=Z) (mu bits) 0;dsimp only;lia
theorem zm1{i:Int}(a0:-10 ^ 30<i)(a1:i<10 ^ 30):Shd (b5 i):=(zuE (i:=i) (by lia)).shd (by decide) (by decide)
theorem zyP{bits:Int}{rs:RL}{a s:Int}{p:Prop}[Decidable p](A:Rls bits rs)(h:SgOf rs a s)(e:SgX rs a 1↔p):s=if p then 1 else 0:=by
 have o:s=0\/s=1:=by rcases h with⟨rfl,_⟩|⟨r,u,_,rfl,_⟩;exact fj rfl;have:=A.1 r u;lia
 by_cases hp:p;rw[if_pos hp];have:SgOf rs a 1:=e.mpr hp;exact zsk A h this;rw[if_neg hp];rcases o with rfl|rfl;rfl;exact absurd (e.mp h) hp
inductive U3:qD->Nat->qN->Prop
 | c {bits:Int} {bs:BL} {n:Nat} {R:qN} (b0:1<=bits) (b1:bits<=64) (B:Bks bits bs) (C:CanP (λx=>mB x bs) bs) (l:dP bs<=7000) (hm:zbp bits bs<=31) (ho:∀qs,CanP (λx=>0<=x/\x<2 ^ mu bits/\¬mB x bs) qs->dP qs<=130*(dP bs+1)->dP qs<=7000) (hn:n<=1000000) (h:∀m,m<=n+5->R (k6 bj) m):U3 [HAND,b5 bits,fX (pD bs)] n R
def zeG(Z:ZZ):Prop:=QF Z "_law_right" 69 ["_law_hand_here","_law_bits_here","_law_patch_here"] 10 3 U3
theorem zht(D:DQ Z "_law_right" 69 ["_law_hand_here","_law_bits_here","_law_patch_here"]) (NH:zfk Z) (NM:zdK Z) (NI:zdg Z) (ND:zeC Z) (Nf:U5 Z) (NV:zeA Z) (Nt:zdo Z) (Og:zgv Z) (Nw:zey Z) (NW:zez Z) (Os:zil Z) (T:Txt Z.mg):zeG Z:=by
 refine' okN ["_law_hand_here","_law_bits_here","_law_patch_here","_law_rules","_law_many","_law_others","_law_paper","_law_turn","_law_address","_law_held"] D λG=>⟨_,(Jb (zxv (i:=3) (j:=4) rfl (ndB rfl) rfl rfl (by decide) rfl rfl (dbc (Jd NI G (dbv 1 (dbv 2 Ja))) (dbc (Jd ND G (dbv 1 (dbv 2 Ja))) Ja))) (Jb (dsv 5 (ndB rfl) (Jd NH G (dbv 1 (dbv 2 Ja)))) (Jb (Jp (JV (Qc (Jl Zd Y8 (dl (Jd Nt G (dbv 1 (dbv 3 Ja)))) (dl JR) (Jf _)) (Qc (Jl (QH G) QB (dl (Jw Qi Qg T.len J4 (Ji (dlv 3) Jm Jr))) (dlv 4) (Jf _)) (Qx (Jl (QH G) QB (dl (Jd Og G (dbv 1 (dbv 3 Ja)))) (dlv 2) (Jf _)))))) (Jc (Je JR)) Jt) (Jb (Jp (JV (Qc (Jl QQ gp_B (dlv 4) (dl (Jw Qi Qg T.len J4 (Ji (dlv 2) Jm Jr))) (Jf _)) (Qc (Jl QQ gp_B (dlv 4) (dl (JC (dl (Jw Qi Qg T.len J4 (Ji (dlv 5) Jm Jr))) dli)) (Jf _)) (Qx (Jl QQ gp_B (dl (Jw zq4 zxh T.abs zpj (Ji (dl (J6 (dlv 4) (dl (Jd ND G (dbv 1 (dbv 5 Ja)))))) Jm Ve))) dli (Jf _)))))) (Jc (Je JR)) Jt) (Jb (dsv 6 (ndB rfl) (Jd NM G (dbv 1 (dbv 2 Ja)))) (Jb (Jp (JV (Qc (Jl Zd Y8 (dl (Jd Nw G (dbv 1 (dbv 2 (dbv 4 (dbv 6 Ja)))))) (dl JR) (Jf _)) (Qx (Jl Zd Y8 (dl (Jd Nw G (dbv 1 (dbv 2 (dbc (JC (dlv 4) dli) (dbv 6 Ja)))))) (dl JR) (Jf _))))) (Jc (Je JR)) Jt) (Jb (Jp (JV (YG (Jl QQ gp_B (dlv 4) dli (Jf _)) (Y7 (Jl Zd Y8 (dl (Jd Nw G (dbv 1 (dbv 2 (dbc (J6 (dlv 4) dli) (dbv 6 Ja)))))) (dl JR) (Jf _))))) (Jc (Je JR)) Jt) (Jb (QE b9 rfl (Zs T.ran Jg) (dgv 7 (ndB rfl)) (Jb (dsv 8 (ndB rfl) (Jd Nf G (dbv 0 (dbc (Qd dli (dlv 1)) Ja)))) (Jb (Y6 (Zg (i:=9) (ndB rfl) rfl (fj rfl) (own:=["_law_one"]) (capt:=[8]) rfl (Jv.of rfl) (dil (JZ (Jh 2))) (λ_ _ _ _=>(dgv 0 (ndB rfl))) (by decide) (λ_ _ _ _=>(Vo (zlc Qh Qf (Qm G) Qk (dl (Jk (dlv 0) dli)) (dlv 1) (dl (JC (dl (Jk (dlv 0) dli)) (dl (Qd dli (dl (Jk (dlv 0) dli))))))))) (λ_ _ _ _=>(Jh 0)))) (Jc (Jp (Jl (QH G) QB (dl (Jw (zg7 G) zow T.rep zg8 (Ji (dl (Jd Os G (dbv 3 (dbv 8 Ja)))) Jm UE))) (dl (Jw (zg7 G) zow T.rep zg8 (Ji (dl (Qb zf1 zrN T.int boot_int (Ji (dl (J5 (QH G) QB (dlv 9) (dl (Jz (J0 Ja))) (Jf _))) Jm zrk))) Jm UE))) (Jf _)) (Jc (Je JR)) Jt))))) (Jc (Je (J5 (Ux G) Uq (dl (Jd NV G (dbv 1 (dbc (Jd NW G (dbv 1 (dbv 3 Ja))) Ja)))) (dlv 3) (Jf _)))))))))))),?_⟩;rintro ts n R hl @⟨bits,bs,n,R,b0,b1,B,C,l7,hm,ho,hn,h⟩;have J:0<=bits:=by lia
 have l:dP bs<=10000:=by lia
 have w:∀x,mB x bs->0<=x/\x<2 ^ mu bits:=λx hx=>Q7 J B hx;have P:Ptc bits bs:=C.ptc J w;have l':SrtL rkB bs:=zmY b1 P (by lia);have e1:∀Y,CanP (λx=>mB x bs) Y->Y=bs:=λY U=>U.uniq C λ_=>aQ;have mr:∀{n:Nat} {R:qN},R (b5 (zbp bits bs)) n->Zu [b5 bits,fX (pD bs)] n R:=λ{n R} z=>Zu.c J b1 B l' l λps U=>by rw[e1 ps U];exact z
 have fr:∀{n:Nat} {R:qN},(∀rs:RL,Rls bits rs->(dP rs:Int)=zbp bits bs->(∀x,0<=x->x<2 ^ mu bits->(SgX rs x 1↔mB x bs))->R (fX (L2.rD rs)) n)->WS [b5 bits,fX (pD bs)] n R:=λ{n R} z=>WS.c J b1 B l' l (λps U=>by rw[e1 ps U];lia) λps rs U Q e sg=>by rw[e1 ps U]at e;exact z rs Q e sg
 wp_walk using fr (λrs Q e2 sg=>?_),mr ?_,Wy.c b0 b1 B l' (λqs D lq=>?_);have lq':=ho qs D lq;have lr:dP rs<=31:=by lia
 have Pq:Ptc bits qs:=D.ptc J λx h=>⟨h.1,h.2.1⟩;have ca:∀{L:qN} {N:Nat},L (k6 bj) N->Zq [b5 bits,fX (L2.rD rs)] N L:=λG=>Zq.c J b1 Q (by lia) G;have cp:∀{L:qN} {N:Nat},L (fX (pD bs)) N->WM [b5 bits,fX (L2.rD rs)] N L:=λG=>WM.c J b1 Q lr λps4 C4 l4=>by
  have:ps4=bs:=C4.uniq C λx=>by by_cases z:0<=x/\x<2 ^ mu bits;exact sg x z.1 z.2;exact⟨λy=>absurd (zsh J Q x y) z,λy=>absurd (w x y) z⟩
  rw[this];exact G
 have m1:zbp bits bs<=(dP bs:Int):=Vp J C w P λx=>aQ;have nr:=ziN J C w D;have m2:zbp bits qs<=(dP qs:Int):=Vp J (D.congr λx=>(D.mem x).symm) (λx hx=>by have:=(D.mem x).mp hx;exact⟨this.1,this.2.1⟩) Pq λx=>aQ;have mo:∀{n:Nat} {R:qN},R (b5 (zbp bits qs)) n->Zu [b5 bits,fX (pD qs)] n R:=λ{n R} z=>Zu.c J b1 Pq.1 (zmY b1 Pq (by lia)) (by lia) λps U=>by rw[U.uniq D D.mem];exact z
 wp_walk using ca ?_,cp ?_,mo ?_,zch.c J b1 B l' l (λI qs3 C3 lp3 Q3 lq3=>?_);all_goals first
  | exact znQ
  | (exfalso;rw[zoD znQ]at hc;cases hc;done)
  | exact absurd (by simpa[L2.rD] using e2) hc
  | (exfalso;rw[JB]at hc;lia)
  | (exfalso;revert hc;split <;> lia)
  | skip
 have u3:=e1 I C3;subst u3;have s1:∀{m:Int} {L:qN} {N:Nat},m<=zbp bits I->L (k6 bj) N->Zv [b5 bits,fX (pD I),b5 m,fX (qs3.map rwD)] N L:=λhm G=>Zv.c J b1 B l' l C Q3 (by lia) (by rw[decide_eq_true hm];exact G);have s2:∀{L:qN} {N:Nat},L (k6 bA) N->Zv [b5 bits,fX (pD I),b5 (zbp bits I+1),fX (qs3.map rwD)] N L:=λG=>Zv.c J b1 B l' l C Q3 (by lia) (by rw[decide_eq_false (by lia)];exact G);wp_walk using s1 (by lia) ?_,s2 ?_;all_goals first
  | (decide;done)
  | skip
 all_goals
  refine zxm 7 8 9 (λj _ _ _ m'=>m'<=n+j) (by lia) ?_ ?_
  ·rintro j t _ _ _ m' K RT BK ej S hK hRT hBK;obtain⟨hj,rfl⟩:=WQ ej;have hj:j<5:=hj;have tp:=JT (mu bits);have p64:=zdO (k:=mu bits) (by lia);wp_walk using Ut ?_ ?_ ?_ (λa a0 a1=>?_);all_goals first
    | lia
    | exact cpow (by lia) (by lia)
    | skip
   rw[QA]at a1;refine VR (cs:=I) (D:=λb=>fX [b5 b.1,b5 b.2]) (λb=>decide (b.1<=a)&&decide (a<b.1+2 ^ mu b.2)) (λb=>fX [b5 b.1,b5 b.2]) (by lia) ?_ ?_
   ·intro b hb K2 X2 hK2 hX2;have Bp:=B b hb;have p0:=Bp.1;have p1:=Bp.2.1;wp_walk;all_goals first|exact cpow (by lia) (by lia)|skip
    all_goals simp only[QA]at *
    rename_i y;exact hK2 (by rw[decide_eq_true y,decide_eq_true hc];rfl);exact hX2 (by rw[decide_eq_false hc,oW]);exact hX2 (by rw[decide_eq_false hc,hY])
   ·have fe:(I.filter λb=>decide (b.1<=a)&&decide (a<b.1+2 ^ mu b.2))≠[]↔mB a I:=by
     rw[ne_eq,List.filter_eq_nil_iff];constructor;intro z;refine bg λy=>z λb hb w=>y ⟨b,hb,?_⟩;rw[bT,decide_eq_true_iff,decide_eq_true_iff]at w;exact w;rintro⟨b,hb,w⟩ z;refine z b hb ?_;rw[bT,decide_eq_true_iff,decide_eq_true_iff];exact w
    have vs:∀s,SgOf rs a s->s=if (!(tE (oM (λb:Int×Int=>fX [b5 b.1,b5 b.2]) (I.filter λb=>decide (b.1<=a)&&decide (a<b.1+2 ^ mu b.2)))).eqv (tE []))=bj then 1 else 0:=λs hs=>by rw[zqO];refine zyP Q hs ((sg a a0 a1).trans (fe.symm.trans ?_));cases(I.filter λb=>decide (b.1<=a)&&decide (a<b.1+2 ^ mu b.2)) <;> simp
    have sv:∀s,SgOf rs a s->s=0\/s=1:=λs hs=>by have:=vs s hs;split at this;exact xw this;exact fj this
    wp_walk using zfR.c J b1 Q (by lia) (λs hs=>?_);all_goals first
     | exact hK _ _ _ _ (by lia)
     | exact znS
     | exact znR
     | (split <;> exact zm1 (by decide) (by decide))
     | (rcases sv s hs with rfl|rfl <;> exact zm1 (by decide) (by decide))
     | (rw[<- vs s hs]at hc;exact absurd rfl hc)
  ·rintro _ _ _ m' S;rw[zgu]at S;have S:m'<=n+5:=S;wp_walk using zcI.c J b1 Q (by lia) ?_,zcJ.c J b1 Q (by lia) ?_;all_goals first
    | exact zrB.2
    | (rw[zoD zrB.2];exact h _ (by lia))
theorem zz6{a b:Int}{c:Prop}[Decidable c]{R:ae->Prop}(h:∀z:Int,z=a\/z=b->R (b5 z)):oIx (tE [b5 a,b5 b]) (b5 (if decide c=bj then 1 else 0)) R:=by by_cases hc:c;rw[if_pos (decide_eq_true hc)];exact zrG (h b (xw rfl));rw[if_neg (by simp[hc])];exact zok (h a (fj rfl))
theorem zrp:∀{l:BL},(l.Pairwise λa b=>eB a<=b.1)->∃rs:List L2.Run,NR rs/\(∀x,mR x rs↔mB x l)/\∀r∈rs,∃c∈l,c.1<=r.1
 | [],_=>⟨[],⟨λr u=>(nomatch u),mL⟩,λx=>⟨λz=>absurd z QT,λz=>absurd z ZW⟩,λr u=>nomatch u⟩
 | b::l,pw=>by
  obtain⟨rs,G,e,lo⟩:=zrp (ba.mp pw).2;have J:b.1<eB b:=by have:=JT (mu b.2);unfold eB;lia
  have L:∀r∈rs,eB b<=r.1:=λr u=>by obtain⟨c,hc,h⟩:=lo r u;have:=(ba.mp pw).1 c hc;lia
  have I:∀x,mB x (b::l)↔(b.1<=x/\x<eB b)\/mB x l:=λx=>by rw[show b::l=[b]++l from rfl,Wb];exact⟨λz=>ii z (λ⟨c,hc,h⟩=>fj (by cases aE.mp hc;exact h)) xw,λz=>ii z (λh=>fj ⟨b,hH _,h⟩) xw⟩
  cases rs with
  | nil=>exact⟨[(b.1,eB b)],⟨λr u=>by cases aE.mp u;exact J,dU ..⟩,λx=>by rw[JQ,I,e],λr u=>by cases aE.mp u;exact⟨b,hH _,aN _⟩⟩
  | cons r rs =>have N:=G.1 r (hH _);have p1:=ba.mp G.2;have R:=L r (hH _);by_cases q:r.1=eB b;refine⟨(b.1,r.2)::rs,⟨λs o=>?_,ba.mpr ⟨λs o=>p1.1 s o,p1.2⟩⟩,λx=>?_,λs o=>?_⟩;rcases ax.mp o with rfl|o;show b.1<r.2;lia;exact G.1 s (io _ o);have ex:=e x;rw[JQ]at ex;rw[JQ,I,<- ex];constructor;rintro(⟨C,v⟩|h);have C:b.1<=x:=C;have v:x<r.2:=v;by_cases y:x<eB b;exact fj ⟨C,y⟩;exact xw (fj ⟨by lia,v⟩);exact xw (xw h);rintro(⟨C,v⟩|⟨C,v⟩|h);exact fj ⟨C,by show x<r.2;lia⟩;exact fj ⟨by show b.1<=x;lia,v⟩;exact xw h;rcases ax.mp o with rfl|o;exact⟨b,hH _,aN _⟩;obtain⟨c,hc,h⟩:=lo s (io _ o);exact⟨c,io _ hc,h⟩;refine⟨(b.1,eB b)::r::rs,⟨λs o=>?_,ba.mpr ⟨λs o=>?_,G.2⟩⟩,λx=>by rw[JQ,I,e],λs o=>?_⟩;rcases ax.mp o with rfl|o;exact J;exact G.1 s o;show eB b<s.1;rcases ax.mp o with rfl|o;lia;have:=p1.1 s o;lia;rcases ax.mp o with rfl|o;exact⟨b,hH _,aN _⟩;obtain⟨c,hc,h⟩:=lo s o;exact⟨c,io _ hc,h⟩
theorem zxH{l:BL}(pw:l.Pairwise λa b=>eB a<=b.1):∃ps,CanP (λx=>mB x l) ps:=by
 obtain⟨rs,o,e,_⟩:=zrp pw;have:∀rs:List L2.Run,(∀r∈rs,r.1<r.2)->∃ps,PatS rs ps:=by
  intro rs;induction rs with
  | nil=>exact λ_=>⟨[],rfl⟩
  | cons r rs v =>intro h;obtain⟨b,C⟩:=v λs I=>h s (io _ I);obtain⟨a,G⟩:=zjA _ r.1 r.2 (av _) (by have:=h r (hH _);lia);exact⟨a++b,a,b,rfl,G,C⟩
 obtain⟨ps,u⟩:=this rs o.1;exact⟨ps,rs,o,e,u⟩
theorem zvS{f:aq}{fd:dO}(D:Def Z.K Z.mg "law" (top 70) ["_law_script"] f fd) (Ob:zfr Z) (Oc:zfs Z) (NY:zeI Z) (Oi:zkK Z) (Oh:zgz Z) (Nf:U5 Z) (NZ:zeG Z) (Ng:U4 Z) (N0:zeH Z) (T:Txt Z.mg):FnOk Z.P Z.w Z.K Z.mg Z.base CX0 11 f fd ["_law_script"] (spD Z.K 1 zxi):=by
 refine D.okD (fnS (N:=["_law_script","_law_k","_law_hand_here","_law_bits_here","_law_names_here","_law_outs","_law_deal","_law_patch_here"]) (by decide +kernel)) rfl λcdv A outer s H E L=>?_;refine'⟨_,(Jb (QE b9 rfl (Zs T.ran (Jw (zf0 rfl) zox T.max zf2 (Ji dli (Ji (dl (Jw (VM rfl) Z3 T.min Zr (Ji dli (Ji (dl (Jw Qi Qg T.len J4 (Ji (dlv 0) Jm Jr))) Jm UE) zmX))) Jm UE) zmX))) (dgv 1 (ndB rfl)) (zoG (i:=2) (j:=1) Ob L (ndB rfl) rfl (xw rfl) (Jb (dsv 3 (ndB rfl) (Jd Oc L (dbv 2 Ja))) (Jb (dsv 4 (ndB rfl) (Jd NY L (dbv 2 (dbc (JC dli (dl (Jd Nf L (dbv 2 (dbc Jg Ja))))) Ja)))) (Jb (dsv 5 (ndB rfl) (Qb QW QU T.tup J8 (Ji (dl (Jz (dnc ["_law_block_here"] [2,4] (dil (JZ (Jd N0 L (dbv 2 (dbv 3 (dbc (Jk (dl (Jz (J0 (dbc Jg (dbc Jg Ja))))) (dl (Qb zf1 zrN T.int boot_int (Ji (dl (J5 QQ gp_B (dlv 3) dli (Jf _))) Jm zrk)))) Ja)))))) (λ_ _ _ _=>(dgv 0 (ndB rfl))) (λ_ _ _ _=>(Jq (dbv 0 (dbc (Jd Ng L (dbv 1 (dbv 2 Ja))) Ja))))))) Jm QO))) (Jb (dsv 6 (ndB rfl) (Jq (dbv 3 (dbv 5 (dbc (Jq Ja) Ja))))) (Jc (QE b9 rfl (Vl (Jz (J0 (dbc (Jd Oi L (dbv 6 (dbc (Jk (dlv 4) dli) Ja))) (dbc (Jd Oi L (dbv 6 (dbc (Jk (dlv 4) (dl (Y4 Jg))) Ja))) (dbc (Jd Oh L (dbv 6 (dbc QM Ja))) Ja)))))) (dgv 7 (ndB rfl)) (Jc (Jp (J7 (JM (dl (Jd NZ L (dbv 2 (dbv 3 (dbv 7 Ja))))))) (Jc (Je JR)) Jt)))))))))) (Jc (Je JR))),?_⟩;intro ts n R hl hh;obtain⟨ns,rfl,hl63,hh⟩:=hh;wp_walk;split <;> (try split) <;> lia;split <;> (try split) <;> lia;refine Uh (λ_ ρ m=>∃a1 a2 a3 a4 a5 a6 a7,ρ=[ai (.val (SCR ns)),a1,a2,a3,a4,a5,a6,a7]/\m=n) ⟨_,_,_,_,_,_,_,rfl,rfl⟩ ?_ ?_
 ·rintro k t ρ m K et ⟨a1,a2,a3,a4,a5,a6,a7,rfl,rfl⟩ hK;obtain⟨hk,rfl⟩:=WQ et;have hk8:k<8:=by
   revert hk;split <;> (try split) <;> lia
  with_reducible refine Stp.go ?_
  refine zqG hl63 (by lia) (by lia) λNX RT BK CT hNX hRT hBK hCT=>?_;wp_walk using zkn ?_ (λbits b0 b1=>?_),Ut ?_ ?_ ?_ (λr r0 r1=>?_),zcN.c ?_ ?_ ?_ (λG nl nk=>?_),zz6 (λz hz=>?_);all_goals first|lia|skip
  have z0:0<=z:=by lia
  have z1:z<=12:=by lia
  rw[show(G.map eN)=nD G from rfl];have ndl:G≠[]:=λz=>by rw[z]at nl;simp at nl;lia
  have nl':dP G<=9:=by lia
  have pick:∀{n:Nat} {Q:qN},n<=1000000000000->(∀s∈G,Q (eN s) (n+1))->VS [HAND,tE (nD G)] n Q:=λ{n Q} J hq=>VQ (by intro z;cases G with|nil=>exact ndl rfl|cons a b=>cases z) (by simp[nD];lia) J λx hx=>by obtain⟨s,hs,rfl⟩:=aR.mp hx;exact hq s hs
  have ix0:∀{R:ae->Prop},(∀s∈G,R (eN s))->oIx (tE (nD G)) (b5 0) R:=λ{R} h=>by
   cases e:G with
   | nil=>exact absurd e ndl
   | cons s l=>exact zok (h s (by rw[e];exact hH _))
  have ixL:∀{R:ae->Prop},(∀s∈G,R (eN s))->oIx (tE (nD G)) (b5 (-1)) R:=λ{R} h=>by rcases oC G with e|⟨l,s,e⟩;exact absurd e ndl;rw[e,nD,oE,e9];exact zkZ (h s (by rw[e];simp))
  wp_walk using zcM.c b0 b1 z0 (by lia) ?_ (λbs m2 P lb hm2=>?_);lia;have lb:dP bs<=12:=by lia
  refine zo4 (λj acc S=>S=m2+j/\∃os:List ((Int×Int)×Str),acc=oD os/\os.map (·.1)=bs.take j/\∀p∈os,p.2∈G) ⟨rfl,[],rfl,by simp,λp I=>nomatch I⟩ ?_ ?_
  ·rintro j x acc S K2 ej ⟨rfl,os,rfl,Y,e2⟩ hK2;obtain⟨i,g,eb,rfl⟩:=Y1 ej;have jl:=(aw.mp eb).1;have lo:dP os=j:=by
    have:=congrArg dP Y;simp at this;lia
   wp_walk using pick ?_ (λs hs=>?_);lia;rw[zvT];lia;refine hK2 _ _ ⟨by lia,os++[((i,g),s)],by simp[oD],?_,?_⟩;rw[e9,Y,fH,eb];rfl;intro p I;rcases aW.mp I with z|z;exact e2 p z;cases aE.mp z;exact hs
  rintro acc S ⟨rfl,os,rfl,Y,e2⟩;rw[JB,cZ]at Y;rw[JB];have lo:dP os=dP bs:=by rw[<- aI (f:=(·.1)),Y]
  have D:Dl (bits,os,[]):=⟨b0,b1,⟨by rw[Y];exact P,λp I=>nk _ (e2 p I)⟩,⟨⟨λb hb=>(nomatch hb),mL⟩,λp I=>(nomatch I)⟩,λp _ q hq=>(nomatch hq)⟩;have ot:∀{t:ae} {s:Str} {n:Nat} {R:qN},t=fX [b5 bits,fX (oD os),fX []]->s∈G->(∀qs,CanP (λx=>mB x (ofName os (eN s))) qs->dP qs<=12->R (fX (pD qs)) n)->Wr [t,eN s] n R:=λ{t s n R} et hs z=>by subst et;exact Wr.c D (xw ⟨s,rfl,nk s hs⟩) (by show dP os<64;lia) λqs C lq=>z qs C (by have:dP qs<=dP os:=lq;lia)
  have ff:∀{t:ae} {n:Nat} {R:qN},t=fX [b5 bits,fX (oD os),fX []]->(∀qs,CanP (Free (bits,os,[]) oK) qs->dP qs<=7000->R (fX (pD qs)) n)->Wv [t,oK] n R:=λ{t n R} et z=>by subst et;exact Wv.c D (fj rfl) (by show dP os+0<_;lia) λqs C lq=>z qs C (by have:dP qs<=130*(dP os+0+1):=lq;lia)
  wp_walk using ix0 (λs0 hs0=>?_),ot rfl hs0 (λq0 C0 l0=>?_),ixL (λs1 hs1=>?_),ot rfl hs1 (λq1 C1 l1=>?_),ff rfl (λfs F lf=>?_);have U:0<=bits:=by lia
  have cond:∀{Z:Int->Prop} {qs:BL} {n:Nat} {R:qN},CanP Z qs->(∀x,Z x->0<=x/\x<2 ^ mu bits)->dP qs<=7000->zbp bits qs<=31->(∀rs,CanP (λx=>0<=x/\x<2 ^ mu bits/\¬Z x) rs->dP rs<=130*(dP qs+1)->dP rs<=7000)->n<=1000000->(∀m,m<=n+5->R (k6 bj) m)->U3 [HAND,b5 bits,fX (pD qs)] n R:=λ{Z qs n R} C w l hm hc J h =>
   U3.c b0 b1 (C.ptc U w).1 (C.congr λx=>(C.mem x).symm) l hm (λrs E lr=>hc rs (E.congr λx=>by rw[C.mem]) lr) J h
  have inr:∀x,mB x bs->0<=x/\x<2 ^ mu bits:=λx hx=>Q7 U P.1 hx;have ofr:∀nm x,mB x (ofName os nm)->0<=x/\x<2 ^ mu bits:=λnm x ⟨b,hb,hx⟩=>by obtain⟨p,I,rfl⟩:=aR.mp hb;exact inr x ⟨p.1,by rw[<- Y];exact aR.mpr ⟨p,(cW.mp I).1,rfl⟩,hx⟩
  have oc:∀{nm:ae} {qs:BL} {n:Nat} {R:qN},CanP (λx=>mB x (ofName os nm)) qs->dP qs<=12->n<=1000000->(∀m,m<=n+5->R (k6 bj) m)->U3 [HAND,b5 bits,fX (pD qs)] n R:=λ{nm qs n R} C l J h =>
   cond C (ofr nm) (by lia) (by have:=Vp U C (ofr nm) (C.ptc U (ofr nm)) C.mem;lia) (λrs E lr=>by lia) J h
  have fr:∀x,Free (bits,os,[]) oK x↔(0<=x/\x<2 ^ mu bits/\¬mB x bs):=λx=>by show(0<=x/\x<2 ^ mu bits/\¬mB x (os.map (·.1))/\¬mB x (QG (bits,os,[]) oK))↔_;rw[Y];constructor;exact λh=>⟨h.1,h.2.1,h.2.2.1⟩;refine λh=>⟨h.1,h.2.1,h.2.2,λ⟨b,hb,_⟩=>?_⟩;obtain⟨p,I,_⟩:=aR.mp hb;cases(cW.mp I).1
  have fw:∀x,Free (bits,os,[]) oK x->0<=x/\x<2 ^ mu bits:=λx hx=>by have:=(fr x).mp hx;exact⟨this.1,this.2.1⟩
  have com:∀x,(0<=x/\x<2 ^ mu bits/\¬Free (bits,os,[]) oK x)↔mB x bs:=λx=>by rw[fr];constructor;exact λh=>bg λy=>h.2.2 ⟨h.1,h.2.1,y⟩;exact λh=>⟨(inr x h).1,(inr x h).2,λy=>y.2.2 h⟩
  obtain⟨p1,E1⟩:=zxH P.2;have le1:=CanP.le U P.1 E1;have ml:=Vp U E1 inr (E1.ptc U inr) E1.mem;have mr:=ziN U F fw (E1.congr λx=>(com x).symm);have O0:∀{n:Nat} {R:qN},n<=1000000->(∀m,m<=n+5->R (k6 bj) m)->U3 [HAND,b5 bits,fX (pD fs)] n R:=λ{n R} J h =>
   cond F fw lf (by lia) (λrs E lr=>by have:=CanP.le U P.1 (E.congr com);lia) J h
  refine zxn 7 (λj _ S=>S<=m2+dP bs+5*j) (by lia) ?_ ?_
  ·rintro j t a7' S K2 RT2 BK2 ej hm' hK2 hRT2 hBK2;have jl:j<3:=(aw.mp ej).1;have all:∀{R:qN},(∀m,m<=S+5->R (k6 bj) m)->U3 [HAND,b5 bits,t] S R:=λ{R} h=>by
    have J:S<=1000000:=by lia
    have mt:=aC ej;simp only[ax,aU,or_false]at mt;rcases mt with rfl|rfl|rfl;exact oc C0 l0 J h;exact oc C1 l1 J h;exact O0 J h
   wp_walk using all (λm4 hm4=>?_);exact hK2 _ _ (by lia)
  rintro a7' S hm';exact hNX _ _ (hK _ _ ⟨_,_,_,_,_,_,_,rfl,rfl⟩)
 ·rintro ρ m ⟨a1,a2,a3,a4,a5,a6,a7,rfl,rfl⟩;wp_walk;exact hh _
end
section
open PySem.W PyProof.Rows
theorem zxK{Ow:ub->Option ah}{mg mb:qM}{h:bh}{w:aV}{S:aq}(T0:kU qv (looseW qv []) Ow mg mb h)(N:mg (defName (top 70))=ai (aZ S)) :
  ∃fd:dO,(∀(s:au) (v:ah),t8 s fd ⟨[v],[]⟩ [("_law_script",v)])/\∀base:bh,(Qo h).In base->base.Ns mainGlobals mg->FnOk PySem.Challenge.rw_blockdeal_k57_whole_rules_of_what_is_out.prog w (Qo h) mg base CX0 11 S fd ["_law_script"] (zsd (Qo h)):=by
 have T:=zuu T0;obtain⟨f,fd,DL⟩:=dq_g (x:="law") (ps:=["_law_script"]) T0 (zrF (i:=70) (by kernel_rfl)) (by kernel_rfl) λ_ _ _ _ _ _ us hl=>by obtain⟨_,rfl⟩:=len1 hl;rfl
 have e0:aZ f=aZ S:=aG (b3 DL.m.symm N);cases e0;refine⟨fd,λs v=>?_,λbase _ _=>?_⟩;obtain⟨oc,od,kV,doc,pm,an,cdv,ct,osl,rfl,_,_⟩:=DL.F.ex;exact .of_eq rfl;let Z:ZZ:=⟨PySem.Challenge.rw_blockdeal_k57_whole_rules_of_what_is_out.prog,w,Qo h,mg,base⟩;have R:=zjR (Z:=Z) (dqG T0)  T;have NB:=zjU (Z:=Z) (dqG T0) R T;have Ol:=zlJ (Z:=Z) (dqG T0)  T;have NN:=znY (Z:=Z) (dqG T0)  T;have Ox:=zql (Z:=Z) (dqG T0) NN T;have NO:=zho (Z:=Z) (dqG T0)  T;have J:=znV (Z:=Z) (dqG T0) NO T;have C:=znX (Z:=Z) (dqG T0) Ol T;have Nu:=zdQ (Z:=Z) (dqG T0)  T;have Om:=zs2 (Z:=Z) (dqG T0) C Nu T;have Nx:=zjN (Z:=Z) (dqG T0) Om T;have NF:=zlL (Z:=Z) (dqG T0) C T;have G:=znW (Z:=Z) (dqG T0) Nx NF T;have NQ:=zhq (Z:=Z) (dqG T0)  T;have NH:=zlN (Z:=Z) (dqG T0) Nx NQ NF T;have Ny:=zjX (Z:=Z) (dqG T0) C T;have NS:=zhr (Z:=Z) (dqG T0) Ny T;have NK:=zf4 (Z:=Z) (dqG T0) NS Ox T;have NG:=zlP (Z:=Z) (dqG T0) NK T;have Nz:=zjV (Z:=Z) (dqG T0) Ny C T;have Od:=zjP (Z:=Z) (dqG T0) NG Nz J T;have Y:=ziz (Z:=Z) (dqG T0) Nz NG J T;have L:=zjQ (Z:=Z) (dqG T0) G Od Y T;have U:=zeS (Z:=Z) (dqG T0) J T;have N6:=ziy (Z:=Z) (dqG T0) U T;have NI:=zfA (Z:=Z) (dqG T0) L N6 U T;have ND:=zhp (Z:=Z) (dqG T0) L T;have NT:=zhs (Z:=Z) (dqG T0)  T;have N7:=ziw (Z:=Z) (dqG T0)  T;have Oh:=zjW (Z:=Z) (dqG T0) NH G NT N7 T;have N8:=zix (Z:=Z) (dqG T0)  T;have Oi:=znT (Z:=Z) (dqG T0) G N8 T;have N9:=ziA (Z:=Z) (dqG T0)  T;have Oe:=zjY (Z:=Z) (dqG T0)  T;have On:=zlO (Z:=Z) (dqG T0) NB R T;have Nt:=ziB (Z:=Z) (dqG T0) On T;have Os:=zlQ (Z:=Z) (dqG T0) C T;have Oo:=zlK (Z:=Z) (dqG T0) NN T;have Og:=zjO (Z:=Z) (dqG T0) G Oo Om C T;have Oq:=zlM (Z:=Z) (dqG T0) Oe T;have NV:=zhn (Z:=Z) (dqG T0) Oq Nt T;have NM:=zf3 (Z:=Z) (dqG T0) L T;have Of:=zjS (Z:=Z) (dqG T0) Y T;have NU:=zjT (Z:=Z) (dqG T0) R T;have Ov:=znU (Z:=Z) (dqG T0) NB NU T;have Nw:=zhl (Z:=Z) (dqG T0) G Of Ov T;have NW:=zhm (Z:=Z) (dqG T0) N9 T;have Ob:=zhk (Z:=Z) (dqG T0)  T;have l:=zhj (Z:=Z) (dqG T0)  T;have u:=ziD (Z:=Z) (dqG T0) l T;have Oc:=ziG (Z:=Z) (dqG T0) u T;have Nm:=zhw (Z:=Z) (dqG T0) u l T;have Oa:=ziE (Z:=Z) (dqG T0) u Nm T;have NL:=zf5 (Z:=Z) (dqG T0) l Nm Oa u T;have N0:=zhu (Z:=Z) (dqG T0) NL T;have NY:=zhv (Z:=Z) (dqG T0) l u T;have NZ:=zht (Z:=Z) (dqG T0) NH NM NI ND l NV Nt Og Nw NW Os T;exact(zvS (Z:=Z) DL Ob Oc NY Oi Oh l NZ u N0 T).imp zti
end
end Bd
open PySem PySem.W PyProof.Rows
set_option maxRecDepth 100000 in
set_option maxHeartbeats 0 in
theorem PySem.Challenge.cw_blockdeal_k57_whole_rules_of_what_is_out_holds : PySem.Challenge.rw_blockdeal_k57_whole_rules_of_what_is_out.Holds := by
 w_on
 refine holds_law Bd.zsn λl=>?_;refine holds_open (r:=PySem.Challenge.rw_blockdeal_k57_whole_rules_of_what_is_out.row) (d:=Bd.recD (Bd.top 70)) (kwd:=[]) Bd.ztg (Hook.of kW) (Hook.keeps kW) (λs e=>xl_of s (o9.mp e).1) XL.keeps (by kernel_rfl) (by kernel_rfl) (by kernel_rfl) (λs e=>recFacts_of (o9.mp e).2) (by kernel_rfl) l (by kernel_rfl) ⟨rfl,rfl,rfl,rfl,rfl,by decide +kernel⟩ ?hw ?hc
 case hw=>w_witness2
 case hc=>exact Bd.zyG (lw:=PySem.Challenge.rw_blockdeal_k57_whole_rules_of_what_is_out) (k:=11) (by decide) rfl rfl λw s₀ mg v u h G o=>Bd.zxK G.T o